import PyProof.Rows.All
import Wide.All
import OpenK.AllK
import Wide.FinOn
import HandS.ForMost
import HandS.IsInst
import HandS.Flow
import HandS.Zip
import HandS.Walk
import HandS.StrMore
import HandS.Codes
import HandS.Nested
import HandS.Lambda
import HandS.ExcInit
import HandS.ExcField
import HandS.WordsExc
import HandS.HotCalls
import HandS.MakeKwOnly
import HandS.Replace
import HandS.EndTab
import HandS.OwnEq
import HandS.Property
import HandS.NamedTupGet
import HandS.TupAny
import HandS.CallRecv
import HandS.Conv
import HandS.Star
import HandS.MethStar
import HandS.More
import HandS.SortInts
import PySem.Challenge.RW_onlyahead_k29_whole_rules_of_formulas
set_option Elab.async false
set_option linter.all false
set_option maxRecDepth 100000
set_option maxHeartbeats 4000000
namespace MyP
open PySem PySem.Spec PyProof.Rows L2
/-! ### heaps, the bag -/
/-- all that was tracked stays as it was, but for b -/
def Kp (b : Addr) (H H' : Hp) : Prop := ∀ c o, H c = some o → c ≠ b → H' c = some o
theorem Kp.refl (b : Addr) (H : Hp) : Kp b H H := fun _ _ h _ => h
theorem Kp.trans {b : Addr} {H H1 H2 : Hp} (x : Kp b H H1) (y : Kp b H1 H2) : Kp b H H2 := fun c o h n => y c o (x c o h n) n
theorem Kp.same {b : Addr} {H H1 : Hp} (x : Same H H1) : Kp b H H1 := fun c o h _ => x c o h
theorem Kp.seq {K : PySem.W.Frag} {b a : Addr} {H H' : Hp} {xs : List V} (e : Kp b H H') (n : a ≠ b) (h : SqL K H a xs) : SqL K H' a xs := by
  rcases h with (h | ⟨o, h⟩) | h
  · exact .inl (.inl (e _ _ h n))
  · exact .inl (.inr ⟨o, e _ _ h n⟩)
  · exact .inr h
theorem Kp.tup {K : PySem.W.Frag} {b a : Addr} {H H' : Hp} {xs : List V} (e : Kp b H H') (n : a ≠ b) (h : SqT K H a xs) : SqT K H' a xs := by
  rcases h with (h | ⟨o, h⟩) | h
  · exact .inl (.inl (e _ _ h n))
  · exact .inl (.inr ⟨o, e _ _ h n⟩)
  · exact .inr h
theorem same_tup {K : PySem.W.Frag} {a : Addr} {H H' : Hp} {xs : List V} (e : Same H H') (h : SqT K H a xs) : SqT K H' a xs := by
  rcases h with (h | ⟨o, h⟩) | h
  · exact .inl (.inl (e _ _ h))
  · exact .inl (.inr ⟨o, e _ _ h⟩)
  · exact .inr h
theorem same_upd {H : Hp} {p : Addr} {o : HO} (h : H p = none) : Same H (upd H p o) := fun b x e => by
  rw [upd_ne (ne_of_none e h)]
  exact e
theorem Kp.put {b : Addr} {H H1 : Hp} {o : HO} (x : Kp b H H1) : Kp b H (upd H1 b o) := fun c u h n => by
  rw [upd_ne n]
  exact x c u h n
/-- an object that is new since H may change -/
theorem Kp.mut {b p : Addr} {H H1 : Hp} {o : HO} (x : Kp b H H1) (n : H p = none) : Kp b H (upd H1 p o) := fun c u h k => by
  rw [upd_ne (ne_of_none h n)]
  exact x c u h k
theorem same_mut {p : Addr} {H H1 : Hp} {o : HO} (x : Same H H1) (n : H p = none) : Same H (upd H1 p o) := fun c u h => by
  rw [upd_ne (ne_of_none h n)]
  exact x c u h
theorem ne_none {H : Hp} {a b : Addr} {o : HO} (h : H b = none) (h' : H a = some o) : b ≠ a := (ne_of_none h' h).symm
theorem sz {n : Nat} (h : n ≤ 100000) : n ≤ sizeLine := Nat.le_trans h (by decide)
theorem szl {n : Nat} (h : n < 100000) : n < sizeLine := Nat.lt_of_lt_of_le h (by decide)
structure BagAt (b l : Addr) (H : Hp) : Prop where
  at_ : ∃ (i r m c : Int) (ns : List Int), H b = some (.lst [.ref l, .int i, .int r, .int m, .int c]) ∧ H l = some (.lst (ns.map V.int)) ∧ ns.length ≤ 63 ∧ 0 ≤ i ∧ i ≤ ns.length ∧ 0 ≤ r ∧ 0 ≤ m ∧ m < 2147483629
  ne : l ≠ b
theorem BagAt.there {b l : Addr} {H : Hp} (x : BagAt b l H) : ∃ o, H b = some o := by
  obtain ⟨⟨i, r, m, c, ns, h, _⟩, _⟩ := x
  exact ⟨_, h⟩
/-- an object new in H is not the bag -/
theorem BagAt.nb {b l p : Addr} {H : Hp} (x : BagAt b l H) (h : H p = none) : p ≠ b := by
  obtain ⟨o, e⟩ := x.there
  exact ne_none h e
theorem BagAt.nl {b l p : Addr} {H : Hp} (x : BagAt b l H) (h : H p = none) : p ≠ l := by
  obtain ⟨⟨i, r, m, c, ns, _, e, _⟩, _⟩ := x
  exact ne_none h e
theorem BagAt.same {b l : Addr} {H H' : Hp} (x : BagAt b l H) (s : Same H H') : BagAt b l H' := by
  obtain ⟨⟨i, r, m, c, ns, h1, h2, h3⟩, n⟩ := x
  exact ⟨⟨i, r, m, c, ns, s _ _ h1, s _ _ h2, h3⟩, n⟩
/-- a store into another list keeps the bag -/
theorem BagAt.mut {b l p : Addr} {H : Hp} {o : HO} (x : BagAt b l H) (n1 : p ≠ b) (n2 : p ≠ l) : BagAt b l (upd H p o) := by
  obtain ⟨⟨i, r, m, c, ns, h1, h2, h3⟩, n⟩ := x
  exact ⟨⟨i, r, m, c, ns, by rw [upd_ne n1.symm]; exact h1, by rw [upd_ne n2.symm]; exact h2, h3⟩, n⟩
/-- what is new behind a draw was new ahead of it -/
theorem Kp.free {b l p : Addr} {H H1 : Hp} (k : Kp b H H1) (B : BagAt b l H1) (h : H1 p = none) : H p = none := by
  cases e : H p with
  | none => rfl
  | some o =>
    by_cases hb : p = b
    · obtain ⟨u, e2⟩ := B.there
      rw [hb, e2] at h
      cases h
    · rw [k _ _ e hb] at h
      cases h
/-! ### steps of a reading -/
/-- a word that the steps below do not open -/
def Stp (p : Prop) : Prop := True → p
theorem Stp.of {p : Prop} (h : Stp p) : p := h True.intro
theorem Stp.mk {p : Prop} (h : p) : Stp p := fun _ => h
/-! ### what follows a statement, by a letter -/
structure SeqN (N R : L2.St → Hp → Prop) : Prop where
  of : ∀ σ H, R σ H → N σ H
theorem SeqN.go {N R : L2.St → Hp → Prop} {σ : L2.St} {H : Hp} (h : SeqN N R) (r : R σ H) : N σ H := h.of σ H r
theorem gname_use {i : Nat} {x : V} {σ : L2.St} {H : Hp} {N : L2.St → Hp → Prop} (h : N (σ.set i (some x)) H) : gName i x σ H N := h
theorem next_use {n : L2.St → Hp → Prop} {r : VK} {b c : L2.St → Hp → Prop} {σ : L2.St} {H : Hp} (h : n σ H) : tNext ⟨n, r, b, c⟩ σ H := h
theorem seq_use {s rest : TS} {n : L2.St → Hp → Prop} {r : VK} {b c : L2.St → Hp → Prop} {σ : L2.St} {H : Hp} (h : ∀ N : L2.St → Hp → Prop, SeqN N (fun σ H => rest ⟨n, r, b, c⟩ σ H) → s ⟨N, r, b, c⟩ σ H) : tSeq s rest ⟨n, r, b, c⟩ σ H := h _ ⟨fun _ _ h => h⟩
local macro_rules | `(tactic| walk_at "side") => `(tactic| first
  | rfl
  | (show (0 : Int) < _; first | decide | omega)
  | exact Or.inr (And.intro (by decide) (by decide))
  | exact And.intro (by decide) (by decide)
  | exact And.intro (by omega) (by omega)
  | exact Or.inl (And.intro (by omega) (by omega))
  | decide
  | omega
  | exact sz (by first | decide | omega | (simp; done))
  | exact szl (by first | decide | omega | (simp; done)))
local macro_rules | `(tactic| walk_at "s") => `(tactic| first
  | refine ⟨_, rfl, ?_⟩
  | refine ⟨_, _, rfl, rfl, ?_⟩
  | refine .inl ⟨_, rfl, ?_⟩
  | refine ⟨_, _, rfl, by assumption, ?_⟩
  | refine ⟨_, _, _, _, rfl, rfl, SqL.of upd_same, rfl, ?_⟩
  | refine ⟨_, _, _, _, rfl, rfl, SqL.of (by assumption), (by rfl), ?_⟩
  | refine ⟨_, _, _, _, rfl, rfl, upd_same, rfl, ?_⟩
  | refine ⟨_, _, _, _, rfl, rfl, (by assumption), (by rfl), ?_⟩
  | refine And.intro ⟨_, rfl⟩ ?_
  | refine And.intro (by walk_at "side") ?_
  | refine iteT ?_
  | refine iteF ?_)
local macro_rules | `(tactic| walk_at "ss") => `(tactic| repeat walk_at "s")
local macro_rules | `(tactic| walk_at "n") => `(tactic| first
  | with_reducible refine MyP.seq_use (fun _ _ => ?_)
  | with_reducible refine MyP.SeqN.go (by assumption) ?_
  | with_reducible refine MyP.gname_use ?_
  | with_reducible refine MyP.next_use ?_
  | walk_at "s")
local macro_rules | `(tactic| walk_at "nn") => `(tactic| repeat walk_at "n")
theorem iteP {c A B : Prop} [Decidable c] (h : c) (x : A) : if c then A else B := by
  rw [if_pos h]
  exact x
theorem iteN {c A B : Prop} [Decidable c] (h : ¬ c) (x : B) : if c then A else B := by
  rw [if_neg h]
  exact x
theorem at_inN {α : Type} {xs : List α} {i : Int} (h0 : 0 ≤ i) (h1 : i < xs.length) : ∃ v, atI xs i = some v ∧ v ∈ xs := by
  have h2 : i.toNat < xs.length := by omega
  refine ⟨xs[i.toNat], ?_, List.getElem_mem h2⟩
  have e : ((i.toNat : Nat) : Int) = i := by omega
  have e2 : atI xs ((i.toNat : Nat) : Int) = some xs[i.toNat] := atI_nat (List.getElem?_eq_getElem h2)
  rw [e] at e2
  exact e2
theorem ixN_in {n : Nat} {k : Int} (h0 : 0 ≤ k) (h1 : k < n) : ixN n k = some k.toNat := by
  unfold ixN
  rw [if_pos h0, if_pos h1]
theorem at_in {xs : List V} {i : Int} (h0 : 0 ≤ i) (h1 : i < xs.length) : ∃ v, atI xs i = some v ∧ v ∈ xs := at_inN h0 h1
theorem any2 {K : PySem.W.Frag} {t a b : String} {r1 r2 : Bool} (h1 : kitB t a = some r1) (h2 : kitB t b = some r2) : PySem.W.kitAny K (.type t) [.type a, .type b] = some (r1 || r2) := by
  refine kitAny_cons (kit_ty h1) (fun e => kitAny_cons (kit_ty h2) (fun e2 => ?_) (fun e2 => ?_)) (fun e => ?_)
  · rw [e, e2]
    rfl
  · rw [e2, Bool.or_true]
  · rw [e, Bool.true_or]
local macro_rules | `(tactic| walk_at "ty") => `(tactic| first | exact .base .non | exact .base (.bl _) | exact .base (.int _) | exact .base (.str _) | assumption)
local macro_rules | `(tactic| walk_at "si") => `(tactic| first
  | walk_at "s"
  | refine ⟨_, _, _, _, false, rfl, ClsV.ty _, (by assumption), kit_ty (by assumption), ?_⟩
  | refine ⟨_, _, _, _, true, rfl, ClsV.ty _, (by walk_at "ty"), kit_ty (by decide +kernel), ?_⟩
  | refine ⟨_, _, _, _, false, rfl, ClsV.ty _, (by walk_at "ty"), kit_ty (by decide +kernel), ?_⟩
  | refine ⟨_, _, _, _, _, true, rfl, upd_same, .cons (.ty _) (.cons (.ty _) .nil), (by walk_at "ty"), any2 (r1 := true) (r2 := false) (by decide +kernel) (by decide +kernel), ?_⟩
  | refine ⟨_, _, _, _, _, true, rfl, upd_same, .cons (.ty _) (.cons (.ty _) .nil), (by walk_at "ty"), any2 (r1 := false) (r2 := true) (by decide +kernel) (by decide +kernel), ?_⟩
  | refine ⟨_, _, _, _, _, false, rfl, upd_same, .cons (.ty _) (.cons (.ty _) .nil), (by walk_at "ty"), any2 (r1 := false) (r2 := false) (by decide +kernel) (by decide +kernel), ?_⟩
  | intro p hp)
local macro_rules | `(tactic| walk_at "ssi") => `(tactic| repeat walk_at "si")

/-! ### classes -/
theorem kb_of {K : PySem.W.Frag} {x qual : Str} {st : Stmt} {f : Addr} {fd : FuncData} {ps ks : List Str} {n : Nat} (F : Fun K x qual st f fd)
    (h : ∀ (kV doc pm : Value) (an : Option Addr) (cdv ct : Value) (us ws : List Value), us.length = n → ws.length = ks.length → bindArgs (PySem.W.fnOf x qual (defArgs st) (defBody st) (defScope st) .none kV doc pm an cdv ct) ⟨us, ks.zip ws⟩ = pure (ps.zip (us ++ ws))) :
    KBn K fd ps n ks (fun us ws => us ++ ws) (fun vs zs => vs ++ zs) := by
  obtain ⟨oc, od, kV, doc, pm, an, cdv, ct, osl, rfl, lk, hcd⟩ := F.ex
  exact ⟨fun s us ws _ h1 h2 => .of_eq (h kV doc pm an cdv ct us ws h1 h2), fun a b => a.append b⟩
theorem exm1 {K : PySem.W.Frag} {cls : Value} {S : Addr} {b : Bool} (bx : PySem.W.subIn K (.ref S) (.type "BaseException") = some true) (ic : PySem.W.isClsIn K S = true) (ty : PySem.W.typeIn K (.ref S) = some (.type "type")) (sb : PySem.W.subIn K cls (.ref S) = some b) :
    PySem.W.exmOne K cls (.ref S) = some b := by
  have t1 : (PySem.W.subIn K (.ref S) (.type "BaseException") == some true) = true := by rw [bx] <;> rfl
  have t2 : ((PySem.W.clsIn K S).isSome && PySem.W.typeIn K (.ref S) == some (.type "type")) = true := by
    rw [show (PySem.W.clsIn K S).isSome = true from ic, ty] <;> rfl
  show (if _ = true then (if ((PySem.W.clsIn K S).isSome && PySem.W.typeIn K (.ref S) == some (.type "type")) = true then PySem.W.subIn K cls (.ref S) else none) else none) = some b
  rw [if_pos t1, if_pos t2, sb]
theorem exm3 {K : PySem.W.Frag} {cls : Value} {S1 S2 S3 : Addr} {b2 b3 : Bool} (bx1 : PySem.W.subIn K (.ref S1) (.type "BaseException") = some true) (ic1 : PySem.W.isClsIn K S1 = true) (ty1 : PySem.W.typeIn K (.ref S1) = some (.type "type")) (sb1 : PySem.W.subIn K cls (.ref S1) = some true)
    (bx2 : PySem.W.subIn K (.ref S2) (.type "BaseException") = some true) (ic2 : PySem.W.isClsIn K S2 = true) (ty2 : PySem.W.typeIn K (.ref S2) = some (.type "type")) (sb2 : PySem.W.subIn K cls (.ref S2) = some b2)
    (bx3 : PySem.W.subIn K (.ref S3) (.type "BaseException") = some true) (ic3 : PySem.W.isClsIn K S3 = true) (ty3 : PySem.W.typeIn K (.ref S3) = some (.type "type")) (sb3 : PySem.W.subIn K cls (.ref S3) = some b3) :
    PySem.W.exmAny K cls [.ref S1, .ref S2, .ref S3] = some true := by
  unfold PySem.W.exmAny PySem.W.exmAny PySem.W.exmAny PySem.W.exmAny
  rw [exm1 bx1 ic1 ty1 sb1, exm1 bx2 ic2 ty2 sb2, exm1 bx3 ic3 ty3 sb3]
  rfl


/-! ### comprehensions -/
/-- the new list's items one by one: I holds of the heap all the way, R i tells the i-th item -/
theorem lc_gen {J : It} {n : Nat} {G : Hp → Prop} {Y : Nat → Hp → V → Hp → Prop} (w : Walk J n G Y) {g : TG} {te : TE} {vs : List Nat} {σ : L2.St} {H1 : Hp} {D : Addr} {Qd : Hp → Prop}
    (I : Hp → Prop) (R : Nat → V → Prop) (hn : n ≤ 100000) (h0 : I (upd H1 D (.lst []))) (hG : ∀ H, I H → G H) (hU : ∀ H o, I H → I (upd H D o))
    (hs : ∀ i x H H' (Q : VK), i < n → I H → Y i H x H' → (∃ o, H D = some o) → (∀ y H4, R i y → I H4 → (∀ o, H D = some o → H4 D = some o) → Q y H4) → g x (wipe σ vs) H' fun σ2 H2 => wipe σ2 vs = wipe σ vs ∧ te σ2 H2 Q)
    (hd : ∀ H ys, I H → H D = some (.lst ys) → ys.length = n → (∀ i y, ys[i]? = some y → R i y) → Qd H) :
    ∃ W : Nat → Nat → Hp → Prop, (∃ m, W 0 m (upd H1 D (.lst []))) ∧ ∀ i m H, W i m H →
      (J.stop i H ∧ Qd H) ∨ (J.go i H ∧ ∃ Nx : Hp → Prop, (∀ H', Nx H' → ∃ m', m' < m ∧ W (i + 1) m' H') ∧ ∀ x H', J.yld i H x H' → g x (wipe σ vs) H' fun σ2 H2 => wipe σ2 vs = wipe σ vs ∧ tYes σ2 H2 fun b H3 =>
        if b = true then te σ2 H3 fun y H4 => ∃ acc, H4 D = some (.lst acc) ∧ acc.length < sizeLine ∧ Nx (upd H4 D (.lst (acc ++ [y]))) else Nx H3) := by
  refine lc_it w (fun i H => I H ∧ ∃ ys : List V, H D = some (.lst ys) ∧ ys.length = i ∧ ∀ j y, ys[j]? = some y → R j y) ⟨h0, [], upd_same, rfl, fun j y e => by simp at e⟩ (fun i H _ h => hG H h.1) ?_ ?_
  · rintro i x H H' hi ⟨hI, ys, hy, hl, hr⟩ hY
    refine hs i x H H' _ hi hI hY ⟨_, hy⟩ fun y H4 ry hI4 hk => ⟨ys, hk _ hy, szl (by omega), hU _ _ hI4, ys ++ [y], upd_same, by simp [hl], fun j z e => ?_⟩
    by_cases hj : j < ys.length
    · rw [List.getElem?_append_left hj] at e
      exact hr j z e
    · have hj2 : j = ys.length := by
        have := (List.getElem?_eq_some_iff.mp e).1
        simp at this
        omega
      subst hj2
      simp at e
      rw [← e, hl]
      exact ry
  · rintro H ⟨hI, ys, hy, hl, hr⟩
    exact hd H ys hI hy hl hr
/-- with a test: the items of the turns that are kept, by f -/
theorem lc_fil {J : It} {n : Nat} {G : Hp → Prop} {Y : Nat → Hp → V → Hp → Prop} (w : Walk J n G Y) {g : TG} {tt : TT} {te : TE} {vs : List Nat} {σ : L2.St} {H1 : Hp} {D : Addr} {Qd : Hp → Prop}
    (I : Hp → Prop) (f : Nat → Option V) (hn : n ≤ 100000) (h0 : I (upd H1 D (.lst []))) (hG : ∀ H, I H → G H) (hU : ∀ H o, I H → I (upd H D o))
    (hs : ∀ i x H H' (Q : VK) (Qn : Hp → Prop), i < n → I H → Y i H x H' → (∃ o, H D = some o) → (∀ y H4, f i = some y → I H4 → (∀ o, H D = some o → H4 D = some o) → Q y H4) → (∀ H4, f i = none → I H4 → (∀ o, H D = some o → H4 D = some o) → Qn H4) →
      g x (wipe σ vs) H' fun σ2 H2 => wipe σ2 vs = wipe σ vs ∧ tt σ2 H2 fun b H3 => if b = true then te σ2 H3 Q else Qn H3)
    (hd : ∀ H, I H → H D = some (.lst ((List.range n).filterMap f)) → Qd H) :
    ∃ W : Nat → Nat → Hp → Prop, (∃ m, W 0 m (upd H1 D (.lst []))) ∧ ∀ i m H, W i m H →
      (J.stop i H ∧ Qd H) ∨ (J.go i H ∧ ∃ Nx : Hp → Prop, (∀ H', Nx H' → ∃ m', m' < m ∧ W (i + 1) m' H') ∧ ∀ x H', J.yld i H x H' → g x (wipe σ vs) H' fun σ2 H2 => wipe σ2 vs = wipe σ vs ∧ tt σ2 H2 fun b H3 =>
        if b = true then te σ2 H3 fun y H4 => ∃ acc, H4 D = some (.lst acc) ∧ acc.length < sizeLine ∧ Nx (upd H4 D (.lst (acc ++ [y]))) else Nx H3) := by
  refine lc_it w (fun i H => I H ∧ H D = some (.lst ((List.range i).filterMap f))) ⟨h0, upd_same⟩ (fun i H _ h => hG H h.1) ?_ ?_
  · rintro i x H H' hi ⟨hI, hy⟩ hY
    have e : (List.range (i + 1)).filterMap f = (List.range i).filterMap f ++ (match f i with | some y => [y] | none => []) := by
      rw [List.range_succ, List.filterMap_append]
      cases h : f i <;> simp [h]
    have hl : ((List.range i).filterMap f).length ≤ i := by
      have := List.length_filterMap_le f (List.range i)
      rw [List.length_range] at this
      exact this
    refine hs i x H H' _ _ hi hI hY ⟨_, hy⟩ (fun y H4 ry hI4 hk => ⟨_, hk _ hy, szl (by omega), hU _ _ hI4, ?_⟩) (fun H4 ry hI4 hk => ⟨hI4, ?_⟩)
    · rw [upd_same, e, ry]
    · rw [hk _ hy, e, ry, List.append_nil]
  · rintro H ⟨hI, hy⟩
    exact hd H hI hy
theorem ys_map {α : Type} {l : List α} {f : α → V} {ys : List V} (hl : ys.length = l.length) (hr : ∀ (i : Nat) (y : V), ys[i]? = some y → ∃ c, l[i]? = some c ∧ y = f c) : ys = l.map f := by
  apply List.ext_getElem?
  intro i
  rw [List.getElem?_map]
  cases h : ys[i]? with
  | none =>
    have h1 := List.getElem?_eq_none_iff.mp h
    rw [List.getElem?_eq_none_iff.mpr (by omega)]
    rfl
  | some y =>
    obtain ⟨c, h1, h2⟩ := hr i y h
    rw [h1, h2]
    rfl
theorem all_dec {α : Type} {l : List α} {p : α → Prop} [DecidablePred p] : (l.map fun c => decide (p c)).all id = decide (∀ c ∈ l, p c) := by
  rw [Bool.eq_iff_iff]
  simp
theorem size_tl (z : Str) : z.cps.size = z.cps.toList.length := by simp
theorem len_tl (z : Str) : z.length = z.cps.toList.length := by simp [Str.length]
theorem get_tl (z : Str) (i : Nat) : z.cps[i]? = z.cps.toList[i]? := by simp
theorem pick_map {α : Type} {P : α → Prop} {f : α → V} : ∀ {ys : List V}, (∀ (i : Nat) (y : V), ys[i]? = some y → ∃ c, P c ∧ y = f c) → ∃ cs : List α, ys = cs.map f ∧ cs.length = ys.length ∧ ∀ c ∈ cs, P c
  | [], _ => ⟨[], rfl, rfl, fun _ h => nomatch h⟩
  | y :: r, h => by
    obtain ⟨c, hc, e⟩ := h 0 y rfl
    obtain ⟨cs, h1, h2, h3⟩ := pick_map (P := P) (f := f) (ys := r) fun i z hz => h (i + 1) z hz
    refine ⟨c :: cs, by rw [e, h1]; rfl, by simp [h2], fun x hx => ?_⟩
    rcases List.mem_cons.mp hx with rfl | hx
    · exact hc
    · exact h3 x hx
theorem fil_empty {f : Nat → Option V} {n : Nat} : (!(!((List.range n).filterMap f).isEmpty)) = decide (∀ i < n, f i = none) := by
  rw [Bool.eq_iff_iff]
  simp
/-- tuples stay what they are -/
def TupKeep (H H' : Hp) : Prop := ∀ c xs, H c = some (.tup xs) → H' c = some (.tup xs)
theorem TupKeep.of {H H' : Hp} (s : Same H H') : TupKeep H H' := fun _ _ h => s _ _ h
theorem TupKeep.put {H H' : Hp} {D : Addr} {xs ys : List V} (k : TupKeep H H') (e : H' D = some (.lst xs)) : TupKeep H (upd H' D (.lst ys)) := fun c zs h => by
  have h2 := k c zs h
  have n : c ≠ D := fun z => by
    rw [z, e] at h2
    cases h2
  rw [upd_ne n]
  exact h2
/-- as lc_gen, where what is told of the items stands in the heap -/
theorem lc_genH {J : It} {n : Nat} {G : Hp → Prop} {Y : Nat → Hp → V → Hp → Prop} (w : Walk J n G Y) {g : TG} {te : TE} {vs : List Nat} {σ : L2.St} {H1 : Hp} {D : Addr} {Qd : Hp → Prop}
    (I : Hp → Prop) (R : Nat → V → Hp → Prop) (hn : n ≤ 100000) (h0 : I (upd H1 D (.lst []))) (hG : ∀ H, I H → G H) (hU : ∀ H o, I H → I (upd H D o)) (hR : ∀ i y H H', TupKeep H H' → R i y H → R i y H')
    (hs : ∀ i x H H' (Q : VK), i < n → I H → Y i H x H' → (∃ xs, H D = some (.lst xs)) → (∀ y H4, R i y H4 → I H4 → TupKeep H H4 → (∀ o, H D = some o → H4 D = some o) → Q y H4) → g x (wipe σ vs) H' fun σ2 H2 => wipe σ2 vs = wipe σ vs ∧ te σ2 H2 Q)
    (hd : ∀ H ys, I H → H D = some (.lst ys) → ys.length = n → (∀ i y, ys[i]? = some y → R i y H) → Qd H) :
    ∃ W : Nat → Nat → Hp → Prop, (∃ m, W 0 m (upd H1 D (.lst []))) ∧ ∀ i m H, W i m H →
      (J.stop i H ∧ Qd H) ∨ (J.go i H ∧ ∃ Nx : Hp → Prop, (∀ H', Nx H' → ∃ m', m' < m ∧ W (i + 1) m' H') ∧ ∀ x H', J.yld i H x H' → g x (wipe σ vs) H' fun σ2 H2 => wipe σ2 vs = wipe σ vs ∧ tYes σ2 H2 fun b H3 =>
        if b = true then te σ2 H3 fun y H4 => ∃ acc, H4 D = some (.lst acc) ∧ acc.length < sizeLine ∧ Nx (upd H4 D (.lst (acc ++ [y]))) else Nx H3) := by
  refine lc_it w (fun i H => I H ∧ ∃ ys : List V, H D = some (.lst ys) ∧ ys.length = i ∧ ∀ j y, ys[j]? = some y → R j y H) ⟨h0, [], upd_same, rfl, fun j y e => by simp at e⟩ (fun i H _ h => hG H h.1) ?_ ?_
  · rintro i x H H' hi ⟨hI, ys, hy, hl, hr⟩ hY
    refine hs i x H H' _ hi hI hY ⟨_, hy⟩ fun y H4 ry hI4 tk hk => ⟨ys, hk _ hy, szl (by omega), hU _ _ hI4, ys ++ [y], upd_same, by simp [hl], fun j z e => ?_⟩
    by_cases hj : j < ys.length
    · rw [List.getElem?_append_left hj] at e
      exact hR _ _ _ _ (tk.put (hk _ hy)) (hr j z e)
    · have hj2 : j = ys.length := by
        have := (List.getElem?_eq_some_iff.mp e).1
        simp at this
        omega
      subst hj2
      simp at e
      rw [← e, hl]
      exact hR _ _ _ _ (TupKeep.put (fun _ _ h => h) (hk _ hy)) ry
  · rintro H ⟨hI, ys, hy, hl, hr⟩
    exact hd H ys hI hy hl hr

/-! ### the text -/
def top (i : Nat) : Stmt := PySem.Challenge.pw_onlyahead_k29_whole_rules_of_formulas.main.body.getD i (.Pass ⟨0, 0, 0, 0⟩)
abbrev s_texts : Stmt := top 47
abbrev N_texts : List Str := ["_law_signs", "_law_size", "_law_found", "_law_level", "_law_k"]
theorem sc_texts : FnScope N_texts ["_law_signs", "_law_size"] (defScope s_texts) := ⟨rfl, rfl, rfl, by decide +kernel, rfl, by decide +kernel, by decide +kernel⟩
abbrev s_longer : Stmt := top 48
abbrev N_longer : List Str := ["_law_level", "_law_signs", "_law_found", "_law_text", "_law_sign"]
theorem sc_longer : FnScope N_longer ["_law_level", "_law_signs"] (defScope s_longer) := ⟨rfl, rfl, rfl, by decide +kernel, rfl, by decide +kernel, by decide +kernel⟩
abbrev s_saying : Stmt := top 49
abbrev N_saying : List Str := ["_law_bag_here", "_law_signs", "_law_many", "_law_kinds", "_law_lines", "_law_at", "_law_kind", "_law_near", "_law_prime", "_law_ref"]
theorem sc_saying : FnScope N_saying ["_law_bag_here", "_law_signs", "_law_many", "_law_kinds"] (defScope s_saying) := ⟨rfl, rfl, rfl, by decide +kernel, rfl, by decide +kernel, by decide +kernel⟩
abbrev s_some_signs : Stmt := top 50
abbrev N_some_signs : List Str := ["_law_bag_here", "_law_signs", "_law_sign"]
theorem sc_some_signs : FnScope N_some_signs ["_law_bag_here", "_law_signs"] (defScope s_some_signs) := ⟨rfl, rfl, rfl, by decide +kernel, rfl, by decide +kernel, by decide +kernel⟩
abbrev s_law : Stmt := top 51
abbrev N_law : List Str := ["_law_script", "_law_bag_here", "_law_kinds", "_law_signs", "_law_lines", "_law_many", "_law_prime", "_law_i", "_law_j", "_law_rows", "_law_made", "_law_text", "_law_told", "_law_late", "_law_seen", "_law_rest", "_law_size", "_law_one"]
theorem sc_law : FnScope N_law ["_law_script"] (defScope s_law) := ⟨rfl, rfl, rfl, by decide +kernel, rfl, by decide +kernel, by decide +kernel⟩
abbrev s_Formula_truths : Stmt := inClass (top 42) 7
abbrev N_Formula_truths : List Str := ["self", "word"]
theorem sc_Formula_truths : FnScope N_Formula_truths ["self", "word"] (defScope s_Formula_truths) := ⟨rfl, rfl, rfl, by decide +kernel, rfl, by decide +kernel, by decide +kernel⟩
abbrev s_bag : Stmt := top 44
abbrev N_bag : List Str := ["_law_script", "_law_mixed", "_law_cell"]
theorem sc_bag : FnScope N_bag ["_law_script"] (defScope s_bag) := ⟨rfl, rfl, rfl, by decide +kernel, rfl, by decide +kernel, by decide +kernel⟩
abbrev s_pull : Stmt := top 45
abbrev N_pull : List Str := ["_law_bag_here", "_law_sides", "_law_cell", "_law_digit", "_law_twice"]
theorem sc_pull : FnScope N_pull ["_law_bag_here", "_law_sides"] (defScope s_pull) := ⟨rfl, rfl, rfl, by decide +kernel, rfl, by decide +kernel, by decide +kernel⟩
abbrev s_of : Stmt := top 46
abbrev N_of : List Str := ["_law_bag_here", "_law_some"]
theorem sc_of : FnScope N_of ["_law_bag_here", "_law_some"] (defScope s_of) := ⟨rfl, rfl, rfl, by decide +kernel, rfl, by decide +kernel, by decide +kernel⟩
abbrev s_is_alphabet : Stmt := top 25
abbrev N_is_alphabet : List Str := ["value", "at", "sign"]
theorem sc_is_alphabet : FnScope N_is_alphabet ["value"] (defScope s_is_alphabet) := ⟨rfl, rfl, rfl, by decide +kernel, rfl, by decide +kernel, by decide +kernel⟩
abbrev s_is_word : Stmt := top 26
abbrev N_is_word : List Str := ["alphabet", "value", "sign"]
theorem sc_is_word : FnScope N_is_word ["alphabet", "value"] (defScope s_is_word) := ⟨rfl, rfl, rfl, by decide +kernel, rfl, by decide +kernel, by decide +kernel⟩
abbrev s_is_number : Stmt := top 9
abbrev N_is_number : List Str := ["value"]
theorem sc_is_number : FnScope N_is_number ["value"] (defScope s_is_number) := ⟨rfl, rfl, rfl, by decide +kernel, rfl, by decide +kernel, by decide +kernel⟩
abbrev s_is_below : Stmt := top 10
abbrev N_is_below : List Str := ["value", "bound"]
theorem sc_is_below : FnScope N_is_below ["value", "bound"] (defScope s_is_below) := ⟨rfl, rfl, rfl, by decide +kernel, rfl, by decide +kernel, by decide +kernel⟩
abbrev s_is_listed : Stmt := top 11
abbrev N_is_listed : List Str := ["value"]
theorem sc_is_listed : FnScope N_is_listed ["value"] (defScope s_is_listed) := ⟨rfl, rfl, rfl, by decide +kernel, rfl, by decide +kernel, by decide +kernel⟩
abbrev s_is_prime : Stmt := top 14
abbrev N_is_prime : List Str := ["value"]
theorem sc_is_prime : FnScope N_is_prime ["value"] (defScope s_is_prime) := ⟨rfl, rfl, rfl, by decide +kernel, rfl, by decide +kernel, by decide +kernel⟩
abbrev s_are_letters : Stmt := top 18
abbrev N_are_letters : List Str := ["alphabet", "value", "letter"]
theorem sc_are_letters : FnScope N_are_letters ["alphabet", "value"] (defScope s_are_letters) := ⟨rfl, rfl, rfl, by decide +kernel, rfl, by decide +kernel, by decide +kernel⟩
abbrev s_are_refs : Stmt := top 19
abbrev N_are_refs : List Str := ["value", "place", "at", "ref"]
theorem sc_are_refs : FnScope N_are_refs ["value", "place"] (defScope s_are_refs) := ⟨rfl, rfl, rfl, by decide +kernel, rfl, by decide +kernel, by decide +kernel⟩
abbrev s_can_stand : Stmt := top 17
abbrev N_can_stand : List Str := ["alphabet", "value", "place", "kind", "parts"]
theorem sc_can_stand : FnScope N_can_stand ["alphabet", "value", "place"] (defScope s_can_stand) := ⟨rfl, rfl, rfl, by decide +kernel, rfl, by decide +kernel, by decide +kernel⟩
abbrev s_check_lines : Stmt := top 16
abbrev N_check_lines : List Str := ["alphabet", "lines", "at", "line"]
theorem sc_check_lines : FnScope N_check_lines ["alphabet", "lines"] (defScope s_check_lines) := ⟨rfl, rfl, rfl, by decide +kernel, rfl, by decide +kernel, by decide +kernel⟩
abbrev s_Formula___init : Stmt := inClass (top 42) 1
abbrev N_Formula___init : List Str := ["self", "alphabet", "lines", "first"]
theorem sc_Formula___init : FnScope N_Formula___init ["self", "alphabet", "lines", "first"] (defScope s_Formula___init) := ⟨rfl, rfl, rfl, by decide +kernel, rfl, by decide +kernel, by decide +kernel⟩
abbrev s_next_truths : Stmt := top 22
abbrev N_next_truths : List Str := ["lines", "letter", "past", "counts", "truths", "fresh", "at", "line", "kind", "truth", "ref"]
theorem sc_next_truths : FnScope N_next_truths ["lines", "letter", "past", "counts"] (defScope s_next_truths) := ⟨rfl, rfl, rfl, by decide +kernel, rfl, by decide +kernel, by decide +kernel⟩
abbrev s_last_truths : Stmt := top 21
abbrev N_last_truths : List Str := ["lines", "word", "truths", "counts", "letter", "_"]
theorem sc_last_truths : FnScope N_last_truths ["lines", "word"] (defScope s_last_truths) := ⟨rfl, rfl, rfl, by decide +kernel, rfl, by decide +kernel, by decide +kernel⟩
/-! ### what the top holds -/
structure Env (K : PySem.W.Frag) (mg : Str → Option Value) where
  C_Formula : Addr
  gC_Formula : mg "Formula" = some (.ref C_Formula)
  cl_Formula : Cls K C_Formula
  n_Formula__alphabet : NoAttr K C_Formula "_alphabet"
  n_Formula__lines : NoAttr K C_Formula "_lines"
  n_Formula__first : NoAttr K C_Formula "_first"
  u_Formula_MOST : Value
  o_Formula_MOST : Con K C_Formula "MOST" (.int 4000) u_Formula_MOST
  f_texts : Addr
  fd_texts : FuncData
  F_texts : Fun K "_law_texts" "_law_texts" s_texts f_texts fd_texts
  b_texts : Binds K fd_texts ["_law_signs", "_law_size"] []
  g_texts : mg "_law_texts" = some (.ref f_texts)
  f_longer : Addr
  fd_longer : FuncData
  F_longer : Fun K "_law_longer" "_law_longer" s_longer f_longer fd_longer
  b_longer : Binds K fd_longer ["_law_level", "_law_signs"] []
  g_longer : mg "_law_longer" = some (.ref f_longer)
  f_saying : Addr
  fd_saying : FuncData
  F_saying : Fun K "_law_saying" "_law_saying" s_saying f_saying fd_saying
  b_saying : Binds K fd_saying ["_law_bag_here", "_law_signs", "_law_many", "_law_kinds"] []
  g_saying : mg "_law_saying" = some (.ref f_saying)
  f_some_signs : Addr
  fd_some_signs : FuncData
  F_some_signs : Fun K "_law_some_signs" "_law_some_signs" s_some_signs f_some_signs fd_some_signs
  b_some_signs : Binds K fd_some_signs ["_law_bag_here", "_law_signs"] []
  g_some_signs : mg "_law_some_signs" = some (.ref f_some_signs)
  f_law : Addr
  fd_law : FuncData
  F_law : Fun K "law" "law" s_law f_law fd_law
  b_law : Binds K fd_law ["_law_script"] []
  g_law : mg "law" = some (.ref f_law)
  f_Formula_truths : Addr
  fd_Formula_truths : FuncData
  F_Formula_truths : Fun K "truths" "Formula.truths" s_Formula_truths f_Formula_truths fd_Formula_truths
  b_Formula_truths : Binds K fd_Formula_truths ["self", "word"] []
  m_Formula_truths : Meth K C_Formula "truths" f_Formula_truths
  f_bag : Addr
  fd_bag : FuncData
  F_bag : Fun K "_law_bag" "_law_bag" s_bag f_bag fd_bag
  b_bag : Binds K fd_bag ["_law_script"] []
  g_bag : mg "_law_bag" = some (.ref f_bag)
  f_pull : Addr
  fd_pull : FuncData
  F_pull : Fun K "_law_pull" "_law_pull" s_pull f_pull fd_pull
  b_pull : Binds K fd_pull ["_law_bag_here", "_law_sides"] []
  g_pull : mg "_law_pull" = some (.ref f_pull)
  f_of : Addr
  fd_of : FuncData
  F_of : Fun K "_law_of" "_law_of" s_of f_of fd_of
  b_of : Binds K fd_of ["_law_bag_here", "_law_some"] []
  g_of : mg "_law_of" = some (.ref f_of)
  f_is_alphabet : Addr
  fd_is_alphabet : FuncData
  F_is_alphabet : Fun K "is_alphabet" "is_alphabet" s_is_alphabet f_is_alphabet fd_is_alphabet
  b_is_alphabet : Binds K fd_is_alphabet ["value"] []
  g_is_alphabet : mg "is_alphabet" = some (.ref f_is_alphabet)
  f_is_word : Addr
  fd_is_word : FuncData
  F_is_word : Fun K "is_word" "is_word" s_is_word f_is_word fd_is_word
  b_is_word : Binds K fd_is_word ["alphabet", "value"] []
  g_is_word : mg "is_word" = some (.ref f_is_word)
  f_is_number : Addr
  fd_is_number : FuncData
  F_is_number : Fun K "is_number" "is_number" s_is_number f_is_number fd_is_number
  b_is_number : Binds K fd_is_number ["value"] []
  g_is_number : mg "is_number" = some (.ref f_is_number)
  f_is_below : Addr
  fd_is_below : FuncData
  F_is_below : Fun K "is_below" "is_below" s_is_below f_is_below fd_is_below
  b_is_below : Binds K fd_is_below ["value", "bound"] []
  g_is_below : mg "is_below" = some (.ref f_is_below)
  f_is_listed : Addr
  fd_is_listed : FuncData
  F_is_listed : Fun K "is_listed" "is_listed" s_is_listed f_is_listed fd_is_listed
  b_is_listed : Binds K fd_is_listed ["value"] []
  g_is_listed : mg "is_listed" = some (.ref f_is_listed)
  f_is_prime : Addr
  fd_is_prime : FuncData
  F_is_prime : Fun K "is_prime" "is_prime" s_is_prime f_is_prime fd_is_prime
  b_is_prime : Binds K fd_is_prime ["value"] []
  g_is_prime : mg "is_prime" = some (.ref f_is_prime)
  f_are_letters : Addr
  fd_are_letters : FuncData
  F_are_letters : Fun K "are_letters" "are_letters" s_are_letters f_are_letters fd_are_letters
  b_are_letters : Binds K fd_are_letters ["alphabet", "value"] []
  g_are_letters : mg "are_letters" = some (.ref f_are_letters)
  f_are_refs : Addr
  fd_are_refs : FuncData
  F_are_refs : Fun K "are_refs" "are_refs" s_are_refs f_are_refs fd_are_refs
  b_are_refs : Binds K fd_are_refs ["value", "place"] []
  g_are_refs : mg "are_refs" = some (.ref f_are_refs)
  f_can_stand : Addr
  fd_can_stand : FuncData
  F_can_stand : Fun K "can_stand" "can_stand" s_can_stand f_can_stand fd_can_stand
  b_can_stand : Binds K fd_can_stand ["alphabet", "value", "place"] []
  g_can_stand : mg "can_stand" = some (.ref f_can_stand)
  f_check_lines : Addr
  fd_check_lines : FuncData
  F_check_lines : Fun K "check_lines" "check_lines" s_check_lines f_check_lines fd_check_lines
  b_check_lines : Binds K fd_check_lines ["alphabet", "lines"] []
  g_check_lines : mg "check_lines" = some (.ref f_check_lines)
  f_Formula___init : Addr
  fd_Formula___init : FuncData
  F_Formula___init : Fun K "__init__" "Formula.__init__" s_Formula___init f_Formula___init fd_Formula___init
  b_Formula___init : KBn K fd_Formula___init ["self", "alphabet", "lines", "first"] 3 ["first"] (fun us ws => us ++ ws) (fun vs zs => vs ++ zs)
  k_Formula___init : Mk K C_Formula f_Formula___init
  kx_Formula___init : List Value
  kb_Formula___init : KBn K fd_Formula___init ["self", "alphabet", "lines", "first"] 3 [] (fun us _ => us ++ kx_Formula___init) (fun vs _ => vs ++ [.bl false])
  f_next_truths : Addr
  fd_next_truths : FuncData
  F_next_truths : Fun K "next_truths" "next_truths" s_next_truths f_next_truths fd_next_truths
  b_next_truths : Binds K fd_next_truths ["lines", "letter", "past", "counts"] []
  g_next_truths : mg "next_truths" = some (.ref f_next_truths)
  f_last_truths : Addr
  fd_last_truths : FuncData
  F_last_truths : Fun K "last_truths" "last_truths" s_last_truths f_last_truths fd_last_truths
  b_last_truths : Binds K fd_last_truths ["lines", "word"] []
  g_last_truths : mg "last_truths" = some (.ref f_last_truths)
  z_min : mg "min" = none
  z_max : mg "max" = none
  z_tuple : mg "tuple" = none
  z_list : mg "list" = none
  z_len : mg "len" = none
  z_range : mg "range" = none
  z_int : mg "int" = none
  z_all : mg "all" = none
  z_any : mg "any" = none
  z_sorted : mg "sorted" = none
  z_enumerate : mg "enumerate" = none
  z_str : mg "str" = none
  z_isinstance : mg "isinstance" = none
  z_abs : mg "abs" = none
  z_bool : mg "bool" = none
  z_dict : mg "dict" = none
  z_zip : mg "zip" = none
  t_MOST_LETTERS : Tok
  c_MOST_LETTERS : mg "MOST_LETTERS" = some (.int 4 t_MOST_LETTERS)
  r_PRIMES : Addr
  gt_PRIMES : mg "PRIMES" = some (.ref r_PRIMES)
  st_PRIMES : ∀ H, SqT K H r_PRIMES (([2, 3, 5, 7, 11, 13, 17, 19, 23, 29, 31, 37, 41, 43, 47, 53, 59, 61, 67, 71, 73, 79, 83, 89, 97] : List Int).map V.int)

/-! ### the draws -/
def spBag (K : PySem.W.Frag) : Sp := fun vs H Q _ => ∃ (a : Addr) (ns : List Int), vs = [.ref a] ∧ SqL K H a (ns.map V.int) ∧ ns.length ≤ 63 ∧
  ∀ b l H', H b = none → H l = none → BagAt b l H' → Same H H' → Q (.ref b) H'
def spPull : Sp := fun vs H Q _ => ∃ (b l : Addr) (n : Int), vs = [.ref b, .int n] ∧ BagAt b l H ∧ 0 < n ∧ n < 1000000000 ∧
  ∀ k H', 0 ≤ k → k < n → BagAt b l H' → Kp b H H' → Q (.int k) H'
def spOf (K : PySem.W.Frag) : Sp := fun vs H Q _ => ∃ (b l : Addr) (x : V), vs = [.ref b, x] ∧ BagAt b l H ∧
  ((∃ p xs, x = .ref p ∧ p ≠ b ∧ (SqL K H p xs ∨ SqT K H p xs) ∧ xs ≠ [] ∧ xs.length ≤ 100000 ∧ ∀ v H', v ∈ xs → BagAt b l H' → Kp b H H' → Q v H') ∨
   (∃ z : Str, x = .str z ∧ z.length ≠ 0 ∧ z.length ≤ 100000 ∧ ∀ c H', c ∈ z.cps.toList → BagAt b l H' → Kp b H H' → Q (.str ⟨#[c]⟩) H'))
section
variable {P : Program} {w : World} {K : PySem.W.Frag} {mg : Str → Option Value} {base : Heap}
theorem modlt (a : Int) : 0 ≤ a % 2147483629 ∧ a % 2147483629 < 2147483629 := ⟨Int.emod_nonneg _ (by decide), Int.emod_lt_of_pos _ (by decide)⟩
theorem cut63 {xs : List V} (h : xs.length ≤ 63) : cutV xs none (some 63) = xs := by
  unfold cutV
  rw [show HT.sIx xs.length xs.length (some 63) = min 63 xs.length from HT.sIx_nat _ _ 63, HT.sIx_none, Nat.min_eq_right h]
  show xs.take (xs.length - 0) = xs
  exact List.take_length
theorem int_of {ns : List Int} {i : Nat} {y : V} (h : (ns.map V.int)[i]? = some y) : ∃ n, y = .int n := by
  rw [List.getElem?_map] at h
  cases e : ns[i]? with
  | none => rw [e] at h; cases h
  | some n => rw [e] at h; exact ⟨n, (Option.some.inj h).symm⟩
theorem ok_bag (T : Env K mg) : FnOk P w K mg base CX0 1 T.f_bag T.fd_bag ["_law_script"] (spBag K) := by
  refine T.F_bag.ok sc_bag (fun vs H Q E h => ?_) (fun cdv A outer s H vs Q E hr h => ⟨_, ((pss_cons (ps_set (i := 1) sc_bag.nd rfl (.inl rfl) pe_int)
      (pss_cons (ps_for PassesOwn.never rfl (pi_list (pe_slice sl_list (pv 0) po_none (po_some pe_int))) (pg_name (i := 2) sc_bag.nd rfl (.inl rfl))
      (pss_one (ps_set (i := 1) sc_bag.nd rfl (.inl rfl) (pe_op op_mod (pe_callTy call_int1 (by rfl) T.z_int (by decide +kernel) (pa_cons (pe_op op_add (pe_op op_add (pe_op op_mul (pv 1) pe_int) (pe_op op_mul (pe_op op_mod (pe_callTy call_int1 (by rfl) T.z_int (by decide +kernel) (pa_cons (pv 2) pa_nil)) pe_int) pe_int)) pe_int) pa_nil)) pe_int))))
      (pss_one (ps_ret (pe_lst (pa_cons (pe_callTy call_list_of (by rfl) T.z_list (by decide +kernel) (pa_cons (pe_slice sl_list (pv 0) po_none (po_some pe_int)) pa_nil)) (pa_cons pe_int (pa_cons pe_int (pa_cons (pv 1) (pa_cons pe_int pa_nil))))))))))), ?_⟩)
  · obtain ⟨a, ns, rfl, _⟩ := h
    rfl
  · obtain ⟨a, ns, rfl, hS, hlen, q⟩ := h
    have ec : cutV (ns.map V.int) none (some 63) = ns.map V.int := cut63 (by rw [List.length_map]; exact hlen)
    walk_at "ss"
    intro p hp
    rw [ec]
    have s1 : Same H (upd H p (.lst (ns.map V.int))) := same_upd hp
    refine ⟨_, rfl, ⟨_, SqL.of upd_same⟩, for_list (xs := ns.map V.int) (fun i σ H' => Stp (H' = upd H p (.lst (ns.map V.int)) ∧ ∃ (m : Int) (y : Option V), σ = [some (.ref a), some (.int m), y] ∧ 0 ≤ m ∧ m < 2147483629))
      (.mk ⟨rfl, 5632, none, rfl, by decide, by decide⟩) (fun i σ H' _ h => by rw [h.of.1]; exact SqL.of upd_same) ?_ ?_⟩
    · rintro i x σ H' hx hP
      obtain ⟨rfl, m, y, rfl, h0, h1⟩ := hP.of
      obtain ⟨n, rfl⟩ := int_of hx
      walk_at "ss"
      exact .mk ⟨rfl, _, _, rfl, (modlt _).1, (modlt _).2⟩
    · rintro σ H' hP
      obtain ⟨rfl, m, y, rfl, h0, h1⟩ := hP.of
      walk_at "ss"
      refine ⟨_, _, rfl, s1.seq hS, ?_⟩
      intro p2 hp2
      rw [ec]
      refine ⟨_, _, rfl, .inl (SqL.of upd_same), ?_⟩
      intro l hl
      walk_at "ss"
      intro b hb
      have s2 := s1.trans (same_upd (o := .lst (ns.map V.int)) hp2)
      have s3 := s2.trans (same_upd (o := .lst (ns.map V.int)) hl)
      have s4 := s3.trans (same_upd (o := .lst [V.ref l, V.int 0, V.int 0, V.int m, V.int 0]) hb)
      have nl : l ≠ b := (ne_none hb upd_same).symm
      exact q b l _ (s3.free hb) (s2.free hl) ⟨⟨0, 0, m, 0, ns, upd_same, by rw [upd_ne nl]; exact upd_same, hlen, by decide, by omega, by decide, h0, h1⟩, nl⟩ s4
theorem ok_pull (T : Env K mg) : FnOk P w K mg base CX0 1 T.f_pull T.fd_pull ["_law_bag_here", "_law_sides"] spPull := by
  refine T.F_pull.ok sc_pull (fun vs H Q E h => ?_) (fun cdv A outer s H vs Q E hr h => ⟨_, ((pss_cons (ps_asg (pe_op op_add (pe_ix ix_list (pv 0) pe_int (fun _ _ => rfl)) pe_int) (pg_sub (pv 0) pe_int set_list))
      (C8.pss_cut (ps_if (PW.pt (pw_and (pt_cmpR op_eq (pe_ix ix_list (pv 0) pe_int (fun _ _ => rfl)) pe_int (nomark _)) (pw_and1 (pt_cmpR op_lt (pe_ix ix_list (pv 0) pe_int (fun _ _ => rfl)) (pe_callB call_len_seq (by rfl) T.z_len (by decide +kernel) (pa_cons (pe_ix ix_list (pv 0) pe_int (fun _ _ => rfl)) pa_nil)) (nomark _)))))
      (pss_cons (ps_set (i := 2) sc_pull.nd rfl (.inl rfl) (pe_ix ix_list (pe_ix ix_list (pv 0) pe_int (fun _ _ => rfl)) (pe_ix ix_list (pv 0) pe_int (fun _ _ => rfl)) (fun _ _ => rfl)))
      (pss_cons (ps_asg (pe_op op_add (pe_ix ix_list (pv 0) pe_int (fun _ _ => rfl)) pe_int) (pg_sub (pv 0) pe_int set_list))
      (pss_one (ps_if (pt_cmpR op_ge (pe_callB call_abs (by rfl) T.z_abs (by decide +kernel) (pa_cons (pv 2) pa_nil)) (pe_op op_pow pe_int pe_int) (nomark _))
      (pss_one (ps_asg (pe_callB call_abs (by rfl) T.z_abs (by decide +kernel) (pa_cons (pv 2) pa_nil)) (pg_sub (pv 0) pe_int set_list)))
      (pss_one (ps_asg (pe_op op_mod (pe_callTy call_int1 (by rfl) T.z_int (by decide +kernel) (pa_cons (pe_op op_add (pe_op op_add (pe_op op_mul (pe_ix ix_list (pv 0) pe_int (fun _ _ => rfl)) pe_int) (pe_op op_mul (pe_op op_mod (pe_callTy call_int1 (by rfl) T.z_int (by decide +kernel) (pa_cons (pv 2) pa_nil)) pe_int) pe_int)) pe_int) pa_nil)) pe_int) (pg_sub (pv 0) pe_int set_list)))))))
      pss_nil)
      (pss_cons (ps_if (pt_cmpR op_gt (pe_ix ix_list (pv 0) pe_int (fun _ _ => rfl)) pe_int (nomark _))
      (pss_cons (ps_set (i := 3) sc_pull.nd rfl (.inl rfl) (pe_op op_mod (pe_callTy call_int1 (by rfl) T.z_int (by decide +kernel) (pa_cons (pe_ix ix_list (pv 0) pe_int (fun _ _ => rfl)) pa_nil)) (pv 1)))
      (pss_cons (ps_asg (pe_op op_fdiv (pe_ix ix_list (pv 0) pe_int (fun _ _ => rfl)) (pv 1)) (pg_sub (pv 0) pe_int set_list))
      (pss_one (ps_ret (pv 3)))))
      pss_nil)
      (pss_cons (ps_set (i := 4) sc_pull.nd rfl (.inl rfl) (pe_op op_mod (pe_callTy call_int1 (by rfl) T.z_int (by decide +kernel) (pa_cons (pe_op op_add (pe_op op_mul (pe_ix ix_list (pv 0) pe_int (fun _ _ => rfl)) (pe_ix ix_list (pv 0) pe_int (fun _ _ => rfl))) (pe_op op_mul (pe_ix ix_list (pv 0) pe_int (fun _ _ => rfl)) pe_int)) pa_nil)) pe_int))
      (pss_cons (ps_asg (pe_op op_mod (pe_callTy call_int1 (by rfl) T.z_int (by decide +kernel) (pa_cons (pe_op op_add (pe_op op_add (pe_op op_mul (pv 4) pe_int) (pe_op op_mul (pe_ix ix_list (pv 0) pe_int (fun _ _ => rfl)) pe_int)) pe_int) pa_nil)) pe_int) (pg_sub (pv 0) pe_int set_list))
      (pss_one (ps_ret (pe_op op_mod (pe_callTy call_int1 (by rfl) T.z_int (by decide +kernel) (pa_cons (pe_op op_fdiv (pe_ix ix_list (pv 0) pe_int (fun _ _ => rfl)) pe_int) pa_nil)) (pv 1)))))))))), ?_⟩)
  · obtain ⟨b, l, n, rfl, _⟩ := h
    rfl
  · obtain ⟨b, l, n, rfl, ⟨⟨i, r, m, c, ns, hb, hl, h63, i0, i1, r0, m0, m1⟩, nlb⟩, n0, n1, q⟩ := h
    walk_at "ss"
    refine ⟨fun σ' H' => Stp (∃ (i r m c : Int) (y2 : Option V), σ' = [some (.ref b), some (.int n), y2, none, none] ∧ H' b = some (.lst [.ref l, .int i, .int r, .int m, .int c]) ∧ H' l = some (.lst (ns.map V.int)) ∧
      0 ≤ i ∧ i ≤ ns.length ∧ 0 ≤ r ∧ 0 ≤ m ∧ m < 2147483629 ∧ Kp b H H'), ?_, fun σ' H' hM => ?_⟩
    · walk_at "ss"
      have hl1 : ∀ o, (upd H b o) l = some (.lst (ns.map V.int)) := fun o => by rw [upd_ne nlb]; exact hl
      have hl2 : ∀ o u, (upd (upd H b o) b u) l = some (.lst (ns.map V.int)) := fun o u => by rw [upd_ne nlb, upd_ne nlb]; exact hl
      have hl3 : ∀ o u v, (upd (upd (upd H b o) b u) b v) l = some (.lst (ns.map V.int)) := fun o u v => by rw [upd_ne nlb, upd_ne nlb, upd_ne nlb]; exact hl
      have k1 : ∀ o, Kp b H (upd H b o) := fun o => (Kp.refl b H).put
      refine ite2 (fun e => ?_) (fun e => ?_)
      · walk_at "ss"
        refine ⟨_, _, rfl, .inl (SqL.of (hl1 _)), ?_⟩
        walk_at "ss"
        refine ite2 (fun e2 => ?_) (fun e2 => ?_)
        · have e2 : i < (ns.map V.int).length := of_decide_eq_true e2
          obtain ⟨v, hv, hm⟩ := at_in i0 e2
          obtain ⟨z, -, rfl⟩ := List.mem_map.mp hm
          rw [List.length_map] at e2
          walk_at "ss"
          refine ⟨_, _, _, _, rfl, rfl, SqL.of (hl1 _), hv, ?_⟩
          walk_at "ss"
          refine ite2 (fun e3 => ?_) (fun e3 => ?_)
          · walk_at "ss"
            exact .mk ⟨i + 1, _, m, _, _, rfl, upd_same, hl3 _ _ _, by omega, by omega, by split <;> omega, m0, m1, (k1 _).put.put⟩
          · walk_at "ss"
            exact .mk ⟨i + 1, r, _, _, _, rfl, upd_same, hl3 _ _ _, by omega, by omega, r0, (modlt _).1, (modlt _).2, (k1 _).put.put⟩
        · exact .mk ⟨i, r, m, _, _, rfl, upd_same, hl1 _, i0, i1, r0, m0, m1, k1 _⟩
      · refine iteF ?_
        exact .mk ⟨i, r, m, _, _, rfl, upd_same, hl1 _, i0, i1, r0, m0, m1, k1 _⟩
    · obtain ⟨i, r, m, c, y2, rfl, hb, hl, i0, i1, r0, m0, m1, kp⟩ := hM.of
      walk_at "ss"
      refine ite2 (fun e => ?_) (fun e => ?_)
      · walk_at "ss"
        refine q _ _ (Int.emod_nonneg _ (by omega)) (Int.emod_lt_of_pos _ n0) ⟨⟨i, _, m, c, ns, upd_same, ?_, h63, i0, i1, ?_, m0, m1⟩, nlb⟩ kp.put
        · rw [upd_ne nlb]
          exact hl
        · exact Int.ediv_nonneg r0 (by omega)
      · walk_at "ss"
        refine q _ _ (Int.emod_nonneg _ (by omega)) (Int.emod_lt_of_pos _ n0) ⟨⟨i, r, _, c, ns, upd_same, ?_, h63, i0, i1, r0, (modlt _).1, (modlt _).2⟩, nlb⟩ kp.put
        rw [upd_ne nlb]
        exact hl
theorem ok_of (T : Env K mg) : FnOk P w K mg base CX0 2 T.f_of T.fd_of ["_law_bag_here", "_law_some"] (spOf K) := by
  refine T.F_of.ok sc_of (fun vs H Q E h => ?_) (fun cdv A outer s H vs Q E hr h => ⟨_, ((pss_one (ps_ret (pe_ix ix_seq (pv 1) (pe_call (ok_pull T) (hr.mono (by decide)) (by rfl) T.g_pull T.F_pull.kp T.b_pull .nil pass0 (pa_cons (pv 0) (pa_cons (pe_callB call_len (by rfl) T.z_len (by decide +kernel) (pa_cons (pv 1) pa_nil)) pa_nil))) (fun _ _ => rfl))))), ?_⟩)
  · obtain ⟨b, l, x, rfl, _⟩ := h
    rfl
  · obtain ⟨b, l, x, rfl, B, h⟩ := h
    rcases h with ⟨p, xs, rfl, np, hS, hne, hl, q⟩ | ⟨z, rfl, hne, hl, q⟩
    · have hx : 0 < xs.length := List.length_pos_iff.mpr hne
      walk_at "ss"
      refine ⟨_, xs.length, rfl, ?_, b, l, _, rfl, B, by omega, by omega, fun k H1 k0 k1 B1 kp1 => ?_⟩
      · rcases hS with hS | hS
        · exact .inl ⟨xs, hS, rfl⟩
        · exact .inr ⟨xs, hS, rfl⟩
      obtain ⟨v, hv, hm⟩ := at_in k0 k1
      rcases hS with hS | hS
      · exact .inl ⟨p, xs, k, v, rfl, rfl, kp1.seq np hS, hv, q v H1 hm B1 kp1⟩
      · exact .inr (.inl ⟨p, xs, k, v, rfl, rfl, kp1.tup np hS, hv, q v H1 hm B1 kp1⟩)
    · walk_at "ss"
      refine ⟨_, z.length, rfl, ⟨sz hl, rfl⟩, b, l, _, rfl, B, by omega, by omega, fun k H1 k0 k1 B1 kp1 => ?_⟩
      have e : z.cps.toList.length = z.length := by simp [Str.length]
      obtain ⟨c, hc, hm⟩ := at_inN (xs := z.cps.toList) k0 (by rw [e]; exact k1)
      exact .inr (.inr ⟨z, k, c, rfl, rfl, sz hl, hc, q c H1 hm B1 kp1⟩)
end

/-! ### alphabets and words -/
def Alpha (l : List Nat) : Prop := 1 ≤ l.length ∧ l.length ≤ 4 ∧ (∀ c ∈ l, 97 ≤ c ∧ c ≤ 122) ∧ l.Pairwise (· < ·)
instance (l : List Nat) : Decidable (Alpha l) := by
  unfold Alpha
  exact inferInstance
theorem lt1 (a b : Nat) : (([a] : List Nat) < [b]) ↔ a < b := by
  simp [List.cons_lt_cons_iff]
theorem asc_pair (l : List Nat) (h : l.length ≤ 4) : ((List.range (l.length - 1)).map fun i => decide (l.getD i 0 < l.getD (i + 1) 0)).all id = decide (l.Pairwise (· < ·)) := by
  rw [all_dec, Bool.eq_iff_iff]
  simp only [decide_eq_true_eq]
  match l, h with
  | [], _ => simp
  | [a], _ => simp
  | [a, b], _ => simp [List.range_succ]
  | [a, b, c], _ => simp [List.range_succ]; try omega
  | [a, b, c, d], _ => simp [List.range_succ]; try omega
  | _ :: _ :: _ :: _ :: _ :: _, h => simp at h; try omega
theorem asc_none (l : List Nat) (h : l.length ≤ 4) : (∀ i < l.length - 1, ¬ l.getD (i + 1) 0 ≤ l.getD i 0) ↔ l.Pairwise (· < ·) := by
  have e := asc_pair l h
  rw [all_dec, Bool.eq_iff_iff] at e
  simp only [decide_eq_true_eq, List.mem_range] at e
  rw [← e]
  constructor
  · intro h i hi
    have := h i hi
    omega
  · intro h i hi
    have := h i hi
    omega
def NoStr (K : PySem.W.Frag) (H : Hp) (v : V) : Prop := ∃ t, TyX K H v (.type t) ∧ kitB t "str" = some false
theorem tyx_same {K : PySem.W.Frag} {H H' : Hp} (s : Same H H') {v : V} {t : Value} (h : TyX K H v t) : TyX K H' v t := by
  cases h with
  | base b =>
    cases b with
    | non => exact .base .non
    | bl x => exact .base (.bl x)
    | int i => exact .base (.int i)
    | str x => exact .base (.str x)
    | flt x => exact .base (.flt x)
    | lst e => exact .base (.lst (s _ _ e))
    | frz e => exact .base (.frz (s _ _ e))
    | tup e => exact .base (.tup (s _ _ e))
    | dK e => exact .base (.dK (s _ _ e))
    | dT e => exact .base (.dT (s _ _ e))
    | ins e cl ha hn htk hm => exact .base (.ins (s _ _ e) cl ha hn htk hm)
  | byt b => exact .byt b
  | set e => exact .set (s _ _ e)
  | kList e c => exact .kList e c
  | kTuple e c => exact .kTuple e c
  | kDict e c => exact .kDict e c
  | fTuple e => exact .fTuple (s _ _ e)
  | fDict e => exact .fDict (s _ _ e)
theorem NoStr.same {K : PySem.W.Frag} {H H' : Hp} {v : V} (h : NoStr K H v) (s : Same H H') : NoStr K H' v := by
  obtain ⟨t, h1, h2⟩ := h
  exact ⟨t, tyx_same s h1, h2⟩
theorem nostr_lst {K : PySem.W.Frag} {H : Hp} {p : Addr} {xs : List V} (h : H p = some (.lst xs)) : NoStr K H (.ref p) := ⟨"list", .base (.lst h), by decide +kernel⟩
theorem nostr_tup {K : PySem.W.Frag} {H : Hp} {p : Addr} {xs : List V} (h : H p = some (.tup xs)) : NoStr K H (.ref p) := ⟨"tuple", .base (.tup h), by decide +kernel⟩
theorem nostr_non {K : PySem.W.Frag} {H : Hp} : NoStr K H .non := ⟨"NoneType", .base .non, by decide +kernel⟩
theorem nostr_bl {K : PySem.W.Frag} {H : Hp} {x : Bool} : NoStr K H (.bl x) := ⟨"bool", .base (.bl x), by decide +kernel⟩
theorem nostr_int {K : PySem.W.Frag} {H : Hp} {x : Int} : NoStr K H (.int x) := ⟨"int", .base (.int x), by decide +kernel⟩
def spIsAlpha (K : PySem.W.Frag) : Sp := fun vs H Q _ => ∃ v, vs = [v] ∧ ((∃ z : Str, v = .str z ∧ z.length ≤ 100000 ∧ ∀ H', Same H H' → Q (.bl (decide (Alpha z.cps.toList))) H') ∨ (NoStr K H v ∧ ∀ H', Same H H' → Q (.bl false) H'))
def spIsWord (K : PySem.W.Frag) : Sp := fun vs H Q _ => ∃ (a : Str) (v : V), vs = [.str a, v] ∧ ((∃ z : Str, v = .str z ∧ z.length ≤ 100000 ∧ ∀ H', Same H H' → Q (.bl (decide (∀ c ∈ z.cps.toList, c ∈ a.cps.toList))) H') ∨ (NoStr K H v ∧ ∀ H', Same H H' → Q (.bl false) H'))
section
variable {P : Program} {w : World} {K : PySem.W.Frag} {mg : Str → Option Value} {base : Heap}
theorem ok_is_alphabet (T : Env K mg) : FnOk P w K mg base CX0 1 T.f_is_alphabet T.fd_is_alphabet ["value"] (spIsAlpha K) := by
  refine T.F_is_alphabet.ok sc_is_alphabet (fun vs H Q E h => ?_) (fun cdv A outer s H vs Q E hr h => ⟨_, ((pss_cons (ps_if (PW.pt (pw_or (pt_not (pt_val (pe_callB call_isi (by rfl) T.z_isinstance (by decide +kernel) (pa_cons (pv 0) (pa_cons (pe_bltn (v := .ty "str") (by rfl) T.z_str (by decide +kernel) rfl) pa_nil))))) (pw_or1 (pt_not (pt_chain op_le op_le pe_int (pe_callB call_len_str (by rfl) T.z_len (by decide +kernel) (pa_cons (pv 0) pa_nil)) (pe_glob (v := .int 4) (by rfl) T.c_MOST_LETTERS ⟨_, rfl⟩))))))
      (pss_one (ps_ret pe_bl))
      pss_nil)
      (pss_cons (ps_if (pt_not (pt_val (pe_callB (cr_all rfl) (by rfl) T.z_all (by decide +kernel) (pa_cons (pe_lc (own := [("sign", 2)]) (g := (gName 2)) (tt := tYes) rfl sc_is_alphabet.nd (pi_str (pv 0)) (blkOk_by (own := [("sign", 2)]) (N := N_is_alphabet) (sc := defScope s_is_alphabet) (by decide +kernel)) (fun _ _ _ _ _ => (pg_name (i := 2) sc_is_alphabet.nd rfl (.inl rfl))) (fun _ _ _ _ _ => pts_nil) (fun _ _ _ _ _ => (pe_chain op_le_str op_le_str pe_str (pv 2) pe_str))) pa_nil))))
      (pss_one (ps_ret pe_bl))
      pss_nil)
      (pss_one (ps_ret (pe_callB (cr_all rfl) (by rfl) T.z_all (by decide +kernel) (pa_cons (pe_lc (own := [("at", 1)]) (g := (gName 1)) (tt := tYes) rfl sc_is_alphabet.nd (pi_range2 (by rfl) T.z_range (pa_cons pe_int (pa_cons (pe_callB call_len_str (by rfl) T.z_len (by decide +kernel) (pa_cons (pv 0) pa_nil)) pa_nil))) (blkOk_by (own := [("at", 1)]) (N := N_is_alphabet) (sc := defScope s_is_alphabet) (by decide +kernel)) (fun _ _ _ _ _ => (pg_name (i := 1) sc_is_alphabet.nd rfl (.inl rfl))) (fun _ _ _ _ _ => pts_nil) (fun _ _ _ _ _ => (pe_cmpR op_lt_str (pe_ix ix_str (pv 0) (pe_op op_sub (pv 1) pe_int) (fun _ _ => rfl)) (pe_ix ix_str (pv 0) (pv 1) (fun _ _ => rfl)) (nomark _)))) pa_nil))))))), ?_⟩)
  · obtain ⟨v, rfl, _⟩ := h
    rfl
  · obtain ⟨v, rfl, ⟨z, rfl, hz, q⟩ | ⟨⟨t, ht, hk⟩, q⟩⟩ := h
    · have L := len_tl z
      have hF : ∀ H', Same H H' → ¬ Alpha z.cps.toList → Q (.bl false) H' := fun H' sm hn => by
        have := q H' sm
        rw [decide_eq_false hn] at this
        exact this
      walk_at "ssi"
      refine ite2 (fun e1 => ?_) (fun e1 => ?_)
      · have e1 : (1 : Int) ≤ z.length := of_decide_eq_true e1
        walk_at "ss"
        refine ite2 (fun e2 => ?_) (fun e2 => ?_)
        · refine hF _ (Same.refl H) fun hA => ?_
          have e3 : ¬ ((z.length : Int) ≤ 4) := by simpa using e2
          have := hA.2.1
          omega
        · have e3 : (z.length : Int) ≤ 4 := by simpa using e2
          walk_at "ss"
          intro D hD
          refine lc_gen walk_str (fun H' => Same H H') (fun i y => ∃ c, z.cps.toList[i]? = some c ∧ y = V.bl (decide (97 ≤ c ∧ c ≤ 122))) (by rw [size_tl, ← len_tl]; exact hz) (same_upd hD) (fun _ _ => trivial) (fun _ _ h => same_mut h hD) ?_ ?_
          · rintro i x H1 H2 Q1 hlt hI ⟨rfl, c, hc, rfl⟩ - hQ
            rw [get_tl] at hc
            walk_at "ss"
            refine ite2 (fun e5 => ?_) (fun e5 => ?_)
            · have e6 : (!decide (([c] : List Nat) < [97])) = true := e5
              have e7 : 97 ≤ c := by simpa [lt1] using e6
              walk_at "ss"
              refine hQ _ _ ⟨c, hc, congrArg V.bl ?_⟩ hI fun _ h => h
              show (!decide (([122] : List Nat) < [c])) = decide (97 ≤ c ∧ c ≤ 122)
              rw [Bool.eq_iff_iff]
              simp [lt1, e7]
            · have e6 : ¬ (!decide (([c] : List Nat) < [97])) = true := e5
              have e7 : ¬ 97 ≤ c := by simpa [lt1] using e6
              refine hQ _ _ ⟨c, hc, congrArg V.bl ?_⟩ hI fun _ h => h
              simp [e7]
          · intro H1 ys hI hy hl hr
            have e : ys = (z.cps.toList.map fun c => decide (97 ≤ c ∧ c ≤ 122)).map V.bl := by
              rw [List.map_map]
              exact ys_map (by rw [hl, size_tl]) hr
            subst e
            walk_at "ss"
            refine ⟨D, _, rfl, SqL.of hy, ?_⟩
            rw [all_dec]
            walk_at "ss"
            refine ite2 (fun e4 => ?_) (fun e4 => ?_)
            · refine hF _ hI fun hA => ?_
              have e5 := hA.2.2.1
              rw [decide_eq_true e5] at e4
              cases e4
            · have e5 : ∀ c ∈ z.cps.toList, 97 ≤ c ∧ c ≤ 122 := by simpa using e4
              walk_at "ss"
              refine ⟨_, _, rfl, ⟨by decide, by decide, by omega, by omega⟩, ?_⟩
              intro D2 hD2
              refine lc_gen walk_range (fun H' => Same H1 H') (fun i y => ∃ a b, z.cps.toList[i]? = some a ∧ z.cps.toList[i + 1]? = some b ∧ y = V.bl (decide (a < b))) (by omega) (same_upd hD2) (fun _ _ => trivial) (fun _ _ h => same_mut h hD2) ?_ ?_
              · rintro i x H2 H3 Q1 hlt hI2 ⟨rfl, rfl⟩ - hQ
                have h1 : i + 1 < z.cps.toList.length := by omega
                have h0 : i < z.cps.toList.length := by omega
                have g0 := List.getElem?_eq_getElem h0
                have g1 := List.getElem?_eq_getElem h1
                walk_at "ss"
                refine ⟨z, _, _, rfl, rfl, sz hz, (show atI z.cps.toList (1 + (i : Int) - 1) = some z.cps.toList[i] by rw [show 1 + (i : Int) - 1 = ((i : Nat) : Int) by omega]; exact atI_nat g0), ?_⟩
                walk_at "ss"
                refine ⟨z, _, _, rfl, rfl, sz hz, (show atI z.cps.toList (1 + (i : Int)) = some z.cps.toList[i + 1] by rw [show 1 + (i : Int) = ((i + 1 : Nat) : Int) by omega]; exact atI_nat g1), ?_⟩
                walk_at "ss"
                refine hQ _ _ ⟨_, _, g0, g1, congrArg V.bl ?_⟩ hI2 fun _ h => h
                show decide (([z.cps.toList[i]] : List Nat) < [z.cps.toList[i + 1]]) = _
                rw [Bool.eq_iff_iff]
                simp [lt1]
              · intro H2 ys2 hI2 hy2 hl2 hr2
                have e : ys2 = ((List.range (z.cps.toList.length - 1)).map fun i => decide (z.cps.toList.getD i 0 < z.cps.toList.getD (i + 1) 0)).map V.bl := by
                  rw [List.map_map]
                  refine ys_map (by rw [hl2, List.length_range]; omega) fun i y h => ?_
                  obtain ⟨a, b, h1, h2, h3⟩ := hr2 i y h
                  have hi := (List.getElem?_eq_some_iff.mp h).1
                  refine ⟨i, List.getElem?_range (by omega), ?_⟩
                  rw [h3]
                  simp only [Function.comp, List.getD_eq_getElem?_getD, h1, h2, Option.getD_some]
                subst e
                walk_at "ss"
                refine ⟨D2, _, rfl, SqL.of hy2, ?_⟩
                rw [asc_pair z.cps.toList (by omega)]
                have := q H2 (hI.trans hI2)
                rw [show decide (Alpha z.cps.toList) = decide (z.cps.toList.Pairwise (· < ·)) from ?_] at this
                · exact this
                · rw [Bool.eq_iff_iff]
                  simp only [decide_eq_true_eq]
                  exact ⟨fun h => h.2.2.2, fun h => ⟨by omega, by omega, e5, h⟩⟩
      · walk_at "ss"
        refine hF _ (Same.refl H) fun hA => ?_
        have e3 : ¬ ((1 : Int) ≤ z.length) := by simpa using e1
        have := hA.1
        omega
    · walk_at "ssi"
      exact q _ (Same.refl H)
theorem ok_is_word (T : Env K mg) : FnOk P w K mg base CX0 1 T.f_is_word T.fd_is_word ["alphabet", "value"] (spIsWord K) := by
  refine T.F_is_word.ok sc_is_word (fun vs H Q E h => ?_) (fun cdv A outer s H vs Q E hr h => ⟨_, ((pss_one (ps_ret (pe_and (pe_callB call_isi (by rfl) T.z_isinstance (by decide +kernel) (pa_cons (pv 1) (pa_cons (pe_bltn (v := .ty "str") (by rfl) T.z_str (by decide +kernel) rfl) pa_nil))) (pe_one (pe_callB (cr_all rfl) (by rfl) T.z_all (by decide +kernel) (pa_cons (pe_lc (own := [("sign", 2)]) (g := (gName 2)) (tt := tYes) rfl sc_is_word.nd (pi_str (pv 1)) (blkOk_by (own := [("sign", 2)]) (N := N_is_word) (sc := defScope s_is_word) (by decide +kernel)) (fun _ _ _ _ _ => (pg_name (i := 2) sc_is_word.nd rfl (.inl rfl))) (fun _ _ _ _ _ => pts_nil) (fun _ _ _ _ _ => (pe_cmpR op_in_sign (pv 2) (pv 0) (by rfl)))) pa_nil))))))), ?_⟩)
  · obtain ⟨a, v, rfl, _⟩ := h
    rfl
  · obtain ⟨a, v, rfl, ⟨z, rfl, hz, q⟩ | ⟨⟨t, ht, hk⟩, q⟩⟩ := h
    · walk_at "ss"
      refine ⟨_, _, _, _, true, rfl, ClsV.ty _, .base (.str _), kit_ty (by decide +kernel), ?_⟩
      walk_at "ss"
      intro D hD
      refine lc_gen walk_str (fun H' => Same H H') (fun i y => ∃ c, z.cps.toList[i]? = some c ∧ y = V.bl (decide (c ∈ a.cps.toList))) (by rw [size_tl, ← len_tl]; exact hz) (same_upd hD) (fun _ _ => trivial) (fun _ _ h => same_mut h hD) ?_ ?_
      · rintro i x H1 H2 Q1 hlt hI ⟨rfl, c, hc, rfl⟩ - hQ
        walk_at "ss"
        rw [get_tl] at hc
        exact hQ _ _ ⟨c, hc, rfl⟩ hI fun _ h => h
      · intro H1 ys hI hy hl hr
        have e : ys = (z.cps.toList.map fun c => decide (c ∈ a.cps.toList)).map V.bl := by
          rw [List.map_map]
          exact ys_map (by rw [hl, size_tl]) hr
        subst e
        walk_at "ss"
        refine ⟨D, _, rfl, SqL.of hy, ?_⟩
        rw [all_dec]
        exact q _ hI
    · walk_at "ssi"
      exact q _ (Same.refl H)
end

theorem tyx_list {K : PySem.W.Frag} {H : Hp} {a : Addr} {xs : List V} (h : SqL K H a xs) : TyX K H (.ref a) (.type "list") := by
  rcases h with (h | ⟨o, h⟩) | ⟨o, its, n, h1, h2, _⟩
  · exact .base (.lst h)
  · exact .base (.frz h)
  · exact .kList h1 h2
theorem tyx_tup {K : PySem.W.Frag} {H : Hp} {a : Addr} {xs : List V} (h : SqT K H a xs) : TyX K H (.ref a) (.type "tuple") := by
  rcases h with (h | ⟨o, h⟩) | ⟨o, its, n, h1, h2, _⟩
  · exact .base (.tup h)
  · exact .fTuple h
  · exact .kTuple h1 h2

/-! ### kinds of values -/
def NoInt (K : PySem.W.Frag) (H : Hp) (v : V) : Prop := ∃ t, TyX K H v (.type t) ∧ kitB t "int" = some false
def spNum (K : PySem.W.Frag) : Sp := fun vs H Q _ => ∃ (v : V), vs = [v] ∧
  ((∃ i, v = .int i ∧ Q (.bl (decide (0 ≤ i))) H) ∨ (∃ b, v = .bl b ∧ Q (.bl false) H) ∨ (NoInt K H v ∧ Q (.bl false) H))
def spBelow (K : PySem.W.Frag) : Sp := fun vs H Q _ => ∃ (v : V) (n : Int), vs = [v, .int n] ∧
  ((∃ i, v = .int i ∧ Q (.bl (decide (0 ≤ i ∧ i < n))) H) ∨ (∃ b, v = .bl b ∧ Q (.bl false) H) ∨ (NoInt K H v ∧ Q (.bl false) H))
section
variable {P : Program} {w : World} {K : PySem.W.Frag} {mg : Str → Option Value} {base : Heap}
theorem ok_is_number (T : Env K mg) : FnOk P w K mg base CX0 1 T.f_is_number T.fd_is_number ["value"] (spNum K) := by
  refine T.F_is_number.ok sc_is_number (fun vs H Q E h => ?_) (fun cdv A outer s H vs Q E hr h => ⟨_, ((pss_one (ps_ret (pe_and (pe_callB call_isi (by rfl) T.z_isinstance (by decide +kernel) (pa_cons (pv 0) (pa_cons (pe_bltn (v := .ty "int") (by rfl) T.z_int (by decide +kernel) rfl) pa_nil))) (pe_and (pe_not (pe_callB call_isi (by rfl) T.z_isinstance (by decide +kernel) (pa_cons (pv 0) (pa_cons (pe_bltn (v := .ty "bool") (by rfl) T.z_bool (by decide +kernel) rfl) pa_nil)))) (pe_one (pe_cmpR op_ge (pv 0) pe_int (nomark _)))))))), ?_⟩)
  · obtain ⟨v, rfl, _⟩ := h
    rfl
  · obtain ⟨v, rfl, ⟨i, rfl, q⟩ | ⟨b, rfl, q⟩ | ⟨⟨t, ht, hk⟩, q⟩⟩ := h
    · walk_at "ssi"
      exact q
    · walk_at "ssi"
      exact q
    · walk_at "ssi"
      exact q
theorem ok_is_below (T : Env K mg) : FnOk P w K mg base CX0 2 T.f_is_below T.fd_is_below ["value", "bound"] (spBelow K) := by
  refine T.F_is_below.ok sc_is_below (fun vs H Q E h => ?_) (fun cdv A outer s H vs Q E hr h => ⟨_, ((pss_one (ps_ret (pe_and (pe_call (ok_is_number T) (hr.mono (by decide)) (by rfl) T.g_is_number T.F_is_number.kp T.b_is_number .nil pass0 (pa_cons (pv 0) pa_nil)) (pe_one (pe_cmpR op_lt (pv 0) (pv 1) (nomark _))))))), ?_⟩)
  · obtain ⟨v, n, rfl, _⟩ := h
    rfl
  · obtain ⟨v, n, rfl, ⟨i, rfl, q⟩ | ⟨b, rfl, q⟩ | ⟨hn, q⟩⟩ := h
    · walk_at "ss"
      refine ite2 (fun e1 => ?_) (fun e1 => ?_)
      · have e2 : 0 ≤ i := of_decide_eq_true e1
        walk_at "ss"
        rw [show decide (0 ≤ i ∧ i < n) = decide (i < n) from decide_eq_decide.mpr ⟨fun h => h.2, fun h => ⟨e2, h⟩⟩] at q
        exact q
      · have e2 : ¬ 0 ≤ i := fun h => e1 (decide_eq_true h)
        rw [decide_eq_false fun h => e2 h.1] at q
        exact q
    · walk_at "ss"
      refine .inr (.inl ⟨b, rfl, ?_⟩)
      walk_at "ss"
      exact q
    · walk_at "ss"
      refine .inr (.inr ⟨hn, ?_⟩)
      walk_at "ss"
      exact q
def spListed (K : PySem.W.Frag) : Sp := fun vs H Q _ => ∃ (v : V), vs = [v] ∧ ((∃ p xs, v = .ref p ∧ (SqL K H p xs ∨ SqT K H p xs) ∧ ∀ H', Same H H' → Q (.bl true) H') ∨ (∃ t, TyX K H v (.type t) ∧ kitB t "list" = some false ∧ kitB t "tuple" = some false ∧ ∀ H', Same H H' → Q (.bl false) H'))
theorem ok_is_listed (T : Env K mg) : FnOk P w K mg base CX0 1 T.f_is_listed T.fd_is_listed ["value"] (spListed K) := by
  refine T.F_is_listed.ok sc_is_listed (fun vs H Q E h => ?_) (fun cdv A outer s H vs Q E hr h => ⟨_, ((pss_one (ps_ret (pe_callB call_isiT (by rfl) T.z_isinstance (by decide +kernel) (pa_cons (pv 0) (pa_cons (pe_tup (pa_cons (pe_bltn (v := .ty "list") (by rfl) T.z_list (by decide +kernel) rfl) (pa_cons (pe_bltn (v := .ty "tuple") (by rfl) T.z_tuple (by decide +kernel) rfl) pa_nil))) pa_nil)))))), ?_⟩)
  · obtain ⟨v, rfl, _⟩ := h
    rfl
  · obtain ⟨v, rfl, ⟨p, xs, rfl, h | h, q⟩ | ⟨t, ht, k1, k2, q⟩⟩ := h
    · have ty := tyx_list h
      walk_at "ss"
      intro D hD
      have ty2 := tyx_same (same_upd (o := .tup [.ty "list", .ty "tuple"]) hD) ty
      walk_at "ssi"
      exact q _ (same_upd hD)
    · have ty := tyx_tup h
      walk_at "ss"
      intro D hD
      have ty2 := tyx_same (same_upd (o := .tup [.ty "list", .ty "tuple"]) hD) ty
      walk_at "ssi"
      exact q _ (same_upd hD)
    · walk_at "ss"
      intro D hD
      have ty2 := tyx_same (same_upd (o := .tup [.ty "list", .ty "tuple"]) hD) ht
      refine ⟨_, _, _, _, _, false, rfl, upd_same, .cons (.ty _) (.cons (.ty _) .nil), ty2, any2 (r1 := false) (r2 := false) k1 k2, ?_⟩
      walk_at "ssi"
      exact q _ (same_upd hD)
end

/-! ### texts of single signs -/
abbrev sg (c : Nat) : Str := ⟨#[c]⟩
theorem rising_sg : ∀ (cs : List Nat) (p : Nat), risingS (sg p) (cs.map sg) = true → cs.Pairwise (· ≤ ·) ∧ ∀ c ∈ cs, p ≤ c
  | [], _, _ => ⟨.nil, fun _ h => nomatch h⟩
  | c :: r, p, h => by
    have h' : (!PySem.Spec.ltCps [c] [p] && risingS (sg c) (r.map sg)) = true := h
    rw [Bool.and_eq_true] at h'
    obtain ⟨h1, h2⟩ := h'
    have h3 : ¬ c < p := by
      intro hc
      simp [PySem.Spec.ltCps, hc] at h1
    obtain ⟨h4, h5⟩ := rising_sg r c h2
    refine ⟨List.pairwise_cons.mpr ⟨h5, h4⟩, fun x hx => ?_⟩
    rcases List.mem_cons.mp hx with rfl | hx
    · omega
    · have := h5 x hx
      omega
theorem sorted_sg : ∀ (cs : List Nat), sortedS (cs.map sg) = true → cs.Pairwise (· ≤ ·)
  | [], _ => .nil
  | c :: r, h => by
    obtain ⟨h4, h5⟩ := rising_sg r c h
    exact List.pairwise_cons.mpr ⟨h5, h4⟩
theorem perm_sg {ys : List Str} {cs : List Nat} (h : ys.Perm (cs.map sg)) : ∃ ds : List Nat, ds.Perm cs ∧ ys = ds.map sg := by
  refine ⟨ys.map fun y => y.cps.toList.headD 0, ?_, ?_⟩
  · have h2 := h.map fun y => y.cps.toList.headD 0
    rw [List.map_map] at h2
    have e : ((fun y : Str => y.cps.toList.headD 0) ∘ sg) = id := rfl
    rw [e, List.map_id] at h2
    exact h2
  · rw [List.map_map]
    have : ∀ y ∈ ys, (sg ∘ fun y : Str => y.cps.toList.headD 0) y = y := fun y hy => by
      obtain ⟨c, -, rfl⟩ := List.mem_map.mp (h.mem_iff.mp hy)
      rfl
    conv => lhs; rw [← List.map_id ys]
    exact (List.map_congr_left fun y hy => (this y hy)).symm
theorem joinL_sg : ∀ cs : List Nat, TL.joinL [] (cs.map fun c => [c]) = cs
  | [] => rfl
  | [c] => rfl
  | c :: d :: r => by
    show [c] ++ ([] ++ TL.joinL [] ((d :: r).map fun c => [c])) = c :: d :: r
    rw [joinL_sg (d :: r)]
    rfl
theorem join_sg (cs : List Nat) : Txt.join (Str.ofString "") (cs.map sg) = ⟨cs.toArray⟩ := by
  apply TL.ext_tl
  rw [TL.join_eq, TL.tl_join, List.map_map]
  show TL.joinL [] (cs.map fun c => [c]) = _
  rw [joinL_sg]
theorem sum_sg : ∀ cs : List Nat, ((cs.map sg).map (·.length)).sum = cs.length
  | [] => rfl
  | c :: r => by
    show 1 + ((r.map sg).map (·.length)).sum = r.length + 1
    rw [sum_sg r]
    omega
theorem rise_lt {cs : List Nat} (h : cs.Pairwise (· ≤ ·)) (n : cs.Nodup) : cs.Pairwise (· < ·) := by
  have h2 := List.pairwise_and_iff.mpr ⟨h, n⟩
  exact h2.imp fun ⟨a, b⟩ => Nat.lt_of_le_of_ne a b
theorem in_sg (c : Nat) (cs : List Nat) : inV (.str (sg c)) (cs.map fun c => V.str (sg c)) = decide (c ∈ cs) := by
  unfold inV
  rw [Bool.eq_iff_iff, List.any_map]
  simp only [List.any_eq_true, Function.comp, eqV, decide_eq_true_eq]
  constructor
  · rintro ⟨d, hd, e⟩
    have e2 : sg d = sg c := by simpa using e
    have e3 : d = c := by
      have := congrArg (fun z : Str => z.cps.toList) e2
      simpa using this
    rw [← e3]
    exact hd
  · intro h
    exact ⟨c, h, by simp⟩
theorem az_text : (Str.ofString "abcdefghijklmnopqrstuvwxyz").cps.toList = (List.range 26).map (97 + ·) := by decide +kernel
theorem az_at {i c : Nat} (h : (Str.ofString "abcdefghijklmnopqrstuvwxyz").cps[i]? = some c) : i < 26 ∧ c = 97 + i := by
  rw [get_tl, az_text, List.getElem?_map] at h
  by_cases hi : i < 26
  · rw [List.getElem?_range hi] at h
    exact ⟨hi, (Option.some.inj h).symm⟩
  · rw [List.getElem?_eq_none_iff.mpr (by simp; omega)] at h
    cases h
theorem az_size : (Str.ofString "abcdefghijklmnopqrstuvwxyz").cps.size = 26 := by decide +kernel
theorem az_len : (Str.ofString "abcdefghijklmnopqrstuvwxyz").length = 26 := by decide +kernel
theorem az_mem {c : Nat} (h : c ∈ (Str.ofString "abcdefghijklmnopqrstuvwxyz").cps.toList) : 97 ≤ c ∧ c ≤ 122 := by
  rw [az_text] at h
  obtain ⟨i, hi, rfl⟩ := List.mem_map.mp h
  have := List.mem_range.mp hi
  omega

/-! ### lines of formulas -/
inductive FL where
  | is (z : List Nat)
  | not (i : Nat)
  | and (rs : List Nat)
  | or (rs : List Nat)
  | before (i : Nat)
  | since (i j : Nat)
  | count (i p r : Nat)
def strL (z : List Nat) : V := .str ⟨z.toArray⟩
def natL (rs : List Nat) : List V := rs.map fun n => V.int (n : Nat)
/-- how a line stands in the heap -/
def FLAt (H : Hp) (p : Addr) : FL → Prop
  | .is z => H p = some (.tup [.str "is", strL z])
  | .not i => H p = some (.tup [.str "not", .int (i : Nat)])
  | .and rs => ∃ q, H p = some (.tup [.str "and", .ref q]) ∧ H q = some (.tup (natL rs))
  | .or rs => ∃ q, H p = some (.tup [.str "or", .ref q]) ∧ H q = some (.tup (natL rs))
  | .before i => H p = some (.tup [.str "before", .int (i : Nat)])
  | .since i j => H p = some (.tup [.str "since", .int (i : Nat), .int (j : Nat)])
  | .count i p' r => H p = some (.tup [.str "count", .int (i : Nat), .int (p' : Nat), .int (r : Nat)])
theorem FLAt.same {H H' : Hp} {p : Addr} (s : Same H H') : ∀ {f : FL}, FLAt H p f → FLAt H' p f
  | .is _, h => s _ _ h
  | .not _, h => s _ _ h
  | .and _, ⟨q, a, b⟩ => ⟨q, s _ _ a, s _ _ b⟩
  | .or _, ⟨q, a, b⟩ => ⟨q, s _ _ a, s _ _ b⟩
  | .before _, h => s _ _ h
  | .since _ _, h => s _ _ h
  | .count _ _ _, h => s _ _ h
/-- a line that can stand at a place -/
def FLOk (al : List Nat) (at_ : Nat) : FL → Prop
  | .is z => z = al.filter (fun c => decide (c ∈ z))
  | .not i => i < at_
  | .and rs => (∀ r ∈ rs, r < at_) ∧ rs.Pairwise (· < ·) ∧ rs.length ≤ 100
  | .or rs => (∀ r ∈ rs, r < at_) ∧ rs.Pairwise (· < ·) ∧ rs.length ≤ 100
  | .before i => i < at_
  | .since i j => i < at_ ∧ j < at_
  | .count i p r => i < at_ ∧ p ∈ [2, 3, 5] ∧ r < p
def spPrime : Sp := fun vs H Q _ => ∃ i : Int, vs = [.int i] ∧ i ∈ ([2, 3, 5] : List Int) ∧ Q (.bl true) H
section
variable {P : Program} {w : World} {K : PySem.W.Frag} {mg : Str → Option Value} {base : Heap}
theorem ok_is_prime (T : Env K mg) : FnOk P w K mg base CX0 2 T.f_is_prime T.fd_is_prime ["value"] spPrime := by
  refine T.F_is_prime.ok sc_is_prime (fun vs H Q E h => ?_) (fun cdv A outer s H vs Q E hr h => ⟨_, ((pss_one (ps_ret (pe_and (pe_call (ok_is_number T) (hr.mono (by decide)) (by rfl) T.g_is_number T.F_is_number.kp T.b_is_number .nil pass0 (pa_cons (pv 0) pa_nil)) (pe_one (pe_cmpR op_in_seq (pv 0) (pe_glob (v := .ref T.r_PRIMES) (by rfl) T.gt_PRIMES rfl) (by rfl))))))), ?_⟩)
  · obtain ⟨i, rfl, _⟩ := h
    rfl
  · obtain ⟨i, rfl, hi, q⟩ := h
    walk_at "ss"
    have i0 : 0 ≤ i := by
      simp only [List.mem_cons, List.not_mem_nil, or_false] at hi
      omega
    rw [decide_eq_true i0]
    walk_at "ss"
    refine ⟨_, _, rfl, .inr (T.st_PRIMES _), rfl, by decide, ?_⟩
    have e : inV (V.int i) (([2, 3, 5, 7, 11, 13, 17, 19, 23, 29, 31, 37, 41, 43, 47, 53, 59, 61, 67, 71, 73, 79, 83, 89, 97] : List Int).map V.int) = true := by
      simp only [List.mem_cons, List.not_mem_nil, or_false] at hi
      rcases hi with rfl | rfl | rfl <;> rfl
    rw [e]
    exact q
def spLetters : Sp := fun vs H Q _ => ∃ (al z : Str), vs = [.str al, .str z] ∧ al.length ≤ 4 ∧ z.cps.toList = al.cps.toList.filter (fun c => decide (c ∈ z.cps.toList)) ∧ ∀ H', Same H H' → Q (.bl true) H'
def letF (al z : List Nat) (i : Nat) : Option V := match al[i]? with | some c => if c ∈ z then some (.str (sg c)) else none | none => none
theorem letF_all (al z : List Nat) : (List.range al.length).filterMap (letF al z) = ((al.filter fun c => decide (c ∈ z)).map sg).map V.str := by
  have h : ∀ (l pre : List Nat), al = pre ++ l → (List.range' pre.length l.length).filterMap (letF al z) = ((l.filter fun c => decide (c ∈ z)).map sg).map V.str := by
    intro l
    induction l with
    | nil => intro pre e; rfl
    | cons c l ih =>
      intro pre e
      have hc : al[pre.length]? = some c := by rw [e]; simp
      have ih2 := ih (pre ++ [c]) (by rw [e]; simp)
      rw [List.length_append] at ih2
      rw [List.length_cons, List.range'_succ, List.filterMap_cons, List.filter_cons]
      have fc : letF al z pre.length = if c ∈ z then some (V.str (sg c)) else none := by
        unfold letF
        rw [hc]
      rw [fc]
      by_cases hm : c ∈ z
      · rw [if_pos hm, if_pos (decide_eq_true hm)]
        exact congrArg (V.str (sg c) :: ·) ih2
      · rw [if_neg hm, if_neg (by simpa using hm)]
        exact ih2
  have := h al [] rfl
  rw [List.length_nil] at this
  rw [← this, List.range_eq_range']
theorem ok_are_letters (T : Env K mg) : FnOk P w K mg base CX0 1 T.f_are_letters T.fd_are_letters ["alphabet", "value"] spLetters := by
  refine T.F_are_letters.ok sc_are_letters (fun vs H Q E h => ?_) (fun cdv A outer s H vs Q E hr h => ⟨_, ((pss_one (ps_ret (pe_and (pe_callB call_isi (by rfl) T.z_isinstance (by decide +kernel) (pa_cons (pv 1) (pa_cons (pe_bltn (v := .ty "str") (by rfl) T.z_str (by decide +kernel) rfl) pa_nil))) (pe_one (pe_cmpR op_eq (pv 1) (pe_join pe_str (pe_lc (own := [("letter", 2)]) (g := (gName 2)) rfl sc_are_letters.nd (pi_str (pv 0)) (blkOk_by (own := [("letter", 2)]) (N := N_are_letters) (sc := defScope s_are_letters) (by decide +kernel)) (fun _ _ _ _ _ => (pg_name (i := 2) sc_are_letters.nd rfl (.inl rfl))) (fun _ _ _ _ _ => (pts_one (pt_cmpR op_in_sign (pv 2) (pv 1) (by rfl)))) (fun _ _ _ _ _ => (pv 2)))) (nomark _))))))), ?_⟩)
  · obtain ⟨al, z, rfl, _⟩ := h
    rfl
  · obtain ⟨al, z, rfl, hal, hz, q⟩ := h
    walk_at "ssi"
    rename_i D hD
    refine lc_fil walk_str (fun H' => Same H H') (letF al.cps.toList z.cps.toList) (by rw [size_tl, ← len_tl]; omega) (same_upd hD) (fun _ _ => trivial) (fun _ _ h => same_mut h hD) ?_ ?_
    · rintro i2 x H4 H5 Q1 Qn hlt hI ⟨rfl, c, hcz, rfl⟩ - hQ hN
      rw [get_tl] at hcz
      have fc : letF al.cps.toList z.cps.toList i2 = if c ∈ z.cps.toList then some (V.str (sg c)) else none := by
        unfold letF
        rw [hcz]
      walk_at "ss"
      by_cases hm : c ∈ z.cps.toList
      · rw [decide_eq_true hm]
        walk_at "ss"
        exact hQ _ _ (by rw [fc, if_pos hm]) hI fun _ h => h
      · rw [decide_eq_false hm]
        walk_at "ss"
        exact hN _ (by rw [fc, if_neg hm]) hI fun _ h => h
    · intro H1 hI hy
      rw [size_tl, letF_all] at hy
      walk_at "ss"
      have hl := List.length_filter_le (fun c => decide (c ∈ z.cps.toList)) al.cps.toList
      rw [← len_tl] at hl
      refine ⟨_, D, _, rfl, rfl, .inl (SqL.of hy), ?_, ?_⟩
      · rw [sum_sg, List.length_map]
        have : (Str.ofString "").length = 0 := rfl
        rw [this]
        omega
      · rw [join_sg, ← hz]
        have e : (⟨z.cps.toList.toArray⟩ : Str) = z := by simp
        rw [e]
        walk_at "ss"
        show Q (V.bl (decide (V.str z = V.str z))) H1
        rw [decide_eq_true rfl]
        exact q _ hI
/-- an ascending tuple of refs -/
def spRefs (K : PySem.W.Frag) : Sp := fun vs H Q _ => ∃ (q : Addr) (at_ : Int) (rs : List Nat), vs = [.ref q, .int at_] ∧ H q = some (.tup (natL rs)) ∧ (∀ r ∈ rs, (r : Int) < at_) ∧ rs.Pairwise (· < ·) ∧ rs.length ≤ 100 ∧ ∀ H', Same H H' → Q (.bl true) H'
theorem all_true {n : Nat} {ys : List V} (hl : ys.length = n) (h : ∀ (i : Nat) (y : V), ys[i]? = some y → y = .bl true) : ys = (List.replicate n true).map V.bl := by
  apply List.ext_getElem (by simp [hl])
  intro i h1 h2
  rw [h i _ (List.getElem?_eq_getElem h1)]
  simp
theorem ok_are_refs (T : Env K mg) : FnOk P w K mg base CX0 3 T.f_are_refs T.fd_are_refs ["value", "place"] (spRefs K) := by
  refine T.F_are_refs.ok sc_are_refs (fun vs H Q E h => ?_) (fun cdv A outer s H vs Q E hr h => ⟨_, ((pss_cons (ps_if (PW.pt (pw_or (pt_not (pt_val (pe_callB call_isi (by rfl) T.z_isinstance (by decide +kernel) (pa_cons (pv 0) (pa_cons (pe_bltn (v := .ty "tuple") (by rfl) T.z_tuple (by decide +kernel) rfl) pa_nil))))) (pw_or1 (pt_not (pt_val (pe_callB (cr_all rfl) (by rfl) T.z_all (by decide +kernel) (pa_cons (pe_lc (own := [("ref", 3)]) (g := (gName 3)) (tt := tYes) rfl sc_are_refs.nd (pi_tup (pv 0)) (blkOk_by (own := [("ref", 3)]) (N := N_are_refs) (sc := defScope s_are_refs) (by decide +kernel)) (fun _ _ _ _ _ => (pg_name (i := 3) sc_are_refs.nd rfl (.inl rfl))) (fun _ _ _ _ _ => pts_nil) (fun _ _ _ _ _ => (pe_call (ok_is_below T) (hr.mono (by decide)) (by rfl) T.g_is_below T.F_is_below.kp T.b_is_below .nil pass0 (pa_cons (pv 3) (pa_cons (pv 1) pa_nil))))) pa_nil)))))))
      (pss_one (ps_ret pe_bl))
      pss_nil)
      (pss_one (ps_ret (pe_callB (cr_all rfl) (by rfl) T.z_all (by decide +kernel) (pa_cons (pe_lc (own := [("at", 2)]) (g := (gName 2)) (tt := tYes) (te := (tOp _ (tOp (rIxT K) _ _) (tOp (rIxT K) _ _))) rfl sc_are_refs.nd (pi_range2 (by rfl) T.z_range (pa_cons pe_int (pa_cons (pe_callB call_len_seq (by rfl) T.z_len (by decide +kernel) (pa_cons (pv 0) pa_nil)) pa_nil))) (blkOk_by (own := [("at", 2)]) (N := N_are_refs) (sc := defScope s_are_refs) (by decide +kernel)) (fun _ _ _ _ _ => (pg_name (i := 2) sc_are_refs.nd rfl (.inl rfl))) (fun _ _ _ _ _ => pts_nil) (fun _ _ _ _ _ => (pe_cmpR op_lt (pe_ix ix_tup (pv 0) (pe_op op_sub (pv 2) pe_int) (fun _ _ => rfl)) (pe_ix ix_tup (pv 0) (pv 2) (fun _ _ => rfl)) (nomark _)))) pa_nil)))))), ?_⟩)
  · obtain ⟨q, a, rs, rfl, _⟩ := h
    rfl
  · obtain ⟨q0, a, rs, rfl, hq, hlt, asc, hn, q⟩ := h
    have ty := tyx_tup (K := K) (SqT.of hq)
    have nl : (natL rs).length = rs.length := by unfold natL; rw [List.length_map]
    have nat_at : ∀ {i : Nat} {x : V}, (natL rs)[i]? = some x → ∃ r, rs[i]? = some r ∧ x = .int (r : Nat) := fun {i x} h => by
      unfold natL at h
      rw [List.getElem?_map] at h
      cases hr : rs[i]? with
      | none => rw [hr] at h; cases h
      | some r =>
        rw [hr] at h
        exact ⟨r, rfl, (Option.some.inj h).symm⟩
    walk_at "ssi"
    refine ⟨⟨_, SqT.of hq⟩, ?_⟩
    intro D hD
    refine lc_gen walk_tup (fun H' => Same H H') (fun i y => y = V.bl true) (by rw [nl]; omega) (same_upd hD) (fun _ h => same_tup h (SqT.of hq)) (fun _ _ h => same_mut h hD) ?_ ?_
    · rintro i x H1 H2 Q1 hlt2 hI ⟨rfl, hx⟩ - hQ
      obtain ⟨r, hr2, rfl⟩ := nat_at hx
      walk_at "ss"
      refine ⟨_, a, rfl, .inl ⟨(r : Nat), rfl, ?_⟩⟩
      have : (r : Int) < a := hlt r (List.mem_of_getElem? hr2)
      rw [decide_eq_true (by omega)]
      exact hQ _ _ rfl hI fun _ h => h
    · intro H1 ys hI hy hl hr2
      have e := all_true hl hr2
      subst e
      walk_at "ss"
      refine ⟨D, _, rfl, SqL.of hy, ?_⟩
      rw [show (List.replicate (natL rs).length true).all id = true by simp]
      walk_at "ss"
      refine ⟨q0, _, rfl, .inr (SqT.of (hI _ _ hq)), ?_⟩
      rw [nl]
      obtain ⟨nz, hnz⟩ : ∃ nz : Int, nz = ((rs.length : Nat) : Int) := ⟨_, rfl⟩
      rw [← hnz]
      walk_at "ss"
      refine ⟨_, _, rfl, ⟨by decide, by decide, by omega, by omega⟩, ?_⟩
      intro D2 hD2
      refine lc_gen walk_range (fun H' => Same H1 H') (fun i y => y = V.bl true) (by omega) (same_upd hD2) (fun _ _ => trivial) (fun _ _ h => same_mut h hD2) ?_ ?_
      · rintro i x H2 H3 Q1 hlt2 hI2 ⟨rfl, rfl⟩ - hQ
        have i1 : i + 1 < rs.length := by omega
        have g0 : (natL rs)[i]? = some (.int (rs[i] : Nat)) := by unfold natL; rw [List.getElem?_map, List.getElem?_eq_getElem (by omega)]; rfl
        have g1 : (natL rs)[i + 1]? = some (.int (rs[i + 1] : Nat)) := by unfold natL; rw [List.getElem?_map, List.getElem?_eq_getElem (by omega)]; rfl
        have hq2 := (hI.trans hI2) _ _ hq
        walk_at "ss"
        refine ⟨q0, _, _, _, rfl, rfl, SqT.of hq2, (show atI (natL rs) (1 + (i : Int) - 1) = _ by rw [show 1 + (i : Int) - 1 = ((i : Nat) : Int) by omega]; exact atI_nat g0), ?_⟩
        walk_at "ss"
        refine ⟨q0, _, _, _, rfl, rfl, SqT.of hq2, (show atI (natL rs) (1 + (i : Int)) = _ by rw [show 1 + (i : Int) = ((i + 1 : Nat) : Int) by omega]; exact atI_nat g1), ?_⟩
        walk_at "ss"
        have lt := List.pairwise_iff_getElem.mp asc i (i + 1) (by omega) (by omega) (by omega)
        exact hQ _ _ (congrArg V.bl (decide_eq_true (show ((rs[i] : Nat) : Int) < ((rs[i + 1] : Nat) : Int) by omega))) hI2 fun _ h => h
      · intro H2 ys2 hI2 hy2 hl2 hr2
        have e := all_true hl2 hr2
        subst e
        walk_at "ss"
        refine ⟨D2, _, rfl, SqL.of hy2, ?_⟩
        rw [show (List.replicate (nz - 1).toNat true).all id = true by simp]
        exact q _ (hI.trans hI2)
theorem at_zero {x : V} {r : List V} : atI (x :: r) 0 = some x := atI_nat (j := 0) rfl
/-- a good line at its place -/
def spStand : Sp := fun vs H Q _ => ∃ (al : Str) (p : Addr) (n : Nat) (f : FL), vs = [.str al, .ref p, .int (n : Nat)] ∧ al.length ≤ 4 ∧ FLAt H p f ∧ FLOk al.cps.toList n f ∧ ∀ H', Same H H' → Q (.bl true) H'
theorem ok_can_stand (T : Env K mg) : FnOk P w K mg base CX0 4 T.f_can_stand T.fd_can_stand ["alphabet", "value", "place"] spStand := by
  refine T.F_can_stand.ok sc_can_stand (fun vs H Q E h => ?_) (fun cdv A outer s H vs Q E hr h => ⟨_, ((pss_cons (ps_if (PW.pt (pw_or (pt_not (pt_val (pe_callB call_isi (by rfl) T.z_isinstance (by decide +kernel) (pa_cons (pv 1) (pa_cons (pe_bltn (v := .ty "tuple") (by rfl) T.z_tuple (by decide +kernel) rfl) pa_nil))))) (pw_or1 (pt_not (pt_truth (pv 1) (by intro _; rfl))))))
      (pss_one (ps_ret pe_bl))
      pss_nil)
      (pss_cons (ps_set (i := 3) sc_can_stand.nd rfl (.inl rfl) (pe_ix ix_tup (pv 1) pe_int (fun _ _ => rfl)))
      (pss_cons (ps_set (i := 4) sc_can_stand.nd rfl (.inl rfl) (pe_slice sl_tup (pv 1) (po_some pe_int) po_none))
      (pss_cons (ps_if (PW.pt (pw_and (pt_cmpR op_eq (pv 3) pe_str (nomark _)) (pw_and1 (pt_cmpR op_eq (pe_callB call_len_seq (by rfl) T.z_len (by decide +kernel) (pa_cons (pv 4) pa_nil)) pe_int (nomark _)))))
      (pss_one (ps_ret (StX.pe_callS2 ((ok_are_letters T).raw T.b_are_letters .nil) (hr.mono (by decide)) T.F_are_letters.kp (by rfl) T.g_are_letters pass0 (pa_cons (pv 0) (StX.pa_star (pv 4) pa_nil)))))
      pss_nil)
      (pss_cons (ps_if (PW.pt (pw_and (PW.pt (pw_or (pt_cmpR op_eq (pv 3) pe_str (nomark _)) (pw_or1 (pt_cmpR op_eq (pv 3) pe_str (nomark _))))) (pw_and1 (pt_cmpR op_eq (pe_callB call_len_seq (by rfl) T.z_len (by decide +kernel) (pa_cons (pv 4) pa_nil)) pe_int (nomark _)))))
      (pss_one (ps_ret (pe_call (ok_is_below T) (hr.mono (by decide)) (by rfl) T.g_is_below T.F_is_below.kp T.b_is_below .nil pass0 (pa_cons (pe_ix ix_tup (pv 4) pe_int (fun _ _ => rfl)) (pa_cons (pv 2) pa_nil)))))
      pss_nil)
      (pss_cons (ps_if (PW.pt (pw_and (PW.pt (pw_or (pt_cmpR op_eq (pv 3) pe_str (nomark _)) (pw_or1 (pt_cmpR op_eq (pv 3) pe_str (nomark _))))) (pw_and1 (pt_cmpR op_eq (pe_callB call_len_seq (by rfl) T.z_len (by decide +kernel) (pa_cons (pv 4) pa_nil)) pe_int (nomark _)))))
      (pss_one (ps_ret (pe_call (ok_are_refs T) (hr.mono (by decide)) (by rfl) T.g_are_refs T.F_are_refs.kp T.b_are_refs .nil pass0 (pa_cons (pe_ix ix_tup (pv 4) pe_int (fun _ _ => rfl)) (pa_cons (pv 2) pa_nil)))))
      pss_nil)
      (pss_cons (ps_if (PW.pt (pw_and (pt_cmpR op_eq (pv 3) pe_str (nomark _)) (pw_and1 (pt_cmpR op_eq (pe_callB call_len_seq (by rfl) T.z_len (by decide +kernel) (pa_cons (pv 4) pa_nil)) pe_int (nomark _)))))
      (pss_one (ps_ret (pe_and (pe_call (ok_is_below T) (hr.mono (by decide)) (by rfl) T.g_is_below T.F_is_below.kp T.b_is_below .nil pass0 (pa_cons (pe_ix ix_tup (pv 4) pe_int (fun _ _ => rfl)) (pa_cons (pv 2) pa_nil))) (pe_one (pe_call (ok_is_below T) (hr.mono (by decide)) (by rfl) T.g_is_below T.F_is_below.kp T.b_is_below .nil pass0 (pa_cons (pe_ix ix_tup (pv 4) pe_int (fun _ _ => rfl)) (pa_cons (pv 2) pa_nil)))))))
      pss_nil)
      (pss_cons (ps_if (PW.pt (pw_and (pt_cmpR op_eq (pv 3) pe_str (nomark _)) (pw_and1 (pt_cmpR op_eq (pe_callB call_len_seq (by rfl) T.z_len (by decide +kernel) (pa_cons (pv 4) pa_nil)) pe_int (nomark _)))))
      (pss_one (ps_ret (pe_and (pe_call (ok_is_below T) (hr.mono (by decide)) (by rfl) T.g_is_below T.F_is_below.kp T.b_is_below .nil pass0 (pa_cons (pe_ix ix_tup (pv 4) pe_int (fun _ _ => rfl)) (pa_cons (pv 2) pa_nil))) (pe_and (pe_call (ok_is_prime T) (hr.mono (by decide)) (by rfl) T.g_is_prime T.F_is_prime.kp T.b_is_prime .nil pass0 (pa_cons (pe_ix ix_tup (pv 4) pe_int (fun _ _ => rfl)) pa_nil)) (pe_one (pe_call (ok_is_below T) (hr.mono (by decide)) (by rfl) T.g_is_below T.F_is_below.kp T.b_is_below .nil pass0 (pa_cons (pe_ix ix_tup (pv 4) pe_int (fun _ _ => rfl)) (pa_cons (pe_ix ix_tup (pv 4) pe_int (fun _ _ => rfl)) pa_nil))))))))
      pss_nil)
      (pss_one (ps_ret pe_bl))))))))))), ?_⟩)
  · obtain ⟨al, p, n, f, rfl, _⟩ := h
    rfl
  · obtain ⟨al, p, n, f, rfl, hal, hf, ok, q⟩ := h
    cases f with
    | is z =>
      have hf : H p = some (.tup [.str "is", strL z]) := hf
      have ty := tyx_tup (K := K) (SqT.of hf)
      walk_at "ssi"
      refine ⟨true, .inr (.inl ⟨_, SqT.of hf, rfl⟩), ?_⟩
      walk_at "ss"
      refine ⟨p, _, 0, _, rfl, rfl, SqT.of hf, rfl, ?_⟩
      walk_at "ss"
      refine ⟨p, _, rfl, SqT.of hf, (show ¬ (HT.sIx 2 0 (some 1) = 0 ∧ HT.sIx 2 2 none = 2) from by decide), fun t ht => ?_⟩
      have s1 := same_upd (o := .tup [strL z]) ht
      walk_at "ss"
      refine ⟨t, _, rfl, .inr (SqT.of upd_same), ?_⟩
      walk_at "ss"
      refine ⟨t, _, rfl, .inl (SqT.of upd_same), ?_⟩
      have e : (⟨z.toArray⟩ : Str).cps.toList = z := by simp
      exact ⟨al, ⟨z.toArray⟩, rfl, hal, by rw [e]; exact ok, fun H' s' => q H' (s1.trans s')⟩
    | not i =>
      have hf : H p = some (.tup [.str "not", .int (i : Nat)]) := hf
      have ty := tyx_tup (K := K) (SqT.of hf)
      walk_at "ssi"
      refine ⟨true, .inr (.inl ⟨_, SqT.of hf, rfl⟩), ?_⟩
      walk_at "ss"
      refine ⟨p, _, 0, _, rfl, rfl, SqT.of hf, rfl, ?_⟩
      walk_at "ss"
      refine ⟨p, _, rfl, SqT.of hf, (show ¬ (HT.sIx 2 0 (some 1) = 0 ∧ HT.sIx 2 2 none = 2) from by decide), fun t ht => ?_⟩
      have s1 := same_upd (o := .tup [.int (i : Nat)]) ht
      walk_at "ss"
      refine ⟨t, _, rfl, .inr (SqT.of upd_same), ?_⟩
      walk_at "ss"
      refine ⟨t, _, 0, _, rfl, rfl, SqT.of upd_same, rfl, ?_⟩
      walk_at "ss"
      have ok : i < n := ok
      refine ⟨_, _, rfl, .inl ⟨_, rfl, ?_⟩⟩
      rw [decide_eq_true (by omega)]
      walk_at "ss"
      exact q _ s1
    | and rs =>
      obtain ⟨q0, hf, hq⟩ := hf
      have hf : H p = some (.tup [.str "and", .ref q0]) := hf
      have ty := tyx_tup (K := K) (SqT.of hf)
      walk_at "ssi"
      refine ⟨true, .inr (.inl ⟨_, SqT.of hf, rfl⟩), ?_⟩
      walk_at "ss"
      refine ⟨p, _, 0, _, rfl, rfl, SqT.of hf, rfl, ?_⟩
      walk_at "ss"
      refine ⟨p, _, rfl, SqT.of hf, (show ¬ (HT.sIx 2 0 (some 1) = 0 ∧ HT.sIx 2 2 none = 2) from by decide), fun t ht => ?_⟩
      have s1 := same_upd (o := .tup [.ref q0]) ht
      walk_at "ss"
      refine ⟨t, _, rfl, .inr (SqT.of upd_same), ?_⟩
      walk_at "ss"
      refine ⟨t, _, 0, _, rfl, rfl, SqT.of upd_same, rfl, ?_⟩
      walk_at "ss"
      exact ⟨q0, _, rs, rfl, s1 _ _ hq, fun r hr => by have := ok.1 r hr; omega, ok.2.1, ok.2.2, fun H' s' => q H' (s1.trans s')⟩
    | or rs =>
      obtain ⟨q0, hf, hq⟩ := hf
      have hf : H p = some (.tup [.str "or", .ref q0]) := hf
      have ty := tyx_tup (K := K) (SqT.of hf)
      walk_at "ssi"
      refine ⟨true, .inr (.inl ⟨_, SqT.of hf, rfl⟩), ?_⟩
      walk_at "ss"
      refine ⟨p, _, 0, _, rfl, rfl, SqT.of hf, rfl, ?_⟩
      walk_at "ss"
      refine ⟨p, _, rfl, SqT.of hf, (show ¬ (HT.sIx 2 0 (some 1) = 0 ∧ HT.sIx 2 2 none = 2) from by decide), fun t ht => ?_⟩
      have s1 := same_upd (o := .tup [.ref q0]) ht
      walk_at "ss"
      refine ⟨t, _, rfl, .inr (SqT.of upd_same), ?_⟩
      walk_at "ss"
      refine ⟨t, _, 0, _, rfl, rfl, SqT.of upd_same, rfl, ?_⟩
      walk_at "ss"
      exact ⟨q0, _, rs, rfl, s1 _ _ hq, fun r hr => by have := ok.1 r hr; omega, ok.2.1, ok.2.2, fun H' s' => q H' (s1.trans s')⟩
    | before i =>
      have hf : H p = some (.tup [.str "before", .int (i : Nat)]) := hf
      have ty := tyx_tup (K := K) (SqT.of hf)
      walk_at "ssi"
      refine ⟨true, .inr (.inl ⟨_, SqT.of hf, rfl⟩), ?_⟩
      walk_at "ss"
      refine ⟨p, _, 0, _, rfl, rfl, SqT.of hf, rfl, ?_⟩
      walk_at "ss"
      refine ⟨p, _, rfl, SqT.of hf, (show ¬ (HT.sIx 2 0 (some 1) = 0 ∧ HT.sIx 2 2 none = 2) from by decide), fun t ht => ?_⟩
      have s1 := same_upd (o := .tup [.int (i : Nat)]) ht
      walk_at "ss"
      refine ⟨t, _, rfl, .inr (SqT.of upd_same), ?_⟩
      walk_at "ss"
      refine ⟨t, _, 0, _, rfl, rfl, SqT.of upd_same, rfl, ?_⟩
      walk_at "ss"
      have ok : i < n := ok
      refine ⟨_, _, rfl, .inl ⟨_, rfl, ?_⟩⟩
      rw [decide_eq_true (by omega)]
      walk_at "ss"
      exact q _ s1
    | since i j =>
      have hf : H p = some (.tup [.str "since", .int (i : Nat), .int (j : Nat)]) := hf
      have ty := tyx_tup (K := K) (SqT.of hf)
      walk_at "ssi"
      refine ⟨true, .inr (.inl ⟨_, SqT.of hf, rfl⟩), ?_⟩
      walk_at "ss"
      refine ⟨p, _, 0, _, rfl, rfl, SqT.of hf, rfl, ?_⟩
      walk_at "ss"
      refine ⟨p, _, rfl, SqT.of hf, (show ¬ (HT.sIx 3 0 (some 1) = 0 ∧ HT.sIx 3 3 none = 3) from by decide), fun t ht => ?_⟩
      have s1 := same_upd (o := .tup [.int (i : Nat), .int (j : Nat)]) ht
      walk_at "ss"
      refine ⟨t, _, rfl, .inr (SqT.of upd_same), ?_⟩
      walk_at "ss"
      refine ⟨t, _, 0, _, rfl, rfl, SqT.of upd_same, rfl, ?_⟩
      walk_at "ss"
      have ok : i < n ∧ j < n := ok
      refine ⟨_, _, rfl, .inl ⟨_, rfl, ?_⟩⟩
      rw [decide_eq_true (by omega)]
      walk_at "ss"
      refine ⟨t, _, 1, _, rfl, rfl, SqT.of upd_same, rfl, ?_⟩
      walk_at "ss"
      refine ⟨_, _, rfl, .inl ⟨_, rfl, ?_⟩⟩
      rw [decide_eq_true (by omega)]
      walk_at "ss"
      exact q _ s1
    | count i p2 r =>
      have hf : H p = some (.tup [.str "count", .int (i : Nat), .int (p2 : Nat), .int (r : Nat)]) := hf
      have ty := tyx_tup (K := K) (SqT.of hf)
      walk_at "ssi"
      refine ⟨true, .inr (.inl ⟨_, SqT.of hf, rfl⟩), ?_⟩
      walk_at "ss"
      refine ⟨p, _, 0, _, rfl, rfl, SqT.of hf, rfl, ?_⟩
      walk_at "ss"
      refine ⟨p, _, rfl, SqT.of hf, (show ¬ (HT.sIx 4 0 (some 1) = 0 ∧ HT.sIx 4 4 none = 4) from by decide), fun t ht => ?_⟩
      have s1 := same_upd (o := .tup [.int (i : Nat), .int (p2 : Nat), .int (r : Nat)]) ht
      walk_at "ss"
      refine ⟨t, _, rfl, .inr (SqT.of upd_same), ?_⟩
      walk_at "ss"
      refine ⟨t, _, 0, _, rfl, rfl, SqT.of upd_same, rfl, ?_⟩
      walk_at "ss"
      have ok : i < n ∧ p2 ∈ [2, 3, 5] ∧ r < p2 := ok
      refine ⟨_, _, rfl, .inl ⟨_, rfl, ?_⟩⟩
      rw [decide_eq_true (by omega)]
      walk_at "ss"
      refine ⟨t, _, 1, _, rfl, rfl, SqT.of upd_same, rfl, ?_⟩
      walk_at "ss"
      refine ⟨?_, ?_⟩
      · have := ok.2.1
        simp only [List.mem_cons, List.not_mem_nil, or_false] at this ⊢
        omega
      walk_at "ss"
      refine ⟨t, _, 2, _, rfl, rfl, SqT.of upd_same, rfl, ?_⟩
      walk_at "ss"
      refine ⟨t, _, 1, _, rfl, rfl, SqT.of upd_same, rfl, ?_⟩
      walk_at "ss"
      refine ⟨_, _, rfl, .inl ⟨_, rfl, ?_⟩⟩
      rw [decide_eq_true (by omega)]
      walk_at "ss"
      exact q _ s1
end

/-! ### Formula(..) -/
/-- lines in the heap -/
def FLs (H : Hp) (r : Addr) (fls : List FL) : Prop := ∃ ps : List Addr, H r = some (.lst (ps.map V.ref)) ∧ ps.length = fls.length ∧ ∀ (i : Nat) (p : Addr) (f : FL), ps[i]? = some p → fls[i]? = some f → FLAt H p f
def FOk (al : List Nat) (fls : List FL) : Prop := ∀ (i : Nat) (f : FL), fls[i]? = some f → FLOk al i f
theorem FLs.same {H H' : Hp} {r : Addr} {fls : List FL} (h : FLs H r fls) (s : Same H H') : FLs H' r fls := by
  obtain ⟨ps, h1, h2, h3⟩ := h
  exact ⟨ps, s _ _ h1, h2, fun i p f a b => (h3 i p f a b).same s⟩
theorem FLs.at_ {H : Hp} {r : Addr} {fls : List FL} {i : Nat} {f : FL} (h : FLs H r fls) (e : fls[i]? = some f) : ∃ xs p, H r = some (.lst xs) ∧ xs.length = fls.length ∧ xs[i]? = some (.ref p) ∧ FLAt H p f := by
  obtain ⟨ps, h1, h2, h3⟩ := h
  have hi := (List.getElem?_eq_some_iff.mp e).1
  have hp : ps[i]? = some ps[i] := List.getElem?_eq_getElem (by omega)
  exact ⟨_, ps[i], h1, by rw [List.length_map, h2], by rw [List.getElem?_map, hp]; rfl, h3 i _ f hp e⟩
theorem FLs.len {H : Hp} {r : Addr} {fls : List FL} (h : FLs H r fls) : ∃ xs, H r = some (.lst xs) ∧ xs.length = fls.length := by
  obtain ⟨ps, h1, h2, h3⟩ := h
  exact ⟨_, h1, by rw [List.length_map, h2]⟩
theorem FLAt.but {H H' : Hp} {p x C dx : Addr} {fs : List (Str × V)} (e : H x = some (.ins C dx fs)) (k : ∀ c o, c ≠ x → H c = some o → H' c = some o) : ∀ {f : FL}, FLAt H p f → FLAt H' p f := by
  have no : ∀ {a : Addr} {xs : List V}, H a = some (.tup xs) → H' a = some (.tup xs) := fun {a xs} h => k _ _ (fun z => by rw [z, e] at h; cases h) h
  intro f h
  cases f with
  | is z => exact no h
  | not i => exact no h
  | and rs =>
    obtain ⟨q, a, b⟩ := h
    exact ⟨q, no a, no b⟩
  | or rs =>
    obtain ⟨q, a, b⟩ := h
    exact ⟨q, no a, no b⟩
  | before i => exact no h
  | since i j => exact no h
  | count i p' r => exact no h
structure FormAt (K : PySem.W.Frag) (C : Addr) (H : Hp) (m : Addr) (al : Str) (fls : List FL) (b : Bool) : Prop where
  at_ : ∃ dx l, H m = some (.ins C dx [("_alphabet", .str al), ("_lines", .ref l), ("_first", .bl b)]) ∧ FLs H l fls
  alpha : Alpha al.cps.toList
  ok : FOk al.cps.toList fls
  many : 1 ≤ fls.length ∧ fls.length ≤ 1000
theorem FormAt.same {K : PySem.W.Frag} {C : Addr} {H H' : Hp} {m : Addr} {al : Str} {fls : List FL} {b : Bool} (M : FormAt K C H m al fls b) (e : Same H H') : FormAt K C H' m al fls b := by
  obtain ⟨dx, l, h1, h2⟩ := M.at_
  exact ⟨⟨dx, l, e _ _ h1, h2.same e⟩, M.alpha, M.ok, M.many⟩
def spChk : Sp := fun vs H Q _ => ∃ (al : Str) (r : Addr) (fls : List FL), vs = [.str al, .ref r] ∧ al.length ≤ 4 ∧ FLs H r fls ∧ FOk al.cps.toList fls ∧ fls.length ≤ 1000 ∧ ∀ H', Same H H' → Q .non H'
def spFInit (K : PySem.W.Frag) (C : Addr) : Sp := fun vs H Q _ => ∃ (x dx r : Addr) (al : Str) (fls : List FL) (b : Bool), vs = [.ref x, .str al, .ref r, .bl b] ∧ H x = some (.ins C dx []) ∧ r ≠ x ∧ FLs H r fls ∧ Alpha al.cps.toList ∧ FOk al.cps.toList fls ∧
  (1 ≤ fls.length ∧ fls.length ≤ 1000) ∧ ∀ H', (∀ c o, c ≠ x → H c = some o → H' c = some o) → FormAt K C H' x al fls b → Q .non H'
section
variable {P : Program} {w : World} {K : PySem.W.Frag} {mg : Str → Option Value} {base : Heap}
theorem ok_check_lines (T : Env K mg) : FnOk P w K mg base CX0 5 T.f_check_lines T.fd_check_lines ["alphabet", "lines"] spChk := by
  refine T.F_check_lines.ok sc_check_lines (fun vs H Q E h => ?_) (fun cdv A outer s H vs Q E hr h => ⟨_, ((pss_one (ps_for PassesOwn.never rfl (pi_enum (by rfl) T.z_enumerate (pa_cons (pv 1) pa_nil)) (pg_tup (by rfl) (pgs_cons (pg_name (i := 2) sc_check_lines.nd rfl (.inl rfl)) (pgs_cons (pg_name (i := 3) sc_check_lines.nd rfl (.inl rfl)) pgs_nil)))
      (pss_one (ps_if (pt_not (pt_val (pe_call (ok_can_stand T) (hr.mono (by decide)) (by rfl) T.g_can_stand T.F_can_stand.kp T.b_can_stand .nil pass0 (pa_cons (pv 0) (pa_cons (pv 3) (pa_cons (pv 2) pa_nil))))))
      (pss_one ps_never)
      pss_nil))))), ?_⟩)
  · obtain ⟨al, r, fls, rfl, _⟩ := h
    rfl
  · obtain ⟨al, r, fls, rfl, hal, hf, ok, hn, q⟩ := h
    obtain ⟨xs, hx, hl⟩ := hf.len
    have hxq : SqL K H r xs := SqL.of hx
    walk_at "ss"
    refine for_it walk_enum (fun i σ H' => Stp (Same H H' ∧ ∃ y2 y3 : Option V, σ = [some (.str al), some (.ref r), y2, y3])) (.mk ⟨Same.refl _, _, _, rfl⟩) (fun i σ H' _ h => h.of.1.seq (SqL.of hx)) ?_ ?_
    · rintro i y σ H3 H4 hi hP ⟨Tt, u, v, rfl, nT, rfl, eu, ev⟩
      obtain ⟨s3, y4, y5, rfl⟩ := hP.of
      cases eu
      obtain ⟨f, hfi⟩ : ∃ f, fls[i]? = some f := ⟨_, List.getElem?_eq_getElem (by omega)⟩
      obtain ⟨xs2, p, g1, g2, g3, g4⟩ := hf.at_ hfi
      rw [hx] at g1
      cases g1
      have ev : xs[i]? = some v := ev
      rw [g3] at ev
      cases ev
      have s4 : Same H3 (upd H3 Tt (.tup [.int (i : Nat), .ref p])) := same_upd nT
      refine ⟨Tt, _, rfl, .inl (.inl upd_same), rfl, _, _, rfl, _, _, rfl, rfl, ?_⟩
      walk_at "ss"
      refine ⟨al, p, i, f, rfl, hal, g4.same (s3.trans s4), ok i f hfi, fun H5 s5 => ?_⟩
      walk_at "ss"
      exact .mk ⟨s3.trans (s4.trans s5), _, _, rfl⟩
    · rintro σ H3 hP
      obtain ⟨s3, y4, y5, rfl⟩ := hP.of
      walk_at "ss"
      exact q _ s3
theorem ok_Formula___init (T : Env K mg) : FnOk P w K mg base CX0 6 T.f_Formula___init T.fd_Formula___init ["self", "alphabet", "lines", "first"] (spFInit K T.C_Formula) := by
  refine T.F_Formula___init.ok sc_Formula___init (fun vs H Q E h => ?_) (fun cdv A outer s H vs Q E hr h => ⟨_, ((pss_cons (ps_if (pt_not (pt_val (pe_call (ok_is_alphabet T) (hr.mono (by decide)) (by rfl) T.g_is_alphabet T.F_is_alphabet.kp T.b_is_alphabet .nil pass0 (pa_cons (pv 1) pa_nil))))
      (pss_one ps_never)
      pss_nil)
      (pss_cons (ps_if (PW.pt (pw_or (pt_not (pt_val (pe_call (ok_is_listed T) (hr.mono (by decide)) (by rfl) T.g_is_listed T.F_is_listed.kp T.b_is_listed .nil pass0 (pa_cons (pv 2) pa_nil)))) (pw_or1 (pt_not (pt_truth (pv 2) (by intro _; rfl))))))
      (pss_one ps_never)
      pss_nil)
      (pss_cons (ps_if (pt_cmpR op_gt (pe_callB call_len_seq (by rfl) T.z_len (by decide +kernel) (pa_cons (pv 2) pa_nil)) (pe_con (pv 0) rfl) (nomark _))
      (pss_one ps_never)
      pss_nil)
      (pss_cons (ps_expr (pe_call (ok_check_lines T) (hr.mono (by decide)) (by rfl) T.g_check_lines T.F_check_lines.kp T.b_check_lines .nil pass0 (pa_cons (pv 1) (pa_cons (pv 2) pa_nil))))
      (pss_cons (ps_fld (pv 0) (pv 1) rfl)
      (pss_cons (ps_fld (pv 0) (pe_callTy call_list_of (by rfl) T.z_list (by decide +kernel) (pa_cons (pv 2) pa_nil)) rfl)
      (pss_one (ps_fld (pv 0) (pv 3) rfl))))))))), ?_⟩)
  · obtain ⟨x, dx, r, al, fls, b, rfl, _⟩ := h
    rfl
  · obtain ⟨x, dx, r, al, fls, b, rfl, hx, hr2, hf, hA, ok, hm, q⟩ := h
    have al4 : al.length ≤ 4 := by rw [len_tl]; exact hA.2.1
    obtain ⟨xs, hxs, hl⟩ := hf.len
    walk_at "ss"
    intro H1 s1
    rw [decide_eq_true hA]
    walk_at "ss"
    refine .inl ⟨r, _, rfl, .inl (SqL.of (s1 _ _ hxs)), fun H2 s2 => ?_⟩
    have s12 := s1.trans s2
    have hx2 := s12 _ _ hx
    have hxs2 := s12 _ _ hxs
    have hf2 := hf.same s12
    walk_at "ss"
    refine ⟨true, ?_, ?_⟩
    · refine .inl ⟨_, SqL.of hxs2, ?_⟩
      cases xs with
      | nil => simp at hl; omega
      | cons => rfl
    walk_at "ss"
    refine ⟨r, _, rfl, .inl (SqL.of hxs2), ?_⟩
    rw [hl]
    walk_at "ss"
    refine ⟨x, T.C_Formula, dx, _, _, _, rfl, hx2, T.cl_Formula, T.o_Formula_MOST, rfl, ?_⟩
    walk_at "ss"
    have d1 : decide ((4000 : Int) < (fls.length : Int)) = false := decide_eq_false (by omega)
    refine iteN (by rw [d1]; decide) ?_
    walk_at "ss"
    refine ⟨al, r, fls, rfl, al4, hf2, ok, hm.2, fun H3 s3 => ?_⟩
    have hx3 := s3 _ _ hx2
    have hxs3 := s3 _ _ hxs2
    have hf3 := hf2.same s3
    walk_at "ss"
    refine ⟨x, T.C_Formula, dx, [], rfl, hx3, T.cl_Formula, T.n_Formula__alphabet, (by show 0 < 1000; decide), ?_⟩
    walk_at "ss"
    refine ⟨r, _, rfl, .inl (SqL.of (by rw [upd_ne hr2]; exact hxs3)), fun l hl4 => ?_⟩
    have lx : l ≠ x := ne_none hl4 upd_same
    have hl3 : H3 l = none := by rw [upd_ne lx] at hl4; exact hl4
    refine ⟨_, rfl, x, T.C_Formula, dx, _, rfl, by rw [upd_ne lx.symm]; exact upd_same, T.cl_Formula, T.n_Formula__lines, (by show 1 < 1000; decide), ?_⟩
    walk_at "ss"
    refine ⟨x, T.C_Formula, dx, _, rfl, upd_same, T.cl_Formula, T.n_Formula__first, (by show 2 < 1000; decide), ?_⟩
    have s3' := s12.trans s3
    have kp : ∀ o1 o2 o3 o4 c o, c ≠ x → H3 c = some o → (upd (upd (upd (upd H3 x o1) l o2) x o3) x o4) c = some o := fun o1 o2 o3 o4 c o ne h => by
      rw [upd_ne ne, upd_ne ne, upd_ne (ne_of_none h hl3), upd_ne ne]
      exact h
    obtain ⟨ps, p1, p2, p3⟩ := hf3
    rw [hxs3] at p1
    cases p1
    exact q _ (fun c o ne h => kp _ _ _ _ c o ne (s3' _ _ h)) ⟨⟨dx, l, upd_same, ps, by rw [upd_ne lx, upd_ne lx, upd_same], p2, fun i p f a b => (p3 i p f a b).but hx3 (kp _ _ _ _)⟩, hA, ok, hm⟩
end

/-! ### the truths of the lines, moment by moment -/
def evL (f : FL) (tr past : List Bool) (at_ cnt c : Nat) : Bool × Nat :=
  match f with
  | .is z => (decide (c ∈ z), cnt)
  | .not i => (!(tr.getD i false), cnt)
  | .and rs => (rs.all fun r => tr.getD r false, cnt)
  | .or rs => (rs.any fun r => tr.getD r false, cnt)
  | .before i => (past.getD i false, cnt)
  | .since i j => (tr.getD j false || (tr.getD i false && past.getD at_ false), cnt)
  | .count i p r => let n := if tr.getD i false then (cnt + 1) % p else cnt; (decide (n = r), n)
def stepL (fls : List FL) (c : Nat) (past : List Bool) (cn : List Nat) : Nat → List Bool × List Nat
  | 0 => ([], cn)
  | k + 1 => match fls[k]? with
    | some f => ((stepL fls c past cn k).1 ++ [(evL f (stepL fls c past cn k).1 past k (cn.getD k 0) c).1], (stepL fls c past cn k).2.set k (evL f (stepL fls c past cn k).1 past k (cn.getD k 0) c).2)
    | none => stepL fls c past cn k
theorem stepL_len {fls : List FL} {c : Nat} {past : List Bool} {cn : List Nat} : ∀ {k : Nat}, k ≤ fls.length → (stepL fls c past cn k).1.length = k ∧ (stepL fls c past cn k).2.length = cn.length
  | 0, _ => ⟨rfl, rfl⟩
  | k + 1, h => by
    obtain ⟨a, b⟩ := stepL_len (fls := fls) (c := c) (past := past) (cn := cn) (k := k) (by omega)
    have e : fls[k]? = some fls[k] := List.getElem?_eq_getElem (by omega)
    unfold stepL
    rw [e]
    exact ⟨by simp [a], by simp [b]⟩
def boolL (bs : List Bool) : List V := bs.map V.bl
theorem boolL_at {bs : List Bool} {i : Nat} (h : i < bs.length) : (boolL bs)[i]? = some (.bl (bs.getD i false)) := by
  unfold boolL
  rw [List.getElem?_map, List.getD_eq_getElem?_getD, List.getElem?_eq_getElem h]
  rfl
theorem natL_at {ns : List Nat} {i : Nat} (h : i < ns.length) : (natL ns)[i]? = some (.int (ns.getD i 0 : Nat)) := by
  unfold natL
  rw [List.getElem?_map, List.getD_eq_getElem?_getD, List.getElem?_eq_getElem h]
  rfl
theorem boolL_len (bs : List Bool) : (boolL bs).length = bs.length := by unfold boolL; rw [List.length_map]
theorem boolL_snoc (bs : List Bool) (b : Bool) : boolL (bs ++ [b]) = boolL bs ++ [.bl b] := by unfold boolL; rw [List.map_append]; rfl
theorem stepL_keep {fls : List FL} {c : Nat} {past : List Bool} {cn : List Nat} : ∀ {k j : Nat}, k ≤ j → (stepL fls c past cn k).2.getD j 0 = cn.getD j 0
  | 0, _, _ => rfl
  | k + 1, j, h => by
    have ih := stepL_keep (fls := fls) (c := c) (past := past) (cn := cn) (k := k) (j := j) (by omega)
    unfold stepL
    cases fls[k]? with
    | none => exact ih
    | some f =>
      show (List.set _ k _).getD j 0 = _
      rw [List.getD_eq_getElem?_getD, List.getElem?_set_ne (by omega), ← List.getD_eq_getElem?_getD]
      exact ih
theorem natL_len (ns : List Nat) : (natL ns).length = ns.length := by unfold natL; rw [List.length_map]
def spNext : Sp := fun vs H Q _ => ∃ (r p k : Addr) (c : Nat) (al : List Nat) (fls : List FL) (past : List Bool) (cn : List Nat), vs = [.ref r, .str ⟨#[c]⟩, .ref p, .ref k] ∧ FLs H r fls ∧ FOk al fls ∧ al.length ≤ 4 ∧ fls.length ≤ 1000 ∧ H p = some (.lst (boolL past)) ∧ H k = some (.lst (natL cn)) ∧
  past.length = fls.length ∧ cn.length = fls.length ∧ ∀ (u t f : Addr) (H' : Hp), H' u = some (.tup [.ref t, .ref f]) → H' t = some (.lst (boolL (stepL fls c past cn fls.length).1)) → H' f = some (.lst (natL (stepL fls c past cn fls.length).2)) → Same H H' → Q (.ref u) H'
section
variable {P : Program} {w : World} {K : PySem.W.Frag} {mg : Str → Option Value} {base : Heap}
theorem ok_next_truths (T : Env K mg) : FnOk P w K mg base CX0 1 T.f_next_truths T.fd_next_truths ["lines", "letter", "past", "counts"] spNext := by
  refine T.F_next_truths.ok sc_next_truths (fun vs H Q E h => ?_) (fun cdv A outer s H vs Q E hr h => ⟨_, ((pss_cons (ps_set (i := 4) sc_next_truths.nd rfl (.inr rfl) (pe_lst pa_nil))
      (pss_cons (ps_set (i := 5) sc_next_truths.nd rfl (.inl rfl) (pe_callTy call_list_of (by rfl) T.z_list (by decide +kernel) (pa_cons (pv 3) pa_nil)))
      (pss_cons (ps_for PassesOwn.never rfl (pi_enum (by rfl) T.z_enumerate (pa_cons (pv 0) pa_nil)) (pg_tup (by rfl) (pgs_cons (pg_name (i := 6) sc_next_truths.nd rfl (.inl rfl)) (pgs_cons (pg_name (i := 7) sc_next_truths.nd rfl (.inl rfl)) pgs_nil)))
      (pss_cons (ps_set (i := 8) sc_next_truths.nd rfl (.inl rfl) (pe_ix ix_tup (pv 7) pe_int (fun _ _ => rfl)))
      (pss_cons (ps_if (pt_cmpR op_eq (pv 8) pe_str (nomark _))
      (pss_one (ps_set (i := 9) sc_next_truths.nd rfl (.inl rfl) (pe_cmpR op_in_sign (pv 1) (pe_ix ix_tup (pv 7) pe_int (fun _ _ => rfl)) (by rfl))))
      (pss_one (ps_if (pt_cmpR op_eq (pv 8) pe_str (nomark _))
      (pss_one (ps_set (i := 9) sc_next_truths.nd rfl (.inl rfl) (pe_not (pe_ix ix_list (pv 4) (pe_ix ix_tup (pv 7) pe_int (fun _ _ => rfl)) (fun _ _ => rfl)))))
      (pss_one (ps_if (pt_cmpR op_eq (pv 8) pe_str (nomark _))
      (pss_one (ps_set (i := 9) sc_next_truths.nd rfl (.inl rfl) (pe_callB (cr_all rfl) (by rfl) T.z_all (by decide +kernel) (pa_cons (pe_lc (own := [("ref", 10)]) (g := (gName 10)) (tt := tYes) (te := (tOp (rIxL K) _ _)) rfl sc_next_truths.nd (pi_tup (pe_ix ix_tup (pv 7) pe_int (fun _ _ => rfl))) (blkOk_by (own := [("ref", 10)]) (N := N_next_truths) (sc := defScope s_next_truths) (by decide +kernel)) (fun _ _ _ _ _ => (pg_name (i := 10) sc_next_truths.nd rfl (.inl rfl))) (fun _ _ _ _ _ => pts_nil) (fun _ _ _ _ _ => (pe_ix ix_list (pv 4) (pv 10) (fun _ _ => rfl)))) pa_nil))))
      (pss_one (ps_if (pt_cmpR op_eq (pv 8) pe_str (nomark _))
      (pss_one (ps_set (i := 9) sc_next_truths.nd rfl (.inl rfl) (pe_callB (cr_any rfl) (by rfl) T.z_any (by decide +kernel) (pa_cons (pe_lc (own := [("ref", 10)]) (g := (gName 10)) (tt := tYes) (te := (tOp (rIxL K) _ _)) rfl sc_next_truths.nd (pi_tup (pe_ix ix_tup (pv 7) pe_int (fun _ _ => rfl))) (blkOk_by (own := [("ref", 10)]) (N := N_next_truths) (sc := defScope s_next_truths) (by decide +kernel)) (fun _ _ _ _ _ => (pg_name (i := 10) sc_next_truths.nd rfl (.inl rfl))) (fun _ _ _ _ _ => pts_nil) (fun _ _ _ _ _ => (pe_ix ix_list (pv 4) (pv 10) (fun _ _ => rfl)))) pa_nil))))
      (pss_one (ps_if (pt_cmpR op_eq (pv 8) pe_str (nomark _))
      (pss_one (ps_set (i := 9) sc_next_truths.nd rfl (.inl rfl) (pe_ix ix_list (pv 2) (pe_ix ix_tup (pv 7) pe_int (fun _ _ => rfl)) (fun _ _ => rfl))))
      (pss_one (ps_if (pt_cmpR op_eq (pv 8) pe_str (nomark _))
      (pss_one (ps_set (i := 9) sc_next_truths.nd rfl (.inl rfl) (pe_or (pe_ix ix_list (pv 4) (pe_ix ix_tup (pv 7) pe_int (fun _ _ => rfl)) (fun _ _ => rfl)) (pe_one (pe_and (pe_ix ix_list (pv 4) (pe_ix ix_tup (pv 7) pe_int (fun _ _ => rfl)) (fun _ _ => rfl)) (pe_one (pe_ix ix_list (pv 2) (pv 6) (fun _ _ => rfl))))))))
      (pss_cons (ps_if (pt_val (pe_ix ix_list (pv 4) (pe_ix ix_tup (pv 7) pe_int (fun _ _ => rfl)) (fun _ _ => rfl)))
      (pss_one (ps_asg (pe_op op_mod (pe_op op_add (pe_ix ix_list (pv 3) (pv 6) (fun _ _ => rfl)) pe_int) (pe_ix ix_tup (pv 7) pe_int (fun _ _ => rfl))) (pg_sub (pv 5) (pv 6) set_list)))
      pss_nil)
      (pss_one (ps_set (i := 9) sc_next_truths.nd rfl (.inl rfl) (pe_cmpR op_eq (pe_ix ix_list (pv 5) (pv 6) (fun _ _ => rfl)) (pe_ix ix_tup (pv 7) pe_int (fun _ _ => rfl)) (nomark _))))))))))))))))
      (pss_one (ps_expr (pe_bm PySem.F.plainAttrs_list PySem.F.slot_list_append PySem.F.type_list_append mt_append (pv 4) (pa_cons (pv 9) pa_nil)))))))
      (pss_one (ps_ret (pe_tup (pa_cons (pv 4) (pa_cons (pv 5) pa_nil))))))))), ?_⟩)
  · obtain ⟨r, p, k, c, al, fls, past, cn, rfl, _⟩ := h
    rfl
  · obtain ⟨r, p, k, c, al, fls, past, cn, rfl, hf, ok, hal, hn, hp, hk, lp, lk, q⟩ := h
    walk_at "ss"
    intro t ht
    have s1 := same_upd (o := .lst []) ht
    walk_at "ss"
    refine ⟨k, _, rfl, .inl (SqL.of (s1 _ _ hk)), fun f hfr => ?_⟩
    have hfH : H f = none := by
      cases e : H f with
      | none => rfl
      | some o => rw [s1 _ _ e] at hfr; cases hfr
    have tf : t ≠ f := ne_of_none upd_same hfr
    have s2 : Same H (upd (upd H t (.lst [])) f (.lst (natL cn))) := s1.trans (same_upd hfr)
    have ht2 : upd (upd H t (.lst [])) f (.lst (natL cn)) t = some (.lst (boolL (stepL fls c past cn 0).1)) := by rw [upd_ne tf]; exact upd_same
    have hf2 : upd (upd H t (.lst [])) f (.lst (natL cn)) f = some (.lst (natL (stepL fls c past cn 0).2)) := upd_same
    generalize upd (upd H t (.lst [])) f (.lst (natL cn)) = G0 at *
    obtain ⟨xs, hx, hl⟩ := hf.len
    have hxq : SqL K G0 r xs := SqL.of (s2 _ _ hx)
    walk_at "ss"
    refine for_it walk_enum (fun i σ H' => Stp (Same H H' ∧ H' t = some (.lst (boolL (stepL fls c past cn i).1)) ∧ H' f = some (.lst (natL (stepL fls c past cn i).2)) ∧ ∃ y6 y7 y8 y9 y10 : Option V, σ = [some (.ref r), some (.str ⟨#[c]⟩), some (.ref p), some (.ref k), some (.ref t), some (.ref f), y6, y7, y8, y9, y10]))
      (.mk ⟨s2, ht2, hf2, _, _, _, _, _, rfl⟩) (fun i σ H' _ h => SqL.of (h.of.1 _ _ hx)) ?_ ?_
    · clear s2 ht2 hf2 hxq
      rintro i y σ H3 H4 hi hP ⟨Tt, u, v, rfl, nT, rfl, eu, ev⟩
      obtain ⟨s3, ht3, hf3, y6, y7, y8, y9, y10, rfl⟩ := hP.of
      clear hP
      cases eu
      obtain ⟨fl, hfi⟩ : ∃ f, fls[i]? = some f := ⟨_, List.getElem?_eq_getElem (by omega)⟩
      obtain ⟨xs2, pl, g1, g2, g3, g4⟩ := hf.at_ hfi
      rw [hx] at g1
      cases g1
      have ev : xs[i]? = some v := ev
      rw [g3] at ev
      cases ev
      have s4 : Same H3 (upd H3 Tt (.tup [.int (i : Nat), .ref pl])) := same_upd nT
      refine ⟨Tt, _, rfl, .inl (.inl upd_same), rfl, _, _, rfl, _, _, rfl, rfl, ?_⟩
      have s5 := s3.trans s4
      have ht5 := s4 _ _ ht3
      have hf5 := s4 _ _ hf3
      clear s3 s4 ht3 hf3 nT
      generalize upd H3 Tt (.tup [.int (i : Nat), .ref pl]) = G5 at *
      obtain ⟨l1, l2⟩ := stepL_len (fls := fls) (c := c) (past := past) (cn := cn) (k := i) (by omega)
      have nx : stepL fls c past cn (i + 1) = ((stepL fls c past cn i).1 ++ [(evL fl (stepL fls c past cn i).1 past i (cn.getD i 0) c).1], (stepL fls c past cn i).2.set i (evL fl (stepL fls c past cn i).1 past i (cn.getD i 0) c).2) := by
        show (match fls[i]? with | some f => _ | none => _) = _
        rw [hfi]
      have keep0 := stepL_keep (fls := fls) (c := c) (past := past) (cn := cn) (k := i) (j := i) (Nat.le_refl _)
      generalize stepL fls c past cn (i + 1) = S1 at *
      generalize stepL fls c past cn i = S0 at *
      obtain ⟨tr, fr⟩ := S0
      have l1 : tr.length = i := l1
      have l2 : fr.length = cn.length := l2
      have keep : fr.set i (cn.getD i 0) = fr := by
        have k0 : fr.getD i 0 = cn.getD i 0 := keep0
        rw [← k0, List.getD_eq_getElem?_getD, List.getElem?_eq_getElem (by omega)]
        exact List.set_getElem_self (by omega)
      have ht5 : G5 t = some (.lst (boolL tr)) := ht5
      have hf5 : G5 f = some (.lst (natL fr)) := hf5
      have okf := ok i fl hfi
      have gp := g4.same s5
      have hp5 := s5 _ _ hp
      have hk5 := s5 _ _ hk
      walk_at "ss"
      cases fl with
      | is z =>
        have gp : G5 pl = some (.tup [.str "is", strL z]) := gp
        refine ⟨pl, _, 0, _, rfl, rfl, SqT.of gp, rfl, ?_⟩
        walk_at "ss"
        refine ⟨pl, _, 1, _, rfl, rfl, SqT.of gp, rfl, ?_⟩
        walk_at "ss"
        refine ⟨.inl ⟨rfl, _, SqL.of ht5⟩, ?_⟩
        walk_at "ss"
        refine ⟨t, _, _, rfl, rfl, ht5, szl (by rw [boolL_len]; omega), ?_⟩
        refine .mk ⟨same_mut (s5) ht, ?_, ?_, _, _, _, _, _, rfl⟩
        · rw [upd_same, nx]
          exact congrArg (fun l => some (HO.lst l)) (boolL_snoc _ _).symm
        · rw [upd_ne tf.symm, nx]
          show _ = some (HO.lst (natL (fr.set i (cn.getD i 0))))
          rw [keep]
          exact hf5
      | not j =>
        have gp : G5 pl = some (.tup [.str "not", .int (j : Nat)]) := gp
        refine ⟨pl, _, 0, _, rfl, rfl, SqT.of gp, rfl, ?_⟩
        walk_at "ss"
        refine ⟨pl, _, 1, _, rfl, rfl, SqT.of gp, rfl, ?_⟩
        walk_at "ss"
        have okf : j < i := okf
        refine ⟨t, _, _, _, rfl, rfl, SqL.of ht5, atI_nat (boolL_at (by omega)), ?_⟩
        walk_at "ss"
        refine ⟨.inl ⟨rfl, _, SqL.of ht5⟩, ?_⟩
        walk_at "ss"
        refine ⟨t, _, _, rfl, rfl, ht5, szl (by rw [boolL_len]; omega), ?_⟩
        refine .mk ⟨same_mut (s5) ht, ?_, ?_, _, _, _, _, _, rfl⟩
        · rw [upd_same, nx]
          exact congrArg (fun l => some (HO.lst l)) (boolL_snoc _ _).symm
        · rw [upd_ne tf.symm, nx]
          show _ = some (HO.lst (natL (fr.set i (cn.getD i 0))))
          rw [keep]
          exact hf5
      | and rs =>
        obtain ⟨q0, gp, gq⟩ := gp
        have gp : G5 pl = some (.tup [.str "and", .ref q0]) := gp
        refine ⟨pl, _, 0, _, rfl, rfl, SqT.of gp, rfl, ?_⟩
        walk_at "ss"
        refine ⟨pl, _, 1, _, rfl, rfl, SqT.of gp, rfl, ?_⟩
        walk_at "ss"
        refine ⟨⟨_, SqT.of gq⟩, ?_⟩
        intro D hD
        have okf : (∀ r ∈ rs, r < i) ∧ rs.Pairwise (· < ·) ∧ rs.length ≤ 100 := okf
        refine lc_gen walk_tup (fun H' => Same G5 H') (fun k2 y => ∃ r, rs[k2]? = some r ∧ y = V.bl (tr.getD r false)) (by rw [natL_len]; omega) (same_upd hD) (fun _ h => same_tup h (SqT.of gq)) (fun _ _ h => same_mut h hD) ?_ ?_
        · rintro k2 x H1 H2 Q1 hlt2 hI ⟨rfl, hx⟩ - hQ
          have hx : (natL rs)[k2]? = some x := hx
          have k2l : k2 < rs.length := by rw [natL_len] at hlt2; exact hlt2
          have er : rs[k2]? = some (rs.getD k2 0) := by rw [List.getD_eq_getElem?_getD, List.getElem?_eq_getElem k2l]; rfl
          rw [natL_at k2l] at hx
          cases hx
          have lt := okf.1 _ (List.mem_of_getElem? er)
          walk_at "ss"
          refine ⟨t, _, _, _, rfl, rfl, SqL.of (hI _ _ ht5), atI_nat (boolL_at (by omega)), ?_⟩
          exact hQ _ _ ⟨_, er, rfl⟩ hI fun _ h => h
        · intro H1 ys hI hy hl2 hr2
          have e : ys = (rs.map fun r => tr.getD r false).map V.bl := by
            rw [List.map_map]
            exact ys_map (by rw [hl2, natL_len]) hr2
          subst e
          walk_at "ss"
          refine ⟨D, _, rfl, SqL.of hy, ?_⟩
          rw [show (rs.map fun r => tr.getD r false).all id = rs.all (fun r => tr.getD r false) by rw [List.all_map]; rfl]
          walk_at "ss"
          refine ⟨.inl ⟨rfl, _, SqL.of (hI _ _ ht5)⟩, ?_⟩
          walk_at "ss"
          refine ⟨t, _, _, rfl, rfl, (hI _ _ ht5), szl (by rw [boolL_len]; omega), ?_⟩
          refine .mk ⟨same_mut (s5.trans hI) ht, ?_, ?_, _, _, _, _, _, rfl⟩
          · rw [upd_same, nx]
            exact congrArg (fun l => some (HO.lst l)) (boolL_snoc _ _).symm
          · rw [upd_ne tf.symm, nx]
            show _ = some (HO.lst (natL (fr.set i (cn.getD i 0))))
            rw [keep]
            exact (hI _ _ hf5)
      | or rs =>
        obtain ⟨q0, gp, gq⟩ := gp
        have gp : G5 pl = some (.tup [.str "or", .ref q0]) := gp
        refine ⟨pl, _, 0, _, rfl, rfl, SqT.of gp, rfl, ?_⟩
        walk_at "ss"
        refine ⟨pl, _, 1, _, rfl, rfl, SqT.of gp, rfl, ?_⟩
        walk_at "ss"
        refine ⟨⟨_, SqT.of gq⟩, ?_⟩
        intro D hD
        have okf : (∀ r ∈ rs, r < i) ∧ rs.Pairwise (· < ·) ∧ rs.length ≤ 100 := okf
        refine lc_gen walk_tup (fun H' => Same G5 H') (fun k2 y => ∃ r, rs[k2]? = some r ∧ y = V.bl (tr.getD r false)) (by rw [natL_len]; omega) (same_upd hD) (fun _ h => same_tup h (SqT.of gq)) (fun _ _ h => same_mut h hD) ?_ ?_
        · rintro k2 x H1 H2 Q1 hlt2 hI ⟨rfl, hx⟩ - hQ
          have hx : (natL rs)[k2]? = some x := hx
          have k2l : k2 < rs.length := by rw [natL_len] at hlt2; exact hlt2
          have er : rs[k2]? = some (rs.getD k2 0) := by rw [List.getD_eq_getElem?_getD, List.getElem?_eq_getElem k2l]; rfl
          rw [natL_at k2l] at hx
          cases hx
          have lt := okf.1 _ (List.mem_of_getElem? er)
          walk_at "ss"
          refine ⟨t, _, _, _, rfl, rfl, SqL.of (hI _ _ ht5), atI_nat (boolL_at (by omega)), ?_⟩
          exact hQ _ _ ⟨_, er, rfl⟩ hI fun _ h => h
        · intro H1 ys hI hy hl2 hr2
          have e : ys = (rs.map fun r => tr.getD r false).map V.bl := by
            rw [List.map_map]
            exact ys_map (by rw [hl2, natL_len]) hr2
          subst e
          walk_at "ss"
          refine ⟨D, _, rfl, SqL.of hy, ?_⟩
          rw [show (rs.map fun r => tr.getD r false).any id = rs.any (fun r => tr.getD r false) by rw [List.any_map]; rfl]
          walk_at "ss"
          refine ⟨.inl ⟨rfl, _, SqL.of (hI _ _ ht5)⟩, ?_⟩
          walk_at "ss"
          refine ⟨t, _, _, rfl, rfl, (hI _ _ ht5), szl (by rw [boolL_len]; omega), ?_⟩
          refine .mk ⟨same_mut (s5.trans hI) ht, ?_, ?_, _, _, _, _, _, rfl⟩
          · rw [upd_same, nx]
            exact congrArg (fun l => some (HO.lst l)) (boolL_snoc _ _).symm
          · rw [upd_ne tf.symm, nx]
            show _ = some (HO.lst (natL (fr.set i (cn.getD i 0))))
            rw [keep]
            exact (hI _ _ hf5)
      | before j =>
        have gp : G5 pl = some (.tup [.str "before", .int (j : Nat)]) := gp
        refine ⟨pl, _, 0, _, rfl, rfl, SqT.of gp, rfl, ?_⟩
        walk_at "ss"
        refine ⟨pl, _, 1, _, rfl, rfl, SqT.of gp, rfl, ?_⟩
        walk_at "ss"
        have okf : j < i := okf
        refine ⟨p, _, _, _, rfl, rfl, SqL.of hp5, atI_nat (boolL_at (by omega)), ?_⟩
        walk_at "ss"
        refine ⟨.inl ⟨rfl, _, SqL.of ht5⟩, ?_⟩
        walk_at "ss"
        refine ⟨t, _, _, rfl, rfl, ht5, szl (by rw [boolL_len]; omega), ?_⟩
        refine .mk ⟨same_mut (s5) ht, ?_, ?_, _, _, _, _, _, rfl⟩
        · rw [upd_same, nx]
          exact congrArg (fun l => some (HO.lst l)) (boolL_snoc _ _).symm
        · rw [upd_ne tf.symm, nx]
          show _ = some (HO.lst (natL (fr.set i (cn.getD i 0))))
          rw [keep]
          exact hf5
      | since j j2 =>
        have gp : G5 pl = some (.tup [.str "since", .int (j : Nat), .int (j2 : Nat)]) := gp
        refine ⟨pl, _, 0, _, rfl, rfl, SqT.of gp, rfl, ?_⟩
        walk_at "ss"
        refine ⟨pl, _, 2, _, rfl, rfl, SqT.of gp, rfl, ?_⟩
        walk_at "ss"
        have okf : j < i ∧ j2 < i := okf
        refine ⟨t, _, _, _, rfl, rfl, SqL.of ht5, atI_nat (boolL_at (by omega)), ?_⟩
        walk_at "ss"
        cases hb : tr.getD j2 false with
        | true =>
          have ev : (evL (.since j j2) tr past i (cn.getD i 0) c).1 = true := by
            show (tr.getD j2 false || _) = true
            rw [hb]
            rfl
          walk_at "ss"
          refine ⟨.inl ⟨rfl, _, SqL.of ht5⟩, ?_⟩
          walk_at "ss"
          refine ⟨t, _, _, rfl, rfl, ht5, szl (by rw [boolL_len]; omega), ?_⟩
          refine .mk ⟨same_mut (s5) ht, ?_, ?_, _, _, _, _, _, rfl⟩
          · rw [upd_same, nx, ev]
            exact congrArg (fun l => some (HO.lst l)) (boolL_snoc _ _).symm
          · rw [upd_ne tf.symm, nx]
            show _ = some (HO.lst (natL (fr.set i (cn.getD i 0))))
            rw [keep]
            exact hf5
        | false =>
          walk_at "ss"
          refine ⟨pl, _, 1, _, rfl, rfl, SqT.of gp, rfl, ?_⟩
          walk_at "ss"
          refine ⟨t, _, _, _, rfl, rfl, SqL.of ht5, atI_nat (boolL_at (by omega)), ?_⟩
          walk_at "ss"

          cases hb2 : tr.getD j false with
          | true =>
            have ev : (evL (.since j j2) tr past i (cn.getD i 0) c).1 = past.getD i false := by
              show (tr.getD j2 false || (tr.getD j false && past.getD i false)) = _
              rw [hb, hb2]
              rfl
            walk_at "ss"
            refine ⟨p, _, _, _, rfl, rfl, SqL.of hp5, atI_nat (boolL_at (by omega)), ?_⟩
            walk_at "ss"

            refine ⟨.inl ⟨rfl, _, SqL.of ht5⟩, ?_⟩
            walk_at "ss"
            refine ⟨t, _, _, rfl, rfl, ht5, szl (by rw [boolL_len]; omega), ?_⟩
            refine .mk ⟨same_mut (s5) ht, ?_, ?_, _, _, _, _, _, rfl⟩
            · rw [upd_same, nx, ev]
              exact congrArg (fun l => some (HO.lst l)) (boolL_snoc _ _).symm
            · rw [upd_ne tf.symm, nx]
              show _ = some (HO.lst (natL (fr.set i (cn.getD i 0))))
              rw [keep]
              exact hf5
          | false =>
            have ev : (evL (.since j j2) tr past i (cn.getD i 0) c).1 = false := by
              show (tr.getD j2 false || (tr.getD j false && past.getD i false)) = _
              rw [hb, hb2]
              rfl
            walk_at "ss"
            refine ⟨.inl ⟨rfl, _, SqL.of ht5⟩, ?_⟩
            walk_at "ss"
            refine ⟨t, _, _, rfl, rfl, ht5, szl (by rw [boolL_len]; omega), ?_⟩
            refine .mk ⟨same_mut (s5) ht, ?_, ?_, _, _, _, _, _, rfl⟩
            · rw [upd_same, nx, ev]
              exact congrArg (fun l => some (HO.lst l)) (boolL_snoc _ _).symm
            · rw [upd_ne tf.symm, nx]
              show _ = some (HO.lst (natL (fr.set i (cn.getD i 0))))
              rw [keep]
              exact hf5
      | count j p2 r2 =>
        have gp : G5 pl = some (.tup [.str "count", .int (j : Nat), .int (p2 : Nat), .int (r2 : Nat)]) := gp
        refine ⟨pl, _, 0, _, rfl, rfl, SqT.of gp, rfl, ?_⟩
        walk_at "ss"
        refine ⟨pl, _, 1, _, rfl, rfl, SqT.of gp, rfl, ?_⟩
        walk_at "ss"
        have okf : j < i ∧ p2 ∈ [2, 3, 5] ∧ r2 < p2 := okf
        have p20 : 0 < p2 := by omega
        refine ⟨t, _, _, _, rfl, rfl, SqL.of ht5, atI_nat (boolL_at (by omega)), ?_⟩
        walk_at "ss"
        cases hb : tr.getD j false with
        | true =>
          walk_at "ss"
          refine ⟨k, _, _, _, rfl, rfl, SqL.of hk5, atI_nat (natL_at (by omega)), ?_⟩
          walk_at "ss"
          refine ⟨pl, _, 2, _, rfl, rfl, SqT.of gp, rfl, ?_⟩
          refine ⟨_, _, rfl, rfl, (show (0 : Int) < (p2 : Int) by omega), ?_⟩
          have em : (((cn.getD i 0 : Nat) : Int) + 1) % (p2 : Int) = (((cn.getD i 0 + 1) % p2 : Nat) : Int) := (Int.natCast_emod (cn.getD i 0 + 1) p2).symm
          show gSub (tVar 5) (tVar 6) rSetL (V.int ((((cn.getD i 0 : Nat) : Int) + 1) % (p2 : Int))) _ _ _
          rw [em]
          walk_at "ss"
          refine ⟨f, _, _, i, rfl, rfl, hf5, ixN_in (by omega) (by rw [natL_len]; omega), ?_⟩
          have plf : pl ≠ f := fun z => by rw [z, hf5] at gp; cases gp
          have hf6 : upd G5 f (.lst ((natL fr).set i (.int ((cn.getD i 0 + 1) % p2 : Nat)))) f = some (.lst ((natL fr).set i (.int ((cn.getD i 0 + 1) % p2 : Nat)))) := upd_same
          have ht6 : upd G5 f (.lst ((natL fr).set i (.int ((cn.getD i 0 + 1) % p2 : Nat)))) t = some (.lst (boolL tr)) := by rw [upd_ne tf]; exact ht5
          have gp6 : upd G5 f (.lst ((natL fr).set i (.int ((cn.getD i 0 + 1) % p2 : Nat)))) pl = some (.tup [.str "count", .int (j : Nat), .int (p2 : Nat), .int (r2 : Nat)]) := by rw [upd_ne plf]; exact gp
          have s6 := same_mut (o := .lst ((natL fr).set i (.int ((cn.getD i 0 + 1) % p2 : Nat)))) s5 hfH
          generalize upd G5 f (.lst ((natL fr).set i (.int ((cn.getD i 0 + 1) % p2 : Nat)))) = G6 at *
          have at6 : ((natL fr).set i (V.int ((cn.getD i 0 + 1) % p2 : Nat)))[i]? = some (.int ((cn.getD i 0 + 1) % p2 : Nat)) := List.getElem?_set_self (by rw [natL_len]; omega)
          walk_at "ss"
          refine ⟨f, _, _, _, rfl, rfl, SqL.of hf6, atI_nat at6, ?_⟩
          walk_at "ss"
          refine ⟨pl, _, 3, _, rfl, rfl, SqT.of gp6, rfl, ?_⟩
          walk_at "ss"
          have ev2 : (evL (.count j p2 r2) tr past i (cn.getD i 0) c).2 = (cn.getD i 0 + 1) % p2 := by
            show (if tr.getD j false = true then _ else _) = _
            rw [hb]
            rfl
          have ev : (evL (.count j p2 r2) tr past i (cn.getD i 0) c).1 = decide (V.int ((cn.getD i 0 + 1) % p2 : Nat) = V.int (r2 : Nat)) := by
            show decide ((evL (.count j p2 r2) tr past i (cn.getD i 0) c).2 = r2) = _
            rw [ev2]
            exact decide_eq_decide.mpr ⟨fun h => by rw [h], fun h => by injection h with h; exact Int.ofNat.inj h⟩
          refine ⟨.inl ⟨rfl, _, SqL.of ht6⟩, ?_⟩
          walk_at "ss"
          refine ⟨t, _, _, rfl, rfl, ht6, szl (by rw [boolL_len]; omega), ?_⟩
          refine .mk ⟨same_mut s6 ht, ?_, ?_, _, _, _, _, _, rfl⟩
          · rw [upd_same, nx, ev]
            exact congrArg (fun l => some (HO.lst l)) (boolL_snoc _ _).symm
          · rw [upd_ne tf.symm, nx, ev2]
            show _ = some (HO.lst (natL (fr.set i ((cn.getD i 0 + 1) % p2))))
            rw [hf6]
            unfold natL
            rw [List.map_set]
        | false =>
          walk_at "ss"
          refine ⟨f, _, _, _, rfl, rfl, SqL.of hf5, atI_nat (natL_at (by omega)), ?_⟩
          walk_at "ss"
          refine ⟨pl, _, 3, _, rfl, rfl, SqT.of gp, rfl, ?_⟩
          walk_at "ss"
          have k0 : fr.getD i 0 = cn.getD i 0 := keep0
          have ev2 : (evL (.count j p2 r2) tr past i (cn.getD i 0) c).2 = cn.getD i 0 := by
            show (if tr.getD j false = true then _ else _) = _
            rw [hb]
            rfl
          have ev : (evL (.count j p2 r2) tr past i (cn.getD i 0) c).1 = decide (V.int (fr.getD i 0 : Nat) = V.int (r2 : Nat)) := by
            show decide ((evL (.count j p2 r2) tr past i (cn.getD i 0) c).2 = r2) = _
            rw [ev2, k0]
            exact decide_eq_decide.mpr ⟨fun h => by rw [h], fun h => by injection h with h; exact Int.ofNat.inj h⟩
          refine ⟨.inl ⟨rfl, _, SqL.of ht5⟩, ?_⟩
          walk_at "ss"
          refine ⟨t, _, _, rfl, rfl, ht5, szl (by rw [boolL_len]; omega), ?_⟩
          refine .mk ⟨same_mut s5 ht, ?_, ?_, _, _, _, _, _, rfl⟩
          · rw [upd_same, nx, ev]
            exact congrArg (fun l => some (HO.lst l)) (boolL_snoc _ _).symm
          · rw [upd_ne tf.symm, nx, ev2]
            show _ = some (HO.lst (natL (fr.set i (cn.getD i 0))))
            rw [keep]
            exact hf5
    · rintro σ H3 hP
      obtain ⟨s3, ht3, hf3, y6, y7, y8, y9, y10, rfl⟩ := hP.of
      rw [hl] at ht3 hf3
      walk_at "ss"
      intro u hu
      exact q u t f _ upd_same (same_upd hu _ _ ht3) (same_upd hu _ _ hf3) (s3.trans (same_upd hu))
end

/-- the truths and counts behind a word -/
def runL (fls : List FL) (w : List Nat) : List Bool × List Nat := w.foldl (fun s c => stepL fls c s.1 s.2 fls.length) (List.replicate fls.length false, List.replicate fls.length 0)
theorem runL_snoc (fls : List FL) (w : List Nat) (c : Nat) : runL fls (w ++ [c]) = stepL fls c (runL fls w).1 (runL fls w).2 fls.length := by
  unfold runL
  rw [List.foldl_append]
  rfl
theorem runL_len (fls : List FL) (w : List Nat) : (runL fls w).1.length = fls.length ∧ (runL fls w).2.length = fls.length := by
  have h : ∀ (w : List Nat) (s : List Bool × List Nat), s.1.length = fls.length ∧ s.2.length = fls.length → (w.foldl (fun s c => stepL fls c s.1 s.2 fls.length) s).1.length = fls.length ∧ (w.foldl (fun s c => stepL fls c s.1 s.2 fls.length) s).2.length = fls.length := by
    intro w
    induction w with
    | nil => exact fun s h => h
    | cons c w ih =>
      intro s h
      obtain ⟨a, b⟩ := stepL_len (fls := fls) (c := c) (past := s.1) (cn := s.2) (k := fls.length) (Nat.le_refl _)
      exact ih _ ⟨a, by rw [b]; exact h.2⟩
  exact h w _ ⟨by simp, by simp⟩
def spLast : Sp := fun vs H Q _ => ∃ (r : Addr) (z : Str) (al : List Nat) (fls : List FL), vs = [.ref r, .str z] ∧ FLs H r fls ∧ FOk al fls ∧ al.length ≤ 4 ∧ fls.length ≤ 1000 ∧ z.length ≤ 100000 ∧
  ∀ (t : Addr) (H' : Hp), H' t = some (.lst (boolL (runL fls z.cps.toList).1)) → Same H H' → Q (.ref t) H'
def spTruths (K : PySem.W.Frag) (C : Addr) : Sp := fun vs H Q _ => ∃ (m : Addr) (z al : Str) (fls : List FL) (b : Bool), vs = [.ref m, .str z] ∧ FormAt K C H m al fls b ∧ z.length ≤ 100000 ∧ 1 ≤ z.length ∧ (∀ c ∈ z.cps.toList, c ∈ al.cps.toList) ∧
  ∀ (t : Addr) (H' : Hp), H' t = some (.lst (boolL (runL fls z.cps.toList).1)) → Same H H' → Q (.ref t) H'
section
variable {P : Program} {w : World} {K : PySem.W.Frag} {mg : Str → Option Value} {base : Heap}
theorem ok_last_truths (T : Env K mg) : FnOk P w K mg base CX0 2 T.f_last_truths T.fd_last_truths ["lines", "word"] spLast := by
  refine T.F_last_truths.ok sc_last_truths (fun vs H Q E h => ?_) (fun cdv A outer s H vs Q E hr h => ⟨_, ((pss_cons (ps_setLc (i := 2) (own := [("_", 5)]) (g := (gName 5)) (tt := tYes) rfl sc_last_truths.nd rfl rfl (sw_true rfl rfl rfl (by decide +kernel)) (pi_list (pv 0)) (blkOk_by (own := [("_", 5)]) (N := N_last_truths) (sc := defScope s_last_truths) (by decide +kernel)) (fun _ _ _ _ _ => (pg_name (i := 5) sc_last_truths.nd rfl (.inl rfl))) (fun _ _ _ _ _ => pts_nil) (fun _ _ _ _ _ => pe_bl))
      (pss_cons (ps_setLc (i := 3) (own := [("_", 5)]) (g := (gName 5)) (tt := tYes) rfl sc_last_truths.nd rfl rfl (sw_true rfl rfl rfl (by decide +kernel)) (pi_list (pv 0)) (blkOk_by (own := [("_", 5)]) (N := N_last_truths) (sc := defScope s_last_truths) (by decide +kernel)) (fun _ _ _ _ _ => (pg_name (i := 5) sc_last_truths.nd rfl (.inl rfl))) (fun _ _ _ _ _ => pts_nil) (fun _ _ _ _ _ => pe_int))
      (pss_cons (ps_for PassesOwn.never rfl (pi_str (pv 1)) (pg_name (i := 4) sc_last_truths.nd rfl (.inl rfl))
      (pss_one (ps_asg (pe_call (ok_next_truths T) (hr.mono (by decide)) (by rfl) T.g_next_truths T.F_next_truths.kp T.b_next_truths .nil pass0 (pa_cons (pv 0) (pa_cons (pv 4) (pa_cons (pv 2) (pa_cons (pv 3) pa_nil))))) (pg_tup (by rfl) (pgs_cons (pg_name (i := 2) sc_last_truths.nd rfl (.inl rfl)) (pgs_cons (pg_name (i := 3) sc_last_truths.nd rfl (.inl rfl)) pgs_nil))))))
      (pss_one (ps_ret (pv 2))))))), ?_⟩)
  · obtain ⟨r, z, al, fls, rfl, _⟩ := h
    rfl
  · obtain ⟨r, z, al, fls, rfl, hf, ok, hal, hn, hz, q⟩ := h
    obtain ⟨xs, hx, hl⟩ := hf.len
    walk_at "ss"
    refine ⟨⟨_, SqL.of hx⟩, fun D hD => ?_⟩
    refine lc_gen walk_list (fun H' => Same H H') (fun i y => y = V.bl false) (by rw [hl]; omega) (same_upd hD) (fun _ h => SqL.of (h _ _ hx)) (fun _ _ h => same_mut h hD) ?_ ?_
    · rintro i x H1 H2 Q1 hlt2 hI ⟨rfl, hxx⟩ - hQ
      walk_at "ss"
      exact hQ _ _ rfl hI fun _ h => h
    · intro H1 ys hI hy hl1 hr1
      have e1 : ys = boolL (List.replicate fls.length false) := by
        refine List.ext_getElem (by simp [boolL, hl1, hl]) fun i a b => ?_
        rw [hr1 i _ (List.getElem?_eq_getElem a)]
        simp [boolL]
      subst e1
      walk_at "ss"
      refine ⟨⟨_, SqL.of (hI _ _ hx)⟩, fun D2 hD2 => ?_⟩
      refine lc_gen walk_list (fun H' => Same H1 H') (fun i y => y = V.int 0) (by rw [hl]; omega) (same_upd hD2) (fun _ h => SqL.of (h _ _ (hI _ _ hx))) (fun _ _ h => same_mut h hD2) ?_ ?_
      · rintro i x H2 H3 Q1 hlt2 hI2 ⟨rfl, hxx⟩ - hQ
        walk_at "ss"
        exact hQ _ _ rfl hI2 fun _ h => h
      · intro H2 ys hI2 hy2 hl2 hr2
        have e2 : ys = natL (List.replicate fls.length 0) := by
          refine List.ext_getElem (by simp [natL, hl2, hl]) fun i a b => ?_
          rw [hr2 i _ (List.getElem?_eq_getElem a)]
          simp [natL]
        subst e2
        have s2 := hI.trans hI2
        have hy' := hI2 _ _ hy
        clear hr1 hr2 hl1 hl2 hy hI hI2
        walk_at "ss"
        refine for_it walk_str (fun i σ H' => Stp (∃ (t k : Addr) (y4 y5 : Option V), σ = [some (.ref r), some (.str z), some (.ref t), some (.ref k), y4, y5] ∧ Same H H' ∧ H' t = some (.lst (boolL (runL fls (z.cps.toList.take i)).1)) ∧ H' k = some (.lst (natL (runL fls (z.cps.toList.take i)).2))))
          (.mk ⟨D, D2, _, _, rfl, s2, hy', hy2⟩) (fun _ _ _ _ _ => trivial) ?_ ?_
        · rintro i x σ H3 H4 hi hP ⟨rfl, c, hc, rfl⟩
          obtain ⟨t, k, y4, y5, rfl, s3, ht, hk⟩ := hP.of
          clear hP
          rw [get_tl] at hc
          have tk : z.cps.toList.take (i + 1) = z.cps.toList.take i ++ [c] := by
            rw [List.take_add_one, hc]
            rfl
          obtain ⟨n1, n2⟩ := runL_len fls (z.cps.toList.take i)
          walk_at "ss"
          refine ⟨r, t, k, c, al, fls, _, _, rfl, hf.same s3, ok, hal, hn, ht, hk, n1, n2, fun u t2 k2 H5 hu ht2 hk2 s5 => ?_⟩
          walk_at "ss"
          refine ⟨u, _, rfl, .inl (.inl hu), rfl, _, _, rfl, _, _, rfl, rfl, ?_⟩
          exact .mk ⟨t2, k2, _, _, rfl, s3.trans s5, by rw [tk, runL_snoc]; exact ht2, by rw [tk, runL_snoc]; exact hk2⟩
        · rintro σ H3 hP
          obtain ⟨t, k, y4, y5, rfl, s3, ht, hk⟩ := hP.of
          rw [size_tl, List.take_length] at ht
          walk_at "ss"
          exact q t H3 ht s3
theorem ok_Formula_truths (T : Env K mg) : FnOk P w K mg base CX0 3 T.f_Formula_truths T.fd_Formula_truths ["self", "word"] (spTruths K T.C_Formula) := by
  refine T.F_Formula_truths.ok sc_Formula_truths (fun vs H Q E h => ?_) (fun cdv A outer s H vs Q E hr h => ⟨_, ((pss_cons (ps_if (PW.pt (pw_or (pt_not (pt_val (pe_call (ok_is_word T) (hr.mono (by decide)) (by rfl) T.g_is_word T.F_is_word.kp T.b_is_word .nil pass0 (pa_cons (pe_fld (pv 0) rfl) (pa_cons (pv 1) pa_nil))))) (pw_or1 (pt_not (pt_truth (pv 1) (by intro _; rfl))))))
      (pss_one ps_never)
      pss_nil)
      (pss_one (ps_ret (pe_call (ok_last_truths T) (hr.mono (by decide)) (by rfl) T.g_last_truths T.F_last_truths.kp T.b_last_truths .nil pass0 (pa_cons (pe_fld (pv 0) rfl) (pa_cons (pv 1) pa_nil))))))), ?_⟩)
  · obtain ⟨m, z, al, fls, b, rfl, _⟩ := h
    rfl
  · obtain ⟨m, z, al, fls, b, rfl, M, hz, h1, hw, q⟩ := h
    obtain ⟨dx, l, hm, hf⟩ := M.at_
    walk_at "ss"
    first | refine ⟨m, T.C_Formula, dx, _, _, rfl, hm, T.cl_Formula, T.n_Formula__alphabet, rfl, ?_⟩ | refine ⟨_, rfl, m, T.C_Formula, dx, _, _, rfl, hm, T.cl_Formula, T.n_Formula__alphabet, rfl, ?_⟩
    walk_at "ss"
    refine ⟨al, .str z, rfl, .inl ⟨z, rfl, hz, fun H1 s1 => ?_⟩⟩
    rw [decide_eq_true hw]
    walk_at "ss"
    refine ⟨true, ?_, ?_⟩
    · show z.length ≤ sizeLine ∧ true = ((z.length : Int) != 0)
      refine ⟨sz hz, ?_⟩
      symm
      rw [bne_iff_ne]
      omega
    walk_at "ss"
    first | refine ⟨m, T.C_Formula, dx, _, _, rfl, s1 _ _ hm, T.cl_Formula, T.n_Formula__lines, rfl, ?_⟩ | refine ⟨_, rfl, m, T.C_Formula, dx, _, _, rfl, s1 _ _ hm, T.cl_Formula, T.n_Formula__lines, rfl, ?_⟩
    walk_at "ss"
    exact ⟨l, z, _, fls, rfl, hf.same s1, M.ok, M.alpha.2.1, M.many.2, hz, fun t H' e s' => q t H' e (s1.trans s')⟩
end

/-! ### all words to a length -/
def longer (al : List Nat) (ws : List (List Nat)) : List (List Nat) := ws.flatMap fun w => al.map fun c => w ++ [c]
def levelW (al : List Nat) : Nat → List (List Nat)
  | 0 => [[]]
  | k + 1 => longer al (levelW al k)
def textsW (al : List Nat) : Nat → List (List Nat)
  | 0 => [[]]
  | k + 1 => textsW al k ++ levelW al (k + 1)
theorem longer_mem {al : List Nat} {ws : List (List Nat)} {u : List Nat} (h : u ∈ longer al ws) : ∃ w ∈ ws, ∃ c ∈ al, u = w ++ [c] := by
  obtain ⟨w, hw, hu⟩ := List.mem_flatMap.mp h
  obtain ⟨c, hc, rfl⟩ := List.mem_map.mp hu
  exact ⟨w, hw, c, hc, rfl⟩
theorem longer_len {al : List Nat} (hal : al.length ≤ 4) : ∀ ws : List (List Nat), (longer al ws).length ≤ 4 * ws.length
  | [] => by simp [longer]
  | w :: ws => by
    have ih := longer_len hal ws
    unfold longer at ih ⊢
    rw [List.flatMap_cons, List.length_append, List.length_map, List.length_cons]
    omega
theorem levelW_ok {al : List Nat} : ∀ (k : Nat), ∀ w ∈ levelW al k, w.length = k ∧ ∀ c ∈ w, c ∈ al
  | 0, w, h => by
    rw [List.mem_singleton.mp h]
    exact ⟨rfl, fun c hc => by cases hc⟩
  | k + 1, u, h => by
    obtain ⟨w, hw, c, hc, rfl⟩ := longer_mem h
    obtain ⟨a, b⟩ := levelW_ok k w hw
    refine ⟨by rw [List.length_append, a]; rfl, fun d hd => ?_⟩
    rcases List.mem_append.mp hd with hd | hd
    · exact b d hd
    · rw [List.mem_singleton.mp hd]
      exact hc
theorem levelW_len {al : List Nat} (hal : al.length ≤ 4) : ∀ k : Nat, (levelW al k).length ≤ 4 ^ k
  | 0 => Nat.le_refl 1
  | k + 1 => by
    have ih := levelW_len hal k
    have := longer_len hal (levelW al k)
    rw [Nat.pow_succ]
    show (longer al (levelW al k)).length ≤ _
    omega
theorem textsW_len {al : List Nat} (hal : al.length ≤ 4) : ∀ k : Nat, (textsW al k).length ≤ 2 * 4 ^ k
  | 0 => by show 1 ≤ 2 * 4 ^ 0; decide
  | k + 1 => by
    have ih := textsW_len hal k
    have := levelW_len hal (k + 1)
    show (textsW al k ++ levelW al (k + 1)).length ≤ _
    rw [List.length_append]
    rw [Nat.pow_succ] at this ⊢
    omega
theorem textsW_ok {al : List Nat} : ∀ (k : Nat), ∃ r, textsW al k = [] :: r ∧ ∀ w ∈ r, 1 ≤ w.length ∧ w.length ≤ k ∧ ∀ c ∈ w, c ∈ al
  | 0 => ⟨[], rfl, fun w h => by cases h⟩
  | k + 1 => by
    obtain ⟨r, e, h⟩ := textsW_ok (al := al) k
    refine ⟨r ++ levelW al (k + 1), by show textsW al k ++ _ = _; rw [e]; rfl, fun w hw => ?_⟩
    rcases List.mem_append.mp hw with hw | hw
    · obtain ⟨a, b, c⟩ := h w hw
      exact ⟨a, by omega, c⟩
    · obtain ⟨a, b⟩ := levelW_ok (k + 1) w hw
      exact ⟨by omega, by omega, b⟩
theorem str_push (u : List Nat) (c : Nat) : (⟨u.toArray⟩ : Str) ++ (⟨#[c]⟩ : Str) = ⟨(u ++ [c]).toArray⟩ := by
  show (⟨u.toArray ++ #[c]⟩ : Str) = _
  simp
def wordsV (ws : List (List Nat)) : List V := ws.map strL
theorem wordsV_len (ws : List (List Nat)) : (wordsV ws).length = ws.length := by unfold wordsV; rw [List.length_map]
def spLonger : Sp := fun vs H Q _ => ∃ (a : Addr) (al : Str) (ws : List (List Nat)), vs = [.ref a, .str al] ∧ H a = some (.lst (wordsV ws)) ∧ ws.length ≤ 1000 ∧ al.length ≤ 4 ∧ (∀ w ∈ ws, w.length ≤ 1000) ∧
  ∀ (p : Addr) (H' : Hp), H' p = some (.lst (wordsV (longer al.cps.toList ws))) → H p = none → Same H H' → Q (.ref p) H'
def spTexts : Sp := fun vs H Q _ => ∃ (al : Str) (n : Nat), vs = [.str al, .int (n : Nat)] ∧ n ≤ 4 ∧ al.length ≤ 4 ∧
  ∀ (p : Addr) (H' : Hp), H' p = some (.lst (wordsV (textsW al.cps.toList n))) → H p = none → Same H H' → Q (.ref p) H'
section
variable {P : Program} {w : World} {K : PySem.W.Frag} {mg : Str → Option Value} {base : Heap}
theorem ok_longer (T : Env K mg) : FnOk P w K mg base CX0 1 T.f_longer T.fd_longer ["_law_level", "_law_signs"] spLonger := by
  refine T.F_longer.ok sc_longer (fun vs H Q E h => ?_) (fun cdv A outer s H vs Q E hr h => ⟨_, ((pss_cons (ps_set (i := 2) sc_longer.nd rfl (.inl rfl) (pe_lst pa_nil))
      (pss_cons (ps_for PassesOwn.never rfl (pi_list (pv 0)) (pg_name (i := 3) sc_longer.nd rfl (.inr rfl))
      (pss_one (ps_set (i := 2) sc_longer.nd rfl (.inl rfl) (pe_op op_cat (pv 2) (pe_lc (own := [("_law_sign", 4)]) (g := (gName 4)) (tt := tYes) rfl sc_longer.nd (pi_str (pv 1)) (blkOk_by (own := [("_law_sign", 4)]) (N := N_longer) (sc := defScope s_longer) (by decide +kernel)) (fun _ _ _ _ _ => (pg_name (i := 4) sc_longer.nd rfl (.inl rfl))) (fun _ _ _ _ _ => pts_nil) (fun _ _ _ _ _ => (pe_op op_add_str (pv 3) (pv 4))))))))
      (pss_one (ps_ret (pv 2)))))), ?_⟩)
  · obtain ⟨a, al, ws, rfl, _⟩ := h
    rfl
  · obtain ⟨a, al, ws, rfl, ha, hws, hal, hwl, q⟩ := h
    walk_at "ss"
    intro f0 hf0
    have s0 := same_upd (o := .lst []) hf0
    have haq : SqL K (upd H f0 (.lst [])) a (wordsV ws) := SqL.of (s0 _ _ ha)
    walk_at "ss"
    refine ⟨⟨_, haq⟩, ?_⟩
    refine for_it (walk_list (K := K) (a := a)) (fun i σ H' => Stp (∃ (f : Addr) (y3 y4 : Option V), σ = [some (.ref a), some (.str al), some (.ref f), y3, y4] ∧ Same H H' ∧ H f = none ∧ H' f = some (.lst (wordsV (longer al.cps.toList (ws.take i))))))
      (.mk ⟨f0, _, _, rfl, s0, hf0, upd_same⟩) (fun i σ H' _ h => by
        obtain ⟨_, _, _, _, h4, _⟩ := h.of
        exact SqL.of (h4 _ _ ha)) ?_ ?_
    · clear s0 haq
      rintro i x σ H1 H2 hi hP ⟨rfl, hx⟩
      obtain ⟨f, y3, y4, rfl, s1, hf, hf1⟩ := hP.of
      clear hP
      rw [wordsV_len] at hi
      obtain ⟨u, hu⟩ : ∃ u, ws[i]? = some u := ⟨_, List.getElem?_eq_getElem hi⟩
      have hx : (wordsV ws)[i]? = some x := hx
      unfold wordsV at hx
      rw [List.getElem?_map, hu] at hx
      cases hx
      have ul := hwl u (List.mem_of_getElem? hu)
      have nx : longer al.cps.toList (ws.take (i + 1)) = longer al.cps.toList (ws.take i) ++ al.cps.toList.map fun c => u ++ [c] := by
        rw [List.take_add_one, hu, Option.toList_some]
        unfold longer
        rw [List.flatMap_append, List.flatMap_singleton]
      have ll := longer_len (al := al.cps.toList) (by rw [← len_tl]; exact hal) (ws.take i)
      have tl : (ws.take i).length ≤ 1000 := by rw [List.length_take]; omega
      walk_at "ss"
      intro D hD
      refine lc_gen walk_str (fun H' => Same H2 H') (fun k2 y => ∃ c, al.cps.toList[k2]? = some c ∧ y = strL (u ++ [c])) (by rw [size_tl, ← len_tl]; omega) (same_upd hD) (fun _ _ => trivial) (fun _ _ h => same_mut h hD) ?_ ?_
      · rintro k2 x H3 H4 Q1 hlt2 hI ⟨rfl, c, hc, rfl⟩ - hQ
        rw [get_tl] at hc
        walk_at "ss"
        have lw : (⟨u.toArray⟩ : Str).length = u.length := by show u.toArray.size = _; simp
        have lc : (⟨#[c]⟩ : Str).length = 1 := rfl
        refine ⟨sz (by rw [lw, lc]; omega), ?_⟩
        rw [str_push]
        exact hQ _ _ ⟨c, hc, rfl⟩ hI fun _ h => h
      · intro H3 ys hI hy hl hr2
        have e : ys = wordsV (al.cps.toList.map fun c => u ++ [c]) := by
          unfold wordsV
          rw [List.map_map]
          exact ys_map (by rw [hl, size_tl]) hr2
        subst e
        walk_at "ss"
        have tm : (ws.take i).length ≤ i := by rw [List.length_take]; omega
        have al4 : al.cps.toList.length ≤ 4 := by rw [← len_tl]; exact hal
        refine ⟨f, D, _, _, rfl, rfl, hI _ _ hf1, hy, sz (by rw [wordsV_len, wordsV_len, List.length_map]; omega), fun p hp => ?_⟩
        refine .mk ⟨p, _, _, rfl, (s1.trans hI).trans (same_upd hp), (s1.trans hI).free hp, ?_⟩
        rw [upd_same, nx]
        unfold wordsV
        rw [List.map_append]
    · rintro σ H1 hP
      obtain ⟨f, y3, y4, rfl, s1, hf, hf1⟩ := hP.of
      rw [wordsV_len, List.take_length] at hf1
      walk_at "ss"
      exact q f H1 hf1 hf s1
theorem ok_texts (T : Env K mg) : FnOk P w K mg base CX0 2 T.f_texts T.fd_texts ["_law_signs", "_law_size"] spTexts := by
  refine T.F_texts.ok sc_texts (fun vs H Q E h => ?_) (fun cdv A outer s H vs Q E hr h => ⟨_, ((pss_cons (ps_par (i := 2) (j := 3) (by rfl) sc_texts.nd rfl rfl (by decide) rfl rfl (pa_cons (pe_lst (pa_cons pe_str pa_nil)) (pa_cons (pe_lst (pa_cons pe_str pa_nil)) pa_nil)) (by rfl))
      (pss_cons (ps_for PassesOwn.never rfl (pi_range1 (by rfl) T.z_range (pa_cons (pv 1) pa_nil)) (pg_name (i := 4) sc_texts.nd rfl (.inl rfl))
      (pss_cons (ps_set (i := 3) sc_texts.nd rfl (.inl rfl) (pe_call (ok_longer T) (hr.mono (by decide)) (by rfl) T.g_longer T.F_longer.kp T.b_longer .nil pass0 (pa_cons (pv 3) (pa_cons (pv 0) pa_nil))))
      (pss_one (ps_set (i := 2) sc_texts.nd rfl (.inl rfl) (pe_op op_cat (pv 2) (pv 3))))))
      (pss_one (ps_ret (pv 2)))))), ?_⟩)
  · obtain ⟨al, n, rfl, _⟩ := h
    rfl
  · obtain ⟨al, n, rfl, hn, hal, q⟩ := h
    have al4 : al.cps.toList.length ≤ 4 := by rw [← len_tl]; exact hal
    walk_at "ss"
    intro f0 hf0
    walk_at "ss"
    intro v0 hv0
    have s0 := same_upd (o := .lst [.str (Str.ofString "")]) hf0
    have s1 := s0.trans (same_upd (o := .lst [.str (Str.ofString "")]) hv0)
    have fv : f0 ≠ v0 := ne_of_none upd_same hv0
    have hvH : H v0 = none := by
      cases e : H v0 with
      | none => rfl
      | some o => rw [s0 _ _ e] at hv0; cases hv0
    have hf1 : upd (upd H f0 (.lst [.str (Str.ofString "")])) v0 (.lst [.str (Str.ofString "")]) f0 = some (.lst (wordsV (textsW al.cps.toList 0))) := by rw [upd_ne fv]; exact upd_same
    have hv1 : upd (upd H f0 (.lst [.str (Str.ofString "")])) v0 (.lst [.str (Str.ofString "")]) v0 = some (.lst (wordsV (levelW al.cps.toList 0))) := upd_same
    generalize upd (upd H f0 (.lst [.str (Str.ofString "")])) v0 (.lst [.str (Str.ofString "")]) = G0 at *
    walk_at "ss"
    refine ⟨_, _, rfl, ?_⟩
    obtain ⟨nz, hnz⟩ : ∃ nz : Int, nz = (n : Int) := ⟨_, rfl⟩
    rw [← hnz]
    walk_at "ss"
    refine for_it walk_range (fun i σ H' => Stp (∃ (f v : Addr) (y4 : Option V), σ = [some (.str al), some (.int nz), some (.ref f), some (.ref v), y4] ∧ Same H H' ∧ H f = none ∧ H' f = some (.lst (wordsV (textsW al.cps.toList i))) ∧ H' v = some (.lst (wordsV (levelW al.cps.toList i)))))
      (.mk ⟨f0, v0, _, rfl, s1, hf0, hf1, hv1⟩) (fun _ _ _ _ _ => trivial) ?_ ?_
    · clear s0 s1 hf1 hv1
      rintro i x σ H1 H2 hi hP ⟨rfl, rfl⟩
      obtain ⟨f, v, y4, rfl, s1, hf, hf1, hv1⟩ := hP.of
      clear hP
      have hi : i < n := by omega
      have ll := levelW_len al4 i
      have tl := textsW_len al4 i
      have p4 : 4 ^ i ≤ 4 ^ 4 := Nat.pow_le_pow_right (by decide) (by omega)
      walk_at "ss"
      refine ⟨v, al, levelW al.cps.toList i, rfl, hv1, by omega, hal, fun w hw => by have := (levelW_ok i w hw).1; omega, fun p H3 hp hp0 s3 => ?_⟩
      walk_at "ss"
      have l1 := levelW_len al4 (i + 1)
      have p5 : 4 ^ (i + 1) ≤ 4 ^ 4 := Nat.pow_le_pow_right (by decide) (by omega)
      have hp : H3 p = some (.lst (wordsV (levelW al.cps.toList (i + 1)))) := hp
      refine ⟨f, p, _, _, rfl, rfl, s3 _ _ hf1, hp, sz (by rw [wordsV_len, wordsV_len]; omega), fun g hg => ?_⟩
      refine .mk ⟨g, p, _, rfl, (s1.trans s3).trans (same_upd hg), (s1.trans s3).free hg, ?_, same_upd hg _ _ hp⟩
      rw [upd_same]
      show _ = some (HO.lst (wordsV (textsW al.cps.toList i ++ levelW al.cps.toList (i + 1))))
      unfold wordsV
      rw [List.map_append]
    · rintro σ H1 hP
      obtain ⟨f, v, y4, rfl, s1, hf, hf1, hv1⟩ := hP.of
      rw [show nz.toNat = n by omega] at hf1
      walk_at "ss"
      exact q f H1 hf1 hf s1
end

/-! ### drawn formulas -/
theorem sub_filter : ∀ {z al : List Nat}, z.Sublist al → al.Nodup → z = al.filter fun c => decide (c ∈ z)
  | _, _, .slnil, _ => rfl
  | z, _, .cons (l₂ := l) a h, nd => by
    obtain ⟨n1, n2⟩ := List.nodup_cons.mp nd
    have ih := sub_filter h n2
    have na : a ∉ z := fun hz => n1 (h.subset hz)
    rw [List.filter_cons, if_neg (by simpa using na)]
    exact ih
  | _, _, .cons₂ (l₁ := z) (l₂ := l) a h, nd => by
    obtain ⟨n1, n2⟩ := List.nodup_cons.mp nd
    have ih := sub_filter h n2
    rw [List.filter_cons, if_pos (by simp)]
    have e : (l.filter fun c => decide (c ∈ a :: z)) = l.filter fun c => decide (c ∈ z) := by
      apply List.filter_congr
      intro c hc
      have : c ≠ a := fun x => n1 (x ▸ hc)
      simp [this]
    rw [e, ← ih]
theorem FLAt.kp {b l p : Addr} {H H' : Hp} (k : Kp b H H') (B : BagAt b l H) : ∀ {f : FL}, FLAt H p f → FLAt H' p f := by
  have no : ∀ {a : Addr} {xs : List V}, H a = some (.tup xs) → H' a = some (.tup xs) := fun {a xs} h => k _ _ h fun z => by
    obtain ⟨⟨i, r, m, c, ns, hb, _⟩, _⟩ := B
    rw [z, hb] at h
    cases h
  intro f h
  cases f with
  | is z => exact no h
  | not i => exact no h
  | and rs =>
    obtain ⟨q, a, b⟩ := h
    exact ⟨q, no a, no b⟩
  | or rs =>
    obtain ⟨q, a, b⟩ := h
    exact ⟨q, no a, no b⟩
  | before i => exact no h
  | since i j => exact no h
  | count i p' r => exact no h
theorem FLs.kp {b l r : Addr} {H H' : Hp} {fls : List FL} (h : FLs H r fls) (k : Kp b H H') (B : BagAt b l H) (n : r ≠ b) : FLs H' r fls := by
  obtain ⟨ps, h1, h2, h3⟩ := h
  exact ⟨ps, k _ _ h1 n, h2, fun i p f a b => (h3 i p f a b).kp k B⟩
theorem FLAt.put {r p : Addr} {H : Hp} {xs : List V} {o : HO} (e : H r = some (.lst xs)) : ∀ {f : FL}, FLAt H p f → FLAt (upd H r o) p f := by
  have no : ∀ {a : Addr} {ys : List V}, H a = some (.tup ys) → upd H r o a = some (.tup ys) := fun {a ys} h => by
    rw [upd_ne (fun z => by rw [z, e] at h; cases h)]
    exact h
  intro f h
  cases f with
  | is z => exact no h
  | not i => exact no h
  | and rs =>
    obtain ⟨q, a, b⟩ := h
    exact ⟨q, no a, no b⟩
  | or rs =>
    obtain ⟨q, a, b⟩ := h
    exact ⟨q, no a, no b⟩
  | before i => exact no h
  | since i j => exact no h
  | count i p' r => exact no h
theorem FLs.add {r p : Addr} {H : Hp} {fls : List FL} {f : FL} (h : FLs H r fls) (hp : FLAt H p f) : ∃ xs, H r = some (.lst xs) ∧ xs.length = fls.length ∧ FLs (upd H r (.lst (xs ++ [.ref p]))) r (fls ++ [f]) := by
  obtain ⟨ps, h1, h2, h3⟩ := h
  refine ⟨_, h1, by rw [List.length_map, h2], ps ++ [p], by rw [upd_same, List.map_append]; rfl, by simp [h2], fun i q g a b => ?_⟩
  by_cases hi : i < ps.length
  · rw [List.getElem?_append_left hi] at a
    rw [List.getElem?_append_left (by omega)] at b
    exact (h3 i q g a b).put h1
  · have hi2 : i = ps.length := by
      have := (List.getElem?_eq_some_iff.mp a).1
      simp at this
      omega
    subst hi2
    simp at a
    subst a
    rw [h2] at b
    simp at b
    subst b
    exact hp.put h1
theorem FOk.snoc {al : List Nat} {fls : List FL} {f : FL} (h : FOk al fls) (hf : FLOk al fls.length f) : FOk al (fls ++ [f]) := fun i g e => by
  by_cases hi : i < fls.length
  · rw [List.getElem?_append_left hi] at e
    exact h i g e
  · have hi2 : i = fls.length := by
      have := (List.getElem?_eq_some_iff.mp e).1
      simp at this
      omega
    subst hi2
    simp at e
    rw [← e]
    exact hf
def spSS : Sp := fun vs H Q _ => ∃ (b l : Addr) (al : Str), vs = [.ref b, .str al] ∧ BagAt b l H ∧ al.length ≤ 4 ∧ ∀ (z : List Nat) (H' : Hp), z.Sublist al.cps.toList → BagAt b l H' → Kp b H H' → Q (strL z) H'
def kindsV : List V := [.str "is", .str "not", .str "and", .str "or", .str "before", .str "since", .str "count"]
def spSay : Sp := fun vs H Q _ => ∃ (b l kl : Addr) (al : Str) (many : Int), vs = [.ref b, .str al, .int many, .ref kl] ∧ BagAt b l H ∧ 1 ≤ al.length ∧ al.length ≤ 4 ∧ al.cps.toList.Nodup ∧ 2 ≤ many ∧ many ≤ 6 ∧ H kl = some (.lst kindsV) ∧ kl ≠ b ∧
  ∀ (r : Addr) (fls : List FL) (H' : Hp), FLs H' r fls → FOk al.cps.toList fls → (fls.length : Int) = many → H r = none → BagAt b l H' → Kp b H H' → Q (.ref r) H'
section
variable {P : Program} {w : World} {K : PySem.W.Frag} {mg : Str → Option Value} {base : Heap}
theorem ok_some_signs (T : Env K mg) : FnOk P w K mg base CX0 2 T.f_some_signs T.fd_some_signs ["_law_bag_here", "_law_signs"] spSS := by
  refine T.F_some_signs.ok sc_some_signs (fun vs H Q E h => ?_) (fun cdv A outer s H vs Q E hr h => ⟨_, ((pss_one (ps_ret (pe_join pe_str (pe_lc (own := [("_law_sign", 2)]) (g := (gName 2)) rfl sc_some_signs.nd (pi_str (pv 1)) (blkOk_by (own := [("_law_sign", 2)]) (N := N_some_signs) (sc := defScope s_some_signs) (by decide +kernel)) (fun _ _ _ _ _ => (pg_name (i := 2) sc_some_signs.nd rfl (.inl rfl))) (fun _ _ _ _ _ => (pts_one (pt_cmpR op_eq (pe_call (ok_pull T) (hr.mono (by decide)) (by rfl) T.g_pull T.F_pull.kp T.b_pull .nil pass0 (pa_cons (pv 0) (pa_cons pe_int pa_nil))) pe_int (nomark _)))) (fun _ _ _ _ _ => (pv 2))))))), ?_⟩)
  · obtain ⟨b, l, al, rfl, _⟩ := h
    rfl
  · obtain ⟨b, l, al, rfl, B, hal, q⟩ := h
    walk_at "ss"
    intro D hD
    have nb := B.nb hD
    have nl := B.nl hD
    refine lc_it walk_str (fun i H' => Stp (∃ zs : List Nat, zs.Sublist (al.cps.toList.take i) ∧ H' D = some (.lst ((zs.map sg).map V.str)) ∧ BagAt b l H' ∧ Kp b H H'))
      (.mk ⟨[], List.nil_sublist _, upd_same, B.mut nb nl, Kp.same (same_upd hD)⟩) (fun _ _ _ _ => trivial) ?_ ?_
    · rintro i x H1 H2 hi hP ⟨rfl, c, hc, rfl⟩
      obtain ⟨zs, sub, hz, B2, k2⟩ := hP.of
      clear hP
      rw [get_tl] at hc
      have tk : al.cps.toList.take (i + 1) = al.cps.toList.take i ++ [c] := by
        rw [List.take_add_one, hc]
        rfl
      have zl : zs.length ≤ 4 := by
        have := sub.length_le
        rw [List.length_take, ← len_tl] at this
        omega
      walk_at "ss"
      refine ⟨b, l, _, rfl, B2, by decide, by decide, fun k H3 k0 k1 B3 k3 => ?_⟩
      have hz3 := k3 _ _ hz nb
      walk_at "ss"
      refine ite2 (fun e => ?_) (fun e => ?_)
      · walk_at "ss"
        refine ⟨_, hz3, szl (by rw [List.length_map, List.length_map]; omega), .mk ⟨zs ++ [c], by rw [tk]; exact sub.append (List.Sublist.refl _), ?_, B3.mut nb nl, (k2.trans k3).mut hD⟩⟩
        rw [upd_same, List.map_append, List.map_append]
        rfl
      · exact .mk ⟨zs, by rw [tk]; exact sub.trans (List.sublist_append_left _ _), hz3, B3, k2.trans k3⟩
    · intro H1 hP
      obtain ⟨zs, sub, hz, B2, k2⟩ := hP.of
      have sub2 : zs.Sublist al.cps.toList := sub.trans (List.take_sublist _ _)
      have zl : zs.length ≤ 4 := by
        have := sub2.length_le
        rw [← len_tl] at this
        omega
      walk_at "ss"
      refine ⟨_, D, _, rfl, rfl, .inl (SqL.of hz), ?_, ?_⟩
      · rw [sum_sg, List.length_map]
        have : (Str.ofString "").length = 0 := rfl
        rw [this]
        omega
      · rw [join_sg]
        exact q zs H1 sub2 B2 k2
theorem ok_saying (T : Env K mg) : FnOk P w K mg base CX0 3 T.f_saying T.fd_saying ["_law_bag_here", "_law_signs", "_law_many", "_law_kinds"] spSay := by
  refine T.F_saying.ok sc_saying (fun vs H Q E h => ?_) (fun cdv A outer s H vs Q E hr h => ⟨_, ((pss_cons (ps_set (i := 4) sc_saying.nd rfl (.inl rfl) (pe_lst (pa_cons (pe_tup (pa_cons pe_str (pa_cons (pe_call (ok_some_signs T) (hr.mono (by decide)) (by rfl) T.g_some_signs T.F_some_signs.kp T.b_some_signs .nil pass0 (pa_cons (pv 0) (pa_cons (pv 1) pa_nil))) pa_nil))) pa_nil)))
      (pss_cons (ps_for PassesOwn.never rfl (pi_range2 (by rfl) T.z_range (pa_cons pe_int (pa_cons (pv 2) pa_nil))) (pg_name (i := 5) sc_saying.nd rfl (.inl rfl))
      (pss_cons (ps_asg (pe_tup (pa_cons (pe_call (ok_of T) (hr.mono (by decide)) (by rfl) T.g_of T.F_of.kp T.b_of .nil pass0 (pa_cons (pv 0) (pa_cons (pv 3) pa_nil))) (pa_cons (pe_op op_sub (pe_op op_sub (pv 5) pe_int) (pe_call (ok_of T) (hr.mono (by decide)) (by rfl) T.g_of T.F_of.kp T.b_of .nil pass0 (pa_cons (pv 0) (pa_cons (pe_lst (pa_cons pe_int (pa_cons pe_int (pa_cons (pe_call (ok_pull T) (hr.mono (by decide)) (by rfl) T.g_pull T.F_pull.kp T.b_pull .nil pass0 (pa_cons (pv 0) (pa_cons (pv 5) pa_nil))) pa_nil)))) pa_nil)))) pa_nil))) (pg_tup (by rfl) (pgs_cons (pg_name (i := 6) sc_saying.nd rfl (.inl rfl)) (pgs_cons (pg_name (i := 7) sc_saying.nd rfl (.inr rfl)) pgs_nil))))
      (pss_one (ps_if (pt_cmpR op_eq (pv 6) pe_str (nomark _))
      (pss_one (ps_expr (pe_bm PySem.F.plainAttrs_list PySem.F.slot_list_append PySem.F.type_list_append mt_append (pv 4) (pa_cons (pe_tup (pa_cons pe_str (pa_cons (pe_call (ok_some_signs T) (hr.mono (by decide)) (by rfl) T.g_some_signs T.F_some_signs.kp T.b_some_signs .nil pass0 (pa_cons (pv 0) (pa_cons (pv 1) pa_nil))) pa_nil))) pa_nil))))
      (pss_one (ps_if (pt_cmpR op_in_seq (pv 6) (pe_tup (pa_cons pe_str (pa_cons pe_str pa_nil))) (by rfl))
      (pss_one (ps_expr (pe_bm PySem.F.plainAttrs_list PySem.F.slot_list_append PySem.F.type_list_append mt_append (pv 4) (pa_cons (pe_tup (pa_cons (pv 6) (pa_cons (pe_ifExp (pt_cmpR op_gt (pe_call (ok_pull T) (hr.mono (by decide)) (by rfl) T.g_pull T.F_pull.kp T.b_pull .nil pass0 (pa_cons (pv 0) (pa_cons pe_int pa_nil))) pe_int (nomark _)) (pe_callTy call_tuple_of (by rfl) T.z_tuple (by decide +kernel) (pa_cons (pe_lc (own := [("_law_ref", 9)]) (g := (gName 9)) rfl sc_saying.nd (pi_range1 (by rfl) T.z_range (pa_cons (pv 5) pa_nil)) (blkOk_by (own := [("_law_ref", 9)]) (N := N_saying) (sc := defScope s_saying) (by decide +kernel)) (fun _ _ _ _ _ => (pg_name (i := 9) sc_saying.nd rfl (.inl rfl))) (fun _ _ _ _ _ => (pts_one (PW.pt (pw_or (pt_cmpR op_eq (pv 9) (pv 7) (nomark _)) (pw_or1 (pt_cmpR op_eq (pe_call (ok_pull T) (hr.mono (by decide)) (by rfl) T.g_pull T.F_pull.kp T.b_pull .nil pass0 (pa_cons (pv 0) (pa_cons pe_int pa_nil))) pe_int (nomark _))))))) (fun _ _ _ _ _ => (pv 9))) pa_nil)) (pe_tup pa_nil)) pa_nil))) pa_nil))))
      (pss_one (ps_if (pt_cmpR op_eq (pv 6) pe_str (nomark _))
      (pss_one (ps_expr (pe_bm PySem.F.plainAttrs_list PySem.F.slot_list_append PySem.F.type_list_append mt_append (pv 4) (pa_cons (pe_tup (pa_cons pe_str (pa_cons (pe_call (ok_pull T) (hr.mono (by decide)) (by rfl) T.g_pull T.F_pull.kp T.b_pull .nil pass0 (pa_cons (pv 0) (pa_cons (pv 5) pa_nil))) (pa_cons (pv 7) pa_nil)))) pa_nil))))
      (pss_one (ps_if (pt_cmpR op_eq (pv 6) pe_str (nomark _))
      (pss_cons (ps_set (i := 8) sc_saying.nd rfl (.inl rfl) (pe_call (ok_of T) (hr.mono (by decide)) (by rfl) T.g_of T.F_of.kp T.b_of .nil pass0 (pa_cons (pv 0) (pa_cons (pe_lst (pa_cons pe_int (pa_cons pe_int (pa_cons pe_int (pa_cons pe_int pa_nil))))) pa_nil))))
      (pss_one (ps_expr (pe_bm PySem.F.plainAttrs_list PySem.F.slot_list_append PySem.F.type_list_append mt_append (pv 4) (pa_cons (pe_tup (pa_cons pe_str (pa_cons (pv 7) (pa_cons (pv 8) (pa_cons (pe_call (ok_pull T) (hr.mono (by decide)) (by rfl) T.g_pull T.F_pull.kp T.b_pull .nil pass0 (pa_cons (pv 0) (pa_cons (pv 8) pa_nil))) pa_nil))))) pa_nil)))))
      (pss_one (ps_expr (pe_bm PySem.F.plainAttrs_list PySem.F.slot_list_append PySem.F.type_list_append mt_append (pv 4) (pa_cons (pe_tup (pa_cons (pv 6) (pa_cons (pv 7) pa_nil))) pa_nil))))))))))))))
      (pss_one (ps_ret (pv 4)))))), ?_⟩)
  · obtain ⟨b, l, kl, al, many, rfl, _⟩ := h
    rfl
  · obtain ⟨b, l, kl, al, many, rfl, B, al1, al4, nd, m2, m6, hkl, klb, q⟩ := h
    walk_at "ss"
    refine ⟨b, l, al, rfl, B, al4, fun z0 H1 sub0 B1 k1 => ?_⟩
    have hkl1 := k1 _ _ hkl klb
    walk_at "ss"
    intro p0 hp0
    have s2 := same_upd (o := .tup [.str "is", strL z0]) hp0
    walk_at "ss"
    intro L hL
    have s3 := s2.trans (same_upd (o := .lst [.ref p0]) hL)
    have LH : H L = none := by
      have h2 := s3
      have : H1 L = none := s2.free hL
      cases e : H L with
      | none => rfl
      | some o =>
        by_cases lb : L = b
        · obtain ⟨u, hu⟩ := B1.there
          rw [lb, hu] at this
          cases this
        · rw [k1 _ _ e lb] at this
          cases this
    have B3 := B1.same s3
    have k3 := k1.trans (Kp.same (b := b) s3)
    have hkl3 := s3 _ _ hkl1
    have F3 : FLs (upd (upd H1 p0 (.tup [.str "is", strL z0])) L (.lst [.ref p0])) L [.is z0] := ⟨[p0], upd_same, rfl, fun i q f a b => by
      match i, a, b with
      | 0, a, b =>
        cases a
        cases b
        exact same_upd hL _ _ upd_same
      | i + 1, a, b => simp at a⟩
    have O3 : FOk al.cps.toList [.is z0] := fun i f e => by
      match i, e with
      | 0, e =>
        cases e
        exact sub_filter sub0 nd
      | i + 1, e => simp at e
    clear hp0 hL s2 s3 hkl1 k1 B1
    generalize upd (upd H1 p0 (.tup [.str "is", strL z0])) L (.lst [.ref p0]) = G3 at *
    walk_at "ss"
    refine ⟨_, _, rfl, ⟨by decide, by decide, by omega, by omega⟩, ?_⟩
    refine for_it walk_range (fun i σ H' => Stp (∃ (fls : List FL) (y5 y6 y7 y8 y9 : Option V), σ = [some (.ref b), some (.str al), some (.int many), some (.ref kl), some (.ref L), y5, y6, y7, y8, y9] ∧ FLs H' L fls ∧ FOk al.cps.toList fls ∧ fls.length = i + 1 ∧ BagAt b l H' ∧ Kp b H H' ∧ H' kl = some (.lst kindsV)))
      (.mk ⟨_, _, _, _, _, _, rfl, F3, O3, rfl, B3, k3, hkl3⟩) (fun _ _ _ _ _ => trivial) ?_ ?_
    · clear F3 O3 B3 k3 hkl3
      rintro i x σ H4 H5 hi hP ⟨rfl, rfl⟩
      obtain ⟨fls, y5, y6, y7, y8, y9, rfl, F5, O5, fl5, B5, k5, hkl5⟩ := hP.of
      clear hP
      show gName 5 (V.int (1 + (i : Int))) _ _ _
      obtain ⟨az, haz⟩ : ∃ az : Int, az = 1 + (i : Int) := ⟨_, rfl⟩
      rw [← haz]
      have i6 : i < 5 := by omega
      have Lb : L ≠ b := B.nb LH
      walk_at "ss"
      refine ⟨b, l, _, rfl, B5, .inl ⟨kl, _, rfl, klb, .inl (SqL.of hkl5), (by intro z; cases z), (by show 7 ≤ 100000; decide), fun v H6 hv B6 k6 => ?_⟩⟩
      have F6 := F5.kp k6 B5 Lb
      have hkl6 := k6 _ _ hkl5 klb
      have k06 := k5.trans k6
      clear B5 F5 hkl5 k5 k6
      walk_at "ss"
      refine ⟨b, l, _, rfl, B6, by omega, by omega, fun k H7 kk0 kk1 B7 k7 => ?_⟩
      have F7 := F6.kp k7 B6 Lb
      have hkl7 := k7 _ _ hkl6 klb
      have k07 := k06.trans k7
      clear B6 F6 hkl6 k06 k7
      walk_at "ss"
      intro D hD
      have s8 := same_upd (o := .lst [.int 0, .int 0, .int k]) hD
      walk_at "ss"
      refine ⟨b, l, _, rfl, B7.same s8, .inl ⟨D, _, rfl, B7.nb hD, .inl (SqL.of upd_same), (by intro z; cases z), (by show 3 ≤ 100000; decide), fun u H9 hu B9 k9 => ?_⟩⟩
      obtain ⟨m, rfl, m0, m1⟩ : ∃ m : Int, u = .int m ∧ 0 ≤ m ∧ m < az := by
        simp only [List.mem_cons, List.not_mem_nil, or_false] at hu
        rcases hu with rfl | rfl | rfl <;> exact ⟨_, rfl, by omega, by omega⟩
      have F9 := (F7.same s8).kp k9 (B7.same s8) Lb
      have hkl9 := k9 _ _ (s8 _ _ hkl7) klb
      have k09 := (k07.trans (Kp.same s8)).trans k9
      clear B7 F7 hkl7 k07 s8 hD k9 hu
      obtain ⟨nr, hnr⟩ : ∃ nr : Nat, (nr : Int) = az - 1 - m := ⟨(az - 1 - m).toNat, by omega⟩
      have nri : nr < i + 1 := by omega
      walk_at "ss"
      intro tt htt
      have s10 := same_upd (o := .tup [v, .int (az - 1 - m)]) htt
      have F10 := F9.same s10
      have B10 := B9.same s10
      have hkl10 := s10 _ _ hkl9
      have k010 := k09.trans (Kp.same s10)
      refine ⟨tt, _, rfl, .inl (.inl upd_same), rfl, _, _, rfl, _, _, rfl, rfl, ?_⟩
      clear F9 B9 hkl9 k09 htt s10
      show (_ : Hp → Prop) (upd H9 tt (.tup [v, .int (az - 1 - m)]))
      generalize upd H9 tt (.tup [v, .int (az - 1 - m)]) = G at *
      have tail : ∀ (f : FL) (p : Addr) (G2 : Hp) (y6 y7 y8 y9 : Option V), FLAt G2 p f → FLOk al.cps.toList (i + 1) f → FLs G2 L fls → BagAt b l G2 → Kp b H G2 → G2 kl = some (.lst kindsV) →
          ∃ xs, G2 L = some (.lst xs) ∧ xs.length < 100000 ∧ (∃ (fls : List FL) (z5 z6 z7 z8 z9 : Option V), [some (.ref b), some (.str al), some (.int many), some (.ref kl), some (.ref L), some (.int az), y6, y7, y8, y9] = [some (.ref b), some (.str al), some (.int many), some (.ref kl), some (.ref L), z5, z6, z7, z8, z9] ∧ FLs (upd G2 L (.lst (xs ++ [.ref p]))) L fls ∧ FOk al.cps.toList fls ∧ fls.length = i + 1 + 1 ∧ BagAt b l (upd G2 L (.lst (xs ++ [.ref p]))) ∧ Kp b H (upd G2 L (.lst (xs ++ [.ref p]))) ∧ upd G2 L (.lst (xs ++ [.ref p])) kl = some (.lst kindsV)) := by
        intro f p G2 z6 z7 z8 z9 hf ho F B2 k2 hk2
        obtain ⟨xs, x1, x2, x3⟩ := F.add hf
        have Ll : L ≠ l := B.nl LH
        have klL : kl ≠ L := ne_of_none hkl LH
        exact ⟨xs, x1, by omega, _, _, _, _, _, _, rfl, x3, O5.snoc (by rw [fl5]; exact ho), by rw [List.length_append, fl5]; rfl, B2.mut Lb Ll, k2.mut LH, by rw [upd_ne klL]; exact hk2⟩
      have hv : v = .str "is" ∨ v = .str "not" ∨ v = .str "and" ∨ v = .str "or" ∨ v = .str "before" ∨ v = .str "since" ∨ v = .str "count" := by
        unfold kindsV at hv
        simpa only [List.mem_cons, List.not_mem_nil, or_false] using hv
      rcases hv with rfl | rfl | rfl | rfl | rfl | rfl | rfl
      all_goals obtain ⟨xs0, f1, f2⟩ := F10.len
      · walk_at "ss"
        refine ⟨.inl ⟨rfl, _, SqL.of f1⟩, ?_⟩
        walk_at "ss"
        refine ⟨b, l, al, rfl, B10, al4, fun z2 G2 sub2 B12 k12 => ?_⟩
        walk_at "ss"
        intro tp htp
        have s12 := same_upd (o := .tup [.str "is", strL z2]) htp
        obtain ⟨xs, x1, x2, x3⟩ := tail (.is z2) tp _ _ _ _ _ upd_same (sub_filter sub2 nd) ((F10.kp k12 B10 Lb).same s12) (B12.same s12) ((k010.trans k12).trans (Kp.same s12)) (s12 _ _ (k12 _ _ hkl10 klb))
        refine ⟨L, xs, _, rfl, rfl, x1, szl x2, ?_⟩
        exact .mk x3
      · walk_at "ss"
        intro pt hpt
        have sp := same_upd (o := .tup [.str "and", .str "or"]) hpt
        have F11 := F10.same sp
        have B11 := B10.same sp
        have k11 := k010.trans (Kp.same sp)
        have hkl11 := sp _ _ hkl10
        have f11 := sp _ _ f1
        walk_at "ss"
        refine ⟨pt, _, rfl, .inr (SqT.of upd_same), rfl, rfl, ?_⟩
        rw [show inV (V.str "not") [V.str "and", V.str "or"] = false from by decide +kernel]
        clear F10 B10 k010 hkl10 f1 sp hpt
        generalize upd G pt (.tup [.str "and", .str "or"]) = G1 at *
        walk_at "ss"
        refine ⟨.inl ⟨rfl, _, SqL.of f11⟩, ?_⟩
        walk_at "ss"
        intro tp htp
        have s12 := same_upd (o := .tup [.str "not", .int (az - 1 - m)]) htp
        have fa : FLAt (upd G1 tp (.tup [.str "not", .int (az - 1 - m)])) tp (.not nr) := by
          show _ = some (HO.tup [.str "not", .int (nr : Int)])
          rw [hnr]
          exact upd_same
        obtain ⟨xs, x1, x2, x3⟩ := tail (.not nr) tp _ _ _ _ _ fa nri (F11.same s12) (B11.same s12) (k11.trans (Kp.same s12)) (s12 _ _ hkl11)
        refine ⟨L, xs, _, rfl, rfl, x1, szl x2, ?_⟩
        exact .mk x3
      · walk_at "ss"
        intro pt hpt
        have sp := same_upd (o := .tup [.str "and", .str "or"]) hpt
        have F11 := F10.same sp
        have B11 := B10.same sp
        have k11 := k010.trans (Kp.same sp)
        have hkl11 := sp _ _ hkl10
        have f11 := sp _ _ f1
        walk_at "ss"
        refine ⟨pt, _, rfl, .inr (SqT.of upd_same), rfl, rfl, ?_⟩
        rw [show inV (V.str "and") [V.str "and", V.str "or"] = true from by decide +kernel]
        clear F10 B10 k010 hkl10 f1 sp hpt
        generalize upd G pt (.tup [.str "and", .str "or"]) = G1 at *
        walk_at "ss"
        refine ⟨.inl ⟨rfl, _, SqL.of f11⟩, ?_⟩
        walk_at "ss"
        refine ⟨b, l, _, rfl, B11, by decide, by decide, fun k9 G2 k90 k91 B12 k12 => ?_⟩
        have F12 := F11.kp k12 B11 Lb
        have k012 := k11.trans k12
        have hkl12 := k12 _ _ hkl11 klb
        clear F11 k11 hkl11 f11 B11 k12
        walk_at "ss"
        refine ite2 (fun e => ?_) (fun e => ?_)
        · walk_at "ss"
          intro D2 hD2
          have nb2 := B12.nb hD2
          have nl2 := B12.nl hD2
          refine lc_it walk_range (fun j H' => Stp (∃ rs : List Nat, (∀ r ∈ rs, r < j) ∧ rs.Pairwise (· < ·) ∧ rs.length ≤ j ∧ H' D2 = some (.lst (natL rs)) ∧ BagAt b l H' ∧ Kp b G2 H'))
            (.mk ⟨[], (fun _ h => by cases h), .nil, Nat.le_refl _, upd_same, B12.mut nb2 nl2, Kp.same (same_upd hD2)⟩) (fun _ _ _ _ => trivial) ?_ ?_
          · rintro j x H1 H2 hj hP ⟨rfl, rfl⟩
            obtain ⟨rs, r1, r2, r3, hz, B2, k2⟩ := hP.of
            clear hP
            obtain ⟨jz, hjz⟩ : ∃ jz : Int, jz = 0 + (j : Int) := ⟨_, rfl⟩
            show gName 9 (V.int (0 + (j : Int))) _ _ _
            rw [← hjz]
            have fin : ∀ H5 : Hp, H5 D2 = some (.lst (natL rs)) → BagAt b l H5 → Kp b G2 H5 → Stp (∃ rs' : List Nat, (∀ r ∈ rs', r < j + 1) ∧ rs'.Pairwise (· < ·) ∧ rs'.length ≤ j + 1 ∧ upd H5 D2 (.lst (natL rs ++ [.int jz])) D2 = some (.lst (natL rs')) ∧ BagAt b l (upd H5 D2 (.lst (natL rs ++ [.int jz]))) ∧ Kp b G2 (upd H5 D2 (.lst (natL rs ++ [.int jz])))) := by
              intro H5 h5 B5 k5
              refine .mk ⟨rs ++ [j], fun r hr => ?_, ?_, by rw [List.length_append]; show rs.length + 1 ≤ j + 1; omega, ?_, B5.mut nb2 nl2, k5.mut hD2⟩
              · rcases List.mem_append.mp hr with hr | hr
                · have := r1 r hr
                  omega
                · rw [List.mem_singleton.mp hr]
                  omega
              · refine List.pairwise_append.mpr ⟨r2, List.pairwise_singleton _ _, fun x hx y hy => ?_⟩
                rw [List.mem_singleton.mp hy]
                exact r1 x hx
              · rw [upd_same]
                unfold natL
                rw [List.map_append, hjz, Int.zero_add]
                rfl
            walk_at "ss"
            refine ite2 (fun e2 => ?_) (fun e2 => ?_)
            · walk_at "ss"
              exact ⟨_, hz, szl (by rw [natL_len]; omega), fin _ hz B2 k2⟩
            · walk_at "ss"
              refine ⟨b, l, _, rfl, B2, by decide, by decide, fun k4 H3 _ _ B3 k3 => ?_⟩
              have hz3 := k3 _ _ hz nb2
              walk_at "ss"
              refine ite2 (fun e3 => ?_) (fun e3 => ?_)
              · walk_at "ss"
                exact ⟨_, hz3, szl (by rw [natL_len]; omega), fin _ hz3 B3 (k2.trans k3)⟩
              · exact .mk ⟨rs, fun r hr => by have := r1 r hr; omega, r2, by omega, hz3, B3, k2.trans k3⟩
          · intro H1 hP
            obtain ⟨rs, r1, r2, r3, hz, B2, k2⟩ := hP.of
            clear hP
            walk_at "ss"
            refine ⟨D2, _, rfl, .inl ⟨SqL.of hz, fun q0 hq0 => ?_⟩⟩
            have s5 := same_upd (o := .tup (natL rs)) hq0
            walk_at "ss"
            intro tp htp
            have s6 := s5.trans (same_upd (o := .tup [.str "and", .ref q0]) htp)
            obtain ⟨xs, x1, x2, x3⟩ := tail (.and rs) tp _ _ _ _ _ ⟨q0, upd_same, same_upd htp _ _ upd_same⟩ (show (∀ r ∈ rs, r < i + 1) ∧ rs.Pairwise (· < ·) ∧ rs.length ≤ 100 from ⟨fun r hr => by have := r1 r hr; omega, r2, by omega⟩) ((F12.kp k2 B12 Lb).same s6) (B2.same s6) ((k012.trans k2).trans (Kp.same s6)) (s6 _ _ (k2 _ _ hkl12 klb))
            refine ⟨L, xs, _, rfl, rfl, x1, szl x2, ?_⟩
            exact .mk x3
        · walk_at "ss"
          intro q0 hq0
          have s5 := same_upd (o := .tup []) hq0
          walk_at "ss"
          intro tp htp
          have s6 := s5.trans (same_upd (o := .tup [.str "and", .ref q0]) htp)
          obtain ⟨xs, x1, x2, x3⟩ := tail (.and []) tp _ _ _ _ _ ⟨q0, upd_same, same_upd htp _ _ upd_same⟩ (show (∀ r ∈ ([] : List Nat), r < i + 1) ∧ ([] : List Nat).Pairwise (· < ·) ∧ ([] : List Nat).length ≤ 100 from ⟨(fun _ h => by cases h), .nil, by decide⟩) (F12.same s6) (B12.same s6) (k012.trans (Kp.same s6)) (s6 _ _ hkl12)
          refine ⟨L, xs, _, rfl, rfl, x1, szl x2, ?_⟩
          exact .mk x3
      · walk_at "ss"
        intro pt hpt
        have sp := same_upd (o := .tup [.str "and", .str "or"]) hpt
        have F11 := F10.same sp
        have B11 := B10.same sp
        have k11 := k010.trans (Kp.same sp)
        have hkl11 := sp _ _ hkl10
        have f11 := sp _ _ f1
        walk_at "ss"
        refine ⟨pt, _, rfl, .inr (SqT.of upd_same), rfl, rfl, ?_⟩
        rw [show inV (V.str "or") [V.str "and", V.str "or"] = true from by decide +kernel]
        clear F10 B10 k010 hkl10 f1 sp hpt
        generalize upd G pt (.tup [.str "and", .str "or"]) = G1 at *
        walk_at "ss"
        refine ⟨.inl ⟨rfl, _, SqL.of f11⟩, ?_⟩
        walk_at "ss"
        refine ⟨b, l, _, rfl, B11, by decide, by decide, fun k9 G2 k90 k91 B12 k12 => ?_⟩
        have F12 := F11.kp k12 B11 Lb
        have k012 := k11.trans k12
        have hkl12 := k12 _ _ hkl11 klb
        clear F11 k11 hkl11 f11 B11 k12
        walk_at "ss"
        refine ite2 (fun e => ?_) (fun e => ?_)
        · walk_at "ss"
          intro D2 hD2
          have nb2 := B12.nb hD2
          have nl2 := B12.nl hD2
          refine lc_it walk_range (fun j H' => Stp (∃ rs : List Nat, (∀ r ∈ rs, r < j) ∧ rs.Pairwise (· < ·) ∧ rs.length ≤ j ∧ H' D2 = some (.lst (natL rs)) ∧ BagAt b l H' ∧ Kp b G2 H'))
            (.mk ⟨[], (fun _ h => by cases h), .nil, Nat.le_refl _, upd_same, B12.mut nb2 nl2, Kp.same (same_upd hD2)⟩) (fun _ _ _ _ => trivial) ?_ ?_
          · rintro j x H1 H2 hj hP ⟨rfl, rfl⟩
            obtain ⟨rs, r1, r2, r3, hz, B2, k2⟩ := hP.of
            clear hP
            obtain ⟨jz, hjz⟩ : ∃ jz : Int, jz = 0 + (j : Int) := ⟨_, rfl⟩
            show gName 9 (V.int (0 + (j : Int))) _ _ _
            rw [← hjz]
            have fin : ∀ H5 : Hp, H5 D2 = some (.lst (natL rs)) → BagAt b l H5 → Kp b G2 H5 → Stp (∃ rs' : List Nat, (∀ r ∈ rs', r < j + 1) ∧ rs'.Pairwise (· < ·) ∧ rs'.length ≤ j + 1 ∧ upd H5 D2 (.lst (natL rs ++ [.int jz])) D2 = some (.lst (natL rs')) ∧ BagAt b l (upd H5 D2 (.lst (natL rs ++ [.int jz]))) ∧ Kp b G2 (upd H5 D2 (.lst (natL rs ++ [.int jz])))) := by
              intro H5 h5 B5 k5
              refine .mk ⟨rs ++ [j], fun r hr => ?_, ?_, by rw [List.length_append]; show rs.length + 1 ≤ j + 1; omega, ?_, B5.mut nb2 nl2, k5.mut hD2⟩
              · rcases List.mem_append.mp hr with hr | hr
                · have := r1 r hr
                  omega
                · rw [List.mem_singleton.mp hr]
                  omega
              · refine List.pairwise_append.mpr ⟨r2, List.pairwise_singleton _ _, fun x hx y hy => ?_⟩
                rw [List.mem_singleton.mp hy]
                exact r1 x hx
              · rw [upd_same]
                unfold natL
                rw [List.map_append, hjz, Int.zero_add]
                rfl
            walk_at "ss"
            refine ite2 (fun e2 => ?_) (fun e2 => ?_)
            · walk_at "ss"
              exact ⟨_, hz, szl (by rw [natL_len]; omega), fin _ hz B2 k2⟩
            · walk_at "ss"
              refine ⟨b, l, _, rfl, B2, by decide, by decide, fun k4 H3 _ _ B3 k3 => ?_⟩
              have hz3 := k3 _ _ hz nb2
              walk_at "ss"
              refine ite2 (fun e3 => ?_) (fun e3 => ?_)
              · walk_at "ss"
                exact ⟨_, hz3, szl (by rw [natL_len]; omega), fin _ hz3 B3 (k2.trans k3)⟩
              · exact .mk ⟨rs, fun r hr => by have := r1 r hr; omega, r2, by omega, hz3, B3, k2.trans k3⟩
          · intro H1 hP
            obtain ⟨rs, r1, r2, r3, hz, B2, k2⟩ := hP.of
            clear hP
            walk_at "ss"
            refine ⟨D2, _, rfl, .inl ⟨SqL.of hz, fun q0 hq0 => ?_⟩⟩
            have s5 := same_upd (o := .tup (natL rs)) hq0
            walk_at "ss"
            intro tp htp
            have s6 := s5.trans (same_upd (o := .tup [.str "or", .ref q0]) htp)
            obtain ⟨xs, x1, x2, x3⟩ := tail (.or rs) tp _ _ _ _ _ ⟨q0, upd_same, same_upd htp _ _ upd_same⟩ (show (∀ r ∈ rs, r < i + 1) ∧ rs.Pairwise (· < ·) ∧ rs.length ≤ 100 from ⟨fun r hr => by have := r1 r hr; omega, r2, by omega⟩) ((F12.kp k2 B12 Lb).same s6) (B2.same s6) ((k012.trans k2).trans (Kp.same s6)) (s6 _ _ (k2 _ _ hkl12 klb))
            refine ⟨L, xs, _, rfl, rfl, x1, szl x2, ?_⟩
            exact .mk x3
        · walk_at "ss"
          intro q0 hq0
          have s5 := same_upd (o := .tup []) hq0
          walk_at "ss"
          intro tp htp
          have s6 := s5.trans (same_upd (o := .tup [.str "or", .ref q0]) htp)
          obtain ⟨xs, x1, x2, x3⟩ := tail (.or []) tp _ _ _ _ _ ⟨q0, upd_same, same_upd htp _ _ upd_same⟩ (show (∀ r ∈ ([] : List Nat), r < i + 1) ∧ ([] : List Nat).Pairwise (· < ·) ∧ ([] : List Nat).length ≤ 100 from ⟨(fun _ h => by cases h), .nil, by decide⟩) (F12.same s6) (B12.same s6) (k012.trans (Kp.same s6)) (s6 _ _ hkl12)
          refine ⟨L, xs, _, rfl, rfl, x1, szl x2, ?_⟩
          exact .mk x3
      · walk_at "ss"
        intro pt hpt
        have sp := same_upd (o := .tup [.str "and", .str "or"]) hpt
        have F11 := F10.same sp
        have B11 := B10.same sp
        have k11 := k010.trans (Kp.same sp)
        have hkl11 := sp _ _ hkl10
        have f11 := sp _ _ f1
        walk_at "ss"
        refine ⟨pt, _, rfl, .inr (SqT.of upd_same), rfl, rfl, ?_⟩
        rw [show inV (V.str "before") [V.str "and", V.str "or"] = false from by decide +kernel]
        clear F10 B10 k010 hkl10 f1 sp hpt
        generalize upd G pt (.tup [.str "and", .str "or"]) = G1 at *
        walk_at "ss"
        refine ⟨.inl ⟨rfl, _, SqL.of f11⟩, ?_⟩
        walk_at "ss"
        intro tp htp
        have s12 := same_upd (o := .tup [.str "before", .int (az - 1 - m)]) htp
        have fa : FLAt (upd G1 tp (.tup [.str "before", .int (az - 1 - m)])) tp (.before nr) := by
          show _ = some (HO.tup [.str "before", .int (nr : Int)])
          rw [hnr]
          exact upd_same
        obtain ⟨xs, x1, x2, x3⟩ := tail (.before nr) tp _ _ _ _ _ fa nri (F11.same s12) (B11.same s12) (k11.trans (Kp.same s12)) (s12 _ _ hkl11)
        refine ⟨L, xs, _, rfl, rfl, x1, szl x2, ?_⟩
        exact .mk x3
      · walk_at "ss"
        intro pt hpt
        have sp := same_upd (o := .tup [.str "and", .str "or"]) hpt
        have F11 := F10.same sp
        have B11 := B10.same sp
        have k11 := k010.trans (Kp.same sp)
        have hkl11 := sp _ _ hkl10
        have f11 := sp _ _ f1
        walk_at "ss"
        refine ⟨pt, _, rfl, .inr (SqT.of upd_same), rfl, rfl, ?_⟩
        rw [show inV (V.str "since") [V.str "and", V.str "or"] = false from by decide +kernel]
        clear F10 B10 k010 hkl10 f1 sp hpt
        generalize upd G pt (.tup [.str "and", .str "or"]) = G1 at *
        walk_at "ss"
        refine ⟨.inl ⟨rfl, _, SqL.of f11⟩, ?_⟩
        walk_at "ss"
        refine ⟨b, l, _, rfl, B11, by omega, by omega, fun j G2 j0 j1 B12 k12 => ?_⟩
        obtain ⟨jn, hjn⟩ : ∃ jn : Nat, (jn : Int) = j := ⟨j.toNat, by omega⟩
        walk_at "ss"
        intro tp htp
        have s12 := same_upd (o := .tup [.str "since", .int j, .int (az - 1 - m)]) htp
        have fa : FLAt (upd G2 tp (.tup [.str "since", .int j, .int (az - 1 - m)])) tp (.since jn nr) := by
          show _ = some (HO.tup [.str "since", .int (jn : Int), .int (nr : Int)])
          rw [hnr, hjn]
          exact upd_same
        obtain ⟨xs, x1, x2, x3⟩ := tail (.since jn nr) tp _ _ _ _ _ fa (show jn < i + 1 ∧ nr < i + 1 by omega) ((F11.kp k12 B11 Lb).same s12) (B12.same s12) ((k11.trans k12).trans (Kp.same s12)) (s12 _ _ (k12 _ _ hkl11 klb))
        refine ⟨L, xs, _, rfl, rfl, x1, szl x2, ?_⟩
        exact .mk x3
      · walk_at "ss"
        intro pt hpt
        have sp := same_upd (o := .tup [.str "and", .str "or"]) hpt
        have F11 := F10.same sp
        have B11 := B10.same sp
        have k11 := k010.trans (Kp.same sp)
        have hkl11 := sp _ _ hkl10
        have f11 := sp _ _ f1
        walk_at "ss"
        refine ⟨pt, _, rfl, .inr (SqT.of upd_same), rfl, rfl, ?_⟩
        rw [show inV (V.str "count") [V.str "and", V.str "or"] = false from by decide +kernel]
        clear F10 B10 k010 hkl10 f1 sp hpt
        generalize upd G pt (.tup [.str "and", .str "or"]) = G1 at *
        walk_at "ss"
        intro D2 hD2
        have s12 := same_upd (o := .lst [.int 2, .int 2, .int 3, .int 5]) hD2
        walk_at "ss"
        refine ⟨b, l, _, rfl, B11.same s12, .inl ⟨D2, _, rfl, B11.nb hD2, .inl (SqL.of upd_same), (by intro z; cases z), (by show 4 ≤ 100000; decide), fun u G2 hu B12 k12 => ?_⟩⟩
        obtain ⟨pn, rfl, hpn⟩ : ∃ pn : Nat, u = .int (pn : Int) ∧ pn ∈ [2, 3, 5] := by
          simp only [List.mem_cons, List.not_mem_nil, or_false] at hu
          rcases hu with rfl | rfl | rfl | rfl
          · exact ⟨2, rfl, by decide⟩
          · exact ⟨2, rfl, by decide⟩
          · exact ⟨3, rfl, by decide⟩
          · exact ⟨5, rfl, by decide⟩
        have pn5 : 2 ≤ pn ∧ pn ≤ 5 := by
          simp only [List.mem_cons, List.not_mem_nil, or_false] at hpn
          omega
        have F12 := (F11.same s12).kp k12 (B11.same s12) Lb
        have k012 := (k11.trans (Kp.same s12)).trans k12
        have hkl12 := k12 _ _ (s12 _ _ hkl11) klb
        have f12 := k12 _ _ (s12 _ _ f11) Lb
        clear F11 k11 hkl11 f11 B11 s12 k12 hu hD2
        obtain ⟨pz, hpz⟩ : ∃ pz : Int, pz = (pn : Int) := ⟨_, rfl⟩
        rw [← hpz]
        walk_at "ss"
        refine ⟨.inl ⟨rfl, _, SqL.of f12⟩, ?_⟩
        walk_at "ss"
        refine ⟨b, l, _, rfl, B12, by omega, by omega, fun j G3 j0 j1 B13 k13 => ?_⟩
        obtain ⟨jn, hjn⟩ : ∃ jn : Nat, (jn : Int) = j := ⟨j.toNat, by omega⟩
        walk_at "ss"
        intro tp htp
        have s13 := same_upd (o := .tup [.str "count", .int (az - 1 - m), .int pz, .int j]) htp
        have fa : FLAt (upd G3 tp (.tup [.str "count", .int (az - 1 - m), .int pz, .int j])) tp (.count nr pn jn) := by
          show _ = some (HO.tup [.str "count", .int (nr : Int), .int (pn : Int), .int (jn : Int)])
          rw [hnr, hjn, ← hpz]
          exact upd_same
        obtain ⟨xs, x1, x2, x3⟩ := tail (.count nr pn jn) tp _ _ _ _ _ fa (show nr < i + 1 ∧ pn ∈ [2, 3, 5] ∧ jn < pn from ⟨nri, hpn, by omega⟩) ((F12.kp k13 B12 Lb).same s13) (B13.same s13) ((k012.trans k13).trans (Kp.same s13)) (s13 _ _ (k13 _ _ hkl12 klb))
        refine ⟨L, xs, _, rfl, rfl, x1, szl x2, ?_⟩
        exact .mk x3
    · rintro σ H5 hP
      obtain ⟨fls, y5, y6, y7, y8, y9, rfl, F5, O5, fl5, B5, k5, hkl5⟩ := hP.of
      walk_at "ss"
      exact q L fls H5 F5 O5 (by omega) LH B5 k5
end

/-! ### what the lines say, by the moment ahead -/
def tv (F : List FL) (w : List Nat) (k : Nat) : Bool := (runL F w).1.getD k false
def cv (F : List FL) (w : List Nat) (k : Nat) : Nat := (runL F w).2.getD k 0
theorem tv_nil (F : List FL) (k : Nat) : tv F [] k = false := by
  unfold tv runL
  show (List.replicate F.length false).getD k false = false
  rw [List.getD_eq_getElem?_getD, List.getElem?_replicate]
  split <;> rfl
theorem cv_nil (F : List FL) (k : Nat) : cv F [] k = 0 := by
  unfold cv runL
  show (List.replicate F.length 0).getD k 0 = 0
  rw [List.getD_eq_getElem?_getD, List.getElem?_replicate]
  split <;> rfl
theorem stepL_pre {F : List FL} {c : Nat} {past : List Bool} {cn : List Nat} {k : Nat} : ∀ (j : Nat), k + j ≤ F.length → (∀ r, r < k → (stepL F c past cn (k + j)).1.getD r false = (stepL F c past cn k).1.getD r false)
  | 0, _, _, _ => rfl
  | j + 1, h, r, hr => by
    have ih := stepL_pre (F := F) (c := c) (past := past) (cn := cn) (k := k) j (by omega) r hr
    have e : F[k + j]? = some F[k + j] := List.getElem?_eq_getElem (by omega)
    have ln := (stepL_len (fls := F) (c := c) (past := past) (cn := cn) (k := k + j) (by omega)).1
    show (stepL F c past cn (k + j + 1)).1.getD r false = _
    rw [stepL, e]
    show (_ ++ [_] : List Bool).getD r false = _
    rw [List.getD_eq_getElem?_getD, List.getElem?_append_left (by omega), ← List.getD_eq_getElem?_getD]
    exact ih
theorem stepL_cnt {F : List FL} {c : Nat} {past : List Bool} {cn : List Nat} {k : Nat} : ∀ (j : Nat), k + 1 + j ≤ F.length → (stepL F c past cn (k + 1 + j)).2.getD k 0 = (stepL F c past cn (k + 1)).2.getD k 0
  | 0, _ => rfl
  | j + 1, h => by
    have ih := stepL_cnt (F := F) (c := c) (past := past) (cn := cn) (k := k) j (by omega)
    have e : F[k + 1 + j]? = some F[k + 1 + j] := List.getElem?_eq_getElem (by omega)
    show (stepL F c past cn (k + 1 + j + 1)).2.getD k 0 = _
    rw [stepL, e]
    show (List.set _ (k + 1 + j) _).getD k 0 = _
    rw [List.getD_eq_getElem?_getD, List.getElem?_set_ne (by omega), ← List.getD_eq_getElem?_getD]
    exact ih
/-- a line's truth at a moment: by the truths of the lines ahead of it at this moment, and of the moment ahead -/
theorem tv_step {F : List FL} {k : Nat} {f : FL} (hk : F[k]? = some f) (w : List Nat) (c : Nat) : ∃ tr : List Bool, (∀ r, r < k → tr.getD r false = tv F (w ++ [c]) r) ∧ tv F (w ++ [c]) k = (evL f tr (runL F w).1 k (cv F w k) c).1 ∧ cv F (w ++ [c]) k = (evL f tr (runL F w).1 k (cv F w k) c).2 := by
  have kl := (List.getElem?_eq_some_iff.mp hk).1
  obtain ⟨j, hj⟩ := Nat.exists_eq_add_of_le (Nat.succ_le_of_lt kl)
  have hj : F.length = k + 1 + j := hj
  obtain ⟨l1, l2⟩ := stepL_len (fls := F) (c := c) (past := (runL F w).1) (cn := (runL F w).2) (k := k) (by omega)
  have nx : stepL F c (runL F w).1 (runL F w).2 (k + 1) = ((stepL F c (runL F w).1 (runL F w).2 k).1 ++ [(evL f (stepL F c (runL F w).1 (runL F w).2 k).1 (runL F w).1 k ((runL F w).2.getD k 0) c).1], (stepL F c (runL F w).1 (runL F w).2 k).2.set k (evL f (stepL F c (runL F w).1 (runL F w).2 k).1 (runL F w).1 k ((runL F w).2.getD k 0) c).2) := by
    rw [stepL, hk]
  refine ⟨(stepL F c (runL F w).1 (runL F w).2 k).1, fun r hr => ?_, ?_, ?_⟩
  · have := stepL_pre (F := F) (c := c) (past := (runL F w).1) (cn := (runL F w).2) (k := k) (j + 1) (by omega) r hr
    unfold tv
    rw [runL_snoc, hj, ← this, Nat.add_assoc, Nat.add_comm 1 j]
  · have := stepL_pre (F := F) (c := c) (past := (runL F w).1) (cn := (runL F w).2) (k := k + 1) j (by omega) k (by omega)
    unfold tv cv
    rw [runL_snoc, hj, this, nx]
    show (_ ++ [_] : List Bool).getD k false = _
    rw [List.getD_eq_getElem?_getD, List.getElem?_append_right (by omega), l1, Nat.sub_self]
    rfl
  · have := stepL_cnt (F := F) (c := c) (past := (runL F w).1) (cn := (runL F w).2) (k := k) j (by omega)
    unfold cv
    rw [runL_snoc, hj, this, nx]
    show (List.set _ k _).getD k 0 = _
    have := (runL_len F w).2
    rw [List.getD_eq_getElem?_getD, List.getElem?_set_self (by omega)]
    rfl
theorem tv_not {F : List FL} {k i : Nat} (hk : F[k]? = some (.not i)) (hi : i < k) (w : List Nat) (c : Nat) : tv F (w ++ [c]) k = !tv F (w ++ [c]) i := by
  obtain ⟨tr, h1, h2, _⟩ := tv_step hk w c
  rw [h2, ← h1 i hi]
  rfl
theorem tv_before {F : List FL} {k i : Nat} (hk : F[k]? = some (.before i)) (w : List Nat) (c : Nat) : tv F (w ++ [c]) k = tv F w i := by
  obtain ⟨tr, h1, h2, _⟩ := tv_step hk w c
  rw [h2]
  rfl
theorem tv_since {F : List FL} {k i j : Nat} (hk : F[k]? = some (.since i j)) (hi : i < k) (hj : j < k) (w : List Nat) (c : Nat) : tv F (w ++ [c]) k = (tv F (w ++ [c]) j || (tv F (w ++ [c]) i && tv F w k)) := by
  obtain ⟨tr, h1, h2, _⟩ := tv_step hk w c
  rw [h2, ← h1 i hi, ← h1 j hj]
  rfl
theorem tv_and2 {F : List FL} {k i j : Nat} (hk : F[k]? = some (.and [i, j])) (hi : i < k) (hj : j < k) (w : List Nat) (c : Nat) : tv F (w ++ [c]) k = (tv F (w ++ [c]) i && tv F (w ++ [c]) j) := by
  obtain ⟨tr, h1, h2, _⟩ := tv_step hk w c
  rw [h2, ← h1 i hi, ← h1 j hj]
  show ([i, j].all fun r => tr.getD r false) = _
  simp
theorem tv_or2 {F : List FL} {k i j : Nat} (hk : F[k]? = some (.or [i, j])) (hi : i < k) (hj : j < k) (w : List Nat) (c : Nat) : tv F (w ++ [c]) k = (tv F (w ++ [c]) i || tv F (w ++ [c]) j) := by
  obtain ⟨tr, h1, h2, _⟩ := tv_step hk w c
  rw [h2, ← h1 i hi, ← h1 j hj]
  show ([i, j].any fun r => tr.getD r false) = _
  simp
theorem tv_true {F : List FL} {k : Nat} (hk : F[k]? = some (.and [])) (w : List Nat) (c : Nat) : tv F (w ++ [c]) k = true := by
  obtain ⟨tr, h1, h2, _⟩ := tv_step hk w c
  rw [h2]
  rfl
theorem tv_count {F : List FL} {k i p r : Nat} (hk : F[k]? = some (.count i p r)) (hi : i < k) (w : List Nat) (c : Nat) : cv F (w ++ [c]) k = (if tv F (w ++ [c]) i then (cv F w k + 1) % p else cv F w k) ∧ tv F (w ++ [c]) k = decide (cv F (w ++ [c]) k = r) := by
  obtain ⟨tr, h1, h2, h3⟩ := tv_step hk w c
  refine ⟨?_, ?_⟩
  · rw [h3, ← h1 i hi]
    rfl
  · rw [h2, h3]
    rfl
theorem snoc_ind {P : List Nat → Prop} (h0 : P []) (h1 : ∀ u c, P u → P (u ++ [c])) (w : List Nat) : P w := by
  have h : ∀ v : List Nat, P v.reverse := by
    intro v
    induction v with
    | nil => exact h0
    | cons c v ih =>
      rw [List.reverse_cons]
      exact h1 _ _ ih
  have := h w.reverse
  rw [List.reverse_reverse] at this
  exact this
def seenB (F : List FL) (i : Nat) (w : List Nat) : List Bool := (List.range w.length).map fun s => tv F (w.take (s + 1)) i
theorem seenB_snoc (F : List FL) (i : Nat) (u : List Nat) (c : Nat) : seenB F i (u ++ [c]) = seenB F i u ++ [tv F (u ++ [c]) i] := by
  unfold seenB
  rw [List.length_append, List.length_singleton, List.range_succ, List.map_append]
  congr 1
  · refine List.map_congr_left fun s hs => ?_
    have := List.mem_range.mp hs
    rw [List.take_append_of_le_length (by omega)]
  · show [tv F ((u ++ [c]).take (u.length + 1)) i] = _
    rw [List.take_of_length_le (by simp)]
def cntB (bs : List Bool) : Nat := (bs.filter id).length
theorem cntB_snoc (bs : List Bool) (b : Bool) : cntB (bs ++ [b]) = if b then cntB bs + 1 else cntB bs := by
  unfold cntB
  rw [List.filter_append]
  cases b <;> simp
theorem cv_seen {F : List FL} {k i p r : Nat} (hk : F[k]? = some (.count i p r)) (hi : i < k) (hp : 0 < p) (w : List Nat) : cv F w k = cntB (seenB F i w) % p := by
  refine snoc_ind (P := fun w => cv F w k = cntB (seenB F i w) % p) ?_ ?_ w
  · rw [cv_nil]
    exact (Nat.zero_mod p).symm
  · intro u c ih
    rw [(tv_count hk hi u c).1, seenB_snoc, cntB_snoc]
    cases tv F (u ++ [c]) i with
    | true =>
      show (cv F u k + 1) % p = (cntB (seenB F i u) + 1) % p
      rw [ih, Nat.mod_add_mod]
    | false => exact ih
theorem since_seen {F : List FL} {k i t : Nat} (hk : F[k]? = some (.since t i)) (hi : i < k) (ht : t < k) (tt : F[t]? = some (.and [])) (w : List Nat) : tv F w k = (seenB F i w).any id := by
  refine snoc_ind (P := fun w => tv F w k = (seenB F i w).any id) ?_ ?_ w
  · rw [tv_nil]
    rfl
  · intro u c ih
    rw [tv_since hk ht hi u c, tv_true tt u c, ih, seenB_snoc, List.any_append]
    simp [Bool.or_comm]
theorem tv_some {F : List FL} {t : Nat} (tt : F[t]? = some (.and [])) (w : List Nat) : tv F w t = decide (1 ≤ w.length) := by
  refine snoc_ind (P := fun w => tv F w t = decide (1 ≤ w.length)) ?_ ?_ w
  · rw [tv_nil]
    rfl
  · intro u c _
    rw [tv_true tt u c]
    simp
/-- the rows that the law adds -/
def lawF (fls : List FL) (n i j p : Nat) : List FL := fls ++ [.since i j, .before n, .and [i, n + 1], .or [j, n + 2]] ++ [.and [], .before (n + 4), .not i, .before (n + 6), .before i, .not (n + 8)] ++ ((List.range p).map fun r => .count i p r) ++ [.since (n + 4) i, .since i (n + 4)]
theorem lawF_len (fls : List FL) {n i j p : Nat} (hn : fls.length = n) : (lawF fls n i j p).length = n + 12 + p := by
  unfold lawF
  simp [hn]
  omega
theorem lawF_at {fls : List FL} {n i j p : Nat} (hn : fls.length = n) : ∀ m, m < 10 → (lawF fls n i j p)[n + m]? = ([.since i j, .before n, .and [i, n + 1], .or [j, n + 2], .and [], .before (n + 4), .not i, .before (n + 6), .before i, .not (n + 8)] : List FL)[m]? := by
  intro m hm
  unfold lawF
  rw [List.append_assoc, List.append_assoc, List.append_assoc, List.getElem?_append_right (by omega)]
  rw [show n + m - fls.length = m by omega, ← List.append_assoc, List.getElem?_append_left (by simp; omega)]
  rfl
theorem lawF_cnt {fls : List FL} {n i j p : Nat} (hn : fls.length = n) {r : Nat} (hr : r < p) : (lawF fls n i j p)[n + 10 + r]? = some (.count i p r) := by
  unfold lawF
  rw [List.append_assoc, List.getElem?_append_right (by simp [hn]; try omega)]
  rw [List.getElem?_append_left (by simp [hn]; try omega), List.getElem?_map, List.getElem?_range (by simp [hn]; try omega)]
  simp [hn]
  try omega
theorem lawF_end {fls : List FL} {n i j p : Nat} (hn : fls.length = n) : (lawF fls n i j p)[n + 10 + p]? = some (.since (n + 4) i) ∧ (lawF fls n i j p)[n + 11 + p]? = some (.since i (n + 4)) := by
  unfold lawF
  refine ⟨?_, ?_⟩
  · rw [List.getElem?_append_right (by simp [hn]; try omega)]
    simp [hn]
    rw [show n + 10 + p - (n + (p + 10)) = 0 by omega]
    rfl
  · rw [List.getElem?_append_right (by simp [hn]; try omega)]
    simp [hn]
    rw [show n + 11 + p - (n + (p + 10)) = 1 by omega]
    rfl
theorem lawF_ok {al : List Nat} {fls : List FL} {n i j p : Nat} (ok : FOk al fls) (hn : fls.length = n) (hi : i < n) (hj : j < n) (hp : p ∈ [2, 3, 5]) : FOk al (lawF fls n i j p) := by
  intro k f hk
  by_cases h1 : k < n
  · refine ok k f ?_
    unfold lawF at hk
    rw [List.append_assoc, List.append_assoc, List.append_assoc, List.getElem?_append_left (by omega)] at hk
    exact hk
  obtain ⟨m, rfl⟩ := Nat.exists_eq_add_of_le (Nat.le_of_not_lt h1)
  by_cases h2 : m < 10
  · rw [lawF_at hn m h2] at hk
    have hm : m = 0 ∨ m = 1 ∨ m = 2 ∨ m = 3 ∨ m = 4 ∨ m = 5 ∨ m = 6 ∨ m = 7 ∨ m = 8 ∨ m = 9 := by omega
    rcases hm with rfl | rfl | rfl | rfl | rfl | rfl | rfl | rfl | rfl | rfl <;> (cases hk)
    · exact ⟨hi, hj⟩
    · show n < n + 1
      omega
    · refine ⟨fun r hr => ?_, ?_, by show 2 ≤ 100; decide⟩
      · simp at hr
        omega
      · simp
        omega
    · refine ⟨fun r hr => ?_, ?_, by show 2 ≤ 100; decide⟩
      · simp at hr
        omega
      · simp
        omega
    · exact ⟨(fun r hr => by cases hr), List.Pairwise.nil, (by decide)⟩
    · show n + 4 < n + 5
      omega
    · show i < n + 6
      omega
    · show n + 6 < n + 7
      omega
    · show i < n + 8
      omega
    · show n + 8 < n + 9
      omega
  · have len := lawF_len fls (i := i) (j := j) (p := p) hn
    have kl := (List.getElem?_eq_some_iff.mp hk).1
    by_cases h3 : m < 10 + p
    · obtain ⟨r, rfl⟩ := Nat.exists_eq_add_of_le (Nat.le_of_not_lt h2)
      rw [← Nat.add_assoc, lawF_cnt hn (by omega)] at hk
      cases hk
      exact ⟨by omega, hp, by omega⟩
    · have hm : n + m = n + 10 + p ∨ n + m = n + 11 + p := by omega
      rcases hm with e | e
      · rw [e, (lawF_end hn).1] at hk
        cases hk
        exact ⟨by omega, by omega⟩
      · rw [e, (lawF_end hn).2] at hk
        cases hk
        exact ⟨by omega, by omega⟩
/-- what the law asks of the truths behind a word that is not empty -/
theorem law_says {fls : List FL} {n i j p : Nat} (hn : fls.length = n) (hi : i < n) (hj : j < n) (hp : 0 < p) {w : List Nat} (hw : 1 ≤ w.length) :
    let F := lawF fls n i j p
    tv F w n = tv F w (n + 3) ∧ tv F w (n + 5) = decide (1 < w.length) ∧ tv F w (n + 7) = (tv F w (n + 9) && decide (1 < w.length)) ∧ (∀ r, r < p → tv F w (n + 10 + r) = decide (cntB (seenB F i w) % p = r)) ∧ tv F w (n + 11 + p) = true ∧ tv F w (n + 10 + p) = (seenB F i w).any id := by
  intro F
  obtain ⟨u, c, rfl⟩ : ∃ u c, w = u ++ [c] := by
    have := List.dropLast_concat_getLast (l := w) (by intro z; rw [z] at hw; simp at hw)
    exact ⟨_, _, this.symm⟩
  have a0 : F[n + 0]? = some (.since i j) := lawF_at hn 0 (by decide)
  have a1 : F[n + 1]? = some (.before n) := lawF_at hn 1 (by decide)
  have a2 : F[n + 2]? = some (.and [i, n + 1]) := lawF_at hn 2 (by decide)
  have a3 : F[n + 3]? = some (.or [j, n + 2]) := lawF_at hn 3 (by decide)
  have a4 : F[n + 4]? = some (.and []) := lawF_at hn 4 (by decide)
  have a5 : F[n + 5]? = some (.before (n + 4)) := lawF_at hn 5 (by decide)
  have a6 : F[n + 6]? = some (.not i) := lawF_at hn 6 (by decide)
  have a7 : F[n + 7]? = some (.before (n + 6)) := lawF_at hn 7 (by decide)
  have a8 : F[n + 8]? = some (.before i) := lawF_at hn 8 (by decide)
  have a9 : F[n + 9]? = some (.not (n + 8)) := lawF_at hn 9 (by decide)
  have e1 : decide (1 < (u ++ [c]).length) = decide (1 ≤ u.length) := by
    rw [List.length_append]
    exact decide_eq_decide.mpr ⟨fun h => by simp at h; omega, fun h => by simp; omega⟩
  refine ⟨?_, ?_, ?_, fun r hr => ?_, ?_, ?_⟩
  · have h0 := tv_since a0 (by omega) (by omega) u c
    rw [Nat.add_zero] at h0
    rw [h0, tv_or2 a3 (by omega) (by omega) u c, tv_and2 a2 (by omega) (by omega) u c, tv_before a1 u c]
  · rw [tv_before a5 u c, tv_some a4 u, e1]
  · rw [tv_before a7 u c, tv_not a9 (by omega) u c, tv_before a8 u c, e1]
    refine snoc_ind (P := fun u => tv F u (n + 6) = (!tv F u i && decide (1 ≤ u.length))) ?_ ?_ u
    · rw [tv_nil, tv_nil]
      rfl
    · intro v d _
      rw [tv_not a6 (by omega) v d]
      simp
  · rw [(tv_count (lawF_cnt hn hr) (by omega) u c).2, cv_seen (lawF_cnt hn hr) (by omega) hp]
  · rw [tv_since (lawF_end hn).2 (by omega) (by omega) u c, tv_true a4 u c]
    rfl
  · exact since_seen (lawF_end hn).1 (by omega) (by omega) a4 _
theorem one_true {p s : Nat} (h : s < p) : ((List.range p).map fun r => decide (s = r)).filter id = [true] := by
  have h1 : ∀ l : List Nat, l.Nodup → (s ∈ l → (l.map fun r => decide (s = r)).filter id = [true]) ∧ (s ∉ l → (l.map fun r => decide (s = r)).filter id = []) := by
    intro l
    induction l with
    | nil => exact fun _ => ⟨(fun h => by cases h), fun _ => rfl⟩
    | cons a l ih =>
      intro nd
      obtain ⟨n1, n2⟩ := List.nodup_cons.mp nd
      obtain ⟨i1, i2⟩ := ih n2
      by_cases e : s = a
      · subst e
        refine ⟨fun _ => ?_, fun h => absurd (List.mem_cons_self ..) h⟩
        rw [List.map_cons, decide_eq_true rfl, List.filter_cons_of_pos (by rfl), i2 n1]
      · refine ⟨fun hm => ?_, fun hm => ?_⟩
        · rw [List.map_cons, decide_eq_false e, List.filter_cons_of_neg (by simp)]
          exact i1 ((List.mem_cons.mp hm).resolve_left e)
        · rw [List.map_cons, decide_eq_false e, List.filter_cons_of_neg (by simp)]
          exact i2 fun h => hm (List.mem_cons_of_mem _ h)
  exact (h1 _ List.nodup_range).1 (List.mem_range.mpr h)

local macro_rules | `(tactic| walk_at "s2") => `(tactic| first
  | refine ⟨_, rfl, ?_⟩
  | refine ⟨_, _, rfl, rfl, ?_⟩
  | refine .inl ⟨_, rfl, ?_⟩
  | refine ⟨_, _, rfl, by assumption, ?_⟩
  | (refine And.intro ?_ ?_; focus (walk_at "side"))
  | refine iteT ?_
  | refine iteF ?_)
local macro_rules | `(tactic| walk_at "n2") => `(tactic| first
  | with_reducible refine MyP.seq_use (fun _ _ => ?_)
  | with_reducible refine MyP.SeqN.go (by assumption) ?_
  | with_reducible refine MyP.gname_use ?_
  | with_reducible refine MyP.next_use ?_
  | walk_at "s2")
local macro_rules | `(tactic| walk_at "nn2") => `(tactic| repeat walk_at "n2")

theorem if43 {c : Bool} {σ : L2.St} {G : Hp} {Q : VK} (h : ∀ kn : Nat, kn ≤ 4 → Q (.int (kn : Nat)) G) : if c = true then tC (.int 4) σ G Q else tC (.int 3) σ G Q := by
  cases c
  · exact h 3 (by decide)
  · exact h 4 (by decide)
def FLp (H : Hp) (ps : List Addr) (fls : List FL) : Prop := ps.length = fls.length ∧ ∀ (i : Nat) (p : Addr) (f : FL), ps[i]? = some p → fls[i]? = some f → FLAt H p f
theorem FLp.same {H H' : Hp} {ps : List Addr} {fls : List FL} (h : FLp H ps fls) (s : Same H H') : FLp H' ps fls := ⟨h.1, fun i p f a b => (h.2 i p f a b).same s⟩
theorem FLp.nil {H : Hp} : FLp H [] [] := ⟨rfl, fun i p f a _ => by simp at a⟩
theorem FLp.cons {H : Hp} {p : Addr} {f : FL} {ps : List Addr} {fls : List FL} (a : FLAt H p f) (h : FLp H ps fls) : FLp H (p :: ps) (f :: fls) := ⟨by simp [h.1], fun i q g x y => by
  cases i with
  | zero =>
    cases x
    cases y
    exact a
  | succ i => exact h.2 i q g (by simpa using x) (by simpa using y)⟩
theorem FLp.app {H : Hp} {qs : List Addr} {gs : List FL} (h2 : FLp H qs gs) : ∀ {ps : List Addr} {fls : List FL}, FLp H ps fls → FLp H (ps ++ qs) (fls ++ gs)
  | [], [], _ => h2
  | p :: ps, f :: fls, h => FLp.cons (h.2 0 p f rfl rfl) (FLp.app h2 ⟨by simpa using h.1, fun i q g a b => h.2 (i + 1) q g (by simpa using a) (by simpa using b)⟩)
  | [], _ :: _, h => by simp [FLp] at h
  | _ :: _, [], h => by simp [FLp] at h
theorem cat_use {H : Hp} {a b : Addr} {ps qs : List Addr} {Q : VK} (ha : H a = some (.lst (ps.map V.ref))) (hb : H b = some (.lst (qs.map V.ref))) (hz : ps.length + qs.length ≤ 100000) (q : ∀ p H', H p = none → Same H H' → H' p = some (.lst ((ps ++ qs).map V.ref)) → Q (.ref p) H') : rCat (.ref a) (.ref b) H Q :=
  ⟨a, b, _, _, rfl, rfl, ha, hb, sz (by rw [List.length_map, List.length_map]; exact hz), fun p hp => q p _ hp (same_upd hp) (by rw [upd_same, List.map_append])⟩
theorem cutS_take {u : List Nat} {k : Nat} (h : k ≤ u.length) : cutS ⟨u.toArray⟩ none (some (k : Int)) = ⟨(u.take k).toArray⟩ := by
  have lu : (⟨u.toArray⟩ : Str).length = u.length := by show u.toArray.size = _; simp
  unfold cutS
  rw [show HT.sIx (⟨u.toArray⟩ : Str).length (⟨u.toArray⟩ : Str).length (some (k : Int)) = min k (⟨u.toArray⟩ : Str).length from HT.sIx_nat _ _ k, HT.sIx_none, lu, Nat.sub_zero, Nat.min_eq_left h, List.drop_zero]
theorem flat_bools : ∀ l : List Bool, (l.map V.bl).all flatV = true
  | [] => rfl
  | _ :: l => flat_bools l
theorem in_true (bs : List Bool) : inV (.bl true) (bs.map V.bl) = bs.any id := by
  unfold inV
  rw [List.any_map]
  congr 1
  funext b
  cases b <;> rfl
def filF (bs : List Bool) (k : Nat) : Option V := match bs[k]? with | some true => some (.bl true) | _ => none
theorem filF_all (bs : List Bool) : (List.range bs.length).filterMap (filF bs) = (bs.filter id).map V.bl := by
  have h : ∀ (l pre : List Bool), bs = pre ++ l → (List.range' pre.length l.length).filterMap (filF bs) = (l.filter id).map V.bl := by
    intro l
    induction l with
    | nil => intro pre e; rfl
    | cons c l ih =>
      intro pre e
      have hc : bs[pre.length]? = some c := by rw [e]; simp
      have ih2 := ih (pre ++ [c]) (by rw [e]; simp)
      rw [List.length_append] at ih2
      rw [List.length_cons, List.range'_succ, List.filterMap_cons, List.filter_cons]
      cases c with
      | true =>
        have fc : filF bs pre.length = some (V.bl true) := by unfold filF; rw [hc]
        rw [fc]
        exact congrArg (V.bl true :: ·) ih2
      | false =>
        have fc : filF bs pre.length = none := by unfold filF; rw [hc]
        rw [fc]
        exact ih2
  have := h bs [] rfl
  rw [List.length_nil] at this
  rw [← this, List.range_eq_range']
theorem bool_item {bs : List Bool} {k : Nat} {x : V} (h : (bs.map V.bl)[k]? = some x) : ∃ b, bs[k]? = some b ∧ x = .bl b := by
  rw [List.getElem?_map] at h
  cases hb : bs[k]? with
  | none => rw [hb] at h; cases h
  | some b =>
    rw [hb] at h
    exact ⟨b, rfl, (Option.some.inj h).symm⟩
theorem cut_take {xs : List V} {i : Nat} : cutV xs none (some (i : Int)) = xs.take i := by
  unfold cutV
  rw [show HT.sIx xs.length xs.length (some (i : Int)) = min i xs.length from HT.sIx_nat _ _ i, HT.sIx_none]
  show xs.take (min i xs.length - 0) = _
  rw [Nat.sub_zero, List.take_eq_take_iff]
  omega
theorem cut_drop {xs : List V} {i : Nat} : cutV xs (some (i : Int)) none = xs.drop i := by
  unfold cutV
  rw [show HT.sIx xs.length 0 (some (i : Int)) = min i xs.length from HT.sIx_nat _ _ i, HT.sIx_none]
  rw [List.take_of_length_le (by rw [List.length_drop]; omega)]
  by_cases h : i ≤ xs.length
  · rw [Nat.min_eq_left h]
  · rw [List.drop_of_length_le (by omega), List.drop_of_length_le (by omega)]
def spLaw (K : PySem.W.Frag) : Sp := fun vs H Q _ => ∃ (a : Addr) (ns : List Int), vs = [.ref a] ∧ SqL K H a (ns.map V.int) ∧ ns.length ≤ 63 ∧ ∀ H', Q (.bl true) H'
abbrev lawTail : List Stmt := (defBody s_law).drop 10
section
variable {P : Program} {w : World} {K : PySem.W.Frag} {mg : Str → Option Value} {base : Heap}
theorem law_rest (T : Env K mg) (cdv : Value) (A : Around) (outer : List PySem.Env) (s : Shared) (H : Hp) (E : XK) (hr : Room 15 (A.deeper (envOfC "law" (defScope s_law) s.heap.objs.size T.f_law cdv))) :
    ∃ t, PSs (cxOf CX0 P w K mg base N_law "law" (defScope s_law) T.f_law cdv A outer s H E).nox lawTail t ∧ ∀ (D : Ends) (G : Hp) (a m : Addr) (al : Str) (fls : List FL) (n i j p : Nat) (nz pz iz : Int) (y1 y2 y4 y8 y9 y11 y12 y13 y14 y15 y16 y17 : Option V),
      (∀ G', D.rt (.bl true) G') → Alpha al.cps.toList → fls.length = n → 2 ≤ n → n ≤ 6 → i < n → j < n → p ∈ [2, 3, 5] → nz = (n : Int) → pz = (p : Int) → iz = (i : Int) → FormAt K T.C_Formula G m al (lawF fls n i j p) false →
      t D [some (.ref a), y1, y2, some (.str al), y4, some (.int nz), some (.int pz), some (.int iz), y8, y9, some (.ref m), y11, y12, y13, y14, y15, y16, y17] G := by
  refine ⟨_, ((pss_cons (ps_for PassesOwn.never rfl (pi_list (pe_slice sl_list (pe_call (ok_texts T) (hr.mono (by decide)) (by rfl) T.g_texts T.F_texts.kp T.b_texts .nil pass0 (pa_cons (pv 3) (pa_cons (pe_ifExp (pt_cmpR op_lt (pe_callB call_len_str (by rfl) T.z_len (by decide +kernel) (pa_cons (pv 3) pa_nil)) pe_int (nomark _)) pe_int pe_int) pa_nil))) (po_some pe_int) po_none)) (pg_name (i := 11) sc_law.nd rfl (.inr rfl))
      (pss_cons (ps_set (i := 12) sc_law.nd rfl (.inr rfl) (pe_meth (pv 10) T.cl_Formula T.m_Formula_truths (ok_Formula_truths T) (hr.mono (by decide)) T.b_Formula_truths .nil pass0 (pa_cons (pv 11) pa_nil)))
      (pss_cons (ps_if (PW.pt (pw_or (pt_cmpR op_ne (pe_ix ix_list (pv 12) (pv 5) (fun _ _ => rfl)) (pe_ix ix_list (pv 12) (pe_op op_add (pv 5) pe_int) (fun _ _ => rfl)) (nomark _)) (pw_or1 (pt_cmpR op_ne (pe_ix ix_list (pv 12) (pe_op op_add (pv 5) pe_int) (fun _ _ => rfl)) (pe_cmpR op_gt (pe_callB call_len_str (by rfl) T.z_len (by decide +kernel) (pa_cons (pv 11) pa_nil)) pe_int (nomark _)) (nomark _)))))
      (pss_one (ps_ret pe_bl))
      pss_nil)
      (pss_cons (ps_if (pt_cmpR op_ne (pe_ix ix_list (pv 12) (pe_op op_add (pv 5) pe_int) (fun _ _ => rfl)) (pe_and (pe_ix ix_list (pv 12) (pe_op op_add (pv 5) pe_int) (fun _ _ => rfl)) (pe_one (pe_cmpR op_gt (pe_callB call_len_str (by rfl) T.z_len (by decide +kernel) (pa_cons (pv 11) pa_nil)) pe_int (nomark _)))) (nomark _))
      (pss_one (ps_ret pe_bl))
      pss_nil)
      (pss_cons (ps_setLc (i := 13) (own := [("_law_rest", 15)]) (g := (gName 15)) (tt := tYes) (te := (tOp (rIxL K) _ _)) rfl sc_law.nd rfl rfl (sw_true rfl rfl rfl (by decide +kernel)) (pi_range1 (by rfl) T.z_range (pa_cons (pv 6) pa_nil)) (blkOk_by (own := [("_law_rest", 15)]) (N := N_law) (sc := defScope s_law) (by decide +kernel)) (fun _ _ _ _ _ => (pg_name (i := 15) sc_law.nd rfl (.inl rfl))) (fun _ _ _ _ _ => pts_nil) (fun _ _ _ _ _ => (pe_ix ix_list (pv 12) (pe_op op_add (pe_op op_add (pv 5) pe_int) (pv 15)) (fun _ _ => rfl))))
      (pss_cons (ps_if (PW.pt (pw_or (pt_cmpR (op_neD hr.units) (pe_lc (own := [("_law_one", 17)]) (g := (gName 17)) rfl sc_law.nd (pi_list (pv 13)) (blkOk_by (own := [("_law_one", 17)]) (N := N_law) (sc := defScope s_law) (by decide +kernel)) (fun _ _ _ _ _ => (pg_name (i := 17) sc_law.nd rfl (.inl rfl))) (fun _ _ _ _ _ => (pts_one (pt_val (pv 17)))) (fun _ _ _ _ _ => (pv 17))) (pe_lst (pa_cons pe_bl pa_nil)) (nomark _)) (pw_or1 (pt_cmpR op_ne (pe_ix ix_list (pv 12) (pe_op op_add (pe_op op_add (pv 5) pe_int) (pv 6)) (fun _ _ => rfl)) pe_bl (nomark _)))))
      (pss_one (ps_ret pe_bl))
      pss_nil)
      (pss_cons (ps_setLc (i := 14) (own := [("_law_size", 16)]) (g := (gName 16)) (tt := tYes) (te := (tOp (rIxL K) _ _)) rfl sc_law.nd rfl rfl (sw_true rfl rfl rfl (by decide +kernel)) (pi_range1 (by rfl) T.z_range (pa_cons (pe_callB call_len_str (by rfl) T.z_len (by decide +kernel) (pa_cons (pv 11) pa_nil)) pa_nil)) (blkOk_by (own := [("_law_size", 16)]) (N := N_law) (sc := defScope s_law) (by decide +kernel)) (fun _ _ _ _ _ => (pg_name (i := 16) sc_law.nd rfl (.inl rfl))) (fun _ _ _ _ _ => pts_nil) (fun _ _ _ _ _ => (pe_ix ix_list (pe_meth (pv 10) T.cl_Formula T.m_Formula_truths (ok_Formula_truths T) (hr.mono (by decide)) T.b_Formula_truths .nil pass0 (pa_cons (pe_slice sl_str (pv 11) po_none (po_some (pe_op op_add (pv 16) pe_int))) pa_nil)) (pv 7) (fun _ _ => rfl))))
      (pss_one (ps_if (PW.pt (pw_or (pt_cmpR op_ne (pe_ix ix_list (pv 12) (pe_op op_add (pe_op op_add (pv 5) pe_int) (pv 6)) (fun _ _ => rfl)) (pe_cmpR op_in_seq pe_bl (pv 14) (by rfl)) (nomark _)) (pw_or1 (pt_not (pt_val (pe_ix ix_list (pv 13) (pe_op op_mod (pe_callTy call_int1 (by rfl) T.z_int (by decide +kernel) (pa_cons (pe_callB call_len_seq (by rfl) T.z_len (by decide +kernel) (pa_cons (pe_lc (own := [("_law_one", 17)]) (g := (gName 17)) rfl sc_law.nd (pi_list (pv 14)) (blkOk_by (own := [("_law_one", 17)]) (N := N_law) (sc := defScope s_law) (by decide +kernel)) (fun _ _ _ _ _ => (pg_name (i := 17) sc_law.nd rfl (.inl rfl))) (fun _ _ _ _ _ => (pts_one (pt_val (pv 17)))) (fun _ _ _ _ _ => (pv 17))) pa_nil)) pa_nil)) (pv 6)) (fun _ _ => rfl)))))))
      (pss_one (ps_ret pe_bl))
      pss_nil)))))))))
      (pss_one (ps_ret pe_bl)))), ?_⟩
  rintro ⟨dn, dr, db, dc⟩ G a m al fls n i j p nz pz iz y1 y2 y4 y8 y9 y11 y12 y13 y14 y15 y16 y17 fin hA hn n2 n6 hi hj hp hnz hpz hiz M
  have al4 : al.length ≤ 4 := by rw [len_tl]; exact hA.2.1
  have hp5 : 2 ≤ p ∧ p ≤ 5 := by
    simp only [List.mem_cons, List.not_mem_nil, or_false] at hp
    omega
  have lF := lawF_len fls (i := i) (j := j) (p := p) hn
  walk_at "nn2"
  refine if43 fun kn hkn => ?_
  walk_at "nn2"
  intro tp H1 htp tp0 s1
  walk_at "nn2"
  refine ⟨tp, _, rfl, SqL.of htp, fun q hq => ?_⟩
  obtain ⟨ws, ew, hws⟩ := textsW_ok (al := al.cps.toList) kn
  have cw : cutV (wordsV (textsW al.cps.toList kn)) (some 1) none = wordsV ws := by
    rw [show (some (1 : Int)) = some (((1 : Nat)) : Int) from rfl, cut_drop, ew]
    rfl
  rw [cw]
  have hq2 : SqL K (upd H1 q (.lst (wordsV ws))) q (wordsV ws) := SqL.of upd_same
  have s2 := s1.trans (same_upd (o := .lst (wordsV ws)) hq)
  have M2 := M.same s2
  have hqq : upd H1 q (.lst (wordsV ws)) q = some (.lst (wordsV ws)) := upd_same
  clear s1 s2 htp M hq tp0
  generalize upd H1 q (.lst (wordsV ws)) = G2 at *
  walk_at "nn2"
  refine ⟨⟨_, hq2⟩, ?_⟩
  refine for_it (walk_list (K := K) (a := q)) (fun _ σ H' => Stp (∃ y11 y12 y13 y14 y15 y16 y17 : Option V, σ = [some (.ref a), y1, y2, some (.str al), y4, some (.int nz), some (.int pz), some (.int iz), y8, y9, some (.ref m), y11, y12, y13, y14, y15, y16, y17] ∧ Same G2 H'))
    (.mk ⟨_, _, _, _, _, _, _, rfl, Same.refl _⟩) (fun i σ H' _ h => by
      obtain ⟨_, _, _, _, _, _, _, _, s5⟩ := h.of
      exact SqL.of (s5 _ _ hqq)) ?_ ?_
  · rintro k x σ H3 H4 hlt hP ⟨rfl, hx⟩
    obtain ⟨y11, y12, y13, y14, y15, y16, y17, rfl, s5⟩ := hP.of
    clear hP
    rw [wordsV_len] at hlt
    obtain ⟨u, hu⟩ : ∃ u, ws[k]? = some u := ⟨_, List.getElem?_eq_getElem hlt⟩
    have hx : (wordsV ws)[k]? = some x := hx
    unfold wordsV at hx
    rw [List.getElem?_map, hu] at hx
    cases hx
    obtain ⟨u1, u4, ual⟩ := hws u (List.mem_of_getElem? hu)
    have says := law_says (fls := fls) (n := n) (i := i) (j := j) (p := p) hn hi hj (by omega) (w := u) u1
    have M5 := M2.same s5
    obtain ⟨dm, lm, hm5, -⟩ := id M5.at_
    have lu : (⟨u.toArray⟩ : Str).length = u.length := by show u.toArray.size = _; simp
    walk_at "nn2"
    refine ⟨m, dm, _, rfl, hm5, rfl, ?_⟩
    walk_at "nn2"
    refine ⟨m, ⟨u.toArray⟩, al, _, false, rfl, M5, by omega, by omega, fun c hc => ual c (by simpa using hc), fun t H6 ht s6 => ?_⟩
    have M6 := M5.same s6
    have ht : H6 t = some (.lst (boolL (runL (lawF fls n i j p) u).1)) := ht
    have rl := (runL_len (lawF fls n i j p) u).1
    have s56 := s5.trans s6
    have told : ∀ {kx : Nat} {H7 : Hp}, H7 t = some (.lst (boolL (runL (lawF fls n i j p) u).1)) → kx < n + 12 + p → ∀ {z : Int}, z = (kx : Int) → atI (boolL (runL (lawF fls n i j p) u).1) z = some (.bl (tv (lawF fls n i j p) u kx)) := fun {kx H7} _ hk {z} hz => by
      rw [hz]
      exact atI_nat (boolL_at (by omega))
    clear M5 hm5 s5 s6 hlt hu
    obtain ⟨e1, e2, e3, e4, e5, e6⟩ := says
    walk_at "nn2"
    refine ⟨t, _, nz, _, rfl, rfl, SqL.of ht, told ht (kx := n) (by omega) hnz, ?_⟩
    walk_at "nn2"
    refine ⟨t, _, _, _, rfl, rfl, SqL.of ht, told ht (kx := n + 3) (by omega) (by omega), ?_⟩
    rw [e1]
    walk_at "nn2"
    refine iteN (by simp) ?_
    walk_at "nn2"
    refine ⟨t, _, _, _, rfl, rfl, SqL.of ht, told ht (kx := n + 5) (by omega) (by omega), ?_⟩
    rw [e2]
    walk_at "nn2"
    have el : decide ((1 : Int) < (((⟨u.toArray⟩ : Str).length : Nat) : Int)) = decide (1 < u.length) := decide_eq_decide.mpr (by rw [lu]; omega)
    refine iteN ?_ ?_
    · show ¬ (!decide (V.bl (decide (1 < u.length)) = V.bl (decide ((1 : Int) < (((⟨u.toArray⟩ : Str).length : Nat) : Int))))) = true
      rw [el]
      simp
    walk_at "nn2"
    refine ⟨t, _, _, _, rfl, rfl, SqL.of ht, told ht (kx := n + 7) (by omega) (by omega), ?_⟩
    rw [e3]
    walk_at "nn2"
    refine ⟨t, _, _, _, rfl, rfl, SqL.of ht, told ht (kx := n + 9) (by omega) (by omega), ?_⟩
    walk_at "nn2"
    cases h9 : tv (lawF fls n i j p) u (n + 9)
    · walk_at "nn2"
      intro D hD
      refine lc_gen walk_range (fun H' => Same H6 H') (fun r y => y = V.bl (decide (cntB (seenB (lawF fls n i j p) i u) % p = r))) (by omega) (same_upd hD) (fun _ _ => trivial) (fun _ _ h => same_mut h hD) ?_ ?_
      · rintro r x H7 H8 Q1 hlt hI ⟨rfl, rfl⟩ - hQ
        show gName 15 (V.int (0 + (r : Int))) _ _ _
        obtain ⟨rz, hrz⟩ : ∃ rz : Int, rz = 0 + (r : Int) := ⟨_, rfl⟩
        rw [← hrz]
        walk_at "nn2"
        refine ⟨t, _, _, _, rfl, rfl, SqL.of (hI _ _ ht), told (hI _ _ ht) (kx := n + 10 + r) (by omega) (by omega), ?_⟩
        rw [e4 r (by omega)]
        exact hQ _ _ rfl hI fun _ h => h
      · intro H7 ys hI hy hl hr2
        have e : ys = ((List.range p).map fun r => decide (cntB (seenB (lawF fls n i j p) i u) % p = r)).map V.bl := by
          refine List.ext_getElem (by simp [hl]; omega) fun k2 h1 h2 => ?_
          rw [hr2 k2 _ (List.getElem?_eq_getElem h1)]
          simp
        subst e
        have s7 := s56.trans hI
        have M7 := M6.same hI
        have ht7 := hI _ _ ht
        clear hr2 hl hI hD ht M6
        walk_at "nn2"
        refine ⟨⟨_, SqL.of hy⟩, fun D2 hD2 => ?_⟩
        refine lc_fil walk_list (fun H' => Same H7 H') (filF ((List.range p).map fun r => decide (cntB (seenB (lawF fls n i j p) i u) % p = r))) (by simp; omega) (same_upd hD2) (fun _ h => SqL.of (h _ _ hy)) (fun _ _ h => same_mut h hD2) ?_ ?_
        · rintro i2 x H4 H5 Q1 Qn hlt hI ⟨rfl, hx⟩ - hQ hN
          obtain ⟨bb, hbb, rfl⟩ := bool_item hx
          walk_at "nn2"
          cases bb
          · walk_at "nn2"
            exact hN _ (by unfold filF; rw [hbb]) hI fun _ h => h
          · walk_at "nn2"
            exact hQ _ _ (by unfold filF; rw [hbb]) hI fun _ h => h
        · intro H8 hI hy2
          rw [List.length_map] at hy2
          rw [filF_all, one_true (Nat.mod_lt _ (by omega))] at hy2
          walk_at "nn2"
          intro D3 hD3
          refine ⟨.list [.bool true], .list [.bool true], .lst (SqL.of (same_upd hD3 _ _ hy2)) (.cons (.bl true) .nil), .lst (SqL.of upd_same) (.cons (.bl true) .nil), by decide +kernel, by decide +kernel, ?_⟩
          rw [show PyData.eqv (.list [.bool true]) (.list [.bool true]) = true from by decide +kernel]
          have s9 := hI.trans (same_upd (o := .lst [.bl true]) hD3)
          have ht9 := s9 _ _ ht7
          have hy9 := s9 _ _ hy
          have M9 := M7.same s9
          have s09 := s7.trans s9
          clear ht7 hy M7 s7 s9 hI hy2 hD3
          generalize upd H8 D3 (.lst [.bl true]) = H9 at *
          walk_at "nn2"
          refine ⟨t, _, _, _, rfl, rfl, SqL.of ht9, told ht9 (kx := n + 11 + p) (by omega) (by omega), ?_⟩
          rw [e5]
          refine ⟨rfl, _, rfl, ?_⟩
          refine iteN (by simp) ?_
          iterate 4 walk_at "n2"
          refine ⟨_, rfl, sz (show (⟨u.toArray⟩ : Str).length ≤ 100000 by omega), ?_⟩
          refine ⟨_, rfl, (show (-2 ^ 62 : Int) ≤ (((⟨u.toArray⟩ : Str).length : Nat) : Int) by omega), (show (((⟨u.toArray⟩ : Str).length : Nat) : Int) < 2 ^ 62 by omega), ?_⟩
          intro D4 hD4
          obtain ⟨dm9, lm9, hm9, -⟩ := id M9.at_
          refine lc_gen walk_range (fun H' => Same H9 H') (fun s y => y = V.bl (tv (lawF fls n i j p) (u.take (s + 1)) i)) (show (((⟨u.toArray⟩ : Str).length : Nat) : Int).toNat ≤ 100000 by omega) (same_upd hD4) (fun _ _ => trivial) (fun _ _ h => same_mut h hD4) ?_ ?_
          · rintro s x H1 H2 Q1 hlt hI ⟨rfl, rfl⟩ - hQ
            have hlt : s < (((⟨u.toArray⟩ : Str).length : Nat) : Int).toNat := hlt
            have sl : s < u.length := by omega
            show gName 16 (V.int (0 + (s : Int))) _ _ _
            obtain ⟨zs, hzs⟩ : ∃ zs : Int, zs = 0 + (s : Int) := ⟨_, rfl⟩
            rw [← hzs]
            have M1 := M9.same hI
            have hm1 := hI _ _ hm9
            walk_at "nn2"
            refine ⟨m, dm9, _, rfl, hm1, rfl, ?_⟩
            walk_at "nn2"
            have ec : cutS ⟨u.toArray⟩ none (some (zs + 1)) = ⟨(u.take (s + 1)).toArray⟩ := by
              rw [show zs + 1 = ((s + 1 : Nat) : Int) by omega]
              exact cutS_take (by omega)
            have lt : (⟨(u.take (s + 1)).toArray⟩ : Str).length = s + 1 := by
              show (u.take (s + 1)).toArray.size = _
              rw [List.size_toArray, List.length_take]
              omega
            have rl2 := (runL_len (lawF fls n i j p) (u.take (s + 1))).1
            refine ⟨m, cutS ⟨u.toArray⟩ none (some (zs + 1)), al, _, false, rfl, M1, by rw [ec]; omega, by rw [ec]; omega, fun c hc => ual c (List.mem_of_mem_take (by rw [ec] at hc; simpa using hc)), fun t2 H3 ht2 s3 => ?_⟩
            rw [ec] at ht2
            have ht2 : H3 t2 = some (.lst (boolL (runL (lawF fls n i j p) (u.take (s + 1))).1)) := ht2
            refine ⟨_, rfl, t2, _, iz, _, rfl, rfl, SqL.of ht2, (by rw [hiz]; exact atI_nat (boolL_at (by omega))), ?_⟩
            exact hQ _ _ rfl (hI.trans s3) fun _ h => s3 _ _ h
          · intro H10 ys hI hy4 hl hr4
            have e : ys = (seenB (lawF fls n i j p) i u).map V.bl := by
              have hl : ys.length = (((⟨u.toArray⟩ : Str).length : Nat) : Int).toNat := hl
              refine List.ext_getElem (by unfold seenB; simp only [List.length_map, List.length_range]; omega) fun k2 h1 h2 => ?_
              rw [hr4 k2 _ (List.getElem?_eq_getElem h1)]
              unfold seenB
              simp
            subst e
            have ht10 := hI _ _ ht9
            have hy10 := hI _ _ hy9
            have s10 := s09.trans hI
            clear hr4 hl hI hD4 ht9 hy9 M9 hm9
            walk_at "nn2"
            refine ⟨t, _, _, _, rfl, rfl, SqL.of ht10, told ht10 (kx := n + 10 + p) (by omega) (by omega), ?_⟩
            rw [e6]
            walk_at "nn2"
            refine ⟨D4, _, rfl, .inl (SqL.of hy4), rfl, flat_bools _, ?_⟩
            rw [in_true]
            walk_at "nn2"
            refine iteN (by simp) ?_
            walk_at "nn2"
            refine ⟨⟨_, SqL.of hy4⟩, fun D5 hD5 => ?_⟩
            have lb : (seenB (lawF fls n i j p) i u).length ≤ 100 := by unfold seenB; rw [List.length_map, List.length_range]; omega
            refine lc_fil walk_list (fun H' => Same H10 H') (filF (seenB (lawF fls n i j p) i u)) (by rw [List.length_map]; omega) (same_upd hD5) (fun _ h => SqL.of (h _ _ hy4)) (fun _ _ h => same_mut h hD5) ?_ ?_
            · rintro i2 x H4 H5 Q1 Qn hlt hI ⟨rfl, hx⟩ - hQ hN
              obtain ⟨bb, hbb, rfl⟩ := bool_item hx
              walk_at "nn2"
              cases bb
              · walk_at "nn2"
                exact hN _ (by unfold filF; rw [hbb]) hI fun _ h => h
              · walk_at "nn2"
                exact hQ _ _ (by unfold filF; rw [hbb]) hI fun _ h => h
            · intro H11 hI hy5
              rw [List.length_map, filF_all] at hy5
              walk_at "nn2"
              refine ⟨D5, _, rfl, .inl (SqL.of hy5), ?_⟩
              have ecnt : (((seenB (lawF fls n i j p) i u).filter id).map V.bl).length = cntB (seenB (lawF fls n i j p) i u) := by rw [List.length_map]; rfl
              rw [ecnt]
              obtain ⟨cz, hcz⟩ : ∃ cz : Int, cz = ((cntB (seenB (lawF fls n i j p) i u) : Nat) : Int) := ⟨_, rfl⟩
              rw [← hcz]
              walk_at "nn2"
              have cm : cntB (seenB (lawF fls n i j p) i u) % p < p := Nat.mod_lt _ (by omega)
              refine ⟨D, _, _, .bl true, rfl, rfl, SqL.of (hI _ _ hy10), ?_, ?_⟩
              · show atI _ (cz % pz) = _
                rw [hcz, hpz, ← Int.natCast_emod]
                refine atI_nat ?_
                rw [List.getElem?_map, List.getElem?_map, List.getElem?_range cm]
                simp
              walk_at "nn2"
              exact .mk ⟨_, _, _, _, _, _, _, rfl, s10.trans hI⟩

    · walk_at "nn2"
      refine iteN ?_ ?_
      · show ¬ (!decide (V.bl (true && decide (1 < u.length)) = V.bl (decide ((1 : Int) < (((⟨u.toArray⟩ : Str).length : Nat) : Int))))) = true
        rw [el]
        simp
      walk_at "nn2"
      intro D hD
      refine lc_gen walk_range (fun H' => Same H6 H') (fun r y => y = V.bl (decide (cntB (seenB (lawF fls n i j p) i u) % p = r))) (by omega) (same_upd hD) (fun _ _ => trivial) (fun _ _ h => same_mut h hD) ?_ ?_
      · rintro r x H7 H8 Q1 hlt hI ⟨rfl, rfl⟩ - hQ
        show gName 15 (V.int (0 + (r : Int))) _ _ _
        obtain ⟨rz, hrz⟩ : ∃ rz : Int, rz = 0 + (r : Int) := ⟨_, rfl⟩
        rw [← hrz]
        walk_at "nn2"
        refine ⟨t, _, _, _, rfl, rfl, SqL.of (hI _ _ ht), told (hI _ _ ht) (kx := n + 10 + r) (by omega) (by omega), ?_⟩
        rw [e4 r (by omega)]
        exact hQ _ _ rfl hI fun _ h => h
      · intro H7 ys hI hy hl hr2
        have e : ys = ((List.range p).map fun r => decide (cntB (seenB (lawF fls n i j p) i u) % p = r)).map V.bl := by
          refine List.ext_getElem (by simp [hl]; omega) fun k2 h1 h2 => ?_
          rw [hr2 k2 _ (List.getElem?_eq_getElem h1)]
          simp
        subst e
        have s7 := s56.trans hI
        have M7 := M6.same hI
        have ht7 := hI _ _ ht
        clear hr2 hl hI hD ht M6
        walk_at "nn2"
        refine ⟨⟨_, SqL.of hy⟩, fun D2 hD2 => ?_⟩
        refine lc_fil walk_list (fun H' => Same H7 H') (filF ((List.range p).map fun r => decide (cntB (seenB (lawF fls n i j p) i u) % p = r))) (by simp; omega) (same_upd hD2) (fun _ h => SqL.of (h _ _ hy)) (fun _ _ h => same_mut h hD2) ?_ ?_
        · rintro i2 x H4 H5 Q1 Qn hlt hI ⟨rfl, hx⟩ - hQ hN
          obtain ⟨bb, hbb, rfl⟩ := bool_item hx
          walk_at "nn2"
          cases bb
          · walk_at "nn2"
            exact hN _ (by unfold filF; rw [hbb]) hI fun _ h => h
          · walk_at "nn2"
            exact hQ _ _ (by unfold filF; rw [hbb]) hI fun _ h => h
        · intro H8 hI hy2
          rw [List.length_map] at hy2
          rw [filF_all, one_true (Nat.mod_lt _ (by omega))] at hy2
          walk_at "nn2"
          intro D3 hD3
          refine ⟨.list [.bool true], .list [.bool true], .lst (SqL.of (same_upd hD3 _ _ hy2)) (.cons (.bl true) .nil), .lst (SqL.of upd_same) (.cons (.bl true) .nil), by decide +kernel, by decide +kernel, ?_⟩
          rw [show PyData.eqv (.list [.bool true]) (.list [.bool true]) = true from by decide +kernel]
          have s9 := hI.trans (same_upd (o := .lst [.bl true]) hD3)
          have ht9 := s9 _ _ ht7
          have hy9 := s9 _ _ hy
          have M9 := M7.same s9
          have s09 := s7.trans s9
          clear ht7 hy M7 s7 s9 hI hy2 hD3
          generalize upd H8 D3 (.lst [.bl true]) = H9 at *
          walk_at "nn2"
          refine ⟨t, _, _, _, rfl, rfl, SqL.of ht9, told ht9 (kx := n + 11 + p) (by omega) (by omega), ?_⟩
          rw [e5]
          refine ⟨rfl, _, rfl, ?_⟩
          refine iteN (by simp) ?_
          iterate 4 walk_at "n2"
          refine ⟨_, rfl, sz (show (⟨u.toArray⟩ : Str).length ≤ 100000 by omega), ?_⟩
          refine ⟨_, rfl, (show (-2 ^ 62 : Int) ≤ (((⟨u.toArray⟩ : Str).length : Nat) : Int) by omega), (show (((⟨u.toArray⟩ : Str).length : Nat) : Int) < 2 ^ 62 by omega), ?_⟩
          intro D4 hD4
          obtain ⟨dm9, lm9, hm9, -⟩ := id M9.at_
          refine lc_gen walk_range (fun H' => Same H9 H') (fun s y => y = V.bl (tv (lawF fls n i j p) (u.take (s + 1)) i)) (show (((⟨u.toArray⟩ : Str).length : Nat) : Int).toNat ≤ 100000 by omega) (same_upd hD4) (fun _ _ => trivial) (fun _ _ h => same_mut h hD4) ?_ ?_
          · rintro s x H1 H2 Q1 hlt hI ⟨rfl, rfl⟩ - hQ
            have hlt : s < (((⟨u.toArray⟩ : Str).length : Nat) : Int).toNat := hlt
            have sl : s < u.length := by omega
            show gName 16 (V.int (0 + (s : Int))) _ _ _
            obtain ⟨zs, hzs⟩ : ∃ zs : Int, zs = 0 + (s : Int) := ⟨_, rfl⟩
            rw [← hzs]
            have M1 := M9.same hI
            have hm1 := hI _ _ hm9
            walk_at "nn2"
            refine ⟨m, dm9, _, rfl, hm1, rfl, ?_⟩
            walk_at "nn2"
            have ec : cutS ⟨u.toArray⟩ none (some (zs + 1)) = ⟨(u.take (s + 1)).toArray⟩ := by
              rw [show zs + 1 = ((s + 1 : Nat) : Int) by omega]
              exact cutS_take (by omega)
            have lt : (⟨(u.take (s + 1)).toArray⟩ : Str).length = s + 1 := by
              show (u.take (s + 1)).toArray.size = _
              rw [List.size_toArray, List.length_take]
              omega
            have rl2 := (runL_len (lawF fls n i j p) (u.take (s + 1))).1
            refine ⟨m, cutS ⟨u.toArray⟩ none (some (zs + 1)), al, _, false, rfl, M1, by rw [ec]; omega, by rw [ec]; omega, fun c hc => ual c (List.mem_of_mem_take (by rw [ec] at hc; simpa using hc)), fun t2 H3 ht2 s3 => ?_⟩
            rw [ec] at ht2
            have ht2 : H3 t2 = some (.lst (boolL (runL (lawF fls n i j p) (u.take (s + 1))).1)) := ht2
            refine ⟨_, rfl, t2, _, iz, _, rfl, rfl, SqL.of ht2, (by rw [hiz]; exact atI_nat (boolL_at (by omega))), ?_⟩
            exact hQ _ _ rfl (hI.trans s3) fun _ h => s3 _ _ h
          · intro H10 ys hI hy4 hl hr4
            have e : ys = (seenB (lawF fls n i j p) i u).map V.bl := by
              have hl : ys.length = (((⟨u.toArray⟩ : Str).length : Nat) : Int).toNat := hl
              refine List.ext_getElem (by unfold seenB; simp only [List.length_map, List.length_range]; omega) fun k2 h1 h2 => ?_
              rw [hr4 k2 _ (List.getElem?_eq_getElem h1)]
              unfold seenB
              simp
            subst e
            have ht10 := hI _ _ ht9
            have hy10 := hI _ _ hy9
            have s10 := s09.trans hI
            clear hr4 hl hI hD4 ht9 hy9 M9 hm9
            walk_at "nn2"
            refine ⟨t, _, _, _, rfl, rfl, SqL.of ht10, told ht10 (kx := n + 10 + p) (by omega) (by omega), ?_⟩
            rw [e6]
            walk_at "nn2"
            refine ⟨D4, _, rfl, .inl (SqL.of hy4), rfl, flat_bools _, ?_⟩
            rw [in_true]
            walk_at "nn2"
            refine iteN (by simp) ?_
            walk_at "nn2"
            refine ⟨⟨_, SqL.of hy4⟩, fun D5 hD5 => ?_⟩
            have lb : (seenB (lawF fls n i j p) i u).length ≤ 100 := by unfold seenB; rw [List.length_map, List.length_range]; omega
            refine lc_fil walk_list (fun H' => Same H10 H') (filF (seenB (lawF fls n i j p) i u)) (by rw [List.length_map]; omega) (same_upd hD5) (fun _ h => SqL.of (h _ _ hy4)) (fun _ _ h => same_mut h hD5) ?_ ?_
            · rintro i2 x H4 H5 Q1 Qn hlt hI ⟨rfl, hx⟩ - hQ hN
              obtain ⟨bb, hbb, rfl⟩ := bool_item hx
              walk_at "nn2"
              cases bb
              · walk_at "nn2"
                exact hN _ (by unfold filF; rw [hbb]) hI fun _ h => h
              · walk_at "nn2"
                exact hQ _ _ (by unfold filF; rw [hbb]) hI fun _ h => h
            · intro H11 hI hy5
              rw [List.length_map, filF_all] at hy5
              walk_at "nn2"
              refine ⟨D5, _, rfl, .inl (SqL.of hy5), ?_⟩
              have ecnt : (((seenB (lawF fls n i j p) i u).filter id).map V.bl).length = cntB (seenB (lawF fls n i j p) i u) := by rw [List.length_map]; rfl
              rw [ecnt]
              obtain ⟨cz, hcz⟩ : ∃ cz : Int, cz = ((cntB (seenB (lawF fls n i j p) i u) : Nat) : Int) := ⟨_, rfl⟩
              rw [← hcz]
              walk_at "nn2"
              have cm : cntB (seenB (lawF fls n i j p) i u) % p < p := Nat.mod_lt _ (by omega)
              refine ⟨D, _, _, .bl true, rfl, rfl, SqL.of (hI _ _ hy10), ?_, ?_⟩
              · show atI _ (cz % pz) = _
                rw [hcz, hpz, ← Int.natCast_emod]
                refine atI_nat ?_
                rw [List.getElem?_map, List.getElem?_map, List.getElem?_range cm]
                simp
              walk_at "nn2"
              exact .mk ⟨_, _, _, _, _, _, _, rfl, s10.trans hI⟩

  · rintro σ H3 hP
    obtain ⟨y11, y12, y13, y14, y15, y16, y17, rfl, s5⟩ := hP.of
    walk_at "nn2"
    exact fin _
end
local macro_rules | `(tactic| walk_at "s2") => `(tactic| first
  | refine ⟨_, rfl, ?_⟩
  | refine ⟨_, _, rfl, rfl, ?_⟩
  | refine .inl ⟨_, rfl, ?_⟩
  | refine ⟨_, _, rfl, by assumption, ?_⟩
  | (refine And.intro ?_ ?_; focus (walk_at "side"))
  | refine iteT ?_
  | refine iteF ?_)
local macro_rules | `(tactic| walk_at "n2") => `(tactic| first
  | with_reducible refine MyP.seq_use (fun _ _ => ?_)
  | with_reducible refine MyP.SeqN.go (by assumption) ?_
  | with_reducible refine MyP.gname_use ?_
  | with_reducible refine MyP.next_use ?_
  | walk_at "s2")
local macro_rules | `(tactic| walk_at "nn2") => `(tactic| repeat walk_at "n2")

section
variable {P : Program} {w : World} {K : PySem.W.Frag} {mg : Str → Option Value} {base : Heap}
theorem ok_law (T : Env K mg) : FnOk P w K mg base CX0 16 T.f_law T.fd_law ["_law_script"] (spLaw K) := by
  refine T.F_law.ok sc_law (fun vs H Q E h => ?_) (fun cdv A outer s H vs Q E hr h => ?_)
  · obtain ⟨a, ns, rfl, _⟩ := h
    rfl
  · obtain ⟨tR, hR, qR⟩ := law_rest (P := P) (w := w) (base := base) T cdv A outer s H E hr
    refine ⟨_, ((pss_cons (ps_set (i := 1) sc_law.nd rfl (.inl rfl) (pe_call (ok_bag T) (hr.mono (by decide)) (by rfl) T.g_bag T.F_bag.kp T.b_bag .nil pass0 (pa_cons (pv 0) pa_nil)))
      (pss_cons (ps_set (i := 2) sc_law.nd rfl (.inl rfl) (pe_lst (pa_cons pe_str (pa_cons pe_str (pa_cons pe_str (pa_cons pe_str (pa_cons pe_str (pa_cons pe_str (pa_cons pe_str pa_nil)))))))))
      (pss_cons (ps_set (i := 3) sc_law.nd rfl (.inl rfl) (pe_call (ok_of T) (hr.mono (by decide)) (by rfl) T.g_of T.F_of.kp T.b_of .nil pass0 (pa_cons (pv 1) (pa_cons (pe_lst (pa_cons pe_str (pa_cons pe_str (pa_cons pe_str (pa_cons pe_str pa_nil))))) pa_nil))))
      (pss_cons (ps_set (i := 4) sc_law.nd rfl (.inl rfl) (pe_call (ok_saying T) (hr.mono (by decide)) (by rfl) T.g_saying T.F_saying.kp T.b_saying .nil pass0 (pa_cons (pv 1) (pa_cons (pv 3) (pa_cons (pe_op op_add pe_int (pe_call (ok_pull T) (hr.mono (by decide)) (by rfl) T.g_pull T.F_pull.kp T.b_pull .nil pass0 (pa_cons (pv 1) (pa_cons pe_int pa_nil)))) (pa_cons (pv 2) pa_nil))))))
      (pss_cons (ps_asg (pe_tup (pa_cons (pe_callB call_len_seq (by rfl) T.z_len (by decide +kernel) (pa_cons (pv 4) pa_nil)) (pa_cons (pe_call (ok_of T) (hr.mono (by decide)) (by rfl) T.g_of T.F_of.kp T.b_of .nil pass0 (pa_cons (pv 1) (pa_cons (pe_lst (pa_cons pe_int (pa_cons pe_int (pa_cons pe_int pa_nil)))) pa_nil))) pa_nil))) (pg_tup (by rfl) (pgs_cons (pg_name (i := 5) sc_law.nd rfl (.inr rfl)) (pgs_cons (pg_name (i := 6) sc_law.nd rfl (.inr rfl)) pgs_nil))))
      (pss_cons (ps_asg (pe_tup (pa_cons (pe_call (ok_pull T) (hr.mono (by decide)) (by rfl) T.g_pull T.F_pull.kp T.b_pull .nil pass0 (pa_cons (pv 1) (pa_cons (pv 5) pa_nil))) (pa_cons (pe_call (ok_pull T) (hr.mono (by decide)) (by rfl) T.g_pull T.F_pull.kp T.b_pull .nil pass0 (pa_cons (pv 1) (pa_cons (pv 5) pa_nil))) pa_nil))) (pg_tup (by rfl) (pgs_cons (pg_name (i := 7) sc_law.nd rfl (.inr rfl)) (pgs_cons (pg_name (i := 8) sc_law.nd rfl (.inl rfl)) pgs_nil))))
      (pss_cons (ps_set (i := 9) sc_law.nd rfl (.inl rfl) (pe_op op_cat (pv 4) (pe_lst (pa_cons (pe_tup (pa_cons pe_str (pa_cons (pv 7) (pa_cons (pv 8) pa_nil)))) (pa_cons (pe_tup (pa_cons pe_str (pa_cons (pv 5) pa_nil))) (pa_cons (pe_tup (pa_cons pe_str (pa_cons (pe_tup (pa_cons (pe_callB (call_min2 rfl) (by rfl) T.z_min (by decide +kernel) (pa_cons (pv 7) (pa_cons (pe_op op_add (pv 5) pe_int) pa_nil))) (pa_cons (pe_op op_add (pv 5) pe_int) pa_nil))) pa_nil))) (pa_cons (pe_tup (pa_cons pe_str (pa_cons (pe_tup (pa_cons (pe_callB (call_min2 rfl) (by rfl) T.z_min (by decide +kernel) (pa_cons (pv 8) (pa_cons (pe_op op_add (pv 5) pe_int) pa_nil))) (pa_cons (pe_op op_add (pv 5) pe_int) pa_nil))) pa_nil))) pa_nil)))))))
      (pss_cons (ps_set (i := 9) sc_law.nd rfl (.inl rfl) (pe_op op_cat (pv 9) (pe_lst (pa_cons (pe_tup (pa_cons pe_str (pa_cons (pe_tup pa_nil) pa_nil))) (pa_cons (pe_tup (pa_cons pe_str (pa_cons (pe_op op_add (pv 5) pe_int) pa_nil))) (pa_cons (pe_tup (pa_cons pe_str (pa_cons (pv 7) pa_nil))) (pa_cons (pe_tup (pa_cons pe_str (pa_cons (pe_op op_add (pv 5) pe_int) pa_nil))) (pa_cons (pe_tup (pa_cons pe_str (pa_cons (pv 7) pa_nil))) (pa_cons (pe_tup (pa_cons pe_str (pa_cons (pe_op op_add (pv 5) pe_int) pa_nil))) pa_nil)))))))))
      (pss_cons (ps_set (i := 9) sc_law.nd rfl (.inl rfl) (pe_op op_cat (pe_op op_cat (pv 9) (pe_lc (own := [("_law_rest", 15)]) (g := (gName 15)) (tt := tYes) rfl sc_law.nd (pi_range1 (by rfl) T.z_range (pa_cons (pv 6) pa_nil)) (blkOk_by (own := [("_law_rest", 15)]) (N := N_law) (sc := defScope s_law) (by decide +kernel)) (fun _ _ _ _ _ => (pg_name (i := 15) sc_law.nd rfl (.inl rfl))) (fun _ _ _ _ _ => pts_nil) (fun _ _ _ _ _ => (pe_tup (pa_cons pe_str (pa_cons (pv 7) (pa_cons (pv 6) (pa_cons (pv 15) pa_nil)))))))) (pe_lst (pa_cons (pe_tup (pa_cons pe_str (pa_cons (pe_op op_add (pv 5) pe_int) (pa_cons (pv 7) pa_nil)))) (pa_cons (pe_tup (pa_cons pe_str (pa_cons (pv 7) (pa_cons (pe_op op_add (pv 5) pe_int) pa_nil)))) pa_nil)))))
      (pss_cons (ps_set (i := 10) sc_law.nd rfl (.inr rfl) (pe_makeK T.k_Formula___init (ok_Formula___init T) (hr.mono (by decide)) (by rfl) T.gC_Formula T.kb_Formula___init pass0 (pa_cons (pv 3) (pa_cons (pv 9) pa_nil)) pk_nil))
      hR))))))))))), ?_⟩
    obtain ⟨a, ns, rfl, hS, hlen, q⟩ := h
    walk_at "ss"
    intro b l H1 hb0 hl0 B1 s1
    walk_at "ss"
    intro kl hkl
    have s2 := same_upd (o := .lst [.str "is", .str "not", .str "and", .str "or", .str "before", .str "since", .str "count"]) hkl
    have hkl2 : upd H1 kl (.lst [.str "is", .str "not", .str "and", .str "or", .str "before", .str "since", .str "count"]) kl = some (.lst kindsV) := upd_same
    have B2 := B1.same s2
    have klb := B1.nb hkl
    clear s2 hkl
    generalize upd H1 kl (.lst [.str "is", .str "not", .str "and", .str "or", .str "before", .str "since", .str "count"]) = G2 at *
    walk_at "nn2"
    intro D3 hD3
    have s3 := same_upd (o := .lst [.str "a", .str "ab", .str "ab", .str "abc"]) hD3
    refine ⟨b, l, _, rfl, B2.same s3, .inl ⟨D3, _, rfl, B2.nb hD3, .inl (SqL.of upd_same), (by intro z; cases z), (by show 4 ≤ 100000; decide), fun v H4 hv B4 k4 => ?_⟩⟩
    obtain ⟨al, rfl, hA⟩ : ∃ al : Str, v = .str al ∧ Alpha al.cps.toList := by
      simp only [List.mem_cons, List.not_mem_nil, or_false] at hv
      rcases hv with rfl | rfl | rfl | rfl <;> exact ⟨_, rfl, by decide +kernel⟩
    have al4 : al.length ≤ 4 := by rw [len_tl]; exact hA.2.1
    have al1 : 1 ≤ al.length := by rw [len_tl]; exact hA.1
    have hkl4 := k4 _ _ (s3 _ _ hkl2) klb
    clear B2 hkl2 s3 k4 hD3 hv
    walk_at "nn2"
    refine ⟨b, l, _, rfl, B4, by decide, by decide, fun kk G5 a0 a1 B5 k5 => ?_⟩
    have hkl5 := k5 _ _ hkl4 klb
    walk_at "nn2"
    refine ⟨b, l, kl, al, _, rfl, B5, al1, al4, hA.2.2.2.imp fun h => Nat.ne_of_lt h, by omega, by omega, hkl5, klb, fun r fls G6 F6 O6 l6 r0 B6 k6 => ?_⟩
    have rb := B5.nb r0
    clear B4 B5 k5 k6 hkl4 hkl5 r0
    obtain ⟨xs, hx, hl⟩ := F6.len
    obtain ⟨n, hn⟩ : ∃ n : Nat, fls.length = n := ⟨_, rfl⟩
    walk_at "nn2"
    refine ⟨r, xs, rfl, .inl (SqL.of hx), ?_⟩
    rw [hl, hn]
    obtain ⟨nz, hnz⟩ : ∃ nz : Int, nz = (n : Int) := ⟨_, rfl⟩
    rw [← hnz]
    walk_at "nn2"
    intro D5 hD5
    have s7 := same_upd (o := .lst [.int 2, .int 3, .int 5]) hD5
    refine ⟨b, l, _, rfl, B6.same s7, .inl ⟨D5, _, rfl, B6.nb hD5, .inl (SqL.of upd_same), (by intro z; cases z), (by show 3 ≤ 100000; decide), fun v H8 hv B8 k8 => ?_⟩⟩
    obtain ⟨p, hp, rfl⟩ : ∃ p : Nat, p ∈ [2, 3, 5] ∧ v = .int (p : Int) := by
      simp only [List.mem_cons, List.not_mem_nil, or_false] at hv
      rcases hv with rfl | rfl | rfl
      · exact ⟨2, by decide, rfl⟩
      · exact ⟨3, by decide, rfl⟩
      · exact ⟨5, by decide, rfl⟩
    have hp5 : 2 ≤ p ∧ p ≤ 5 := by
      simp only [List.mem_cons, List.not_mem_nil, or_false] at hp
      omega
    have F8 := (F6.same s7).kp k8 (B6.same s7) rb
    clear F6 B6 s7 k8 hv hD5 hx
    obtain ⟨pz, hpz⟩ : ∃ pz : Int, pz = (p : Int) := ⟨_, rfl⟩
    rw [← hpz]
    walk_at "nn2"
    intro tt htt
    have s9 := same_upd (o := .tup [.int nz, .int pz]) htt
    refine ⟨tt, _, rfl, .inl (.inl upd_same), rfl, _, _, rfl, _, _, rfl, rfl, ?_⟩
    have F9 := F8.same s9
    have B9 := B8.same s9
    clear F8 B8 htt s9
    generalize upd H8 tt (.tup [.int nz, .int pz]) = G9 at *
    walk_at "nn2"
    refine ⟨b, l, _, rfl, B9, by omega, by omega, fun iz H10 i0 i1 B10 k10 => ?_⟩
    have F10 := F9.kp k10 B9 rb
    walk_at "nn2"
    refine ⟨b, l, _, rfl, B10, by omega, by omega, fun jz H11 j0 j1 B11 k11 => ?_⟩
    have F11 := F10.kp k11 B10 rb
    clear F9 F10 B9 B10 k10 k11
    obtain ⟨i, hi⟩ : ∃ i : Nat, iz = (i : Int) := ⟨iz.toNat, by omega⟩
    obtain ⟨j, hj⟩ : ∃ j : Nat, jz = (j : Int) := ⟨jz.toNat, by omega⟩
    walk_at "nn2"
    intro tt htt
    have s9 := same_upd (o := .tup [.int iz, .int jz]) htt
    refine ⟨tt, _, rfl, .inl (.inl upd_same), rfl, _, _, rfl, _, _, rfl, rfl, ?_⟩
    have F12 := F11.same s9
    have B12 := B11.same s9
    clear F11 B11 htt s9
    generalize upd H11 tt (.tup [.int iz, .int jz]) = G12 at *
    walk_at "nn2"
    intro p1 hp1
    have t1 := same_upd (o := .tup [.str "since", .int iz, .int jz]) hp1
    walk_at "nn2"
    intro p2 hp2
    have t2 := same_upd (o := .tup [.str "before", .int nz]) hp2
    walk_at "nn2"
    refine ⟨_, _, rfl, ?_⟩
    rw [if_neg (show ¬ nz + 1 < iz by omega)]
    walk_at "nn2"
    intro q3 hq3
    have t3 := same_upd (o := .tup [.int iz, .int (nz + 1)]) hq3
    walk_at "nn2"
    intro p3 hp3
    have t4 := same_upd (o := .tup [.str "and", .ref q3]) hp3
    walk_at "nn2"
    refine ⟨_, _, rfl, ?_⟩
    rw [if_neg (show ¬ nz + 2 < jz by omega)]
    walk_at "nn2"
    intro q4 hq4
    have t5 := same_upd (o := .tup [.int jz, .int (nz + 2)]) hq4
    walk_at "nn2"
    intro p4 hp4
    have t6 := same_upd (o := .tup [.str "or", .ref q4]) hp4
    walk_at "nn2"
    intro D6 hD6
    have t7 := same_upd (o := .lst [.ref p1, .ref p2, .ref p3, .ref p4]) hD6
    obtain ⟨ps0, r12, f12⟩ := F12
    have a1 : FLAt (upd G12 p1 (.tup [.str "since", .int iz, .int jz])) p1 (.since i j) := by
      show _ = some (HO.tup [.str "since", .int (i : Int), .int (j : Int)])
      rw [← hi, ← hj]
      exact upd_same
    have a2 : FLAt (upd (upd G12 p1 (.tup [.str "since", .int iz, .int jz])) p2 (.tup [.str "before", .int nz])) p2 (.before n) := by
      show _ = some (HO.tup [.str "before", .int (n : Int)])
      rw [← hnz]
      exact upd_same
    have b3 : natL [i, n + 1] = [.int iz, .int (nz + 1)] := by
      unfold natL
      simp only [List.map_cons, List.map_nil]
      rw [show ((n + 1 : Nat) : Int) = nz + 1 by omega, ← hi]
    have b4 : natL [j, n + 2] = [.int jz, .int (nz + 2)] := by
      unfold natL
      simp only [List.map_cons, List.map_nil]
      rw [show ((n + 2 : Nat) : Int) = nz + 2 by omega, ← hj]
    have b5 : natL [] = [] := rfl
    have a3 : ∀ {H' : Hp}, H' p3 = some (.tup [.str "and", .ref q3]) → H' q3 = some (.tup [.int iz, .int (nz + 1)]) → FLAt H' p3 (.and [i, n + 1]) := fun x y => ⟨q3, x, by rw [b3]; exact y⟩
    have a4 : ∀ {H' : Hp}, H' p4 = some (.tup [.str "or", .ref q4]) → H' q4 = some (.tup [.int jz, .int (nz + 2)]) → FLAt H' p4 (.or [j, n + 2]) := fun x y => ⟨q4, x, by rw [b4]; exact y⟩
    have t57 := t5.trans (t6.trans t7)
    have t37 := t3.trans (t4.trans t57)
    have q3v := (t4.trans t57) _ _ (upd_same (a := q3) (o := .tup [.int iz, .int (nz + 1)]))
    have p3v := t57 _ _ (upd_same (a := p3) (o := .tup [.str "and", .ref q3]))
    have q4v := (t6.trans t7) _ _ (upd_same (a := q4) (o := .tup [.int jz, .int (nz + 2)]))
    have p4v := t7 _ _ (upd_same (a := p4) (o := .tup [.str "or", .ref q4]))
    have FA := FLp.app (FLp.cons (a1.same (t2.trans t37)) (.cons (a2.same t37) (.cons (a3 p3v q3v) (.cons (a4 p4v q4v) .nil)))) (FLp.same (show FLp G12 ps0 fls from f12) (t1.trans (t2.trans t37)))
    have S7 := t1.trans (t2.trans t37)
    have B13 := B12.same S7
    have r13 := S7 _ _ r12
    have ln0 : ps0.length = n := by rw [f12.1]; exact hn
    walk_at "nn2"
    refine cat_use (qs := [p1, p2, p3, p4]) r13 upd_same (by show ps0.length + 4 ≤ _; omega) fun r2 G14 hr0 s14 r14 => ?_
    have F14 := FA.same s14
    have B14 := B13.same s14
    clear t1 t2 t3 t4 t5 t6 t7 t57 t37 q3v p3v q4v p4v FA S7 a1 a2 a3 a4 r13 B13 hp1 hp2 hq3 hp3 hq4 hp4 hD6 hr0 s14 r12 f12 B12 b3 b4
    walk_at "nn2"
    intro q5 hq5
    have t1 := same_upd (o := .tup []) hq5
    walk_at "nn2"
    intro p5 hp5
    have t2 := same_upd (o := .tup [.str "and", .ref q5]) hp5
    walk_at "nn2"
    intro p6 hp6
    have t3 := same_upd (o := .tup [.str "before", .int (nz + 4)]) hp6
    walk_at "nn2"
    intro p7 hp7
    have t4 := same_upd (o := .tup [.str "not", .int iz]) hp7
    walk_at "nn2"
    intro p8 hp8
    have t5 := same_upd (o := .tup [.str "before", .int (nz + 6)]) hp8
    walk_at "nn2"
    intro p9 hp9
    have t6 := same_upd (o := .tup [.str "before", .int iz]) hp9
    walk_at "nn2"
    intro p10 hp10
    have t7 := same_upd (o := .tup [.str "not", .int (nz + 8)]) hp10
    walk_at "nn2"
    intro D7 hD7
    have t8 := same_upd (o := .lst [.ref p5, .ref p6, .ref p7, .ref p8, .ref p9, .ref p10]) hD7
    have t78 := t7.trans t8
    have t68 := t6.trans t78
    have t58 := t5.trans t68
    have t48 := t4.trans t58
    have t38 := t3.trans t48
    have t28 := t2.trans t38
    have q5v := t28 _ _ (upd_same (a := q5) (o := .tup []))
    have p5v := t38 _ _ (upd_same (a := p5) (o := .tup [.str "and", .ref q5]))
    have p6v := t48 _ _ (upd_same (a := p6) (o := .tup [.str "before", .int (nz + 4)]))
    have p7v := t58 _ _ (upd_same (a := p7) (o := .tup [.str "not", .int iz]))
    have p8v := t68 _ _ (upd_same (a := p8) (o := .tup [.str "before", .int (nz + 6)]))
    have p9v := t78 _ _ (upd_same (a := p9) (o := .tup [.str "before", .int iz]))
    have p10v := t8 _ _ (upd_same (a := p10) (o := .tup [.str "not", .int (nz + 8)]))
    have n4 : nz + 4 = ((n + 4 : Nat) : Int) := by omega
    have n6 : nz + 6 = ((n + 6 : Nat) : Int) := by omega
    have n8 : nz + 8 = ((n + 8 : Nat) : Int) := by omega
    rw [n4] at p6v
    rw [n6] at p8v
    rw [n8] at p10v
    have FB := FLp.app (FLp.cons (f := .and []) ⟨q5, p5v, q5v⟩ (.cons (f := .before (n + 4)) p6v (.cons (f := .not i) (by show _ = some (HO.tup [.str "not", .int (i : Int)]); rw [← hi]; exact p7v) (.cons (f := .before (n + 6)) p8v (.cons (f := .before i) (by show _ = some (HO.tup [.str "before", .int (i : Int)]); rw [← hi]; exact p9v) (.cons (f := .not (n + 8)) p10v .nil)))))) (F14.same (t1.trans t28))
    have S8 := t1.trans t28
    have r15 := S8 _ _ r14
    have B15 := B14.same S8
    walk_at "nn2"
    refine cat_use (qs := [p5, p6, p7, p8, p9, p10]) r15 upd_same (by rw [List.length_append]; show ps0.length + 4 + 6 ≤ _; omega) fun r3 G16 hr0 s16 r16 => ?_
    have F16 := FB.same s16
    have B16 := B15.same s16
    clear t1 t2 t3 t4 t5 t6 t7 t8 t78 t68 t58 t48 t38 t28 q5v p5v p6v p7v p8v p9v p10v FB S8 r15 B15 hq5 hp5 hp6 hp7 hp8 hp9 hp10 hD7 hr0 s16 r14 F14 B14
    walk_at "nn2"
    intro D8 hD8
    have nb8 : Same G16 (upd G16 D8 (.lst [])) := same_upd hD8
    refine lc_genH walk_range (fun H' => Same G16 H') (fun rr y H' => ∃ q, y = V.ref q ∧ H' q = some (.tup [.str "count", .int iz, .int pz, .int (rr : Nat)])) (by omega) nb8 (fun _ _ => trivial) (fun _ _ h => same_mut h hD8) (fun rr y H1 H2 tk ⟨q, e, h⟩ => ⟨q, e, tk _ _ h⟩) ?_ ?_
    · rintro rr x H1 H2 Q1 hlt hI ⟨rfl, rfl⟩ - hQ
      show gName 15 (V.int (0 + (rr : Int))) _ _ _
      rw [Int.zero_add]
      walk_at "nn2"
      intro qt hqt
      have sq := same_upd (o := .tup [.str "count", .int iz, .int pz, .int (rr : Nat)]) hqt
      exact hQ _ _ ⟨qt, rfl, upd_same⟩ (hI.trans sq) (TupKeep.of sq) fun o ho => sq _ _ ho
    · intro G17 ys hI hy hl hr2
      obtain ⟨qs, e, ql, hqs⟩ : ∃ qs : List Addr, ys = qs.map V.ref ∧ qs.length = p ∧ FLp G17 qs ((List.range p).map fun rr => .count i p rr) := by
        refine ⟨ys.map fun | .ref q => q | _ => 0, ?_, by rw [List.length_map, hl]; omega, by rw [List.length_map, List.length_map, List.length_range, hl]; omega, fun k2 q f a b => ?_⟩
        · rw [List.map_map]
          conv => lhs; rw [← List.map_id ys]
          refine List.map_congr_left fun y hyy => ?_
          obtain ⟨k2, hk2, hk3⟩ := List.mem_iff_getElem.mp hyy
          obtain ⟨q, e, _⟩ := hr2 k2 y (by rw [List.getElem?_eq_getElem hk2, hk3])
          rw [e]
          rfl
        · rw [List.getElem?_map] at a b
          cases hyk : ys[k2]? with
          | none => rw [hyk] at a; cases a
          | some y =>
            rw [hyk] at a
            obtain ⟨q', e, hq'⟩ := hr2 k2 y hyk
            subst e
            cases a
            have kp := (List.getElem?_eq_some_iff.mp hyk).1
            rw [List.getElem?_range (by omega)] at b
            cases b
            show G17 _ = some (HO.tup [.str "count", .int (i : Int), .int (p : Int), .int (k2 : Int)])
            rw [← hi, ← hpz]
            exact hq'
      subst e
      have F17 := FLp.app hqs (F16.same hI)
      have B17 := B16.same hI
      have r17 := hI _ _ r16
      clear hr2 hl hI F16 B16 r16 hD8 nb8
      walk_at "nn2"
      refine cat_use r17 hy (by rw [List.length_append, List.length_append, ql]; show ps0.length + 4 + 6 + p ≤ _; omega) fun r4 G18 hr4 s18 r18 => ?_
      have F18 := F17.same s18
      have B18 := B17.same s18
      clear r17 hy F17 B17 s18 hr4
      walk_at "nn2"
      intro p11 hp11
      have t1 := same_upd (o := .tup [.str "since", .int (nz + 4), .int iz]) hp11
      walk_at "nn2"
      intro p12 hp12
      have t2 := same_upd (o := .tup [.str "since", .int iz, .int (nz + 4)]) hp12
      walk_at "nn2"
      intro D9 hD9
      have t3 := same_upd (o := .lst [.ref p11, .ref p12]) hD9
      have t23 := t2.trans t3
      have p11v := t23 _ _ (upd_same (a := p11) (o := .tup [.str "since", .int (nz + 4), .int iz]))
      have p12v := t3 _ _ (upd_same (a := p12) (o := .tup [.str "since", .int iz, .int (nz + 4)]))
      have n4 : nz + 4 = ((n + 4 : Nat) : Int) := by omega
      have FC := FLp.app (FLp.cons (f := .since (n + 4) i) (by show _ = some (HO.tup [.str "since", .int ((n + 4 : Nat) : Int), .int (i : Int)]); rw [← n4, ← hi]; exact p11v) (.cons (f := .since i (n + 4)) (by show _ = some (HO.tup [.str "since", .int (i : Int), .int ((n + 4 : Nat) : Int)]); rw [← n4, ← hi]; exact p12v) .nil)) (F18.same (t1.trans t23))
      have r19 := (t1.trans t23) _ _ r18
      have B19 := B18.same (t1.trans t23)
      walk_at "nn2"
      refine cat_use (qs := [p11, p12]) r19 upd_same (by rw [List.length_append, List.length_append, List.length_append, ql]; show ps0.length + 4 + 6 + p + 2 ≤ _; omega) fun r5 G20 hr5 s20 r20 => ?_
      have F20 := FC.same s20
      clear t1 t2 t3 t23 p11v p12v FC r19 B19 B18 F18 r18 s20 hr5 hp11 hp12 hD9
      walk_at "nn2"
      intro m dx m0 dx0 ne
      have sA : Same G20 (upd (upd G20 dx (.own m)) m (.ins T.C_Formula dx [])) := (same_upd dx0).trans (same_upd (by rw [upd_ne ne.symm]; exact m0))
      have FA := F20.same sA
      refine ⟨m, dx, r5, al, lawF fls n i j p, false, rfl, upd_same, (ne_none m0 r20).symm, ⟨_, sA _ _ r20, FA.1, FA.2⟩, hA, lawF_ok O6 hn (by omega) (by omega) hp, ⟨by rw [lawF_len fls hn]; omega, by rw [lawF_len fls hn]; omega⟩, fun H8 k8 M8 => ⟨rfl, ?_⟩⟩
      walk_at "nn2"
      exact qR _ _ a m al fls n i j p nz pz iz _ _ _ _ _ _ _ _ _ _ _ _ (fun G' => q G') hA hn (by omega) (by omega) (by omega) (by omega) hp hnz hpz hi M8
end

open PySem.W PySem.Calls PySem.HandSPX in
theorem all_mk {l : PySem.W.OpenLaw} {w : World} {K : PySem.W.Frag} {h : Heap} {mg : Str → Option Value} {fa : Addr} (X : K.In h) (G : h.Ns mainGlobals mg) (hfa : mg "law" = some (.ref fa))
    {C_Formula : Addr}
    {tk_Formula_MOST : Tok}
    {od_texts an_texts : Option Addr} {sl_texts : Array (Option Value)} {oc_texts kV_texts dc_texts pm_texts cd_texts ct_texts : Value} {f_texts : Addr}
    {od_longer an_longer : Option Addr} {sl_longer : Array (Option Value)} {oc_longer kV_longer dc_longer pm_longer cd_longer ct_longer : Value} {f_longer : Addr}
    {od_saying an_saying : Option Addr} {sl_saying : Array (Option Value)} {oc_saying kV_saying dc_saying pm_saying cd_saying ct_saying : Value} {f_saying : Addr}
    {od_some_signs an_some_signs : Option Addr} {sl_some_signs : Array (Option Value)} {oc_some_signs kV_some_signs dc_some_signs pm_some_signs cd_some_signs ct_some_signs : Value} {f_some_signs : Addr}
    {od_law an_law : Option Addr} {sl_law : Array (Option Value)} {oc_law kV_law dc_law pm_law cd_law ct_law : Value} {f_law : Addr}
    {od_Formula_truths an_Formula_truths : Option Addr} {sl_Formula_truths : Array (Option Value)} {oc_Formula_truths kV_Formula_truths dc_Formula_truths pm_Formula_truths cd_Formula_truths ct_Formula_truths : Value} {f_Formula_truths : Addr}
    {od_bag an_bag : Option Addr} {sl_bag : Array (Option Value)} {oc_bag kV_bag dc_bag pm_bag cd_bag ct_bag : Value} {f_bag : Addr}
    {od_pull an_pull : Option Addr} {sl_pull : Array (Option Value)} {oc_pull kV_pull dc_pull pm_pull cd_pull ct_pull : Value} {f_pull : Addr}
    {od_of an_of : Option Addr} {sl_of : Array (Option Value)} {oc_of kV_of dc_of pm_of cd_of ct_of : Value} {f_of : Addr}
    {od_is_alphabet an_is_alphabet : Option Addr} {sl_is_alphabet : Array (Option Value)} {oc_is_alphabet kV_is_alphabet dc_is_alphabet pm_is_alphabet cd_is_alphabet ct_is_alphabet : Value} {f_is_alphabet : Addr}
    {od_is_word an_is_word : Option Addr} {sl_is_word : Array (Option Value)} {oc_is_word kV_is_word dc_is_word pm_is_word cd_is_word ct_is_word : Value} {f_is_word : Addr}
    {od_is_number an_is_number : Option Addr} {sl_is_number : Array (Option Value)} {oc_is_number kV_is_number dc_is_number pm_is_number cd_is_number ct_is_number : Value} {f_is_number : Addr}
    {od_is_below an_is_below : Option Addr} {sl_is_below : Array (Option Value)} {oc_is_below kV_is_below dc_is_below pm_is_below cd_is_below ct_is_below : Value} {f_is_below : Addr}
    {od_is_listed an_is_listed : Option Addr} {sl_is_listed : Array (Option Value)} {oc_is_listed kV_is_listed dc_is_listed pm_is_listed cd_is_listed ct_is_listed : Value} {f_is_listed : Addr}
    {od_is_prime an_is_prime : Option Addr} {sl_is_prime : Array (Option Value)} {oc_is_prime kV_is_prime dc_is_prime pm_is_prime cd_is_prime ct_is_prime : Value} {f_is_prime : Addr}
    {od_are_letters an_are_letters : Option Addr} {sl_are_letters : Array (Option Value)} {oc_are_letters kV_are_letters dc_are_letters pm_are_letters cd_are_letters ct_are_letters : Value} {f_are_letters : Addr}
    {od_are_refs an_are_refs : Option Addr} {sl_are_refs : Array (Option Value)} {oc_are_refs kV_are_refs dc_are_refs pm_are_refs cd_are_refs ct_are_refs : Value} {f_are_refs : Addr}
    {od_can_stand an_can_stand : Option Addr} {sl_can_stand : Array (Option Value)} {oc_can_stand kV_can_stand dc_can_stand pm_can_stand cd_can_stand ct_can_stand : Value} {f_can_stand : Addr}
    {od_check_lines an_check_lines : Option Addr} {sl_check_lines : Array (Option Value)} {oc_check_lines kV_check_lines dc_check_lines pm_check_lines cd_check_lines ct_check_lines : Value} {f_check_lines : Addr}
    {od_Formula___init an_Formula___init : Option Addr} {sl_Formula___init : Array (Option Value)} {oc_Formula___init kV_Formula___init dc_Formula___init pm_Formula___init cd_Formula___init ct_Formula___init : Value} {f_Formula___init : Addr}
    {KD_Formula___init : Addr} 
    {od_next_truths an_next_truths : Option Addr} {sl_next_truths : Array (Option Value)} {oc_next_truths kV_next_truths dc_next_truths pm_next_truths cd_next_truths ct_next_truths : Value} {f_next_truths : Addr}
    {od_last_truths an_last_truths : Option Addr} {sl_last_truths : Array (Option Value)} {oc_last_truths kV_last_truths dc_last_truths pm_last_truths cd_last_truths ct_last_truths : Value} {f_last_truths : Addr}
    {t_MOST_LETTERS : Tok}
    {r_PRIMES : Addr} {ot_PRIMES : Option Addr} {tn_PRIMES : Nat} {sl_PRIMES : Array (Option Value)} {q_PRIMES_0 q_PRIMES_1 q_PRIMES_2 q_PRIMES_3 q_PRIMES_4 q_PRIMES_5 q_PRIMES_6 q_PRIMES_7 q_PRIMES_8 q_PRIMES_9 q_PRIMES_10 q_PRIMES_11 q_PRIMES_12 q_PRIMES_13 q_PRIMES_14 q_PRIMES_15 q_PRIMES_16 q_PRIMES_17 q_PRIMES_18 q_PRIMES_19 q_PRIMES_20 q_PRIMES_21 q_PRIMES_22 q_PRIMES_23 q_PRIMES_24 : Tok}
    (aC_Formula : PySem.W.nsIn K mainGlobals "Formula" = some (some (.ref C_Formula)))
    (pg_Formula : PySem.W.plainGet K C_Formula Str.empty = true)
    (hd_Formula : PySem.W.hasDictIn K C_Formula = true)
    (po_Formula : PySem.W.plainOver K C_Formula = true)
    (sa_Formula : PySem.W.findIn K (.ref C_Formula) "__setattr__" = some (some (.builtin "object.__setattr__")))
    (mk_Formula : PySem.W.makesIn K C_Formula = true)
    (kc_Formula : PySem.W.keepIn K (.ref C_Formula) = true)
    (n_Formula__alphabet : PySem.W.findIn K (.ref C_Formula) "_alphabet" = some none)
    (n_Formula__lines : PySem.W.findIn K (.ref C_Formula) "_lines" = some none)
    (n_Formula__first : PySem.W.findIn K (.ref C_Formula) "_first" = some none)
    (o_Formula_MOST : PySem.W.findIn K (.ref C_Formula) "MOST" = some (some (.int 4000 tk_Formula_MOST)))
    (og_Formula_MOST : PySem.W.specialIn K (.int 4000 tk_Formula_MOST) "__get__" = some none)
    (a_texts : PySem.W.nsIn K mainGlobals "_law_texts" = some (some (.ref f_texts)))
    (l_texts : K.lookup f_texts = some ⟨oc_texts, od_texts, .func (PySem.W.fnOf "_law_texts" "_law_texts" (defArgs s_texts) (defBody s_texts) (defScope s_texts) .none kV_texts dc_texts pm_texts an_texts cd_texts ct_texts), sl_texts⟩) (c_texts : PySem.W.codeIn K cd_texts "_law_texts" = true) (k_texts : PySem.W.keepIn K (.ref f_texts) = true)
    (a_longer : PySem.W.nsIn K mainGlobals "_law_longer" = some (some (.ref f_longer)))
    (l_longer : K.lookup f_longer = some ⟨oc_longer, od_longer, .func (PySem.W.fnOf "_law_longer" "_law_longer" (defArgs s_longer) (defBody s_longer) (defScope s_longer) .none kV_longer dc_longer pm_longer an_longer cd_longer ct_longer), sl_longer⟩) (c_longer : PySem.W.codeIn K cd_longer "_law_longer" = true) (k_longer : PySem.W.keepIn K (.ref f_longer) = true)
    (a_saying : PySem.W.nsIn K mainGlobals "_law_saying" = some (some (.ref f_saying)))
    (l_saying : K.lookup f_saying = some ⟨oc_saying, od_saying, .func (PySem.W.fnOf "_law_saying" "_law_saying" (defArgs s_saying) (defBody s_saying) (defScope s_saying) .none kV_saying dc_saying pm_saying an_saying cd_saying ct_saying), sl_saying⟩) (c_saying : PySem.W.codeIn K cd_saying "_law_saying" = true) (k_saying : PySem.W.keepIn K (.ref f_saying) = true)
    (a_some_signs : PySem.W.nsIn K mainGlobals "_law_some_signs" = some (some (.ref f_some_signs)))
    (l_some_signs : K.lookup f_some_signs = some ⟨oc_some_signs, od_some_signs, .func (PySem.W.fnOf "_law_some_signs" "_law_some_signs" (defArgs s_some_signs) (defBody s_some_signs) (defScope s_some_signs) .none kV_some_signs dc_some_signs pm_some_signs an_some_signs cd_some_signs ct_some_signs), sl_some_signs⟩) (c_some_signs : PySem.W.codeIn K cd_some_signs "_law_some_signs" = true) (k_some_signs : PySem.W.keepIn K (.ref f_some_signs) = true)
    (a_law : PySem.W.nsIn K mainGlobals "law" = some (some (.ref f_law)))
    (l_law : K.lookup f_law = some ⟨oc_law, od_law, .func (PySem.W.fnOf "law" "law" (defArgs s_law) (defBody s_law) (defScope s_law) .none kV_law dc_law pm_law an_law cd_law ct_law), sl_law⟩) (c_law : PySem.W.codeIn K cd_law "law" = true) (k_law : PySem.W.keepIn K (.ref f_law) = true)
    (a_Formula_truths : PySem.W.findIn K (.ref C_Formula) "truths" = some (some (.ref f_Formula_truths)))
    (i_Formula_truths : PySem.W.isFn K (.ref f_Formula_truths) = true)
    (l_Formula_truths : K.lookup f_Formula_truths = some ⟨oc_Formula_truths, od_Formula_truths, .func (PySem.W.fnOf "truths" "Formula.truths" (defArgs s_Formula_truths) (defBody s_Formula_truths) (defScope s_Formula_truths) .none kV_Formula_truths dc_Formula_truths pm_Formula_truths an_Formula_truths cd_Formula_truths ct_Formula_truths), sl_Formula_truths⟩) (c_Formula_truths : PySem.W.codeIn K cd_Formula_truths "Formula.truths" = true) (k_Formula_truths : PySem.W.keepIn K (.ref f_Formula_truths) = true)
    (a_bag : PySem.W.nsIn K mainGlobals "_law_bag" = some (some (.ref f_bag)))
    (l_bag : K.lookup f_bag = some ⟨oc_bag, od_bag, .func (PySem.W.fnOf "_law_bag" "_law_bag" (defArgs s_bag) (defBody s_bag) (defScope s_bag) .none kV_bag dc_bag pm_bag an_bag cd_bag ct_bag), sl_bag⟩) (c_bag : PySem.W.codeIn K cd_bag "_law_bag" = true) (k_bag : PySem.W.keepIn K (.ref f_bag) = true)
    (a_pull : PySem.W.nsIn K mainGlobals "_law_pull" = some (some (.ref f_pull)))
    (l_pull : K.lookup f_pull = some ⟨oc_pull, od_pull, .func (PySem.W.fnOf "_law_pull" "_law_pull" (defArgs s_pull) (defBody s_pull) (defScope s_pull) .none kV_pull dc_pull pm_pull an_pull cd_pull ct_pull), sl_pull⟩) (c_pull : PySem.W.codeIn K cd_pull "_law_pull" = true) (k_pull : PySem.W.keepIn K (.ref f_pull) = true)
    (a_of : PySem.W.nsIn K mainGlobals "_law_of" = some (some (.ref f_of)))
    (l_of : K.lookup f_of = some ⟨oc_of, od_of, .func (PySem.W.fnOf "_law_of" "_law_of" (defArgs s_of) (defBody s_of) (defScope s_of) .none kV_of dc_of pm_of an_of cd_of ct_of), sl_of⟩) (c_of : PySem.W.codeIn K cd_of "_law_of" = true) (k_of : PySem.W.keepIn K (.ref f_of) = true)
    (a_is_alphabet : PySem.W.nsIn K mainGlobals "is_alphabet" = some (some (.ref f_is_alphabet)))
    (l_is_alphabet : K.lookup f_is_alphabet = some ⟨oc_is_alphabet, od_is_alphabet, .func (PySem.W.fnOf "is_alphabet" "is_alphabet" (defArgs s_is_alphabet) (defBody s_is_alphabet) (defScope s_is_alphabet) .none kV_is_alphabet dc_is_alphabet pm_is_alphabet an_is_alphabet cd_is_alphabet ct_is_alphabet), sl_is_alphabet⟩) (c_is_alphabet : PySem.W.codeIn K cd_is_alphabet "is_alphabet" = true) (k_is_alphabet : PySem.W.keepIn K (.ref f_is_alphabet) = true)
    (a_is_word : PySem.W.nsIn K mainGlobals "is_word" = some (some (.ref f_is_word)))
    (l_is_word : K.lookup f_is_word = some ⟨oc_is_word, od_is_word, .func (PySem.W.fnOf "is_word" "is_word" (defArgs s_is_word) (defBody s_is_word) (defScope s_is_word) .none kV_is_word dc_is_word pm_is_word an_is_word cd_is_word ct_is_word), sl_is_word⟩) (c_is_word : PySem.W.codeIn K cd_is_word "is_word" = true) (k_is_word : PySem.W.keepIn K (.ref f_is_word) = true)
    (a_is_number : PySem.W.nsIn K mainGlobals "is_number" = some (some (.ref f_is_number)))
    (l_is_number : K.lookup f_is_number = some ⟨oc_is_number, od_is_number, .func (PySem.W.fnOf "is_number" "is_number" (defArgs s_is_number) (defBody s_is_number) (defScope s_is_number) .none kV_is_number dc_is_number pm_is_number an_is_number cd_is_number ct_is_number), sl_is_number⟩) (c_is_number : PySem.W.codeIn K cd_is_number "is_number" = true) (k_is_number : PySem.W.keepIn K (.ref f_is_number) = true)
    (a_is_below : PySem.W.nsIn K mainGlobals "is_below" = some (some (.ref f_is_below)))
    (l_is_below : K.lookup f_is_below = some ⟨oc_is_below, od_is_below, .func (PySem.W.fnOf "is_below" "is_below" (defArgs s_is_below) (defBody s_is_below) (defScope s_is_below) .none kV_is_below dc_is_below pm_is_below an_is_below cd_is_below ct_is_below), sl_is_below⟩) (c_is_below : PySem.W.codeIn K cd_is_below "is_below" = true) (k_is_below : PySem.W.keepIn K (.ref f_is_below) = true)
    (a_is_listed : PySem.W.nsIn K mainGlobals "is_listed" = some (some (.ref f_is_listed)))
    (l_is_listed : K.lookup f_is_listed = some ⟨oc_is_listed, od_is_listed, .func (PySem.W.fnOf "is_listed" "is_listed" (defArgs s_is_listed) (defBody s_is_listed) (defScope s_is_listed) .none kV_is_listed dc_is_listed pm_is_listed an_is_listed cd_is_listed ct_is_listed), sl_is_listed⟩) (c_is_listed : PySem.W.codeIn K cd_is_listed "is_listed" = true) (k_is_listed : PySem.W.keepIn K (.ref f_is_listed) = true)
    (a_is_prime : PySem.W.nsIn K mainGlobals "is_prime" = some (some (.ref f_is_prime)))
    (l_is_prime : K.lookup f_is_prime = some ⟨oc_is_prime, od_is_prime, .func (PySem.W.fnOf "is_prime" "is_prime" (defArgs s_is_prime) (defBody s_is_prime) (defScope s_is_prime) .none kV_is_prime dc_is_prime pm_is_prime an_is_prime cd_is_prime ct_is_prime), sl_is_prime⟩) (c_is_prime : PySem.W.codeIn K cd_is_prime "is_prime" = true) (k_is_prime : PySem.W.keepIn K (.ref f_is_prime) = true)
    (a_are_letters : PySem.W.nsIn K mainGlobals "are_letters" = some (some (.ref f_are_letters)))
    (l_are_letters : K.lookup f_are_letters = some ⟨oc_are_letters, od_are_letters, .func (PySem.W.fnOf "are_letters" "are_letters" (defArgs s_are_letters) (defBody s_are_letters) (defScope s_are_letters) .none kV_are_letters dc_are_letters pm_are_letters an_are_letters cd_are_letters ct_are_letters), sl_are_letters⟩) (c_are_letters : PySem.W.codeIn K cd_are_letters "are_letters" = true) (k_are_letters : PySem.W.keepIn K (.ref f_are_letters) = true)
    (a_are_refs : PySem.W.nsIn K mainGlobals "are_refs" = some (some (.ref f_are_refs)))
    (l_are_refs : K.lookup f_are_refs = some ⟨oc_are_refs, od_are_refs, .func (PySem.W.fnOf "are_refs" "are_refs" (defArgs s_are_refs) (defBody s_are_refs) (defScope s_are_refs) .none kV_are_refs dc_are_refs pm_are_refs an_are_refs cd_are_refs ct_are_refs), sl_are_refs⟩) (c_are_refs : PySem.W.codeIn K cd_are_refs "are_refs" = true) (k_are_refs : PySem.W.keepIn K (.ref f_are_refs) = true)
    (a_can_stand : PySem.W.nsIn K mainGlobals "can_stand" = some (some (.ref f_can_stand)))
    (l_can_stand : K.lookup f_can_stand = some ⟨oc_can_stand, od_can_stand, .func (PySem.W.fnOf "can_stand" "can_stand" (defArgs s_can_stand) (defBody s_can_stand) (defScope s_can_stand) .none kV_can_stand dc_can_stand pm_can_stand an_can_stand cd_can_stand ct_can_stand), sl_can_stand⟩) (c_can_stand : PySem.W.codeIn K cd_can_stand "can_stand" = true) (k_can_stand : PySem.W.keepIn K (.ref f_can_stand) = true)
    (a_check_lines : PySem.W.nsIn K mainGlobals "check_lines" = some (some (.ref f_check_lines)))
    (l_check_lines : K.lookup f_check_lines = some ⟨oc_check_lines, od_check_lines, .func (PySem.W.fnOf "check_lines" "check_lines" (defArgs s_check_lines) (defBody s_check_lines) (defScope s_check_lines) .none kV_check_lines dc_check_lines pm_check_lines an_check_lines cd_check_lines ct_check_lines), sl_check_lines⟩) (c_check_lines : PySem.W.codeIn K cd_check_lines "check_lines" = true) (k_check_lines : PySem.W.keepIn K (.ref f_check_lines) = true)
    (a_Formula___init : PySem.W.findIn K (.ref C_Formula) "__init__" = some (some (.ref f_Formula___init)))
    (i_Formula___init : PySem.W.isFn K (.ref f_Formula___init) = true)
    (l_Formula___init : K.lookup f_Formula___init = some ⟨oc_Formula___init, od_Formula___init, .func (PySem.W.fnOf "__init__" "Formula.__init__" (defArgs s_Formula___init) (defBody s_Formula___init) (defScope s_Formula___init) .none kV_Formula___init dc_Formula___init pm_Formula___init an_Formula___init cd_Formula___init ct_Formula___init), sl_Formula___init⟩) (c_Formula___init : PySem.W.codeIn K cd_Formula___init "Formula.__init__" = true) (k_Formula___init : PySem.W.keepIn K (.ref f_Formula___init) = true)
    (kd_Formula___init : kV_Formula___init = .ref KD_Formula___init)
    (kn_Formula___init_first : PySem.W.nsIn K KD_Formula___init "first" = some (some (.bool false)))
    (a_next_truths : PySem.W.nsIn K mainGlobals "next_truths" = some (some (.ref f_next_truths)))
    (l_next_truths : K.lookup f_next_truths = some ⟨oc_next_truths, od_next_truths, .func (PySem.W.fnOf "next_truths" "next_truths" (defArgs s_next_truths) (defBody s_next_truths) (defScope s_next_truths) .none kV_next_truths dc_next_truths pm_next_truths an_next_truths cd_next_truths ct_next_truths), sl_next_truths⟩) (c_next_truths : PySem.W.codeIn K cd_next_truths "next_truths" = true) (k_next_truths : PySem.W.keepIn K (.ref f_next_truths) = true)
    (a_last_truths : PySem.W.nsIn K mainGlobals "last_truths" = some (some (.ref f_last_truths)))
    (l_last_truths : K.lookup f_last_truths = some ⟨oc_last_truths, od_last_truths, .func (PySem.W.fnOf "last_truths" "last_truths" (defArgs s_last_truths) (defBody s_last_truths) (defScope s_last_truths) .none kV_last_truths dc_last_truths pm_last_truths an_last_truths cd_last_truths ct_last_truths), sl_last_truths⟩) (c_last_truths : PySem.W.codeIn K cd_last_truths "last_truths" = true) (k_last_truths : PySem.W.keepIn K (.ref f_last_truths) = true)
    (z_min : PySem.W.nsIn K mainGlobals "min" = some none)
    (z_max : PySem.W.nsIn K mainGlobals "max" = some none)
    (z_tuple : PySem.W.nsIn K mainGlobals "tuple" = some none)
    (z_list : PySem.W.nsIn K mainGlobals "list" = some none)
    (z_len : PySem.W.nsIn K mainGlobals "len" = some none)
    (z_range : PySem.W.nsIn K mainGlobals "range" = some none)
    (z_int : PySem.W.nsIn K mainGlobals "int" = some none)
    (z_all : PySem.W.nsIn K mainGlobals "all" = some none)
    (z_any : PySem.W.nsIn K mainGlobals "any" = some none)
    (z_sorted : PySem.W.nsIn K mainGlobals "sorted" = some none)
    (z_enumerate : PySem.W.nsIn K mainGlobals "enumerate" = some none)
    (z_str : PySem.W.nsIn K mainGlobals "str" = some none)
    (z_isinstance : PySem.W.nsIn K mainGlobals "isinstance" = some none)
    (z_abs : PySem.W.nsIn K mainGlobals "abs" = some none)
    (z_bool : PySem.W.nsIn K mainGlobals "bool" = some none)
    (z_dict : PySem.W.nsIn K mainGlobals "dict" = some none)
    (z_zip : PySem.W.nsIn K mainGlobals "zip" = some none)
    (c_MOST_LETTERS : PySem.W.nsIn K mainGlobals "MOST_LETTERS" = some (some (.int 4 t_MOST_LETTERS)))
    (a_PRIMES : PySem.W.nsIn K mainGlobals "PRIMES" = some (some (.ref r_PRIMES))) (l_PRIMES : K.lookup r_PRIMES = some ⟨.type "tuple", ot_PRIMES, .seq #[.int 2 q_PRIMES_0, .int 3 q_PRIMES_1, .int 5 q_PRIMES_2, .int 7 q_PRIMES_3, .int 11 q_PRIMES_4, .int 13 q_PRIMES_5, .int 17 q_PRIMES_6, .int 19 q_PRIMES_7, .int 23 q_PRIMES_8, .int 29 q_PRIMES_9, .int 31 q_PRIMES_10, .int 37 q_PRIMES_11, .int 41 q_PRIMES_12, .int 43 q_PRIMES_13, .int 47 q_PRIMES_14, .int 53 q_PRIMES_15, .int 59 q_PRIMES_16, .int 61 q_PRIMES_17, .int 67 q_PRIMES_18, .int 71 q_PRIMES_19, .int 73 q_PRIMES_20, .int 79 q_PRIMES_21, .int 83 q_PRIMES_22, .int 89 q_PRIMES_23, .int 97 q_PRIMES_24] tn_PRIMES, sl_PRIMES⟩) :
    ∃ fd : FuncData, (∀ (s : Shared) (v : Value), BindsTo s fd ⟨[v], []⟩ [("_law_script", v)]) ∧ ∀ base : Heap, K.In base → base.Ns mainGlobals mg → FnOk l.prog w K mg base CX0 16 fa fd ["_law_script"] (spLaw K) := by
  have e := hfa.symm.trans (PySem.W.mg_of X G a_law)
  cases e
  obtain ⟨kx_Formula___init, kb_Formula___init⟩ := FunD.kbinds0 (ps := ["self", "alphabet", "lines", "first"]) (show FunD K "__init__" "Formula.__init__" (defArgs s_Formula___init) (defBody s_Formula___init) (defScope s_Formula___init) [] [("first", .bl false)] f_Formula___init (PySem.W.fnOf "__init__" "Formula.__init__" (defArgs s_Formula___init) (defBody s_Formula___init) (defScope s_Formula___init) .none kV_Formula___init dc_Formula___init pm_Formula___init an_Formula___init cd_Formula___init ct_Formula___init) from ⟨⟨_, _, .none, kV_Formula___init, dc_Formula___init, pm_Formula___init, an_Formula___init, cd_Formula___init, ct_Formula___init, _, rfl, l_Formula___init, c_Formula___init, .inl ⟨rfl, rfl⟩, .inr ⟨KD_Formula___init, kd_Formula___init, fun q hq => by
    simp only [List.mem_cons, List.not_mem_nil, or_false] at hq
    rcases hq with rfl
    · exact ⟨_, kn_Formula___init_first, rfl⟩⟩⟩, k_Formula___init⟩) 3 [] [("first", .bl false)] (fun us mz _ => us ++ mz) (by decide) (fun q hq => hq) (fun a b _ => a.append b) (fun _ _ _ _ _ _ us mv ws h1 h2 h3 => match us, mv, ws, h1, h2, h3 with | [_, _, _], [_], [], _, _, _ => ⟨_, _, _, _, _, _, rfl, rfl, rfl⟩)
  let T : Env K mg := {
    C_Formula := _, gC_Formula := PySem.W.mg_of X G aC_Formula, n_Formula__alphabet := n_Formula__alphabet, n_Formula__lines := n_Formula__lines, n_Formula__first := n_Formula__first, u_Formula_MOST := _, o_Formula_MOST := ⟨o_Formula_MOST, ⟨_, rfl⟩, og_Formula_MOST, rfl⟩, cl_Formula := ⟨pg_Formula, hd_Formula, po_Formula, sa_Formula⟩,
    f_texts := _, fd_texts := _, F_texts := fun_mk (st := s_texts) l_texts c_texts k_texts, b_texts := ((fun_mk (st := s_texts) l_texts c_texts k_texts).binds (ps := ["_law_signs", "_law_size"]) (fun _ _ _ _ _ _ us hl => match us, hl with | [_, _], _ => rfl)), g_texts := PySem.W.mg_of X G a_texts,
    f_longer := _, fd_longer := _, F_longer := fun_mk (st := s_longer) l_longer c_longer k_longer, b_longer := ((fun_mk (st := s_longer) l_longer c_longer k_longer).binds (ps := ["_law_level", "_law_signs"]) (fun _ _ _ _ _ _ us hl => match us, hl with | [_, _], _ => rfl)), g_longer := PySem.W.mg_of X G a_longer,
    f_saying := _, fd_saying := _, F_saying := fun_mk (st := s_saying) l_saying c_saying k_saying, b_saying := ((fun_mk (st := s_saying) l_saying c_saying k_saying).binds (ps := ["_law_bag_here", "_law_signs", "_law_many", "_law_kinds"]) (fun _ _ _ _ _ _ us hl => match us, hl with | [_, _, _, _], _ => rfl)), g_saying := PySem.W.mg_of X G a_saying,
    f_some_signs := _, fd_some_signs := _, F_some_signs := fun_mk (st := s_some_signs) l_some_signs c_some_signs k_some_signs, b_some_signs := ((fun_mk (st := s_some_signs) l_some_signs c_some_signs k_some_signs).binds (ps := ["_law_bag_here", "_law_signs"]) (fun _ _ _ _ _ _ us hl => match us, hl with | [_, _], _ => rfl)), g_some_signs := PySem.W.mg_of X G a_some_signs,
    f_law := _, fd_law := _, F_law := fun_mk (st := s_law) l_law c_law k_law, b_law := ((fun_mk (st := s_law) l_law c_law k_law).binds (ps := ["_law_script"]) (fun _ _ _ _ _ _ us hl => match us, hl with | [_], _ => rfl)), g_law := PySem.W.mg_of X G a_law,
    f_Formula_truths := _, fd_Formula_truths := _, F_Formula_truths := fun_mk (st := s_Formula_truths) l_Formula_truths c_Formula_truths k_Formula_truths, b_Formula_truths := ((fun_mk (st := s_Formula_truths) l_Formula_truths c_Formula_truths k_Formula_truths).binds (ps := ["self", "word"]) (fun _ _ _ _ _ _ us hl => match us, hl with | [_, _], _ => rfl)), m_Formula_truths := ⟨a_Formula_truths, i_Formula_truths, k_Formula_truths⟩,
    f_bag := _, fd_bag := _, F_bag := fun_mk (st := s_bag) l_bag c_bag k_bag, b_bag := ((fun_mk (st := s_bag) l_bag c_bag k_bag).binds (ps := ["_law_script"]) (fun _ _ _ _ _ _ us hl => match us, hl with | [_], _ => rfl)), g_bag := PySem.W.mg_of X G a_bag,
    f_pull := _, fd_pull := _, F_pull := fun_mk (st := s_pull) l_pull c_pull k_pull, b_pull := ((fun_mk (st := s_pull) l_pull c_pull k_pull).binds (ps := ["_law_bag_here", "_law_sides"]) (fun _ _ _ _ _ _ us hl => match us, hl with | [_, _], _ => rfl)), g_pull := PySem.W.mg_of X G a_pull,
    f_of := _, fd_of := _, F_of := fun_mk (st := s_of) l_of c_of k_of, b_of := ((fun_mk (st := s_of) l_of c_of k_of).binds (ps := ["_law_bag_here", "_law_some"]) (fun _ _ _ _ _ _ us hl => match us, hl with | [_, _], _ => rfl)), g_of := PySem.W.mg_of X G a_of,
    f_is_alphabet := _, fd_is_alphabet := _, F_is_alphabet := fun_mk (st := s_is_alphabet) l_is_alphabet c_is_alphabet k_is_alphabet, b_is_alphabet := ((fun_mk (st := s_is_alphabet) l_is_alphabet c_is_alphabet k_is_alphabet).binds (ps := ["value"]) (fun _ _ _ _ _ _ us hl => match us, hl with | [_], _ => rfl)), g_is_alphabet := PySem.W.mg_of X G a_is_alphabet,
    f_is_word := _, fd_is_word := _, F_is_word := fun_mk (st := s_is_word) l_is_word c_is_word k_is_word, b_is_word := ((fun_mk (st := s_is_word) l_is_word c_is_word k_is_word).binds (ps := ["alphabet", "value"]) (fun _ _ _ _ _ _ us hl => match us, hl with | [_, _], _ => rfl)), g_is_word := PySem.W.mg_of X G a_is_word,
    f_is_number := _, fd_is_number := _, F_is_number := fun_mk (st := s_is_number) l_is_number c_is_number k_is_number, b_is_number := ((fun_mk (st := s_is_number) l_is_number c_is_number k_is_number).binds (ps := ["value"]) (fun _ _ _ _ _ _ us hl => match us, hl with | [_], _ => rfl)), g_is_number := PySem.W.mg_of X G a_is_number,
    f_is_below := _, fd_is_below := _, F_is_below := fun_mk (st := s_is_below) l_is_below c_is_below k_is_below, b_is_below := ((fun_mk (st := s_is_below) l_is_below c_is_below k_is_below).binds (ps := ["value", "bound"]) (fun _ _ _ _ _ _ us hl => match us, hl with | [_, _], _ => rfl)), g_is_below := PySem.W.mg_of X G a_is_below,
    f_is_listed := _, fd_is_listed := _, F_is_listed := fun_mk (st := s_is_listed) l_is_listed c_is_listed k_is_listed, b_is_listed := ((fun_mk (st := s_is_listed) l_is_listed c_is_listed k_is_listed).binds (ps := ["value"]) (fun _ _ _ _ _ _ us hl => match us, hl with | [_], _ => rfl)), g_is_listed := PySem.W.mg_of X G a_is_listed,
    f_is_prime := _, fd_is_prime := _, F_is_prime := fun_mk (st := s_is_prime) l_is_prime c_is_prime k_is_prime, b_is_prime := ((fun_mk (st := s_is_prime) l_is_prime c_is_prime k_is_prime).binds (ps := ["value"]) (fun _ _ _ _ _ _ us hl => match us, hl with | [_], _ => rfl)), g_is_prime := PySem.W.mg_of X G a_is_prime,
    f_are_letters := _, fd_are_letters := _, F_are_letters := fun_mk (st := s_are_letters) l_are_letters c_are_letters k_are_letters, b_are_letters := ((fun_mk (st := s_are_letters) l_are_letters c_are_letters k_are_letters).binds (ps := ["alphabet", "value"]) (fun _ _ _ _ _ _ us hl => match us, hl with | [_, _], _ => rfl)), g_are_letters := PySem.W.mg_of X G a_are_letters,
    f_are_refs := _, fd_are_refs := _, F_are_refs := fun_mk (st := s_are_refs) l_are_refs c_are_refs k_are_refs, b_are_refs := ((fun_mk (st := s_are_refs) l_are_refs c_are_refs k_are_refs).binds (ps := ["value", "place"]) (fun _ _ _ _ _ _ us hl => match us, hl with | [_, _], _ => rfl)), g_are_refs := PySem.W.mg_of X G a_are_refs,
    f_can_stand := _, fd_can_stand := _, F_can_stand := fun_mk (st := s_can_stand) l_can_stand c_can_stand k_can_stand, b_can_stand := ((fun_mk (st := s_can_stand) l_can_stand c_can_stand k_can_stand).binds (ps := ["alphabet", "value", "place"]) (fun _ _ _ _ _ _ us hl => match us, hl with | [_, _, _], _ => rfl)), g_can_stand := PySem.W.mg_of X G a_can_stand,
    f_check_lines := _, fd_check_lines := _, F_check_lines := fun_mk (st := s_check_lines) l_check_lines c_check_lines k_check_lines, b_check_lines := ((fun_mk (st := s_check_lines) l_check_lines c_check_lines k_check_lines).binds (ps := ["alphabet", "lines"]) (fun _ _ _ _ _ _ us hl => match us, hl with | [_, _], _ => rfl)), g_check_lines := PySem.W.mg_of X G a_check_lines,
    f_Formula___init := _, fd_Formula___init := _, F_Formula___init := fun_mk (st := s_Formula___init) l_Formula___init c_Formula___init k_Formula___init, b_Formula___init := kb_of (ps := ["self", "alphabet", "lines", "first"]) (n := 3) (ks := ["first"]) (fun_mk (st := s_Formula___init) l_Formula___init c_Formula___init k_Formula___init) (fun _ _ _ _ _ _ us ws h1 h2 => match us, ws, h1, h2 with | [_, _, _], [_], _, _ => rfl), k_Formula___init := ⟨mk_Formula, a_Formula___init, i_Formula___init, kc_Formula⟩, kx_Formula___init := kx_Formula___init, kb_Formula___init := kb_Formula___init,
    f_next_truths := _, fd_next_truths := _, F_next_truths := fun_mk (st := s_next_truths) l_next_truths c_next_truths k_next_truths, b_next_truths := ((fun_mk (st := s_next_truths) l_next_truths c_next_truths k_next_truths).binds (ps := ["lines", "letter", "past", "counts"]) (fun _ _ _ _ _ _ us hl => match us, hl with | [_, _, _, _], _ => rfl)), g_next_truths := PySem.W.mg_of X G a_next_truths,
    f_last_truths := _, fd_last_truths := _, F_last_truths := fun_mk (st := s_last_truths) l_last_truths c_last_truths k_last_truths, b_last_truths := ((fun_mk (st := s_last_truths) l_last_truths c_last_truths k_last_truths).binds (ps := ["lines", "word"]) (fun _ _ _ _ _ _ us hl => match us, hl with | [_, _], _ => rfl)), g_last_truths := PySem.W.mg_of X G a_last_truths,
    z_min := PySem.W.mg_none_of X G z_min,
    z_max := PySem.W.mg_none_of X G z_max,
    z_tuple := PySem.W.mg_none_of X G z_tuple,
    z_list := PySem.W.mg_none_of X G z_list,
    z_len := PySem.W.mg_none_of X G z_len,
    z_range := PySem.W.mg_none_of X G z_range,
    z_int := PySem.W.mg_none_of X G z_int,
    z_all := PySem.W.mg_none_of X G z_all,
    z_any := PySem.W.mg_none_of X G z_any,
    z_sorted := PySem.W.mg_none_of X G z_sorted,
    z_enumerate := PySem.W.mg_none_of X G z_enumerate,
    z_str := PySem.W.mg_none_of X G z_str,
    z_isinstance := PySem.W.mg_none_of X G z_isinstance,
    z_abs := PySem.W.mg_none_of X G z_abs,
    z_bool := PySem.W.mg_none_of X G z_bool,
    z_dict := PySem.W.mg_none_of X G z_dict,
    z_zip := PySem.W.mg_none_of X G z_zip,
    t_MOST_LETTERS := t_MOST_LETTERS, c_MOST_LETTERS := PySem.W.mg_of X G c_MOST_LETTERS,
    r_PRIMES := _, gt_PRIMES := PySem.W.mg_of X G a_PRIMES, st_PRIMES := fun _ => .inr ⟨_, _, _, l_PRIMES, rfl, rfl, (by show 25 ≤ sizeLine; decide), (.cons ⟨_, rfl⟩ (.cons ⟨_, rfl⟩ (.cons ⟨_, rfl⟩ (.cons ⟨_, rfl⟩ (.cons ⟨_, rfl⟩ (.cons ⟨_, rfl⟩ (.cons ⟨_, rfl⟩ (.cons ⟨_, rfl⟩ (.cons ⟨_, rfl⟩ (.cons ⟨_, rfl⟩ (.cons ⟨_, rfl⟩ (.cons ⟨_, rfl⟩ (.cons ⟨_, rfl⟩ (.cons ⟨_, rfl⟩ (.cons ⟨_, rfl⟩ (.cons ⟨_, rfl⟩ (.cons ⟨_, rfl⟩ (.cons ⟨_, rfl⟩ (.cons ⟨_, rfl⟩ (.cons ⟨_, rfl⟩ (.cons ⟨_, rfl⟩ (.cons ⟨_, rfl⟩ (.cons ⟨_, rfl⟩ (.cons ⟨_, rfl⟩ (.cons ⟨_, rfl⟩ .nil)))))))))))))))))))))))))⟩ }
  exact ⟨_, fun s v => .of_eq rfl, fun base _ _ => ok_law T⟩
end MyP
open PySem PySem.W PyProof.Rows
set_option maxHeartbeats 0 in
theorem PySem.Challenge.cw_onlyahead_k29_whole_rules_of_formulas_holds : PySem.Challenge.rw_onlyahead_k29_whole_rules_of_formulas.Holds := by
  w_on; o_law; k_head; (case hw => w_witness2)
  k_fill
  refine L2.walk_of (l := PySem.Challenge.rw_onlyahead_k29_whole_rules_of_formulas) (n := 63) (k := 16) (x := "_law_script") (CX := fun _ => L2.CX0) (sp := fun w => MyP.spLaw _) rfl (by decide) rfl ⟨rfl, by decide, by decide⟩ (fun w h Y => PySem.W.kIn_of Y) ?F (fun _ _ a ns hl _ hS => ⟨a, ns, rfl, hS, hl, fun _ => rfl⟩) (fun _ _ _ _ _ h => h)
  case F =>
    intro w mg fa h KX G hmg
    refine' MyP.all_mk KX G hmg ?aC_Formula ?pg_Formula ?hd_Formula ?po_Formula ?sa_Formula ?mk_Formula ?kc_Formula ?n_Formula__alphabet ?n_Formula__lines ?n_Formula__first ?o_Formula_MOST ?og_Formula_MOST ?a_texts ?l_texts ?c_texts ?k_texts ?a_longer ?l_longer ?c_longer ?k_longer ?a_saying ?l_saying ?c_saying ?k_saying ?a_some_signs ?l_some_signs ?c_some_signs ?k_some_signs ?a_law ?l_law ?c_law ?k_law ?a_Formula_truths ?i_Formula_truths ?l_Formula_truths ?c_Formula_truths ?k_Formula_truths ?a_bag ?l_bag ?c_bag ?k_bag ?a_pull ?l_pull ?c_pull ?k_pull ?a_of ?l_of ?c_of ?k_of ?a_is_alphabet ?l_is_alphabet ?c_is_alphabet ?k_is_alphabet ?a_is_word ?l_is_word ?c_is_word ?k_is_word ?a_is_number ?l_is_number ?c_is_number ?k_is_number ?a_is_below ?l_is_below ?c_is_below ?k_is_below ?a_is_listed ?l_is_listed ?c_is_listed ?k_is_listed ?a_is_prime ?l_is_prime ?c_is_prime ?k_is_prime ?a_are_letters ?l_are_letters ?c_are_letters ?k_are_letters ?a_are_refs ?l_are_refs ?c_are_refs ?k_are_refs ?a_can_stand ?l_can_stand ?c_can_stand ?k_can_stand ?a_check_lines ?l_check_lines ?c_check_lines ?k_check_lines ?a_Formula___init ?i_Formula___init ?l_Formula___init ?c_Formula___init ?k_Formula___init ?kd_Formula___init ?kn_Formula___init_first ?a_next_truths ?l_next_truths ?c_next_truths ?k_next_truths ?a_last_truths ?l_last_truths ?c_last_truths ?k_last_truths ?z_min ?z_max ?z_tuple ?z_list ?z_len ?z_range ?z_int ?z_all ?z_any ?z_sorted ?z_enumerate ?z_str ?z_isinstance ?z_abs ?z_bool ?z_dict ?z_zip ?c_MOST_LETTERS ?a_PRIMES ?l_PRIMES
    (case aC_Formula => k_is)
    (case pg_Formula => k_is)
    (case hd_Formula => k_is)
    (case po_Formula => k_is)
    (case sa_Formula => k_is)
    (case mk_Formula => k_is)
    (case kc_Formula => k_is)
    (case n_Formula__alphabet => k_is)
    (case n_Formula__lines => k_is)
    (case n_Formula__first => k_is)
    (case o_Formula_MOST => k_is)
    (case og_Formula_MOST => k_is)
    (case a_texts => k_is)
    (case l_texts => k_is)
    (case c_texts => k_is)
    (case k_texts => k_is)
    (case a_longer => k_is)
    (case l_longer => k_is)
    (case c_longer => k_is)
    (case k_longer => k_is)
    (case a_saying => k_is)
    (case l_saying => k_is)
    (case c_saying => k_is)
    (case k_saying => k_is)
    (case a_some_signs => k_is)
    (case l_some_signs => k_is)
    (case c_some_signs => k_is)
    (case k_some_signs => k_is)
    (case a_law => k_is)
    (case l_law => k_is)
    (case c_law => k_is)
    (case k_law => k_is)
    (case a_Formula_truths => k_is)
    (case i_Formula_truths => k_is)
    (case l_Formula_truths => k_is)
    (case c_Formula_truths => k_is)
    (case k_Formula_truths => k_is)
    (case a_bag => k_is)
    (case l_bag => k_is)
    (case c_bag => k_is)
    (case k_bag => k_is)
    (case a_pull => k_is)
    (case l_pull => k_is)
    (case c_pull => k_is)
    (case k_pull => k_is)
    (case a_of => k_is)
    (case l_of => k_is)
    (case c_of => k_is)
    (case k_of => k_is)
    (case a_is_alphabet => k_is)
    (case l_is_alphabet => k_is)
    (case c_is_alphabet => k_is)
    (case k_is_alphabet => k_is)
    (case a_is_word => k_is)
    (case l_is_word => k_is)
    (case c_is_word => k_is)
    (case k_is_word => k_is)
    (case a_is_number => k_is)
    (case l_is_number => k_is)
    (case c_is_number => k_is)
    (case k_is_number => k_is)
    (case a_is_below => k_is)
    (case l_is_below => k_is)
    (case c_is_below => k_is)
    (case k_is_below => k_is)
    (case a_is_listed => k_is)
    (case l_is_listed => k_is)
    (case c_is_listed => k_is)
    (case k_is_listed => k_is)
    (case a_is_prime => k_is)
    (case l_is_prime => k_is)
    (case c_is_prime => k_is)
    (case k_is_prime => k_is)
    (case a_are_letters => k_is)
    (case l_are_letters => k_is)
    (case c_are_letters => k_is)
    (case k_are_letters => k_is)
    (case a_are_refs => k_is)
    (case l_are_refs => k_is)
    (case c_are_refs => k_is)
    (case k_are_refs => k_is)
    (case a_can_stand => k_is)
    (case l_can_stand => k_is)
    (case c_can_stand => k_is)
    (case k_can_stand => k_is)
    (case a_check_lines => k_is)
    (case l_check_lines => k_is)
    (case c_check_lines => k_is)
    (case k_check_lines => k_is)
    (case a_Formula___init => k_is)
    (case i_Formula___init => k_is)
    (case l_Formula___init => k_is)
    (case c_Formula___init => k_is)
    (case k_Formula___init => k_is)
    (case kd_Formula___init => rfl)
    (case kn_Formula___init_first => k_is)
    (case a_next_truths => k_is)
    (case l_next_truths => k_is)
    (case c_next_truths => k_is)
    (case k_next_truths => k_is)
    (case a_last_truths => k_is)
    (case l_last_truths => k_is)
    (case c_last_truths => k_is)
    (case k_last_truths => k_is)
    (case z_min => k_is)
    (case z_max => k_is)
    (case z_tuple => k_is)
    (case z_list => k_is)
    (case z_len => k_is)
    (case z_range => k_is)
    (case z_int => k_is)
    (case z_all => k_is)
    (case z_any => k_is)
    (case z_sorted => k_is)
    (case z_enumerate => k_is)
    (case z_str => k_is)
    (case z_isinstance => k_is)
    (case z_abs => k_is)
    (case z_bool => k_is)
    (case z_dict => k_is)
    (case z_zip => k_is)
    (case c_MOST_LETTERS => k_is)
    (case a_PRIMES => k_is)
    (case l_PRIMES => k_is)

