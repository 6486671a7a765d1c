import PyProof.Rows.All
import Wide.All
import OpenK.AllK
import Wide.FinOn
import HandS.ForMost
import HandS.IsInst
import HandS.Flow
import HandS.Zip
import HandS.Walk
import HandS.StrMore
import HandS.Codes
import HandS.Nested
import HandS.Lambda
import HandS.ExcInit
import HandS.ExcField
import HandS.WordsExc
import HandS.HotCalls
import HandS.MakeKwOnly
import HandS.Replace
import HandS.EndTab
import HandS.OwnEq
import HandS.Property
import HandS.NamedTupGet
import HandS.TupAny
import HandS.CallRecv
import HandS.FStr
import HandS.RaiseMore
import HandS.Conv
import HandS.SortInts
import HandS.Style
import HandS.Set
import HandS.SetFor
import HandS.Strs
import HandS.Small
import HandS.More
import PyProof.Draws
import KE.GoesComp
import KE.GoesRaise
import PySem.Challenge.RW_onlyahead_k14_images_and_turns_of_words
set_option Elab.async false
set_option linter.all false
set_option maxRecDepth 100000
set_option maxHeartbeats 4000000
namespace MyP
open PySem PySem.Spec PyProof.Rows L2
/-! ### heaps, the bag -/
/-- all that was tracked stays as it was, but for b -/
def Kp (b : Addr) (H H' : Hp) : Prop := ∀ c o, H c = some o → c ≠ b → H' c = some o
theorem Kp.refl (b : Addr) (H : Hp) : Kp b H H := fun _ _ h _ => h
theorem Kp.trans {b : Addr} {H H1 H2 : Hp} (x : Kp b H H1) (y : Kp b H1 H2) : Kp b H H2 := fun c o h n => y c o (x c o h n) n
theorem Kp.same {b : Addr} {H H1 : Hp} (x : Same H H1) : Kp b H H1 := fun c o h _ => x c o h
theorem Kp.seq {K : PySem.W.Frag} {b a : Addr} {H H' : Hp} {xs : List V} (e : Kp b H H') (n : a ≠ b) (h : SqL K H a xs) : SqL K H' a xs := by
  rcases h with (h | ⟨o, h⟩) | h
  · exact .inl (.inl (e _ _ h n))
  · exact .inl (.inr ⟨o, e _ _ h n⟩)
  · exact .inr h
theorem Kp.tup {K : PySem.W.Frag} {b a : Addr} {H H' : Hp} {xs : List V} (e : Kp b H H') (n : a ≠ b) (h : SqT K H a xs) : SqT K H' a xs := by
  rcases h with (h | ⟨o, h⟩) | h
  · exact .inl (.inl (e _ _ h n))
  · exact .inl (.inr ⟨o, e _ _ h n⟩)
  · exact .inr h
theorem same_tup {K : PySem.W.Frag} {a : Addr} {H H' : Hp} {xs : List V} (e : Same H H') (h : SqT K H a xs) : SqT K H' a xs := by
  rcases h with (h | ⟨o, h⟩) | h
  · exact .inl (.inl (e _ _ h))
  · exact .inl (.inr ⟨o, e _ _ h⟩)
  · exact .inr h
theorem same_upd {H : Hp} {p : Addr} {o : HO} (h : H p = none) : Same H (upd H p o) := fun b x e => by
  rw [upd_ne (ne_of_none e h)]
  exact e
theorem Kp.put {b : Addr} {H H1 : Hp} {o : HO} (x : Kp b H H1) : Kp b H (upd H1 b o) := fun c u h n => by
  rw [upd_ne n]
  exact x c u h n
/-- an object that is new since H may change -/
theorem Kp.mut {b p : Addr} {H H1 : Hp} {o : HO} (x : Kp b H H1) (n : H p = none) : Kp b H (upd H1 p o) := fun c u h k => by
  rw [upd_ne (ne_of_none h n)]
  exact x c u h k
theorem same_mut {p : Addr} {H H1 : Hp} {o : HO} (x : Same H H1) (n : H p = none) : Same H (upd H1 p o) := fun c u h => by
  rw [upd_ne (ne_of_none h n)]
  exact x c u h
theorem ne_none {H : Hp} {a b : Addr} {o : HO} (h : H b = none) (h' : H a = some o) : b ≠ a := (ne_of_none h' h).symm
theorem sz {n : Nat} (h : n ≤ 100000) : n ≤ sizeLine := Nat.le_trans h (by decide)
theorem szl {n : Nat} (h : n < 100000) : n < sizeLine := Nat.lt_of_lt_of_le h (by decide)
structure BagAt (b l : Addr) (H : Hp) : Prop where
  at_ : ∃ (i r m c : Int) (ns : List Int), H b = some (.lst [.ref l, .int i, .int r, .int m, .int c]) ∧ H l = some (.lst (ns.map V.int)) ∧ ns.length ≤ 63 ∧ 0 ≤ i ∧ i ≤ ns.length ∧ 0 ≤ r ∧ 0 ≤ m ∧ m < 2147483629
  ne : l ≠ b
theorem BagAt.there {b l : Addr} {H : Hp} (x : BagAt b l H) : ∃ o, H b = some o := by
  obtain ⟨⟨i, r, m, c, ns, h, _⟩, _⟩ := x
  exact ⟨_, h⟩
/-- an object new in H is not the bag -/
theorem BagAt.nb {b l p : Addr} {H : Hp} (x : BagAt b l H) (h : H p = none) : p ≠ b := by
  obtain ⟨o, e⟩ := x.there
  exact ne_none h e
theorem BagAt.nl {b l p : Addr} {H : Hp} (x : BagAt b l H) (h : H p = none) : p ≠ l := by
  obtain ⟨⟨i, r, m, c, ns, _, e, _⟩, _⟩ := x
  exact ne_none h e
theorem BagAt.same {b l : Addr} {H H' : Hp} (x : BagAt b l H) (s : Same H H') : BagAt b l H' := by
  obtain ⟨⟨i, r, m, c, ns, h1, h2, h3⟩, n⟩ := x
  exact ⟨⟨i, r, m, c, ns, s _ _ h1, s _ _ h2, h3⟩, n⟩
/-- a store into another list keeps the bag -/
theorem BagAt.mut {b l p : Addr} {H : Hp} {o : HO} (x : BagAt b l H) (n1 : p ≠ b) (n2 : p ≠ l) : BagAt b l (upd H p o) := by
  obtain ⟨⟨i, r, m, c, ns, h1, h2, h3⟩, n⟩ := x
  exact ⟨⟨i, r, m, c, ns, by rw [upd_ne n1.symm]; exact h1, by rw [upd_ne n2.symm]; exact h2, h3⟩, n⟩
/-- what is new behind a draw was new ahead of it -/
theorem Kp.free {b l p : Addr} {H H1 : Hp} (k : Kp b H H1) (B : BagAt b l H1) (h : H1 p = none) : H p = none := by
  cases e : H p with
  | none => rfl
  | some o =>
    by_cases hb : p = b
    · obtain ⟨u, e2⟩ := B.there
      rw [hb, e2] at h
      cases h
    · rw [k _ _ e hb] at h
      cases h
/-! ### steps of a reading -/
/-- a word that the steps below do not open -/
def Stp (p : Prop) : Prop := True → p
theorem Stp.of {p : Prop} (h : Stp p) : p := h True.intro
theorem Stp.mk {p : Prop} (h : p) : Stp p := fun _ => h
/-! ### what follows a statement, by a letter -/
structure SeqN (N R : L2.St → Hp → Prop) : Prop where
  of : ∀ σ H, R σ H → N σ H
theorem SeqN.go {N R : L2.St → Hp → Prop} {σ : L2.St} {H : Hp} (h : SeqN N R) (r : R σ H) : N σ H := h.of σ H r
theorem gname_use {i : Nat} {x : V} {σ : L2.St} {H : Hp} {N : L2.St → Hp → Prop} (h : N (σ.set i (some x)) H) : gName i x σ H N := h
theorem next_use {n : L2.St → Hp → Prop} {r : VK} {b c : L2.St → Hp → Prop} {σ : L2.St} {H : Hp} (h : n σ H) : tNext ⟨n, r, b, c⟩ σ H := h
theorem seq_use {s rest : TS} {n : L2.St → Hp → Prop} {r : VK} {b c : L2.St → Hp → Prop} {σ : L2.St} {H : Hp} (h : ∀ N : L2.St → Hp → Prop, SeqN N (fun σ H => rest ⟨n, r, b, c⟩ σ H) → s ⟨N, r, b, c⟩ σ H) : tSeq s rest ⟨n, r, b, c⟩ σ H := h _ ⟨fun _ _ h => h⟩
local macro_rules | `(tactic| walk_at "side") => `(tactic| first
  | rfl
  | (show (0 : Int) < _; first | decide | omega)
  | exact Or.inr (And.intro (by decide) (by decide))
  | exact And.intro (by decide) (by decide)
  | exact And.intro (by omega) (by omega)
  | exact Or.inl (And.intro (by omega) (by omega))
  | decide
  | omega
  | exact sz (by first | decide | omega | (simp; done))
  | exact szl (by first | decide | omega | (simp; done)))
local macro_rules | `(tactic| walk_at "s") => `(tactic| first
  | refine ⟨_, rfl, ?_⟩
  | refine ⟨_, _, rfl, rfl, ?_⟩
  | refine .inl ⟨_, rfl, ?_⟩
  | refine ⟨_, _, rfl, by assumption, ?_⟩
  | refine ⟨_, _, _, _, rfl, rfl, SqL.of upd_same, rfl, ?_⟩
  | refine ⟨_, _, _, _, rfl, rfl, SqL.of (by assumption), (by rfl), ?_⟩
  | refine ⟨_, _, _, _, rfl, rfl, upd_same, rfl, ?_⟩
  | refine ⟨_, _, _, _, rfl, rfl, (by assumption), (by rfl), ?_⟩
  | refine And.intro ⟨_, rfl⟩ ?_
  | refine And.intro (by walk_at "side") ?_
  | refine iteT ?_
  | refine iteF ?_)
local macro_rules | `(tactic| walk_at "ss") => `(tactic| repeat walk_at "s")
local macro_rules | `(tactic| walk_at "n") => `(tactic| first
  | with_reducible refine MyP.seq_use (fun _ _ => ?_)
  | with_reducible refine MyP.SeqN.go (by assumption) ?_
  | with_reducible refine MyP.gname_use ?_
  | with_reducible refine MyP.next_use ?_
  | walk_at "s")
local macro_rules | `(tactic| walk_at "nn") => `(tactic| repeat walk_at "n")
theorem iteP {c A B : Prop} [Decidable c] (h : c) (x : A) : if c then A else B := by
  rw [if_pos h]
  exact x
theorem iteN {c A B : Prop} [Decidable c] (h : ¬ c) (x : B) : if c then A else B := by
  rw [if_neg h]
  exact x
theorem at_inN {α : Type} {xs : List α} {i : Int} (h0 : 0 ≤ i) (h1 : i < xs.length) : ∃ v, atI xs i = some v ∧ v ∈ xs := by
  have h2 : i.toNat < xs.length := by omega
  refine ⟨xs[i.toNat], ?_, List.getElem_mem h2⟩
  have e : ((i.toNat : Nat) : Int) = i := by omega
  have e2 : atI xs ((i.toNat : Nat) : Int) = some xs[i.toNat] := atI_nat (List.getElem?_eq_getElem h2)
  rw [e] at e2
  exact e2
theorem ixN_in {n : Nat} {k : Int} (h0 : 0 ≤ k) (h1 : k < n) : ixN n k = some k.toNat := by
  unfold ixN
  rw [if_pos h0, if_pos h1]
theorem at_in {xs : List V} {i : Int} (h0 : 0 ≤ i) (h1 : i < xs.length) : ∃ v, atI xs i = some v ∧ v ∈ xs := at_inN h0 h1
theorem any2 {K : PySem.W.Frag} {t a b : String} {r1 r2 : Bool} (h1 : kitB t a = some r1) (h2 : kitB t b = some r2) : PySem.W.kitAny K (.type t) [.type a, .type b] = some (r1 || r2) := by
  refine kitAny_cons (kit_ty h1) (fun e => kitAny_cons (kit_ty h2) (fun e2 => ?_) (fun e2 => ?_)) (fun e => ?_)
  · rw [e, e2]
    rfl
  · rw [e2, Bool.or_true]
  · rw [e, Bool.true_or]
local macro_rules | `(tactic| walk_at "ty") => `(tactic| first | exact .base .non | exact .base (.bl _) | exact .base (.int _) | exact .base (.str _) | assumption)
local macro_rules | `(tactic| walk_at "si") => `(tactic| first
  | walk_at "s"
  | refine ⟨_, _, _, _, false, rfl, ClsV.ty _, (by assumption), kit_ty (by assumption), ?_⟩
  | refine ⟨_, _, _, _, true, rfl, ClsV.ty _, (by walk_at "ty"), kit_ty (by decide +kernel), ?_⟩
  | refine ⟨_, _, _, _, false, rfl, ClsV.ty _, (by walk_at "ty"), kit_ty (by decide +kernel), ?_⟩
  | refine ⟨_, _, _, _, _, true, rfl, upd_same, .cons (.ty _) (.cons (.ty _) .nil), (by walk_at "ty"), any2 (r1 := true) (r2 := false) (by decide +kernel) (by decide +kernel), ?_⟩
  | refine ⟨_, _, _, _, _, true, rfl, upd_same, .cons (.ty _) (.cons (.ty _) .nil), (by walk_at "ty"), any2 (r1 := false) (r2 := true) (by decide +kernel) (by decide +kernel), ?_⟩
  | refine ⟨_, _, _, _, _, false, rfl, upd_same, .cons (.ty _) (.cons (.ty _) .nil), (by walk_at "ty"), any2 (r1 := false) (r2 := false) (by decide +kernel) (by decide +kernel), ?_⟩
  | intro p hp)
local macro_rules | `(tactic| walk_at "ssi") => `(tactic| repeat walk_at "si")

/-! ### classes -/
theorem kb_of {K : PySem.W.Frag} {x qual : Str} {st : Stmt} {f : Addr} {fd : FuncData} {ps ks : List Str} {n : Nat} (F : Fun K x qual st f fd)
    (h : ∀ (kV doc pm : Value) (an : Option Addr) (cdv ct : Value) (us ws : List Value), us.length = n → ws.length = ks.length → bindArgs (PySem.W.fnOf x qual (defArgs st) (defBody st) (defScope st) .none kV doc pm an cdv ct) ⟨us, ks.zip ws⟩ = pure (ps.zip (us ++ ws))) :
    KBn K fd ps n ks (fun us ws => us ++ ws) (fun vs zs => vs ++ zs) := by
  obtain ⟨oc, od, kV, doc, pm, an, cdv, ct, osl, rfl, lk, hcd⟩ := F.ex
  exact ⟨fun s us ws _ h1 h2 => .of_eq (h kV doc pm an cdv ct us ws h1 h2), fun a b => a.append b⟩
theorem exm1 {K : PySem.W.Frag} {cls : Value} {S : Addr} {b : Bool} (bx : PySem.W.subIn K (.ref S) (.type "BaseException") = some true) (ic : PySem.W.isClsIn K S = true) (ty : PySem.W.typeIn K (.ref S) = some (.type "type")) (sb : PySem.W.subIn K cls (.ref S) = some b) :
    PySem.W.exmOne K cls (.ref S) = some b := by
  have t1 : (PySem.W.subIn K (.ref S) (.type "BaseException") == some true) = true := by rw [bx] <;> rfl
  have t2 : ((PySem.W.clsIn K S).isSome && PySem.W.typeIn K (.ref S) == some (.type "type")) = true := by
    rw [show (PySem.W.clsIn K S).isSome = true from ic, ty] <;> rfl
  show (if _ = true then (if ((PySem.W.clsIn K S).isSome && PySem.W.typeIn K (.ref S) == some (.type "type")) = true then PySem.W.subIn K cls (.ref S) else none) else none) = some b
  rw [if_pos t1, if_pos t2, sb]
theorem exm3 {K : PySem.W.Frag} {cls : Value} {S1 S2 S3 : Addr} {b2 b3 : Bool} (bx1 : PySem.W.subIn K (.ref S1) (.type "BaseException") = some true) (ic1 : PySem.W.isClsIn K S1 = true) (ty1 : PySem.W.typeIn K (.ref S1) = some (.type "type")) (sb1 : PySem.W.subIn K cls (.ref S1) = some true)
    (bx2 : PySem.W.subIn K (.ref S2) (.type "BaseException") = some true) (ic2 : PySem.W.isClsIn K S2 = true) (ty2 : PySem.W.typeIn K (.ref S2) = some (.type "type")) (sb2 : PySem.W.subIn K cls (.ref S2) = some b2)
    (bx3 : PySem.W.subIn K (.ref S3) (.type "BaseException") = some true) (ic3 : PySem.W.isClsIn K S3 = true) (ty3 : PySem.W.typeIn K (.ref S3) = some (.type "type")) (sb3 : PySem.W.subIn K cls (.ref S3) = some b3) :
    PySem.W.exmAny K cls [.ref S1, .ref S2, .ref S3] = some true := by
  unfold PySem.W.exmAny PySem.W.exmAny PySem.W.exmAny PySem.W.exmAny
  rw [exm1 bx1 ic1 ty1 sb1, exm1 bx2 ic2 ty2 sb2, exm1 bx3 ic3 ty3 sb3]
  rfl


section
open LamX NdefX
/-! ### a call over a wider ground: what the caller's cells hold stands fast while the callee runs -/
/-- the heap h where only what stands in the ground g and the cells cs is seen -/
def wider (h g : Heap) (cs : List Addr) : Heap := PySem.W.hideAll h ((List.range h.objs.size).filter fun a => (g.get? a).isNone && !cs.contains a)
theorem wider_size (h g : Heap) (cs : List Addr) : (wider h g cs).objs.size = h.objs.size := PySem.W.hideAll_size _ _
theorem wider_get {h g : Heap} {cs : List Addr} {a : Addr} {o : Obj} (e : h.get? a = some o) (w : (g.get? a).isSome = true ∨ a ∈ cs) : (wider h g cs).get? a = some o := by
  refine PySem.W.hideAll_get _ e fun hm => ?_
  have q := (List.mem_filter.mp hm).2
  rw [Bool.and_eq_true] at q
  rcases w with w | w
  · have q1 := q.1
    cases z : g.get? a with
    | none => rw [z] at w; cases w
    | some u => rw [z] at q1; cases q1
  · have q2 := q.2
    rw [List.contains_iff_mem.mpr w] at q2
    cases q2
theorem of_wider {h g : Heap} {cs : List Addr} {a : Addr} {o : Obj} (e : (wider h g cs).get? a = some o) : h.get? a = some o ∧ ((g.get? a).isSome = true ∨ a ∈ cs) := by
  have e1 := PySem.W.of_hideAll _ e
  refine ⟨e1, ?_⟩
  by_cases w : (g.get? a).isSome = true ∨ a ∈ cs
  · exact w
  · have hm : a ∈ (List.range h.objs.size).filter fun a => (g.get? a).isNone && !cs.contains a := by
      refine List.mem_filter.mpr ⟨List.mem_range.mpr (Heap.lt_size e1), ?_⟩
      have w1 : ¬ (g.get? a).isSome = true := fun z => w (.inl z)
      have w2 : a ∉ cs := fun z => w (.inr z)
      cases z : g.get? a with
      | some u => rw [z] at w1; exact absurd rfl w1
      | none =>
        have : cs.contains a = false := by
          cases k : cs.contains a with
          | false => rfl
          | true => exact absurd (List.contains_iff_mem.mp k) w2
        rw [this]
        rfl
    have z : (wider h g cs).get? a = none := PySem.W.hideAll_none _ hm
    rw [z] at e
    cases e
/-- the addresses of a frame's cells -/
def cellsOf (env : PySem.Env) : List Addr := env.cells.map (·.2)
theorem mem_cellsOf {env : PySem.Env} {y : Str} {c : Addr} (e : env.cells.lookup y = some c) : c ∈ cellsOf env := List.mem_map.mpr ⟨(y, c), PySem.mem_of_lookup e, rfl⟩
/-- each cell of the frame stands under a name: two entries never share a name -/
def CellsNd (env : PySem.Env) : Prop := ∀ y c, (y, c) ∈ env.cells → env.cells.lookup y = some c
theorem frames_wider {h base base' : Heap} : ∀ {l : List PySem.Env}, h.FunFrames base l → (∀ b ∈ frs l, base'.get? b = none) → h.FunFrames base' l
  | [], _, _ => trivial
  | env :: r, x, n => by
    obtain ⟨hk, ⟨L, o, hf, hn, ho, hd⟩, hr⟩ := x
    refine ⟨hk, ⟨L, o, hf, n L ?_, ho, hd⟩, frames_wider hr fun b hb => n b ?_⟩
    · unfold frs
      rw [List.filterMap_cons, hf]
      exact List.mem_cons_self ..
    · unfold frs
      rw [List.filterMap_cons, hf]
      exact List.mem_cons_of_mem _ hb
section
variable {X : Cx} {pins : List (Addr × Obj)} {σ : L2.St} {H : Hp} {s : Shared}
theorem wider_ok (I : Inv X pins σ H s) (nd : CellsNd X.env) (hfn : ∀ y c, X.env.cells.lookup y = some c → X.s_0.heap.objs.size ≤ c) :
    Env0 X.prog X.w X.K X.mg (wider s.heap X.base (cellsOf X.env)) X.A X.stack s H ∧ (∀ b o, X.base.get? b = some o → (wider s.heap X.base (cellsOf X.env)).get? b = some o) := by
  have up : ∀ b o, X.base.get? b = some o → (wider s.heap X.base (cellsOf X.env)).get? b = some o := fun b o e => wider_get (I.bk b o e) (.inl (by rw [e]; rfl))
  have inCell : ∀ c ∈ cellsOf X.env, ∃ y, X.env.cells.lookup y = some c := fun c hc => by
    obtain ⟨⟨y, c'⟩, hm, e⟩ := List.mem_map.mp hc
    have e : c' = c := e
    subst e
    exact ⟨y, nd y c' hm⟩
  refine ⟨⟨I.ok.frames, ⟨I.ok.mod.kin.keeps up, I.ok.mod.glob.keeps up, ?_, I.ok.mod.nolimit.keeps up⟩, fun b o e => ?_, ?_, frames_wider I.stack fun b hb => ?_, I.stkFree, I.hok, I.bare⟩, up⟩
  · obtain ⟨mb, h1, h2⟩ := I.ok.mod.blt
    exact ⟨mb, h1.keeps up, h2⟩
  · obtain ⟨e1, w⟩ := of_wider e
    refine ⟨e1, ?_⟩
    rcases w with w | w
    · obtain ⟨u, hu⟩ := Option.isSome_iff_exists.mp w
      exact (I.bs b u hu).2
    · obtain ⟨y, hy⟩ := inCell b w
      exact I.freeC y b hy
  · rw [wider_size]
    exact Nat.le_refl _
  · cases q : (wider s.heap X.base (cellsOf X.env)).get? b with
    | none => rfl
    | some o =>
      exfalso
      obtain ⟨e1, w⟩ := of_wider q
      rcases List.mem_cons.mp (I.stkSub b hb) with z | z
      · rcases w with w | w
        · obtain ⟨u, hu⟩ := Option.isSome_iff_exists.mp w
          have h1 := Heap.lt_size hu
          have h2 := I.ok.bsz
          have h3 := I.ok.above
          rw [z] at h1
          exact Nat.lt_irrefl _ (Nat.lt_of_lt_of_le h1 (Nat.le_trans h2 h3))
        · obtain ⟨y, hy⟩ := inCell b w
          exact I.cne y b hy z
      · rcases w with w | w
        · obtain ⟨u, hu⟩ := Option.isSome_iff_exists.mp w
          exact I.ok.nofr hu z
        · obtain ⟨y, hy⟩ := inCell b w
          obtain ⟨_, o2, ho2, _⟩ := I.ok.funs.mem z
          have h1 := Heap.lt_size ho2
          have h2 := hfn y b hy
          exact Nat.lt_irrefl _ (Nat.lt_of_lt_of_le h1 h2)
/-- what the captured cells hold, seen from the wider ground -/
theorem cells_wider {cl : List (Str × Addr)} {fr : List Str} {ws : List (Option V)} (C : CellsAt cl fr ws s.heap H) (sub : ∀ y c, cl.lookup y = some c → X.env.cells.lookup y = some c) : CellsAt cl fr ws (wider s.heap X.base (cellsOf X.env)) (fun _ => none) := by
  have kp : ∀ y c, cl.lookup y = some c → ∀ v, s.heap.IsCell c v → (wider s.heap X.base (cellsOf X.env)).IsCell c v := fun y c e v ⟨o, ho, hd⟩ => ⟨o, wider_get ho (.inr (mem_cellsOf (sub y c e))), hd⟩
  refine ⟨C.len, fun y c e => ⟨rfl, ?_⟩, C.inj, fun i y e => ?_⟩
  · obtain ⟨_, v, z⟩ := C.all y c e
    exact ⟨v, kp y c e v z⟩
  · obtain ⟨c, hc, hv⟩ := C.has i y e
    refine ⟨c, hc, fun v ev => ?_⟩
    obtain ⟨u, r, z⟩ := hv v ev
    exact ⟨u, r, kp y c hc _ z⟩
/-- .. and then in every state over that ground -/
theorem cells_narrow {P : Program} {w : World} {K : PySem.W.Frag} {mg : Str → Option Value} {base : Heap} {A : Around} {outer : List PySem.Env} {cl : List (Str × Addr)} {fr : List Str} {ws : List (Option V)} (C : CellsAt cl fr ws base (fun _ => none))
    (bs : ∀ b o, base.get? b = some o → s.heap.get? b = some o ∧ H b = none) : CellsAt cl fr ws s.heap H := by
  have kp : ∀ c v, base.IsCell c v → s.heap.IsCell c v := fun c v ⟨o, ho, hd⟩ => ⟨o, (bs c o ho).1, hd⟩
  refine ⟨C.len, fun y c e => ?_, C.inj, fun i y e => ?_⟩
  · obtain ⟨_, v, z⟩ := C.all y c e
    refine ⟨?_, v, kp c v z⟩
    obtain ⟨o, ho, _⟩ := z
    exact (bs c o ho).2
  · obtain ⟨c, hc, hv⟩ := C.has i y e
    refine ⟨c, hc, fun v ev => ?_⟩
    obtain ⟨u, r, z⟩ := hv v ev
    exact ⟨u, r, kp c _ z⟩
end
/-- what is told of the ground over which a callee runs: it is as wide as X.base, and tells what the cells hold that X's names σ stand in -/
structure Ground (X : Cx) (σ : L2.St) (base : Heap) : Prop where
  ok : X.Ok
  up : ∀ b o, X.base.get? b = some o → base.get? b = some o
  cells : ∀ (cl : List (Str × Addr)) (fr : List Str) (js : List Nat), Caps X cl fr js → CellsAt cl fr (js.map (slotAt σ)) base (fun _ => none)
/-- f(e, ..) over the wider ground: the callee's promise is told of every such ground -/
def tCallX (X : Cx) (CX : CXT) (k : Nat) (f : Addr) (fd : FuncData) (ps : List Str) (E : XK) (t : TA) : TE := fun σ H Q => t σ H fun vs H1 => ∃ sp : Sp, (∀ base, Ground X σ base → FnOk X.prog X.w X.K X.mg base CX k f fd ps sp) ∧ sp vs H1 Q E
section
variable {X : Cx} {CX : CXT} {k : Nat} {f : Addr} {fd : FuncData} {ps : List Str} {E : XK} {x : Str} {p pos : Pos} {e : Expr} {es : List Expr} {t : TA}
theorem pe_callX (hr : Room k X.A) (hg : Gl X x) (hm : X.mg x = some (.ref f)) (hk : PySem.W.keepIn X.K (.ref f) = true) (hb : Binds X.K fd ps []) (hx : Passes CX X E) (nd : CellsNd X.env) (hfn : X.Ok → ∀ y c, X.env.cells.lookup y = some c → X.s_0.heap.objs.size ≤ c)
    (ha : PA X (e :: es) t) (hdb : (x == ("__debug__" : Str)) = false := by decide) (he : starEach (e :: es) X.env = (false, eval e X.env) :: starEach es X.env := by rfl) (hpl : (backTo pos (starEach es X.env)).any (·.1) = false := by rfl) :
    PE X (.Call (.Name x p) (e :: es) [] pos) (tCallX X CX k f fd ps E t) := by
  refine ⟨fun pins s σ H Q I h => ?_⟩
  refine wpAny_Call_Name_kw (ld_glob I hg hm ?_ hdb)
  refine PySem.W.callWith_K (h₀ := X.base) I.ok.mod.kin hk (thn (ha.run pos pins s σ H _ I h) fun us s1 ⟨vs, H1, I1, r, sp, F, q⟩ => ⟨I1.kIn, ?_⟩) he hpl
  obtain ⟨e0, up⟩ := wider_ok I1 nd (hfn I1.ok)
  have G : Ground X σ (wider s1.heap X.base (cellsOf X.env)) := ⟨I1.ok, up, fun cl fr js c => cells_wider (cells_of I1 c) c.sub⟩
  have Fb := F _ G
  have hl : us.length = ps.length := by rw [← r.length]; exact Fb.len _ _ _ _ q
  have hb2 := hb s1 us I1.kIn (by rw [List.append_nil]; exact hl)
  rw [List.append_nil] at hb2
  refine wpAny_call (codeAny_mono (Fb.run X.A X.stack s1 H1 ⟨us, []⟩ us vs Q E hr e0 hb2 r q) fun r s' hq => ?_)
  cases r with
  | error e => exact hx pins σ H1 s1 e s' I1 hq
  | ok fl =>
    cases fl with
    | ret u => exact I1.after hq
    | next => exact False.elim hq
    | brk => exact False.elim hq
    | cont => exact False.elim hq
end
end
section
open LamX NdefX
/-! ### a lambda as a value -/
/-- its words: the maker's name for it, its text, the cells it captured, its code object, its defaults -/
structure LF where
  qual : Str
  params : Arguments
  body : Expr
  scope : Scope
  cl : List (Str × Addr)
  c : Addr
  dV : Value
abbrev LF.fd (F : LF) (doc pm ctv : Value) : FuncData := PySem.W.kdv_fn "<lambda>" F.qual F.params (.expr F.body) F.scope F.cl F.dV doc pm (.ref F.c) ctv
/-- the same words for the context of its body -/
def LF.nf (F : LF) : NF := ⟨"<lambda>", F.qual, F.params, [], F.scope, F.cl, F.c⟩
/-- at f stands the lambda F -/
def LmO (f : Addr) (F : LF) : HO := .ext fun h => ∃ (od : Option Addr) (sl : Array (Option Value)) (doc pm ctv : Value), h.get? f = some (⟨.type "function", od, .func (F.fd doc pm ctv), sl⟩ : Obj)
theorem lmo_at {P : Program} {w : World} {H : Hp} {h : Heap} {f : Addr} {F : LF} (ok : HOk P w H h) (e : H f = some (LmO f F)) :
    ∃ (od : Option Addr) (sl : Array (Option Value)) (doc pm ctv : Value), h.get? f = some (⟨.type "function", od, .func (F.fd doc pm ctv), sl⟩ : Obj) := (ok f _ e).1
/-- its defaults: none, or a tuple of one int -/
def DefAt (F : LF) (ds : List V) (H : Hp) : Prop := (ds = [] ∧ F.dV = .none) ∨ ∃ (T0 : Addr) (i : Int), ds = [.int i] ∧ F.dV = .ref T0 ∧ H T0 = some (.tup [.int i])
section
variable {X : Cx} {pins : List (Addr × Obj)} {σ : L2.St} {H : Hp} {s : Shared}
/-- a new object of that kind is tracked from now on -/
theorem inv_lm {F : LF} {t' : Nat} {doc pm ctv : Value} (I : Inv X pins σ H s) :
    Inv X pins σ (upd H s.heap.objs.size (LmO s.heap.objs.size F)) { s with heap := s.heap.push { cls := .type "function", data := .func (F.fd doc pm ctv) }, toks := t' } := by
  have e : (s.heap.push ({ cls := .type "function", data := .func (F.fd doc pm ctv) } : Obj)).get? s.heap.objs.size = some { cls := .type "function", data := .func (F.fd doc pm ctv) } := Heap.get?_push_size _ rfl
  exact I.laid (fun b u q => Heap.get?_push_of_some _ q) (Nat.le_refl _) ⟨⟨_, _, doc, pm, ctv, e⟩, ⟨_, e⟩, fun h1 h2 z st => by
    obtain ⟨od, sl, d, p, t, z⟩ := z
    exact ⟨od, sl, d, p, t, st _ z⟩⟩
theorem none_upd {a b : Addr} {o : HO} (e : upd H a o b = none) : H b = none := by
  by_cases z : b = a
  · rw [z, upd_same] at e
    cases e
  · rw [upd_ne z] at e
    exact e
/-- what is told behind the making -/
def Made (X : Cx) (pins : List (Addr × Obj)) (σ : L2.St) (T : List (Addr × Str)) (H : Hp) (mk : Addr → LF) (v : Value) (s' : Shared) : Prop :=
  ∃ (f c' : Addr) (H1 : Hp), v = .ref f ∧ Inv X pins σ H1 s' ∧ ExtN H H1 ∧ (∀ b, H1 b = none → H b = none) ∧ Tabs T H1 ∧ H f = none ∧ H1 f = some (LmO f (mk c')) ∧ H1 c' = some (CodeO c' (mk c').qual)
theorem lm_tail {T : List (Addr × Str)} {c P : Addr} {params : Arguments} {body : Expr} {scope : Scope} {pos : Pos} {dV : Value} {E : Value → Shared → Prop} (I : Inv X pins σ H s) (TB : TabB X.base X.mg c P) (hcode : X.env.code = .ref c)
    (hm : (P, X.env.qual ++ "<lambda>") ∈ T) (hu : ∀ p ∈ T, p.1 = P → p.2 = X.env.qual ++ "<lambda>") (hT : Tabs T H) (hfree : ∀ y ∈ scope.names, y.2 = .free → ∃ c, X.env.cells.lookup y.1 = some c) :
    wpAny (model X.prog X.w) X.A (makeTail "<lambda>" (X.env.qual ++ "<lambda>") params (.expr body) scope X.env dV .none none pos pos.line)
      (Made X pins σ T H fun c' => ⟨X.env.qual ++ "<lambda>", params, body, scope, cloFrom X.env.cells scope.names [], c', dV⟩) E s := by
  obtain ⟨ps, hP, ht, ha⟩ := hT _ hm
  have bP := TB.bm.keeps I.bk
  have oP : s.heap.get? P = some (PySem.W.tabObj ps) := I.hok P _ hP
  have gl := I.mod.glob.keeps I.bk
  have hd := TB.code.keeps I.bk
  rcases hc : codeAmong pos ps.toList with _ | cv
  · refine PySem.W.kdv_makeTail (closure_ok hfree) I.ok.glob gl hcode hd oP ht hc TB.gP bP fun c' ctv doc h' tk hx hge hlt hrec htb => ?_
    obtain ⟨c2, oc, us, t, e2, hoc, hdt, hv⟩ := hrec
    obtain rfl : c' = c2 := by injection e2
    have nC : H c' = none := I.hok.fresh hge
    have J := inv_table (t' := tk) (more := #[rawInt pos.line, rawInt pos.col, .ref c']) I hP (fun b o hb e => hx b o hb e) htb hge ⟨oc, us, t, hoc, hdt, hv⟩
    have ext : ExtN H (upd (upd H P (.tbl (ps ++ #[rawInt pos.line, rawInt pos.col, .ref c']))) c' (CodeO c' (X.env.qual ++ "<lambda>"))) := fun b o e n => by
      have n1 : b ≠ P := fun z => by
        rw [z, hP] at e
        exact n ps (Option.some.inj e).symm
      rw [upd_ne (ne_of_none e nC), upd_ne n1]
      exact e
    have lst : (ps ++ #[rawInt pos.line, rawInt pos.col, Value.ref c']).toList = ps.toList ++ [rawInt pos.line, rawInt pos.col, .ref c'] := by simp
    have tabs : Tabs T (upd (upd H P (.tbl (ps ++ #[rawInt pos.line, rawInt pos.col, .ref c']))) c' (CodeO c' (X.env.qual ++ "<lambda>"))) := fun p hp => by
      by_cases hb : p.1 = P
      · rw [hu p hp hb, hb]
        refine ⟨_, by rw [upd_ne (ne_of_none hP nC), upd_same], by rw [lst]; exact PySem.TriplesOk_snoc _ _ _ _ ht, fun q v hq => ?_⟩
        rw [lst] at hq
        rcases among_app _ ht hq with z | z
        · obtain ⟨c0, e1, e3⟩ := ha q v z
          exact ⟨c0, e1, ext _ _ e3 codeO_ne⟩
        · exact ⟨c', z, upd_same⟩
      · obtain ⟨qs, a1, a2, a3⟩ := hT p hp
        refine ⟨qs, by rw [upd_ne (ne_of_none a1 nC), upd_ne hb]; exact a1, a2, fun q v hq => ?_⟩
        obtain ⟨c0, e1, e3⟩ := a3 q v hq
        exact ⟨c0, e1, ext _ _ e3 codeO_ne⟩
    have nF : upd (upd H P (.tbl (ps ++ #[rawInt pos.line, rawInt pos.col, .ref c']))) c' (CodeO c' (X.env.qual ++ "<lambda>")) h'.objs.size = none := J.hok.fresh (Nat.le_refl _)
    refine ⟨h'.objs.size, c', _, rfl, inv_lm (t' := tk) (doc := doc) (pm := (X.mg "__name__").getD .none) (ctv := ctv) J, fun b o e n => ?_, fun b e => none_upd (none_upd (none_upd e)), tabs.ext fun b o e => ?_, none_upd (none_upd nF), upd_same, ?_⟩
    · have e1 := ext b o e n
      rw [upd_ne (ne_of_none e1 nF)]
      exact e1
    · rw [upd_ne (ne_of_none e nF)]
      exact e
    · rw [upd_ne (Nat.ne_of_lt hlt)]
      exact upd_same
  · obtain ⟨c', rfl, hco⟩ := ha pos cv hc
    refine PySem.W.kdv_makeTailHit (closure_ok hfree) I.ok.glob gl hcode hd oP ht hc bP fun ctv doc h' tk hx hsz => ?_
    have J : Inv X pins σ H { s with heap := h', toks := tk } := I.kept hx
    have nF : H h'.objs.size = none := J.hok.fresh (Nat.le_refl _)
    refine ⟨h'.objs.size, c', _, rfl, inv_lm (t' := tk) (doc := doc) (pm := (X.mg "__name__").getD .none) (ctv := ctv) J, fun b o e n => ?_, fun b e => none_upd e, hT.ext fun b o e => ?_, nF, upd_same, ?_⟩
    · rw [upd_ne (ne_of_none e nF)]
      exact e
    · rw [upd_ne (ne_of_none e nF)]
      exact e
    · rw [upd_ne (ne_of_none hco nF)]
      exact hco
end
/-- the reading of a lambda without defaults | with one int for its only parameter's default -/
def tLm (T : List (Addr × Str)) (mk : Addr → LF) : TE := fun _ H Q => Tabs T H ∧ ∀ (f c' : Addr) (H1 : Hp), ExtN H H1 → (∀ b, H1 b = none → H b = none) → Tabs T H1 → H f = none → H1 f = some (LmO f (mk c')) → H1 c' = some (CodeO c' (mk c').qual) → Q (.ref f) H1
def tLm1 (T : List (Addr × Str)) (i : Int) (mk : Addr → Addr → LF) : TE := fun _ H Q => Tabs T H ∧ ∀ (f c' T0 : Addr) (H1 : Hp), ExtN H H1 → (∀ b, H1 b = none → H b = none) → Tabs T H1 → H f = none → H1 T0 = some (.tup [.int i]) → H1 f = some (LmO f (mk T0 c')) → H1 c' = some (CodeO c' (mk T0 c').qual) → Q (.ref f) H1
section
variable {X : Cx} {T : List (Addr × Str)} {c P : Addr} {params : Arguments} {body : Expr} {scope : Scope} {pos : Pos}
theorem pe_lm (TB : TabB X.base X.mg c P) (hcode : X.env.code = .ref c) (hm : (P, X.env.qual ++ "<lambda>") ∈ T) (hu : ∀ p ∈ T, p.1 = P → p.2 = X.env.qual ++ "<lambda>")
    (hfree : ∀ y ∈ scope.names, y.2 = .free → X.env.scope.names.lookup y.1 = some .cell ∨ X.env.scope.names.lookup y.1 = some .free) (hdef : defaultsOf params X.env = ([], [])) :
    PE X (.Lambda params body scope pos) (tLm T fun c' => ⟨X.env.qual ++ "<lambda>", params, body, scope, cloFrom X.env.cells scope.names [], c', .none⟩) := by
  refine ⟨fun pins s σ H Q I h => ?_⟩
  obtain ⟨hT, h⟩ := h
  have fr : ∀ y ∈ scope.names, y.2 = .free → ∃ c, X.env.cells.lookup y.1 = some c := fun y hy e => (hfree y hy e).elim (fun z => I.ok.has _ (.inl z)) fun z => I.ok.has _ (.inr z)
  refine PySem.W.kla_eval hdef ?_
  rw [makeFunction_eq]
  simp only [List.zip_nil_right, List.filterMap_nil, List.isEmpty_nil, if_true, pure_bind]
  refine wpAny_mono (lm_tail (dV := .none) (E := X.xe) I TB hcode hm hu hT fr) (fun v s' hv => ?_) fun _ _ z => z
  obtain ⟨f, c', H1, rfl, J, e1, e2, e3, e4, e5, e6⟩ := hv
  exact ⟨.ref f, H1, J, rfl, h f c' H1 e1 e2 e3 e4 e5 e6⟩
theorem pe_lm1 {i : Int} {cj : Nat} {cp : Pos} (TB : TabB X.base X.mg c P) (hcode : X.env.code = .ref c) (hm : (P, X.env.qual ++ "<lambda>") ∈ T) (hu : ∀ p ∈ T, p.1 = P → p.2 = X.env.qual ++ "<lambda>")
    (hfree : ∀ y ∈ scope.names, y.2 = .free → X.env.scope.names.lookup y.1 = some .cell ∨ X.env.scope.names.lookup y.1 = some .free) (hd : params.defaults = [.Constant (.int i) cj cp]) (hk : params.kw_defaults = []) :
    PE X (.Lambda params body scope pos) (tLm1 T i fun T0 c' => ⟨X.env.qual ++ "<lambda>", params, body, scope, cloFrom X.env.cells scope.names [], c', .ref T0⟩) := by
  refine ⟨fun pins s σ H Q I h => ?_⟩
  obtain ⟨hT, h⟩ := h
  have fr : ∀ y ∈ scope.names, y.2 = .free → ∃ c, X.env.cells.lookup y.1 = some c := fun y hy e => (hfree y hy e).elim (fun z => I.ok.has _ (.inl z)) fun z => I.ok.has _ (.inr z)
  refine PySem.W.kdv_lam (by rw [hd]; rfl) hk ?_
  rw [hd]
  refine PySem.W.kdv_all1 (wpAny_mono ((pe_int (X := X) (i := i) (j := cj) (pos := cp)).run pins s σ H (fun v H' => v = .int i ∧ H' = H) I ⟨rfl, rfl⟩) (fun u s1 hv => ?_) fun _ _ z => z)
  obtain ⟨v, H', I1, r1, rfl, rfl⟩ := hv
  refine PySem.W.kdv_all0 ?_
  rw [makeFunction_eq]
  simp only [List.zip_nil_right, List.filterMap_nil, List.isEmpty_cons, List.isEmpty_nil, if_true, Bool.false_eq_true, if_false, pure_bind]
  refine wpAny_bind (wpAny_newTextTuple ?_)
  have n0 : H' s1.heap.objs.size = none := I1.hok.fresh (Nat.le_refl _)
  have I2 : Inv X pins σ (upd H' s1.heap.objs.size (.tup [.int i])) { s1 with heap := s1.heap.push { cls := .type "tuple", data := .seq [u].toArray } } :=
    I1.laid (t' := s1.toks) (fun b o e => Heap.get?_push_of_some _ e) (Nat.le_refl _) ⟨(by show 1 ≤ sizeLine; decide), [u], .cons r1 .nil, IsTup.new _ _⟩
  have hS : ∀ b o, H' b = some o → upd H' s1.heap.objs.size (.tup [.int i]) b = some o := fun b o e => by rw [upd_ne (ne_of_none e n0)]; exact e
  refine wpAny_mono (lm_tail (dV := .ref s1.heap.objs.size) (E := X.xe) I2 TB hcode hm hu (hT.ext hS) fr) (fun v s' hv => ?_) fun _ _ z => z
  obtain ⟨f, c', H1, rfl, J, e1, e2, e3, e4, e5, e6⟩ := hv
  exact ⟨.ref f, H1, J, rfl, h f c' s1.heap.objs.size H1 (fun b o e n => e1 b o (hS b o e) n) (fun b e => none_upd (e2 b e)) e3 (none_upd e4) (e1 _ _ upd_same fun ps z => by cases z) e5 e6⟩
end
/-! ### its promise -/
/-- the promise of the lambda F at f, called without arguments; ws: what its captured cells hold -/
structure LOk (P : Program) (w : World) (K : PySem.W.Frag) (mg : Str → Option Value) (base : Heap) (CX : CXT) (k : Nat) (f : Addr) (F : LF) (ds : List V) (fr : List Str) (sp : List (Option V) → Hp → VK → XK → Prop) : Prop where
  run : ∀ (A : Around) (outer : List PySem.Env) (s : Shared) (H : Hp) (ws : List (Option V)) (Q : VK) (E : XK), Room k A → Env0 P w K mg base A outer s H → H f = some (LmO f F) → H F.c = some (CodeO F.c F.qual) → DefAt F ds H →
    CellsAt F.cl fr ws s.heap H → sp ws H Q E → codeAny (model P w) A (.call (.ref f) ⟨[], []⟩) (CR CX outer P w H s Q E) s
section
variable {CX : CXT} {P : Program} {w : World} {K : PySem.W.Frag} {mg : Str → Option Value} {base : Heap} {N ps fr : List Str} {F : LF} {f : Addr} {k : Nat} {ds : List V} {sp : List (Option V) → Hp → VK → XK → Prop}
theorem lok_of (S : NScope N ps fr F.scope) (hlen : ds.length = ps.length) (hb : ∀ (s : Shared) (H : Hp) (us : List Value) (doc pm ctv : Value), HOk P w H s.heap → DefAt F ds H → ∃ us, Vals ds us ∧ BindsTo s (F.fd doc pm ctv) ⟨[], []⟩ (ps.zip us))
    (hbody : ∀ (A : Around) (outer : List PySem.Env) (s : Shared) (H : Hp) (ws : List (Option V)) (Q : VK) (E : XK), Room k (A.deeper (envF F.nf f s.heap.objs.size)) → ws.length = fr.length → sp ws H Q E →
      ∃ t, PE (ncx CX P w K mg base N F.nf f A outer s H E) F.body t ∧ t (startF N ds ws) H Q) : LOk P w K mg base CX (k + 1) f F ds fr sp := by
  refine ⟨fun A outer s H ws Q E hr e0 hf hc hD C hsp => ?_⟩
  have lim : s.heap.NoLimit := e0.mod.nolimit.keeps fun b o e => (e0.bs b o e).1
  obtain ⟨od, sl, doc, pm, ctv, ho⟩ := lmo_at e0.hok hf
  obtain ⟨us, rv, bind⟩ := hb s H [] doc pm ctv e0.hok hD
  have hul : us.length = ps.length := by rw [← rv.length]; exact hlen
  refine PySem.W.kla_callFunE hr.depth ho rfl S.co S.gen rfl (codeO_at e0.hok hc) ?_
  refine bind _ _ _ _ (wpAny_newFunctionEnv S.nocell (fun ⟨n, _⟩ hy => S.par n (List.of_mem_zip hy).1) (fun h₁ hns hsb => ⟨lim.fresh _ hsb, ?_⟩) S.kind)
  show codeAny _ _ (.expr F.body (envF F.nf f s.heap.objs.size)) _ _
  have kp : ∀ b o, s.heap.get? b = some o → h₁.get? b = some o := fun b o e => hsb.extBut b o (Nat.ne_of_lt (Heap.lt_size e)) (Heap.get?_push_of_some _ e)
  obtain ⟨t, ht, hq⟩ := hbody A outer s H ws Q E (hr.deeper _) C.len hsp
  have I : Inv (ncx CX P w K mg base N F.nf f A outer s H E) [] (startF N ds ws) H { s with heap := h₁, toks := s.toks + (ps.zip us).length } := inv_startN (F := F.nf) S hr.hd e0 hlen rv C hns kp
  refine PySem.W.kla_codeExpr (wpAny_mono (ht.run [] _ (startF N ds ws) H Q I hq) (fun v s' hs => ?_) fun e s' hs => hs)
  obtain ⟨y, H', J, ry, q⟩ := hs
  exact ⟨y, H', J.os, J.bare, J.base, J.hok, ry, q⟩
end
/-! ### a() where a holds something that is asked -/
/-- f may be called without arguments over the ground base, while g holds of the abstract heap: what it does is told by sp -/
def Held0 (P : Program) (w : World) (K : PySem.W.Frag) (mg : Str → Option Value) (base : Heap) (CX : CXT) (k : Nat) (f : Addr) (g : Hp → Prop) (sp : Hp → VK → XK → Prop) : Prop :=
  (∀ H h, HOk P w H h → g H → PySem.W.FnAt f h) ∧ ∀ (A : Around) (outer : List PySem.Env) (s : Shared) (H : Hp) (Q : VK) (E : XK), Room k A → Env0 P w K mg base A outer s H → g H → sp H Q E → codeAny (model P w) A (.call (.ref f) ⟨[], []⟩) (CR CX outer P w H s Q E) s
/-- a lambda, over a ground that tells what its cells hold -/
theorem LOk.held {P : Program} {w : World} {K : PySem.W.Frag} {mg : Str → Option Value} {base : Heap} {CX : CXT} {k : Nat} {f : Addr} {F : LF} {ds : List V} {fr : List Str} {sp : List (Option V) → Hp → VK → XK → Prop} {ws : List (Option V)}
    (o : LOk P w K mg base CX k f F ds fr sp) (C : CellsAt F.cl fr ws base (fun _ => none)) : Held0 P w K mg base CX k f (fun H => H f = some (LmO f F) ∧ H F.c = some (CodeO F.c F.qual) ∧ DefAt F ds H) (sp ws) := by
  refine ⟨fun H h ok g => ?_, fun A outer s H Q E hr e0 g q => o.run A outer s H ws Q E hr e0 g.1 g.2.1 g.2.2 (cells_narrow (P := P) (w := w) (K := K) (mg := mg) (A := A) (outer := outer) C e0.bs) q⟩
  obtain ⟨od, sl, doc, pm, ctv, ho⟩ := lmo_at ok g.1
  exact ⟨_, od, _, sl, ho⟩
def tAsk (P : Program) (w : World) (K : PySem.W.Frag) (mg : Str → Option Value) (base : Heap) (CX : CXT) (k i : Nat) (E : L2.St → XK) : TE := fun σ H Q => ∃ f g sp, σ[i]? = some (some (.ref f)) ∧ Held0 P w K mg base CX k f g sp ∧ g H ∧ sp H Q (E σ)
section
variable {X : Cx} {CX : CXT} {k i : Nat} {a : Str} {p1 p2 : Pos} {E : L2.St → XK}
theorem pe_ask (hr : Room k X.A) (hN : X.N[i]? = some a) (hv : Vis X.env.scope a) (hx : ∀ σ, PassesAt CX X σ (E σ)) (hd : (a == ("__debug__" : Str)) = false := by decide) (hcd : (a == ("__classdict__" : Str)) = false := by decide) :
    PE X (.Call (.Name a p1) [] [] p2) (tAsk X.prog X.w X.K X.mg X.base CX k i E) := by
  refine ⟨fun pins s σ H Q I h => ?_⟩
  obtain ⟨f, g, sp, hs, ⟨hf, hrun⟩, hg, q⟩ := h
  refine wpAny_Call_Name_kw (thn ((pe_var (pos := p1) hN hv hd hcd).run pins s σ H (fun v H1 => v = .ref f ∧ H1 = H) I ⟨.ref f, hs, rfl, rfl⟩) fun u s1 ⟨v, H1, I1, r1, q1⟩ => ?_)
  obtain ⟨rfl, rfl⟩ := q1
  obtain rfl : u = Value.ref f := r1
  refine PySem.W.callWith_F0 (hf H1 s1.heap I1.hok hg) ?_
  show wpAny _ _ (call (.ref f) []) _ _ _
  refine wpAny_call (codeAny_mono (hrun X.A X.stack s1 H1 Q (E σ) hr I1.env0 hg q) fun r s' hq => ?_)
  cases r with
  | error e => exact hx σ pins H1 s1 e s' I1 hq
  | ok fl =>
    cases fl with
    | ret u => exact I1.after hq
    | next => exact False.elim hq
    | brk => exact False.elim hq
    | cont => exact False.elim hq
end
end
section
open LamX NdefX
/-! ### except (A, B, C) as n, where one of the three always fits -/
theorem fly_wide {gr u u2 : Heap} {fl : List PySem.Env} {q : Addr} {Zq : Obj → Prop} (kp : ∀ b o, u.get? b = some o → u2.get? b = some o) (x : HandSPX.FlyingZ gr fl q Zq u) : HandSPX.FlyingZ gr fl q Zq u2 := by
  obtain ⟨x1, x2, x3, oe, vs, T, oT, ts, y1, y2, y3, y4, y5, y6, y7, y8, y9⟩ := x
  exact ⟨fun b o e => kp _ _ (x1 b o e), x2, x3.of_keeps fun b o e _ => ⟨o, kp _ _ e, rfl⟩, oe, vs, T, oT, ts, kp _ _ y1, y2, y3, y4, y5, y6, kp _ _ y7, y8, y9⟩
/-- the suite's ends, its name gone again -/
def gone (i : Nat) (D : Ends) : Ends := { nx := fun τ G => D.nx (τ.set i none) G, rt := D.rt, bk := fun τ G => D.bk (τ.set i none) G, ct := fun τ G => D.ct (τ.set i none) G }
/-- the wish of an exception that the body lets out -/
def wAny3 (K : PySem.W.Frag) (cs : List Value) (i : Nat) (ts : Addr → Value → Option Addr → TS) (D : Ends) : WX := fun cls d σ H =>
  PySem.W.exmAny K cls cs = some true ∧ ∀ q, H q = none → ts q cls d (gone i D) (σ.set i (some (.ref q))) H
section
variable {X : Cx} {xA xB xC n : Str} {cA cB cC : Value} {i j : Nat} {body suite : List Stmt} {b₀ : Stmt} {pA pB pC tp pos hp : Pos} {tb : WX → TS} {ts : Addr → Value → Option Addr → TS}
theorem name_here {Xs : Cx} {pins : List (Addr × Obj)} {τ : L2.St} {G : Hp} {s : Shared} {E : Value → Shared → Prop} {R : Value → Shared → Prop} {x : Str} {c : Value} {p : Pos} (hc : Names Xs x c) (I : Inv Xs pins τ G s) (r : R c s) :
    wpAny (model Xs.prog Xs.w) Xs.A (eval (.Name x p) Xs.env) R E s := by
  obtain ⟨hg, hd, hm | ⟨hm, hv, hn⟩⟩ := hc
  · exact ld_glob I hg hm r hd
  · exact ld_blt I hg hm hv r hn hd
theorem ps_tryA3 (hs : X.stack = X.env :: X.outer) (hf : X.env.frame = some X.env.locals) (hN : X.N.Nodup) (hi : X.N[i]? = some n) (hln : X.env.kindOf n = some .local) (nA : Names X xA cA) (nB : Names X xB cB) (nC : Names X xC cC)
    (hb : ∀ (W : WX) (pn : List (Addr × Obj)) (xe : Value → Shared → Prop), Takes (X.tr pn xe) W → PassesOwn (model X.prog X.w) X.A X.env xe → PSs (X.tr pn xe) body (tb W))
    (hsu : ∀ (q : Addr) (oe : Obj) (cls : Value) (d : Option Addr) (pn : List (Addr × Obj)), Zc cls d oe → (∃ vs, oe.data = .fields vs) → PSs (X.suite q ((q, oe) :: pn)) (b₀ :: suite) (ts q cls d)) :
    PS X (.Try body [.ExceptHandler (some (.Tuple [.Name xA pA, .Name xB pB, .Name xC pC] j tp)) (some n) (b₀ :: suite) hp] [] [] pos) (fun D σ H => tb (wAny3 X.K [cA, cB, cC] i ts D) D σ H) := by
  refine ⟨fun pins s σ H D I h => ?_⟩
  have okX := I.ok
  have stk : X.A.frames = some (X.env :: X.outer) := by rw [okX.frames, hs]
  refine wpAny_Try_except (wpAny_mono ((hb (wAny3 X.K [cA, cB, cC] i ts D) (X.pn ++ pins) (fun e s₁ => wpAny (model X.prog X.w) X.A (noteFrame e X.env) (fun _ s₂ => wpAny (model X.prog X.w) X.A (setFlight e none) (fun _ s₃ =>
    wpAny (model X.prog X.w) X.A (handleBy e X.env [.ExceptHandler (some (.Tuple [.Name xA pA, .Name xB pB, .Name xC pC] j tp)) (some n) (b₀ :: suite) hp]) (SP X pins D) X.xe s₃) X.xe s₂) X.xe s₁) (fun u s' z => ?_) PassesOwn.looking).run [] s σ H D (I.toTry _) h) (fun f s1 z => ?_) (fun _ _ z => z))
  · obtain ⟨q, gr, sI, pins', τ, G, cls, d, rfl, J0, nb, up, sky, nq, os, ag, hm, hsuite⟩ := z
    have J : Inv X pins τ G sI := J0.ofTry okX
    rw [show X.stack = X.env :: X.outer from hs] at sky
    show wpAny (model X.prog X.w) X.A (noteFrame (.ref q) X.env) _ _ _
    refine Sky.land Zc.steady stk hf sky fun g3 fl3 up3 => ?_
    have J3 : Inv X pins τ G { s' with heap := g3 } := J.landed nb fl3.1 (up.trans up3) os ag
    obtain ⟨o3, w3, he3, hz3, hd3⟩ := fl3.there
    have nfr : q ∉ frs (X.env :: X.outer) := fun hmem => by
      obtain ⟨_, o', e', hnf⟩ := fl3.2.2.1.mem hmem
      cases he3.symm.trans e'
      exact hnf _ hd3
    have nL : q ≠ X.env.locals := fun e => nfr (List.mem_filterMap.mpr ⟨X.env, List.mem_cons_self, by rw [hf, e]⟩)
    have nF : q ∉ X.fs := fun hmem => by
      obtain ⟨e, he, hq⟩ := List.mem_filterMap.mp hmem
      exact nfr (List.mem_filterMap.mpr ⟨e, List.mem_cons_of_mem _ he, hq⟩)
    have S3 := J3.suite he3 hd3 nq nL nF
    refine wpAny_handleBy_cons (codeAny_handlers_test ?_) (by intro e; cases e)
    have LT : PySem.W.Looks (model X.prog X.w) g3 (typeOf (.ref q)) cls := fun _ _ _ _ k r => wpAny_typeOf_ref (k _ _ he3) (by rw [hz3.1]; exact r)
    refine wpAny_Tuple (wpAny_items_cons (name_here (Xs := X.suite q ((q, o3) :: (X.pn ++ pins))) nA S3 (wpAny_items_cons (name_here (Xs := X.suite q ((q, o3) :: (X.pn ++ pins))) nB S3 (wpAny_items_cons (name_here (Xs := X.suite q ((q, o3) :: (X.pn ++ pins))) nC S3 (wpAny_items_nil ⟨by size_fits, ?_⟩)))))))
    have kp : ∀ b o, g3.get? b = some o → (g3.push { cls := .type "tuple", data := .seq [cA, cB, cC].toArray }).get? b = some o := fun _ _ e => Heap.get?_push_of_some _ e
    refine (PySem.W.exm_tup3 (J3.kIn.keeps kp) (LT.keeps kp) (Heap.get?_push_size g3 rfl) hm).here ?_
    refine codeAny_handlers_suite_as ?_
    refine HandSPX.lands_againZ (fly_wide kp fl3) fun g4 fl4 up4 => ?_
    have J4 : Inv X pins τ G { s' with heap := g4 } := J.landed nb fl4.1 ((up.trans up3).trans ((Heap.UpToSlots.of_keeps kp).trans up4)) os ag
    obtain ⟨o4, w4, he4, hz4, hd4⟩ := fl4.there
    have S4 := J4.suite he4 hd4 nq nL nF
    refine store_ok (X := X.suite q ((q, o4) :: (X.pn ++ pins))) (v := .ref q) S4 hN hi (.inl hln) rfl (fun s5 S5 => ?_) (.inr hln)
    refine wpAny_mono ((hsu q o4 cls d (X.pn ++ pins) hz4 ⟨_, hd4⟩).run [] s5 _ G _ S5 (hsuite q nq)) (fun f s6 z => ?_) fun _ _ z => False.elim z
    have fin : ∀ {τ6 : L2.St} {G6 : Hp} {R : Shared → Prop}, Inv (X.suite q ((q, o4) :: (X.pn ++ pins))) [] τ6 G6 s6 → (∀ s7, Inv X pins (τ6.set i none) G6 s7 → R s7) →
        wpAny (model X.prog X.w) X.A (do bindName X.env n .none; unbindBehindTheSuite X.env n hp) (fun _ s7 => R s7) X.xe s6 := fun {τ6 G6 R} S6 r => gone_ok (S6.unsuite okX) hN hi hln r
    cases f with
    | ret u => exact fin z.choose_spec.choose_spec.choose_spec.1 fun s7 J7 => ⟨_, _, _, J7, z.choose_spec.choose_spec.choose_spec.2.1, z.choose_spec.choose_spec.choose_spec.2.2⟩
    | next => exact fin z.choose_spec.choose_spec.1 fun s7 J7 => ⟨_, _, J7, z.choose_spec.choose_spec.2⟩
    | brk => exact fin z.choose_spec.choose_spec.1 fun s7 J7 => ⟨_, _, J7, z.choose_spec.choose_spec.2⟩
    | cont => exact fin z.choose_spec.choose_spec.1 fun s7 J7 => ⟨_, _, J7, z.choose_spec.choose_spec.2⟩
  · cases f with
    | ret u => exact ⟨_, _, _, z.choose_spec.choose_spec.choose_spec.1.ofTry okX, z.choose_spec.choose_spec.choose_spec.2.1, z.choose_spec.choose_spec.choose_spec.2.2⟩
    | next => exact wpAny_execs_nil ⟨_, _, z.choose_spec.choose_spec.1.ofTry okX, z.choose_spec.choose_spec.2⟩
    | brk => exact ⟨_, _, z.choose_spec.choose_spec.1.ofTry okX, z.choose_spec.choose_spec.2⟩
    | cont => exact ⟨_, _, z.choose_spec.choose_spec.1.ofTry okX, z.choose_spec.choose_spec.2⟩
end
end
section
open LamX NdefX L2H
/-! ### the caught exception: its fields, and a def that it is passed to -/
/-- what stands pinned at a: an exception of the class cls with the dict d -/
structure Pinned (X : Cx) (a : Addr) (oe : Obj) (cls : Value) (d : Option Addr) : Prop where
  mem : (a, oe) ∈ X.pn
  kin : Zc cls d oe
  fld : ∃ vs, oe.data = .fields vs
/-- the reading of e.n where e is that exception -/
def tXfA (K : PySem.W.Frag) (a : Addr) (cls : Value) (d : Option Addr) (n : Str) (te : TE) : TE := fun σ H Q => te σ H fun x G => x = .ref a ∧ ∃ (C dd : Addr) (fs : List (Str × V)) (v : V),
  cls = .ref C ∧ XfC K C ∧ PySem.W.findIn K (.ref C) n = some none ∧ d = some dd ∧ G dd = some (.xd fs) ∧ fs.lookup n = some v ∧ Q v G
theorem pe_xfA {X : Cx} {a : Addr} {oe : Obj} {cls : Value} {d : Option Addr} {e : Expr} {te : TE} {pos : Pos} {n : Str} (p : Pinned X a oe cls d) (he : PE X e te) (hb : attributeBase e n X.env (eval e X.env) = eval e X.env := by rfl) :
    PE X (.Attribute e n pos) (tXfA X.K a cls d n te) := by
  refine ⟨fun pins s σ H Q I h => attr_of hb (thn (he.run pins s σ H _ I h) fun u s1 z => ?_)⟩
  obtain ⟨x, G, I1, rx, rfl, C, dd, fs, v, rfl, T, hno, rfl, ea, l, q⟩ := z
  obtain rfl : u = Value.ref a := rx
  obtain ⟨vs, hd⟩ := p.fld
  have there := (I1.pin (a, oe) (List.mem_append_left _ p.mem)).1
  obtain ⟨mA, hns, hr⟩ := (show ObjOk X.prog X.w G s1.heap dd (.xd fs) from I1.hok dd _ ea)
  obtain ⟨od, ho, hl⟩ := lookIn_ns hns
  obtain ⟨u, hu, ru⟩ := RelO.some_of (v := v) (o := mA n) (by rw [← l]; exact hr n)
  refine HandSPX.exc_get I1.kIn (⟨there, p.kin.1, by unfold PySem.W.notCls; rw [hd] <;> rfl, by rw [p.kin.2]; exact ho⟩ : PySem.W.InstAt s1.heap a oe C (some od)) T.ga T.gg T.exC (PySem.W.findObj_own T.hdC hno rfl (by rw [hl, hu])) (handed_of ru) ⟨v, G, I1.tok _, ru, q⟩
/-- what a def promises that is called in an except suite with the exception among its arguments -/
structure FnP (P : Program) (w : World) (K : PySem.W.Frag) (mg : Str → Option Value) (base : Heap) (CX : CXT) (k : Nat) (f : Addr) (fd : FuncData) (ps : List Str) (sp : Addr → Value → Option Addr → Sp) : Prop where
  len : ∀ a cls d vs H Q E, sp a cls d vs H Q E → vs.length = ps.length
  run : ∀ (A : Around) (outer : List PySem.Env) (s : Shared) (H : Hp) (args : Args) (us : List Value) (vs : List V) (Q : VK) (E : XK) (p : Addr × Obj) (cls : Value) (d : Option Addr), RoomH k A → PinOk outer H s p → Zc cls d p.2 → (∃ vs, p.2.data = .fields vs) → Env0 P w K mg base A outer s H →
    BindsTo s fd args (ps.zip us) → Vals vs us → sp p.1 cls d vs H Q E → codeAny (model P w) A (.call (.ref f) args) (CR CX outer P w H s Q E) s
theorem fnp_of {CX : CXT} {P : Program} {w : World} {K : PySem.W.Frag} {mg : Str → Option Value} {base : Heap} {k : Nat} {f : Addr} {name qual : Str} {params : Arguments} {body : List Stmt} {scope : Scope} {dV kV doc pm cdv ct oc : Value} {an od : Option Addr} {osl : Array (Option Value)} {N ps : List Str} {sp : Addr → Value → Option Addr → Sp}
    (lk : K.lookup f = some ⟨oc, od, .func (PySem.W.fnOf name qual params body scope dV kV doc pm an cdv ct), osl⟩) (hcd : PySem.W.codeIn K cdv qual = true) (S : FnScope N ps scope) (len : ∀ a cls d vs H Q E, sp a cls d vs H Q E → vs.length = ps.length)
    (hbody : ∀ (A : Around) (outer : List PySem.Env) (s : Shared) (H : Hp) (vs : List V) (Q : VK) (E : XK) (p : Addr × Obj) (cls : Value) (d : Option Addr), Zc cls d p.2 → (∃ vs, p.2.data = .fields vs) → RoomH k (A.deeper (envOfC qual scope s.heap.objs.size f cdv)) → sp p.1 cls d vs H Q E →
      ∃ t, PSs (cxH CX P w K mg base N qual scope f cdv A outer s H E p) body t ∧ t { nx := fun _ G => Q .non G, rt := Q } (L2.start N vs) H) :
    FnP P w K mg base CX (k + 1) f (PySem.W.fnOf name qual params body scope dV kV doc pm an cdv ct) ps sp := by
  refine ⟨len, fun A outer s H args us vs Q E p cls d hr hpin hz hf e0 hb r hsp => ?_⟩
  have inK : K.In s.heap := e0.mod.kin.keeps fun b o e => (e0.bs b o e).1
  have noLim : s.heap.NoLimit := e0.mod.nolimit.keeps fun b o e => (e0.bs b o e).1
  refine codeAny_call_function hr.depth (inK _ _ lk) rfl S.co S.gen rfl (PySem.W.codeRec_of inK hcd) (hb _ _ _ _ (wpAny_newFunctionEnv_cells S.kind (fun ⟨n, v⟩ hy => (S.par n (List.of_mem_zip hy).1).imp id fun q => ⟨q, PySem.W.cellsFrom_some _ _ _ (.inl q)⟩) fun env he s1 x => ?_))
  subst he
  obtain ⟨t, ht, hq⟩ := hbody A outer s H vs Q E p cls d hz hf (hr.deeper _) hsp
  refine ⟨noLim.keeps x.toInCall.keep, codeAny_func (wpAny_mono (ht.run [] s1 (L2.start N vs) H _ (inv_startH S hpin e0 (len _ _ _ _ _ _ _ hsp) r x) hq) (fun fl s' z => ?_) fun e s' z => z)⟩
  cases fl with
  | ret u => exact ⟨_, _, z.choose_spec.choose_spec.choose_spec.1.os, z.choose_spec.choose_spec.choose_spec.1.bare, z.choose_spec.choose_spec.choose_spec.1.base, z.choose_spec.choose_spec.choose_spec.1.hok, z.choose_spec.choose_spec.choose_spec.2⟩
  | next => exact ⟨V.non, _, z.choose_spec.choose_spec.1.os, z.choose_spec.choose_spec.1.bare, z.choose_spec.choose_spec.1.base, z.choose_spec.choose_spec.1.hok, rfl, z.choose_spec.choose_spec.2⟩
  | brk => exact False.elim z.choose_spec.choose_spec.2
  | cont => exact False.elim z.choose_spec.choose_spec.2
/-- f(e) with the exception | its reading -/
def tCallP (a : Addr) (cls : Value) (d : Option Addr) (sp : Addr → Value → Option Addr → Sp) (t : TA) : TE := fun σ H Q => t σ H fun vs G => sp a cls d vs G Q fun _ _ _ => False
theorem pe_callP {X : Cx} {CX : CXT} {k : Nat} {f : Addr} {fd : FuncData} {ps : List Str} {sp : Addr → Value → Option Addr → Sp} {x : Str} {q pos : Pos} {e : Expr} {es : List Expr} {t : TA} {a : Addr} {oe : Obj} {cls : Value} {d : Option Addr}
    (F : FnP X.prog X.w X.K X.mg X.base CX k f fd ps sp) (hr : RoomH k X.A) (p : Pinned X a oe cls d) (hg : Gl X x) (hm : X.mg x = some (.ref f)) (hk : PySem.W.keepIn X.K (.ref f) = true) (hb : Binds X.K fd ps []) (hx : ∀ σ, PassesAt CX X σ fun _ _ _ => False)
    (ha : PA X (e :: es) t) (hd : (x == ("__debug__" : Str)) = false := by decide) (he : starEach (e :: es) X.env = (false, eval e X.env) :: starEach es X.env := by rfl) (hp : (backTo pos (starEach es X.env)).any (·.1) = false := by rfl) :
    PE X (.Call (.Name x q) (e :: es) [] pos) (tCallP a cls d sp t) := by
  refine ⟨fun pins s σ H Q I h => wpAny_Call_Name_kw (ld_glob I hg hm (PySem.W.callWith_K (h₀ := X.base) I.ok.mod.kin hk (thn (ha.run pos pins s σ H _ I h) fun us s1 ⟨vs, G, I1, r, z⟩ => ⟨I1.kIn, ?_⟩) he hp) hd)⟩
  have ln : us.length = ps.length := by rw [← r.length]; exact F.len _ _ _ _ _ _ _ z
  have b := hb s1 us I1.kIn (by rw [List.append_nil]; exact ln)
  rw [List.append_nil] at b
  obtain ⟨g1, g2, g3, g4, g5⟩ := I1.pin (a, oe) (List.mem_append_left _ p.mem)
  refine wpAny_call (codeAny_mono (F.run X.A X.stack s1 G ⟨us, []⟩ us vs Q _ (a, oe) cls d hr ⟨g1, g2, fun hm => (List.mem_cons.mp (I1.stkSub a hm)).elim g3 g4, g5⟩ p.kin p.fld I1.env0 b r z) fun r s' hq => ?_)
  cases r with
  | error e => exact hx σ pins G s1 e s' I1 hq
  | ok fl =>
    cases fl with
    | ret u => exact I1.after hq
    | next => exact False.elim hq
    | brk => exact False.elim hq
    | cont => exact False.elim hq
end

/-! ### comprehensions -/
/-- the new list's items one by one: I holds of the heap all the way, R i tells the i-th item -/
theorem lc_gen {J : It} {n : Nat} {G : Hp → Prop} {Y : Nat → Hp → V → Hp → Prop} (w : Walk J n G Y) {g : TG} {te : TE} {vs : List Nat} {σ : L2.St} {H1 : Hp} {D : Addr} {Qd : Hp → Prop}
    (I : Hp → Prop) (R : Nat → V → Prop) (hn : n ≤ 100000) (h0 : I (upd H1 D (.lst []))) (hG : ∀ H, I H → G H) (hU : ∀ H o, I H → I (upd H D o))
    (hs : ∀ i x H H' (Q : VK), i < n → I H → Y i H x H' → (∃ o, H D = some o) → (∀ y H4, R i y → I H4 → (∀ o, H D = some o → H4 D = some o) → Q y H4) → g x (wipe σ vs) H' fun σ2 H2 => wipe σ2 vs = wipe σ vs ∧ te σ2 H2 Q)
    (hd : ∀ H ys, I H → H D = some (.lst ys) → ys.length = n → (∀ i y, ys[i]? = some y → R i y) → Qd H) :
    ∃ W : Nat → Nat → Hp → Prop, (∃ m, W 0 m (upd H1 D (.lst []))) ∧ ∀ i m H, W i m H →
      (J.stop i H ∧ Qd H) ∨ (J.go i H ∧ ∃ Nx : Hp → Prop, (∀ H', Nx H' → ∃ m', m' < m ∧ W (i + 1) m' H') ∧ ∀ x H', J.yld i H x H' → g x (wipe σ vs) H' fun σ2 H2 => wipe σ2 vs = wipe σ vs ∧ tYes σ2 H2 fun b H3 =>
        if b = true then te σ2 H3 fun y H4 => ∃ acc, H4 D = some (.lst acc) ∧ acc.length < sizeLine ∧ Nx (upd H4 D (.lst (acc ++ [y]))) else Nx H3) := by
  refine lc_it w (fun i H => I H ∧ ∃ ys : List V, H D = some (.lst ys) ∧ ys.length = i ∧ ∀ j y, ys[j]? = some y → R j y) ⟨h0, [], upd_same, rfl, fun j y e => by simp at e⟩ (fun i H _ h => hG H h.1) ?_ ?_
  · rintro i x H H' hi ⟨hI, ys, hy, hl, hr⟩ hY
    refine hs i x H H' _ hi hI hY ⟨_, hy⟩ fun y H4 ry hI4 hk => ⟨ys, hk _ hy, szl (by omega), hU _ _ hI4, ys ++ [y], upd_same, by simp [hl], fun j z e => ?_⟩
    by_cases hj : j < ys.length
    · rw [List.getElem?_append_left hj] at e
      exact hr j z e
    · have hj2 : j = ys.length := by
        have := (List.getElem?_eq_some_iff.mp e).1
        simp at this
        omega
      subst hj2
      simp at e
      rw [← e, hl]
      exact ry
  · rintro H ⟨hI, ys, hy, hl, hr⟩
    exact hd H ys hI hy hl hr
/-- with a test: the items of the turns that are kept, by f -/
theorem lc_fil {J : It} {n : Nat} {G : Hp → Prop} {Y : Nat → Hp → V → Hp → Prop} (w : Walk J n G Y) {g : TG} {tt : TT} {te : TE} {vs : List Nat} {σ : L2.St} {H1 : Hp} {D : Addr} {Qd : Hp → Prop}
    (I : Hp → Prop) (f : Nat → Option V) (hn : n ≤ 100000) (h0 : I (upd H1 D (.lst []))) (hG : ∀ H, I H → G H) (hU : ∀ H o, I H → I (upd H D o))
    (hs : ∀ i x H H' (Q : VK) (Qn : Hp → Prop), i < n → I H → Y i H x H' → (∃ o, H D = some o) → (∀ y H4, f i = some y → I H4 → (∀ o, H D = some o → H4 D = some o) → Q y H4) → (∀ H4, f i = none → I H4 → (∀ o, H D = some o → H4 D = some o) → Qn H4) →
      g x (wipe σ vs) H' fun σ2 H2 => wipe σ2 vs = wipe σ vs ∧ tt σ2 H2 fun b H3 => if b = true then te σ2 H3 Q else Qn H3)
    (hd : ∀ H, I H → H D = some (.lst ((List.range n).filterMap f)) → Qd H) :
    ∃ W : Nat → Nat → Hp → Prop, (∃ m, W 0 m (upd H1 D (.lst []))) ∧ ∀ i m H, W i m H →
      (J.stop i H ∧ Qd H) ∨ (J.go i H ∧ ∃ Nx : Hp → Prop, (∀ H', Nx H' → ∃ m', m' < m ∧ W (i + 1) m' H') ∧ ∀ x H', J.yld i H x H' → g x (wipe σ vs) H' fun σ2 H2 => wipe σ2 vs = wipe σ vs ∧ tt σ2 H2 fun b H3 =>
        if b = true then te σ2 H3 fun y H4 => ∃ acc, H4 D = some (.lst acc) ∧ acc.length < sizeLine ∧ Nx (upd H4 D (.lst (acc ++ [y]))) else Nx H3) := by
  refine lc_it w (fun i H => I H ∧ H D = some (.lst ((List.range i).filterMap f))) ⟨h0, upd_same⟩ (fun i H _ h => hG H h.1) ?_ ?_
  · rintro i x H H' hi ⟨hI, hy⟩ hY
    have e : (List.range (i + 1)).filterMap f = (List.range i).filterMap f ++ (match f i with | some y => [y] | none => []) := by
      rw [List.range_succ, List.filterMap_append]
      cases h : f i <;> simp [h]
    have hl : ((List.range i).filterMap f).length ≤ i := by
      have := List.length_filterMap_le f (List.range i)
      rw [List.length_range] at this
      exact this
    refine hs i x H H' _ _ hi hI hY ⟨_, hy⟩ (fun y H4 ry hI4 hk => ⟨_, hk _ hy, szl (by omega), hU _ _ hI4, ?_⟩) (fun H4 ry hI4 hk => ⟨hI4, ?_⟩)
    · rw [upd_same, e, ry]
    · rw [hk _ hy, e, ry, List.append_nil]
  · rintro H ⟨hI, hy⟩
    exact hd H hI hy
theorem ys_map {α : Type} {l : List α} {f : α → V} {ys : List V} (hl : ys.length = l.length) (hr : ∀ (i : Nat) (y : V), ys[i]? = some y → ∃ c, l[i]? = some c ∧ y = f c) : ys = l.map f := by
  apply List.ext_getElem?
  intro i
  rw [List.getElem?_map]
  cases h : ys[i]? with
  | none =>
    have h1 := List.getElem?_eq_none_iff.mp h
    rw [List.getElem?_eq_none_iff.mpr (by omega)]
    rfl
  | some y =>
    obtain ⟨c, h1, h2⟩ := hr i y h
    rw [h1, h2]
    rfl
theorem all_dec {α : Type} {l : List α} {p : α → Prop} [DecidablePred p] : (l.map fun c => decide (p c)).all id = decide (∀ c ∈ l, p c) := by
  rw [Bool.eq_iff_iff]
  simp
theorem size_tl (z : Str) : z.cps.size = z.cps.toList.length := by simp
theorem len_tl (z : Str) : z.length = z.cps.toList.length := by simp [Str.length]
theorem get_tl (z : Str) (i : Nat) : z.cps[i]? = z.cps.toList[i]? := by simp
theorem pick_map {α : Type} {P : α → Prop} {f : α → V} : ∀ {ys : List V}, (∀ (i : Nat) (y : V), ys[i]? = some y → ∃ c, P c ∧ y = f c) → ∃ cs : List α, ys = cs.map f ∧ cs.length = ys.length ∧ ∀ c ∈ cs, P c
  | [], _ => ⟨[], rfl, rfl, fun _ h => nomatch h⟩
  | y :: r, h => by
    obtain ⟨c, hc, e⟩ := h 0 y rfl
    obtain ⟨cs, h1, h2, h3⟩ := pick_map (P := P) (f := f) (ys := r) fun i z hz => h (i + 1) z hz
    refine ⟨c :: cs, by rw [e, h1]; rfl, by simp [h2], fun x hx => ?_⟩
    rcases List.mem_cons.mp hx with rfl | hx
    · exact hc
    · exact h3 x hx
theorem fil_empty {f : Nat → Option V} {n : Nat} : (!(!((List.range n).filterMap f).isEmpty)) = decide (∀ i < n, f i = none) := by
  rw [Bool.eq_iff_iff]
  simp
/-- tuples stay what they are -/
def TupKeep (H H' : Hp) : Prop := ∀ c xs, H c = some (.tup xs) → H' c = some (.tup xs)
theorem TupKeep.of {H H' : Hp} (s : Same H H') : TupKeep H H' := fun _ _ h => s _ _ h
theorem TupKeep.put {H H' : Hp} {D : Addr} {xs ys : List V} (k : TupKeep H H') (e : H' D = some (.lst xs)) : TupKeep H (upd H' D (.lst ys)) := fun c zs h => by
  have h2 := k c zs h
  have n : c ≠ D := fun z => by
    rw [z, e] at h2
    cases h2
  rw [upd_ne n]
  exact h2
/-- as lc_gen, where what is told of the items stands in the heap -/
theorem lc_genH {J : It} {n : Nat} {G : Hp → Prop} {Y : Nat → Hp → V → Hp → Prop} (w : Walk J n G Y) {g : TG} {te : TE} {vs : List Nat} {σ : L2.St} {H1 : Hp} {D : Addr} {Qd : Hp → Prop}
    (I : Hp → Prop) (R : Nat → V → Hp → Prop) (hn : n ≤ 100000) (h0 : I (upd H1 D (.lst []))) (hG : ∀ H, I H → G H) (hU : ∀ H o, I H → I (upd H D o)) (hR : ∀ i y H H', TupKeep H H' → R i y H → R i y H')
    (hs : ∀ i x H H' (Q : VK), i < n → I H → Y i H x H' → (∃ xs, H D = some (.lst xs)) → (∀ y H4, R i y H4 → I H4 → TupKeep H H4 → (∀ o, H D = some o → H4 D = some o) → Q y H4) → g x (wipe σ vs) H' fun σ2 H2 => wipe σ2 vs = wipe σ vs ∧ te σ2 H2 Q)
    (hd : ∀ H ys, I H → H D = some (.lst ys) → ys.length = n → (∀ i y, ys[i]? = some y → R i y H) → Qd H) :
    ∃ W : Nat → Nat → Hp → Prop, (∃ m, W 0 m (upd H1 D (.lst []))) ∧ ∀ i m H, W i m H →
      (J.stop i H ∧ Qd H) ∨ (J.go i H ∧ ∃ Nx : Hp → Prop, (∀ H', Nx H' → ∃ m', m' < m ∧ W (i + 1) m' H') ∧ ∀ x H', J.yld i H x H' → g x (wipe σ vs) H' fun σ2 H2 => wipe σ2 vs = wipe σ vs ∧ tYes σ2 H2 fun b H3 =>
        if b = true then te σ2 H3 fun y H4 => ∃ acc, H4 D = some (.lst acc) ∧ acc.length < sizeLine ∧ Nx (upd H4 D (.lst (acc ++ [y]))) else Nx H3) := by
  refine lc_it w (fun i H => I H ∧ ∃ ys : List V, H D = some (.lst ys) ∧ ys.length = i ∧ ∀ j y, ys[j]? = some y → R j y H) ⟨h0, [], upd_same, rfl, fun j y e => by simp at e⟩ (fun i H _ h => hG H h.1) ?_ ?_
  · rintro i x H H' hi ⟨hI, ys, hy, hl, hr⟩ hY
    refine hs i x H H' _ hi hI hY ⟨_, hy⟩ fun y H4 ry hI4 tk hk => ⟨ys, hk _ hy, szl (by omega), hU _ _ hI4, ys ++ [y], upd_same, by simp [hl], fun j z e => ?_⟩
    by_cases hj : j < ys.length
    · rw [List.getElem?_append_left hj] at e
      exact hR _ _ _ _ (tk.put (hk _ hy)) (hr j z e)
    · have hj2 : j = ys.length := by
        have := (List.getElem?_eq_some_iff.mp e).1
        simp at this
        omega
      subst hj2
      simp at e
      rw [← e, hl]
      exact hR _ _ _ _ (TupKeep.put (fun _ _ h => h) (hk _ hy)) ry
  · rintro H ⟨hI, ys, hy, hl, hr⟩
    exact hd H ys hI hy hl hr

/-! ### a comprehension whose element may let an exception out -/
section
variable {X : Cx}
/-- an exception that a call in the element let out goes on out of the def -/
theorem comp_out {E : XK} {pins pins1 : List (Addr × Obj)} {σ σ1 : L2.St} {H H1 : Hp} {s s1 s2 : Shared} {scope : Scope} {ce : Env} {fp : List Addr} {u : Value}
    (st0 : X.stack = X.env :: X.outer) (fr0 : X.env.frame = some X.env.locals) (tk : Takes X (fun c d _ H => E c d H)) (I : Inv X pins σ H s)
    (cf : ce.frame = X.env.frame) (cl : s.heap.objs.size ≤ ce.locals) (fz : ∀ b ∈ fp, FpOk X pins H b)
    (J : Inv (X.blk s H scope ce fp) pins1 σ1 H1 s1) (c : L2.CX X.prog X.w X.stack H1 s1 E u s2) :
    notedBy (model X.prog X.w) X.A ce (CompFails (model X.prog X.w) X.A X.xe ce) u s2 := by
  obtain ⟨a, B, H2, cls, d, rfl, fly, okB, ub, na, eos, bare, w⟩ := c
  have frm : X.A.frames = some (X.env :: X.outer) := by rw [I.ok.frames, st0]
  obtain ⟨m, ns1, _⟩ := J.loc
  have ns1 : s1.heap.Ns ce.locals m := ns1
  have no1 : H1 ce.locals = none := J.free
  have nst : ∀ b ∈ frs X.stack, b ≠ ce.locals := fun b hb z => by
    obtain ⟨_, o, e, _⟩ := I.stack.mem hb
    exact absurd (Nat.lt_of_lt_of_le (Heap.lt_size e) (z ▸ cl)) (Nat.lt_irrefl _)
  have lts : ∀ b o, s.heap.get? b = some o → b ≠ ce.locals := fun b o e z => absurd (Nat.lt_of_lt_of_le (Heap.lt_size e) (z ▸ cl)) (Nat.lt_irrefl _)
  -- the block's names stand in what the call left
  have nsB : ∃ o, s1.heap.get? ce.locals = some o ∧ B.get? ce.locals = some o := by
    obtain ⟨o, es, ep, e, _⟩ := ns1
    exact ⟨o, e, ub.keep _ _ e no1 fun hm => nst _ hm rfl⟩
  have ns2 : s2.heap.Ns ce.locals m := by
    obtain ⟨o1, e1, e2⟩ := nsB
    obtain ⟨o, es, ep, e, r⟩ := ns1
    rw [e1] at e
    cases e
    exact ⟨o1, es, ep, fly.1 _ _ e2, r⟩
  have no2 : H2 ce.locals = none := by
    obtain ⟨o1, e1, _⟩ := nsB
    exact ub.free _ _ e1 no1
  -- the ground without the block's names
  obtain ⟨B2, p1, p2⟩ := restrict B fun b => decide (b ≠ ce.locals)
  have B2B : ∀ b o, B2.get? b = some o → B.get? b = some o ∧ b ≠ ce.locals := fun b o e => by
    by_cases z : b = ce.locals
    · rw [p2 b (by simp [z])] at e
      cases e
    · rw [p1 b (by simp [z])] at e
      exact ⟨e, z⟩
  have BB2 : ∀ b o, B.get? b = some o → b ≠ ce.locals → B2.get? b = some o := fun b o e z => by rw [p1 b (by simp [z])]; exact e
  have Bn : ∀ b, B.get? b = none → B2.get? b = none := fun b e => by
    cases q : B2.get? b with
    | none => rfl
    | some o =>
      rw [(B2B b o q).1] at e
      cases e
  have fly2 : HandSPX.FlyingZ B2 (X.env :: X.outer) a (Zc cls d) s2.heap := by
    obtain ⟨f1, f2, f3, oe, vs, T, oT, ts, g1, g2, g3, g4, g5, g6⟩ := fly
    rw [st0] at f3
    exact ⟨fun b o e => f1 b o (B2B b o e).1, Bn _ f2, funFrames_none f3 fun L hL => Bn _ (f3.mem hL).1, oe, vs, T, oT, ts, g1, g2, g3, g4, Bn _ g5, g6⟩
  -- the state of ours
  obtain ⟨G, r1, r2⟩ := restrict s2.heap fun b => (B2.get? b).isSome || decide (b ∈ frs X.stack)
  have B2G : ∀ b o, B2.get? b = some o → G.get? b = some o := fun b o e => by
    rw [r1 b (by simp [e])]
    exact fly2.1 b o e
  have GF : ∀ b ∈ frs X.stack, G.get? b = s2.heap.get? b := fun b hb => r1 b (by simp [hb])
  have Gof : ∀ b o, G.get? b = some o → s2.heap.get? b = some o ∧ (b ∉ frs X.stack → B2.get? b = some o) ∧ b ≠ ce.locals := fun b o e => by
    cases q : ((B2.get? b).isSome || decide (b ∈ frs X.stack)) with
    | false =>
      rw [r2 b q] at e
      cases e
    | true =>
      rw [r1 b q] at e
      rcases (by simpa [Bool.or_eq_true] using q : (B2.get? b).isSome = true ∨ b ∈ frs X.stack) with h | h
      · obtain ⟨o', q'⟩ := Option.isSome_iff_exists.mp h
        have z := fly2.1 b o' q'
        rw [e] at z
        cases z
        exact ⟨e, fun _ => q', (B2B b _ q').2⟩
      · exact ⟨e, fun n => absurd h n, nst b h⟩
  have I2 : Inv X pins σ H2 { s2 with heap := G } := by
    refine I.call' (ch := fp) (s' := { s2 with heap := G }) (eos.trans J.os) ⟨fun b o e n hb hc => ?_, fun b o e n hb hc => ?_, fun b o e n hc => ?_, fun b o e hc => ?_, fun b xs e => ub.tups _ _ (J.base.tups _ _ e), fun b o xs e => ub.frzs _ _ _ (J.base.frzs _ _ _ e), fun b ps e => ?_⟩ (fun b o q => ?_) bare fun b hb => ⟨(fz b hb).2.2.2.1, (fz b hb).2.1, (fz b hb).2.2.2.2.1, (fz b hb).2.2.2.2.2⟩
    · exact B2G b o (BB2 b o (ub.keep b o (J.base.keep b o e n hb hc) (J.base.free b o e n hc) hb) (lts b o e))
    · obtain ⟨sl, q⟩ := J.base.slot b o e n hb hc
      obtain ⟨sl2, q2⟩ := ub.slot b _ q hb
      exact ⟨sl2, (GF b hb).trans q2⟩
    · obtain ⟨o', q⟩ := J.base.there b o e hc
      exact ub.free b o' q (J.base.free b o e n hc)
    · obtain ⟨o', q⟩ := J.base.there b o e hc
      by_cases hb : b ∈ frs X.stack
      · obtain ⟨sl, q2⟩ := ub.slot b _ q hb
        exact ⟨_, (GF b hb).trans q2⟩
      · obtain ⟨o2, q2⟩ := ub.there b _ q hb
        exact ⟨o2, B2G b o2 (BB2 b o2 q2 (lts b o e))⟩
    · obtain ⟨more, q⟩ := J.base.tbls b ps e
      obtain ⟨more2, q2⟩ := ub.tbls b _ q
      exact ⟨more ++ more2, by rw [q2, Array.append_assoc]⟩
    · refine (okB b o q).stay (fun y v hy r => B2G y v (BB2 y v r fun z => ?_)) (fun _ r => r) fun _ _ r => r
      rcases hy with hy | hy
      · rw [← hy, z, no2] at q
        cases q
      · rw [z, no2] at hy
        cases hy
  show wpAny (model X.prog X.w) X.A (noteFrame (.ref a) ce) _ _ s2
  rw [noteFrame_env _ cf]
  refine HandSPX.looks_onZ Zc.steady frm fr0 fly2 fun h1 held up1 => ?_
  have ns3 : h1.Ns ce.locals m := ns2.upToSlots up1
  refine ⟨m, ns3, fun h2 m2 ns4 sb => ?_⟩
  obtain ⟨f1, f2, f3, oe, vs, T, oT, ts, g1, g2, g3, g4, g5, g6, g7, g8, g9⟩ := held
  have away : ∀ {b : Addr} {o : Obj} {vs : Array Value}, h1.get? b = some o → o.data = .fields vs → b ≠ ce.locals := fun {b o vs} e hd z => by
    obtain ⟨oL, es, ep, e2, hd2, _⟩ := ns3
    rw [z, e2] at e
    cases e
    rw [hd] at hd2
    cases hd2
  have k1 : ∀ b o, b ≠ ce.locals → h1.get? b = some o → h2.get? b = some o := fun b o n e => (sb.2 b n).trans e
  have held2 : HandSPX.HeldZ B2 (X.env :: X.outer) a (Zc cls d) X.env.locals h2 := ⟨fun b o e => k1 b o (B2B b o e).2 (f1 b o e), f2, Heap.FunFrames.sameBut sb ns4 f3, oe, vs, T, oT, ts, k1 _ _ (away g1 g3) g1, g2, g3, g4, g5, g6, k1 _ _ (away g7 g8) g7, g8, g9⟩
  unfold PySem.passOn
  refine wpAny_bind (wpAny_field (k1 _ _ (away g1 g3) g1) g3 g4 ?_)
  rw [if_neg (show ¬ ((Value.ref T == Value.none) = true) from by simp), cf, fr0]
  refine wpAny_bind (HandSPX.setFlight_onZ held2 fun h3 held3 up3 => wpAny_throw (tk _ _ ?_))
  refine ⟨a, B2, { s2 with heap := G }, pins, σ, H2, cls, d, rfl, I2, fun b o e n => (Gof b o e).2.1 n, fun b o e nf => ?_, .inr (.inr (by rw [st0]; exact held3)), na, rfl, bare, w⟩
  obtain ⟨e2, _, n2⟩ := Gof b o e
  obtain ⟨sl, e3⟩ := up1 b o e2 nf
  exact up3 b { o with slots := sl } (k1 b _ n2 e3) nf
/-- as pe_lc, no tests; the element may let out what the def lets out -/
theorem pe_lcX {elt tg iter : Expr} {scope : Scope} {own : List (Str × Nat)} {pos : Pos} {wi : TI} {g : TG} {te : TE} {E : XK} (st0 : X.stack = X.env :: X.outer) (fr0 : X.env.frame = some X.env.locals) (tk : Takes X (fun c d _ H => E c d H))
    (hc : X.calm = true) (hN : X.N.Nodup) (hi : PI X tg iter wi) (ok : BlkOk X.N X.env.scope scope own)
    (hg : ∀ (s : Shared) (H : Hp) (C : Addr) (cl : List (Str × Addr)) (fp : List Addr), PG (X.blk s H scope (compEnvC scope cl C X.env) fp) tg g)
    (he : ∀ (s : Shared) (H : Hp) (C : Addr) (cl : List (Str × Addr)) (fp : List Addr) (xe : Value → Shared → Prop), Passes (L2.CX X.prog X.w) ((X.blk s H scope (compEnvC scope cl C X.env) fp).wish xe) E → PE ((X.blk s H scope (compEnvC scope cl C X.env) fp).wish xe) elt te)
    (hs : ∀ x, foldedSetIterable iter X.env x = pure x := by intro _; rfl) : PE X (.ListComp elt [⟨tg, iter, [], 0⟩] scope pos) (tLc wi g tYes te (own.map (·.2))) := by
  refine ⟨fun pins s σ H Q I h => ?_⟩
  rw [eval_ListComp]
  have free : ∀ y ∈ scope.names, y.2 = .free → ∃ c, X.env.cells.lookup y.1 = some c := fun y hy e => (ok.free y hy e).elim (fun k => I.ok.has _ (.inl k)) (fun k => I.ok.has _ (.inr k))
  refine comprehension_at (use := none) rfl hs (closure_ok free) ok.kind (fun y hy e => by rw [ok.uniq y hy, e]) (thn (hi.run pins s σ H _ I h) fun xv s1 hx => thn hx fun itv s2 h2 => ?_)
  obtain ⟨it, fp, tn, J, H2, rfl, I2, T, st2, f2, q⟩ := h2
  refine wpAny_newObj_type (newEnv_comp ?_) (by show 0 ≤ sizeLine; decide)
  generalize hD : s2.heap.objs.size = D
  obtain ⟨W, ⟨m0, w0⟩, turn⟩ := q D (I2.hok.fresh (Nat.le_of_eq hD))
  generalize hs3 : ({ s2 with heap := s2.heap.push { cls := .type "list", data := .seq ([] : List Value).toArray } } : Shared) = s3
  have e3 : s3.heap = s2.heap.push { cls := .type "list", data := .seq ([] : List Value).toArray } := by rw [← hs3]
  have I3 : Inv X pins σ (upd H2 D (.lst [])) s3 := by
    rw [← hs3]
    exact I2.laid (t' := s2.toks) (fun b o e => Heap.get?_push_of_some _ e) (Nat.le_of_eq hD) ⟨Nat.zero_le _, [], 0, .nil, by rw [← hD]; exact Heap.get?_push_size _ rfl⟩
  have below : ∀ b ∈ fp, b < s2.heap.objs.size := fun b hb => by
    obtain ⟨o, e, _⟩ := T.obj _ _ st2 b hb
    exact Heap.lt_size e
  have f3 : ∀ b ∈ fp, FpOk X pins (upd H2 D (.lst [])) b ∧ b < s3.heap.objs.size := fun b hb =>
    ⟨⟨by rw [upd_ne (by rw [← hD]; exact Nat.ne_of_lt (below b hb))]; exact (f2 b hb).1, (f2 b hb).2⟩, by rw [e3, Heap.size_push]; exact Nat.lt_succ_of_lt (below b hb)⟩
  have st3 : tn 0 s3.heap := T.keep _ _ _ st2 fun b _ o e => by
    rw [e3]
    exact Heap.get?_push_of_some _ e
  have I4 := block_start I3 ok hN f3
  generalize hcl : cellsFrom (s3.heap.objs.size + 1) scope.names (cloFrom X.env.cells scope.names []) = cells at I4
  have pg := hg s3 (upd H2 D (.lst [])) s3.heap.objs.size cells fp
  have pe := he s3 (upd H2 D (.lst [])) s3.heap.objs.size cells fp
  show codeAny _ _ (.compStart (.ListComp elt [⟨tg, iter, [], 0⟩] scope pos) 0 (.ref it) (.ref D) (compEnvC scope cells s3.heap.objs.size X.env))
    (compEnds (model X.prog X.w) X.A X.xe none (EP X pins σ Q) (.ref D) (compEnvC scope cells s3.heap.objs.size X.env)) { s3 with heap := pushCells (s3.heap.push { cls := .type "dict", data := .dict #[] }) scope.names }
  have nfp : ∀ b ∈ fp, (upd H2 D (.lst [])) b = none := fun b hb => (f3 b hb).1.1
  have cf : (compEnvC scope cells s3.heap.objs.size X.env).frame = X.env.frame := rfl
  have cL : (compEnvC scope cells s3.heap.objs.size X.env).locals = s3.heap.objs.size := rfl
  generalize compEnvC scope cells s3.heap.objs.size X.env = ce at I4 pg pe cf cL ⊢
  generalize upd H2 D (.lst []) = H3 at I3 I4 pg pe w0 nfp f3
  generalize hs4 : ({ s3 with heap := pushCells (s3.heap.push { cls := .type "dict", data := .dict #[] }) scope.names } : Shared) = s4 at I4 ⊢
  have st4 : tn 0 s4.heap := T.keep _ _ _ st3 fun b _ o e => by
    rw [← hs4]
    exact pushCells_keeps _ _ _ _ (Heap.get?_push_of_some _ e)
  have fps : ∀ {σ' : L2.St} {H' : Hp} {s' : Shared}, Inv (X.blk s3 H3 scope ce fp) [] σ' H' s' → (∀ b ∈ fp, H' b = none) → ∀ b ∈ fp, FpOk (X.blk s3 H3 scope ce fp) [] H' b := fun {σ' H' s'} K hn b hb =>
    ⟨hn b hb, (K.ok.exf b hb).1, K.ok.exfs b hb, .inl hb, fun x c e => (K.ok.exf b hb).2 x c e, fun p hp => by cases (show p ∈ ([] : List (Addr × Obj)) from hp)⟩
  have loop : codeAny (model X.prog X.w) X.A (.compLoop (.ListComp elt [⟨tg, iter, [], 0⟩] scope pos) 0 (.ref it) (.ref D) ce) (compEnds (model X.prog X.w) X.A X.xe none (EP X pins σ Q) (.ref D) ce) s4 := by
    refine compLoop_any (fun n s' => ∃ i H', Inv (X.blk s3 H3 scope ce fp) [] (wipe σ (own.map (·.2))) H' s' ∧ tn i s'.heap ∧ (∀ b ∈ fp, H' b = none) ∧ W i n H') ?_ m0 ⟨0, H3, I4, st4, nfp, w0⟩
    rintro n s5 ⟨i, H5, I5, st5, n5, w5⟩
    rcases turn i n H5 w5 with ⟨stop, done⟩ | ⟨go, Nx, hNx, step⟩
    · refine thnF (T.done (X.blk s3 H3 scope ce fp) rfl rfl rfl hc i [] s5 _ H5 (fun _ _ => False) I5 (fps I5 n5) st5 stop) fun r s6 ⟨hr, I6⟩ => ?_
      subst hr
      have I7 : Inv X pins σ H5 s6 := I3.call' (ch := fp) I6.os I6.base I6.hok I6.bare fun b hb => ⟨(f3 b hb).1.2.2.2.1, (f3 b hb).1.2.1, (f3 b hb).1.2.2.2.2.1, (f3 b hb).1.2.2.2.2.2⟩
      obtain ⟨m, hn, _⟩ := I6.loc
      have nC : H5 ce.locals = none := I6.free
      have fC : FpOk X pins H5 ce.locals := I3.fpOk (Nat.le_of_eq cL.symm) nC
      refine ⟨m, hn, fun h'' sb => ?_⟩
      obtain ⟨c0, c1, c2, c3, c4, c5⟩ := fC
      exact ⟨.ref D, H5, I7.turned (t' := s6.toks) (fun b o hb e => (sb.2 b hb).trans e) c0 c1 c3 c4 c5, rfl, done⟩
    · refine thnF (T.item (X.blk s3 H3 scope ce fp) rfl rfl rfl hc i [] s5 _ H5 (fun _ _ => False) I5 (fps I5 n5) st5 go) fun r s6 ⟨u, hr, h6⟩ => ?_
      subst hr
      refine thnF h6 fun _ s7 ⟨x, H7, I7, r7, y7, st7, n7⟩ => ?_
      refine thnF (pg.run _ s7 _ H7 x u _ (I7.pinned (fps I7 n7) (T.obj _ _ st7)) r7 (step x H7 y7)) fun _ s8 ⟨σ8, H8, I8, hw8, q8⟩ => ?_
      refine wpAny_tests_nil ?_
      have q8 : te σ8 H8 fun y H4 => ∃ acc, H4 D = some (.lst acc) ∧ acc.length < sizeLine ∧ Nx (upd H4 D (.lst (acc ++ [y]))) := q8
      rw [if_pos rfl]
      have px : Passes (L2.CX X.prog X.w) ((X.blk s3 H3 scope ce fp).wish fun u s' => ∃ (ps : List (Addr × Obj)) (σ' : L2.St) (H' : Hp) (s1 : Shared), Inv (X.blk s3 H3 scope ce fp) ps σ' H' s1 ∧ L2.CX X.prog X.w X.stack H' s1 E u s') E :=
        fun ps σ' H' s1 u s' K c => ⟨ps, σ', H', s1, K.unwish, c⟩
      refine wpAny_mono ((pe _ px).run _ s8 σ8 H8 _ (I8.wish _) q8) (fun z s10 ⟨yv, H10, I10, r10, acc, hD10, hz10, nx⟩ => ?_) fun u s' ⟨ps, σ', H', s1, K, c⟩ => comp_out st0 fr0 tk I3 cf (Nat.le_of_eq cL.symm) (fun b hb => (f3 b hb).1) K c
      refine app_ok (X := X.blk s3 H3 scope ce fp) I10.unwish hD10 hz10 r10 fun s11 I11 => ?_
      obtain ⟨m', hm, w'⟩ := hNx _ nx
      have pin' : ∀ b ∈ fp, ∀ o, s7.heap.get? b = some o → s11.heap.get? b = some o ∧ (upd H10 D (.lst (acc ++ [yv]))) b = none := fun b hb o e =>
        let z := I11.pin (b, o) (List.mem_append_right _ (List.mem_append_right _ (mem_pinsAt hb e)))
        ⟨z.1, z.2.1⟩
      refine ⟨m', hm, i + 1, _, (I11.unpinned (pins := [])).weak (by rw [← hw8, wipe_length]) (fun j v e => ?_), T.keep _ _ _ st7 fun b hb o e => (pin' b hb o e).1, fun b hb => ?_, w'⟩
      · rw [← hw8] at e
        exact (wipe_some e).1
      · obtain ⟨o, e, _⟩ := T.obj _ _ st7 b hb
        exact (pin' b hb o e).2
  exact codeAny_compStart_list loop (T.self X.A 0 _ _ _ st4 loop)
end

/-! ### len(o), repr(o) by own defs -/
section
variable {X : Cx} {CX : CXT} {k : Nat} {f C : Addr} {fd : FuncData} {ps : List Str} {sp : Sp} {E : XK}
/-- an own def called with the object alone, below the running body -/
theorem own_run {a : Addr} {A : Around} {pins : List (Addr × Obj)} {σ : L2.St} {H : Hp} {s : Shared} {Q : VK} {R E' : Value → Shared → Prop} (F : FnOk X.prog X.w X.K X.mg X.base CX k f fd ps sp) (sb : Sub X k A) (hb : Binds X.K fd ps [])
    (hx : ∀ e s', CX X.stack H s E e s' → E' e s') (I : Inv X pins σ H s) (h : sp [.ref a] H Q E) (q : ∀ u s', EP X pins σ Q u s' → R u s') :
    wpAny (model X.prog X.w) A (call (.ref f) [.ref a]) R E' s := by
  have e0 : Env0 X.prog X.w X.K X.mg X.base A X.stack s H := by
    have e := I.env0
    exact ⟨by rw [sb.fr]; exact e.frames, e.mod, e.bs, e.bsz, e.funs, e.frf, e.hok, e.bare⟩
  have hl := F.len _ _ _ _ h
  have r2 : Vals [V.ref a] [Value.ref a] := .cons rfl .nil
  refine wpAny_call (codeAny_mono (F.run A X.stack s H ⟨[.ref a], []⟩ [.ref a] [.ref a] _ E sb.room e0 (by
    have := hb s [.ref a] I.kIn (by simpa using hl)
    simpa using this) r2 h) fun r s' hq => ?_)
  cases r with
  | error e => exact hx e s' hq
  | ok fl =>
    cases fl with
    | ret w => exact q _ _ (I.after hq)
    | next => exact False.elim hq
    | brk => exact False.elim hq
    | cont => exact False.elim hq
/-- the class has an own def under a name -/
structure OwnDef (K : PySem.W.Frag) (C : Addr) (m : Str) (f : Addr) : Prop where
  at_ : PySem.W.findIn K (.ref C) m = some (some (.ref f))
  fn : PySem.W.isFn K (.ref f) = true
theorem call_ownlen (F : FnOk X.prog X.w X.K X.mg X.base CX k f fd ps sp) (hr : Room (k + 1) X.A) (d : OwnDef X.K C "__len__" f) (hb : Binds X.K fd ps []) (hx : Passes CX X E) :
    CallR X (.builtin "len") (fun xs H Q => ∃ (a dx : Addr) (fs : List (Str × V)), xs = [.ref a] ∧ H a = some (.ins C dx fs) ∧ sp [.ref a] H (fun v H' => ∃ n : Int, v = .int n ∧ 0 ≤ n ∧ n < 2 ^ 63 ∧ Q (.int n) H') E) := by
  intro pins s σ H xs us Q I r h
  obtain ⟨a, dx, fs, rfl, ha, h⟩ := h
  obtain ⟨u, rfl, ru⟩ := vals1 r
  obtain rfl : u = Value.ref a := ru
  obtain ⟨mA, J, _⟩ := ins_get I.hok ha
  obtain ⟨od, J, _⟩ := J.look
  refine Calls.call_function_entry kind_len plain_len entry_len (args_len1 _) ?_
  unfold Builtin.«len»
  refine wpAny_bind (m := oneArg "len" _) (wpAny_pure ?_)
  refine wpAny_bind (m := callSpecial? (.ref a) (PySem.Str.ofString "__len__")) (PySem.W.special_fn I.kIn J d.at_ (beq_iff_eq.mp d.fn) (own_run F ⟨hr.in1, rfl⟩ hb (fun e s' z => hx pins σ H s e s' I z) I h fun u s' z => ?_))
  obtain ⟨v, H', I', rv, n, rfl, n0, n1, q⟩ := z
  obtain ⟨t, rfl⟩ := rv
  refine wpAny_bind (wpAny_holding (wpAny_pure ?_))
  refine wpAny_bind (wpAny_letGo ?_)
  show wpAny _ _ (if n < 0 then _ else _) _ _ _
  rw [if_neg (by omega)]
  show wpAny _ _ (if n ≥ 2 ^ 63 then _ else _) _ _ _
  rw [if_neg (by omega)]
  exact wpAny_bind (wpAny_mkInt (wpAny_pure ⟨_, rfl, .int n, H', I'.tok _, ⟨_, rfl⟩, q⟩))
theorem call_ownrepr (F : FnOk X.prog X.w X.K X.mg X.base CX k f fd ps sp) (hr : Room (k + 1) X.A) (d : OwnDef X.K C "__repr__" f) (hb : Binds X.K fd ps []) (hx : Passes CX X E) :
    CallR X (.builtin "repr") (fun xs H Q => ∃ (a dx : Addr) (fs : List (Str × V)), xs = [.ref a] ∧ H a = some (.ins C dx fs) ∧ sp [.ref a] H (fun v H' => ∃ z : Str, v = .str z ∧ Q (.str z) H') E) := by
  intro pins s σ H xs us Q I r h
  obtain ⟨a, dx, fs, rfl, ha, h⟩ := h
  obtain ⟨u, rfl, ru⟩ := vals1 r
  obtain rfl : u = Value.ref a := ru
  obtain ⟨mA, J, _⟩ := ins_get I.hok ha
  obtain ⟨od, J, _⟩ := J.look
  refine Calls.call_function_entry PySem.F.kind_repr PySem.F.plain_repr PySem.F.entry_repr (PySem.F.args_repr1 _) ?_
  unfold Builtin.«repr»
  refine wpAny_bind (m := oneArg "repr" _) (wpAny_pure ?_)
  refine wpAny_bind (wpAny_cRoomFor hr.in1.units0 ?_)
  refine wpAny_bind (wpAny_bind (J.type.here ((PySem.W.looks_findIn I.kIn d.at_).here ?_)))
  refine wpAny_bind (m := callSpecialIfBound? (.ref a) (PySem.Str.ofString "__repr__")) (PySem.W.ifBound_K I.kIn J d.at_ d.fn (own_run F ⟨hr.in1, rfl⟩ hb (fun e s' z => hx pins σ H s e s' I z) I h fun u s' z => ?_))
  obtain ⟨v, H', I', rv, z, rfl, q⟩ := z
  obtain ⟨t, rfl⟩ := rv
  refine wpAny_bind (wpAny_isInstance (T := "str") (b := true) rfl isSubtype_str_str ?_)
  exact wpAny_pure ⟨_, rfl, .str z, H', I', ⟨t, rfl⟩, q⟩
end

/-! ### enumerate of a tuple -/
namespace EnT
open PySem
theorem drawT {prog : Program} {w : World} {A : Around} (hh : A.handled = none) (it l : Addr) (ne : l ≠ it) (its : Array Value) :
    Draws prog w A it [it, l] its.size (fun i v => its[i]? = some v) (fun i h => h.IsTupleIter it l i ∧ h.IsTuple l its) := {
  live := fun i h st => by
    obtain ⟨⟨o, ho, _⟩, _⟩ := st
    exact ⟨o, ho⟩
  frame := fun i h h' st keep => by
    obtain ⟨⟨o, ho, r⟩, ⟨u, hu, q⟩⟩ := st
    exact ⟨⟨o, keep it (by simp) o ho, r⟩, ⟨u, keep l (by simp) u hu, q⟩⟩
  item := fun i s Q E hi st k => RZ.nextOf_tuple_item st.1 st.2 (x := its[i]) (by simp [hi]) fun h' a b => k _ h' s.toks (by simp [hi]) ⟨a, st.2.extBut b.extBut ne⟩ b
  done := fun s Q E st k => RZ.nextOf_tuple_end hh st.1 st.2 (by simp) k }
theorem new_enumT (l : Addr) (its : Array Value) (n : Nat) (dct : Option Addr) (sl : Array (Option Value)) :
    Meets (Builtin.«enumerate.__new__» ⟨[.type "enumerate", .ref l], []⟩) (fun _ R s => s.heap.get? l = some { cls := .type "tuple", dict := dct, data := .seq its n, slots := sl } ∧
      R (.ok (.ret (.ref (s.heap.push { cls := .type "tuple_iterator", data := .fields #[.ref l, .int 0 0] }).objs.size)))
        { s with heap := (s.heap.push { cls := .type "tuple_iterator", data := .fields #[.ref l, .int 0 0] }).push { cls := .type "enumerate", data := .fields #[.none, .bool false, .ref s.heap.objs.size, rawInt 0, .none, .none] } }) := by
  refine .of_wp fun prog w A R s h => ?_
  obtain ⟨hp, g, d, tk, os⟩ := s
  obtain ⟨hl, fin⟩ := h
  have below := sub_enumerate
  have T : Heap.IsTuple (Shared.heap ⟨hp, g, d, tk, os⟩) l its := ⟨_, hl, rfl, n, rfl⟩
  wp_walk using AutoSeq1.wpAny_loadPart' hl
  refine wpAny_stack_any fun st => wpAny_pure ?_
  split
  · rename_i c _ _ _ _ _
    cases (c == Value.type "enumerate") <;> (wp_walk using AutoSeq1.wpAny_loadPart' hl, wpAny_pyIter_tuple T; exact ⟨_, rfl, fin⟩)
  · wp_walk using AutoSeq1.wpAny_loadPart' hl, wpAny_pyIter_tuple T
    exact ⟨_, rfl, fin⟩
theorem call_enumT {prog : Program} {w : World} {A : Around} {E : Value → Shared → Prop} {s : Shared} {l : Addr} {its : Array Value} {Q : Value → Shared → Prop} (T : s.heap.IsTuple l its)
    (k : ∀ h', IsEnum h' (s.heap.objs.size + 1) s.heap.objs.size 0 .none → h'.IsTupleIter s.heap.objs.size l 0 → (∀ b o, s.heap.get? b = some o → h'.get? b = some o) → Q (.ref (s.heap.objs.size + 1)) { s with heap := h' }) :
    wpAny (model prog w) A (call (.type "enumerate") [.ref l]) Q E s := by
  obtain ⟨⟨c, dct, dt, sl⟩, hl, hc, n, hd⟩ := T
  obtain rfl : c = .type "tuple" := hc
  obtain rfl : dt = .seq its n := hd
  refine callType_new F.called_enumerate (by decide) (F.typeCall_enumerate_1 _) (F.newCall_enumerate_1 _) (fun obj => F.args_object_init_2 obj _) F.entry_enumerate_new (new_enumT l its n dct sl) ⟨hl, ?_⟩
  have z : (s.heap.push { cls := .type "tuple_iterator", data := .fields #[.ref l, .int 0 0] }).objs.size = s.heap.objs.size + 1 := Heap.size_push ..
  show _ ∧ _
  rw [z]
  have en : IsEnum ((s.heap.push { cls := .type "tuple_iterator", data := .fields #[.ref l, .int 0 0] }).push { cls := .type "enumerate", data := .fields #[.none, .bool false, .ref s.heap.objs.size, rawInt 0, .none, .none] })
      (s.heap.objs.size + 1) s.heap.objs.size 0 .none := by
    have g := Heap.get?_push_size (s.heap.push { cls := .type "tuple_iterator", data := .fields #[.ref l, .int 0 0] }) (o := { cls := .type "enumerate", data := .fields #[.none, .bool false, .ref s.heap.objs.size, rawInt 0, .none, .none] }) rfl
    rw [z] at g
    exact g
  exact ⟨⟨_, en, rfl⟩, k _ en ⟨_, Heap.get?_push_of_some _ (Heap.get?_push_size _ rfl), rfl, rfl⟩ fun b o x => Heap.get?_push_of_some _ (Heap.get?_push_of_some _ x)⟩
end EnT
/-- the tuple at a, each item in a new pair with its place -/
def IteT (K : PySem.W.Frag) (a : Addr) : It := {
  go := fun i H => ∃ (xs : List V) (x : V), SqT K H a xs ∧ xs[i]? = some x
  yld := fun i H v H' => ∃ T x, v = .ref T ∧ H T = none ∧ H' = upd H T (.tup [.int (i : Nat), x]) ∧ ∀ xs, SqT K H a xs → xs[i]? = some x
  stop := fun i H => ∃ xs : List V, SqT K H a xs ∧ xs.length ≤ i }
theorem turn_enumT {P : Program} {w : World} {K : PySem.W.Frag} {elts : List Expr} {kk : Nat} {tpos : Pos} (a e it : Addr) :
    Turn P w K (.Tuple elts kk tpos) (IteT K a) [e, it] e (fun i h => (∃ old, IsEnum h e it ((i : Nat) : Int) old) ∧ h.IsTupleIter it a i ∧ e ≠ it) := {
  mem := by simp
  obj := fun i h st b hb => by
    obtain ⟨⟨old, he⟩, ⟨o, ho, hc, hd⟩, _⟩ := st
    have hb : b = e ∨ b = it := by simpa using hb
    rcases hb with rfl | rfl
    · exact ⟨_, he, fun v q => by cases q⟩
    · exact ⟨o, ho, fun v q => by rw [hd] at q; cases q⟩
  keep := fun i h h' st k => by
    obtain ⟨⟨old, he⟩, ⟨o, ho, r⟩, ne⟩ := st
    exact ⟨⟨old, k e (by simp) _ he⟩, ⟨o, k it (by simp) o ho, r⟩, ne⟩
  item := by
    intro X hP hw hK hc i pins s σ H E I hf st hg
    subst hP hw hK
    obtain ⟨⟨old, he⟩, hit, ne⟩ := st
    obtain ⟨xs, x, hq, hx⟩ := hg
    obtain ⟨its, rv, p, hz⟩ := I.tuple hq
    obtain ⟨u, hu, ru⟩ := rv.get hx
    have eT : ∀ {c : Addr} {o : Obj}, s.heap.get? c = some o → o.cls ≠ .type "tuple" → c ≠ a := fun {c} {o} h n z => by
      obtain ⟨o2, h2, c2, _⟩ := p
      rw [z, h2] at h
      cases h
      exact n c2
    have ea : e ≠ a := eT he (by simp)
    have ia : a ≠ it := by
      obtain ⟨o, ho, hc2, _⟩ := id hit
      exact (eT ho (by rw [hc2]; simp)).symm
    have le : e < s.heap.objs.size := Heap.lt_size he
    have li : it < s.heap.objs.size := by
      obtain ⟨_, ho, _⟩ := id hit
      exact Heap.lt_size ho
    have sz : i < its.toArray.size := by
      have := (List.getElem?_eq_some_iff.mp hu).1
      simpa using this
    have D := EnT.drawT (prog := X.prog) (w := X.w) (A := X.A.in1) (I.ok.hd hc) it a ia its.toArray
    refine wpAny_pyNext_enum_itemD D he (And.intro hit p) sz ne (by simp [ne, ea]) fun x2 h' tk hx2 ho st' hT hsz hk => ?_
    have eu : x2 = u := by
      have g : its[i]? = some x2 := by simpa using hx2
      rw [hu] at g
      exact (Option.some.inj g).symm
    subst eu
    refine ⟨_, rfl, wpAny_letOwnedTupleGo_enum (s := { s with heap := h', toks := tk + 1 }) ho fun h2 he2 sb => ?_⟩
    have hT2 : h2.get? s.heap.objs.size = some { cls := .type "tuple", data := .seq #[.int i tk, x2] } := by rw [sb.2 _ (Nat.ne_of_gt le)]; exact hT
    have fresh : ObjOk X.prog X.w (upd H s.heap.objs.size (.tup [.int (i : Nat), x])) h2 s.heap.objs.size (.tup [.int (i : Nat), x]) :=
      ⟨by show 2 ≤ sizeLine; decide, [.int i tk, x2], .cons ⟨_, rfl⟩ (.cons ru .nil), ⟨_, hT2, rfl, _, rfl⟩⟩
    have I1 : Inv X pins σ (upd H s.heap.objs.size (.tup [.int (i : Nat), x])) { s with heap := h2, toks := tk + 1 } := by
      refine I.turnedNew (ch := [e, it]) (fun b ob hb q => ?_) hf (Nat.le_refl _) fresh
      have n1 : b ≠ e := fun z => hb (by simp [z])
      have n2 : b ≠ it := fun z => hb (by simp [z])
      rw [sb.2 b n1]
      exact hk b ob n1 n2 q
    refine ⟨.ref s.heap.objs.size, _, I1, rfl, ⟨_, x, rfl, I.hok.fresh (Nat.le_refl _), rfl, fun ys hy => by rw [I.tuple_inj hy hq]; exact hx⟩, ⟨⟨x2, ?_⟩, ?_, ne⟩, fun b hb => ?_⟩
    · rw [show ((i + 1 : Nat) : Int) = (i : Int) + 1 by omega]
      exact he2
    · obtain ⟨o, ho2, r⟩ := st'.1
      exact ⟨o, by rw [sb.2 it (Ne.symm ne)]; exact ho2, r⟩
    · have hb2 : b = e ∨ b = it := by simpa using hb
      have lb : b < s.heap.objs.size := by rcases hb2 with rfl | rfl <;> assumption
      rw [upd_ne (Nat.ne_of_lt lb)]
      exact (hf b hb).1
  done := by
    intro X hP hw hK hc i pins s σ H E I hf st hg
    subst hP hw hK
    obtain ⟨⟨old, he⟩, hit, ne⟩ := st
    obtain ⟨xs, hq, hx⟩ := hg
    obtain ⟨its, rv, p, hz⟩ := I.tuple hq
    have ia : a ≠ it := fun z => by
      obtain ⟨o, ho, hc2, _⟩ := id hit
      obtain ⟨o2, h2, c2, _⟩ := id p
      rw [z, ho] at h2
      cases h2
      rw [hc2] at c2
      simp at c2
    obtain ⟨f0, f1, f2, f3, f4, f5⟩ := hf it (by simp)
    have hl := rv.length
    have hn : its.toArray.size ≤ i := by simp; omega
    -- the iterator stands at i, beyond the end
    have hT : s.TypeIs (.ref e) "enumerate" := ⟨_, he, rfl⟩
    unfold pyNext
    refine wpAny_bind (wpAny_attempt (wpAny_callSpecial?_slot (name := Str.ofString "__next__") hT F.slot_enumerate_next (wpAny_call_entry F.slot_enumerate_next hT F.entry_enumerate_next ?_ (F.args_enumerate_next_1 _))))
    show wpAny _ _ (field (.ref e) 2 >>= _) _ _ _
    refine wpAny_bind (wpAny_field he rfl (x := .ref it) rfl ?_)
    refine wpAny_bind (RZ.nextOf_tuple_end (I.ok.hd hc) hit p (by simpa using hn) fun h2 x k hx2 => ?_)
    obtain ⟨o, ho, hc2⟩ := hx2
    refine wpAny_bind (wpAny_isInstance (T := "StopIteration") (b := true) ⟨o, ho, hc2⟩ isSubtype_stop ?_)
    exact wpAny_pure ⟨rfl, I.turned (t' := s.toks) (fun b o hb q => k b o hb q) f0 f1 f3 f4 f5⟩
  self := fun A i s Q E st h => by
    obtain ⟨⟨_, he⟩, _⟩ := st
    exact wpAny_pyIter_enum he h }
def iEnumA (K : PySem.W.Frag) (ta : TA) : TI := fun σ H R => ta σ H fun vs H1 => ∃ a xs, vs = [.ref a] ∧ ((SqL K H1 a xs ∧ R (Ite K a) H1) ∨ (SqT K H1 a xs ∧ R (IteT K a) H1))
theorem pi_enumA {X : Cx} {e : Expr} {ta : TA} {p pos tpos : Pos} {elts : List Expr} {kk : Nat} (hg : Gl X "enumerate") (hm : X.mg "enumerate" = none) (ha : PA X [e] ta) (hs : starEach [e] X.env = [(false, eval e X.env)] := by rfl) :
    PI X (.Tuple elts kk tpos) (.Call (.Name "enumerate" p) [e] [] pos) (iEnumA X.K ta) := by
  refine ⟨fun pins s σ H R I h => ?_⟩
  refine Call_ (ld_blt I hg hm boot_enumerate (PyProof.Rows.callWith_type1 (thn (ha.run pos pins s σ H _ I h) fun us s1 ⟨vs, H1, I1, r1, q1⟩ => ?_) hs rfl))
  obtain ⟨a, xs, ex, q1⟩ := q1
  subst ex
  obtain ⟨u, rfl, ru⟩ := vals1 r1
  obtain rfl : u = Value.ref a := ru
  have two : ∀ b ∈ [s1.heap.objs.size + 1, s1.heap.objs.size], FpOk X pins H1 b := fun b hb => by
    have hb : b = s1.heap.objs.size + 1 ∨ b = s1.heap.objs.size := by simpa using hb
    have le : s1.heap.objs.size ≤ b := by omega
    exact I1.fpOk le (I1.hok.fresh le)
  rcases q1 with ⟨hq, q⟩ | ⟨hq, q⟩
  · obtain ⟨its, rv, p', hz⟩ := I1.list hq
    refine call_enumerate_list p'.isList fun h' he hit hsz hk => wpAny_pyIter_enum he ?_
    exact ⟨s1.heap.objs.size + 1, _, _, _, H1, rfl, I1.kept (t' := s1.toks) hk, turn_enum a (s1.heap.objs.size + 1) s1.heap.objs.size, ⟨⟨.none, he⟩, hit, Nat.succ_ne_self _⟩, two, q⟩
  · obtain ⟨its, rv, p', hz⟩ := I1.tuple hq
    refine EnT.call_enumT p' fun h' he hit hk => wpAny_pyIter_enum he ?_
    exact ⟨s1.heap.objs.size + 1, _, _, _, H1, rfl, I1.kept (t' := s1.toks) hk, turn_enumT a (s1.heap.objs.size + 1) s1.heap.objs.size, ⟨⟨.none, he⟩, hit, Nat.succ_ne_self _⟩, two, q⟩
theorem walk_enumT {K : PySem.W.Frag} {a : Addr} {xs : List V} : Walk (IteT K a) xs.length (fun H => SqT K H a xs) (YPair (fun i => some (.int (i : Nat))) (fun i => xs[i]?)) := by
  refine ⟨fun i _ hi q => ⟨xs, xs[i], q, by simp [hi]⟩, fun _ q => ⟨xs, q, Nat.le_refl _⟩, fun i H v H' _ q y => ?_⟩
  obtain ⟨T, x, e1, e2, e3, e4⟩ := y
  exact ⟨T, .int (i : Nat), x, e1, e2, e3, rfl, e4 xs q⟩

/-! ### the walk by first words, as a list: each state with its last step -/
abbrev Ent := List (Int × Option (Int × Nat))
def addE (F : Ent) (s : Int) (k : Nat) (t : Int) : Ent := if t ∈ F.map Prod.fst then F else F ++ [(t, some (s, k))]
def addsE (s : Int) : Ent → Nat → List Int → Ent
  | F, _, [] => F
  | F, k, t :: r => addsE s (addE F s k t) (k + 1) r
def rowOf (gs : List (List Int)) (s : Int) : List Int := gs.getD s.toNat []
def bfsE (gs : List (List Int)) (s0 : Int) : Nat → Ent
  | 0 => [(s0, none)]
  | d + 1 => match (bfsE gs s0 d)[d]? with
    | some e => addsE e.1 (bfsE gs s0 d) 0 (rowOf gs e.1)
    | none => bfsE gs s0 d
theorem addE_pre (F : Ent) (s : Int) (k : Nat) (t : Int) : ∃ r, addE F s k t = F ++ r := by
  unfold addE
  split
  · exact ⟨[], by simp⟩
  · exact ⟨_, rfl⟩
theorem addsE_pre (s : Int) : ∀ (r : List Int) (F : Ent) (k : Nat), ∃ x, addsE s F k r = F ++ x
  | [], F, _ => ⟨[], by simp [addsE]⟩
  | t :: r, F, k => by
    obtain ⟨x, hx⟩ := addE_pre F s k t
    obtain ⟨y, hy⟩ := addsE_pre s r (addE F s k t) (k + 1)
    exact ⟨x ++ y, by rw [addsE, hy, hx, List.append_assoc]⟩
theorem addsE_snoc (s : Int) : ∀ (r : List Int) (F : Ent) (k : Nat) (t : Int), addsE s F k (r ++ [t]) = addE (addsE s F k r) s (k + r.length) t
  | [], F, k, t => by simp [addsE]
  | a :: r, F, k, t => by
    show addsE s (addE F s k a) (k + 1) (r ++ [t]) = _
    rw [addsE_snoc s r, addsE, List.length_cons, Nat.add_assoc, Nat.add_comm 1]
theorem bfsE_pre (gs : List (List Int)) (s0 : Int) (d : Nat) : ∃ x, bfsE gs s0 (d + 1) = bfsE gs s0 d ++ x := by
  show ∃ x, (match (bfsE gs s0 d)[d]? with | some e => addsE e.1 (bfsE gs s0 d) 0 (rowOf gs e.1) | none => bfsE gs s0 d) = _
  cases h : (bfsE gs s0 d)[d]? with
  | none => exact ⟨[], by simp⟩
  | some e => exact addsE_pre _ _ _ _
theorem bfsE_more (gs : List (List Int)) (s0 : Int) (d : Nat) : ∀ j, ∃ x, bfsE gs s0 (d + j) = bfsE gs s0 d ++ x
  | 0 => ⟨[], by simp⟩
  | j + 1 => by
    obtain ⟨x, hx⟩ := bfsE_more gs s0 d j
    obtain ⟨y, hy⟩ := bfsE_pre gs s0 (d + j)
    exact ⟨x ++ y, by rw [show d + (j + 1) = d + j + 1 from rfl, hy, hx, List.append_assoc]⟩
/-- states below n, each once -/
def GoodE (n : Int) (F : Ent) : Prop := (F.map Prod.fst).Nodup ∧ ∀ e ∈ F, 0 ≤ e.1 ∧ e.1 < n
theorem GoodE.add {n : Int} {F : Ent} (h : GoodE n F) (s : Int) (k : Nat) {t : Int} (h0 : 0 ≤ t) (h1 : t < n) : GoodE n (addE F s k t) := by
  unfold addE
  split
  · exact h
  · rename_i hn
    refine ⟨?_, fun e he => ?_⟩
    · rw [List.map_append, List.nodup_append]
      refine ⟨h.1, by simp, fun x hx y hy => ?_⟩
      simp at hy
      rw [hy]
      intro e
      exact hn (e ▸ hx)
    · rcases List.mem_append.mp he with he | he
      · exact h.2 e he
      · rw [List.mem_singleton.mp he]
        exact ⟨h0, h1⟩
theorem GoodE.adds {n : Int} (s : Int) : ∀ (r : List Int) {F : Ent} (_ : GoodE n F) (k : Nat), (∀ t ∈ r, 0 ≤ t ∧ t < n) → GoodE n (addsE s F k r)
  | [], F, h, _, _ => h
  | t :: r, F, h, k, hr => by
    obtain ⟨a, b⟩ := hr t (List.mem_cons_self ..)
    exact GoodE.adds s r (h.add s k a b) (k + 1) fun x hx => hr x (List.mem_cons_of_mem _ hx)
theorem bfsE_good {gs : List (List Int)} {s0 : Int} (h0 : 0 ≤ s0) (h1 : s0 < gs.length) (hg : ∀ g ∈ gs, ∀ x ∈ g, 0 ≤ x ∧ x < gs.length) : ∀ d, GoodE gs.length (bfsE gs s0 d)
  | 0 => ⟨by simp [bfsE], fun e he => by
      simp [bfsE] at he
      rw [he]
      exact ⟨h0, h1⟩⟩
  | d + 1 => by
    have ih := bfsE_good h0 h1 hg d
    show GoodE gs.length (match (bfsE gs s0 d)[d]? with | some e => addsE e.1 (bfsE gs s0 d) 0 (rowOf gs e.1) | none => bfsE gs s0 d)
    cases h : (bfsE gs s0 d)[d]? with
    | none => exact ih
    | some e =>
      refine GoodE.adds _ _ ih 0 fun t ht => ?_
      unfold rowOf at ht
      rw [List.getD_eq_getElem?_getD] at ht
      cases hq : gs[e.1.toNat]? with
      | none => rw [hq] at ht; simp at ht
      | some g =>
        rw [hq] at ht
        exact hg g (List.mem_of_getElem? hq) t ht
theorem nat_few : ∀ (n : Nat) (l : List Nat), l.Nodup → (∀ x ∈ l, x < n) → l.length ≤ n
  | 0, l, _, h => by
    cases l with
    | nil => simp
    | cons a l => exact absurd (h a (List.mem_cons_self ..)) (Nat.not_lt_zero _)
  | n + 1, l, nd, h => by
    have ih := nat_few n (l.erase n) (nd.erase n) fun x hx => by
      have h1 := h x (List.mem_of_mem_erase hx)
      have h2 : x ≠ n := fun z => by
        rw [z] at hx
        exact (List.Nodup.not_mem_erase nd) hx
      omega
    by_cases hn : n ∈ l
    · rw [List.length_erase_of_mem hn] at ih
      omega
    · rw [List.erase_of_not_mem hn] at ih
      omega
theorem GoodE.few {n : Nat} {F : Ent} (h : GoodE n F) : F.length ≤ n := by
  have e := nat_few n ((F.map Prod.fst).map Int.toNat) (by
    rw [List.nodup_iff_pairwise_ne, List.pairwise_map]
    refine (List.nodup_iff_pairwise_ne.mp h.1).imp_of_mem fun {a b} ha hb ne z => ?_
    obtain ⟨x, hx, rfl⟩ := List.mem_map.mp ha
    obtain ⟨y, hy, rfl⟩ := List.mem_map.mp hb
    have h1 := h.2 x hx
    have h2 := h.2 y hy
    exact ne (by omega)) (fun x hx => by
    obtain ⟨y, hy, rfl⟩ := List.mem_map.mp hx
    obtain ⟨e, he, rfl⟩ := List.mem_map.mp hy
    have := h.2 e he
    omega)
  simpa using e
/-- the states of the row that stands at place d of the walk -/
theorem bfsE_at {gs : List (List Int)} {s0 : Int} {d : Nat} {e : Int × Option (Int × Nat)} (h : (bfsE gs s0 d)[d]? = some e) : bfsE gs s0 (d + 1) = addsE e.1 (bfsE gs s0 d) 0 (rowOf gs e.1) := by
  show (match (bfsE gs s0 d)[d]? with | some e => addsE e.1 (bfsE gs s0 d) 0 (rowOf gs e.1) | none => bfsE gs s0 d) = _
  rw [h]
/-! ### the dict of the last steps -/
def StepV (H : Hp) : Option (Int × Nat) → V → Prop
  | none, v => v = .non
  | some (s, k), v => ∃ p, v = .ref p ∧ H p = some (.tup [.int s, .int (k : Nat)])
theorem StepV.same {H H' : Hp} {o : Option (Int × Nat)} {v : V} (h : StepV H o v) (s : Same H H') : StepV H' o v := by
  match o, h with
  | none, h => exact h
  | some (a, k), ⟨p, e, hp⟩ => exact ⟨p, e, s _ _ hp⟩
def DictIs (H : Hp) (D : Addr) (F : Ent) : Prop := ∃ kvs : List (Key × V), H D = some (.dK kvs) ∧ kvs.length = F.length ∧ ∀ (i : Nat) (e : Int × Option (Int × Nat)), F[i]? = some e → ∃ v, kvs[i]? = some (.inl e.1, v) ∧ StepV H e.2 v
theorem dict_find {kvs : List (Key × V)} {F : Ent} (hl : kvs.length = F.length) (h : ∀ (i : Nat) (e : Int × Option (Int × Nat)), F[i]? = some e → ∃ v, kvs[i]? = some (Sum.inl e.1, v)) (t : Int) : (valV kvs (.inl t)).isSome = decide (t ∈ F.map Prod.fst) := by
  rw [Bool.eq_iff_iff]
  unfold valV
  rw [Option.isSome_map, List.find?_isSome]
  simp only [decide_eq_true_eq]
  constructor
  · rintro ⟨kv, hm, he⟩
    obtain ⟨i, hi, hk⟩ := List.mem_iff_getElem.mp hm
    have hi2 : i < F.length := by omega
    obtain ⟨v, hv⟩ := h i F[i] (List.getElem?_eq_getElem hi2)
    rw [List.getElem?_eq_getElem hi, hk] at hv
    have e := Option.some.inj hv
    rw [e] at he
    injection he with he
    exact List.mem_map.mpr ⟨F[i], List.getElem_mem hi2, he⟩
  · intro hm
    obtain ⟨e, he, rfl⟩ := List.mem_map.mp hm
    obtain ⟨i, hi, rfl⟩ := List.mem_iff_getElem.mp he
    obtain ⟨v, hv⟩ := h i F[i] (List.getElem?_eq_getElem hi)
    exact ⟨_, List.mem_of_getElem? hv, rfl⟩
theorem DictIs.get {H : Hp} {D : Addr} {F : Ent} (h : DictIs H D F) (t : Int) : ∃ kvs, H D = some (.dK kvs) ∧ kvs.length = F.length ∧ (valV kvs (Sum.inl t : Key)).isSome = decide (t ∈ F.map Prod.fst) := by
  obtain ⟨kvs, h1, h2, h3⟩ := h
  exact ⟨kvs, h1, h2, dict_find h2 (fun i e a => (h3 i e a).imp fun v h => h.1) t⟩
theorem DictIs.same {H H' : Hp} {D : Addr} {F : Ent} (h : DictIs H D F) (s : Same H H') : DictIs H' D F := by
  obtain ⟨kvs, h1, h2, h3⟩ := h
  exact ⟨kvs, s _ _ h1, h2, fun i e a => (h3 i e a).imp fun v h => ⟨h.1, h.2.same s⟩⟩
/-- a store into another object that is no tuple -/
theorem DictIs.put {H : Hp} {D f : Addr} {F : Ent} {xs : List V} {o : HO} (h : DictIs H D F) (hf : H f = some (.lst xs)) : DictIs (upd H f o) D F := by
  obtain ⟨kvs, h1, h2, h3⟩ := h
  have n : ∀ {c : Addr} {u : HO}, H c = some u → u ≠ .lst xs → c ≠ f := fun h ne z => ne (by rw [z, hf] at h; exact (Option.some.inj h).symm)
  refine ⟨kvs, by rw [upd_ne (n h1 (by intro z; cases z))]; exact h1, h2, fun i e a => ?_⟩
  obtain ⟨v, hv, sv⟩ := h3 i e a
  refine ⟨v, hv, ?_⟩
  match e.2, sv with
  | none, sv => exact sv
  | some (s, k), ⟨p, ep, hp⟩ => exact ⟨p, ep, by rw [upd_ne (n hp (by intro z; cases z))]; exact hp⟩
/-- a new state -/
theorem DictIs.add {H : Hp} {D p : Addr} {F : Ent} {s : Int} {k : Nat} {t : Int} (h : DictIs H D F) (hp : H p = some (.tup [.int s, .int (k : Nat)])) (ht : t ∉ F.map Prod.fst) :
    ∃ kvs, H D = some (.dK kvs) ∧ kvs.length = F.length ∧ DictIs (upd H D (.dK (putK kvs (Sum.inl t : Key) (.ref p)))) D (addE F s k t) := by
  obtain ⟨kvs, h1, h2, h3⟩ := h
  refine ⟨kvs, h1, h2, ?_⟩
  have hf := dict_find h2 (fun i e a => (h3 i e a).imp fun v h => h.1) t
  have e1 : putK kvs (Sum.inl t : Key) (V.ref p) = kvs ++ [(Sum.inl t, V.ref p)] := by
    unfold putK
    rw [if_neg]
    intro hany
    have : (valV kvs (Sum.inl t : Key)).isSome = true := by
      unfold valV
      rw [Option.isSome_map, List.find?_isSome]
      obtain ⟨kv, a, b⟩ := List.any_eq_true.mp hany
      exact ⟨kv, a, b⟩
    rw [hf, decide_eq_false ht] at this
    cases this
  have pD : ∀ {c : Addr} {xs : List V}, H c = some (.tup xs) → c ≠ D := fun hc z => by rw [z, h1] at hc; cases hc
  unfold addE
  rw [if_neg ht, e1]
  refine ⟨_, upd_same, by simp [h2], fun i e a => ?_⟩
  have up : ∀ {o : Option (Int × Nat)} {v : V}, StepV H o v → StepV (upd H D (.dK (kvs ++ [(Sum.inl t, V.ref p)]))) o v := by
    intro o v sv
    match o, sv with
    | none, sv => exact sv
    | some (a, b), ⟨q, eq, hq⟩ => exact ⟨q, eq, by rw [upd_ne (pD hq)]; exact hq⟩
  by_cases hi : i < F.length
  · rw [List.getElem?_append_left hi] at a
    obtain ⟨v, hv, sv⟩ := h3 i e a
    exact ⟨v, by rw [List.getElem?_append_left (by omega)]; exact hv, up sv⟩
  · have hi2 : i = F.length := by
      have := (List.getElem?_eq_some_iff.mp a).1
      simp at this
      omega
    subst hi2
    simp at a
    subst a
    refine ⟨.ref p, by rw [← h2]; simp, up ⟨p, rfl, hp⟩⟩

/-! ### the text -/
def top (i : Nat) : Stmt := PySem.Challenge.pw_onlyahead_k14_images_and_turns_of_words.main.body.getD i (.Pass ⟨0, 0, 0, 0⟩)
abbrev s_InvalidSet___init : Stmt := inClass (top 7) 0
abbrev N_InvalidSet___init : List Str := ["self", "given"]
theorem sc_InvalidSet___init : FnScope N_InvalidSet___init ["self", "given"] (defScope s_InvalidSet___init) := ⟨rfl, rfl, rfl, by decide +kernel, rfl, by decide +kernel, by decide +kernel⟩
abbrev s_InvalidState___init : Stmt := inClass (top 5) 0
abbrev N_InvalidState___init : List Str := ["self", "given"]
theorem sc_InvalidState___init : FnScope N_InvalidState___init ["self", "given"] (defScope s_InvalidState___init) := ⟨rfl, rfl, rfl, by decide +kernel, rfl, by decide +kernel, by decide +kernel⟩
abbrev s_InvalidWord___init : Stmt := inClass (top 4) 0
abbrev N_InvalidWord___init : List Str := ["self", "given"]
theorem sc_InvalidWord___init : FnScope N_InvalidWord___init ["self", "given"] (defScope s_InvalidWord___init) := ⟨rfl, rfl, rfl, by decide +kernel, rfl, by decide +kernel, by decide +kernel⟩
abbrev s_Machine___init : Stmt := inClass (top 46) 1
abbrev N_Machine___init : List Str := ["self", "alphabet", "rows", "start", "at", "row"]
theorem sc_Machine___init : FnScope N_Machine___init ["self", "alphabet", "rows", "start"] (defScope s_Machine___init) := ⟨rfl, rfl, rfl, by decide +kernel, rfl, by decide +kernel, by decide +kernel⟩
abbrev s_Machine_after : Stmt := inClass (top 46) 7
abbrev N_Machine_after : List Str := ["self", "word"]
theorem sc_Machine_after : FnScope N_Machine_after ["self", "word"] (defScope s_Machine_after) := ⟨rfl, rfl, rfl, by decide +kernel, rfl, by decide +kernel, by decide +kernel⟩
abbrev s_Machine_led : Stmt := inClass (top 46) 8
abbrev N_Machine_led : List Str := ["self", "state", "word"]
theorem sc_Machine_led : FnScope N_Machine_led ["self", "state", "word"] (defScope s_Machine_led) := ⟨rfl, rfl, rfl, by decide +kernel, rfl, by decide +kernel, by decide +kernel⟩
abbrev s_Machine_reachable : Stmt := inClass (top 46) 9
abbrev N_Machine_reachable : List Str := ["self"]
theorem sc_Machine_reachable : FnScope N_Machine_reachable ["self"] (defScope s_Machine_reachable) := ⟨rfl, rfl, rfl, by decide +kernel, rfl, by decide +kernel, by decide +kernel⟩
abbrev s_TooMany___init : Stmt := inClass (top 9) 0
abbrev N_TooMany___init : List Str := ["self", "subject", "most"]
theorem sc_TooMany___init : FnScope N_TooMany___init ["self", "subject", "most"] (defScope s_TooMany___init) := ⟨rfl, rfl, rfl, by decide +kernel, rfl, by decide +kernel, by decide +kernel⟩
abbrev s_all_got : Stmt := top 54
abbrev N_all_got : List Str := ["_law_asks", "_law_ask"]
theorem sc_all_got : FnScope N_all_got ["_law_asks"] (defScope s_all_got) := ⟨rfl, rfl, rfl, by decide +kernel, rfl, by decide +kernel, by decide +kernel⟩
abbrev s_bag : Stmt := top 48
abbrev N_bag : List Str := ["_law_script", "_law_mixed", "_law_cell"]
theorem sc_bag : FnScope N_bag ["_law_script"] (defScope s_bag) := ⟨rfl, rfl, rfl, by decide +kernel, rfl, by decide +kernel, by decide +kernel⟩
abbrev s_field : Stmt := top 52
abbrev N_field : List Str := ["_law_e"]
theorem sc_field : FnScope N_field ["_law_e"] (defScope s_field) := ⟨rfl, rfl, rfl, by decide +kernel, rfl, by decide +kernel, by decide +kernel⟩
abbrev s_go : Stmt := top 58
abbrev N_go : List Str := ["_law_goals_here", "_law_signs_here", "_law_at", "_law_text_here", "_law_sign"]
theorem sc_go : FnScope N_go ["_law_goals_here", "_law_signs_here", "_law_at", "_law_text_here"] (defScope s_go) := ⟨rfl, rfl, rfl, by decide +kernel, rfl, by decide +kernel, by decide +kernel⟩
abbrev s_goals : Stmt := top 57
abbrev N_goals : List Str := ["_law_bag_here", "_law_many", "_law_width", "_law_at", "_law_k"]
theorem sc_goals : FnScope N_goals ["_law_bag_here", "_law_many", "_law_width"] (defScope s_goals) := ⟨rfl, rfl, rfl, by decide +kernel, rfl, by decide +kernel, by decide +kernel⟩
abbrev s_got : Stmt := top 53
abbrev N_got : List Str := ["_law_ask", "_law_said", "_law_e"]
theorem sc_got : FnScope N_got ["_law_ask"] (defScope s_got) := ⟨rfl, rfl, rfl, by decide +kernel, rfl, by decide +kernel, by decide +kernel⟩
abbrev s_of : Stmt := top 50
abbrev N_of : List Str := ["_law_bag_here", "_law_some"]
theorem sc_of : FnScope N_of ["_law_bag_here", "_law_some"] (defScope s_of) := ⟨rfl, rfl, rfl, by decide +kernel, rfl, by decide +kernel, by decide +kernel⟩
abbrev s_pull : Stmt := top 49
abbrev N_pull : List Str := ["_law_bag_here", "_law_sides", "_law_cell", "_law_digit", "_law_twice"]
theorem sc_pull : FnScope N_pull ["_law_bag_here", "_law_sides"] (defScope s_pull) := ⟨rfl, rfl, rfl, by decide +kernel, rfl, by decide +kernel, by decide +kernel⟩
abbrev s_reach : Stmt := top 59
abbrev N_reach : List Str := ["_law_goals_here", "_law_signs_here", "_law_at", "_law_found", "_law_done", "_law_here", "_law_text_here", "_law_k", "_law_one", "_law_late"]
theorem sc_reach : FnScope N_reach ["_law_goals_here", "_law_signs_here", "_law_at"] (defScope s_reach) := ⟨rfl, rfl, rfl, by decide +kernel, rfl, by decide +kernel, by decide +kernel⟩
abbrev s_same : Stmt := top 51
abbrev N_same : List Str := ["_law_found", "_law_due", "_law_a", "_law_b"]
theorem sc_same : FnScope N_same ["_law_found", "_law_due"] (defScope s_same) := ⟨rfl, rfl, rfl, by decide +kernel, rfl, by decide +kernel, by decide +kernel⟩
abbrev s_signs : Stmt := top 55
abbrev N_signs : List Str := ["_law_bag_here", "_law_many", "_law_found", "_law_k", "_law_rest", "_law_sign"]
theorem sc_signs : FnScope N_signs ["_law_bag_here"] (defScope s_signs) := ⟨rfl, rfl, rfl, by decide +kernel, rfl, by decide +kernel, by decide +kernel⟩
abbrev s_text : Stmt := top 56
abbrev N_text : List Str := ["_law_bag_here", "_law_signs_here", "_law_size", "_law_k"]
theorem sc_text : FnScope N_text ["_law_bag_here", "_law_signs_here", "_law_size"] (defScope s_text) := ⟨rfl, rfl, rfl, by decide +kernel, rfl, by decide +kernel, by decide +kernel⟩
abbrev s_ends_of : Stmt := top 21
abbrev N_ends_of : List Str := ["machine", "states", "word", "state"]
theorem sc_ends_of : FnScope N_ends_of ["machine", "states", "word"] (defScope s_ends_of) := ⟨rfl, rfl, rfl, by decide +kernel, rfl, by decide +kernel, by decide +kernel⟩
abbrev s_few_reachable : Stmt := top 20
abbrev N_few_reachable : List Str := ["machine", "states"]
theorem sc_few_reachable : FnScope N_few_reachable ["machine"] (defScope s_few_reachable) := ⟨rfl, rfl, rfl, by decide +kernel, rfl, by decide +kernel, by decide +kernel⟩
abbrev s_first_steps : Stmt := top 26
abbrev N_first_steps : List Str := ["rows", "start", "steps", "level", "fresh", "state", "at", "target"]
theorem sc_first_steps : FnScope N_first_steps ["rows", "start"] (defScope s_first_steps) := ⟨rfl, rfl, rfl, by decide +kernel, rfl, by decide +kernel, by decide +kernel⟩
abbrev s_image : Stmt := top 22
abbrev N_image : List Str := ["machine", "states", "word"]
theorem sc_image : FnScope N_image ["machine", "states", "word"] (defScope s_image) := ⟨rfl, rfl, rfl, by decide +kernel, rfl, by decide +kernel, by decide +kernel⟩
abbrev s_is_alphabet : Stmt := top 29
abbrev N_is_alphabet : List Str := ["value", "at", "sign"]
theorem sc_is_alphabet : FnScope N_is_alphabet ["value"] (defScope s_is_alphabet) := ⟨rfl, rfl, rfl, by decide +kernel, rfl, by decide +kernel, by decide +kernel⟩
abbrev s_is_below : Stmt := top 14
abbrev N_is_below : List Str := ["value", "bound"]
theorem sc_is_below : FnScope N_is_below ["value", "bound"] (defScope s_is_below) := ⟨rfl, rfl, rfl, by decide +kernel, rfl, by decide +kernel, by decide +kernel⟩
abbrev s_is_listed : Stmt := top 15
abbrev N_is_listed : List Str := ["value"]
theorem sc_is_listed : FnScope N_is_listed ["value"] (defScope s_is_listed) := ⟨rfl, rfl, rfl, by decide +kernel, rfl, by decide +kernel, by decide +kernel⟩
abbrev s_is_number : Stmt := top 13
abbrev N_is_number : List Str := ["value"]
theorem sc_is_number : FnScope N_is_number ["value"] (defScope s_is_number) := ⟨rfl, rfl, rfl, by decide +kernel, rfl, by decide +kernel, by decide +kernel⟩
abbrev s_is_row : Stmt := top 45
abbrev N_is_row : List Str := ["value", "letters", "states", "item"]
theorem sc_is_row : FnScope N_is_row ["value", "letters", "states"] (defScope s_is_row) := ⟨rfl, rfl, rfl, by decide +kernel, rfl, by decide +kernel, by decide +kernel⟩
abbrev s_is_set_of : Stmt := top 17
abbrev N_is_set_of : List Str := ["value", "states", "at", "item"]
theorem sc_is_set_of : FnScope N_is_set_of ["value", "states"] (defScope s_is_set_of) := ⟨rfl, rfl, rfl, by decide +kernel, rfl, by decide +kernel, by decide +kernel⟩
abbrev s_is_word : Stmt := top 30
abbrev N_is_word : List Str := ["alphabet", "value", "sign"]
theorem sc_is_word : FnScope N_is_word ["alphabet", "value"] (defScope s_is_word) := ⟨rfl, rfl, rfl, by decide +kernel, rfl, by decide +kernel, by decide +kernel⟩
abbrev s_law : Stmt := top 60
abbrev N_law : List Str := ["_law_script", "_law_bag_here", "_law_turn_z", "_law_signs_here", "_law_many", "_law_goals_here", "_law_begin", "_law_made", "_law_some", "_law_some_set", "_law_text_here", "_law_led", "_law_due", "_law_asks", "_law_wide", "_law_others", "_law_odd", "_law_strange", "_law_at", "_law_one"]
theorem sc_law : FnScope N_law ["_law_script"] (defScope s_law) := ⟨rfl, rfl, rfl, by decide +kernel, rfl, by decide +kernel, by decide +kernel⟩
abbrev s_led_by : Stmt := top 25
abbrev N_led_by : List Str := ["rows", "alphabet", "state", "word", "letter"]
theorem sc_led_by : FnScope N_led_by ["rows", "alphabet", "state", "word"] (defScope s_led_by) := ⟨rfl, rfl, rfl, by decide +kernel, rfl, by decide +kernel, by decide +kernel⟩
abbrev s_turn : Stmt := top 23
abbrev N_turn : List Str := ["machine", "states", "word", "ends"]
theorem sc_turn : FnScope N_turn ["machine", "states", "word"] (defScope s_turn) := ⟨rfl, rfl, rfl, by decide +kernel, rfl, by decide +kernel, by decide +kernel⟩
/-! ### what the top holds -/
structure Env (K : PySem.W.Frag) (mg : Str → Option Value) where
  C_AheadError : Addr
  gC_AheadError : mg "AheadError" = some (.ref C_AheadError)
  C_Missing : Addr
  gC_Missing : mg "Missing" = some (.ref C_Missing)
  C_NothingLeft : Addr
  gC_NothingLeft : mg "NothingLeft" = some (.ref C_NothingLeft)
  C_InvalidSet : Addr
  gC_InvalidSet : mg "InvalidSet" = some (.ref C_InvalidSet)
  x_InvalidSet : OexC K C_InvalidSet
  y_InvalidSet : XfC K C_InvalidSet
  n_InvalidSet_given : PySem.W.findIn K (.ref C_InvalidSet) "given" = some none
  n_InvalidSet_code : PySem.W.findIn K (.ref C_InvalidSet) "code" = some none
  C_InvalidState : Addr
  gC_InvalidState : mg "InvalidState" = some (.ref C_InvalidState)
  x_InvalidState : OexC K C_InvalidState
  y_InvalidState : XfC K C_InvalidState
  n_InvalidState_given : PySem.W.findIn K (.ref C_InvalidState) "given" = some none
  n_InvalidState_code : PySem.W.findIn K (.ref C_InvalidState) "code" = some none
  C_InvalidWord : Addr
  gC_InvalidWord : mg "InvalidWord" = some (.ref C_InvalidWord)
  x_InvalidWord : OexC K C_InvalidWord
  y_InvalidWord : XfC K C_InvalidWord
  n_InvalidWord_given : PySem.W.findIn K (.ref C_InvalidWord) "given" = some none
  n_InvalidWord_code : PySem.W.findIn K (.ref C_InvalidWord) "code" = some none
  C_Machine : Addr
  gC_Machine : mg "Machine" = some (.ref C_Machine)
  cl_Machine : Cls K C_Machine
  n_Machine__alphabet : NoAttr K C_Machine "_alphabet"
  n_Machine__rows : NoAttr K C_Machine "_rows"
  n_Machine__start : NoAttr K C_Machine "_start"
  n_Machine__accepts : NoAttr K C_Machine "_accepts"
  u_Machine_MOST : Value
  o_Machine_MOST : Con K C_Machine "MOST" (.int 1000) u_Machine_MOST
  C_TooMany : Addr
  gC_TooMany : mg "TooMany" = some (.ref C_TooMany)
  x_TooMany : OexC K C_TooMany
  y_TooMany : XfC K C_TooMany
  n_TooMany_subject : PySem.W.findIn K (.ref C_TooMany) "subject" = some none
  n_TooMany_most : PySem.W.findIn K (.ref C_TooMany) "most" = some none
  n_TooMany_code : PySem.W.findIn K (.ref C_TooMany) "code" = some none
  e_InvalidSet : PySem.W.exmAny K (.ref C_InvalidSet) [.ref C_AheadError, .ref C_Missing, .ref C_NothingLeft] = some true
  e_InvalidState : PySem.W.exmAny K (.ref C_InvalidState) [.ref C_AheadError, .ref C_Missing, .ref C_NothingLeft] = some true
  e_InvalidWord : PySem.W.exmAny K (.ref C_InvalidWord) [.ref C_AheadError, .ref C_Missing, .ref C_NothingLeft] = some true
  e_TooMany : PySem.W.exmAny K (.ref C_TooMany) [.ref C_AheadError, .ref C_Missing, .ref C_NothingLeft] = some true
  f_InvalidSet___init : Addr
  fd_InvalidSet___init : FuncData
  F_InvalidSet___init : Fun K "__init__" "InvalidSet.__init__" s_InvalidSet___init f_InvalidSet___init fd_InvalidSet___init
  b_InvalidSet___init : Binds K fd_InvalidSet___init ["self", "given"] []
  i_InvalidSet___init : PySem.W.findIn K (.ref C_InvalidSet) "__init__" = some (some (.ref f_InvalidSet___init))
  t_InvalidSet___init : PySem.W.typeIn K (.ref f_InvalidSet___init) = some (.type "function")
  f_InvalidState___init : Addr
  fd_InvalidState___init : FuncData
  F_InvalidState___init : Fun K "__init__" "InvalidState.__init__" s_InvalidState___init f_InvalidState___init fd_InvalidState___init
  b_InvalidState___init : Binds K fd_InvalidState___init ["self", "given"] []
  i_InvalidState___init : PySem.W.findIn K (.ref C_InvalidState) "__init__" = some (some (.ref f_InvalidState___init))
  t_InvalidState___init : PySem.W.typeIn K (.ref f_InvalidState___init) = some (.type "function")
  f_InvalidWord___init : Addr
  fd_InvalidWord___init : FuncData
  F_InvalidWord___init : Fun K "__init__" "InvalidWord.__init__" s_InvalidWord___init f_InvalidWord___init fd_InvalidWord___init
  b_InvalidWord___init : Binds K fd_InvalidWord___init ["self", "given"] []
  i_InvalidWord___init : PySem.W.findIn K (.ref C_InvalidWord) "__init__" = some (some (.ref f_InvalidWord___init))
  t_InvalidWord___init : PySem.W.typeIn K (.ref f_InvalidWord___init) = some (.type "function")
  f_Machine___init : Addr
  fd_Machine___init : FuncData
  F_Machine___init : Fun K "__init__" "Machine.__init__" s_Machine___init f_Machine___init fd_Machine___init
  b_Machine___init : KBn K fd_Machine___init ["self", "alphabet", "rows", "start"] 3 ["start"] (fun us ws => us ++ ws) (fun vs zs => vs ++ zs)
  k_Machine___init : Mk K C_Machine f_Machine___init
  f_Machine_after : Addr
  fd_Machine_after : FuncData
  F_Machine_after : Fun K "after" "Machine.after" s_Machine_after f_Machine_after fd_Machine_after
  b_Machine_after : Binds K fd_Machine_after ["self", "word"] []
  m_Machine_after : Meth K C_Machine "after" f_Machine_after
  f_Machine_led : Addr
  fd_Machine_led : FuncData
  F_Machine_led : Fun K "led" "Machine.led" s_Machine_led f_Machine_led fd_Machine_led
  b_Machine_led : Binds K fd_Machine_led ["self", "state", "word"] []
  m_Machine_led : Meth K C_Machine "led" f_Machine_led
  f_Machine_reachable : Addr
  fd_Machine_reachable : FuncData
  F_Machine_reachable : Fun K "reachable" "Machine.reachable" s_Machine_reachable f_Machine_reachable fd_Machine_reachable
  b_Machine_reachable : Binds K fd_Machine_reachable ["self"] []
  m_Machine_reachable : Meth K C_Machine "reachable" f_Machine_reachable
  f_TooMany___init : Addr
  fd_TooMany___init : FuncData
  F_TooMany___init : Fun K "__init__" "TooMany.__init__" s_TooMany___init f_TooMany___init fd_TooMany___init
  b_TooMany___init : Binds K fd_TooMany___init ["self", "subject", "most"] []
  i_TooMany___init : PySem.W.findIn K (.ref C_TooMany) "__init__" = some (some (.ref f_TooMany___init))
  t_TooMany___init : PySem.W.typeIn K (.ref f_TooMany___init) = some (.type "function")
  f_all_got : Addr
  fd_all_got : FuncData
  F_all_got : Fun K "_law_all_got" "_law_all_got" s_all_got f_all_got fd_all_got
  b_all_got : Binds K fd_all_got ["_law_asks"] []
  g_all_got : mg "_law_all_got" = some (.ref f_all_got)
  f_bag : Addr
  fd_bag : FuncData
  F_bag : Fun K "_law_bag" "_law_bag" s_bag f_bag fd_bag
  b_bag : Binds K fd_bag ["_law_script"] []
  g_bag : mg "_law_bag" = some (.ref f_bag)
  f_field : Addr
  fd_field : FuncData
  F_field : Fun K "_law_field" "_law_field" s_field f_field fd_field
  b_field : Binds K fd_field ["_law_e"] []
  g_field : mg "_law_field" = some (.ref f_field)
  f_go : Addr
  fd_go : FuncData
  F_go : Fun K "_law_go" "_law_go" s_go f_go fd_go
  b_go : Binds K fd_go ["_law_goals_here", "_law_signs_here", "_law_at", "_law_text_here"] []
  g_go : mg "_law_go" = some (.ref f_go)
  f_goals : Addr
  fd_goals : FuncData
  F_goals : Fun K "_law_goals" "_law_goals" s_goals f_goals fd_goals
  b_goals : Binds K fd_goals ["_law_bag_here", "_law_many", "_law_width"] []
  g_goals : mg "_law_goals" = some (.ref f_goals)
  f_got : Addr
  fd_got : FuncData
  F_got : Fun K "_law_got" "_law_got" s_got f_got fd_got
  b_got : Binds K fd_got ["_law_ask"] []
  g_got : mg "_law_got" = some (.ref f_got)
  f_of : Addr
  fd_of : FuncData
  F_of : Fun K "_law_of" "_law_of" s_of f_of fd_of
  b_of : Binds K fd_of ["_law_bag_here", "_law_some"] []
  g_of : mg "_law_of" = some (.ref f_of)
  f_pull : Addr
  fd_pull : FuncData
  F_pull : Fun K "_law_pull" "_law_pull" s_pull f_pull fd_pull
  b_pull : Binds K fd_pull ["_law_bag_here", "_law_sides"] []
  g_pull : mg "_law_pull" = some (.ref f_pull)
  f_reach : Addr
  fd_reach : FuncData
  F_reach : Fun K "_law_reach" "_law_reach" s_reach f_reach fd_reach
  b_reach : Binds K fd_reach ["_law_goals_here", "_law_signs_here", "_law_at"] []
  g_reach : mg "_law_reach" = some (.ref f_reach)
  f_same : Addr
  fd_same : FuncData
  F_same : Fun K "_law_same" "_law_same" s_same f_same fd_same
  b_same : Binds K fd_same ["_law_found", "_law_due"] []
  g_same : mg "_law_same" = some (.ref f_same)
  f_signs : Addr
  fd_signs : FuncData
  F_signs : Fun K "_law_signs" "_law_signs" s_signs f_signs fd_signs
  b_signs : Binds K fd_signs ["_law_bag_here"] []
  g_signs : mg "_law_signs" = some (.ref f_signs)
  f_text : Addr
  fd_text : FuncData
  F_text : Fun K "_law_text" "_law_text" s_text f_text fd_text
  b_text : Binds K fd_text ["_law_bag_here", "_law_signs_here", "_law_size"] []
  g_text : mg "_law_text" = some (.ref f_text)
  f_ends_of : Addr
  fd_ends_of : FuncData
  F_ends_of : Fun K "ends_of" "ends_of" s_ends_of f_ends_of fd_ends_of
  b_ends_of : Binds K fd_ends_of ["machine", "states", "word"] []
  g_ends_of : mg "ends_of" = some (.ref f_ends_of)
  f_few_reachable : Addr
  fd_few_reachable : FuncData
  F_few_reachable : Fun K "few_reachable" "few_reachable" s_few_reachable f_few_reachable fd_few_reachable
  b_few_reachable : Binds K fd_few_reachable ["machine"] []
  g_few_reachable : mg "few_reachable" = some (.ref f_few_reachable)
  f_first_steps : Addr
  fd_first_steps : FuncData
  F_first_steps : Fun K "first_steps" "first_steps" s_first_steps f_first_steps fd_first_steps
  b_first_steps : Binds K fd_first_steps ["rows", "start"] []
  g_first_steps : mg "first_steps" = some (.ref f_first_steps)
  f_image : Addr
  fd_image : FuncData
  F_image : Fun K "image" "image" s_image f_image fd_image
  b_image : Binds K fd_image ["machine", "states", "word"] []
  g_image : mg "image" = some (.ref f_image)
  f_is_alphabet : Addr
  fd_is_alphabet : FuncData
  F_is_alphabet : Fun K "is_alphabet" "is_alphabet" s_is_alphabet f_is_alphabet fd_is_alphabet
  b_is_alphabet : Binds K fd_is_alphabet ["value"] []
  g_is_alphabet : mg "is_alphabet" = some (.ref f_is_alphabet)
  f_is_below : Addr
  fd_is_below : FuncData
  F_is_below : Fun K "is_below" "is_below" s_is_below f_is_below fd_is_below
  b_is_below : Binds K fd_is_below ["value", "bound"] []
  g_is_below : mg "is_below" = some (.ref f_is_below)
  f_is_listed : Addr
  fd_is_listed : FuncData
  F_is_listed : Fun K "is_listed" "is_listed" s_is_listed f_is_listed fd_is_listed
  b_is_listed : Binds K fd_is_listed ["value"] []
  g_is_listed : mg "is_listed" = some (.ref f_is_listed)
  f_is_number : Addr
  fd_is_number : FuncData
  F_is_number : Fun K "is_number" "is_number" s_is_number f_is_number fd_is_number
  b_is_number : Binds K fd_is_number ["value"] []
  g_is_number : mg "is_number" = some (.ref f_is_number)
  f_is_row : Addr
  fd_is_row : FuncData
  F_is_row : Fun K "is_row" "is_row" s_is_row f_is_row fd_is_row
  b_is_row : Binds K fd_is_row ["value", "letters", "states"] []
  g_is_row : mg "is_row" = some (.ref f_is_row)
  f_is_set_of : Addr
  fd_is_set_of : FuncData
  F_is_set_of : Fun K "is_set_of" "is_set_of" s_is_set_of f_is_set_of fd_is_set_of
  b_is_set_of : Binds K fd_is_set_of ["value", "states"] []
  g_is_set_of : mg "is_set_of" = some (.ref f_is_set_of)
  f_is_word : Addr
  fd_is_word : FuncData
  F_is_word : Fun K "is_word" "is_word" s_is_word f_is_word fd_is_word
  b_is_word : Binds K fd_is_word ["alphabet", "value"] []
  g_is_word : mg "is_word" = some (.ref f_is_word)
  f_law : Addr
  fd_law : FuncData
  F_law : Fun K "law" "law" s_law f_law fd_law
  b_law : Binds K fd_law ["_law_script"] []
  g_law : mg "law" = some (.ref f_law)
  f_led_by : Addr
  fd_led_by : FuncData
  F_led_by : Fun K "led_by" "led_by" s_led_by f_led_by fd_led_by
  b_led_by : Binds K fd_led_by ["rows", "alphabet", "state", "word"] []
  g_led_by : mg "led_by" = some (.ref f_led_by)
  f_turn : Addr
  fd_turn : FuncData
  F_turn : Fun K "turn" "turn" s_turn f_turn fd_turn
  b_turn : Binds K fd_turn ["machine", "states", "word"] []
  g_turn : mg "turn" = some (.ref f_turn)
  z_abs : mg "abs" = none
  z_all : mg "all" = none
  z_any : mg "any" = none
  z_bool : mg "bool" = none
  z_dict : mg "dict" = none
  z_enumerate : mg "enumerate" = none
  z_int : mg "int" = none
  z_isinstance : mg "isinstance" = none
  z_len : mg "len" = none
  z_list : mg "list" = none
  z_max : mg "max" = none
  z_min : mg "min" = none
  z_range : mg "range" = none
  z_repr : mg "repr" = none
  z_set : mg "set" = none
  z_sorted : mg "sorted" = none
  z_str : mg "str" = none
  z_tuple : mg "tuple" = none
  z_zip : mg "zip" = none
  t_MOST_LETTERS : Tok
  c_MOST_LETTERS : mg "MOST_LETTERS" = some (.int 4 t_MOST_LETTERS)
  t_MOST_STATES : Tok
  c_MOST_STATES : mg "MOST_STATES" = some (.int 6 t_MOST_STATES)

/-! ### the draws -/
def spBag (K : PySem.W.Frag) : Sp := fun vs H Q _ => ∃ (a : Addr) (ns : List Int), vs = [.ref a] ∧ SqL K H a (ns.map V.int) ∧ ns.length ≤ 63 ∧
  ∀ b l H', H b = none → H l = none → BagAt b l H' → Same H H' → Q (.ref b) H'
def spPull : Sp := fun vs H Q _ => ∃ (b l : Addr) (n : Int), vs = [.ref b, .int n] ∧ BagAt b l H ∧ 0 < n ∧ n < 1000000000 ∧
  ∀ k H', 0 ≤ k → k < n → BagAt b l H' → Kp b H H' → Q (.int k) H'
def spOf (K : PySem.W.Frag) : Sp := fun vs H Q _ => ∃ (b l : Addr) (x : V), vs = [.ref b, x] ∧ BagAt b l H ∧
  ((∃ p xs, x = .ref p ∧ p ≠ b ∧ (SqL K H p xs ∨ SqT K H p xs) ∧ xs ≠ [] ∧ xs.length ≤ 100000 ∧ ∀ v H', v ∈ xs → BagAt b l H' → Kp b H H' → Q v H') ∨
   (∃ z : Str, x = .str z ∧ z.length ≠ 0 ∧ z.length ≤ 100000 ∧ ∀ c H', c ∈ z.cps.toList → BagAt b l H' → Kp b H H' → Q (.str ⟨#[c]⟩) H'))
section
variable {P : Program} {w : World} {K : PySem.W.Frag} {mg : Str → Option Value} {base : Heap}
theorem modlt (a : Int) : 0 ≤ a % 2147483629 ∧ a % 2147483629 < 2147483629 := ⟨Int.emod_nonneg _ (by decide), Int.emod_lt_of_pos _ (by decide)⟩
theorem cut63 {xs : List V} (h : xs.length ≤ 63) : cutV xs none (some 63) = xs := by
  unfold cutV
  rw [show HT.sIx xs.length xs.length (some 63) = min 63 xs.length from HT.sIx_nat _ _ 63, HT.sIx_none, Nat.min_eq_right h]
  show xs.take (xs.length - 0) = xs
  exact List.take_length
theorem int_of {ns : List Int} {i : Nat} {y : V} (h : (ns.map V.int)[i]? = some y) : ∃ n, y = .int n := by
  rw [List.getElem?_map] at h
  cases e : ns[i]? with
  | none => rw [e] at h; cases h
  | some n => rw [e] at h; exact ⟨n, (Option.some.inj h).symm⟩
theorem ok_bag (T : Env K mg) : FnOk P w K mg base CX0 1 T.f_bag T.fd_bag ["_law_script"] (spBag K) := by
  refine T.F_bag.ok sc_bag (fun vs H Q E h => ?_) (fun cdv A outer s H vs Q E hr h => ⟨_, ((pss_cons (ps_set (i := 1) sc_bag.nd rfl (.inl rfl) pe_int)
      (pss_cons (ps_for PassesOwn.never rfl (pi_list (pe_slice sl_list (pv 0) po_none (po_some pe_int))) (pg_name (i := 2) sc_bag.nd rfl (.inl rfl))
      (pss_one (ps_set (i := 1) sc_bag.nd rfl (.inl rfl) (pe_op op_mod (pe_callTy call_int1 (by rfl) T.z_int (by decide +kernel) (pa_cons (pe_op op_add (pe_op op_add (pe_op op_mul (pv 1) pe_int) (pe_op op_mul (pe_op op_mod (pe_callTy call_int1 (by rfl) T.z_int (by decide +kernel) (pa_cons (pv 2) pa_nil)) pe_int) pe_int)) pe_int) pa_nil)) pe_int))))
      (pss_one (ps_ret (pe_lst (pa_cons (pe_callTy call_list_of (by rfl) T.z_list (by decide +kernel) (pa_cons (pe_slice sl_list (pv 0) po_none (po_some pe_int)) pa_nil)) (pa_cons pe_int (pa_cons pe_int (pa_cons (pv 1) (pa_cons pe_int pa_nil))))))))))), ?_⟩)
  · obtain ⟨a, ns, rfl, _⟩ := h
    rfl
  · obtain ⟨a, ns, rfl, hS, hlen, q⟩ := h
    have ec : cutV (ns.map V.int) none (some 63) = ns.map V.int := cut63 (by rw [List.length_map]; exact hlen)
    walk_at "ss"
    intro p hp
    rw [ec]
    have s1 : Same H (upd H p (.lst (ns.map V.int))) := same_upd hp
    refine ⟨_, rfl, ⟨_, SqL.of upd_same⟩, for_list (xs := ns.map V.int) (fun i σ H' => Stp (H' = upd H p (.lst (ns.map V.int)) ∧ ∃ (m : Int) (y : Option V), σ = [some (.ref a), some (.int m), y] ∧ 0 ≤ m ∧ m < 2147483629))
      (.mk ⟨rfl, 5632, none, rfl, by decide, by decide⟩) (fun i σ H' _ h => by rw [h.of.1]; exact SqL.of upd_same) ?_ ?_⟩
    · rintro i x σ H' hx hP
      obtain ⟨rfl, m, y, rfl, h0, h1⟩ := hP.of
      obtain ⟨n, rfl⟩ := int_of hx
      walk_at "ss"
      exact .mk ⟨rfl, _, _, rfl, (modlt _).1, (modlt _).2⟩
    · rintro σ H' hP
      obtain ⟨rfl, m, y, rfl, h0, h1⟩ := hP.of
      walk_at "ss"
      refine ⟨_, _, rfl, s1.seq hS, ?_⟩
      intro p2 hp2
      rw [ec]
      refine ⟨_, _, rfl, .inl (SqL.of upd_same), ?_⟩
      intro l hl
      walk_at "ss"
      intro b hb
      have s2 := s1.trans (same_upd (o := .lst (ns.map V.int)) hp2)
      have s3 := s2.trans (same_upd (o := .lst (ns.map V.int)) hl)
      have s4 := s3.trans (same_upd (o := .lst [V.ref l, V.int 0, V.int 0, V.int m, V.int 0]) hb)
      have nl : l ≠ b := (ne_none hb upd_same).symm
      exact q b l _ (s3.free hb) (s2.free hl) ⟨⟨0, 0, m, 0, ns, upd_same, by rw [upd_ne nl]; exact upd_same, hlen, by decide, by omega, by decide, h0, h1⟩, nl⟩ s4
theorem ok_pull (T : Env K mg) : FnOk P w K mg base CX0 1 T.f_pull T.fd_pull ["_law_bag_here", "_law_sides"] spPull := by
  refine T.F_pull.ok sc_pull (fun vs H Q E h => ?_) (fun cdv A outer s H vs Q E hr h => ⟨_, ((pss_cons (ps_asg (pe_op op_add (pe_ix ix_list (pv 0) pe_int (fun _ _ => rfl)) pe_int) (pg_sub (pv 0) pe_int set_list))
      (C8.pss_cut (ps_if (PW.pt (pw_and (pt_cmpR op_eq (pe_ix ix_list (pv 0) pe_int (fun _ _ => rfl)) pe_int (nomark _)) (pw_and1 (pt_cmpR op_lt (pe_ix ix_list (pv 0) pe_int (fun _ _ => rfl)) (pe_callB call_len_seq (by rfl) T.z_len (by decide +kernel) (pa_cons (pe_ix ix_list (pv 0) pe_int (fun _ _ => rfl)) pa_nil)) (nomark _)))))
      (pss_cons (ps_set (i := 2) sc_pull.nd rfl (.inl rfl) (pe_ix ix_list (pe_ix ix_list (pv 0) pe_int (fun _ _ => rfl)) (pe_ix ix_list (pv 0) pe_int (fun _ _ => rfl)) (fun _ _ => rfl)))
      (pss_cons (ps_asg (pe_op op_add (pe_ix ix_list (pv 0) pe_int (fun _ _ => rfl)) pe_int) (pg_sub (pv 0) pe_int set_list))
      (pss_one (ps_if (pt_cmpR op_ge (pe_callB call_abs (by rfl) T.z_abs (by decide +kernel) (pa_cons (pv 2) pa_nil)) (pe_op op_pow pe_int pe_int) (nomark _))
      (pss_one (ps_asg (pe_callB call_abs (by rfl) T.z_abs (by decide +kernel) (pa_cons (pv 2) pa_nil)) (pg_sub (pv 0) pe_int set_list)))
      (pss_one (ps_asg (pe_op op_mod (pe_callTy call_int1 (by rfl) T.z_int (by decide +kernel) (pa_cons (pe_op op_add (pe_op op_add (pe_op op_mul (pe_ix ix_list (pv 0) pe_int (fun _ _ => rfl)) pe_int) (pe_op op_mul (pe_op op_mod (pe_callTy call_int1 (by rfl) T.z_int (by decide +kernel) (pa_cons (pv 2) pa_nil)) pe_int) pe_int)) pe_int) pa_nil)) pe_int) (pg_sub (pv 0) pe_int set_list)))))))
      pss_nil)
      (pss_cons (ps_if (pt_cmpR op_gt (pe_ix ix_list (pv 0) pe_int (fun _ _ => rfl)) pe_int (nomark _))
      (pss_cons (ps_set (i := 3) sc_pull.nd rfl (.inl rfl) (pe_op op_mod (pe_callTy call_int1 (by rfl) T.z_int (by decide +kernel) (pa_cons (pe_ix ix_list (pv 0) pe_int (fun _ _ => rfl)) pa_nil)) (pv 1)))
      (pss_cons (ps_asg (pe_op op_fdiv (pe_ix ix_list (pv 0) pe_int (fun _ _ => rfl)) (pv 1)) (pg_sub (pv 0) pe_int set_list))
      (pss_one (ps_ret (pv 3)))))
      pss_nil)
      (pss_cons (ps_set (i := 4) sc_pull.nd rfl (.inl rfl) (pe_op op_mod (pe_callTy call_int1 (by rfl) T.z_int (by decide +kernel) (pa_cons (pe_op op_add (pe_op op_mul (pe_ix ix_list (pv 0) pe_int (fun _ _ => rfl)) (pe_ix ix_list (pv 0) pe_int (fun _ _ => rfl))) (pe_op op_mul (pe_ix ix_list (pv 0) pe_int (fun _ _ => rfl)) pe_int)) pa_nil)) pe_int))
      (pss_cons (ps_asg (pe_op op_mod (pe_callTy call_int1 (by rfl) T.z_int (by decide +kernel) (pa_cons (pe_op op_add (pe_op op_add (pe_op op_mul (pv 4) pe_int) (pe_op op_mul (pe_ix ix_list (pv 0) pe_int (fun _ _ => rfl)) pe_int)) pe_int) pa_nil)) pe_int) (pg_sub (pv 0) pe_int set_list))
      (pss_one (ps_ret (pe_op op_mod (pe_callTy call_int1 (by rfl) T.z_int (by decide +kernel) (pa_cons (pe_op op_fdiv (pe_ix ix_list (pv 0) pe_int (fun _ _ => rfl)) pe_int) pa_nil)) (pv 1)))))))))), ?_⟩)
  · obtain ⟨b, l, n, rfl, _⟩ := h
    rfl
  · obtain ⟨b, l, n, rfl, ⟨⟨i, r, m, c, ns, hb, hl, h63, i0, i1, r0, m0, m1⟩, nlb⟩, n0, n1, q⟩ := h
    walk_at "ss"
    refine ⟨fun σ' H' => Stp (∃ (i r m c : Int) (y2 : Option V), σ' = [some (.ref b), some (.int n), y2, none, none] ∧ H' b = some (.lst [.ref l, .int i, .int r, .int m, .int c]) ∧ H' l = some (.lst (ns.map V.int)) ∧
      0 ≤ i ∧ i ≤ ns.length ∧ 0 ≤ r ∧ 0 ≤ m ∧ m < 2147483629 ∧ Kp b H H'), ?_, fun σ' H' hM => ?_⟩
    · walk_at "ss"
      have hl1 : ∀ o, (upd H b o) l = some (.lst (ns.map V.int)) := fun o => by rw [upd_ne nlb]; exact hl
      have hl2 : ∀ o u, (upd (upd H b o) b u) l = some (.lst (ns.map V.int)) := fun o u => by rw [upd_ne nlb, upd_ne nlb]; exact hl
      have hl3 : ∀ o u v, (upd (upd (upd H b o) b u) b v) l = some (.lst (ns.map V.int)) := fun o u v => by rw [upd_ne nlb, upd_ne nlb, upd_ne nlb]; exact hl
      have k1 : ∀ o, Kp b H (upd H b o) := fun o => (Kp.refl b H).put
      refine ite2 (fun e => ?_) (fun e => ?_)
      · walk_at "ss"
        refine ⟨_, _, rfl, .inl (SqL.of (hl1 _)), ?_⟩
        walk_at "ss"
        refine ite2 (fun e2 => ?_) (fun e2 => ?_)
        · have e2 : i < (ns.map V.int).length := of_decide_eq_true e2
          obtain ⟨v, hv, hm⟩ := at_in i0 e2
          obtain ⟨z, -, rfl⟩ := List.mem_map.mp hm
          rw [List.length_map] at e2
          walk_at "ss"
          refine ⟨_, _, _, _, rfl, rfl, SqL.of (hl1 _), hv, ?_⟩
          walk_at "ss"
          refine ite2 (fun e3 => ?_) (fun e3 => ?_)
          · walk_at "ss"
            exact .mk ⟨i + 1, _, m, _, _, rfl, upd_same, hl3 _ _ _, by omega, by omega, by split <;> omega, m0, m1, (k1 _).put.put⟩
          · walk_at "ss"
            exact .mk ⟨i + 1, r, _, _, _, rfl, upd_same, hl3 _ _ _, by omega, by omega, r0, (modlt _).1, (modlt _).2, (k1 _).put.put⟩
        · exact .mk ⟨i, r, m, _, _, rfl, upd_same, hl1 _, i0, i1, r0, m0, m1, k1 _⟩
      · refine iteF ?_
        exact .mk ⟨i, r, m, _, _, rfl, upd_same, hl1 _, i0, i1, r0, m0, m1, k1 _⟩
    · obtain ⟨i, r, m, c, y2, rfl, hb, hl, i0, i1, r0, m0, m1, kp⟩ := hM.of
      walk_at "ss"
      refine ite2 (fun e => ?_) (fun e => ?_)
      · walk_at "ss"
        refine q _ _ (Int.emod_nonneg _ (by omega)) (Int.emod_lt_of_pos _ n0) ⟨⟨i, _, m, c, ns, upd_same, ?_, h63, i0, i1, ?_, m0, m1⟩, nlb⟩ kp.put
        · rw [upd_ne nlb]
          exact hl
        · exact Int.ediv_nonneg r0 (by omega)
      · walk_at "ss"
        refine q _ _ (Int.emod_nonneg _ (by omega)) (Int.emod_lt_of_pos _ n0) ⟨⟨i, r, _, c, ns, upd_same, ?_, h63, i0, i1, r0, (modlt _).1, (modlt _).2⟩, nlb⟩ kp.put
        rw [upd_ne nlb]
        exact hl
theorem ok_of (T : Env K mg) : FnOk P w K mg base CX0 2 T.f_of T.fd_of ["_law_bag_here", "_law_some"] (spOf K) := by
  refine T.F_of.ok sc_of (fun vs H Q E h => ?_) (fun cdv A outer s H vs Q E hr h => ⟨_, ((pss_one (ps_ret (pe_ix ix_seq (pv 1) (pe_call (ok_pull T) (hr.mono (by decide)) (by rfl) T.g_pull T.F_pull.kp T.b_pull .nil pass0 (pa_cons (pv 0) (pa_cons (pe_callB call_len (by rfl) T.z_len (by decide +kernel) (pa_cons (pv 1) pa_nil)) pa_nil))) (fun _ _ => rfl))))), ?_⟩)
  · obtain ⟨b, l, x, rfl, _⟩ := h
    rfl
  · obtain ⟨b, l, x, rfl, B, h⟩ := h
    rcases h with ⟨p, xs, rfl, np, hS, hne, hl, q⟩ | ⟨z, rfl, hne, hl, q⟩
    · have hx : 0 < xs.length := List.length_pos_iff.mpr hne
      walk_at "ss"
      refine ⟨_, xs.length, rfl, ?_, b, l, _, rfl, B, by omega, by omega, fun k H1 k0 k1 B1 kp1 => ?_⟩
      · rcases hS with hS | hS
        · exact .inl ⟨xs, hS, rfl⟩
        · exact .inr ⟨xs, hS, rfl⟩
      obtain ⟨v, hv, hm⟩ := at_in k0 k1
      rcases hS with hS | hS
      · exact .inl ⟨p, xs, k, v, rfl, rfl, kp1.seq np hS, hv, q v H1 hm B1 kp1⟩
      · exact .inr (.inl ⟨p, xs, k, v, rfl, rfl, kp1.tup np hS, hv, q v H1 hm B1 kp1⟩)
    · walk_at "ss"
      refine ⟨_, z.length, rfl, ⟨sz hl, rfl⟩, b, l, _, rfl, B, by omega, by omega, fun k H1 k0 k1 B1 kp1 => ?_⟩
      have e : z.cps.toList.length = z.length := by simp [Str.length]
      obtain ⟨c, hc, hm⟩ := at_inN (xs := z.cps.toList) k0 (by rw [e]; exact k1)
      exact .inr (.inr ⟨z, k, c, rfl, rfl, sz hl, hc, q c H1 hm B1 kp1⟩)
end

/-! ### alphabets and words -/
def Alpha (l : List Nat) : Prop := 1 ≤ l.length ∧ l.length ≤ 4 ∧ (∀ c ∈ l, 97 ≤ c ∧ c ≤ 122) ∧ l.Pairwise (· < ·)
instance (l : List Nat) : Decidable (Alpha l) := by
  unfold Alpha
  exact inferInstance
theorem lt1 (a b : Nat) : (([a] : List Nat) < [b]) ↔ a < b := by
  simp [List.cons_lt_cons_iff]
theorem asc_pair (l : List Nat) (h : l.length ≤ 4) : ((List.range (l.length - 1)).map fun i => decide (l.getD i 0 < l.getD (i + 1) 0)).all id = decide (l.Pairwise (· < ·)) := by
  rw [all_dec, Bool.eq_iff_iff]
  simp only [decide_eq_true_eq]
  match l, h with
  | [], _ => simp
  | [a], _ => simp
  | [a, b], _ => simp [List.range_succ]
  | [a, b, c], _ => simp [List.range_succ]; try omega
  | [a, b, c, d], _ => simp [List.range_succ]; try omega
  | _ :: _ :: _ :: _ :: _ :: _, h => simp at h; try omega
theorem asc_none (l : List Nat) (h : l.length ≤ 4) : (∀ i < l.length - 1, ¬ l.getD (i + 1) 0 ≤ l.getD i 0) ↔ l.Pairwise (· < ·) := by
  have e := asc_pair l h
  rw [all_dec, Bool.eq_iff_iff] at e
  simp only [decide_eq_true_eq, List.mem_range] at e
  rw [← e]
  constructor
  · intro h i hi
    have := h i hi
    omega
  · intro h i hi
    have := h i hi
    omega
def NoStr (K : PySem.W.Frag) (H : Hp) (v : V) : Prop := ∃ t, TyX K H v (.type t) ∧ kitB t "str" = some false
theorem tyx_same {K : PySem.W.Frag} {H H' : Hp} (s : Same H H') {v : V} {t : Value} (h : TyX K H v t) : TyX K H' v t := by
  cases h with
  | base b =>
    cases b with
    | non => exact .base .non
    | bl x => exact .base (.bl x)
    | int i => exact .base (.int i)
    | str x => exact .base (.str x)
    | flt x => exact .base (.flt x)
    | lst e => exact .base (.lst (s _ _ e))
    | frz e => exact .base (.frz (s _ _ e))
    | tup e => exact .base (.tup (s _ _ e))
    | dK e => exact .base (.dK (s _ _ e))
    | dT e => exact .base (.dT (s _ _ e))
    | ins e cl ha hn htk hm => exact .base (.ins (s _ _ e) cl ha hn htk hm)
  | byt b => exact .byt b
  | set e => exact .set (s _ _ e)
  | kList e c => exact .kList e c
  | kTuple e c => exact .kTuple e c
  | kDict e c => exact .kDict e c
  | fTuple e => exact .fTuple (s _ _ e)
  | fDict e => exact .fDict (s _ _ e)
theorem NoStr.same {K : PySem.W.Frag} {H H' : Hp} {v : V} (h : NoStr K H v) (s : Same H H') : NoStr K H' v := by
  obtain ⟨t, h1, h2⟩ := h
  exact ⟨t, tyx_same s h1, h2⟩
theorem nostr_lst {K : PySem.W.Frag} {H : Hp} {p : Addr} {xs : List V} (h : H p = some (.lst xs)) : NoStr K H (.ref p) := ⟨"list", .base (.lst h), by decide +kernel⟩
theorem nostr_tup {K : PySem.W.Frag} {H : Hp} {p : Addr} {xs : List V} (h : H p = some (.tup xs)) : NoStr K H (.ref p) := ⟨"tuple", .base (.tup h), by decide +kernel⟩
theorem nostr_non {K : PySem.W.Frag} {H : Hp} : NoStr K H .non := ⟨"NoneType", .base .non, by decide +kernel⟩
theorem nostr_bl {K : PySem.W.Frag} {H : Hp} {x : Bool} : NoStr K H (.bl x) := ⟨"bool", .base (.bl x), by decide +kernel⟩
theorem nostr_int {K : PySem.W.Frag} {H : Hp} {x : Int} : NoStr K H (.int x) := ⟨"int", .base (.int x), by decide +kernel⟩
def spIsAlpha (K : PySem.W.Frag) : Sp := fun vs H Q _ => ∃ v, vs = [v] ∧ ((∃ z : Str, v = .str z ∧ z.length ≤ 100000 ∧ ∀ H', Same H H' → Q (.bl (decide (Alpha z.cps.toList))) H') ∨ (NoStr K H v ∧ ∀ H', Same H H' → Q (.bl false) H'))
def spIsWord (K : PySem.W.Frag) : Sp := fun vs H Q _ => ∃ (a : Str) (v : V), vs = [.str a, v] ∧ ((∃ z : Str, v = .str z ∧ z.length ≤ 100000 ∧ ∀ H', Same H H' → Q (.bl (decide (∀ c ∈ z.cps.toList, c ∈ a.cps.toList))) H') ∨ (NoStr K H v ∧ ∀ H', Same H H' → Q (.bl false) H'))
section
variable {P : Program} {w : World} {K : PySem.W.Frag} {mg : Str → Option Value} {base : Heap}
theorem ok_is_alphabet (T : Env K mg) : FnOk P w K mg base CX0 1 T.f_is_alphabet T.fd_is_alphabet ["value"] (spIsAlpha K) := by
  refine T.F_is_alphabet.ok sc_is_alphabet (fun vs H Q E h => ?_) (fun cdv A outer s H vs Q E hr h => ⟨_, ((pss_cons (ps_if (PW.pt (pw_or (pt_not (pt_val (pe_callB call_isi (by rfl) T.z_isinstance (by decide +kernel) (pa_cons (pv 0) (pa_cons (pe_bltn (v := .ty "str") (by rfl) T.z_str (by decide +kernel) rfl) pa_nil))))) (pw_or1 (pt_not (pt_chain op_le op_le pe_int (pe_callB call_len_str (by rfl) T.z_len (by decide +kernel) (pa_cons (pv 0) pa_nil)) (pe_glob (v := .int 4) (by rfl) T.c_MOST_LETTERS ⟨_, rfl⟩))))))
      (pss_one (ps_ret pe_bl))
      pss_nil)
      (pss_cons (ps_if (pt_not (pt_val (pe_callB (cr_all rfl) (by rfl) T.z_all (by decide +kernel) (pa_cons (pe_lc (own := [("sign", 2)]) (g := (gName 2)) (tt := tYes) rfl sc_is_alphabet.nd (pi_str (pv 0)) (blkOk_by (own := [("sign", 2)]) (N := N_is_alphabet) (sc := defScope s_is_alphabet) (by decide +kernel)) (fun _ _ _ _ _ => (pg_name (i := 2) sc_is_alphabet.nd rfl (.inl rfl))) (fun _ _ _ _ _ => pts_nil) (fun _ _ _ _ _ => (pe_chain op_le_str op_le_str pe_str (pv 2) pe_str))) pa_nil))))
      (pss_one (ps_ret pe_bl))
      pss_nil)
      (pss_one (ps_ret (pe_callB (cr_all rfl) (by rfl) T.z_all (by decide +kernel) (pa_cons (pe_lc (own := [("at", 1)]) (g := (gName 1)) (tt := tYes) rfl sc_is_alphabet.nd (pi_range2 (by rfl) T.z_range (pa_cons pe_int (pa_cons (pe_callB call_len_str (by rfl) T.z_len (by decide +kernel) (pa_cons (pv 0) pa_nil)) pa_nil))) (blkOk_by (own := [("at", 1)]) (N := N_is_alphabet) (sc := defScope s_is_alphabet) (by decide +kernel)) (fun _ _ _ _ _ => (pg_name (i := 1) sc_is_alphabet.nd rfl (.inl rfl))) (fun _ _ _ _ _ => pts_nil) (fun _ _ _ _ _ => (pe_cmpR op_lt_str (pe_ix ix_str (pv 0) (pe_op op_sub (pv 1) pe_int) (fun _ _ => rfl)) (pe_ix ix_str (pv 0) (pv 1) (fun _ _ => rfl)) (nomark _)))) pa_nil))))))), ?_⟩)
  · obtain ⟨v, rfl, _⟩ := h
    rfl
  · obtain ⟨v, rfl, ⟨z, rfl, hz, q⟩ | ⟨⟨t, ht, hk⟩, q⟩⟩ := h
    · have L := len_tl z
      have hF : ∀ H', Same H H' → ¬ Alpha z.cps.toList → Q (.bl false) H' := fun H' sm hn => by
        have := q H' sm
        rw [decide_eq_false hn] at this
        exact this
      walk_at "ssi"
      refine ite2 (fun e1 => ?_) (fun e1 => ?_)
      · have e1 : (1 : Int) ≤ z.length := of_decide_eq_true e1
        walk_at "ss"
        refine ite2 (fun e2 => ?_) (fun e2 => ?_)
        · refine hF _ (Same.refl H) fun hA => ?_
          have e3 : ¬ ((z.length : Int) ≤ 4) := by simpa using e2
          have := hA.2.1
          omega
        · have e3 : (z.length : Int) ≤ 4 := by simpa using e2
          walk_at "ss"
          intro D hD
          refine lc_gen walk_str (fun H' => Same H H') (fun i y => ∃ c, z.cps.toList[i]? = some c ∧ y = V.bl (decide (97 ≤ c ∧ c ≤ 122))) (by rw [size_tl, ← len_tl]; exact hz) (same_upd hD) (fun _ _ => trivial) (fun _ _ h => same_mut h hD) ?_ ?_
          · rintro i x H1 H2 Q1 hlt hI ⟨rfl, c, hc, rfl⟩ - hQ
            rw [get_tl] at hc
            walk_at "ss"
            refine ite2 (fun e5 => ?_) (fun e5 => ?_)
            · have e6 : (!decide (([c] : List Nat) < [97])) = true := e5
              have e7 : 97 ≤ c := by simpa [lt1] using e6
              walk_at "ss"
              refine hQ _ _ ⟨c, hc, congrArg V.bl ?_⟩ hI fun _ h => h
              show (!decide (([122] : List Nat) < [c])) = decide (97 ≤ c ∧ c ≤ 122)
              rw [Bool.eq_iff_iff]
              simp [lt1, e7]
            · have e6 : ¬ (!decide (([c] : List Nat) < [97])) = true := e5
              have e7 : ¬ 97 ≤ c := by simpa [lt1] using e6
              refine hQ _ _ ⟨c, hc, congrArg V.bl ?_⟩ hI fun _ h => h
              simp [e7]
          · intro H1 ys hI hy hl hr
            have e : ys = (z.cps.toList.map fun c => decide (97 ≤ c ∧ c ≤ 122)).map V.bl := by
              rw [List.map_map]
              exact ys_map (by rw [hl, size_tl]) hr
            subst e
            walk_at "ss"
            refine ⟨D, _, rfl, SqL.of hy, ?_⟩
            rw [all_dec]
            walk_at "ss"
            refine ite2 (fun e4 => ?_) (fun e4 => ?_)
            · refine hF _ hI fun hA => ?_
              have e5 := hA.2.2.1
              rw [decide_eq_true e5] at e4
              cases e4
            · have e5 : ∀ c ∈ z.cps.toList, 97 ≤ c ∧ c ≤ 122 := by simpa using e4
              walk_at "ss"
              refine ⟨_, _, rfl, ⟨by decide, by decide, by omega, by omega⟩, ?_⟩
              intro D2 hD2
              refine lc_gen walk_range (fun H' => Same H1 H') (fun i y => ∃ a b, z.cps.toList[i]? = some a ∧ z.cps.toList[i + 1]? = some b ∧ y = V.bl (decide (a < b))) (by omega) (same_upd hD2) (fun _ _ => trivial) (fun _ _ h => same_mut h hD2) ?_ ?_
              · rintro i x H2 H3 Q1 hlt hI2 ⟨rfl, rfl⟩ - hQ
                have h1 : i + 1 < z.cps.toList.length := by omega
                have h0 : i < z.cps.toList.length := by omega
                have g0 := List.getElem?_eq_getElem h0
                have g1 := List.getElem?_eq_getElem h1
                walk_at "ss"
                refine ⟨z, _, _, rfl, rfl, sz hz, (show atI z.cps.toList (1 + (i : Int) - 1) = some z.cps.toList[i] by rw [show 1 + (i : Int) - 1 = ((i : Nat) : Int) by omega]; exact atI_nat g0), ?_⟩
                walk_at "ss"
                refine ⟨z, _, _, rfl, rfl, sz hz, (show atI z.cps.toList (1 + (i : Int)) = some z.cps.toList[i + 1] by rw [show 1 + (i : Int) = ((i + 1 : Nat) : Int) by omega]; exact atI_nat g1), ?_⟩
                walk_at "ss"
                refine hQ _ _ ⟨_, _, g0, g1, congrArg V.bl ?_⟩ hI2 fun _ h => h
                show decide (([z.cps.toList[i]] : List Nat) < [z.cps.toList[i + 1]]) = _
                rw [Bool.eq_iff_iff]
                simp [lt1]
              · intro H2 ys2 hI2 hy2 hl2 hr2
                have e : ys2 = ((List.range (z.cps.toList.length - 1)).map fun i => decide (z.cps.toList.getD i 0 < z.cps.toList.getD (i + 1) 0)).map V.bl := by
                  rw [List.map_map]
                  refine ys_map (by rw [hl2, List.length_range]; omega) fun i y h => ?_
                  obtain ⟨a, b, h1, h2, h3⟩ := hr2 i y h
                  have hi := (List.getElem?_eq_some_iff.mp h).1
                  refine ⟨i, List.getElem?_range (by omega), ?_⟩
                  rw [h3]
                  simp only [Function.comp, List.getD_eq_getElem?_getD, h1, h2, Option.getD_some]
                subst e
                walk_at "ss"
                refine ⟨D2, _, rfl, SqL.of hy2, ?_⟩
                rw [asc_pair z.cps.toList (by omega)]
                have := q H2 (hI.trans hI2)
                rw [show decide (Alpha z.cps.toList) = decide (z.cps.toList.Pairwise (· < ·)) from ?_] at this
                · exact this
                · rw [Bool.eq_iff_iff]
                  simp only [decide_eq_true_eq]
                  exact ⟨fun h => h.2.2.2, fun h => ⟨by omega, by omega, e5, h⟩⟩
      · walk_at "ss"
        refine hF _ (Same.refl H) fun hA => ?_
        have e3 : ¬ ((1 : Int) ≤ z.length) := by simpa using e1
        have := hA.1
        omega
    · walk_at "ssi"
      exact q _ (Same.refl H)
theorem ok_is_word (T : Env K mg) : FnOk P w K mg base CX0 1 T.f_is_word T.fd_is_word ["alphabet", "value"] (spIsWord K) := by
  refine T.F_is_word.ok sc_is_word (fun vs H Q E h => ?_) (fun cdv A outer s H vs Q E hr h => ⟨_, ((pss_one (ps_ret (pe_and (pe_callB call_isi (by rfl) T.z_isinstance (by decide +kernel) (pa_cons (pv 1) (pa_cons (pe_bltn (v := .ty "str") (by rfl) T.z_str (by decide +kernel) rfl) pa_nil))) (pe_one (pe_callB (cr_all rfl) (by rfl) T.z_all (by decide +kernel) (pa_cons (pe_lc (own := [("sign", 2)]) (g := (gName 2)) (tt := tYes) rfl sc_is_word.nd (pi_str (pv 1)) (blkOk_by (own := [("sign", 2)]) (N := N_is_word) (sc := defScope s_is_word) (by decide +kernel)) (fun _ _ _ _ _ => (pg_name (i := 2) sc_is_word.nd rfl (.inl rfl))) (fun _ _ _ _ _ => pts_nil) (fun _ _ _ _ _ => (pe_cmpR op_in_sign (pv 2) (pv 0) (by rfl)))) pa_nil))))))), ?_⟩)
  · obtain ⟨a, v, rfl, _⟩ := h
    rfl
  · obtain ⟨a, v, rfl, ⟨z, rfl, hz, q⟩ | ⟨⟨t, ht, hk⟩, q⟩⟩ := h
    · walk_at "ss"
      refine ⟨_, _, _, _, true, rfl, ClsV.ty _, .base (.str _), kit_ty (by decide +kernel), ?_⟩
      walk_at "ss"
      intro D hD
      refine lc_gen walk_str (fun H' => Same H H') (fun i y => ∃ c, z.cps.toList[i]? = some c ∧ y = V.bl (decide (c ∈ a.cps.toList))) (by rw [size_tl, ← len_tl]; exact hz) (same_upd hD) (fun _ _ => trivial) (fun _ _ h => same_mut h hD) ?_ ?_
      · rintro i x H1 H2 Q1 hlt hI ⟨rfl, c, hc, rfl⟩ - hQ
        walk_at "ss"
        rw [get_tl] at hc
        exact hQ _ _ ⟨c, hc, rfl⟩ hI fun _ h => h
      · intro H1 ys hI hy hl hr
        have e : ys = (z.cps.toList.map fun c => decide (c ∈ a.cps.toList)).map V.bl := by
          rw [List.map_map]
          exact ys_map (by rw [hl, size_tl]) hr
        subst e
        walk_at "ss"
        refine ⟨D, _, rfl, SqL.of hy, ?_⟩
        rw [all_dec]
        exact q _ hI
    · walk_at "ssi"
      exact q _ (Same.refl H)
end

/-! ### what is found and what is due are the same -/
def scalV : V → Bool
  | .non => true
  | .bl _ => true
  | .int _ => true
  | .str _ => true
  | _ => false
/-- of depth below d: the same data -/
def Sm (K : PySem.W.Frag) (H : Hp) : Nat → V → V → Prop
  | 0, _, _ => False
  | d + 1, x, y => (x = y ∧ scalV x = true) ∨ (∃ a b xs ys, x = .ref a ∧ y = .ref b ∧ xs.length ≤ 100000 ∧ xs.length = ys.length ∧ (∀ (i : Nat) (u v : V), xs[i]? = some u → ys[i]? = some v → Sm K H d u v) ∧
      ((SqL K H a xs ∧ SqL K H b ys) ∨ (SqT K H a xs ∧ SqT K H b ys)))
theorem Sm.same {K : PySem.W.Frag} {H H' : Hp} (s : Same H H') : ∀ {d : Nat} {x y : V}, Sm K H d x y → Sm K H' d x y
  | 0, _, _, h => h
  | d + 1, x, y, h => by
    rcases h with h | ⟨a, b, xs, ys, e1, e2, hz, hl, hi, h⟩
    · exact .inl h
    · refine .inr ⟨a, b, xs, ys, e1, e2, hz, hl, fun i u v h1 h2 => Sm.same s (hi i u v h1 h2), ?_⟩
      rcases h with ⟨h1, h2⟩ | ⟨h1, h2⟩
      · exact .inl ⟨s.seq h1, s.seq h2⟩
      · exact .inr ⟨same_tup s h1, same_tup s h2⟩
theorem Sm.up {K : PySem.W.Frag} {H : Hp} : ∀ {d : Nat} {x y : V}, Sm K H d x y → Sm K H (d + 1) x y
  | 0, _, _, h => h.elim
  | d + 1, x, y, h => by
    rcases h with h | ⟨a, b, xs, ys, e1, e2, hz, hl, hi, h⟩
    · exact .inl h
    · exact .inr ⟨a, b, xs, ys, e1, e2, hz, hl, fun i u v h1 h2 => Sm.up (hi i u v h1 h2), h⟩
theorem tyx_list {K : PySem.W.Frag} {H : Hp} {a : Addr} {xs : List V} (h : SqL K H a xs) : TyX K H (.ref a) (.type "list") := by
  rcases h with (h | ⟨o, h⟩) | ⟨o, its, n, h1, h2, _⟩
  · exact .base (.lst h)
  · exact .base (.frz h)
  · exact .kList h1 h2
theorem tyx_tup {K : PySem.W.Frag} {H : Hp} {a : Addr} {xs : List V} (h : SqT K H a xs) : TyX K H (.ref a) (.type "tuple") := by
  rcases h with (h | ⟨o, h⟩) | ⟨o, its, n, h1, h2, _⟩
  · exact .base (.tup h)
  · exact .fTuple h
  · exact .kTuple h1 h2

theorem walk_zipT {K : PySem.W.Frag} {a b : Addr} {xs ys : List V} {n : Nat} (hn : n = min xs.length ys.length) : Walk (RZ.ItzT K a b) n (fun H => SqT K H a xs ∧ SqT K H b ys) (YPair (fun i => xs[i]?) (fun i => ys[i]?)) := by
  subst hn
  refine ⟨fun i _ hi q => ?_, fun _ q => ⟨xs, ys, q.1, q.2, by omega⟩, fun i H v H' _ q y => ?_⟩
  · have h1 : i < xs.length := by omega
    have h2 : i < ys.length := by omega
    exact ⟨xs, ys, xs[i], ys[i], q.1, q.2, by simp [h1], by simp [h2]⟩
  · obtain ⟨T, x, z, h1, h2, h3, h4, h5⟩ := y
    exact ⟨T, x, z, h1, h2, h3, h4 xs q.1, h5 ys q.2⟩
theorem sm_lst {K : PySem.W.Frag} {H : Hp} {d : Nat} {p q : Addr} {xs : List V} (h1 : SqL K H p xs) (h2 : SqL K H q xs) (hl : xs.length ≤ 100000) (hs : xs.all scalV = true) : Sm K H (d + 2) (.ref p) (.ref q) := by
  refine .inr ⟨p, q, xs, xs, rfl, rfl, hl, rfl, fun i u v e1 e2 => ?_, .inl ⟨h1, h2⟩⟩
  rw [e1] at e2
  cases e2
  exact .inl ⟨rfl, List.all_eq_true.mp hs u (List.mem_of_getElem? e1)⟩
def spSame (K : PySem.W.Frag) (d : Nat) : Sp := fun vs H Q _ => ∃ (x y : V), vs = [x, y] ∧ Sm K H d x y ∧ ∀ H', Same H H' → Q (.bl true) H'
section
variable {P : Program} {w : World} {K : PySem.W.Frag} {mg : Str → Option Value} {base : Heap}
theorem ok_same (T : Env K mg) : ∀ d : Nat, FnOk P w K mg base CX0 (d + 1) T.f_same T.fd_same ["_law_found", "_law_due"] (spSame K d)
  | 0 => by
    refine T.F_same.ok sc_same (fun vs H Q E h => ?_) (fun cdv A outer s H vs Q E hr h => ?_)
    · obtain ⟨x, y, rfl, _⟩ := h
      rfl
    · obtain ⟨x, y, rfl, h, _⟩ := h
      exact h.elim
  | d + 1 => by
    have ih : FnOk P w K mg base CX0 (d + 1) T.f_same T.fd_same ["_law_found", "_law_due"] (spSame K d) := ok_same T d
    refine T.F_same.ok sc_same (fun vs H Q E h => ?_) (fun cdv A outer s H vs Q E hr h => ⟨_, ((pss_cons (ps_if (pt_val (pe_callB call_isiT (by rfl) T.z_isinstance (by decide +kernel) (pa_cons (pv 1) (pa_cons (pe_tup (pa_cons (pe_bltn (v := .ty "list") (by rfl) T.z_list (by decide +kernel) rfl) (pa_cons (pe_bltn (v := .ty "tuple") (by rfl) T.z_tuple (by decide +kernel) rfl) pa_nil))) pa_nil))))
      (pss_cons (ps_if (PW.pt (pw_or (pt_cmpR op_ne (pe_callB call_isi (by rfl) T.z_isinstance (by decide +kernel) (pa_cons (pv 0) (pa_cons (pe_bltn (v := .ty "list") (by rfl) T.z_list (by decide +kernel) rfl) pa_nil))) (pe_callB call_isi (by rfl) T.z_isinstance (by decide +kernel) (pa_cons (pv 1) (pa_cons (pe_bltn (v := .ty "list") (by rfl) T.z_list (by decide +kernel) rfl) pa_nil))) (nomark _)) (pw_or1 (pt_cmpR op_ne (pe_callB call_isi (by rfl) T.z_isinstance (by decide +kernel) (pa_cons (pv 0) (pa_cons (pe_bltn (v := .ty "tuple") (by rfl) T.z_tuple (by decide +kernel) rfl) pa_nil))) (pe_callB call_isi (by rfl) T.z_isinstance (by decide +kernel) (pa_cons (pv 1) (pa_cons (pe_bltn (v := .ty "tuple") (by rfl) T.z_tuple (by decide +kernel) rfl) pa_nil))) (nomark _)))))
      (pss_one (ps_ret pe_bl))
      pss_nil)
      (pss_one (ps_ret (pe_and (pe_cmpR op_eq (pe_callB call_len (by rfl) T.z_len (by decide +kernel) (pa_cons (pv 0) pa_nil)) (pe_callB call_len (by rfl) T.z_len (by decide +kernel) (pa_cons (pv 1) pa_nil)) (nomark _)) (pe_one (pe_callB (cr_all rfl) (by rfl) T.z_all (by decide +kernel) (pa_cons (pe_lc (own := [("_law_a", 2), ("_law_b", 3)]) (g := (gTup K 2 (gCons (gName 2) (gCons (gName 3) gNil)))) (tt := tYes) rfl sc_same.nd (RZ.pi_zipA (by rfl) T.z_zip (pa_cons (pv 0) (pa_cons (pv 1) pa_nil))) (blkOk_by (own := [("_law_a", 2), ("_law_b", 3)]) (N := N_same) (sc := defScope s_same) (by decide +kernel)) (fun _ _ _ _ _ => (pg_tup (by rfl) (pgs_cons (pg_name (i := 2) sc_same.nd rfl (.inl rfl)) (pgs_cons (pg_name (i := 3) sc_same.nd rfl (.inl rfl)) pgs_nil)))) (fun _ _ _ _ _ => pts_nil) (fun _ _ _ _ _ => (pe_call ih hr (by rfl) T.g_same T.F_same.kp T.b_same .nil pass0 (pa_cons (pv 2) (pa_cons (pv 3) pa_nil))))) pa_nil)))))))
      pss_nil)
      (pss_cons (ps_if (PW.pt (pw_or (pt_cmpR op_isN (pv 1) pe_non (nomark _)) (pw_or1 (pt_cmpR op_isN (pv 0) pe_non (nomark _)))))
      (pss_one (ps_ret (pe_and (pe_cmpR op_isN (pv 1) pe_non (nomark _)) (pe_one (pe_cmpR op_isN (pv 0) pe_non (nomark _))))))
      pss_nil)
      (pss_cons (ps_if (PW.pt (pw_or (pt_cmpR op_ne (pe_callB call_isi (by rfl) T.z_isinstance (by decide +kernel) (pa_cons (pv 1) (pa_cons (pe_bltn (v := .ty "bool") (by rfl) T.z_bool (by decide +kernel) rfl) pa_nil))) (pe_callB call_isi (by rfl) T.z_isinstance (by decide +kernel) (pa_cons (pv 0) (pa_cons (pe_bltn (v := .ty "bool") (by rfl) T.z_bool (by decide +kernel) rfl) pa_nil))) (nomark _)) (pw_or1 (pt_cmpR op_ne (pe_callB call_isi (by rfl) T.z_isinstance (by decide +kernel) (pa_cons (pv 1) (pa_cons (pe_bltn (v := .ty "int") (by rfl) T.z_int (by decide +kernel) rfl) pa_nil))) (pe_callB call_isi (by rfl) T.z_isinstance (by decide +kernel) (pa_cons (pv 0) (pa_cons (pe_bltn (v := .ty "int") (by rfl) T.z_int (by decide +kernel) rfl) pa_nil))) (nomark _)))))
      (pss_one (ps_ret pe_bl))
      pss_nil)
      (pss_one (ps_ret (pe_and (pe_cmpR op_eq (pe_callB call_isi (by rfl) T.z_isinstance (by decide +kernel) (pa_cons (pv 1) (pa_cons (pe_bltn (v := .ty "str") (by rfl) T.z_str (by decide +kernel) rfl) pa_nil))) (pe_callB call_isi (by rfl) T.z_isinstance (by decide +kernel) (pa_cons (pv 0) (pa_cons (pe_bltn (v := .ty "str") (by rfl) T.z_str (by decide +kernel) rfl) pa_nil))) (nomark _)) (pe_one (pe_cmpR op_eq (pv 0) (pv 1) (nomark _)))))))))), ?_⟩)
    · obtain ⟨x, y, rfl, _⟩ := h
      rfl
    · obtain ⟨x, y, rfl, h, q⟩ := h
      rcases h with ⟨rfl, hsc⟩ | ⟨a, b, xs, ys, rfl, rfl, hz, hl, hi, h⟩
      · cases x with
        | non =>
          walk_at "ssi"
          exact q _ (same_upd (by assumption))
        | bl b =>
          walk_at "ssi"
          show Q (V.bl (decide (V.bl b = V.bl b))) _
          rw [decide_eq_true rfl]
          exact q _ (same_upd (by assumption))
        | int i =>
          walk_at "ssi"
          show Q (V.bl (decide (V.int i = V.int i))) _
          rw [decide_eq_true rfl]
          exact q _ (same_upd (by assumption))
        | str z =>
          walk_at "ssi"
          show Q (V.bl (decide (V.str z = V.str z))) _
          rw [decide_eq_true rfl]
          exact q _ (same_upd (by assumption))
        | byt z => cases hsc
        | flt z => cases hsc
        | ref z => cases hsc
        | ty z => cases hsc
      · rcases h with ⟨h1, h2⟩ | ⟨h1, h2⟩
        · walk_at "ss"
          intro p hp
          have s1 : Same H (upd H p (.tup [.ty "list", .ty "tuple"])) := same_upd hp
          have t1 := tyx_list (s1.seq h1)
          have t2 := tyx_list (s1.seq h2)
          walk_at "ssi"
          refine ⟨_, xs.length, rfl, .inl ⟨xs, s1.seq h1, rfl⟩, ?_⟩
          walk_at "ss"
          refine ⟨_, ys.length, rfl, .inl ⟨ys, s1.seq h2, rfl⟩, ?_⟩
          walk_at "ss"
          refine iteP (decide_eq_true (by rw [hl])) ?_
          walk_at "ss"
          refine ⟨a, b, xs, ys, rfl, .inl ⟨s1.seq h1, s1.seq h2, ?_⟩⟩
          intro D hD
          have hD0 : H D = none := s1.free hD
          refine lc_it (walk_zip (xs := xs) (ys := ys) (n := xs.length) (by omega)) (fun i H' => Stp (Same H H' ∧ H' D = some (.lst ((List.replicate i true).map V.bl))))
            (.mk ⟨same_mut s1 hD0, upd_same⟩) (fun i H' _ h => ⟨h.of.1.seq h1, h.of.1.seq h2⟩) ?_ ?_
          · rintro i x H1 H2 hlt hP ⟨Tp, u, v, rfl, hT, rfl, e1, e2⟩
            obtain ⟨s2, hDl⟩ := hP.of
            have s3 : Same H1 (upd H1 Tp (.tup [u, v])) := same_upd hT
            refine ⟨Tp, _, rfl, SqT.of upd_same, rfl, ?_⟩
            walk_at "ss"
            refine ⟨u, v, rfl, (hi i u v e1 e2).same (s2.trans s3), fun H3 s4 => ⟨_, s4 _ _ (s3 _ _ hDl), ?_, ?_⟩⟩
            · rw [List.length_map, List.length_replicate]
              exact szl (by omega)
            · refine .mk ⟨same_mut ((s2.trans s3).trans s4) hD0, ?_⟩
              rw [upd_same, List.replicate_succ', List.map_append]
              rfl
          · intro H1 hP
            obtain ⟨s2, hDl⟩ := hP.of
            walk_at "ss"
            refine ⟨D, _, rfl, SqL.of hDl, ?_⟩
            rw [show (List.replicate xs.length true).all id = true by simp]
            exact q _ s2
        · walk_at "ss"
          intro p hp
          have s1 : Same H (upd H p (.tup [.ty "list", .ty "tuple"])) := same_upd hp
          have t1 := tyx_tup (same_tup s1 h1)
          have t2 := tyx_tup (same_tup s1 h2)
          walk_at "ssi"
          refine ⟨_, xs.length, rfl, .inr ⟨xs, same_tup s1 h1, rfl⟩, ?_⟩
          walk_at "ss"
          refine ⟨_, ys.length, rfl, .inr ⟨ys, same_tup s1 h2, rfl⟩, ?_⟩
          walk_at "ss"
          refine iteP (decide_eq_true (by rw [hl])) ?_
          walk_at "ss"
          refine ⟨a, b, xs, ys, rfl, .inr ⟨same_tup s1 h1, same_tup s1 h2, ?_⟩⟩
          intro D hD
          have hD0 : H D = none := s1.free hD
          refine lc_it (walk_zipT (xs := xs) (ys := ys) (n := xs.length) (by omega)) (fun i H' => Stp (Same H H' ∧ H' D = some (.lst ((List.replicate i true).map V.bl))))
            (.mk ⟨same_mut s1 hD0, upd_same⟩) (fun i H' _ h => ⟨same_tup h.of.1 h1, same_tup h.of.1 h2⟩) ?_ ?_
          · rintro i x H1 H2 hlt hP ⟨Tp, u, v, rfl, hT, rfl, e1, e2⟩
            obtain ⟨s2, hDl⟩ := hP.of
            have s3 : Same H1 (upd H1 Tp (.tup [u, v])) := same_upd hT
            refine ⟨Tp, _, rfl, SqT.of upd_same, rfl, ?_⟩
            walk_at "ss"
            refine ⟨u, v, rfl, (hi i u v e1 e2).same (s2.trans s3), fun H3 s4 => ⟨_, s4 _ _ (s3 _ _ hDl), ?_, ?_⟩⟩
            · rw [List.length_map, List.length_replicate]
              exact szl (by omega)
            · refine .mk ⟨same_mut ((s2.trans s3).trans s4) hD0, ?_⟩
              rw [upd_same, List.replicate_succ', List.map_append]
              rfl
          · intro H1 hP
            obtain ⟨s2, hDl⟩ := hP.of
            walk_at "ss"
            refine ⟨D, _, rfl, SqL.of hDl, ?_⟩
            rw [show (List.replicate xs.length true).all id = true by simp]
            exact q _ s2
end

/-! ### values as data -/
mutual
theorem dp_mono {K : PySem.W.Frag} {H H' : Hp} (hs : ∀ a xs, SqL K H a xs → SqL K H' a xs) (ht : ∀ a xs, SqT K H a xs → SqT K H' a xs) : ∀ (d : PyData) (v : V), Dp K H v d → Dp K H' v d
  | .none, _, h => by cases h; exact .non
  | .bool b, _, h => by cases h; exact .bl b
  | .int i, _, h => by cases h; exact .int i
  | .str x, _, h => by cases h; exact .str x
  | .list ds, _, h => by
    cases h with
    | lst h1 h2 => exact .lst (hs _ _ h1) (dpa_mono hs ht ds _ h2)
  | .tuple ds, _, h => by
    cases h with
    | tup h1 h2 => exact .tup (ht _ _ h1) (dpa_mono hs ht ds _ h2)
  | .dict _, _, h => by cases h
theorem dpa_mono {K : PySem.W.Frag} {H H' : Hp} (hs : ∀ a xs, SqL K H a xs → SqL K H' a xs) (ht : ∀ a xs, SqT K H a xs → SqT K H' a xs) : ∀ (ds : List PyData) (vs : List V), DpAll K H vs ds → DpAll K H' vs ds
  | [], _, h => by cases h; exact .nil
  | d :: ds, _, h => by
    cases h with
    | cons a b => exact .cons (dp_mono hs ht d _ a) (dpa_mono hs ht ds _ b)
end
theorem dp_same {K : PySem.W.Frag} {H H' : Hp} {v : V} {d : PyData} (h : Dp K H v d) (s : Same H H') : Dp K H' v d := dp_mono (fun _ _ h => s.seq h) (fun _ _ h => same_tup s h) d v h
theorem dpa_same {K : PySem.W.Frag} {H H' : Hp} {vs : List V} {ds : List PyData} (h : DpAll K H vs ds) (s : Same H H') : DpAll K H' vs ds := dpa_mono (fun _ _ h => s.seq h) (fun _ _ h => same_tup s h) ds vs h
theorem dpa_len {K : PySem.W.Frag} {H : Hp} : ∀ {ds : List PyData} {vs : List V}, DpAll K H vs ds → vs.length = ds.length
  | [], _, h => by cases h; rfl
  | d :: ds, _, h => by
    cases h with
    | cons a b => rw [List.length_cons, List.length_cons, dpa_len b]
theorem dpa_app {K : PySem.W.Frag} {H : Hp} {us : List V} {es : List PyData} (h2 : DpAll K H us es) : ∀ {ds : List PyData} {vs : List V}, DpAll K H vs ds → DpAll K H (vs ++ us) (ds ++ es)
  | [], _, h => by cases h; exact h2
  | d :: ds, _, h => by
    cases h with
    | cons a b => exact .cons a (dpa_app h2 b)
theorem dpa_at {K : PySem.W.Frag} {H : Hp} : ∀ {ds : List PyData} {vs : List V} {i : Nat} {v : V}, DpAll K H vs ds → vs[i]? = some v → ∃ d, ds[i]? = some d ∧ Dp K H v d
  | [], _, _, _, h, e => by cases h; simp at e
  | d :: ds, _, 0, v, h, e => by
    cases h with
    | cons a b =>
      cases e
      exact ⟨d, rfl, a⟩
  | d :: ds, _, i + 1, v, h, e => by
    cases h with
    | cons a b =>
      have e : _ = some v := e
      exact dpa_at (ds := ds) (i := i) b e
mutual
/-- no list of five items -/
def no5 : PyData → Bool
  | .list ds => ds.length != 5 && no5All ds
  | .tuple ds => no5All ds
  | _ => true
def no5All : List PyData → Bool
  | [] => true
  | d :: ds => no5 d && no5All ds
end
mutual
theorem dp_kp {K : PySem.W.Frag} {b l : Addr} {H H' : Hp} (k : Kp b H H') (B : BagAt b l H) : ∀ (d : PyData) (v : V), no5 d = true → Dp K H v d → Dp K H' v d
  | .none, _, _, h => by cases h; exact .non
  | .bool b, _, _, h => by cases h; exact .bl b
  | .int i, _, _, h => by cases h; exact .int i
  | .str x, _, _, h => by cases h; exact .str x
  | .list ds, _, n, h => by
    cases h with
    | lst h1 h2 =>
      rename_i a xs
      have n : (ds.length != 5 && no5All ds) = true := n
      rw [Bool.and_eq_true] at n
      refine .lst ?_ (dpa_kp k B ds _ n.2 h2)
      by_cases e : a = b
      · obtain ⟨⟨i, r, m, c, ns, hb, _⟩, _⟩ := B
        have hl := dpa_len h2
        rcases h1 with (h1 | ⟨o, h1⟩) | h1
        · rw [e, hb] at h1
          cases h1
          have : ds.length = 5 := hl.symm
          rw [this] at n
          exact absurd n.1 (by decide)
        · rw [e, hb] at h1
          cases h1
        · exact .inr h1
      · exact k.seq e h1
  | .tuple ds, _, n, h => by
    cases h with
    | tup h1 h2 =>
      rename_i a xs
      refine .tup ?_ (dpa_kp k B ds _ n h2)
      obtain ⟨⟨i, r, m, c, ns, hb, _⟩, _⟩ := B
      rcases h1 with (h | ⟨o, h⟩) | h
      · exact .inl (.inl (k _ _ h fun z => by rw [z, hb] at h; cases h))
      · exact .inl (.inr ⟨o, k _ _ h fun z => by rw [z, hb] at h; cases h⟩)
      · exact .inr h
  | .dict _, _, _, h => by cases h
theorem dpa_kp {K : PySem.W.Frag} {b l : Addr} {H H' : Hp} (k : Kp b H H') (B : BagAt b l H) : ∀ (ds : List PyData) (vs : List V), no5All ds = true → DpAll K H vs ds → DpAll K H' vs ds
  | [], _, _, h => by cases h; exact .nil
  | d :: ds, _, n, h => by
    have n : (no5 d && no5All ds) = true := n
    rw [Bool.and_eq_true] at n
    cases h with
    | cons a b => exact .cons (dp_kp k B d _ n.1 a) (dpa_kp k B ds _ n.2 b)
end
def tyD : PyData → String
  | .none => "NoneType"
  | .bool _ => "bool"
  | .int _ => "int"
  | .str _ => "str"
  | .list _ => "list"
  | .tuple _ => "tuple"
  | .dict _ => "dict"
theorem dp_ty {K : PySem.W.Frag} {H : Hp} {v : V} {d : PyData} (h : Dp K H v d) : TyX K H v (.type (tyD d)) := by
  cases h with
  | non => exact .base .non
  | bl b => exact .base (.bl b)
  | int i => exact .base (.int i)
  | str x => exact .base (.str x)
  | lst h _ => exact tyx_list h
  | tup h _ => exact tyx_tup h
theorem cut_drop {xs : List V} {i : Nat} : cutV xs (some (i : Int)) none = xs.drop i := by
  unfold cutV
  rw [show HT.sIx xs.length 0 (some (i : Int)) = min i xs.length from HT.sIx_nat _ _ i, HT.sIx_none]
  rw [List.take_of_length_le (by rw [List.length_drop]; omega)]
  by_cases h : i ≤ xs.length
  · rw [Nat.min_eq_left h]
  · rw [List.drop_of_length_le (by omega), List.drop_of_length_le (by omega)]

/-! ### kinds of values -/
def NoInt (K : PySem.W.Frag) (H : Hp) (v : V) : Prop := ∃ t, TyX K H v (.type t) ∧ kitB t "int" = some false
def spNum (K : PySem.W.Frag) : Sp := fun vs H Q _ => ∃ (v : V), vs = [v] ∧
  ((∃ i, v = .int i ∧ Q (.bl (decide (0 ≤ i))) H) ∨ (∃ b, v = .bl b ∧ Q (.bl false) H) ∨ (NoInt K H v ∧ Q (.bl false) H))
def spBelow (K : PySem.W.Frag) : Sp := fun vs H Q _ => ∃ (v : V) (n : Int), vs = [v, .int n] ∧
  ((∃ i, v = .int i ∧ Q (.bl (decide (0 ≤ i ∧ i < n))) H) ∨ (∃ b, v = .bl b ∧ Q (.bl false) H) ∨ (NoInt K H v ∧ Q (.bl false) H))
section
variable {P : Program} {w : World} {K : PySem.W.Frag} {mg : Str → Option Value} {base : Heap}
theorem ok_is_number (T : Env K mg) : FnOk P w K mg base CX0 1 T.f_is_number T.fd_is_number ["value"] (spNum K) := by
  refine T.F_is_number.ok sc_is_number (fun vs H Q E h => ?_) (fun cdv A outer s H vs Q E hr h => ⟨_, ((pss_one (ps_ret (pe_and (pe_callB call_isi (by rfl) T.z_isinstance (by decide +kernel) (pa_cons (pv 0) (pa_cons (pe_bltn (v := .ty "int") (by rfl) T.z_int (by decide +kernel) rfl) pa_nil))) (pe_and (pe_not (pe_callB call_isi (by rfl) T.z_isinstance (by decide +kernel) (pa_cons (pv 0) (pa_cons (pe_bltn (v := .ty "bool") (by rfl) T.z_bool (by decide +kernel) rfl) pa_nil)))) (pe_one (pe_cmpR op_ge (pv 0) pe_int (nomark _)))))))), ?_⟩)
  · obtain ⟨v, rfl, _⟩ := h
    rfl
  · obtain ⟨v, rfl, ⟨i, rfl, q⟩ | ⟨b, rfl, q⟩ | ⟨⟨t, ht, hk⟩, q⟩⟩ := h
    · walk_at "ssi"
      exact q
    · walk_at "ssi"
      exact q
    · walk_at "ssi"
      exact q
theorem ok_is_below (T : Env K mg) : FnOk P w K mg base CX0 2 T.f_is_below T.fd_is_below ["value", "bound"] (spBelow K) := by
  refine T.F_is_below.ok sc_is_below (fun vs H Q E h => ?_) (fun cdv A outer s H vs Q E hr h => ⟨_, ((pss_one (ps_ret (pe_and (pe_call (ok_is_number T) (hr.mono (by decide)) (by rfl) T.g_is_number T.F_is_number.kp T.b_is_number .nil pass0 (pa_cons (pv 0) pa_nil)) (pe_one (pe_cmpR op_lt (pv 0) (pv 1) (nomark _))))))), ?_⟩)
  · obtain ⟨v, n, rfl, _⟩ := h
    rfl
  · obtain ⟨v, n, rfl, ⟨i, rfl, q⟩ | ⟨b, rfl, q⟩ | ⟨hn, q⟩⟩ := h
    · walk_at "ss"
      refine ite2 (fun e1 => ?_) (fun e1 => ?_)
      · have e2 : 0 ≤ i := of_decide_eq_true e1
        walk_at "ss"
        rw [show decide (0 ≤ i ∧ i < n) = decide (i < n) from decide_eq_decide.mpr ⟨fun h => h.2, fun h => ⟨e2, h⟩⟩] at q
        exact q
      · have e2 : ¬ 0 ≤ i := fun h => e1 (decide_eq_true h)
        rw [decide_eq_false fun h => e2 h.1] at q
        exact q
    · walk_at "ss"
      refine .inr (.inl ⟨b, rfl, ?_⟩)
      walk_at "ss"
      exact q
    · walk_at "ss"
      refine .inr (.inr ⟨hn, ?_⟩)
      walk_at "ss"
      exact q
def spListed (K : PySem.W.Frag) : Sp := fun vs H Q _ => ∃ (v : V), vs = [v] ∧ ((∃ p xs, v = .ref p ∧ (SqL K H p xs ∨ SqT K H p xs) ∧ ∀ H', Same H H' → Q (.bl true) H') ∨ (∃ t, TyX K H v (.type t) ∧ kitB t "list" = some false ∧ kitB t "tuple" = some false ∧ ∀ H', Same H H' → Q (.bl false) H'))
theorem ok_is_listed (T : Env K mg) : FnOk P w K mg base CX0 1 T.f_is_listed T.fd_is_listed ["value"] (spListed K) := by
  refine T.F_is_listed.ok sc_is_listed (fun vs H Q E h => ?_) (fun cdv A outer s H vs Q E hr h => ⟨_, ((pss_one (ps_ret (pe_callB call_isiT (by rfl) T.z_isinstance (by decide +kernel) (pa_cons (pv 0) (pa_cons (pe_tup (pa_cons (pe_bltn (v := .ty "list") (by rfl) T.z_list (by decide +kernel) rfl) (pa_cons (pe_bltn (v := .ty "tuple") (by rfl) T.z_tuple (by decide +kernel) rfl) pa_nil))) pa_nil)))))), ?_⟩)
  · obtain ⟨v, rfl, _⟩ := h
    rfl
  · obtain ⟨v, rfl, ⟨p, xs, rfl, h | h, q⟩ | ⟨t, ht, k1, k2, q⟩⟩ := h
    · have ty := tyx_list h
      walk_at "ss"
      intro D hD
      have ty2 := tyx_same (same_upd (o := .tup [.ty "list", .ty "tuple"]) hD) ty
      walk_at "ssi"
      exact q _ (same_upd hD)
    · have ty := tyx_tup h
      walk_at "ss"
      intro D hD
      have ty2 := tyx_same (same_upd (o := .tup [.ty "list", .ty "tuple"]) hD) ty
      walk_at "ssi"
      exact q _ (same_upd hD)
    · walk_at "ss"
      intro D hD
      have ty2 := tyx_same (same_upd (o := .tup [.ty "list", .ty "tuple"]) hD) ht
      refine ⟨_, _, _, _, _, false, rfl, upd_same, .cons (.ty _) (.cons (.ty _) .nil), ty2, any2 (r1 := false) (r2 := false) k1 k2, ?_⟩
      walk_at "ssi"
      exact q _ (same_upd hD)
end

/-! ### goals -/
/-- a list of tuples of ints -/
def Tab (K : PySem.W.Frag) (H : Hp) (l : Addr) (gs : List (List Int)) : Prop := ∃ ps : List Addr, SqL K H l (ps.map V.ref) ∧ ps.length = gs.length ∧ ∀ (i : Nat) (p : Addr) (g : List Int), ps[i]? = some p → gs[i]? = some g → SqT K H p (g.map V.int)
def Goals (gs : List (List Int)) (k : Nat) : Prop := ∀ g ∈ gs, g.length = k ∧ ∀ n ∈ g, 0 ≤ n ∧ n < gs.length
def goTo (gs : List (List Int)) (a : List Nat) (s : Int) (c : Nat) : Int := (gs.getD s.toNat []).getD (a.idxOf c) 0
def goAll (gs : List (List Int)) (a : List Nat) (s : Int) (cs : List Nat) : Int := cs.foldl (goTo gs a) s
theorem idx_of : ∀ {l : List Nat} {i c : Nat}, l.Nodup → l[i]? = some c → l.idxOf c = i
  | [], i, c, _, h => by simp at h
  | a :: l, 0, c, _, h => by
    have e : a = c := by simpa using h
    rw [e, List.idxOf_cons_self]
  | a :: l, i + 1, c, nd, h => by
    have h2 : l[i]? = some c := by simpa using h
    obtain ⟨n1, n2⟩ := List.nodup_cons.mp nd
    have ne : (a == c) = false := by
      cases e : a == c with
      | false => rfl
      | true =>
        rw [beq_iff_eq] at e
        exact absurd (e ▸ List.mem_of_getElem? h2) n1
    rw [List.idxOf_cons, ne, idx_of n2 h2]
    rfl
theorem at_nat {xs : List V} {i : Int} {v : V} (h0 : 0 ≤ i) (h : xs[i.toNat]? = some v) : atI xs i = some v := by
  have e := atI_nat h
  rw [Int.toNat_of_nonneg h0] at e
  exact e
theorem index_one {x : Str} {c : Nat} (nd : x.cps.toList.Nodup) (h : c ∈ x.cps.toList) : ∃ rest, Builtin.Str.occurrences x ⟨#[c]⟩ 0 x.length 1 = x.cps.toList.idxOf c :: rest := by
  have e := StrLaws.found_one x c
  rw [decide_eq_true h] at e
  cases o : Builtin.Str.occurrences x ⟨#[c]⟩ 0 x.length 1 with
  | nil => rw [o] at e; cases e
  | cons i rest =>
    have m : i ∈ Builtin.Str.occurrences x ⟨#[c]⟩ 0 x.length 1 := by rw [o]; exact List.mem_cons_self ..
    have g := (StrLaws.subAt_one x c i).mp (StrLaws.occ_spec x ⟨#[c]⟩ 0 x.length 1 i m)
    obtain ⟨hi, hc⟩ := List.getElem?_eq_some_iff.mp g
    exact ⟨rest, by rw [idx_of nd g]⟩
theorem Goals.at_ {gs : List (List Int)} {a : List Nat} {s : Int} {c : Nat} (G : Goals gs a.length) (h0 : 0 ≤ s) (h1 : s < gs.length) (hc : c ∈ a) :
    ∃ g, gs[s.toNat]? = some g ∧ g[a.idxOf c]? = some (goTo gs a s c) ∧ 0 ≤ goTo gs a s c ∧ goTo gs a s c < gs.length := by
  have hs : s.toNat < gs.length := by omega
  obtain ⟨gl, gb⟩ := G gs[s.toNat] (List.getElem_mem hs)
  have hi : a.idxOf c < gs[s.toNat].length := by rw [gl]; exact List.idxOf_lt_length_iff.mpr hc
  have e : goTo gs a s c = gs[s.toNat][a.idxOf c] := by
    unfold goTo
    rw [List.getD_eq_getElem?_getD, List.getD_eq_getElem?_getD, List.getElem?_eq_getElem hs]
    show (gs[s.toNat][a.idxOf c]?).getD 0 = _
    rw [List.getElem?_eq_getElem hi]
    rfl
  obtain ⟨b0, b1⟩ := gb _ (List.getElem_mem hi)
  exact ⟨_, List.getElem?_eq_getElem hs, by rw [e]; exact List.getElem?_eq_getElem hi, by rw [e]; exact b0, by rw [e]; exact b1⟩
def spGo (K : PySem.W.Frag) : Sp := fun vs H Q _ => ∃ (l : Addr) (a z : Str) (s : Int) (gs : List (List Int)), vs = [.ref l, .str a, .int s, .str z] ∧ Tab K H l gs ∧ gs.length ≤ 1000 ∧ a.length ≤ 4 ∧ Goals gs a.cps.toList.length ∧ a.cps.toList.Nodup ∧ 0 ≤ s ∧ s < gs.length ∧ z.length ≤ 100000 ∧
  (∀ c ∈ z.cps.toList, c ∈ a.cps.toList) ∧ Q (.int (goAll gs a.cps.toList s z.cps.toList)) H
theorem Tab.at_ {K : PySem.W.Frag} {H : Hp} {l : Addr} {gs : List (List Int)} {i : Nat} {g : List Int} (T : Tab K H l gs) (h : gs[i]? = some g) : ∃ (xs : List V) (p : Addr), SqL K H l xs ∧ xs.length = gs.length ∧ xs[i]? = some (.ref p) ∧ SqT K H p (g.map V.int) := by
  obtain ⟨ps, h1, h2, h3⟩ := T
  have hi : i < ps.length := by rw [h2]; exact (List.getElem?_eq_some_iff.mp h).1
  exact ⟨_, ps[i], h1, by rw [List.length_map]; exact h2, by rw [List.getElem?_map, List.getElem?_eq_getElem hi]; rfl, h3 i _ g (List.getElem?_eq_getElem hi) h⟩
section
variable {P : Program} {w : World} {K : PySem.W.Frag} {mg : Str → Option Value} {base : Heap}
theorem ok_led_by (T : Env K mg) : FnOk P w K mg base CX0 1 T.f_led_by T.fd_led_by ["rows", "alphabet", "state", "word"] (spGo K) := by
  refine T.F_led_by.ok sc_led_by (fun vs H Q E h => ?_) (fun cdv A outer s H vs Q E hr h => ⟨_, ((pss_cons (ps_for PassesOwn.never rfl (pi_str (pv 3)) (pg_name (i := 4) sc_led_by.nd rfl (.inl rfl))
      (pss_one (ps_set (i := 2) sc_led_by.nd rfl (.inl rfl) (pe_ix ix_tup (pe_ix ix_list (pv 0) (pv 2) (fun _ _ => rfl)) (pe_bm PySem.F.plainAttrs_str PySem.F.slot_str_index PySem.F.type_str_index mt_sindex (pv 1) (pa_cons (pv 4) pa_nil)) (fun _ _ => rfl)))))
      (pss_one (ps_ret (pv 2))))), ?_⟩)
  · obtain ⟨l, a, z, s, gs, rfl, _⟩ := h
    rfl
  · obtain ⟨l, a, z, s, gs, rfl, TB, hg, ha, G, nd, s0, s1, hz, hw, q⟩ := h
    walk_at "ss"
    refine for_it walk_str (fun i σ H' => Stp (H' = H ∧ ∃ (y : Option V), σ = [some (.ref l), some (.str a), some (.int (goAll gs a.cps.toList s (z.cps.toList.take i))), some (.str z), y] ∧ 0 ≤ goAll gs a.cps.toList s (z.cps.toList.take i) ∧ goAll gs a.cps.toList s (z.cps.toList.take i) < gs.length))
      (.mk ⟨rfl, none, rfl, s0, s1⟩) (fun _ _ _ _ _ => trivial) ?_ ?_
    · rintro i x σ H1 H2 hi hP ⟨rfl, c, hc, rfl⟩
      obtain ⟨rfl, y, rfl, p0, p1⟩ := hP.of
      rw [get_tl] at hc
      obtain ⟨g, hg1, hg2, hg3, hg4⟩ := G.at_ p0 p1 (hw c (List.mem_of_getElem? hc))
      obtain ⟨xs, p, hx, hxl, hxi, hp⟩ := TB.at_ hg1
      obtain ⟨rest, ho⟩ := index_one nd (hw c (List.mem_of_getElem? hc))
      walk_at "ss"
      refine ⟨l, xs, _, _, rfl, rfl, hx, at_nat p0 hxi, ?_⟩
      walk_at "ss"
      refine ⟨a, _, _, rest, rfl, rfl, ho, ?_⟩
      walk_at "ss"
      refine ⟨p, _, _, _, rfl, rfl, hp, atI_nat (by rw [List.getElem?_map, hg2]; rfl), ?_⟩
      have e : goAll gs a.cps.toList s (z.cps.toList.take (i + 1)) = goTo gs a.cps.toList (goAll gs a.cps.toList s (z.cps.toList.take i)) c := by
        unfold goAll
        rw [List.take_add_one, hc, Option.toList_some, List.foldl_append]
        rfl
      rw [← e] at hg3 hg4
      refine .mk ⟨rfl, some (.str ⟨#[c]⟩), ?_, hg3, hg4⟩
      rw [e]
      rfl
    · rintro σ H1 hP
      obtain ⟨rfl, y, rfl, p0, p1⟩ := hP.of
      walk_at "ss"
      rw [List.take_of_length_le (by rw [size_tl]; exact Nat.le_refl _)] at *
      exact q
end

/-! ### set(xs) of a list of ints -/
section
variable {P : Program} {w : World} {A : Around} {E : Value → Shared → Prop} {s : Shared}
abbrev emptySet (w : World) : Obj := { cls := .type "set", dict := none, data := .set #[] 0 (.fresh 0 0 (!w.params.followText "set-order")) }
theorem set_of_list {l : Addr} {its : Array Value} (ns : List Int) {Q : Value → Shared → Prop} (hh : A.handled = none) (hl : s.heap.IsList l its) (hi : IntsAre its.toList ns) (hb : ns.length + 1 < scanBound)
    (h : ∀ (h' : Heap) (tk c : Nat), SetR w h' s.heap.objs.size (fun j => decide (j ∈ ns)) c → c ≤ ns.length → (∀ b o, s.heap.get? b = some o → h'.get? b = some o) → Q (.ref s.heap.objs.size) { s with heap := h', toks := tk }) :
    wpAny (model P w) A (call (.type "set") [.ref l]) Q E s := by
  have il : its.size = ns.length := by rw [← Array.length_toList]; exact IntsAre.length hi
  obtain ⟨c, tl, g1⟩ := F.called_set.mro
  have g2 := F.called_set.made; have g3 := F.called_set.sub; have g4 := F.called_set.notType; have g5 := F.called_set.canCreate; have g6 := F.typeCall_set_1 (.ref l)
  refine wpAny_call (codeAny_of_tree (show wpAny _ _ (callAny (.type "set") _) _ _ _ from wpAny_pure ⟨Code.quiet_builtin _ (by decide +kernel), codeAny_builtin F.entry_type_call ?_⟩))
  have g7 := Around.under_plain (A := A) (weight_type_call_type "set" [.ref l] []) rfl
  rw [show A.under (Code.builtin "type.__call__" ⟨Value.type "set" :: [.ref l], []⟩) = _ from g7]
  repeat (any_goals (first | wp_step | assumption))
  refine codeAny_mono (code_set_led1 (.ref l) (E := E) (Q₁ := fun x s1 => x = .ref s.heap.objs.size ∧ s1 = { s with heap := s.heap.push (emptySet w) }) ⟨rfl, rfl⟩) fun r s1 hr => ?_
  rcases r with e | fl
  · exact hr
  cases fl with
  | ret x =>
    obtain ⟨rfl, rfl⟩ := hr
    have new : (s.heap.push (emptySet w)).get? s.heap.objs.size = some (emptySet w) := Heap.get?_push_size _ rfl
    have ty : Shared.TypeIs { s with heap := s.heap.push (emptySet w) } (.ref s.heap.objs.size) "set" := ⟨_, new, rfl⟩
    have g8 := F.called_set.init.lookup; have g9 := F.called_set.init.bind (.ref s.heap.objs.size)
    repeat (any_goals (first | wp_step | assumption))
    let R : Result → Shared → Prop := wants (fun r s2 => r = .none ∧ ∃ h' tk c, s2 = { s with heap := h', toks := tk } ∧ SetR w h' s.heap.objs.size (fun j => decide (j ∈ ns)) c ∧ c ≤ ns.length ∧ ∀ b o, s.heap.get? b = some o → h'.get? b = some o) E
    refine codeAny_mono (codeAny_call_builtin (R := R) F.called_set.init.plain F.entry_set_init (check_set_init_1 ty ?body)) fun r s2 h2 => ?fin
    case fin =>
      rcases r with e | fl
      · exact h2
      cases fl with
      | ret v =>
        obtain ⟨rfl, h', tk, c, rfl, S, cn, kp⟩ := h2
        refine wpAny_pure ?_
        repeat (any_goals (first | wp_step | assumption))
        exact h h' tk c S cn kp
      | next => exact h2.elim
      | brk => exact h2.elim
      | cont => exact h2.elim
    case body =>
      obtain ⟨o, ho, hc, m, hd⟩ := hl
      have keep : ∀ c u, s.heap.get? c = some u → (s.heap.push (emptySet w)).get? c = some u := fun c u e => Heap.get?_push_of_some _ e
      have L1 : (s.heap.push (emptySet w)).IsList l its := ⟨o, keep _ _ ho, hc, m, hd⟩
      obtain ⟨oc, od, odat, osl⟩ := o
      obtain rfl : oc = .type "list" := hc
      obtain rfl : odat = .seq its m := hd
      have ho2 := keep _ _ ho
      have k1 := F.sub_list_set
      have k2 := F.sub_list_frozenset
      have k3 : (Value.type "list" == Value.type "dict") = false := by decide
      unfold Builtin.«set.__init__» noKeywords Builtin.Frozenset.updateFrom
      generalize ep : pyIter = f
      wp_walk
      subst ep
      refine wpAny_pyIter_list L1 ?_
      refine wpAny_bind (wpAny_runValue ?_)
      have z1 : (s.heap.push (emptySet w)).objs.size = s.heap.objs.size + 1 := Heap.size_push ..
      have lS : l < s.heap.objs.size := Heap.lt_size ho
      have h3 : A.in1.in1.in1.handled = none := by simp [hh]
      have dI : l ≠ (s.heap.push (emptySet w)).objs.size := by rw [z1]; exact Nat.ne_of_lt (Nat.lt_succ_of_lt lS)
      have dS : s.heap.objs.size ∉ [(s.heap.push (emptySet w)).objs.size, l] := by
        rw [z1]
        simp only [List.mem_cons, List.not_mem_nil, or_false, not_or]
        exact ⟨Nat.ne_of_lt (Nat.lt_succ_self _), Nat.ne_of_gt lS⟩
      have val : ∀ (i : Nat) (v : Value), its[i]? = some v → ∃ k t, ns[i]? = some k ∧ v = .int k t := fun i v hv => by
        have hl2 : i < ns.length := by rw [← il]; exact (Array.getElem?_eq_some_iff.mp hv).1
        obtain ⟨t, e⟩ := PyProof.Rows.IntsAre.int_at hi i v (by rw [Array.getElem?_toList]; exact hv)
        exact ⟨ns[i], t, List.getElem?_eq_getElem hl2, by rw [e, List.getD_eq_getElem?_getD, List.getElem?_eq_getElem hl2]; rfl⟩
      refine set_update_ints ((Walks.list h3 _ l dI its).toS) s.heap.objs.size dS ns il hb val (its.size - 0) 0 _ (by omega) (Nat.zero_le _) ?st ?s0 ?out
      case st => exact ⟨⟨_, Heap.get?_push_size _ rfl, rfl, rfl⟩, L1.push _⟩
      case s0 => exact ⟨0, Nat.le_refl 0, setR_new_at (Heap.get?_push_of_some _ new)⟩
      case out =>
        rintro ⟨h', g', d', tk', os'⟩ c' mv cn S
        obtain rfl : g' = s.gens := mv.gens
        obtain rfl : d' = s.drawn := mv.drawn
        obtain rfl : os' = s.os := mv.os
        refine wpAny_pure (wpAny_pure ⟨rfl, h', tk', c', rfl, S, by rw [← il]; exact cn, fun b o e => ?_⟩)
        have b0 : b < s.heap.objs.size := Heap.lt_size e
        refine mv.heap b o ?_ (Heap.get?_push_of_some _ (keep b o e))
        intro hm
        rcases List.mem_cons.mp hm with z | z
        · exact Nat.ne_of_lt b0 z
        · have z := List.mem_singleton.mp z
          have z : b = (s.heap.push (emptySet w)).objs.size := z
          rw [z1] at z
          exact absurd z (Nat.ne_of_lt (Nat.lt_succ_of_lt b0))
  | next => exact hr.elim
  | brk => exact hr.elim
  | cont => exact hr.elim
end

section
variable {X : Cx}
/-- set(xs), a short list of ints -/
def rSetL (K : PySem.W.Frag) (w : World) : List V → Hp → VK → Prop := fun vs H Q => ∃ (a : Addr) (ns : List Int), vs = [.ref a] ∧ SqL K H a (ns.map V.int) ∧ ns.length ≤ 60 ∧
  ∀ p c, c ≤ ns.length → H p = none → Q (.ref p) (upd H p (SetO w p (fun j => decide (j ∈ ns)) c))
theorem cr_setL (hc : X.calm = true) : CallR X (.type "set") (rSetL X.K X.w) := by
  intro pins s σ H vs us Q I r h
  obtain ⟨a, ns, rfl, hs, hl, q⟩ := h
  obtain ⟨its, rv, hL, hz⟩ := I.list hs
  rw [Vals.ref1 r]
  refine set_of_list ns (I.ok.hd hc) hL.isList rv.ints (by unfold scanBound; omega) fun h' tk c R cn k => ?_
  exact ⟨.ref _, upd H s.heap.objs.size (SetO X.w s.heap.objs.size (fun j => decide (j ∈ ns)) c), I.laid (t' := tk) k (Nat.le_refl _) (setO_new R), rfl, q _ c cn (I.hok.fresh (Nat.le_refl _))⟩
end

/-! ### machines -/
theorem Tab.same {K : PySem.W.Frag} {H H' : Hp} {l : Addr} {gs : List (List Int)} (T : Tab K H l gs) (s : Same H H') : Tab K H' l gs := by
  obtain ⟨ps, h1, h2, h3⟩ := T
  exact ⟨ps, s.seq h1, h2, fun i p g e1 e2 => same_tup s (h3 i p g e1 e2)⟩
/-- the fields of a machine -/
def machF (al : Str) (l : Addr) (s : Int) : List (Str × V) := [("_alphabet", .str al), ("_rows", .ref l), ("_start", .int s), ("_accepts", .non)]
structure MachAt (K : PySem.W.Frag) (C : Addr) (H : Hp) (m : Addr) (al : Str) (gs : List (List Int)) (s : Int) : Prop where
  at_ : ∃ dx l, H m = some (.ins C dx (machF al l s)) ∧ Tab K H l gs
  alpha : Alpha al.cps.toList
  goals : Goals gs al.cps.toList.length
  many : 1 ≤ gs.length ∧ gs.length ≤ 1000
  beg : 0 ≤ s ∧ s < gs.length
theorem MachAt.same {K : PySem.W.Frag} {C : Addr} {H H' : Hp} {m : Addr} {al : Str} {gs : List (List Int)} {s : Int} (M : MachAt K C H m al gs s) (e : Same H H') : MachAt K C H' m al gs s := by
  obtain ⟨dx, l, h1, h2⟩ := M.at_
  exact ⟨⟨dx, l, e _ _ h1, h2.same e⟩, M.alpha, M.goals, M.many, M.beg⟩
theorem Alpha.nodup {l : List Nat} (h : Alpha l) : l.Nodup := h.2.2.2.imp fun h => Nat.ne_of_lt h
theorem seq_ne {K : PySem.W.Frag} {H : Hp} {a x : Addr} {xs : List V} {o : HO} (h : SqL K H a xs) (n : a ≠ x) : SqL K (upd H x o) a xs := by
  rcases h with (h | ⟨u, h⟩) | h
  · exact .inl (.inl (by rw [upd_ne n]; exact h))
  · exact .inl (.inr ⟨u, by rw [upd_ne n]; exact h⟩)
  · exact .inr h
theorem tup_but {K : PySem.W.Frag} {H H' : Hp} {a x C dx : Addr} {fs : List (Str × V)} {xs : List V} (e : H x = some (.ins C dx fs)) (k : ∀ c o, c ≠ x → H c = some o → H' c = some o) (h : SqT K H a xs) : SqT K H' a xs := by
  have no : ∀ {u : HO}, H a = some u → u ≠ .ins C dx fs → a ≠ x := fun {u} h n z => by
    rw [z, e] at h
    exact n (Option.some.inj h).symm
  rcases h with (h | ⟨u, h⟩) | h
  · exact .inl (.inl (k _ _ (no h (by intro z; cases z)) h))
  · exact .inl (.inr ⟨u, k _ _ (no h (by intro z; cases z)) h⟩)
  · exact .inr h
theorem tru_list {K : PySem.W.Frag} {H : Hp} {a : Addr} {xs : List V} (h : SqL K H a xs) (n : 1 ≤ xs.length) : TruV K (.ref a) H true := by
  refine .inl ⟨xs, h, ?_⟩
  cases xs with
  | nil => simp at n
  | cons => rfl

theorem hr_dict {k : Nat} {A : Around} (r : Room k A) : A.units + 1 < cLine := by
  have := r.units
  omega
/-- the reachable states with their last steps, in the order of their first words -/
def spSteps (K : PySem.W.Frag) : Sp := fun vs H Q _ => ∃ (r : Addr) (s0 : Int) (gs : List (List Int)), vs = [.ref r, .int s0] ∧ Tab K H r gs ∧ gs.length ≤ 1000 ∧ (∀ g ∈ gs, g.length ≤ 4 ∧ ∀ x ∈ g, 0 ≤ x ∧ x < gs.length) ∧ 0 ≤ s0 ∧ s0 < gs.length ∧
  ∀ D d H', (bfsE gs s0 d).length = d → DictIs H' D (bfsE gs s0 d) → H D = none → Same H H' → Q (.ref D) H'
section
variable {P : Program} {w : World} {K : PySem.W.Frag} {mg : Str → Option Value} {base : Heap}
theorem ok_first_steps (T : Env K mg) : FnOk P w K mg base CX0 1 T.f_first_steps T.fd_first_steps ["rows", "start"] (spSteps K) := by
  refine T.F_first_steps.ok sc_first_steps (fun vs H Q E h => ?_) (fun cdv A outer s H vs Q E hr h => ⟨_, ((pss_cons (ps_set (i := 2) sc_first_steps.nd rfl (.inl rfl) (pe_disp (pps_cons (pv 1) pe_non pps_nil) rfl rfl (by intro z; cases z) (by decide)))
      (pss_cons (ps_set (i := 3) sc_first_steps.nd rfl (.inl rfl) (pe_lst (pa_cons (pv 1) pa_nil)))
      (pss_cons (ps_while PassesOwn.never (pt_truth (pv 3) (by intro _; rfl))
      (pss_cons (ps_set (i := 4) sc_first_steps.nd rfl (.inl rfl) (pe_lst pa_nil))
      (pss_cons (ps_for PassesOwn.never rfl (pi_list (pv 3)) (pg_name (i := 5) sc_first_steps.nd rfl (.inl rfl))
      (pss_one (ps_for PassesOwn.never rfl (pi_enumA (by rfl) T.z_enumerate (pa_cons (pe_ix ix_list (pv 0) (pv 5) (fun _ _ => rfl)) pa_nil)) (pg_tup (by rfl) (pgs_cons (pg_name (i := 6) sc_first_steps.nd rfl (.inl rfl)) (pgs_cons (pg_name (i := 7) sc_first_steps.nd rfl (.inl rfl)) pgs_nil)))
      (pss_one (ps_if (pt_cmp (pc_dnotin (hr_dict hr) (pv 7) (pv 2)))
      (pss_cons (ps_dput (hr_dict hr) (pv 2) (pv 7) (pe_tup (pa_cons (pv 5) (pa_cons (pv 6) pa_nil))) (by rfl))
      (pss_one (ps_expr (pe_bm PySem.F.plainAttrs_list PySem.F.slot_list_append PySem.F.type_list_append mt_append (pv 4) (pa_cons (pv 7) pa_nil)))))
      pss_nil)))))
      (pss_one (ps_set (i := 3) sc_first_steps.nd rfl (.inl rfl) (pv 4))))))
      (pss_one (ps_ret (pv 2))))))), ?_⟩)
  · obtain ⟨r, s0, gs, rfl, _⟩ := h
    rfl
  · obtain ⟨r, s0, gs, rfl, TB, hn, hg, h0, h1, q⟩ := h
    have good := bfsE_good h0 h1 (fun g hm => (hg g hm).2)
    walk_at "ss"
    intro D hD
    walk_at "ss"
    refine ⟨upd_same, [(Sum.inl s0, V.non)], rfl, (by show 1 ≤ 15; decide), ?_⟩
    have sD : Same H (upd (upd H D (.dK [])) D (.dK (mergeK [] [(Sum.inl s0, V.non)]))) := same_mut (same_upd hD) hD
    have DI : DictIs (upd (upd H D (.dK [])) D (.dK (mergeK [] [(Sum.inl s0, V.non)]))) D (bfsE gs s0 0) := ⟨_, upd_same, rfl, fun i e he => by
      match i, he with
      | 0, he =>
        cases he
        exact ⟨.non, rfl, rfl⟩
      | i + 1, he => simp [bfsE] at he⟩
    generalize upd (upd H D (.dK [])) D (.dK (mergeK [] [(Sum.inl s0, V.non)])) = G0 at *
    walk_at "ss"
    intro L0 hL0
    have s1 := same_upd (o := .lst [.int s0]) hL0
    walk_at "ss"
    refine ⟨fun m σ G => ∃ (d : Nat) (L : Addr) (y4 y5 y6 y7 : Option V), m = gs.length - d ∧ σ = [some (.ref r), some (.int s0), some (.ref D), some (.ref L), y4, y5, y6, y7] ∧ Same H G ∧ DictIs G D (bfsE gs s0 d) ∧ d ≤ (bfsE gs s0 d).length ∧
      G L = some (.lst (((bfsE gs s0 d).drop d).map fun e => V.int e.1)), ⟨_, 0, L0, none, none, none, none, rfl, rfl, sD.trans s1, DI.same s1, Nat.zero_le _, upd_same⟩, ?_⟩
    clear DI s1 hL0 sD
    rintro m σ G ⟨d, L, y4, y5, y6, y7, rfl, rfl, sG, DG, dl, hL⟩
    have few := (good d).few
    by_cases he : (bfsE gs s0 d).length = d
    · refine ⟨_, rfl, false, .inl ⟨_, SqL.of hL, ?_⟩, ?_⟩
      · rw [List.drop_of_length_le (by omega)]
        rfl
      · walk_at "ss"
        exact q D d G he DG hD sG
    · refine ⟨_, rfl, true, .inl ⟨_, SqL.of hL, ?_⟩, ?_⟩
      · cases hq : (bfsE gs s0 d).drop d with
        | nil =>
          have := List.drop_eq_nil_iff.mp hq
          omega
        | cons => rfl
      refine iteT ?_
      refine ⟨fun σ' G' => ∃ (d' : Nat) (L : Addr) (y4 y5 y6 y7 : Option V), d < d' ∧ σ' = [some (.ref r), some (.int s0), some (.ref D), some (.ref L), y4, y5, y6, y7] ∧ Same H G' ∧ DictIs G' D (bfsE gs s0 d') ∧ d' ≤ (bfsE gs s0 d').length ∧
        G' L = some (.lst (((bfsE gs s0 d').drop d').map fun e => V.int e.1)), ?_, ?_⟩
      · rintro σ' G' ⟨d', L', z4, z5, z6, z7, dd, e1, e2, e3, e4, e5⟩
        exact ⟨gs.length - d', by omega, d', L', z4, z5, z6, z7, rfl, e1, e2, e3, e4, e5⟩
      walk_at "ss"
      intro Fr hFr
      have s2 := same_upd (o := .lst []) hFr
      have HFr := sG.free hFr
      have LFr : L ≠ Fr := ne_of_none hL hFr
      have DFr : D ≠ Fr := by
        obtain ⟨kvs, hk, _⟩ := DG
        exact ne_of_none hk hFr
      have LD : L ≠ D := by
        obtain ⟨kvs, hk, _⟩ := DG
        intro z
        rw [z, hk] at hL
        cases hL
      walk_at "ss"
      have len : (((bfsE gs s0 d).drop d).map fun e => V.int e.1).length = (bfsE gs s0 d).length - d := by rw [List.length_map, List.length_drop]
      refine ⟨⟨_, SqL.of (s2 _ _ hL)⟩, ?_⟩
      refine for_it (walk_list (K := K) (a := L)) (fun i σ' G' => Stp (∃ y5 y6 y7 : Option V, σ' = [some (.ref r), some (.int s0), some (.ref D), some (.ref L), some (.ref Fr), y5, y6, y7] ∧ Same H G' ∧ DictIs G' D (bfsE gs s0 (d + i)) ∧
        G' L = some (.lst (((bfsE gs s0 d).drop d).map fun e => V.int e.1)) ∧ G' Fr = some (.lst (((bfsE gs s0 (d + i)).drop (bfsE gs s0 d).length).map fun e => V.int e.1))))
        (.mk ⟨_, _, _, rfl, sG.trans s2, DG.same s2, s2 _ _ hL, by rw [Nat.add_zero, List.drop_length]; exact upd_same⟩) (fun i σ' G' _ h => by
          obtain ⟨_, _, _, _, _, _, h4, _⟩ := h.of
          exact SqL.of h4) ?_ ?_
      · rintro i x σ' G1 G2 hi hP ⟨rfl, hx⟩
        obtain ⟨z5, z6, z7, rfl, sG1, DG1, hL1, hF1⟩ := hP.of
        clear hP
        rw [len] at hi
        obtain ⟨e, he1, rfl⟩ : ∃ e, (bfsE gs s0 d)[d + i]? = some e ∧ x = V.int e.1 := by
          have hx : (((bfsE gs s0 d).drop d).map fun e => V.int e.1)[i]? = some x := hx
          rw [List.getElem?_map, List.getElem?_drop] at hx
          cases hq : (bfsE gs s0 d)[d + i]? with
          | none => rw [hq] at hx; cases hx
          | some e =>
            rw [hq] at hx
            exact ⟨e, rfl, (Option.some.inj hx).symm⟩
        obtain ⟨x1, hx1⟩ := bfsE_more gs s0 d i
        have he2 : (bfsE gs s0 (d + i))[d + i]? = some e := by
          rw [hx1, List.getElem?_append_left (by omega)]
          exact he1
        have hstep := bfsE_at he2
        obtain ⟨b0, b1⟩ := (good (d + i)).2 e (List.mem_of_getElem? he2)
        obtain ⟨g, hgg⟩ : ∃ g, gs[e.1.toNat]? = some g := ⟨_, List.getElem?_eq_getElem (by omega)⟩
        have hrow : rowOf gs e.1 = g := by
          unfold rowOf
          rw [List.getD_eq_getElem?_getD, hgg]
          rfl
        rw [hrow] at hstep
        obtain ⟨gl, gb⟩ := hg g (List.mem_of_getElem? hgg)
        obtain ⟨xs, p, hxs, hxl, hxi, hp⟩ := (TB.same sG1).at_ hgg
        have cl : (bfsE gs s0 d).length ≤ (bfsE gs s0 (d + i)).length := by rw [hx1, List.length_append]; omega
        walk_at "ss"
        refine ⟨r, _, e.1, _, rfl, rfl, hxs, at_nat b0 hxi, ?_⟩
        walk_at "ss"
        refine ⟨p, _, rfl, .inr ⟨hp, ?_⟩⟩
        refine for_it (walk_enumT (K := K) (a := p)) (fun k σ' G' => Stp (∃ y6 y7 : Option V, σ' = [some (.ref r), some (.int s0), some (.ref D), some (.ref L), some (.ref Fr), some (.int e.1), y6, y7] ∧ Same H G' ∧ DictIs G' D (addsE e.1 (bfsE gs s0 (d + i)) 0 (g.take k)) ∧
          G' L = some (.lst (((bfsE gs s0 d).drop d).map fun e => V.int e.1)) ∧ G' Fr = some (.lst (((addsE e.1 (bfsE gs s0 (d + i)) 0 (g.take k)).drop (bfsE gs s0 d).length).map fun e => V.int e.1)) ∧ SqT K G' p (g.map V.int)))
          (.mk ⟨_, _, rfl, sG1, DG1, hL1, hF1, hp⟩) (fun k σ' G' _ h => by
            obtain ⟨_, _, _, _, _, _, _, h5⟩ := h.of
            exact h5) ?_ ?_
        · rintro k y σ'' G3 G4 hk hP ⟨Tt, u, v, rfl, nT, rfl, eu, ev⟩
          obtain ⟨z6, z7, rfl, sG3, DG3, hL3, hF3, hp3⟩ := hP.of
          clear hP
          cases eu
          have ev : (g.map V.int)[k]? = some v := ev
          obtain ⟨t, ht, rfl⟩ : ∃ t, g[k]? = some t ∧ v = V.int t := by
            rw [List.getElem?_map] at ev
            cases hq : g[k]? with
            | none => rw [hq] at ev; cases ev
            | some t =>
              rw [hq] at ev
              exact ⟨t, rfl, (Option.some.inj ev).symm⟩
          have kl : k < g.length := (List.getElem?_eq_some_iff.mp ht).1
          have nx : addsE e.1 (bfsE gs s0 (d + i)) 0 (g.take (k + 1)) = addE (addsE e.1 (bfsE gs s0 (d + i)) 0 (g.take k)) e.1 k t := by
            rw [List.take_add_one, ht, Option.toList_some, addsE_snoc, List.length_take, Nat.min_eq_left (by omega), Nat.zero_add]
          obtain ⟨x2, hx2⟩ := addsE_pre e.1 (g.take k) (bfsE gs s0 (d + i)) 0
          have fl : (bfsE gs s0 d).length ≤ (addsE e.1 (bfsE gs s0 (d + i)) 0 (g.take k)).length := by rw [hx2, List.length_append]; omega
          have few3 : (addsE e.1 (bfsE gs s0 (d + i)) 0 (g.take k)).length ≤ gs.length := (GoodE.adds e.1 (g.take k) (good (d + i)) 0 fun t ht => gb t (List.mem_of_mem_take ht)).few
          have s4 : Same G3 (upd G3 Tt (.tup [.int (k : Nat), .int t])) := same_upd nT
          have DG4 := DG3.same s4
          have hL4 := s4 _ _ hL3
          have hF4 := s4 _ _ hF3
          have hp4 := same_tup s4 hp3
          refine ⟨Tt, _, rfl, .inl (.inl upd_same), rfl, _, _, rfl, _, _, rfl, rfl, ?_⟩
          generalize upd G3 Tt (.tup [.int (k : Nat), .int t]) = G4 at *
          obtain ⟨kvs, k1, k2, k3⟩ := DG4.get t
          walk_at "ss"
          refine ⟨D, _, rfl, DGet.k (k := Sum.inl t) k1, ?_⟩
          rw [k3]
          by_cases hm : t ∈ (addsE e.1 (bfsE gs s0 (d + i)) 0 (g.take k)).map Prod.fst
          · rw [decide_eq_true hm]
            walk_at "ss"
            have na : addE (addsE e.1 (bfsE gs s0 (d + i)) 0 (g.take k)) e.1 k t = addsE e.1 (bfsE gs s0 (d + i)) 0 (g.take k) := by
              unfold addE
              rw [if_pos hm]
            refine .mk ⟨_, _, rfl, sG3.trans s4, ?_, hL4, ?_, hp4⟩
            · rw [nx, na]
              exact DG4
            · rw [nx, na]
              exact hF4
          · rw [decide_eq_false hm]
            walk_at "ss"
            intro tp htp
            have s5 := same_upd (o := .tup [.int e.1, .int (k : Nat)]) htp
            obtain ⟨kvs', h1', h2', DI⟩ := (DG4.same s5).add (p := tp) (s := e.1) (k := k) upd_same hm
            have tpD : tp ≠ D := by
              obtain ⟨kv, hkv, _⟩ := DG4
              exact (ne_of_none hkv htp).symm
            walk_at "ss"
            refine ⟨D, _, rfl, DPut.k (k := Sum.inl t) h1' (szl (by omega)), ?_⟩
            have hF5 : (upd (upd G4 tp (.tup [.int e.1, .int (k : Nat)])) D (.dK (putK kvs' (Sum.inl t : Key) (.ref tp)))) Fr = some (.lst (((addsE e.1 (bfsE gs s0 (d + i)) 0 (g.take k)).drop (bfsE gs s0 d).length).map fun e => V.int e.1)) := by
              rw [upd_ne DFr.symm]
              exact s5 _ _ hF4
            walk_at "ss"
            refine ⟨.inl ⟨rfl, _, SqL.of hF5⟩, ?_⟩
            walk_at "ss"
            refine ⟨Fr, _, _, rfl, rfl, hF5, szl (by rw [List.length_map, List.length_drop]; omega), ?_⟩
            have na : addE (addsE e.1 (bfsE gs s0 (d + i)) 0 (g.take k)) e.1 k t = addsE e.1 (bfsE gs s0 (d + i)) 0 (g.take k) ++ [(t, some (e.1, k))] := by
              unfold addE
              rw [if_neg hm]
            refine .mk ⟨_, _, rfl, same_mut (same_mut ((sG3.trans s4).trans s5) hD) HFr, ?_, ?_, ?_, ?_⟩
            · rw [nx]
              exact DI.put hF5
            · rw [upd_ne LFr, upd_ne LD]
              exact s5 _ _ hL4
            · rw [upd_same, nx, na, List.drop_append_of_le_length fl, List.map_append]
              rfl
            · have a1 := same_tup s5 hp4
              rcases a1 with (a1 | ⟨o, a1⟩) | a1
              · exact .inl (.inl (by rw [upd_ne (fun z => by rw [z, s5 _ _ hF4] at a1; cases a1), upd_ne (fun z => by rw [z, h1'] at a1; cases a1)]; exact a1))
              · exact .inl (.inr ⟨o, by rw [upd_ne (fun z => by rw [z, s5 _ _ hF4] at a1; cases a1), upd_ne (fun z => by rw [z, h1'] at a1; cases a1)]; exact a1⟩)
              · exact .inr a1
        · rintro σ'' G3 hP
          obtain ⟨z6, z7, rfl, sG3, DG3, hL3, hF3, hp3⟩ := hP.of
          rw [List.take_of_length_le (by rw [List.length_map]; omega)] at DG3 hF3
          rw [List.length_map] at *
          exact .mk ⟨_, _, _, rfl, sG3, by rw [← Nat.add_assoc, hstep]; exact DG3, hL3, by rw [← Nat.add_assoc, hstep]; exact hF3⟩
      · rintro σ' G1 hP
        obtain ⟨z5, z6, z7, rfl, sG1, DG1, hL1, hF1⟩ := hP.of
        rw [len] at DG1 hF1
        rw [show d + ((bfsE gs s0 d).length - d) = (bfsE gs s0 d).length by omega] at DG1 hF1
        walk_at "ss"
        refine ⟨(bfsE gs s0 d).length, Fr, _, _, _, _, by omega, rfl, sG1, DG1, ?_, hF1⟩
        obtain ⟨x, hx⟩ := bfsE_more gs s0 d ((bfsE gs s0 d).length - d)
        rw [show d + ((bfsE gs s0 d).length - d) = (bfsE gs s0 d).length by omega] at hx
        rw [hx, List.length_append]
        omega
end

/-! ### the reachable states -/
theorem DictIs.keys {H : Hp} {D : Addr} {F : Ent} (h : DictIs H D F) : ∃ kvs, H D = some (.dK kvs) ∧ kvs.length = F.length ∧ (kvs.map fun kv => kV kv.1) = (F.map Prod.fst).map V.int := by
  obtain ⟨kvs, h1, h2, h3⟩ := h
  refine ⟨kvs, h1, h2, List.ext_getElem (by simp [h2]) fun i a b => ?_⟩
  have hi : i < F.length := by simpa using b
  obtain ⟨v, hv, _⟩ := h3 i F[i] (List.getElem?_eq_getElem hi)
  have hk : i < kvs.length := by omega
  rw [List.getElem?_eq_getElem hk] at hv
  simp only [List.getElem_map]
  rw [Option.some.inj hv]
  rfl
/-- the reachable states, ascending -/
def spReach (K : PySem.W.Frag) (C : Addr) : Sp := fun vs H Q _ => ∃ (m : Addr) (al : Str) (gs : List (List Int)) (s : Int), vs = [.ref m] ∧ MachAt K C H m al gs s ∧
  ∀ (p : Addr) (d : Nat) (ns : List Int) (H' : Hp), (bfsE gs s d).length = d → ns.Perm ((bfsE gs s d).map Prod.fst) → ns.Pairwise (· ≤ ·) → H p = none → Same H H' → H' p = some (.lst (ns.map V.int)) → Q (.ref p) H'
section
variable {P : Program} {w : World} {K : PySem.W.Frag} {mg : Str → Option Value} {base : Heap}
theorem ok_Machine_reachable (T : Env K mg) : FnOk P w K mg base CX0 2 T.f_Machine_reachable T.fd_Machine_reachable ["self"] (spReach K T.C_Machine) := by
  refine T.F_Machine_reachable.ok sc_Machine_reachable (fun vs H Q E h => ?_) (fun cdv A outer s H vs Q E hr h => ⟨_, ((pss_one (ps_ret (pe_callB cr_sortedI (by rfl) T.z_sorted (by decide +kernel) (pa_cons (pe_callTy (call_list_dK rfl) (by rfl) T.z_list (by decide +kernel) (pa_cons (pe_call (ok_first_steps T) (hr.mono (by decide)) (by rfl) T.g_first_steps T.F_first_steps.kp T.b_first_steps .nil pass0 (pa_cons (pe_fld (pv 0) rfl) (pa_cons (pe_fld (pv 0) rfl) pa_nil))) pa_nil)) pa_nil))))), ?_⟩)
  · obtain ⟨m, al, gs, s, rfl, _⟩ := h
    rfl
  · obtain ⟨m, al, gs, s, rfl, M, q⟩ := h
    obtain ⟨dx, l, h1, ht⟩ := M.at_
    walk_at "ss"
    first | refine ⟨m, T.C_Machine, dx, _, _, rfl, h1, T.cl_Machine, T.n_Machine__rows, rfl, ?_⟩ | refine ⟨_, rfl, m, T.C_Machine, dx, _, _, rfl, h1, T.cl_Machine, T.n_Machine__rows, rfl, ?_⟩
    first | refine ⟨m, T.C_Machine, dx, _, _, rfl, h1, T.cl_Machine, T.n_Machine__start, rfl, ?_⟩ | refine ⟨_, rfl, m, T.C_Machine, dx, _, _, rfl, h1, T.cl_Machine, T.n_Machine__start, rfl, ?_⟩
    walk_at "ss"
    refine ⟨l, s, gs, rfl, ht, M.many.2, fun g hg => ⟨?_, (M.goals g hg).2⟩, M.beg.1, M.beg.2, fun D d G hd DG hD sG => ?_⟩
    · rw [(M.goals g hg).1]
      exact M.alpha.2.1
    obtain ⟨kvs, k1, k2, k3⟩ := DG.keys
    walk_at "ss"
    intro a ha
    walk_at "ss"
    refine ⟨a, (bfsE gs s d).map Prod.fst, rfl, SqL.of (by rw [upd_same, k3]), fun ns p pm pw hp => ?_⟩
    walk_at "ss"
    have s1 := sG.trans (same_upd (o := .lst (kvs.map fun kv => kV kv.1)) ha)
    exact q p d ns _ hd pm pw (s1.free hp) (s1.trans (same_upd hp)) upd_same
end

/-! ### the same walk with the words -/
abbrev Wrd := List (Int × List Nat)
def addW (W : Wrd) (u : List Nat) (c : Nat) (t : Int) : Wrd := if t ∈ W.map Prod.fst then W else W ++ [(t, u ++ [c])]
def addsW (al u : List Nat) : Wrd → Nat → List Int → Wrd
  | W, _, [] => W
  | W, k, t :: r => addsW al u (addW W u (al.getD k 0) t) (k + 1) r
def bfsW (gs : List (List Int)) (al : List Nat) (s0 : Int) : Nat → Wrd
  | 0 => [(s0, [])]
  | d + 1 => match (bfsW gs al s0 d)[d]? with
    | some e => addsW al e.2 (bfsW gs al s0 d) 0 (rowOf gs e.1)
    | none => bfsW gs al s0 d
/-- the last letter of a word, and where the word without it stands -/
def LastOf (al : List Nat) (W : Wrd) (i : Nat) (w : List Nat) : Option (Int × Nat) → Prop
  | none => w = []
  | some (p, k) => ∃ j u, j < i ∧ W[j]? = some (p, u) ∧ w = u ++ [al.getD k 0]
structure Words (al : List Nat) (F : Ent) (W : Wrd) : Prop where
  len : W.length = F.length
  at_ : ∀ (i : Nat) (e : Int × Option (Int × Nat)), F[i]? = some e → ∃ w, W[i]? = some (e.1, w) ∧ LastOf al W i w e.2
theorem LastOf.more {al : List Nat} {W : Wrd} {i : Nat} {w : List Nat} {o : Option (Int × Nat)} (h : LastOf al W i w o) (x : Wrd) : LastOf al (W ++ x) i w o := by
  match o, h with
  | none, h => exact h
  | some (p, k), ⟨j, u, a, b, c⟩ => exact ⟨j, u, a, by rw [List.getElem?_append_left (List.getElem?_eq_some_iff.mp b).1]; exact b, c⟩
theorem Words.fst {al : List Nat} {F : Ent} {W : Wrd} (h : Words al F W) : W.map Prod.fst = F.map Prod.fst := by
  refine List.ext_getElem (by simp [h.len]) fun i a b => ?_
  have hi : i < F.length := by simpa using b
  have hw : i < W.length := by simpa using a
  obtain ⟨w, hv, _⟩ := h.at_ i F[i] (List.getElem?_eq_getElem hi)
  rw [List.getElem?_eq_getElem hw] at hv
  simp only [List.getElem_map]
  rw [Option.some.inj hv]
theorem Words.add {al : List Nat} {F : Ent} {W : Wrd} (h : Words al F W) {s : Int} {u : List Nat} {j : Nat} (hj : W[j]? = some (s, u)) (k : Nat) (t : Int) : Words al (addE F s k t) (addW W u (al.getD k 0) t) := by
  unfold addE addW
  rw [h.fst]
  split
  · exact h
  · refine ⟨by simp [h.len], fun i e a => ?_⟩
    by_cases hi : i < F.length
    · rw [List.getElem?_append_left hi] at a
      obtain ⟨w, b, c⟩ := h.at_ i e a
      exact ⟨w, by rw [List.getElem?_append_left (by rw [h.len]; exact hi)]; exact b, c.more _⟩
    · have hi2 : i = F.length := by
        have := (List.getElem?_eq_some_iff.mp a).1
        simp at this
        omega
      subst hi2
      simp at a
      subst a
      have jl := (List.getElem?_eq_some_iff.mp hj).1
      refine ⟨u ++ [al.getD k 0], by rw [← h.len]; simp, j, u, by rw [← h.len]; exact jl, ?_, rfl⟩
      rw [List.getElem?_append_left jl]
      exact hj
theorem addW_at {W : Wrd} {u : List Nat} {c : Nat} {t s : Int} {v : List Nat} {j : Nat} (h : W[j]? = some (s, v)) : (addW W u c t)[j]? = some (s, v) := by
  unfold addW
  split
  · exact h
  · rw [List.getElem?_append_left (List.getElem?_eq_some_iff.mp h).1]
    exact h
theorem Words.adds {al u : List Nat} {s : Int} {j : Nat} : ∀ (r : List Int) {F : Ent} {W : Wrd} (_ : Words al F W) (_ : W[j]? = some (s, u)) (k : Nat), Words al (addsE s F k r) (addsW al u W k r)
  | [], _, _, h, _, _ => h
  | t :: r, _, _, h, hj, k => Words.adds r (h.add hj k t) (addW_at hj) (k + 1)
theorem bfsW_words (gs : List (List Int)) (al : List Nat) (s0 : Int) : ∀ d, Words al (bfsE gs s0 d) (bfsW gs al s0 d)
  | 0 => ⟨rfl, fun i e h => by
      match i, h with
      | 0, h =>
        cases h
        exact ⟨[], rfl, rfl⟩
      | i + 1, h => simp [bfsE] at h⟩
  | d + 1 => by
    have ih := bfsW_words gs al s0 d
    show Words al (match (bfsE gs s0 d)[d]? with | some e => addsE e.1 (bfsE gs s0 d) 0 (rowOf gs e.1) | none => bfsE gs s0 d) (match (bfsW gs al s0 d)[d]? with | some e => addsW al e.2 (bfsW gs al s0 d) 0 (rowOf gs e.1) | none => bfsW gs al s0 d)
    cases h : (bfsE gs s0 d)[d]? with
    | none =>
      have : (bfsW gs al s0 d)[d]? = none := by
        rw [List.getElem?_eq_none_iff, ih.len]
        exact List.getElem?_eq_none_iff.mp h
      rw [this]
      exact ih
    | some e =>
      obtain ⟨w, hw, _⟩ := ih.at_ d e h
      rw [hw]
      exact ih.adds _ hw 0
/-- where a word leads: each word of the walk leads to its state -/
theorem addsW_leads {gs : List (List Int)} {al : List Nat} {s0 s : Int} {u : List Nat} (nd : al.Nodup) (hu : goAll gs al s0 u = s) (g : List Int) (hg : rowOf gs s = g) (gl : g.length = al.length) :
    ∀ (r : List Int) (W : Wrd) (k : Nat), g.drop k = r → (∀ e ∈ W, goAll gs al s0 e.2 = e.1) → ∀ e ∈ addsW al u W k r, goAll gs al s0 e.2 = e.1
  | [], _, _, _, h => h
  | t :: r, W, k, hk, h => by
    have kl : k < g.length := by
      have := congrArg List.length hk
      simp at this
      omega
    have ht : g[k]? = some t := by
      have := congrArg List.head? hk
      rw [List.head?_drop] at this
      exact this
    refine addsW_leads nd hu g hg gl r _ (k + 1) (by rw [← List.drop_drop, hk]; rfl) fun e he => ?_
    unfold addW at he
    split at he
    · exact h e he
    · rcases List.mem_append.mp he with he | he
      · exact h e he
      · rw [List.mem_singleton.mp he]
        show goAll gs al s0 (u ++ [al.getD k 0]) = t
        unfold goAll at hu ⊢
        rw [List.foldl_append, hu]
        show goTo gs al s (al.getD k 0) = t
        have ka : al[k]? = some (al.getD k 0) := by
          rw [List.getD_eq_getElem?_getD, List.getElem?_eq_getElem (by omega)]
          rfl
        unfold goTo
        rw [idx_of nd ka]
        show (rowOf gs s).getD k 0 = t
        rw [hg, List.getD_eq_getElem?_getD, ht]
        rfl
theorem bfsW_leads {gs : List (List Int)} {al : List Nat} {s0 : Int} (nd : al.Nodup) (h0 : 0 ≤ s0) (h1 : s0 < gs.length) (hg : Goals gs al.length) : ∀ d, ∀ e ∈ bfsW gs al s0 d, goAll gs al s0 e.2 = e.1
  | 0, e, he => by
    rw [List.mem_singleton.mp he]
    rfl
  | d + 1, e, he => by
    have ih := bfsW_leads nd h0 h1 hg d
    revert he
    show e ∈ (match (bfsW gs al s0 d)[d]? with | some e => addsW al e.2 (bfsW gs al s0 d) 0 (rowOf gs e.1) | none => bfsW gs al s0 d) → _
    cases h : (bfsW gs al s0 d)[d]? with
    | none => exact ih e
    | some x =>
      have xm := List.mem_of_getElem? h
      have W := bfsW_words gs al s0 d
      have G := bfsE_good h0 h1 (fun g hm => (hg g hm).2) d
      have hx : 0 ≤ x.1 ∧ x.1 < gs.length := by
        have : x.1 ∈ (bfsE gs s0 d).map Prod.fst := by
          rw [← W.fst]
          exact List.mem_map.mpr ⟨x, xm, rfl⟩
        obtain ⟨y, hy, e⟩ := List.mem_map.mp this
        rw [← e]
        exact G.2 y hy
      have hl : x.1.toNat < gs.length := by omega
      have er : rowOf gs x.1 = gs[x.1.toNat] := by
        unfold rowOf
        rw [List.getD_eq_getElem?_getD, List.getElem?_eq_getElem hl]
        rfl
      exact addsW_leads nd (ih x xm) _ rfl (by rw [er]; exact (hg _ (List.getElem_mem hl)).1) _ _ 0 rfl ih e

/-! ### texts of single signs -/
abbrev sg (c : Nat) : Str := ⟨#[c]⟩
theorem rising_sg : ∀ (cs : List Nat) (p : Nat), risingS (sg p) (cs.map sg) = true → cs.Pairwise (· ≤ ·) ∧ ∀ c ∈ cs, p ≤ c
  | [], _, _ => ⟨.nil, fun _ h => nomatch h⟩
  | c :: r, p, h => by
    have h' : (!PySem.Spec.ltCps [c] [p] && risingS (sg c) (r.map sg)) = true := h
    rw [Bool.and_eq_true] at h'
    obtain ⟨h1, h2⟩ := h'
    have h3 : ¬ c < p := by
      intro hc
      simp [PySem.Spec.ltCps, hc] at h1
    obtain ⟨h4, h5⟩ := rising_sg r c h2
    refine ⟨List.pairwise_cons.mpr ⟨h5, h4⟩, fun x hx => ?_⟩
    rcases List.mem_cons.mp hx with rfl | hx
    · omega
    · have := h5 x hx
      omega
theorem sorted_sg : ∀ (cs : List Nat), sortedS (cs.map sg) = true → cs.Pairwise (· ≤ ·)
  | [], _ => .nil
  | c :: r, h => by
    obtain ⟨h4, h5⟩ := rising_sg r c h
    exact List.pairwise_cons.mpr ⟨h5, h4⟩
theorem perm_sg {ys : List Str} {cs : List Nat} (h : ys.Perm (cs.map sg)) : ∃ ds : List Nat, ds.Perm cs ∧ ys = ds.map sg := by
  refine ⟨ys.map fun y => y.cps.toList.headD 0, ?_, ?_⟩
  · have h2 := h.map fun y => y.cps.toList.headD 0
    rw [List.map_map] at h2
    have e : ((fun y : Str => y.cps.toList.headD 0) ∘ sg) = id := rfl
    rw [e, List.map_id] at h2
    exact h2
  · rw [List.map_map]
    have : ∀ y ∈ ys, (sg ∘ fun y : Str => y.cps.toList.headD 0) y = y := fun y hy => by
      obtain ⟨c, -, rfl⟩ := List.mem_map.mp (h.mem_iff.mp hy)
      rfl
    conv => lhs; rw [← List.map_id ys]
    exact (List.map_congr_left fun y hy => (this y hy)).symm
theorem joinL_sg : ∀ cs : List Nat, TL.joinL [] (cs.map fun c => [c]) = cs
  | [] => rfl
  | [c] => rfl
  | c :: d :: r => by
    show [c] ++ ([] ++ TL.joinL [] ((d :: r).map fun c => [c])) = c :: d :: r
    rw [joinL_sg (d :: r)]
    rfl
theorem join_sg (cs : List Nat) : Txt.join (Str.ofString "") (cs.map sg) = ⟨cs.toArray⟩ := by
  apply TL.ext_tl
  rw [TL.join_eq, TL.tl_join, List.map_map]
  show TL.joinL [] (cs.map fun c => [c]) = _
  rw [joinL_sg]
theorem sum_sg : ∀ cs : List Nat, ((cs.map sg).map (·.length)).sum = cs.length
  | [] => rfl
  | c :: r => by
    show 1 + ((r.map sg).map (·.length)).sum = r.length + 1
    rw [sum_sg r]
    omega
theorem rise_lt {cs : List Nat} (h : cs.Pairwise (· ≤ ·)) (n : cs.Nodup) : cs.Pairwise (· < ·) := by
  have h2 := List.pairwise_and_iff.mpr ⟨h, n⟩
  exact h2.imp fun ⟨a, b⟩ => Nat.lt_of_le_of_ne a b
theorem in_sg (c : Nat) (cs : List Nat) : inV (.str (sg c)) (cs.map fun c => V.str (sg c)) = decide (c ∈ cs) := by
  unfold inV
  rw [Bool.eq_iff_iff, List.any_map]
  simp only [List.any_eq_true, Function.comp, eqV, decide_eq_true_eq]
  constructor
  · rintro ⟨d, hd, e⟩
    have e2 : sg d = sg c := by simpa using e
    have e3 : d = c := by
      have := congrArg (fun z : Str => z.cps.toList) e2
      simpa using this
    rw [← e3]
    exact hd
  · intro h
    exact ⟨c, h, by simp⟩
theorem az_text : (Str.ofString "abcdefghijklmnopqrstuvwxyz").cps.toList = (List.range 26).map (97 + ·) := by decide +kernel
theorem az_at {i c : Nat} (h : (Str.ofString "abcdefghijklmnopqrstuvwxyz").cps[i]? = some c) : i < 26 ∧ c = 97 + i := by
  rw [get_tl, az_text, List.getElem?_map] at h
  by_cases hi : i < 26
  · rw [List.getElem?_range hi] at h
    exact ⟨hi, (Option.some.inj h).symm⟩
  · rw [List.getElem?_eq_none_iff.mpr (by simp; omega)] at h
    cases h
theorem az_size : (Str.ofString "abcdefghijklmnopqrstuvwxyz").cps.size = 26 := by decide +kernel
theorem az_len : (Str.ofString "abcdefghijklmnopqrstuvwxyz").length = 26 := by decide +kernel
theorem az_mem {c : Nat} (h : c ∈ (Str.ofString "abcdefghijklmnopqrstuvwxyz").cps.toList) : 97 ≤ c ∧ c ≤ 122 := by
  rw [az_text] at h
  obtain ⟨i, hi, rfl⟩ := List.mem_map.mp h
  have := List.mem_range.mp hi
  omega

/-! ### own errors -/
/-- what __init__ leaves of an error with one field f -/
def spErr (C : Addr) (f code : Str) : Sp := fun vs H Q _ => ∃ (a : Addr) (v : V), vs = [.ref a, v] ∧ H a = some (exo a C none) ∧
  ∀ dx H', H dx = none → dx ≠ a → H' a = some (exo a C (some dx)) → H' dx = some (exd dx [("code", .str code), (f, v)]) → (∀ c, c ≠ a → c ≠ dx → H' c = H c) → Q .non H'
theorem err_end {H : Hp} {a C dx : Addr} {f code : Str} {v : V} {Q : VK} (q : ∀ dx H', H dx = none → dx ≠ a → H' a = some (exo a C (some dx)) → H' dx = some (exd dx [("code", .str code), (f, v)]) → (∀ c, c ≠ a → c ≠ dx → H' c = H c) → Q .non H')
    (n : H dx = none) (ne : dx ≠ a) : Q .non (upd (upd (upd H dx (exd dx [(f, v)])) a (exo a C (some dx))) dx (exd dx [("code", .str code), (f, v)])) :=
  q dx _ n ne (by rw [upd_ne ne.symm, upd_same]) upd_same fun c h1 h2 => by rw [upd_ne h2, upd_ne h1, upd_ne h2]
/-- raise C(v): what stands behind it -/
theorem err_out {H : Hp} {C : Addr} {f code : Str} {v : V} {Q : XK} (q : ∀ d G, H d = none → Same H G → G d = some (.xd [("code", .str code), (f, v)]) → Q (.ref C) (some d) G) :
    ([v] : List V).length ≤ 1000 ∧ ∀ a, H a = none → spErr C f code (.ref a :: ([v] ++ [])) (upd H a (exo a C none))
      (fun u G => u = .non ∧ ∃ (d : Addr) (fs : List (Str × V)), G a = some (exo a C (some d)) ∧ G d = some (exd d fs) ∧ H d = none ∧ Q (.ref C) (some d) (upd (del G a) d (.xd fs))) (fun _ _ _ => False) := by
  refine ⟨by show 1 ≤ 1000; decide, fun a n => ⟨a, v, rfl, upd_same, fun dx G n1 ne g1 g2 g3 => ⟨rfl, dx, _, g1, g2, ?_, ?_⟩⟩⟩
  · rw [upd_ne ne] at n1
    exact n1
  · have n2 : H dx = none := by rw [upd_ne ne] at n1; exact n1
    refine q dx _ n2 (fun c o e => ?_) upd_same
    have c1 : c ≠ dx := ne_of_none e n2
    have c2 : c ≠ a := ne_of_none e n
    rw [upd_ne c1, del_ne c2, g3 c c2 c1, upd_ne c2]
    exact e
/-- what a call lets out goes on out of the def -/
theorem passE {X : Cx} {E : XK} (tk : Takes X (fun c d _ H => E c d H)) : Passes (L2.CX X.prog X.w) X E := fun pins σ H s e s' => passAt (W := fun c d _ H => E c d H) tk σ pins H s e s'
section
variable {P : Program} {w : World} {K : PySem.W.Frag} {mg : Str → Option Value} {base : Heap}
theorem ok_InvalidWord___init (T : Env K mg) : FnOk P w K mg base CX0 1 T.f_InvalidWord___init T.fd_InvalidWord___init ["self", "given"] (spErr T.C_InvalidWord "given" "InvalidWord") := by
  refine T.F_InvalidWord___init.ok sc_InvalidWord___init (fun vs H Q E h => ?_) (fun cdv A outer s H vs Q E hr h => ⟨_, ((pss_cons (ps_ost (pv 0) (pv 1))
      (pss_one (ps_ost (pv 0) pe_str)))), ?_⟩)
  · obtain ⟨a, v, rfl, _⟩ := h
    rfl
  · obtain ⟨a, v, rfl, ha, q⟩ := h
    walk_at "ss"
    refine ⟨a, T.C_InvalidWord, rfl, T.x_InvalidWord, T.n_InvalidWord_given, .inl ⟨ha, fun dx n ne => ?_⟩⟩
    walk_at "ss"
    exact ⟨a, T.C_InvalidWord, rfl, T.x_InvalidWord, T.n_InvalidWord_code, .inr ⟨dx, _, upd_same, by rw [upd_ne ne]; exact upd_same, (by show 1 ≤ 900; decide), err_end q n ne⟩⟩
theorem ok_InvalidState___init (T : Env K mg) : FnOk P w K mg base CX0 1 T.f_InvalidState___init T.fd_InvalidState___init ["self", "given"] (spErr T.C_InvalidState "given" "InvalidState") := by
  refine T.F_InvalidState___init.ok sc_InvalidState___init (fun vs H Q E h => ?_) (fun cdv A outer s H vs Q E hr h => ⟨_, ((pss_cons (ps_ost (pv 0) (pv 1))
      (pss_one (ps_ost (pv 0) pe_str)))), ?_⟩)
  · obtain ⟨a, v, rfl, _⟩ := h
    rfl
  · obtain ⟨a, v, rfl, ha, q⟩ := h
    walk_at "ss"
    refine ⟨a, T.C_InvalidState, rfl, T.x_InvalidState, T.n_InvalidState_given, .inl ⟨ha, fun dx n ne => ?_⟩⟩
    walk_at "ss"
    exact ⟨a, T.C_InvalidState, rfl, T.x_InvalidState, T.n_InvalidState_code, .inr ⟨dx, _, upd_same, by rw [upd_ne ne]; exact upd_same, (by show 1 ≤ 900; decide), err_end q n ne⟩⟩
theorem ok_InvalidSet___init (T : Env K mg) : FnOk P w K mg base CX0 1 T.f_InvalidSet___init T.fd_InvalidSet___init ["self", "given"] (spErr T.C_InvalidSet "given" "InvalidSet") := by
  refine T.F_InvalidSet___init.ok sc_InvalidSet___init (fun vs H Q E h => ?_) (fun cdv A outer s H vs Q E hr h => ⟨_, ((pss_cons (ps_ost (pv 0) (pv 1))
      (pss_one (ps_ost (pv 0) pe_str)))), ?_⟩)
  · obtain ⟨a, v, rfl, _⟩ := h
    rfl
  · obtain ⟨a, v, rfl, ha, q⟩ := h
    walk_at "ss"
    refine ⟨a, T.C_InvalidSet, rfl, T.x_InvalidSet, T.n_InvalidSet_given, .inl ⟨ha, fun dx n ne => ?_⟩⟩
    walk_at "ss"
    exact ⟨a, T.C_InvalidSet, rfl, T.x_InvalidSet, T.n_InvalidSet_code, .inr ⟨dx, _, upd_same, by rw [upd_ne ne]; exact upd_same, (by show 1 ≤ 900; decide), err_end q n ne⟩⟩
end

/-- TooMany: what __init__ leaves -/
def spMany (C : Addr) : Sp := fun vs H Q _ => ∃ (a : Addr) (u v : V), vs = [.ref a, u, v] ∧ H a = some (exo a C none) ∧
  ∀ dx H', H dx = none → dx ≠ a → H' a = some (exo a C (some dx)) → H' dx = some (exd dx [("code", .str "TooMany"), ("most", v), ("subject", u)]) → (∀ c, c ≠ a → c ≠ dx → H' c = H c) → Q .non H'
theorem many_out {H : Hp} {C : Addr} {u v : V} {Q : XK} (q : ∀ d G, H d = none → Same H G → G d = some (.xd [("code", .str "TooMany"), ("most", v), ("subject", u)]) → Q (.ref C) (some d) G) :
    ([u, v] : List V).length ≤ 1000 ∧ ∀ a, H a = none → spMany C (.ref a :: ([u, v] ++ [])) (upd H a (exo a C none))
      (fun u G => u = .non ∧ ∃ (d : Addr) (fs : List (Str × V)), G a = some (exo a C (some d)) ∧ G d = some (exd d fs) ∧ H d = none ∧ Q (.ref C) (some d) (upd (del G a) d (.xd fs))) (fun _ _ _ => False) := by
  refine ⟨by show 2 ≤ 1000; decide, fun a n => ⟨a, u, v, rfl, upd_same, fun dx G n1 ne g1 g2 g3 => ⟨rfl, dx, _, g1, g2, ?_, ?_⟩⟩⟩
  · rw [upd_ne ne] at n1
    exact n1
  · have n2 : H dx = none := by rw [upd_ne ne] at n1; exact n1
    refine q dx _ n2 (fun c o e => ?_) upd_same
    have c1 : c ≠ dx := ne_of_none e n2
    have c2 : c ≠ a := ne_of_none e n
    rw [upd_ne c1, del_ne c2, g3 c c2 c1, upd_ne c2]
    exact e
section
variable {P : Program} {w : World} {K : PySem.W.Frag} {mg : Str → Option Value} {base : Heap}
theorem ok_TooMany___init (T : Env K mg) : FnOk P w K mg base CX0 1 T.f_TooMany___init T.fd_TooMany___init ["self", "subject", "most"] (spMany T.C_TooMany) := by
  refine T.F_TooMany___init.ok sc_TooMany___init (fun vs H Q E h => ?_) (fun cdv A outer s H vs Q E hr h => ⟨_, ((pss_cons (ps_ost (pv 0) (pv 1))
      (pss_cons (ps_ost (pv 0) (pv 2))
      (pss_one (ps_ost (pv 0) pe_str))))), ?_⟩)
  · obtain ⟨a, u, v, rfl, _⟩ := h
    rfl
  · obtain ⟨a, u, v, rfl, ha, q⟩ := h
    walk_at "ss"
    refine ⟨a, T.C_TooMany, rfl, T.x_TooMany, T.n_TooMany_subject, .inl ⟨ha, fun dx n ne => ?_⟩⟩
    walk_at "ss"
    refine ⟨a, T.C_TooMany, rfl, T.x_TooMany, T.n_TooMany_most, .inr ⟨dx, _, upd_same, by rw [upd_ne ne]; exact upd_same, (by show 1 ≤ 900; decide), ?_⟩⟩
    walk_at "ss"
    refine ⟨a, T.C_TooMany, rfl, T.x_TooMany, T.n_TooMany_code, .inr ⟨dx, _, by rw [upd_ne ne.symm]; exact upd_same, upd_same, (by show 2 ≤ 900; decide), ?_⟩⟩
    exact q dx _ n ne (by rw [upd_ne ne.symm, upd_ne ne.symm, upd_same]) upd_same fun c h1 h2 => by rw [upd_ne h2, upd_ne h2, upd_ne h1, upd_ne h2]
end

def intD : PyData → Int
  | .int i => i
  | _ => 0
def ascD (ds : List PyData) : Bool := (List.range (ds.length - 1)).all fun i => decide (intD (ds.getD i .none) < intD (ds.getD (i + 1) .none))
theorem inV_ints (i : Int) (l : List Int) : inV (.int i) (l.map V.int) = decide (i ∈ l) := by
  unfold inV
  rw [Bool.eq_iff_iff, List.any_map]
  simp only [List.any_eq_true, Function.comp, eqV, decide_eq_true_eq]
  constructor
  · rintro ⟨d, hd, e⟩
    have e2 : d = i := by simpa using e
    rw [← e2]
    exact hd
  · intro h
    exact ⟨i, h, by simp⟩

/-! ### sets of states, any values -/
def inD (ns : List Int) : PyData → Bool
  | .int i => decide (0 ≤ i) && decide (i ∈ ns)
  | _ => false
def setD (ns : List Int) : PyData → Bool
  | .tuple ds => !ds.isEmpty && (ds.all (inD ns) && ascD ds)
  | _ => false
theorem inD_int {ns : List Int} {d : PyData} (h : inD ns d = true) : d = .int (intD d) := by
  cases d <;> first | rfl | cases h
theorem flat_intsD : ∀ l : List Int, (l.map V.int).all flatV = true
  | [] => rfl
  | _ :: l => flat_intsD l
def spSetOf (K : PySem.W.Frag) : Sp := fun vs H Q _ => ∃ (v : V) (p : Addr) (d : PyData) (ns : List Int), vs = [v, .ref p] ∧ Dp K H v d ∧ SqL K H p (ns.map V.int) ∧ ns.length ≤ 1000 ∧ (∀ ds, d = .tuple ds → ds.length ≤ 1000) ∧ ∀ H', Same H H' → Q (.bl (setD ns d)) H'
section
variable {P : Program} {w : World} {K : PySem.W.Frag} {mg : Str → Option Value} {base : Heap}
theorem num_ways {K : PySem.W.Frag} {H : Hp} {v : V} {d : PyData} (h : Dp K H v d) : (∃ i, v = .int i ∧ d = .int i) ∨ (∃ b, v = .bl b ∧ ∀ ns, inD ns d = false) ∨ (NoInt K H v ∧ ∀ ns, inD ns d = false) := by
  cases h with
  | non => exact .inr (.inr ⟨⟨"NoneType", .base .non, by decide +kernel⟩, fun _ => rfl⟩)
  | bl b => exact .inr (.inl ⟨b, rfl, fun _ => rfl⟩)
  | int i => exact .inl ⟨i, rfl, rfl⟩
  | str x => exact .inr (.inr ⟨⟨"str", .base (.str x), by decide +kernel⟩, fun _ => rfl⟩)
  | lst h1 h2 => exact .inr (.inr ⟨⟨"list", tyx_list h1, by decide +kernel⟩, fun _ => rfl⟩)
  | tup h1 h2 => exact .inr (.inr ⟨⟨"tuple", tyx_tup h1, by decide +kernel⟩, fun _ => rfl⟩)
theorem ok_is_set_of (T : Env K mg) : FnOk P w K mg base CX0 3 T.f_is_set_of T.fd_is_set_of ["value", "states"] (spSetOf K) := by
  refine T.F_is_set_of.ok sc_is_set_of (fun vs H Q E h => ?_) (fun cdv A outer s H vs Q E hr h => ⟨_, ((pss_cons (ps_if (PW.pt (pw_or (pt_not (pt_val (pe_callB call_isi (by rfl) T.z_isinstance (by decide +kernel) (pa_cons (pv 0) (pa_cons (pe_bltn (v := .ty "tuple") (by rfl) T.z_tuple (by decide +kernel) rfl) pa_nil))))) (pw_or1 (pt_not (pt_truth (pv 0) (by intro _; rfl))))))
      (pss_one (ps_ret pe_bl))
      pss_nil)
      (pss_cons (ps_if (pt_not (pt_val (pe_callB (cr_all rfl) (by rfl) T.z_all (by decide +kernel) (pa_cons (pe_lc (own := [("item", 3)]) (g := (gName 3)) (tt := tYes) (te := (tAndV _ (tOp (rIn K false) _ _))) rfl sc_is_set_of.nd (pi_tup (pv 0)) (blkOk_by (own := [("item", 3)]) (N := N_is_set_of) (sc := defScope s_is_set_of) (by decide +kernel)) (fun _ _ _ _ _ => (pg_name (i := 3) sc_is_set_of.nd rfl (.inl rfl))) (fun _ _ _ _ _ => pts_nil) (fun _ _ _ _ _ => (pe_and (pe_call (ok_is_number T) (hr.mono (by decide)) (by rfl) T.g_is_number T.F_is_number.kp T.b_is_number .nil pass0 (pa_cons (pv 3) pa_nil)) (pe_one (pe_cmpR op_in_seq (pv 3) (pv 1) (by rfl)))))) pa_nil))))
      (pss_one (ps_ret pe_bl))
      pss_nil)
      (pss_one (ps_ret (pe_callB (cr_all rfl) (by rfl) T.z_all (by decide +kernel) (pa_cons (pe_lc (own := [("at", 2)]) (g := (gName 2)) (tt := tYes) (te := (tOp _ (tOp (rIxT K) _ _) (tOp (rIxT K) _ _))) rfl sc_is_set_of.nd (pi_range2 (by rfl) T.z_range (pa_cons pe_int (pa_cons (pe_callB call_len_seq (by rfl) T.z_len (by decide +kernel) (pa_cons (pv 0) pa_nil)) pa_nil))) (blkOk_by (own := [("at", 2)]) (N := N_is_set_of) (sc := defScope s_is_set_of) (by decide +kernel)) (fun _ _ _ _ _ => (pg_name (i := 2) sc_is_set_of.nd rfl (.inl rfl))) (fun _ _ _ _ _ => pts_nil) (fun _ _ _ _ _ => (pe_cmpR op_lt (pe_ix ix_tup (pv 0) (pe_op op_sub (pv 2) pe_int) (fun _ _ => rfl)) (pe_ix ix_tup (pv 0) (pv 2) (fun _ _ => rfl)) (nomark _)))) pa_nil))))))), ?_⟩)
  · obtain ⟨v, p, d, ns, rfl, _⟩ := h
    rfl
  · obtain ⟨v, p, d, ns, rfl, hd, hp, hn, hds, q⟩ := h
    cases hd with
    | tup h1 h2 =>
      have ty := tyx_tup h1
      rename_i a xs ds
      have hn := hds ds rfl
      have hl := dpa_len h2
      have key : setD ns (.tuple ds) = (!ds.isEmpty && (ds.all (inD ns) && ascD ds)) := rfl
      walk_at "ssi"
      refine ⟨!xs.isEmpty, .inr (.inl ⟨xs, h1, rfl⟩), ?_⟩
      cases hb : xs.isEmpty with
      | true =>
        have d0 : ds = [] := List.eq_nil_of_length_eq_zero (by rw [← hl, List.isEmpty_iff.mp hb]; rfl)
        walk_at "ss"
        have q := q H (Same.refl _)
        rw [key, d0] at q
        exact q
      | false =>
      have dn : (!ds.isEmpty) = true := by
        cases hds : ds with
        | nil =>
          rw [hds] at hl
          rw [List.eq_nil_of_length_eq_zero hl] at hb
          cases hb
        | cons => rfl
      rw [dn, Bool.true_and] at key
      walk_at "ss"
      refine ⟨⟨_, h1⟩, ?_⟩
      intro D hD
      refine lc_gen walk_tup (fun H' => Same H H') (fun i y => ∃ d, ds[i]? = some d ∧ y = V.bl (inD ns d)) (by omega) (same_upd hD) (fun _ h => same_tup h h1) (fun _ _ h => same_mut h hD) ?_ ?_
      · rintro i x H1 H2 Q1 hlt2 hI ⟨rfl, hx⟩ - hQ
        obtain ⟨d, hd1, hd2⟩ := dpa_at h2 hx
        have fin : ∀ b, inD ns d = b → Q1 (.bl b) H2 := fun b e => hQ _ _ ⟨d, hd1, by rw [e]⟩ hI fun _ h => h
        walk_at "ss"
        rcases num_ways (dp_same hd2 hI) with ⟨j, rfl, rfl⟩ | ⟨b, rfl, no⟩ | ⟨nn, no⟩
        · refine .inl ⟨j, rfl, _, rfl, ite2 (fun e => ?_) (fun e => ?_)⟩
          · walk_at "ss"
            refine ⟨p, _, rfl, .inl (hI.seq hp), rfl, flat_intsD _, ?_⟩
            rw [inV_ints]
            refine fin _ ?_
            show (decide (0 ≤ j) && decide (j ∈ ns)) = _
            rw [e]
            rfl
          · refine fin _ ?_
            show (decide (0 ≤ j) && decide (j ∈ ns)) = _
            rw [Bool.eq_false_iff.mpr e]
            rfl
        · exact .inr (.inl ⟨b, rfl, false, rfl, fin _ (no ns)⟩)
        · exact .inr (.inr ⟨nn, false, rfl, fin _ (no ns)⟩)
      · intro H1 ys hI hy hl1 hr1
        have e : ys = (ds.map (inD ns)).map V.bl := by
          rw [List.map_map]
          exact ys_map (by omega) hr1
        subst e
        walk_at "ss"
        refine ⟨D, _, rfl, SqL.of hy, ?_⟩
        have ea : (ds.map (inD ns)).all id = ds.all (inD ns) := by rw [List.all_map]; rfl
        rw [ea]
        cases hall : ds.all (inD ns) with
        | false =>
          walk_at "ss"
          have q := q H1 hI
          rw [key, hall] at q
          exact q
        | true =>
          have items : ∀ {i : Nat}, i < xs.length → xs[i]? = some (.int (intD (ds.getD i .none))) := fun {i} hi => by
            obtain ⟨x, hx⟩ : ∃ x, xs[i]? = some x := ⟨_, List.getElem?_eq_getElem hi⟩
            obtain ⟨d, hd1, hd2⟩ := dpa_at h2 hx
            have b := inD_int (List.all_eq_true.mp hall d (List.mem_of_getElem? hd1))
            rw [b] at hd2
            cases hd2
            rw [hx, List.getD_eq_getElem?_getD, hd1]
            rfl
          walk_at "ss"
          refine ⟨a, xs, rfl, .inr (same_tup hI h1), ?_⟩
          obtain ⟨nz, hnz⟩ : ∃ nz : Int, nz = ((xs.length : Nat) : Int) := ⟨_, rfl⟩
          rw [← hnz]
          walk_at "ss"
          refine ⟨_, _, rfl, ⟨by decide, by decide, by omega, by omega⟩, ?_⟩
          intro D2 hD2
          refine lc_gen walk_range (fun H' => Same H1 H') (fun i y => y = V.bl (decide (intD (ds.getD i .none) < intD (ds.getD (i + 1) .none)))) (by omega) (same_upd hD2) (fun _ _ => trivial) (fun _ _ h => same_mut h hD2) ?_ ?_
          · rintro i x H2 H3 Q1 hlt2 hI2 ⟨rfl, rfl⟩ - hQ
            have s2 := hI.trans hI2
            walk_at "ss"
            refine ⟨a, _, _, _, rfl, rfl, same_tup s2 h1, (show atI xs (1 + (i : Int) - 1) = _ by rw [show 1 + (i : Int) - 1 = ((i : Nat) : Int) by omega]; exact atI_nat (items (by omega))), ?_⟩
            walk_at "ss"
            refine ⟨a, _, _, _, rfl, rfl, same_tup s2 h1, (show atI xs (1 + (i : Int)) = _ by rw [show 1 + (i : Int) = ((i + 1 : Nat) : Int) by omega]; exact atI_nat (items (by omega))), ?_⟩
            walk_at "ss"
            exact hQ _ _ rfl hI2 fun _ h => h
          · intro H2 ys2 hI2 hy2 hl2 hr2
            have e : ys2 = ((List.range (ds.length - 1)).map fun i => decide (intD (ds.getD i .none) < intD (ds.getD (i + 1) .none))).map V.bl := by
              refine List.ext_getElem (by rw [hl2, List.length_map, List.length_map, List.length_range]; omega) fun i a1 a2 => ?_
              rw [hr2 i _ (List.getElem?_eq_getElem a1)]
              simp
            subst e
            walk_at "ss"
            refine ⟨D2, _, rfl, SqL.of hy2, ?_⟩
            have q := q H2 (hI.trans hI2)
            rw [key, hall, Bool.true_and] at q
            rw [List.all_map]
            exact q
    | non =>
      walk_at "ssi"
      exact q _ (Same.refl _)
    | bl b =>
      walk_at "ssi"
      exact q _ (Same.refl _)
    | int i =>
      walk_at "ssi"
      exact q _ (Same.refl _)
    | str x =>
      walk_at "ssi"
      exact q _ (Same.refl _)
    | lst h1 h2 =>
      have ty := tyx_list h1
      walk_at "ssi"
      exact q _ (Same.refl _)
end

section
variable {P : Program} {w : World} {K : PySem.W.Frag} {mg : Str → Option Value} {base : Heap}
/-- of a tuple of ints -/
def spRow (K : PySem.W.Frag) : Sp := fun vs H Q _ => ∃ (p : Addr) (g : List Int) (k n : Int), vs = [.ref p, .int k, .int n] ∧ SqT K H p (g.map V.int) ∧ g.length ≤ 1000 ∧
  ∀ H', Same H H' → Q (.bl (decide ((g.length : Int) = k ∧ ∀ x ∈ g, 0 ≤ x ∧ x < n))) H'
theorem ok_is_row (T : Env K mg) : FnOk P w K mg base CX0 3 T.f_is_row T.fd_is_row ["value", "letters", "states"] (spRow K) := by
  refine T.F_is_row.ok sc_is_row (fun vs H Q E h => ?_) (fun cdv A outer s H vs Q E hr h => ⟨_, ((pss_one (ps_ret (pe_and (pe_callB call_isi (by rfl) T.z_isinstance (by decide +kernel) (pa_cons (pv 0) (pa_cons (pe_bltn (v := .ty "tuple") (by rfl) T.z_tuple (by decide +kernel) rfl) pa_nil))) (pe_and (pe_cmpR op_eq (pe_callB call_len_seq (by rfl) T.z_len (by decide +kernel) (pa_cons (pv 0) pa_nil)) (pv 1) (nomark _)) (pe_one (pe_callB (cr_all rfl) (by rfl) T.z_all (by decide +kernel) (pa_cons (pe_lc (own := [("item", 3)]) (g := (gName 3)) (tt := tYes) rfl sc_is_row.nd (pi_tup (pv 0)) (blkOk_by (own := [("item", 3)]) (N := N_is_row) (sc := defScope s_is_row) (by decide +kernel)) (fun _ _ _ _ _ => (pg_name (i := 3) sc_is_row.nd rfl (.inl rfl))) (fun _ _ _ _ _ => pts_nil) (fun _ _ _ _ _ => (pe_call (ok_is_below T) (hr.mono (by decide)) (by rfl) T.g_is_below T.F_is_below.kp T.b_is_below .nil pass0 (pa_cons (pv 3) (pa_cons (pv 2) pa_nil))))) pa_nil)))))))), ?_⟩)
  · obtain ⟨p, g, k, n, rfl, _⟩ := h
    rfl
  · obtain ⟨p, g, k, n, rfl, hg, hl, q⟩ := h
    have ty := tyx_tup hg
    walk_at "ssi"
    refine ⟨p, _, rfl, .inr hg, ?_⟩
    rw [List.length_map]
    walk_at "ss"
    refine ite2 (fun e1 => ?_) (fun e1 => ?_)
    · have e2 : (g.length : Int) = k := by
        have := of_decide_eq_true e1
        injection this
      walk_at "ss"
      refine ⟨⟨_, hg⟩, ?_⟩
      intro D hD
      refine lc_gen walk_tup (fun H' => Same H H') (fun i y => ∃ x, g[i]? = some x ∧ y = V.bl (decide (0 ≤ x ∧ x < n))) (by rw [List.length_map]; omega) (same_upd hD) (fun _ h => same_tup h hg) (fun _ _ h => same_mut h hD) ?_ ?_
      · rintro i x H1 H2 Q1 hlt hI ⟨rfl, hx⟩ - hQ
        rw [List.getElem?_map] at hx
        cases hy : g[i]? with
        | none => rw [hy] at hx; cases hx
        | some y =>
          rw [hy] at hx
          cases hx
          walk_at "ss"
          exact ⟨_, n, rfl, .inl ⟨y, rfl, hQ _ _ ⟨y, hy, rfl⟩ hI fun _ h => h⟩⟩
      · intro H1 ys hI hy hl hr
        have e : ys = (g.map fun x => decide (0 ≤ x ∧ x < n)).map V.bl := by
          rw [List.map_map]
          exact ys_map (by rw [hl, List.length_map]) hr
        subst e
        walk_at "ss"
        refine ⟨D, _, rfl, SqL.of hy, ?_⟩
        rw [all_dec]
        have z := q _ hI
        rw [show decide ((g.length : Int) = k ∧ ∀ x ∈ g, 0 ≤ x ∧ x < n) = decide (∀ x ∈ g, 0 ≤ x ∧ x < n) from decide_eq_decide.mpr ⟨fun h => h.2, fun h => ⟨e2, h⟩⟩] at z
        exact z
    · have e2 : ¬ (g.length : Int) = k := fun h => e1 (by rw [h]; exact decide_eq_true rfl)
      have z := q _ (Same.refl H)
      rw [decide_eq_false fun h => e2 h.1] at z
      exact z
end

variable {K : PySem.W.Frag} {mg : Str → Option Value}
/-- a made machine, of good things -/
def spMake (K : PySem.W.Frag) (C : Addr) : Sp := fun vs H Q _ => ∃ (x dx r : Addr) (al : Str) (gs : List (List Int)) (s : Int), vs = [.ref x, .str al, .ref r, .int s] ∧ H x = some (.ins C dx []) ∧ r ≠ x ∧ Tab K H r gs ∧ Alpha al.cps.toList ∧ Goals gs al.cps.toList.length ∧
  (1 ≤ gs.length ∧ gs.length ≤ 1000) ∧ (0 ≤ s ∧ s < gs.length) ∧ ∀ H', (∀ c o, c ≠ x → H c = some o → H' c = some o) → MachAt K C H' x al gs s → Q .non H'
/-- what led asks of its word -/
def spLed (K : PySem.W.Frag) (T : Env K mg) : Sp := fun vs H Q E => ∃ (m : Addr) (al : Str) (gs : List (List Int)) (s : Int) (u v : V), vs = [.ref m, u, v] ∧ MachAt K T.C_Machine H m al gs s ∧
  ((∃ (i : Int) (z : Str), u = .int i ∧ v = .str z ∧ 0 ≤ i ∧ i < gs.length ∧ z.length ≤ 100000 ∧ (∀ c ∈ z.cps.toList, c ∈ al.cps.toList) ∧ ∀ H', Same H H' → Q (.int (goAll gs al.cps.toList i z.cps.toList)) H') ∨
   (((∃ i, u = .int i ∧ ¬ (0 ≤ i ∧ i < gs.length)) ∨ (∃ b, u = .bl b) ∨ NoInt K H u) ∧ ∀ d H', Same H H' → H' d = some (.xd [("code", .str "InvalidState"), ("given", u)]) → E (.ref T.C_InvalidState) (some d) H') ∨
   (∃ i, u = .int i ∧ 0 ≤ i ∧ i < gs.length ∧ ((∃ z : Str, v = .str z ∧ z.length ≤ 100000 ∧ ¬ ∀ c ∈ z.cps.toList, c ∈ al.cps.toList) ∨ NoStr K H v) ∧ ∀ d H', Same H H' → H' d = some (.xd [("code", .str "InvalidWord"), ("given", v)]) → E (.ref T.C_InvalidWord) (some d) H'))
section
variable {P : Program} {w : World} {base : Heap}
theorem ok_Machine_led (T : Env K mg) : FnOk P w K mg base (L2.CX P w) 4 T.f_Machine_led T.fd_Machine_led ["self", "state", "word"] (spLed K T) := by
  refine T.F_Machine_led.okX sc_Machine_led (fun vs H Q E h => ?_) (fun cdv A outer s H vs Q E hr h => ⟨_, ((pss_cons (ps_if (pt_not (pt_val (pe_call (ok_is_below T) (hr.mono (by decide)) (by rfl) T.g_is_below T.F_is_below.kp T.b_is_below .nil pass0 (pa_cons (pv 1) (pa_cons (pe_callB call_len_seq (by rfl) T.z_len (by decide +kernel) (pa_cons (pe_fld (pv 0) rfl) pa_nil)) pa_nil)))))
      (pss_one (ps_raise rfl (takes_of rfl rfl rfl rfl) (pmk_oex T.x_InvalidState T.i_InvalidState___init T.t_InvalidState___init (ok_InvalidState___init T) (hr.mono (by decide)) T.b_InvalidState___init .nil pass0 (by rfl) T.gC_InvalidState (pa_cons (pv 1) pa_nil))))
      pss_nil)
      (pss_cons (ps_if (pt_not (pt_val (pe_call (ok_is_word T) (hr.mono (by decide)) (by rfl) T.g_is_word T.F_is_word.kp T.b_is_word .nil pass0 (pa_cons (pe_fld (pv 0) rfl) (pa_cons (pv 2) pa_nil)))))
      (pss_one (ps_raise rfl (takes_of rfl rfl rfl rfl) (pmk_oex T.x_InvalidWord T.i_InvalidWord___init T.t_InvalidWord___init (ok_InvalidWord___init T) (hr.mono (by decide)) T.b_InvalidWord___init .nil pass0 (by rfl) T.gC_InvalidWord (pa_cons (pv 2) pa_nil))))
      pss_nil)
      (pss_one (ps_ret (pe_call (ok_led_by T) (hr.mono (by decide)) (by rfl) T.g_led_by T.F_led_by.kp T.b_led_by .nil pass0 (pa_cons (pe_fld (pv 0) rfl) (pa_cons (pe_fld (pv 0) rfl) (pa_cons (pv 1) (pa_cons (pv 2) pa_nil)))))))))), ?_⟩)
  · obtain ⟨m, al, gs, s, u, v, rfl, _⟩ := h
    rfl
  · obtain ⟨m, al, gs, s, u, v, rfl, M, q⟩ := h
    obtain ⟨dx, l, h1, ps, t1, t2, t3⟩ := M.at_
    walk_at "ss"
    first | refine ⟨m, T.C_Machine, dx, _, _, rfl, h1, T.cl_Machine, T.n_Machine__rows, rfl, ?_⟩ | refine ⟨_, rfl, m, T.C_Machine, dx, _, _, rfl, h1, T.cl_Machine, T.n_Machine__rows, rfl, ?_⟩
    refine ⟨l, _, rfl, .inl t1, ?_⟩
    rw [List.length_map, t2]
    walk_at "ss"
    refine ⟨u, gs.length, rfl, ?_⟩
    rcases q with ⟨i, z, rfl, rfl, i0, i1, hz, hw, q⟩ | ⟨hu, q⟩ | ⟨i, rfl, i0, i1, hv, q⟩
    · refine .inl ⟨i, rfl, ?_⟩
      rw [decide_eq_true (And.intro i0 i1)]
      walk_at "ss"
      first | refine ⟨m, T.C_Machine, dx, _, _, rfl, h1, T.cl_Machine, T.n_Machine__alphabet, rfl, ?_⟩ | refine ⟨_, rfl, m, T.C_Machine, dx, _, _, rfl, h1, T.cl_Machine, T.n_Machine__alphabet, rfl, ?_⟩
      walk_at "ss"
      refine ⟨al, _, rfl, .inl ⟨z, rfl, hz, fun H1 s1 => ?_⟩⟩
      rw [decide_eq_true hw]
      walk_at "ss"
      first | refine ⟨m, T.C_Machine, dx, _, _, rfl, s1 _ _ h1, T.cl_Machine, T.n_Machine__rows, rfl, ?_⟩ | refine ⟨_, rfl, m, T.C_Machine, dx, _, _, rfl, s1 _ _ h1, T.cl_Machine, T.n_Machine__rows, rfl, ?_⟩
      first | refine ⟨m, T.C_Machine, dx, _, _, rfl, s1 _ _ h1, T.cl_Machine, T.n_Machine__alphabet, rfl, ?_⟩ | refine ⟨_, rfl, m, T.C_Machine, dx, _, _, rfl, s1 _ _ h1, T.cl_Machine, T.n_Machine__alphabet, rfl, ?_⟩
      walk_at "ss"
      exact ⟨l, al, z, i, gs, rfl, (show Tab K H l gs from ⟨ps, t1, t2, t3⟩).same s1, M.many.2, by rw [len_tl]; exact M.alpha.2.1, M.goals, M.alpha.nodup, i0, i1, hz, hw, q _ s1⟩
    · rcases hu with ⟨i, rfl, hi⟩ | ⟨b, rfl⟩ | hn
      · refine .inl ⟨i, rfl, ?_⟩
        rw [decide_eq_false hi]
        walk_at "ss"
        exact err_out fun d G _ s1 e => q d G s1 e
      · refine .inr (.inl ⟨b, rfl, ?_⟩)
        walk_at "ss"
        exact err_out fun d G _ s1 e => q d G s1 e
      · refine .inr (.inr ⟨hn, ?_⟩)
        walk_at "ss"
        exact err_out fun d G _ s1 e => q d G s1 e
    · refine .inl ⟨i, rfl, ?_⟩
      rw [decide_eq_true (And.intro i0 i1)]
      walk_at "ss"
      first | refine ⟨m, T.C_Machine, dx, _, _, rfl, h1, T.cl_Machine, T.n_Machine__alphabet, rfl, ?_⟩ | refine ⟨_, rfl, m, T.C_Machine, dx, _, _, rfl, h1, T.cl_Machine, T.n_Machine__alphabet, rfl, ?_⟩
      walk_at "ss"
      refine ⟨al, v, rfl, ?_⟩
      rcases hv with ⟨z, rfl, hz, hw⟩ | hv
      · refine .inl ⟨z, rfl, hz, fun H1 s1 => ?_⟩
        rw [decide_eq_false hw]
        walk_at "ss"
        exact err_out fun d G _ s2 e => q d G (s1.trans s2) e
      · refine .inr ⟨hv, fun H1 s1 => ?_⟩
        walk_at "ss"
        exact err_out fun d G _ s2 e => q d G (s1.trans s2) e
/-- what after asks -/
def spAfter (K : PySem.W.Frag) (T : Env K mg) : Sp := fun vs H Q E => ∃ (m : Addr) (al : Str) (gs : List (List Int)) (s : Int) (v : V), vs = [.ref m, v] ∧ MachAt K T.C_Machine H m al gs s ∧ spLed K T [.ref m, .int s, v] H Q E
theorem ok_Machine_after (T : Env K mg) : FnOk P w K mg base (L2.CX P w) 5 T.f_Machine_after T.fd_Machine_after ["self", "word"] (spAfter K T) := by
  refine T.F_Machine_after.okX sc_Machine_after (fun vs H Q E h => ?_) (fun cdv A outer s H vs Q E hr h => ⟨_, ((pss_one (ps_ret (pe_meth (pv 0) T.cl_Machine T.m_Machine_led (ok_Machine_led T) (hr.mono (by decide)) T.b_Machine_led .nil (passE (takes_of rfl rfl rfl rfl)) (pa_cons (pe_fld (pv 0) rfl) (pa_cons (pv 1) pa_nil)))))), ?_⟩)
  · obtain ⟨m, al, gs, s, v, rfl, _⟩ := h
    rfl
  · obtain ⟨m, al, gs, s, v, rfl, M, q⟩ := h
    obtain ⟨dx, l, h1, h2⟩ := M.at_
    refine ⟨_, rfl, m, dx, _, rfl, h1, rfl, ?_⟩
    first | refine ⟨m, T.C_Machine, dx, _, _, rfl, h1, T.cl_Machine, T.n_Machine__start, rfl, ?_⟩ | refine ⟨_, rfl, m, T.C_Machine, dx, _, _, rfl, h1, T.cl_Machine, T.n_Machine__start, rfl, ?_⟩
    walk_at "ss"
    exact q
end

section
variable {P : Program} {w : World} {base : Heap}
theorem ok_Machine___init (T : Env K mg) : FnOk P w K mg base CX0 4 T.f_Machine___init T.fd_Machine___init ["self", "alphabet", "rows", "start"] (spMake K T.C_Machine) := by
  refine T.F_Machine___init.ok sc_Machine___init (fun vs H Q E h => ?_) (fun cdv A outer s H vs Q E hr h => ⟨_, ((pss_cons (ps_if (pt_not (pt_val (pe_call (ok_is_alphabet T) (hr.mono (by decide)) (by rfl) T.g_is_alphabet T.F_is_alphabet.kp T.b_is_alphabet .nil pass0 (pa_cons (pv 1) pa_nil))))
      (pss_one ps_never)
      pss_nil)
      (pss_cons (ps_if (PW.pt (pw_or (pt_not (pt_val (pe_call (ok_is_listed T) (hr.mono (by decide)) (by rfl) T.g_is_listed T.F_is_listed.kp T.b_is_listed .nil pass0 (pa_cons (pv 2) pa_nil)))) (pw_or1 (pt_not (pt_truth (pv 2) (by intro _; rfl))))))
      (pss_one ps_never)
      pss_nil)
      (pss_cons (ps_if (pt_cmpR op_gt (pe_callB call_len_seq (by rfl) T.z_len (by decide +kernel) (pa_cons (pv 2) pa_nil)) (pe_con (pv 0) rfl) (nomark _))
      (pss_one ps_never)
      pss_nil)
      (pss_cons (ps_for PassesOwn.never rfl (pi_enum (by rfl) T.z_enumerate (pa_cons (pv 2) pa_nil)) (pg_tup (by rfl) (pgs_cons (pg_name (i := 4) sc_Machine___init.nd rfl (.inl rfl)) (pgs_cons (pg_name (i := 5) sc_Machine___init.nd rfl (.inl rfl)) pgs_nil)))
      (pss_one (ps_if (pt_not (pt_val (pe_call (ok_is_row T) (hr.mono (by decide)) (by rfl) T.g_is_row T.F_is_row.kp T.b_is_row .nil pass0 (pa_cons (pv 5) (pa_cons (pe_callB call_len_str (by rfl) T.z_len (by decide +kernel) (pa_cons (pv 1) pa_nil)) (pa_cons (pe_callB call_len_seq (by rfl) T.z_len (by decide +kernel) (pa_cons (pv 2) pa_nil)) pa_nil))))))
      (pss_one ps_never)
      pss_nil)))
      (pss_cons (ps_if (pt_not (pt_val (pe_call (ok_is_below T) (hr.mono (by decide)) (by rfl) T.g_is_below T.F_is_below.kp T.b_is_below .nil pass0 (pa_cons (pv 3) (pa_cons (pe_callB call_len_seq (by rfl) T.z_len (by decide +kernel) (pa_cons (pv 2) pa_nil)) pa_nil)))))
      (pss_one ps_never)
      pss_nil)
      (pss_cons (ps_fld (pv 0) (pv 1) rfl)
      (pss_cons (ps_fld (pv 0) (pe_callTy call_list_of (by rfl) T.z_list (by decide +kernel) (pa_cons (pv 2) pa_nil)) rfl)
      (pss_cons (ps_fld (pv 0) (pv 3) rfl)
      (pss_one (ps_fld (pv 0) pe_non rfl))))))))))), ?_⟩)
  · obtain ⟨x, dx, r, al, gs, s, rfl, _⟩ := h
    rfl
  · obtain ⟨x, dx, r, al, gs, s, rfl, hx, hr2, TB, hA, hG, hm, hs, q⟩ := h
    have al4 : al.length ≤ 4 := by rw [len_tl]; exact hA.2.1
    walk_at "ss"
    intro H1 s1
    rw [decide_eq_true hA]
    obtain ⟨ps, t1, t2, t3⟩ := TB.same s1
    walk_at "ss"
    refine .inl ⟨r, _, rfl, .inl t1, fun H2 s2 => ?_⟩
    have s12 := s1.trans s2
    have t1' := s2.seq t1
    have hx2 := s12 _ _ hx
    have nn : (ps.map V.ref).length = gs.length := by rw [List.length_map]; exact t2
    walk_at "ss"
    refine ⟨true, tru_list t1' (by omega), ?_⟩
    walk_at "ss"
    refine ⟨r, _, rfl, .inl t1', ?_⟩
    rw [nn]
    walk_at "ss"
    refine ⟨x, T.C_Machine, dx, _, _, _, rfl, hx2, T.cl_Machine, T.o_Machine_MOST, rfl, ?_⟩
    walk_at "ss"
    have d1 : decide ((1000 : Int) < (gs.length : Int)) = false := decide_eq_false (by omega)
    refine iteN (by rw [d1]; decide) ?_
    walk_at "ss"
    refine for_it walk_enum (fun i σ H' => Stp (Same H2 H' ∧ ∃ y4 y5 : Option V, σ = [some (.ref x), some (.str al), some (.ref r), some (.int s), y4, y5])) (.mk ⟨Same.refl _, _, _, rfl⟩) (fun i σ H' _ h => h.of.1.seq t1') ?_ ?_
    · rintro i y σ H3 H4 hi hP ⟨Tt, u, v, rfl, nT, rfl, eu, ev⟩
      obtain ⟨s3, y4, y5, rfl⟩ := hP.of
      cases eu
      rw [nn] at hi
      have ev : (ps.map V.ref)[i]? = some v := ev
      rw [List.getElem?_map] at ev
      obtain ⟨p, ep⟩ : ∃ p, ps[i]? = some p := ⟨_, List.getElem?_eq_getElem (by omega)⟩
      obtain ⟨g, eg⟩ : ∃ g, gs[i]? = some g := ⟨_, List.getElem?_eq_getElem hi⟩
      rw [ep] at ev
      cases ev
      have s4 : Same H3 (upd H3 Tt (.tup [.int (i : Nat), .ref p])) := same_upd nT
      have hp := same_tup (s2.trans (s3.trans s4)) (t3 i p g ep eg)
      obtain ⟨gl, gb⟩ := hG g (List.mem_of_getElem? eg)
      refine ⟨Tt, _, rfl, .inl (.inl upd_same), rfl, _, _, rfl, _, _, rfl, rfl, ?_⟩
      walk_at "ss"
      refine ⟨r, _, rfl, .inl ((s3.trans s4).seq t1'), ?_⟩
      rw [nn]
      walk_at "ss"
      refine ⟨p, g, al.length, gs.length, rfl, hp, by rw [gl, ← len_tl]; omega, fun H5 s5 => ?_⟩
      rw [decide_eq_true (show (g.length : Int) = al.length ∧ ∀ n ∈ g, 0 ≤ n ∧ n < gs.length from ⟨by rw [gl, len_tl], gb⟩)]
      walk_at "ss"
      exact .mk ⟨s3.trans (s4.trans s5), _, _, rfl⟩
    · rintro σ H3 hP
      obtain ⟨s3, y4, y5, rfl⟩ := hP.of
      have t3' := s3.seq t1'
      have hx3 := s3 _ _ hx2
      walk_at "ss"
      refine ⟨r, _, rfl, .inl t3', ?_⟩
      rw [nn]
      walk_at "ss"
      refine ⟨_, gs.length, rfl, .inl ⟨s, rfl, ?_⟩⟩
      rw [decide_eq_true hs]
      walk_at "ss"
      refine ⟨x, T.C_Machine, dx, [], rfl, hx3, T.cl_Machine, T.n_Machine__alphabet, (by show 0 < 1000; decide), ?_⟩
      have nr : ∀ o, SqL K (upd H3 x o) r (ps.map V.ref) := fun o => seq_ne t3' hr2
      walk_at "ss"
      refine ⟨r, _, rfl, .inl (nr _), fun l hl => ?_⟩
      have lx : l ≠ x := ne_none hl upd_same
      have hl3 : H3 l = none := by rw [upd_ne lx] at hl; exact hl
      refine ⟨_, rfl, x, T.C_Machine, dx, _, rfl, by rw [upd_ne lx.symm]; exact upd_same, T.cl_Machine, T.n_Machine__rows, (by show 1 < 1000; decide), ?_⟩
      walk_at "ss"
      refine ⟨x, T.C_Machine, dx, _, rfl, upd_same, T.cl_Machine, T.n_Machine__start, (by show 2 < 1000; decide), ?_⟩
      walk_at "ss"
      refine ⟨x, T.C_Machine, dx, _, rfl, upd_same, T.cl_Machine, T.n_Machine__accepts, (by show 3 < 1000; decide), ?_⟩
      have s3' := s12.trans s3
      have kp : ∀ o1 o2 o3 o4 o5 c o, c ≠ x → H3 c = some o → (upd (upd (upd (upd (upd H3 x o1) l o2) x o3) x o4) x o5) c = some o := fun o1 o2 o3 o4 o5 c o ne h => by
        rw [upd_ne ne, upd_ne ne, upd_ne ne, upd_ne (ne_of_none h hl3), upd_ne ne]
        exact h
      refine q _ (fun c o ne h => kp _ _ _ _ _ c o ne (s3' _ _ h)) ⟨⟨dx, l, upd_same, ps, ?_, t2, fun i p g e1 e2 => ?_⟩, hA, hG, hm, hs⟩
      · exact SqL.of (by rw [upd_ne lx, upd_ne lx, upd_ne lx, upd_same])
      · exact tup_but hx3 (kp _ _ _ _ _) (same_tup (s2.trans s3) (t3 i p g e1 e2))
end

theorem addsE_k {n : Nat} (s : Int) : ∀ (r : List Int) (F : Ent) (k : Nat), (∀ e ∈ F, ∀ p j, e.2 = some (p, j) → j < n) → k + r.length ≤ n → ∀ e ∈ addsE s F k r, ∀ p j, e.2 = some (p, j) → j < n
  | [], _, _, h, _ => h
  | t :: r, F, k, h, hl => by
    rw [List.length_cons] at hl
    refine addsE_k s r _ (k + 1) (fun e he p j ej => ?_) (by omega)
    unfold addE at he
    split at he
    · exact h e he p j ej
    · rcases List.mem_append.mp he with he | he
      · exact h e he p j ej
      · rw [List.mem_singleton.mp he] at ej
        injection ej with ej
        injection ej with e1 e2
        omega
theorem bfsE_k {gs : List (List Int)} {n : Nat} {s0 : Int} (hg : ∀ g ∈ gs, g.length ≤ n) : ∀ d, ∀ e ∈ bfsE gs s0 d, ∀ p j, e.2 = some (p, j) → j < n
  | 0, e, he, p, j, ej => by
    rw [List.mem_singleton.mp he] at ej
    cases ej
  | d + 1, e, he, p, j, ej => by
    revert he
    show e ∈ (match (bfsE gs s0 d)[d]? with | some e => addsE e.1 (bfsE gs s0 d) 0 (rowOf gs e.1) | none => bfsE gs s0 d) → _
    have ih := bfsE_k (s0 := s0) hg d
    cases h : (bfsE gs s0 d)[d]? with
    | none => exact fun he => ih e he p j ej
    | some x =>
      refine fun he => addsE_k x.1 (rowOf gs x.1) _ 0 ih ?_ e he p j ej
      unfold rowOf
      rw [List.getD_eq_getElem?_getD]
      cases hq : gs[x.1.toNat]? with
      | none => simp
      | some g =>
        have := hg g (List.mem_of_getElem? hq)
        simpa using this

/-! ### the law's own walk: a list of pairs (state, word) -/
def WrdAt (H : Hp) (f : Addr) (W : Wrd) : Prop := ∃ ps : List Addr, H f = some (.lst (ps.map V.ref)) ∧ ps.length = W.length ∧ ∀ (i : Nat) (p : Addr) (e : Int × List Nat), ps[i]? = some p → W[i]? = some e → H p = some (.tup [.int e.1, .str ⟨e.2.toArray⟩])
theorem WrdAt.same {H H' : Hp} {f : Addr} {W : Wrd} (h : WrdAt H f W) (s : Same H H') : WrdAt H' f W := by
  obtain ⟨ps, h1, h2, h3⟩ := h
  exact ⟨ps, s _ _ h1, h2, fun i p e a b => s _ _ (h3 i p e a b)⟩
theorem WrdAt.get {H : Hp} {f : Addr} {W : Wrd} (h : WrdAt H f W) {i : Nat} {e : Int × List Nat} (he : W[i]? = some e) : ∃ xs p, H f = some (.lst xs) ∧ xs[i]? = some (.ref p) ∧ xs.length = W.length ∧ H p = some (.tup [.int e.1, .str ⟨e.2.toArray⟩]) := by
  obtain ⟨ps, h1, h2, h3⟩ := h
  have hi := (List.getElem?_eq_some_iff.mp he).1
  have hp : ps[i]? = some ps[i] := List.getElem?_eq_getElem (by omega)
  exact ⟨_, ps[i], h1, by rw [List.getElem?_map, hp]; rfl, by rw [List.length_map, h2], h3 i _ e hp he⟩
theorem WrdAt.len {H : Hp} {f : Addr} {W : Wrd} (h : WrdAt H f W) : ∃ xs, H f = some (.lst xs) ∧ xs.length = W.length := by
  obtain ⟨ps, h1, h2, h3⟩ := h
  exact ⟨_, h1, by rw [List.length_map, h2]⟩
theorem WrdAt.add {H : Hp} {f p : Addr} {W : Wrd} {t : Int} {z : List Nat} (h : WrdAt H f W) (hp : H p = some (.tup [.int t, .str ⟨z.toArray⟩])) :
    ∃ xs, H f = some (.lst xs) ∧ xs.length = W.length ∧ WrdAt (upd H f (.lst (xs ++ [.ref p]))) f (W ++ [(t, z)]) := by
  obtain ⟨ps, h1, h2, h3⟩ := h
  have no : ∀ {c : Addr} {ys : List V}, H c = some (.tup ys) → c ≠ f := fun hc z => by
    rw [z, h1] at hc
    cases hc
  refine ⟨_, h1, by rw [List.length_map, h2], ps ++ [p], by rw [upd_same, List.map_append]; rfl, by simp [h2], fun i q e a b => ?_⟩
  by_cases hi : i < ps.length
  · rw [List.getElem?_append_left hi] at a
    rw [List.getElem?_append_left (by omega)] at b
    have := h3 i q e a b
    rw [upd_ne (no this)]
    exact this
  · have hi2 : i = ps.length := by
      have := (List.getElem?_eq_some_iff.mp a).1
      simp at this
      omega
    subst hi2
    simp at a
    subst a
    rw [h2] at b
    simp at b
    subst b
    rw [upd_ne (no hp)]
    exact hp
theorem bfsW_short {gs : List (List Int)} {al : List Nat} {s0 : Int} {d : Nat} : ∀ (i : Nat) (e : Int × List Nat), (bfsW gs al s0 d)[i]? = some e → e.2.length ≤ i := by
  have W := bfsW_words gs al s0 d
  intro i
  induction i using Nat.strongRecOn with
  | _ i ih =>
    intro e he
    have hi := (List.getElem?_eq_some_iff.mp he).1
    obtain ⟨x, hf⟩ : ∃ x, (bfsE gs s0 d)[i]? = some x := ⟨_, List.getElem?_eq_getElem (by rw [← W.len]; exact hi)⟩
    obtain ⟨w, hw, lo⟩ := W.at_ i _ hf
    rw [he] at hw
    have e2 : e.2 = w := congrArg Prod.snd (Option.some.inj hw)
    rw [e2]
    cases ho : x.2 with
    | none =>
      rw [ho] at lo
      have lo : w = [] := lo
      rw [lo]
      exact Nat.zero_le _
    | some pk =>
      rw [ho] at lo
      obtain ⟨p, k⟩ := pk
      obtain ⟨j, u, ji, hj, rfl⟩ := lo
      have := ih j ji _ hj
      rw [List.length_append]
      show u.length + 1 ≤ i
      have this : u.length ≤ j := this
      omega
theorem bfsW_pre (gs : List (List Int)) (al : List Nat) (s0 : Int) (d : Nat) {e : Int × List Nat} (h : (bfsW gs al s0 d)[d]? = some e) : bfsW gs al s0 (d + 1) = addsW al e.2 (bfsW gs al s0 d) 0 (rowOf gs e.1) := by
  show (match (bfsW gs al s0 d)[d]? with | some e => addsW al e.2 (bfsW gs al s0 d) 0 (rowOf gs e.1) | none => bfsW gs al s0 d) = _
  rw [h]
theorem addsW_snoc (al u : List Nat) : ∀ (r : List Int) (W : Wrd) (k : Nat) (t : Int), addsW al u W k (r ++ [t]) = addW (addsW al u W k r) u (al.getD (k + r.length) 0) t
  | [], W, k, t => by simp [addsW]
  | a :: r, W, k, t => by
    show addsW al u (addW W u (al.getD k 0) a) (k + 1) (r ++ [t]) = _
    rw [addsW_snoc al u r, addsW, List.length_cons, Nat.add_assoc, Nat.add_comm 1]
theorem addsW_more (al u : List Nat) : ∀ (r : List Int) (W : Wrd) (k : Nat), ∃ x, addsW al u W k r = W ++ x
  | [], W, k => ⟨[], by simp [addsW]⟩
  | t :: r, W, k => by
    obtain ⟨x, hx⟩ : ∃ x, addW W u (al.getD k 0) t = W ++ x := by
      unfold addW
      split
      · exact ⟨[], by simp⟩
      · exact ⟨_, rfl⟩
    obtain ⟨y, hy⟩ := addsW_more al u r (addW W u (al.getD k 0) t) (k + 1)
    exact ⟨x ++ y, by rw [addsW, hy, hx, List.append_assoc]⟩
theorem in_int (t : Int) (l : List Int) : inV (.int t) (l.map V.int) = decide (t ∈ l) := by
  unfold inV
  rw [Bool.eq_iff_iff, List.any_map]
  simp only [List.any_eq_true, Function.comp, eqV, decide_eq_true_eq]
  constructor
  · rintro ⟨d, hd, e⟩
    have e2 : d = t := by simpa using e
    rw [← e2]
    exact hd
  · intro h
    exact ⟨t, h, by simp⟩
theorem flat_ints : ∀ l : List Int, (l.map V.int).all flatV = true
  | [] => rfl
  | _ :: l => flat_ints l
theorem str_push (u : List Nat) (c : Nat) : (⟨u.toArray⟩ : Str) ++ (⟨#[c]⟩ : Str) = ⟨(u ++ [c]).toArray⟩ := by
  show (⟨u.toArray ++ #[c]⟩ : Str) = _
  simp
def spLReach (K : PySem.W.Frag) : Sp := fun vs H Q _ => ∃ (r : Addr) (al : Str) (s0 : Int) (gs : List (List Int)), vs = [.ref r, .str al, .int s0] ∧ Tab K H r gs ∧ gs.length ≤ 1000 ∧ al.length ≤ 4 ∧ Goals gs al.cps.toList.length ∧ 0 ≤ s0 ∧ s0 < gs.length ∧
  ∀ (f : Addr) (d : Nat) (H' : Hp), (bfsW gs al.cps.toList s0 d).length = d → WrdAt H' f (bfsW gs al.cps.toList s0 d) → H f = none → Same H H' → Q (.ref f) H'
section
variable {P : Program} {w : World} {K : PySem.W.Frag} {mg : Str → Option Value} {base : Heap}
theorem ok_reach (T : Env K mg) : FnOk P w K mg base CX0 1 T.f_reach T.fd_reach ["_law_goals_here", "_law_signs_here", "_law_at"] (spLReach K) := by
  refine T.F_reach.ok sc_reach (fun vs H Q E h => ?_) (fun cdv A outer s H vs Q E hr h => ⟨_, ((pss_cons (ps_par (i := 3) (j := 4) (by rfl) sc_reach.nd rfl rfl (by decide) rfl rfl (pa_cons (pe_lst (pa_cons (pe_tup (pa_cons (pv 2) (pa_cons pe_str pa_nil))) pa_nil)) (pa_cons pe_int pa_nil)) (by rfl))
      (pss_cons (ps_while PassesOwn.never (pt_cmpR op_lt (pv 4) (pe_callB call_len_seq (by rfl) T.z_len (by decide +kernel) (pa_cons (pv 3) pa_nil)) (nomark _))
      (pss_cons (ps_asg (pe_ix ix_list (pv 3) (pv 4) (fun _ _ => rfl)) (pg_tup (by rfl) (pgs_cons (pg_name (i := 5) sc_reach.nd rfl (.inl rfl)) (pgs_cons (pg_name (i := 6) sc_reach.nd rfl (.inl rfl)) pgs_nil))))
      (pss_cons (ps_set (i := 4) sc_reach.nd rfl (.inl rfl) (pe_op op_add (pv 4) pe_int))
      (pss_one (ps_for PassesOwn.never rfl (pi_range1 (by rfl) T.z_range (pa_cons (pe_callB call_len_str (by rfl) T.z_len (by decide +kernel) (pa_cons (pv 1) pa_nil)) pa_nil)) (pg_name (i := 7) sc_reach.nd rfl (.inl rfl))
      (pss_one (ps_if (pt_cmpR op_notIn_seq (pe_ix ix_tup (pe_ix ix_list (pv 0) (pv 5) (fun _ _ => rfl)) (pv 7) (fun _ _ => rfl)) (pe_lc (own := [("_law_one", 8), ("_law_late", 9)]) (g := (gTup K 2 (gCons (gName 8) (gCons (gName 9) gNil)))) (tt := tYes) rfl sc_reach.nd (pi_list (pv 3)) (blkOk_by (own := [("_law_one", 8), ("_law_late", 9)]) (N := N_reach) (sc := defScope s_reach) (by decide +kernel)) (fun _ _ _ _ _ => (pg_tup (by rfl) (pgs_cons (pg_name (i := 8) sc_reach.nd rfl (.inl rfl)) (pgs_cons (pg_name (i := 9) sc_reach.nd rfl (.inl rfl)) pgs_nil)))) (fun _ _ _ _ _ => pts_nil) (fun _ _ _ _ _ => (pv 8))) (by rfl))
      (pss_one (ps_expr (pe_bm PySem.F.plainAttrs_list PySem.F.slot_list_append PySem.F.type_list_append mt_append (pv 3) (pa_cons (pe_tup (pa_cons (pe_ix ix_tup (pe_ix ix_list (pv 0) (pv 5) (fun _ _ => rfl)) (pv 7) (fun _ _ => rfl)) (pa_cons (pe_op op_add_str (pv 6) (pe_ix ix_str (pv 1) (pv 7) (fun _ _ => rfl))) pa_nil))) pa_nil))))
      pss_nil)))))))
      (pss_one (ps_ret (pv 3)))))), ?_⟩)
  · obtain ⟨r, al, s0, gs, rfl, _⟩ := h
    rfl
  · obtain ⟨r, al, s0, gs, rfl, TB, hn, hal, hg, h0, h1, q⟩ := h
    walk_at "ss"
    intro p hp
    walk_at "ss"
    intro F hF
    have pF : p ≠ F := ne_of_none upd_same hF
    have s1 : Same H (upd (upd H p (.tup [.int s0, .str (Str.ofString "")])) F (.lst [.ref p])) := (same_upd hp).trans (same_upd hF)
    have W0 : WrdAt (upd (upd H p (.tup [.int s0, .str (Str.ofString "")])) F (.lst [.ref p])) F (bfsW gs al.cps.toList s0 0) := ⟨[p], upd_same, rfl, fun i q e a b => by
      match i, a, b with
      | 0, a, b =>
        cases a
        cases b
        rw [upd_ne pF]
        exact upd_same
      | i + 1, a, b => simp at a⟩
    have hFH : H F = none := by
      cases e : H F with
      | none => rfl
      | some o =>
        have := same_upd (o := .tup [.int s0, .str (Str.ofString "")]) hp _ _ e
        rw [hF] at this
        cases this
    generalize upd (upd H p (.tup [.int s0, .str (Str.ofString "")])) F (.lst [.ref p]) = G0 at *
    walk_at "ss"
    refine ⟨_, _, rfl, ?_⟩
    walk_at "ss"
    refine ⟨fun m σ G => ∃ (d : Nat) (y5 y6 y7 y8 y9 : Option V), m = gs.length - d ∧ σ = [some (.ref r), some (.str al), some (.int s0), some (.ref F), some (.int d), y5, y6, y7, y8, y9] ∧ Same H G ∧ WrdAt G F (bfsW gs al.cps.toList s0 d) ∧ d ≤ (bfsW gs al.cps.toList s0 d).length, ⟨_, 0, none, none, none, none, none, rfl, rfl, s1, W0, Nat.zero_le _⟩, ?_⟩
    clear W0 s1
    rintro m σ G ⟨d, y5, y6, y7, y8, y9, rfl, rfl, sG, WG, dl⟩
    have few : (bfsW gs al.cps.toList s0 d).length ≤ gs.length := by
      rw [(bfsW_words gs al.cps.toList s0 d).len]
      exact (bfsE_good h0 h1 (fun g hm => (hg g hm).2) d).few
    obtain ⟨xs, w1, w2⟩ := WG.len
    walk_at "ss"
    refine ⟨F, xs, rfl, .inl (SqL.of w1), ?_⟩
    rw [w2]
    walk_at "ss"
    refine ite2 (fun e1 => ?_) (fun e1 => ?_)
    rotate_left
    · have he : (bfsW gs al.cps.toList s0 d).length = d := by
        have := of_decide_eq_false (by simpa using e1 : decide ((d : Int) < ((bfsW gs al.cps.toList s0 d).length : Nat)) = false)
        omega
      walk_at "ss"
      exact q F d G he WG hFH sG
    have lt : d < (bfsW gs al.cps.toList s0 d).length := by
      have := of_decide_eq_true e1
      omega
    obtain ⟨e, he⟩ : ∃ e, (bfsW gs al.cps.toList s0 d)[d]? = some e := ⟨_, List.getElem?_eq_getElem lt⟩
    refine ⟨fun σ' G' => ∃ (d' : Nat) (y5 y6 y7 y8 y9 : Option V), d < d' ∧ σ' = [some (.ref r), some (.str al), some (.int s0), some (.ref F), some (.int d'), y5, y6, y7, y8, y9] ∧ Same H G' ∧ WrdAt G' F (bfsW gs al.cps.toList s0 d') ∧ d' ≤ (bfsW gs al.cps.toList s0 d').length, ?_, ?_⟩
    · rintro σ' G' ⟨d', z5, z6, z7, z8, z9, dd, e1, e2, e3, e4⟩
      exact ⟨gs.length - d', by omega, d', z5, z6, z7, z8, z9, rfl, e1, e2, e3, e4⟩
    walk_at "ss"
    obtain ⟨xs, pe, g1, g2, g3, g4⟩ := WG.get he
    have hstep := bfsW_pre gs al.cps.toList s0 d he
    have short := bfsW_short d e he
    have good := bfsE_good h0 h1 (fun g hm => (hg g hm).2) d
    obtain ⟨b0, b1⟩ : 0 ≤ e.1 ∧ e.1 < gs.length := by
      have : e.1 ∈ (bfsE gs s0 d).map Prod.fst := by
        rw [← (bfsW_words gs al.cps.toList s0 d).fst]
        exact List.mem_map.mpr ⟨e, List.mem_of_getElem? he, rfl⟩
      obtain ⟨y, hy, ey⟩ := List.mem_map.mp this
      rw [← ey]
      exact good.2 y hy
    obtain ⟨g, hgg⟩ : ∃ g, gs[e.1.toNat]? = some g := ⟨_, List.getElem?_eq_getElem (by omega)⟩
    have hrow : rowOf gs e.1 = g := by
      unfold rowOf
      rw [List.getD_eq_getElem?_getD, hgg]
      rfl
    rw [hrow] at hstep
    obtain ⟨gl, gb⟩ := hg g (List.mem_of_getElem? hgg)
    obtain ⟨es, ew⟩ := e
    refine ⟨F, xs, d, .ref pe, rfl, rfl, SqL.of g1, atI_nat g2, ?_⟩
    refine ⟨pe, _, rfl, .inl (.inl g4), rfl, _, _, rfl, _, _, rfl, rfl, ?_⟩
    obtain ⟨dz, hdz⟩ : ∃ dz : Int, dz = (d : Int) := ⟨_, rfl⟩
    rw [← hdz]
    refine ⟨_, rfl, ?_⟩
    refine ⟨_, _, rfl, rfl, ?_⟩
    refine ⟨_, rfl, ?_⟩
    refine ⟨_, rfl, ?_⟩
    refine ⟨sz (by omega), ?_⟩
    refine ⟨_, rfl, by omega, by omega, ?_⟩
    have gll : g.length = al.length := by rw [gl, len_tl]
    refine for_it walk_range (fun k σ' G' => Stp (∃ y7 y8 y9 : Option V, σ' = [some (.ref r), some (.str al), some (.int s0), some (.ref F), some (.int (dz + 1)), some (.int es), some (.str ⟨ew.toArray⟩), y7, y8, y9] ∧ Same H G' ∧ WrdAt G' F (addsW al.cps.toList ew (bfsW gs al.cps.toList s0 d) 0 (g.take k))))
      (.mk ⟨_, _, _, rfl, sG, WG⟩) (fun _ _ _ _ _ => trivial) ?_ ?_
    · rintro k x σ' G1 G2 hk hP ⟨rfl, rfl⟩
      obtain ⟨z7, z8, z9, rfl, s2, W2⟩ := hP.of
      clear hP
      have hk : k < al.length := by simpa using hk
      obtain ⟨t, ht⟩ : ∃ t, g[k]? = some t := ⟨_, List.getElem?_eq_getElem (by omega)⟩
      obtain ⟨c, hc⟩ : ∃ c, al.cps.toList[k]? = some c := ⟨_, List.getElem?_eq_getElem (by rw [← len_tl]; exact hk)⟩
      have hcd : al.cps.toList.getD k 0 = c := by rw [List.getD_eq_getElem?_getD, hc]; rfl
      have nx : addsW al.cps.toList ew (bfsW gs al.cps.toList s0 d) 0 (g.take (k + 1)) = addW (addsW al.cps.toList ew (bfsW gs al.cps.toList s0 d) 0 (g.take k)) ew c t := by
        rw [List.take_add_one, ht, Option.toList_some, addsW_snoc, List.length_take, Nat.min_eq_left (by omega), Nat.zero_add, hcd]
      have wd := (bfsW_words gs al.cps.toList s0 d).adds (g.take k) he 0
      have fewk : (addsW al.cps.toList ew (bfsW gs al.cps.toList s0 d) 0 (g.take k)).length ≤ gs.length := by
        rw [wd.len]
        exact (GoodE.adds es (g.take k) good 0 fun t ht => gb t (List.mem_of_mem_take ht)).few
      generalize addsW al.cps.toList ew (bfsW gs al.cps.toList s0 d) 0 (g.take k) = Wk at *
      generalize addsW al.cps.toList ew (bfsW gs al.cps.toList s0 d) 0 (g.take (k + 1)) = Wk1 at *
      obtain ⟨xs, px, hxs, hxl, hxi, hpx⟩ := (TB.same s2).at_ hgg
      obtain ⟨kz, hkz⟩ : ∃ kz : Int, kz = 0 + (k : Int) := ⟨_, rfl⟩
      show gName 7 (V.int (0 + (k : Int))) _ _ _
      rw [← hkz]
      have ek : ∀ {α : Type} {l : List α} {v : α}, l[k]? = some v → atI l kz = some v := fun h => by
        rw [hkz, Int.zero_add]
        exact atI_nat h
      walk_at "ss"
      refine ⟨r, _, es, _, rfl, rfl, hxs, at_nat b0 hxi, ?_⟩
      refine ⟨_, rfl, ?_⟩
      refine ⟨px, _, kz, .int t, rfl, rfl, hpx, ek (by rw [List.getElem?_map, ht]; rfl), ?_⟩
      obtain ⟨ps2, w1, w2, w3⟩ := id W2
      refine ⟨_, rfl, ?_⟩
      refine ⟨F, rfl, ⟨_, SqL.of w1⟩, fun D hD => ?_⟩
      have wl : (ps2.map V.ref).length = Wk.length := by rw [List.length_map]; exact w2
      refine lc_gen walk_list (fun H' => Same G2 H') (fun i y => ∃ e, Wk[i]? = some e ∧ y = V.int e.1) (by omega) (same_upd hD) (fun _ h => h.seq (SqL.of w1)) (fun _ _ h => same_mut h hD) ?_ ?_
      · rintro i x H1 H2 Q1 hlt hI ⟨rfl, hx⟩ - hQ
        have hx : (ps2.map V.ref)[i]? = some x := hx
        rw [List.getElem?_map] at hx
        obtain ⟨pi, hpi⟩ : ∃ pi, ps2[i]? = some pi := ⟨_, List.getElem?_eq_getElem (by simpa using hlt)⟩
        obtain ⟨ei, hei⟩ : ∃ ei, Wk[i]? = some ei := ⟨_, List.getElem?_eq_getElem (by rw [← w2]; simpa using hlt)⟩
        rw [hpi] at hx
        cases hx
        have hpe := hI _ _ (w3 i pi ei hpi hei)
        refine ⟨pi, _, rfl, .inl (.inl hpe), rfl, _, _, rfl, _, _, rfl, rfl, ?_⟩
        walk_at "ss"
        exact hQ _ _ ⟨ei, hei, rfl⟩ hI fun _ h => h
      · intro H1 ys hI hy hl hr2
        have eys : ys = Wk.map fun e => V.int e.1 := ys_map (by rw [hl]; exact wl) fun i y hiy => hr2 i y hiy
        have eys2 : ys = (Wk.map Prod.fst).map V.int := by rw [eys, List.map_map]; rfl
        subst eys2
        walk_at "ss"
        refine ⟨D, _, rfl, .inl (SqL.of hy), rfl, flat_ints _, ?_⟩
        rw [in_int]
        have s3 := s2.trans hI
        have W3 := W2.same hI
        by_cases hm : t ∈ Wk.map Prod.fst
        · rw [decide_eq_true hm]
          walk_at "ss"
          have na : Wk1 = Wk := by
            rw [nx]
            unfold addW
            rw [if_pos hm]
          exact .mk ⟨_, _, _, rfl, s3, by rw [na]; exact W3⟩
        · rw [decide_eq_false hm]
          have na : Wk1 = Wk ++ [(t, ew ++ [c])] := by
            rw [nx]
            unfold addW
            rw [if_neg hm]
          walk_at "ss"
          refine ⟨.inl ⟨rfl, _, SqL.of (hI _ _ w1)⟩, ?_⟩
          walk_at "ss"
          refine ⟨r, _, es, _, rfl, rfl, hI.seq hxs, at_nat b0 hxi, ?_⟩
          refine ⟨_, rfl, ?_⟩
          refine ⟨px, _, kz, .int t, rfl, rfl, same_tup hI hpx, ek (by rw [List.getElem?_map, ht]; rfl), ?_⟩
          walk_at "ss"
          refine ⟨al, _, _, rfl, rfl, sz (by omega), ek hc, ?_⟩
          have lw : (⟨ew.toArray⟩ : Str).length = ew.length := by show ew.toArray.size = _; simp
          have lc : (⟨#[c]⟩ : Str).length = 1 := rfl
          have short : ew.length ≤ d := short
          refine ⟨_, _, rfl, rfl, sz (by rw [lw, lc]; omega), ?_⟩
          rw [str_push]
          walk_at "ss"
          intro tp htp
          have s4 := same_upd (o := .tup [.int t, .str ⟨(ew ++ [c]).toArray⟩]) htp
          obtain ⟨xs5, v1, v2, v3⟩ := (W3.same s4).add (p := tp) upd_same
          refine ⟨F, _, _, rfl, rfl, v1, szl (by omega), ?_⟩
          exact .mk ⟨_, _, _, rfl, same_mut (s3.trans s4) hFH, by rw [na]; exact v3⟩
    · rintro σ' G1 hP
      obtain ⟨z7, z8, z9, rfl, s2, W2⟩ := hP.of
      rw [List.take_of_length_le (by omega)] at W2
      refine ⟨d + 1, _, _, _, _, _, Nat.lt_succ_self d, (by rw [hdz]; rfl), s2, by rw [hstep]; exact W2, ?_⟩
      rw [hstep]
      obtain ⟨x, hx⟩ := addsW_more al.cps.toList ew g (bfsW gs al.cps.toList s0 d) 0
      show d + 1 ≤ (addsW al.cps.toList ew (bfsW gs al.cps.toList s0 d) 0 g).length
      rw [hx, List.length_append]
      omega
end

/-! ### dict(pairs) of the walk -/
def kvW (W : Wrd) : List (Key × V) := W.map fun e => ((Sum.inl e.1 : Key), V.str ⟨e.2.toArray⟩)
theorem merge_nd : ∀ (more acc : List (Key × V)), ((acc ++ more).map Prod.fst).Nodup → mergeK acc more = acc ++ more
  | [], acc, _ => by simp [mergeK]
  | kv :: more, acc, h => by
    show mergeK (putK acc kv.1 kv.2) more = _
    have e : putK acc kv.1 kv.2 = acc ++ [kv] := by
      unfold putK
      rw [if_neg]
      intro hany
      obtain ⟨x, hx, hk⟩ := List.any_eq_true.mp hany
      have hk := of_decide_eq_true hk
      rw [List.map_append, List.nodup_append] at h
      exact h.2.2 x.1 (List.mem_map.mpr ⟨x, hx, rfl⟩) kv.1 (by simp) hk
    rw [e, merge_nd more (acc ++ [kv]) (by rw [List.append_assoc]; exact h), List.append_assoc]
    rfl
theorem kvW_fst (W : Wrd) : (kvW W).map Prod.fst = (W.map Prod.fst).map (Sum.inl : Int → Key) := by
  unfold kvW
  rw [List.map_map, List.map_map]
  rfl
theorem kvW_merge {W : Wrd} (nd : (W.map Prod.fst).Nodup) : mergeK [] (kvW W) = kvW W := by
  rw [merge_nd (kvW W) [] ?_, List.nil_append]
  rw [List.nil_append, kvW_fst, List.nodup_iff_pairwise_ne, List.pairwise_map]
  exact (List.nodup_iff_pairwise_ne.mp nd).imp fun ne e => ne (by injection e)
theorem kvW_pairs {K : PySem.W.Frag} {H : Hp} : ∀ (ps : List Addr) (W : Wrd), ps.length = W.length → (∀ (i : Nat) (p : Addr) (e : Int × List Nat), ps[i]? = some p → W[i]? = some e → H p = some (.tup [.int e.1, .str ⟨e.2.toArray⟩])) →
    Paired (fun p (kv : Key × V) => SqT K H p [kV kv.1, kv.2]) ps (kvW W)
  | [], [], _, _ => .nil
  | p :: ps, e :: W, hl, h => .cons (.inl (.inl (h 0 p e rfl rfl))) (kvW_pairs ps W (by simpa using hl) fun i q x a b => h (i + 1) q x (by simpa using a) (by simpa using b))
  | [], _ :: _, hl, _ => by simp at hl
  | _ :: _, [], hl, _ => by simp at hl
theorem WrdAt.pairs {H : Hp} {f : Addr} {W : Wrd} (K : PySem.W.Frag) (h : WrdAt H f W) : ∃ ps : List Addr, H f = some (.lst (ps.map V.ref)) ∧ Paired (fun p (kv : Key × V) => SqT K H p [kV kv.1, kv.2]) ps (kvW W) := by
  obtain ⟨ps, h1, h2, h3⟩ := h
  exact ⟨ps, h1, kvW_pairs ps W h2 h3⟩
theorem valW_none {W : Wrd} {t : Int} (h : t ∉ W.map Prod.fst) : valV (kvW W) (Sum.inl t : Key) = none := by
  unfold valV
  rw [Option.map_eq_none_iff, List.find?_eq_none]
  intro kv hm he
  have he := of_decide_eq_true he
  obtain ⟨e, hx, rfl⟩ := List.mem_map.mp hm
  injection he with he
  exact h (List.mem_map.mpr ⟨e, hx, he⟩)
theorem valW_some : ∀ {W : Wrd} (_ : (W.map Prod.fst).Nodup) {i : Nat} {t : Int} {z : List Nat}, W[i]? = some (t, z) → valV (kvW W) (Sum.inl t : Key) = some (.str ⟨z.toArray⟩)
  | [], _, i, t, z, h => by simp at h
  | e :: W, nd, 0, t, z, h => by
    cases h
    unfold valV kvW
    rw [List.map_cons, List.find?_cons]
    simp
  | e :: W, nd, i + 1, t, z, h => by
    have h : W[i]? = some (t, z) := by simpa using h
    have nd2 := List.nodup_cons.mp nd
    have ih := valW_some nd2.2 h
    have ne : e.1 ≠ t := fun x => nd2.1 (List.mem_map.mpr ⟨(t, z), List.mem_of_getElem? h, x.symm⟩)
    unfold valV kvW at ih ⊢
    rw [List.map_cons, List.find?_cons]
    have : decide ((Sum.inl e.1 : Key) = Sum.inl t) = false := decide_eq_false fun x => ne (by injection x)
    simp only [this]
    exact ih
theorem bfsE_stop {gs : List (List Int)} {s0 : Int} {d : Nat} (h : (bfsE gs s0 d).length = d) : ∀ j, bfsE gs s0 (d + j) = bfsE gs s0 d
  | 0 => rfl
  | j + 1 => by
    have ih := bfsE_stop h j
    have e : (bfsE gs s0 (d + j))[d + j]? = none := by
      rw [ih]
      exact List.getElem?_eq_none_iff.mpr (by omega)
    show (match (bfsE gs s0 (d + j))[d + j]? with | some e => addsE e.1 (bfsE gs s0 (d + j)) 0 (rowOf gs e.1) | none => bfsE gs s0 (d + j)) = _
    rw [e]
    exact ih
theorem bfsE_one {gs : List (List Int)} {s0 : Int} {d d' : Nat} (h : (bfsE gs s0 d).length = d) (h' : (bfsE gs s0 d').length = d') : d = d' := by
  rcases Nat.le_total d d' with hl | hl
  · obtain ⟨j, rfl⟩ := Nat.exists_eq_add_of_le hl
    rw [bfsE_stop h j] at h'
    omega
  · obtain ⟨j, rfl⟩ := Nat.exists_eq_add_of_le hl
    rw [bfsE_stop h' j] at h
    omega
theorem bfsW_one {gs : List (List Int)} {al : List Nat} {s0 : Int} {d d' : Nat} (h : (bfsW gs al s0 d).length = d) (h' : (bfsW gs al s0 d').length = d') : d = d' :=
  bfsE_one (by rw [← (bfsW_words gs al s0 d).len]; exact h) (by rw [← (bfsW_words gs al s0 d').len]; exact h')
theorem bfsW_nodup {gs : List (List Int)} {al : List Nat} {s0 : Int} (h0 : 0 ≤ s0) (h1 : s0 < gs.length) (hg : Goals gs al.length) (d : Nat) : ((bfsW gs al s0 d).map Prod.fst).Nodup := by
  rw [(bfsW_words gs al s0 d).fst]
  exact (bfsE_good h0 h1 (fun g hm => (hg g hm).2) d).1
theorem sorted_one : ∀ {xs ys : List Int}, xs.Perm ys → xs.Pairwise (· ≤ ·) → ys.Pairwise (· ≤ ·) → xs = ys
  | [], ys, p, _, _ => (List.nil_perm.mp p).symm
  | x :: xs, [], p, _, _ => absurd p (by simp)
  | x :: xs, y :: ys, p, a, b => by
    have a2 := List.pairwise_cons.mp a
    have b2 := List.pairwise_cons.mp b
    have e : x = y := by
      have h1 : x ∈ y :: ys := p.mem_iff.mp (List.mem_cons_self ..)
      have h2 : y ∈ x :: xs := p.mem_iff.mpr (List.mem_cons_self ..)
      rcases List.mem_cons.mp h1 with h1 | h1
      · exact h1
      · rcases List.mem_cons.mp h2 with h2 | h2
        · exact h2.symm
        · have := b2.1 x h1
          have := a2.1 y h2
          omega
    subst e
    rw [sorted_one (List.perm_cons x |>.mp p) a2.2 b2.2]
theorem bfsW_signs {gs : List (List Int)} {al : List Nat} {s0 : Int} {d : Nat} (hg : ∀ g ∈ gs, g.length ≤ al.length) : ∀ (i : Nat) (e : Int × List Nat), (bfsW gs al s0 d)[i]? = some e → ∀ c ∈ e.2, c ∈ al := by
  have W := bfsW_words gs al s0 d
  intro i
  induction i using Nat.strongRecOn with
  | _ i ih =>
    intro e he
    have hi := (List.getElem?_eq_some_iff.mp he).1
    obtain ⟨x, hf⟩ : ∃ x, (bfsE gs s0 d)[i]? = some x := ⟨_, List.getElem?_eq_getElem (by rw [← W.len]; exact hi)⟩
    obtain ⟨w, hw, lo⟩ := W.at_ i _ hf
    rw [he] at hw
    have e2 : e.2 = w := congrArg Prod.snd (Option.some.inj hw)
    rw [e2]
    cases ho : x.2 with
    | none =>
      rw [ho] at lo
      have lo : w = [] := lo
      rw [lo]
      intro c hc
      cases hc
    | some pk =>
      rw [ho] at lo
      obtain ⟨p, k⟩ := pk
      have kl := bfsE_k (n := al.length) hg d _ (List.mem_of_getElem? hf) p k ho
      obtain ⟨j, u, ji, hj, rfl⟩ := lo
      have := ih j ji _ hj
      intro c hc
      rcases List.mem_append.mp hc with hc | hc
      · exact this c hc
      · rw [List.mem_singleton.mp hc, List.getD_eq_getElem?_getD, List.getElem?_eq_getElem kl]
        exact List.getElem_mem kl
theorem kvW_keys (W : Wrd) : ((kvW W).map fun kv => kV kv.1) = (W.map Prod.fst).map V.int := by
  unfold kvW
  rw [List.map_map, List.map_map]
  rfl

/-! ### lists and tuples of ints as data -/
theorem dpa_ints {K : PySem.W.Frag} {H : Hp} : ∀ ns : List Int, DpAll K H (ns.map V.int) (ns.map PyData.int)
  | [] => .nil
  | i :: ns => .cons (.int i) (dpa_ints ns)
theorem lay_ints : ∀ ns : List Int, PyData.canLayAll0 (ns.map PyData.int) = true ∧ PyData.depthAll (ns.map PyData.int) = 0
  | [] => ⟨rfl, rfl⟩
  | i :: ns => by
    obtain ⟨a, b⟩ := lay_ints ns
    refine ⟨?_, ?_⟩
    · show (true && PyData.canLayAll0 (ns.map PyData.int)) = true
      rw [a]
      rfl
    · show max 0 (PyData.depthAll (ns.map PyData.int)) = 0
      rw [b]
      rfl
theorem shaped_intL (ns : List Int) : SeqAt.shaped (.list (ns.map PyData.int)) = true := by
  show (PyData.canLayAll0 _ && decide (PyData.depthAll _ + 1 ≤ 64)) = true
  rw [(lay_ints ns).1, (lay_ints ns).2]
  rfl
theorem shaped_intT (ns : List Int) : SeqAt.shaped (.tuple (ns.map PyData.int)) = true := by
  show (PyData.canLayAll0 _ && decide (PyData.depthAll _ + 1 ≤ 64)) = true
  rw [(lay_ints ns).1, (lay_ints ns).2]
  rfl
theorem eqvAll_ints : ∀ xs ys : List Int, PyData.eqvAll (xs.map PyData.int) (ys.map PyData.int) = decide (xs = ys)
  | [], [] => rfl
  | [], _ :: _ => rfl
  | _ :: _, [] => rfl
  | x :: xs, y :: ys => by
    show (PyData.eqv (.int x) (.int y) && PyData.eqvAll (xs.map PyData.int) (ys.map PyData.int)) = _
    rw [eqvAll_ints xs ys, show PyData.eqv (.int x) (.int y) = decide (x = y) from by rw [Bool.eq_iff_iff]; simp [PyData.eqv]]
    rw [Bool.eq_iff_iff]
    simp
theorem eqv_intL (xs ys : List Int) : PyData.eqv (.list (xs.map PyData.int)) (.list (ys.map PyData.int)) = decide (xs = ys) := eqvAll_ints xs ys
theorem eqv_intT (xs ys : List Int) : PyData.eqv (.tuple (xs.map PyData.int)) (.tuple (ys.map PyData.int)) = decide (xs = ys) := eqvAll_ints xs ys

variable {K : PySem.W.Frag} {mg : Str → Option Value}
/-! ### images and turns -/
/-- the reachable states, ascending -/
def Reach (gs : List (List Int)) (s : Int) (ns : List Int) : Prop := ∃ d, (bfsE gs s d).length = d ∧ ns.Perm ((bfsE gs s d).map Prod.fst) ∧ ns.Pairwise (· ≤ ·)
theorem Reach.one {gs : List (List Int)} {s : Int} {ns ms : List Int} (a : Reach gs s ns) (b : Reach gs s ms) : ns = ms := by
  obtain ⟨d, h1, h2, h3⟩ := a
  obtain ⟨e, k1, k2, k3⟩ := b
  obtain rfl := bfsE_one h1 k1
  exact sorted_one (h2.trans k2.symm) h3 k3
/-- what is asked of a set of states and a word -/
def EndsP (K : PySem.W.Frag) (T : Env K mg) (H : Hp) (E : XK) (m : Addr) (u v : V) (good : Addr → List Int → List Int → Prop) : Prop := ∃ (al : Str) (gs : List (List Int)) (s : Int) (ns : List Int) (du : PyData), MachAt K T.C_Machine H m al gs s ∧ Reach gs s ns ∧ ns.length ≤ 1000 ∧ Dp K H u du ∧ (∀ ds, du = .tuple ds → ds.length ≤ 1000) ∧
  ((6 < ns.length ∧ ∀ d H', Same H H' → H' d = some (.xd [("code", .str "TooMany"), ("most", .int 6), ("subject", .str "states")]) → E (.ref T.C_TooMany) (some d) H') ∨
   (ns.length ≤ 6 ∧ setD ns du = false ∧ ∀ d H', Same H H' → H' d = some (.xd [("code", .str "InvalidSet"), ("given", u)]) → E (.ref T.C_InvalidSet) (some d) H') ∨
   (ns.length ≤ 6 ∧ setD ns du = true ∧ ∃ (a : Addr) (ss : List Int), u = .ref a ∧ SqT K H a (ss.map V.int) ∧ (∀ x ∈ ss, 0 ≤ x ∧ x < gs.length) ∧ ss ≠ [] ∧ ss.length ≤ 6 ∧
    ((∃ z : Str, v = .str z ∧ z.length ≤ 100000 ∧ (∀ c ∈ z.cps.toList, c ∈ al.cps.toList) ∧ good a ss (ss.map fun i => goAll gs al.cps.toList i z.cps.toList)) ∨
     (((∃ z : Str, v = .str z ∧ z.length ≤ 100000 ∧ ¬ ∀ c ∈ z.cps.toList, c ∈ al.cps.toList) ∨ NoStr K H v) ∧ ∀ d H', Same H H' → H' d = some (.xd [("code", .str "InvalidWord"), ("given", v)]) → E (.ref T.C_InvalidWord) (some d) H'))))
theorem EndsP.imp {K : PySem.W.Frag} {T : Env K mg} {H : Hp} {E : XK} {m : Addr} {u v : V} {g1 g2 : Addr → List Int → List Int → Prop} (h : EndsP K T H E m u v g1) (i : ∀ a ss es, u = .ref a → SqT K H a (ss.map V.int) → ss.length ≤ 6 → es.length = ss.length → g1 a ss es → g2 a ss es) : EndsP K T H E m u v g2 := by
  obtain ⟨al, gs, s, ns, du, h1, h2, h3, h4, h5, h⟩ := h
  refine ⟨al, gs, s, ns, du, h1, h2, h3, h4, h5, ?_⟩
  rcases h with h | h | ⟨k1, k2, a, ss, k3, k4, k5, k6, k7, h⟩
  · exact .inl h
  · exact .inr (.inl h)
  · refine .inr (.inr ⟨k1, k2, a, ss, k3, k4, k5, k6, k7, ?_⟩)
    rcases h with ⟨z, e1, e2, e3, g⟩ | h
    · exact .inl ⟨z, e1, e2, e3, i a ss _ k3 k4 k7 (by rw [List.length_map]) g⟩
    · exact .inr h
def spFew (K : PySem.W.Frag) (T : Env K mg) : Sp := fun vs H Q E => ∃ (m : Addr) (al : Str) (gs : List (List Int)) (s : Int) (ns : List Int), vs = [.ref m] ∧ MachAt K T.C_Machine H m al gs s ∧ Reach gs s ns ∧ ns.length ≤ 1000 ∧
  (ns.length ≤ 6 → ∀ p H', Same H H' → H' p = some (.lst (ns.map V.int)) → Q (.ref p) H') ∧
  (6 < ns.length → ∀ d H', Same H H' → H' d = some (.xd [("code", .str "TooMany"), ("most", .int 6), ("subject", .str "states")]) → E (.ref T.C_TooMany) (some d) H')
def spEnds (K : PySem.W.Frag) (T : Env K mg) : Sp := fun vs H Q E => ∃ (m : Addr) (u v : V), vs = [.ref m, u, v] ∧ EndsP K T H E m u v fun _ _ es => ∀ p H', Same H H' → H' p = some (.lst (es.map V.int)) → Q (.ref p) H'
def spImage (K : PySem.W.Frag) (T : Env K mg) : Sp := fun vs H Q E => ∃ (m : Addr) (u v : V), vs = [.ref m, u, v] ∧ EndsP K T H E m u v fun _ _ es => ∀ (ks : List Int) (p : Addr) (H' : Hp), ks.Pairwise (· < ·) → (∀ k : Int, k ∈ ks ↔ k ∈ es) → Same H H' → H' p = some (.tup (ks.map V.int)) → Q (.ref p) H'
def spTurn (K : PySem.W.Frag) (T : Env K mg) : Sp := fun vs H Q E => ∃ (m : Addr) (u v : V), vs = [.ref m, u, v] ∧ EndsP K T H E m u v fun _ ss es => ∀ (rs : List Int) (H' : Hp), rs.Perm es → rs.Pairwise (· ≤ ·) → Same H H' → (rs = ss → ∀ p, H' p = some (.tup (es.map V.int)) → Q (.ref p) H') ∧ (rs ≠ ss → Q .non H')
section
variable {P : Program} {w : World} {base : Heap}
theorem ok_few_reachable (T : Env K mg) : FnOk P w K mg base (L2.CX P w) 3 T.f_few_reachable T.fd_few_reachable ["machine"] (spFew K T) := by
  refine T.F_few_reachable.okX sc_few_reachable (fun vs H Q E h => ?_) (fun cdv A outer s H vs Q E hr h => ⟨_, ((pss_cons (ps_set (i := 1) sc_few_reachable.nd rfl (.inl rfl) (pe_meth0 (pv 0) T.cl_Machine T.m_Machine_reachable (ok_Machine_reachable T) (hr.mono (by decide)) T.b_Machine_reachable .nil pass0))
      (pss_cons (ps_if (pt_cmpR op_gt (pe_callB call_len_seq (by rfl) T.z_len (by decide +kernel) (pa_cons (pv 1) pa_nil)) (pe_glob (v := .int 6) (by rfl) T.c_MOST_STATES ⟨_, rfl⟩) (nomark _))
      (pss_one (ps_raise rfl (takes_of rfl rfl rfl rfl) (pmk_oex T.x_TooMany T.i_TooMany___init T.t_TooMany___init (ok_TooMany___init T) (hr.mono (by decide)) T.b_TooMany___init .nil pass0 (by rfl) T.gC_TooMany (pa_cons pe_str (pa_cons (pe_glob (v := .int 6) (by rfl) T.c_MOST_STATES ⟨_, rfl⟩) pa_nil)))))
      pss_nil)
      (pss_one (ps_ret (pv 1)))))), ?_⟩)
  · obtain ⟨m, al, gs, s, ns, rfl, _⟩ := h
    rfl
  · obtain ⟨m, al, gs, s0, ns, rfl, M, R, nl, q1, q2⟩ := h
    obtain ⟨dx, l, h1, -⟩ := id M.at_
    walk_at "ss"
    refine ⟨m, dx, _, rfl, h1, rfl, ?_⟩
    walk_at "ss"
    refine ⟨m, al, gs, s0, rfl, M, fun p d ns2 H1 hd pm pw hp s1 hl => ?_⟩
    obtain rfl : ns = ns2 := R.one ⟨d, hd, pm, pw⟩
    walk_at "ss"
    refine ⟨p, _, rfl, .inl (SqL.of hl), ?_⟩
    rw [List.length_map]
    walk_at "ss"
    refine ite2 (fun e => ?_) (fun e => ?_)
    · have e : 6 < ns.length := by
        have := of_decide_eq_true e
        omega
      walk_at "ss"
      first | exact many_out fun d2 G _ s2 e2 => q2 e d2 G (s1.trans s2) e2 | exact (many_out fun d2 G _ s2 e2 => q2 e d2 G (s1.trans s2) e2).2
    · have e : ns.length ≤ 6 := by
        have : ¬ ((6 : Int) < (ns.length : Int)) := fun h => e (decide_eq_true h)
        omega
      walk_at "ss"
      exact q1 e p _ s1 hl
theorem ok_ends_of (T : Env K mg) : FnOk P w K mg base (L2.CX P w) 6 T.f_ends_of T.fd_ends_of ["machine", "states", "word"] (spEnds K T) := by
  refine T.F_ends_of.okX sc_ends_of (fun vs H Q E h => ?_) (fun cdv A outer s H vs Q E hr h => ⟨_, ((pss_cons (ps_if (pt_not (pt_val (pe_call (ok_is_set_of T) (hr.mono (by decide)) (by rfl) T.g_is_set_of T.F_is_set_of.kp T.b_is_set_of .nil pass0 (pa_cons (pv 1) (pa_cons (pe_call (ok_few_reachable T) (hr.mono (by decide)) (by rfl) T.g_few_reachable T.F_few_reachable.kp T.b_few_reachable .nil (passE (takes_of rfl rfl rfl rfl)) (pa_cons (pv 0) pa_nil)) pa_nil)))))
      (pss_one (ps_raise rfl (takes_of rfl rfl rfl rfl) (pmk_oex T.x_InvalidSet T.i_InvalidSet___init T.t_InvalidSet___init (ok_InvalidSet___init T) (hr.mono (by decide)) T.b_InvalidSet___init .nil pass0 (by rfl) T.gC_InvalidSet (pa_cons (pv 1) pa_nil))))
      pss_nil)
      (pss_one (ps_ret (pe_lcX (own := [("state", 3)]) (g := (gName 3)) rfl rfl (takes_of rfl rfl rfl rfl) rfl sc_ends_of.nd (pi_tup (pv 1)) (blkOk_by (own := [("state", 3)]) (N := N_ends_of) (sc := defScope s_ends_of) (by decide +kernel)) (fun _ _ _ _ _ => (pg_name (i := 3) sc_ends_of.nd rfl (.inl rfl))) (fun _ _ _ _ _ _ px => (pe_meth (pv 0) T.cl_Machine T.m_Machine_led (ok_Machine_led T) (hr.mono (by decide)) T.b_Machine_led .nil px (pa_cons (pv 3) (pa_cons (pv 2) pa_nil))))))))), ?_⟩)
  · obtain ⟨m, u, v, rfl, _⟩ := h
    rfl
  · obtain ⟨m, u, v, rfl, al, gs, s0, ns, du, M, R, nl, hu, hds, h⟩ := h
    walk_at "ss"
    refine ⟨m, al, gs, s0, ns, rfl, M, R, nl, fun n6 p H1 s1 hp => ?_, fun n6 d H1 s1 e1 => ?_⟩
    rotate_left
    · rcases h with ⟨_, q⟩ | ⟨h6, _⟩ | ⟨h6, _⟩
      · exact q d H1 s1 e1
      · omega
      · omega
    · walk_at "ss"
      refine ⟨u, p, du, ns, rfl, dp_same hu s1, SqL.of hp, nl, hds, fun H2 s2 => ?_⟩
      have s12 := s1.trans s2
      rcases h with ⟨h6, _⟩ | ⟨_, hb, q⟩ | ⟨_, hb, a, ss, rfl, ha, inr, ne, sl, h⟩
      · omega
      · rw [hb]
        walk_at "ss"
        first | exact err_out fun d G _ s3 e => q d G (s12.trans s3) e | exact (err_out fun d G _ s3 e => q d G (s12.trans s3) e).2
      · rw [hb]
        walk_at "ss"
        refine ⟨⟨_, same_tup s12 ha⟩, ?_⟩
        intro D hD
        have at_ : ∀ {i : Nat} {x : V}, (ss.map V.int)[i]? = some x → ∃ j, ss[i]? = some j ∧ x = .int j ∧ 0 ≤ j ∧ j < gs.length := fun {i x} hx => by
          rw [List.getElem?_map] at hx
          cases e : ss[i]? with
          | none => rw [e] at hx; cases hx
          | some j =>
            rw [e] at hx
            cases hx
            have := inr j (List.mem_of_getElem? e)
            exact ⟨j, rfl, rfl, this.1, this.2⟩
        rcases h with ⟨z, rfl, zl, zin, q⟩ | ⟨bad, q⟩
        · refine lc_gen walk_tup (fun H' => Same H H') (fun i y => ∃ j, ss[i]? = some j ∧ y = V.int (goAll gs al.cps.toList j z.cps.toList)) (by rw [List.length_map]; omega) (s12.trans (same_upd hD)) (fun _ h => same_tup h ha) (fun _ _ h => same_mut h (s12.free hD)) ?_ ?_
          · rintro i x H3 H4 Q1 hlt hI ⟨rfl, hx⟩ - hQ
            obtain ⟨j, hj, rfl, j0, j1⟩ := at_ hx
            walk_at "ss"
            have M4 := M.same hI
            obtain ⟨dx, l, h4, -⟩ := id M4.at_
            refine ⟨m, dx, _, rfl, h4, rfl, ?_⟩
            walk_at "ss"
            exact ⟨m, al, gs, s0, _, _, rfl, M4, .inl ⟨j, z, rfl, rfl, j0, j1, zl, zin, fun H5 s5 => hQ _ _ ⟨j, hj, rfl⟩ (hI.trans s5) fun o ho => s5 _ _ ho⟩⟩
          · intro H3 ys hI hy hl hr2
            have e : ys = (ss.map fun j => goAll gs al.cps.toList j z.cps.toList).map V.int := by
              rw [List.map_map]
              exact ys_map (by rw [hl, List.length_map]) hr2
            subst e
            exact q D H3 hI hy
        · refine lc_gen walk_tup (fun H' => Same H H') (fun i y => False) (by rw [List.length_map]; omega) (s12.trans (same_upd hD)) (fun _ h => same_tup h ha) (fun _ _ h => same_mut h (s12.free hD)) ?_ ?_
          · rintro i x H3 H4 Q1 hlt hI ⟨rfl, hx⟩ - hQ
            obtain ⟨j, hj, rfl, j0, j1⟩ := at_ hx
            walk_at "ss"
            have M4 := M.same hI
            obtain ⟨dx, l, h4, -⟩ := id M4.at_
            refine ⟨m, dx, _, rfl, h4, rfl, ?_⟩
            walk_at "ss"
            exact ⟨m, al, gs, s0, _, _, rfl, M4, .inr (.inr ⟨j, rfl, j0, j1, bad.imp id fun h => h.same hI, fun d H5 s5 e5 => q d H5 (hI.trans s5) e5⟩)⟩
          · intro H3 ys hI hy hl hr2
            cases ys with
            | nil =>
              rw [List.length_map] at hl
              exact absurd (List.eq_nil_of_length_eq_zero hl.symm) ne
            | cons y ys => exact (hr2 0 y rfl).elim
theorem ok_image (T : Env K mg) : FnOk P w K mg base (L2.CX P w) 7 T.f_image T.fd_image ["machine", "states", "word"] (spImage K T) := by
  refine T.F_image.okX sc_image (fun vs H Q E h => ?_) (fun cdv A outer s H vs Q E hr h => ⟨_, ((pss_one (ps_ret (pe_callTy call_tuple_of (by rfl) T.z_tuple (by decide +kernel) (pa_cons (pe_callB (cr_sortedSet rfl) (by rfl) T.z_sorted (by decide +kernel) (pa_cons (pe_callTy (cr_setL rfl) (by rfl) T.z_set (by decide +kernel) (pa_cons (pe_call (ok_ends_of T) (hr.mono (by decide)) (by rfl) T.g_ends_of T.F_ends_of.kp T.b_ends_of .nil (passE (takes_of rfl rfl rfl rfl)) (pa_cons (pv 0) (pa_cons (pv 1) (pa_cons (pv 2) pa_nil)))) pa_nil)) pa_nil)) pa_nil))))), ?_⟩)
  · obtain ⟨m, u, v, rfl, _⟩ := h
    rfl
  · obtain ⟨m, u, v, rfl, h⟩ := h
    walk_at "ss"
    refine ⟨m, u, v, rfl, h.imp fun a ss es ua ha sl el q p H1 s1 hp => ?_⟩
    walk_at "ss"
    refine ⟨p, es, rfl, SqL.of hp, by omega, fun p2 c hc n2 => ?_⟩
    have s2 := s1.trans (same_upd (o := SetO w p2 (fun j => decide (j ∈ es)) c) n2)
    walk_at "ss"
    refine ⟨p2, _, c, rfl, upd_same, by omega, fun ks p3 pw mm kl n3 => ?_⟩
    have s3 := s2.trans (same_upd (o := .lst (ks.map V.int)) n3)
    walk_at "ss"
    refine ⟨p3, _, rfl, .inl ⟨SqL.of upd_same, fun p4 n4 => ?_⟩⟩
    exact q ks p4 _ pw (fun k => by rw [mm k]; exact decide_eq_true_iff) (s3.trans (same_upd n4)) upd_same
theorem ok_turn (T : Env K mg) : FnOk P w K mg base (L2.CX P w) 7 T.f_turn T.fd_turn ["machine", "states", "word"] (spTurn K T) := by
  refine T.F_turn.okX sc_turn (fun vs H Q E h => ?_) (fun cdv A outer s H vs Q E hr h => ⟨_, ((pss_cons (ps_set (i := 3) sc_turn.nd rfl (.inl rfl) (pe_call (ok_ends_of T) (hr.mono (by decide)) (by rfl) T.g_ends_of T.F_ends_of.kp T.b_ends_of .nil (passE (takes_of rfl rfl rfl rfl)) (pa_cons (pv 0) (pa_cons (pv 1) (pa_cons (pv 2) pa_nil)))))
      (pss_one (ps_ret (pe_ifExp (pt_cmpR (op_eqD hr.units) (pe_callB cr_sortedI (by rfl) T.z_sorted (by decide +kernel) (pa_cons (pv 3) pa_nil)) (pe_callTy call_list_of (by rfl) T.z_list (by decide +kernel) (pa_cons (pv 1) pa_nil)) (nomark _)) (pe_callTy call_tuple_of (by rfl) T.z_tuple (by decide +kernel) (pa_cons (pv 3) pa_nil)) pe_non))))), ?_⟩)
  · obtain ⟨m, u, v, rfl, _⟩ := h
    rfl
  · obtain ⟨m, u, v, rfl, h⟩ := h
    walk_at "ss"
    refine ⟨m, u, v, rfl, h.imp fun a ss es ua ha sl el q p H1 s1 hp => ?_⟩
    walk_at "ss"
    refine ⟨p, es, rfl, SqL.of hp, fun rs p2 pm pw n2 => ?_⟩
    have s2 := s1.trans (same_upd (o := .lst (rs.map V.int)) n2)
    walk_at "ss"
    refine ⟨a, _, (by rw [ua]), .inr (same_tup s2 ha), fun p3 n3 => ?_⟩
    have u3 := same_upd (o := .lst (ss.map V.int)) n3
    have s3 := s2.trans u3
    have h2 := u3 _ _ (upd_same (H := H1) (a := p2) (o := .lst (rs.map V.int)))
    refine ⟨_, _, .lst (SqL.of h2) (dpa_ints rs), .lst (SqL.of upd_same) (dpa_ints ss), shaped_intL rs, shaped_intL ss, ?_⟩
    rw [eqv_intL]
    refine ⟨_, rfl, ite2 (fun e => ?_) (fun e => ?_)⟩
    · have e := of_decide_eq_true e
      walk_at "ss"
      refine ⟨p, _, rfl, .inl ⟨SqL.of ((same_upd n2).trans u3 _ _ hp), fun p4 n4 => ?_⟩⟩
      exact (q rs _ pm pw (s3.trans (same_upd n4))).1 e p4 upd_same
    · have e : rs ≠ ss := fun z => e (decide_eq_true z)
      walk_at "ss"
      exact (q rs _ pm pw s3).2 e
end

variable {K : PySem.W.Frag} {mg : Str → Option Value}
/-! ### what is got -/
open L2H (RoomH)
/-- an error's code and the name of its field -/
def CodeF (code f : Str) : Prop := (code ∈ ([Str.ofString "InvalidAlphabet", "InvalidWord", "InvalidLetter", "InvalidState", "InvalidPrime", "InvalidSet"] : List Str) ∧ f = "given") ∨ (code ∈ ([Str.ofString "InvalidRows", "InvalidLine"] : List Str) ∧ f = "at") ∨ (code ∈ ([Str.ofString "InvalidText", "InvalidPage"] : List Str) ∧ f = "row")
/-- what the caught error is: its class, its fields -/
def ErrIs (K : PySem.W.Frag) (cls : Value) (d : Option Addr) (H : Hp) (code f : Str) (v : V) : Prop := CodeF code f ∧ ∃ C dd, cls = .ref C ∧ XfC K C ∧ PySem.W.findIn K (.ref C) "code" = some none ∧ PySem.W.findIn K (.ref C) f = some none ∧ d = some dd ∧ H dd = some (.xd [("code", .str code), (f, v)])
/-- what the caught error is: its code, the values of its fields -/
def ErrL (K : PySem.W.Frag) (cls : Value) (d : Option Addr) (H : Hp) (code : Str) (us : List V) : Prop := (∃ f v, us = [v] ∧ ErrIs K cls d H code f v) ∨
  (∃ s m, us = [s, m] ∧ code = "TooMany" ∧ ∃ C dd, cls = .ref C ∧ XfC K C ∧ PySem.W.findIn K (.ref C) "code" = some none ∧ PySem.W.findIn K (.ref C) "subject" = some none ∧ PySem.W.findIn K (.ref C) "most" = some none ∧ d = some dd ∧ H dd = some (.xd [("code", .str "TooMany"), ("most", m), ("subject", s)])) ∨
  (us = [] ∧ code = "AlphabetsDiffer" ∧ ∃ C dd, cls = .ref C ∧ XfC K C ∧ PySem.W.findIn K (.ref C) "code" = some none ∧ d = some dd ∧ H dd = some (.xd [("code", .str "AlphabetsDiffer")]))
theorem in_tup {K : PySem.W.Frag} {H : Hp} {x : V} {ys : List V} {Q : VK} (hx : flatV x = true) (hab : ys.all flatV = true) (q : ∀ H', Same H H' → Q (.bl (inV x ys)) H') (p : Addr) (hp : H p = none) : rIn K false x (.ref p) (upd H p (.tup ys)) Q :=
  ⟨p, ys, rfl, .inr (SqT.of upd_same), hx, hab, q _ (same_upd hp)⟩
def spFieldL (K : PySem.W.Frag) : Addr → Value → Option Addr → Sp := fun a cls d vs H Q _ => ∃ (code : Str) (us : List V), vs = [.ref a] ∧ ErrL K cls d H code us ∧ ∀ p H', H' p = some (.tup us) → Same H H' → Q (.ref p) H'
section
variable {P : Program} {w : World} {base : Heap}
theorem ok_fieldL (T : Env K mg) : FnP P w K mg base CX0 1 T.f_field T.fd_field ["_law_e"] (spFieldL K) := by
  obtain ⟨oc, od, kV, doc, pm, an, cdv, ct, osl, e, lk, hcd⟩ := T.F_field.ex
  rw [e]
  rw [e] at lk
  refine fnp_of lk hcd sc_field (fun a cls d vs H Q E h => ?_) (fun A outer s H vs Q E p cls d hz hf hr h => ⟨_, ((pss_cons (ps_if (pt_cmpR op_in_seq (pe_xfA ⟨List.mem_cons_self .., hz, hf⟩ (pv 0)) (pe_tup (pa_cons pe_str (pa_cons pe_str (pa_cons pe_str (pa_cons pe_str (pa_cons pe_str (pa_cons pe_str pa_nil))))))) (by rfl))
      (pss_one (ps_ret (pe_tup (pa_cons (pe_xfA ⟨List.mem_cons_self .., hz, hf⟩ (pv 0)) pa_nil))))
      pss_nil)
      (pss_cons (ps_if (pt_cmpR op_in_seq (pe_xfA ⟨List.mem_cons_self .., hz, hf⟩ (pv 0)) (pe_tup (pa_cons pe_str (pa_cons pe_str pa_nil))) (by rfl))
      (pss_one (ps_ret (pe_tup (pa_cons (pe_xfA ⟨List.mem_cons_self .., hz, hf⟩ (pv 0)) pa_nil))))
      pss_nil)
      (pss_cons (ps_if (pt_cmpR op_in_seq (pe_xfA ⟨List.mem_cons_self .., hz, hf⟩ (pv 0)) (pe_tup (pa_cons pe_str (pa_cons pe_str pa_nil))) (by rfl))
      (pss_one (ps_ret (pe_tup (pa_cons (pe_xfA ⟨List.mem_cons_self .., hz, hf⟩ (pv 0)) pa_nil))))
      pss_nil)
      (pss_cons (ps_if (pt_cmpR op_in_seq (pe_xfA ⟨List.mem_cons_self .., hz, hf⟩ (pv 0)) (pe_tup (pa_cons pe_str (pa_cons pe_str pa_nil))) (by rfl))
      (pss_one (ps_ret (pe_tup (pa_cons (pe_xfA ⟨List.mem_cons_self .., hz, hf⟩ (pv 0)) pa_nil))))
      pss_nil)
      (pss_cons (ps_if (pt_cmpR op_in_seq (pe_xfA ⟨List.mem_cons_self .., hz, hf⟩ (pv 0)) (pe_tup (pa_cons pe_str (pa_cons pe_str pa_nil))) (by rfl))
      (pss_one (ps_ret (pe_tup (pa_cons (pe_xfA ⟨List.mem_cons_self .., hz, hf⟩ (pv 0)) pa_nil))))
      pss_nil)
      (pss_one (ps_ret (pe_ifExp (pt_cmpR op_eq (pe_xfA ⟨List.mem_cons_self .., hz, hf⟩ (pv 0)) pe_str (nomark _)) (pe_tup (pa_cons (pe_xfA ⟨List.mem_cons_self .., hz, hf⟩ (pv 0)) (pa_cons (pe_xfA ⟨List.mem_cons_self .., hz, hf⟩ (pv 0)) pa_nil))) (pe_tup pa_nil)))))))))), ?_⟩)
  · obtain ⟨code, us, rfl, _⟩ := h
    rfl
  · obtain ⟨code, us, rfl, er, q⟩ := h
    rcases er with ⟨f, v, rfl, cf, C, dd, rfl, xf, n1, n2, rfl, hd⟩ | ⟨sv, mv, rfl, rfl, C, dd, rfl, xf, n1, n2, n3, rfl, hd⟩ | ⟨rfl, rfl, C, dd, rfl, xf, n1, rfl, hd⟩
    · walk_at "ss"
      refine ⟨C, dd, _, _, rfl, xf, n1, rfl, hd, rfl, ?_⟩
      walk_at "ss"
      intro p1 hp1
      have s1 := same_upd (o := .tup [.str "InvalidAlphabet", .str "InvalidWord", .str "InvalidLetter", .str "InvalidState", .str "InvalidPrime", .str "InvalidSet"]) hp1
      walk_at "ss"
      refine ⟨p1, _, rfl, .inr (.inl (.inl upd_same)), rfl, rfl, ?_⟩
      rcases cf with ⟨cf, rfl⟩ | ⟨cf, rfl⟩ | ⟨cf, rfl⟩
      · rw [show inV (V.str code) [V.str "InvalidAlphabet", .str "InvalidWord", .str "InvalidLetter", .str "InvalidState", .str "InvalidPrime", .str "InvalidSet"] = true by
          simp only [List.mem_cons, List.not_mem_nil, or_false] at cf
          rcases cf with e | e | e | e | e | e <;> rw [e] <;> decide +kernel]
        walk_at "ss"
        refine ⟨C, dd, _, _, rfl, xf, n2, rfl, s1 _ _ hd, rfl, ?_⟩
        walk_at "ss"
        intro p2 hp2
        exact q p2 _ upd_same (s1.trans (same_upd hp2))
      · rw [show inV (V.str code) [V.str "InvalidAlphabet", .str "InvalidWord", .str "InvalidLetter", .str "InvalidState", .str "InvalidPrime", .str "InvalidSet"] = false by
          simp only [List.mem_cons, List.not_mem_nil, or_false] at cf
          rcases cf with e | e <;> rw [e] <;> decide +kernel]
        walk_at "ss"
        refine ⟨C, dd, _, _, rfl, xf, n1, rfl, s1 _ _ hd, rfl, ?_⟩
        walk_at "ss"
        intro p2 hp2
        have s2 := s1.trans (same_upd (o := .tup [.str "InvalidName", .str "InvalidLimit"]) hp2)
        walk_at "ss"
        refine ⟨p2, _, rfl, .inr (.inl (.inl upd_same)), rfl, rfl, ?_⟩
        rw [show inV (V.str code) [V.str "InvalidName", .str "InvalidLimit"] = false by
          simp only [List.mem_cons, List.not_mem_nil, or_false] at cf
          rcases cf with e | e <;> rw [e] <;> decide +kernel]
        walk_at "ss"
        refine ⟨C, dd, _, _, rfl, xf, n1, rfl, s2 _ _ hd, rfl, ?_⟩
        walk_at "ss"
        intro p3 hp3
        have s3 := s2.trans (same_upd (o := .tup [.str "InvalidRows", .str "InvalidLine"]) hp3)
        walk_at "ss"
        refine ⟨p3, _, rfl, .inr (.inl (.inl upd_same)), rfl, rfl, ?_⟩
        rw [show inV (V.str code) [V.str "InvalidRows", .str "InvalidLine"] = true by
          simp only [List.mem_cons, List.not_mem_nil, or_false] at cf
          rcases cf with e | e <;> rw [e] <;> decide +kernel]
        walk_at "ss"
        refine ⟨C, dd, _, _, rfl, xf, n2, rfl, s3 _ _ hd, rfl, ?_⟩
        walk_at "ss"
        intro p4 hp4
        exact q p4 _ upd_same (s3.trans (same_upd hp4))
      · rw [show inV (V.str code) [V.str "InvalidAlphabet", .str "InvalidWord", .str "InvalidLetter", .str "InvalidState", .str "InvalidPrime", .str "InvalidSet"] = false by
          simp only [List.mem_cons, List.not_mem_nil, or_false] at cf
          rcases cf with e | e <;> rw [e] <;> decide +kernel]
        walk_at "ss"
        refine ⟨C, dd, _, _, rfl, xf, n1, rfl, s1 _ _ hd, rfl, ?_⟩
        walk_at "ss"
        intro p2 hp2
        have s2 := s1.trans (same_upd (o := .tup [.str "InvalidName", .str "InvalidLimit"]) hp2)
        walk_at "ss"
        refine ⟨p2, _, rfl, .inr (.inl (.inl upd_same)), rfl, rfl, ?_⟩
        rw [show inV (V.str code) [V.str "InvalidName", .str "InvalidLimit"] = false by
          simp only [List.mem_cons, List.not_mem_nil, or_false] at cf
          rcases cf with e | e <;> rw [e] <;> decide +kernel]
        walk_at "ss"
        refine ⟨C, dd, _, _, rfl, xf, n1, rfl, s2 _ _ hd, rfl, ?_⟩
        walk_at "ss"
        intro p3 hp3
        have s3 := s2.trans (same_upd (o := .tup [.str "InvalidRows", .str "InvalidLine"]) hp3)
        walk_at "ss"
        refine ⟨p3, _, rfl, .inr (.inl (.inl upd_same)), rfl, rfl, ?_⟩
        rw [show inV (V.str code) [V.str "InvalidRows", .str "InvalidLine"] = false by
          simp only [List.mem_cons, List.not_mem_nil, or_false] at cf
          rcases cf with e | e <;> rw [e] <;> decide +kernel]
        walk_at "ss"
        refine ⟨C, dd, _, _, rfl, xf, n1, rfl, s3 _ _ hd, rfl, ?_⟩
        walk_at "ss"
        intro p4 hp4
        have s4 := s3.trans (same_upd (o := .tup [.str "InvalidText", .str "InvalidPage"]) hp4)
        walk_at "ss"
        refine ⟨p4, _, rfl, .inr (.inl (.inl upd_same)), rfl, rfl, ?_⟩
        rw [show inV (V.str code) [V.str "InvalidText", .str "InvalidPage"] = true by
          simp only [List.mem_cons, List.not_mem_nil, or_false] at cf
          rcases cf with e | e <;> rw [e] <;> decide +kernel]
        walk_at "ss"
        refine ⟨C, dd, _, _, rfl, xf, n2, rfl, s4 _ _ hd, rfl, ?_⟩
        walk_at "ss"
        intro p5 hp5
        exact q p5 _ upd_same (s4.trans (same_upd hp5))
    · walk_at "ss"
      refine ⟨C, dd, _, _, rfl, xf, n1, rfl, hd, rfl, ?_⟩
      walk_at "ss"
      refine in_tup rfl rfl fun G1 s1 => ?_
      rw [show inV (V.str "TooMany") [V.str "InvalidAlphabet", .str "InvalidWord", .str "InvalidLetter", .str "InvalidState", .str "InvalidPrime", .str "InvalidSet"] = false by decide +kernel]
      walk_at "ss"
      refine ⟨C, dd, _, _, rfl, xf, n1, rfl, s1 _ _ hd, rfl, ?_⟩
      walk_at "ss"
      refine in_tup rfl rfl fun G2 s2 => ?_
      rw [show inV (V.str "TooMany") [V.str "InvalidName", .str "InvalidLimit"] = false by decide +kernel]
      have s2 := s1.trans s2
      walk_at "ss"
      refine ⟨C, dd, _, _, rfl, xf, n1, rfl, s2 _ _ hd, rfl, ?_⟩
      walk_at "ss"
      refine in_tup rfl rfl fun G3 s3 => ?_
      rw [show inV (V.str "TooMany") [V.str "InvalidRows", .str "InvalidLine"] = false by decide +kernel]
      have s3 := s2.trans s3
      walk_at "ss"
      refine ⟨C, dd, _, _, rfl, xf, n1, rfl, s3 _ _ hd, rfl, ?_⟩
      walk_at "ss"
      refine in_tup rfl rfl fun G4 s4 => ?_
      rw [show inV (V.str "TooMany") [V.str "InvalidText", .str "InvalidPage"] = false by decide +kernel]
      have s4 := s3.trans s4
      walk_at "ss"
      refine ⟨C, dd, _, _, rfl, xf, n1, rfl, s4 _ _ hd, rfl, ?_⟩
      walk_at "ss"
      refine in_tup rfl rfl fun G5 s5 => ?_
      rw [show inV (V.str "TooMany") [V.str "WrongKind", .str "UnknownName"] = false by decide +kernel]
      have s5 := s4.trans s5
      walk_at "ss"
      refine ⟨C, dd, _, _, rfl, xf, n1, rfl, s5 _ _ hd, rfl, ?_⟩
      walk_at "ss"
      refine ⟨C, dd, _, _, rfl, xf, n2, rfl, s5 _ _ hd, rfl, ?_⟩
      walk_at "ss"
      refine ⟨C, dd, _, _, rfl, xf, n3, rfl, s5 _ _ hd, rfl, ?_⟩
      walk_at "ss"
      intro p6 hp6
      exact q p6 _ upd_same (s5.trans (same_upd hp6))
    · walk_at "ss"
      refine ⟨C, dd, _, _, rfl, xf, n1, rfl, hd, rfl, ?_⟩
      walk_at "ss"
      refine in_tup rfl rfl fun G1 s1 => ?_
      rw [show inV (V.str "AlphabetsDiffer") [V.str "InvalidAlphabet", .str "InvalidWord", .str "InvalidLetter", .str "InvalidState", .str "InvalidPrime", .str "InvalidSet"] = false by decide +kernel]
      walk_at "ss"
      refine ⟨C, dd, _, _, rfl, xf, n1, rfl, s1 _ _ hd, rfl, ?_⟩
      walk_at "ss"
      refine in_tup rfl rfl fun G2 s2 => ?_
      rw [show inV (V.str "AlphabetsDiffer") [V.str "InvalidName", .str "InvalidLimit"] = false by decide +kernel]
      have s2 := s1.trans s2
      walk_at "ss"
      refine ⟨C, dd, _, _, rfl, xf, n1, rfl, s2 _ _ hd, rfl, ?_⟩
      walk_at "ss"
      refine in_tup rfl rfl fun G3 s3 => ?_
      rw [show inV (V.str "AlphabetsDiffer") [V.str "InvalidRows", .str "InvalidLine"] = false by decide +kernel]
      have s3 := s2.trans s3
      walk_at "ss"
      refine ⟨C, dd, _, _, rfl, xf, n1, rfl, s3 _ _ hd, rfl, ?_⟩
      walk_at "ss"
      refine in_tup rfl rfl fun G4 s4 => ?_
      rw [show inV (V.str "AlphabetsDiffer") [V.str "InvalidText", .str "InvalidPage"] = false by decide +kernel]
      have s4 := s3.trans s4
      walk_at "ss"
      refine ⟨C, dd, _, _, rfl, xf, n1, rfl, s4 _ _ hd, rfl, ?_⟩
      walk_at "ss"
      refine in_tup rfl rfl fun G5 s5 => ?_
      rw [show inV (V.str "AlphabetsDiffer") [V.str "WrongKind", .str "UnknownName"] = false by decide +kernel]
      have s5 := s4.trans s5
      walk_at "ss"
      refine ⟨C, dd, _, _, rfl, xf, n1, rfl, s5 _ _ hd, rfl, ?_⟩
      walk_at "ss"
      intro p6 hp6
      exact q p6 _ upd_same (s5.trans (same_upd hp6))
end
section
variable {P : Program} {w : World} {base : Heap}
/-- what is got of f -/
def spGotL (P : Program) (w : World) (K : PySem.W.Frag) (mg : Str → Option Value) (base : Heap) (cs : List Value) (k : Nat) : Sp := fun vs H Q _ => ∃ (f : Addr) (g : Hp → Prop) (sp : Hp → VK → XK → Prop), vs = [.ref f] ∧ Held0 P w K mg base (L2.CX P w) k f g sp ∧ ∀ H1, Same H H1 → g H1 ∧
  ∀ (Q2 : VK) (E2 : XK), (∀ v H2, (∀ p H3, H3 p = some (.tup [.str "", v]) → Same H2 H3 → Q (.ref p) H3) → Q2 v H2) →
    (∀ cls d H2, (PySem.W.exmAny K cls cs = some true ∧ ∃ code us, ErrL K cls d H2 code us ∧ ∀ p t H3, H3 p = some (.tup [.str code, .ref t]) → H3 t = some (.tup us) → Same H2 H3 → Q (.ref p) H3) → E2 cls d H2) → sp H1 Q2 E2
theorem ok_gotL (T : Env K mg) (k : Nat) : FnOk P w K mg base CX0 (k + 2) T.f_got T.fd_got ["_law_ask"] (spGotL P w K mg base [.ref T.C_AheadError, .ref T.C_Missing, .ref T.C_NothingLeft] k) := by
  refine T.F_got.ok sc_got (fun vs H Q E h => ?_) (fun cdv A outer s H vs Q E hr h => ⟨_, pss_cons (ps_set (i := 1) sc_got.nd rfl (.inl rfl) (pe_tup (pa_cons pe_str (pa_cons pe_non pa_nil))))
    (pss_cons (ps_tryA3 (i := 2) (tb := fun W => tAsg (tTup (tCons (tC (.str "")) (tCons (tAsk P w K mg base (L2.CX P w) k 0 (WE W)) tNil))) (gName 1))
      (ts := fun q cls d => tAsg (tTup (tCons (tXfA K q cls d "code" (tVar 2)) (tCons (tCallP q cls d (spFieldL K) (tCons (tVar 2) tNil)) tNil))) (gName 1))
      rfl rfl sc_got.nd rfl rfl ⟨by rfl, by decide, .inl T.gC_AheadError⟩ ⟨by rfl, by decide, .inl T.gC_Missing⟩ ⟨by rfl, by decide, .inl T.gC_NothingLeft⟩
      (fun W pn xe tk po => pss_one (ps_set (i := 1) sc_got.nd rfl (.inl rfl) (pe_tup (pa_cons pe_str (pa_cons (pe_ask (hr.mono (by omega)) rfl (by first | exact .inl rfl | exact .inr (.inl rfl)) (fun σ => passAt tk σ)) pa_nil)))))
      (fun q oe cls d pn hz hf => pss_one (ps_set (i := 1) sc_got.nd rfl (.inl rfl) (pe_tup (pa_cons (pe_xfA ⟨List.mem_cons_self .., hz, hf⟩ (pv 2)) (pa_cons (pe_callP (ok_fieldL T) (RoomH.mono ⟨hr.dp, hr.un⟩ (by omega)) ⟨List.mem_cons_self .., hz, hf⟩ (by rfl) T.g_field T.F_field.kp T.b_field (fun σ pins H s e s' I c => c.elim) (pa_cons (pv 2) pa_nil)) pa_nil))))))
    (pss_one (ps_ret (pv 1)))), ?_⟩)
  · obtain ⟨f, g, sp, rfl, _⟩ := h
    rfl
  · obtain ⟨f, g, sp, rfl, hH, q⟩ := h
    walk_at "ss"
    intro p0 hp0
    obtain ⟨hg, q⟩ := q _ (same_upd (o := .tup [.str "", .non]) hp0)
    walk_at "ss"
    refine ⟨f, g, sp, rfl, hH, hg, q _ _ (fun v H2 z => ?_) (fun cls d H2 z => ?_)⟩
    · walk_at "ss"
      intro p1 hp1
      walk_at "ss"
      exact z p1 _ upd_same (same_upd hp1)
    · obtain ⟨em, code, us, er, z⟩ := z
      refine ⟨em, fun x hx => ?_⟩
      obtain ⟨C, dd, fs, rfl, xf, n1, rfl, hd, hc⟩ : ∃ C dd fs, cls = .ref C ∧ XfC K C ∧ PySem.W.findIn K (.ref C) "code" = some none ∧ d = some dd ∧ H2 dd = some (.xd fs) ∧ List.lookup ("code" : Str) fs = some (V.str code) := by
        rcases er with ⟨f, v, rfl, cf, C, dd, rfl, xf, n1, n2, rfl, hd⟩ | ⟨sv, mv, rfl, rfl, C, dd, rfl, xf, n1, n2, n3, rfl, hd⟩ | ⟨rfl, rfl, C, dd, rfl, xf, n1, rfl, hd⟩
        · exact ⟨C, dd, _, rfl, xf, n1, rfl, hd, rfl⟩
        · exact ⟨C, dd, _, rfl, xf, n1, rfl, hd, rfl⟩
        · exact ⟨C, dd, _, rfl, xf, n1, rfl, hd, rfl⟩
      walk_at "ss"
      refine ⟨C, dd, _, _, rfl, xf, n1, rfl, hd, hc, ?_⟩
      walk_at "ss"
      first | intro p1 H3 e1 s1 | refine ⟨code, us, rfl, er, fun p1 H3 e1 s1 => ?_⟩
      walk_at "ss"
      intro p2 hp2
      walk_at "ss"
      exact z p2 p1 _ upd_same (by rw [upd_ne (ne_of_none e1 hp2)]; exact e1) (s1.trans (same_upd hp2))
end

/-! ### all that is got of asks: values, errors -/
inductive Due where
  | val (R : V → Hp → Prop)
  | err (code : Str) (us : List V)
section
variable {P : Program} {w : World} {base : Heap}
def AskL (P : Program) (w : World) (K : PySem.W.Frag) (mg : Str → Option Value) (base : Heap) (cs : List Value) (k : Nat) (H : Hp) (f : Addr) : Due → Prop
  | .val R => ∃ g sp, Held0 P w K mg base (L2.CX P w) k f g sp ∧ ∀ H1, Same H H1 → g H1 ∧ ∀ (Q2 : VK) (E2 : XK), (∀ v H2, R v H2 → Same H1 H2 → Q2 v H2) → sp H1 Q2 E2
  | .err code us => ∃ g sp, Held0 P w K mg base (L2.CX P w) k f g sp ∧ ∀ H1, Same H H1 → g H1 ∧ ∀ (Q2 : VK) (E2 : XK), (∀ cls d H2, PySem.W.exmAny K cls cs = some true → ErrL K cls d H2 code us → Same H1 H2 → E2 cls d H2) → sp H1 Q2 E2
def GotL (H : Hp) (y : V) : Due → Prop
  | .val R => ∃ q v, y = .ref q ∧ H q = some (.tup [.str "", v]) ∧ R v H
  | .err code us => ∃ q t, y = .ref q ∧ H q = some (.tup [.str code, .ref t]) ∧ H t = some (.tup us)
def Due.Keeps : Due → Prop
  | .val R => ∀ v H H', TupKeep H H' → R v H → R v H'
  | .err _ _ => True
theorem GotL.keep {H H' : Hp} {y : V} (k : TupKeep H H') : ∀ {d : Due}, d.Keeps → GotL H y d → GotL H' y d
  | .val R, kk, ⟨q, v, a, b, c⟩ => ⟨q, v, a, k _ _ b, kk _ _ _ k c⟩
  | .err _ _, _, ⟨q, t, a, b, c⟩ => ⟨q, t, a, k _ _ b, k _ _ c⟩
def spAllGotL (P : Program) (w : World) (K : PySem.W.Frag) (mg : Str → Option Value) (base : Heap) (cs : List Value) (k : Nat) : Sp := fun vs H Q _ => ∃ (l : Addr) (ps : List Addr) (dues : List Due), vs = [.ref l] ∧ SqL K H l (ps.map V.ref) ∧ ps.length ≤ 100 ∧ dues.length = ps.length ∧ (∀ d ∈ dues, d.Keeps) ∧
  (∀ (i : Nat) (f : Addr), ps[i]? = some f → ∃ d, dues[i]? = some d ∧ AskL P w K mg base cs k H f d) ∧
  ∀ p ys H', H' p = some (.lst ys) → ys.length = dues.length → (∀ (i : Nat) (y : V), ys[i]? = some y → ∃ d, dues[i]? = some d ∧ GotL H' y d) → Same H H' → Q (.ref p) H'
theorem ok_all_gotL (T : Env K mg) (k : Nat) : FnOk P w K mg base CX0 (k + 3) T.f_all_got T.fd_all_got ["_law_asks"] (spAllGotL P w K mg base [.ref T.C_AheadError, .ref T.C_Missing, .ref T.C_NothingLeft] k) := by
  refine T.F_all_got.ok sc_all_got (fun vs H Q E h => ?_) (fun cdv A outer s H vs Q E hr h => ⟨_, ((pss_one (ps_ret (pe_lc (own := [("_law_ask", 1)]) (g := (gName 1)) (tt := tYes) rfl sc_all_got.nd (pi_list (pv 0)) (blkOk_by (own := [("_law_ask", 1)]) (N := N_all_got) (sc := defScope s_all_got) (by decide +kernel)) (fun _ _ _ _ _ => (pg_name (i := 1) sc_all_got.nd rfl (.inl rfl))) (fun _ _ _ _ _ => pts_nil) (fun _ _ _ _ _ => (pe_call (ok_gotL (P := P) (w := w) (base := base) T k) hr (by rfl) T.g_got T.F_got.kp T.b_got .nil pass0 (pa_cons (pv 1) pa_nil))))))), ?_⟩)
  · obtain ⟨l, ps, dues, rfl, _⟩ := h
    rfl
  · obtain ⟨l, ps, dues, rfl, hl, hn, hd, kk, ha, q⟩ := h
    walk_at "ss"
    try refine ⟨⟨_, hl⟩, ?_⟩
    intro D hD
    refine lc_genH walk_list (fun H' => Same H H') (fun i y H' => ∃ d, dues[i]? = some d ∧ GotL H' y d) (by rw [List.length_map]; omega) (same_upd hD) (fun _ h => h.seq hl) (fun _ _ h => same_mut h hD)
      (fun i y H1 H2 tk ⟨d, e1, e2⟩ => ⟨d, e1, e2.keep tk (kk d (List.mem_of_getElem? e1))⟩) ?_ ?_
    · rintro i x H1 H2 Q1 hlt hI ⟨rfl, hx⟩ - hQ
      rw [List.getElem?_map] at hx
      cases hf : ps[i]? with
      | none => rw [hf] at hx; cases hx
      | some f =>
        rw [hf] at hx
        cases hx
        obtain ⟨d, hdu, as⟩ := ha i f hf
        walk_at "ss"
        cases d with
        | val R =>
          obtain ⟨g, sp, hH, z⟩ := as
          refine ⟨f, g, sp, rfl, hH, fun H3 s3 => ⟨(z H3 (hI.trans s3)).1, fun Q2 E2 hQ2 _ => (z H3 (hI.trans s3)).2 Q2 E2 fun v H4 hR s4 => hQ2 v H4 fun p H5 e1 s5 => ?_⟩⟩
          have s35 := s3.trans (s4.trans s5)
          exact hQ _ _ ⟨_, hdu, p, v, rfl, e1, kk _ (List.mem_of_getElem? hdu) _ _ _ (TupKeep.of s5) hR⟩ (hI.trans s35) (TupKeep.of s35) fun o ho => s35 _ _ ho
        | err code us =>
          obtain ⟨g, sp, hH, z⟩ := as
          refine ⟨f, g, sp, rfl, hH, fun H3 s3 => ⟨(z H3 (hI.trans s3)).1, fun Q2 E2 _ hE => (z H3 (hI.trans s3)).2 Q2 E2 fun cls d H4 em er s4 => hE cls d H4 ⟨em, code, us, er, fun p t H5 e1 e2 s5 => ?_⟩⟩⟩
          have s35 := s3.trans (s4.trans s5)
          exact hQ _ _ ⟨_, hdu, p, t, rfl, e1, e2⟩ (hI.trans s35) (TupKeep.of s35) fun o ho => s35 _ _ ho
    · intro H1 ys hI hy hl2 hr2
      walk_at "ss"
      exact q D ys _ hy (by rw [hl2, List.length_map, hd]) hr2 hI
end

/-! ### drawn goals -/
theorem Tab.kp {K : PySem.W.Frag} {H H' : Hp} {b l p : Addr} {gs : List (List Int)} (T : Tab K H p gs) (k : Kp b H H') (B : BagAt b l H) (n : p ≠ b) : Tab K H' p gs := by
  obtain ⟨ps, h1, h2, h3⟩ := T
  refine ⟨ps, k.seq n h1, h2, fun i q g e1 e2 => ?_⟩
  obtain ⟨⟨i, r, m, c, ns, hb, _⟩, _⟩ := B
  rcases h3 _ q g e1 e2 with (h | ⟨o, h⟩) | h
  · exact .inl (.inl (k _ _ h fun z => by rw [z, hb] at h; cases h))
  · exact .inl (.inr ⟨o, k _ _ h fun z => by rw [z, hb] at h; cases h⟩)
  · exact .inr h
theorem TupKeep.kp {H H' : Hp} {b l : Addr} (k : Kp b H H') (B : BagAt b l H) : TupKeep H H' := fun c xs h => by
  obtain ⟨⟨i, r, m, t, ns, hb, _⟩, _⟩ := B
  exact k _ _ h fun z => by rw [z, hb] at h; cases h
/-- rows that are new tuples -/
def TabX (H : Hp) (p : Addr) (ps : List Addr) (gs : List (List Int)) : Prop := H p = some (.lst (ps.map V.ref)) ∧ ps.length = gs.length ∧ ∀ (i : Nat) (q : Addr) (g : List Int), ps[i]? = some q → gs[i]? = some g → H q = some (.tup (g.map V.int))
theorem TabX.tab {K : PySem.W.Frag} {H : Hp} {p : Addr} {ps : List Addr} {gs : List (List Int)} (X : TabX H p ps gs) : Tab K H p gs := ⟨ps, SqL.of X.1, X.2.1, fun i q g a b => .inl (.inl (X.2.2 i q g a b))⟩
theorem TabX.kp {H H' : Hp} {b l p : Addr} {ps : List Addr} {gs : List (List Int)} (X : TabX H p ps gs) (k : Kp b H H') (B : BagAt b l H) (n : p ≠ b) : TabX H' p ps gs := by
  refine ⟨k _ _ X.1 n, X.2.1, fun i q g e1 e2 => ?_⟩
  obtain ⟨⟨i, r, m, c, ns, hb, _⟩, _⟩ := B
  have h := X.2.2 _ q g e1 e2
  exact k _ _ h fun z => by rw [z, hb] at h; cases h
theorem TabX.same {H H' : Hp} {p : Addr} {ps : List Addr} {gs : List (List Int)} (X : TabX H p ps gs) (s : Same H H') : TabX H' p ps gs := ⟨s _ _ X.1, X.2.1, fun i q g a b => s _ _ (X.2.2 i q g a b)⟩
/-- a store into another list -/
theorem TabX.put {H : Hp} {p f : Addr} {ps : List Addr} {gs : List (List Int)} {xs : List V} {o : HO} (X : TabX H p ps gs) (hf : H f = some (.lst xs)) (n : p ≠ f) : TabX (upd H f o) p ps gs := by
  refine ⟨by rw [upd_ne n]; exact X.1, X.2.1, fun i q g a b => ?_⟩
  have h := X.2.2 i q g a b
  rw [upd_ne (fun z => by rw [z, hf] at h; cases h)]
  exact h
def spGoals (K : PySem.W.Frag) : Sp := fun vs H Q _ => ∃ (b l : Addr) (n m : Int), vs = [.ref b, .int n, .int m] ∧ BagAt b l H ∧ 1 ≤ n ∧ n ≤ 1000 ∧ 0 ≤ m ∧ m ≤ 1000 ∧
  ∀ p gs H', Tab K H' p gs → (∃ ps, TabX H' p ps gs) → (gs.length : Int) = n → Goals gs m.toNat → H p = none → BagAt b l H' → Kp b H H' → Q (.ref p) H'
section
variable {P : Program} {w : World} {K : PySem.W.Frag} {mg : Str → Option Value} {base : Heap}
theorem ok_goals (T : Env K mg) : FnOk P w K mg base CX0 3 T.f_goals T.fd_goals ["_law_bag_here", "_law_many", "_law_width"] (spGoals K) := by
  refine T.F_goals.ok sc_goals (fun vs H Q E h => ?_) (fun cdv A outer s H vs Q E hr h => ⟨_, ((pss_one (ps_ret (pe_lc (own := [("_law_at", 3)]) (g := (gName 3)) (tt := tYes) (te := (tCB (fun xs H Q => ∃ p ys, xs = [V.ref p] ∧ ((SqL K H p ys ∧ ∀ l, H l = none → Q (V.ref l) (upd H l (HO.tup ys))) ∨ (SqT K H p ys ∧ Q (V.ref p) H))) (tCons (tLc _ (gName 4) _ _ _) tNil))) rfl sc_goals.nd (pi_range1 (by rfl) T.z_range (pa_cons (pv 1) pa_nil)) (blkOk_by (own := [("_law_at", 3)]) (N := N_goals) (sc := defScope s_goals) (by decide +kernel)) (fun _ _ _ _ _ => (pg_name (i := 3) sc_goals.nd rfl (.inl rfl))) (fun _ _ _ _ _ => pts_nil) (fun _ _ _ _ _ => (pe_callTy call_tuple_of (by rfl) T.z_tuple (by decide +kernel) (pa_cons (pe_lc (own := [("_law_k", 4)]) (g := (gName 4)) (tt := tYes) rfl sc_goals.nd (pi_range1 (by rfl) T.z_range (pa_cons (pv 2) pa_nil)) (by exact blkOk_by (own := [("_law_k", 4)]) (by kernel_rfl)) (fun _ _ _ _ _ => (pg_name (i := 4) sc_goals.nd rfl (.inl rfl))) (fun _ _ _ _ _ => pts_nil) (fun _ _ _ _ _ => (pe_call (ok_pull T) (hr.mono (by decide)) (by rfl) T.g_pull T.F_pull.kp T.b_pull .nil pass0 (pa_cons (pv 0) (pa_cons (pv 1) pa_nil))))) pa_nil))))))), ?_⟩)
  · obtain ⟨b, l, n, m, rfl, _⟩ := h
    rfl
  · obtain ⟨b, l, n, m, rfl, B, n1, n2, m1, m2, q⟩ := h
    walk_at "ss"
    intro D hD
    have nDb : D ≠ b := B.nb hD
    have nDl : D ≠ l := B.nl hD
    refine lc_genH walk_range (fun H' => BagAt b l H' ∧ Kp b H H') (fun i y H' => ∃ (p : Addr) (g : List Int), y = .ref p ∧ H' p = some (.tup (g.map V.int)) ∧ (g.length : Int) = m ∧ ∀ x ∈ g, 0 ≤ x ∧ x < n) (by omega) ⟨B.mut nDb nDl, Kp.same (same_upd hD)⟩ (fun _ _ => trivial) (fun _ _ h => ⟨h.1.mut nDb nDl, h.2.mut hD⟩)
      (fun i y H1 H2 tk ⟨p, g, e1, e2, e3⟩ => ⟨p, g, e1, tk _ _ e2, e3⟩) ?_ ?_
    · rintro i x H1 H2 Q1 hlt hI ⟨rfl, rfl⟩ ⟨xs, hxs⟩ hQ
      walk_at "ss"
      intro D2 hD2
      have n2b : D2 ≠ b := hI.1.nb hD2
      have n2l : D2 ≠ l := hI.1.nl hD2
      refine lc_gen walk_range (fun H' => BagAt b l H' ∧ Kp b H2 H') (fun i y => ∃ x : Int, (0 ≤ x ∧ x < n) ∧ y = V.int x) (by omega) ⟨hI.1.mut n2b n2l, Kp.same (same_upd hD2)⟩ (fun _ _ => trivial) (fun _ _ h => ⟨h.1.mut n2b n2l, h.2.mut hD2⟩) ?_ ?_
      · rintro i x H3 H4 Q2 hlt hI2 ⟨rfl, rfl⟩ - hQ2
        walk_at "ss"
        exact ⟨b, l, _, rfl, hI2.1, by omega, by omega, fun k H5 k0 k1 B5 k5 => hQ2 _ _ ⟨k, ⟨k0, k1⟩, rfl⟩ ⟨B5, hI2.2.trans k5⟩ fun o ho => k5 _ _ ho n2b⟩
      · rintro H3 ys ⟨B3, k3⟩ hy hl hr
        obtain ⟨g, rfl, hl2, hm⟩ := pick_map (P := fun x : Int => 0 ≤ x ∧ x < n) (f := V.int) hr
        walk_at "ss"
        refine ⟨D2, _, rfl, .inl ⟨SqL.of hy, fun p hp => ?_⟩⟩
        have s3 := same_upd (o := .tup (g.map V.int)) hp
        have nDD : ∀ o, H2 D = some o → H3 D = some o := fun o h => k3 _ _ h nDb
        exact hQ _ _ ⟨p, g, rfl, upd_same, by omega, hm⟩ ⟨B3.same s3, hI.2.trans (k3.trans (Kp.same s3))⟩ (fun c zs h => s3 _ _ (TupKeep.kp k3 hI.1 c zs h)) fun o ho => s3 _ _ (nDD _ ho)
    · rintro H1 ys ⟨B1, k1⟩ hy hl hr
      obtain ⟨cs, rfl, hl2, hm⟩ := pick_map (P := fun c : Addr × List Int => H1 c.1 = some (.tup (c.2.map V.int)) ∧ (c.2.length : Int) = m ∧ ∀ x ∈ c.2, 0 ≤ x ∧ x < n) (f := fun c => V.ref c.1) (fun i y e => by
        obtain ⟨p, g, e1, e2⟩ := hr i y e
        exact ⟨(p, g), e2, e1⟩)
      have ln : ((cs.map Prod.snd).length : Int) = n := by rw [List.length_map]; omega
      have X : TabX H1 D (cs.map Prod.fst) (cs.map Prod.snd) := by
        refine ⟨by rw [List.map_map]; exact hy, by rw [List.length_map, List.length_map], fun i p g e1 e2 => ?_⟩
        rw [List.getElem?_map] at e1 e2
        cases hc : cs[i]? with
        | none => rw [hc] at e1; cases e1
        | some c =>
          rw [hc] at e1 e2
          cases e1
          cases e2
          exact (hm c (List.mem_of_getElem? hc)).1
      refine q D (cs.map Prod.snd) H1 X.tab ⟨_, X⟩ ln (fun g hg => ?_) hD B1 k1
      · obtain ⟨c, hc, rfl⟩ := List.mem_map.mp hg
        obtain ⟨_, h2, h3⟩ := hm c hc
        refine ⟨by omega, fun x hx => ?_⟩
        rw [ln]
        exact h3 x hx
end

section
variable {P : Program} {w : World} {K : PySem.W.Frag} {mg : Str → Option Value} {base : Heap}
/-- the letters that are left -/
def restOf (cs : List Nat) (i : Nat) : Option V := if 97 + i ∈ cs then none else some (.str (sg (97 + i)))
theorem rest_mem {cs : List Nat} {v : V} (h : v ∈ (List.range 26).filterMap (restOf cs)) : ∃ c, v = .str (sg c) ∧ c ∉ cs ∧ 97 ≤ c ∧ c ≤ 122 := by
  obtain ⟨i, hi, e⟩ := List.mem_filterMap.mp h
  have := List.mem_range.mp hi
  unfold restOf at e
  split at e
  · cases e
  · rename_i hn
    exact ⟨97 + i, (Option.some.inj e).symm, hn, by omega, by omega⟩
theorem rest_len {cs : List Nat} (hl : cs.length ≤ 3) : 0 < ((List.range 26).filterMap (restOf cs)).length ∧ ((List.range 26).filterMap (restOf cs)).length ≤ 26 := by
  have h2 := List.length_filterMap_le (restOf cs) (List.range 26)
  rw [List.length_range] at h2
  refine ⟨?_, h2⟩
  rw [List.length_pos_iff]
  intro e
  have h3 : ∀ i < 26, 97 + i ∈ cs := fun i hi => by
    by_cases hm : 97 + i ∈ cs
    · exact hm
    · have : V.str (sg (97 + i)) ∈ (List.range 26).filterMap (restOf cs) := List.mem_filterMap.mpr ⟨i, List.mem_range.mpr hi, by unfold restOf; rw [if_neg hm]⟩
      rw [e] at this
      cases this
  have m0 := h3 0 (by decide)
  have m1 := h3 1 (by decide)
  have m2 := h3 2 (by decide)
  have m3 := h3 3 (by decide)
  clear h3 e h2
  match cs, hl, m0, m1, m2, m3 with
  | [], _, m0, _, _, _ => simp at m0
  | [a], _, m0, m1, _, _ =>
    simp at m0 m1
    omega
  | [a, b], _, m0, m1, m2, _ =>
    simp at m0 m1 m2
    omega
  | [a, b, c], _, m0, m1, m2, m3 =>
    simp at m0 m1 m2 m3
    omega
  | _ :: _ :: _ :: _ :: _, h, _, _, _, _ =>
    simp at h
def spSigns : Sp := fun vs H Q _ => ∃ (b l : Addr), vs = [.ref b] ∧ BagAt b l H ∧ ∀ z H', Alpha z.cps.toList → BagAt b l H' → Kp b H H' → Q (.str z) H'
theorem ok_signs (T : Env K mg) : FnOk P w K mg base CX0 3 T.f_signs T.fd_signs ["_law_bag_here"] spSigns := by
  refine T.F_signs.ok sc_signs (fun vs H Q E h => ?_) (fun cdv A outer s H vs Q E hr h => ⟨_, ((pss_cons (ps_set (i := 1) sc_signs.nd rfl (.inl rfl) (pe_op op_add pe_int (pe_call (ok_of T) (hr.mono (by decide)) (by rfl) T.g_of T.F_of.kp T.b_of .nil pass0 (pa_cons (pv 0) (pa_cons (pe_lst (pa_cons pe_int (pa_cons pe_int (pa_cons pe_int (pa_cons pe_int (pa_cons pe_int (pa_cons pe_int pa_nil))))))) pa_nil)))))
      (pss_cons (ps_set (i := 2) sc_signs.nd rfl (.inr rfl) (pe_lst pa_nil))
      (pss_cons (ps_for PassesOwn.never rfl (pi_range1 (by rfl) T.z_range (pa_cons (pv 1) pa_nil)) (pg_name (i := 3) sc_signs.nd rfl (.inl rfl))
      (pss_cons (ps_setLc (i := 4) (own := [("_law_sign", 5)]) (g := (gName 5)) (tt := (tTest (tOp (rIn K true) _ _))) rfl sc_signs.nd rfl rfl (sw_true rfl rfl rfl (by decide +kernel)) (pi_str pe_str) (blkOk_by (own := [("_law_sign", 5)]) (N := N_signs) (sc := defScope s_signs) (by decide +kernel)) (fun _ _ _ _ _ => (pg_name (i := 5) sc_signs.nd rfl (.inl rfl))) (fun _ _ _ _ _ => (pts_one (pt_cmpR op_notIn_seq (pv 5) (pv 2) (by rfl)))) (fun _ _ _ _ _ => (pv 5)))
      (pss_one (ps_expr (pe_bm PySem.F.plainAttrs_list PySem.F.slot_list_append PySem.F.type_list_append mt_append (pv 2) (pa_cons (pe_ix ix_list (pv 4) (pe_call (ok_of T) (hr.mono (by decide)) (by rfl) T.g_of T.F_of.kp T.b_of .nil pass0 (pa_cons (pv 0) (pa_cons (pe_lst (pa_cons pe_int (pa_cons pe_int (pa_cons pe_int (pa_cons (pe_call (ok_pull T) (hr.mono (by decide)) (by rfl) T.g_pull T.F_pull.kp T.b_pull .nil pass0 (pa_cons (pv 0) (pa_cons (pe_callB call_len_seq (by rfl) T.z_len (by decide +kernel) (pa_cons (pv 4) pa_nil)) pa_nil))) pa_nil))))) pa_nil))) (fun _ _ => rfl)) pa_nil))))))
      (pss_one (ps_ret (pe_join pe_str (pe_callB cr_sortedS (by rfl) T.z_sorted (by decide +kernel) (pa_cons (pv 2) pa_nil))))))))), ?_⟩)
  · obtain ⟨b, l, rfl, _⟩ := h
    rfl
  · obtain ⟨b, l, rfl, B, q⟩ := h
    walk_at "ss"
    intro p hp
    have s0 : Same H (upd H p (.lst [.int 0, .int 1, .int 1, .int 1, .int 2, .int 3])) := same_upd hp
    refine ⟨b, l, _, rfl, B.same s0, .inl ⟨p, _, rfl, B.nb hp, .inl (SqL.of upd_same), by simp, by simp, fun v H1 hv B1 k1 => ?_⟩⟩
    obtain ⟨n, rfl, n0, n3⟩ : ∃ n : Int, v = .int n ∧ 0 ≤ n ∧ n ≤ 3 := by
      simp at hv
      rcases hv with rfl | rfl | rfl | rfl | rfl | rfl <;> exact ⟨_, rfl, by decide, by decide⟩
    have k2 : Kp b H H1 := (Kp.same s0).trans k1
    walk_at "ss"
    intro F hF
    have hFH : H F = none := k2.free B1 hF
    have nFb : F ≠ b := B1.nb hF
    have nFl : F ≠ l := B1.nl hF
    have k3 : Kp b H (upd H1 F (.lst [])) := k2.mut hFH
    refine ⟨_, rfl, _, rfl, by omega, by omega, ?_⟩
    refine for_it walk_range (fun i σ H' => Stp (∃ (y3 y4 y5 : Option V) (cs : List Nat), σ = [some (.ref b), some (.int (1 + n)), some (.ref F), y3, y4, y5] ∧ BagAt b l H' ∧ Kp b H H' ∧
      H' F = some (.lst (cs.map fun c => V.str (sg c))) ∧ cs.length = i ∧ cs.Nodup ∧ ∀ c ∈ cs, 97 ≤ c ∧ c ≤ 122))
      (.mk ⟨none, none, none, [], rfl, (B1.mut nFb nFl), k3, upd_same, rfl, List.nodup_nil, fun _ h => nomatch h⟩) (fun _ _ _ _ _ => trivial) ?_ ?_
    · rintro i x σ H2 H3 hi hP ⟨rfl, rfl⟩
      obtain ⟨y3, y4, y5, cs, rfl, B2, k4, hcs, hlen, hnd, hc⟩ := hP.of
      walk_at "ss"
      intro D hD
      refine lc_fil walk_str (fun H' => Same H3 H') (restOf cs) (by rw [az_size]; decide) (same_upd hD) (fun _ _ => trivial) (fun _ _ h => same_mut h hD) ?_ ?_
      · rintro i2 x H4 H5 Q1 Qn hlt hI ⟨rfl, c, hcz, rfl⟩ - hQ hN
        obtain ⟨hi26, rfl⟩ := az_at hcz
        walk_at "ss"
        refine ⟨F, _, rfl, .inl (SqL.of (hI _ _ hcs)), rfl, by simp [flatV], ?_⟩
        rw [in_sg]
        walk_at "ss"
        refine ite2 (fun e => ?_) (fun e => ?_)
        · have e2 : 97 + i2 ∉ cs := by simpa using e
          walk_at "ss"
          exact hQ _ _ (by unfold restOf; rw [if_neg e2]) hI (fun _ h => h)
        · have e2 : 97 + i2 ∈ cs := by simpa using e
          exact hN _ (by unfold restOf; rw [if_pos e2]) hI (fun _ h => h)
      · intro H4 hI hy
        rw [az_size] at hy
        obtain ⟨r0, r1⟩ := rest_len (cs := cs) (by omega)
        have B4 := B2.same hI
        walk_at "ss"
        refine ⟨.inl ⟨rfl, _, SqL.of (hI _ _ hcs)⟩, ?_⟩
        walk_at "ss"
        refine ⟨D, _, rfl, .inl (SqL.of hy), ?_⟩
        refine ⟨b, l, _, rfl, B4, by omega, by omega, fun k H5 k0 k1 B5 kp5 => ?_⟩
        walk_at "ss"
        intro p2 hp2
        have s6 : Same H5 (upd H5 p2 (.lst [.int 0, .int 0, .int 0, .int k])) := same_upd hp2
        refine ⟨b, l, _, rfl, B5.same s6, .inl ⟨p2, _, rfl, B5.nb hp2, .inl (SqL.of upd_same), by simp, by simp, fun v H7 hv B7 k7 => ?_⟩⟩
        obtain ⟨j, rfl, j0, j1⟩ : ∃ j : Int, v = .int j ∧ 0 ≤ j ∧ j < ((List.range 26).filterMap (restOf cs)).length := by
          simp at hv
          rcases hv with rfl | rfl
          · exact ⟨_, rfl, by omega, by omega⟩
          · exact ⟨_, rfl, k0, k1⟩
        have k47 : Kp b H4 H7 := kp5.trans ((Kp.same s6).trans k7)
        have nD : D ≠ b := B2.nb hD
        obtain ⟨u, hu, hm⟩ := at_in j0 j1
        obtain ⟨c, rfl, hcn, hc1, hc2⟩ := rest_mem hm
        refine ⟨D, _, j, _, rfl, rfl, SqL.of (k47 _ _ hy nD), hu, ?_⟩
        have hF7 : H7 F = some (.lst (cs.map fun c => V.str (sg c))) := k47 _ _ (hI _ _ hcs) nFb
        refine ⟨F, _, _, rfl, rfl, hF7, szl (by rw [List.length_map]; omega), ?_⟩
        refine .mk ⟨_, _, _, cs ++ [c], rfl, B7.mut nFb nFl, ((k4.trans (.same hI)).trans k47).mut hFH, ?_, by simp [hlen], ?_, ?_⟩
        · rw [upd_same, List.map_append]
          rfl
        · rw [List.nodup_append]
          refine ⟨hnd, by simp, fun x hx y hy => ?_⟩
          simp at hy
          rw [hy]
          intro e
          exact hcn (e ▸ hx)
        · intro x hx
          rcases List.mem_append.mp hx with hx | hx
          · exact hc x hx
          · simp at hx
            rw [hx]
            exact ⟨hc1, hc2⟩
    · intro σ H2 hP
      obtain ⟨y3, y4, y5, cs, rfl, B2, k4, hcs, hlen, hnd, hc⟩ := hP.of
      walk_at "ss"
      refine ⟨F, cs.map sg, rfl, SqL.of (by rw [List.map_map]; exact hcs), by rw [List.length_map]; omega, fun ys p2 perm srt hp2 => ?_⟩
      obtain ⟨ds, hd, rfl⟩ := perm_sg perm
      have hr := rise_lt (sorted_sg ds srt) (hd.nodup_iff.mpr hnd)
      have hln : ds.length = cs.length := hd.length_eq
      refine ⟨_, p2, ds.map sg, rfl, rfl, .inl (SqL.of upd_same), ?_, ?_⟩
      · rw [sum_sg, List.length_map]
        have : (Str.ofString "").length = 0 := rfl
        rw [this]
        omega
      · rw [join_sg]
        refine q _ _ ⟨?_, ?_, ?_, ?_⟩ (B2.same (same_upd hp2)) (k4.trans (.same (same_upd hp2)))
        · simp
          omega
        · simp
          omega
        · intro c hm
          simp at hm
          exact hc c (hd.mem_iff.mp hm)
        · simpa using hr
end

section
variable {P : Program} {w : World} {K : PySem.W.Frag} {mg : Str → Option Value} {base : Heap}
def spText : Sp := fun vs H Q _ => ∃ (b l : Addr) (z : Str) (n : Int), vs = [.ref b, .str z, .int n] ∧ BagAt b l H ∧ z.length ≠ 0 ∧ z.length ≤ 100000 ∧ 0 ≤ n ∧ n ≤ 100000 ∧
  ∀ (cs : List Nat) H', (cs.length : Int) = n → (∀ c ∈ cs, c ∈ z.cps.toList) → BagAt b l H' → Kp b H H' → Q (.str ⟨cs.toArray⟩) H'
theorem ok_text (T : Env K mg) : FnOk P w K mg base CX0 3 T.f_text T.fd_text ["_law_bag_here", "_law_signs_here", "_law_size"] spText := by
  refine T.F_text.ok sc_text (fun vs H Q E h => ?_) (fun cdv A outer s H vs Q E hr h => ⟨_, ((pss_one (ps_ret (pe_join pe_str (pe_lc (own := [("_law_k", 3)]) (g := (gName 3)) (tt := tYes) rfl sc_text.nd (pi_range1 (by rfl) T.z_range (pa_cons (pv 2) pa_nil)) (blkOk_by (own := [("_law_k", 3)]) (N := N_text) (sc := defScope s_text) (by decide +kernel)) (fun _ _ _ _ _ => (pg_name (i := 3) sc_text.nd rfl (.inl rfl))) (fun _ _ _ _ _ => pts_nil) (fun _ _ _ _ _ => (pe_call (ok_of T) (hr.mono (by decide)) (by rfl) T.g_of T.F_of.kp T.b_of .nil pass0 (pa_cons (pv 0) (pa_cons (pv 1) pa_nil))))))))), ?_⟩)
  · obtain ⟨b, l, z, n, rfl, _⟩ := h
    rfl
  · obtain ⟨b, l, z, n, rfl, B, z0, hz, n0, n1, q⟩ := h
    walk_at "ss"
    intro D hD
    have nDb : D ≠ b := B.nb hD
    have nDl : D ≠ l := B.nl hD
    refine lc_gen walk_range (fun H' => BagAt b l H' ∧ Kp b H H') (fun i y => ∃ c, c ∈ z.cps.toList ∧ y = V.str (sg c)) (by omega) ⟨B.mut nDb nDl, Kp.same (same_upd hD)⟩ (fun _ _ => trivial) (fun _ _ h => ⟨h.1.mut nDb nDl, h.2.mut hD⟩) ?_ ?_
    · rintro i x H1 H2 Q1 hlt hI ⟨rfl, rfl⟩ - hQ
      walk_at "ss"
      exact ⟨b, l, _, rfl, hI.1, .inr ⟨z, rfl, z0, hz, fun c H4 hc B4 k4 => hQ _ _ ⟨c, hc, rfl⟩ ⟨B4, hI.2.trans k4⟩ fun o ho => k4 _ _ ho nDb⟩⟩
    · intro H1 ys hI hy hl hr
      obtain ⟨cs, rfl, hl2, hm⟩ := pick_map (P := fun c => c ∈ z.cps.toList) (f := fun c => V.str (sg c)) hr
      walk_at "ss"
      refine ⟨_, D, cs.map sg, rfl, rfl, .inl (SqL.of (by rw [List.map_map]; exact hy)), ?_, ?_⟩
      · rw [sum_sg, List.length_map]
        have : (Str.ofString "").length = 0 := rfl
        rw [this]
        omega
      · rw [join_sg]
        exact q cs _ (by omega) hm hI.1 hI.2
end

section
variable {P : Program} {w : World} {K : PySem.W.Frag} {mg : Str → Option Value} {base : Heap}
theorem ok_go (T : Env K mg) : FnOk P w K mg base CX0 1 T.f_go T.fd_go ["_law_goals_here", "_law_signs_here", "_law_at", "_law_text_here"] (spGo K) := by
  refine T.F_go.ok sc_go (fun vs H Q E h => ?_) (fun cdv A outer s H vs Q E hr h => ⟨_, ((pss_cons (ps_for PassesOwn.never rfl (pi_str (pv 3)) (pg_name (i := 4) sc_go.nd rfl (.inl rfl))
      (pss_one (ps_set (i := 2) sc_go.nd rfl (.inl rfl) (pe_ix ix_tup (pe_ix ix_list (pv 0) (pv 2) (fun _ _ => rfl)) (pe_bm PySem.F.plainAttrs_str PySem.F.slot_str_index PySem.F.type_str_index mt_sindex (pv 1) (pa_cons (pv 4) pa_nil)) (fun _ _ => rfl)))))
      (pss_one (ps_ret (pv 2))))), ?_⟩)
  · obtain ⟨l, a, z, s, gs, rfl, _⟩ := h
    rfl
  · obtain ⟨l, a, z, s, gs, rfl, TB, hg, ha, G, nd, s0, s1, hz, hw, q⟩ := h
    walk_at "ss"
    refine for_it walk_str (fun i σ H' => Stp (H' = H ∧ ∃ (y : Option V), σ = [some (.ref l), some (.str a), some (.int (goAll gs a.cps.toList s (z.cps.toList.take i))), some (.str z), y] ∧ 0 ≤ goAll gs a.cps.toList s (z.cps.toList.take i) ∧ goAll gs a.cps.toList s (z.cps.toList.take i) < gs.length))
      (.mk ⟨rfl, none, rfl, s0, s1⟩) (fun _ _ _ _ _ => trivial) ?_ ?_
    · rintro i x σ H1 H2 hi hP ⟨rfl, c, hc, rfl⟩
      obtain ⟨rfl, y, rfl, p0, p1⟩ := hP.of
      rw [get_tl] at hc
      obtain ⟨g, hg1, hg2, hg3, hg4⟩ := G.at_ p0 p1 (hw c (List.mem_of_getElem? hc))
      obtain ⟨xs, p, hx, hxl, hxi, hp⟩ := TB.at_ hg1
      obtain ⟨rest, ho⟩ := index_one nd (hw c (List.mem_of_getElem? hc))
      walk_at "ss"
      refine ⟨l, xs, _, _, rfl, rfl, hx, at_nat p0 hxi, ?_⟩
      walk_at "ss"
      refine ⟨a, _, _, rest, rfl, rfl, ho, ?_⟩
      walk_at "ss"
      refine ⟨p, _, _, _, rfl, rfl, hp, atI_nat (by rw [List.getElem?_map, hg2]; rfl), ?_⟩
      have e : goAll gs a.cps.toList s (z.cps.toList.take (i + 1)) = goTo gs a.cps.toList (goAll gs a.cps.toList s (z.cps.toList.take i)) c := by
        unfold goAll
        rw [List.take_add_one, hc, Option.toList_some, List.foldl_append]
        rfl
      rw [← e] at hg3 hg4
      refine .mk ⟨rfl, some (.str ⟨#[c]⟩), ?_, hg3, hg4⟩
      rw [e]
      rfl
    · rintro σ H1 hP
      obtain ⟨rfl, y, rfl, p0, p1⟩ := hP.of
      walk_at "ss"
      rw [List.take_of_length_le (by rw [size_tl]; exact Nat.le_refl _)] at *
      exact q
end

/-! ### a value of which the bag has no part -/
def Own (b : Addr) (H : Hp) (v : V) : Prop := scalV v = true ∨ ∃ p xs, v = .ref p ∧ p ≠ b ∧ xs.all scalV = true ∧ (xs : List V).length ≤ 1 ∧ (H p = some (.lst xs) ∨ H p = some (.tup xs))
theorem Own.kp {b : Addr} {H H' : Hp} {v : V} (o : Own b H v) (k : Kp b H H') : Own b H' v := by
  rcases o with o | ⟨p, xs, e, n, h1, h2, h3 | h3⟩
  · exact .inl o
  · exact .inr ⟨p, xs, e, n, h1, h2, .inl (k _ _ h3 n)⟩
  · exact .inr ⟨p, xs, e, n, h1, h2, .inr (k _ _ h3 n)⟩
theorem Own.sm {K : PySem.W.Frag} {b : Addr} {H : Hp} {v : V} (o : Own b H v) : Sm K H 2 v v := by
  rcases o with o | ⟨p, xs, e, n, h1, h2, h3⟩
  · exact .inl ⟨rfl, o⟩
  · refine .inr ⟨p, p, xs, xs, e, e, by omega, rfl, fun i u v a1 a2 => ?_, ?_⟩
    · rw [a1] at a2
      cases a2
      exact .inl ⟨rfl, List.all_eq_true.mp h1 _ (List.mem_of_getElem? a1)⟩
    · rcases h3 with h3 | h3
      · exact .inl ⟨SqL.of h3, SqL.of h3⟩
      · exact .inr ⟨.inl (.inl h3), .inl (.inl h3)⟩

variable {K : PySem.W.Frag} {mg : Str → Option Value}
/-! ### what stays beside the bag, beside new code objects -/
theorem BagAt.nlist {b l : Addr} {H : Hp} (B : BagAt b l H) {ps : List Addr} (h : H b = some (.lst (ps.map V.ref))) : False := by
  obtain ⟨⟨i, r, m, c, ns, hb, _⟩, _⟩ := B
  rw [hb] at h
  have e := Option.some.inj h
  injection e with e
  match ps, e with
  | [], e => simp at e
  | [_], e => simp at e
  | _ :: _ :: _, e => simp at e
theorem Tab.kp2 {K : PySem.W.Frag} {H H' : Hp} {b l p : Addr} {gs : List (List Int)} (T : Tab K H p gs) (k : Kp b H H') (B : BagAt b l H) : Tab K H' p gs := by
  by_cases n : p = b
  · obtain ⟨ps, h1, h2, h3⟩ := T
    obtain ⟨⟨i, r, m, c, ns, hb, _⟩, _⟩ := id B
    rcases h1 with (h | ⟨o, h⟩) | h
    · rw [n] at h
      exact (B.nlist h).elim
    · rw [n, hb] at h
      cases h
    · refine ⟨ps, .inr h, h2, fun i q g e1 e2 => ?_⟩
      rcases h3 _ q g e1 e2 with (h | ⟨o, h⟩) | h
      · exact .inl (.inl (k _ _ h fun z => by rw [z, hb] at h; cases h))
      · exact .inl (.inr ⟨o, k _ _ h fun z => by rw [z, hb] at h; cases h⟩)
      · exact .inr h
  · exact T.kp k B n
theorem MachAt.kp {K : PySem.W.Frag} {C : Addr} {H H' : Hp} {m b l : Addr} {al : Str} {gs : List (List Int)} {s : Int} (M : MachAt K C H m al gs s) (k : Kp b H H') (B : BagAt b l H) : MachAt K C H' m al gs s := by
  obtain ⟨dx, r, h1, h2⟩ := M.at_
  refine ⟨⟨dx, r, k _ _ h1 fun z => ?_, h2.kp2 k B⟩, M.alpha, M.goals, M.many, M.beg⟩
  obtain ⟨⟨i, r, m, c, ns, hb, _⟩, _⟩ := B
  rw [z, hb] at h1
  cases h1
theorem tabs_kp {T : List (Addr × Str)} {H H' : Hp} {b l : Addr} (t : LamX.Tabs T H) (k : Kp b H H') (B : BagAt b l H) : LamX.Tabs T H' := fun p hp => by
  obtain ⟨⟨i, r, m, c, ns, hb, _⟩, _⟩ := B
  obtain ⟨ps, a1, a2, a3⟩ := t p hp
  refine ⟨ps, k _ _ a1 (fun z => by rw [z, hb] at a1; cases a1), a2, fun q v hq => ?_⟩
  obtain ⟨c0, e1, e3⟩ := a3 q v hq
  exact ⟨c0, e1, k _ _ e3 (fun z => by rw [z, hb] at e3; cases e3)⟩
open LamX (ExtN)
theorem seq_ext {K : PySem.W.Frag} {H H' : Hp} {a : Addr} {xs : List V} (e : ExtN H H') (h : SqL K H a xs) : SqL K H' a xs := by
  rcases h with (h | ⟨o, h⟩) | h
  · exact .inl (.inl (e _ _ h (by intro ps z; cases z)))
  · exact .inl (.inr ⟨o, e _ _ h (by intro ps z; cases z)⟩)
  · exact .inr h
theorem tup_ext {K : PySem.W.Frag} {H H' : Hp} {a : Addr} {xs : List V} (e : ExtN H H') (h : SqT K H a xs) : SqT K H' a xs := by
  rcases h with (h | ⟨o, h⟩) | h
  · exact .inl (.inl (e _ _ h (by intro ps z; cases z)))
  · exact .inl (.inr ⟨o, e _ _ h (by intro ps z; cases z)⟩)
  · exact .inr h
theorem MachAt.ext {K : PySem.W.Frag} {C : Addr} {H H' : Hp} {m : Addr} {al : Str} {gs : List (List Int)} {s : Int} (M : MachAt K C H m al gs s) (e : ExtN H H') : MachAt K C H' m al gs s := by
  obtain ⟨dx, l, h1, ps, h2, h3, h4⟩ := M.at_
  exact ⟨⟨dx, l, e _ _ h1 (by intro ps z; cases z), ps, seq_ext e h2, h3, fun i p g a b => tup_ext e (h4 i p g a b)⟩, M.alpha, M.goals, M.many, M.beg⟩
theorem BagAt.ext {b l : Addr} {H H' : Hp} (x : BagAt b l H) (e : ExtN H H') : BagAt b l H' := by
  obtain ⟨⟨i, r, m, c, ns, h1, h2, h3⟩, n⟩ := x
  exact ⟨⟨i, r, m, c, ns, e _ _ h1 (by intro ps z; cases z), e _ _ h2 (by intro ps z; cases z), h3⟩, n⟩
theorem Own.ext {b : Addr} {H H' : Hp} {v : V} (o : Own b H v) (e : ExtN H H') : Own b H' v := by
  rcases o with o | ⟨p, xs, e1, n, h1, h2, h3 | h3⟩
  · exact .inl o
  · exact .inr ⟨p, xs, e1, n, h1, h2, .inl (e _ _ h3 (by intro ps z; cases z))⟩
  · exact .inr ⟨p, xs, e1, n, h1, h2, .inr (e _ _ h3 (by intro ps z; cases z))⟩
theorem lmo_ne {f : Addr} {F : LF} {ps : Array Value} : LmO f F ≠ .tbl ps := by
  intro z
  cases z
theorem free_by {scope sc : Scope} (h : (scope.names.all fun y => !decide (y.2 = .free) || (decide (sc.names.lookup y.1 = some .cell) || decide (sc.names.lookup y.1 = some .free))) = true) :
    ∀ y ∈ scope.names, y.2 = .free → sc.names.lookup y.1 = some .cell ∨ sc.names.lookup y.1 = some .free := fun y hy e => by
  have z := List.all_eq_true.mp h y hy
  rw [e] at z
  simpa using z

open NdefX (NScope)
section
variable {P : Program} {w : World} {base : Heap}
theorem bind0 {F : LF} {H : Hp} {s : Shared} (h : ∀ doc pm ctv, bindArgs (F.fd doc pm ctv) ⟨[], []⟩ = pure []) (doc pm ctv : Value) : ∃ us : List Value, Vals [] us ∧ BindsTo s (F.fd doc pm ctv) ⟨[], []⟩ ((([] : List Str)).zip us) :=
  ⟨[], .nil, .of_eq (h doc pm ctv)⟩
theorem bind1 {F : LF} {H : Hp} {s : Shared} {i : Int} {x : Str} (ok : HOk P w H s.heap) (hD : DefAt F [.int i] H)
    (h : ∀ (T : Addr) (doc pm ctv : Value) (its : List Value), F.dV = .ref T → its.length = 1 → ∃ k, bindArgs (F.fd doc pm ctv) ⟨[], []⟩ = seqItems? (.ref T) >>= k ∧ k (some its.toArray) = pure (([x] : List Str).zip its)) (doc pm ctv : Value) :
    ∃ us : List Value, Vals [.int i] us ∧ BindsTo s (F.fd doc pm ctv) ⟨[], []⟩ (([x] : List Str).zip us) := by
  rcases hD with ⟨e, _⟩ | ⟨T0, j, e, dv, ht⟩
  · cases e
  · cases e
    have z : ObjOk P w H s.heap T0 (.tup [.int i]) := ok T0 _ ht
    obtain ⟨_, its, r, tp⟩ := z
    obtain ⟨k, e1, e2⟩ := h T0 doc pm ctv its dv (by rw [← r.length]; rfl)
    refine ⟨its, r, BindsTo.of_looks fun M => ?_⟩
    rw [e1]
    have g : ∃ (o : Obj) (n : Nat), s.heap.get? T0 = some o ∧ o.data = .seq its.toArray n := by
      have tp : s.heap.IsTuple T0 its.toArray := tp
      obtain ⟨o, h1, _, n, h3⟩ := tp
      exact ⟨o, n, h1, h3⟩
    obtain ⟨o, n, g1, g2⟩ := g
    refine looks_items (K := [(T0, o)]) (o := o) (n := n) (fun a u e => ?_) (by simp) g2 (.of_pure e2)
    have e : List.lookup a [(T0, o)] = some u := e
    by_cases hz : a = T0
    · rw [hz] at e ⊢
      rw [show List.lookup T0 [(T0, o)] = some o by simp] at e
      cases e
      exact g1
    · have hb : (a == T0) = false := by simpa using hz
      simp [List.lookup, hb] at e
end

open LamX NdefX in
/-! ### lambdas, by their readings -/
open NdefX (NScope)
section
variable {P : Program} {w : World} {base : Heap}
theorem lok_g0 {k : Nat} {N fr : List Str} {F : LF} {f : Addr} {t : XK → TE} (S : NScope N [] fr F.scope) (hb : ∀ doc pm ctv, bindArgs (F.fd doc pm ctv) ⟨[], []⟩ = pure [])
    (hpe : ∀ (A : Around) (outer : List PySem.Env) (s : Shared) (H : Hp) (E : XK), Room k (A.deeper (NdefX.envF F.nf f s.heap.objs.size)) → PE (NdefX.ncx (L2.CX P w) P w K mg base N F.nf f A outer s H E) F.body (t E)) :
    LOk P w K mg base (L2.CX P w) (k + 1) f F [] fr (fun ws H Q E => t E (NdefX.startF N [] ws) H Q) :=
  lok_of S rfl (fun s H us doc pm ctv ok hD => bind0 (H := H) hb doc pm ctv) (fun A outer s H ws Q E hr hl h => ⟨t E, hpe A outer s H E hr, h⟩)
theorem lok_g1 {k : Nat} {N fr : List Str} {x : Str} {F : LF} {f : Addr} {i : Int} {t : XK → TE} (S : NScope N [x] fr F.scope)
    (hb : ∀ (T : Addr) (doc pm ctv : Value) (its : List Value), F.dV = .ref T → its.length = 1 → ∃ k, bindArgs (F.fd doc pm ctv) ⟨[], []⟩ = seqItems? (.ref T) >>= k ∧ k (some its.toArray) = pure (([x] : List Str).zip its))
    (hpe : ∀ (A : Around) (outer : List PySem.Env) (s : Shared) (H : Hp) (E : XK), Room k (A.deeper (NdefX.envF F.nf f s.heap.objs.size)) → PE (NdefX.ncx (L2.CX P w) P w K mg base N F.nf f A outer s H E) F.body (t E)) :
    LOk P w K mg base (L2.CX P w) (k + 1) f F [.int i] fr (fun ws H Q E => t E (NdefX.startF N [.int i] ws) H Q) :=
  lok_of S rfl (fun s H us doc pm ctv ok hD => bind1 ok hD hb doc pm ctv) (fun A outer s H ws Q E hr hl h => ⟨t E, hpe A outer s H E hr, h⟩)
theorem gotl_x {X : Cx} {σ : L2.St} (T : Env X.K X.mg) (k : Nat) {vs : List V} {H : Hp} {Q : VK} {E : XK} (h : ∀ bs, Ground X σ bs → spGotL X.prog X.w X.K X.mg bs [.ref T.C_AheadError, .ref T.C_Missing, .ref T.C_NothingLeft] k vs H Q E) :
    ∃ sp : Sp, (∀ base, Ground X σ base → FnOk X.prog X.w X.K X.mg base CX0 (k + 2) T.f_got T.fd_got ["_law_ask"] sp) ∧ sp vs H Q E :=
  ⟨fun vs H Q E => ∀ bs, Ground X σ bs → spGotL X.prog X.w X.K X.mg bs [.ref T.C_AheadError, .ref T.C_Missing, .ref T.C_NothingLeft] k vs H Q E,
    fun bs g => ⟨fun vs H Q E h => (ok_gotL (P := X.prog) (w := X.w) (base := bs) T k).len vs H Q E (h bs g), fun A outer s H args us vs Q E hr e0 hb r h => (ok_gotL (P := X.prog) (w := X.w) (base := bs) T k).run A outer s H args us vs Q E hr e0 hb r (h bs g)⟩, h⟩
theorem allgotl_x {X : Cx} {σ : L2.St} (T : Env X.K X.mg) (k : Nat) {vs : List V} {H : Hp} {Q : VK} {E : XK} (h : ∀ bs, Ground X σ bs → spAllGotL X.prog X.w X.K X.mg bs [.ref T.C_AheadError, .ref T.C_Missing, .ref T.C_NothingLeft] k vs H Q E) :
    ∃ sp : Sp, (∀ base, Ground X σ base → FnOk X.prog X.w X.K X.mg base CX0 (k + 3) T.f_all_got T.fd_all_got ["_law_asks"] sp) ∧ sp vs H Q E :=
  ⟨fun vs H Q E => ∀ bs, Ground X σ bs → spAllGotL X.prog X.w X.K X.mg bs [.ref T.C_AheadError, .ref T.C_Missing, .ref T.C_NothingLeft] k vs H Q E,
    fun bs g => ⟨fun vs H Q E h => (ok_all_gotL (P := X.prog) (w := X.w) (base := bs) T k).len vs H Q E (h bs g), fun A outer s H args us vs Q E hr e0 hb r h => (ok_all_gotL (P := X.prog) (w := X.w) (base := bs) T k).run A outer s H args us vs Q E hr e0 hb r (h bs g)⟩, h⟩
end
/-! ### asks of lambdas: the lambda's object first, so that its body is known to the rest -/
open NdefX (NScope)
theorem DefAt.same {F : LF} {ds : List V} {H H' : Hp} (h : DefAt F ds H) (s : Same H H') : DefAt F ds H' := by
  rcases h with h | ⟨T0, i, e1, e2, e3⟩
  · exact .inl h
  · exact .inr ⟨T0, i, e1, e2, s _ _ e3⟩
theorem ask_err0 {P : Program} {w : World} {K : PySem.W.Frag} {mg : Str → Option Value} {base : Heap} {cs : List Value} {k : Nat} {N fr : List Str} {F : LF} {f : Addr} {H : Hp} {ws : List (Option V)} {code : Str} {us : List V} {t : XK → TE}
    (lf : H f = some (LmO f F)) (lc : H F.c = some (LamX.CodeO F.c F.qual)) (dv : F.dV = .none) (S : NScope N [] fr F.scope) (hb : ∀ doc pm ctv, bindArgs (F.fd doc pm ctv) ⟨[], []⟩ = pure [])
    (C : NdefX.CellsAt F.cl fr ws base (fun _ => none)) (hpe : ∀ (A : Around) (outer : List PySem.Env) (s : Shared) (H : Hp) (E : XK), Room k (A.deeper (NdefX.envF F.nf f s.heap.objs.size)) → PE (NdefX.ncx (L2.CX P w) P w K mg base N F.nf f A outer s H E) F.body (t E))
    (q : ∀ H1, Same H H1 → ∀ (Q2 : VK) (E2 : XK), (∀ cls d H2, PySem.W.exmAny K cls cs = some true → ErrL K cls d H2 code us → Same H1 H2 → E2 cls d H2) → t E2 (NdefX.startF N [] ws) H1 Q2) : AskL P w K mg base cs (k + 1) H f (.err code us) :=
  ⟨_, _, LOk.held (lok_g0 S hb hpe) C, fun H1 s1 => ⟨⟨s1 _ _ lf, s1 _ _ lc, .inl ⟨rfl, dv⟩⟩, q H1 s1⟩⟩
theorem ask_val0 {P : Program} {w : World} {K : PySem.W.Frag} {mg : Str → Option Value} {base : Heap} {cs : List Value} {k : Nat} {N fr : List Str} {F : LF} {f : Addr} {H : Hp} {ws : List (Option V)} {R : V → Hp → Prop} {t : XK → TE}
    (lf : H f = some (LmO f F)) (lc : H F.c = some (LamX.CodeO F.c F.qual)) (dv : F.dV = .none) (S : NScope N [] fr F.scope) (hb : ∀ doc pm ctv, bindArgs (F.fd doc pm ctv) ⟨[], []⟩ = pure [])
    (C : NdefX.CellsAt F.cl fr ws base (fun _ => none)) (hpe : ∀ (A : Around) (outer : List PySem.Env) (s : Shared) (H : Hp) (E : XK), Room k (A.deeper (NdefX.envF F.nf f s.heap.objs.size)) → PE (NdefX.ncx (L2.CX P w) P w K mg base N F.nf f A outer s H E) F.body (t E))
    (q : ∀ H1, Same H H1 → ∀ (Q2 : VK) (E2 : XK), (∀ v H2, R v H2 → Same H1 H2 → Q2 v H2) → t E2 (NdefX.startF N [] ws) H1 Q2) : AskL P w K mg base cs (k + 1) H f (.val R) :=
  ⟨_, _, LOk.held (lok_g0 S hb hpe) C, fun H1 s1 => ⟨⟨s1 _ _ lf, s1 _ _ lc, .inl ⟨rfl, dv⟩⟩, q H1 s1⟩⟩
theorem ask_err1 {P : Program} {w : World} {K : PySem.W.Frag} {mg : Str → Option Value} {base : Heap} {cs : List Value} {k : Nat} {N fr : List Str} {x : Str} {F : LF} {f : Addr} {H : Hp} {ws : List (Option V)} {i : Int} {code : Str} {us : List V} {t : XK → TE}
    (lf : H f = some (LmO f F)) (lc : H F.c = some (LamX.CodeO F.c F.qual)) (dv : DefAt F [.int i] H) (S : NScope N [x] fr F.scope) (hb : ∀ (T : Addr) (doc pm ctv : Value) (its : List Value), F.dV = .ref T → its.length = 1 → ∃ k, bindArgs (F.fd doc pm ctv) ⟨[], []⟩ = seqItems? (.ref T) >>= k ∧ k (some its.toArray) = pure (([x] : List Str).zip its))
    (C : NdefX.CellsAt F.cl fr ws base (fun _ => none)) (hpe : ∀ (A : Around) (outer : List PySem.Env) (s : Shared) (H : Hp) (E : XK), Room k (A.deeper (NdefX.envF F.nf f s.heap.objs.size)) → PE (NdefX.ncx (L2.CX P w) P w K mg base N F.nf f A outer s H E) F.body (t E))
    (q : ∀ H1, Same H H1 → ∀ (Q2 : VK) (E2 : XK), (∀ cls d H2, PySem.W.exmAny K cls cs = some true → ErrL K cls d H2 code us → Same H1 H2 → E2 cls d H2) → t E2 (NdefX.startF N [.int i] ws) H1 Q2) : AskL P w K mg base cs (k + 1) H f (.err code us) :=
  ⟨_, _, LOk.held (lok_g1 S hb hpe) C, fun H1 s1 => ⟨⟨s1 _ _ lf, s1 _ _ lc, dv.same s1⟩, q H1 s1⟩⟩
theorem ask_val1 {P : Program} {w : World} {K : PySem.W.Frag} {mg : Str → Option Value} {base : Heap} {cs : List Value} {k : Nat} {N fr : List Str} {x : Str} {F : LF} {f : Addr} {H : Hp} {ws : List (Option V)} {i : Int} {R : V → Hp → Prop} {t : XK → TE}
    (lf : H f = some (LmO f F)) (lc : H F.c = some (LamX.CodeO F.c F.qual)) (dv : DefAt F [.int i] H) (S : NScope N [x] fr F.scope) (hb : ∀ (T : Addr) (doc pm ctv : Value) (its : List Value), F.dV = .ref T → its.length = 1 → ∃ k, bindArgs (F.fd doc pm ctv) ⟨[], []⟩ = seqItems? (.ref T) >>= k ∧ k (some its.toArray) = pure (([x] : List Str).zip its))
    (C : NdefX.CellsAt F.cl fr ws base (fun _ => none)) (hpe : ∀ (A : Around) (outer : List PySem.Env) (s : Shared) (H : Hp) (E : XK), Room k (A.deeper (NdefX.envF F.nf f s.heap.objs.size)) → PE (NdefX.ncx (L2.CX P w) P w K mg base N F.nf f A outer s H E) F.body (t E))
    (q : ∀ H1, Same H H1 → ∀ (Q2 : VK) (E2 : XK), (∀ v H2, R v H2 → Same H1 H2 → Q2 v H2) → t E2 (NdefX.startF N [.int i] ws) H1 Q2) : AskL P w K mg base cs (k + 1) H f (.val R) :=
  ⟨_, _, LOk.held (lok_g1 S hb hpe) C, fun H1 s1 => ⟨⟨s1 _ _ lf, s1 _ _ lc, dv.same s1⟩, q H1 s1⟩⟩
theorem sl_listN {CX : CXT} {P : Program} {w : World} {K : PySem.W.Frag} {mg : Str → Option Value} {base : Heap} {N : List Str} {F : _} {f : Addr} {A : Around} {outer : List PySem.Env} {s : Shared} {H : Hp} {E : XK} : SlR (NdefX.ncx CX P w K mg base N F f A outer s H E) (rSlL K) := sl_list

theorem sm_list {K : PySem.W.Frag} {H : Hp} {d : Nat} {a b : Addr} {xs ys : List V} (ha : SqL K H a xs) (hb : SqL K H b ys) (hl : xs.length = ys.length) (h1 : xs.length ≤ 1000) (h : ∀ p ∈ xs.zip ys, Sm K H d p.1 p.2) : Sm K H (d + 1) (.ref a) (.ref b) := by
  refine .inr ⟨a, b, xs, ys, rfl, rfl, by omega, hl, fun i u v e1 e2 => ?_, .inl ⟨ha, hb⟩⟩
  refine h (u, v) (List.mem_of_getElem? (i := i) ?_)
  rw [List.getElem?_zip_eq_some]
  exact ⟨e1, e2⟩
theorem if_join {c : Bool} {A B : TE} {σ : L2.St} {H : Hp} {Q2 : VK} (R : V → Hp → Prop) (hA : c = true → ∀ Q : VK, (∀ v H', R v H' → Q v H') → A σ H Q) (hB : ¬ c = true → ∀ Q : VK, (∀ v H', R v H' → Q v H') → B σ H Q) (q : ∀ v H', R v H' → Q2 v H') : if c = true then A σ H Q2 else B σ H Q2 := by
  by_cases h : c = true
  · rw [if_pos h]
    exact hA h Q2 q
  · rw [if_neg h]
    exact hB h Q2 q
theorem sm_tup2 {K : PySem.W.Frag} {H : Hp} {d : Nat} {a b : Addr} {x1 x2 y1 y2 : V} (ha : SqT K H a [x1, x2]) (hb : SqT K H b [y1, y2]) (h1 : Sm K H d x1 y1) (h2 : Sm K H d x2 y2) : Sm K H (d + 1) (.ref a) (.ref b) :=
  .inr ⟨a, b, [x1, x2], [y1, y2], rfl, rfl, by show 2 ≤ 100000; decide, rfl, fun i u v e1 e2 => by
    match i with
    | 0 => cases e1; cases e2; exact h1
    | 1 => cases e1; cases e2; exact h2
    | i + 2 => (cases e1), .inr ⟨ha, hb⟩⟩
/-- a tuple of small values and another of the same -/
theorem sm_scals {K : PySem.W.Frag} {H : Hp} {d : Nat} {a b : Addr} {us : List V} (ha : SqT K H a us) (hb : SqT K H b us) (hs : ∀ x ∈ us, scalV x = true) (hl : us.length ≤ 1000) : Sm K H (d + 2) (.ref a) (.ref b) :=
  .inr ⟨a, b, us, us, rfl, rfl, by omega, rfl, fun i u v e1 e2 => by
    rw [e1] at e2
    cases e2
    exact .inl ⟨rfl, hs _ (List.mem_of_getElem? e1)⟩, .inr ⟨ha, hb⟩⟩
/-- an error got, and the pair that is due -/
theorem gotl_err {K : PySem.W.Frag} {H H' : Hp} {y : V} {r q : Addr} {code : Str} {us : List V} {d : Nat} (g : GotL H y (.err code us)) (s : Same H H') (h3 : H' r = some (.tup [.str code, .ref q])) (h4 : H' q = some (.tup us)) (hs : ∀ x ∈ us, scalV x = true) (hl : us.length ≤ 1000) : Sm K H' (d + 3) y (.ref r) := by
  obtain ⟨p, t, rfl, h1, h2⟩ := g
  exact sm_tup2 (SqT.of (s _ _ h1)) (SqT.of h3) (.inl ⟨rfl, rfl⟩) (sm_scals (SqT.of (s _ _ h2)) (SqT.of h4) hs hl)


def spLaw (K : PySem.W.Frag) (tb : Addr) : Sp := fun vs H Q _ => ∃ (a : Addr) (ns : List Int), vs = [.ref a] ∧ SqL K H a (ns.map V.int) ∧ ns.length ≤ 63 ∧ H tb = some (.tbl #[]) ∧ ∀ H', Q (.bl true) H'
def CodeIs (fd : FuncData) (c : Addr) : Prop := fd.code = .ref c
def qLam : Str := ("law" : Str) ++ ".<locals>." ++ "<lambda>"
def forBody : Stmt → List Stmt
  | .For _ _ b _ _ => b
  | _ => []
abbrev bodyTail (k : Nat) : List Stmt := (forBody ((defBody s_law).getD 1 (.Pass ⟨0, 0, 0, 0⟩))).drop k
/-! ### ascending lists -/
theorem asc_one : ∀ {xs ys : List Int}, xs.Pairwise (· < ·) → ys.Pairwise (· < ·) → (∀ k, k ∈ xs ↔ k ∈ ys) → xs = ys
  | [], [], _, _, _ => rfl
  | [], y :: ys, _, _, h => absurd ((h y).mpr (List.mem_cons_self ..)) (by simp)
  | x :: xs, [], _, _, h => absurd ((h x).mp (List.mem_cons_self ..)) (by simp)
  | x :: xs, y :: ys, a, b, h => by
    have a2 := List.pairwise_cons.mp a
    have b2 := List.pairwise_cons.mp b
    have e : x = y := by
      rcases List.mem_cons.mp ((h x).mp (List.mem_cons_self ..)) with h1 | h1
      · exact h1
      · rcases List.mem_cons.mp ((h y).mpr (List.mem_cons_self ..)) with h2 | h2
        · exact h2.symm
        · have := b2.1 x h1
          have := a2.1 y h2
          omega
    subst e
    rw [asc_one a2.2 b2.2 fun k => ⟨fun hk => ?_, fun hk => ?_⟩]
    · have := a2.1 k hk
      rcases List.mem_cons.mp ((h k).mp (List.mem_cons_of_mem _ hk)) with h1 | h1
      · omega
      · exact h1
    · have := b2.1 k hk
      rcases List.mem_cons.mp ((h k).mpr (List.mem_cons_of_mem _ hk)) with h1 | h1
      · omega
      · exact h1
theorem asc_of {xs : List Int} (h : xs.Pairwise (· ≤ ·)) (nd : xs.Nodup) : xs.Pairwise (· < ·) := by
  have := h.and (List.nodup_iff_pairwise_ne.mp nd)
  exact this.imp fun {a b} h => by omega
theorem asc_nodup {xs : List Int} (h : xs.Pairwise (· < ·)) : xs.Nodup := List.nodup_iff_pairwise_ne.mpr (h.imp fun {a b} h => by omega)
theorem perm_len : ∀ {xs ys : List Int}, xs.Nodup → (∀ k ∈ xs, k ∈ ys) → xs.length = ys.length → xs.Perm ys
  | [], ys, _, _, hl => by
    rw [List.eq_nil_of_length_eq_zero hl.symm]
  | x :: xs, ys, nd, h, hl => by
    have nd2 := List.nodup_cons.mp nd
    have hx := h x (List.mem_cons_self ..)
    refine ((perm_len (ys := ys.erase x) nd2.2 (fun k hk => ?_) ?_).cons x).trans (List.perm_cons_erase hx).symm
    · exact (List.mem_erase_of_ne fun z => nd2.1 (by rw [← z]; exact hk)).mpr (h k (List.mem_cons_of_mem _ hk))
    · rw [List.length_erase_of_mem hx]
      simp at hl
      omega
/-- the ends, sorted, are the set's own states just where the image is the set -/
theorem turn_iff {ss es rs A : List Int} (hs : ss.Pairwise (· < ·)) (hl : es.length = ss.length) (hr : rs.Perm es) (rp : rs.Pairwise (· ≤ ·)) (hA : A.Pairwise (· < ·)) (hm : ∀ k, k ∈ A ↔ k ∈ es) : rs = ss ↔ A = ss := by
  constructor
  · intro e
    refine asc_one hA hs fun k => ?_
    rw [hm k, ← hr.mem_iff, e]
  · intro e
    have p : A.Perm es := perm_len (asc_nodup hA) (fun k hk => (hm k).mp hk) (by rw [e, hl])
    rw [← e]
    exact sorted_one (hr.trans p.symm) rp (hA.imp fun {a b} h => by omega)
theorem Reach.facts {gs : List (List Int)} {s : Int} {ns : List Int} (R : Reach gs s ns) (h0 : 0 ≤ s) (h1 : s < gs.length) (hg : ∀ g ∈ gs, ∀ x ∈ g, 0 ≤ x ∧ x < gs.length) : ns.Pairwise (· < ·) ∧ (∀ x ∈ ns, 0 ≤ x ∧ x < gs.length) ∧ ns ≠ [] ∧ ns.length ≤ gs.length := by
  obtain ⟨d, e1, e2, e3⟩ := R
  have G := bfsE_good h0 h1 hg d
  have few := G.few
  refine ⟨asc_of e3 (e2.nodup_iff.mpr G.1), fun x hx => ?_, fun z => ?_, by rw [e2.length_eq, List.length_map]; exact few⟩
  · obtain ⟨e, he, rfl⟩ := List.mem_map.mp (e2.mem_iff.mp hx)
    exact G.2 e he
  · have l := e2.length_eq
    rw [z, List.length_map] at l
    have l : (bfsE gs s d).length = 0 := l.symm
    have hd : d = 0 := by omega
    rw [hd] at l
    simp [bfsE] at l
/-! ### dict(pairs): the keys, each once -/
theorem put_keys {acc : List (Key × V)} {ks : List Int} {j : Int} {v : V} (h : (acc.map Prod.fst) = ks.map (Sum.inl : Int → Key)) : ((putK acc (Sum.inl j) v).map Prod.fst) = (if j ∈ ks then ks else ks ++ [j]).map (Sum.inl : Int → Key) := by
  have any_iff : (acc.any fun kv => decide (kv.1 = (Sum.inl j : Key))) = decide (j ∈ ks) := by
    have : (acc.any fun kv => decide (kv.1 = (Sum.inl j : Key))) = (acc.map Prod.fst).any fun k => decide (k = (Sum.inl j : Key)) := by rw [List.any_map]; rfl
    rw [this, h, List.any_map, Bool.eq_iff_iff]
    simp
  unfold putK
  rw [any_iff]
  by_cases hj : j ∈ ks
  · rw [if_pos (decide_eq_true hj), if_pos hj, List.map_map, ← h]
    refine List.map_congr_left fun kv _ => ?_
    show (if kv.1 = _ then (kv.1, v) else kv).1 = kv.1
    split <;> rfl
  · rw [if_neg (by simpa using hj), if_neg hj, List.map_append, List.map_append, h]
    rfl
theorem merge_keys : ∀ (led : List Int) {acc : List (Key × V)} {ks : List Int}, (acc.map Prod.fst) = ks.map (Sum.inl : Int → Key) → ks.Nodup →
    ∃ ks2 : List Int, ((mergeK acc (led.map fun j => ((Sum.inl j : Key), V.int 0))).map Prod.fst) = ks2.map (Sum.inl : Int → Key) ∧ ks2.Nodup ∧ (∀ k, k ∈ ks2 ↔ k ∈ ks ∨ k ∈ led) ∧ ks2.length ≤ ks.length + led.length
  | [], acc, ks, h, nd => ⟨ks, h, nd, fun k => by simp, by simp⟩
  | j :: led, acc, ks, h, nd => by
    have h2 := put_keys (j := j) (v := .int 0) h
    by_cases hj : j ∈ ks
    · rw [if_pos hj] at h2
      obtain ⟨ks2, a, b, c, e⟩ := merge_keys led h2 nd
      refine ⟨ks2, a, b, fun k => ?_, by simp; omega⟩
      rw [c k, List.mem_cons]
      constructor
      · exact fun h => h.imp id .inr
      · rintro (h | rfl | h)
        · exact .inl h
        · exact .inl hj
        · exact .inr h
    · rw [if_neg hj] at h2
      obtain ⟨ks2, a, b, c, e⟩ := merge_keys led h2 (List.nodup_append.mpr ⟨nd, by simp, fun x hx y hy z => hj (by rw [List.mem_singleton] at hy; rw [← hy, ← z]; exact hx)⟩)
      refine ⟨ks2, a, b, fun k => ?_, by simp at e ⊢; omega⟩
      rw [c k, List.mem_append, List.mem_singleton, List.mem_cons]
      constructor
      · rintro ((h | h) | h)
        · exact .inl h
        · exact .inr (.inl h)
        · exact .inr (.inr h)
      · rintro (h | h | h)
        · exact .inl (.inl h)
        · exact .inl (.inr h)
        · exact .inr h
theorem keys_int {kvs : List (Key × V)} {ks : List Int} (h : (kvs.map Prod.fst) = ks.map (Sum.inl : Int → Key)) : (kvs.map fun kv => kV kv.1) = ks.map V.int := by
  have : (kvs.map fun kv => kV kv.1) = (kvs.map Prod.fst).map kV := by rw [List.map_map]; rfl
  rw [this, h, List.map_map]
  rfl
/-! ### values that are no sets, no words -/
def dOf : V → PyData
  | .bl b => .bool b
  | .int i => .int i
  | .str z => .str z
  | _ => .none
theorem dp_of {K : PySem.W.Frag} {H : Hp} : ∀ {v : V}, scalV v = true → Dp K H v (dOf v)
  | .non, _ => .non
  | .bl b, _ => .bl b
  | .int i, _ => .int i
  | .str z, _ => .str z
theorem dpa_of {K : PySem.W.Frag} {H : Hp} : ∀ {vs : List V}, vs.all scalV = true → DpAll K H vs (vs.map dOf)
  | [], _ => .nil
  | v :: vs, h => by
    have h : (scalV v && vs.all scalV) = true := h
    rw [Bool.and_eq_true] at h
    exact .cons (dp_of h.1) (dpa_of h.2)
def OddV (b : Addr) (H : Hp) (ns : List Int) (u : V) : Prop := scalV u = true ∨ ∃ p xs, u = .ref p ∧ p ≠ b ∧ xs.all scalV = true ∧ (xs : List V).length ≤ 20 ∧ (H p = some (.lst xs) ∨ (H p = some (.tup xs) ∧ setD ns (.tuple (xs.map dOf)) = false))
theorem OddV.kp {b : Addr} {H H' : Hp} {ns : List Int} {u : V} (o : OddV b H ns u) (k : Kp b H H') : OddV b H' ns u := by
  rcases o with o | ⟨p, xs, e, n, h1, h2, h3⟩
  · exact .inl o
  · exact .inr ⟨p, xs, e, n, h1, h2, h3.imp (fun h => k _ _ h n) fun h => ⟨k _ _ h.1 n, h.2⟩⟩
theorem OddV.ext {b : Addr} {H H' : Hp} {ns : List Int} {u : V} (o : OddV b H ns u) (e : LamX.ExtN H H') : OddV b H' ns u := by
  rcases o with o | ⟨p, xs, e1, n, h1, h2, h3⟩
  · exact .inl o
  · exact .inr ⟨p, xs, e1, n, h1, h2, h3.imp (fun h => e _ _ h (by intro ps z; cases z)) fun h => ⟨e _ _ h.1 (by intro ps z; cases z), h.2⟩⟩
theorem OddV.dp {K : PySem.W.Frag} {b : Addr} {H : Hp} {ns : List Int} {u : V} (o : OddV b H ns u) : ∃ du, Dp K H u du ∧ setD ns du = false ∧ ∀ ds, du = .tuple ds → ds.length ≤ 1000 := by
  rcases o with o | ⟨p, xs, rfl, n, h1, h2, h3 | ⟨h3, h4⟩⟩
  · refine ⟨_, dp_of o, ?_, ?_⟩
    · cases u <;> first | rfl | cases o
    · intro ds z
      cases u <;> first | cases z | cases o
  · exact ⟨_, .lst (SqL.of h3) (dpa_of h1), rfl, fun ds z => by cases z⟩
  · exact ⟨_, .tup (SqT.of h3) (dpa_of h1), h4, fun ds z => by cases z; rw [List.length_map]; omega⟩
theorem OddV.sm {K : PySem.W.Frag} {b : Addr} {H : Hp} {ns : List Int} {u : V} (o : OddV b H ns u) : Sm K H 2 u u := by
  rcases o with o | ⟨p, xs, rfl, n, h1, h2, h3⟩
  · exact .inl ⟨rfl, o⟩
  · refine .inr ⟨p, p, xs, xs, rfl, rfl, by omega, rfl, fun i u v a1 a2 => ?_, ?_⟩
    · rw [a1] at a2
      cases a2
      exact .inl ⟨rfl, List.all_eq_true.mp h1 _ (List.mem_of_getElem? a1)⟩
    · rcases h3 with h3 | h3
      · exact .inl ⟨SqL.of h3, SqL.of h3⟩
      · exact .inr ⟨SqT.of h3.1, SqT.of h3.1⟩
def Strg (al : List Nat) (v : V) : Prop := (∃ z : Str, v = .str z ∧ z.length ≤ 100000 ∧ ¬ ∀ c ∈ z.cps.toList, c ∈ al) ∨ v = .non ∨ (∃ i, v = .int i) ∨ ∃ p, v = .ref p
theorem Strg.ways {K : PySem.W.Frag} {b : Addr} {H : Hp} {al : List Nat} {v : V} (h : Strg al v) (o : Own b H v) : (∃ z : Str, v = .str z ∧ z.length ≤ 100000 ∧ ¬ ∀ c ∈ z.cps.toList, c ∈ al) ∨ NoStr K H v := by
  rcases h with h | rfl | ⟨i, rfl⟩ | ⟨p, rfl⟩
  · exact .inl h
  · exact .inr ⟨"NoneType", .base .non, by decide +kernel⟩
  · exact .inr ⟨"int", .base (.int i), by decide +kernel⟩
  · rcases o with o | ⟨q, xs, e, _, _, _, h | h⟩
    · cases o
    · cases e
      exact .inr (nostr_lst h)
    · cases e
      exact .inr (nostr_tup h)
/-- an error got, and the pair that is due; the fields are the same -/
theorem gotl_errS {K : PySem.W.Frag} {H H' : Hp} {y : V} {r q : Addr} {code : Str} {u : V} {d : Nat} (g : GotL H y (.err code [u])) (s : Same H H') (h3 : H' r = some (.tup [.str code, .ref q])) (h4 : H' q = some (.tup [u])) (hs : Sm K H' d u u) : Sm K H' (d + 2) y (.ref r) := by
  obtain ⟨p, t, rfl, h1, h2⟩ := g
  refine sm_tup2 (SqT.of (s _ _ h1)) (SqT.of h3) (.inl ⟨rfl, rfl⟩) (.inr ⟨t, q, [u], [u], rfl, rfl, by show 1 ≤ 100000; decide, rfl, fun i x v e1 e2 => ?_, .inr ⟨SqT.of (s _ _ h2), SqT.of h4⟩⟩)
  match i with
  | 0 =>
    cases e1
    cases e2
    exact hs
  | i + 1 => cases e1
/-- what is known behind the drawing of the machine -/
structure Drw (K : PySem.W.Frag) (C PL b l : Addr) (G : Hp) (al : Str) (p m so ts : Addr) (gs : List (List Int)) (s : Int) (ns ss : List Int) : Prop where
  bag : BagAt b l G
  tab : LamX.Tabs [(PL, qLam)] G
  mach : MachAt K C G m al gs s
  goals : Tab K G p gs
  few : gs.length ≤ 8
  reach : Reach gs s ns
  some_ : G so = some (.lst (ns.map V.int))
  set_ : G ts = some (.tup (ss.map V.int))
  asc : ss.Pairwise (· < ·)
  sub : ∀ x ∈ ss, x ∈ ns
  ne : ss ≠ []
  len : ss.length ≤ ns.length
  nb : so ≠ b
section
variable {K : PySem.W.Frag} {C PL b l : Addr} {G G' : Hp} {al : Str} {p m so ts : Addr} {gs : List (List Int)} {s : Int} {ns ss : List Int}
theorem Drw.same (h : Drw K C PL b l G al p m so ts gs s ns ss) (e : Same G G') : Drw K C PL b l G' al p m so ts gs s ns ss :=
  ⟨h.bag.same e, h.tab.ext e, h.mach.same e, h.goals.same e, h.few, h.reach, e _ _ h.some_, e _ _ h.set_, h.asc, h.sub, h.ne, h.len, h.nb⟩
theorem Drw.kp (h : Drw K C PL b l G al p m so ts gs s ns ss) (k : Kp b G G') (B : BagAt b l G') : Drw K C PL b l G' al p m so ts gs s ns ss :=
  ⟨B, tabs_kp h.tab k h.bag, h.mach.kp k h.bag, h.goals.kp2 k h.bag, h.few, h.reach, k _ _ h.some_ h.nb, TupKeep.kp k h.bag _ _ h.set_, h.asc, h.sub, h.ne, h.len, h.nb⟩
theorem Drw.ext (h : Drw K C PL b l G al p m so ts gs s ns ss) (e : LamX.ExtN G G') (t : LamX.Tabs [(PL, qLam)] G') : Drw K C PL b l G' al p m so ts gs s ns ss := by
  obtain ⟨ps, t1, t2, t3⟩ := h.goals
  exact ⟨h.bag.ext e, t, h.mach.ext e, ⟨ps, seq_ext e t1, t2, fun i q g x y => tup_ext e (t3 i q g x y)⟩, h.few, h.reach, e _ _ h.some_ (by intro ps z; cases z), e _ _ h.set_ (by intro ps z; cases z), h.asc, h.sub, h.ne, h.len, h.nb⟩
theorem Drw.facts (h : Drw K C PL b l G al p m so ts gs s ns ss) : ns.Pairwise (· < ·) ∧ (∀ x ∈ ns, 0 ≤ x ∧ x < gs.length) ∧ ns ≠ [] ∧ ns.length ≤ gs.length := h.reach.facts h.mach.beg.1 h.mach.beg.2 fun g hg => (h.mach.goals g hg).2
/-- the drawn set is a set -/
theorem setD_ints : ∀ {ss : List Int}, ss ≠ [] → ss.Pairwise (· < ·) → (∀ x ∈ ss, 0 ≤ x ∧ x ∈ ns) → setD ns (.tuple (ss.map PyData.int)) = true := by
  intro ss ne hs hm
  show (!(ss.map PyData.int).isEmpty && ((ss.map PyData.int).all (inD ns) && ascD (ss.map PyData.int))) = true
  have a1 : (ss.map PyData.int).isEmpty = false := by
    cases ss with
    | nil => exact absurd rfl ne
    | cons => rfl
  have a2 : (ss.map PyData.int).all (inD ns) = true := by
    rw [List.all_map, List.all_eq_true]
    intro x hx
    obtain ⟨h1, h2⟩ := hm x hx
    show (decide (0 ≤ x) && decide (x ∈ ns)) = true
    rw [decide_eq_true h1, decide_eq_true h2]
    rfl
  have a3 : ascD (ss.map PyData.int) = true := by
    unfold ascD
    rw [List.all_eq_true]
    intro i hi
    have hi : i < ss.length - 1 := by simpa using hi
    have h1 : i < ss.length := by omega
    have h2 : i + 1 < ss.length := by omega
    have e : ∀ {j : Nat} (h : j < ss.length), intD ((ss.map PyData.int).getD j .none) = ss[j] := fun {j} h => by
      rw [List.getD_eq_getElem?_getD, List.getElem?_map, List.getElem?_eq_getElem h]
      rfl
    rw [e h1, e h2]
    exact decide_eq_true (List.pairwise_iff_getElem.mp hs i (i + 1) h1 h2 (Nat.lt_succ_self _))
  rw [a1, a2, a3]
  rfl
theorem setD_two {x y : Int} (h : ¬ x < y) : setD ns (.tuple [.int x, .int y]) = false := by
  show (true && ((inD ns (.int x) && (inD ns (.int y) && true)) && (decide (x < y) && true))) = false
  rw [decide_eq_false h]
  simp
theorem setD_out {ds : List PyData} {d : PyData} (h : d ∈ ds) (n : inD ns d = false) : setD ns (.tuple ds) = false := by
  have : ds.all (inD ns) = false := by
    rw [Bool.eq_false_iff]
    intro z
    rw [List.all_eq_true.mp z d h] at n
    cases n
  show (_ && (ds.all (inD ns) && _)) = false
  rw [this]
  simp
end
/-- the pair that is due where too many states are reachable -/
def WideAt (G : Hp) (wd : Addr) : Prop := ∃ q, G wd = some (.tup [.str "TooMany", .ref q]) ∧ G q = some (.tup [.str "states", .int 6])
theorem WideAt.same {G G' : Hp} {wd : Addr} (h : WideAt G wd) (s : Same G G') : WideAt G' wd := by
  obtain ⟨q, a, b⟩ := h
  exact ⟨q, s _ _ a, s _ _ b⟩
theorem WideAt.kp {G G' : Hp} {b l wd : Addr} (h : WideAt G wd) (k : Kp b G G') (B : BagAt b l G) : WideAt G' wd := by
  obtain ⟨q, x, y⟩ := h
  exact ⟨q, TupKeep.kp k B _ _ x, TupKeep.kp k B _ _ y⟩
theorem WideAt.ext {G G' : Hp} {wd : Addr} (h : WideAt G wd) (e : LamX.ExtN G G') : WideAt G' wd := by
  obtain ⟨q, x, y⟩ := h
  exact ⟨q, e _ _ x (by intro ps z; cases z), e _ _ y (by intro ps z; cases z)⟩
/-- what is due of the image and of the turn -/
def DueAt (G : Hp) (du : Addr) (ss led A : List Int) : Prop := ∃ (tA : Addr) (v1 : V), G du = some (.lst [.ref tA, v1]) ∧ G tA = some (.tup (A.map V.int)) ∧ ((A = ss ∧ ∃ tl, v1 = .ref tl ∧ G tl = some (.tup (led.map V.int))) ∨ (A ≠ ss ∧ v1 = .non))
theorem DueAt.same {G G' : Hp} {du : Addr} {ss led A : List Int} (h : DueAt G du ss led A) (s : Same G G') : DueAt G' du ss led A := by
  obtain ⟨tA, v1, a, b, c⟩ := h
  exact ⟨tA, v1, s _ _ a, s _ _ b, c.imp (fun ⟨e, tl, x, y⟩ => ⟨e, tl, x, s _ _ y⟩) id⟩
theorem DueAt.ext {G G' : Hp} {du : Addr} {ss led A : List Int} (h : DueAt G du ss led A) (e : LamX.ExtN G G') : DueAt G' du ss led A := by
  obtain ⟨tA, v1, a, b, c⟩ := h
  exact ⟨tA, v1, e _ _ a (by intro ps z; cases z), e _ _ b (by intro ps z; cases z), c.imp (fun ⟨x, tl, y, z⟩ => ⟨x, tl, y, e _ _ z (by intro ps z; cases z)⟩) id⟩
/-- between two turns of the law -/
def LawSt (PL a b l : Addr) (σ : L2.St) (G : Hp) : Prop := (∃ y2 y3 y4 y5 y6 y7 y8 y9 y10 y11 y12 y13 y14 y15 y16 y17 y18 y19 : Option V, σ = [some (.ref a), some (.ref b), y2, y3, y4, y5, y6, y7, y8, y9, y10, y11, y12, y13, y14, y15, y16, y17, y18, y19]) ∧ BagAt b l G ∧ LamX.Tabs [(PL, qLam)] G

variable {K : PySem.W.Frag} {mg : Str → Option Value}
local macro_rules | `(tactic| walk_at "s2") => `(tactic| first
  | refine ⟨_, rfl, ?_⟩
  | refine ⟨_, _, rfl, rfl, ?_⟩
  | refine .inl ⟨_, rfl, ?_⟩
  | refine ⟨_, _, rfl, by assumption, ?_⟩
  | (refine And.intro ?_ ?_; focus (walk_at "side"))
  | refine iteT ?_
  | refine iteF ?_)
local macro_rules | `(tactic| walk_at "n2") => `(tactic| first
  | with_reducible refine MyP.seq_use (fun _ _ => ?_)
  | with_reducible refine MyP.SeqN.go (by assumption) ?_
  | with_reducible refine MyP.gname_use ?_
  | with_reducible refine MyP.next_use ?_
  | walk_at "s2")
local macro_rules | `(tactic| walk_at "nn2") => `(tactic| repeat walk_at "n2")

section
variable {P : Program} {w : World} {base : Heap}
theorem law_asks2 {cL PL : Addr} (T : Env K mg) (TB : LamX.TabB base mg cL PL) (A : Around) (outer : List PySem.Env) (s : Shared) (H : Hp) (E : XK) (hr : Room 15 (A.deeper (envOfC "law" (defScope s_law) s.heap.objs.size T.f_law (.ref cL))))
    (nd : CellsNd (cxOf CX0 P w K mg base N_law "law" (defScope s_law) T.f_law (.ref cL) A outer s H E).nox.env) (hfn : (cxOf CX0 P w K mg base N_law "law" (defScope s_law) T.f_law (.ref cL) A outer s H E).nox.Ok → ∀ y c, (cxOf CX0 P w K mg base N_law "law" (defScope s_law) T.f_law (.ref cL) A outer s H E).nox.env.cells.lookup y = some c → (cxOf CX0 P w K mg base N_law "law" (defScope s_law) T.f_law (.ref cL) A outer s H E).nox.s_0.heap.objs.size ≤ c) :
    ∃ t, PSs (cxOf CX0 P w K mg base N_law "law" (defScope s_law) T.f_law (.ref cL) A outer s H E).nox (bodyTail 17) t ∧ ∀ (D : Ends) (G : Hp) (a b l : Addr) (al : Str) (p m so ts wd : Addr) (gs : List (List Int)) (s0 n : Int) (ns ss : List Int) (u v : V) (z : Str) (y2 y11 y12 y13 y15 y18 y19 : Option V),
      (∀ σ G', LawSt PL a b l σ G' → D.nx σ G') → Drw K T.C_Machine PL b l G al p m so ts gs s0 ns ss → OddV b G ns u → Strg al.cps.toList v → Own b G v → WideAt G wd →
      t D [some (.ref a), some (.ref b), y2, some (.str al), some (.int n), some (.ref p), some (.int s0), some (.ref m), some (.ref so), some (.ref ts), some (.str z), y11, y12, y13, some (.ref wd), y15, some u, some v, y18, y19] G := by
  refine ⟨_, ((pss_cons (ps_set (i := 13) sc_law.nd rfl (.inl rfl) (pe_lst (pa_cons (pe_lm (T := [(PL, qLam)]) TB rfl (List.mem_singleton.mpr rfl) (fun _ h _ => congrArg Prod.snd (List.mem_singleton.mp h)) (free_by (sc := defScope s_law) (by decide +kernel)) rfl) (pa_cons (pe_lm1 (T := [(PL, qLam)]) (i := 0) TB rfl (List.mem_singleton.mpr rfl) (fun _ h _ => congrArg Prod.snd (List.mem_singleton.mp h)) (free_by (sc := defScope s_law) (by decide +kernel)) rfl rfl) pa_nil))))
      (pss_cons (ps_set (i := 12) sc_law.nd rfl (.inl rfl) (pe_lst (pa_cons (pe_tup (pa_cons pe_str (pa_cons (pe_tup (pa_cons (pv 16) pa_nil)) pa_nil))) (pa_cons (pe_tup (pa_cons pe_str (pa_cons (pe_tup (pa_cons (pv 17) pa_nil)) pa_nil))) pa_nil))))
      (pss_one (ps_if (pt_not (pt_val (pe_call (ok_same T 5) (hr.mono (by decide)) (by rfl) T.g_same T.F_same.kp T.b_same .nil pass0 (pa_cons (pe_callX (k := 11) (hr.mono (by decide)) (by rfl) T.g_all_got T.F_all_got.kp T.b_all_got pass0 nd hfn (pa_cons (pv 13) pa_nil)) (pa_cons (pe_ifExp (pt_cmpR op_lt (pe_callB call_len_seq (by rfl) T.z_len (by decide +kernel) (pa_cons (pv 8) pa_nil)) pe_int (nomark _)) (pv 12) (pe_lst (pa_cons (pv 14) (pa_cons (pv 14) pa_nil)))) pa_nil)))))
      (pss_one (ps_ret pe_bl))
      pss_nil))))), ?_⟩
  rintro ⟨dn, dr, db, dc⟩ G a b l al p m so ts wd gs s0 n ns ss u v z y2 y11 y12 y13 y15 y18 y19 inv dw hu hv hvo hwd
  have t1 := dw.tab
  have fx := dw.facts
  have gl8 := dw.few
  walk_at "nn2"
  intro f1 c1 G1 x1 _ tb1 _ lf1 lc1
  walk_at "nn2"
  intro f2 c2 T2 G2 x2 _ tb2 _ dt2 lf2 lc2
  have x12 := x1.trans x2
  have dw2 := dw.ext x12 tb2
  have hu2 := hu.ext x12
  have hvo2 := hvo.ext x12
  have hwd2 := hwd.ext x12
  have lf1' := x2 _ _ lf1 (by intro ps z; cases z)
  have lc1' := x2 _ _ lc1 LamX.codeO_ne
  clear dw hu hvo hwd tb1 x1 x2 x12 lf1 lc1 t1
  walk_at "nn2"
  intro lb hlb
  have S0 := same_upd (o := .lst [.ref f1, .ref f2]) hlb
  have dw4 := dw2.same S0
  have hu4 := hu2.kp (Kp.same (b := b) S0)
  have hvo4 := hvo2.kp (Kp.same (b := b) S0)
  have hwd4 := hwd2.same S0
  have hlb4 := upd_same (H := G2) (a := lb) (o := .lst [.ref f1, .ref f2])
  have lf1a := S0 _ _ lf1'
  have lc1a := S0 _ _ lc1'
  have lf2a := S0 _ _ lf2
  have lc2a := S0 _ _ lc2
  have dt2a := S0 _ _ dt2
  clear dw2 hu2 hvo2 hwd2 lf1' lc1' lf2 lc2 dt2 tb2 S0 hlb
  show gName 13 _ _ (upd G2 lb (.lst [.ref f1, .ref f2])) _
  generalize upd G2 lb (.lst [.ref f1, .ref f2]) = G4 at *
  walk_at "nn2"
  intro q0 nq0
  have v0 := same_upd (o := .tup [u]) nq0
  walk_at "nn2"
  intro r0 nr0
  have w0 := same_upd (o := .tup [.str "InvalidSet", .ref q0]) nr0
  walk_at "nn2"
  intro q1 nq1
  have v1 := same_upd (o := .tup [v]) nq1
  walk_at "nn2"
  intro r1 nr1
  have w1 := same_upd (o := .tup [.str "InvalidWord", .ref q1]) nr1
  walk_at "nn2"
  intro ld nld
  have z0 := same_upd (o := .lst [.ref r0, .ref r1]) nld
  have z1 := w1.trans z0
  have z2 := v1.trans z1
  have z3 := w0.trans z2
  have z4 := v0.trans z3
  have b0 := z3 _ _ (upd_same (a := q0) (o := .tup [u]))
  have c0 := z2 _ _ (upd_same (a := r0) (o := .tup [.str "InvalidSet", .ref q0]))
  have b1 := z1 _ _ (upd_same (a := q1) (o := .tup [v]))
  have c1' := z0 _ _ (upd_same (a := r1) (o := .tup [.str "InvalidWord", .ref q1]))
  have hld := upd_same (H := upd (upd (upd (upd G4 q0 (.tup [u])) r0 (.tup [.str "InvalidSet", .ref q0])) q1 (.tup [v])) r1 (.tup [.str "InvalidWord", .ref q1])) (a := ld) (o := .lst [.ref r0, .ref r1])
  have dw5 := dw4.same z4
  have hu5 := hu4.kp (Kp.same (b := b) z4)
  have hvo5 := hvo4.kp (Kp.same (b := b) z4)
  have hwd5 := hwd4.same z4
  have hlb5 := z4 _ _ hlb4
  have lf1b := z4 _ _ lf1a
  have lc1b := z4 _ _ lc1a
  have lf2b := z4 _ _ lf2a
  have lc2b := z4 _ _ lc2a
  have dt2b := z4 _ _ dt2a
  clear dw4 hu4 hvo4 hwd4 hlb4 lf1a lc1a lf2a lc2a dt2a z0 z1 z2 z3 z4 v0 v1 w0 w1 nq0 nr0 nq1 nr1 nld
  show gName 12 _ _ (upd (upd (upd (upd (upd G4 q0 (.tup [u])) r0 (.tup [.str "InvalidSet", .ref q0])) q1 (.tup [v])) r1 (.tup [.str "InvalidWord", .ref q1])) ld (.lst [.ref r0, .ref r1])) _
  generalize upd (upd (upd (upd (upd G4 q0 (.tup [u])) r0 (.tup [.str "InvalidSet", .ref q0])) q1 (.tup [v])) r1 (.tup [.str "InvalidWord", .ref q1])) ld (.lst [.ref r0, .ref r1]) = G5 at *
  walk_at "nn2"
  obtain ⟨k1, us1, k2, us2, hk⟩ : ∃ (k1 : Str) (us1 : List V) (k2 : Str) (us2 : List V), (ns.length ≤ 6 ∧ k1 = "InvalidSet" ∧ us1 = [u] ∧ k2 = "InvalidWord" ∧ us2 = [v]) ∨ (6 < ns.length ∧ k1 = "TooMany" ∧ us1 = [.str "states", .int 6] ∧ k2 = "TooMany" ∧ us2 = [.str "states", .int 6]) := by
    by_cases h6 : ns.length ≤ 6
    · exact ⟨_, _, _, _, .inl ⟨h6, rfl, rfl, rfl, rfl⟩⟩
    · exact ⟨_, _, _, _, .inr ⟨by omega, rfl, rfl, rfl, rfl⟩⟩
  have many : ∀ (H1 : Hp) (E2 : XK), (∀ cls d H2, PySem.W.exmAny K cls [.ref T.C_AheadError, .ref T.C_Missing, .ref T.C_NothingLeft] = some true → ErrL K cls d H2 "TooMany" [.str "states", .int 6] → Same H1 H2 → E2 cls d H2) → ∀ (d : Addr) (H' : Hp), Same H1 H' → H' d = some (.xd [("code", .str "TooMany"), ("most", .int 6), ("subject", .str "states")]) → E2 (.ref T.C_TooMany) (some d) H' := fun H1 E2 hE d H6 s6 e6 =>
    hE _ _ _ T.e_TooMany (.inr (.inl ⟨_, _, rfl, rfl, T.C_TooMany, d, rfl, T.y_TooMany, T.n_TooMany_code, T.n_TooMany_subject, T.n_TooMany_most, rfl, e6⟩)) s6
  refine allgotl_x (X := (cxOf CX0 P w K mg base N_law "law" (defScope s_law) T.f_law (.ref cL) A outer s H E).nox) T 8 fun bs g => ?_
  refine ⟨lb, [f1, f2], [.err k1 us1, .err k2 us2], rfl, SqL.of hlb5, (by show 2 ≤ 100; decide), rfl, (fun d hd => by simp at hd; rcases hd with rfl | rfl <;> trivial), fun i f hf => ?_, fun pr ys G6 e1 e2 e3 s1 => ?_⟩
  · match i, hf with
    | 0, hf =>
      cases hf
      refine ⟨_, rfl, ?_⟩
      refine ask_err0 (P := P) (w := w) (N := ["_law_made", "_law_odd", "_law_strange"]) (fr := ["_law_made", "_law_odd", "_law_strange"]) lf1b lc1b rfl (NdefX.nscope_by (by kernel_rfl)) (fun _ _ _ => rfl) (g.cells _ _ [7, 16, 17] (NdefX.Caps.made g.ok (free_by (sc := defScope s_law) (by decide +kernel)) (by decide +kernel) rfl)) (fun A outer s H E hr => (pe_call (ok_image T) (hr.mono (by decide)) (by rfl) T.g_image T.F_image.kp T.b_image .nil (passE (takes_of rfl rfl rfl rfl)) (pa_cons (pv 0) (pa_cons (pv 1) (pa_cons (pv 2) pa_nil))))) fun H5 s5 Q2 E2 hE => ?_
      walk_at "nn2"
      obtain ⟨du, d1, d2, d3⟩ := (hu5.kp (Kp.same (b := b) s5)).dp (K := K)
      refine ⟨m, u, v, rfl, al, gs, s0, ns, du, dw5.mach.same s5, dw5.reach, by omega, d1, d3, ?_⟩
      rcases hk with ⟨h6, rfl, rfl, -, -⟩ | ⟨h6, rfl, rfl, -, -⟩
      · exact .inr (.inl ⟨h6, d2, fun d H6 s6 e6 => hE _ _ _ T.e_InvalidSet (.inl ⟨"given", _, rfl, .inl ⟨by decide +kernel, rfl⟩, T.C_InvalidSet, d, rfl, T.y_InvalidSet, T.n_InvalidSet_code, T.n_InvalidSet_given, rfl, e6⟩) s6⟩)
      · exact .inl ⟨h6, many _ _ hE⟩
    | 1, hf =>
      cases hf
      refine ⟨_, rfl, ?_⟩
      refine ask_err1 (P := P) (w := w) (N := ["_law_a", "_law_made", "_law_some_set", "_law_strange"]) (fr := ["_law_made", "_law_some_set", "_law_strange"]) lf2b lc2b (.inr ⟨T2, 0, rfl, rfl, dt2b⟩) (NdefX.nscope_by (by kernel_rfl)) (fun Tt doc pm ctv its e h => by
          have e : Value.ref T2 = Value.ref Tt := e
          cases e
          match its, h with
          | [_], _ => exact ⟨_, rfl, rfl⟩) (g.cells _ _ [7, 9, 17] (NdefX.Caps.made g.ok (free_by (sc := defScope s_law) (by decide +kernel)) (by decide +kernel) rfl)) (fun A outer s H E hr => (pe_call (ok_turn T) (hr.mono (by decide)) (by rfl) T.g_turn T.F_turn.kp T.b_turn .nil (passE (takes_of rfl rfl rfl rfl)) (pa_cons (pv 1) (pa_cons (pv 2) (pa_cons (pv 3) pa_nil))))) fun H5 s5 Q2 E2 hE => ?_
      walk_at "nn2"
      have d5 := dw5.same s5
      refine ⟨m, .ref ts, v, rfl, al, gs, s0, ns, _, d5.mach, d5.reach, by omega, .tup (SqT.of d5.set_) (dpa_ints ss), fun ds z => by cases z; rw [List.length_map]; have := d5.len; omega, ?_⟩
      rcases hk with ⟨h6, -, -, rfl, rfl⟩ | ⟨h6, -, -, rfl, rfl⟩
      · refine .inr (.inr ⟨h6, setD_ints d5.ne d5.asc fun x hx => ⟨(fx.2.1 x (d5.sub x hx)).1, d5.sub x hx⟩, ts, ss, rfl, SqT.of d5.set_, fun x hx => fx.2.1 x (d5.sub x hx), d5.ne, by have := d5.len; omega, .inr ⟨hv.ways (hvo5.kp (Kp.same s5)), fun d H6 s6 e6 => ?_⟩⟩)
        exact hE _ _ _ T.e_InvalidWord (.inl ⟨"given", _, rfl, .inl ⟨by decide +kernel, rfl⟩, T.C_InvalidWord, d, rfl, T.y_InvalidWord, T.n_InvalidWord_code, T.n_InvalidWord_given, rfl, e6⟩) s6
      · exact .inl ⟨h6, many _ _ hE⟩
    | i + 2, hf => simp at hf
  · walk_at "nn2"
    have dw6 := dw5.same s1
    refine ⟨so, _, rfl, .inl (SqL.of dw6.some_), ?_⟩
    rw [List.length_map]
    match ys, e2 with
    | [y0, y1], _ =>
    obtain ⟨_, g0, g0'⟩ := e3 0 y0 rfl
    cases g0
    obtain ⟨_, g1, g1'⟩ := e3 1 y1 rfl
    cases g1
    walk_at "nn2"
    refine ite2 (fun e => ?_) (fun e => ?_)
    · have e : ns.length ≤ 6 := by
        have := of_decide_eq_true e
        omega
      rcases hk with ⟨-, rfl, rfl, rfl, rfl⟩ | ⟨h6, -⟩
      rotate_left
      · omega
      walk_at "nn2"
      refine ⟨.ref pr, .ref ld, rfl, sm_list (SqL.of e1) (SqL.of (s1 _ _ hld)) rfl (by show 2 ≤ 1000; decide) fun p hp => ?_, fun H8 s8 => ?_⟩
      · simp only [List.zip_cons_cons, List.zip_nil_right, List.mem_cons, List.not_mem_nil, or_false] at hp
        rcases hp with rfl | rfl
        · exact gotl_errS g0' (Same.refl _) (s1 _ _ c0) (s1 _ _ b0) (hu5.kp (Kp.same (b := b) s1)).sm
        · exact gotl_errS g1' (Same.refl _) (s1 _ _ c1') (s1 _ _ b1) (hvo5.kp (Kp.same (b := b) s1)).sm
      walk_at "nn2"
      have dwE := dw6.same s8
      exact inv _ _ ⟨⟨_, _, _, _, _, _, _, _, _, _, _, _, _, _, _, _, _, _, rfl⟩, dwE.bag, dwE.tab⟩
    · have e : 6 < ns.length := by
        have : ¬ ((ns.length : Int) < 7) := fun h => e (decide_eq_true h)
        omega
      rcases hk with ⟨h6, -⟩ | ⟨-, rfl, rfl, rfl, rfl⟩
      · omega
      walk_at "nn2"
      intro lw nlw
      have sw := same_upd (o := .lst [.ref wd, .ref wd]) nlw
      obtain ⟨qw, w1, w2⟩ := (hwd5.same s1).same sw
      have sc : ∀ x ∈ ([.str "states", .int 6] : List V), scalV x = true := fun x hx => by
        simp only [List.mem_cons, List.not_mem_nil, or_false] at hx
        rcases hx with rfl | rfl <;> rfl
      walk_at "nn2"
      refine ⟨.ref pr, .ref lw, rfl, sm_list (SqL.of (sw _ _ e1)) (SqL.of upd_same) rfl (by show 2 ≤ 1000; decide) fun p hp => ?_, fun H8 s8 => ?_⟩
      · simp only [List.zip_cons_cons, List.zip_nil_right, List.mem_cons, List.not_mem_nil, or_false] at hp
        rcases hp with rfl | rfl
        · exact gotl_err g0' sw w1 w2 sc (by show 2 ≤ 1000; decide)
        · exact gotl_err g1' sw w1 w2 sc (by show 2 ≤ 1000; decide)
      walk_at "nn2"
      have dwE := (dw6.same sw).same s8
      exact inv _ _ ⟨⟨_, _, _, _, _, _, _, _, _, _, _, _, _, _, _, _, _, _, rfl⟩, dwE.bag, dwE.tab⟩
end

variable {K : PySem.W.Frag} {mg : Str → Option Value}

theorem othersV (ns : List Int) (N : Nat) : ((List.range N).filterMap fun i : Nat => if (i : Int) ∈ ns then none else some (V.int (i : Int))) = ((List.range N).filterMap fun i : Nat => if (i : Int) ∈ ns then none else some (i : Int)).map V.int := by
  rw [List.map_filterMap]
  congr 1
  funext i
  by_cases h : (i : Int) ∈ ns
  · rw [if_pos h, if_pos h]
    rfl
  · rw [if_neg h, if_neg h]
    rfl
theorem inD_out {ns : List Int} {x : Int} (h : x ∉ ns) : inD ns (.int x) = false := by
  show (decide (0 ≤ x) && decide (x ∈ ns)) = false
  rw [decide_eq_false h]
  simp
theorem rev_scal (ns : List Int) (x : Int) : ((ns.map V.int).reverse ++ [V.int x]).all scalV = true := by
  rw [List.all_eq_true]
  intro v hv
  rcases List.mem_append.mp hv with h | h
  · obtain ⟨i, _, rfl⟩ := List.mem_map.mp (List.mem_reverse.mp h)
    rfl
  · rw [List.mem_singleton.mp h]
    rfl
theorem setD_bent {ns : List Int} {x y : Int} {r : List PyData} (h : ¬ x < y) : setD ns (.tuple (.int x :: .int y :: r)) = false := by
  have : ascD (.int x :: .int y :: r) = false := by
    rw [Bool.eq_false_iff]
    intro z
    have := List.all_eq_true.mp z 0 (by simp)
    exact h (of_decide_eq_true this)
  show (!(PyData.int x :: .int y :: r).isEmpty && ((PyData.int x :: .int y :: r).all (inD ns) && ascD (PyData.int x :: .int y :: r))) = false
  rw [this]
  simp
theorem setD_rev {ns pre : List Int} {xl : Int} (e : ns = pre ++ [xl]) (h : ns.Pairwise (· < ·)) : setD ns (.tuple (((ns.map V.int).reverse ++ [V.int xl]).map dOf)) = false := by
  have form : ((ns.map V.int).reverse ++ [V.int xl]).map dOf = .int xl :: ((pre.map V.int).reverse ++ [V.int xl]).map dOf := by
    have : (ns.map V.int).reverse = V.int xl :: (pre.map V.int).reverse := by
      rw [e, List.map_append, List.reverse_append]
      rfl
    rw [this]
    rfl
  rw [form]
  cases hp : pre.reverse with
  | nil =>
    have : pre = [] := by simpa using hp
    rw [this]
    exact setD_bent (Int.lt_irrefl _)
  | cons y r =>
    have hy : y ∈ pre := by rw [← List.mem_reverse, hp]; exact List.mem_cons_self ..
    rw [e] at h
    have lt := (List.pairwise_append.mp h).2.2 y hy xl (List.mem_singleton.mpr rfl)
    rw [← List.map_reverse, hp]
    exact setD_bent (by omega)
section
variable {P : Program} {w : World} {base : Heap}
theorem law_odd {cL PL : Addr} (T : Env K mg) (A : Around) (outer : List PySem.Env) (s : Shared) (H : Hp) (E : XK) (hr : Room 15 (A.deeper (envOfC "law" (defScope s_law) s.heap.objs.size T.f_law (.ref cL)))) {tE : TS}
    (hE : PSs (cxOf CX0 P w K mg base N_law "law" (defScope s_law) T.f_law (.ref cL) A outer s H E).nox (bodyTail 17) tE) :
    ∃ t, PSs (cxOf CX0 P w K mg base N_law "law" (defScope s_law) T.f_law (.ref cL) A outer s H E).nox (bodyTail 14) t ∧ ∀ (D : Ends) (G : Hp) (a b l : Addr) (al : Str) (p m so ts wd : Addr) (gs : List (List Int)) (s0 n : Int) (ns ss : List Int) (z : Str) (y2 y11 y12 y13 y15 y16 y17 y18 y19 : Option V),
      (∀ (G' : Hp) (u v : V) (y15 : Option V), Drw K T.C_Machine PL b l G' al p m so ts gs s0 ns ss → OddV b G' ns u → Strg al.cps.toList v → Own b G' v → WideAt G' wd →
        tE D [some (.ref a), some (.ref b), y2, some (.str al), some (.int n), some (.ref p), some (.int s0), some (.ref m), some (.ref so), some (.ref ts), some (.str z), y11, y12, y13, some (.ref wd), y15, some u, some v, y18, y19] G') →
      Drw K T.C_Machine PL b l G al p m so ts gs s0 ns ss → WideAt G wd → (gs.length : Int) = n →
      t D [some (.ref a), some (.ref b), y2, some (.str al), some (.int n), some (.ref p), some (.int s0), some (.ref m), some (.ref so), some (.ref ts), some (.str z), y11, y12, y13, some (.ref wd), y15, y16, y17, y18, y19] G := by
  refine ⟨_, ((pss_cons (ps_setLc (i := 15) (own := [("_law_at", 18)]) (g := (gName 18)) (tt := (tTest (tOp (rIn K true) _ _))) rfl sc_law.nd rfl rfl (sw_true rfl rfl rfl (by decide +kernel)) (pi_range1 (by rfl) T.z_range (pa_cons (pv 4) pa_nil)) (blkOk_by (own := [("_law_at", 18)]) (N := N_law) (sc := defScope s_law) (by decide +kernel)) (fun _ _ _ _ _ => (pg_name (i := 18) sc_law.nd rfl (.inl rfl))) (fun _ _ _ _ _ => (pts_one (pt_cmpR op_notIn_seq (pv 18) (pv 8) (by rfl)))) (fun _ _ _ _ _ => (pv 18)))
      (pss_cons (ps_set (i := 16) sc_law.nd rfl (.inr rfl) (pe_call (ok_of T) (hr.mono (by decide)) (by rfl) T.g_of T.F_of.kp T.b_of .nil pass0 (pa_cons (pv 1) (pa_cons (pe_lst (pa_cons (pe_tup pa_nil) (pa_cons pe_non (pa_cons (pe_lst (pa_cons (pe_ix ix_list (pv 8) pe_int (fun _ _ => rfl)) pa_nil)) (pa_cons (pe_tup (pa_cons (pe_ix ix_list (pv 8) pe_int (fun _ _ => rfl)) (pa_cons (pe_ix ix_list (pv 8) pe_int (fun _ _ => rfl)) pa_nil))) (pa_cons (pe_tup (pa_cons (pe_ix ix_list (pv 8) pe_int (fun _ _ => rfl)) (pa_cons (pe_un un_neg pe_int) pa_nil))) (pa_cons (pe_tup (pa_cons pe_bl pa_nil)) (pa_cons (pe_tup (pa_cons pe_str pa_nil)) (pa_cons pe_int (pa_cons (pe_op op_catT (pe_tup (pa_cons (pe_ix ix_list (pv 8) pe_int (fun _ _ => rfl)) pa_nil)) (pe_tup (pa_cons (pv 4) pa_nil))) (pa_cons (pe_op op_catT (pe_callTy call_tuple_of (by rfl) T.z_tuple (by decide +kernel) (pa_cons (pe_revL (pv 8)) pa_nil)) (pe_tup (pa_cons (pe_ix ix_list (pv 8) (pe_un un_neg pe_int) (fun _ _ => rfl)) pa_nil))) (pa_cons (pe_ifExp (pt_cmpR (op_neD hr.units) (pv 15) (pe_lst pa_nil) (nomark _)) (pe_tup (pa_cons (pe_ix ix_list (pv 15) pe_int (fun _ _ => rfl)) pa_nil)) (pe_tup pa_nil)) pa_nil)))))))))))) pa_nil))))
      (pss_cons (ps_set (i := 17) sc_law.nd rfl (.inr rfl) (pe_call (ok_of T) (hr.mono (by decide)) (by rfl) T.g_of T.F_of.kp T.b_of .nil pass0 (pa_cons (pv 1) (pa_cons (pe_lst (pa_cons pe_non (pa_cons pe_str (pa_cons pe_int (pa_cons (pe_lst (pa_cons (pe_ix ix_str (pv 3) pe_int (fun _ _ => rfl)) pa_nil)) pa_nil))))) pa_nil))))
      hE)))), ?_⟩
  rintro ⟨dn, dr, db, dc⟩ G a b l al p m so ts wd gs s0 n ns ss z y2 y11 y12 y13 y15 y16 y17 y18 y19 go dw hwd hn
  have fx := dw.facts
  have gl8 := dw.few
  have nout : n ∉ ns := fun h => by
    have := fx.2.1 n h
    omega
  walk_at "nn2"
  intro D0 nD0
  have D0b := dw.bag.nb nD0
  refine lc_fil walk_range (fun H' => Same G H') (fun i : Nat => if (i : Int) ∈ ns then none else some (V.int (i : Int))) (by omega) (same_upd nD0) (fun _ _ => trivial) (fun _ _ h => same_mut h nD0) ?_ ?_
  · rintro i x H1 H2 Q1 Qn hlt hI ⟨rfl, rfl⟩ - hQ hN
    walk_at "nn2"
    refine ⟨so, _, rfl, .inl (SqL.of (hI _ _ dw.some_)), rfl, flat_intsD _, ?_⟩
    have e : (if true = true then !inV (V.int (0 + (i : Int))) (ns.map V.int) else inV (V.int (0 + (i : Int))) (ns.map V.int)) = !decide ((i : Int) ∈ ns) := by
      rw [Int.zero_add, inV_ints]
      rfl
    refine ⟨!decide ((i : Int) ∈ ns), congrArg V.bl e, ?_⟩
    by_cases h : (i : Int) ∈ ns
    · rw [show (!decide ((i : Int) ∈ ns)) = false by simp [h]]
      exact hN _ (if_pos h) hI fun _ h => h
    · rw [show (!decide ((i : Int) ∈ ns)) = true by simp [h]]
      walk_at "nn2"
      exact hQ _ _ (by rw [if_neg h]; show some (V.int (i : Int)) = some (V.int (0 + (i : Int))); rw [Int.zero_add]) hI fun _ h => h
  · intro H1 hI hy
    rw [othersV] at hy
    obtain ⟨os, hos⟩ : ∃ os : List Int, os = ((List.range n.toNat).filterMap fun i : Nat => if (i : Int) ∈ ns then none else some (i : Int)) := ⟨_, rfl⟩
    have oso : ∀ x ∈ os, x ∉ ns := fun x hx => by
      rw [hos] at hx
      obtain ⟨i, _, hi⟩ := List.mem_filterMap.mp hx
      by_cases h : (i : Int) ∈ ns
      · rw [if_pos h] at hi
        cases hi
      · rw [if_neg h] at hi
        cases hi
        exact h
    have osl : os.length ≤ 8 := by
      rw [hos]
      refine Nat.le_trans (List.length_filterMap_le _ _) ?_
      rw [List.length_range]
      omega
    have hy : H1 D0 = some (.lst (os.map V.int)) := by rw [hos]; exact hy
    clear hos
    have dw1 := dw.same hI
    have hwd1 := hwd.same hI
    clear dw hwd hI nD0
    obtain ⟨x0, rest, hns⟩ : ∃ x0 rest, ns = x0 :: rest := by
      cases ns with
      | nil => exact absurd rfl fx.2.2.1
      | cons x r => exact ⟨x, r, rfl⟩
    obtain ⟨pre, xl, hnl⟩ : ∃ pre xl, ns = pre ++ [xl] := ⟨ns.dropLast, ns.getLast fx.2.2.1, (List.dropLast_concat_getLast fx.2.2.1).symm⟩
    have at0 : atI (ns.map V.int) 0 = some (.int x0) := by
      rw [hns]
      exact atI_nat (j := 0) rfl
    have atm : atI (ns.map V.int) (-1) = some (.int xl) := by
      rw [hnl, List.map_append]
      exact atI_last _ _
    have S : Same H1 H1 := Same.refl _
    walk_at "nn2"
    intro p1 np1
    have e := same_upd (o := .tup []) np1
    have op1 : OddV b (upd H1 p1 (.tup [])) ns (.ref p1) := .inr ⟨p1, _, rfl, (dw1.same S).bag.nb np1, rfl, by show 0 ≤ 20; decide, .inr ⟨upd_same, rfl⟩⟩
    replace S := S.trans e
    clear e np1
    generalize upd H1 p1 (.tup []) = J1 at *
    walk_at "nn2"
    refine ⟨so, _, 0, .int x0, rfl, rfl, SqL.of (S _ _ dw1.some_), at0, ?_⟩
    walk_at "nn2"
    intro p3 np3
    have e := same_upd (o := .lst [.int x0]) np3
    have op3 : OddV b (upd J1 p3 (.lst [.int x0])) ns (.ref p3) := .inr ⟨p3, _, rfl, (dw1.same S).bag.nb np3, rfl, by show 1 ≤ 20; decide, .inl upd_same⟩
    replace op1 := op1.kp (Kp.same (b := b) e)
    replace S := S.trans e
    clear e np3
    generalize upd J1 p3 (.lst [.int x0]) = J2 at *
    walk_at "nn2"
    refine ⟨so, _, 0, .int x0, rfl, rfl, SqL.of (S _ _ dw1.some_), at0, ?_⟩
    walk_at "nn2"
    refine ⟨so, _, 0, .int x0, rfl, rfl, SqL.of (S _ _ dw1.some_), at0, ?_⟩
    walk_at "nn2"
    intro p4 np4
    have e := same_upd (o := .tup [.int x0, .int x0]) np4
    have op4 : OddV b (upd J2 p4 (.tup [.int x0, .int x0])) ns (.ref p4) := .inr ⟨p4, _, rfl, (dw1.same S).bag.nb np4, rfl, by show 2 ≤ 20; decide, .inr ⟨upd_same, setD_two (Int.lt_irrefl _)⟩⟩
    replace op1 := op1.kp (Kp.same (b := b) e)
    replace op3 := op3.kp (Kp.same (b := b) e)
    replace S := S.trans e
    clear e np4
    generalize upd J2 p4 (.tup [.int x0, .int x0]) = J3 at *
    walk_at "nn2"
    refine ⟨so, _, 0, .int x0, rfl, rfl, SqL.of (S _ _ dw1.some_), at0, ?_⟩
    walk_at "nn2"
    intro p5 np5
    have e := same_upd (o := .tup [.int x0, .int (-1)]) np5
    have op5 : OddV b (upd J3 p5 (.tup [.int x0, .int (-1)])) ns (.ref p5) := .inr ⟨p5, _, rfl, (dw1.same S).bag.nb np5, rfl, by show 2 ≤ 20; decide, .inr ⟨upd_same, setD_out (d := .int (-1)) (by simp [dOf]) rfl⟩⟩
    replace op1 := op1.kp (Kp.same (b := b) e)
    replace op3 := op3.kp (Kp.same (b := b) e)
    replace op4 := op4.kp (Kp.same (b := b) e)
    replace S := S.trans e
    clear e np5
    generalize upd J3 p5 (.tup [.int x0, .int (-1)]) = J4 at *
    walk_at "nn2"
    intro p6 np6
    have e := same_upd (o := .tup [.bl true]) np6
    have op6 : OddV b (upd J4 p6 (.tup [.bl true])) ns (.ref p6) := .inr ⟨p6, _, rfl, (dw1.same S).bag.nb np6, rfl, by show 1 ≤ 20; decide, .inr ⟨upd_same, setD_out (d := .bool true) (by simp [dOf]) rfl⟩⟩
    replace op1 := op1.kp (Kp.same (b := b) e)
    replace op3 := op3.kp (Kp.same (b := b) e)
    replace op4 := op4.kp (Kp.same (b := b) e)
    replace op5 := op5.kp (Kp.same (b := b) e)
    replace S := S.trans e
    clear e np6
    generalize upd J4 p6 (.tup [.bl true]) = J5 at *
    walk_at "nn2"
    intro p7 np7
    have e := same_upd (o := .tup [.str "0"]) np7
    have op7 : OddV b (upd J5 p7 (.tup [.str "0"])) ns (.ref p7) := .inr ⟨p7, _, rfl, (dw1.same S).bag.nb np7, rfl, by show 1 ≤ 20; decide, .inr ⟨upd_same, setD_out (d := .str "0") (by simp [dOf]) rfl⟩⟩
    replace op1 := op1.kp (Kp.same (b := b) e)
    replace op3 := op3.kp (Kp.same (b := b) e)
    replace op4 := op4.kp (Kp.same (b := b) e)
    replace op5 := op5.kp (Kp.same (b := b) e)
    replace op6 := op6.kp (Kp.same (b := b) e)
    replace S := S.trans e
    clear e np7
    generalize upd J5 p7 (.tup [.str "0"]) = J6 at *
    walk_at "nn2"
    refine ⟨so, _, 0, .int x0, rfl, rfl, SqL.of (S _ _ dw1.some_), at0, ?_⟩
    walk_at "nn2"
    intro q8 nq8
    have e := same_upd (o := .tup [.int x0]) nq8
    have hq8 := upd_same (H := J6) (a := q8) (o := .tup [.int x0])
    replace op1 := op1.kp (Kp.same (b := b) e)
    replace op3 := op3.kp (Kp.same (b := b) e)
    replace op4 := op4.kp (Kp.same (b := b) e)
    replace op5 := op5.kp (Kp.same (b := b) e)
    replace op6 := op6.kp (Kp.same (b := b) e)
    replace op7 := op7.kp (Kp.same (b := b) e)
    replace S := S.trans e
    clear e nq8
    generalize upd J6 q8 (.tup [.int x0]) = J7 at *
    walk_at "nn2"
    intro r8 nr8
    have e := same_upd (o := .tup [.int n]) nr8
    have hr8 := upd_same (H := J7) (a := r8) (o := .tup [.int n])
    replace op1 := op1.kp (Kp.same (b := b) e)
    replace op3 := op3.kp (Kp.same (b := b) e)
    replace op4 := op4.kp (Kp.same (b := b) e)
    replace op5 := op5.kp (Kp.same (b := b) e)
    replace op6 := op6.kp (Kp.same (b := b) e)
    replace op7 := op7.kp (Kp.same (b := b) e)
    replace hq8 := e _ _ hq8
    replace S := S.trans e
    clear e nr8
    generalize upd J7 r8 (.tup [.int n]) = J8 at *
    walk_at "nn2"
    refine ⟨q8, r8, _, _, rfl, rfl, SqT.of hq8, SqT.of hr8, (by intro z; cases z), sz (by show 2 ≤ 100000; decide), (fun z => by cases z), fun _ => ?_⟩
    intro p8 np8
    have e := same_upd (o := .tup ([.int x0] ++ [.int n])) np8
    have op8 : OddV b (upd J8 p8 (.tup ([.int x0] ++ [.int n]))) ns (.ref p8) := .inr ⟨p8, _, rfl, (dw1.same S).bag.nb np8, rfl, by show 2 ≤ 20; decide, .inr ⟨upd_same, setD_out (d := .int n) (by simp [dOf]) (inD_out nout)⟩⟩
    replace op1 := op1.kp (Kp.same (b := b) e)
    replace op3 := op3.kp (Kp.same (b := b) e)
    replace op4 := op4.kp (Kp.same (b := b) e)
    replace op5 := op5.kp (Kp.same (b := b) e)
    replace op6 := op6.kp (Kp.same (b := b) e)
    replace op7 := op7.kp (Kp.same (b := b) e)
    replace hq8 := e _ _ hq8
    replace hr8 := e _ _ hr8
    replace S := S.trans e
    clear e np8
    generalize upd J8 p8 (.tup ([.int x0] ++ [.int n])) = J9 at *
    walk_at "nn2"
    refine ⟨so, _, rfl, SqL.of (S _ _ dw1.some_), ?_⟩
    intro q9 nq9
    have e := same_upd (o := .lst (ns.map V.int).reverse) nq9
    have hq9 := upd_same (H := J9) (a := q9) (o := .lst (ns.map V.int).reverse)
    replace op1 := op1.kp (Kp.same (b := b) e)
    replace op3 := op3.kp (Kp.same (b := b) e)
    replace op4 := op4.kp (Kp.same (b := b) e)
    replace op5 := op5.kp (Kp.same (b := b) e)
    replace op6 := op6.kp (Kp.same (b := b) e)
    replace op7 := op7.kp (Kp.same (b := b) e)
    replace hq8 := e _ _ hq8
    replace hr8 := e _ _ hr8
    replace op8 := op8.kp (Kp.same (b := b) e)
    replace S := S.trans e
    clear e nq9
    generalize upd J9 q9 (.lst (ns.map V.int).reverse) = J10 at *
    walk_at "nn2"
    refine ⟨q9, _, rfl, .inl ⟨SqL.of hq9, ?_⟩⟩
    intro r9 nr9
    have e := same_upd (o := .tup (ns.map V.int).reverse) nr9
    have hr9 := upd_same (H := J10) (a := r9) (o := .tup (ns.map V.int).reverse)
    replace op1 := op1.kp (Kp.same (b := b) e)
    replace op3 := op3.kp (Kp.same (b := b) e)
    replace op4 := op4.kp (Kp.same (b := b) e)
    replace op5 := op5.kp (Kp.same (b := b) e)
    replace op6 := op6.kp (Kp.same (b := b) e)
    replace op7 := op7.kp (Kp.same (b := b) e)
    replace hq8 := e _ _ hq8
    replace hr8 := e _ _ hr8
    replace op8 := op8.kp (Kp.same (b := b) e)
    replace hq9 := e _ _ hq9
    replace S := S.trans e
    clear e nr9
    generalize upd J10 r9 (.tup (ns.map V.int).reverse) = J11 at *
    walk_at "nn2"
    refine ⟨so, _, (-1), .int xl, rfl, rfl, SqL.of (S _ _ dw1.some_), atm, ?_⟩
    walk_at "nn2"
    intro t9 nt9
    have e := same_upd (o := .tup [.int xl]) nt9
    have ht9 := upd_same (H := J11) (a := t9) (o := .tup [.int xl])
    replace op1 := op1.kp (Kp.same (b := b) e)
    replace op3 := op3.kp (Kp.same (b := b) e)
    replace op4 := op4.kp (Kp.same (b := b) e)
    replace op5 := op5.kp (Kp.same (b := b) e)
    replace op6 := op6.kp (Kp.same (b := b) e)
    replace op7 := op7.kp (Kp.same (b := b) e)
    replace hq8 := e _ _ hq8
    replace hr8 := e _ _ hr8
    replace op8 := op8.kp (Kp.same (b := b) e)
    replace hq9 := e _ _ hq9
    replace hr9 := e _ _ hr9
    replace S := S.trans e
    clear e nt9
    generalize upd J11 t9 (.tup [.int xl]) = J12 at *
    walk_at "nn2"
    refine ⟨r9, t9, _, _, rfl, rfl, SqT.of hr9, SqT.of ht9, (by rw [hns]; simp), sz (by rw [List.length_reverse, List.length_map]; show ns.length + 1 ≤ 100000; omega), (fun z => by cases z), fun _ => ?_⟩
    intro p9 np9
    have e := same_upd (o := .tup ((ns.map V.int).reverse ++ [.int xl])) np9
    have op9 : OddV b (upd J12 p9 (.tup ((ns.map V.int).reverse ++ [.int xl]))) ns (.ref p9) := .inr ⟨p9, _, rfl, (dw1.same S).bag.nb np9, rev_scal ns xl, by rw [List.length_append, List.length_reverse, List.length_map]; show ns.length + 1 ≤ 20; omega, .inr ⟨upd_same, setD_rev hnl fx.1⟩⟩
    replace op1 := op1.kp (Kp.same (b := b) e)
    replace op3 := op3.kp (Kp.same (b := b) e)
    replace op4 := op4.kp (Kp.same (b := b) e)
    replace op5 := op5.kp (Kp.same (b := b) e)
    replace op6 := op6.kp (Kp.same (b := b) e)
    replace op7 := op7.kp (Kp.same (b := b) e)
    replace hq8 := e _ _ hq8
    replace hr8 := e _ _ hr8
    replace op8 := op8.kp (Kp.same (b := b) e)
    replace hq9 := e _ _ hq9
    replace hr9 := e _ _ hr9
    replace ht9 := e _ _ ht9
    replace S := S.trans e
    clear e np9
    generalize upd J12 p9 (.tup ((ns.map V.int).reverse ++ [.int xl])) = J13 at *
    walk_at "nn2"
    intro e10 ne10
    have e := same_upd (o := .lst []) ne10
    have he10 := upd_same (H := J13) (a := e10) (o := .lst [])
    replace op1 := op1.kp (Kp.same (b := b) e)
    replace op3 := op3.kp (Kp.same (b := b) e)
    replace op4 := op4.kp (Kp.same (b := b) e)
    replace op5 := op5.kp (Kp.same (b := b) e)
    replace op6 := op6.kp (Kp.same (b := b) e)
    replace op7 := op7.kp (Kp.same (b := b) e)
    replace hq8 := e _ _ hq8
    replace hr8 := e _ _ hr8
    replace op8 := op8.kp (Kp.same (b := b) e)
    replace hq9 := e _ _ hq9
    replace hr9 := e _ _ hr9
    replace ht9 := e _ _ ht9
    replace op9 := op9.kp (Kp.same (b := b) e)
    replace S := S.trans e
    clear e ne10
    generalize upd J13 e10 (.lst []) = J14 at *
    walk_at "nn2"
    refine ⟨_, _, .lst (SqL.of (S _ _ hy)) (dpa_ints os), .lst (SqL.of he10) .nil, shaped_intL os, shaped_intL [], ?_⟩
    rw [show PyData.eqv (.list (os.map PyData.int)) (.list []) = decide (os = []) from eqv_intL os []]
    refine ⟨_, rfl, ?_⟩
    refine if_join (fun u H' => OddV b H' ns u ∧ Same J14 H') (fun e Q hQ => ?_) (fun e Q hQ => ?_) ?_
    · have ne : os ≠ [] := fun z => by rw [z] at e; cases e
      obtain ⟨y0, r0, ho⟩ : ∃ y0 r0, os = y0 :: r0 := by
        cases os with
        | nil => exact absurd rfl ne
        | cons x r => exact ⟨x, r, rfl⟩
      walk_at "nn2"
      refine ⟨D0, _, 0, .int y0, rfl, rfl, SqL.of (S _ _ hy), by rw [ho]; exact atI_nat (j := 0) rfl, ?_⟩
      walk_at "nn2"
      intro p10 n10
      exact hQ _ _ ⟨.inr ⟨p10, _, rfl, (dw1.same S).bag.nb n10, rfl, by show 1 ≤ 20; decide, .inr ⟨upd_same, setD_out (d := .int y0) (by simp [dOf]) (inD_out (oso y0 (by rw [ho]; exact List.mem_cons_self ..)))⟩⟩, same_upd n10⟩
    · walk_at "nn2"
      intro p10 n10
      exact hQ _ _ ⟨.inr ⟨p10, _, rfl, (dw1.same S).bag.nb n10, rfl, by show 0 ≤ 20; decide, .inr ⟨upd_same, rfl⟩⟩, same_upd n10⟩
    rintro u10 K1 ⟨o10, e⟩
    replace op1 := op1.kp (Kp.same (b := b) e)
    replace op3 := op3.kp (Kp.same (b := b) e)
    replace op4 := op4.kp (Kp.same (b := b) e)
    replace op5 := op5.kp (Kp.same (b := b) e)
    replace op6 := op6.kp (Kp.same (b := b) e)
    replace op7 := op7.kp (Kp.same (b := b) e)
    replace op8 := op8.kp (Kp.same (b := b) e)
    replace op9 := op9.kp (Kp.same (b := b) e)
    replace S := S.trans e
    clear e hq8 hr8 hq9 hr9 ht9 he10
    walk_at "nn2"
    intro lD nlD
    have e := same_upd (o := .lst [.ref p1, .non, .ref p3, .ref p4, .ref p5, .ref p6, .ref p7, .int 3, .ref p8, .ref p9, u10]) nlD
    have hlD := upd_same (H := K1) (a := lD) (o := .lst [.ref p1, .non, .ref p3, .ref p4, .ref p5, .ref p6, .ref p7, .int 3, .ref p8, .ref p9, u10])
    replace op1 := op1.kp (Kp.same (b := b) e)
    replace op3 := op3.kp (Kp.same (b := b) e)
    replace op4 := op4.kp (Kp.same (b := b) e)
    replace op5 := op5.kp (Kp.same (b := b) e)
    replace op6 := op6.kp (Kp.same (b := b) e)
    replace op7 := op7.kp (Kp.same (b := b) e)
    replace op8 := op8.kp (Kp.same (b := b) e)
    replace op9 := op9.kp (Kp.same (b := b) e)
    replace o10 := o10.kp (Kp.same (b := b) e)
    have lDb := (dw1.same S).bag.nb nlD
    replace S := S.trans e
    clear e nlD
    generalize upd K1 lD (.lst [.ref p1, .non, .ref p3, .ref p4, .ref p5, .ref p6, .ref p7, .int 3, .ref p8, .ref p9, u10]) = K2 at *
    have dw2 := dw1.same S
    have hwd2 := hwd1.same S
    have oo : ∀ u ∈ ([.ref p1, .non, .ref p3, .ref p4, .ref p5, .ref p6, .ref p7, .int 3, .ref p8, .ref p9, u10] : List V), OddV b K2 ns u := fun u hu => by
      simp only [List.mem_cons, List.not_mem_nil, or_false] at hu
      rcases hu with rfl | rfl | rfl | rfl | rfl | rfl | rfl | rfl | rfl | rfl | rfl
      · exact op1
      · exact .inl rfl
      · exact op3
      · exact op4
      · exact op5
      · exact op6
      · exact op7
      · exact .inl rfl
      · exact op8
      · exact op9
      · exact o10
    clear op1 op3 op4 op5 op6 op7 op8 op9 o10 S
    walk_at "nn2"
    refine ⟨b, l, _, rfl, dw2.bag, .inl ⟨lD, _, rfl, lDb, .inl (SqL.of hlD), (by intro z; cases z), (by show 11 ≤ 100000; decide), fun u K3 hu B3 k3 => ?_⟩⟩
    have ou := (oo u hu).kp k3
    have dw3 := dw2.kp k3 B3
    have hwd3 := hwd2.kp k3 dw2.bag
    clear oo dw2 hwd2 hu
    walk_at "nn2"
    obtain ⟨c0, rc, hal⟩ : ∃ c0 rc, al.cps.toList = c0 :: rc := by
      have := dw3.mach.alpha.1
      cases h : al.cps.toList with
      | nil => rw [h] at this; simp at this
      | cons c r => exact ⟨c, r, rfl⟩
    have al4 : al.length ≤ 4 := by rw [len_tl]; exact dw3.mach.alpha.2.1
    refine ⟨al, 0, c0, rfl, rfl, sz (by omega), by rw [hal]; exact atI_nat (j := 0) rfl, ?_⟩
    walk_at "nn2"
    intro p2 np2
    have e := same_upd (o := .lst [.str ⟨#[c0]⟩]) np2
    have p2b := dw3.bag.nb np2
    have hp2 := upd_same (H := K3) (a := p2) (o := .lst [.str ⟨#[c0]⟩])
    have ou4 := ou.kp (Kp.same (b := b) e)
    have dw4 := dw3.same e
    have hwd4 := hwd3.same e
    clear ou dw3 hwd3 e np2
    generalize upd K3 p2 (.lst [.str ⟨#[c0]⟩]) = K4 at *
    walk_at "nn2"
    intro lS nlS
    have e := same_upd (o := .lst [.non, .str "?", .int 3, .ref p2]) nlS
    have lSb := dw4.bag.nb nlS
    have hlS := upd_same (H := K4) (a := lS) (o := .lst [.non, .str "?", .int 3, .ref p2])
    have ou5 := ou4.kp (Kp.same (b := b) e)
    have dw5 := dw4.same e
    have hwd5 := hwd4.same e
    have hp25 := e _ _ hp2
    clear ou4 dw4 hwd4 hp2 e nlS
    generalize upd K4 lS (.lst [.non, .str "?", .int 3, .ref p2]) = K5 at *
    walk_at "nn2"
    refine ⟨b, l, _, rfl, dw5.bag, .inl ⟨lS, _, rfl, lSb, .inl (SqL.of hlS), (by intro z; cases z), (by show 4 ≤ 100000; decide), fun v K6 hv B6 k6 => ?_⟩⟩
    have sv : Strg al.cps.toList v ∧ Own b K5 v := by
      simp only [List.mem_cons, List.not_mem_nil, or_false] at hv
      rcases hv with rfl | rfl | rfl | rfl
      · exact ⟨.inr (.inl rfl), .inl rfl⟩
      · refine ⟨.inl ⟨_, rfl, by decide +kernel, fun h => ?_⟩, .inl rfl⟩
        have h63 := h 63 (by decide +kernel)
        have := dw5.mach.alpha.2.2.1 63 h63
        omega
      · exact ⟨.inr (.inr (.inl ⟨_, rfl⟩)), .inl rfl⟩
      · exact ⟨.inr (.inr (.inr ⟨_, rfl⟩)), .inr ⟨p2, _, rfl, p2b, rfl, by show 1 ≤ 1; decide, .inl hp25⟩⟩
    walk_at "nn2"
    exact go K6 u v _ (dw5.kp k6 B6) (ou5.kp k6) sv.1 (sv.2.kp k6) (hwd5.kp k6 dw5.bag)
end

variable {K : PySem.W.Frag} {mg : Str → Option Value}

section
variable {P : Program} {w : World} {base : Heap}
theorem law_asks1 {cL PL : Addr} (T : Env K mg) (TB : LamX.TabB base mg cL PL) (A : Around) (outer : List PySem.Env) (s : Shared) (H : Hp) (E : XK) (hr : Room 15 (A.deeper (envOfC "law" (defScope s_law) s.heap.objs.size T.f_law (.ref cL))))
    (nd : CellsNd (cxOf CX0 P w K mg base N_law "law" (defScope s_law) T.f_law (.ref cL) A outer s H E).nox.env) (hfn : (cxOf CX0 P w K mg base N_law "law" (defScope s_law) T.f_law (.ref cL) A outer s H E).nox.Ok → ∀ y c, (cxOf CX0 P w K mg base N_law "law" (defScope s_law) T.f_law (.ref cL) A outer s H E).nox.env.cells.lookup y = some c → (cxOf CX0 P w K mg base N_law "law" (defScope s_law) T.f_law (.ref cL) A outer s H E).nox.s_0.heap.objs.size ≤ c) {tD : TS}
    (hD : PSs (cxOf CX0 P w K mg base N_law "law" (defScope s_law) T.f_law (.ref cL) A outer s H E).nox (bodyTail 14) tD) :
    ∃ t, PSs (cxOf CX0 P w K mg base N_law "law" (defScope s_law) T.f_law (.ref cL) A outer s H E).nox (bodyTail 11) t ∧ ∀ (D : Ends) (G : Hp) (a b l : Addr) (al : Str) (p m so ts du : Addr) (gs : List (List Int)) (s0 n : Int) (ns ss Am : List Int) (z : Str) (y2 y11 y13 y14 y15 y16 y17 y18 y19 : Option V),
      (∀ (G' : Hp) (wd : Addr) (y12 y13 y18 y19 : Option V), Drw K T.C_Machine PL b l G' al p m so ts gs s0 ns ss → WideAt G' wd →
        tD D [some (.ref a), some (.ref b), y2, some (.str al), some (.int n), some (.ref p), some (.int s0), some (.ref m), some (.ref so), some (.ref ts), some (.str z), y11, y12, y13, some (.ref wd), y15, y16, y17, y18, y19] G') →
      Drw K T.C_Machine PL b l G al p m so ts gs s0 ns ss → z.length ≤ 100000 → (∀ c ∈ z.cps.toList, c ∈ al.cps.toList) → DueAt G du ss (ss.map fun i => goAll gs al.cps.toList i z.cps.toList) Am → Am.Pairwise (· < ·) → (∀ k, k ∈ Am ↔ k ∈ ss.map fun i => goAll gs al.cps.toList i z.cps.toList) → Am.length ≤ 1000 →
      t D [some (.ref a), some (.ref b), y2, some (.str al), some (.int n), some (.ref p), some (.int s0), some (.ref m), some (.ref so), some (.ref ts), some (.str z), y11, some (.ref du), y13, y14, y15, y16, y17, y18, y19] G := by
  refine ⟨_, ((pss_cons (ps_set (i := 13) sc_law.nd rfl (.inl rfl) (pe_lst (pa_cons (pe_lm (T := [(PL, qLam)]) TB rfl (List.mem_singleton.mpr rfl) (fun _ h _ => congrArg Prod.snd (List.mem_singleton.mp h)) (free_by (sc := defScope s_law) (by decide +kernel)) rfl) (pa_cons (pe_lm1 (T := [(PL, qLam)]) (i := 0) TB rfl (List.mem_singleton.mpr rfl) (fun _ h _ => congrArg Prod.snd (List.mem_singleton.mp h)) (free_by (sc := defScope s_law) (by decide +kernel)) rfl rfl) pa_nil))))
      (pss_cons (ps_set (i := 14) sc_law.nd rfl (.inr rfl) (pe_tup (pa_cons pe_str (pa_cons (pe_tup (pa_cons pe_str (pa_cons pe_int pa_nil))) pa_nil))))
      (pss_cons (ps_if (pt_not (pt_val (pe_call (ok_same T 5) (hr.mono (by decide)) (by rfl) T.g_same T.F_same.kp T.b_same .nil pass0 (pa_cons (pe_callX (k := 11) (hr.mono (by decide)) (by rfl) T.g_all_got T.F_all_got.kp T.b_all_got pass0 nd hfn (pa_cons (pv 13) pa_nil)) (pa_cons (pe_lc (own := [("_law_one", 19)]) (g := (gName 19)) (tt := tYes) (te := (tIf (tTest (tOp _ (tCB (fun xs H Q => ∃ p ys, xs = [V.ref p] ∧ (SqL K H p ys ∨ SqT K H p ys) ∧ Q (V.int (List.length ys)) H) _) _)) _ _)) rfl sc_law.nd (pi_list (pv 12)) (blkOk_by (own := [("_law_one", 19)]) (N := N_law) (sc := defScope s_law) (by decide +kernel)) (fun _ _ _ _ _ => (pg_name (i := 19) sc_law.nd rfl (.inl rfl))) (fun _ _ _ _ _ => pts_nil) (fun _ _ _ _ _ => (pe_ifExp (pt_cmpR op_lt (pe_callB call_len_seq (by rfl) T.z_len (by decide +kernel) (pa_cons (pv 8) pa_nil)) pe_int (nomark _)) (pe_tup (pa_cons pe_str (pa_cons (pv 19) pa_nil))) (pv 14)))) pa_nil)))))
      (pss_one (ps_ret pe_bl))
      pss_nil)
      hD)))), ?_⟩
  rintro ⟨dn, dr, db, dc⟩ G a b l al p m so ts du gs s0 n ns ss Am z y2 y11 y13 y14 y15 y16 y17 y18 y19 go dw zl zin hdu hA hAm Al
  have t1 := dw.tab
  have fx := dw.facts
  have gl8 := dw.few
  walk_at "nn2"
  intro f1 c1 G1 x1 _ tb1 _ lf1 lc1
  walk_at "nn2"
  intro f2 c2 T2 G2 x2 _ tb2 _ dt2 lf2 lc2
  have x12 := x1.trans x2
  have dw2 := dw.ext x12 tb2
  have hdu2 := hdu.ext x12
  have lf1' := x2 _ _ lf1 (by intro ps z; cases z)
  have lc1' := x2 _ _ lc1 LamX.codeO_ne
  clear dw hdu tb1 x1 x2 x12 lf1 lc1 t1
  walk_at "nn2"
  intro lb hlb
  have S0 := same_upd (o := .lst [.ref f1, .ref f2]) hlb
  have hlb4 := upd_same (H := G2) (a := lb) (o := .lst [.ref f1, .ref f2])
  show gName 13 _ _ (upd G2 lb (.lst [.ref f1, .ref f2])) _
  generalize upd G2 lb (.lst [.ref f1, .ref f2]) = G3 at *
  walk_at "nn2"
  intro q0 nq0
  have v0 := same_upd (o := .tup [.str "states", .int 6]) nq0
  walk_at "nn2"
  intro wd nwd
  have w0 := same_upd (o := .tup [.str "TooMany", .ref q0]) nwd
  have hwd4 : WideAt (upd (upd G3 q0 (.tup [.str "states", .int 6])) wd (.tup [.str "TooMany", .ref q0])) wd := ⟨q0, upd_same, w0 _ _ upd_same⟩
  have S4 := S0.trans (v0.trans w0)
  have dw4 := dw2.same S4
  have hdu4 := hdu2.same S4
  have hlb5 := (v0.trans w0) _ _ hlb4
  have lf1b := S4 _ _ lf1'
  have lc1b := S4 _ _ lc1'
  have lf2b := S4 _ _ lf2
  have lc2b := S4 _ _ lc2
  have dt2b := S4 _ _ dt2
  clear dw2 hdu2 hlb4 lf1' lc1' lf2 lc2 dt2 tb2 S0 v0 w0 S4 nq0 nwd hlb
  show gName 14 _ _ (upd (upd G3 q0 (.tup [.str "states", .int 6])) wd (.tup [.str "TooMany", .ref q0])) _
  generalize upd (upd G3 q0 (.tup [.str "states", .int 6])) wd (.tup [.str "TooMany", .ref q0]) = G4 at *
  walk_at "nn2"
  obtain ⟨led, hled⟩ : ∃ led, led = ss.map fun i => goAll gs al.cps.toList i z.cps.toList := ⟨_, rfl⟩
  rw [← hled] at hdu4 hAm
  have lel : led.length = ss.length := by rw [hled, List.length_map]
  obtain ⟨d1, d2, hk⟩ : ∃ d1 d2 : Due, (ns.length ≤ 6 ∧ d1 = .val (fun v H' => ∃ p, v = .ref p ∧ H' p = some (.tup (Am.map V.int))) ∧ d2 = .val (fun v H' => (Am = ss ∧ ∃ p, v = .ref p ∧ H' p = some (.tup (led.map V.int))) ∨ (Am ≠ ss ∧ v = .non))) ∨
      (6 < ns.length ∧ d1 = .err "TooMany" [.str "states", .int 6] ∧ d2 = .err "TooMany" [.str "states", .int 6]) := by
    by_cases h6 : ns.length ≤ 6
    · exact ⟨_, _, .inl ⟨h6, rfl, rfl⟩⟩
    · exact ⟨_, _, .inr ⟨by omega, rfl, rfl⟩⟩
  have many : ∀ (H1 : Hp) (E2 : XK), (∀ cls d H2, PySem.W.exmAny K cls [.ref T.C_AheadError, .ref T.C_Missing, .ref T.C_NothingLeft] = some true → ErrL K cls d H2 "TooMany" [.str "states", .int 6] → Same H1 H2 → E2 cls d H2) → ∀ (d : Addr) (H' : Hp), Same H1 H' → H' d = some (.xd [("code", .str "TooMany"), ("most", .int 6), ("subject", .str "states")]) → E2 (.ref T.C_TooMany) (some d) H' := fun H1 E2 hE d H6 s6 e6 =>
    hE _ _ _ T.e_TooMany (.inr (.inl ⟨_, _, rfl, rfl, T.C_TooMany, d, rfl, T.y_TooMany, T.n_TooMany_code, T.n_TooMany_subject, T.n_TooMany_most, rfl, e6⟩)) s6
  have endsP : ∀ {H5 : Hp}, Same G4 H5 → ∀ {E2 : XK} {good : Addr → List Int → List Int → Prop}, ((6 < ns.length ∧ ∀ d H', Same H5 H' → H' d = some (.xd [("code", .str "TooMany"), ("most", .int 6), ("subject", .str "states")]) → E2 (.ref T.C_TooMany) (some d) H') ∨ (ns.length ≤ 6 ∧ good ts ss led)) → EndsP K T H5 E2 m (.ref ts) (.str z) good := fun {H5} s5 {E2 good} h => by
    have d5 := dw4.same s5
    refine ⟨al, gs, s0, ns, _, d5.mach, d5.reach, by omega, .tup (SqT.of d5.set_) (dpa_ints ss), fun ds z => by cases z; rw [List.length_map]; have := d5.len; omega, ?_⟩
    rcases h with h | ⟨h6, h⟩
    · exact .inl h
    · exact .inr (.inr ⟨h6, setD_ints d5.ne d5.asc fun x hx => ⟨(fx.2.1 x (d5.sub x hx)).1, d5.sub x hx⟩, ts, ss, rfl, SqT.of d5.set_, fun x hx => fx.2.1 x (d5.sub x hx), d5.ne, by have := d5.len; omega, .inl ⟨z, rfl, zl, zin, by rw [← hled]; exact h⟩⟩)
  refine allgotl_x (X := (cxOf CX0 P w K mg base N_law "law" (defScope s_law) T.f_law (.ref cL) A outer s H E).nox) T 8 fun bs g => ?_
  refine ⟨lb, [f1, f2], [d1, d2], rfl, SqL.of hlb5, (by show 2 ≤ 100; decide), rfl, fun d hd => ?_, fun i f hf => ?_, fun pr ys G6 e1 e2 e3 s1 => ?_⟩
  · simp only [List.mem_cons, List.not_mem_nil, or_false] at hd
    rcases hk with ⟨-, rfl, rfl⟩ | ⟨-, rfl, rfl⟩
    · rcases hd with rfl | rfl
      · exact fun v H1 H2 tk ⟨p, e, h⟩ => ⟨p, e, tk _ _ h⟩
      · exact fun v H1 H2 tk h => h.imp (fun ⟨a, p, e, h⟩ => ⟨a, p, e, tk _ _ h⟩) id
    · rcases hd with rfl | rfl <;> trivial
  · match i, hf with
    | 0, hf =>
      cases hf
      refine ⟨_, rfl, ?_⟩
      rcases hk with ⟨h6, rfl, -⟩ | ⟨h6, rfl, -⟩
      · refine ask_val0 (P := P) (w := w) (N := ["_law_made", "_law_some_set", "_law_text_here"]) (fr := ["_law_made", "_law_some_set", "_law_text_here"]) lf1b lc1b rfl (NdefX.nscope_by (by kernel_rfl)) (fun _ _ _ => rfl) (g.cells _ _ [7, 9, 10] (NdefX.Caps.made g.ok (free_by (sc := defScope s_law) (by decide +kernel)) (by decide +kernel) rfl)) (fun A outer s H E hr => (pe_call (ok_image T) (hr.mono (by decide)) (by rfl) T.g_image T.F_image.kp T.b_image .nil (passE (takes_of rfl rfl rfl rfl)) (pa_cons (pv 0) (pa_cons (pv 1) (pa_cons (pv 2) pa_nil))))) fun H5 s5 Q2 E2 hE => ?_
        walk_at "nn2"
        refine ⟨m, .ref ts, .str z, rfl, endsP s5 (.inr ⟨h6, fun ks p H6 pw mm s6 e6 => hE _ _ ⟨p, rfl, ?_⟩ s6⟩)⟩
        rw [asc_one hA pw fun k => (hAm k).trans (mm k).symm]
        exact e6
      · refine ask_err0 (P := P) (w := w) (N := ["_law_made", "_law_some_set", "_law_text_here"]) (fr := ["_law_made", "_law_some_set", "_law_text_here"]) lf1b lc1b rfl (NdefX.nscope_by (by kernel_rfl)) (fun _ _ _ => rfl) (g.cells _ _ [7, 9, 10] (NdefX.Caps.made g.ok (free_by (sc := defScope s_law) (by decide +kernel)) (by decide +kernel) rfl)) (fun A outer s H E hr => (pe_call (ok_image T) (hr.mono (by decide)) (by rfl) T.g_image T.F_image.kp T.b_image .nil (passE (takes_of rfl rfl rfl rfl)) (pa_cons (pv 0) (pa_cons (pv 1) (pa_cons (pv 2) pa_nil))))) fun H5 s5 Q2 E2 hE => ?_
        walk_at "nn2"
        exact ⟨m, .ref ts, .str z, rfl, endsP s5 (.inl ⟨h6, many _ _ hE⟩)⟩
    | 1, hf =>
      cases hf
      refine ⟨_, rfl, ?_⟩
      rcases hk with ⟨h6, -, rfl⟩ | ⟨h6, -, rfl⟩
      · refine ask_val1 (P := P) (w := w) (N := ["_law_a", "_law_made", "_law_some_set", "_law_text_here"]) (fr := ["_law_made", "_law_some_set", "_law_text_here"]) lf2b lc2b (.inr ⟨T2, 0, rfl, rfl, dt2b⟩) (NdefX.nscope_by (by kernel_rfl)) (fun Tt doc pm ctv its e h => by
          have e : Value.ref T2 = Value.ref Tt := e
          cases e
          match its, h with
          | [_], _ => exact ⟨_, rfl, rfl⟩) (g.cells _ _ [7, 9, 10] (NdefX.Caps.made g.ok (free_by (sc := defScope s_law) (by decide +kernel)) (by decide +kernel) rfl)) (fun A outer s H E hr => (pe_call (ok_turn T) (hr.mono (by decide)) (by rfl) T.g_turn T.F_turn.kp T.b_turn .nil (passE (takes_of rfl rfl rfl rfl)) (pa_cons (pv 1) (pa_cons (pv 2) (pa_cons (pv 3) pa_nil))))) fun H5 s5 Q2 E2 hE => ?_
        walk_at "nn2"
        refine ⟨m, .ref ts, .str z, rfl, endsP s5 (.inr ⟨h6, fun rs H6 pm pw s6 => ?_⟩)⟩
        have iff := turn_iff dw4.asc lel pm pw hA hAm
        exact ⟨fun e p hp => hE _ _ (.inl ⟨iff.mp e, p, rfl, hp⟩) s6, fun e => hE _ _ (.inr ⟨fun z => e (iff.mpr z), rfl⟩) s6⟩
      · refine ask_err1 (P := P) (w := w) (N := ["_law_a", "_law_made", "_law_some_set", "_law_text_here"]) (fr := ["_law_made", "_law_some_set", "_law_text_here"]) lf2b lc2b (.inr ⟨T2, 0, rfl, rfl, dt2b⟩) (NdefX.nscope_by (by kernel_rfl)) (fun Tt doc pm ctv its e h => by
          have e : Value.ref T2 = Value.ref Tt := e
          cases e
          match its, h with
          | [_], _ => exact ⟨_, rfl, rfl⟩) (g.cells _ _ [7, 9, 10] (NdefX.Caps.made g.ok (free_by (sc := defScope s_law) (by decide +kernel)) (by decide +kernel) rfl)) (fun A outer s H E hr => (pe_call (ok_turn T) (hr.mono (by decide)) (by rfl) T.g_turn T.F_turn.kp T.b_turn .nil (passE (takes_of rfl rfl rfl rfl)) (pa_cons (pv 1) (pa_cons (pv 2) (pa_cons (pv 3) pa_nil))))) fun H5 s5 Q2 E2 hE => ?_
        walk_at "nn2"
        exact ⟨m, .ref ts, .str z, rfl, endsP s5 (.inl ⟨h6, many _ _ hE⟩)⟩
    | i + 2, hf => simp at hf
  · walk_at "nn2"
    have dw6 := dw4.same s1
    obtain ⟨tA, v1, u1, u2, u3⟩ := hdu4.same s1
    refine ⟨⟨_, SqL.of u1⟩, ?_⟩
    intro D2 nD2
    refine lc_genH walk_list (fun H' => Same G6 H') (fun i y H' => ∃ x, ([V.ref tA, v1] : List V)[i]? = some x ∧ ((ns.length ≤ 6 ∧ ∃ p, y = .ref p ∧ H' p = some (.tup [.str "", x])) ∨ (6 < ns.length ∧ y = .ref wd))) (by show 2 ≤ 100000; decide) (same_upd nD2) (fun _ h => h.seq (SqL.of u1)) (fun _ _ h => same_mut h nD2)
      (fun i y H1 H2 tk ⟨x, e, h⟩ => ⟨x, e, h.imp (fun ⟨a, p, b, c⟩ => ⟨a, p, b, tk _ _ c⟩) id⟩) ?_ ?_
    · rintro i x H1 H2 Q1 hlt hI ⟨rfl, hx⟩ - hQ
      walk_at "nn2"
      refine ⟨so, _, rfl, .inl (SqL.of (hI _ _ dw6.some_)), ?_⟩
      rw [List.length_map]
      walk_at "nn2"
      refine ite2 (fun e => ?_) (fun e => ?_)
      · have e : ns.length ≤ 6 := by
          have := of_decide_eq_true e
          omega
        walk_at "nn2"
        intro p np
        have sp := same_upd (o := .tup [.str "", x]) np
        exact hQ _ _ ⟨x, hx, .inl ⟨e, p, rfl, upd_same⟩⟩ (hI.trans sp) (TupKeep.of sp) fun o ho => sp _ _ ho
      · have e : 6 < ns.length := by
          have : ¬ ((ns.length : Int) < 7) := fun h => e (decide_eq_true h)
          omega
        walk_at "nn2"
        exact hQ _ _ ⟨x, hx, .inr ⟨e, rfl⟩⟩ hI (fun _ _ h => h) fun _ h => h
    · intro H7 ys2 hI hy2 hl2 hr2
      have dw7 := dw6.same hI
      match ys, e2, ys2, hl2 with
      | [y0, y1], _, [w0, w1], _ =>
      obtain ⟨_, g0, g0'⟩ := e3 0 y0 rfl
      cases g0
      obtain ⟨_, g1, g1'⟩ := e3 1 y1 rfl
      cases g1
      obtain ⟨_, b0, b0'⟩ := hr2 0 w0 rfl
      cases b0
      obtain ⟨_, b1, b1'⟩ := hr2 1 w1 rfl
      cases b1
      walk_at "nn2"
      refine ⟨.ref pr, .ref D2, rfl, sm_list (SqL.of (hI _ _ e1)) (SqL.of hy2) rfl (by show 2 ≤ 1000; decide) fun p hp => ?_, fun H8 s8 => ?_⟩
      · simp only [List.zip_cons_cons, List.zip_nil_right, List.mem_cons, List.not_mem_nil, or_false] at hp
        have sc : ∀ x ∈ ([.str "states", .int 6] : List V), scalV x = true := fun x hx => by
          simp only [List.mem_cons, List.not_mem_nil, or_false] at hx
          rcases hx with rfl | rfl <;> rfl
        have si : ∀ l : List Int, ∀ x ∈ l.map V.int, scalV x = true := fun l x hx => by
          obtain ⟨i, _, rfl⟩ := List.mem_map.mp hx
          rfl
        obtain ⟨qw, k1, k2⟩ := (hwd4.same s1).same hI
        rcases hk with ⟨h6, rfl, rfl⟩ | ⟨h6, rfl, rfl⟩
        · rcases b0' with ⟨-, p0, rfl, b0⟩ | ⟨h7, -⟩
          rotate_left
          · omega
          rcases b1' with ⟨-, p1, rfl, b1⟩ | ⟨h7, -⟩
          rotate_left
          · omega
          rcases hp with rfl | rfl
          · obtain ⟨q, v, rfl, a1, r, rfl, a2⟩ := g0'
            exact sm_tup2 (SqT.of (hI _ _ a1)) (SqT.of b0) (.inl ⟨rfl, rfl⟩) (sm_scals (SqT.of (hI _ _ a2)) (SqT.of (hI _ _ u2)) (si _) (by rw [List.length_map]; exact Al))
          · obtain ⟨q, v, rfl, a1, a2⟩ := g1'
            rcases a2 with ⟨e, r, rfl, a3⟩ | ⟨e, rfl⟩
            · rcases u3 with ⟨-, tl, rfl, a4⟩ | ⟨ne, -⟩
              · exact sm_tup2 (SqT.of (hI _ _ a1)) (SqT.of b1) (.inl ⟨rfl, rfl⟩) (sm_scals (SqT.of (hI _ _ a3)) (SqT.of (hI _ _ a4)) (si _) (by rw [List.length_map, lel]; have := dw6.len; omega))
              · exact absurd e ne
            · rcases u3 with ⟨e2, -⟩ | ⟨-, rfl⟩
              · exact absurd e2 e
              · exact sm_tup2 (SqT.of (hI _ _ a1)) (SqT.of b1) (.inl ⟨rfl, rfl⟩) (.inl ⟨rfl, rfl⟩)
        · rcases b0' with ⟨h7, -⟩ | ⟨-, rfl⟩
          · omega
          rcases b1' with ⟨h7, -⟩ | ⟨-, rfl⟩
          · omega
          rcases hp with rfl | rfl
          · exact gotl_err g0' hI k1 k2 sc (by show 2 ≤ 1000; decide)
          · exact gotl_err g1' hI k1 k2 sc (by show 2 ≤ 1000; decide)
      walk_at "nn2"
      exact go _ wd _ _ _ _ (dw7.same s8) (((hwd4.same s1).same hI).same s8)
end

variable {K : PySem.W.Frag} {mg : Str → Option Value}

theorem pairs_idx {K : PySem.W.Frag} {H : Hp} : ∀ (ys : List V) (led : List Int), ys.length = led.length → (∀ (i : Nat) (y : V), ys[i]? = some y → ∃ j q, led[i]? = some j ∧ y = .ref q ∧ H q = some (.tup [.int j, .int 0])) →
    ∃ qs : List Addr, ys = qs.map V.ref ∧ Paired (fun p (kv : Key × V) => SqT K H p [kV kv.1, kv.2]) qs (led.map fun j => ((Sum.inl j : Key), V.int 0))
  | [], [], _, _ => ⟨[], rfl, .nil⟩
  | [], _ :: _, h, _ => by simp at h
  | _ :: _, [], h, _ => by simp at h
  | y :: ys, j :: led, hl, h => by
    obtain ⟨qs, e1, e2⟩ := pairs_idx (K := K) (H := H) ys led (by simpa using hl) fun i z hz => h (i + 1) z hz
    obtain ⟨j2, q, a, rfl, c⟩ := h 0 y rfl
    cases a
    exact ⟨q :: qs, by rw [e1]; rfl, .cons (SqT.of c) e2⟩
section
variable {P : Program} {w : World} {base : Heap}
theorem law_due {cL PL : Addr} (T : Env K mg) (A : Around) (outer : List PySem.Env) (s : Shared) (H : Hp) (E : XK) (hr : Room 15 (A.deeper (envOfC "law" (defScope s_law) s.heap.objs.size T.f_law (.ref cL)))) {tQ : TS}
    (hC : PSs (cxOf CX0 P w K mg base N_law "law" (defScope s_law) T.f_law (.ref cL) A outer s H E).nox (bodyTail 11) tQ) :
    ∃ t, PSs (cxOf CX0 P w K mg base N_law "law" (defScope s_law) T.f_law (.ref cL) A outer s H E).nox (bodyTail 7) t ∧ ∀ (D : Ends) (G : Hp) (a b l : Addr) (al : Str) (p m so ts : Addr) (gs : List (List Int)) (s0 n : Int) (ns ss : List Int) (y2 y10 y11 y12 y13 y14 y15 y16 y17 y18 y19 : Option V),
      (∀ (G' : Hp) (du : Addr) (z : Str) (Am : List Int) (y11 y18 y19 : Option V), Drw K T.C_Machine PL b l G' al p m so ts gs s0 ns ss → z.length ≤ 100000 → (∀ c ∈ z.cps.toList, c ∈ al.cps.toList) → DueAt G' du ss (ss.map fun i => goAll gs al.cps.toList i z.cps.toList) Am → Am.Pairwise (· < ·) → (∀ k, k ∈ Am ↔ k ∈ ss.map fun i => goAll gs al.cps.toList i z.cps.toList) → Am.length ≤ 1000 →
        tQ D [some (.ref a), some (.ref b), y2, some (.str al), some (.int n), some (.ref p), some (.int s0), some (.ref m), some (.ref so), some (.ref ts), some (.str z), y11, some (.ref du), y13, y14, y15, y16, y17, y18, y19] G') →
      Drw K T.C_Machine PL b l G al p m so ts gs s0 ns ss →
      t D [some (.ref a), some (.ref b), y2, some (.str al), some (.int n), some (.ref p), some (.int s0), some (.ref m), some (.ref so), some (.ref ts), y10, y11, y12, y13, y14, y15, y16, y17, y18, y19] G := by
  refine ⟨_, ((pss_cons (ps_set (i := 10) sc_law.nd rfl (.inr rfl) (pe_call (ok_text T) (hr.mono (by decide)) (by rfl) T.g_text T.F_text.kp T.b_text .nil pass0 (pa_cons (pv 1) (pa_cons (pv 3) (pa_cons (pe_call (ok_of T) (hr.mono (by decide)) (by rfl) T.g_of T.F_of.kp T.b_of .nil pass0 (pa_cons (pv 1) (pa_cons (pe_lst (pa_cons pe_int (pa_cons pe_int (pa_cons pe_int (pa_cons pe_int (pa_cons (pe_call (ok_pull T) (hr.mono (by decide)) (by rfl) T.g_pull T.F_pull.kp T.b_pull .nil pass0 (pa_cons (pv 1) (pa_cons pe_int pa_nil))) pa_nil)))))) pa_nil))) pa_nil)))))
      (pss_cons (ps_setLc (i := 11) (own := [("_law_at", 18)]) (g := (gName 18)) (tt := tYes) rfl sc_law.nd rfl rfl (sw_true rfl rfl rfl (by decide +kernel)) (pi_tup (pv 9)) (blkOk_by (own := [("_law_at", 18)]) (N := N_law) (sc := defScope s_law) (by decide +kernel)) (fun _ _ _ _ _ => (pg_name (i := 18) sc_law.nd rfl (.inl rfl))) (fun _ _ _ _ _ => pts_nil) (fun _ _ _ _ _ => (pe_call (ok_go T) (hr.mono (by decide)) (by rfl) T.g_go T.F_go.kp T.b_go .nil pass0 (pa_cons (pv 5) (pa_cons (pv 3) (pa_cons (pv 18) (pa_cons (pv 10) pa_nil)))))))
      (pss_cons (ps_set (i := 12) sc_law.nd rfl (.inl rfl) (pe_lst (pa_cons (pe_callTy call_tuple_of (by rfl) T.z_tuple (by decide +kernel) (pa_cons (pe_callB cr_sortedI (by rfl) T.z_sorted (by decide +kernel) (pa_cons (pe_callTy (call_list_dK rfl) (by rfl) T.z_list (by decide +kernel) (pa_cons (pe_callTy (call_dictP rfl) (by rfl) T.z_dict (by decide +kernel) (pa_cons (pe_lc (own := [("_law_at", 18)]) (g := (gName 18)) (tt := tYes) rfl sc_law.nd (pi_list (pv 11)) (blkOk_by (own := [("_law_at", 18)]) (N := N_law) (sc := defScope s_law) (by decide +kernel)) (fun _ _ _ _ _ => (pg_name (i := 18) sc_law.nd rfl (.inl rfl))) (fun _ _ _ _ _ => pts_nil) (fun _ _ _ _ _ => (pe_tup (pa_cons (pv 18) (pa_cons pe_int pa_nil))))) pa_nil)) pa_nil)) pa_nil)) pa_nil)) (pa_cons pe_non pa_nil))))
      (pss_cons (ps_if (pt_cmpR (op_eqD hr.units) (pe_ix ix_list (pv 12) pe_int (fun _ _ => rfl)) (pv 9) (nomark _))
      (pss_one (ps_asg (pe_callTy call_tuple_of (by rfl) T.z_tuple (by decide +kernel) (pa_cons (pv 11) pa_nil)) (pg_sub (pv 12) pe_int set_list)))
      pss_nil)
      hC))))), ?_⟩
  rintro ⟨dn, dr, db, dc⟩ G a b l al p m so ts gs s0 n ns ss y2 y10 y11 y12 y13 y14 y15 y16 y17 y18 y19 go dw
  have fx := dw.facts
  have gl8 := dw.few
  have al4 : al.length ≤ 4 := by rw [len_tl]; exact dw.mach.alpha.2.1
  have al1 : 1 ≤ al.length := by rw [len_tl]; exact dw.mach.alpha.1
  walk_at "nn2"
  refine ⟨b, l, _, rfl, dw.bag, by decide, by decide, fun kz H1 k0 k1 B1 kp1 => ?_⟩
  have dw1 := dw.kp kp1 B1
  clear dw kp1 B1
  walk_at "nn2"
  intro lN nlN
  have e := same_upd (o := .lst [.int 0, .int 1, .int 2, .int 3, .int kz]) nlN
  have lNb := dw1.bag.nb nlN
  have hlN := upd_same (H := H1) (a := lN) (o := .lst [.int 0, .int 1, .int 2, .int 3, .int kz])
  have dw2 := dw1.same e
  clear dw1 e nlN
  generalize upd H1 lN (.lst [.int 0, .int 1, .int 2, .int 3, .int kz]) = H2 at *
  refine ⟨b, l, _, rfl, dw2.bag, .inl ⟨lN, _, rfl, lNb, .inl (SqL.of hlN), (by intro z; cases z), (by show 5 ≤ 100000; decide), fun jv H3 hj B3 k3 => ?_⟩⟩
  have dw3 := dw2.kp k3 B3
  clear dw2 k3 B3 hlN
  obtain ⟨jz, rfl, j0, j1⟩ : ∃ jz : Int, jv = .int jz ∧ 0 ≤ jz ∧ jz ≤ 20 := by
    simp only [List.mem_cons, List.not_mem_nil, or_false] at hj
    rcases hj with rfl | rfl | rfl | rfl | rfl
    · exact ⟨_, rfl, by decide, by decide⟩
    · exact ⟨_, rfl, by decide, by decide⟩
    · exact ⟨_, rfl, by decide, by decide⟩
    · exact ⟨_, rfl, by decide, by decide⟩
    · exact ⟨_, rfl, by omega, by omega⟩
  walk_at "nn2"
  refine ⟨b, l, al, jz, rfl, dw3.bag, by omega, by omega, j0, by omega, fun cs H4 hl4 hc4 B4 k4 => ?_⟩
  have dw4 := dw3.kp k4 B4
  clear dw3 k4 B4
  obtain ⟨z, hz⟩ : ∃ z : Str, z = ⟨cs.toArray⟩ := ⟨_, rfl⟩
  have zc : z.cps.toList = cs := by rw [hz]
  have zl : z.length ≤ 100000 := by rw [len_tl, zc]; omega
  have zin : ∀ c ∈ z.cps.toList, c ∈ al.cps.toList := by rw [zc]; exact hc4
  rw [← hz]
  clear hz
  obtain ⟨led, hled⟩ : ∃ led, led = ss.map fun i => goAll gs al.cps.toList i z.cps.toList := ⟨_, rfl⟩
  have lel : led.length = ss.length := by rw [hled, List.length_map]
  walk_at "nn2"
  refine ⟨⟨_, SqT.of dw4.set_⟩, ?_⟩
  intro D1 nD1
  refine lc_gen walk_tup (fun H' => Same H4 H') (fun i y => ∃ j, ss[i]? = some j ∧ y = V.int (goAll gs al.cps.toList j z.cps.toList)) (by rw [List.length_map]; have := dw4.len; omega) (same_upd nD1) (fun _ h => same_tup h (SqT.of dw4.set_)) (fun _ _ h => same_mut h nD1) ?_ ?_
  · rintro i x H5 H6 Q1 hlt hI ⟨rfl, hx⟩ - hQ
    rw [List.getElem?_map] at hx
    cases ej : ss[i]? with
    | none => rw [ej] at hx; cases hx
    | some j =>
    rw [ej] at hx
    cases hx
    have jb := fx.2.1 j (dw4.sub j (List.mem_of_getElem? ej))
    walk_at "nn2"
    exact ⟨p, al, z, j, gs, rfl, dw4.goals.same hI, by omega, al4, dw4.mach.goals, dw4.mach.alpha.nodup, jb.1, jb.2, zl, zin, hQ _ _ ⟨j, ej, rfl⟩ hI fun _ h => h⟩
  · intro H5 ys hI hy hl hr2
    have eys : ys = led.map V.int := by
      rw [hled, List.map_map]
      exact ys_map (by rw [hl, List.length_map]) hr2
    subst eys
    have dw5 := dw4.same hI
    clear dw4 hI hl hr2 nD1
    walk_at "nn2"
    refine ⟨⟨_, SqL.of hy⟩, ?_⟩
    intro D2 nD2
    refine lc_genH walk_list (fun H' => Same H5 H') (fun i y H' => ∃ j q, led[i]? = some j ∧ y = .ref q ∧ H' q = some (.tup [.int j, .int 0])) (by rw [List.length_map]; have := dw5.len; omega) (same_upd nD2) (fun _ h => h.seq (SqL.of hy)) (fun _ _ h => same_mut h nD2)
      (fun i y H1 H2 tk ⟨j, q, e1, e2, e3⟩ => ⟨j, q, e1, e2, tk _ _ e3⟩) ?_ ?_
    · rintro i x H6 H7 Q1 hlt hI ⟨rfl, hx⟩ - hQ
      rw [List.getElem?_map] at hx
      cases ej : led[i]? with
      | none => rw [ej] at hx; cases hx
      | some j =>
      rw [ej] at hx
      cases hx
      walk_at "nn2"
      intro q nq
      have sq := same_upd (o := .tup [.int j, .int 0]) nq
      exact hQ _ _ ⟨j, q, ej, rfl, upd_same⟩ (hI.trans sq) (TupKeep.of sq) fun o ho => sq _ _ ho
    · intro H6 ys hI hy2 hl2 hr2
      have dw6 := dw5.same hI
      have hD1 := hI _ _ hy
      obtain ⟨qs, eqs, pp⟩ := pairs_idx (K := K) ys led (by rw [hl2, List.length_map]) hr2
      rw [eqs] at hy2
      clear dw5 hI hl2 hr2 nD2 hy eqs
      walk_at "nn2"
      refine ⟨D2, qs, _, rfl, SqL.of hy2, pp, fun kn nkn => ?_⟩
      obtain ⟨ks, k1, k2, k3, k4⟩ := merge_keys led (acc := []) (ks := []) rfl .nil
      have e := same_upd (o := .dK (mergeK [] (led.map fun j => ((Sum.inl j : Key), V.int 0)))) nkn
      have hkn := upd_same (H := H6) (a := kn) (o := .dK (mergeK [] (led.map fun j => ((Sum.inl j : Key), V.int 0))))
      walk_at "nn2"
      intro a1 na1
      rw [keys_int k1]
      replace e := e.trans (same_upd (o := .lst (ks.map V.int)) na1)
      refine ⟨a1, ks, rfl, SqL.of upd_same, fun Am pA pm pw nA => ?_⟩
      replace e := e.trans (same_upd (o := .lst (Am.map V.int)) nA)
      walk_at "nn2"
      refine ⟨pA, _, rfl, .inl ⟨SqL.of upd_same, fun tA ntA => ?_⟩⟩
      replace e := e.trans (same_upd (o := .tup (Am.map V.int)) ntA)
      have dw7 := dw6.same e
      have hD7 := e _ _ hD1
      have htA := upd_same (H := upd (upd (upd H6 kn (.dK (mergeK [] (led.map fun j => ((Sum.inl j : Key), V.int 0))))) a1 (.lst (ks.map V.int))) pA (.lst (Am.map V.int))) (a := tA) (o := .tup (Am.map V.int))
      clear e dw6 hD1 pp hy2 nkn na1 nA ntA hkn
      generalize upd (upd (upd (upd H6 kn (.dK (mergeK [] (led.map fun j => ((Sum.inl j : Key), V.int 0))))) a1 (.lst (ks.map V.int))) pA (.lst (Am.map V.int))) tA (.tup (Am.map V.int)) = H7 at *
      have hAm : ∀ k, k ∈ Am ↔ k ∈ led := fun k => by
        rw [pm.mem_iff, k3 k]
        simp
      have hA : Am.Pairwise (· < ·) := asc_of pw (pm.nodup_iff.mpr k2)
      have Al : Am.length ≤ 1000 := by
        rw [pm.length_eq]
        have := dw7.len
        simp at k4
        omega
      clear pm pw k1 k2 k3 k4
      walk_at "nn2"
      intro du ndu
      have e := same_upd (o := .lst [.ref tA, .non]) ndu
      have hdu := upd_same (H := H7) (a := du) (o := .lst [.ref tA, .non])
      have dw8 := dw7.same e
      have hD8 := e _ _ hD7
      have htA8 := e _ _ htA
      clear e hD7
      have fresh : H7 du = none := ndu
      clear ndu
      show gName 12 _ _ (upd H7 du (.lst [.ref tA, .non])) _
      generalize hH8 : upd H7 du (.lst [.ref tA, .non]) = H8 at *
      walk_at "nn2"
      refine ⟨du, _, 0, .ref tA, rfl, rfl, SqL.of hdu, atI_nat (j := 0) rfl, ?_⟩
      refine ⟨_, rfl, ?_⟩
      refine ⟨_, _, .tup (SqT.of htA8) (dpa_ints Am), .tup (SqT.of dw8.set_) (dpa_ints ss), shaped_intT Am, shaped_intT ss, ?_⟩
      rw [eqv_intT]
      refine ⟨_, rfl, ite2 (fun e => ?_) (fun e => ?_)⟩
      · have e := of_decide_eq_true e
        walk_at "nn2"
        refine ⟨D1, _, rfl, .inl ⟨SqL.of hD8, fun tl ntl => ?_⟩⟩
        have e2 := same_upd (o := .tup (led.map V.int)) ntl
        walk_at "nn2"
        refine ⟨du, _, 1, 1, rfl, rfl, e2 _ _ hdu, rfl, ?_⟩
        have e3 : Same H7 (upd (upd H8 tl (.tup (led.map V.int))) du (.lst ([V.ref tA, V.non].set 1 (.ref tl)))) := by
          rw [← hH8]
          exact same_mut ((same_upd fresh).trans (by rw [hH8]; exact e2)) fresh
        have ntd : tl ≠ du := fun z => by rw [z, hdu] at ntl; cases ntl
        walk_at "nn2"
        refine go _ du z Am _ _ _ (dw7.same e3) zl zin ⟨tA, .ref tl, upd_same, ?_, .inl ⟨e, tl, rfl, ?_⟩⟩ hA ?_ Al
        · exact e3 _ _ htA
        · rw [upd_ne ntd, ← hled]
          exact upd_same
        · rw [← hled]
          exact hAm
      · have e : Am ≠ ss := fun z => e (decide_eq_true z)
        walk_at "nn2"
        refine go _ du z Am _ _ _ dw8 zl zin ⟨tA, .non, hdu, htA8, .inr ⟨e, rfl⟩⟩ hA ?_ Al
        rw [← hled]
        exact hAm
end

variable {K : PySem.W.Frag} {mg : Str → Option Value}

section
variable {P : Program} {w : World} {base : Heap}
theorem ok_law {cL PL : Addr} (T : Env K mg) (cd : CodeIs T.fd_law cL) (TB : LamX.TabB base mg cL PL) : FnOk P w K mg base CX0 16 T.f_law T.fd_law ["_law_script"] (spLaw K PL) := by
  obtain ⟨oc, od, kV, doc, pm, an, cdv, ct, osl, e, lk, hcd⟩ := T.F_law.ex
  rw [e] at lk cd ⊢
  obtain rfl : cdv = .ref cL := cd
  refine fn_of lk hcd sc_law (fun vs H Q E h => ?_) (fun A outer s H vs Q E hr h => ?_)
  · obtain ⟨a, ns, rfl, _⟩ := h
    rfl
  · suffices z : ∃ t, PSs (cxOf CX0 P w K mg base N_law "law" (defScope s_law) T.f_law (.ref cL) A outer s H E).nox (defBody s_law) t ∧ t { nx := fun _ G => Q .non G, rt := Q } (L2.start N_law vs) H by
      obtain ⟨t, h1, h2⟩ := z
      exact ⟨t, h1.nox, h2⟩
    have nd : CellsNd (cxOf CX0 P w K mg base N_law "law" (defScope s_law) T.f_law (.ref cL) A outer s H E).nox.env := by
      intro y c hm
      have hm : (y, c) ∈ ([("_law_strange", s.heap.objs.size + 1 + 1 + 1 + 1 + 1 + 1 + 1 + 1 + 1 + 1), ("_law_some_set", s.heap.objs.size + 1 + 1 + 1 + 1 + 1 + 1 + 1 + 1 + 1), ("_law_odd", s.heap.objs.size + 1 + 1 + 1 + 1 + 1 + 1 + 1 + 1), ("_law_made", s.heap.objs.size + 1 + 1 + 1 + 1 + 1 + 1 + 1), ("_law_wide", s.heap.objs.size + 1 + 1 + 1 + 1 + 1 + 1), ("_law_some", s.heap.objs.size + 1 + 1 + 1 + 1 + 1), ("_law_text_here", s.heap.objs.size + 1 + 1 + 1 + 1), ("_law_goals_here", s.heap.objs.size + 1 + 1 + 1), ("_law_signs_here", s.heap.objs.size + 1 + 1), ("_law_bag_here", s.heap.objs.size + 1)] : List (Str × Addr)) := hm
      simp only [List.mem_cons, Prod.mk.injEq, List.not_mem_nil, or_false] at hm
      rcases hm with ⟨rfl, rfl⟩ | ⟨rfl, rfl⟩ | ⟨rfl, rfl⟩ | ⟨rfl, rfl⟩ | ⟨rfl, rfl⟩ | ⟨rfl, rfl⟩ | ⟨rfl, rfl⟩ | ⟨rfl, rfl⟩ | ⟨rfl, rfl⟩ | ⟨rfl, rfl⟩ <;> rfl
    have hfn : (cxOf CX0 P w K mg base N_law "law" (defScope s_law) T.f_law (.ref cL) A outer s H E).nox.Ok → ∀ y c, (cxOf CX0 P w K mg base N_law "law" (defScope s_law) T.f_law (.ref cL) A outer s H E).nox.env.cells.lookup y = some c → (cxOf CX0 P w K mg base N_law "law" (defScope s_law) T.f_law (.ref cL) A outer s H E).nox.s_0.heap.objs.size ≤ c := by
      intro _ y c hm
      have hm : (y, c) ∈ ([("_law_strange", s.heap.objs.size + 1 + 1 + 1 + 1 + 1 + 1 + 1 + 1 + 1 + 1), ("_law_some_set", s.heap.objs.size + 1 + 1 + 1 + 1 + 1 + 1 + 1 + 1 + 1), ("_law_odd", s.heap.objs.size + 1 + 1 + 1 + 1 + 1 + 1 + 1 + 1), ("_law_made", s.heap.objs.size + 1 + 1 + 1 + 1 + 1 + 1 + 1), ("_law_wide", s.heap.objs.size + 1 + 1 + 1 + 1 + 1 + 1), ("_law_some", s.heap.objs.size + 1 + 1 + 1 + 1 + 1), ("_law_text_here", s.heap.objs.size + 1 + 1 + 1 + 1), ("_law_goals_here", s.heap.objs.size + 1 + 1 + 1), ("_law_signs_here", s.heap.objs.size + 1 + 1), ("_law_bag_here", s.heap.objs.size + 1)] : List (Str × Addr)) := PySem.mem_of_lookup hm
      show s.heap.objs.size ≤ c
      simp only [List.mem_cons, Prod.mk.injEq, List.not_mem_nil, or_false] at hm
      rcases hm with ⟨_, rfl⟩ | ⟨_, rfl⟩ | ⟨_, rfl⟩ | ⟨_, rfl⟩ | ⟨_, rfl⟩ | ⟨_, rfl⟩ | ⟨_, rfl⟩ | ⟨_, rfl⟩ | ⟨_, rfl⟩ | ⟨_, rfl⟩ <;> omega
    obtain ⟨tE, hE, qE⟩ := law_asks2 (PL := PL) (P := P) (w := w) (base := base) T TB A outer s H E hr nd hfn
    obtain ⟨tD, hD, qD⟩ := law_odd (PL := PL) (P := P) (w := w) (base := base) T A outer s H E hr hE
    obtain ⟨tC, hC, qC⟩ := law_asks1 (PL := PL) (P := P) (w := w) (base := base) T TB A outer s H E hr nd hfn hD
    obtain ⟨tB, hB, qB⟩ := law_due (PL := PL) (P := P) (w := w) (base := base) T A outer s H E hr hC
    clear hC hD hE
    refine ⟨_, ((pss_cons (ps_set (i := 1) sc_law.nd rfl (.inr rfl) (pe_call (ok_bag T) (hr.mono (by decide)) (by rfl) T.g_bag T.F_bag.kp T.b_bag .nil pass0 (pa_cons (pv 0) pa_nil)))
      (pss_cons (ps_for PassesOwn.never rfl (pi_range1 (by rfl) T.z_range (pa_cons pe_int pa_nil)) (pg_name (i := 2) sc_law.nd rfl (.inl rfl))
      (pss_cons (ps_set (i := 3) sc_law.nd rfl (.inr rfl) (pe_call (ok_signs T) (hr.mono (by decide)) (by rfl) T.g_signs T.F_signs.kp T.b_signs .nil pass0 (pa_cons (pv 1) pa_nil)))
      (pss_cons (ps_set (i := 4) sc_law.nd rfl (.inl rfl) (pe_op op_add pe_int (pe_call (ok_pull T) (hr.mono (by decide)) (by rfl) T.g_pull T.F_pull.kp T.b_pull .nil pass0 (pa_cons (pv 1) (pa_cons pe_int pa_nil)))))
      (pss_cons (ps_asg (pe_tup (pa_cons (pe_call (ok_goals T) (hr.mono (by decide)) (by rfl) T.g_goals T.F_goals.kp T.b_goals .nil pass0 (pa_cons (pv 1) (pa_cons (pv 4) (pa_cons (pe_callB call_len_str (by rfl) T.z_len (by decide +kernel) (pa_cons (pv 3) pa_nil)) pa_nil)))) (pa_cons (pe_call (ok_pull T) (hr.mono (by decide)) (by rfl) T.g_pull T.F_pull.kp T.b_pull .nil pass0 (pa_cons (pv 1) (pa_cons (pv 4) pa_nil))) pa_nil))) (pg_tup (by rfl) (pgs_cons (pg_name (i := 5) sc_law.nd rfl (.inr rfl)) (pgs_cons (pg_name (i := 6) sc_law.nd rfl (.inl rfl)) pgs_nil))))
      (pss_cons (ps_set (i := 7) sc_law.nd rfl (.inr rfl) (pe_makeK T.k_Machine___init (ok_Machine___init T) (hr.mono (by decide)) (by rfl) T.gC_Machine T.b_Machine___init pass0 (pa_cons (pv 3) (pa_cons (pv 5) pa_nil)) (pk_cons (pv 6) pk_nil)))
      (pss_cons (ps_set (i := 8) sc_law.nd rfl (.inr rfl) (pe_callB cr_sortedI (by rfl) T.z_sorted (by decide +kernel) (pa_cons (pe_lc (own := [("_law_at", 18), ("_law_text_here", 10)]) (g := (gTup K 2 (gCons (gName 18) (gCons (gName 10) gNil)))) (tt := tYes) rfl sc_law.nd (pi_list (pe_call (ok_reach T) (hr.mono (by decide)) (by rfl) T.g_reach T.F_reach.kp T.b_reach .nil pass0 (pa_cons (pv 5) (pa_cons (pv 3) (pa_cons (pv 6) pa_nil))))) (blkOk_by (own := [("_law_at", 18), ("_law_text_here", 10)]) (N := N_law) (sc := defScope s_law) (by decide +kernel)) (fun _ _ _ _ _ => (pg_tup (by rfl) (pgs_cons (pg_name (i := 18) sc_law.nd rfl (.inl rfl)) (pgs_cons (pg_name (i := 10) sc_law.nd rfl (.inl rfl)) pgs_nil)))) (fun _ _ _ _ _ => pts_nil) (fun _ _ _ _ _ => (pv 18))) pa_nil)))
      (pss_cons (ps_set (i := 9) sc_law.nd rfl (.inr rfl) (pe_callTy call_tuple_of (by rfl) T.z_tuple (by decide +kernel) (pa_cons (pe_lc (own := [("_law_at", 18)]) (g := (gName 18)) rfl sc_law.nd (pi_list (pv 8)) (blkOk_by (own := [("_law_at", 18)]) (N := N_law) (sc := defScope s_law) (by decide +kernel)) (fun _ _ _ _ _ => (pg_name (i := 18) sc_law.nd rfl (.inl rfl))) (fun _ _ _ _ _ => (pts_one (pt_cmpR op_eq (pe_call (ok_pull T) (hr.mono (by decide)) (by rfl) T.g_pull T.F_pull.kp T.b_pull .nil pass0 (pa_cons (pv 1) (pa_cons pe_int pa_nil))) pe_int (nomark _)))) (fun _ _ _ _ _ => (pv 18))) pa_nil)))
      (pss_cons (ps_set (i := 9) sc_law.nd rfl (.inr rfl) (pe_ifExp (pt_cmpR (op_neD hr.units) (pv 9) (pe_tup pa_nil) (nomark _)) (pv 9) (pe_tup (pa_cons (pe_ix ix_list (pv 8) pe_int (fun _ _ => rfl)) pa_nil))))
      hB))))))))
      (pss_one (ps_ret pe_bl))))), ?_⟩
    obtain ⟨a, ns, rfl, hS, hlen, hT, q⟩ := h
    walk_at "ss"
    intro b l H1 hb0 hl0 B1 s1
    have t1 : LamX.Tabs [(PL, qLam)] H1 := fun p hp => by
      cases List.mem_singleton.mp hp
      exact ⟨#[], s1 _ _ hT, trivial, fun q v z => by cases z⟩
    walk_at "ss"
    refine for_it walk_range (fun i σ H' => Stp (LawSt PL a b l σ H')) (.mk ⟨⟨_, _, _, _, _, _, _, _, _, _, _, _, _, _, _, _, _, _, rfl⟩, B1, t1⟩) (fun _ _ _ _ _ => trivial) ?_ ?_
    · clear B1 t1 s1
      rintro i x σ H2 H3 hi hP ⟨rfl, rfl⟩
      obtain ⟨⟨y2, y3, y4, y5, y6, y7, y8, y9, y10, y11, y12, y13, y14, y15, y16, y17, y18, y19, rfl⟩, B3, t3⟩ := hP.of
      clear hP
      show gName 2 (V.int (0 + (i : Int))) _ _ _
      obtain ⟨iz, hiz⟩ : ∃ iz : Int, iz = 0 + (i : Int) := ⟨_, rfl⟩
      rw [← hiz]
      walk_at "nn2"
      intro al H4 hA B4 k4
      have t4 := tabs_kp t3 k4 B3
      have al4 : al.length ≤ 4 := by rw [len_tl]; exact hA.2.1
      have al1 : 1 ≤ al.length := by rw [len_tl]; exact hA.1
      clear t3 k4 B3
      walk_at "nn2"
      refine ⟨b, l, _, rfl, B4, by decide, by decide, fun n H5 n0 n1 B5 k5 => ?_⟩
      have t5 := tabs_kp t4 k5 B4
      clear t4 k5 B4
      walk_at "nn2"
      refine ⟨b, l, _, _, rfl, B5, by omega, by omega, by omega, by omega, fun p gs H6 tab ⟨ps6, hp6x⟩ gl GG p0 B6 k6 => ?_⟩
      have t6 := tabs_kp t5 k6 B5
      have gm : Goals gs al.cps.toList.length := by rw [len_tl] at GG; exact GG
      obtain ⟨nz, hnz⟩ : ∃ nz : Int, nz = 1 + n := ⟨_, rfl⟩
      have hp6 := hp6x.1
      have pb : p ≠ b := B5.nb p0
      clear t5 k6 B5 p0
      walk_at "nn2"
      refine ⟨b, l, _, rfl, B6, by omega, by omega, fun s0 H7 s00 s01 B7 k7 => ?_⟩
      have t7 := tabs_kp t6 k7 B6
      have tab7 := tab.kp2 k7 B6
      have hp7 := k7 _ _ hp6 pb
      clear t6 k7 B6 tab hp6x hp6 pb
      walk_at "nn2"
      intro tp tp0
      have sp := same_upd (o := .tup [.ref p, .int s0]) tp0
      have htp := upd_same (H := H7) (a := tp) (o := .tup [.ref p, .int s0])
      have B8 := B7.same sp
      have t8 : LamX.Tabs [(PL, qLam)] _ := t7.ext sp
      have tab8 := tab7.same sp
      have hp8 := sp _ _ hp7
      clear B7 t7 tab7 sp tp0 hp7
      generalize upd H7 tp (.tup [.ref p, .int s0]) = H8 at *
      refine ⟨tp, _, rfl, SqT.of htp, rfl, ?_⟩
      refine ⟨_, _, rfl, _, _, rfl, rfl, ?_⟩
      walk_at "nn2"
      intro m dx m0 dx0 ne
      have sA : Same H8 (upd (upd H8 dx (.own m)) m (.ins T.C_Machine dx [])) := (same_upd dx0).trans (same_upd (by rw [upd_ne ne.symm]; exact m0))
      have pm : p ≠ m := ne_of_none hp8 m0
      refine ⟨m, dx, p, al, gs, s0, rfl, upd_same, pm, tab8.same sA, hA, gm, ⟨by omega, by omega⟩, ⟨s00, by omega⟩, fun H9 k9 M9 => ⟨rfl, ?_⟩⟩
      have s9 : Same H8 H9 := fun c o h => k9 c o (ne_of_none h m0) (sA c o h)
      have B9 := B8.same s9
      have t9 : LamX.Tabs [(PL, qLam)] H9 := t8.ext s9
      have tab9 := tab8.same s9
      clear B8 t8 tab8 s9 k9 sA pm m0 dx0 htp hp8
      walk_at "nn2"
      refine ⟨p, al, s0, gs, rfl, tab9, by omega, al4, gm, s00, by omega, fun f d H10 hd WG hf s10 => ?_⟩
      have B10 := B9.same s10
      have t10 : LamX.Tabs [(PL, qLam)] H10 := t9.ext s10
      have tab10 := tab9.same s10
      have M10 := M9.same s10
      clear B9 t9 tab9 M9 s10 hf
      walk_at "nn2"
      obtain ⟨qs, w1, w2, w3⟩ := WG
      have wd := bfsW_words gs al.cps.toList s0 d
      have few : (bfsW gs al.cps.toList s0 d).length ≤ gs.length := by
        rw [wd.len]
        exact (bfsE_good s00 (by omega : s0 < gs.length) (fun g hm => (gm g hm).2) d).few
      refine ⟨⟨_, SqL.of w1⟩, ?_⟩
      intro D1 nD1
      have wl : (qs.map V.ref).length = (bfsW gs al.cps.toList s0 d).length := by rw [List.length_map]; exact w2
      refine lc_gen walk_list (fun H' => Same H10 H') (fun i y => ∃ e, (bfsW gs al.cps.toList s0 d)[i]? = some e ∧ y = V.int e.1) (by omega) (same_upd nD1) (fun _ h => h.seq (SqL.of w1)) (fun _ _ h => same_mut h nD1) ?_ ?_
      · rintro j x H11 H12 Q1 hlt hI ⟨rfl, hx⟩ - hQ
        have hx : (qs.map V.ref)[j]? = some x := hx
        rw [List.getElem?_map] at hx
        obtain ⟨pi, hpi⟩ : ∃ pi, qs[j]? = some pi := ⟨_, List.getElem?_eq_getElem (by simpa using hlt)⟩
        obtain ⟨ei, hei⟩ : ∃ ei, (bfsW gs al.cps.toList s0 d)[j]? = some ei := ⟨_, List.getElem?_eq_getElem (by rw [← w2]; simpa using hlt)⟩
        rw [hpi] at hx
        cases hx
        have hpe := hI _ _ (w3 j pi ei hpi hei)
        refine ⟨pi, _, rfl, .inl (.inl hpe), rfl, _, _, rfl, _, _, rfl, rfl, ?_⟩
        walk_at "nn2"
        exact hQ _ _ ⟨ei, hei, rfl⟩ hI fun _ h => h
      · intro H11 ys hI hy hl hr2
        have eys : ys = ((bfsW gs al.cps.toList s0 d).map Prod.fst).map V.int := by
          rw [List.map_map]
          exact ys_map (by rw [hl]; exact wl) fun i y hiy => hr2 i y hiy
        subst eys
        have B11 := B10.same hI
        have t11 : LamX.Tabs [(PL, qLam)] H11 := t10.ext hI
        have tab11 := tab10.same hI
        have M11 := M10.same hI
        clear B10 t10 tab10 M10 hI hl hr2 nD1 w1 w3 wl w2
        walk_at "nn2"
        refine ⟨D1, _, rfl, SqL.of hy, fun ns so pm pw nso => ?_⟩
        have R : Reach gs s0 ns := ⟨d, by rw [← wd.len]; exact hd, by rw [← wd.fst]; exact pm, pw⟩
        have fx := R.facts s00 (by omega) fun g hm => (gm g hm).2
        have e := same_upd (o := .lst (ns.map V.int)) nso
        have hso := upd_same (H := H11) (a := so) (o := .lst (ns.map V.int))
        have sob : so ≠ b := B11.nb nso
        have B12 := B11.same e
        have t12 : LamX.Tabs [(PL, qLam)] _ := t11.ext e
        have tab12 := tab11.same e
        have M12 := M11.same e
        clear B11 t11 tab11 M11 e nso hy pm pw wd few hd
        show gName 8 _ _ (upd H11 so (.lst (ns.map V.int))) _
        generalize upd H11 so (.lst (ns.map V.int)) = H12 at *
        walk_at "nn2"
        refine ⟨⟨_, SqL.of hso⟩, ?_⟩
        intro D2 nD2
        have nb := B12.nb nD2
        have nl := B12.nl nD2
        refine lc_it walk_list (fun i H' => Stp (∃ rs : List Int, rs.Sublist (ns.take i) ∧ H' D2 = some (.lst (rs.map V.int)) ∧ BagAt b l H' ∧ Kp b H12 H'))
          (.mk ⟨[], List.nil_sublist _, upd_same, B12.mut nb nl, Kp.same (same_upd nD2)⟩) (fun i H' _ h => by
            obtain ⟨rs, _, _, _, k⟩ := h.of
            exact SqL.of (k _ _ hso sob)) ?_ ?_
        · rintro j x H13 H14 hj hP ⟨rfl, hx⟩
          obtain ⟨rs, sub, hz, B2, k2⟩ := hP.of
          clear hP
          have hx : (ns.map V.int)[j]? = some x := hx
          rw [List.getElem?_map] at hx
          cases ec : ns[j]? with
          | none => rw [ec] at hx; cases hx
          | some c =>
          rw [ec] at hx
          cases hx
          have tk : ns.take (j + 1) = ns.take j ++ [c] := by
            rw [List.take_add_one, ec]
            rfl
          have zl : rs.length ≤ 8 := by
            have := sub.length_le
            rw [List.length_take] at this
            omega
          walk_at "nn2"
          refine ⟨b, l, _, rfl, B2, by decide, by decide, fun k H15 k0 k1 B3 k3 => ?_⟩
          have hz3 := k3 _ _ hz nb
          walk_at "nn2"
          refine ite2 (fun e => ?_) (fun e => ?_)
          · walk_at "nn2"
            refine ⟨_, hz3, szl (by rw [List.length_map]; omega), .mk ⟨rs ++ [c], by rw [tk]; exact sub.append (List.Sublist.refl _), ?_, B3.mut nb nl, (k2.trans k3).mut nD2⟩⟩
            rw [upd_same, List.map_append]
            rfl
          · exact .mk ⟨rs, by rw [tk]; exact sub.trans (List.sublist_append_left _ _), hz3, B3, k2.trans k3⟩
        · intro H13 hP
          obtain ⟨rs, sub, hz, B13, k13⟩ := hP.of
          clear hP
          have sub2 : rs.Sublist ns := sub.trans (List.take_sublist _ _)
          have t13 := tabs_kp t12 k13 B12
          have tab13 := tab12.kp2 k13 B12
          have M13 := M12.kp k13 B12
          have hso13 := k13 _ _ hso sob
          clear t12 tab12 M12 hso k13 B12 nb nl nD2 sub
          walk_at "nn2"
          refine ⟨D2, _, rfl, .inl ⟨SqL.of hz, fun ts nts => ?_⟩⟩
          have e := same_upd (o := .tup (rs.map V.int)) nts
          have hts := upd_same (H := H13) (a := ts) (o := .tup (rs.map V.int))
          have B14 := B13.same e
          have t14 : LamX.Tabs [(PL, qLam)] _ := t13.ext e
          have tab14 := tab13.same e
          have M14 := M13.same e
          have hso14 := e _ _ hso13
          clear B13 t13 tab13 M13 hso13 e nts hz
          show gName 9 _ _ (upd H13 ts (.tup (rs.map V.int))) _
          generalize upd H13 ts (.tup (rs.map V.int)) = H14 at *
          have fin : ∀ (D : Ends) (ts : Addr) (ss : List Int) (G : Hp) (y2 y10 y11 y12 y13 y14 y15 y16 y17 y18 y19 : Option V), (∀ σ G', LawSt PL a b l σ G' → D.nx σ G') → BagAt b l G → LamX.Tabs [(PL, qLam)] G → MachAt K T.C_Machine G m al gs s0 → Tab K G p gs → G so = some (.lst (ns.map V.int)) → G ts = some (.tup (ss.map V.int)) → ss.Sublist ns → ss ≠ [] →
              tB D [some (.ref a), some (.ref b), y2, some (.str al), some (.int (1 + n)), some (.ref p), some (.int s0), some (.ref m), some (.ref so), some (.ref ts), y10, y11, y12, y13, y14, y15, y16, y17, y18, y19] G := by
            intro D ts ss G y2 y10 y11 y12 y13 y14 y15 y16 y17 y18 y19 inv B t M tab ho hs sb nn
            refine qB _ _ _ _ _ _ _ _ _ _ _ _ _ _ _ _ _ _ _ _ _ _ _ _ _ _ (fun G' du z Am y11 y18 y19 dw zl zin hdu hA hAm Al => ?_) ⟨B, t, M, tab, by omega, R, ho, hs, List.Pairwise.sublist sb fx.1, fun x hx => sb.subset hx, nn, sb.length_le, sob⟩
            refine qC _ _ _ _ _ _ _ _ _ _ _ _ _ _ _ _ _ _ _ _ _ _ _ _ _ _ _ (fun G' wd y12 y13 y18 y19 dw hwd => ?_) dw zl zin hdu hA hAm Al
            refine qD _ _ _ _ _ _ _ _ _ _ _ _ _ _ _ _ _ _ _ _ _ _ _ _ _ _ (fun G' u v y15 dw hu hv hvo hwd => ?_) dw hwd gl
            exact qE _ _ _ _ _ _ _ _ _ _ _ _ _ _ _ _ _ _ _ _ _ _ _ _ _ _ inv dw hu hv hvo hwd
          walk_at "nn2"
          intro e0 ne0
          have e := same_upd (o := .tup []) ne0
          have he0 := upd_same (H := H14) (a := e0) (o := .tup [])
          have B15 := B14.same e
          have t15 : LamX.Tabs [(PL, qLam)] _ := t14.ext e
          have tab15 := tab14.same e
          have M15 := M14.same e
          have hso15 := e _ _ hso14
          have hts15 := e _ _ hts
          clear B14 t14 tab14 M14 hso14 hts e ne0
          generalize upd H14 e0 (.tup []) = H15 at *
          refine ⟨_, _, .tup (SqT.of hts15) (dpa_ints rs), .tup (SqT.of he0) .nil, shaped_intT rs, shaped_intT [], ?_⟩
          rw [show PyData.eqv (.tuple (rs.map PyData.int)) (.tuple []) = decide (rs = []) from eqv_intT rs []]
          refine ⟨_, rfl, ite2 (fun e => ?_) (fun e => ?_)⟩
          · have e : rs ≠ [] := fun z => by rw [z] at e; cases e
            walk_at "nn2"
            exact fin _ ts rs _ _ _ _ _ _ _ _ _ _ _ _ (fun σ G' h => .mk h) B15 t15 M15 tab15 hso15 hts15 sub2 e
          · obtain ⟨x0, rest, hns⟩ : ∃ x0 rest, ns = x0 :: rest := by
              cases ns with
              | nil => exact absurd rfl fx.2.2.1
              | cons x r => exact ⟨x, r, rfl⟩
            walk_at "nn2"
            refine ⟨so, _, 0, .int x0, rfl, rfl, SqL.of hso15, by rw [hns]; exact atI_nat (j := 0) rfl, ?_⟩
            walk_at "nn2"
            intro t1 nt1
            have e2 := same_upd (o := .tup [.int x0]) nt1
            walk_at "nn2"
            exact fin _ t1 [x0] _ _ _ _ _ _ _ _ _ _ _ _ (fun σ G' h => .mk h) (B15.same e2) (t15.ext e2) (M15.same e2) (tab15.same e2) (e2 _ _ hso15) upd_same (by rw [hns]; exact (List.nil_sublist rest).cons₂ x0) (by simp)
    · rintro σ H2 hP
      obtain ⟨⟨y2, y3, y4, y5, y6, y7, y8, y9, y10, y11, y12, y13, y14, y15, y16, y17, y18, y19, rfl⟩, B3, t3⟩ := hP.of
      walk_at "nn2"
      exact q _
end

open PySem.W PySem.Calls PySem.HandSPX in
theorem all_mk {l : PySem.W.OpenLaw} {w : World} {K : PySem.W.Frag} {h : Heap} {mg : Str → Option Value} {fa : Addr} (X : K.In h) (G : h.Ns mainGlobals mg) (hfa : mg "law" = some (.ref fa))
    {C_AheadError : Addr}
    {C_Missing : Addr}
    {C_NothingLeft : Addr}
    {C_InvalidSet : Addr}
    {nm_InvalidSet q_InvalidSet : Str} {N_InvalidSet : Addr} {bs_InvalidSet : List Value} {sn_InvalidSet : List Str} {sub_InvalidSet : List Value} {ab_InvalidSet : Bool} {col_InvalidSet : Option Bool} {dd_InvalidSet : Option Addr} {m0_InvalidSet m1_InvalidSet m2_InvalidSet m3_InvalidSet m5_InvalidSet : Option Value} {o1_InvalidSet : Addr}
    {C_InvalidState : Addr}
    {nm_InvalidState q_InvalidState : Str} {N_InvalidState : Addr} {bs_InvalidState : List Value} {sn_InvalidState : List Str} {sub_InvalidState : List Value} {ab_InvalidState : Bool} {col_InvalidState : Option Bool} {dd_InvalidState : Option Addr} {m0_InvalidState m1_InvalidState m2_InvalidState m3_InvalidState m5_InvalidState : Option Value} {o1_InvalidState : Addr}
    {C_InvalidWord : Addr}
    {nm_InvalidWord q_InvalidWord : Str} {N_InvalidWord : Addr} {bs_InvalidWord : List Value} {sn_InvalidWord : List Str} {sub_InvalidWord : List Value} {ab_InvalidWord : Bool} {col_InvalidWord : Option Bool} {dd_InvalidWord : Option Addr} {m0_InvalidWord m1_InvalidWord m2_InvalidWord m3_InvalidWord m5_InvalidWord : Option Value} {o1_InvalidWord : Addr}
    {C_Machine : Addr}
    {tk_Machine_MOST : Tok}
    {C_TooMany : Addr}
    {nm_TooMany q_TooMany : Str} {N_TooMany : Addr} {bs_TooMany : List Value} {sn_TooMany : List Str} {sub_TooMany : List Value} {ab_TooMany : Bool} {col_TooMany : Option Bool} {dd_TooMany : Option Addr} {m0_TooMany m1_TooMany m2_TooMany m3_TooMany m5_TooMany : Option Value} {o1_TooMany : Addr}
    {od_InvalidSet___init an_InvalidSet___init : Option Addr} {sl_InvalidSet___init : Array (Option Value)} {oc_InvalidSet___init kV_InvalidSet___init dc_InvalidSet___init pm_InvalidSet___init cd_InvalidSet___init ct_InvalidSet___init : Value} {f_InvalidSet___init : Addr}
    {od_InvalidState___init an_InvalidState___init : Option Addr} {sl_InvalidState___init : Array (Option Value)} {oc_InvalidState___init kV_InvalidState___init dc_InvalidState___init pm_InvalidState___init cd_InvalidState___init ct_InvalidState___init : Value} {f_InvalidState___init : Addr}
    {od_InvalidWord___init an_InvalidWord___init : Option Addr} {sl_InvalidWord___init : Array (Option Value)} {oc_InvalidWord___init kV_InvalidWord___init dc_InvalidWord___init pm_InvalidWord___init cd_InvalidWord___init ct_InvalidWord___init : Value} {f_InvalidWord___init : Addr}
    {od_Machine___init an_Machine___init : Option Addr} {sl_Machine___init : Array (Option Value)} {oc_Machine___init kV_Machine___init dc_Machine___init pm_Machine___init cd_Machine___init ct_Machine___init : Value} {f_Machine___init : Addr}
    {od_Machine_after an_Machine_after : Option Addr} {sl_Machine_after : Array (Option Value)} {oc_Machine_after kV_Machine_after dc_Machine_after pm_Machine_after cd_Machine_after ct_Machine_after : Value} {f_Machine_after : Addr}
    {od_Machine_led an_Machine_led : Option Addr} {sl_Machine_led : Array (Option Value)} {oc_Machine_led kV_Machine_led dc_Machine_led pm_Machine_led cd_Machine_led ct_Machine_led : Value} {f_Machine_led : Addr}
    {od_Machine_reachable an_Machine_reachable : Option Addr} {sl_Machine_reachable : Array (Option Value)} {oc_Machine_reachable kV_Machine_reachable dc_Machine_reachable pm_Machine_reachable cd_Machine_reachable ct_Machine_reachable : Value} {f_Machine_reachable : Addr}
    {od_TooMany___init an_TooMany___init : Option Addr} {sl_TooMany___init : Array (Option Value)} {oc_TooMany___init kV_TooMany___init dc_TooMany___init pm_TooMany___init cd_TooMany___init ct_TooMany___init : Value} {f_TooMany___init : Addr}
    {od_all_got an_all_got : Option Addr} {sl_all_got : Array (Option Value)} {oc_all_got kV_all_got dc_all_got pm_all_got cd_all_got ct_all_got : Value} {f_all_got : Addr}
    {od_bag an_bag : Option Addr} {sl_bag : Array (Option Value)} {oc_bag kV_bag dc_bag pm_bag cd_bag ct_bag : Value} {f_bag : Addr}
    {od_field an_field : Option Addr} {sl_field : Array (Option Value)} {oc_field kV_field dc_field pm_field cd_field ct_field : Value} {f_field : Addr}
    {od_go an_go : Option Addr} {sl_go : Array (Option Value)} {oc_go kV_go dc_go pm_go cd_go ct_go : Value} {f_go : Addr}
    {od_goals an_goals : Option Addr} {sl_goals : Array (Option Value)} {oc_goals kV_goals dc_goals pm_goals cd_goals ct_goals : Value} {f_goals : Addr}
    {od_got an_got : Option Addr} {sl_got : Array (Option Value)} {oc_got kV_got dc_got pm_got cd_got ct_got : Value} {f_got : Addr}
    {od_of an_of : Option Addr} {sl_of : Array (Option Value)} {oc_of kV_of dc_of pm_of cd_of ct_of : Value} {f_of : Addr}
    {od_pull an_pull : Option Addr} {sl_pull : Array (Option Value)} {oc_pull kV_pull dc_pull pm_pull cd_pull ct_pull : Value} {f_pull : Addr}
    {od_reach an_reach : Option Addr} {sl_reach : Array (Option Value)} {oc_reach kV_reach dc_reach pm_reach cd_reach ct_reach : Value} {f_reach : Addr}
    {od_same an_same : Option Addr} {sl_same : Array (Option Value)} {oc_same kV_same dc_same pm_same cd_same ct_same : Value} {f_same : Addr}
    {od_signs an_signs : Option Addr} {sl_signs : Array (Option Value)} {oc_signs kV_signs dc_signs pm_signs cd_signs ct_signs : Value} {f_signs : Addr}
    {od_text an_text : Option Addr} {sl_text : Array (Option Value)} {oc_text kV_text dc_text pm_text cd_text ct_text : Value} {f_text : Addr}
    {od_ends_of an_ends_of : Option Addr} {sl_ends_of : Array (Option Value)} {oc_ends_of kV_ends_of dc_ends_of pm_ends_of cd_ends_of ct_ends_of : Value} {f_ends_of : Addr}
    {od_few_reachable an_few_reachable : Option Addr} {sl_few_reachable : Array (Option Value)} {oc_few_reachable kV_few_reachable dc_few_reachable pm_few_reachable cd_few_reachable ct_few_reachable : Value} {f_few_reachable : Addr}
    {od_first_steps an_first_steps : Option Addr} {sl_first_steps : Array (Option Value)} {oc_first_steps kV_first_steps dc_first_steps pm_first_steps cd_first_steps ct_first_steps : Value} {f_first_steps : Addr}
    {od_image an_image : Option Addr} {sl_image : Array (Option Value)} {oc_image kV_image dc_image pm_image cd_image ct_image : Value} {f_image : Addr}
    {od_is_alphabet an_is_alphabet : Option Addr} {sl_is_alphabet : Array (Option Value)} {oc_is_alphabet kV_is_alphabet dc_is_alphabet pm_is_alphabet cd_is_alphabet ct_is_alphabet : Value} {f_is_alphabet : Addr}
    {od_is_below an_is_below : Option Addr} {sl_is_below : Array (Option Value)} {oc_is_below kV_is_below dc_is_below pm_is_below cd_is_below ct_is_below : Value} {f_is_below : Addr}
    {od_is_listed an_is_listed : Option Addr} {sl_is_listed : Array (Option Value)} {oc_is_listed kV_is_listed dc_is_listed pm_is_listed cd_is_listed ct_is_listed : Value} {f_is_listed : Addr}
    {od_is_number an_is_number : Option Addr} {sl_is_number : Array (Option Value)} {oc_is_number kV_is_number dc_is_number pm_is_number cd_is_number ct_is_number : Value} {f_is_number : Addr}
    {od_is_row an_is_row : Option Addr} {sl_is_row : Array (Option Value)} {oc_is_row kV_is_row dc_is_row pm_is_row cd_is_row ct_is_row : Value} {f_is_row : Addr}
    {od_is_set_of an_is_set_of : Option Addr} {sl_is_set_of : Array (Option Value)} {oc_is_set_of kV_is_set_of dc_is_set_of pm_is_set_of cd_is_set_of ct_is_set_of : Value} {f_is_set_of : Addr}
    {od_is_word an_is_word : Option Addr} {sl_is_word : Array (Option Value)} {oc_is_word kV_is_word dc_is_word pm_is_word cd_is_word ct_is_word : Value} {f_is_word : Addr}
    {od_law an_law : Option Addr} {sl_law : Array (Option Value)} {oc_law kV_law dc_law pm_law cd_law ct_law : Value} {f_law : Addr}
    {od_led_by an_led_by : Option Addr} {sl_led_by : Array (Option Value)} {oc_led_by kV_led_by dc_led_by pm_led_by cd_led_by ct_led_by : Value} {f_led_by : Addr}
    {od_turn an_turn : Option Addr} {sl_turn : Array (Option Value)} {oc_turn kV_turn dc_turn pm_turn cd_turn ct_turn : Value} {f_turn : Addr}
    {t_MOST_LETTERS : Tok}
    {t_MOST_STATES : Tok}
    {cL PL : Addr} {ocL : Value} {odL : Option Addr} {slL : Array (Option Value)} {vsL : Array Value}
    (aC_AheadError : PySem.W.nsIn K mainGlobals "AheadError" = some (some (.ref C_AheadError)))
    (bx_AheadError : PySem.W.subIn K (.ref C_AheadError) (.type "BaseException") = some true)
    (is_AheadError : PySem.W.isClsIn K C_AheadError = true)
    (ty_AheadError : PySem.W.typeIn K (.ref C_AheadError) = some (.type "type"))
    (aC_Missing : PySem.W.nsIn K mainGlobals "Missing" = some (some (.ref C_Missing)))
    (bx_Missing : PySem.W.subIn K (.ref C_Missing) (.type "BaseException") = some true)
    (is_Missing : PySem.W.isClsIn K C_Missing = true)
    (ty_Missing : PySem.W.typeIn K (.ref C_Missing) = some (.type "type"))
    (aC_NothingLeft : PySem.W.nsIn K mainGlobals "NothingLeft" = some (some (.ref C_NothingLeft)))
    (bx_NothingLeft : PySem.W.subIn K (.ref C_NothingLeft) (.type "BaseException") = some true)
    (is_NothingLeft : PySem.W.isClsIn K C_NothingLeft = true)
    (ty_NothingLeft : PySem.W.typeIn K (.ref C_NothingLeft) = some (.type "type"))
    (aC_InvalidSet : PySem.W.nsIn K mainGlobals "InvalidSet" = some (some (.ref C_InvalidSet)))
    (xL_InvalidSet : K.lookup C_InvalidSet = some (excClassObj nm_InvalidSet q_InvalidSet C_InvalidSet N_InvalidSet bs_InvalidSet [.ref o1_InvalidSet, .type "ValueError", .type "Exception", .type "BaseException", .type "object"] true sn_InvalidSet sub_InvalidSet ab_InvalidSet col_InvalidSet dd_InvalidSet m0_InvalidSet m1_InvalidSet m2_InvalidSet m3_InvalidSet m5_InvalidSet "ValueError.__new__"))
    (sa_InvalidSet : PySem.W.findIn K (.ref C_InvalidSet) "__setattr__" = some (some (.builtin "object.__setattr__")))
    (ga_InvalidSet : PySem.W.findIn K (.ref C_InvalidSet) "__getattribute__" = some (some (.builtin "BaseException.__getattribute__")))
    (gg_InvalidSet : PySem.W.findIn K (.ref C_InvalidSet) "__getattr__" = some none)
    (kC_InvalidSet : PySem.W.keepIn K (.ref C_InvalidSet) = true)
    (eC_InvalidSet : PySem.W.subIn K (.ref C_InvalidSet) (.type "BaseException") = some true)
    (tC_InvalidSet : PySem.W.typeIn K (.ref C_InvalidSet) = some (.type "type"))
    (hC_InvalidSet : PySem.W.hasDictIn K C_InvalidSet = true)
    (n_InvalidSet_given : PySem.W.findIn K (.ref C_InvalidSet) "given" = some none)
    (n_InvalidSet_code : PySem.W.findIn K (.ref C_InvalidSet) "code" = some none)
    (s_InvalidSet_AheadError : PySem.W.subIn K (.ref C_InvalidSet) (.ref C_AheadError) = some true)
    (s_InvalidSet_Missing : PySem.W.subIn K (.ref C_InvalidSet) (.ref C_Missing) = some false)
    (s_InvalidSet_NothingLeft : PySem.W.subIn K (.ref C_InvalidSet) (.ref C_NothingLeft) = some false)
    (aC_InvalidState : PySem.W.nsIn K mainGlobals "InvalidState" = some (some (.ref C_InvalidState)))
    (xL_InvalidState : K.lookup C_InvalidState = some (excClassObj nm_InvalidState q_InvalidState C_InvalidState N_InvalidState bs_InvalidState [.ref o1_InvalidState, .type "ValueError", .type "Exception", .type "BaseException", .type "object"] true sn_InvalidState sub_InvalidState ab_InvalidState col_InvalidState dd_InvalidState m0_InvalidState m1_InvalidState m2_InvalidState m3_InvalidState m5_InvalidState "ValueError.__new__"))
    (sa_InvalidState : PySem.W.findIn K (.ref C_InvalidState) "__setattr__" = some (some (.builtin "object.__setattr__")))
    (ga_InvalidState : PySem.W.findIn K (.ref C_InvalidState) "__getattribute__" = some (some (.builtin "BaseException.__getattribute__")))
    (gg_InvalidState : PySem.W.findIn K (.ref C_InvalidState) "__getattr__" = some none)
    (kC_InvalidState : PySem.W.keepIn K (.ref C_InvalidState) = true)
    (eC_InvalidState : PySem.W.subIn K (.ref C_InvalidState) (.type "BaseException") = some true)
    (tC_InvalidState : PySem.W.typeIn K (.ref C_InvalidState) = some (.type "type"))
    (hC_InvalidState : PySem.W.hasDictIn K C_InvalidState = true)
    (n_InvalidState_given : PySem.W.findIn K (.ref C_InvalidState) "given" = some none)
    (n_InvalidState_code : PySem.W.findIn K (.ref C_InvalidState) "code" = some none)
    (s_InvalidState_AheadError : PySem.W.subIn K (.ref C_InvalidState) (.ref C_AheadError) = some true)
    (s_InvalidState_Missing : PySem.W.subIn K (.ref C_InvalidState) (.ref C_Missing) = some false)
    (s_InvalidState_NothingLeft : PySem.W.subIn K (.ref C_InvalidState) (.ref C_NothingLeft) = some false)
    (aC_InvalidWord : PySem.W.nsIn K mainGlobals "InvalidWord" = some (some (.ref C_InvalidWord)))
    (xL_InvalidWord : K.lookup C_InvalidWord = some (excClassObj nm_InvalidWord q_InvalidWord C_InvalidWord N_InvalidWord bs_InvalidWord [.ref o1_InvalidWord, .type "ValueError", .type "Exception", .type "BaseException", .type "object"] true sn_InvalidWord sub_InvalidWord ab_InvalidWord col_InvalidWord dd_InvalidWord m0_InvalidWord m1_InvalidWord m2_InvalidWord m3_InvalidWord m5_InvalidWord "ValueError.__new__"))
    (sa_InvalidWord : PySem.W.findIn K (.ref C_InvalidWord) "__setattr__" = some (some (.builtin "object.__setattr__")))
    (ga_InvalidWord : PySem.W.findIn K (.ref C_InvalidWord) "__getattribute__" = some (some (.builtin "BaseException.__getattribute__")))
    (gg_InvalidWord : PySem.W.findIn K (.ref C_InvalidWord) "__getattr__" = some none)
    (kC_InvalidWord : PySem.W.keepIn K (.ref C_InvalidWord) = true)
    (eC_InvalidWord : PySem.W.subIn K (.ref C_InvalidWord) (.type "BaseException") = some true)
    (tC_InvalidWord : PySem.W.typeIn K (.ref C_InvalidWord) = some (.type "type"))
    (hC_InvalidWord : PySem.W.hasDictIn K C_InvalidWord = true)
    (n_InvalidWord_given : PySem.W.findIn K (.ref C_InvalidWord) "given" = some none)
    (n_InvalidWord_code : PySem.W.findIn K (.ref C_InvalidWord) "code" = some none)
    (s_InvalidWord_AheadError : PySem.W.subIn K (.ref C_InvalidWord) (.ref C_AheadError) = some true)
    (s_InvalidWord_Missing : PySem.W.subIn K (.ref C_InvalidWord) (.ref C_Missing) = some false)
    (s_InvalidWord_NothingLeft : PySem.W.subIn K (.ref C_InvalidWord) (.ref C_NothingLeft) = some false)
    (aC_Machine : PySem.W.nsIn K mainGlobals "Machine" = some (some (.ref C_Machine)))
    (pg_Machine : PySem.W.plainGet K C_Machine Str.empty = true)
    (hd_Machine : PySem.W.hasDictIn K C_Machine = true)
    (po_Machine : PySem.W.plainOver K C_Machine = true)
    (sa_Machine : PySem.W.findIn K (.ref C_Machine) "__setattr__" = some (some (.builtin "object.__setattr__")))
    (mk_Machine : PySem.W.makesIn K C_Machine = true)
    (kc_Machine : PySem.W.keepIn K (.ref C_Machine) = true)
    (n_Machine__alphabet : PySem.W.findIn K (.ref C_Machine) "_alphabet" = some none)
    (n_Machine__rows : PySem.W.findIn K (.ref C_Machine) "_rows" = some none)
    (n_Machine__start : PySem.W.findIn K (.ref C_Machine) "_start" = some none)
    (n_Machine__accepts : PySem.W.findIn K (.ref C_Machine) "_accepts" = some none)
    (o_Machine_MOST : PySem.W.findIn K (.ref C_Machine) "MOST" = some (some (.int 1000 tk_Machine_MOST)))
    (og_Machine_MOST : PySem.W.specialIn K (.int 1000 tk_Machine_MOST) "__get__" = some none)
    (aC_TooMany : PySem.W.nsIn K mainGlobals "TooMany" = some (some (.ref C_TooMany)))
    (xL_TooMany : K.lookup C_TooMany = some (excClassObj nm_TooMany q_TooMany C_TooMany N_TooMany bs_TooMany [.ref o1_TooMany, .type "ValueError", .type "Exception", .type "BaseException", .type "object"] true sn_TooMany sub_TooMany ab_TooMany col_TooMany dd_TooMany m0_TooMany m1_TooMany m2_TooMany m3_TooMany m5_TooMany "ValueError.__new__"))
    (sa_TooMany : PySem.W.findIn K (.ref C_TooMany) "__setattr__" = some (some (.builtin "object.__setattr__")))
    (ga_TooMany : PySem.W.findIn K (.ref C_TooMany) "__getattribute__" = some (some (.builtin "BaseException.__getattribute__")))
    (gg_TooMany : PySem.W.findIn K (.ref C_TooMany) "__getattr__" = some none)
    (kC_TooMany : PySem.W.keepIn K (.ref C_TooMany) = true)
    (eC_TooMany : PySem.W.subIn K (.ref C_TooMany) (.type "BaseException") = some true)
    (tC_TooMany : PySem.W.typeIn K (.ref C_TooMany) = some (.type "type"))
    (hC_TooMany : PySem.W.hasDictIn K C_TooMany = true)
    (n_TooMany_subject : PySem.W.findIn K (.ref C_TooMany) "subject" = some none)
    (n_TooMany_most : PySem.W.findIn K (.ref C_TooMany) "most" = some none)
    (n_TooMany_code : PySem.W.findIn K (.ref C_TooMany) "code" = some none)
    (s_TooMany_AheadError : PySem.W.subIn K (.ref C_TooMany) (.ref C_AheadError) = some true)
    (s_TooMany_Missing : PySem.W.subIn K (.ref C_TooMany) (.ref C_Missing) = some false)
    (s_TooMany_NothingLeft : PySem.W.subIn K (.ref C_TooMany) (.ref C_NothingLeft) = some false)
    (a_InvalidSet___init : PySem.W.findIn K (.ref C_InvalidSet) "__init__" = some (some (.ref f_InvalidSet___init)))
    (t_InvalidSet___init : PySem.W.typeIn K (.ref f_InvalidSet___init) = some (.type "function"))
    (l_InvalidSet___init : K.lookup f_InvalidSet___init = some ⟨oc_InvalidSet___init, od_InvalidSet___init, .func (PySem.W.fnOf "__init__" "InvalidSet.__init__" (defArgs s_InvalidSet___init) (defBody s_InvalidSet___init) (defScope s_InvalidSet___init) .none kV_InvalidSet___init dc_InvalidSet___init pm_InvalidSet___init an_InvalidSet___init cd_InvalidSet___init ct_InvalidSet___init), sl_InvalidSet___init⟩) (c_InvalidSet___init : PySem.W.codeIn K cd_InvalidSet___init "InvalidSet.__init__" = true) (k_InvalidSet___init : PySem.W.keepIn K (.ref f_InvalidSet___init) = true)
    (a_InvalidState___init : PySem.W.findIn K (.ref C_InvalidState) "__init__" = some (some (.ref f_InvalidState___init)))
    (t_InvalidState___init : PySem.W.typeIn K (.ref f_InvalidState___init) = some (.type "function"))
    (l_InvalidState___init : K.lookup f_InvalidState___init = some ⟨oc_InvalidState___init, od_InvalidState___init, .func (PySem.W.fnOf "__init__" "InvalidState.__init__" (defArgs s_InvalidState___init) (defBody s_InvalidState___init) (defScope s_InvalidState___init) .none kV_InvalidState___init dc_InvalidState___init pm_InvalidState___init an_InvalidState___init cd_InvalidState___init ct_InvalidState___init), sl_InvalidState___init⟩) (c_InvalidState___init : PySem.W.codeIn K cd_InvalidState___init "InvalidState.__init__" = true) (k_InvalidState___init : PySem.W.keepIn K (.ref f_InvalidState___init) = true)
    (a_InvalidWord___init : PySem.W.findIn K (.ref C_InvalidWord) "__init__" = some (some (.ref f_InvalidWord___init)))
    (t_InvalidWord___init : PySem.W.typeIn K (.ref f_InvalidWord___init) = some (.type "function"))
    (l_InvalidWord___init : K.lookup f_InvalidWord___init = some ⟨oc_InvalidWord___init, od_InvalidWord___init, .func (PySem.W.fnOf "__init__" "InvalidWord.__init__" (defArgs s_InvalidWord___init) (defBody s_InvalidWord___init) (defScope s_InvalidWord___init) .none kV_InvalidWord___init dc_InvalidWord___init pm_InvalidWord___init an_InvalidWord___init cd_InvalidWord___init ct_InvalidWord___init), sl_InvalidWord___init⟩) (c_InvalidWord___init : PySem.W.codeIn K cd_InvalidWord___init "InvalidWord.__init__" = true) (k_InvalidWord___init : PySem.W.keepIn K (.ref f_InvalidWord___init) = true)
    (a_Machine___init : PySem.W.findIn K (.ref C_Machine) "__init__" = some (some (.ref f_Machine___init)))
    (i_Machine___init : PySem.W.isFn K (.ref f_Machine___init) = true)
    (l_Machine___init : K.lookup f_Machine___init = some ⟨oc_Machine___init, od_Machine___init, .func (PySem.W.fnOf "__init__" "Machine.__init__" (defArgs s_Machine___init) (defBody s_Machine___init) (defScope s_Machine___init) .none kV_Machine___init dc_Machine___init pm_Machine___init an_Machine___init cd_Machine___init ct_Machine___init), sl_Machine___init⟩) (c_Machine___init : PySem.W.codeIn K cd_Machine___init "Machine.__init__" = true) (k_Machine___init : PySem.W.keepIn K (.ref f_Machine___init) = true)
    (a_Machine_after : PySem.W.findIn K (.ref C_Machine) "after" = some (some (.ref f_Machine_after)))
    (i_Machine_after : PySem.W.isFn K (.ref f_Machine_after) = true)
    (l_Machine_after : K.lookup f_Machine_after = some ⟨oc_Machine_after, od_Machine_after, .func (PySem.W.fnOf "after" "Machine.after" (defArgs s_Machine_after) (defBody s_Machine_after) (defScope s_Machine_after) .none kV_Machine_after dc_Machine_after pm_Machine_after an_Machine_after cd_Machine_after ct_Machine_after), sl_Machine_after⟩) (c_Machine_after : PySem.W.codeIn K cd_Machine_after "Machine.after" = true) (k_Machine_after : PySem.W.keepIn K (.ref f_Machine_after) = true)
    (a_Machine_led : PySem.W.findIn K (.ref C_Machine) "led" = some (some (.ref f_Machine_led)))
    (i_Machine_led : PySem.W.isFn K (.ref f_Machine_led) = true)
    (l_Machine_led : K.lookup f_Machine_led = some ⟨oc_Machine_led, od_Machine_led, .func (PySem.W.fnOf "led" "Machine.led" (defArgs s_Machine_led) (defBody s_Machine_led) (defScope s_Machine_led) .none kV_Machine_led dc_Machine_led pm_Machine_led an_Machine_led cd_Machine_led ct_Machine_led), sl_Machine_led⟩) (c_Machine_led : PySem.W.codeIn K cd_Machine_led "Machine.led" = true) (k_Machine_led : PySem.W.keepIn K (.ref f_Machine_led) = true)
    (a_Machine_reachable : PySem.W.findIn K (.ref C_Machine) "reachable" = some (some (.ref f_Machine_reachable)))
    (i_Machine_reachable : PySem.W.isFn K (.ref f_Machine_reachable) = true)
    (l_Machine_reachable : K.lookup f_Machine_reachable = some ⟨oc_Machine_reachable, od_Machine_reachable, .func (PySem.W.fnOf "reachable" "Machine.reachable" (defArgs s_Machine_reachable) (defBody s_Machine_reachable) (defScope s_Machine_reachable) .none kV_Machine_reachable dc_Machine_reachable pm_Machine_reachable an_Machine_reachable cd_Machine_reachable ct_Machine_reachable), sl_Machine_reachable⟩) (c_Machine_reachable : PySem.W.codeIn K cd_Machine_reachable "Machine.reachable" = true) (k_Machine_reachable : PySem.W.keepIn K (.ref f_Machine_reachable) = true)
    (a_TooMany___init : PySem.W.findIn K (.ref C_TooMany) "__init__" = some (some (.ref f_TooMany___init)))
    (t_TooMany___init : PySem.W.typeIn K (.ref f_TooMany___init) = some (.type "function"))
    (l_TooMany___init : K.lookup f_TooMany___init = some ⟨oc_TooMany___init, od_TooMany___init, .func (PySem.W.fnOf "__init__" "TooMany.__init__" (defArgs s_TooMany___init) (defBody s_TooMany___init) (defScope s_TooMany___init) .none kV_TooMany___init dc_TooMany___init pm_TooMany___init an_TooMany___init cd_TooMany___init ct_TooMany___init), sl_TooMany___init⟩) (c_TooMany___init : PySem.W.codeIn K cd_TooMany___init "TooMany.__init__" = true) (k_TooMany___init : PySem.W.keepIn K (.ref f_TooMany___init) = true)
    (a_all_got : PySem.W.nsIn K mainGlobals "_law_all_got" = some (some (.ref f_all_got)))
    (l_all_got : K.lookup f_all_got = some ⟨oc_all_got, od_all_got, .func (PySem.W.fnOf "_law_all_got" "_law_all_got" (defArgs s_all_got) (defBody s_all_got) (defScope s_all_got) .none kV_all_got dc_all_got pm_all_got an_all_got cd_all_got ct_all_got), sl_all_got⟩) (c_all_got : PySem.W.codeIn K cd_all_got "_law_all_got" = true) (k_all_got : PySem.W.keepIn K (.ref f_all_got) = true)
    (a_bag : PySem.W.nsIn K mainGlobals "_law_bag" = some (some (.ref f_bag)))
    (l_bag : K.lookup f_bag = some ⟨oc_bag, od_bag, .func (PySem.W.fnOf "_law_bag" "_law_bag" (defArgs s_bag) (defBody s_bag) (defScope s_bag) .none kV_bag dc_bag pm_bag an_bag cd_bag ct_bag), sl_bag⟩) (c_bag : PySem.W.codeIn K cd_bag "_law_bag" = true) (k_bag : PySem.W.keepIn K (.ref f_bag) = true)
    (a_field : PySem.W.nsIn K mainGlobals "_law_field" = some (some (.ref f_field)))
    (l_field : K.lookup f_field = some ⟨oc_field, od_field, .func (PySem.W.fnOf "_law_field" "_law_field" (defArgs s_field) (defBody s_field) (defScope s_field) .none kV_field dc_field pm_field an_field cd_field ct_field), sl_field⟩) (c_field : PySem.W.codeIn K cd_field "_law_field" = true) (k_field : PySem.W.keepIn K (.ref f_field) = true)
    (a_go : PySem.W.nsIn K mainGlobals "_law_go" = some (some (.ref f_go)))
    (l_go : K.lookup f_go = some ⟨oc_go, od_go, .func (PySem.W.fnOf "_law_go" "_law_go" (defArgs s_go) (defBody s_go) (defScope s_go) .none kV_go dc_go pm_go an_go cd_go ct_go), sl_go⟩) (c_go : PySem.W.codeIn K cd_go "_law_go" = true) (k_go : PySem.W.keepIn K (.ref f_go) = true)
    (a_goals : PySem.W.nsIn K mainGlobals "_law_goals" = some (some (.ref f_goals)))
    (l_goals : K.lookup f_goals = some ⟨oc_goals, od_goals, .func (PySem.W.fnOf "_law_goals" "_law_goals" (defArgs s_goals) (defBody s_goals) (defScope s_goals) .none kV_goals dc_goals pm_goals an_goals cd_goals ct_goals), sl_goals⟩) (c_goals : PySem.W.codeIn K cd_goals "_law_goals" = true) (k_goals : PySem.W.keepIn K (.ref f_goals) = true)
    (a_got : PySem.W.nsIn K mainGlobals "_law_got" = some (some (.ref f_got)))
    (l_got : K.lookup f_got = some ⟨oc_got, od_got, .func (PySem.W.fnOf "_law_got" "_law_got" (defArgs s_got) (defBody s_got) (defScope s_got) .none kV_got dc_got pm_got an_got cd_got ct_got), sl_got⟩) (c_got : PySem.W.codeIn K cd_got "_law_got" = true) (k_got : PySem.W.keepIn K (.ref f_got) = true)
    (a_of : PySem.W.nsIn K mainGlobals "_law_of" = some (some (.ref f_of)))
    (l_of : K.lookup f_of = some ⟨oc_of, od_of, .func (PySem.W.fnOf "_law_of" "_law_of" (defArgs s_of) (defBody s_of) (defScope s_of) .none kV_of dc_of pm_of an_of cd_of ct_of), sl_of⟩) (c_of : PySem.W.codeIn K cd_of "_law_of" = true) (k_of : PySem.W.keepIn K (.ref f_of) = true)
    (a_pull : PySem.W.nsIn K mainGlobals "_law_pull" = some (some (.ref f_pull)))
    (l_pull : K.lookup f_pull = some ⟨oc_pull, od_pull, .func (PySem.W.fnOf "_law_pull" "_law_pull" (defArgs s_pull) (defBody s_pull) (defScope s_pull) .none kV_pull dc_pull pm_pull an_pull cd_pull ct_pull), sl_pull⟩) (c_pull : PySem.W.codeIn K cd_pull "_law_pull" = true) (k_pull : PySem.W.keepIn K (.ref f_pull) = true)
    (a_reach : PySem.W.nsIn K mainGlobals "_law_reach" = some (some (.ref f_reach)))
    (l_reach : K.lookup f_reach = some ⟨oc_reach, od_reach, .func (PySem.W.fnOf "_law_reach" "_law_reach" (defArgs s_reach) (defBody s_reach) (defScope s_reach) .none kV_reach dc_reach pm_reach an_reach cd_reach ct_reach), sl_reach⟩) (c_reach : PySem.W.codeIn K cd_reach "_law_reach" = true) (k_reach : PySem.W.keepIn K (.ref f_reach) = true)
    (a_same : PySem.W.nsIn K mainGlobals "_law_same" = some (some (.ref f_same)))
    (l_same : K.lookup f_same = some ⟨oc_same, od_same, .func (PySem.W.fnOf "_law_same" "_law_same" (defArgs s_same) (defBody s_same) (defScope s_same) .none kV_same dc_same pm_same an_same cd_same ct_same), sl_same⟩) (c_same : PySem.W.codeIn K cd_same "_law_same" = true) (k_same : PySem.W.keepIn K (.ref f_same) = true)
    (a_signs : PySem.W.nsIn K mainGlobals "_law_signs" = some (some (.ref f_signs)))
    (l_signs : K.lookup f_signs = some ⟨oc_signs, od_signs, .func (PySem.W.fnOf "_law_signs" "_law_signs" (defArgs s_signs) (defBody s_signs) (defScope s_signs) .none kV_signs dc_signs pm_signs an_signs cd_signs ct_signs), sl_signs⟩) (c_signs : PySem.W.codeIn K cd_signs "_law_signs" = true) (k_signs : PySem.W.keepIn K (.ref f_signs) = true)
    (a_text : PySem.W.nsIn K mainGlobals "_law_text" = some (some (.ref f_text)))
    (l_text : K.lookup f_text = some ⟨oc_text, od_text, .func (PySem.W.fnOf "_law_text" "_law_text" (defArgs s_text) (defBody s_text) (defScope s_text) .none kV_text dc_text pm_text an_text cd_text ct_text), sl_text⟩) (c_text : PySem.W.codeIn K cd_text "_law_text" = true) (k_text : PySem.W.keepIn K (.ref f_text) = true)
    (a_ends_of : PySem.W.nsIn K mainGlobals "ends_of" = some (some (.ref f_ends_of)))
    (l_ends_of : K.lookup f_ends_of = some ⟨oc_ends_of, od_ends_of, .func (PySem.W.fnOf "ends_of" "ends_of" (defArgs s_ends_of) (defBody s_ends_of) (defScope s_ends_of) .none kV_ends_of dc_ends_of pm_ends_of an_ends_of cd_ends_of ct_ends_of), sl_ends_of⟩) (c_ends_of : PySem.W.codeIn K cd_ends_of "ends_of" = true) (k_ends_of : PySem.W.keepIn K (.ref f_ends_of) = true)
    (a_few_reachable : PySem.W.nsIn K mainGlobals "few_reachable" = some (some (.ref f_few_reachable)))
    (l_few_reachable : K.lookup f_few_reachable = some ⟨oc_few_reachable, od_few_reachable, .func (PySem.W.fnOf "few_reachable" "few_reachable" (defArgs s_few_reachable) (defBody s_few_reachable) (defScope s_few_reachable) .none kV_few_reachable dc_few_reachable pm_few_reachable an_few_reachable cd_few_reachable ct_few_reachable), sl_few_reachable⟩) (c_few_reachable : PySem.W.codeIn K cd_few_reachable "few_reachable" = true) (k_few_reachable : PySem.W.keepIn K (.ref f_few_reachable) = true)
    (a_first_steps : PySem.W.nsIn K mainGlobals "first_steps" = some (some (.ref f_first_steps)))
    (l_first_steps : K.lookup f_first_steps = some ⟨oc_first_steps, od_first_steps, .func (PySem.W.fnOf "first_steps" "first_steps" (defArgs s_first_steps) (defBody s_first_steps) (defScope s_first_steps) .none kV_first_steps dc_first_steps pm_first_steps an_first_steps cd_first_steps ct_first_steps), sl_first_steps⟩) (c_first_steps : PySem.W.codeIn K cd_first_steps "first_steps" = true) (k_first_steps : PySem.W.keepIn K (.ref f_first_steps) = true)
    (a_image : PySem.W.nsIn K mainGlobals "image" = some (some (.ref f_image)))
    (l_image : K.lookup f_image = some ⟨oc_image, od_image, .func (PySem.W.fnOf "image" "image" (defArgs s_image) (defBody s_image) (defScope s_image) .none kV_image dc_image pm_image an_image cd_image ct_image), sl_image⟩) (c_image : PySem.W.codeIn K cd_image "image" = true) (k_image : PySem.W.keepIn K (.ref f_image) = true)
    (a_is_alphabet : PySem.W.nsIn K mainGlobals "is_alphabet" = some (some (.ref f_is_alphabet)))
    (l_is_alphabet : K.lookup f_is_alphabet = some ⟨oc_is_alphabet, od_is_alphabet, .func (PySem.W.fnOf "is_alphabet" "is_alphabet" (defArgs s_is_alphabet) (defBody s_is_alphabet) (defScope s_is_alphabet) .none kV_is_alphabet dc_is_alphabet pm_is_alphabet an_is_alphabet cd_is_alphabet ct_is_alphabet), sl_is_alphabet⟩) (c_is_alphabet : PySem.W.codeIn K cd_is_alphabet "is_alphabet" = true) (k_is_alphabet : PySem.W.keepIn K (.ref f_is_alphabet) = true)
    (a_is_below : PySem.W.nsIn K mainGlobals "is_below" = some (some (.ref f_is_below)))
    (l_is_below : K.lookup f_is_below = some ⟨oc_is_below, od_is_below, .func (PySem.W.fnOf "is_below" "is_below" (defArgs s_is_below) (defBody s_is_below) (defScope s_is_below) .none kV_is_below dc_is_below pm_is_below an_is_below cd_is_below ct_is_below), sl_is_below⟩) (c_is_below : PySem.W.codeIn K cd_is_below "is_below" = true) (k_is_below : PySem.W.keepIn K (.ref f_is_below) = true)
    (a_is_listed : PySem.W.nsIn K mainGlobals "is_listed" = some (some (.ref f_is_listed)))
    (l_is_listed : K.lookup f_is_listed = some ⟨oc_is_listed, od_is_listed, .func (PySem.W.fnOf "is_listed" "is_listed" (defArgs s_is_listed) (defBody s_is_listed) (defScope s_is_listed) .none kV_is_listed dc_is_listed pm_is_listed an_is_listed cd_is_listed ct_is_listed), sl_is_listed⟩) (c_is_listed : PySem.W.codeIn K cd_is_listed "is_listed" = true) (k_is_listed : PySem.W.keepIn K (.ref f_is_listed) = true)
    (a_is_number : PySem.W.nsIn K mainGlobals "is_number" = some (some (.ref f_is_number)))
    (l_is_number : K.lookup f_is_number = some ⟨oc_is_number, od_is_number, .func (PySem.W.fnOf "is_number" "is_number" (defArgs s_is_number) (defBody s_is_number) (defScope s_is_number) .none kV_is_number dc_is_number pm_is_number an_is_number cd_is_number ct_is_number), sl_is_number⟩) (c_is_number : PySem.W.codeIn K cd_is_number "is_number" = true) (k_is_number : PySem.W.keepIn K (.ref f_is_number) = true)
    (a_is_row : PySem.W.nsIn K mainGlobals "is_row" = some (some (.ref f_is_row)))
    (l_is_row : K.lookup f_is_row = some ⟨oc_is_row, od_is_row, .func (PySem.W.fnOf "is_row" "is_row" (defArgs s_is_row) (defBody s_is_row) (defScope s_is_row) .none kV_is_row dc_is_row pm_is_row an_is_row cd_is_row ct_is_row), sl_is_row⟩) (c_is_row : PySem.W.codeIn K cd_is_row "is_row" = true) (k_is_row : PySem.W.keepIn K (.ref f_is_row) = true)
    (a_is_set_of : PySem.W.nsIn K mainGlobals "is_set_of" = some (some (.ref f_is_set_of)))
    (l_is_set_of : K.lookup f_is_set_of = some ⟨oc_is_set_of, od_is_set_of, .func (PySem.W.fnOf "is_set_of" "is_set_of" (defArgs s_is_set_of) (defBody s_is_set_of) (defScope s_is_set_of) .none kV_is_set_of dc_is_set_of pm_is_set_of an_is_set_of cd_is_set_of ct_is_set_of), sl_is_set_of⟩) (c_is_set_of : PySem.W.codeIn K cd_is_set_of "is_set_of" = true) (k_is_set_of : PySem.W.keepIn K (.ref f_is_set_of) = true)
    (a_is_word : PySem.W.nsIn K mainGlobals "is_word" = some (some (.ref f_is_word)))
    (l_is_word : K.lookup f_is_word = some ⟨oc_is_word, od_is_word, .func (PySem.W.fnOf "is_word" "is_word" (defArgs s_is_word) (defBody s_is_word) (defScope s_is_word) .none kV_is_word dc_is_word pm_is_word an_is_word cd_is_word ct_is_word), sl_is_word⟩) (c_is_word : PySem.W.codeIn K cd_is_word "is_word" = true) (k_is_word : PySem.W.keepIn K (.ref f_is_word) = true)
    (a_law : PySem.W.nsIn K mainGlobals "law" = some (some (.ref f_law)))
    (l_law : K.lookup f_law = some ⟨oc_law, od_law, .func (PySem.W.fnOf "law" "law" (defArgs s_law) (defBody s_law) (defScope s_law) .none kV_law dc_law pm_law an_law cd_law ct_law), sl_law⟩) (c_law : PySem.W.codeIn K cd_law "law" = true) (k_law : PySem.W.keepIn K (.ref f_law) = true)
    (a_led_by : PySem.W.nsIn K mainGlobals "led_by" = some (some (.ref f_led_by)))
    (l_led_by : K.lookup f_led_by = some ⟨oc_led_by, od_led_by, .func (PySem.W.fnOf "led_by" "led_by" (defArgs s_led_by) (defBody s_led_by) (defScope s_led_by) .none kV_led_by dc_led_by pm_led_by an_led_by cd_led_by ct_led_by), sl_led_by⟩) (c_led_by : PySem.W.codeIn K cd_led_by "led_by" = true) (k_led_by : PySem.W.keepIn K (.ref f_led_by) = true)
    (a_turn : PySem.W.nsIn K mainGlobals "turn" = some (some (.ref f_turn)))
    (l_turn : K.lookup f_turn = some ⟨oc_turn, od_turn, .func (PySem.W.fnOf "turn" "turn" (defArgs s_turn) (defBody s_turn) (defScope s_turn) .none kV_turn dc_turn pm_turn an_turn cd_turn ct_turn), sl_turn⟩) (c_turn : PySem.W.codeIn K cd_turn "turn" = true) (k_turn : PySem.W.keepIn K (.ref f_turn) = true)
    (z_abs : PySem.W.nsIn K mainGlobals "abs" = some none)
    (z_all : PySem.W.nsIn K mainGlobals "all" = some none)
    (z_any : PySem.W.nsIn K mainGlobals "any" = some none)
    (z_bool : PySem.W.nsIn K mainGlobals "bool" = some none)
    (z_dict : PySem.W.nsIn K mainGlobals "dict" = some none)
    (z_enumerate : PySem.W.nsIn K mainGlobals "enumerate" = some none)
    (z_int : PySem.W.nsIn K mainGlobals "int" = some none)
    (z_isinstance : PySem.W.nsIn K mainGlobals "isinstance" = some none)
    (z_len : PySem.W.nsIn K mainGlobals "len" = some none)
    (z_list : PySem.W.nsIn K mainGlobals "list" = some none)
    (z_max : PySem.W.nsIn K mainGlobals "max" = some none)
    (z_min : PySem.W.nsIn K mainGlobals "min" = some none)
    (z_range : PySem.W.nsIn K mainGlobals "range" = some none)
    (z_repr : PySem.W.nsIn K mainGlobals "repr" = some none)
    (z_set : PySem.W.nsIn K mainGlobals "set" = some none)
    (z_sorted : PySem.W.nsIn K mainGlobals "sorted" = some none)
    (z_str : PySem.W.nsIn K mainGlobals "str" = some none)
    (z_tuple : PySem.W.nsIn K mainGlobals "tuple" = some none)
    (z_zip : PySem.W.nsIn K mainGlobals "zip" = some none)
    (c_MOST_LETTERS : PySem.W.nsIn K mainGlobals "MOST_LETTERS" = some (some (.int 4 t_MOST_LETTERS)))
    (c_MOST_STATES : PySem.W.nsIn K mainGlobals "MOST_STATES" = some (some (.int 6 t_MOST_STATES)))
    (ecL : cd_law = .ref cL) (lcL : K.lookup cL = some ⟨ocL, odL, .fields vsL, slL⟩) (epL : vsL[11]? = some (.ref PL)) (hcL : PySem.W.codeHdIn K cL PL = true) (npL : K.lookup PL = none) (tbL : h.get? PL = some (PySem.W.tabObj #[])) :
    LamX.LawAtS l w K CX0 16 63 "_law_script" mg fa h := by
  have e := hfa.symm.trans (PySem.W.mg_of X G a_law)
  cases e
  let T : Env K mg := {
    C_AheadError := _, gC_AheadError := PySem.W.mg_of X G aC_AheadError,
    C_Missing := _, gC_Missing := PySem.W.mg_of X G aC_Missing,
    C_NothingLeft := _, gC_NothingLeft := PySem.W.mg_of X G aC_NothingLeft,
    C_InvalidSet := _, gC_InvalidSet := PySem.W.mg_of X G aC_InvalidSet, n_InvalidSet_given := n_InvalidSet_given, n_InvalidSet_code := n_InvalidSet_code, x_InvalidSet := ⟨⟨_, _, _, _, _, _, _, _, _, _, _, _, _, _, _, xL_InvalidSet, (show refsVE [.type "ValueError", .type "Exception", .type "BaseException", .type "object"] = true by decide +kernel)⟩, sa_InvalidSet, eC_InvalidSet, tC_InvalidSet, kC_InvalidSet⟩, y_InvalidSet := ⟨ga_InvalidSet, gg_InvalidSet, eC_InvalidSet, hC_InvalidSet⟩, e_InvalidSet := exm3 bx_AheadError is_AheadError ty_AheadError s_InvalidSet_AheadError bx_Missing is_Missing ty_Missing s_InvalidSet_Missing bx_NothingLeft is_NothingLeft ty_NothingLeft s_InvalidSet_NothingLeft,
    C_InvalidState := _, gC_InvalidState := PySem.W.mg_of X G aC_InvalidState, n_InvalidState_given := n_InvalidState_given, n_InvalidState_code := n_InvalidState_code, x_InvalidState := ⟨⟨_, _, _, _, _, _, _, _, _, _, _, _, _, _, _, xL_InvalidState, (show refsVE [.type "ValueError", .type "Exception", .type "BaseException", .type "object"] = true by decide +kernel)⟩, sa_InvalidState, eC_InvalidState, tC_InvalidState, kC_InvalidState⟩, y_InvalidState := ⟨ga_InvalidState, gg_InvalidState, eC_InvalidState, hC_InvalidState⟩, e_InvalidState := exm3 bx_AheadError is_AheadError ty_AheadError s_InvalidState_AheadError bx_Missing is_Missing ty_Missing s_InvalidState_Missing bx_NothingLeft is_NothingLeft ty_NothingLeft s_InvalidState_NothingLeft,
    C_InvalidWord := _, gC_InvalidWord := PySem.W.mg_of X G aC_InvalidWord, n_InvalidWord_given := n_InvalidWord_given, n_InvalidWord_code := n_InvalidWord_code, x_InvalidWord := ⟨⟨_, _, _, _, _, _, _, _, _, _, _, _, _, _, _, xL_InvalidWord, (show refsVE [.type "ValueError", .type "Exception", .type "BaseException", .type "object"] = true by decide +kernel)⟩, sa_InvalidWord, eC_InvalidWord, tC_InvalidWord, kC_InvalidWord⟩, y_InvalidWord := ⟨ga_InvalidWord, gg_InvalidWord, eC_InvalidWord, hC_InvalidWord⟩, e_InvalidWord := exm3 bx_AheadError is_AheadError ty_AheadError s_InvalidWord_AheadError bx_Missing is_Missing ty_Missing s_InvalidWord_Missing bx_NothingLeft is_NothingLeft ty_NothingLeft s_InvalidWord_NothingLeft,
    C_Machine := _, gC_Machine := PySem.W.mg_of X G aC_Machine, n_Machine__alphabet := n_Machine__alphabet, n_Machine__rows := n_Machine__rows, n_Machine__start := n_Machine__start, n_Machine__accepts := n_Machine__accepts, u_Machine_MOST := _, o_Machine_MOST := ⟨o_Machine_MOST, ⟨_, rfl⟩, og_Machine_MOST, rfl⟩, cl_Machine := ⟨pg_Machine, hd_Machine, po_Machine, sa_Machine⟩,
    C_TooMany := _, gC_TooMany := PySem.W.mg_of X G aC_TooMany, n_TooMany_subject := n_TooMany_subject, n_TooMany_most := n_TooMany_most, n_TooMany_code := n_TooMany_code, x_TooMany := ⟨⟨_, _, _, _, _, _, _, _, _, _, _, _, _, _, _, xL_TooMany, (show refsVE [.type "ValueError", .type "Exception", .type "BaseException", .type "object"] = true by decide +kernel)⟩, sa_TooMany, eC_TooMany, tC_TooMany, kC_TooMany⟩, y_TooMany := ⟨ga_TooMany, gg_TooMany, eC_TooMany, hC_TooMany⟩, e_TooMany := exm3 bx_AheadError is_AheadError ty_AheadError s_TooMany_AheadError bx_Missing is_Missing ty_Missing s_TooMany_Missing bx_NothingLeft is_NothingLeft ty_NothingLeft s_TooMany_NothingLeft,
    f_InvalidSet___init := _, fd_InvalidSet___init := _, F_InvalidSet___init := fun_mk (st := s_InvalidSet___init) l_InvalidSet___init c_InvalidSet___init k_InvalidSet___init, b_InvalidSet___init := ((fun_mk (st := s_InvalidSet___init) l_InvalidSet___init c_InvalidSet___init k_InvalidSet___init).binds (ps := ["self", "given"]) (fun _ _ _ _ _ _ us hl => match us, hl with | [_, _], _ => rfl)), i_InvalidSet___init := a_InvalidSet___init, t_InvalidSet___init := t_InvalidSet___init,
    f_InvalidState___init := _, fd_InvalidState___init := _, F_InvalidState___init := fun_mk (st := s_InvalidState___init) l_InvalidState___init c_InvalidState___init k_InvalidState___init, b_InvalidState___init := ((fun_mk (st := s_InvalidState___init) l_InvalidState___init c_InvalidState___init k_InvalidState___init).binds (ps := ["self", "given"]) (fun _ _ _ _ _ _ us hl => match us, hl with | [_, _], _ => rfl)), i_InvalidState___init := a_InvalidState___init, t_InvalidState___init := t_InvalidState___init,
    f_InvalidWord___init := _, fd_InvalidWord___init := _, F_InvalidWord___init := fun_mk (st := s_InvalidWord___init) l_InvalidWord___init c_InvalidWord___init k_InvalidWord___init, b_InvalidWord___init := ((fun_mk (st := s_InvalidWord___init) l_InvalidWord___init c_InvalidWord___init k_InvalidWord___init).binds (ps := ["self", "given"]) (fun _ _ _ _ _ _ us hl => match us, hl with | [_, _], _ => rfl)), i_InvalidWord___init := a_InvalidWord___init, t_InvalidWord___init := t_InvalidWord___init,
    f_Machine___init := _, fd_Machine___init := _, F_Machine___init := fun_mk (st := s_Machine___init) l_Machine___init c_Machine___init k_Machine___init, b_Machine___init := kb_of (ps := ["self", "alphabet", "rows", "start"]) (n := 3) (ks := ["start"]) (fun_mk (st := s_Machine___init) l_Machine___init c_Machine___init k_Machine___init) (fun _ _ _ _ _ _ us ws h1 h2 => match us, ws, h1, h2 with | [_, _, _], [_], _, _ => rfl), k_Machine___init := ⟨mk_Machine, a_Machine___init, i_Machine___init, kc_Machine⟩,
    f_Machine_after := _, fd_Machine_after := _, F_Machine_after := fun_mk (st := s_Machine_after) l_Machine_after c_Machine_after k_Machine_after, b_Machine_after := ((fun_mk (st := s_Machine_after) l_Machine_after c_Machine_after k_Machine_after).binds (ps := ["self", "word"]) (fun _ _ _ _ _ _ us hl => match us, hl with | [_, _], _ => rfl)), m_Machine_after := ⟨a_Machine_after, i_Machine_after, k_Machine_after⟩,
    f_Machine_led := _, fd_Machine_led := _, F_Machine_led := fun_mk (st := s_Machine_led) l_Machine_led c_Machine_led k_Machine_led, b_Machine_led := ((fun_mk (st := s_Machine_led) l_Machine_led c_Machine_led k_Machine_led).binds (ps := ["self", "state", "word"]) (fun _ _ _ _ _ _ us hl => match us, hl with | [_, _, _], _ => rfl)), m_Machine_led := ⟨a_Machine_led, i_Machine_led, k_Machine_led⟩,
    f_Machine_reachable := _, fd_Machine_reachable := _, F_Machine_reachable := fun_mk (st := s_Machine_reachable) l_Machine_reachable c_Machine_reachable k_Machine_reachable, b_Machine_reachable := ((fun_mk (st := s_Machine_reachable) l_Machine_reachable c_Machine_reachable k_Machine_reachable).binds (ps := ["self"]) (fun _ _ _ _ _ _ us hl => match us, hl with | [_], _ => rfl)), m_Machine_reachable := ⟨a_Machine_reachable, i_Machine_reachable, k_Machine_reachable⟩,
    f_TooMany___init := _, fd_TooMany___init := _, F_TooMany___init := fun_mk (st := s_TooMany___init) l_TooMany___init c_TooMany___init k_TooMany___init, b_TooMany___init := ((fun_mk (st := s_TooMany___init) l_TooMany___init c_TooMany___init k_TooMany___init).binds (ps := ["self", "subject", "most"]) (fun _ _ _ _ _ _ us hl => match us, hl with | [_, _, _], _ => rfl)), i_TooMany___init := a_TooMany___init, t_TooMany___init := t_TooMany___init,
    f_all_got := _, fd_all_got := _, F_all_got := fun_mk (st := s_all_got) l_all_got c_all_got k_all_got, b_all_got := ((fun_mk (st := s_all_got) l_all_got c_all_got k_all_got).binds (ps := ["_law_asks"]) (fun _ _ _ _ _ _ us hl => match us, hl with | [_], _ => rfl)), g_all_got := PySem.W.mg_of X G a_all_got,
    f_bag := _, fd_bag := _, F_bag := fun_mk (st := s_bag) l_bag c_bag k_bag, b_bag := ((fun_mk (st := s_bag) l_bag c_bag k_bag).binds (ps := ["_law_script"]) (fun _ _ _ _ _ _ us hl => match us, hl with | [_], _ => rfl)), g_bag := PySem.W.mg_of X G a_bag,
    f_field := _, fd_field := _, F_field := fun_mk (st := s_field) l_field c_field k_field, b_field := ((fun_mk (st := s_field) l_field c_field k_field).binds (ps := ["_law_e"]) (fun _ _ _ _ _ _ us hl => match us, hl with | [_], _ => rfl)), g_field := PySem.W.mg_of X G a_field,
    f_go := _, fd_go := _, F_go := fun_mk (st := s_go) l_go c_go k_go, b_go := ((fun_mk (st := s_go) l_go c_go k_go).binds (ps := ["_law_goals_here", "_law_signs_here", "_law_at", "_law_text_here"]) (fun _ _ _ _ _ _ us hl => match us, hl with | [_, _, _, _], _ => rfl)), g_go := PySem.W.mg_of X G a_go,
    f_goals := _, fd_goals := _, F_goals := fun_mk (st := s_goals) l_goals c_goals k_goals, b_goals := ((fun_mk (st := s_goals) l_goals c_goals k_goals).binds (ps := ["_law_bag_here", "_law_many", "_law_width"]) (fun _ _ _ _ _ _ us hl => match us, hl with | [_, _, _], _ => rfl)), g_goals := PySem.W.mg_of X G a_goals,
    f_got := _, fd_got := _, F_got := fun_mk (st := s_got) l_got c_got k_got, b_got := ((fun_mk (st := s_got) l_got c_got k_got).binds (ps := ["_law_ask"]) (fun _ _ _ _ _ _ us hl => match us, hl with | [_], _ => rfl)), g_got := PySem.W.mg_of X G a_got,
    f_of := _, fd_of := _, F_of := fun_mk (st := s_of) l_of c_of k_of, b_of := ((fun_mk (st := s_of) l_of c_of k_of).binds (ps := ["_law_bag_here", "_law_some"]) (fun _ _ _ _ _ _ us hl => match us, hl with | [_, _], _ => rfl)), g_of := PySem.W.mg_of X G a_of,
    f_pull := _, fd_pull := _, F_pull := fun_mk (st := s_pull) l_pull c_pull k_pull, b_pull := ((fun_mk (st := s_pull) l_pull c_pull k_pull).binds (ps := ["_law_bag_here", "_law_sides"]) (fun _ _ _ _ _ _ us hl => match us, hl with | [_, _], _ => rfl)), g_pull := PySem.W.mg_of X G a_pull,
    f_reach := _, fd_reach := _, F_reach := fun_mk (st := s_reach) l_reach c_reach k_reach, b_reach := ((fun_mk (st := s_reach) l_reach c_reach k_reach).binds (ps := ["_law_goals_here", "_law_signs_here", "_law_at"]) (fun _ _ _ _ _ _ us hl => match us, hl with | [_, _, _], _ => rfl)), g_reach := PySem.W.mg_of X G a_reach,
    f_same := _, fd_same := _, F_same := fun_mk (st := s_same) l_same c_same k_same, b_same := ((fun_mk (st := s_same) l_same c_same k_same).binds (ps := ["_law_found", "_law_due"]) (fun _ _ _ _ _ _ us hl => match us, hl with | [_, _], _ => rfl)), g_same := PySem.W.mg_of X G a_same,
    f_signs := _, fd_signs := _, F_signs := fun_mk (st := s_signs) l_signs c_signs k_signs, b_signs := ((fun_mk (st := s_signs) l_signs c_signs k_signs).binds (ps := ["_law_bag_here"]) (fun _ _ _ _ _ _ us hl => match us, hl with | [_], _ => rfl)), g_signs := PySem.W.mg_of X G a_signs,
    f_text := _, fd_text := _, F_text := fun_mk (st := s_text) l_text c_text k_text, b_text := ((fun_mk (st := s_text) l_text c_text k_text).binds (ps := ["_law_bag_here", "_law_signs_here", "_law_size"]) (fun _ _ _ _ _ _ us hl => match us, hl with | [_, _, _], _ => rfl)), g_text := PySem.W.mg_of X G a_text,
    f_ends_of := _, fd_ends_of := _, F_ends_of := fun_mk (st := s_ends_of) l_ends_of c_ends_of k_ends_of, b_ends_of := ((fun_mk (st := s_ends_of) l_ends_of c_ends_of k_ends_of).binds (ps := ["machine", "states", "word"]) (fun _ _ _ _ _ _ us hl => match us, hl with | [_, _, _], _ => rfl)), g_ends_of := PySem.W.mg_of X G a_ends_of,
    f_few_reachable := _, fd_few_reachable := _, F_few_reachable := fun_mk (st := s_few_reachable) l_few_reachable c_few_reachable k_few_reachable, b_few_reachable := ((fun_mk (st := s_few_reachable) l_few_reachable c_few_reachable k_few_reachable).binds (ps := ["machine"]) (fun _ _ _ _ _ _ us hl => match us, hl with | [_], _ => rfl)), g_few_reachable := PySem.W.mg_of X G a_few_reachable,
    f_first_steps := _, fd_first_steps := _, F_first_steps := fun_mk (st := s_first_steps) l_first_steps c_first_steps k_first_steps, b_first_steps := ((fun_mk (st := s_first_steps) l_first_steps c_first_steps k_first_steps).binds (ps := ["rows", "start"]) (fun _ _ _ _ _ _ us hl => match us, hl with | [_, _], _ => rfl)), g_first_steps := PySem.W.mg_of X G a_first_steps,
    f_image := _, fd_image := _, F_image := fun_mk (st := s_image) l_image c_image k_image, b_image := ((fun_mk (st := s_image) l_image c_image k_image).binds (ps := ["machine", "states", "word"]) (fun _ _ _ _ _ _ us hl => match us, hl with | [_, _, _], _ => rfl)), g_image := PySem.W.mg_of X G a_image,
    f_is_alphabet := _, fd_is_alphabet := _, F_is_alphabet := fun_mk (st := s_is_alphabet) l_is_alphabet c_is_alphabet k_is_alphabet, b_is_alphabet := ((fun_mk (st := s_is_alphabet) l_is_alphabet c_is_alphabet k_is_alphabet).binds (ps := ["value"]) (fun _ _ _ _ _ _ us hl => match us, hl with | [_], _ => rfl)), g_is_alphabet := PySem.W.mg_of X G a_is_alphabet,
    f_is_below := _, fd_is_below := _, F_is_below := fun_mk (st := s_is_below) l_is_below c_is_below k_is_below, b_is_below := ((fun_mk (st := s_is_below) l_is_below c_is_below k_is_below).binds (ps := ["value", "bound"]) (fun _ _ _ _ _ _ us hl => match us, hl with | [_, _], _ => rfl)), g_is_below := PySem.W.mg_of X G a_is_below,
    f_is_listed := _, fd_is_listed := _, F_is_listed := fun_mk (st := s_is_listed) l_is_listed c_is_listed k_is_listed, b_is_listed := ((fun_mk (st := s_is_listed) l_is_listed c_is_listed k_is_listed).binds (ps := ["value"]) (fun _ _ _ _ _ _ us hl => match us, hl with | [_], _ => rfl)), g_is_listed := PySem.W.mg_of X G a_is_listed,
    f_is_number := _, fd_is_number := _, F_is_number := fun_mk (st := s_is_number) l_is_number c_is_number k_is_number, b_is_number := ((fun_mk (st := s_is_number) l_is_number c_is_number k_is_number).binds (ps := ["value"]) (fun _ _ _ _ _ _ us hl => match us, hl with | [_], _ => rfl)), g_is_number := PySem.W.mg_of X G a_is_number,
    f_is_row := _, fd_is_row := _, F_is_row := fun_mk (st := s_is_row) l_is_row c_is_row k_is_row, b_is_row := ((fun_mk (st := s_is_row) l_is_row c_is_row k_is_row).binds (ps := ["value", "letters", "states"]) (fun _ _ _ _ _ _ us hl => match us, hl with | [_, _, _], _ => rfl)), g_is_row := PySem.W.mg_of X G a_is_row,
    f_is_set_of := _, fd_is_set_of := _, F_is_set_of := fun_mk (st := s_is_set_of) l_is_set_of c_is_set_of k_is_set_of, b_is_set_of := ((fun_mk (st := s_is_set_of) l_is_set_of c_is_set_of k_is_set_of).binds (ps := ["value", "states"]) (fun _ _ _ _ _ _ us hl => match us, hl with | [_, _], _ => rfl)), g_is_set_of := PySem.W.mg_of X G a_is_set_of,
    f_is_word := _, fd_is_word := _, F_is_word := fun_mk (st := s_is_word) l_is_word c_is_word k_is_word, b_is_word := ((fun_mk (st := s_is_word) l_is_word c_is_word k_is_word).binds (ps := ["alphabet", "value"]) (fun _ _ _ _ _ _ us hl => match us, hl with | [_, _], _ => rfl)), g_is_word := PySem.W.mg_of X G a_is_word,
    f_law := _, fd_law := _, F_law := fun_mk (st := s_law) l_law c_law k_law, b_law := ((fun_mk (st := s_law) l_law c_law k_law).binds (ps := ["_law_script"]) (fun _ _ _ _ _ _ us hl => match us, hl with | [_], _ => rfl)), g_law := PySem.W.mg_of X G a_law,
    f_led_by := _, fd_led_by := _, F_led_by := fun_mk (st := s_led_by) l_led_by c_led_by k_led_by, b_led_by := ((fun_mk (st := s_led_by) l_led_by c_led_by k_led_by).binds (ps := ["rows", "alphabet", "state", "word"]) (fun _ _ _ _ _ _ us hl => match us, hl with | [_, _, _, _], _ => rfl)), g_led_by := PySem.W.mg_of X G a_led_by,
    f_turn := _, fd_turn := _, F_turn := fun_mk (st := s_turn) l_turn c_turn k_turn, b_turn := ((fun_mk (st := s_turn) l_turn c_turn k_turn).binds (ps := ["machine", "states", "word"]) (fun _ _ _ _ _ _ us hl => match us, hl with | [_, _, _], _ => rfl)), g_turn := PySem.W.mg_of X G a_turn,
    z_abs := PySem.W.mg_none_of X G z_abs,
    z_all := PySem.W.mg_none_of X G z_all,
    z_any := PySem.W.mg_none_of X G z_any,
    z_bool := PySem.W.mg_none_of X G z_bool,
    z_dict := PySem.W.mg_none_of X G z_dict,
    z_enumerate := PySem.W.mg_none_of X G z_enumerate,
    z_int := PySem.W.mg_none_of X G z_int,
    z_isinstance := PySem.W.mg_none_of X G z_isinstance,
    z_len := PySem.W.mg_none_of X G z_len,
    z_list := PySem.W.mg_none_of X G z_list,
    z_max := PySem.W.mg_none_of X G z_max,
    z_min := PySem.W.mg_none_of X G z_min,
    z_range := PySem.W.mg_none_of X G z_range,
    z_repr := PySem.W.mg_none_of X G z_repr,
    z_set := PySem.W.mg_none_of X G z_set,
    z_sorted := PySem.W.mg_none_of X G z_sorted,
    z_str := PySem.W.mg_none_of X G z_str,
    z_tuple := PySem.W.mg_none_of X G z_tuple,
    z_zip := PySem.W.mg_none_of X G z_zip,
    t_MOST_LETTERS := t_MOST_LETTERS, c_MOST_LETTERS := PySem.W.mg_of X G c_MOST_LETTERS,
    t_MOST_STATES := t_MOST_STATES, c_MOST_STATES := PySem.W.mg_of X G c_MOST_STATES }
  subst ecL
  exact ⟨_, [(cL, PL)], spLaw K PL, (fun p hp => by cases List.mem_singleton.mp hp; exact tbL), (fun p hp => by cases List.mem_singleton.mp hp; exact npL), (fun p hp => by cases List.mem_singleton.mp hp; exact PySem.W.codeHd_of_K X hcL), fun s v => .of_eq rfl,
    fun H a ns h1 _ h2 h3 => ⟨a, ns, rfl, h3, h1, h2 _ (List.mem_singleton.mpr rfl), fun _ => rfl⟩, fun base _ _ TB => ok_law T rfl (TB _ (List.mem_singleton.mpr rfl))⟩
end MyP
open PySem PySem.W PyProof.Rows
set_option maxHeartbeats 0 in
theorem PySem.Challenge.cw_onlyahead_k14_images_and_turns_of_words_holds : PySem.Challenge.rw_onlyahead_k14_images_and_turns_of_words.Holds := by
  w_on; o_law; k_head; (case hw => w_witness2)
  k_fill
  refine LamX.walk_ofTs (l := PySem.Challenge.rw_onlyahead_k14_images_and_turns_of_words) (n := 63) (k := 16) (x := "_law_script") (CX := fun _ => L2.CX0) rfl (by decide) rfl ⟨rfl, by decide, by decide⟩ (fun w h Y => PySem.W.km_in_of Y) ?F (fun _ _ _ _ _ h => h)
  case F =>
    intro w mg fa h Y KX G hmg
    refine' MyP.all_mk KX G hmg ?aC_AheadError ?bx_AheadError ?is_AheadError ?ty_AheadError ?aC_Missing ?bx_Missing ?is_Missing ?ty_Missing ?aC_NothingLeft ?bx_NothingLeft ?is_NothingLeft ?ty_NothingLeft ?aC_InvalidSet ?xL_InvalidSet ?sa_InvalidSet ?ga_InvalidSet ?gg_InvalidSet ?kC_InvalidSet ?eC_InvalidSet ?tC_InvalidSet ?hC_InvalidSet ?n_InvalidSet_given ?n_InvalidSet_code ?s_InvalidSet_AheadError ?s_InvalidSet_Missing ?s_InvalidSet_NothingLeft ?aC_InvalidState ?xL_InvalidState ?sa_InvalidState ?ga_InvalidState ?gg_InvalidState ?kC_InvalidState ?eC_InvalidState ?tC_InvalidState ?hC_InvalidState ?n_InvalidState_given ?n_InvalidState_code ?s_InvalidState_AheadError ?s_InvalidState_Missing ?s_InvalidState_NothingLeft ?aC_InvalidWord ?xL_InvalidWord ?sa_InvalidWord ?ga_InvalidWord ?gg_InvalidWord ?kC_InvalidWord ?eC_InvalidWord ?tC_InvalidWord ?hC_InvalidWord ?n_InvalidWord_given ?n_InvalidWord_code ?s_InvalidWord_AheadError ?s_InvalidWord_Missing ?s_InvalidWord_NothingLeft ?aC_Machine ?pg_Machine ?hd_Machine ?po_Machine ?sa_Machine ?mk_Machine ?kc_Machine ?n_Machine__alphabet ?n_Machine__rows ?n_Machine__start ?n_Machine__accepts ?o_Machine_MOST ?og_Machine_MOST ?aC_TooMany ?xL_TooMany ?sa_TooMany ?ga_TooMany ?gg_TooMany ?kC_TooMany ?eC_TooMany ?tC_TooMany ?hC_TooMany ?n_TooMany_subject ?n_TooMany_most ?n_TooMany_code ?s_TooMany_AheadError ?s_TooMany_Missing ?s_TooMany_NothingLeft ?a_InvalidSet___init ?t_InvalidSet___init ?l_InvalidSet___init ?c_InvalidSet___init ?k_InvalidSet___init ?a_InvalidState___init ?t_InvalidState___init ?l_InvalidState___init ?c_InvalidState___init ?k_InvalidState___init ?a_InvalidWord___init ?t_InvalidWord___init ?l_InvalidWord___init ?c_InvalidWord___init ?k_InvalidWord___init ?a_Machine___init ?i_Machine___init ?l_Machine___init ?c_Machine___init ?k_Machine___init ?a_Machine_after ?i_Machine_after ?l_Machine_after ?c_Machine_after ?k_Machine_after ?a_Machine_led ?i_Machine_led ?l_Machine_led ?c_Machine_led ?k_Machine_led ?a_Machine_reachable ?i_Machine_reachable ?l_Machine_reachable ?c_Machine_reachable ?k_Machine_reachable ?a_TooMany___init ?t_TooMany___init ?l_TooMany___init ?c_TooMany___init ?k_TooMany___init ?a_all_got ?l_all_got ?c_all_got ?k_all_got ?a_bag ?l_bag ?c_bag ?k_bag ?a_field ?l_field ?c_field ?k_field ?a_go ?l_go ?c_go ?k_go ?a_goals ?l_goals ?c_goals ?k_goals ?a_got ?l_got ?c_got ?k_got ?a_of ?l_of ?c_of ?k_of ?a_pull ?l_pull ?c_pull ?k_pull ?a_reach ?l_reach ?c_reach ?k_reach ?a_same ?l_same ?c_same ?k_same ?a_signs ?l_signs ?c_signs ?k_signs ?a_text ?l_text ?c_text ?k_text ?a_ends_of ?l_ends_of ?c_ends_of ?k_ends_of ?a_few_reachable ?l_few_reachable ?c_few_reachable ?k_few_reachable ?a_first_steps ?l_first_steps ?c_first_steps ?k_first_steps ?a_image ?l_image ?c_image ?k_image ?a_is_alphabet ?l_is_alphabet ?c_is_alphabet ?k_is_alphabet ?a_is_below ?l_is_below ?c_is_below ?k_is_below ?a_is_listed ?l_is_listed ?c_is_listed ?k_is_listed ?a_is_number ?l_is_number ?c_is_number ?k_is_number ?a_is_row ?l_is_row ?c_is_row ?k_is_row ?a_is_set_of ?l_is_set_of ?c_is_set_of ?k_is_set_of ?a_is_word ?l_is_word ?c_is_word ?k_is_word ?a_law ?l_law ?c_law ?k_law ?a_led_by ?l_led_by ?c_led_by ?k_led_by ?a_turn ?l_turn ?c_turn ?k_turn ?z_abs ?z_all ?z_any ?z_bool ?z_dict ?z_enumerate ?z_int ?z_isinstance ?z_len ?z_list ?z_max ?z_min ?z_range ?z_repr ?z_set ?z_sorted ?z_str ?z_tuple ?z_zip ?c_MOST_LETTERS ?c_MOST_STATES ?ecL ?lcL ?epL ?hcL ?npL ?tbL
    (case aC_AheadError => k_is)
    (case bx_AheadError => k_is)
    (case is_AheadError => k_is)
    (case ty_AheadError => k_is)
    (case aC_Missing => k_is)
    (case bx_Missing => k_is)
    (case is_Missing => k_is)
    (case ty_Missing => k_is)
    (case aC_NothingLeft => k_is)
    (case bx_NothingLeft => k_is)
    (case is_NothingLeft => k_is)
    (case ty_NothingLeft => k_is)
    (case aC_InvalidSet => k_is)
    (case xL_InvalidSet => k_is)
    (case sa_InvalidSet => k_is)
    (case ga_InvalidSet => k_is)
    (case gg_InvalidSet => k_is)
    (case kC_InvalidSet => k_is)
    (case eC_InvalidSet => k_is)
    (case tC_InvalidSet => k_is)
    (case hC_InvalidSet => k_is)
    (case n_InvalidSet_given => k_is)
    (case n_InvalidSet_code => k_is)
    (case s_InvalidSet_AheadError => k_is)
    (case s_InvalidSet_Missing => k_is)
    (case s_InvalidSet_NothingLeft => k_is)
    (case aC_InvalidState => k_is)
    (case xL_InvalidState => k_is)
    (case sa_InvalidState => k_is)
    (case ga_InvalidState => k_is)
    (case gg_InvalidState => k_is)
    (case kC_InvalidState => k_is)
    (case eC_InvalidState => k_is)
    (case tC_InvalidState => k_is)
    (case hC_InvalidState => k_is)
    (case n_InvalidState_given => k_is)
    (case n_InvalidState_code => k_is)
    (case s_InvalidState_AheadError => k_is)
    (case s_InvalidState_Missing => k_is)
    (case s_InvalidState_NothingLeft => k_is)
    (case aC_InvalidWord => k_is)
    (case xL_InvalidWord => k_is)
    (case sa_InvalidWord => k_is)
    (case ga_InvalidWord => k_is)
    (case gg_InvalidWord => k_is)
    (case kC_InvalidWord => k_is)
    (case eC_InvalidWord => k_is)
    (case tC_InvalidWord => k_is)
    (case hC_InvalidWord => k_is)
    (case n_InvalidWord_given => k_is)
    (case n_InvalidWord_code => k_is)
    (case s_InvalidWord_AheadError => k_is)
    (case s_InvalidWord_Missing => k_is)
    (case s_InvalidWord_NothingLeft => k_is)
    (case aC_Machine => k_is)
    (case pg_Machine => k_is)
    (case hd_Machine => k_is)
    (case po_Machine => k_is)
    (case sa_Machine => k_is)
    (case mk_Machine => k_is)
    (case kc_Machine => k_is)
    (case n_Machine__alphabet => k_is)
    (case n_Machine__rows => k_is)
    (case n_Machine__start => k_is)
    (case n_Machine__accepts => k_is)
    (case o_Machine_MOST => k_is)
    (case og_Machine_MOST => k_is)
    (case aC_TooMany => k_is)
    (case xL_TooMany => k_is)
    (case sa_TooMany => k_is)
    (case ga_TooMany => k_is)
    (case gg_TooMany => k_is)
    (case kC_TooMany => k_is)
    (case eC_TooMany => k_is)
    (case tC_TooMany => k_is)
    (case hC_TooMany => k_is)
    (case n_TooMany_subject => k_is)
    (case n_TooMany_most => k_is)
    (case n_TooMany_code => k_is)
    (case s_TooMany_AheadError => k_is)
    (case s_TooMany_Missing => k_is)
    (case s_TooMany_NothingLeft => k_is)
    (case a_InvalidSet___init => k_is)
    (case t_InvalidSet___init => k_is)
    (case l_InvalidSet___init => k_is)
    (case c_InvalidSet___init => k_is)
    (case k_InvalidSet___init => k_is)
    (case a_InvalidState___init => k_is)
    (case t_InvalidState___init => k_is)
    (case l_InvalidState___init => k_is)
    (case c_InvalidState___init => k_is)
    (case k_InvalidState___init => k_is)
    (case a_InvalidWord___init => k_is)
    (case t_InvalidWord___init => k_is)
    (case l_InvalidWord___init => k_is)
    (case c_InvalidWord___init => k_is)
    (case k_InvalidWord___init => k_is)
    (case a_Machine___init => k_is)
    (case i_Machine___init => k_is)
    (case l_Machine___init => k_is)
    (case c_Machine___init => k_is)
    (case k_Machine___init => k_is)
    (case a_Machine_after => k_is)
    (case i_Machine_after => k_is)
    (case l_Machine_after => k_is)
    (case c_Machine_after => k_is)
    (case k_Machine_after => k_is)
    (case a_Machine_led => k_is)
    (case i_Machine_led => k_is)
    (case l_Machine_led => k_is)
    (case c_Machine_led => k_is)
    (case k_Machine_led => k_is)
    (case a_Machine_reachable => k_is)
    (case i_Machine_reachable => k_is)
    (case l_Machine_reachable => k_is)
    (case c_Machine_reachable => k_is)
    (case k_Machine_reachable => k_is)
    (case a_TooMany___init => k_is)
    (case t_TooMany___init => k_is)
    (case l_TooMany___init => k_is)
    (case c_TooMany___init => k_is)
    (case k_TooMany___init => k_is)
    (case a_all_got => k_is)
    (case l_all_got => k_is)
    (case c_all_got => k_is)
    (case k_all_got => k_is)
    (case a_bag => k_is)
    (case l_bag => k_is)
    (case c_bag => k_is)
    (case k_bag => k_is)
    (case a_field => k_is)
    (case l_field => k_is)
    (case c_field => k_is)
    (case k_field => k_is)
    (case a_go => k_is)
    (case l_go => k_is)
    (case c_go => k_is)
    (case k_go => k_is)
    (case a_goals => k_is)
    (case l_goals => k_is)
    (case c_goals => k_is)
    (case k_goals => k_is)
    (case a_got => k_is)
    (case l_got => k_is)
    (case c_got => k_is)
    (case k_got => k_is)
    (case a_of => k_is)
    (case l_of => k_is)
    (case c_of => k_is)
    (case k_of => k_is)
    (case a_pull => k_is)
    (case l_pull => k_is)
    (case c_pull => k_is)
    (case k_pull => k_is)
    (case a_reach => k_is)
    (case l_reach => k_is)
    (case c_reach => k_is)
    (case k_reach => k_is)
    (case a_same => k_is)
    (case l_same => k_is)
    (case c_same => k_is)
    (case k_same => k_is)
    (case a_signs => k_is)
    (case l_signs => k_is)
    (case c_signs => k_is)
    (case k_signs => k_is)
    (case a_text => k_is)
    (case l_text => k_is)
    (case c_text => k_is)
    (case k_text => k_is)
    (case a_ends_of => k_is)
    (case l_ends_of => k_is)
    (case c_ends_of => k_is)
    (case k_ends_of => k_is)
    (case a_few_reachable => k_is)
    (case l_few_reachable => k_is)
    (case c_few_reachable => k_is)
    (case k_few_reachable => k_is)
    (case a_first_steps => k_is)
    (case l_first_steps => k_is)
    (case c_first_steps => k_is)
    (case k_first_steps => k_is)
    (case a_image => k_is)
    (case l_image => k_is)
    (case c_image => k_is)
    (case k_image => k_is)
    (case a_is_alphabet => k_is)
    (case l_is_alphabet => k_is)
    (case c_is_alphabet => k_is)
    (case k_is_alphabet => k_is)
    (case a_is_below => k_is)
    (case l_is_below => k_is)
    (case c_is_below => k_is)
    (case k_is_below => k_is)
    (case a_is_listed => k_is)
    (case l_is_listed => k_is)
    (case c_is_listed => k_is)
    (case k_is_listed => k_is)
    (case a_is_number => k_is)
    (case l_is_number => k_is)
    (case c_is_number => k_is)
    (case k_is_number => k_is)
    (case a_is_row => k_is)
    (case l_is_row => k_is)
    (case c_is_row => k_is)
    (case k_is_row => k_is)
    (case a_is_set_of => k_is)
    (case l_is_set_of => k_is)
    (case c_is_set_of => k_is)
    (case k_is_set_of => k_is)
    (case a_is_word => k_is)
    (case l_is_word => k_is)
    (case c_is_word => k_is)
    (case k_is_word => k_is)
    (case a_law => k_is)
    (case l_law => k_is)
    (case c_law => k_is)
    (case k_law => k_is)
    (case a_led_by => k_is)
    (case l_led_by => k_is)
    (case c_led_by => k_is)
    (case k_led_by => k_is)
    (case a_turn => k_is)
    (case l_turn => k_is)
    (case c_turn => k_is)
    (case k_turn => k_is)
    (case z_abs => k_is)
    (case z_all => k_is)
    (case z_any => k_is)
    (case z_bool => k_is)
    (case z_dict => k_is)
    (case z_enumerate => k_is)
    (case z_int => k_is)
    (case z_isinstance => k_is)
    (case z_len => k_is)
    (case z_list => k_is)
    (case z_max => k_is)
    (case z_min => k_is)
    (case z_range => k_is)
    (case z_repr => k_is)
    (case z_set => k_is)
    (case z_sorted => k_is)
    (case z_str => k_is)
    (case z_tuple => k_is)
    (case z_zip => k_is)
    (case c_MOST_LETTERS => k_is)
    (case c_MOST_STATES => k_is)
    (case ecL => rfl)
    (case lcL => k_is)
    (case epL => rfl)
    (case hcL => kernel_rfl)
    (case npL => kernel_rfl)
    (case tbL => exact PySem.W.km_tabs_of Y _ (by k_mem))

