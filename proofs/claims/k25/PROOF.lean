import PyProof.Rows.All
import Wide.All
import OpenK.AllK
import Wide.FinOn
import HandS.ForMost
import HandS.IsInst
import HandS.Flow
import HandS.Zip
import HandS.Walk
import HandS.StrMore
import HandS.Codes
import HandS.Nested
import HandS.Lambda
import HandS.ExcInit
import HandS.ExcField
import HandS.WordsExc
import HandS.HotCalls
import HandS.MakeKwOnly
import HandS.Replace
import HandS.EndTab
import HandS.OwnEq
import HandS.Property
import HandS.NamedTupGet
import HandS.TupAny
import HandS.CallRecv
import HandS.Conv
import HandS.Star
import HandS.MethStar
import HandS.More
import HandS.SortInts
import HandS.ClsMeth
import HandS.FStr
import HandS.RaiseMore
import HandS.Small
import PySem.Challenge.RW_onlyahead_k25_formulas_made_and_refused
set_option Elab.async false
set_option linter.all false
set_option maxRecDepth 100000
set_option maxHeartbeats 4000000
namespace MyP
open PySem PySem.Spec PyProof.Rows L2
/-! ### heaps, the bag -/
/-- all that was tracked stays as it was, but for b -/
def Kp (b : Addr) (H H' : Hp) : Prop := ∀ c o, H c = some o → c ≠ b → H' c = some o
theorem Kp.refl (b : Addr) (H : Hp) : Kp b H H := fun _ _ h _ => h
theorem Kp.trans {b : Addr} {H H1 H2 : Hp} (x : Kp b H H1) (y : Kp b H1 H2) : Kp b H H2 := fun c o h n => y c o (x c o h n) n
theorem Kp.same {b : Addr} {H H1 : Hp} (x : Same H H1) : Kp b H H1 := fun c o h _ => x c o h
theorem Kp.seq {K : PySem.W.Frag} {b a : Addr} {H H' : Hp} {xs : List V} (e : Kp b H H') (n : a ≠ b) (h : SqL K H a xs) : SqL K H' a xs := by
  rcases h with (h | ⟨o, h⟩) | h
  · exact .inl (.inl (e _ _ h n))
  · exact .inl (.inr ⟨o, e _ _ h n⟩)
  · exact .inr h
theorem Kp.tup {K : PySem.W.Frag} {b a : Addr} {H H' : Hp} {xs : List V} (e : Kp b H H') (n : a ≠ b) (h : SqT K H a xs) : SqT K H' a xs := by
  rcases h with (h | ⟨o, h⟩) | h
  · exact .inl (.inl (e _ _ h n))
  · exact .inl (.inr ⟨o, e _ _ h n⟩)
  · exact .inr h
theorem same_tup {K : PySem.W.Frag} {a : Addr} {H H' : Hp} {xs : List V} (e : Same H H') (h : SqT K H a xs) : SqT K H' a xs := by
  rcases h with (h | ⟨o, h⟩) | h
  · exact .inl (.inl (e _ _ h))
  · exact .inl (.inr ⟨o, e _ _ h⟩)
  · exact .inr h
theorem same_upd {H : Hp} {p : Addr} {o : HO} (h : H p = none) : Same H (upd H p o) := fun b x e => by
  rw [upd_ne (ne_of_none e h)]
  exact e
theorem Kp.put {b : Addr} {H H1 : Hp} {o : HO} (x : Kp b H H1) : Kp b H (upd H1 b o) := fun c u h n => by
  rw [upd_ne n]
  exact x c u h n
/-- an object that is new since H may change -/
theorem Kp.mut {b p : Addr} {H H1 : Hp} {o : HO} (x : Kp b H H1) (n : H p = none) : Kp b H (upd H1 p o) := fun c u h k => by
  rw [upd_ne (ne_of_none h n)]
  exact x c u h k
theorem same_mut {p : Addr} {H H1 : Hp} {o : HO} (x : Same H H1) (n : H p = none) : Same H (upd H1 p o) := fun c u h => by
  rw [upd_ne (ne_of_none h n)]
  exact x c u h
theorem ne_none {H : Hp} {a b : Addr} {o : HO} (h : H b = none) (h' : H a = some o) : b ≠ a := (ne_of_none h' h).symm
theorem sz {n : Nat} (h : n ≤ 100000) : n ≤ sizeLine := Nat.le_trans h (by decide)
theorem szl {n : Nat} (h : n < 100000) : n < sizeLine := Nat.lt_of_lt_of_le h (by decide)
structure BagAt (b l : Addr) (H : Hp) : Prop where
  at_ : ∃ (i r m c : Int) (ns : List Int), H b = some (.lst [.ref l, .int i, .int r, .int m, .int c]) ∧ H l = some (.lst (ns.map V.int)) ∧ ns.length ≤ 63 ∧ 0 ≤ i ∧ i ≤ ns.length ∧ 0 ≤ r ∧ 0 ≤ m ∧ m < 2147483629
  ne : l ≠ b
theorem BagAt.there {b l : Addr} {H : Hp} (x : BagAt b l H) : ∃ o, H b = some o := by
  obtain ⟨⟨i, r, m, c, ns, h, _⟩, _⟩ := x
  exact ⟨_, h⟩
/-- an object new in H is not the bag -/
theorem BagAt.nb {b l p : Addr} {H : Hp} (x : BagAt b l H) (h : H p = none) : p ≠ b := by
  obtain ⟨o, e⟩ := x.there
  exact ne_none h e
theorem BagAt.nl {b l p : Addr} {H : Hp} (x : BagAt b l H) (h : H p = none) : p ≠ l := by
  obtain ⟨⟨i, r, m, c, ns, _, e, _⟩, _⟩ := x
  exact ne_none h e
theorem BagAt.same {b l : Addr} {H H' : Hp} (x : BagAt b l H) (s : Same H H') : BagAt b l H' := by
  obtain ⟨⟨i, r, m, c, ns, h1, h2, h3⟩, n⟩ := x
  exact ⟨⟨i, r, m, c, ns, s _ _ h1, s _ _ h2, h3⟩, n⟩
/-- a store into another list keeps the bag -/
theorem BagAt.mut {b l p : Addr} {H : Hp} {o : HO} (x : BagAt b l H) (n1 : p ≠ b) (n2 : p ≠ l) : BagAt b l (upd H p o) := by
  obtain ⟨⟨i, r, m, c, ns, h1, h2, h3⟩, n⟩ := x
  exact ⟨⟨i, r, m, c, ns, by rw [upd_ne n1.symm]; exact h1, by rw [upd_ne n2.symm]; exact h2, h3⟩, n⟩
/-- what is new behind a draw was new ahead of it -/
theorem Kp.free {b l p : Addr} {H H1 : Hp} (k : Kp b H H1) (B : BagAt b l H1) (h : H1 p = none) : H p = none := by
  cases e : H p with
  | none => rfl
  | some o =>
    by_cases hb : p = b
    · obtain ⟨u, e2⟩ := B.there
      rw [hb, e2] at h
      cases h
    · rw [k _ _ e hb] at h
      cases h
/-! ### steps of a reading -/
/-- a word that the steps below do not open -/
def Stp (p : Prop) : Prop := True → p
theorem Stp.of {p : Prop} (h : Stp p) : p := h True.intro
theorem Stp.mk {p : Prop} (h : p) : Stp p := fun _ => h
/-! ### what follows a statement, by a letter -/
structure SeqN (N R : L2.St → Hp → Prop) : Prop where
  of : ∀ σ H, R σ H → N σ H
theorem SeqN.go {N R : L2.St → Hp → Prop} {σ : L2.St} {H : Hp} (h : SeqN N R) (r : R σ H) : N σ H := h.of σ H r
theorem gname_use {i : Nat} {x : V} {σ : L2.St} {H : Hp} {N : L2.St → Hp → Prop} (h : N (σ.set i (some x)) H) : gName i x σ H N := h
theorem next_use {n : L2.St → Hp → Prop} {r : VK} {b c : L2.St → Hp → Prop} {σ : L2.St} {H : Hp} (h : n σ H) : tNext ⟨n, r, b, c⟩ σ H := h
theorem seq_use {s rest : TS} {n : L2.St → Hp → Prop} {r : VK} {b c : L2.St → Hp → Prop} {σ : L2.St} {H : Hp} (h : ∀ N : L2.St → Hp → Prop, SeqN N (fun σ H => rest ⟨n, r, b, c⟩ σ H) → s ⟨N, r, b, c⟩ σ H) : tSeq s rest ⟨n, r, b, c⟩ σ H := h _ ⟨fun _ _ h => h⟩
local macro_rules | `(tactic| walk_at "side") => `(tactic| first
  | rfl
  | (show (0 : Int) < _; first | decide | omega)
  | exact Or.inr (And.intro (by decide) (by decide))
  | exact And.intro (by decide) (by decide)
  | exact And.intro (by omega) (by omega)
  | exact Or.inl (And.intro (by omega) (by omega))
  | decide
  | omega
  | exact sz (by first | decide | omega | (simp; done))
  | exact szl (by first | decide | omega | (simp; done)))
local macro_rules | `(tactic| walk_at "s") => `(tactic| first
  | refine ⟨_, rfl, ?_⟩
  | refine ⟨_, _, rfl, rfl, ?_⟩
  | refine .inl ⟨_, rfl, ?_⟩
  | refine ⟨_, _, rfl, by assumption, ?_⟩
  | refine ⟨_, _, _, _, rfl, rfl, SqL.of upd_same, rfl, ?_⟩
  | refine ⟨_, _, _, _, rfl, rfl, SqL.of (by assumption), (by rfl), ?_⟩
  | refine ⟨_, _, _, _, rfl, rfl, upd_same, rfl, ?_⟩
  | refine ⟨_, _, _, _, rfl, rfl, (by assumption), (by rfl), ?_⟩
  | refine And.intro ⟨_, rfl⟩ ?_
  | refine And.intro (by walk_at "side") ?_
  | refine iteT ?_
  | refine iteF ?_)
local macro_rules | `(tactic| walk_at "ss") => `(tactic| repeat walk_at "s")
local macro_rules | `(tactic| walk_at "n") => `(tactic| first
  | with_reducible refine MyP.seq_use (fun _ _ => ?_)
  | with_reducible refine MyP.SeqN.go (by assumption) ?_
  | with_reducible refine MyP.gname_use ?_
  | with_reducible refine MyP.next_use ?_
  | walk_at "s")
local macro_rules | `(tactic| walk_at "nn") => `(tactic| repeat walk_at "n")
theorem iteP {c A B : Prop} [Decidable c] (h : c) (x : A) : if c then A else B := by
  rw [if_pos h]
  exact x
theorem iteN {c A B : Prop} [Decidable c] (h : ¬ c) (x : B) : if c then A else B := by
  rw [if_neg h]
  exact x
theorem at_inN {α : Type} {xs : List α} {i : Int} (h0 : 0 ≤ i) (h1 : i < xs.length) : ∃ v, atI xs i = some v ∧ v ∈ xs := by
  have h2 : i.toNat < xs.length := by omega
  refine ⟨xs[i.toNat], ?_, List.getElem_mem h2⟩
  have e : ((i.toNat : Nat) : Int) = i := by omega
  have e2 : atI xs ((i.toNat : Nat) : Int) = some xs[i.toNat] := atI_nat (List.getElem?_eq_getElem h2)
  rw [e] at e2
  exact e2
theorem ixN_in {n : Nat} {k : Int} (h0 : 0 ≤ k) (h1 : k < n) : ixN n k = some k.toNat := by
  unfold ixN
  rw [if_pos h0, if_pos h1]
theorem at_in {xs : List V} {i : Int} (h0 : 0 ≤ i) (h1 : i < xs.length) : ∃ v, atI xs i = some v ∧ v ∈ xs := at_inN h0 h1
theorem any2 {K : PySem.W.Frag} {t a b : String} {r1 r2 : Bool} (h1 : kitB t a = some r1) (h2 : kitB t b = some r2) : PySem.W.kitAny K (.type t) [.type a, .type b] = some (r1 || r2) := by
  refine kitAny_cons (kit_ty h1) (fun e => kitAny_cons (kit_ty h2) (fun e2 => ?_) (fun e2 => ?_)) (fun e => ?_)
  · rw [e, e2]
    rfl
  · rw [e2, Bool.or_true]
  · rw [e, Bool.true_or]
local macro_rules | `(tactic| walk_at "ty") => `(tactic| first | exact .base .non | exact .base (.bl _) | exact .base (.int _) | exact .base (.str _) | assumption)
local macro_rules | `(tactic| walk_at "si") => `(tactic| first
  | walk_at "s"
  | refine ⟨_, _, _, _, false, rfl, ClsV.ty _, (by assumption), kit_ty (by assumption), ?_⟩
  | refine ⟨_, _, _, _, true, rfl, ClsV.ty _, (by walk_at "ty"), kit_ty (by decide +kernel), ?_⟩
  | refine ⟨_, _, _, _, false, rfl, ClsV.ty _, (by walk_at "ty"), kit_ty (by decide +kernel), ?_⟩
  | refine ⟨_, _, _, _, _, true, rfl, upd_same, .cons (.ty _) (.cons (.ty _) .nil), (by walk_at "ty"), any2 (r1 := true) (r2 := false) (by decide +kernel) (by decide +kernel), ?_⟩
  | refine ⟨_, _, _, _, _, true, rfl, upd_same, .cons (.ty _) (.cons (.ty _) .nil), (by walk_at "ty"), any2 (r1 := false) (r2 := true) (by decide +kernel) (by decide +kernel), ?_⟩
  | refine ⟨_, _, _, _, _, false, rfl, upd_same, .cons (.ty _) (.cons (.ty _) .nil), (by walk_at "ty"), any2 (r1 := false) (r2 := false) (by decide +kernel) (by decide +kernel), ?_⟩
  | intro p hp)
local macro_rules | `(tactic| walk_at "ssi") => `(tactic| repeat walk_at "si")

/-! ### classes -/
theorem kb_of {K : PySem.W.Frag} {x qual : Str} {st : Stmt} {f : Addr} {fd : FuncData} {ps ks : List Str} {n : Nat} (F : Fun K x qual st f fd)
    (h : ∀ (kV doc pm : Value) (an : Option Addr) (cdv ct : Value) (us ws : List Value), us.length = n → ws.length = ks.length → bindArgs (PySem.W.fnOf x qual (defArgs st) (defBody st) (defScope st) .none kV doc pm an cdv ct) ⟨us, ks.zip ws⟩ = pure (ps.zip (us ++ ws))) :
    KBn K fd ps n ks (fun us ws => us ++ ws) (fun vs zs => vs ++ zs) := by
  obtain ⟨oc, od, kV, doc, pm, an, cdv, ct, osl, rfl, lk, hcd⟩ := F.ex
  exact ⟨fun s us ws _ h1 h2 => .of_eq (h kV doc pm an cdv ct us ws h1 h2), fun a b => a.append b⟩
theorem exm1 {K : PySem.W.Frag} {cls : Value} {S : Addr} {b : Bool} (bx : PySem.W.subIn K (.ref S) (.type "BaseException") = some true) (ic : PySem.W.isClsIn K S = true) (ty : PySem.W.typeIn K (.ref S) = some (.type "type")) (sb : PySem.W.subIn K cls (.ref S) = some b) :
    PySem.W.exmOne K cls (.ref S) = some b := by
  have t1 : (PySem.W.subIn K (.ref S) (.type "BaseException") == some true) = true := by rw [bx] <;> rfl
  have t2 : ((PySem.W.clsIn K S).isSome && PySem.W.typeIn K (.ref S) == some (.type "type")) = true := by
    rw [show (PySem.W.clsIn K S).isSome = true from ic, ty] <;> rfl
  show (if _ = true then (if ((PySem.W.clsIn K S).isSome && PySem.W.typeIn K (.ref S) == some (.type "type")) = true then PySem.W.subIn K cls (.ref S) else none) else none) = some b
  rw [if_pos t1, if_pos t2, sb]
theorem exm3 {K : PySem.W.Frag} {cls : Value} {S1 S2 S3 : Addr} {b2 b3 : Bool} (bx1 : PySem.W.subIn K (.ref S1) (.type "BaseException") = some true) (ic1 : PySem.W.isClsIn K S1 = true) (ty1 : PySem.W.typeIn K (.ref S1) = some (.type "type")) (sb1 : PySem.W.subIn K cls (.ref S1) = some true)
    (bx2 : PySem.W.subIn K (.ref S2) (.type "BaseException") = some true) (ic2 : PySem.W.isClsIn K S2 = true) (ty2 : PySem.W.typeIn K (.ref S2) = some (.type "type")) (sb2 : PySem.W.subIn K cls (.ref S2) = some b2)
    (bx3 : PySem.W.subIn K (.ref S3) (.type "BaseException") = some true) (ic3 : PySem.W.isClsIn K S3 = true) (ty3 : PySem.W.typeIn K (.ref S3) = some (.type "type")) (sb3 : PySem.W.subIn K cls (.ref S3) = some b3) :
    PySem.W.exmAny K cls [.ref S1, .ref S2, .ref S3] = some true := by
  unfold PySem.W.exmAny PySem.W.exmAny PySem.W.exmAny PySem.W.exmAny
  rw [exm1 bx1 ic1 ty1 sb1, exm1 bx2 ic2 ty2 sb2, exm1 bx3 ic3 ty3 sb3]
  rfl


section
open LamX NdefX
/-! ### a call over a wider ground: what the caller's cells hold stands fast while the callee runs -/
/-- the heap h where only what stands in the ground g and the cells cs is seen -/
def wider (h g : Heap) (cs : List Addr) : Heap := PySem.W.hideAll h ((List.range h.objs.size).filter fun a => (g.get? a).isNone && !cs.contains a)
theorem wider_size (h g : Heap) (cs : List Addr) : (wider h g cs).objs.size = h.objs.size := PySem.W.hideAll_size _ _
theorem wider_get {h g : Heap} {cs : List Addr} {a : Addr} {o : Obj} (e : h.get? a = some o) (w : (g.get? a).isSome = true ∨ a ∈ cs) : (wider h g cs).get? a = some o := by
  refine PySem.W.hideAll_get _ e fun hm => ?_
  have q := (List.mem_filter.mp hm).2
  rw [Bool.and_eq_true] at q
  rcases w with w | w
  · have q1 := q.1
    cases z : g.get? a with
    | none => rw [z] at w; cases w
    | some u => rw [z] at q1; cases q1
  · have q2 := q.2
    rw [List.contains_iff_mem.mpr w] at q2
    cases q2
theorem of_wider {h g : Heap} {cs : List Addr} {a : Addr} {o : Obj} (e : (wider h g cs).get? a = some o) : h.get? a = some o ∧ ((g.get? a).isSome = true ∨ a ∈ cs) := by
  have e1 := PySem.W.of_hideAll _ e
  refine ⟨e1, ?_⟩
  by_cases w : (g.get? a).isSome = true ∨ a ∈ cs
  · exact w
  · have hm : a ∈ (List.range h.objs.size).filter fun a => (g.get? a).isNone && !cs.contains a := by
      refine List.mem_filter.mpr ⟨List.mem_range.mpr (Heap.lt_size e1), ?_⟩
      have w1 : ¬ (g.get? a).isSome = true := fun z => w (.inl z)
      have w2 : a ∉ cs := fun z => w (.inr z)
      cases z : g.get? a with
      | some u => rw [z] at w1; exact absurd rfl w1
      | none =>
        have : cs.contains a = false := by
          cases k : cs.contains a with
          | false => rfl
          | true => exact absurd (List.contains_iff_mem.mp k) w2
        rw [this]
        rfl
    have z : (wider h g cs).get? a = none := PySem.W.hideAll_none _ hm
    rw [z] at e
    cases e
/-- the addresses of a frame's cells -/
def cellsOf (env : PySem.Env) : List Addr := env.cells.map (·.2)
theorem mem_cellsOf {env : PySem.Env} {y : Str} {c : Addr} (e : env.cells.lookup y = some c) : c ∈ cellsOf env := List.mem_map.mpr ⟨(y, c), PySem.mem_of_lookup e, rfl⟩
/-- each cell of the frame stands under a name: two entries never share a name -/
def CellsNd (env : PySem.Env) : Prop := ∀ y c, (y, c) ∈ env.cells → env.cells.lookup y = some c
theorem frames_wider {h base base' : Heap} : ∀ {l : List PySem.Env}, h.FunFrames base l → (∀ b ∈ frs l, base'.get? b = none) → h.FunFrames base' l
  | [], _, _ => trivial
  | env :: r, x, n => by
    obtain ⟨hk, ⟨L, o, hf, hn, ho, hd⟩, hr⟩ := x
    refine ⟨hk, ⟨L, o, hf, n L ?_, ho, hd⟩, frames_wider hr fun b hb => n b ?_⟩
    · unfold frs
      rw [List.filterMap_cons, hf]
      exact List.mem_cons_self ..
    · unfold frs
      rw [List.filterMap_cons, hf]
      exact List.mem_cons_of_mem _ hb
section
variable {X : Cx} {pins : List (Addr × Obj)} {σ : L2.St} {H : Hp} {s : Shared}
theorem wider_ok (I : Inv X pins σ H s) (nd : CellsNd X.env) (hfn : ∀ y c, X.env.cells.lookup y = some c → X.s_0.heap.objs.size ≤ c) :
    Env0 X.prog X.w X.K X.mg (wider s.heap X.base (cellsOf X.env)) X.A X.stack s H ∧ (∀ b o, X.base.get? b = some o → (wider s.heap X.base (cellsOf X.env)).get? b = some o) := by
  have up : ∀ b o, X.base.get? b = some o → (wider s.heap X.base (cellsOf X.env)).get? b = some o := fun b o e => wider_get (I.bk b o e) (.inl (by rw [e]; rfl))
  have inCell : ∀ c ∈ cellsOf X.env, ∃ y, X.env.cells.lookup y = some c := fun c hc => by
    obtain ⟨⟨y, c'⟩, hm, e⟩ := List.mem_map.mp hc
    have e : c' = c := e
    subst e
    exact ⟨y, nd y c' hm⟩
  refine ⟨⟨I.ok.frames, ⟨I.ok.mod.kin.keeps up, I.ok.mod.glob.keeps up, ?_, I.ok.mod.nolimit.keeps up⟩, fun b o e => ?_, ?_, frames_wider I.stack fun b hb => ?_, I.stkFree, I.hok, I.bare⟩, up⟩
  · obtain ⟨mb, h1, h2⟩ := I.ok.mod.blt
    exact ⟨mb, h1.keeps up, h2⟩
  · obtain ⟨e1, w⟩ := of_wider e
    refine ⟨e1, ?_⟩
    rcases w with w | w
    · obtain ⟨u, hu⟩ := Option.isSome_iff_exists.mp w
      exact (I.bs b u hu).2
    · obtain ⟨y, hy⟩ := inCell b w
      exact I.freeC y b hy
  · rw [wider_size]
    exact Nat.le_refl _
  · cases q : (wider s.heap X.base (cellsOf X.env)).get? b with
    | none => rfl
    | some o =>
      exfalso
      obtain ⟨e1, w⟩ := of_wider q
      rcases List.mem_cons.mp (I.stkSub b hb) with z | z
      · rcases w with w | w
        · obtain ⟨u, hu⟩ := Option.isSome_iff_exists.mp w
          have h1 := Heap.lt_size hu
          have h2 := I.ok.bsz
          have h3 := I.ok.above
          rw [z] at h1
          exact Nat.lt_irrefl _ (Nat.lt_of_lt_of_le h1 (Nat.le_trans h2 h3))
        · obtain ⟨y, hy⟩ := inCell b w
          exact I.cne y b hy z
      · rcases w with w | w
        · obtain ⟨u, hu⟩ := Option.isSome_iff_exists.mp w
          exact I.ok.nofr hu z
        · obtain ⟨y, hy⟩ := inCell b w
          obtain ⟨_, o2, ho2, _⟩ := I.ok.funs.mem z
          have h1 := Heap.lt_size ho2
          have h2 := hfn y b hy
          exact Nat.lt_irrefl _ (Nat.lt_of_lt_of_le h1 h2)
/-- what the captured cells hold, seen from the wider ground -/
theorem cells_wider {cl : List (Str × Addr)} {fr : List Str} {ws : List (Option V)} (C : CellsAt cl fr ws s.heap H) (sub : ∀ y c, cl.lookup y = some c → X.env.cells.lookup y = some c) : CellsAt cl fr ws (wider s.heap X.base (cellsOf X.env)) (fun _ => none) := by
  have kp : ∀ y c, cl.lookup y = some c → ∀ v, s.heap.IsCell c v → (wider s.heap X.base (cellsOf X.env)).IsCell c v := fun y c e v ⟨o, ho, hd⟩ => ⟨o, wider_get ho (.inr (mem_cellsOf (sub y c e))), hd⟩
  refine ⟨C.len, fun y c e => ⟨rfl, ?_⟩, C.inj, fun i y e => ?_⟩
  · obtain ⟨_, v, z⟩ := C.all y c e
    exact ⟨v, kp y c e v z⟩
  · obtain ⟨c, hc, hv⟩ := C.has i y e
    refine ⟨c, hc, fun v ev => ?_⟩
    obtain ⟨u, r, z⟩ := hv v ev
    exact ⟨u, r, kp y c hc _ z⟩
/-- .. and then in every state over that ground -/
theorem cells_narrow {P : Program} {w : World} {K : PySem.W.Frag} {mg : Str → Option Value} {base : Heap} {A : Around} {outer : List PySem.Env} {cl : List (Str × Addr)} {fr : List Str} {ws : List (Option V)} (C : CellsAt cl fr ws base (fun _ => none))
    (bs : ∀ b o, base.get? b = some o → s.heap.get? b = some o ∧ H b = none) : CellsAt cl fr ws s.heap H := by
  have kp : ∀ c v, base.IsCell c v → s.heap.IsCell c v := fun c v ⟨o, ho, hd⟩ => ⟨o, (bs c o ho).1, hd⟩
  refine ⟨C.len, fun y c e => ?_, C.inj, fun i y e => ?_⟩
  · obtain ⟨_, v, z⟩ := C.all y c e
    refine ⟨?_, v, kp c v z⟩
    obtain ⟨o, ho, _⟩ := z
    exact (bs c o ho).2
  · obtain ⟨c, hc, hv⟩ := C.has i y e
    refine ⟨c, hc, fun v ev => ?_⟩
    obtain ⟨u, r, z⟩ := hv v ev
    exact ⟨u, r, kp c _ z⟩
end
/-- what is told of the ground over which a callee runs: it is as wide as X.base, and tells what the cells hold that X's names σ stand in -/
structure Ground (X : Cx) (σ : L2.St) (base : Heap) : Prop where
  ok : X.Ok
  up : ∀ b o, X.base.get? b = some o → base.get? b = some o
  cells : ∀ (cl : List (Str × Addr)) (fr : List Str) (js : List Nat), Caps X cl fr js → CellsAt cl fr (js.map (slotAt σ)) base (fun _ => none)
/-- f(e, ..) over the wider ground: the callee's promise is told of every such ground -/
def tCallX (X : Cx) (CX : CXT) (k : Nat) (f : Addr) (fd : FuncData) (ps : List Str) (E : XK) (t : TA) : TE := fun σ H Q => t σ H fun vs H1 => ∃ sp : Sp, (∀ base, Ground X σ base → FnOk X.prog X.w X.K X.mg base CX k f fd ps sp) ∧ sp vs H1 Q E
section
variable {X : Cx} {CX : CXT} {k : Nat} {f : Addr} {fd : FuncData} {ps : List Str} {E : XK} {x : Str} {p pos : Pos} {e : Expr} {es : List Expr} {t : TA}
theorem pe_callX (hr : Room k X.A) (hg : Gl X x) (hm : X.mg x = some (.ref f)) (hk : PySem.W.keepIn X.K (.ref f) = true) (hb : Binds X.K fd ps []) (hx : Passes CX X E) (nd : CellsNd X.env) (hfn : X.Ok → ∀ y c, X.env.cells.lookup y = some c → X.s_0.heap.objs.size ≤ c)
    (ha : PA X (e :: es) t) (hdb : (x == ("__debug__" : Str)) = false := by decide) (he : starEach (e :: es) X.env = (false, eval e X.env) :: starEach es X.env := by rfl) (hpl : (backTo pos (starEach es X.env)).any (·.1) = false := by rfl) :
    PE X (.Call (.Name x p) (e :: es) [] pos) (tCallX X CX k f fd ps E t) := by
  refine ⟨fun pins s σ H Q I h => ?_⟩
  refine wpAny_Call_Name_kw (ld_glob I hg hm ?_ hdb)
  refine PySem.W.callWith_K (h₀ := X.base) I.ok.mod.kin hk (thn (ha.run pos pins s σ H _ I h) fun us s1 ⟨vs, H1, I1, r, sp, F, q⟩ => ⟨I1.kIn, ?_⟩) he hpl
  obtain ⟨e0, up⟩ := wider_ok I1 nd (hfn I1.ok)
  have G : Ground X σ (wider s1.heap X.base (cellsOf X.env)) := ⟨I1.ok, up, fun cl fr js c => cells_wider (cells_of I1 c) c.sub⟩
  have Fb := F _ G
  have hl : us.length = ps.length := by rw [← r.length]; exact Fb.len _ _ _ _ q
  have hb2 := hb s1 us I1.kIn (by rw [List.append_nil]; exact hl)
  rw [List.append_nil] at hb2
  refine wpAny_call (codeAny_mono (Fb.run X.A X.stack s1 H1 ⟨us, []⟩ us vs Q E hr e0 hb2 r q) fun r s' hq => ?_)
  cases r with
  | error e => exact hx pins σ H1 s1 e s' I1 hq
  | ok fl =>
    cases fl with
    | ret u => exact I1.after hq
    | next => exact False.elim hq
    | brk => exact False.elim hq
    | cont => exact False.elim hq
end
end
section
open LamX NdefX
/-! ### a lambda as a value -/
/-- its words: the maker's name for it, its text, the cells it captured, its code object, its defaults -/
structure LF where
  qual : Str
  params : Arguments
  body : Expr
  scope : Scope
  cl : List (Str × Addr)
  c : Addr
  dV : Value
abbrev LF.fd (F : LF) (doc pm ctv : Value) : FuncData := PySem.W.kdv_fn "<lambda>" F.qual F.params (.expr F.body) F.scope F.cl F.dV doc pm (.ref F.c) ctv
/-- the same words for the context of its body -/
def LF.nf (F : LF) : NF := ⟨"<lambda>", F.qual, F.params, [], F.scope, F.cl, F.c⟩
/-- at f stands the lambda F -/
def LmO (f : Addr) (F : LF) : HO := .ext fun h => ∃ (od : Option Addr) (sl : Array (Option Value)) (doc pm ctv : Value), h.get? f = some (⟨.type "function", od, .func (F.fd doc pm ctv), sl⟩ : Obj)
theorem lmo_at {P : Program} {w : World} {H : Hp} {h : Heap} {f : Addr} {F : LF} (ok : HOk P w H h) (e : H f = some (LmO f F)) :
    ∃ (od : Option Addr) (sl : Array (Option Value)) (doc pm ctv : Value), h.get? f = some (⟨.type "function", od, .func (F.fd doc pm ctv), sl⟩ : Obj) := (ok f _ e).1
/-- its defaults: none, or a tuple of one int -/
def DefAt (F : LF) (ds : List V) (H : Hp) : Prop := (ds = [] ∧ F.dV = .none) ∨ ∃ (T0 : Addr) (i : Int), ds = [.int i] ∧ F.dV = .ref T0 ∧ H T0 = some (.tup [.int i])
section
variable {X : Cx} {pins : List (Addr × Obj)} {σ : L2.St} {H : Hp} {s : Shared}
/-- a new object of that kind is tracked from now on -/
theorem inv_lm {F : LF} {t' : Nat} {doc pm ctv : Value} (I : Inv X pins σ H s) :
    Inv X pins σ (upd H s.heap.objs.size (LmO s.heap.objs.size F)) { s with heap := s.heap.push { cls := .type "function", data := .func (F.fd doc pm ctv) }, toks := t' } := by
  have e : (s.heap.push ({ cls := .type "function", data := .func (F.fd doc pm ctv) } : Obj)).get? s.heap.objs.size = some { cls := .type "function", data := .func (F.fd doc pm ctv) } := Heap.get?_push_size _ rfl
  exact I.laid (fun b u q => Heap.get?_push_of_some _ q) (Nat.le_refl _) ⟨⟨_, _, doc, pm, ctv, e⟩, ⟨_, e⟩, fun h1 h2 z st => by
    obtain ⟨od, sl, d, p, t, z⟩ := z
    exact ⟨od, sl, d, p, t, st _ z⟩⟩
theorem none_upd {a b : Addr} {o : HO} (e : upd H a o b = none) : H b = none := by
  by_cases z : b = a
  · rw [z, upd_same] at e
    cases e
  · rw [upd_ne z] at e
    exact e
/-- what is told behind the making -/
def Made (X : Cx) (pins : List (Addr × Obj)) (σ : L2.St) (T : List (Addr × Str)) (H : Hp) (mk : Addr → LF) (v : Value) (s' : Shared) : Prop :=
  ∃ (f c' : Addr) (H1 : Hp), v = .ref f ∧ Inv X pins σ H1 s' ∧ ExtN H H1 ∧ (∀ b, H1 b = none → H b = none) ∧ Tabs T H1 ∧ H f = none ∧ H1 f = some (LmO f (mk c')) ∧ H1 c' = some (CodeO c' (mk c').qual)
theorem lm_tail {T : List (Addr × Str)} {c P : Addr} {params : Arguments} {body : Expr} {scope : Scope} {pos : Pos} {dV : Value} {E : Value → Shared → Prop} (I : Inv X pins σ H s) (TB : TabB X.base X.mg c P) (hcode : X.env.code = .ref c)
    (hm : (P, X.env.qual ++ "<lambda>") ∈ T) (hu : ∀ p ∈ T, p.1 = P → p.2 = X.env.qual ++ "<lambda>") (hT : Tabs T H) (hfree : ∀ y ∈ scope.names, y.2 = .free → ∃ c, X.env.cells.lookup y.1 = some c) :
    wpAny (model X.prog X.w) X.A (makeTail "<lambda>" (X.env.qual ++ "<lambda>") params (.expr body) scope X.env dV .none none pos pos.line)
      (Made X pins σ T H fun c' => ⟨X.env.qual ++ "<lambda>", params, body, scope, cloFrom X.env.cells scope.names [], c', dV⟩) E s := by
  obtain ⟨ps, hP, ht, ha⟩ := hT _ hm
  have bP := TB.bm.keeps I.bk
  have oP : s.heap.get? P = some (PySem.W.tabObj ps) := I.hok P _ hP
  have gl := I.mod.glob.keeps I.bk
  have hd := TB.code.keeps I.bk
  rcases hc : codeAmong pos ps.toList with _ | cv
  · refine PySem.W.kdv_makeTail (closure_ok hfree) I.ok.glob gl hcode hd oP ht hc TB.gP bP fun c' ctv doc h' tk hx hge hlt hrec htb => ?_
    obtain ⟨c2, oc, us, t, e2, hoc, hdt, hv⟩ := hrec
    obtain rfl : c' = c2 := by injection e2
    have nC : H c' = none := I.hok.fresh hge
    have J := inv_table (t' := tk) (more := #[rawInt pos.line, rawInt pos.col, .ref c']) I hP (fun b o hb e => hx b o hb e) htb hge ⟨oc, us, t, hoc, hdt, hv⟩
    have ext : ExtN H (upd (upd H P (.tbl (ps ++ #[rawInt pos.line, rawInt pos.col, .ref c']))) c' (CodeO c' (X.env.qual ++ "<lambda>"))) := fun b o e n => by
      have n1 : b ≠ P := fun z => by
        rw [z, hP] at e
        exact n ps (Option.some.inj e).symm
      rw [upd_ne (ne_of_none e nC), upd_ne n1]
      exact e
    have lst : (ps ++ #[rawInt pos.line, rawInt pos.col, Value.ref c']).toList = ps.toList ++ [rawInt pos.line, rawInt pos.col, .ref c'] := by simp
    have tabs : Tabs T (upd (upd H P (.tbl (ps ++ #[rawInt pos.line, rawInt pos.col, .ref c']))) c' (CodeO c' (X.env.qual ++ "<lambda>"))) := fun p hp => by
      by_cases hb : p.1 = P
      · rw [hu p hp hb, hb]
        refine ⟨_, by rw [upd_ne (ne_of_none hP nC), upd_same], by rw [lst]; exact PySem.TriplesOk_snoc _ _ _ _ ht, fun q v hq => ?_⟩
        rw [lst] at hq
        rcases among_app _ ht hq with z | z
        · obtain ⟨c0, e1, e3⟩ := ha q v z
          exact ⟨c0, e1, ext _ _ e3 codeO_ne⟩
        · exact ⟨c', z, upd_same⟩
      · obtain ⟨qs, a1, a2, a3⟩ := hT p hp
        refine ⟨qs, by rw [upd_ne (ne_of_none a1 nC), upd_ne hb]; exact a1, a2, fun q v hq => ?_⟩
        obtain ⟨c0, e1, e3⟩ := a3 q v hq
        exact ⟨c0, e1, ext _ _ e3 codeO_ne⟩
    have nF : upd (upd H P (.tbl (ps ++ #[rawInt pos.line, rawInt pos.col, .ref c']))) c' (CodeO c' (X.env.qual ++ "<lambda>")) h'.objs.size = none := J.hok.fresh (Nat.le_refl _)
    refine ⟨h'.objs.size, c', _, rfl, inv_lm (t' := tk) (doc := doc) (pm := (X.mg "__name__").getD .none) (ctv := ctv) J, fun b o e n => ?_, fun b e => none_upd (none_upd (none_upd e)), tabs.ext fun b o e => ?_, none_upd (none_upd nF), upd_same, ?_⟩
    · have e1 := ext b o e n
      rw [upd_ne (ne_of_none e1 nF)]
      exact e1
    · rw [upd_ne (ne_of_none e nF)]
      exact e
    · rw [upd_ne (Nat.ne_of_lt hlt)]
      exact upd_same
  · obtain ⟨c', rfl, hco⟩ := ha pos cv hc
    refine PySem.W.kdv_makeTailHit (closure_ok hfree) I.ok.glob gl hcode hd oP ht hc bP fun ctv doc h' tk hx hsz => ?_
    have J : Inv X pins σ H { s with heap := h', toks := tk } := I.kept hx
    have nF : H h'.objs.size = none := J.hok.fresh (Nat.le_refl _)
    refine ⟨h'.objs.size, c', _, rfl, inv_lm (t' := tk) (doc := doc) (pm := (X.mg "__name__").getD .none) (ctv := ctv) J, fun b o e n => ?_, fun b e => none_upd e, hT.ext fun b o e => ?_, nF, upd_same, ?_⟩
    · rw [upd_ne (ne_of_none e nF)]
      exact e
    · rw [upd_ne (ne_of_none e nF)]
      exact e
    · rw [upd_ne (ne_of_none hco nF)]
      exact hco
end
/-- the reading of a lambda without defaults | with one int for its only parameter's default -/
def tLm (T : List (Addr × Str)) (mk : Addr → LF) : TE := fun _ H Q => Tabs T H ∧ ∀ (f c' : Addr) (H1 : Hp), ExtN H H1 → (∀ b, H1 b = none → H b = none) → Tabs T H1 → H f = none → H1 f = some (LmO f (mk c')) → H1 c' = some (CodeO c' (mk c').qual) → Q (.ref f) H1
def tLm1 (T : List (Addr × Str)) (i : Int) (mk : Addr → Addr → LF) : TE := fun _ H Q => Tabs T H ∧ ∀ (f c' T0 : Addr) (H1 : Hp), ExtN H H1 → (∀ b, H1 b = none → H b = none) → Tabs T H1 → H f = none → H1 T0 = some (.tup [.int i]) → H1 f = some (LmO f (mk T0 c')) → H1 c' = some (CodeO c' (mk T0 c').qual) → Q (.ref f) H1
section
variable {X : Cx} {T : List (Addr × Str)} {c P : Addr} {params : Arguments} {body : Expr} {scope : Scope} {pos : Pos}
theorem pe_lm (TB : TabB X.base X.mg c P) (hcode : X.env.code = .ref c) (hm : (P, X.env.qual ++ "<lambda>") ∈ T) (hu : ∀ p ∈ T, p.1 = P → p.2 = X.env.qual ++ "<lambda>")
    (hfree : ∀ y ∈ scope.names, y.2 = .free → X.env.scope.names.lookup y.1 = some .cell ∨ X.env.scope.names.lookup y.1 = some .free) (hdef : defaultsOf params X.env = ([], [])) :
    PE X (.Lambda params body scope pos) (tLm T fun c' => ⟨X.env.qual ++ "<lambda>", params, body, scope, cloFrom X.env.cells scope.names [], c', .none⟩) := by
  refine ⟨fun pins s σ H Q I h => ?_⟩
  obtain ⟨hT, h⟩ := h
  have fr : ∀ y ∈ scope.names, y.2 = .free → ∃ c, X.env.cells.lookup y.1 = some c := fun y hy e => (hfree y hy e).elim (fun z => I.ok.has _ (.inl z)) fun z => I.ok.has _ (.inr z)
  refine PySem.W.kla_eval hdef ?_
  rw [makeFunction_eq]
  simp only [List.zip_nil_right, List.filterMap_nil, List.isEmpty_nil, if_true, pure_bind]
  refine wpAny_mono (lm_tail (dV := .none) (E := X.xe) I TB hcode hm hu hT fr) (fun v s' hv => ?_) fun _ _ z => z
  obtain ⟨f, c', H1, rfl, J, e1, e2, e3, e4, e5, e6⟩ := hv
  exact ⟨.ref f, H1, J, rfl, h f c' H1 e1 e2 e3 e4 e5 e6⟩
theorem pe_lm1 {i : Int} {cj : Nat} {cp : Pos} (TB : TabB X.base X.mg c P) (hcode : X.env.code = .ref c) (hm : (P, X.env.qual ++ "<lambda>") ∈ T) (hu : ∀ p ∈ T, p.1 = P → p.2 = X.env.qual ++ "<lambda>")
    (hfree : ∀ y ∈ scope.names, y.2 = .free → X.env.scope.names.lookup y.1 = some .cell ∨ X.env.scope.names.lookup y.1 = some .free) (hd : params.defaults = [.Constant (.int i) cj cp]) (hk : params.kw_defaults = []) :
    PE X (.Lambda params body scope pos) (tLm1 T i fun T0 c' => ⟨X.env.qual ++ "<lambda>", params, body, scope, cloFrom X.env.cells scope.names [], c', .ref T0⟩) := by
  refine ⟨fun pins s σ H Q I h => ?_⟩
  obtain ⟨hT, h⟩ := h
  have fr : ∀ y ∈ scope.names, y.2 = .free → ∃ c, X.env.cells.lookup y.1 = some c := fun y hy e => (hfree y hy e).elim (fun z => I.ok.has _ (.inl z)) fun z => I.ok.has _ (.inr z)
  refine PySem.W.kdv_lam (by rw [hd]; rfl) hk ?_
  rw [hd]
  refine PySem.W.kdv_all1 (wpAny_mono ((pe_int (X := X) (i := i) (j := cj) (pos := cp)).run pins s σ H (fun v H' => v = .int i ∧ H' = H) I ⟨rfl, rfl⟩) (fun u s1 hv => ?_) fun _ _ z => z)
  obtain ⟨v, H', I1, r1, rfl, rfl⟩ := hv
  refine PySem.W.kdv_all0 ?_
  rw [makeFunction_eq]
  simp only [List.zip_nil_right, List.filterMap_nil, List.isEmpty_cons, List.isEmpty_nil, if_true, Bool.false_eq_true, if_false, pure_bind]
  refine wpAny_bind (wpAny_newTextTuple ?_)
  have n0 : H' s1.heap.objs.size = none := I1.hok.fresh (Nat.le_refl _)
  have I2 : Inv X pins σ (upd H' s1.heap.objs.size (.tup [.int i])) { s1 with heap := s1.heap.push { cls := .type "tuple", data := .seq [u].toArray } } :=
    I1.laid (t' := s1.toks) (fun b o e => Heap.get?_push_of_some _ e) (Nat.le_refl _) ⟨(by show 1 ≤ sizeLine; decide), [u], .cons r1 .nil, IsTup.new _ _⟩
  have hS : ∀ b o, H' b = some o → upd H' s1.heap.objs.size (.tup [.int i]) b = some o := fun b o e => by rw [upd_ne (ne_of_none e n0)]; exact e
  refine wpAny_mono (lm_tail (dV := .ref s1.heap.objs.size) (E := X.xe) I2 TB hcode hm hu (hT.ext hS) fr) (fun v s' hv => ?_) fun _ _ z => z
  obtain ⟨f, c', H1, rfl, J, e1, e2, e3, e4, e5, e6⟩ := hv
  exact ⟨.ref f, H1, J, rfl, h f c' s1.heap.objs.size H1 (fun b o e n => e1 b o (hS b o e) n) (fun b e => none_upd (e2 b e)) e3 (none_upd e4) (e1 _ _ upd_same fun ps z => by cases z) e5 e6⟩
end
/-! ### its promise -/
/-- the promise of the lambda F at f, called without arguments; ws: what its captured cells hold -/
structure LOk (P : Program) (w : World) (K : PySem.W.Frag) (mg : Str → Option Value) (base : Heap) (CX : CXT) (k : Nat) (f : Addr) (F : LF) (ds : List V) (fr : List Str) (sp : List (Option V) → Hp → VK → XK → Prop) : Prop where
  run : ∀ (A : Around) (outer : List PySem.Env) (s : Shared) (H : Hp) (ws : List (Option V)) (Q : VK) (E : XK), Room k A → Env0 P w K mg base A outer s H → H f = some (LmO f F) → H F.c = some (CodeO F.c F.qual) → DefAt F ds H →
    CellsAt F.cl fr ws s.heap H → sp ws H Q E → codeAny (model P w) A (.call (.ref f) ⟨[], []⟩) (CR CX outer P w H s Q E) s
section
variable {CX : CXT} {P : Program} {w : World} {K : PySem.W.Frag} {mg : Str → Option Value} {base : Heap} {N ps fr : List Str} {F : LF} {f : Addr} {k : Nat} {ds : List V} {sp : List (Option V) → Hp → VK → XK → Prop}
theorem lok_of (S : NScope N ps fr F.scope) (hlen : ds.length = ps.length) (hb : ∀ (s : Shared) (H : Hp) (us : List Value) (doc pm ctv : Value), HOk P w H s.heap → DefAt F ds H → ∃ us, Vals ds us ∧ BindsTo s (F.fd doc pm ctv) ⟨[], []⟩ (ps.zip us))
    (hbody : ∀ (A : Around) (outer : List PySem.Env) (s : Shared) (H : Hp) (ws : List (Option V)) (Q : VK) (E : XK), Room k (A.deeper (envF F.nf f s.heap.objs.size)) → ws.length = fr.length → sp ws H Q E →
      ∃ t, PE (ncx CX P w K mg base N F.nf f A outer s H E) F.body t ∧ t (startF N ds ws) H Q) : LOk P w K mg base CX (k + 1) f F ds fr sp := by
  refine ⟨fun A outer s H ws Q E hr e0 hf hc hD C hsp => ?_⟩
  have lim : s.heap.NoLimit := e0.mod.nolimit.keeps fun b o e => (e0.bs b o e).1
  obtain ⟨od, sl, doc, pm, ctv, ho⟩ := lmo_at e0.hok hf
  obtain ⟨us, rv, bind⟩ := hb s H [] doc pm ctv e0.hok hD
  have hul : us.length = ps.length := by rw [← rv.length]; exact hlen
  refine PySem.W.kla_callFunE hr.depth ho rfl S.co S.gen rfl (codeO_at e0.hok hc) ?_
  refine bind _ _ _ _ (wpAny_newFunctionEnv S.nocell (fun ⟨n, _⟩ hy => S.par n (List.of_mem_zip hy).1) (fun h₁ hns hsb => ⟨lim.fresh _ hsb, ?_⟩) S.kind)
  show codeAny _ _ (.expr F.body (envF F.nf f s.heap.objs.size)) _ _
  have kp : ∀ b o, s.heap.get? b = some o → h₁.get? b = some o := fun b o e => hsb.extBut b o (Nat.ne_of_lt (Heap.lt_size e)) (Heap.get?_push_of_some _ e)
  obtain ⟨t, ht, hq⟩ := hbody A outer s H ws Q E (hr.deeper _) C.len hsp
  have I : Inv (ncx CX P w K mg base N F.nf f A outer s H E) [] (startF N ds ws) H { s with heap := h₁, toks := s.toks + (ps.zip us).length } := inv_startN (F := F.nf) S hr.hd e0 hlen rv C hns kp
  refine PySem.W.kla_codeExpr (wpAny_mono (ht.run [] _ (startF N ds ws) H Q I hq) (fun v s' hs => ?_) fun e s' hs => hs)
  obtain ⟨y, H', J, ry, q⟩ := hs
  exact ⟨y, H', J.os, J.bare, J.base, J.hok, ry, q⟩
end
/-! ### a() where a holds something that is asked -/
/-- f may be called without arguments over the ground base, while g holds of the abstract heap: what it does is told by sp -/
def Held0 (P : Program) (w : World) (K : PySem.W.Frag) (mg : Str → Option Value) (base : Heap) (CX : CXT) (k : Nat) (f : Addr) (g : Hp → Prop) (sp : Hp → VK → XK → Prop) : Prop :=
  (∀ H h, HOk P w H h → g H → PySem.W.FnAt f h) ∧ ∀ (A : Around) (outer : List PySem.Env) (s : Shared) (H : Hp) (Q : VK) (E : XK), Room k A → Env0 P w K mg base A outer s H → g H → sp H Q E → codeAny (model P w) A (.call (.ref f) ⟨[], []⟩) (CR CX outer P w H s Q E) s
/-- a lambda, over a ground that tells what its cells hold -/
theorem LOk.held {P : Program} {w : World} {K : PySem.W.Frag} {mg : Str → Option Value} {base : Heap} {CX : CXT} {k : Nat} {f : Addr} {F : LF} {ds : List V} {fr : List Str} {sp : List (Option V) → Hp → VK → XK → Prop} {ws : List (Option V)}
    (o : LOk P w K mg base CX k f F ds fr sp) (C : CellsAt F.cl fr ws base (fun _ => none)) : Held0 P w K mg base CX k f (fun H => H f = some (LmO f F) ∧ H F.c = some (CodeO F.c F.qual) ∧ DefAt F ds H) (sp ws) := by
  refine ⟨fun H h ok g => ?_, fun A outer s H Q E hr e0 g q => o.run A outer s H ws Q E hr e0 g.1 g.2.1 g.2.2 (cells_narrow (P := P) (w := w) (K := K) (mg := mg) (A := A) (outer := outer) C e0.bs) q⟩
  obtain ⟨od, sl, doc, pm, ctv, ho⟩ := lmo_at ok g.1
  exact ⟨_, od, _, sl, ho⟩
def tAsk (P : Program) (w : World) (K : PySem.W.Frag) (mg : Str → Option Value) (base : Heap) (CX : CXT) (k i : Nat) (E : L2.St → XK) : TE := fun σ H Q => ∃ f g sp, σ[i]? = some (some (.ref f)) ∧ Held0 P w K mg base CX k f g sp ∧ g H ∧ sp H Q (E σ)
section
variable {X : Cx} {CX : CXT} {k i : Nat} {a : Str} {p1 p2 : Pos} {E : L2.St → XK}
theorem pe_ask (hr : Room k X.A) (hN : X.N[i]? = some a) (hv : Vis X.env.scope a) (hx : ∀ σ, PassesAt CX X σ (E σ)) (hd : (a == ("__debug__" : Str)) = false := by decide) (hcd : (a == ("__classdict__" : Str)) = false := by decide) :
    PE X (.Call (.Name a p1) [] [] p2) (tAsk X.prog X.w X.K X.mg X.base CX k i E) := by
  refine ⟨fun pins s σ H Q I h => ?_⟩
  obtain ⟨f, g, sp, hs, ⟨hf, hrun⟩, hg, q⟩ := h
  refine wpAny_Call_Name_kw (thn ((pe_var (pos := p1) hN hv hd hcd).run pins s σ H (fun v H1 => v = .ref f ∧ H1 = H) I ⟨.ref f, hs, rfl, rfl⟩) fun u s1 ⟨v, H1, I1, r1, q1⟩ => ?_)
  obtain ⟨rfl, rfl⟩ := q1
  obtain rfl : u = Value.ref f := r1
  refine PySem.W.callWith_F0 (hf H1 s1.heap I1.hok hg) ?_
  show wpAny _ _ (call (.ref f) []) _ _ _
  refine wpAny_call (codeAny_mono (hrun X.A X.stack s1 H1 Q (E σ) hr I1.env0 hg q) fun r s' hq => ?_)
  cases r with
  | error e => exact hx σ pins H1 s1 e s' I1 hq
  | ok fl =>
    cases fl with
    | ret u => exact I1.after hq
    | next => exact False.elim hq
    | brk => exact False.elim hq
    | cont => exact False.elim hq
end
end
section
open LamX NdefX
/-! ### except (A, B, C) as n, where one of the three always fits -/
theorem fly_wide {gr u u2 : Heap} {fl : List PySem.Env} {q : Addr} {Zq : Obj → Prop} (kp : ∀ b o, u.get? b = some o → u2.get? b = some o) (x : HandSPX.FlyingZ gr fl q Zq u) : HandSPX.FlyingZ gr fl q Zq u2 := by
  obtain ⟨x1, x2, x3, oe, vs, T, oT, ts, y1, y2, y3, y4, y5, y6, y7, y8, y9⟩ := x
  exact ⟨fun b o e => kp _ _ (x1 b o e), x2, x3.of_keeps fun b o e _ => ⟨o, kp _ _ e, rfl⟩, oe, vs, T, oT, ts, kp _ _ y1, y2, y3, y4, y5, y6, kp _ _ y7, y8, y9⟩
/-- the suite's ends, its name gone again -/
def gone (i : Nat) (D : Ends) : Ends := { nx := fun τ G => D.nx (τ.set i none) G, rt := D.rt, bk := fun τ G => D.bk (τ.set i none) G, ct := fun τ G => D.ct (τ.set i none) G }
/-- the wish of an exception that the body lets out -/
def wAny3 (K : PySem.W.Frag) (cs : List Value) (i : Nat) (ts : Addr → Value → Option Addr → TS) (D : Ends) : WX := fun cls d σ H =>
  PySem.W.exmAny K cls cs = some true ∧ ∀ q, H q = none → ts q cls d (gone i D) (σ.set i (some (.ref q))) H
section
variable {X : Cx} {xA xB xC n : Str} {cA cB cC : Value} {i j : Nat} {body suite : List Stmt} {b₀ : Stmt} {pA pB pC tp pos hp : Pos} {tb : WX → TS} {ts : Addr → Value → Option Addr → TS}
theorem name_here {Xs : Cx} {pins : List (Addr × Obj)} {τ : L2.St} {G : Hp} {s : Shared} {E : Value → Shared → Prop} {R : Value → Shared → Prop} {x : Str} {c : Value} {p : Pos} (hc : Names Xs x c) (I : Inv Xs pins τ G s) (r : R c s) :
    wpAny (model Xs.prog Xs.w) Xs.A (eval (.Name x p) Xs.env) R E s := by
  obtain ⟨hg, hd, hm | ⟨hm, hv, hn⟩⟩ := hc
  · exact ld_glob I hg hm r hd
  · exact ld_blt I hg hm hv r hn hd
theorem ps_tryA3 (hs : X.stack = X.env :: X.outer) (hf : X.env.frame = some X.env.locals) (hN : X.N.Nodup) (hi : X.N[i]? = some n) (hln : X.env.kindOf n = some .local) (nA : Names X xA cA) (nB : Names X xB cB) (nC : Names X xC cC)
    (hb : ∀ (W : WX) (pn : List (Addr × Obj)) (xe : Value → Shared → Prop), Takes (X.tr pn xe) W → PassesOwn (model X.prog X.w) X.A X.env xe → PSs (X.tr pn xe) body (tb W))
    (hsu : ∀ (q : Addr) (oe : Obj) (cls : Value) (d : Option Addr) (pn : List (Addr × Obj)), Zc cls d oe → (∃ vs, oe.data = .fields vs) → PSs (X.suite q ((q, oe) :: pn)) (b₀ :: suite) (ts q cls d)) :
    PS X (.Try body [.ExceptHandler (some (.Tuple [.Name xA pA, .Name xB pB, .Name xC pC] j tp)) (some n) (b₀ :: suite) hp] [] [] pos) (fun D σ H => tb (wAny3 X.K [cA, cB, cC] i ts D) D σ H) := by
  refine ⟨fun pins s σ H D I h => ?_⟩
  have okX := I.ok
  have stk : X.A.frames = some (X.env :: X.outer) := by rw [okX.frames, hs]
  refine wpAny_Try_except (wpAny_mono ((hb (wAny3 X.K [cA, cB, cC] i ts D) (X.pn ++ pins) (fun e s₁ => wpAny (model X.prog X.w) X.A (noteFrame e X.env) (fun _ s₂ => wpAny (model X.prog X.w) X.A (setFlight e none) (fun _ s₃ =>
    wpAny (model X.prog X.w) X.A (handleBy e X.env [.ExceptHandler (some (.Tuple [.Name xA pA, .Name xB pB, .Name xC pC] j tp)) (some n) (b₀ :: suite) hp]) (SP X pins D) X.xe s₃) X.xe s₂) X.xe s₁) (fun u s' z => ?_) PassesOwn.looking).run [] s σ H D (I.toTry _) h) (fun f s1 z => ?_) (fun _ _ z => z))
  · obtain ⟨q, gr, sI, pins', τ, G, cls, d, rfl, J0, nb, up, sky, nq, os, ag, hm, hsuite⟩ := z
    have J : Inv X pins τ G sI := J0.ofTry okX
    rw [show X.stack = X.env :: X.outer from hs] at sky
    show wpAny (model X.prog X.w) X.A (noteFrame (.ref q) X.env) _ _ _
    refine Sky.land Zc.steady stk hf sky fun g3 fl3 up3 => ?_
    have J3 : Inv X pins τ G { s' with heap := g3 } := J.landed nb fl3.1 (up.trans up3) os ag
    obtain ⟨o3, w3, he3, hz3, hd3⟩ := fl3.there
    have nfr : q ∉ frs (X.env :: X.outer) := fun hmem => by
      obtain ⟨_, o', e', hnf⟩ := fl3.2.2.1.mem hmem
      cases he3.symm.trans e'
      exact hnf _ hd3
    have nL : q ≠ X.env.locals := fun e => nfr (List.mem_filterMap.mpr ⟨X.env, List.mem_cons_self, by rw [hf, e]⟩)
    have nF : q ∉ X.fs := fun hmem => by
      obtain ⟨e, he, hq⟩ := List.mem_filterMap.mp hmem
      exact nfr (List.mem_filterMap.mpr ⟨e, List.mem_cons_of_mem _ he, hq⟩)
    have S3 := J3.suite he3 hd3 nq nL nF
    refine wpAny_handleBy_cons (codeAny_handlers_test ?_) (by intro e; cases e)
    have LT : PySem.W.Looks (model X.prog X.w) g3 (typeOf (.ref q)) cls := fun _ _ _ _ k r => wpAny_typeOf_ref (k _ _ he3) (by rw [hz3.1]; exact r)
    refine wpAny_Tuple (wpAny_items_cons (name_here (Xs := X.suite q ((q, o3) :: (X.pn ++ pins))) nA S3 (wpAny_items_cons (name_here (Xs := X.suite q ((q, o3) :: (X.pn ++ pins))) nB S3 (wpAny_items_cons (name_here (Xs := X.suite q ((q, o3) :: (X.pn ++ pins))) nC S3 (wpAny_items_nil ⟨by size_fits, ?_⟩)))))))
    have kp : ∀ b o, g3.get? b = some o → (g3.push { cls := .type "tuple", data := .seq [cA, cB, cC].toArray }).get? b = some o := fun _ _ e => Heap.get?_push_of_some _ e
    refine (PySem.W.exm_tup3 (J3.kIn.keeps kp) (LT.keeps kp) (Heap.get?_push_size g3 rfl) hm).here ?_
    refine codeAny_handlers_suite_as ?_
    refine HandSPX.lands_againZ (fly_wide kp fl3) fun g4 fl4 up4 => ?_
    have J4 : Inv X pins τ G { s' with heap := g4 } := J.landed nb fl4.1 ((up.trans up3).trans ((Heap.UpToSlots.of_keeps kp).trans up4)) os ag
    obtain ⟨o4, w4, he4, hz4, hd4⟩ := fl4.there
    have S4 := J4.suite he4 hd4 nq nL nF
    refine store_ok (X := X.suite q ((q, o4) :: (X.pn ++ pins))) (v := .ref q) S4 hN hi (.inl hln) rfl (fun s5 S5 => ?_) (.inr hln)
    refine wpAny_mono ((hsu q o4 cls d (X.pn ++ pins) hz4 ⟨_, hd4⟩).run [] s5 _ G _ S5 (hsuite q nq)) (fun f s6 z => ?_) fun _ _ z => False.elim z
    have fin : ∀ {τ6 : L2.St} {G6 : Hp} {R : Shared → Prop}, Inv (X.suite q ((q, o4) :: (X.pn ++ pins))) [] τ6 G6 s6 → (∀ s7, Inv X pins (τ6.set i none) G6 s7 → R s7) →
        wpAny (model X.prog X.w) X.A (do bindName X.env n .none; unbindBehindTheSuite X.env n hp) (fun _ s7 => R s7) X.xe s6 := fun {τ6 G6 R} S6 r => gone_ok (S6.unsuite okX) hN hi hln r
    cases f with
    | ret u => exact fin z.choose_spec.choose_spec.choose_spec.1 fun s7 J7 => ⟨_, _, _, J7, z.choose_spec.choose_spec.choose_spec.2.1, z.choose_spec.choose_spec.choose_spec.2.2⟩
    | next => exact fin z.choose_spec.choose_spec.1 fun s7 J7 => ⟨_, _, J7, z.choose_spec.choose_spec.2⟩
    | brk => exact fin z.choose_spec.choose_spec.1 fun s7 J7 => ⟨_, _, J7, z.choose_spec.choose_spec.2⟩
    | cont => exact fin z.choose_spec.choose_spec.1 fun s7 J7 => ⟨_, _, J7, z.choose_spec.choose_spec.2⟩
  · cases f with
    | ret u => exact ⟨_, _, _, z.choose_spec.choose_spec.choose_spec.1.ofTry okX, z.choose_spec.choose_spec.choose_spec.2.1, z.choose_spec.choose_spec.choose_spec.2.2⟩
    | next => exact wpAny_execs_nil ⟨_, _, z.choose_spec.choose_spec.1.ofTry okX, z.choose_spec.choose_spec.2⟩
    | brk => exact ⟨_, _, z.choose_spec.choose_spec.1.ofTry okX, z.choose_spec.choose_spec.2⟩
    | cont => exact ⟨_, _, z.choose_spec.choose_spec.1.ofTry okX, z.choose_spec.choose_spec.2⟩
end
end
section
open LamX NdefX L2H
/-! ### the caught exception: its fields, and a def that it is passed to -/
/-- what stands pinned at a: an exception of the class cls with the dict d -/
structure Pinned (X : Cx) (a : Addr) (oe : Obj) (cls : Value) (d : Option Addr) : Prop where
  mem : (a, oe) ∈ X.pn
  kin : Zc cls d oe
  fld : ∃ vs, oe.data = .fields vs
/-- the reading of e.n where e is that exception -/
def tXfA (K : PySem.W.Frag) (a : Addr) (cls : Value) (d : Option Addr) (n : Str) (te : TE) : TE := fun σ H Q => te σ H fun x G => x = .ref a ∧ ∃ (C dd : Addr) (fs : List (Str × V)) (v : V),
  cls = .ref C ∧ XfC K C ∧ PySem.W.findIn K (.ref C) n = some none ∧ d = some dd ∧ G dd = some (.xd fs) ∧ fs.lookup n = some v ∧ Q v G
theorem pe_xfA {X : Cx} {a : Addr} {oe : Obj} {cls : Value} {d : Option Addr} {e : Expr} {te : TE} {pos : Pos} {n : Str} (p : Pinned X a oe cls d) (he : PE X e te) (hb : attributeBase e n X.env (eval e X.env) = eval e X.env := by rfl) :
    PE X (.Attribute e n pos) (tXfA X.K a cls d n te) := by
  refine ⟨fun pins s σ H Q I h => attr_of hb (thn (he.run pins s σ H _ I h) fun u s1 z => ?_)⟩
  obtain ⟨x, G, I1, rx, rfl, C, dd, fs, v, rfl, T, hno, rfl, ea, l, q⟩ := z
  obtain rfl : u = Value.ref a := rx
  obtain ⟨vs, hd⟩ := p.fld
  have there := (I1.pin (a, oe) (List.mem_append_left _ p.mem)).1
  obtain ⟨mA, hns, hr⟩ := (show ObjOk X.prog X.w G s1.heap dd (.xd fs) from I1.hok dd _ ea)
  obtain ⟨od, ho, hl⟩ := lookIn_ns hns
  obtain ⟨u, hu, ru⟩ := RelO.some_of (v := v) (o := mA n) (by rw [← l]; exact hr n)
  refine HandSPX.exc_get I1.kIn (⟨there, p.kin.1, by unfold PySem.W.notCls; rw [hd] <;> rfl, by rw [p.kin.2]; exact ho⟩ : PySem.W.InstAt s1.heap a oe C (some od)) T.ga T.gg T.exC (PySem.W.findObj_own T.hdC hno rfl (by rw [hl, hu])) (handed_of ru) ⟨v, G, I1.tok _, ru, q⟩
/-- what a def promises that is called in an except suite with the exception among its arguments -/
structure FnP (P : Program) (w : World) (K : PySem.W.Frag) (mg : Str → Option Value) (base : Heap) (CX : CXT) (k : Nat) (f : Addr) (fd : FuncData) (ps : List Str) (sp : Addr → Value → Option Addr → Sp) : Prop where
  len : ∀ a cls d vs H Q E, sp a cls d vs H Q E → vs.length = ps.length
  run : ∀ (A : Around) (outer : List PySem.Env) (s : Shared) (H : Hp) (args : Args) (us : List Value) (vs : List V) (Q : VK) (E : XK) (p : Addr × Obj) (cls : Value) (d : Option Addr), RoomH k A → PinOk outer H s p → Zc cls d p.2 → (∃ vs, p.2.data = .fields vs) → Env0 P w K mg base A outer s H →
    BindsTo s fd args (ps.zip us) → Vals vs us → sp p.1 cls d vs H Q E → codeAny (model P w) A (.call (.ref f) args) (CR CX outer P w H s Q E) s
theorem fnp_of {CX : CXT} {P : Program} {w : World} {K : PySem.W.Frag} {mg : Str → Option Value} {base : Heap} {k : Nat} {f : Addr} {name qual : Str} {params : Arguments} {body : List Stmt} {scope : Scope} {dV kV doc pm cdv ct oc : Value} {an od : Option Addr} {osl : Array (Option Value)} {N ps : List Str} {sp : Addr → Value → Option Addr → Sp}
    (lk : K.lookup f = some ⟨oc, od, .func (PySem.W.fnOf name qual params body scope dV kV doc pm an cdv ct), osl⟩) (hcd : PySem.W.codeIn K cdv qual = true) (S : FnScope N ps scope) (len : ∀ a cls d vs H Q E, sp a cls d vs H Q E → vs.length = ps.length)
    (hbody : ∀ (A : Around) (outer : List PySem.Env) (s : Shared) (H : Hp) (vs : List V) (Q : VK) (E : XK) (p : Addr × Obj) (cls : Value) (d : Option Addr), Zc cls d p.2 → (∃ vs, p.2.data = .fields vs) → RoomH k (A.deeper (envOfC qual scope s.heap.objs.size f cdv)) → sp p.1 cls d vs H Q E →
      ∃ t, PSs (cxH CX P w K mg base N qual scope f cdv A outer s H E p) body t ∧ t { nx := fun _ G => Q .non G, rt := Q } (L2.start N vs) H) :
    FnP P w K mg base CX (k + 1) f (PySem.W.fnOf name qual params body scope dV kV doc pm an cdv ct) ps sp := by
  refine ⟨len, fun A outer s H args us vs Q E p cls d hr hpin hz hf e0 hb r hsp => ?_⟩
  have inK : K.In s.heap := e0.mod.kin.keeps fun b o e => (e0.bs b o e).1
  have noLim : s.heap.NoLimit := e0.mod.nolimit.keeps fun b o e => (e0.bs b o e).1
  refine codeAny_call_function hr.depth (inK _ _ lk) rfl S.co S.gen rfl (PySem.W.codeRec_of inK hcd) (hb _ _ _ _ (wpAny_newFunctionEnv_cells S.kind (fun ⟨n, v⟩ hy => (S.par n (List.of_mem_zip hy).1).imp id fun q => ⟨q, PySem.W.cellsFrom_some _ _ _ (.inl q)⟩) fun env he s1 x => ?_))
  subst he
  obtain ⟨t, ht, hq⟩ := hbody A outer s H vs Q E p cls d hz hf (hr.deeper _) hsp
  refine ⟨noLim.keeps x.toInCall.keep, codeAny_func (wpAny_mono (ht.run [] s1 (L2.start N vs) H _ (inv_startH S hpin e0 (len _ _ _ _ _ _ _ hsp) r x) hq) (fun fl s' z => ?_) fun e s' z => z)⟩
  cases fl with
  | ret u => exact ⟨_, _, z.choose_spec.choose_spec.choose_spec.1.os, z.choose_spec.choose_spec.choose_spec.1.bare, z.choose_spec.choose_spec.choose_spec.1.base, z.choose_spec.choose_spec.choose_spec.1.hok, z.choose_spec.choose_spec.choose_spec.2⟩
  | next => exact ⟨V.non, _, z.choose_spec.choose_spec.1.os, z.choose_spec.choose_spec.1.bare, z.choose_spec.choose_spec.1.base, z.choose_spec.choose_spec.1.hok, rfl, z.choose_spec.choose_spec.2⟩
  | brk => exact False.elim z.choose_spec.choose_spec.2
  | cont => exact False.elim z.choose_spec.choose_spec.2
/-- f(e) with the exception | its reading -/
def tCallP (a : Addr) (cls : Value) (d : Option Addr) (sp : Addr → Value → Option Addr → Sp) (t : TA) : TE := fun σ H Q => t σ H fun vs G => sp a cls d vs G Q fun _ _ _ => False
theorem pe_callP {X : Cx} {CX : CXT} {k : Nat} {f : Addr} {fd : FuncData} {ps : List Str} {sp : Addr → Value → Option Addr → Sp} {x : Str} {q pos : Pos} {e : Expr} {es : List Expr} {t : TA} {a : Addr} {oe : Obj} {cls : Value} {d : Option Addr}
    (F : FnP X.prog X.w X.K X.mg X.base CX k f fd ps sp) (hr : RoomH k X.A) (p : Pinned X a oe cls d) (hg : Gl X x) (hm : X.mg x = some (.ref f)) (hk : PySem.W.keepIn X.K (.ref f) = true) (hb : Binds X.K fd ps []) (hx : ∀ σ, PassesAt CX X σ fun _ _ _ => False)
    (ha : PA X (e :: es) t) (hd : (x == ("__debug__" : Str)) = false := by decide) (he : starEach (e :: es) X.env = (false, eval e X.env) :: starEach es X.env := by rfl) (hp : (backTo pos (starEach es X.env)).any (·.1) = false := by rfl) :
    PE X (.Call (.Name x q) (e :: es) [] pos) (tCallP a cls d sp t) := by
  refine ⟨fun pins s σ H Q I h => wpAny_Call_Name_kw (ld_glob I hg hm (PySem.W.callWith_K (h₀ := X.base) I.ok.mod.kin hk (thn (ha.run pos pins s σ H _ I h) fun us s1 ⟨vs, G, I1, r, z⟩ => ⟨I1.kIn, ?_⟩) he hp) hd)⟩
  have ln : us.length = ps.length := by rw [← r.length]; exact F.len _ _ _ _ _ _ _ z
  have b := hb s1 us I1.kIn (by rw [List.append_nil]; exact ln)
  rw [List.append_nil] at b
  obtain ⟨g1, g2, g3, g4, g5⟩ := I1.pin (a, oe) (List.mem_append_left _ p.mem)
  refine wpAny_call (codeAny_mono (F.run X.A X.stack s1 G ⟨us, []⟩ us vs Q _ (a, oe) cls d hr ⟨g1, g2, fun hm => (List.mem_cons.mp (I1.stkSub a hm)).elim g3 g4, g5⟩ p.kin p.fld I1.env0 b r z) fun r s' hq => ?_)
  cases r with
  | error e => exact hx σ pins G s1 e s' I1 hq
  | ok fl =>
    cases fl with
    | ret u => exact I1.after hq
    | next => exact False.elim hq
    | brk => exact False.elim hq
    | cont => exact False.elim hq
end

/-! ### comprehensions -/
/-- the new list's items one by one: I holds of the heap all the way, R i tells the i-th item -/
theorem lc_gen {J : It} {n : Nat} {G : Hp → Prop} {Y : Nat → Hp → V → Hp → Prop} (w : Walk J n G Y) {g : TG} {te : TE} {vs : List Nat} {σ : L2.St} {H1 : Hp} {D : Addr} {Qd : Hp → Prop}
    (I : Hp → Prop) (R : Nat → V → Prop) (hn : n ≤ 100000) (h0 : I (upd H1 D (.lst []))) (hG : ∀ H, I H → G H) (hU : ∀ H o, I H → I (upd H D o))
    (hs : ∀ i x H H' (Q : VK), i < n → I H → Y i H x H' → (∃ o, H D = some o) → (∀ y H4, R i y → I H4 → (∀ o, H D = some o → H4 D = some o) → Q y H4) → g x (wipe σ vs) H' fun σ2 H2 => wipe σ2 vs = wipe σ vs ∧ te σ2 H2 Q)
    (hd : ∀ H ys, I H → H D = some (.lst ys) → ys.length = n → (∀ i y, ys[i]? = some y → R i y) → Qd H) :
    ∃ W : Nat → Nat → Hp → Prop, (∃ m, W 0 m (upd H1 D (.lst []))) ∧ ∀ i m H, W i m H →
      (J.stop i H ∧ Qd H) ∨ (J.go i H ∧ ∃ Nx : Hp → Prop, (∀ H', Nx H' → ∃ m', m' < m ∧ W (i + 1) m' H') ∧ ∀ x H', J.yld i H x H' → g x (wipe σ vs) H' fun σ2 H2 => wipe σ2 vs = wipe σ vs ∧ tYes σ2 H2 fun b H3 =>
        if b = true then te σ2 H3 fun y H4 => ∃ acc, H4 D = some (.lst acc) ∧ acc.length < sizeLine ∧ Nx (upd H4 D (.lst (acc ++ [y]))) else Nx H3) := by
  refine lc_it w (fun i H => I H ∧ ∃ ys : List V, H D = some (.lst ys) ∧ ys.length = i ∧ ∀ j y, ys[j]? = some y → R j y) ⟨h0, [], upd_same, rfl, fun j y e => by simp at e⟩ (fun i H _ h => hG H h.1) ?_ ?_
  · rintro i x H H' hi ⟨hI, ys, hy, hl, hr⟩ hY
    refine hs i x H H' _ hi hI hY ⟨_, hy⟩ fun y H4 ry hI4 hk => ⟨ys, hk _ hy, szl (by omega), hU _ _ hI4, ys ++ [y], upd_same, by simp [hl], fun j z e => ?_⟩
    by_cases hj : j < ys.length
    · rw [List.getElem?_append_left hj] at e
      exact hr j z e
    · have hj2 : j = ys.length := by
        have := (List.getElem?_eq_some_iff.mp e).1
        simp at this
        omega
      subst hj2
      simp at e
      rw [← e, hl]
      exact ry
  · rintro H ⟨hI, ys, hy, hl, hr⟩
    exact hd H ys hI hy hl hr
/-- with a test: the items of the turns that are kept, by f -/
theorem lc_fil {J : It} {n : Nat} {G : Hp → Prop} {Y : Nat → Hp → V → Hp → Prop} (w : Walk J n G Y) {g : TG} {tt : TT} {te : TE} {vs : List Nat} {σ : L2.St} {H1 : Hp} {D : Addr} {Qd : Hp → Prop}
    (I : Hp → Prop) (f : Nat → Option V) (hn : n ≤ 100000) (h0 : I (upd H1 D (.lst []))) (hG : ∀ H, I H → G H) (hU : ∀ H o, I H → I (upd H D o))
    (hs : ∀ i x H H' (Q : VK) (Qn : Hp → Prop), i < n → I H → Y i H x H' → (∃ o, H D = some o) → (∀ y H4, f i = some y → I H4 → (∀ o, H D = some o → H4 D = some o) → Q y H4) → (∀ H4, f i = none → I H4 → (∀ o, H D = some o → H4 D = some o) → Qn H4) →
      g x (wipe σ vs) H' fun σ2 H2 => wipe σ2 vs = wipe σ vs ∧ tt σ2 H2 fun b H3 => if b = true then te σ2 H3 Q else Qn H3)
    (hd : ∀ H, I H → H D = some (.lst ((List.range n).filterMap f)) → Qd H) :
    ∃ W : Nat → Nat → Hp → Prop, (∃ m, W 0 m (upd H1 D (.lst []))) ∧ ∀ i m H, W i m H →
      (J.stop i H ∧ Qd H) ∨ (J.go i H ∧ ∃ Nx : Hp → Prop, (∀ H', Nx H' → ∃ m', m' < m ∧ W (i + 1) m' H') ∧ ∀ x H', J.yld i H x H' → g x (wipe σ vs) H' fun σ2 H2 => wipe σ2 vs = wipe σ vs ∧ tt σ2 H2 fun b H3 =>
        if b = true then te σ2 H3 fun y H4 => ∃ acc, H4 D = some (.lst acc) ∧ acc.length < sizeLine ∧ Nx (upd H4 D (.lst (acc ++ [y]))) else Nx H3) := by
  refine lc_it w (fun i H => I H ∧ H D = some (.lst ((List.range i).filterMap f))) ⟨h0, upd_same⟩ (fun i H _ h => hG H h.1) ?_ ?_
  · rintro i x H H' hi ⟨hI, hy⟩ hY
    have e : (List.range (i + 1)).filterMap f = (List.range i).filterMap f ++ (match f i with | some y => [y] | none => []) := by
      rw [List.range_succ, List.filterMap_append]
      cases h : f i <;> simp [h]
    have hl : ((List.range i).filterMap f).length ≤ i := by
      have := List.length_filterMap_le f (List.range i)
      rw [List.length_range] at this
      exact this
    refine hs i x H H' _ _ hi hI hY ⟨_, hy⟩ (fun y H4 ry hI4 hk => ⟨_, hk _ hy, szl (by omega), hU _ _ hI4, ?_⟩) (fun H4 ry hI4 hk => ⟨hI4, ?_⟩)
    · rw [upd_same, e, ry]
    · rw [hk _ hy, e, ry, List.append_nil]
  · rintro H ⟨hI, hy⟩
    exact hd H hI hy
theorem ys_map {α : Type} {l : List α} {f : α → V} {ys : List V} (hl : ys.length = l.length) (hr : ∀ (i : Nat) (y : V), ys[i]? = some y → ∃ c, l[i]? = some c ∧ y = f c) : ys = l.map f := by
  apply List.ext_getElem?
  intro i
  rw [List.getElem?_map]
  cases h : ys[i]? with
  | none =>
    have h1 := List.getElem?_eq_none_iff.mp h
    rw [List.getElem?_eq_none_iff.mpr (by omega)]
    rfl
  | some y =>
    obtain ⟨c, h1, h2⟩ := hr i y h
    rw [h1, h2]
    rfl
theorem all_dec {α : Type} {l : List α} {p : α → Prop} [DecidablePred p] : (l.map fun c => decide (p c)).all id = decide (∀ c ∈ l, p c) := by
  rw [Bool.eq_iff_iff]
  simp
theorem size_tl (z : Str) : z.cps.size = z.cps.toList.length := by simp
theorem len_tl (z : Str) : z.length = z.cps.toList.length := by simp [Str.length]
theorem get_tl (z : Str) (i : Nat) : z.cps[i]? = z.cps.toList[i]? := by simp
theorem pick_map {α : Type} {P : α → Prop} {f : α → V} : ∀ {ys : List V}, (∀ (i : Nat) (y : V), ys[i]? = some y → ∃ c, P c ∧ y = f c) → ∃ cs : List α, ys = cs.map f ∧ cs.length = ys.length ∧ ∀ c ∈ cs, P c
  | [], _ => ⟨[], rfl, rfl, fun _ h => nomatch h⟩
  | y :: r, h => by
    obtain ⟨c, hc, e⟩ := h 0 y rfl
    obtain ⟨cs, h1, h2, h3⟩ := pick_map (P := P) (f := f) (ys := r) fun i z hz => h (i + 1) z hz
    refine ⟨c :: cs, by rw [e, h1]; rfl, by simp [h2], fun x hx => ?_⟩
    rcases List.mem_cons.mp hx with rfl | hx
    · exact hc
    · exact h3 x hx
theorem fil_empty {f : Nat → Option V} {n : Nat} : (!(!((List.range n).filterMap f).isEmpty)) = decide (∀ i < n, f i = none) := by
  rw [Bool.eq_iff_iff]
  simp
/-- tuples stay what they are -/
def TupKeep (H H' : Hp) : Prop := ∀ c xs, H c = some (.tup xs) → H' c = some (.tup xs)
theorem TupKeep.of {H H' : Hp} (s : Same H H') : TupKeep H H' := fun _ _ h => s _ _ h
theorem TupKeep.put {H H' : Hp} {D : Addr} {xs ys : List V} (k : TupKeep H H') (e : H' D = some (.lst xs)) : TupKeep H (upd H' D (.lst ys)) := fun c zs h => by
  have h2 := k c zs h
  have n : c ≠ D := fun z => by
    rw [z, e] at h2
    cases h2
  rw [upd_ne n]
  exact h2
/-- as lc_gen, where what is told of the items stands in the heap -/
theorem lc_genH {J : It} {n : Nat} {G : Hp → Prop} {Y : Nat → Hp → V → Hp → Prop} (w : Walk J n G Y) {g : TG} {te : TE} {vs : List Nat} {σ : L2.St} {H1 : Hp} {D : Addr} {Qd : Hp → Prop}
    (I : Hp → Prop) (R : Nat → V → Hp → Prop) (hn : n ≤ 100000) (h0 : I (upd H1 D (.lst []))) (hG : ∀ H, I H → G H) (hU : ∀ H o, I H → I (upd H D o)) (hR : ∀ i y H H', TupKeep H H' → R i y H → R i y H')
    (hs : ∀ i x H H' (Q : VK), i < n → I H → Y i H x H' → (∃ xs, H D = some (.lst xs)) → (∀ y H4, R i y H4 → I H4 → TupKeep H H4 → (∀ o, H D = some o → H4 D = some o) → Q y H4) → g x (wipe σ vs) H' fun σ2 H2 => wipe σ2 vs = wipe σ vs ∧ te σ2 H2 Q)
    (hd : ∀ H ys, I H → H D = some (.lst ys) → ys.length = n → (∀ i y, ys[i]? = some y → R i y H) → Qd H) :
    ∃ W : Nat → Nat → Hp → Prop, (∃ m, W 0 m (upd H1 D (.lst []))) ∧ ∀ i m H, W i m H →
      (J.stop i H ∧ Qd H) ∨ (J.go i H ∧ ∃ Nx : Hp → Prop, (∀ H', Nx H' → ∃ m', m' < m ∧ W (i + 1) m' H') ∧ ∀ x H', J.yld i H x H' → g x (wipe σ vs) H' fun σ2 H2 => wipe σ2 vs = wipe σ vs ∧ tYes σ2 H2 fun b H3 =>
        if b = true then te σ2 H3 fun y H4 => ∃ acc, H4 D = some (.lst acc) ∧ acc.length < sizeLine ∧ Nx (upd H4 D (.lst (acc ++ [y]))) else Nx H3) := by
  refine lc_it w (fun i H => I H ∧ ∃ ys : List V, H D = some (.lst ys) ∧ ys.length = i ∧ ∀ j y, ys[j]? = some y → R j y H) ⟨h0, [], upd_same, rfl, fun j y e => by simp at e⟩ (fun i H _ h => hG H h.1) ?_ ?_
  · rintro i x H H' hi ⟨hI, ys, hy, hl, hr⟩ hY
    refine hs i x H H' _ hi hI hY ⟨_, hy⟩ fun y H4 ry hI4 tk hk => ⟨ys, hk _ hy, szl (by omega), hU _ _ hI4, ys ++ [y], upd_same, by simp [hl], fun j z e => ?_⟩
    by_cases hj : j < ys.length
    · rw [List.getElem?_append_left hj] at e
      exact hR _ _ _ _ (tk.put (hk _ hy)) (hr j z e)
    · have hj2 : j = ys.length := by
        have := (List.getElem?_eq_some_iff.mp e).1
        simp at this
        omega
      subst hj2
      simp at e
      rw [← e, hl]
      exact hR _ _ _ _ (TupKeep.put (fun _ _ h => h) (hk _ hy)) ry
  · rintro H ⟨hI, ys, hy, hl, hr⟩
    exact hd H ys hI hy hl hr

/-! ### len(o), repr(o) by own defs -/
section
variable {X : Cx} {CX : CXT} {k : Nat} {f C : Addr} {fd : FuncData} {ps : List Str} {sp : Sp} {E : XK}
/-- an own def called with the object alone, below the running body -/
theorem own_run {a : Addr} {A : Around} {pins : List (Addr × Obj)} {σ : L2.St} {H : Hp} {s : Shared} {Q : VK} {R E' : Value → Shared → Prop} (F : FnOk X.prog X.w X.K X.mg X.base CX k f fd ps sp) (sb : Sub X k A) (hb : Binds X.K fd ps [])
    (hx : ∀ e s', CX X.stack H s E e s' → E' e s') (I : Inv X pins σ H s) (h : sp [.ref a] H Q E) (q : ∀ u s', EP X pins σ Q u s' → R u s') :
    wpAny (model X.prog X.w) A (call (.ref f) [.ref a]) R E' s := by
  have e0 : Env0 X.prog X.w X.K X.mg X.base A X.stack s H := by
    have e := I.env0
    exact ⟨by rw [sb.fr]; exact e.frames, e.mod, e.bs, e.bsz, e.funs, e.frf, e.hok, e.bare⟩
  have hl := F.len _ _ _ _ h
  have r2 : Vals [V.ref a] [Value.ref a] := .cons rfl .nil
  refine wpAny_call (codeAny_mono (F.run A X.stack s H ⟨[.ref a], []⟩ [.ref a] [.ref a] _ E sb.room e0 (by
    have := hb s [.ref a] I.kIn (by simpa using hl)
    simpa using this) r2 h) fun r s' hq => ?_)
  cases r with
  | error e => exact hx e s' hq
  | ok fl =>
    cases fl with
    | ret w => exact q _ _ (I.after hq)
    | next => exact False.elim hq
    | brk => exact False.elim hq
    | cont => exact False.elim hq
/-- the class has an own def under a name -/
structure OwnDef (K : PySem.W.Frag) (C : Addr) (m : Str) (f : Addr) : Prop where
  at_ : PySem.W.findIn K (.ref C) m = some (some (.ref f))
  fn : PySem.W.isFn K (.ref f) = true
theorem call_ownlen (F : FnOk X.prog X.w X.K X.mg X.base CX k f fd ps sp) (hr : Room (k + 1) X.A) (d : OwnDef X.K C "__len__" f) (hb : Binds X.K fd ps []) (hx : Passes CX X E) :
    CallR X (.builtin "len") (fun xs H Q => ∃ (a dx : Addr) (fs : List (Str × V)), xs = [.ref a] ∧ H a = some (.ins C dx fs) ∧ sp [.ref a] H (fun v H' => ∃ n : Int, v = .int n ∧ 0 ≤ n ∧ n < 2 ^ 63 ∧ Q (.int n) H') E) := by
  intro pins s σ H xs us Q I r h
  obtain ⟨a, dx, fs, rfl, ha, h⟩ := h
  obtain ⟨u, rfl, ru⟩ := vals1 r
  obtain rfl : u = Value.ref a := ru
  obtain ⟨mA, J, _⟩ := ins_get I.hok ha
  obtain ⟨od, J, _⟩ := J.look
  refine Calls.call_function_entry kind_len plain_len entry_len (args_len1 _) ?_
  unfold Builtin.«len»
  refine wpAny_bind (m := oneArg "len" _) (wpAny_pure ?_)
  refine wpAny_bind (m := callSpecial? (.ref a) (PySem.Str.ofString "__len__")) (PySem.W.special_fn I.kIn J d.at_ (beq_iff_eq.mp d.fn) (own_run F ⟨hr.in1, rfl⟩ hb (fun e s' z => hx pins σ H s e s' I z) I h fun u s' z => ?_))
  obtain ⟨v, H', I', rv, n, rfl, n0, n1, q⟩ := z
  obtain ⟨t, rfl⟩ := rv
  refine wpAny_bind (wpAny_holding (wpAny_pure ?_))
  refine wpAny_bind (wpAny_letGo ?_)
  show wpAny _ _ (if n < 0 then _ else _) _ _ _
  rw [if_neg (by omega)]
  show wpAny _ _ (if n ≥ 2 ^ 63 then _ else _) _ _ _
  rw [if_neg (by omega)]
  exact wpAny_bind (wpAny_mkInt (wpAny_pure ⟨_, rfl, .int n, H', I'.tok _, ⟨_, rfl⟩, q⟩))
theorem call_ownrepr (F : FnOk X.prog X.w X.K X.mg X.base CX k f fd ps sp) (hr : Room (k + 1) X.A) (d : OwnDef X.K C "__repr__" f) (hb : Binds X.K fd ps []) (hx : Passes CX X E) :
    CallR X (.builtin "repr") (fun xs H Q => ∃ (a dx : Addr) (fs : List (Str × V)), xs = [.ref a] ∧ H a = some (.ins C dx fs) ∧ sp [.ref a] H (fun v H' => ∃ z : Str, v = .str z ∧ Q (.str z) H') E) := by
  intro pins s σ H xs us Q I r h
  obtain ⟨a, dx, fs, rfl, ha, h⟩ := h
  obtain ⟨u, rfl, ru⟩ := vals1 r
  obtain rfl : u = Value.ref a := ru
  obtain ⟨mA, J, _⟩ := ins_get I.hok ha
  obtain ⟨od, J, _⟩ := J.look
  refine Calls.call_function_entry PySem.F.kind_repr PySem.F.plain_repr PySem.F.entry_repr (PySem.F.args_repr1 _) ?_
  unfold Builtin.«repr»
  refine wpAny_bind (m := oneArg "repr" _) (wpAny_pure ?_)
  refine wpAny_bind (wpAny_cRoomFor hr.in1.units0 ?_)
  refine wpAny_bind (wpAny_bind (J.type.here ((PySem.W.looks_findIn I.kIn d.at_).here ?_)))
  refine wpAny_bind (m := callSpecialIfBound? (.ref a) (PySem.Str.ofString "__repr__")) (PySem.W.ifBound_K I.kIn J d.at_ d.fn (own_run F ⟨hr.in1, rfl⟩ hb (fun e s' z => hx pins σ H s e s' I z) I h fun u s' z => ?_))
  obtain ⟨v, H', I', rv, z, rfl, q⟩ := z
  obtain ⟨t, rfl⟩ := rv
  refine wpAny_bind (wpAny_isInstance (T := "str") (b := true) rfl isSubtype_str_str ?_)
  exact wpAny_pure ⟨_, rfl, .str z, H', I', ⟨t, rfl⟩, q⟩
end

/-! ### x in o by an own __contains__ -/
section
variable {X : Cx} {CX : CXT} {k : Nat} {f C : Addr} {fd : FuncData} {ps : List Str} {sp : Sp} {E : XK}
/-- an own def called with the object and one argument, below the running body -/
theorem own_run2 {a : Addr} {x : V} {v : Value} {A : Around} {pins : List (Addr × Obj)} {σ : L2.St} {H : Hp} {s : Shared} {Q : VK} {R E' : Value → Shared → Prop} (F : FnOk X.prog X.w X.K X.mg X.base CX k f fd ps sp) (sb : Sub X k A) (hb : Binds X.K fd ps [])
    (hx : ∀ e s', CX X.stack H s E e s' → E' e s') (I : Inv X pins σ H s) (rx : RelV x v) (h : sp [.ref a, x] H Q E) (q : ∀ u s', EP X pins σ Q u s' → R u s') :
    wpAny (model X.prog X.w) A (call (.ref f) [.ref a, v]) R E' s := by
  have e0 : Env0 X.prog X.w X.K X.mg X.base A X.stack s H := by
    have e := I.env0
    exact ⟨by rw [sb.fr]; exact e.frames, e.mod, e.bs, e.bsz, e.funs, e.frf, e.hok, e.bare⟩
  have hl := F.len _ _ _ _ h
  have r2 : Vals [V.ref a, x] [Value.ref a, v] := .cons rfl (.cons rx .nil)
  refine wpAny_call (codeAny_mono (F.run A X.stack s H ⟨[.ref a, v], []⟩ [.ref a, v] [.ref a, x] _ E sb.room e0 (by
    have := hb s [.ref a, v] I.kIn (by simpa using hl)
    simpa using this) r2 h) fun r s' hq => ?_)
  cases r with
  | error e => exact hx e s' hq
  | ok fl =>
    cases fl with
    | ret w => exact q _ _ (I.after hq)
    | next => exact False.elim hq
    | brk => exact False.elim hq
    | cont => exact False.elim hq
theorem op_ownIn (F : FnOk X.prog X.w X.K X.mg X.base CX k f fd ps sp) (hr : Room k X.A) (d : OwnDef X.K C "__contains__" f) (hb : Binds X.K fd ps []) (hx : Passes CX X E) :
    OpR X (compareOp .In) (fun x y H Q => ∃ (a dx : Addr) (fs : List (Str × V)), y = .ref a ∧ H a = some (.ins C dx fs) ∧ sp [.ref a, x] H (fun v H' => ∃ b : Bool, v = .bl b ∧ Q (.bl b) H') E) := by
  intro pins s σ H x y v u Q I rx ry h
  obtain ⟨a, dx, fs, rfl, ha, h⟩ := h
  obtain rfl : u = Value.ref a := ry
  obtain ⟨mA, J, _⟩ := ins_get I.hok ha
  obtain ⟨od, J, _⟩ := J.look
  unfold compareOp
  refine wpAny_bind (m := contains (.ref a) v) ?_
  unfold contains
  refine wpAny_holding ?_
  show wpAny _ _ (specialOf (.ref a) "__contains__" >>= _) _ _ _
  refine wpAny_bind (wpAny_bind (J.type.here ((PySem.W.looks_findIn I.kIn d.at_).here ?_)))
  have n1 : ¬ ((some (Value.ref f) == some Value.none) = true) := by
    intro z
    have : (some (Value.ref f) == some Value.none) = false := by rfl
    rw [this] at z
    cases z
  rw [if_neg n1]
  refine wpAny_bind (m := callSpecialUnlessNone? (.ref a) "__contains__" [v] _) ?_
  unfold callSpecialUnlessNone?
  refine wpAny_bind (wpAny_bind (J.type.here ((PySem.W.looks_findIn I.kIn d.at_).here ?_)))
  refine wpAny_holding (wpAny_bind ((PySem.W.bind_fn I.kIn _ (beq_iff_eq.mp d.fn)).here ?_))
  show wpAny _ _ (if (Value.ref f == Value.none) = true then _ else _) _ _ _
  have n2 : ¬ ((Value.ref f == Value.none) = true) := by
    intro z
    have : (Value.ref f == Value.none) = false := by rfl
    rw [this] at z
    cases z
  rw [if_neg n2]
  refine wpAny_bind (m := call (.ref f) [.ref a, v]) ?_
  refine own_run2 F ⟨hr, rfl⟩ hb (fun e s' z => hx pins σ H s e s' I z) I rx h fun u s' z => ?_
  obtain ⟨w', H', I', rv, b, rfl, q⟩ := z
  obtain rfl : u = .bool b := rv
  refine wpAny_pure ?_
  exact wpAny_truthy_bool (wpAny_pure ⟨.bl b, H', I', rfl, q⟩)
end

/-! ### enumerate of a tuple -/
namespace EnT
open PySem
theorem drawT {prog : Program} {w : World} {A : Around} (hh : A.handled = none) (it l : Addr) (ne : l ≠ it) (its : Array Value) :
    Draws prog w A it [it, l] its.size (fun i v => its[i]? = some v) (fun i h => h.IsTupleIter it l i ∧ h.IsTuple l its) := {
  live := fun i h st => by
    obtain ⟨⟨o, ho, _⟩, _⟩ := st
    exact ⟨o, ho⟩
  frame := fun i h h' st keep => by
    obtain ⟨⟨o, ho, r⟩, ⟨u, hu, q⟩⟩ := st
    exact ⟨⟨o, keep it (by simp) o ho, r⟩, ⟨u, keep l (by simp) u hu, q⟩⟩
  item := fun i s Q E hi st k => RZ.nextOf_tuple_item st.1 st.2 (x := its[i]) (by simp [hi]) fun h' a b => k _ h' s.toks (by simp [hi]) ⟨a, st.2.extBut b.extBut ne⟩ b
  done := fun s Q E st k => RZ.nextOf_tuple_end hh st.1 st.2 (by simp) k }
theorem new_enumT (l : Addr) (its : Array Value) (n : Nat) (dct : Option Addr) (sl : Array (Option Value)) :
    Meets (Builtin.«enumerate.__new__» ⟨[.type "enumerate", .ref l], []⟩) (fun _ R s => s.heap.get? l = some { cls := .type "tuple", dict := dct, data := .seq its n, slots := sl } ∧
      R (.ok (.ret (.ref (s.heap.push { cls := .type "tuple_iterator", data := .fields #[.ref l, .int 0 0] }).objs.size)))
        { s with heap := (s.heap.push { cls := .type "tuple_iterator", data := .fields #[.ref l, .int 0 0] }).push { cls := .type "enumerate", data := .fields #[.none, .bool false, .ref s.heap.objs.size, rawInt 0, .none, .none] } }) := by
  refine .of_wp fun prog w A R s h => ?_
  obtain ⟨hp, g, d, tk, os⟩ := s
  obtain ⟨hl, fin⟩ := h
  have below := sub_enumerate
  have T : Heap.IsTuple (Shared.heap ⟨hp, g, d, tk, os⟩) l its := ⟨_, hl, rfl, n, rfl⟩
  wp_walk using AutoSeq1.wpAny_loadPart' hl
  refine wpAny_stack_any fun st => wpAny_pure ?_
  split
  · rename_i c _ _ _ _ _
    cases (c == Value.type "enumerate") <;> (wp_walk using AutoSeq1.wpAny_loadPart' hl, wpAny_pyIter_tuple T; exact ⟨_, rfl, fin⟩)
  · wp_walk using AutoSeq1.wpAny_loadPart' hl, wpAny_pyIter_tuple T
    exact ⟨_, rfl, fin⟩
theorem call_enumT {prog : Program} {w : World} {A : Around} {E : Value → Shared → Prop} {s : Shared} {l : Addr} {its : Array Value} {Q : Value → Shared → Prop} (T : s.heap.IsTuple l its)
    (k : ∀ h', IsEnum h' (s.heap.objs.size + 1) s.heap.objs.size 0 .none → h'.IsTupleIter s.heap.objs.size l 0 → (∀ b o, s.heap.get? b = some o → h'.get? b = some o) → Q (.ref (s.heap.objs.size + 1)) { s with heap := h' }) :
    wpAny (model prog w) A (call (.type "enumerate") [.ref l]) Q E s := by
  obtain ⟨⟨c, dct, dt, sl⟩, hl, hc, n, hd⟩ := T
  obtain rfl : c = .type "tuple" := hc
  obtain rfl : dt = .seq its n := hd
  refine callType_new F.called_enumerate (by decide) (F.typeCall_enumerate_1 _) (F.newCall_enumerate_1 _) (fun obj => F.args_object_init_2 obj _) F.entry_enumerate_new (new_enumT l its n dct sl) ⟨hl, ?_⟩
  have z : (s.heap.push { cls := .type "tuple_iterator", data := .fields #[.ref l, .int 0 0] }).objs.size = s.heap.objs.size + 1 := Heap.size_push ..
  show _ ∧ _
  rw [z]
  have en : IsEnum ((s.heap.push { cls := .type "tuple_iterator", data := .fields #[.ref l, .int 0 0] }).push { cls := .type "enumerate", data := .fields #[.none, .bool false, .ref s.heap.objs.size, rawInt 0, .none, .none] })
      (s.heap.objs.size + 1) s.heap.objs.size 0 .none := by
    have g := Heap.get?_push_size (s.heap.push { cls := .type "tuple_iterator", data := .fields #[.ref l, .int 0 0] }) (o := { cls := .type "enumerate", data := .fields #[.none, .bool false, .ref s.heap.objs.size, rawInt 0, .none, .none] }) rfl
    rw [z] at g
    exact g
  exact ⟨⟨_, en, rfl⟩, k _ en ⟨_, Heap.get?_push_of_some _ (Heap.get?_push_size _ rfl), rfl, rfl⟩ fun b o x => Heap.get?_push_of_some _ (Heap.get?_push_of_some _ x)⟩
end EnT
/-- the tuple at a, each item in a new pair with its place -/
def IteT (K : PySem.W.Frag) (a : Addr) : It := {
  go := fun i H => ∃ (xs : List V) (x : V), SqT K H a xs ∧ xs[i]? = some x
  yld := fun i H v H' => ∃ T x, v = .ref T ∧ H T = none ∧ H' = upd H T (.tup [.int (i : Nat), x]) ∧ ∀ xs, SqT K H a xs → xs[i]? = some x
  stop := fun i H => ∃ xs : List V, SqT K H a xs ∧ xs.length ≤ i }
theorem turn_enumT {P : Program} {w : World} {K : PySem.W.Frag} {elts : List Expr} {kk : Nat} {tpos : Pos} (a e it : Addr) :
    Turn P w K (.Tuple elts kk tpos) (IteT K a) [e, it] e (fun i h => (∃ old, IsEnum h e it ((i : Nat) : Int) old) ∧ h.IsTupleIter it a i ∧ e ≠ it) := {
  mem := by simp
  obj := fun i h st b hb => by
    obtain ⟨⟨old, he⟩, ⟨o, ho, hc, hd⟩, _⟩ := st
    have hb : b = e ∨ b = it := by simpa using hb
    rcases hb with rfl | rfl
    · exact ⟨_, he, fun v q => by cases q⟩
    · exact ⟨o, ho, fun v q => by rw [hd] at q; cases q⟩
  keep := fun i h h' st k => by
    obtain ⟨⟨old, he⟩, ⟨o, ho, r⟩, ne⟩ := st
    exact ⟨⟨old, k e (by simp) _ he⟩, ⟨o, k it (by simp) o ho, r⟩, ne⟩
  item := by
    intro X hP hw hK hc i pins s σ H E I hf st hg
    subst hP hw hK
    obtain ⟨⟨old, he⟩, hit, ne⟩ := st
    obtain ⟨xs, x, hq, hx⟩ := hg
    obtain ⟨its, rv, p, hz⟩ := I.tuple hq
    obtain ⟨u, hu, ru⟩ := rv.get hx
    have eT : ∀ {c : Addr} {o : Obj}, s.heap.get? c = some o → o.cls ≠ .type "tuple" → c ≠ a := fun {c} {o} h n z => by
      obtain ⟨o2, h2, c2, _⟩ := p
      rw [z, h2] at h
      cases h
      exact n c2
    have ea : e ≠ a := eT he (by simp)
    have ia : a ≠ it := by
      obtain ⟨o, ho, hc2, _⟩ := id hit
      exact (eT ho (by rw [hc2]; simp)).symm
    have le : e < s.heap.objs.size := Heap.lt_size he
    have li : it < s.heap.objs.size := by
      obtain ⟨_, ho, _⟩ := id hit
      exact Heap.lt_size ho
    have sz : i < its.toArray.size := by
      have := (List.getElem?_eq_some_iff.mp hu).1
      simpa using this
    have D := EnT.drawT (prog := X.prog) (w := X.w) (A := X.A.in1) (I.ok.hd hc) it a ia its.toArray
    refine wpAny_pyNext_enum_itemD D he (And.intro hit p) sz ne (by simp [ne, ea]) fun x2 h' tk hx2 ho st' hT hsz hk => ?_
    have eu : x2 = u := by
      have g : its[i]? = some x2 := by simpa using hx2
      rw [hu] at g
      exact (Option.some.inj g).symm
    subst eu
    refine ⟨_, rfl, wpAny_letOwnedTupleGo_enum (s := { s with heap := h', toks := tk + 1 }) ho fun h2 he2 sb => ?_⟩
    have hT2 : h2.get? s.heap.objs.size = some { cls := .type "tuple", data := .seq #[.int i tk, x2] } := by rw [sb.2 _ (Nat.ne_of_gt le)]; exact hT
    have fresh : ObjOk X.prog X.w (upd H s.heap.objs.size (.tup [.int (i : Nat), x])) h2 s.heap.objs.size (.tup [.int (i : Nat), x]) :=
      ⟨by show 2 ≤ sizeLine; decide, [.int i tk, x2], .cons ⟨_, rfl⟩ (.cons ru .nil), ⟨_, hT2, rfl, _, rfl⟩⟩
    have I1 : Inv X pins σ (upd H s.heap.objs.size (.tup [.int (i : Nat), x])) { s with heap := h2, toks := tk + 1 } := by
      refine I.turnedNew (ch := [e, it]) (fun b ob hb q => ?_) hf (Nat.le_refl _) fresh
      have n1 : b ≠ e := fun z => hb (by simp [z])
      have n2 : b ≠ it := fun z => hb (by simp [z])
      rw [sb.2 b n1]
      exact hk b ob n1 n2 q
    refine ⟨.ref s.heap.objs.size, _, I1, rfl, ⟨_, x, rfl, I.hok.fresh (Nat.le_refl _), rfl, fun ys hy => by rw [I.tuple_inj hy hq]; exact hx⟩, ⟨⟨x2, ?_⟩, ?_, ne⟩, fun b hb => ?_⟩
    · rw [show ((i + 1 : Nat) : Int) = (i : Int) + 1 by omega]
      exact he2
    · obtain ⟨o, ho2, r⟩ := st'.1
      exact ⟨o, by rw [sb.2 it (Ne.symm ne)]; exact ho2, r⟩
    · have hb2 : b = e ∨ b = it := by simpa using hb
      have lb : b < s.heap.objs.size := by rcases hb2 with rfl | rfl <;> assumption
      rw [upd_ne (Nat.ne_of_lt lb)]
      exact (hf b hb).1
  done := by
    intro X hP hw hK hc i pins s σ H E I hf st hg
    subst hP hw hK
    obtain ⟨⟨old, he⟩, hit, ne⟩ := st
    obtain ⟨xs, hq, hx⟩ := hg
    obtain ⟨its, rv, p, hz⟩ := I.tuple hq
    have ia : a ≠ it := fun z => by
      obtain ⟨o, ho, hc2, _⟩ := id hit
      obtain ⟨o2, h2, c2, _⟩ := id p
      rw [z, ho] at h2
      cases h2
      rw [hc2] at c2
      simp at c2
    obtain ⟨f0, f1, f2, f3, f4, f5⟩ := hf it (by simp)
    have hl := rv.length
    have hn : its.toArray.size ≤ i := by simp; omega
    -- the iterator stands at i, beyond the end
    have hT : s.TypeIs (.ref e) "enumerate" := ⟨_, he, rfl⟩
    unfold pyNext
    refine wpAny_bind (wpAny_attempt (wpAny_callSpecial?_slot (name := Str.ofString "__next__") hT F.slot_enumerate_next (wpAny_call_entry F.slot_enumerate_next hT F.entry_enumerate_next ?_ (F.args_enumerate_next_1 _))))
    show wpAny _ _ (field (.ref e) 2 >>= _) _ _ _
    refine wpAny_bind (wpAny_field he rfl (x := .ref it) rfl ?_)
    refine wpAny_bind (RZ.nextOf_tuple_end (I.ok.hd hc) hit p (by simpa using hn) fun h2 x k hx2 => ?_)
    obtain ⟨o, ho, hc2⟩ := hx2
    refine wpAny_bind (wpAny_isInstance (T := "StopIteration") (b := true) ⟨o, ho, hc2⟩ isSubtype_stop ?_)
    exact wpAny_pure ⟨rfl, I.turned (t' := s.toks) (fun b o hb q => k b o hb q) f0 f1 f3 f4 f5⟩
  self := fun A i s Q E st h => by
    obtain ⟨⟨_, he⟩, _⟩ := st
    exact wpAny_pyIter_enum he h }
def iEnumA (K : PySem.W.Frag) (ta : TA) : TI := fun σ H R => ta σ H fun vs H1 => ∃ a xs, vs = [.ref a] ∧ ((SqL K H1 a xs ∧ R (Ite K a) H1) ∨ (SqT K H1 a xs ∧ R (IteT K a) H1))
theorem pi_enumA {X : Cx} {e : Expr} {ta : TA} {p pos tpos : Pos} {elts : List Expr} {kk : Nat} (hg : Gl X "enumerate") (hm : X.mg "enumerate" = none) (ha : PA X [e] ta) (hs : starEach [e] X.env = [(false, eval e X.env)] := by rfl) :
    PI X (.Tuple elts kk tpos) (.Call (.Name "enumerate" p) [e] [] pos) (iEnumA X.K ta) := by
  refine ⟨fun pins s σ H R I h => ?_⟩
  refine Call_ (ld_blt I hg hm boot_enumerate (PyProof.Rows.callWith_type1 (thn (ha.run pos pins s σ H _ I h) fun us s1 ⟨vs, H1, I1, r1, q1⟩ => ?_) hs rfl))
  obtain ⟨a, xs, ex, q1⟩ := q1
  subst ex
  obtain ⟨u, rfl, ru⟩ := vals1 r1
  obtain rfl : u = Value.ref a := ru
  have two : ∀ b ∈ [s1.heap.objs.size + 1, s1.heap.objs.size], FpOk X pins H1 b := fun b hb => by
    have hb : b = s1.heap.objs.size + 1 ∨ b = s1.heap.objs.size := by simpa using hb
    have le : s1.heap.objs.size ≤ b := by omega
    exact I1.fpOk le (I1.hok.fresh le)
  rcases q1 with ⟨hq, q⟩ | ⟨hq, q⟩
  · obtain ⟨its, rv, p', hz⟩ := I1.list hq
    refine call_enumerate_list p'.isList fun h' he hit hsz hk => wpAny_pyIter_enum he ?_
    exact ⟨s1.heap.objs.size + 1, _, _, _, H1, rfl, I1.kept (t' := s1.toks) hk, turn_enum a (s1.heap.objs.size + 1) s1.heap.objs.size, ⟨⟨.none, he⟩, hit, Nat.succ_ne_self _⟩, two, q⟩
  · obtain ⟨its, rv, p', hz⟩ := I1.tuple hq
    refine EnT.call_enumT p' fun h' he hit hk => wpAny_pyIter_enum he ?_
    exact ⟨s1.heap.objs.size + 1, _, _, _, H1, rfl, I1.kept (t' := s1.toks) hk, turn_enumT a (s1.heap.objs.size + 1) s1.heap.objs.size, ⟨⟨.none, he⟩, hit, Nat.succ_ne_self _⟩, two, q⟩
theorem walk_enumT {K : PySem.W.Frag} {a : Addr} {xs : List V} : Walk (IteT K a) xs.length (fun H => SqT K H a xs) (YPair (fun i => some (.int (i : Nat))) (fun i => xs[i]?)) := by
  refine ⟨fun i _ hi q => ⟨xs, xs[i], q, by simp [hi]⟩, fun _ q => ⟨xs, q, Nat.le_refl _⟩, fun i H v H' _ q y => ?_⟩
  obtain ⟨T, x, e1, e2, e3, e4⟩ := y
  exact ⟨T, .int (i : Nat), x, e1, e2, e3, rfl, e4 xs q⟩

/-! ### the text -/
def top (i : Nat) : Stmt := PySem.Challenge.pw_onlyahead_k25_formulas_made_and_refused.main.body.getD i (.Pass ⟨0, 0, 0, 0⟩)
abbrev s_Formula___eq : Stmt := inClass (top 44) 14
abbrev N_Formula___eq : List Str := ["self", "other"]
theorem sc_Formula___eq : FnScope N_Formula___eq ["self", "other"] (defScope s_Formula___eq) := ⟨rfl, rfl, rfl, by decide +kernel, rfl, by decide +kernel, by decide +kernel⟩
abbrev s_Formula___init : Stmt := inClass (top 44) 1
abbrev N_Formula___init : List Str := ["self", "alphabet", "lines", "first"]
theorem sc_Formula___init : FnScope N_Formula___init ["self", "alphabet", "lines", "first"] (defScope s_Formula___init) := ⟨rfl, rfl, rfl, by decide +kernel, rfl, by decide +kernel, by decide +kernel⟩
abbrev s_Formula___len : Stmt := inClass (top 44) 13
abbrev N_Formula___len : List Str := ["self"]
theorem sc_Formula___len : FnScope N_Formula___len ["self"] (defScope s_Formula___len) := ⟨rfl, rfl, rfl, by decide +kernel, rfl, by decide +kernel, by decide +kernel⟩
abbrev s_Formula___repr : Stmt := inClass (top 44) 15
abbrev N_Formula___repr : List Str := ["self"]
theorem sc_Formula___repr : FnScope N_Formula___repr ["self"] (defScope s_Formula___repr) := ⟨rfl, rfl, rfl, by decide +kernel, rfl, by decide +kernel, by decide +kernel⟩
abbrev s_Formula_alphabet : Stmt := inClass (top 44) 2
abbrev N_Formula_alphabet : List Str := ["self"]
theorem sc_Formula_alphabet : FnScope N_Formula_alphabet ["self"] (defScope s_Formula_alphabet) := ⟨rfl, rfl, rfl, by decide +kernel, rfl, by decide +kernel, by decide +kernel⟩
abbrev s_Formula_first : Stmt := inClass (top 44) 3
abbrev N_Formula_first : List Str := ["self"]
theorem sc_Formula_first : FnScope N_Formula_first ["self"] (defScope s_Formula_first) := ⟨rfl, rfl, rfl, by decide +kernel, rfl, by decide +kernel, by decide +kernel⟩
abbrev s_Formula_lines : Stmt := inClass (top 44) 6
abbrev N_Formula_lines : List Str := ["self"]
theorem sc_Formula_lines : FnScope N_Formula_lines ["self"] (defScope s_Formula_lines) := ⟨rfl, rfl, rfl, by decide +kernel, rfl, by decide +kernel, by decide +kernel⟩
abbrev s_InvalidAlphabet___init : Stmt := inClass (top 2) 0
abbrev N_InvalidAlphabet___init : List Str := ["self", "given"]
theorem sc_InvalidAlphabet___init : FnScope N_InvalidAlphabet___init ["self", "given"] (defScope s_InvalidAlphabet___init) := ⟨rfl, rfl, rfl, by decide +kernel, rfl, by decide +kernel, by decide +kernel⟩
abbrev s_InvalidLine___init : Stmt := inClass (top 4) 0
abbrev N_InvalidLine___init : List Str := ["self", "at"]
theorem sc_InvalidLine___init : FnScope N_InvalidLine___init ["self", "at"] (defScope s_InvalidLine___init) := ⟨rfl, rfl, rfl, by decide +kernel, rfl, by decide +kernel, by decide +kernel⟩
abbrev s_TooMany___init : Stmt := inClass (top 7) 0
abbrev N_TooMany___init : List Str := ["self", "subject", "most"]
theorem sc_TooMany___init : FnScope N_TooMany___init ["self", "subject", "most"] (defScope s_TooMany___init) := ⟨rfl, rfl, rfl, by decide +kernel, rfl, by decide +kernel, by decide +kernel⟩
abbrev s_all_got : Stmt := top 52
abbrev N_all_got : List Str := ["_law_asks", "_law_ask"]
theorem sc_all_got : FnScope N_all_got ["_law_asks"] (defScope s_all_got) := ⟨rfl, rfl, rfl, by decide +kernel, rfl, by decide +kernel, by decide +kernel⟩
abbrev s_bag : Stmt := top 46
abbrev N_bag : List Str := ["_law_script", "_law_mixed", "_law_cell"]
theorem sc_bag : FnScope N_bag ["_law_script"] (defScope s_bag) := ⟨rfl, rfl, rfl, by decide +kernel, rfl, by decide +kernel, by decide +kernel⟩
abbrev s_field : Stmt := top 50
abbrev N_field : List Str := ["_law_e"]
theorem sc_field : FnScope N_field ["_law_e"] (defScope s_field) := ⟨rfl, rfl, rfl, by decide +kernel, rfl, by decide +kernel, by decide +kernel⟩
abbrev s_got : Stmt := top 51
abbrev N_got : List Str := ["_law_ask", "_law_said", "_law_e"]
theorem sc_got : FnScope N_got ["_law_ask"] (defScope s_got) := ⟨rfl, rfl, rfl, by decide +kernel, rfl, by decide +kernel, by decide +kernel⟩
abbrev s_of : Stmt := top 48
abbrev N_of : List Str := ["_law_bag_here", "_law_some"]
theorem sc_of : FnScope N_of ["_law_bag_here", "_law_some"] (defScope s_of) := ⟨rfl, rfl, rfl, by decide +kernel, rfl, by decide +kernel, by decide +kernel⟩
abbrev s_pull : Stmt := top 47
abbrev N_pull : List Str := ["_law_bag_here", "_law_sides", "_law_cell", "_law_digit", "_law_twice"]
theorem sc_pull : FnScope N_pull ["_law_bag_here", "_law_sides"] (defScope s_pull) := ⟨rfl, rfl, rfl, by decide +kernel, rfl, by decide +kernel, by decide +kernel⟩
abbrev s_same : Stmt := top 49
abbrev N_same : List Str := ["_law_found", "_law_due", "_law_a", "_law_b"]
theorem sc_same : FnScope N_same ["_law_found", "_law_due"] (defScope s_same) := ⟨rfl, rfl, rfl, by decide +kernel, rfl, by decide +kernel, by decide +kernel⟩
abbrev s_saying : Stmt := top 54
abbrev N_saying : List Str := ["_law_bag_here", "_law_signs_here", "_law_many", "_law_kinds", "_law_lines", "_law_at", "_law_kind", "_law_near", "_law_prime", "_law_ref"]
theorem sc_saying : FnScope N_saying ["_law_bag_here", "_law_signs_here", "_law_many", "_law_kinds"] (defScope s_saying) := ⟨rfl, rfl, rfl, by decide +kernel, rfl, by decide +kernel, by decide +kernel⟩
abbrev s_signs : Stmt := top 53
abbrev N_signs : List Str := ["_law_bag_here", "_law_many", "_law_found", "_law_k", "_law_rest", "_law_sign"]
theorem sc_signs : FnScope N_signs ["_law_bag_here"] (defScope s_signs) := ⟨rfl, rfl, rfl, by decide +kernel, rfl, by decide +kernel, by decide +kernel⟩
abbrev s_some_signs : Stmt := top 55
abbrev N_some_signs : List Str := ["_law_bag_here", "_law_signs_here", "_law_sign"]
theorem sc_some_signs : FnScope N_some_signs ["_law_bag_here", "_law_signs_here"] (defScope s_some_signs) := ⟨rfl, rfl, rfl, by decide +kernel, rfl, by decide +kernel, by decide +kernel⟩
abbrev s_wrong_saying : Stmt := top 56
abbrev N_wrong_saying : List Str := ["_law_bag_here", "_law_signs_here", "_law_at", "_law_far", "_law_strange", "_law_some", "_law_sign"]
theorem sc_wrong_saying : FnScope N_wrong_saying ["_law_bag_here", "_law_signs_here", "_law_at"] (defScope s_wrong_saying) := ⟨rfl, rfl, rfl, by decide +kernel, rfl, by decide +kernel, by decide +kernel⟩
abbrev s_are_letters : Stmt := top 20
abbrev N_are_letters : List Str := ["alphabet", "value", "letter"]
theorem sc_are_letters : FnScope N_are_letters ["alphabet", "value"] (defScope s_are_letters) := ⟨rfl, rfl, rfl, by decide +kernel, rfl, by decide +kernel, by decide +kernel⟩
abbrev s_are_refs : Stmt := top 21
abbrev N_are_refs : List Str := ["value", "place", "at", "ref"]
theorem sc_are_refs : FnScope N_are_refs ["value", "place"] (defScope s_are_refs) := ⟨rfl, rfl, rfl, by decide +kernel, rfl, by decide +kernel, by decide +kernel⟩
abbrev s_can_stand : Stmt := top 19
abbrev N_can_stand : List Str := ["alphabet", "value", "place", "kind", "parts"]
theorem sc_can_stand : FnScope N_can_stand ["alphabet", "value", "place"] (defScope s_can_stand) := ⟨rfl, rfl, rfl, by decide +kernel, rfl, by decide +kernel, by decide +kernel⟩
abbrev s_check_lines : Stmt := top 18
abbrev N_check_lines : List Str := ["alphabet", "lines", "at", "line"]
theorem sc_check_lines : FnScope N_check_lines ["alphabet", "lines"] (defScope s_check_lines) := ⟨rfl, rfl, rfl, by decide +kernel, rfl, by decide +kernel, by decide +kernel⟩
abbrev s_is_alphabet : Stmt := top 27
abbrev N_is_alphabet : List Str := ["value", "at", "sign"]
theorem sc_is_alphabet : FnScope N_is_alphabet ["value"] (defScope s_is_alphabet) := ⟨rfl, rfl, rfl, by decide +kernel, rfl, by decide +kernel, by decide +kernel⟩
abbrev s_is_below : Stmt := top 12
abbrev N_is_below : List Str := ["value", "bound"]
theorem sc_is_below : FnScope N_is_below ["value", "bound"] (defScope s_is_below) := ⟨rfl, rfl, rfl, by decide +kernel, rfl, by decide +kernel, by decide +kernel⟩
abbrev s_is_listed : Stmt := top 13
abbrev N_is_listed : List Str := ["value"]
theorem sc_is_listed : FnScope N_is_listed ["value"] (defScope s_is_listed) := ⟨rfl, rfl, rfl, by decide +kernel, rfl, by decide +kernel, by decide +kernel⟩
abbrev s_is_number : Stmt := top 11
abbrev N_is_number : List Str := ["value"]
theorem sc_is_number : FnScope N_is_number ["value"] (defScope s_is_number) := ⟨rfl, rfl, rfl, by decide +kernel, rfl, by decide +kernel, by decide +kernel⟩
abbrev s_is_prime : Stmt := top 16
abbrev N_is_prime : List Str := ["value"]
theorem sc_is_prime : FnScope N_is_prime ["value"] (defScope s_is_prime) := ⟨rfl, rfl, rfl, by decide +kernel, rfl, by decide +kernel, by decide +kernel⟩
abbrev s_is_word : Stmt := top 28
abbrev N_is_word : List Str := ["alphabet", "value", "sign"]
theorem sc_is_word : FnScope N_is_word ["alphabet", "value"] (defScope s_is_word) := ⟨rfl, rfl, rfl, by decide +kernel, rfl, by decide +kernel, by decide +kernel⟩
abbrev s_law : Stmt := top 57
abbrev N_law : List Str := ["_law_script", "_law_bag_here", "_law_kinds", "_law_turn_z", "_law_signs_here", "_law_truth", "_law_lines", "_law_handed", "_law_made", "_law_told", "_law_same_here", "_law_at", "_law_wrong", "_law_none", "_law_asks", "_law_wide"]
theorem sc_law : FnScope N_law ["_law_script"] (defScope s_law) := ⟨rfl, rfl, rfl, by decide +kernel, rfl, by decide +kernel, by decide +kernel⟩
/-! ### what the top holds -/
structure Env (K : PySem.W.Frag) (mg : Str → Option Value) where
  C_AheadError : Addr
  gC_AheadError : mg "AheadError" = some (.ref C_AheadError)
  C_Missing : Addr
  gC_Missing : mg "Missing" = some (.ref C_Missing)
  C_NothingLeft : Addr
  gC_NothingLeft : mg "NothingLeft" = some (.ref C_NothingLeft)
  C_Formula : Addr
  gC_Formula : mg "Formula" = some (.ref C_Formula)
  cl_Formula : Cls K C_Formula
  n_Formula__alphabet : NoAttr K C_Formula "_alphabet"
  n_Formula__lines : NoAttr K C_Formula "_lines"
  n_Formula__first : NoAttr K C_Formula "_first"
  u_Formula_MOST : Value
  o_Formula_MOST : Con K C_Formula "MOST" (.int 4000) u_Formula_MOST
  C_InvalidAlphabet : Addr
  gC_InvalidAlphabet : mg "InvalidAlphabet" = some (.ref C_InvalidAlphabet)
  x_InvalidAlphabet : OexC K C_InvalidAlphabet
  y_InvalidAlphabet : XfC K C_InvalidAlphabet
  n_InvalidAlphabet_given : PySem.W.findIn K (.ref C_InvalidAlphabet) "given" = some none
  n_InvalidAlphabet_code : PySem.W.findIn K (.ref C_InvalidAlphabet) "code" = some none
  C_InvalidLine : Addr
  gC_InvalidLine : mg "InvalidLine" = some (.ref C_InvalidLine)
  x_InvalidLine : OexC K C_InvalidLine
  y_InvalidLine : XfC K C_InvalidLine
  n_InvalidLine_at : PySem.W.findIn K (.ref C_InvalidLine) "at" = some none
  n_InvalidLine_code : PySem.W.findIn K (.ref C_InvalidLine) "code" = some none
  C_TooMany : Addr
  gC_TooMany : mg "TooMany" = some (.ref C_TooMany)
  x_TooMany : OexC K C_TooMany
  y_TooMany : XfC K C_TooMany
  n_TooMany_subject : PySem.W.findIn K (.ref C_TooMany) "subject" = some none
  n_TooMany_most : PySem.W.findIn K (.ref C_TooMany) "most" = some none
  n_TooMany_code : PySem.W.findIn K (.ref C_TooMany) "code" = some none
  isc_Formula : C8.InsC K C_Formula
  kl_Formula : PySem.W.kitOne K (.type "list") (.ref C_Formula) = some false
  mc_Formula : Value
  cr_Formula : ClX.CRead K C_Formula mc_Formula
  cu_Formula_MOST : Value
  cv_Formula_MOST : ClX.CVal K C_Formula mc_Formula "MOST" (.int 4000) cu_Formula_MOST
  e_InvalidAlphabet : PySem.W.exmAny K (.ref C_InvalidAlphabet) [.ref C_AheadError, .ref C_Missing, .ref C_NothingLeft] = some true
  e_InvalidLine : PySem.W.exmAny K (.ref C_InvalidLine) [.ref C_AheadError, .ref C_Missing, .ref C_NothingLeft] = some true
  e_TooMany : PySem.W.exmAny K (.ref C_TooMany) [.ref C_AheadError, .ref C_Missing, .ref C_NothingLeft] = some true
  f_Formula___eq : Addr
  fd_Formula___eq : FuncData
  F_Formula___eq : Fun K "__eq__" "Formula.__eq__" s_Formula___eq f_Formula___eq fd_Formula___eq
  b_Formula___eq : Binds K fd_Formula___eq ["self", "other"] []
  m_Formula___eq : Meth K C_Formula "__eq__" f_Formula___eq
  f_Formula___init : Addr
  fd_Formula___init : FuncData
  F_Formula___init : Fun K "__init__" "Formula.__init__" s_Formula___init f_Formula___init fd_Formula___init
  b_Formula___init : KBn K fd_Formula___init ["self", "alphabet", "lines", "first"] 3 ["first"] (fun us ws => us ++ ws) (fun vs zs => vs ++ zs)
  k_Formula___init : Mk K C_Formula f_Formula___init
  kx_Formula___init : List Value
  kb_Formula___init : KBn K fd_Formula___init ["self", "alphabet", "lines", "first"] 3 [] (fun us _ => us ++ kx_Formula___init) (fun vs _ => vs ++ [.bl false])
  f_Formula___len : Addr
  fd_Formula___len : FuncData
  F_Formula___len : Fun K "__len__" "Formula.__len__" s_Formula___len f_Formula___len fd_Formula___len
  b_Formula___len : Binds K fd_Formula___len ["self"] []
  m_Formula___len : Meth K C_Formula "__len__" f_Formula___len
  f_Formula___repr : Addr
  fd_Formula___repr : FuncData
  F_Formula___repr : Fun K "__repr__" "Formula.__repr__" s_Formula___repr f_Formula___repr fd_Formula___repr
  b_Formula___repr : Binds K fd_Formula___repr ["self"] []
  m_Formula___repr : Meth K C_Formula "__repr__" f_Formula___repr
  f_Formula_alphabet : Addr
  fd_Formula_alphabet : FuncData
  F_Formula_alphabet : Fun K "alphabet" "Formula.alphabet" s_Formula_alphabet f_Formula_alphabet fd_Formula_alphabet
  b_Formula_alphabet : Binds K fd_Formula_alphabet ["self"] []
  pa_Formula_alphabet : Addr
  p_Formula_alphabet : PropOf K C_Formula "alphabet" pa_Formula_alphabet f_Formula_alphabet
  f_Formula_first : Addr
  fd_Formula_first : FuncData
  F_Formula_first : Fun K "first" "Formula.first" s_Formula_first f_Formula_first fd_Formula_first
  b_Formula_first : Binds K fd_Formula_first ["self"] []
  pa_Formula_first : Addr
  p_Formula_first : PropOf K C_Formula "first" pa_Formula_first f_Formula_first
  f_Formula_lines : Addr
  fd_Formula_lines : FuncData
  F_Formula_lines : Fun K "lines" "Formula.lines" s_Formula_lines f_Formula_lines fd_Formula_lines
  b_Formula_lines : Binds K fd_Formula_lines ["self"] []
  m_Formula_lines : Meth K C_Formula "lines" f_Formula_lines
  f_InvalidAlphabet___init : Addr
  fd_InvalidAlphabet___init : FuncData
  F_InvalidAlphabet___init : Fun K "__init__" "InvalidAlphabet.__init__" s_InvalidAlphabet___init f_InvalidAlphabet___init fd_InvalidAlphabet___init
  b_InvalidAlphabet___init : Binds K fd_InvalidAlphabet___init ["self", "given"] []
  i_InvalidAlphabet___init : PySem.W.findIn K (.ref C_InvalidAlphabet) "__init__" = some (some (.ref f_InvalidAlphabet___init))
  t_InvalidAlphabet___init : PySem.W.typeIn K (.ref f_InvalidAlphabet___init) = some (.type "function")
  f_InvalidLine___init : Addr
  fd_InvalidLine___init : FuncData
  F_InvalidLine___init : Fun K "__init__" "InvalidLine.__init__" s_InvalidLine___init f_InvalidLine___init fd_InvalidLine___init
  b_InvalidLine___init : Binds K fd_InvalidLine___init ["self", "at"] []
  i_InvalidLine___init : PySem.W.findIn K (.ref C_InvalidLine) "__init__" = some (some (.ref f_InvalidLine___init))
  t_InvalidLine___init : PySem.W.typeIn K (.ref f_InvalidLine___init) = some (.type "function")
  f_TooMany___init : Addr
  fd_TooMany___init : FuncData
  F_TooMany___init : Fun K "__init__" "TooMany.__init__" s_TooMany___init f_TooMany___init fd_TooMany___init
  b_TooMany___init : Binds K fd_TooMany___init ["self", "subject", "most"] []
  i_TooMany___init : PySem.W.findIn K (.ref C_TooMany) "__init__" = some (some (.ref f_TooMany___init))
  t_TooMany___init : PySem.W.typeIn K (.ref f_TooMany___init) = some (.type "function")
  f_all_got : Addr
  fd_all_got : FuncData
  F_all_got : Fun K "_law_all_got" "_law_all_got" s_all_got f_all_got fd_all_got
  b_all_got : Binds K fd_all_got ["_law_asks"] []
  g_all_got : mg "_law_all_got" = some (.ref f_all_got)
  f_bag : Addr
  fd_bag : FuncData
  F_bag : Fun K "_law_bag" "_law_bag" s_bag f_bag fd_bag
  b_bag : Binds K fd_bag ["_law_script"] []
  g_bag : mg "_law_bag" = some (.ref f_bag)
  f_field : Addr
  fd_field : FuncData
  F_field : Fun K "_law_field" "_law_field" s_field f_field fd_field
  b_field : Binds K fd_field ["_law_e"] []
  g_field : mg "_law_field" = some (.ref f_field)
  f_got : Addr
  fd_got : FuncData
  F_got : Fun K "_law_got" "_law_got" s_got f_got fd_got
  b_got : Binds K fd_got ["_law_ask"] []
  g_got : mg "_law_got" = some (.ref f_got)
  f_of : Addr
  fd_of : FuncData
  F_of : Fun K "_law_of" "_law_of" s_of f_of fd_of
  b_of : Binds K fd_of ["_law_bag_here", "_law_some"] []
  g_of : mg "_law_of" = some (.ref f_of)
  f_pull : Addr
  fd_pull : FuncData
  F_pull : Fun K "_law_pull" "_law_pull" s_pull f_pull fd_pull
  b_pull : Binds K fd_pull ["_law_bag_here", "_law_sides"] []
  g_pull : mg "_law_pull" = some (.ref f_pull)
  f_same : Addr
  fd_same : FuncData
  F_same : Fun K "_law_same" "_law_same" s_same f_same fd_same
  b_same : Binds K fd_same ["_law_found", "_law_due"] []
  g_same : mg "_law_same" = some (.ref f_same)
  f_saying : Addr
  fd_saying : FuncData
  F_saying : Fun K "_law_saying" "_law_saying" s_saying f_saying fd_saying
  b_saying : Binds K fd_saying ["_law_bag_here", "_law_signs_here", "_law_many", "_law_kinds"] []
  g_saying : mg "_law_saying" = some (.ref f_saying)
  f_signs : Addr
  fd_signs : FuncData
  F_signs : Fun K "_law_signs" "_law_signs" s_signs f_signs fd_signs
  b_signs : Binds K fd_signs ["_law_bag_here"] []
  g_signs : mg "_law_signs" = some (.ref f_signs)
  f_some_signs : Addr
  fd_some_signs : FuncData
  F_some_signs : Fun K "_law_some_signs" "_law_some_signs" s_some_signs f_some_signs fd_some_signs
  b_some_signs : Binds K fd_some_signs ["_law_bag_here", "_law_signs_here"] []
  g_some_signs : mg "_law_some_signs" = some (.ref f_some_signs)
  f_wrong_saying : Addr
  fd_wrong_saying : FuncData
  F_wrong_saying : Fun K "_law_wrong_saying" "_law_wrong_saying" s_wrong_saying f_wrong_saying fd_wrong_saying
  b_wrong_saying : Binds K fd_wrong_saying ["_law_bag_here", "_law_signs_here", "_law_at"] []
  g_wrong_saying : mg "_law_wrong_saying" = some (.ref f_wrong_saying)
  f_are_letters : Addr
  fd_are_letters : FuncData
  F_are_letters : Fun K "are_letters" "are_letters" s_are_letters f_are_letters fd_are_letters
  b_are_letters : Binds K fd_are_letters ["alphabet", "value"] []
  g_are_letters : mg "are_letters" = some (.ref f_are_letters)
  f_are_refs : Addr
  fd_are_refs : FuncData
  F_are_refs : Fun K "are_refs" "are_refs" s_are_refs f_are_refs fd_are_refs
  b_are_refs : Binds K fd_are_refs ["value", "place"] []
  g_are_refs : mg "are_refs" = some (.ref f_are_refs)
  f_can_stand : Addr
  fd_can_stand : FuncData
  F_can_stand : Fun K "can_stand" "can_stand" s_can_stand f_can_stand fd_can_stand
  b_can_stand : Binds K fd_can_stand ["alphabet", "value", "place"] []
  g_can_stand : mg "can_stand" = some (.ref f_can_stand)
  f_check_lines : Addr
  fd_check_lines : FuncData
  F_check_lines : Fun K "check_lines" "check_lines" s_check_lines f_check_lines fd_check_lines
  b_check_lines : Binds K fd_check_lines ["alphabet", "lines"] []
  g_check_lines : mg "check_lines" = some (.ref f_check_lines)
  f_is_alphabet : Addr
  fd_is_alphabet : FuncData
  F_is_alphabet : Fun K "is_alphabet" "is_alphabet" s_is_alphabet f_is_alphabet fd_is_alphabet
  b_is_alphabet : Binds K fd_is_alphabet ["value"] []
  g_is_alphabet : mg "is_alphabet" = some (.ref f_is_alphabet)
  f_is_below : Addr
  fd_is_below : FuncData
  F_is_below : Fun K "is_below" "is_below" s_is_below f_is_below fd_is_below
  b_is_below : Binds K fd_is_below ["value", "bound"] []
  g_is_below : mg "is_below" = some (.ref f_is_below)
  f_is_listed : Addr
  fd_is_listed : FuncData
  F_is_listed : Fun K "is_listed" "is_listed" s_is_listed f_is_listed fd_is_listed
  b_is_listed : Binds K fd_is_listed ["value"] []
  g_is_listed : mg "is_listed" = some (.ref f_is_listed)
  f_is_number : Addr
  fd_is_number : FuncData
  F_is_number : Fun K "is_number" "is_number" s_is_number f_is_number fd_is_number
  b_is_number : Binds K fd_is_number ["value"] []
  g_is_number : mg "is_number" = some (.ref f_is_number)
  f_is_prime : Addr
  fd_is_prime : FuncData
  F_is_prime : Fun K "is_prime" "is_prime" s_is_prime f_is_prime fd_is_prime
  b_is_prime : Binds K fd_is_prime ["value"] []
  g_is_prime : mg "is_prime" = some (.ref f_is_prime)
  f_is_word : Addr
  fd_is_word : FuncData
  F_is_word : Fun K "is_word" "is_word" s_is_word f_is_word fd_is_word
  b_is_word : Binds K fd_is_word ["alphabet", "value"] []
  g_is_word : mg "is_word" = some (.ref f_is_word)
  f_law : Addr
  fd_law : FuncData
  F_law : Fun K "law" "law" s_law f_law fd_law
  b_law : Binds K fd_law ["_law_script"] []
  g_law : mg "law" = some (.ref f_law)
  z_abs : mg "abs" = none
  z_all : mg "all" = none
  z_any : mg "any" = none
  z_bool : mg "bool" = none
  z_dict : mg "dict" = none
  z_enumerate : mg "enumerate" = none
  z_int : mg "int" = none
  z_isinstance : mg "isinstance" = none
  z_len : mg "len" = none
  z_list : mg "list" = none
  z_max : mg "max" = none
  z_min : mg "min" = none
  z_range : mg "range" = none
  z_repr : mg "repr" = none
  z_sorted : mg "sorted" = none
  z_str : mg "str" = none
  z_tuple : mg "tuple" = none
  z_zip : mg "zip" = none
  t_MOST_LETTERS : Tok
  c_MOST_LETTERS : mg "MOST_LETTERS" = some (.int 4 t_MOST_LETTERS)
  r_PRIMES : Addr
  gt_PRIMES : mg "PRIMES" = some (.ref r_PRIMES)
  st_PRIMES : ∀ H, SqT K H r_PRIMES (([2, 3, 5, 7, 11, 13, 17, 19, 23, 29, 31, 37, 41, 43, 47, 53, 59, 61, 67, 71, 73, 79, 83, 89, 97] : List Int).map V.int)

/-! ### the draws -/
def spBag (K : PySem.W.Frag) : Sp := fun vs H Q _ => ∃ (a : Addr) (ns : List Int), vs = [.ref a] ∧ SqL K H a (ns.map V.int) ∧ ns.length ≤ 63 ∧
  ∀ b l H', H b = none → H l = none → BagAt b l H' → Same H H' → Q (.ref b) H'
def spPull : Sp := fun vs H Q _ => ∃ (b l : Addr) (n : Int), vs = [.ref b, .int n] ∧ BagAt b l H ∧ 0 < n ∧ n < 1000000000 ∧
  ∀ k H', 0 ≤ k → k < n → BagAt b l H' → Kp b H H' → Q (.int k) H'
def spOf (K : PySem.W.Frag) : Sp := fun vs H Q _ => ∃ (b l : Addr) (x : V), vs = [.ref b, x] ∧ BagAt b l H ∧
  ((∃ p xs, x = .ref p ∧ p ≠ b ∧ (SqL K H p xs ∨ SqT K H p xs) ∧ xs ≠ [] ∧ xs.length ≤ 100000 ∧ ∀ v H', v ∈ xs → BagAt b l H' → Kp b H H' → Q v H') ∨
   (∃ z : Str, x = .str z ∧ z.length ≠ 0 ∧ z.length ≤ 100000 ∧ ∀ c H', c ∈ z.cps.toList → BagAt b l H' → Kp b H H' → Q (.str ⟨#[c]⟩) H'))
section
variable {P : Program} {w : World} {K : PySem.W.Frag} {mg : Str → Option Value} {base : Heap}
theorem modlt (a : Int) : 0 ≤ a % 2147483629 ∧ a % 2147483629 < 2147483629 := ⟨Int.emod_nonneg _ (by decide), Int.emod_lt_of_pos _ (by decide)⟩
theorem cut63 {xs : List V} (h : xs.length ≤ 63) : cutV xs none (some 63) = xs := by
  unfold cutV
  rw [show HT.sIx xs.length xs.length (some 63) = min 63 xs.length from HT.sIx_nat _ _ 63, HT.sIx_none, Nat.min_eq_right h]
  show xs.take (xs.length - 0) = xs
  exact List.take_length
theorem int_of {ns : List Int} {i : Nat} {y : V} (h : (ns.map V.int)[i]? = some y) : ∃ n, y = .int n := by
  rw [List.getElem?_map] at h
  cases e : ns[i]? with
  | none => rw [e] at h; cases h
  | some n => rw [e] at h; exact ⟨n, (Option.some.inj h).symm⟩
theorem ok_bag (T : Env K mg) : FnOk P w K mg base CX0 1 T.f_bag T.fd_bag ["_law_script"] (spBag K) := by
  refine T.F_bag.ok sc_bag (fun vs H Q E h => ?_) (fun cdv A outer s H vs Q E hr h => ⟨_, ((pss_cons (ps_set (i := 1) sc_bag.nd rfl (.inl rfl) pe_int)
      (pss_cons (ps_for PassesOwn.never rfl (pi_list (pe_slice sl_list (pv 0) po_none (po_some pe_int))) (pg_name (i := 2) sc_bag.nd rfl (.inl rfl))
      (pss_one (ps_set (i := 1) sc_bag.nd rfl (.inl rfl) (pe_op op_mod (pe_callTy call_int1 (by rfl) T.z_int (by decide +kernel) (pa_cons (pe_op op_add (pe_op op_add (pe_op op_mul (pv 1) pe_int) (pe_op op_mul (pe_op op_mod (pe_callTy call_int1 (by rfl) T.z_int (by decide +kernel) (pa_cons (pv 2) pa_nil)) pe_int) pe_int)) pe_int) pa_nil)) pe_int))))
      (pss_one (ps_ret (pe_lst (pa_cons (pe_callTy call_list_of (by rfl) T.z_list (by decide +kernel) (pa_cons (pe_slice sl_list (pv 0) po_none (po_some pe_int)) pa_nil)) (pa_cons pe_int (pa_cons pe_int (pa_cons (pv 1) (pa_cons pe_int pa_nil))))))))))), ?_⟩)
  · obtain ⟨a, ns, rfl, _⟩ := h
    rfl
  · obtain ⟨a, ns, rfl, hS, hlen, q⟩ := h
    have ec : cutV (ns.map V.int) none (some 63) = ns.map V.int := cut63 (by rw [List.length_map]; exact hlen)
    walk_at "ss"
    intro p hp
    rw [ec]
    have s1 : Same H (upd H p (.lst (ns.map V.int))) := same_upd hp
    refine ⟨_, rfl, ⟨_, SqL.of upd_same⟩, for_list (xs := ns.map V.int) (fun i σ H' => Stp (H' = upd H p (.lst (ns.map V.int)) ∧ ∃ (m : Int) (y : Option V), σ = [some (.ref a), some (.int m), y] ∧ 0 ≤ m ∧ m < 2147483629))
      (.mk ⟨rfl, 5632, none, rfl, by decide, by decide⟩) (fun i σ H' _ h => by rw [h.of.1]; exact SqL.of upd_same) ?_ ?_⟩
    · rintro i x σ H' hx hP
      obtain ⟨rfl, m, y, rfl, h0, h1⟩ := hP.of
      obtain ⟨n, rfl⟩ := int_of hx
      walk_at "ss"
      exact .mk ⟨rfl, _, _, rfl, (modlt _).1, (modlt _).2⟩
    · rintro σ H' hP
      obtain ⟨rfl, m, y, rfl, h0, h1⟩ := hP.of
      walk_at "ss"
      refine ⟨_, _, rfl, s1.seq hS, ?_⟩
      intro p2 hp2
      rw [ec]
      refine ⟨_, _, rfl, .inl (SqL.of upd_same), ?_⟩
      intro l hl
      walk_at "ss"
      intro b hb
      have s2 := s1.trans (same_upd (o := .lst (ns.map V.int)) hp2)
      have s3 := s2.trans (same_upd (o := .lst (ns.map V.int)) hl)
      have s4 := s3.trans (same_upd (o := .lst [V.ref l, V.int 0, V.int 0, V.int m, V.int 0]) hb)
      have nl : l ≠ b := (ne_none hb upd_same).symm
      exact q b l _ (s3.free hb) (s2.free hl) ⟨⟨0, 0, m, 0, ns, upd_same, by rw [upd_ne nl]; exact upd_same, hlen, by decide, by omega, by decide, h0, h1⟩, nl⟩ s4
theorem ok_pull (T : Env K mg) : FnOk P w K mg base CX0 1 T.f_pull T.fd_pull ["_law_bag_here", "_law_sides"] spPull := by
  refine T.F_pull.ok sc_pull (fun vs H Q E h => ?_) (fun cdv A outer s H vs Q E hr h => ⟨_, ((pss_cons (ps_asg (pe_op op_add (pe_ix ix_list (pv 0) pe_int (fun _ _ => rfl)) pe_int) (pg_sub (pv 0) pe_int set_list))
      (C8.pss_cut (ps_if (PW.pt (pw_and (pt_cmpR op_eq (pe_ix ix_list (pv 0) pe_int (fun _ _ => rfl)) pe_int (nomark _)) (pw_and1 (pt_cmpR op_lt (pe_ix ix_list (pv 0) pe_int (fun _ _ => rfl)) (pe_callB call_len_seq (by rfl) T.z_len (by decide +kernel) (pa_cons (pe_ix ix_list (pv 0) pe_int (fun _ _ => rfl)) pa_nil)) (nomark _)))))
      (pss_cons (ps_set (i := 2) sc_pull.nd rfl (.inl rfl) (pe_ix ix_list (pe_ix ix_list (pv 0) pe_int (fun _ _ => rfl)) (pe_ix ix_list (pv 0) pe_int (fun _ _ => rfl)) (fun _ _ => rfl)))
      (pss_cons (ps_asg (pe_op op_add (pe_ix ix_list (pv 0) pe_int (fun _ _ => rfl)) pe_int) (pg_sub (pv 0) pe_int set_list))
      (pss_one (ps_if (pt_cmpR op_ge (pe_callB call_abs (by rfl) T.z_abs (by decide +kernel) (pa_cons (pv 2) pa_nil)) (pe_op op_pow pe_int pe_int) (nomark _))
      (pss_one (ps_asg (pe_callB call_abs (by rfl) T.z_abs (by decide +kernel) (pa_cons (pv 2) pa_nil)) (pg_sub (pv 0) pe_int set_list)))
      (pss_one (ps_asg (pe_op op_mod (pe_callTy call_int1 (by rfl) T.z_int (by decide +kernel) (pa_cons (pe_op op_add (pe_op op_add (pe_op op_mul (pe_ix ix_list (pv 0) pe_int (fun _ _ => rfl)) pe_int) (pe_op op_mul (pe_op op_mod (pe_callTy call_int1 (by rfl) T.z_int (by decide +kernel) (pa_cons (pv 2) pa_nil)) pe_int) pe_int)) pe_int) pa_nil)) pe_int) (pg_sub (pv 0) pe_int set_list)))))))
      pss_nil)
      (pss_cons (ps_if (pt_cmpR op_gt (pe_ix ix_list (pv 0) pe_int (fun _ _ => rfl)) pe_int (nomark _))
      (pss_cons (ps_set (i := 3) sc_pull.nd rfl (.inl rfl) (pe_op op_mod (pe_callTy call_int1 (by rfl) T.z_int (by decide +kernel) (pa_cons (pe_ix ix_list (pv 0) pe_int (fun _ _ => rfl)) pa_nil)) (pv 1)))
      (pss_cons (ps_asg (pe_op op_fdiv (pe_ix ix_list (pv 0) pe_int (fun _ _ => rfl)) (pv 1)) (pg_sub (pv 0) pe_int set_list))
      (pss_one (ps_ret (pv 3)))))
      pss_nil)
      (pss_cons (ps_set (i := 4) sc_pull.nd rfl (.inl rfl) (pe_op op_mod (pe_callTy call_int1 (by rfl) T.z_int (by decide +kernel) (pa_cons (pe_op op_add (pe_op op_mul (pe_ix ix_list (pv 0) pe_int (fun _ _ => rfl)) (pe_ix ix_list (pv 0) pe_int (fun _ _ => rfl))) (pe_op op_mul (pe_ix ix_list (pv 0) pe_int (fun _ _ => rfl)) pe_int)) pa_nil)) pe_int))
      (pss_cons (ps_asg (pe_op op_mod (pe_callTy call_int1 (by rfl) T.z_int (by decide +kernel) (pa_cons (pe_op op_add (pe_op op_add (pe_op op_mul (pv 4) pe_int) (pe_op op_mul (pe_ix ix_list (pv 0) pe_int (fun _ _ => rfl)) pe_int)) pe_int) pa_nil)) pe_int) (pg_sub (pv 0) pe_int set_list))
      (pss_one (ps_ret (pe_op op_mod (pe_callTy call_int1 (by rfl) T.z_int (by decide +kernel) (pa_cons (pe_op op_fdiv (pe_ix ix_list (pv 0) pe_int (fun _ _ => rfl)) pe_int) pa_nil)) (pv 1)))))))))), ?_⟩)
  · obtain ⟨b, l, n, rfl, _⟩ := h
    rfl
  · obtain ⟨b, l, n, rfl, ⟨⟨i, r, m, c, ns, hb, hl, h63, i0, i1, r0, m0, m1⟩, nlb⟩, n0, n1, q⟩ := h
    walk_at "ss"
    refine ⟨fun σ' H' => Stp (∃ (i r m c : Int) (y2 : Option V), σ' = [some (.ref b), some (.int n), y2, none, none] ∧ H' b = some (.lst [.ref l, .int i, .int r, .int m, .int c]) ∧ H' l = some (.lst (ns.map V.int)) ∧
      0 ≤ i ∧ i ≤ ns.length ∧ 0 ≤ r ∧ 0 ≤ m ∧ m < 2147483629 ∧ Kp b H H'), ?_, fun σ' H' hM => ?_⟩
    · walk_at "ss"
      have hl1 : ∀ o, (upd H b o) l = some (.lst (ns.map V.int)) := fun o => by rw [upd_ne nlb]; exact hl
      have hl2 : ∀ o u, (upd (upd H b o) b u) l = some (.lst (ns.map V.int)) := fun o u => by rw [upd_ne nlb, upd_ne nlb]; exact hl
      have hl3 : ∀ o u v, (upd (upd (upd H b o) b u) b v) l = some (.lst (ns.map V.int)) := fun o u v => by rw [upd_ne nlb, upd_ne nlb, upd_ne nlb]; exact hl
      have k1 : ∀ o, Kp b H (upd H b o) := fun o => (Kp.refl b H).put
      refine ite2 (fun e => ?_) (fun e => ?_)
      · walk_at "ss"
        refine ⟨_, _, rfl, .inl (SqL.of (hl1 _)), ?_⟩
        walk_at "ss"
        refine ite2 (fun e2 => ?_) (fun e2 => ?_)
        · have e2 : i < (ns.map V.int).length := of_decide_eq_true e2
          obtain ⟨v, hv, hm⟩ := at_in i0 e2
          obtain ⟨z, -, rfl⟩ := List.mem_map.mp hm
          rw [List.length_map] at e2
          walk_at "ss"
          refine ⟨_, _, _, _, rfl, rfl, SqL.of (hl1 _), hv, ?_⟩
          walk_at "ss"
          refine ite2 (fun e3 => ?_) (fun e3 => ?_)
          · walk_at "ss"
            exact .mk ⟨i + 1, _, m, _, _, rfl, upd_same, hl3 _ _ _, by omega, by omega, by split <;> omega, m0, m1, (k1 _).put.put⟩
          · walk_at "ss"
            exact .mk ⟨i + 1, r, _, _, _, rfl, upd_same, hl3 _ _ _, by omega, by omega, r0, (modlt _).1, (modlt _).2, (k1 _).put.put⟩
        · exact .mk ⟨i, r, m, _, _, rfl, upd_same, hl1 _, i0, i1, r0, m0, m1, k1 _⟩
      · refine iteF ?_
        exact .mk ⟨i, r, m, _, _, rfl, upd_same, hl1 _, i0, i1, r0, m0, m1, k1 _⟩
    · obtain ⟨i, r, m, c, y2, rfl, hb, hl, i0, i1, r0, m0, m1, kp⟩ := hM.of
      walk_at "ss"
      refine ite2 (fun e => ?_) (fun e => ?_)
      · walk_at "ss"
        refine q _ _ (Int.emod_nonneg _ (by omega)) (Int.emod_lt_of_pos _ n0) ⟨⟨i, _, m, c, ns, upd_same, ?_, h63, i0, i1, ?_, m0, m1⟩, nlb⟩ kp.put
        · rw [upd_ne nlb]
          exact hl
        · exact Int.ediv_nonneg r0 (by omega)
      · walk_at "ss"
        refine q _ _ (Int.emod_nonneg _ (by omega)) (Int.emod_lt_of_pos _ n0) ⟨⟨i, r, _, c, ns, upd_same, ?_, h63, i0, i1, r0, (modlt _).1, (modlt _).2⟩, nlb⟩ kp.put
        rw [upd_ne nlb]
        exact hl
theorem ok_of (T : Env K mg) : FnOk P w K mg base CX0 2 T.f_of T.fd_of ["_law_bag_here", "_law_some"] (spOf K) := by
  refine T.F_of.ok sc_of (fun vs H Q E h => ?_) (fun cdv A outer s H vs Q E hr h => ⟨_, ((pss_one (ps_ret (pe_ix ix_seq (pv 1) (pe_call (ok_pull T) (hr.mono (by decide)) (by rfl) T.g_pull T.F_pull.kp T.b_pull .nil pass0 (pa_cons (pv 0) (pa_cons (pe_callB call_len (by rfl) T.z_len (by decide +kernel) (pa_cons (pv 1) pa_nil)) pa_nil))) (fun _ _ => rfl))))), ?_⟩)
  · obtain ⟨b, l, x, rfl, _⟩ := h
    rfl
  · obtain ⟨b, l, x, rfl, B, h⟩ := h
    rcases h with ⟨p, xs, rfl, np, hS, hne, hl, q⟩ | ⟨z, rfl, hne, hl, q⟩
    · have hx : 0 < xs.length := List.length_pos_iff.mpr hne
      walk_at "ss"
      refine ⟨_, xs.length, rfl, ?_, b, l, _, rfl, B, by omega, by omega, fun k H1 k0 k1 B1 kp1 => ?_⟩
      · rcases hS with hS | hS
        · exact .inl ⟨xs, hS, rfl⟩
        · exact .inr ⟨xs, hS, rfl⟩
      obtain ⟨v, hv, hm⟩ := at_in k0 k1
      rcases hS with hS | hS
      · exact .inl ⟨p, xs, k, v, rfl, rfl, kp1.seq np hS, hv, q v H1 hm B1 kp1⟩
      · exact .inr (.inl ⟨p, xs, k, v, rfl, rfl, kp1.tup np hS, hv, q v H1 hm B1 kp1⟩)
    · walk_at "ss"
      refine ⟨_, z.length, rfl, ⟨sz hl, rfl⟩, b, l, _, rfl, B, by omega, by omega, fun k H1 k0 k1 B1 kp1 => ?_⟩
      have e : z.cps.toList.length = z.length := by simp [Str.length]
      obtain ⟨c, hc, hm⟩ := at_inN (xs := z.cps.toList) k0 (by rw [e]; exact k1)
      exact .inr (.inr ⟨z, k, c, rfl, rfl, sz hl, hc, q c H1 hm B1 kp1⟩)
end

/-! ### alphabets and words -/
def Alpha (l : List Nat) : Prop := 1 ≤ l.length ∧ l.length ≤ 4 ∧ (∀ c ∈ l, 97 ≤ c ∧ c ≤ 122) ∧ l.Pairwise (· < ·)
instance (l : List Nat) : Decidable (Alpha l) := by
  unfold Alpha
  exact inferInstance
theorem lt1 (a b : Nat) : (([a] : List Nat) < [b]) ↔ a < b := by
  simp [List.cons_lt_cons_iff]
theorem asc_pair (l : List Nat) (h : l.length ≤ 4) : ((List.range (l.length - 1)).map fun i => decide (l.getD i 0 < l.getD (i + 1) 0)).all id = decide (l.Pairwise (· < ·)) := by
  rw [all_dec, Bool.eq_iff_iff]
  simp only [decide_eq_true_eq]
  match l, h with
  | [], _ => simp
  | [a], _ => simp
  | [a, b], _ => simp [List.range_succ]
  | [a, b, c], _ => simp [List.range_succ]; try omega
  | [a, b, c, d], _ => simp [List.range_succ]; try omega
  | _ :: _ :: _ :: _ :: _ :: _, h => simp at h; try omega
theorem asc_none (l : List Nat) (h : l.length ≤ 4) : (∀ i < l.length - 1, ¬ l.getD (i + 1) 0 ≤ l.getD i 0) ↔ l.Pairwise (· < ·) := by
  have e := asc_pair l h
  rw [all_dec, Bool.eq_iff_iff] at e
  simp only [decide_eq_true_eq, List.mem_range] at e
  rw [← e]
  constructor
  · intro h i hi
    have := h i hi
    omega
  · intro h i hi
    have := h i hi
    omega
def NoStr (K : PySem.W.Frag) (H : Hp) (v : V) : Prop := ∃ t, TyX K H v (.type t) ∧ kitB t "str" = some false
theorem tyx_same {K : PySem.W.Frag} {H H' : Hp} (s : Same H H') {v : V} {t : Value} (h : TyX K H v t) : TyX K H' v t := by
  cases h with
  | base b =>
    cases b with
    | non => exact .base .non
    | bl x => exact .base (.bl x)
    | int i => exact .base (.int i)
    | str x => exact .base (.str x)
    | flt x => exact .base (.flt x)
    | lst e => exact .base (.lst (s _ _ e))
    | frz e => exact .base (.frz (s _ _ e))
    | tup e => exact .base (.tup (s _ _ e))
    | dK e => exact .base (.dK (s _ _ e))
    | dT e => exact .base (.dT (s _ _ e))
    | ins e cl ha hn htk hm => exact .base (.ins (s _ _ e) cl ha hn htk hm)
  | byt b => exact .byt b
  | set e => exact .set (s _ _ e)
  | kList e c => exact .kList e c
  | kTuple e c => exact .kTuple e c
  | kDict e c => exact .kDict e c
  | fTuple e => exact .fTuple (s _ _ e)
  | fDict e => exact .fDict (s _ _ e)
theorem NoStr.same {K : PySem.W.Frag} {H H' : Hp} {v : V} (h : NoStr K H v) (s : Same H H') : NoStr K H' v := by
  obtain ⟨t, h1, h2⟩ := h
  exact ⟨t, tyx_same s h1, h2⟩
theorem nostr_lst {K : PySem.W.Frag} {H : Hp} {p : Addr} {xs : List V} (h : H p = some (.lst xs)) : NoStr K H (.ref p) := ⟨"list", .base (.lst h), by decide +kernel⟩
theorem nostr_tup {K : PySem.W.Frag} {H : Hp} {p : Addr} {xs : List V} (h : H p = some (.tup xs)) : NoStr K H (.ref p) := ⟨"tuple", .base (.tup h), by decide +kernel⟩
theorem nostr_non {K : PySem.W.Frag} {H : Hp} : NoStr K H .non := ⟨"NoneType", .base .non, by decide +kernel⟩
theorem nostr_bl {K : PySem.W.Frag} {H : Hp} {x : Bool} : NoStr K H (.bl x) := ⟨"bool", .base (.bl x), by decide +kernel⟩
theorem nostr_int {K : PySem.W.Frag} {H : Hp} {x : Int} : NoStr K H (.int x) := ⟨"int", .base (.int x), by decide +kernel⟩
def spIsAlpha (K : PySem.W.Frag) : Sp := fun vs H Q _ => ∃ v, vs = [v] ∧ ((∃ z : Str, v = .str z ∧ z.length ≤ 100000 ∧ ∀ H', Same H H' → Q (.bl (decide (Alpha z.cps.toList))) H') ∨ (NoStr K H v ∧ ∀ H', Same H H' → Q (.bl false) H'))
def spIsWord (K : PySem.W.Frag) : Sp := fun vs H Q _ => ∃ (a : Str) (v : V), vs = [.str a, v] ∧ ((∃ z : Str, v = .str z ∧ z.length ≤ 100000 ∧ ∀ H', Same H H' → Q (.bl (decide (∀ c ∈ z.cps.toList, c ∈ a.cps.toList))) H') ∨ (NoStr K H v ∧ ∀ H', Same H H' → Q (.bl false) H'))
section
variable {P : Program} {w : World} {K : PySem.W.Frag} {mg : Str → Option Value} {base : Heap}
theorem ok_is_alphabet (T : Env K mg) : FnOk P w K mg base CX0 1 T.f_is_alphabet T.fd_is_alphabet ["value"] (spIsAlpha K) := by
  refine T.F_is_alphabet.ok sc_is_alphabet (fun vs H Q E h => ?_) (fun cdv A outer s H vs Q E hr h => ⟨_, ((pss_cons (ps_if (PW.pt (pw_or (pt_not (pt_val (pe_callB call_isi (by rfl) T.z_isinstance (by decide +kernel) (pa_cons (pv 0) (pa_cons (pe_bltn (v := .ty "str") (by rfl) T.z_str (by decide +kernel) rfl) pa_nil))))) (pw_or1 (pt_not (pt_chain op_le op_le pe_int (pe_callB call_len_str (by rfl) T.z_len (by decide +kernel) (pa_cons (pv 0) pa_nil)) (pe_glob (v := .int 4) (by rfl) T.c_MOST_LETTERS ⟨_, rfl⟩))))))
      (pss_one (ps_ret pe_bl))
      pss_nil)
      (pss_cons (ps_if (pt_not (pt_val (pe_callB (cr_all rfl) (by rfl) T.z_all (by decide +kernel) (pa_cons (pe_lc (own := [("sign", 2)]) (g := (gName 2)) (tt := tYes) rfl sc_is_alphabet.nd (pi_str (pv 0)) (blkOk_by (own := [("sign", 2)]) (N := N_is_alphabet) (sc := defScope s_is_alphabet) (by decide +kernel)) (fun _ _ _ _ _ => (pg_name (i := 2) sc_is_alphabet.nd rfl (.inl rfl))) (fun _ _ _ _ _ => pts_nil) (fun _ _ _ _ _ => (pe_chain op_le_str op_le_str pe_str (pv 2) pe_str))) pa_nil))))
      (pss_one (ps_ret pe_bl))
      pss_nil)
      (pss_one (ps_ret (pe_callB (cr_all rfl) (by rfl) T.z_all (by decide +kernel) (pa_cons (pe_lc (own := [("at", 1)]) (g := (gName 1)) (tt := tYes) rfl sc_is_alphabet.nd (pi_range2 (by rfl) T.z_range (pa_cons pe_int (pa_cons (pe_callB call_len_str (by rfl) T.z_len (by decide +kernel) (pa_cons (pv 0) pa_nil)) pa_nil))) (blkOk_by (own := [("at", 1)]) (N := N_is_alphabet) (sc := defScope s_is_alphabet) (by decide +kernel)) (fun _ _ _ _ _ => (pg_name (i := 1) sc_is_alphabet.nd rfl (.inl rfl))) (fun _ _ _ _ _ => pts_nil) (fun _ _ _ _ _ => (pe_cmpR op_lt_str (pe_ix ix_str (pv 0) (pe_op op_sub (pv 1) pe_int) (fun _ _ => rfl)) (pe_ix ix_str (pv 0) (pv 1) (fun _ _ => rfl)) (nomark _)))) pa_nil))))))), ?_⟩)
  · obtain ⟨v, rfl, _⟩ := h
    rfl
  · obtain ⟨v, rfl, ⟨z, rfl, hz, q⟩ | ⟨⟨t, ht, hk⟩, q⟩⟩ := h
    · have L := len_tl z
      have hF : ∀ H', Same H H' → ¬ Alpha z.cps.toList → Q (.bl false) H' := fun H' sm hn => by
        have := q H' sm
        rw [decide_eq_false hn] at this
        exact this
      walk_at "ssi"
      refine ite2 (fun e1 => ?_) (fun e1 => ?_)
      · have e1 : (1 : Int) ≤ z.length := of_decide_eq_true e1
        walk_at "ss"
        refine ite2 (fun e2 => ?_) (fun e2 => ?_)
        · refine hF _ (Same.refl H) fun hA => ?_
          have e3 : ¬ ((z.length : Int) ≤ 4) := by simpa using e2
          have := hA.2.1
          omega
        · have e3 : (z.length : Int) ≤ 4 := by simpa using e2
          walk_at "ss"
          intro D hD
          refine lc_gen walk_str (fun H' => Same H H') (fun i y => ∃ c, z.cps.toList[i]? = some c ∧ y = V.bl (decide (97 ≤ c ∧ c ≤ 122))) (by rw [size_tl, ← len_tl]; exact hz) (same_upd hD) (fun _ _ => trivial) (fun _ _ h => same_mut h hD) ?_ ?_
          · rintro i x H1 H2 Q1 hlt hI ⟨rfl, c, hc, rfl⟩ - hQ
            rw [get_tl] at hc
            walk_at "ss"
            refine ite2 (fun e5 => ?_) (fun e5 => ?_)
            · have e6 : (!decide (([c] : List Nat) < [97])) = true := e5
              have e7 : 97 ≤ c := by simpa [lt1] using e6
              walk_at "ss"
              refine hQ _ _ ⟨c, hc, congrArg V.bl ?_⟩ hI fun _ h => h
              show (!decide (([122] : List Nat) < [c])) = decide (97 ≤ c ∧ c ≤ 122)
              rw [Bool.eq_iff_iff]
              simp [lt1, e7]
            · have e6 : ¬ (!decide (([c] : List Nat) < [97])) = true := e5
              have e7 : ¬ 97 ≤ c := by simpa [lt1] using e6
              refine hQ _ _ ⟨c, hc, congrArg V.bl ?_⟩ hI fun _ h => h
              simp [e7]
          · intro H1 ys hI hy hl hr
            have e : ys = (z.cps.toList.map fun c => decide (97 ≤ c ∧ c ≤ 122)).map V.bl := by
              rw [List.map_map]
              exact ys_map (by rw [hl, size_tl]) hr
            subst e
            walk_at "ss"
            refine ⟨D, _, rfl, SqL.of hy, ?_⟩
            rw [all_dec]
            walk_at "ss"
            refine ite2 (fun e4 => ?_) (fun e4 => ?_)
            · refine hF _ hI fun hA => ?_
              have e5 := hA.2.2.1
              rw [decide_eq_true e5] at e4
              cases e4
            · have e5 : ∀ c ∈ z.cps.toList, 97 ≤ c ∧ c ≤ 122 := by simpa using e4
              walk_at "ss"
              refine ⟨_, _, rfl, ⟨by decide, by decide, by omega, by omega⟩, ?_⟩
              intro D2 hD2
              refine lc_gen walk_range (fun H' => Same H1 H') (fun i y => ∃ a b, z.cps.toList[i]? = some a ∧ z.cps.toList[i + 1]? = some b ∧ y = V.bl (decide (a < b))) (by omega) (same_upd hD2) (fun _ _ => trivial) (fun _ _ h => same_mut h hD2) ?_ ?_
              · rintro i x H2 H3 Q1 hlt hI2 ⟨rfl, rfl⟩ - hQ
                have h1 : i + 1 < z.cps.toList.length := by omega
                have h0 : i < z.cps.toList.length := by omega
                have g0 := List.getElem?_eq_getElem h0
                have g1 := List.getElem?_eq_getElem h1
                walk_at "ss"
                refine ⟨z, _, _, rfl, rfl, sz hz, (show atI z.cps.toList (1 + (i : Int) - 1) = some z.cps.toList[i] by rw [show 1 + (i : Int) - 1 = ((i : Nat) : Int) by omega]; exact atI_nat g0), ?_⟩
                walk_at "ss"
                refine ⟨z, _, _, rfl, rfl, sz hz, (show atI z.cps.toList (1 + (i : Int)) = some z.cps.toList[i + 1] by rw [show 1 + (i : Int) = ((i + 1 : Nat) : Int) by omega]; exact atI_nat g1), ?_⟩
                walk_at "ss"
                refine hQ _ _ ⟨_, _, g0, g1, congrArg V.bl ?_⟩ hI2 fun _ h => h
                show decide (([z.cps.toList[i]] : List Nat) < [z.cps.toList[i + 1]]) = _
                rw [Bool.eq_iff_iff]
                simp [lt1]
              · intro H2 ys2 hI2 hy2 hl2 hr2
                have e : ys2 = ((List.range (z.cps.toList.length - 1)).map fun i => decide (z.cps.toList.getD i 0 < z.cps.toList.getD (i + 1) 0)).map V.bl := by
                  rw [List.map_map]
                  refine ys_map (by rw [hl2, List.length_range]; omega) fun i y h => ?_
                  obtain ⟨a, b, h1, h2, h3⟩ := hr2 i y h
                  have hi := (List.getElem?_eq_some_iff.mp h).1
                  refine ⟨i, List.getElem?_range (by omega), ?_⟩
                  rw [h3]
                  simp only [Function.comp, List.getD_eq_getElem?_getD, h1, h2, Option.getD_some]
                subst e
                walk_at "ss"
                refine ⟨D2, _, rfl, SqL.of hy2, ?_⟩
                rw [asc_pair z.cps.toList (by omega)]
                have := q H2 (hI.trans hI2)
                rw [show decide (Alpha z.cps.toList) = decide (z.cps.toList.Pairwise (· < ·)) from ?_] at this
                · exact this
                · rw [Bool.eq_iff_iff]
                  simp only [decide_eq_true_eq]
                  exact ⟨fun h => h.2.2.2, fun h => ⟨by omega, by omega, e5, h⟩⟩
      · walk_at "ss"
        refine hF _ (Same.refl H) fun hA => ?_
        have e3 : ¬ ((1 : Int) ≤ z.length) := by simpa using e1
        have := hA.1
        omega
    · walk_at "ssi"
      exact q _ (Same.refl H)
theorem ok_is_word (T : Env K mg) : FnOk P w K mg base CX0 1 T.f_is_word T.fd_is_word ["alphabet", "value"] (spIsWord K) := by
  refine T.F_is_word.ok sc_is_word (fun vs H Q E h => ?_) (fun cdv A outer s H vs Q E hr h => ⟨_, ((pss_one (ps_ret (pe_and (pe_callB call_isi (by rfl) T.z_isinstance (by decide +kernel) (pa_cons (pv 1) (pa_cons (pe_bltn (v := .ty "str") (by rfl) T.z_str (by decide +kernel) rfl) pa_nil))) (pe_one (pe_callB (cr_all rfl) (by rfl) T.z_all (by decide +kernel) (pa_cons (pe_lc (own := [("sign", 2)]) (g := (gName 2)) (tt := tYes) rfl sc_is_word.nd (pi_str (pv 1)) (blkOk_by (own := [("sign", 2)]) (N := N_is_word) (sc := defScope s_is_word) (by decide +kernel)) (fun _ _ _ _ _ => (pg_name (i := 2) sc_is_word.nd rfl (.inl rfl))) (fun _ _ _ _ _ => pts_nil) (fun _ _ _ _ _ => (pe_cmpR op_in_sign (pv 2) (pv 0) (by rfl)))) pa_nil))))))), ?_⟩)
  · obtain ⟨a, v, rfl, _⟩ := h
    rfl
  · obtain ⟨a, v, rfl, ⟨z, rfl, hz, q⟩ | ⟨⟨t, ht, hk⟩, q⟩⟩ := h
    · walk_at "ss"
      refine ⟨_, _, _, _, true, rfl, ClsV.ty _, .base (.str _), kit_ty (by decide +kernel), ?_⟩
      walk_at "ss"
      intro D hD
      refine lc_gen walk_str (fun H' => Same H H') (fun i y => ∃ c, z.cps.toList[i]? = some c ∧ y = V.bl (decide (c ∈ a.cps.toList))) (by rw [size_tl, ← len_tl]; exact hz) (same_upd hD) (fun _ _ => trivial) (fun _ _ h => same_mut h hD) ?_ ?_
      · rintro i x H1 H2 Q1 hlt hI ⟨rfl, c, hc, rfl⟩ - hQ
        walk_at "ss"
        rw [get_tl] at hc
        exact hQ _ _ ⟨c, hc, rfl⟩ hI fun _ h => h
      · intro H1 ys hI hy hl hr
        have e : ys = (z.cps.toList.map fun c => decide (c ∈ a.cps.toList)).map V.bl := by
          rw [List.map_map]
          exact ys_map (by rw [hl, size_tl]) hr
        subst e
        walk_at "ss"
        refine ⟨D, _, rfl, SqL.of hy, ?_⟩
        rw [all_dec]
        exact q _ hI
    · walk_at "ssi"
      exact q _ (Same.refl H)
end

/-! ### what is found and what is due are the same -/
def scalV : V → Bool
  | .non => true
  | .bl _ => true
  | .int _ => true
  | .str _ => true
  | _ => false
/-- of depth below d: the same data -/
def Sm (K : PySem.W.Frag) (H : Hp) : Nat → V → V → Prop
  | 0, _, _ => False
  | d + 1, x, y => (x = y ∧ scalV x = true) ∨ (∃ a b xs ys, x = .ref a ∧ y = .ref b ∧ xs.length ≤ 100000 ∧ xs.length = ys.length ∧ (∀ (i : Nat) (u v : V), xs[i]? = some u → ys[i]? = some v → Sm K H d u v) ∧
      ((SqL K H a xs ∧ SqL K H b ys) ∨ (SqT K H a xs ∧ SqT K H b ys)))
theorem Sm.same {K : PySem.W.Frag} {H H' : Hp} (s : Same H H') : ∀ {d : Nat} {x y : V}, Sm K H d x y → Sm K H' d x y
  | 0, _, _, h => h
  | d + 1, x, y, h => by
    rcases h with h | ⟨a, b, xs, ys, e1, e2, hz, hl, hi, h⟩
    · exact .inl h
    · refine .inr ⟨a, b, xs, ys, e1, e2, hz, hl, fun i u v h1 h2 => Sm.same s (hi i u v h1 h2), ?_⟩
      rcases h with ⟨h1, h2⟩ | ⟨h1, h2⟩
      · exact .inl ⟨s.seq h1, s.seq h2⟩
      · exact .inr ⟨same_tup s h1, same_tup s h2⟩
theorem Sm.up {K : PySem.W.Frag} {H : Hp} : ∀ {d : Nat} {x y : V}, Sm K H d x y → Sm K H (d + 1) x y
  | 0, _, _, h => h.elim
  | d + 1, x, y, h => by
    rcases h with h | ⟨a, b, xs, ys, e1, e2, hz, hl, hi, h⟩
    · exact .inl h
    · exact .inr ⟨a, b, xs, ys, e1, e2, hz, hl, fun i u v h1 h2 => Sm.up (hi i u v h1 h2), h⟩
theorem tyx_list {K : PySem.W.Frag} {H : Hp} {a : Addr} {xs : List V} (h : SqL K H a xs) : TyX K H (.ref a) (.type "list") := by
  rcases h with (h | ⟨o, h⟩) | ⟨o, its, n, h1, h2, _⟩
  · exact .base (.lst h)
  · exact .base (.frz h)
  · exact .kList h1 h2
theorem tyx_tup {K : PySem.W.Frag} {H : Hp} {a : Addr} {xs : List V} (h : SqT K H a xs) : TyX K H (.ref a) (.type "tuple") := by
  rcases h with (h | ⟨o, h⟩) | ⟨o, its, n, h1, h2, _⟩
  · exact .base (.tup h)
  · exact .fTuple h
  · exact .kTuple h1 h2

theorem walk_zipT {K : PySem.W.Frag} {a b : Addr} {xs ys : List V} {n : Nat} (hn : n = min xs.length ys.length) : Walk (RZ.ItzT K a b) n (fun H => SqT K H a xs ∧ SqT K H b ys) (YPair (fun i => xs[i]?) (fun i => ys[i]?)) := by
  subst hn
  refine ⟨fun i _ hi q => ?_, fun _ q => ⟨xs, ys, q.1, q.2, by omega⟩, fun i H v H' _ q y => ?_⟩
  · have h1 : i < xs.length := by omega
    have h2 : i < ys.length := by omega
    exact ⟨xs, ys, xs[i], ys[i], q.1, q.2, by simp [h1], by simp [h2]⟩
  · obtain ⟨T, x, z, h1, h2, h3, h4, h5⟩ := y
    exact ⟨T, x, z, h1, h2, h3, h4 xs q.1, h5 ys q.2⟩
theorem sm_lst {K : PySem.W.Frag} {H : Hp} {d : Nat} {p q : Addr} {xs : List V} (h1 : SqL K H p xs) (h2 : SqL K H q xs) (hl : xs.length ≤ 100000) (hs : xs.all scalV = true) : Sm K H (d + 2) (.ref p) (.ref q) := by
  refine .inr ⟨p, q, xs, xs, rfl, rfl, hl, rfl, fun i u v e1 e2 => ?_, .inl ⟨h1, h2⟩⟩
  rw [e1] at e2
  cases e2
  exact .inl ⟨rfl, List.all_eq_true.mp hs u (List.mem_of_getElem? e1)⟩
def spSame (K : PySem.W.Frag) (d : Nat) : Sp := fun vs H Q _ => ∃ (x y : V), vs = [x, y] ∧ Sm K H d x y ∧ ∀ H', Same H H' → Q (.bl true) H'
section
variable {P : Program} {w : World} {K : PySem.W.Frag} {mg : Str → Option Value} {base : Heap}
theorem ok_same (T : Env K mg) : ∀ d : Nat, FnOk P w K mg base CX0 (d + 1) T.f_same T.fd_same ["_law_found", "_law_due"] (spSame K d)
  | 0 => by
    refine T.F_same.ok sc_same (fun vs H Q E h => ?_) (fun cdv A outer s H vs Q E hr h => ?_)
    · obtain ⟨x, y, rfl, _⟩ := h
      rfl
    · obtain ⟨x, y, rfl, h, _⟩ := h
      exact h.elim
  | d + 1 => by
    have ih : FnOk P w K mg base CX0 (d + 1) T.f_same T.fd_same ["_law_found", "_law_due"] (spSame K d) := ok_same T d
    refine T.F_same.ok sc_same (fun vs H Q E h => ?_) (fun cdv A outer s H vs Q E hr h => ⟨_, ((pss_cons (ps_if (pt_val (pe_callB call_isiT (by rfl) T.z_isinstance (by decide +kernel) (pa_cons (pv 1) (pa_cons (pe_tup (pa_cons (pe_bltn (v := .ty "list") (by rfl) T.z_list (by decide +kernel) rfl) (pa_cons (pe_bltn (v := .ty "tuple") (by rfl) T.z_tuple (by decide +kernel) rfl) pa_nil))) pa_nil))))
      (pss_cons (ps_if (PW.pt (pw_or (pt_cmpR op_ne (pe_callB call_isi (by rfl) T.z_isinstance (by decide +kernel) (pa_cons (pv 0) (pa_cons (pe_bltn (v := .ty "list") (by rfl) T.z_list (by decide +kernel) rfl) pa_nil))) (pe_callB call_isi (by rfl) T.z_isinstance (by decide +kernel) (pa_cons (pv 1) (pa_cons (pe_bltn (v := .ty "list") (by rfl) T.z_list (by decide +kernel) rfl) pa_nil))) (nomark _)) (pw_or1 (pt_cmpR op_ne (pe_callB call_isi (by rfl) T.z_isinstance (by decide +kernel) (pa_cons (pv 0) (pa_cons (pe_bltn (v := .ty "tuple") (by rfl) T.z_tuple (by decide +kernel) rfl) pa_nil))) (pe_callB call_isi (by rfl) T.z_isinstance (by decide +kernel) (pa_cons (pv 1) (pa_cons (pe_bltn (v := .ty "tuple") (by rfl) T.z_tuple (by decide +kernel) rfl) pa_nil))) (nomark _)))))
      (pss_one (ps_ret pe_bl))
      pss_nil)
      (pss_one (ps_ret (pe_and (pe_cmpR op_eq (pe_callB call_len (by rfl) T.z_len (by decide +kernel) (pa_cons (pv 0) pa_nil)) (pe_callB call_len (by rfl) T.z_len (by decide +kernel) (pa_cons (pv 1) pa_nil)) (nomark _)) (pe_one (pe_callB (cr_all rfl) (by rfl) T.z_all (by decide +kernel) (pa_cons (pe_lc (own := [("_law_a", 2), ("_law_b", 3)]) (g := (gTup K 2 (gCons (gName 2) (gCons (gName 3) gNil)))) (tt := tYes) rfl sc_same.nd (RZ.pi_zipA (by rfl) T.z_zip (pa_cons (pv 0) (pa_cons (pv 1) pa_nil))) (blkOk_by (own := [("_law_a", 2), ("_law_b", 3)]) (N := N_same) (sc := defScope s_same) (by decide +kernel)) (fun _ _ _ _ _ => (pg_tup (by rfl) (pgs_cons (pg_name (i := 2) sc_same.nd rfl (.inl rfl)) (pgs_cons (pg_name (i := 3) sc_same.nd rfl (.inl rfl)) pgs_nil)))) (fun _ _ _ _ _ => pts_nil) (fun _ _ _ _ _ => (pe_call ih hr (by rfl) T.g_same T.F_same.kp T.b_same .nil pass0 (pa_cons (pv 2) (pa_cons (pv 3) pa_nil))))) pa_nil)))))))
      pss_nil)
      (pss_cons (ps_if (PW.pt (pw_or (pt_cmpR op_isN (pv 1) pe_non (nomark _)) (pw_or1 (pt_cmpR op_isN (pv 0) pe_non (nomark _)))))
      (pss_one (ps_ret (pe_and (pe_cmpR op_isN (pv 1) pe_non (nomark _)) (pe_one (pe_cmpR op_isN (pv 0) pe_non (nomark _))))))
      pss_nil)
      (pss_cons (ps_if (PW.pt (pw_or (pt_cmpR op_ne (pe_callB call_isi (by rfl) T.z_isinstance (by decide +kernel) (pa_cons (pv 1) (pa_cons (pe_bltn (v := .ty "bool") (by rfl) T.z_bool (by decide +kernel) rfl) pa_nil))) (pe_callB call_isi (by rfl) T.z_isinstance (by decide +kernel) (pa_cons (pv 0) (pa_cons (pe_bltn (v := .ty "bool") (by rfl) T.z_bool (by decide +kernel) rfl) pa_nil))) (nomark _)) (pw_or1 (pt_cmpR op_ne (pe_callB call_isi (by rfl) T.z_isinstance (by decide +kernel) (pa_cons (pv 1) (pa_cons (pe_bltn (v := .ty "int") (by rfl) T.z_int (by decide +kernel) rfl) pa_nil))) (pe_callB call_isi (by rfl) T.z_isinstance (by decide +kernel) (pa_cons (pv 0) (pa_cons (pe_bltn (v := .ty "int") (by rfl) T.z_int (by decide +kernel) rfl) pa_nil))) (nomark _)))))
      (pss_one (ps_ret pe_bl))
      pss_nil)
      (pss_one (ps_ret (pe_and (pe_cmpR op_eq (pe_callB call_isi (by rfl) T.z_isinstance (by decide +kernel) (pa_cons (pv 1) (pa_cons (pe_bltn (v := .ty "str") (by rfl) T.z_str (by decide +kernel) rfl) pa_nil))) (pe_callB call_isi (by rfl) T.z_isinstance (by decide +kernel) (pa_cons (pv 0) (pa_cons (pe_bltn (v := .ty "str") (by rfl) T.z_str (by decide +kernel) rfl) pa_nil))) (nomark _)) (pe_one (pe_cmpR op_eq (pv 0) (pv 1) (nomark _)))))))))), ?_⟩)
    · obtain ⟨x, y, rfl, _⟩ := h
      rfl
    · obtain ⟨x, y, rfl, h, q⟩ := h
      rcases h with ⟨rfl, hsc⟩ | ⟨a, b, xs, ys, rfl, rfl, hz, hl, hi, h⟩
      · cases x with
        | non =>
          walk_at "ssi"
          exact q _ (same_upd (by assumption))
        | bl b =>
          walk_at "ssi"
          show Q (V.bl (decide (V.bl b = V.bl b))) _
          rw [decide_eq_true rfl]
          exact q _ (same_upd (by assumption))
        | int i =>
          walk_at "ssi"
          show Q (V.bl (decide (V.int i = V.int i))) _
          rw [decide_eq_true rfl]
          exact q _ (same_upd (by assumption))
        | str z =>
          walk_at "ssi"
          show Q (V.bl (decide (V.str z = V.str z))) _
          rw [decide_eq_true rfl]
          exact q _ (same_upd (by assumption))
        | byt z => cases hsc
        | flt z => cases hsc
        | ref z => cases hsc
        | ty z => cases hsc
      · rcases h with ⟨h1, h2⟩ | ⟨h1, h2⟩
        · walk_at "ss"
          intro p hp
          have s1 : Same H (upd H p (.tup [.ty "list", .ty "tuple"])) := same_upd hp
          have t1 := tyx_list (s1.seq h1)
          have t2 := tyx_list (s1.seq h2)
          walk_at "ssi"
          refine ⟨_, xs.length, rfl, .inl ⟨xs, s1.seq h1, rfl⟩, ?_⟩
          walk_at "ss"
          refine ⟨_, ys.length, rfl, .inl ⟨ys, s1.seq h2, rfl⟩, ?_⟩
          walk_at "ss"
          refine iteP (decide_eq_true (by rw [hl])) ?_
          walk_at "ss"
          refine ⟨a, b, xs, ys, rfl, .inl ⟨s1.seq h1, s1.seq h2, ?_⟩⟩
          intro D hD
          have hD0 : H D = none := s1.free hD
          refine lc_it (walk_zip (xs := xs) (ys := ys) (n := xs.length) (by omega)) (fun i H' => Stp (Same H H' ∧ H' D = some (.lst ((List.replicate i true).map V.bl))))
            (.mk ⟨same_mut s1 hD0, upd_same⟩) (fun i H' _ h => ⟨h.of.1.seq h1, h.of.1.seq h2⟩) ?_ ?_
          · rintro i x H1 H2 hlt hP ⟨Tp, u, v, rfl, hT, rfl, e1, e2⟩
            obtain ⟨s2, hDl⟩ := hP.of
            have s3 : Same H1 (upd H1 Tp (.tup [u, v])) := same_upd hT
            refine ⟨Tp, _, rfl, SqT.of upd_same, rfl, ?_⟩
            walk_at "ss"
            refine ⟨u, v, rfl, (hi i u v e1 e2).same (s2.trans s3), fun H3 s4 => ⟨_, s4 _ _ (s3 _ _ hDl), ?_, ?_⟩⟩
            · rw [List.length_map, List.length_replicate]
              exact szl (by omega)
            · refine .mk ⟨same_mut ((s2.trans s3).trans s4) hD0, ?_⟩
              rw [upd_same, List.replicate_succ', List.map_append]
              rfl
          · intro H1 hP
            obtain ⟨s2, hDl⟩ := hP.of
            walk_at "ss"
            refine ⟨D, _, rfl, SqL.of hDl, ?_⟩
            rw [show (List.replicate xs.length true).all id = true by simp]
            exact q _ s2
        · walk_at "ss"
          intro p hp
          have s1 : Same H (upd H p (.tup [.ty "list", .ty "tuple"])) := same_upd hp
          have t1 := tyx_tup (same_tup s1 h1)
          have t2 := tyx_tup (same_tup s1 h2)
          walk_at "ssi"
          refine ⟨_, xs.length, rfl, .inr ⟨xs, same_tup s1 h1, rfl⟩, ?_⟩
          walk_at "ss"
          refine ⟨_, ys.length, rfl, .inr ⟨ys, same_tup s1 h2, rfl⟩, ?_⟩
          walk_at "ss"
          refine iteP (decide_eq_true (by rw [hl])) ?_
          walk_at "ss"
          refine ⟨a, b, xs, ys, rfl, .inr ⟨same_tup s1 h1, same_tup s1 h2, ?_⟩⟩
          intro D hD
          have hD0 : H D = none := s1.free hD
          refine lc_it (walk_zipT (xs := xs) (ys := ys) (n := xs.length) (by omega)) (fun i H' => Stp (Same H H' ∧ H' D = some (.lst ((List.replicate i true).map V.bl))))
            (.mk ⟨same_mut s1 hD0, upd_same⟩) (fun i H' _ h => ⟨same_tup h.of.1 h1, same_tup h.of.1 h2⟩) ?_ ?_
          · rintro i x H1 H2 hlt hP ⟨Tp, u, v, rfl, hT, rfl, e1, e2⟩
            obtain ⟨s2, hDl⟩ := hP.of
            have s3 : Same H1 (upd H1 Tp (.tup [u, v])) := same_upd hT
            refine ⟨Tp, _, rfl, SqT.of upd_same, rfl, ?_⟩
            walk_at "ss"
            refine ⟨u, v, rfl, (hi i u v e1 e2).same (s2.trans s3), fun H3 s4 => ⟨_, s4 _ _ (s3 _ _ hDl), ?_, ?_⟩⟩
            · rw [List.length_map, List.length_replicate]
              exact szl (by omega)
            · refine .mk ⟨same_mut ((s2.trans s3).trans s4) hD0, ?_⟩
              rw [upd_same, List.replicate_succ', List.map_append]
              rfl
          · intro H1 hP
            obtain ⟨s2, hDl⟩ := hP.of
            walk_at "ss"
            refine ⟨D, _, rfl, SqL.of hDl, ?_⟩
            rw [show (List.replicate xs.length true).all id = true by simp]
            exact q _ s2
end

/-! ### values as data -/
mutual
theorem dp_mono {K : PySem.W.Frag} {H H' : Hp} (hs : ∀ a xs, SqL K H a xs → SqL K H' a xs) (ht : ∀ a xs, SqT K H a xs → SqT K H' a xs) : ∀ (d : PyData) (v : V), Dp K H v d → Dp K H' v d
  | .none, _, h => by cases h; exact .non
  | .bool b, _, h => by cases h; exact .bl b
  | .int i, _, h => by cases h; exact .int i
  | .str x, _, h => by cases h; exact .str x
  | .list ds, _, h => by
    cases h with
    | lst h1 h2 => exact .lst (hs _ _ h1) (dpa_mono hs ht ds _ h2)
  | .tuple ds, _, h => by
    cases h with
    | tup h1 h2 => exact .tup (ht _ _ h1) (dpa_mono hs ht ds _ h2)
  | .dict _, _, h => by cases h
theorem dpa_mono {K : PySem.W.Frag} {H H' : Hp} (hs : ∀ a xs, SqL K H a xs → SqL K H' a xs) (ht : ∀ a xs, SqT K H a xs → SqT K H' a xs) : ∀ (ds : List PyData) (vs : List V), DpAll K H vs ds → DpAll K H' vs ds
  | [], _, h => by cases h; exact .nil
  | d :: ds, _, h => by
    cases h with
    | cons a b => exact .cons (dp_mono hs ht d _ a) (dpa_mono hs ht ds _ b)
end
theorem dp_same {K : PySem.W.Frag} {H H' : Hp} {v : V} {d : PyData} (h : Dp K H v d) (s : Same H H') : Dp K H' v d := dp_mono (fun _ _ h => s.seq h) (fun _ _ h => same_tup s h) d v h
theorem dpa_same {K : PySem.W.Frag} {H H' : Hp} {vs : List V} {ds : List PyData} (h : DpAll K H vs ds) (s : Same H H') : DpAll K H' vs ds := dpa_mono (fun _ _ h => s.seq h) (fun _ _ h => same_tup s h) ds vs h
theorem dpa_len {K : PySem.W.Frag} {H : Hp} : ∀ {ds : List PyData} {vs : List V}, DpAll K H vs ds → vs.length = ds.length
  | [], _, h => by cases h; rfl
  | d :: ds, _, h => by
    cases h with
    | cons a b => rw [List.length_cons, List.length_cons, dpa_len b]
theorem dpa_app {K : PySem.W.Frag} {H : Hp} {us : List V} {es : List PyData} (h2 : DpAll K H us es) : ∀ {ds : List PyData} {vs : List V}, DpAll K H vs ds → DpAll K H (vs ++ us) (ds ++ es)
  | [], _, h => by cases h; exact h2
  | d :: ds, _, h => by
    cases h with
    | cons a b => exact .cons a (dpa_app h2 b)
theorem dpa_at {K : PySem.W.Frag} {H : Hp} : ∀ {ds : List PyData} {vs : List V} {i : Nat} {v : V}, DpAll K H vs ds → vs[i]? = some v → ∃ d, ds[i]? = some d ∧ Dp K H v d
  | [], _, _, _, h, e => by cases h; simp at e
  | d :: ds, _, 0, v, h, e => by
    cases h with
    | cons a b =>
      cases e
      exact ⟨d, rfl, a⟩
  | d :: ds, _, i + 1, v, h, e => by
    cases h with
    | cons a b =>
      have e : _ = some v := e
      exact dpa_at (ds := ds) (i := i) b e
mutual
/-- no list of five items -/
def no5 : PyData → Bool
  | .list ds => ds.length != 5 && no5All ds
  | .tuple ds => no5All ds
  | _ => true
def no5All : List PyData → Bool
  | [] => true
  | d :: ds => no5 d && no5All ds
end
mutual
theorem dp_kp {K : PySem.W.Frag} {b l : Addr} {H H' : Hp} (k : Kp b H H') (B : BagAt b l H) : ∀ (d : PyData) (v : V), no5 d = true → Dp K H v d → Dp K H' v d
  | .none, _, _, h => by cases h; exact .non
  | .bool b, _, _, h => by cases h; exact .bl b
  | .int i, _, _, h => by cases h; exact .int i
  | .str x, _, _, h => by cases h; exact .str x
  | .list ds, _, n, h => by
    cases h with
    | lst h1 h2 =>
      rename_i a xs
      have n : (ds.length != 5 && no5All ds) = true := n
      rw [Bool.and_eq_true] at n
      refine .lst ?_ (dpa_kp k B ds _ n.2 h2)
      by_cases e : a = b
      · obtain ⟨⟨i, r, m, c, ns, hb, _⟩, _⟩ := B
        have hl := dpa_len h2
        rcases h1 with (h1 | ⟨o, h1⟩) | h1
        · rw [e, hb] at h1
          cases h1
          have : ds.length = 5 := hl.symm
          rw [this] at n
          exact absurd n.1 (by decide)
        · rw [e, hb] at h1
          cases h1
        · exact .inr h1
      · exact k.seq e h1
  | .tuple ds, _, n, h => by
    cases h with
    | tup h1 h2 =>
      rename_i a xs
      refine .tup ?_ (dpa_kp k B ds _ n h2)
      obtain ⟨⟨i, r, m, c, ns, hb, _⟩, _⟩ := B
      rcases h1 with (h | ⟨o, h⟩) | h
      · exact .inl (.inl (k _ _ h fun z => by rw [z, hb] at h; cases h))
      · exact .inl (.inr ⟨o, k _ _ h fun z => by rw [z, hb] at h; cases h⟩)
      · exact .inr h
  | .dict _, _, _, h => by cases h
theorem dpa_kp {K : PySem.W.Frag} {b l : Addr} {H H' : Hp} (k : Kp b H H') (B : BagAt b l H) : ∀ (ds : List PyData) (vs : List V), no5All ds = true → DpAll K H vs ds → DpAll K H' vs ds
  | [], _, _, h => by cases h; exact .nil
  | d :: ds, _, n, h => by
    have n : (no5 d && no5All ds) = true := n
    rw [Bool.and_eq_true] at n
    cases h with
    | cons a b => exact .cons (dp_kp k B d _ n.1 a) (dpa_kp k B ds _ n.2 b)
end
def tyD : PyData → String
  | .none => "NoneType"
  | .bool _ => "bool"
  | .int _ => "int"
  | .str _ => "str"
  | .list _ => "list"
  | .tuple _ => "tuple"
  | .dict _ => "dict"
theorem dp_ty {K : PySem.W.Frag} {H : Hp} {v : V} {d : PyData} (h : Dp K H v d) : TyX K H v (.type (tyD d)) := by
  cases h with
  | non => exact .base .non
  | bl b => exact .base (.bl b)
  | int i => exact .base (.int i)
  | str x => exact .base (.str x)
  | lst h _ => exact tyx_list h
  | tup h _ => exact tyx_tup h
theorem cut_drop {xs : List V} {i : Nat} : cutV xs (some (i : Int)) none = xs.drop i := by
  unfold cutV
  rw [show HT.sIx xs.length 0 (some (i : Int)) = min i xs.length from HT.sIx_nat _ _ i, HT.sIx_none]
  rw [List.take_of_length_le (by rw [List.length_drop]; omega)]
  by_cases h : i ≤ xs.length
  · rw [Nat.min_eq_left h]
  · rw [List.drop_of_length_le (by omega), List.drop_of_length_le (by omega)]

/-! ### kinds of values -/
def NoInt (K : PySem.W.Frag) (H : Hp) (v : V) : Prop := ∃ t, TyX K H v (.type t) ∧ kitB t "int" = some false
def spNum (K : PySem.W.Frag) : Sp := fun vs H Q _ => ∃ (v : V), vs = [v] ∧
  ((∃ i, v = .int i ∧ Q (.bl (decide (0 ≤ i))) H) ∨ (∃ b, v = .bl b ∧ Q (.bl false) H) ∨ (NoInt K H v ∧ Q (.bl false) H))
def spBelow (K : PySem.W.Frag) : Sp := fun vs H Q _ => ∃ (v : V) (n : Int), vs = [v, .int n] ∧
  ((∃ i, v = .int i ∧ Q (.bl (decide (0 ≤ i ∧ i < n))) H) ∨ (∃ b, v = .bl b ∧ Q (.bl false) H) ∨ (NoInt K H v ∧ Q (.bl false) H))
section
variable {P : Program} {w : World} {K : PySem.W.Frag} {mg : Str → Option Value} {base : Heap}
theorem ok_is_number (T : Env K mg) : FnOk P w K mg base CX0 1 T.f_is_number T.fd_is_number ["value"] (spNum K) := by
  refine T.F_is_number.ok sc_is_number (fun vs H Q E h => ?_) (fun cdv A outer s H vs Q E hr h => ⟨_, ((pss_one (ps_ret (pe_and (pe_callB call_isi (by rfl) T.z_isinstance (by decide +kernel) (pa_cons (pv 0) (pa_cons (pe_bltn (v := .ty "int") (by rfl) T.z_int (by decide +kernel) rfl) pa_nil))) (pe_and (pe_not (pe_callB call_isi (by rfl) T.z_isinstance (by decide +kernel) (pa_cons (pv 0) (pa_cons (pe_bltn (v := .ty "bool") (by rfl) T.z_bool (by decide +kernel) rfl) pa_nil)))) (pe_one (pe_cmpR op_ge (pv 0) pe_int (nomark _)))))))), ?_⟩)
  · obtain ⟨v, rfl, _⟩ := h
    rfl
  · obtain ⟨v, rfl, ⟨i, rfl, q⟩ | ⟨b, rfl, q⟩ | ⟨⟨t, ht, hk⟩, q⟩⟩ := h
    · walk_at "ssi"
      exact q
    · walk_at "ssi"
      exact q
    · walk_at "ssi"
      exact q
theorem ok_is_below (T : Env K mg) : FnOk P w K mg base CX0 2 T.f_is_below T.fd_is_below ["value", "bound"] (spBelow K) := by
  refine T.F_is_below.ok sc_is_below (fun vs H Q E h => ?_) (fun cdv A outer s H vs Q E hr h => ⟨_, ((pss_one (ps_ret (pe_and (pe_call (ok_is_number T) (hr.mono (by decide)) (by rfl) T.g_is_number T.F_is_number.kp T.b_is_number .nil pass0 (pa_cons (pv 0) pa_nil)) (pe_one (pe_cmpR op_lt (pv 0) (pv 1) (nomark _))))))), ?_⟩)
  · obtain ⟨v, n, rfl, _⟩ := h
    rfl
  · obtain ⟨v, n, rfl, ⟨i, rfl, q⟩ | ⟨b, rfl, q⟩ | ⟨hn, q⟩⟩ := h
    · walk_at "ss"
      refine ite2 (fun e1 => ?_) (fun e1 => ?_)
      · have e2 : 0 ≤ i := of_decide_eq_true e1
        walk_at "ss"
        rw [show decide (0 ≤ i ∧ i < n) = decide (i < n) from decide_eq_decide.mpr ⟨fun h => h.2, fun h => ⟨e2, h⟩⟩] at q
        exact q
      · have e2 : ¬ 0 ≤ i := fun h => e1 (decide_eq_true h)
        rw [decide_eq_false fun h => e2 h.1] at q
        exact q
    · walk_at "ss"
      refine .inr (.inl ⟨b, rfl, ?_⟩)
      walk_at "ss"
      exact q
    · walk_at "ss"
      refine .inr (.inr ⟨hn, ?_⟩)
      walk_at "ss"
      exact q
def spListed (K : PySem.W.Frag) : Sp := fun vs H Q _ => ∃ (v : V), vs = [v] ∧ ((∃ p xs, v = .ref p ∧ (SqL K H p xs ∨ SqT K H p xs) ∧ ∀ H', Same H H' → Q (.bl true) H') ∨ (∃ t, TyX K H v (.type t) ∧ kitB t "list" = some false ∧ kitB t "tuple" = some false ∧ ∀ H', Same H H' → Q (.bl false) H'))
theorem ok_is_listed (T : Env K mg) : FnOk P w K mg base CX0 1 T.f_is_listed T.fd_is_listed ["value"] (spListed K) := by
  refine T.F_is_listed.ok sc_is_listed (fun vs H Q E h => ?_) (fun cdv A outer s H vs Q E hr h => ⟨_, ((pss_one (ps_ret (pe_callB call_isiT (by rfl) T.z_isinstance (by decide +kernel) (pa_cons (pv 0) (pa_cons (pe_tup (pa_cons (pe_bltn (v := .ty "list") (by rfl) T.z_list (by decide +kernel) rfl) (pa_cons (pe_bltn (v := .ty "tuple") (by rfl) T.z_tuple (by decide +kernel) rfl) pa_nil))) pa_nil)))))), ?_⟩)
  · obtain ⟨v, rfl, _⟩ := h
    rfl
  · obtain ⟨v, rfl, ⟨p, xs, rfl, h | h, q⟩ | ⟨t, ht, k1, k2, q⟩⟩ := h
    · have ty := tyx_list h
      walk_at "ss"
      intro D hD
      have ty2 := tyx_same (same_upd (o := .tup [.ty "list", .ty "tuple"]) hD) ty
      walk_at "ssi"
      exact q _ (same_upd hD)
    · have ty := tyx_tup h
      walk_at "ss"
      intro D hD
      have ty2 := tyx_same (same_upd (o := .tup [.ty "list", .ty "tuple"]) hD) ty
      walk_at "ssi"
      exact q _ (same_upd hD)
    · walk_at "ss"
      intro D hD
      have ty2 := tyx_same (same_upd (o := .tup [.ty "list", .ty "tuple"]) hD) ht
      refine ⟨_, _, _, _, _, false, rfl, upd_same, .cons (.ty _) (.cons (.ty _) .nil), ty2, any2 (r1 := false) (r2 := false) k1 k2, ?_⟩
      walk_at "ssi"
      exact q _ (same_upd hD)
end

/-! ### texts of single signs -/
abbrev sg (c : Nat) : Str := ⟨#[c]⟩
theorem rising_sg : ∀ (cs : List Nat) (p : Nat), risingS (sg p) (cs.map sg) = true → cs.Pairwise (· ≤ ·) ∧ ∀ c ∈ cs, p ≤ c
  | [], _, _ => ⟨.nil, fun _ h => nomatch h⟩
  | c :: r, p, h => by
    have h' : (!PySem.Spec.ltCps [c] [p] && risingS (sg c) (r.map sg)) = true := h
    rw [Bool.and_eq_true] at h'
    obtain ⟨h1, h2⟩ := h'
    have h3 : ¬ c < p := by
      intro hc
      simp [PySem.Spec.ltCps, hc] at h1
    obtain ⟨h4, h5⟩ := rising_sg r c h2
    refine ⟨List.pairwise_cons.mpr ⟨h5, h4⟩, fun x hx => ?_⟩
    rcases List.mem_cons.mp hx with rfl | hx
    · omega
    · have := h5 x hx
      omega
theorem sorted_sg : ∀ (cs : List Nat), sortedS (cs.map sg) = true → cs.Pairwise (· ≤ ·)
  | [], _ => .nil
  | c :: r, h => by
    obtain ⟨h4, h5⟩ := rising_sg r c h
    exact List.pairwise_cons.mpr ⟨h5, h4⟩
theorem perm_sg {ys : List Str} {cs : List Nat} (h : ys.Perm (cs.map sg)) : ∃ ds : List Nat, ds.Perm cs ∧ ys = ds.map sg := by
  refine ⟨ys.map fun y => y.cps.toList.headD 0, ?_, ?_⟩
  · have h2 := h.map fun y => y.cps.toList.headD 0
    rw [List.map_map] at h2
    have e : ((fun y : Str => y.cps.toList.headD 0) ∘ sg) = id := rfl
    rw [e, List.map_id] at h2
    exact h2
  · rw [List.map_map]
    have : ∀ y ∈ ys, (sg ∘ fun y : Str => y.cps.toList.headD 0) y = y := fun y hy => by
      obtain ⟨c, -, rfl⟩ := List.mem_map.mp (h.mem_iff.mp hy)
      rfl
    conv => lhs; rw [← List.map_id ys]
    exact (List.map_congr_left fun y hy => (this y hy)).symm
theorem joinL_sg : ∀ cs : List Nat, TL.joinL [] (cs.map fun c => [c]) = cs
  | [] => rfl
  | [c] => rfl
  | c :: d :: r => by
    show [c] ++ ([] ++ TL.joinL [] ((d :: r).map fun c => [c])) = c :: d :: r
    rw [joinL_sg (d :: r)]
    rfl
theorem join_sg (cs : List Nat) : Txt.join (Str.ofString "") (cs.map sg) = ⟨cs.toArray⟩ := by
  apply TL.ext_tl
  rw [TL.join_eq, TL.tl_join, List.map_map]
  show TL.joinL [] (cs.map fun c => [c]) = _
  rw [joinL_sg]
theorem sum_sg : ∀ cs : List Nat, ((cs.map sg).map (·.length)).sum = cs.length
  | [] => rfl
  | c :: r => by
    show 1 + ((r.map sg).map (·.length)).sum = r.length + 1
    rw [sum_sg r]
    omega
theorem rise_lt {cs : List Nat} (h : cs.Pairwise (· ≤ ·)) (n : cs.Nodup) : cs.Pairwise (· < ·) := by
  have h2 := List.pairwise_and_iff.mpr ⟨h, n⟩
  exact h2.imp fun ⟨a, b⟩ => Nat.lt_of_le_of_ne a b
theorem in_sg (c : Nat) (cs : List Nat) : inV (.str (sg c)) (cs.map fun c => V.str (sg c)) = decide (c ∈ cs) := by
  unfold inV
  rw [Bool.eq_iff_iff, List.any_map]
  simp only [List.any_eq_true, Function.comp, eqV, decide_eq_true_eq]
  constructor
  · rintro ⟨d, hd, e⟩
    have e2 : sg d = sg c := by simpa using e
    have e3 : d = c := by
      have := congrArg (fun z : Str => z.cps.toList) e2
      simpa using this
    rw [← e3]
    exact hd
  · intro h
    exact ⟨c, h, by simp⟩
theorem az_text : (Str.ofString "abcdefghijklmnopqrstuvwxyz").cps.toList = (List.range 26).map (97 + ·) := by decide +kernel
theorem az_at {i c : Nat} (h : (Str.ofString "abcdefghijklmnopqrstuvwxyz").cps[i]? = some c) : i < 26 ∧ c = 97 + i := by
  rw [get_tl, az_text, List.getElem?_map] at h
  by_cases hi : i < 26
  · rw [List.getElem?_range hi] at h
    exact ⟨hi, (Option.some.inj h).symm⟩
  · rw [List.getElem?_eq_none_iff.mpr (by simp; omega)] at h
    cases h
theorem az_size : (Str.ofString "abcdefghijklmnopqrstuvwxyz").cps.size = 26 := by decide +kernel
theorem az_len : (Str.ofString "abcdefghijklmnopqrstuvwxyz").length = 26 := by decide +kernel
theorem az_mem {c : Nat} (h : c ∈ (Str.ofString "abcdefghijklmnopqrstuvwxyz").cps.toList) : 97 ≤ c ∧ c ≤ 122 := by
  rw [az_text] at h
  obtain ⟨i, hi, rfl⟩ := List.mem_map.mp h
  have := List.mem_range.mp hi
  omega

/-! ### lines of formulas, any values -/
def belowD (n : Int) : PyData → Bool
  | .int i => decide (0 ≤ i ∧ i < n)
  | _ => false
def intD : PyData → Int
  | .int i => i
  | _ => 0
def primeD : PyData → Bool
  | .int i => decide (i ∈ ([2, 3, 5, 7, 11, 13, 17, 19, 23, 29, 31, 37, 41, 43, 47, 53, 59, 61, 67, 71, 73, 79, 83, 89, 97] : List Int))
  | _ => false
def lettersD (al : List Nat) : PyData → Bool
  | .str z => decide (z = ⟨(al.filter fun c => decide (c ∈ z.cps.toList)).toArray⟩)
  | _ => false
def ascD (ds : List PyData) : Bool := (List.range (ds.length - 1)).all fun i => decide (intD (ds.getD i .none) < intD (ds.getD (i + 1) .none))
def refsD (n : Int) : PyData → Bool
  | .tuple ds => ds.all (belowD n) && ascD ds
  | _ => false
def standD (al : List Nat) (n : Int) : PyData → Bool
  | .tuple [.str k, a] => if k = "is" then lettersD al a else if k = "not" ∨ k = "before" then belowD n a else if k = "and" ∨ k = "or" then refsD n a else false
  | .tuple [.str k, a, b] => if k = "since" then belowD n a && belowD n b else false
  | .tuple [.str k, a, b, c] => if k = "count" then belowD n a && (primeD b && belowD (intD b) c) else false
  | _ => false
def kinds9 : List Str := ["is", "not", "before", "and", "or", "since", "count", "letter", "xor"]
/-- what is asked of such values: short tuples that begin with a text or None; short texts -/
def OkD : PyData → Prop
  | .tuple [] => True
  | .tuple (.none :: ps) => ps.length ≤ 3
  | .tuple (.str k :: ps) => k ∈ kinds9 ∧ ps.length ≤ 3 ∧ ∀ d ∈ ps, (∀ z, d = .str z → z.length ≤ 1000) ∧ (∀ ds, d = .tuple ds → ds.length ≤ 1000)
  | .tuple _ => False
  | _ => True
theorem below_use {K : PySem.W.Frag} {H : Hp} {v : V} {d : PyData} {n : Int} {Q : VK} (h : Dp K H v d) (q : Q (.bl (belowD n d)) H) :
    (∃ i, v = .int i ∧ Q (.bl (decide (0 ≤ i ∧ i < n))) H) ∨ (∃ b, v = .bl b ∧ Q (.bl false) H) ∨ (NoInt K H v ∧ Q (.bl false) H) := by
  cases h with
  | non => exact .inr (.inr ⟨⟨"NoneType", .base .non, by decide +kernel⟩, q⟩)
  | bl b => exact .inr (.inl ⟨b, rfl, q⟩)
  | int i => exact .inl ⟨i, rfl, q⟩
  | str x => exact .inr (.inr ⟨⟨"str", .base (.str x), by decide +kernel⟩, q⟩)
  | lst h1 h2 => exact .inr (.inr ⟨⟨"list", tyx_list h1, by decide +kernel⟩, q⟩)
  | tup h1 h2 => exact .inr (.inr ⟨⟨"tuple", tyx_tup h1, by decide +kernel⟩, q⟩)
def spPrimeX (K : PySem.W.Frag) : Sp := fun vs H Q _ => ∃ (v : V) (d : PyData), vs = [v] ∧ Dp K H v d ∧ Q (.bl (primeD d)) H
section
variable {P : Program} {w : World} {K : PySem.W.Frag} {mg : Str → Option Value} {base : Heap}
theorem inV_ints (i : Int) (l : List Int) : inV (.int i) (l.map V.int) = decide (i ∈ l) := by
  unfold inV
  rw [Bool.eq_iff_iff, List.any_map]
  simp only [List.any_eq_true, Function.comp, eqV, decide_eq_true_eq]
  constructor
  · rintro ⟨d, hd, e⟩
    have e2 : d = i := by simpa using e
    rw [← e2]
    exact hd
  · intro h
    exact ⟨i, h, by simp⟩
theorem ok_is_prime (T : Env K mg) : FnOk P w K mg base CX0 2 T.f_is_prime T.fd_is_prime ["value"] (spPrimeX K) := by
  refine T.F_is_prime.ok sc_is_prime (fun vs H Q E h => ?_) (fun cdv A outer s H vs Q E hr h => ⟨_, ((pss_one (ps_ret (pe_and (pe_call (ok_is_number T) (hr.mono (by decide)) (by rfl) T.g_is_number T.F_is_number.kp T.b_is_number .nil pass0 (pa_cons (pv 0) pa_nil)) (pe_one (pe_cmpR op_in_seq (pv 0) (pe_glob (v := .ref T.r_PRIMES) (by rfl) T.gt_PRIMES rfl) (by rfl))))))), ?_⟩)
  · obtain ⟨v, d, rfl, _⟩ := h
    rfl
  · obtain ⟨v, d, rfl, hd, q⟩ := h
    walk_at "ss"
    cases hd with
    | int i =>
      refine .inl ⟨i, rfl, ?_⟩
      walk_at "ss"
      refine ite2 (fun e1 => ?_) (fun e1 => ?_)
      · walk_at "ss"
        refine ⟨_, _, rfl, .inr (T.st_PRIMES _), rfl, by decide, ?_⟩
        rw [inV_ints]
        exact q
      · have e2 : primeD (.int i) = false := decide_eq_false fun h => e1 (decide_eq_true (by
          simp only [List.mem_cons, List.not_mem_nil, or_false] at h
          omega))
        rw [e2] at q
        exact q
    | bl b =>
      refine .inr (.inl ⟨b, rfl, ?_⟩)
      walk_at "ss"
      exact q
    | non =>
      refine .inr (.inr ⟨⟨"NoneType", .base .non, by decide +kernel⟩, ?_⟩)
      walk_at "ss"
      exact q
    | str x =>
      refine .inr (.inr ⟨⟨"str", .base (.str x), by decide +kernel⟩, ?_⟩)
      walk_at "ss"
      exact q
    | lst h1 h2 =>
      refine .inr (.inr ⟨⟨"list", tyx_list h1, by decide +kernel⟩, ?_⟩)
      walk_at "ss"
      exact q
    | tup h1 h2 =>
      refine .inr (.inr ⟨⟨"tuple", tyx_tup h1, by decide +kernel⟩, ?_⟩)
      walk_at "ss"
      exact q
def spLettersX (K : PySem.W.Frag) : Sp := fun vs H Q _ => ∃ (al : Str) (v : V) (d : PyData), vs = [.str al, v] ∧ al.length ≤ 4 ∧ Dp K H v d ∧ (∀ z, d = .str z → z.length ≤ 1000) ∧ ∀ H', Same H H' → Q (.bl (lettersD al.cps.toList d)) H'
def letF (al z : List Nat) (i : Nat) : Option V := match al[i]? with | some c => if c ∈ z then some (.str (sg c)) else none | none => none
theorem letF_all (al z : List Nat) : (List.range al.length).filterMap (letF al z) = ((al.filter fun c => decide (c ∈ z)).map sg).map V.str := by
  have h : ∀ (l pre : List Nat), al = pre ++ l → (List.range' pre.length l.length).filterMap (letF al z) = ((l.filter fun c => decide (c ∈ z)).map sg).map V.str := by
    intro l
    induction l with
    | nil => intro pre e; rfl
    | cons c l ih =>
      intro pre e
      have hc : al[pre.length]? = some c := by rw [e]; simp
      have ih2 := ih (pre ++ [c]) (by rw [e]; simp)
      rw [List.length_append] at ih2
      rw [List.length_cons, List.range'_succ, List.filterMap_cons, List.filter_cons]
      have fc : letF al z pre.length = if c ∈ z then some (V.str (sg c)) else none := by
        unfold letF
        rw [hc]
      rw [fc]
      by_cases hm : c ∈ z
      · rw [if_pos hm, if_pos (decide_eq_true hm)]
        exact congrArg (V.str (sg c) :: ·) ih2
      · rw [if_neg hm, if_neg (by simpa using hm)]
        exact ih2
  have := h al [] rfl
  rw [List.length_nil] at this
  rw [← this, List.range_eq_range']
theorem ok_are_letters (T : Env K mg) : FnOk P w K mg base CX0 1 T.f_are_letters T.fd_are_letters ["alphabet", "value"] (spLettersX K) := by
  refine T.F_are_letters.ok sc_are_letters (fun vs H Q E h => ?_) (fun cdv A outer s H vs Q E hr h => ⟨_, ((pss_one (ps_ret (pe_and (pe_callB call_isi (by rfl) T.z_isinstance (by decide +kernel) (pa_cons (pv 1) (pa_cons (pe_bltn (v := .ty "str") (by rfl) T.z_str (by decide +kernel) rfl) pa_nil))) (pe_one (pe_cmpR op_eq (pv 1) (pe_join pe_str (pe_lc (own := [("letter", 2)]) (g := (gName 2)) rfl sc_are_letters.nd (pi_str (pv 0)) (blkOk_by (own := [("letter", 2)]) (N := N_are_letters) (sc := defScope s_are_letters) (by decide +kernel)) (fun _ _ _ _ _ => (pg_name (i := 2) sc_are_letters.nd rfl (.inl rfl))) (fun _ _ _ _ _ => (pts_one (pt_cmpR op_in_sign (pv 2) (pv 1) (by rfl)))) (fun _ _ _ _ _ => (pv 2)))) (nomark _))))))), ?_⟩)
  · obtain ⟨al, v, d, rfl, _⟩ := h
    rfl
  · obtain ⟨al, v, d, rfl, hal, hd, hz, q⟩ := h
    cases hd with
    | str z =>
      have hz := hz z rfl
      walk_at "ssi"
      rename_i D hD
      refine lc_fil walk_str (fun H' => Same H H') (letF al.cps.toList z.cps.toList) (by rw [size_tl, ← len_tl]; omega) (same_upd hD) (fun _ _ => trivial) (fun _ _ h => same_mut h hD) ?_ ?_
      · rintro i2 x H4 H5 Q1 Qn hlt hI ⟨rfl, c, hcz, rfl⟩ - hQ hN
        rw [get_tl] at hcz
        have fc : letF al.cps.toList z.cps.toList i2 = if c ∈ z.cps.toList then some (V.str (sg c)) else none := by
          unfold letF
          rw [hcz]
        walk_at "ss"
        by_cases hm : c ∈ z.cps.toList
        · rw [decide_eq_true hm]
          walk_at "ss"
          exact hQ _ _ (by rw [fc, if_pos hm]) hI fun _ h => h
        · rw [decide_eq_false hm]
          walk_at "ss"
          exact hN _ (by rw [fc, if_neg hm]) hI fun _ h => h
      · intro H1 hI hy
        rw [size_tl, letF_all] at hy
        walk_at "ss"
        have hl := List.length_filter_le (fun c => decide (c ∈ z.cps.toList)) al.cps.toList
        rw [← len_tl] at hl
        refine ⟨_, D, _, rfl, rfl, .inl (SqL.of hy), ?_, ?_⟩
        · rw [sum_sg, List.length_map]
          have : (Str.ofString "").length = 0 := rfl
          rw [this]
          omega
        · rw [join_sg]
          walk_at "ss"
          have q := q _ hI
          show Q (V.bl (decide (V.str z = V.str _))) H1
          rw [show decide (V.str z = V.str ⟨(al.cps.toList.filter fun c => decide (c ∈ z.cps.toList)).toArray⟩) = lettersD al.cps.toList (.str z) from decide_eq_decide.mpr ⟨fun h => by injection h, fun h => by rw [← h]⟩]
          exact q
    | non =>
      walk_at "ssi"
      exact q _ (Same.refl _)
    | bl b =>
      walk_at "ssi"
      exact q _ (Same.refl _)
    | int i =>
      walk_at "ssi"
      exact q _ (Same.refl _)
    | lst h1 h2 =>
      have ty := tyx_list h1
      walk_at "ssi"
      exact q _ (Same.refl _)
    | tup h1 h2 =>
      have ty := tyx_tup h1
      walk_at "ssi"
      exact q _ (Same.refl _)
def spRefsX (K : PySem.W.Frag) : Sp := fun vs H Q _ => ∃ (v : V) (d : PyData) (n : Int), vs = [v, .int n] ∧ Dp K H v d ∧ (∀ ds, d = .tuple ds → ds.length ≤ 1000) ∧ ∀ H', Same H H' → Q (.bl (refsD n d)) H'
theorem below_int {n : Int} {d : PyData} (h : belowD n d = true) : d = .int (intD d) := by
  cases d <;> first | rfl | cases h
theorem ok_are_refs (T : Env K mg) : FnOk P w K mg base CX0 3 T.f_are_refs T.fd_are_refs ["value", "place"] (spRefsX K) := by
  refine T.F_are_refs.ok sc_are_refs (fun vs H Q E h => ?_) (fun cdv A outer s H vs Q E hr h => ⟨_, ((pss_cons (ps_if (PW.pt (pw_or (pt_not (pt_val (pe_callB call_isi (by rfl) T.z_isinstance (by decide +kernel) (pa_cons (pv 0) (pa_cons (pe_bltn (v := .ty "tuple") (by rfl) T.z_tuple (by decide +kernel) rfl) pa_nil))))) (pw_or1 (pt_not (pt_val (pe_callB (cr_all rfl) (by rfl) T.z_all (by decide +kernel) (pa_cons (pe_lc (own := [("ref", 3)]) (g := (gName 3)) (tt := tYes) rfl sc_are_refs.nd (pi_tup (pv 0)) (blkOk_by (own := [("ref", 3)]) (N := N_are_refs) (sc := defScope s_are_refs) (by decide +kernel)) (fun _ _ _ _ _ => (pg_name (i := 3) sc_are_refs.nd rfl (.inl rfl))) (fun _ _ _ _ _ => pts_nil) (fun _ _ _ _ _ => (pe_call (ok_is_below T) (hr.mono (by decide)) (by rfl) T.g_is_below T.F_is_below.kp T.b_is_below .nil pass0 (pa_cons (pv 3) (pa_cons (pv 1) pa_nil))))) pa_nil)))))))
      (pss_one (ps_ret pe_bl))
      pss_nil)
      (pss_one (ps_ret (pe_callB (cr_all rfl) (by rfl) T.z_all (by decide +kernel) (pa_cons (pe_lc (own := [("at", 2)]) (g := (gName 2)) (tt := tYes) (te := (tOp _ (tOp (rIxT K) _ _) (tOp (rIxT K) _ _))) rfl sc_are_refs.nd (pi_range2 (by rfl) T.z_range (pa_cons pe_int (pa_cons (pe_callB call_len_seq (by rfl) T.z_len (by decide +kernel) (pa_cons (pv 0) pa_nil)) pa_nil))) (blkOk_by (own := [("at", 2)]) (N := N_are_refs) (sc := defScope s_are_refs) (by decide +kernel)) (fun _ _ _ _ _ => (pg_name (i := 2) sc_are_refs.nd rfl (.inl rfl))) (fun _ _ _ _ _ => pts_nil) (fun _ _ _ _ _ => (pe_cmpR op_lt (pe_ix ix_tup (pv 0) (pe_op op_sub (pv 2) pe_int) (fun _ _ => rfl)) (pe_ix ix_tup (pv 0) (pv 2) (fun _ _ => rfl)) (nomark _)))) pa_nil)))))), ?_⟩)
  · obtain ⟨v, d, n, rfl, _⟩ := h
    rfl
  · obtain ⟨v, d, n, rfl, hd, hds, q⟩ := h
    cases hd with
    | tup h1 h2 =>
      have ty := tyx_tup h1
      rename_i a xs ds
      have hn := hds ds rfl
      have hl := dpa_len h2
      walk_at "ssi"
      refine ⟨⟨_, h1⟩, ?_⟩
      intro D hD
      refine lc_gen walk_tup (fun H' => Same H H') (fun i y => ∃ d, ds[i]? = some d ∧ y = V.bl (belowD n d)) (by omega) (same_upd hD) (fun _ h => same_tup h h1) (fun _ _ h => same_mut h hD) ?_ ?_
      · rintro i x H1 H2 Q1 hlt2 hI ⟨rfl, hx⟩ - hQ
        obtain ⟨d, hd1, hd2⟩ := dpa_at h2 hx
        walk_at "ss"
        refine ⟨x, n, rfl, below_use (dp_same hd2 hI) ?_⟩
        exact hQ _ _ ⟨d, hd1, rfl⟩ hI fun _ h => h
      · intro H1 ys hI hy hl1 hr1
        have e : ys = (ds.map (belowD n)).map V.bl := by
          rw [List.map_map]
          exact ys_map (by omega) hr1
        subst e
        walk_at "ss"
        refine ⟨D, _, rfl, SqL.of hy, ?_⟩
        have ea : (ds.map (belowD n)).all id = ds.all (belowD n) := by rw [List.all_map]; rfl
        rw [ea]
        cases hall : ds.all (belowD n) with
        | false =>
          walk_at "ss"
          have q := q H1 hI
          rw [show refsD n (.tuple ds) = false by show (ds.all (belowD n) && _) = false; rw [hall]; rfl] at q
          exact q
        | true =>
          have items : ∀ {i : Nat}, i < xs.length → xs[i]? = some (.int (intD (ds.getD i .none))) := fun {i} hi => by
            obtain ⟨x, hx⟩ : ∃ x, xs[i]? = some x := ⟨_, List.getElem?_eq_getElem hi⟩
            obtain ⟨d, hd1, hd2⟩ := dpa_at h2 hx
            have b := below_int (List.all_eq_true.mp hall d (List.mem_of_getElem? hd1))
            rw [b] at hd2
            cases hd2
            rw [hx, List.getD_eq_getElem?_getD, hd1]
            rfl
          walk_at "ss"
          refine ⟨a, xs, rfl, .inr (same_tup hI h1), ?_⟩
          obtain ⟨nz, hnz⟩ : ∃ nz : Int, nz = ((xs.length : Nat) : Int) := ⟨_, rfl⟩
          rw [← hnz]
          walk_at "ss"
          refine ⟨_, _, rfl, ⟨by decide, by decide, by omega, by omega⟩, ?_⟩
          intro D2 hD2
          refine lc_gen walk_range (fun H' => Same H1 H') (fun i y => y = V.bl (decide (intD (ds.getD i .none) < intD (ds.getD (i + 1) .none)))) (by omega) (same_upd hD2) (fun _ _ => trivial) (fun _ _ h => same_mut h hD2) ?_ ?_
          · rintro i x H2 H3 Q1 hlt2 hI2 ⟨rfl, rfl⟩ - hQ
            have s2 := hI.trans hI2
            walk_at "ss"
            refine ⟨a, _, _, _, rfl, rfl, same_tup s2 h1, (show atI xs (1 + (i : Int) - 1) = _ by rw [show 1 + (i : Int) - 1 = ((i : Nat) : Int) by omega]; exact atI_nat (items (by omega))), ?_⟩
            walk_at "ss"
            refine ⟨a, _, _, _, rfl, rfl, same_tup s2 h1, (show atI xs (1 + (i : Int)) = _ by rw [show 1 + (i : Int) = ((i + 1 : Nat) : Int) by omega]; exact atI_nat (items (by omega))), ?_⟩
            walk_at "ss"
            exact hQ _ _ rfl hI2 fun _ h => h
          · intro H2 ys2 hI2 hy2 hl2 hr2
            have e : ys2 = ((List.range (ds.length - 1)).map fun i => decide (intD (ds.getD i .none) < intD (ds.getD (i + 1) .none))).map V.bl := by
              refine List.ext_getElem (by rw [hl2, List.length_map, List.length_map, List.length_range]; omega) fun i a1 a2 => ?_
              rw [hr2 i _ (List.getElem?_eq_getElem a1)]
              simp
            subst e
            walk_at "ss"
            refine ⟨D2, _, rfl, SqL.of hy2, ?_⟩
            have q := q H2 (hI.trans hI2)
            rw [show refsD n (.tuple ds) = ascD ds by show (ds.all (belowD n) && _) = _; rw [hall]; rfl] at q
            rw [List.all_map]
            exact q
    | non =>
      walk_at "ssi"
      exact q _ (Same.refl _)
    | bl b =>
      walk_at "ssi"
      exact q _ (Same.refl _)
    | int i =>
      walk_at "ssi"
      exact q _ (Same.refl _)
    | str x =>
      walk_at "ssi"
      exact q _ (Same.refl _)
    | lst h1 h2 =>
      have ty := tyx_list h1
      walk_at "ssi"
      exact q _ (Same.refl _)
end

theorem below_ways {K : PySem.W.Frag} {H : Hp} {v : V} {d : PyData} {n : Int} (h : Dp K H v d) : (∃ i, v = .int i ∧ belowD n d = decide (0 ≤ i ∧ i < n)) ∨ (∃ b, v = .bl b ∧ belowD n d = false) ∨ (NoInt K H v ∧ belowD n d = false) := by
  cases h with
  | non => exact .inr (.inr ⟨⟨"NoneType", .base .non, by decide +kernel⟩, rfl⟩)
  | bl b => exact .inr (.inl ⟨b, rfl, rfl⟩)
  | int i => exact .inl ⟨i, rfl, rfl⟩
  | str x => exact .inr (.inr ⟨⟨"str", .base (.str x), by decide +kernel⟩, rfl⟩)
  | lst h1 h2 => exact .inr (.inr ⟨⟨"list", tyx_list h1, by decide +kernel⟩, rfl⟩)
  | tup h1 h2 => exact .inr (.inr ⟨⟨"tuple", tyx_tup h1, by decide +kernel⟩, rfl⟩)
theorem standD1 (al : List Nat) (n : Int) (k : Str) (a : PyData) : standD al n (.tuple [.str k, a]) = if k = "is" then lettersD al a else if k = "not" ∨ k = "before" then belowD n a else if k = "and" ∨ k = "or" then refsD n a else false := rfl
theorem standD2 (al : List Nat) (n : Int) (k : Str) (a b : PyData) : standD al n (.tuple [.str k, a, b]) = if k = "since" then belowD n a && belowD n b else false := rfl
theorem standD3 (al : List Nat) (n : Int) (k : Str) (a b c : PyData) : standD al n (.tuple [.str k, a, b, c]) = if k = "count" then belowD n a && (primeD b && belowD (intD b) c) else false := rfl
def spStandX (K : PySem.W.Frag) : Sp := fun vs H Q _ => ∃ (al : Str) (v : V) (d : PyData) (n : Nat), vs = [.str al, v, .int (n : Nat)] ∧ al.length ≤ 4 ∧ Dp K H v d ∧ OkD d ∧ ∀ H', Same H H' → Q (.bl (standD al.cps.toList n d)) H'
section
variable {P : Program} {w : World} {K : PySem.W.Frag} {mg : Str → Option Value} {base : Heap}
theorem ok_can_stand (T : Env K mg) : FnOk P w K mg base CX0 4 T.f_can_stand T.fd_can_stand ["alphabet", "value", "place"] (spStandX K) := by
  refine T.F_can_stand.ok sc_can_stand (fun vs H Q E h => ?_) (fun cdv A outer s H vs Q E hr h => ⟨_, ((pss_cons (ps_if (PW.pt (pw_or (pt_not (pt_val (pe_callB call_isi (by rfl) T.z_isinstance (by decide +kernel) (pa_cons (pv 1) (pa_cons (pe_bltn (v := .ty "tuple") (by rfl) T.z_tuple (by decide +kernel) rfl) pa_nil))))) (pw_or1 (pt_not (pt_truth (pv 1) (by intro _; rfl))))))
      (pss_one (ps_ret pe_bl))
      pss_nil)
      (pss_cons (ps_set (i := 3) sc_can_stand.nd rfl (.inl rfl) (pe_ix ix_tup (pv 1) pe_int (fun _ _ => rfl)))
      (pss_cons (ps_set (i := 4) sc_can_stand.nd rfl (.inl rfl) (pe_slice sl_tup (pv 1) (po_some pe_int) po_none))
      (pss_cons (ps_if (PW.pt (pw_and (pt_cmpR op_eq (pv 3) pe_str (nomark _)) (pw_and1 (pt_cmpR op_eq (pe_callB call_len_seq (by rfl) T.z_len (by decide +kernel) (pa_cons (pv 4) pa_nil)) pe_int (nomark _)))))
      (pss_one (ps_ret (StX.pe_callS2 ((ok_are_letters T).raw T.b_are_letters .nil) (hr.mono (by decide)) T.F_are_letters.kp (by rfl) T.g_are_letters pass0 (pa_cons (pv 0) (StX.pa_star (pv 4) pa_nil)))))
      pss_nil)
      (pss_cons (ps_if (PW.pt (pw_and (PW.pt (pw_or (pt_cmpR op_eq (pv 3) pe_str (nomark _)) (pw_or1 (pt_cmpR op_eq (pv 3) pe_str (nomark _))))) (pw_and1 (pt_cmpR op_eq (pe_callB call_len_seq (by rfl) T.z_len (by decide +kernel) (pa_cons (pv 4) pa_nil)) pe_int (nomark _)))))
      (pss_one (ps_ret (pe_call (ok_is_below T) (hr.mono (by decide)) (by rfl) T.g_is_below T.F_is_below.kp T.b_is_below .nil pass0 (pa_cons (pe_ix ix_tup (pv 4) pe_int (fun _ _ => rfl)) (pa_cons (pv 2) pa_nil)))))
      pss_nil)
      (pss_cons (ps_if (PW.pt (pw_and (PW.pt (pw_or (pt_cmpR op_eq (pv 3) pe_str (nomark _)) (pw_or1 (pt_cmpR op_eq (pv 3) pe_str (nomark _))))) (pw_and1 (pt_cmpR op_eq (pe_callB call_len_seq (by rfl) T.z_len (by decide +kernel) (pa_cons (pv 4) pa_nil)) pe_int (nomark _)))))
      (pss_one (ps_ret (pe_call (ok_are_refs T) (hr.mono (by decide)) (by rfl) T.g_are_refs T.F_are_refs.kp T.b_are_refs .nil pass0 (pa_cons (pe_ix ix_tup (pv 4) pe_int (fun _ _ => rfl)) (pa_cons (pv 2) pa_nil)))))
      pss_nil)
      (pss_cons (ps_if (PW.pt (pw_and (pt_cmpR op_eq (pv 3) pe_str (nomark _)) (pw_and1 (pt_cmpR op_eq (pe_callB call_len_seq (by rfl) T.z_len (by decide +kernel) (pa_cons (pv 4) pa_nil)) pe_int (nomark _)))))
      (pss_one (ps_ret (pe_and (pe_call (ok_is_below T) (hr.mono (by decide)) (by rfl) T.g_is_below T.F_is_below.kp T.b_is_below .nil pass0 (pa_cons (pe_ix ix_tup (pv 4) pe_int (fun _ _ => rfl)) (pa_cons (pv 2) pa_nil))) (pe_one (pe_call (ok_is_below T) (hr.mono (by decide)) (by rfl) T.g_is_below T.F_is_below.kp T.b_is_below .nil pass0 (pa_cons (pe_ix ix_tup (pv 4) pe_int (fun _ _ => rfl)) (pa_cons (pv 2) pa_nil)))))))
      pss_nil)
      (pss_cons (ps_if (PW.pt (pw_and (pt_cmpR op_eq (pv 3) pe_str (nomark _)) (pw_and1 (pt_cmpR op_eq (pe_callB call_len_seq (by rfl) T.z_len (by decide +kernel) (pa_cons (pv 4) pa_nil)) pe_int (nomark _)))))
      (pss_one (ps_ret (pe_and (pe_call (ok_is_below T) (hr.mono (by decide)) (by rfl) T.g_is_below T.F_is_below.kp T.b_is_below .nil pass0 (pa_cons (pe_ix ix_tup (pv 4) pe_int (fun _ _ => rfl)) (pa_cons (pv 2) pa_nil))) (pe_and (pe_call (ok_is_prime T) (hr.mono (by decide)) (by rfl) T.g_is_prime T.F_is_prime.kp T.b_is_prime .nil pass0 (pa_cons (pe_ix ix_tup (pv 4) pe_int (fun _ _ => rfl)) pa_nil)) (pe_one (pe_call (ok_is_below T) (hr.mono (by decide)) (by rfl) T.g_is_below T.F_is_below.kp T.b_is_below .nil pass0 (pa_cons (pe_ix ix_tup (pv 4) pe_int (fun _ _ => rfl)) (pa_cons (pe_ix ix_tup (pv 4) pe_int (fun _ _ => rfl)) pa_nil))))))))
      pss_nil)
      (pss_one (ps_ret pe_bl))))))))))), ?_⟩)
  · obtain ⟨al, v, d, n, rfl, _⟩ := h
    rfl
  · obtain ⟨al, v, d, n, rfl, hal, hd, ok, q⟩ := h
    obtain ⟨nz, hnz⟩ : ∃ nz : Int, nz = ((n : Nat) : Int) := ⟨_, rfl⟩
    rw [← hnz] at q ⊢
    cases hd with
    | non =>
      walk_at "ssi"
      exact q _ (Same.refl _)
    | bl b =>
      walk_at "ssi"
      exact q _ (Same.refl _)
    | int i =>
      walk_at "ssi"
      exact q _ (Same.refl _)
    | str x =>
      walk_at "ssi"
      exact q _ (Same.refl _)
    | lst h1 h2 =>
      have ty := tyx_list h1
      walk_at "ssi"
      exact q _ (Same.refl _)
    | tup h1 h2 =>
      rename_i p xs ds
      have ty := tyx_tup h1
      cases h2 with
      | nil =>
        walk_at "ssi"
        refine ⟨false, .inr (.inl ⟨_, h1, rfl⟩), ?_⟩
        walk_at "ss"
        exact q _ (Same.refl _)
      | cons hx hr2 =>
        rename_i x xr d0 dr
        walk_at "ssi"
        refine ⟨true, .inr (.inl ⟨_, h1, rfl⟩), ?_⟩
        walk_at "ss"
        refine ⟨p, _, 0, x, rfl, rfl, h1, atI_nat (j := 0) rfl, ?_⟩
        walk_at "ss"
        have len3 : dr.length ≤ 3 := by
          cases d0 with
          | none => exact ok
          | str k => exact ok.2.1
          | bool b => exact ok.elim
          | int i => exact ok.elim
          | list ds => exact ok.elim
          | tuple ds => exact ok.elim
          | dict ds => exact ok.elim
        have many : ∀ {m : Nat}, m = xr.length + 1 → m ≤ 4 → ¬ (HT.sIx m 0 (some 1) = 0 ∧ HT.sIx m m none = m) := fun {m} e h => by
          have : m = 1 ∨ m = 2 ∨ m = 3 ∨ m = 4 := by omega
          rcases this with rfl | rfl | rfl | rfl <;> decide
        have xl := dpa_len hr2
        have cutE : cutV (x :: xr) (some 1) none = xr := by
          show cutV (x :: xr) (some ((1 : Nat) : Int)) none = _
          rw [cut_drop]
          rfl
        refine ⟨many rfl (by rw [List.length_cons]; omega), fun t ht => ?_⟩
        rw [cutE]
        have s1 := same_upd (o := .tup xr) ht
        have ht1 : upd H t (.tup xr) t = some (.tup xr) := upd_same
        have hr3 := dpa_same hr2 s1
        generalize upd H t (.tup xr) = G at *
        have done : standD al.cps.toList nz (.tuple (d0 :: dr)) = false → Q (.bl false) G := fun e => by
          have q := q G s1
          rw [e] at q
          exact q
        cases hx with
        | bl b => exact ok.elim
        | int i => exact ok.elim
        | lst _ _ => exact ok.elim
        | tup _ _ => exact ok.elim
        | non =>
          walk_at "ss"
          exact done rfl
        | str k =>
          obtain ⟨kk, _, okd⟩ := ok
          clear hr2 xl many cutE ty h1
          unfold kinds9 at kk
          simp only [List.mem_cons, List.not_mem_nil, or_false] at kk
          rcases kk with rfl | rfl | rfl | rfl | rfl | rfl | rfl | rfl | rfl
          · cases hr3 with
            | nil =>
              walk_at "ss"
              refine ⟨t, _, rfl, .inr (SqT.of ht1), ?_⟩
              walk_at "ss"
              exact done rfl
            | @cons x1 _ d1 _ a1 hr3 =>
              cases hr3 with
              | nil =>
                walk_at "ss"
                refine ⟨t, _, rfl, .inr (SqT.of ht1), ?_⟩
                walk_at "ss"
                refine ⟨t, _, rfl, .inl (SqT.of ht1), ?_⟩
                refine ⟨al, x1, d1, rfl, hal, a1, (okd d1 (by simp)).1, fun H' s' => ?_⟩
                have q := q H' (s1.trans s')
                rw [show standD al.cps.toList nz (.tuple [.str "is", d1]) = lettersD al.cps.toList d1 from by first | rw [standD1, if_pos rfl] | rw [standD2, if_pos rfl] | rw [standD3, if_pos rfl]] at q
                exact q
              | @cons x2 _ d2 _ a2 hr3 =>
                cases hr3 with
                | nil =>
                  walk_at "ss"
                  refine ⟨t, _, rfl, .inr (SqT.of ht1), ?_⟩
                  walk_at "ss"
                  exact done (by first | rw [standD2, if_neg (by decide +kernel)] | rw [standD3, if_neg (by decide +kernel)])
                | @cons x3 _ d3 _ a3 hr3 =>
                  cases hr3 with
                  | nil =>
                    walk_at "ss"
                    refine ⟨t, _, rfl, .inr (SqT.of ht1), ?_⟩
                    walk_at "ss"
                    exact done (by first | rw [standD2, if_neg (by decide +kernel)] | rw [standD3, if_neg (by decide +kernel)])
                  | cons a4 hr3 => simp at len3; try omega
          · cases hr3 with
            | nil =>
              walk_at "ss"
              refine ⟨t, _, rfl, .inr (SqT.of ht1), ?_⟩
              walk_at "ss"
              exact done rfl
            | @cons x1 _ d1 _ a1 hr3 =>
              cases hr3 with
              | nil =>
                walk_at "ss"
                refine ⟨t, _, rfl, .inr (SqT.of ht1), ?_⟩
                walk_at "ss"
                refine ⟨t, _, 0, x1, rfl, rfl, SqT.of ht1, atI_nat (j := 0) rfl, ?_⟩
                walk_at "ss"
                refine ⟨x1, nz, rfl, below_use a1 ?_⟩
                have q := q G s1
                rw [show standD al.cps.toList nz (.tuple [.str "not", d1]) = belowD nz d1 from by rw [standD1, if_neg (by decide +kernel), if_pos (by decide +kernel)]] at q
                exact q
              | @cons x2 _ d2 _ a2 hr3 =>
                cases hr3 with
                | nil =>
                  walk_at "ss"
                  refine ⟨t, _, rfl, .inr (SqT.of ht1), ?_⟩
                  walk_at "ss"
                  exact done (by first | rw [standD2, if_neg (by decide +kernel)] | rw [standD3, if_neg (by decide +kernel)])
                | @cons x3 _ d3 _ a3 hr3 =>
                  cases hr3 with
                  | nil =>
                    walk_at "ss"
                    refine ⟨t, _, rfl, .inr (SqT.of ht1), ?_⟩
                    walk_at "ss"
                    exact done (by first | rw [standD2, if_neg (by decide +kernel)] | rw [standD3, if_neg (by decide +kernel)])
                  | cons a4 hr3 => simp at len3; try omega
          · cases hr3 with
            | nil =>
              walk_at "ss"
              refine ⟨t, _, rfl, .inr (SqT.of ht1), ?_⟩
              walk_at "ss"
              exact done rfl
            | @cons x1 _ d1 _ a1 hr3 =>
              cases hr3 with
              | nil =>
                walk_at "ss"
                refine ⟨t, _, rfl, .inr (SqT.of ht1), ?_⟩
                walk_at "ss"
                refine ⟨t, _, 0, x1, rfl, rfl, SqT.of ht1, atI_nat (j := 0) rfl, ?_⟩
                walk_at "ss"
                refine ⟨x1, nz, rfl, below_use a1 ?_⟩
                have q := q G s1
                rw [show standD al.cps.toList nz (.tuple [.str "before", d1]) = belowD nz d1 from by rw [standD1, if_neg (by decide +kernel), if_pos (by decide +kernel)]] at q
                exact q
              | @cons x2 _ d2 _ a2 hr3 =>
                cases hr3 with
                | nil =>
                  walk_at "ss"
                  refine ⟨t, _, rfl, .inr (SqT.of ht1), ?_⟩
                  walk_at "ss"
                  exact done (by first | rw [standD2, if_neg (by decide +kernel)] | rw [standD3, if_neg (by decide +kernel)])
                | @cons x3 _ d3 _ a3 hr3 =>
                  cases hr3 with
                  | nil =>
                    walk_at "ss"
                    refine ⟨t, _, rfl, .inr (SqT.of ht1), ?_⟩
                    walk_at "ss"
                    exact done (by first | rw [standD2, if_neg (by decide +kernel)] | rw [standD3, if_neg (by decide +kernel)])
                  | cons a4 hr3 => simp at len3; try omega
          · cases hr3 with
            | nil =>
              walk_at "ss"
              refine ⟨t, _, rfl, .inr (SqT.of ht1), ?_⟩
              walk_at "ss"
              exact done rfl
            | @cons x1 _ d1 _ a1 hr3 =>
              cases hr3 with
              | nil =>
                walk_at "ss"
                refine ⟨t, _, rfl, .inr (SqT.of ht1), ?_⟩
                walk_at "ss"
                refine ⟨t, _, 0, x1, rfl, rfl, SqT.of ht1, atI_nat (j := 0) rfl, ?_⟩
                walk_at "ss"
                refine ⟨x1, d1, nz, rfl, a1, (okd d1 (by simp)).2, fun H' s' => ?_⟩
                have q := q H' (s1.trans s')
                rw [show standD al.cps.toList nz (.tuple [.str "and", d1]) = refsD nz d1 from by rw [standD1, if_neg (by decide +kernel), if_neg (by decide +kernel), if_pos (by decide +kernel)]] at q
                exact q
              | @cons x2 _ d2 _ a2 hr3 =>
                cases hr3 with
                | nil =>
                  walk_at "ss"
                  refine ⟨t, _, rfl, .inr (SqT.of ht1), ?_⟩
                  walk_at "ss"
                  exact done (by first | rw [standD2, if_neg (by decide +kernel)] | rw [standD3, if_neg (by decide +kernel)])
                | @cons x3 _ d3 _ a3 hr3 =>
                  cases hr3 with
                  | nil =>
                    walk_at "ss"
                    refine ⟨t, _, rfl, .inr (SqT.of ht1), ?_⟩
                    walk_at "ss"
                    exact done (by first | rw [standD2, if_neg (by decide +kernel)] | rw [standD3, if_neg (by decide +kernel)])
                  | cons a4 hr3 => simp at len3; try omega
          · cases hr3 with
            | nil =>
              walk_at "ss"
              refine ⟨t, _, rfl, .inr (SqT.of ht1), ?_⟩
              walk_at "ss"
              exact done rfl
            | @cons x1 _ d1 _ a1 hr3 =>
              cases hr3 with
              | nil =>
                walk_at "ss"
                refine ⟨t, _, rfl, .inr (SqT.of ht1), ?_⟩
                walk_at "ss"
                refine ⟨t, _, 0, x1, rfl, rfl, SqT.of ht1, atI_nat (j := 0) rfl, ?_⟩
                walk_at "ss"
                refine ⟨x1, d1, nz, rfl, a1, (okd d1 (by simp)).2, fun H' s' => ?_⟩
                have q := q H' (s1.trans s')
                rw [show standD al.cps.toList nz (.tuple [.str "or", d1]) = refsD nz d1 from by rw [standD1, if_neg (by decide +kernel), if_neg (by decide +kernel), if_pos (by decide +kernel)]] at q
                exact q
              | @cons x2 _ d2 _ a2 hr3 =>
                cases hr3 with
                | nil =>
                  walk_at "ss"
                  refine ⟨t, _, rfl, .inr (SqT.of ht1), ?_⟩
                  walk_at "ss"
                  exact done (by first | rw [standD2, if_neg (by decide +kernel)] | rw [standD3, if_neg (by decide +kernel)])
                | @cons x3 _ d3 _ a3 hr3 =>
                  cases hr3 with
                  | nil =>
                    walk_at "ss"
                    refine ⟨t, _, rfl, .inr (SqT.of ht1), ?_⟩
                    walk_at "ss"
                    exact done (by first | rw [standD2, if_neg (by decide +kernel)] | rw [standD3, if_neg (by decide +kernel)])
                  | cons a4 hr3 => simp at len3; try omega
          · cases hr3 with
            | nil =>
              walk_at "ss"
              refine ⟨t, _, rfl, .inr (SqT.of ht1), ?_⟩
              walk_at "ss"
              exact done rfl
            | @cons x1 _ d1 _ a1 hr3 =>
              cases hr3 with
              | nil =>
                walk_at "ss"
                refine ⟨t, _, rfl, .inr (SqT.of ht1), ?_⟩
                walk_at "ss"
                exact done (by rw [standD1, if_neg (by decide +kernel), if_neg (by decide +kernel), if_neg (by decide +kernel)])
              | @cons x2 _ d2 _ a2 hr3 =>
                cases hr3 with
                | nil =>
                  walk_at "ss"
                  refine ⟨t, _, rfl, .inr (SqT.of ht1), ?_⟩
                  walk_at "ss"
                  refine ⟨t, _, 0, x1, rfl, rfl, SqT.of ht1, atI_nat (j := 0) rfl, ?_⟩
                  walk_at "ss"
                  have q := q G s1
                  rw [show standD al.cps.toList nz (.tuple [.str "since", d1, d2]) = (belowD nz d1 && belowD nz d2) from by first | rw [standD1, if_pos rfl] | rw [standD2, if_pos rfl] | rw [standD3, if_pos rfl]] at q
                  rcases below_ways (n := nz) a1 with ⟨i1, e1, e2⟩ | ⟨b1, e1, e2⟩ | ⟨hn1, e2⟩
                  rotate_left
                  · refine ⟨x1, nz, rfl, .inr (.inl ⟨b1, e1, ?_⟩)⟩
                    rw [e2] at q
                    walk_at "ss"
                    exact q
                  · refine ⟨x1, nz, rfl, .inr (.inr ⟨hn1, ?_⟩)⟩
                    rw [e2] at q
                    walk_at "ss"
                    exact q
                  refine ⟨x1, nz, rfl, .inl ⟨i1, e1, ?_⟩⟩
                  rw [← e2]
                  walk_at "ss"
                  cases hb : belowD nz d1 with
                  | false =>
                    rw [hb] at q
                    walk_at "ss"
                    exact q
                  | true =>
                    rw [hb] at q
                    walk_at "ss"
                    refine ⟨t, _, 1, x2, rfl, rfl, SqT.of ht1, atI_nat (j := 1) rfl, ?_⟩
                    walk_at "ss"
                    refine ⟨x2, nz, rfl, below_use a2 ?_⟩
                    exact q
                | @cons x3 _ d3 _ a3 hr3 =>
                  cases hr3 with
                  | nil =>
                    walk_at "ss"
                    refine ⟨t, _, rfl, .inr (SqT.of ht1), ?_⟩
                    walk_at "ss"
                    exact done (by first | rw [standD2, if_neg (by decide +kernel)] | rw [standD3, if_neg (by decide +kernel)])
                  | cons a4 hr3 => simp at len3; try omega
          · cases hr3 with
            | nil =>
              walk_at "ss"
              refine ⟨t, _, rfl, .inr (SqT.of ht1), ?_⟩
              walk_at "ss"
              exact done rfl
            | @cons x1 _ d1 _ a1 hr3 =>
              cases hr3 with
              | nil =>
                walk_at "ss"
                refine ⟨t, _, rfl, .inr (SqT.of ht1), ?_⟩
                walk_at "ss"
                exact done (by rw [standD1, if_neg (by decide +kernel), if_neg (by decide +kernel), if_neg (by decide +kernel)])
              | @cons x2 _ d2 _ a2 hr3 =>
                cases hr3 with
                | nil =>
                  walk_at "ss"
                  refine ⟨t, _, rfl, .inr (SqT.of ht1), ?_⟩
                  walk_at "ss"
                  exact done (by first | rw [standD2, if_neg (by decide +kernel)] | rw [standD3, if_neg (by decide +kernel)])
                | @cons x3 _ d3 _ a3 hr3 =>
                  cases hr3 with
                  | nil =>
                    walk_at "ss"
                    refine ⟨t, _, rfl, .inr (SqT.of ht1), ?_⟩
                    walk_at "ss"
                    refine ⟨t, _, 0, x1, rfl, rfl, SqT.of ht1, atI_nat (j := 0) rfl, ?_⟩
                    walk_at "ss"
                    have q := q G s1
                    rw [show standD al.cps.toList nz (.tuple [.str "count", d1, d2, d3]) = (belowD nz d1 && (primeD d2 && belowD (intD d2) d3)) from by first | rw [standD1, if_pos rfl] | rw [standD2, if_pos rfl] | rw [standD3, if_pos rfl]] at q
                    rcases below_ways (n := nz) a1 with ⟨i1, e1, e2⟩ | ⟨b1, e1, e2⟩ | ⟨hn1, e2⟩
                    rotate_left
                    · refine ⟨x1, nz, rfl, .inr (.inl ⟨b1, e1, ?_⟩)⟩
                      rw [e2] at q
                      walk_at "ss"
                      exact q
                    · refine ⟨x1, nz, rfl, .inr (.inr ⟨hn1, ?_⟩)⟩
                      rw [e2] at q
                      walk_at "ss"
                      exact q
                    refine ⟨x1, nz, rfl, .inl ⟨i1, e1, ?_⟩⟩
                    rw [← e2]
                    walk_at "ss"
                    cases hb : belowD nz d1 with
                    | false =>
                      rw [hb] at q
                      walk_at "ss"
                      exact q
                    | true =>
                      rw [hb] at q
                      walk_at "ss"
                      refine ⟨t, _, 1, x2, rfl, rfl, SqT.of ht1, atI_nat (j := 1) rfl, ?_⟩
                      walk_at "ss"
                      cases hb2 : primeD d2 with
                      | false =>
                        rw [hb2] at q
                        walk_at "ss"
                        exact q
                      | true =>
                        rw [hb2] at q
                        have e2 : d2 = .int (intD d2) := by cases d2 <;> first | rfl | cases hb2
                        rw [e2] at a2
                        cases a2
                        walk_at "ss"
                        refine ⟨t, _, 2, x3, rfl, rfl, SqT.of ht1, atI_nat (j := 2) rfl, ?_⟩
                        walk_at "ss"
                        refine ⟨t, _, 1, _, rfl, rfl, SqT.of ht1, atI_nat (j := 1) rfl, ?_⟩
                        walk_at "ss"
                        refine ⟨x3, intD d2, rfl, below_use a3 ?_⟩
                        exact q
                  | cons a4 hr3 => simp at len3; try omega
          · cases hr3 with
            | nil =>
              walk_at "ss"
              exact done rfl
            | @cons x1 _ d1 _ a1 hr3 =>
              cases hr3 with
              | nil =>
                walk_at "ss"
                exact done (by rw [standD1, if_neg (by decide +kernel), if_neg (by decide +kernel), if_neg (by decide +kernel)])
              | @cons x2 _ d2 _ a2 hr3 =>
                cases hr3 with
                | nil =>
                  walk_at "ss"
                  exact done (by first | rw [standD2, if_neg (by decide +kernel)] | rw [standD3, if_neg (by decide +kernel)])
                | @cons x3 _ d3 _ a3 hr3 =>
                  cases hr3 with
                  | nil =>
                    walk_at "ss"
                    exact done (by first | rw [standD2, if_neg (by decide +kernel)] | rw [standD3, if_neg (by decide +kernel)])
                  | cons a4 hr3 => simp at len3; try omega
          · cases hr3 with
            | nil =>
              walk_at "ss"
              exact done rfl
            | @cons x1 _ d1 _ a1 hr3 =>
              cases hr3 with
              | nil =>
                walk_at "ss"
                exact done (by rw [standD1, if_neg (by decide +kernel), if_neg (by decide +kernel), if_neg (by decide +kernel)])
              | @cons x2 _ d2 _ a2 hr3 =>
                cases hr3 with
                | nil =>
                  walk_at "ss"
                  exact done (by first | rw [standD2, if_neg (by decide +kernel)] | rw [standD3, if_neg (by decide +kernel)])
                | @cons x3 _ d3 _ a3 hr3 =>
                  cases hr3 with
                  | nil =>
                    walk_at "ss"
                    exact done (by first | rw [standD2, if_neg (by decide +kernel)] | rw [standD3, if_neg (by decide +kernel)])
                  | cons a4 hr3 => simp at len3; try omega
end

variable {K : PySem.W.Frag} {mg : Str → Option Value}
/-! ### what is got -/
open L2H (RoomH)
/-- an error's code and the name of its field -/
def CodeF (code f : Str) : Prop := (code ∈ ([Str.ofString "InvalidAlphabet", "InvalidWord", "InvalidLetter", "InvalidState", "InvalidPrime", "InvalidSet"] : List Str) ∧ f = "given") ∨ (code ∈ ([Str.ofString "InvalidRows", "InvalidLine"] : List Str) ∧ f = "at") ∨ (code ∈ ([Str.ofString "InvalidText", "InvalidPage"] : List Str) ∧ f = "row")
/-- what the caught error is: its class, its fields -/
def ErrIs (K : PySem.W.Frag) (cls : Value) (d : Option Addr) (H : Hp) (code f : Str) (v : V) : Prop := CodeF code f ∧ ∃ C dd, cls = .ref C ∧ XfC K C ∧ PySem.W.findIn K (.ref C) "code" = some none ∧ PySem.W.findIn K (.ref C) f = some none ∧ d = some dd ∧ H dd = some (.xd [("code", .str code), (f, v)])
/-- what the caught error is: its code, the values of its fields -/
def ErrL (K : PySem.W.Frag) (cls : Value) (d : Option Addr) (H : Hp) (code : Str) (us : List V) : Prop := (∃ f v, us = [v] ∧ ErrIs K cls d H code f v) ∨
  (∃ s m, us = [s, m] ∧ code = "TooMany" ∧ ∃ C dd, cls = .ref C ∧ XfC K C ∧ PySem.W.findIn K (.ref C) "code" = some none ∧ PySem.W.findIn K (.ref C) "subject" = some none ∧ PySem.W.findIn K (.ref C) "most" = some none ∧ d = some dd ∧ H dd = some (.xd [("code", .str "TooMany"), ("most", m), ("subject", s)])) ∨
  (us = [] ∧ code = "AlphabetsDiffer" ∧ ∃ C dd, cls = .ref C ∧ XfC K C ∧ PySem.W.findIn K (.ref C) "code" = some none ∧ d = some dd ∧ H dd = some (.xd [("code", .str "AlphabetsDiffer")]))
theorem in_tup {K : PySem.W.Frag} {H : Hp} {x : V} {ys : List V} {Q : VK} (hx : flatV x = true) (hab : ys.all flatV = true) (q : ∀ H', Same H H' → Q (.bl (inV x ys)) H') (p : Addr) (hp : H p = none) : rIn K false x (.ref p) (upd H p (.tup ys)) Q :=
  ⟨p, ys, rfl, .inr (SqT.of upd_same), hx, hab, q _ (same_upd hp)⟩
def spFieldL (K : PySem.W.Frag) : Addr → Value → Option Addr → Sp := fun a cls d vs H Q _ => ∃ (code : Str) (us : List V), vs = [.ref a] ∧ ErrL K cls d H code us ∧ ∀ p H', H' p = some (.tup us) → Same H H' → Q (.ref p) H'
section
variable {P : Program} {w : World} {base : Heap}
theorem ok_fieldL (T : Env K mg) : FnP P w K mg base CX0 1 T.f_field T.fd_field ["_law_e"] (spFieldL K) := by
  obtain ⟨oc, od, kV, doc, pm, an, cdv, ct, osl, e, lk, hcd⟩ := T.F_field.ex
  rw [e]
  rw [e] at lk
  refine fnp_of lk hcd sc_field (fun a cls d vs H Q E h => ?_) (fun A outer s H vs Q E p cls d hz hf hr h => ⟨_, ((pss_cons (ps_if (pt_cmpR op_in_seq (pe_xfA ⟨List.mem_cons_self .., hz, hf⟩ (pv 0)) (pe_tup (pa_cons pe_str (pa_cons pe_str (pa_cons pe_str (pa_cons pe_str (pa_cons pe_str (pa_cons pe_str pa_nil))))))) (by rfl))
      (pss_one (ps_ret (pe_tup (pa_cons (pe_xfA ⟨List.mem_cons_self .., hz, hf⟩ (pv 0)) pa_nil))))
      pss_nil)
      (pss_cons (ps_if (pt_cmpR op_in_seq (pe_xfA ⟨List.mem_cons_self .., hz, hf⟩ (pv 0)) (pe_tup (pa_cons pe_str (pa_cons pe_str pa_nil))) (by rfl))
      (pss_one (ps_ret (pe_tup (pa_cons (pe_xfA ⟨List.mem_cons_self .., hz, hf⟩ (pv 0)) pa_nil))))
      pss_nil)
      (pss_cons (ps_if (pt_cmpR op_in_seq (pe_xfA ⟨List.mem_cons_self .., hz, hf⟩ (pv 0)) (pe_tup (pa_cons pe_str (pa_cons pe_str pa_nil))) (by rfl))
      (pss_one (ps_ret (pe_tup (pa_cons (pe_xfA ⟨List.mem_cons_self .., hz, hf⟩ (pv 0)) pa_nil))))
      pss_nil)
      (pss_cons (ps_if (pt_cmpR op_in_seq (pe_xfA ⟨List.mem_cons_self .., hz, hf⟩ (pv 0)) (pe_tup (pa_cons pe_str (pa_cons pe_str pa_nil))) (by rfl))
      (pss_one (ps_ret (pe_tup (pa_cons (pe_xfA ⟨List.mem_cons_self .., hz, hf⟩ (pv 0)) pa_nil))))
      pss_nil)
      (pss_cons (ps_if (pt_cmpR op_in_seq (pe_xfA ⟨List.mem_cons_self .., hz, hf⟩ (pv 0)) (pe_tup (pa_cons pe_str (pa_cons pe_str pa_nil))) (by rfl))
      (pss_one (ps_ret (pe_tup (pa_cons (pe_xfA ⟨List.mem_cons_self .., hz, hf⟩ (pv 0)) pa_nil))))
      pss_nil)
      (pss_one (ps_ret (pe_ifExp (pt_cmpR op_eq (pe_xfA ⟨List.mem_cons_self .., hz, hf⟩ (pv 0)) pe_str (nomark _)) (pe_tup (pa_cons (pe_xfA ⟨List.mem_cons_self .., hz, hf⟩ (pv 0)) (pa_cons (pe_xfA ⟨List.mem_cons_self .., hz, hf⟩ (pv 0)) pa_nil))) (pe_tup pa_nil)))))))))), ?_⟩)
  · obtain ⟨code, us, rfl, _⟩ := h
    rfl
  · obtain ⟨code, us, rfl, er, q⟩ := h
    rcases er with ⟨f, v, rfl, cf, C, dd, rfl, xf, n1, n2, rfl, hd⟩ | ⟨sv, mv, rfl, rfl, C, dd, rfl, xf, n1, n2, n3, rfl, hd⟩ | ⟨rfl, rfl, C, dd, rfl, xf, n1, rfl, hd⟩
    · walk_at "ss"
      refine ⟨C, dd, _, _, rfl, xf, n1, rfl, hd, rfl, ?_⟩
      walk_at "ss"
      intro p1 hp1
      have s1 := same_upd (o := .tup [.str "InvalidAlphabet", .str "InvalidWord", .str "InvalidLetter", .str "InvalidState", .str "InvalidPrime", .str "InvalidSet"]) hp1
      walk_at "ss"
      refine ⟨p1, _, rfl, .inr (.inl (.inl upd_same)), rfl, rfl, ?_⟩
      rcases cf with ⟨cf, rfl⟩ | ⟨cf, rfl⟩ | ⟨cf, rfl⟩
      · rw [show inV (V.str code) [V.str "InvalidAlphabet", .str "InvalidWord", .str "InvalidLetter", .str "InvalidState", .str "InvalidPrime", .str "InvalidSet"] = true by
          simp only [List.mem_cons, List.not_mem_nil, or_false] at cf
          rcases cf with e | e | e | e | e | e <;> rw [e] <;> decide +kernel]
        walk_at "ss"
        refine ⟨C, dd, _, _, rfl, xf, n2, rfl, s1 _ _ hd, rfl, ?_⟩
        walk_at "ss"
        intro p2 hp2
        exact q p2 _ upd_same (s1.trans (same_upd hp2))
      · rw [show inV (V.str code) [V.str "InvalidAlphabet", .str "InvalidWord", .str "InvalidLetter", .str "InvalidState", .str "InvalidPrime", .str "InvalidSet"] = false by
          simp only [List.mem_cons, List.not_mem_nil, or_false] at cf
          rcases cf with e | e <;> rw [e] <;> decide +kernel]
        walk_at "ss"
        refine ⟨C, dd, _, _, rfl, xf, n1, rfl, s1 _ _ hd, rfl, ?_⟩
        walk_at "ss"
        intro p2 hp2
        have s2 := s1.trans (same_upd (o := .tup [.str "InvalidName", .str "InvalidLimit"]) hp2)
        walk_at "ss"
        refine ⟨p2, _, rfl, .inr (.inl (.inl upd_same)), rfl, rfl, ?_⟩
        rw [show inV (V.str code) [V.str "InvalidName", .str "InvalidLimit"] = false by
          simp only [List.mem_cons, List.not_mem_nil, or_false] at cf
          rcases cf with e | e <;> rw [e] <;> decide +kernel]
        walk_at "ss"
        refine ⟨C, dd, _, _, rfl, xf, n1, rfl, s2 _ _ hd, rfl, ?_⟩
        walk_at "ss"
        intro p3 hp3
        have s3 := s2.trans (same_upd (o := .tup [.str "InvalidRows", .str "InvalidLine"]) hp3)
        walk_at "ss"
        refine ⟨p3, _, rfl, .inr (.inl (.inl upd_same)), rfl, rfl, ?_⟩
        rw [show inV (V.str code) [V.str "InvalidRows", .str "InvalidLine"] = true by
          simp only [List.mem_cons, List.not_mem_nil, or_false] at cf
          rcases cf with e | e <;> rw [e] <;> decide +kernel]
        walk_at "ss"
        refine ⟨C, dd, _, _, rfl, xf, n2, rfl, s3 _ _ hd, rfl, ?_⟩
        walk_at "ss"
        intro p4 hp4
        exact q p4 _ upd_same (s3.trans (same_upd hp4))
      · rw [show inV (V.str code) [V.str "InvalidAlphabet", .str "InvalidWord", .str "InvalidLetter", .str "InvalidState", .str "InvalidPrime", .str "InvalidSet"] = false by
          simp only [List.mem_cons, List.not_mem_nil, or_false] at cf
          rcases cf with e | e <;> rw [e] <;> decide +kernel]
        walk_at "ss"
        refine ⟨C, dd, _, _, rfl, xf, n1, rfl, s1 _ _ hd, rfl, ?_⟩
        walk_at "ss"
        intro p2 hp2
        have s2 := s1.trans (same_upd (o := .tup [.str "InvalidName", .str "InvalidLimit"]) hp2)
        walk_at "ss"
        refine ⟨p2, _, rfl, .inr (.inl (.inl upd_same)), rfl, rfl, ?_⟩
        rw [show inV (V.str code) [V.str "InvalidName", .str "InvalidLimit"] = false by
          simp only [List.mem_cons, List.not_mem_nil, or_false] at cf
          rcases cf with e | e <;> rw [e] <;> decide +kernel]
        walk_at "ss"
        refine ⟨C, dd, _, _, rfl, xf, n1, rfl, s2 _ _ hd, rfl, ?_⟩
        walk_at "ss"
        intro p3 hp3
        have s3 := s2.trans (same_upd (o := .tup [.str "InvalidRows", .str "InvalidLine"]) hp3)
        walk_at "ss"
        refine ⟨p3, _, rfl, .inr (.inl (.inl upd_same)), rfl, rfl, ?_⟩
        rw [show inV (V.str code) [V.str "InvalidRows", .str "InvalidLine"] = false by
          simp only [List.mem_cons, List.not_mem_nil, or_false] at cf
          rcases cf with e | e <;> rw [e] <;> decide +kernel]
        walk_at "ss"
        refine ⟨C, dd, _, _, rfl, xf, n1, rfl, s3 _ _ hd, rfl, ?_⟩
        walk_at "ss"
        intro p4 hp4
        have s4 := s3.trans (same_upd (o := .tup [.str "InvalidText", .str "InvalidPage"]) hp4)
        walk_at "ss"
        refine ⟨p4, _, rfl, .inr (.inl (.inl upd_same)), rfl, rfl, ?_⟩
        rw [show inV (V.str code) [V.str "InvalidText", .str "InvalidPage"] = true by
          simp only [List.mem_cons, List.not_mem_nil, or_false] at cf
          rcases cf with e | e <;> rw [e] <;> decide +kernel]
        walk_at "ss"
        refine ⟨C, dd, _, _, rfl, xf, n2, rfl, s4 _ _ hd, rfl, ?_⟩
        walk_at "ss"
        intro p5 hp5
        exact q p5 _ upd_same (s4.trans (same_upd hp5))
    · walk_at "ss"
      refine ⟨C, dd, _, _, rfl, xf, n1, rfl, hd, rfl, ?_⟩
      walk_at "ss"
      refine in_tup rfl rfl fun G1 s1 => ?_
      rw [show inV (V.str "TooMany") [V.str "InvalidAlphabet", .str "InvalidWord", .str "InvalidLetter", .str "InvalidState", .str "InvalidPrime", .str "InvalidSet"] = false by decide +kernel]
      walk_at "ss"
      refine ⟨C, dd, _, _, rfl, xf, n1, rfl, s1 _ _ hd, rfl, ?_⟩
      walk_at "ss"
      refine in_tup rfl rfl fun G2 s2 => ?_
      rw [show inV (V.str "TooMany") [V.str "InvalidName", .str "InvalidLimit"] = false by decide +kernel]
      have s2 := s1.trans s2
      walk_at "ss"
      refine ⟨C, dd, _, _, rfl, xf, n1, rfl, s2 _ _ hd, rfl, ?_⟩
      walk_at "ss"
      refine in_tup rfl rfl fun G3 s3 => ?_
      rw [show inV (V.str "TooMany") [V.str "InvalidRows", .str "InvalidLine"] = false by decide +kernel]
      have s3 := s2.trans s3
      walk_at "ss"
      refine ⟨C, dd, _, _, rfl, xf, n1, rfl, s3 _ _ hd, rfl, ?_⟩
      walk_at "ss"
      refine in_tup rfl rfl fun G4 s4 => ?_
      rw [show inV (V.str "TooMany") [V.str "InvalidText", .str "InvalidPage"] = false by decide +kernel]
      have s4 := s3.trans s4
      walk_at "ss"
      refine ⟨C, dd, _, _, rfl, xf, n1, rfl, s4 _ _ hd, rfl, ?_⟩
      walk_at "ss"
      refine in_tup rfl rfl fun G5 s5 => ?_
      rw [show inV (V.str "TooMany") [V.str "WrongKind", .str "UnknownName"] = false by decide +kernel]
      have s5 := s4.trans s5
      walk_at "ss"
      refine ⟨C, dd, _, _, rfl, xf, n1, rfl, s5 _ _ hd, rfl, ?_⟩
      walk_at "ss"
      refine ⟨C, dd, _, _, rfl, xf, n2, rfl, s5 _ _ hd, rfl, ?_⟩
      walk_at "ss"
      refine ⟨C, dd, _, _, rfl, xf, n3, rfl, s5 _ _ hd, rfl, ?_⟩
      walk_at "ss"
      intro p6 hp6
      exact q p6 _ upd_same (s5.trans (same_upd hp6))
    · walk_at "ss"
      refine ⟨C, dd, _, _, rfl, xf, n1, rfl, hd, rfl, ?_⟩
      walk_at "ss"
      refine in_tup rfl rfl fun G1 s1 => ?_
      rw [show inV (V.str "AlphabetsDiffer") [V.str "InvalidAlphabet", .str "InvalidWord", .str "InvalidLetter", .str "InvalidState", .str "InvalidPrime", .str "InvalidSet"] = false by decide +kernel]
      walk_at "ss"
      refine ⟨C, dd, _, _, rfl, xf, n1, rfl, s1 _ _ hd, rfl, ?_⟩
      walk_at "ss"
      refine in_tup rfl rfl fun G2 s2 => ?_
      rw [show inV (V.str "AlphabetsDiffer") [V.str "InvalidName", .str "InvalidLimit"] = false by decide +kernel]
      have s2 := s1.trans s2
      walk_at "ss"
      refine ⟨C, dd, _, _, rfl, xf, n1, rfl, s2 _ _ hd, rfl, ?_⟩
      walk_at "ss"
      refine in_tup rfl rfl fun G3 s3 => ?_
      rw [show inV (V.str "AlphabetsDiffer") [V.str "InvalidRows", .str "InvalidLine"] = false by decide +kernel]
      have s3 := s2.trans s3
      walk_at "ss"
      refine ⟨C, dd, _, _, rfl, xf, n1, rfl, s3 _ _ hd, rfl, ?_⟩
      walk_at "ss"
      refine in_tup rfl rfl fun G4 s4 => ?_
      rw [show inV (V.str "AlphabetsDiffer") [V.str "InvalidText", .str "InvalidPage"] = false by decide +kernel]
      have s4 := s3.trans s4
      walk_at "ss"
      refine ⟨C, dd, _, _, rfl, xf, n1, rfl, s4 _ _ hd, rfl, ?_⟩
      walk_at "ss"
      refine in_tup rfl rfl fun G5 s5 => ?_
      rw [show inV (V.str "AlphabetsDiffer") [V.str "WrongKind", .str "UnknownName"] = false by decide +kernel]
      have s5 := s4.trans s5
      walk_at "ss"
      refine ⟨C, dd, _, _, rfl, xf, n1, rfl, s5 _ _ hd, rfl, ?_⟩
      walk_at "ss"
      intro p6 hp6
      exact q p6 _ upd_same (s5.trans (same_upd hp6))
end
section
variable {P : Program} {w : World} {base : Heap}
/-- what is got of f -/
def spGotL (P : Program) (w : World) (K : PySem.W.Frag) (mg : Str → Option Value) (base : Heap) (cs : List Value) (k : Nat) : Sp := fun vs H Q _ => ∃ (f : Addr) (g : Hp → Prop) (sp : Hp → VK → XK → Prop), vs = [.ref f] ∧ Held0 P w K mg base (L2.CX P w) k f g sp ∧ ∀ H1, Same H H1 → g H1 ∧
  ∀ (Q2 : VK) (E2 : XK), (∀ v H2, (∀ p H3, H3 p = some (.tup [.str "", v]) → Same H2 H3 → Q (.ref p) H3) → Q2 v H2) →
    (∀ cls d H2, (PySem.W.exmAny K cls cs = some true ∧ ∃ code us, ErrL K cls d H2 code us ∧ ∀ p t H3, H3 p = some (.tup [.str code, .ref t]) → H3 t = some (.tup us) → Same H2 H3 → Q (.ref p) H3) → E2 cls d H2) → sp H1 Q2 E2
theorem ok_gotL (T : Env K mg) (k : Nat) : FnOk P w K mg base CX0 (k + 2) T.f_got T.fd_got ["_law_ask"] (spGotL P w K mg base [.ref T.C_AheadError, .ref T.C_Missing, .ref T.C_NothingLeft] k) := by
  refine T.F_got.ok sc_got (fun vs H Q E h => ?_) (fun cdv A outer s H vs Q E hr h => ⟨_, pss_cons (ps_set (i := 1) sc_got.nd rfl (.inl rfl) (pe_tup (pa_cons pe_str (pa_cons pe_non pa_nil))))
    (pss_cons (ps_tryA3 (i := 2) (tb := fun W => tAsg (tTup (tCons (tC (.str "")) (tCons (tAsk P w K mg base (L2.CX P w) k 0 (WE W)) tNil))) (gName 1))
      (ts := fun q cls d => tAsg (tTup (tCons (tXfA K q cls d "code" (tVar 2)) (tCons (tCallP q cls d (spFieldL K) (tCons (tVar 2) tNil)) tNil))) (gName 1))
      rfl rfl sc_got.nd rfl rfl ⟨by rfl, by decide, .inl T.gC_AheadError⟩ ⟨by rfl, by decide, .inl T.gC_Missing⟩ ⟨by rfl, by decide, .inl T.gC_NothingLeft⟩
      (fun W pn xe tk po => pss_one (ps_set (i := 1) sc_got.nd rfl (.inl rfl) (pe_tup (pa_cons pe_str (pa_cons (pe_ask (hr.mono (by omega)) rfl (by first | exact .inl rfl | exact .inr (.inl rfl)) (fun σ => passAt tk σ)) pa_nil)))))
      (fun q oe cls d pn hz hf => pss_one (ps_set (i := 1) sc_got.nd rfl (.inl rfl) (pe_tup (pa_cons (pe_xfA ⟨List.mem_cons_self .., hz, hf⟩ (pv 2)) (pa_cons (pe_callP (ok_fieldL T) (RoomH.mono ⟨hr.dp, hr.un⟩ (by omega)) ⟨List.mem_cons_self .., hz, hf⟩ (by rfl) T.g_field T.F_field.kp T.b_field (fun σ pins H s e s' I c => c.elim) (pa_cons (pv 2) pa_nil)) pa_nil))))))
    (pss_one (ps_ret (pv 1)))), ?_⟩)
  · obtain ⟨f, g, sp, rfl, _⟩ := h
    rfl
  · obtain ⟨f, g, sp, rfl, hH, q⟩ := h
    walk_at "ss"
    intro p0 hp0
    obtain ⟨hg, q⟩ := q _ (same_upd (o := .tup [.str "", .non]) hp0)
    walk_at "ss"
    refine ⟨f, g, sp, rfl, hH, hg, q _ _ (fun v H2 z => ?_) (fun cls d H2 z => ?_)⟩
    · walk_at "ss"
      intro p1 hp1
      walk_at "ss"
      exact z p1 _ upd_same (same_upd hp1)
    · obtain ⟨em, code, us, er, z⟩ := z
      refine ⟨em, fun x hx => ?_⟩
      obtain ⟨C, dd, fs, rfl, xf, n1, rfl, hd, hc⟩ : ∃ C dd fs, cls = .ref C ∧ XfC K C ∧ PySem.W.findIn K (.ref C) "code" = some none ∧ d = some dd ∧ H2 dd = some (.xd fs) ∧ List.lookup ("code" : Str) fs = some (V.str code) := by
        rcases er with ⟨f, v, rfl, cf, C, dd, rfl, xf, n1, n2, rfl, hd⟩ | ⟨sv, mv, rfl, rfl, C, dd, rfl, xf, n1, n2, n3, rfl, hd⟩ | ⟨rfl, rfl, C, dd, rfl, xf, n1, rfl, hd⟩
        · exact ⟨C, dd, _, rfl, xf, n1, rfl, hd, rfl⟩
        · exact ⟨C, dd, _, rfl, xf, n1, rfl, hd, rfl⟩
        · exact ⟨C, dd, _, rfl, xf, n1, rfl, hd, rfl⟩
      walk_at "ss"
      refine ⟨C, dd, _, _, rfl, xf, n1, rfl, hd, hc, ?_⟩
      walk_at "ss"
      first | intro p1 H3 e1 s1 | refine ⟨code, us, rfl, er, fun p1 H3 e1 s1 => ?_⟩
      walk_at "ss"
      intro p2 hp2
      walk_at "ss"
      exact z p2 p1 _ upd_same (by rw [upd_ne (ne_of_none e1 hp2)]; exact e1) (s1.trans (same_upd hp2))
end

/-! ### o == y by an own __eq__, with either answer -/
section
variable {X : Cx} {CX : CXT} {k : Nat} {f C : Addr} {fd : FuncData} {ps : List Str} {sp : Sp} {E : XK}
/-- what is asked of the right side: an instance of the same class, or a list -/
def EqSide (C : Addr) (H : Hp) (y : V) : Prop := ∃ b, y = .ref b ∧ ((∃ dx fs, H b = some (.ins C dx fs)) ∨ ∃ xs, H b = some (.lst xs))
theorem op_ownEq (F : FnOk X.prog X.w X.K X.mg X.base CX k f fd ps sp) (hr : Room k X.A) (d : OwnDef X.K C "__eq__" f) (hb : Binds X.K fd ps []) (hx : Passes CX X E) :
    OpR X (compareOp .Eq) (fun x y H Q => ∃ (a dx : Addr) (fs : List (Str × V)), x = .ref a ∧ H a = some (.ins C dx fs) ∧ EqSide C H y ∧ sp [.ref a, y] H (fun v H' => ∃ b : Bool, v = .bl b ∧ Q (.bl b) H') E) := by
  intro pins s σ H x y v u Q I rx ry h
  obtain ⟨a, dx, fs, rfl, ha, ⟨b, rfl, hy⟩, h⟩ := h
  obtain rfl : v = Value.ref a := rx
  obtain rfl : u = Value.ref b := ry
  obtain ⟨mA, J, _⟩ := ins_get I.hok ha
  obtain ⟨od, J, _⟩ := J.look
  obtain ⟨m, hF⟩ := I.fr
  have go : ∀ {R' : Value → Shared → Prop}, (∀ w' s', EP X pins σ (fun v H' => ∃ b : Bool, v = .bl b ∧ Q (.bl b) H') w' s' → R' w' s') → wpAny (model X.prog X.w) X.A (call (.ref f) [.ref a, .ref b]) R' X.xe s :=
    fun h2 => own_run2 (x := V.ref b) F ⟨hr, rfl⟩ hb (fun e s' z => hx pins σ H s e s' I z) I rfl h h2
  have back : ∀ w' s', EP X pins σ (fun v H' => ∃ b : Bool, v = .bl b ∧ Q (.bl b) H') w' s' → PySem.W.CmpBack (EP X pins σ Q) w' s' := fun w' s' z => by
    obtain ⟨zz, H', I', rz, bb, rfl, q⟩ := z
    obtain rfl : w' = .bool bb := rz
    exact ⟨.bl bb, H', I', rfl, q⟩
  show wpAny (model X.prog X.w) X.A (richCompare .Eq (.ref a) (.ref b)) (EP X pins σ Q) X.xe s
  rcases hy with ⟨dy, gs, hy⟩ | ⟨xs, hy⟩
  · obtain ⟨mB, J', _⟩ := ins_get I.hok hy
    obtain ⟨od', J', _⟩ := J'.look
    exact PySem.W.cmp_K (op := .Eq) (tb := .ref C) hr.units0 hF I.ok.mod.kin J J'.type (by simp [PySem.W.notFirst]) d.at_ d.fn (go back)
  · obtain ⟨_, _, n, _, h1⟩ := (show ObjOk X.prog X.w H s.heap b (.lst xs) from I.hok b _ hy)
    exact PySem.W.cmp_K (op := .Eq) (tb := .type "list") hr.units0 hF I.ok.mod.kin J (PySem.W.kitAt_ty _ _ ⟨_, h1, rfl⟩) (by rfl) d.at_ d.fn (go back)
end

/-! ### all that is got of asks: values, errors -/
inductive Due where
  | val (R : V → Hp → Prop)
  | err (code : Str) (us : List V)
section
variable {P : Program} {w : World} {base : Heap}
def AskL (P : Program) (w : World) (K : PySem.W.Frag) (mg : Str → Option Value) (base : Heap) (cs : List Value) (k : Nat) (H : Hp) (f : Addr) : Due → Prop
  | .val R => ∃ g sp, Held0 P w K mg base (L2.CX P w) k f g sp ∧ ∀ H1, Same H H1 → g H1 ∧ ∀ (Q2 : VK) (E2 : XK), (∀ v H2, R v H2 → Same H1 H2 → Q2 v H2) → sp H1 Q2 E2
  | .err code us => ∃ g sp, Held0 P w K mg base (L2.CX P w) k f g sp ∧ ∀ H1, Same H H1 → g H1 ∧ ∀ (Q2 : VK) (E2 : XK), (∀ cls d H2, PySem.W.exmAny K cls cs = some true → ErrL K cls d H2 code us → Same H1 H2 → E2 cls d H2) → sp H1 Q2 E2
def GotL (H : Hp) (y : V) : Due → Prop
  | .val R => ∃ q v, y = .ref q ∧ H q = some (.tup [.str "", v]) ∧ R v H
  | .err code us => ∃ q t, y = .ref q ∧ H q = some (.tup [.str code, .ref t]) ∧ H t = some (.tup us)
def Due.Keeps : Due → Prop
  | .val R => ∀ v H H', TupKeep H H' → R v H → R v H'
  | .err _ _ => True
theorem GotL.keep {H H' : Hp} {y : V} (k : TupKeep H H') : ∀ {d : Due}, d.Keeps → GotL H y d → GotL H' y d
  | .val R, kk, ⟨q, v, a, b, c⟩ => ⟨q, v, a, k _ _ b, kk _ _ _ k c⟩
  | .err _ _, _, ⟨q, t, a, b, c⟩ => ⟨q, t, a, k _ _ b, k _ _ c⟩
def spAllGotL (P : Program) (w : World) (K : PySem.W.Frag) (mg : Str → Option Value) (base : Heap) (cs : List Value) (k : Nat) : Sp := fun vs H Q _ => ∃ (l : Addr) (ps : List Addr) (dues : List Due), vs = [.ref l] ∧ SqL K H l (ps.map V.ref) ∧ ps.length ≤ 100 ∧ dues.length = ps.length ∧ (∀ d ∈ dues, d.Keeps) ∧
  (∀ (i : Nat) (f : Addr), ps[i]? = some f → ∃ d, dues[i]? = some d ∧ AskL P w K mg base cs k H f d) ∧
  ∀ p ys H', H' p = some (.lst ys) → ys.length = dues.length → (∀ (i : Nat) (y : V), ys[i]? = some y → ∃ d, dues[i]? = some d ∧ GotL H' y d) → Same H H' → Q (.ref p) H'
theorem ok_all_gotL (T : Env K mg) (k : Nat) : FnOk P w K mg base CX0 (k + 3) T.f_all_got T.fd_all_got ["_law_asks"] (spAllGotL P w K mg base [.ref T.C_AheadError, .ref T.C_Missing, .ref T.C_NothingLeft] k) := by
  refine T.F_all_got.ok sc_all_got (fun vs H Q E h => ?_) (fun cdv A outer s H vs Q E hr h => ⟨_, ((pss_one (ps_ret (pe_lc (own := [("_law_ask", 1)]) (g := (gName 1)) (tt := tYes) rfl sc_all_got.nd (pi_list (pv 0)) (blkOk_by (own := [("_law_ask", 1)]) (N := N_all_got) (sc := defScope s_all_got) (by decide +kernel)) (fun _ _ _ _ _ => (pg_name (i := 1) sc_all_got.nd rfl (.inl rfl))) (fun _ _ _ _ _ => pts_nil) (fun _ _ _ _ _ => (pe_call (ok_gotL (P := P) (w := w) (base := base) T k) hr (by rfl) T.g_got T.F_got.kp T.b_got .nil pass0 (pa_cons (pv 1) pa_nil))))))), ?_⟩)
  · obtain ⟨l, ps, dues, rfl, _⟩ := h
    rfl
  · obtain ⟨l, ps, dues, rfl, hl, hn, hd, kk, ha, q⟩ := h
    walk_at "ss"
    try refine ⟨⟨_, hl⟩, ?_⟩
    intro D hD
    refine lc_genH walk_list (fun H' => Same H H') (fun i y H' => ∃ d, dues[i]? = some d ∧ GotL H' y d) (by rw [List.length_map]; omega) (same_upd hD) (fun _ h => h.seq hl) (fun _ _ h => same_mut h hD)
      (fun i y H1 H2 tk ⟨d, e1, e2⟩ => ⟨d, e1, e2.keep tk (kk d (List.mem_of_getElem? e1))⟩) ?_ ?_
    · rintro i x H1 H2 Q1 hlt hI ⟨rfl, hx⟩ - hQ
      rw [List.getElem?_map] at hx
      cases hf : ps[i]? with
      | none => rw [hf] at hx; cases hx
      | some f =>
        rw [hf] at hx
        cases hx
        obtain ⟨d, hdu, as⟩ := ha i f hf
        walk_at "ss"
        cases d with
        | val R =>
          obtain ⟨g, sp, hH, z⟩ := as
          refine ⟨f, g, sp, rfl, hH, fun H3 s3 => ⟨(z H3 (hI.trans s3)).1, fun Q2 E2 hQ2 _ => (z H3 (hI.trans s3)).2 Q2 E2 fun v H4 hR s4 => hQ2 v H4 fun p H5 e1 s5 => ?_⟩⟩
          have s35 := s3.trans (s4.trans s5)
          exact hQ _ _ ⟨_, hdu, p, v, rfl, e1, kk _ (List.mem_of_getElem? hdu) _ _ _ (TupKeep.of s5) hR⟩ (hI.trans s35) (TupKeep.of s35) fun o ho => s35 _ _ ho
        | err code us =>
          obtain ⟨g, sp, hH, z⟩ := as
          refine ⟨f, g, sp, rfl, hH, fun H3 s3 => ⟨(z H3 (hI.trans s3)).1, fun Q2 E2 _ hE => (z H3 (hI.trans s3)).2 Q2 E2 fun cls d H4 em er s4 => hE cls d H4 ⟨em, code, us, er, fun p t H5 e1 e2 s5 => ?_⟩⟩⟩
          have s35 := s3.trans (s4.trans s5)
          exact hQ _ _ ⟨_, hdu, p, t, rfl, e1, e2⟩ (hI.trans s35) (TupKeep.of s35) fun o ho => s35 _ _ ho
    · intro H1 ys hI hy hl2 hr2
      walk_at "ss"
      exact q D ys _ hy (by rw [hl2, List.length_map, hd]) hr2 hI
end

/-! ### own errors -/
/-- what __init__ leaves of an error with one field f -/
def spErr (C : Addr) (f code : Str) : Sp := fun vs H Q _ => ∃ (a : Addr) (v : V), vs = [.ref a, v] ∧ H a = some (exo a C none) ∧
  ∀ dx H', H dx = none → dx ≠ a → H' a = some (exo a C (some dx)) → H' dx = some (exd dx [("code", .str code), (f, v)]) → (∀ c, c ≠ a → c ≠ dx → H' c = H c) → Q .non H'
theorem err_end {H : Hp} {a C dx : Addr} {f code : Str} {v : V} {Q : VK} (q : ∀ dx H', H dx = none → dx ≠ a → H' a = some (exo a C (some dx)) → H' dx = some (exd dx [("code", .str code), (f, v)]) → (∀ c, c ≠ a → c ≠ dx → H' c = H c) → Q .non H')
    (n : H dx = none) (ne : dx ≠ a) : Q .non (upd (upd (upd H dx (exd dx [(f, v)])) a (exo a C (some dx))) dx (exd dx [("code", .str code), (f, v)])) :=
  q dx _ n ne (by rw [upd_ne ne.symm, upd_same]) upd_same fun c h1 h2 => by rw [upd_ne h2, upd_ne h1, upd_ne h2]
/-- raise C(v): what stands behind it -/
theorem err_out {H : Hp} {C : Addr} {f code : Str} {v : V} {Q : XK} (q : ∀ d G, H d = none → Same H G → G d = some (.xd [("code", .str code), (f, v)]) → Q (.ref C) (some d) G) :
    ([v] : List V).length ≤ 1000 ∧ ∀ a, H a = none → spErr C f code (.ref a :: ([v] ++ [])) (upd H a (exo a C none))
      (fun u G => u = .non ∧ ∃ (d : Addr) (fs : List (Str × V)), G a = some (exo a C (some d)) ∧ G d = some (exd d fs) ∧ H d = none ∧ Q (.ref C) (some d) (upd (del G a) d (.xd fs))) (fun _ _ _ => False) := by
  refine ⟨by show 1 ≤ 1000; decide, fun a n => ⟨a, v, rfl, upd_same, fun dx G n1 ne g1 g2 g3 => ⟨rfl, dx, _, g1, g2, ?_, ?_⟩⟩⟩
  · rw [upd_ne ne] at n1
    exact n1
  · have n2 : H dx = none := by rw [upd_ne ne] at n1; exact n1
    refine q dx _ n2 (fun c o e => ?_) upd_same
    have c1 : c ≠ dx := ne_of_none e n2
    have c2 : c ≠ a := ne_of_none e n
    rw [upd_ne c1, del_ne c2, g3 c c2 c1, upd_ne c2]
    exact e
/-- what a call lets out goes on out of the def -/
theorem passE {X : Cx} {E : XK} (tk : Takes X (fun c d _ H => E c d H)) : Passes (L2.CX X.prog X.w) X E := fun pins σ H s e s' => passAt (W := fun c d _ H => E c d H) tk σ pins H s e s'
section
variable {P : Program} {w : World} {K : PySem.W.Frag} {mg : Str → Option Value} {base : Heap}
theorem ok_InvalidAlphabet___init (T : Env K mg) : FnOk P w K mg base CX0 1 T.f_InvalidAlphabet___init T.fd_InvalidAlphabet___init ["self", "given"] (spErr T.C_InvalidAlphabet "given" "InvalidAlphabet") := by
  refine T.F_InvalidAlphabet___init.ok sc_InvalidAlphabet___init (fun vs H Q E h => ?_) (fun cdv A outer s H vs Q E hr h => ⟨_, ((pss_cons (ps_ost (pv 0) (pv 1))
      (pss_one (ps_ost (pv 0) pe_str)))), ?_⟩)
  · obtain ⟨a, v, rfl, _⟩ := h
    rfl
  · obtain ⟨a, v, rfl, ha, q⟩ := h
    walk_at "ss"
    refine ⟨a, T.C_InvalidAlphabet, rfl, T.x_InvalidAlphabet, T.n_InvalidAlphabet_given, .inl ⟨ha, fun dx n ne => ?_⟩⟩
    walk_at "ss"
    exact ⟨a, T.C_InvalidAlphabet, rfl, T.x_InvalidAlphabet, T.n_InvalidAlphabet_code, .inr ⟨dx, _, upd_same, by rw [upd_ne ne]; exact upd_same, (by show 1 ≤ 900; decide), err_end q n ne⟩⟩
theorem ok_InvalidLine___init (T : Env K mg) : FnOk P w K mg base CX0 1 T.f_InvalidLine___init T.fd_InvalidLine___init ["self", "at"] (spErr T.C_InvalidLine "at" "InvalidLine") := by
  refine T.F_InvalidLine___init.ok sc_InvalidLine___init (fun vs H Q E h => ?_) (fun cdv A outer s H vs Q E hr h => ⟨_, ((pss_cons (ps_ost (pv 0) (pv 1))
      (pss_one (ps_ost (pv 0) pe_str)))), ?_⟩)
  · obtain ⟨a, v, rfl, _⟩ := h
    rfl
  · obtain ⟨a, v, rfl, ha, q⟩ := h
    walk_at "ss"
    refine ⟨a, T.C_InvalidLine, rfl, T.x_InvalidLine, T.n_InvalidLine_at, .inl ⟨ha, fun dx n ne => ?_⟩⟩
    walk_at "ss"
    exact ⟨a, T.C_InvalidLine, rfl, T.x_InvalidLine, T.n_InvalidLine_code, .inr ⟨dx, _, upd_same, by rw [upd_ne ne]; exact upd_same, (by show 1 ≤ 900; decide), err_end q n ne⟩⟩
end

/-- TooMany: what __init__ leaves -/
def spMany (C : Addr) : Sp := fun vs H Q _ => ∃ (a : Addr) (u v : V), vs = [.ref a, u, v] ∧ H a = some (exo a C none) ∧
  ∀ dx H', H dx = none → dx ≠ a → H' a = some (exo a C (some dx)) → H' dx = some (exd dx [("code", .str "TooMany"), ("most", v), ("subject", u)]) → (∀ c, c ≠ a → c ≠ dx → H' c = H c) → Q .non H'
theorem many_out {H : Hp} {C : Addr} {u v : V} {Q : XK} (q : ∀ d G, H d = none → Same H G → G d = some (.xd [("code", .str "TooMany"), ("most", v), ("subject", u)]) → Q (.ref C) (some d) G) :
    ([u, v] : List V).length ≤ 1000 ∧ ∀ a, H a = none → spMany C (.ref a :: ([u, v] ++ [])) (upd H a (exo a C none))
      (fun u G => u = .non ∧ ∃ (d : Addr) (fs : List (Str × V)), G a = some (exo a C (some d)) ∧ G d = some (exd d fs) ∧ H d = none ∧ Q (.ref C) (some d) (upd (del G a) d (.xd fs))) (fun _ _ _ => False) := by
  refine ⟨by show 2 ≤ 1000; decide, fun a n => ⟨a, u, v, rfl, upd_same, fun dx G n1 ne g1 g2 g3 => ⟨rfl, dx, _, g1, g2, ?_, ?_⟩⟩⟩
  · rw [upd_ne ne] at n1
    exact n1
  · have n2 : H dx = none := by rw [upd_ne ne] at n1; exact n1
    refine q dx _ n2 (fun c o e => ?_) upd_same
    have c1 : c ≠ dx := ne_of_none e n2
    have c2 : c ≠ a := ne_of_none e n
    rw [upd_ne c1, del_ne c2, g3 c c2 c1, upd_ne c2]
    exact e
section
variable {P : Program} {w : World} {K : PySem.W.Frag} {mg : Str → Option Value} {base : Heap}
theorem ok_TooMany___init (T : Env K mg) : FnOk P w K mg base CX0 1 T.f_TooMany___init T.fd_TooMany___init ["self", "subject", "most"] (spMany T.C_TooMany) := by
  refine T.F_TooMany___init.ok sc_TooMany___init (fun vs H Q E h => ?_) (fun cdv A outer s H vs Q E hr h => ⟨_, ((pss_cons (ps_ost (pv 0) (pv 1))
      (pss_cons (ps_ost (pv 0) (pv 2))
      (pss_one (ps_ost (pv 0) pe_str))))), ?_⟩)
  · obtain ⟨a, u, v, rfl, _⟩ := h
    rfl
  · obtain ⟨a, u, v, rfl, ha, q⟩ := h
    walk_at "ss"
    refine ⟨a, T.C_TooMany, rfl, T.x_TooMany, T.n_TooMany_subject, .inl ⟨ha, fun dx n ne => ?_⟩⟩
    walk_at "ss"
    refine ⟨a, T.C_TooMany, rfl, T.x_TooMany, T.n_TooMany_most, .inr ⟨dx, _, upd_same, by rw [upd_ne ne]; exact upd_same, (by show 1 ≤ 900; decide), ?_⟩⟩
    walk_at "ss"
    refine ⟨a, T.C_TooMany, rfl, T.x_TooMany, T.n_TooMany_code, .inr ⟨dx, _, by rw [upd_ne ne.symm]; exact upd_same, upd_same, (by show 2 ≤ 900; decide), ?_⟩⟩
    exact q dx _ n ne (by rw [upd_ne ne.symm, upd_ne ne.symm, upd_same]) upd_same fun c h1 h2 => by rw [upd_ne h2, upd_ne h2, upd_ne h1, upd_ne h2]
end

variable {K : PySem.W.Frag} {mg : Str → Option Value}
def SqA (K : PySem.W.Frag) (H : Hp) (a : Addr) (xs : List V) : Prop := SqL K H a xs ∨ SqT K H a xs
theorem SqA.same {K : PySem.W.Frag} {H H' : Hp} {a : Addr} {xs : List V} (h : SqA K H a xs) (s : Same H H') : SqA K H' a xs := h.elim (fun h => .inl (s.seq h)) fun h => .inr (same_tup s h)
theorem seq_ne {K : PySem.W.Frag} {H : Hp} {a x : Addr} {xs : List V} {o : HO} (h : SqL K H a xs) (n : a ≠ x) : SqL K (upd H x o) a xs := by
  rcases h with (h | ⟨u, h⟩) | h
  · exact .inl (.inl (by rw [upd_ne n]; exact h))
  · exact .inl (.inr ⟨u, by rw [upd_ne n]; exact h⟩)
  · exact .inr h
theorem SqA.ne {K : PySem.W.Frag} {H : Hp} {a x : Addr} {xs : List V} {o : HO} (h : SqA K H a xs) (n : a ≠ x) : SqA K (upd H x o) a xs := by
  rcases h with h | h
  · exact .inl (seq_ne h n)
  · rcases h with (h | ⟨u, h⟩) | h
    · exact .inr (.inl (.inl (by rw [upd_ne n]; exact h)))
    · exact .inr (.inl (.inr ⟨u, by rw [upd_ne n]; exact h⟩))
    · exact .inr (.inr h)
def NoAlpha (K : PySem.W.Frag) (H : Hp) (v : V) : Prop := (∃ z : Str, v = .str z ∧ z.length ≤ 100000 ∧ ¬ Alpha z.cps.toList) ∨ NoStr K H v
/-- no list and no tuple, or an empty one -/
def NoRows (K : PySem.W.Frag) (H : Hp) (v : V) : Prop := (∃ p, v = .ref p ∧ SqA K H p []) ∨ ∃ t, TyX K H v (.type t) ∧ kitB t "list" = some false ∧ kitB t "tuple" = some false
def ErrE (C : Addr) (code f : Str) (v : V) (H : Hp) (E : XK) : Prop := ∀ d H', Same H H' → H' d = some (.xd [("code", .str code), (f, v)]) → E (.ref C) (some d) H'
theorem tru_seq {K : PySem.W.Frag} {H : Hp} {a : Addr} {xs : List V} (h : SqA K H a xs) : TruV K (.ref a) H (!xs.isEmpty) := by
  rcases h with h | h
  · exact .inl ⟨xs, h, rfl⟩
  · exact .inr (.inl ⟨xs, h, rfl⟩)

/-! ### Formula(..) of anything -/
def spChkX (K : PySem.W.Frag) (T : Env K mg) : Sp := fun vs H Q E => ∃ (al : Str) (r : Addr) (xs : List V) (ds : List PyData), vs = [.str al, .ref r] ∧ al.length ≤ 4 ∧ SqA K H r xs ∧ xs.length ≤ 10000 ∧ DpAll K H xs ds ∧ (∀ d ∈ ds, OkD d) ∧
  ((∃ i, i < ds.length ∧ standD al.cps.toList i (ds.getD i .none) = false ∧ (∀ j < i, standD al.cps.toList j (ds.getD j .none) = true) ∧ ErrE T.C_InvalidLine "InvalidLine" "at" (.int i) H E) ∨
   ((∀ j < ds.length, standD al.cps.toList j (ds.getD j .none) = true) ∧ ∀ H', Same H H' → Q .non H'))
section
variable {P : Program} {w : World} {base : Heap}
theorem ok_check_lines (T : Env K mg) : FnOk P w K mg base (L2.CX P w) 5 T.f_check_lines T.fd_check_lines ["alphabet", "lines"] (spChkX K T) := by
  refine T.F_check_lines.okX sc_check_lines (fun vs H Q E h => ?_) (fun cdv A outer s H vs Q E hr h => ⟨_, ((pss_one (ps_for (passes_of rfl) rfl (pi_enumA (by rfl) T.z_enumerate (pa_cons (pv 1) pa_nil)) (pg_tup (by rfl) (pgs_cons (pg_name (i := 2) sc_check_lines.nd rfl (.inl rfl)) (pgs_cons (pg_name (i := 3) sc_check_lines.nd rfl (.inl rfl)) pgs_nil)))
      (pss_one (ps_if (pt_not (pt_val (pe_call (ok_can_stand T) (hr.mono (by decide)) (by rfl) T.g_can_stand T.F_can_stand.kp T.b_can_stand .nil pass0 (pa_cons (pv 0) (pa_cons (pv 3) (pa_cons (pv 2) pa_nil))))))
      (pss_one (ps_raise rfl (takes_of rfl rfl rfl rfl) (pmk_oex T.x_InvalidLine T.i_InvalidLine___init T.t_InvalidLine___init (ok_InvalidLine___init T) (hr.mono (by decide)) T.b_InvalidLine___init .nil pass0 (by rfl) T.gC_InvalidLine (pa_cons (pv 2) pa_nil))))
      pss_nil))))), ?_⟩)
  · obtain ⟨al, r, xs, ds, rfl, _⟩ := h
    rfl
  · obtain ⟨al, r, xs, ds, rfl, hal, hS, xl, hD, ok, q⟩ := h
    have dl := dpa_len hD
    walk_at "ss"
    refine ⟨r, xs, rfl, ?_⟩
    rcases id hS with hL | hL
    · refine .inl ⟨hL, ?_⟩
      refine for_it walk_enum (fun i σ H' => Stp (Same H H' ∧ (∀ j < i, standD al.cps.toList j (ds.getD j .none) = true) ∧ ∃ y4 y5 : Option V, σ = [some (.str al), some (.ref r), y4, y5])) (.mk ⟨Same.refl _, fun _ h => absurd h (Nat.not_lt_zero _), _, _, rfl⟩) (fun i σ H' _ h => h.of.1.seq hL) ?_ ?_
      · rintro i y σ H3 H4 hi hP ⟨Tt, u, v, rfl, nT, rfl, eu, ev⟩
        obtain ⟨s3, good, y4, y5, rfl⟩ := hP.of
        clear hP
        cases eu
        have ev : xs[i]? = some v := ev
        obtain ⟨d, hd1, hd2⟩ := dpa_at hD ev
        have s4 : Same H3 (upd H3 Tt (.tup [.int (i : Nat), v])) := same_upd nT
        have gd : ds.getD i .none = d := by rw [List.getD_eq_getElem?_getD, hd1]; rfl
        have il : i < ds.length := (List.getElem?_eq_some_iff.mp hd1).1
        refine ⟨Tt, _, rfl, .inl (.inl upd_same), rfl, _, _, rfl, _, _, rfl, rfl, ?_⟩
        walk_at "ss"
        refine ⟨al, v, d, i, rfl, hal, dp_same hd2 (s3.trans s4), ok d (List.mem_of_getElem? hd1), fun H5 s5 => ?_⟩
        have s35 := s3.trans (s4.trans s5)
        cases hb : standD al.cps.toList i d with
        | true =>
          walk_at "ss"
          refine .mk ⟨s35, fun j hj => ?_, _, _, rfl⟩
          by_cases e : j = i
          · rw [e, gd]
            exact hb
          · exact good j (by omega)
        | false =>
          walk_at "ss"
          rcases q with ⟨at_, a1, a2, a3, q⟩ | ⟨all, _⟩
          · have e : at_ = i := by
              rcases Nat.lt_trichotomy at_ i with h | h | h
              · rw [good at_ h] at a2
                cases a2
              · exact h
              · rw [← gd, a3 i h] at hb
                cases hb
            subst e
            first | exact err_out (fun d G _ s6 e => q d G (s35.trans s6) e) | exact (err_out (fun d G _ s6 e => q d G (s35.trans s6) e)).2
          · rw [← gd, all i il] at hb
            cases hb
      · rintro σ H3 hP
        obtain ⟨s3, good, y4, y5, rfl⟩ := hP.of
        rcases q with ⟨at_, a1, a2, _⟩ | ⟨_, q⟩
        · rw [good at_ (by omega)] at a2
          cases a2
        walk_at "ss"
        exact q _ s3
    · refine .inr ⟨hL, ?_⟩
      refine for_it walk_enumT (fun i σ H' => Stp (Same H H' ∧ (∀ j < i, standD al.cps.toList j (ds.getD j .none) = true) ∧ ∃ y4 y5 : Option V, σ = [some (.str al), some (.ref r), y4, y5])) (.mk ⟨Same.refl _, fun _ h => absurd h (Nat.not_lt_zero _), _, _, rfl⟩) (fun i σ H' _ h => same_tup h.of.1 hL) ?_ ?_
      · rintro i y σ H3 H4 hi hP ⟨Tt, u, v, rfl, nT, rfl, eu, ev⟩
        obtain ⟨s3, good, y4, y5, rfl⟩ := hP.of
        clear hP
        cases eu
        have ev : xs[i]? = some v := ev
        obtain ⟨d, hd1, hd2⟩ := dpa_at hD ev
        have s4 : Same H3 (upd H3 Tt (.tup [.int (i : Nat), v])) := same_upd nT
        have gd : ds.getD i .none = d := by rw [List.getD_eq_getElem?_getD, hd1]; rfl
        have il : i < ds.length := (List.getElem?_eq_some_iff.mp hd1).1
        refine ⟨Tt, _, rfl, .inl (.inl upd_same), rfl, _, _, rfl, _, _, rfl, rfl, ?_⟩
        walk_at "ss"
        refine ⟨al, v, d, i, rfl, hal, dp_same hd2 (s3.trans s4), ok d (List.mem_of_getElem? hd1), fun H5 s5 => ?_⟩
        have s35 := s3.trans (s4.trans s5)
        cases hb : standD al.cps.toList i d with
        | true =>
          walk_at "ss"
          refine .mk ⟨s35, fun j hj => ?_, _, _, rfl⟩
          by_cases e : j = i
          · rw [e, gd]
            exact hb
          · exact good j (by omega)
        | false =>
          walk_at "ss"
          rcases q with ⟨at_, a1, a2, a3, q⟩ | ⟨all, _⟩
          · have e : at_ = i := by
              rcases Nat.lt_trichotomy at_ i with h | h | h
              · rw [good at_ h] at a2
                cases a2
              · exact h
              · rw [← gd, a3 i h] at hb
                cases hb
            subst e
            first | exact err_out (fun d G _ s6 e => q d G (s35.trans s6) e) | exact (err_out (fun d G _ s6 e => q d G (s35.trans s6) e)).2
          · rw [← gd, all i il] at hb
            cases hb
      · rintro σ H3 hP
        obtain ⟨s3, good, y4, y5, rfl⟩ := hP.of
        rcases q with ⟨at_, a1, a2, _⟩ | ⟨_, q⟩
        · rw [good at_ (by omega)] at a2
          cases a2
        walk_at "ss"
        exact q _ s3
end
def formF (al : Str) (l : Addr) (b : V) : List (Str × V) := [("_alphabet", .str al), ("_lines", .ref l), ("_first", b)]
def spFX (K : PySem.W.Frag) (T : Env K mg) : Sp := fun vs H Q E => ∃ (x dx : Addr) (A R F : V), vs = [.ref x, A, R, F] ∧ H x = some (.ins T.C_Formula dx []) ∧
  ((NoAlpha K H A ∧ ErrE T.C_InvalidAlphabet "InvalidAlphabet" "given" A H E) ∨
   (∃ al : Str, A = .str al ∧ Alpha al.cps.toList ∧
    ((NoRows K H R ∧ ErrE T.C_InvalidLine "InvalidLine" "at" (.int 0) H E) ∨
     (∃ (r : Addr) (xs : List V), R = .ref r ∧ r ≠ x ∧ SqA K H r xs ∧ 1 ≤ xs.length ∧ xs.length ≤ 10000 ∧
      ((4000 < xs.length ∧ ∀ d H', Same H H' → H' d = some (.xd [("code", .str "TooMany"), ("most", .int 4000), ("subject", .str "lines")]) → E (.ref T.C_TooMany) (some d) H') ∨
       (xs.length ≤ 4000 ∧ ∃ ds : List PyData, DpAll K H xs ds ∧ (∀ d ∈ ds, OkD d) ∧
        ((∃ i, i < ds.length ∧ standD al.cps.toList i (ds.getD i .none) = false ∧ (∀ j < i, standD al.cps.toList j (ds.getD j .none) = true) ∧ ErrE T.C_InvalidLine "InvalidLine" "at" (.int i) H E) ∨
         ((∀ j < ds.length, standD al.cps.toList j (ds.getD j .none) = true) ∧ ∀ H' l, (∀ c o, c ≠ x → H c = some o → H' c = some o) → H' x = some (.ins T.C_Formula dx (formF al l F)) → H l = none → H' l = some (.lst xs) → Q .non H'))))))))
section
variable {P : Program} {w : World} {base : Heap}
theorem ok_Formula___init (T : Env K mg) : FnOk P w K mg base (L2.CX P w) 6 T.f_Formula___init T.fd_Formula___init ["self", "alphabet", "lines", "first"] (spFX K T) := by
  refine T.F_Formula___init.okX sc_Formula___init (fun vs H Q E h => ?_) (fun cdv A outer s H vs Q E hr h => ⟨_, ((pss_cons (ps_if (pt_not (pt_val (pe_call (ok_is_alphabet T) (hr.mono (by decide)) (by rfl) T.g_is_alphabet T.F_is_alphabet.kp T.b_is_alphabet .nil pass0 (pa_cons (pv 1) pa_nil))))
      (pss_one (ps_raise rfl (takes_of rfl rfl rfl rfl) (pmk_oex T.x_InvalidAlphabet T.i_InvalidAlphabet___init T.t_InvalidAlphabet___init (ok_InvalidAlphabet___init T) (hr.mono (by decide)) T.b_InvalidAlphabet___init .nil pass0 (by rfl) T.gC_InvalidAlphabet (pa_cons (pv 1) pa_nil))))
      pss_nil)
      (pss_cons (ps_if (PW.pt (pw_or (pt_not (pt_val (pe_call (ok_is_listed T) (hr.mono (by decide)) (by rfl) T.g_is_listed T.F_is_listed.kp T.b_is_listed .nil pass0 (pa_cons (pv 2) pa_nil)))) (pw_or1 (pt_not (pt_truth (pv 2) (by intro _; rfl))))))
      (pss_one (ps_raise rfl (takes_of rfl rfl rfl rfl) (pmk_oex T.x_InvalidLine T.i_InvalidLine___init T.t_InvalidLine___init (ok_InvalidLine___init T) (hr.mono (by decide)) T.b_InvalidLine___init .nil pass0 (by rfl) T.gC_InvalidLine (pa_cons pe_int pa_nil))))
      pss_nil)
      (pss_cons (ps_if (pt_cmpR op_gt (pe_callB call_len_seq (by rfl) T.z_len (by decide +kernel) (pa_cons (pv 2) pa_nil)) (pe_con (pv 0) rfl) (nomark _))
      (pss_one (ps_raise rfl (takes_of rfl rfl rfl rfl) (pmk_oex T.x_TooMany T.i_TooMany___init T.t_TooMany___init (ok_TooMany___init T) (hr.mono (by decide)) T.b_TooMany___init .nil pass0 (by rfl) T.gC_TooMany (pa_cons pe_str (pa_cons (pe_con (pv 0) rfl) pa_nil)))))
      pss_nil)
      (pss_cons (ps_expr (pe_call (ok_check_lines T) (hr.mono (by decide)) (by rfl) T.g_check_lines T.F_check_lines.kp T.b_check_lines .nil (passE (takes_of rfl rfl rfl rfl)) (pa_cons (pv 1) (pa_cons (pv 2) pa_nil))))
      (pss_cons (ps_fld (pv 0) (pv 1) rfl)
      (pss_cons (ps_fld (pv 0) (pe_callTy call_list_of (by rfl) T.z_list (by decide +kernel) (pa_cons (pv 2) pa_nil)) rfl)
      (pss_one (ps_fld (pv 0) (pv 3) rfl))))))))), ?_⟩)
  · obtain ⟨x, dx, A, R, F, rfl, _⟩ := h
    rfl
  · obtain ⟨x, dx, A, R, F, rfl, hx, q⟩ := h
    walk_at "ss"
    rcases q with ⟨hA, q⟩ | ⟨al, rfl, hA, q⟩
    · rcases hA with ⟨z, rfl, hz, hn⟩ | hn
      · refine .inl ⟨z, rfl, hz, fun H1 s1 => ?_⟩
        rw [decide_eq_false hn]
        walk_at "ss"
        first | exact err_out (fun d G _ s2 e => q d G (s1.trans s2) e) | exact (err_out (fun d G _ s2 e => q d G (s1.trans s2) e)).2
      · refine .inr ⟨hn, fun H1 s1 => ?_⟩
        walk_at "ss"
        first | exact err_out (fun d G _ s2 e => q d G (s1.trans s2) e) | exact (err_out (fun d G _ s2 e => q d G (s1.trans s2) e)).2
    have al4 : al.length ≤ 4 := by rw [len_tl]; exact hA.2.1
    refine .inl ⟨al, rfl, by omega, fun H1 s1 => ?_⟩
    rw [decide_eq_true hA]
    walk_at "ss"
    rcases q with ⟨hR, q⟩ | ⟨r, xs, rfl, nr, hS, x1, x2, q⟩
    · rcases hR with ⟨p, rfl, hp⟩ | ⟨t, ht, k1, k2⟩
      · refine .inl ⟨p, [], rfl, hp.same s1, fun H2 s2 => ?_⟩
        walk_at "ss"
        refine ⟨false, tru_seq ((hp.same s1).same s2), ?_⟩
        walk_at "ss"
        first | exact err_out (fun d G _ s3 e => q d G ((s1.trans s2).trans s3) e) | exact (err_out (fun d G _ s3 e => q d G ((s1.trans s2).trans s3) e)).2
      · refine .inr ⟨t, tyx_same s1 ht, k1, k2, fun H2 s2 => ?_⟩
        walk_at "ss"
        first | exact err_out (fun d G _ s3 e => q d G ((s1.trans s2).trans s3) e) | exact (err_out (fun d G _ s3 e => q d G ((s1.trans s2).trans s3) e)).2
    refine .inl ⟨r, xs, rfl, hS.same s1, fun H2 s2 => ?_⟩
    have s12 := s1.trans s2
    have hS2 := hS.same s12
    have hx2 := s12 _ _ hx
    walk_at "ss"
    have ne0 : (!xs.isEmpty) = true := by cases xs with | nil => simp at x1 | cons => rfl
    refine ⟨true, ne0 ▸ tru_seq hS2, ?_⟩
    walk_at "ss"
    refine ⟨x, T.C_Formula, dx, _, _, _, rfl, hx2, T.cl_Formula, T.o_Formula_MOST, rfl, ?_⟩
    walk_at "ss"
    rcases q with ⟨hm, q⟩ | ⟨hm, ds, hD, ok, q⟩
    · refine iteP (decide_eq_true (by omega)) ?_
      walk_at "ss"
      refine ⟨x, T.C_Formula, dx, _, _, _, rfl, hx2, T.cl_Formula, T.o_Formula_MOST, rfl, ?_⟩
      walk_at "ss"
      first | exact many_out (fun d G _ s3 e => q d G (s12.trans s3) e) | exact (many_out (fun d G _ s3 e => q d G (s12.trans s3) e)).2
    refine iteN (by rw [decide_eq_false (by omega)]; decide) ?_
    walk_at "ss"
    refine ⟨al, r, xs, ds, rfl, al4, hS2, x2, dpa_same hD s12, ok, ?_⟩
    rcases q with ⟨i, i1, i2, i3, q⟩ | ⟨all, q⟩
    · exact .inl ⟨i, i1, i2, i3, fun d G s3 e => q d G (s12.trans s3) e⟩
    refine .inr ⟨all, fun H3 s3 => ?_⟩
    have hx3 := s3 _ _ hx2
    have hS3 := hS2.same s3
    have s13 := s12.trans s3
    walk_at "ss"
    refine ⟨x, T.C_Formula, dx, [], rfl, hx3, T.cl_Formula, T.n_Formula__alphabet, (by show 0 < 1000; decide), ?_⟩
    walk_at "ss"
    refine ⟨r, _, rfl, hS3.ne nr, fun l hl4 => ?_⟩
    have lx : l ≠ x := ne_none hl4 upd_same
    have hl3 : H3 l = none := by rw [upd_ne lx] at hl4; exact hl4
    refine ⟨_, rfl, x, T.C_Formula, dx, _, rfl, by rw [upd_ne lx.symm]; exact upd_same, T.cl_Formula, T.n_Formula__lines, (by show 1 < 1000; decide), ?_⟩
    walk_at "ss"
    refine ⟨x, T.C_Formula, dx, _, rfl, upd_same, T.cl_Formula, T.n_Formula__first, (by show 2 < 1000; decide), ?_⟩
    refine q _ l (fun c o ne h => ?_) upd_same (s13.free hl3) (by rw [upd_ne lx, upd_ne lx, upd_same])
    have h3 := s13 _ _ h
    rw [upd_ne ne, upd_ne ne, upd_ne (ne_of_none h3 hl3), upd_ne ne]
    exact h3
end

/-! ### lines that can't stand -/
local macro_rules | `(tactic| walk_at "hp") => `(tactic| first
  | exact upd_same
  | (refine same_upd (by assumption) _ _ ?_; walk_at "hp")
  | assumption)
def farL : List PyData := [.tuple [.str "not", .none]]
/-- the first lot: what refers too far -/
def wrong1 (f : PyData) : List PyData := [.tuple [.str "not", f], .tuple [.str "before", f], .tuple [.str "since", f, .int 0], .tuple [.str "since", .int 0, f], .tuple [.str "count", f, .int 2, .int 0], .tuple [.str "and", .tuple [f]], .tuple [.str "or", .tuple [.int 0, f]], .tuple [.str "and", .tuple [.int 0, .int 0]],
  .tuple [.str "or", .list [.int 0]], .tuple [.str "and", .int 0], .tuple [.str "not", .tuple [.int 0]], .tuple [.str "not"], .tuple [.str "since", .int 0], .tuple [.str "is"]]
def wrong2 (al : Str) (s c : Nat) : List PyData := [.tuple [.str "is", .str ⟨#[c]⟩], .tuple [.str "is", .str ⟨#[s, s]⟩], .tuple [.str "is", .none], .tuple [.str "is", .tuple [.str ⟨#[s]⟩]], .tuple [.str "is", .str (al ++ ⟨#[c]⟩)]]
def wrong3 (x : PyData) : List PyData := [.tuple [.str "count", .int 0, x, .int 0], .tuple [.str "count", .int 0, .int 3, .int 3], .tuple [.str "count", .int 0, .int 2, .int (-1)], .tuple [.str "count", .int 0, .int 2], .tuple [.str "letter"], .tuple [.str "xor", .tuple [.int 0]], .list [.str "not", .int 0], .none, .int 3, .tuple [], .str "not", .tuple [.none, .int 0]]
/-- a plain value: no tuple, no list; a short text -/
def PlainD (d : PyData) : Prop := d = .none ∨ (∃ b, d = .bool b) ∨ (∃ i, d = .int i) ∨ d = .str "0"
def BadD (al : List Nat) (n : Int) (d : PyData) : Prop := standD al n d = false ∧ OkD d ∧ no5 d = true
theorem PlainD.n5 {d : PyData} (h : PlainD d) : no5 d = true := by
  rcases h with rfl | ⟨b, rfl⟩ | ⟨i, rfl⟩ | rfl <;> rfl
theorem PlainD.short {d : PyData} (h : PlainD d) : (∀ z, d = .str z → z.length ≤ 1000) ∧ ∀ ds, d = .tuple ds → ds.length ≤ 1000 := by
  rcases h with rfl | ⟨b, rfl⟩ | ⟨i, rfl⟩ | rfl
  · exact ⟨fun z e => (by cases e), fun z e => (by cases e)⟩
  · exact ⟨fun z e => (by cases e), fun z e => (by cases e)⟩
  · exact ⟨fun z e => (by cases e), fun z e => (by cases e)⟩
  · exact ⟨fun z e => (by cases e; decide), fun z e => (by cases e)⟩
theorem short_int {i : Int} : (∀ z, PyData.int i = .str z → z.length ≤ 1000) ∧ ∀ ds, PyData.int i = .tuple ds → ds.length ≤ 1000 := ⟨fun z e => (by cases e), fun z e => (by cases e)⟩
theorem short_non : (∀ z, PyData.none = .str z → z.length ≤ 1000) ∧ ∀ ds, PyData.none = .tuple ds → ds.length ≤ 1000 := ⟨fun z e => (by cases e), fun z e => (by cases e)⟩
theorem short_lst {xs : List PyData} : (∀ z, PyData.list xs = .str z → z.length ≤ 1000) ∧ ∀ ds, PyData.list xs = .tuple ds → ds.length ≤ 1000 := ⟨fun z e => (by cases e), fun z e => (by cases e)⟩
theorem short_tup {xs : List PyData} (h : xs.length ≤ 1000) : (∀ z, PyData.tuple xs = .str z → z.length ≤ 1000) ∧ ∀ ds, PyData.tuple xs = .tuple ds → ds.length ≤ 1000 := ⟨fun z e => (by cases e), fun z e => (by cases e; exact h)⟩
theorem short_str {y : Str} (h : y.length ≤ 1000) : (∀ z, PyData.str y = .str z → z.length ≤ 1000) ∧ ∀ ds, PyData.str y = .tuple ds → ds.length ≤ 1000 := ⟨fun z e => (by cases e; exact h), fun z e => (by cases e)⟩
theorem ok0 {k : Str} (hk : k ∈ kinds9) : OkD (.tuple [.str k]) := ⟨hk, by decide, fun d hd => by cases hd⟩
theorem ok1 {k : Str} {a : PyData} (hk : k ∈ kinds9) (h : (∀ z, a = .str z → z.length ≤ 1000) ∧ ∀ ds, a = .tuple ds → ds.length ≤ 1000) : OkD (.tuple [.str k, a]) := ⟨hk, by show 1 ≤ 3; decide, fun d hd => by rw [List.mem_singleton.mp hd]; exact h⟩
theorem ok2 {k : Str} {a b : PyData} (hk : k ∈ kinds9) (h : (∀ z, a = .str z → z.length ≤ 1000) ∧ ∀ ds, a = .tuple ds → ds.length ≤ 1000) (h2 : (∀ z, b = .str z → z.length ≤ 1000) ∧ ∀ ds, b = .tuple ds → ds.length ≤ 1000) : OkD (.tuple [.str k, a, b]) := ⟨hk, by show 2 ≤ 3; decide, fun d hd => by
  rcases List.mem_cons.mp hd with rfl | hd
  · exact h
  · rw [List.mem_singleton.mp hd]
    exact h2⟩
theorem ok3 {k : Str} {a b c : PyData} (hk : k ∈ kinds9) (h : (∀ z, a = .str z → z.length ≤ 1000) ∧ ∀ ds, a = .tuple ds → ds.length ≤ 1000) (h2 : (∀ z, b = .str z → z.length ≤ 1000) ∧ ∀ ds, b = .tuple ds → ds.length ≤ 1000) (h3 : (∀ z, c = .str z → z.length ≤ 1000) ∧ ∀ ds, c = .tuple ds → ds.length ≤ 1000) : OkD (.tuple [.str k, a, b, c]) := ⟨hk, by show 3 ≤ 3; decide, fun d hd => by
  rcases List.mem_cons.mp hd with rfl | hd
  · exact h
  · rcases List.mem_cons.mp hd with rfl | hd
    · exact h2
    · rw [List.mem_singleton.mp hd]
      exact h3⟩
theorem is1 (al : List Nat) (n : Int) (a : PyData) : standD al n (.tuple [.str "is", a]) = lettersD al a := by rw [standD1, if_pos rfl]
theorem not1 (al : List Nat) (n : Int) (a : PyData) : standD al n (.tuple [.str "not", a]) = belowD n a := by rw [standD1, if_neg (by decide +kernel), if_pos (by decide +kernel)]
theorem before1 (al : List Nat) (n : Int) (a : PyData) : standD al n (.tuple [.str "before", a]) = belowD n a := by rw [standD1, if_neg (by decide +kernel), if_pos (by decide +kernel)]
theorem and1 (al : List Nat) (n : Int) (a : PyData) : standD al n (.tuple [.str "and", a]) = refsD n a := by rw [standD1, if_neg (by decide +kernel), if_neg (by decide +kernel), if_pos (by decide +kernel)]
theorem or1 (al : List Nat) (n : Int) (a : PyData) : standD al n (.tuple [.str "or", a]) = refsD n a := by rw [standD1, if_neg (by decide +kernel), if_neg (by decide +kernel), if_pos (by decide +kernel)]
theorem since2 (al : List Nat) (n : Int) (a b : PyData) : standD al n (.tuple [.str "since", a, b]) = (belowD n a && belowD n b) := by rw [standD2, if_pos rfl]
theorem count3 (al : List Nat) (n : Int) (a b c : PyData) : standD al n (.tuple [.str "count", a, b, c]) = (belowD n a && (primeD b && belowD (intD b) c)) := by rw [standD3, if_pos rfl]
theorem wrong1_bad {al : List Nat} {n : Int} {f : PyData} (h : PlainD f) (hb : belowD n f = false) : ∀ d ∈ wrong1 f, BadD al n d := by
  have n5 := h.n5
  intro d hd
  unfold wrong1 at hd
  simp only [List.mem_cons, List.not_mem_nil, or_false] at hd
  rcases hd with rfl | rfl | rfl | rfl | rfl | rfl | rfl | rfl | rfl | rfl | rfl | rfl | rfl | rfl
  · exact ⟨by rw [not1, hb], ok1 (by decide +kernel) h.short, by simp [no5, no5All, n5]⟩
  · exact ⟨by rw [before1, hb], ok1 (by decide +kernel) h.short, by simp [no5, no5All, n5]⟩
  · exact ⟨by rw [since2, hb]; rfl, ok2 (by decide +kernel) h.short short_int, by simp [no5, no5All, n5]⟩
  · exact ⟨by rw [since2, hb, Bool.and_false], ok2 (by decide +kernel) short_int h.short, by simp [no5, no5All, n5]⟩
  · exact ⟨by rw [count3, hb]; rfl, ok3 (by decide +kernel) h.short short_int short_int, by simp [no5, no5All, n5]⟩
  · exact ⟨by rw [and1]; simp [refsD, hb], ok1 (by decide +kernel) (short_tup (by simp)), by simp [no5, no5All, n5]⟩
  · exact ⟨by rw [or1]; simp [refsD, hb], ok1 (by decide +kernel) (short_tup (by simp)), by simp [no5, no5All, n5]⟩
  · exact ⟨by rw [and1]; show (_ && ascD _) = false; rw [show ascD [.int 0, .int 0] = false by rfl, Bool.and_false], ok1 (by decide +kernel) (short_tup (by simp)), rfl⟩
  · exact ⟨by rw [or1]; rfl, ok1 (by decide +kernel) short_lst, rfl⟩
  · exact ⟨by rw [and1]; rfl, ok1 (by decide +kernel) short_int, rfl⟩
  · exact ⟨by rw [not1]; rfl, ok1 (by decide +kernel) (short_tup (by simp)), rfl⟩
  · exact ⟨rfl, ok0 (by decide +kernel), rfl⟩
  · exact ⟨by rw [standD1, if_neg (by decide +kernel), if_neg (by decide +kernel), if_neg (by decide +kernel)], ok1 (by decide +kernel) short_int, rfl⟩
  · exact ⟨rfl, ok0 (by decide +kernel), rfl⟩
theorem wrong2_bad {al : Str} {n : Int} {s c : Nat} (hs : s ∈ al.cps.toList) (hc : c ∉ al.cps.toList) (hn : al.cps.toList.Nodup) (h4 : al.length ≤ 4) : ∀ d ∈ wrong2 al s c, BadD al.cps.toList n d := by
  intro d hd
  unfold wrong2 at hd
  simp only [List.mem_cons, List.not_mem_nil, or_false] at hd
  have key : ∀ z : Str, z.cps.toList ≠ al.cps.toList.filter (fun c => decide (c ∈ z.cps.toList)) → lettersD al.cps.toList (.str z) = false := fun z h => decide_eq_false fun e => h (by conv => lhs; rw [e])
  rcases hd with rfl | rfl | rfl | rfl | rfl
  · refine ⟨?_, ok1 (by decide +kernel) (short_str (by show _ ≤ 1000; simp [Str.length])), rfl⟩
    rw [is1]
    refine key _ fun e => ?_
    have : c ∈ al.cps.toList.filter (fun d => decide (d ∈ (⟨#[c]⟩ : Str).cps.toList)) := by rw [← e]; simp
    exact hc (List.mem_filter.mp this).1
  · refine ⟨?_, ok1 (by decide +kernel) (short_str (by show _ ≤ 1000; simp [Str.length])), rfl⟩
    rw [is1]
    refine key _ fun e => ?_
    have h2 := hn.filter fun d => decide (d ∈ (⟨#[s, s]⟩ : Str).cps.toList)
    rw [← e] at h2
    simp at h2
  · exact ⟨by rw [is1]; rfl, ok1 (by decide +kernel) short_non, rfl⟩
  · exact ⟨by rw [is1]; rfl, ok1 (by decide +kernel) (short_tup (by simp)), rfl⟩
  · refine ⟨?_, ok1 (by decide +kernel) (short_str (by show (al.cps ++ #[c]).size ≤ 1000; rw [Array.size_append]; show al.length + 1 ≤ 1000; omega)), rfl⟩
    rw [is1]
    refine key _ fun e => ?_
    have : c ∈ al.cps.toList.filter (fun d => decide (d ∈ (al ++ ⟨#[c]⟩ : Str).cps.toList)) := by
      rw [← e]
      show c ∈ (al.cps ++ #[c]).toList
      simp
    exact hc (List.mem_filter.mp this).1
theorem wrong3_bad {al : List Nat} {n : Int} {x : PyData} (h : PlainD x) (hp : primeD x = false) : ∀ d ∈ wrong3 x, BadD al n d := by
  have n5 := h.n5
  intro d hd
  unfold wrong3 at hd
  simp only [List.mem_cons, List.not_mem_nil, or_false] at hd
  rcases hd with rfl | rfl | rfl | rfl | rfl | rfl | rfl | rfl | rfl | rfl | rfl | rfl
  · exact ⟨by rw [count3, hp]; simp, ok3 (by decide +kernel) short_int h.short short_int, by simp [no5, no5All, n5]⟩
  · exact ⟨by rw [count3, show belowD (intD (.int 3)) (.int 3) = false by rfl]; simp, ok3 (by decide +kernel) short_int short_int short_int, rfl⟩
  · exact ⟨by rw [count3, show belowD (intD (.int 2)) (.int (-1)) = false by rfl]; simp, ok3 (by decide +kernel) short_int short_int short_int, rfl⟩
  · exact ⟨by rw [standD2, if_neg (by decide +kernel)], ok2 (by decide +kernel) short_int short_int, rfl⟩
  · exact ⟨rfl, ok0 (by decide +kernel), rfl⟩
  · exact ⟨by rw [standD1, if_neg (by decide +kernel), if_neg (by decide +kernel), if_neg (by decide +kernel)], ok1 (by decide +kernel) (short_tup (by simp)), rfl⟩
  · exact ⟨rfl, trivial, rfl⟩
  · exact ⟨rfl, trivial, rfl⟩
  · exact ⟨rfl, trivial, rfl⟩
  · exact ⟨rfl, trivial, rfl⟩
  · exact ⟨rfl, trivial, rfl⟩
  · exact ⟨rfl, (by show 1 ≤ 3; decide), rfl⟩
theorem BagAt.nlen {b l p : Addr} {H : Hp} {xs : List V} (B : BagAt b l H) (e : H p = some (.lst xs)) (h : xs.length ≠ 5) : p ≠ b := fun z => by
  obtain ⟨⟨i, r, m, c, ns, hb, _⟩, _⟩ := B
  rw [z, hb] at e
  cases e
  exact h rfl

section
variable {P : Program} {w : World} {K : PySem.W.Frag} {mg : Str → Option Value} {base : Heap}
/-- the letters that are left -/
def restOf (cs : List Nat) (i : Nat) : Option V := if 97 + i ∈ cs then none else some (.str (sg (97 + i)))
theorem rest_mem {cs : List Nat} {v : V} (h : v ∈ (List.range 26).filterMap (restOf cs)) : ∃ c, v = .str (sg c) ∧ c ∉ cs ∧ 97 ≤ c ∧ c ≤ 122 := by
  obtain ⟨i, hi, e⟩ := List.mem_filterMap.mp h
  have := List.mem_range.mp hi
  unfold restOf at e
  split at e
  · cases e
  · rename_i hn
    exact ⟨97 + i, (Option.some.inj e).symm, hn, by omega, by omega⟩
theorem rest_len {cs : List Nat} (hl : cs.length ≤ 3) : 0 < ((List.range 26).filterMap (restOf cs)).length ∧ ((List.range 26).filterMap (restOf cs)).length ≤ 26 := by
  have h2 := List.length_filterMap_le (restOf cs) (List.range 26)
  rw [List.length_range] at h2
  refine ⟨?_, h2⟩
  rw [List.length_pos_iff]
  intro e
  have h3 : ∀ i < 26, 97 + i ∈ cs := fun i hi => by
    by_cases hm : 97 + i ∈ cs
    · exact hm
    · have : V.str (sg (97 + i)) ∈ (List.range 26).filterMap (restOf cs) := List.mem_filterMap.mpr ⟨i, List.mem_range.mpr hi, by unfold restOf; rw [if_neg hm]⟩
      rw [e] at this
      cases this
  have m0 := h3 0 (by decide)
  have m1 := h3 1 (by decide)
  have m2 := h3 2 (by decide)
  have m3 := h3 3 (by decide)
  clear h3 e h2
  match cs, hl, m0, m1, m2, m3 with
  | [], _, m0, _, _, _ => simp at m0
  | [a], _, m0, m1, _, _ =>
    simp at m0 m1
    omega
  | [a, b], _, m0, m1, m2, _ =>
    simp at m0 m1 m2
    omega
  | [a, b, c], _, m0, m1, m2, m3 =>
    simp at m0 m1 m2 m3
    omega
  | _ :: _ :: _ :: _ :: _, h, _, _, _, _ =>
    simp at h
def spSigns : Sp := fun vs H Q _ => ∃ (b l : Addr), vs = [.ref b] ∧ BagAt b l H ∧ ∀ z H', Alpha z.cps.toList → BagAt b l H' → Kp b H H' → Q (.str z) H'
theorem ok_signs (T : Env K mg) : FnOk P w K mg base CX0 3 T.f_signs T.fd_signs ["_law_bag_here"] spSigns := by
  refine T.F_signs.ok sc_signs (fun vs H Q E h => ?_) (fun cdv A outer s H vs Q E hr h => ⟨_, ((pss_cons (ps_set (i := 1) sc_signs.nd rfl (.inl rfl) (pe_op op_add pe_int (pe_call (ok_of T) (hr.mono (by decide)) (by rfl) T.g_of T.F_of.kp T.b_of .nil pass0 (pa_cons (pv 0) (pa_cons (pe_lst (pa_cons pe_int (pa_cons pe_int (pa_cons pe_int (pa_cons pe_int (pa_cons pe_int (pa_cons pe_int pa_nil))))))) pa_nil)))))
      (pss_cons (ps_set (i := 2) sc_signs.nd rfl (.inr rfl) (pe_lst pa_nil))
      (pss_cons (ps_for PassesOwn.never rfl (pi_range1 (by rfl) T.z_range (pa_cons (pv 1) pa_nil)) (pg_name (i := 3) sc_signs.nd rfl (.inl rfl))
      (pss_cons (ps_setLc (i := 4) (own := [("_law_sign", 5)]) (g := (gName 5)) (tt := (tTest (tOp (rIn K true) _ _))) rfl sc_signs.nd rfl rfl (sw_true rfl rfl rfl (by decide +kernel)) (pi_str pe_str) (blkOk_by (own := [("_law_sign", 5)]) (N := N_signs) (sc := defScope s_signs) (by decide +kernel)) (fun _ _ _ _ _ => (pg_name (i := 5) sc_signs.nd rfl (.inl rfl))) (fun _ _ _ _ _ => (pts_one (pt_cmpR op_notIn_seq (pv 5) (pv 2) (by rfl)))) (fun _ _ _ _ _ => (pv 5)))
      (pss_one (ps_expr (pe_bm PySem.F.plainAttrs_list PySem.F.slot_list_append PySem.F.type_list_append mt_append (pv 2) (pa_cons (pe_ix ix_list (pv 4) (pe_call (ok_of T) (hr.mono (by decide)) (by rfl) T.g_of T.F_of.kp T.b_of .nil pass0 (pa_cons (pv 0) (pa_cons (pe_lst (pa_cons pe_int (pa_cons pe_int (pa_cons pe_int (pa_cons (pe_call (ok_pull T) (hr.mono (by decide)) (by rfl) T.g_pull T.F_pull.kp T.b_pull .nil pass0 (pa_cons (pv 0) (pa_cons (pe_callB call_len_seq (by rfl) T.z_len (by decide +kernel) (pa_cons (pv 4) pa_nil)) pa_nil))) pa_nil))))) pa_nil))) (fun _ _ => rfl)) pa_nil))))))
      (pss_one (ps_ret (pe_join pe_str (pe_callB cr_sortedS (by rfl) T.z_sorted (by decide +kernel) (pa_cons (pv 2) pa_nil))))))))), ?_⟩)
  · obtain ⟨b, l, rfl, _⟩ := h
    rfl
  · obtain ⟨b, l, rfl, B, q⟩ := h
    walk_at "ss"
    intro p hp
    have s0 : Same H (upd H p (.lst [.int 0, .int 1, .int 1, .int 1, .int 2, .int 3])) := same_upd hp
    refine ⟨b, l, _, rfl, B.same s0, .inl ⟨p, _, rfl, B.nb hp, .inl (SqL.of upd_same), by simp, by simp, fun v H1 hv B1 k1 => ?_⟩⟩
    obtain ⟨n, rfl, n0, n3⟩ : ∃ n : Int, v = .int n ∧ 0 ≤ n ∧ n ≤ 3 := by
      simp at hv
      rcases hv with rfl | rfl | rfl | rfl | rfl | rfl <;> exact ⟨_, rfl, by decide, by decide⟩
    have k2 : Kp b H H1 := (Kp.same s0).trans k1
    walk_at "ss"
    intro F hF
    have hFH : H F = none := k2.free B1 hF
    have nFb : F ≠ b := B1.nb hF
    have nFl : F ≠ l := B1.nl hF
    have k3 : Kp b H (upd H1 F (.lst [])) := k2.mut hFH
    refine ⟨_, rfl, _, rfl, by omega, by omega, ?_⟩
    refine for_it walk_range (fun i σ H' => Stp (∃ (y3 y4 y5 : Option V) (cs : List Nat), σ = [some (.ref b), some (.int (1 + n)), some (.ref F), y3, y4, y5] ∧ BagAt b l H' ∧ Kp b H H' ∧
      H' F = some (.lst (cs.map fun c => V.str (sg c))) ∧ cs.length = i ∧ cs.Nodup ∧ ∀ c ∈ cs, 97 ≤ c ∧ c ≤ 122))
      (.mk ⟨none, none, none, [], rfl, (B1.mut nFb nFl), k3, upd_same, rfl, List.nodup_nil, fun _ h => nomatch h⟩) (fun _ _ _ _ _ => trivial) ?_ ?_
    · rintro i x σ H2 H3 hi hP ⟨rfl, rfl⟩
      obtain ⟨y3, y4, y5, cs, rfl, B2, k4, hcs, hlen, hnd, hc⟩ := hP.of
      walk_at "ss"
      intro D hD
      refine lc_fil walk_str (fun H' => Same H3 H') (restOf cs) (by rw [az_size]; decide) (same_upd hD) (fun _ _ => trivial) (fun _ _ h => same_mut h hD) ?_ ?_
      · rintro i2 x H4 H5 Q1 Qn hlt hI ⟨rfl, c, hcz, rfl⟩ - hQ hN
        obtain ⟨hi26, rfl⟩ := az_at hcz
        walk_at "ss"
        refine ⟨F, _, rfl, .inl (SqL.of (hI _ _ hcs)), rfl, by simp [flatV], ?_⟩
        rw [in_sg]
        walk_at "ss"
        refine ite2 (fun e => ?_) (fun e => ?_)
        · have e2 : 97 + i2 ∉ cs := by simpa using e
          walk_at "ss"
          exact hQ _ _ (by unfold restOf; rw [if_neg e2]) hI (fun _ h => h)
        · have e2 : 97 + i2 ∈ cs := by simpa using e
          exact hN _ (by unfold restOf; rw [if_pos e2]) hI (fun _ h => h)
      · intro H4 hI hy
        rw [az_size] at hy
        obtain ⟨r0, r1⟩ := rest_len (cs := cs) (by omega)
        have B4 := B2.same hI
        walk_at "ss"
        refine ⟨.inl ⟨rfl, _, SqL.of (hI _ _ hcs)⟩, ?_⟩
        walk_at "ss"
        refine ⟨D, _, rfl, .inl (SqL.of hy), ?_⟩
        refine ⟨b, l, _, rfl, B4, by omega, by omega, fun k H5 k0 k1 B5 kp5 => ?_⟩
        walk_at "ss"
        intro p2 hp2
        have s6 : Same H5 (upd H5 p2 (.lst [.int 0, .int 0, .int 0, .int k])) := same_upd hp2
        refine ⟨b, l, _, rfl, B5.same s6, .inl ⟨p2, _, rfl, B5.nb hp2, .inl (SqL.of upd_same), by simp, by simp, fun v H7 hv B7 k7 => ?_⟩⟩
        obtain ⟨j, rfl, j0, j1⟩ : ∃ j : Int, v = .int j ∧ 0 ≤ j ∧ j < ((List.range 26).filterMap (restOf cs)).length := by
          simp at hv
          rcases hv with rfl | rfl
          · exact ⟨_, rfl, by omega, by omega⟩
          · exact ⟨_, rfl, k0, k1⟩
        have k47 : Kp b H4 H7 := kp5.trans ((Kp.same s6).trans k7)
        have nD : D ≠ b := B2.nb hD
        obtain ⟨u, hu, hm⟩ := at_in j0 j1
        obtain ⟨c, rfl, hcn, hc1, hc2⟩ := rest_mem hm
        refine ⟨D, _, j, _, rfl, rfl, SqL.of (k47 _ _ hy nD), hu, ?_⟩
        have hF7 : H7 F = some (.lst (cs.map fun c => V.str (sg c))) := k47 _ _ (hI _ _ hcs) nFb
        refine ⟨F, _, _, rfl, rfl, hF7, szl (by rw [List.length_map]; omega), ?_⟩
        refine .mk ⟨_, _, _, cs ++ [c], rfl, B7.mut nFb nFl, ((k4.trans (.same hI)).trans k47).mut hFH, ?_, by simp [hlen], ?_, ?_⟩
        · rw [upd_same, List.map_append]
          rfl
        · rw [List.nodup_append]
          refine ⟨hnd, by simp, fun x hx y hy => ?_⟩
          simp at hy
          rw [hy]
          intro e
          exact hcn (e ▸ hx)
        · intro x hx
          rcases List.mem_append.mp hx with hx | hx
          · exact hc x hx
          · simp at hx
            rw [hx]
            exact ⟨hc1, hc2⟩
    · intro σ H2 hP
      obtain ⟨y3, y4, y5, cs, rfl, B2, k4, hcs, hlen, hnd, hc⟩ := hP.of
      walk_at "ss"
      refine ⟨F, cs.map sg, rfl, SqL.of (by rw [List.map_map]; exact hcs), by rw [List.length_map]; omega, fun ys p2 perm srt hp2 => ?_⟩
      obtain ⟨ds, hd, rfl⟩ := perm_sg perm
      have hr := rise_lt (sorted_sg ds srt) (hd.nodup_iff.mpr hnd)
      have hln : ds.length = cs.length := hd.length_eq
      refine ⟨_, p2, ds.map sg, rfl, rfl, .inl (SqL.of upd_same), ?_, ?_⟩
      · rw [sum_sg, List.length_map]
        have : (Str.ofString "").length = 0 := rfl
        rw [this]
        omega
      · rw [join_sg]
        refine q _ _ ⟨?_, ?_, ?_, ?_⟩ (B2.same (same_upd hp2)) (k4.trans (.same (same_upd hp2)))
        · simp
          omega
        · simp
          omega
        · intro c hm
          simp at hm
          exact hc c (hd.mem_iff.mp hm)
        · simpa using hr
end

/-! ### a drawn line that can't stand -/
theorem n5_all : ∀ {ds : List PyData}, (∀ d ∈ ds, no5 d = true) → no5All ds = true
  | [], _ => rfl
  | d :: ds, h => by
    show (no5 d && no5All ds) = true
    rw [h d (List.mem_cons_self ..), n5_all fun x hx => h x (List.mem_cons_of_mem _ hx)]
    rfl
theorem rest8_mem {cs : List Nat} {v : V} (h : v ∈ (List.range 8).filterMap (restOf cs)) : ∃ c, v = .str (sg c) ∧ c ∉ cs := by
  obtain ⟨i, hi, e⟩ := List.mem_filterMap.mp h
  unfold restOf at e
  split at e
  · cases e
  · rename_i hn
    exact ⟨97 + i, (Option.some.inj e).symm, hn⟩
theorem rest8_len {cs : List Nat} (hl : cs.length ≤ 4) : 0 < ((List.range 8).filterMap (restOf cs)).length ∧ ((List.range 8).filterMap (restOf cs)).length ≤ 8 := by
  have h2 := List.length_filterMap_le (restOf cs) (List.range 8)
  rw [List.length_range] at h2
  refine ⟨?_, h2⟩
  rw [List.length_pos_iff]
  intro e
  have h3 : ∀ i < 8, 97 + i ∈ cs := fun i hi => by
    by_cases hm : 97 + i ∈ cs
    · exact hm
    · have : V.str (sg (97 + i)) ∈ (List.range 8).filterMap (restOf cs) := List.mem_filterMap.mpr ⟨i, List.mem_range.mpr hi, by unfold restOf; rw [if_neg hm]⟩
      rw [e] at this
      cases this
  have m0 := h3 0 (by decide)
  have m1 := h3 1 (by decide)
  have m2 := h3 2 (by decide)
  have m3 := h3 3 (by decide)
  have m4 := h3 4 (by decide)
  clear h3 e h2
  match cs, hl, m0, m1, m2, m3, m4 with
  | [], _, m0, _, _, _, _ => simp at m0
  | [a], _, m0, m1, _, _, _ =>
    simp at m0 m1
    omega
  | [a, b], _, m0, m1, m2, _, _ =>
    simp at m0 m1 m2
    omega
  | [a, b, c], _, m0, m1, m2, m3, _ =>
    simp at m0 m1 m2 m3
    omega
  | [a, b, c, d], _, m0, m1, m2, m3, m4 =>
    simp at m0 m1 m2 m3 m4
    omega
  | _ :: _ :: _ :: _ :: _ :: _, h, _, _, _, _, _ =>
    simp at h
theorem ah_text : (Str.ofString "abcdefgh").cps.toList = (List.range 8).map (97 + ·) := by decide +kernel
theorem ah_at {i c : Nat} (h : (Str.ofString "abcdefgh").cps[i]? = some c) : i < 8 ∧ c = 97 + i := by
  rw [get_tl, ah_text, List.getElem?_map] at h
  by_cases hi : i < 8
  · rw [List.getElem?_range hi] at h
    exact ⟨hi, (Option.some.inj h).symm⟩
  · rw [List.getElem?_eq_none_iff.mpr (by simp; omega)] at h
    cases h
theorem ah_size : (Str.ofString "abcdefgh").cps.size = 8 := by decide +kernel
def spWS (K : PySem.W.Frag) : Sp := fun vs H Q _ => ∃ (b l : Addr) (al : Str) (n : Nat), vs = [.ref b, .str al, .int (n : Nat)] ∧ BagAt b l H ∧ Alpha al.cps.toList ∧ 1 ≤ n ∧ n ≤ 1000 ∧
  ∀ (u : V) (d : PyData) (H' : Hp), Dp K H' u d → BadD al.cps.toList n d → BagAt b l H' → Kp b H H' → Q u H'
section
variable {P : Program} {w : World} {K : PySem.W.Frag} {mg : Str → Option Value} {base : Heap}
theorem ws3 (T : Env K mg) (cdv : Value) (A : Around) (outer : List PySem.Env) (s : Shared) (H : Hp) (E : XK) (hr : Room 2 (A.deeper (envOfC "_law_wrong_saying" (defScope s_wrong_saying) s.heap.objs.size T.f_wrong_saying cdv))) : ∃ t, PSs (cxOf CX0 P w K mg base N_wrong_saying "_law_wrong_saying" (defScope s_wrong_saying) T.f_wrong_saying cdv A outer s H E).nox ((defBody s_wrong_saying).drop 4) t ∧
    ∀ (D : Ends) (G : Hp) (b l E1 : Addr) (al : Str) (nz : Int) (x12 : List V) (d12 : List PyData) (y3 y4 y6 : Option V), BagAt b l G → G E1 = some (.lst x12) → x12.length = 19 → DpAll K G x12 d12 → (∀ d ∈ d12, BadD al.cps.toList nz d) →
      (∀ (u : V) (d : PyData) (H' : Hp), Dp K H' u d → BadD al.cps.toList nz d → BagAt b l H' → Kp b G H' → D.rt u H') → t D [some (.ref b), some (.str al), some (.int nz), y3, y4, some (.ref E1), y6] G := by
  refine ⟨_, ((pss_cons (ps_set (i := 5) sc_wrong_saying.nd rfl (.inl rfl) (pe_op op_cat (pv 5) (pe_lst (pa_cons (pe_tup (pa_cons pe_str (pa_cons pe_int (pa_cons (pe_call (ok_of T) (hr.mono (by decide)) (by rfl) T.g_of T.F_of.kp T.b_of .nil pass0 (pa_cons (pv 0) (pa_cons (pe_lst (pa_cons pe_int (pa_cons pe_int (pa_cons pe_int (pa_cons pe_int (pa_cons pe_non (pa_cons pe_int pa_nil))))))) pa_nil))) (pa_cons pe_int pa_nil))))) (pa_cons (pe_tup (pa_cons pe_str (pa_cons pe_int (pa_cons pe_int (pa_cons pe_int pa_nil))))) (pa_cons (pe_tup (pa_cons pe_str (pa_cons pe_int (pa_cons pe_int (pa_cons (pe_un un_neg pe_int) pa_nil))))) (pa_cons (pe_tup (pa_cons pe_str (pa_cons pe_int (pa_cons pe_int pa_nil)))) (pa_cons (pe_tup (pa_cons pe_str pa_nil)) (pa_cons (pe_tup (pa_cons pe_str (pa_cons (pe_tup (pa_cons pe_int pa_nil)) pa_nil))) (pa_cons (pe_lst (pa_cons pe_str (pa_cons pe_int pa_nil))) (pa_cons pe_non (pa_cons pe_int (pa_cons (pe_tup pa_nil) (pa_cons pe_str (pa_cons (pe_tup (pa_cons pe_non (pa_cons pe_int pa_nil))) pa_nil)))))))))))))))
      (pss_one (ps_ret (pe_call (ok_of T) (hr.mono (by decide)) (by rfl) T.g_of T.F_of.kp T.b_of .nil pass0 (pa_cons (pv 0) (pa_cons (pv 5) pa_nil))))))), ?_⟩
  rintro ⟨dn, dr, db, dc⟩ G b l E1 al nz x12 d12 y3 y4 y6 B eE1 l12 w12 bad12 q
  walk_at "ss"
  intro Dx nDx
  have sDx : Same G (upd G Dx (.lst [.int 1, .int 4, .int 101, .int 0, .non, .int 91])) := same_upd nDx
  refine ⟨b, l, _, rfl, B.same sDx, .inl ⟨Dx, _, rfl, B.nb nDx, .inl (SqL.of upd_same), (by intro z; cases z), (by show 6 ≤ 100000; decide), fun xv H7 hv B7 k7 => ?_⟩⟩
  obtain ⟨xd, hxd, pxd, bxd⟩ : ∃ xd : PyData, (∀ G, Dp K G xv xd) ∧ PlainD xd ∧ primeD xd = false := by
    simp only [List.mem_cons, List.not_mem_nil, or_false] at hv
    rcases hv with rfl | rfl | rfl | rfl | rfl | rfl
    · exact ⟨.int 1, fun _ => .int _, .inr (.inr (.inl ⟨_, rfl⟩)), by decide⟩
    · exact ⟨.int 4, fun _ => .int _, .inr (.inr (.inl ⟨_, rfl⟩)), by decide⟩
    · exact ⟨.int 101, fun _ => .int _, .inr (.inr (.inl ⟨_, rfl⟩)), by decide⟩
    · exact ⟨.int 0, fun _ => .int _, .inr (.inr (.inl ⟨_, rfl⟩)), by decide⟩
    · exact ⟨.none, fun _ => .non, .inl rfl, rfl⟩
    · exact ⟨.int 91, fun _ => .int _, .inr (.inr (.inl ⟨_, rfl⟩)), by decide⟩
  have n512 : no5All d12 = true := n5_all fun d hd => (bad12 d hd).2.2
  have w12 := dpa_kp k7 (B.same sDx) _ _ n512 (dpa_same w12 sDx)
  have eE1 := k7 _ _ (sDx _ _ eE1) (B.nlen eE1 (by omega))
  have k07 := (Kp.same (b := b) sDx).trans k7
  clear hv nDx sDx k7 B
  walk_at "ss"
  intro p1 np1
  have e1 : upd H7 p1 (.tup [.str "count", .int 0, xv, .int 0]) p1 = some (.tup [.str "count", .int 0, xv, .int 0]) := upd_same
  have s1 : Same H7 (upd H7 p1 (.tup [.str "count", .int 0, xv, .int 0])) := same_upd np1
  generalize upd H7 p1 (.tup [.str "count", .int 0, xv, .int 0]) = G1 at e1 s1 ⊢
  walk_at "ss"
  intro p2 np2
  have e2 : upd G1 p2 (.tup [.str "count", .int 0, .int 3, .int 3]) p2 = some (.tup [.str "count", .int 0, .int 3, .int 3]) := upd_same
  have s2 : Same G1 (upd G1 p2 (.tup [.str "count", .int 0, .int 3, .int 3])) := same_upd np2
  generalize upd G1 p2 (.tup [.str "count", .int 0, .int 3, .int 3]) = G2 at e2 s2 ⊢
  walk_at "ss"
  intro p3 np3
  have e3 : upd G2 p3 (.tup [.str "count", .int 0, .int 2, .int (-1)]) p3 = some (.tup [.str "count", .int 0, .int 2, .int (-1)]) := upd_same
  have s3 : Same G2 (upd G2 p3 (.tup [.str "count", .int 0, .int 2, .int (-1)])) := same_upd np3
  generalize upd G2 p3 (.tup [.str "count", .int 0, .int 2, .int (-1)]) = G3 at e3 s3 ⊢
  walk_at "ss"
  intro p4 np4
  have e4 : upd G3 p4 (.tup [.str "count", .int 0, .int 2]) p4 = some (.tup [.str "count", .int 0, .int 2]) := upd_same
  have s4 : Same G3 (upd G3 p4 (.tup [.str "count", .int 0, .int 2])) := same_upd np4
  generalize upd G3 p4 (.tup [.str "count", .int 0, .int 2]) = G4 at e4 s4 ⊢
  walk_at "ss"
  intro p5 np5
  have e5 : upd G4 p5 (.tup [.str "letter"]) p5 = some (.tup [.str "letter"]) := upd_same
  have s5 : Same G4 (upd G4 p5 (.tup [.str "letter"])) := same_upd np5
  generalize upd G4 p5 (.tup [.str "letter"]) = G5 at e5 s5 ⊢
  walk_at "ss"
  intro p6 np6
  have e6 : upd G5 p6 (.tup [.int 0]) p6 = some (.tup [.int 0]) := upd_same
  have s6 : Same G5 (upd G5 p6 (.tup [.int 0])) := same_upd np6
  generalize upd G5 p6 (.tup [.int 0]) = G6 at e6 s6 ⊢
  walk_at "ss"
  intro p7 np7
  have e7 : upd G6 p7 (.tup [.str "xor", .ref p6]) p7 = some (.tup [.str "xor", .ref p6]) := upd_same
  have s7 : Same G6 (upd G6 p7 (.tup [.str "xor", .ref p6])) := same_upd np7
  generalize upd G6 p7 (.tup [.str "xor", .ref p6]) = G7 at e7 s7 ⊢
  walk_at "ss"
  intro p8 np8
  have e8 : upd G7 p8 (.lst [.str "not", .int 0]) p8 = some (.lst [.str "not", .int 0]) := upd_same
  have s8 : Same G7 (upd G7 p8 (.lst [.str "not", .int 0])) := same_upd np8
  generalize upd G7 p8 (.lst [.str "not", .int 0]) = G8 at e8 s8 ⊢
  walk_at "ss"
  intro p9 np9
  have e9 : upd G8 p9 (.tup []) p9 = some (.tup []) := upd_same
  have s9 : Same G8 (upd G8 p9 (.tup [])) := same_upd np9
  generalize upd G8 p9 (.tup []) = G9 at e9 s9 ⊢
  walk_at "ss"
  intro p10 np10
  have e10 : upd G9 p10 (.tup [.non, .int 0]) p10 = some (.tup [.non, .int 0]) := upd_same
  have s10 : Same G9 (upd G9 p10 (.tup [.non, .int 0])) := same_upd np10
  generalize upd G9 p10 (.tup [.non, .int 0]) = G10 at e10 s10 ⊢
  walk_at "ss"
  intro Dc nDc
  have e11 : upd G10 Dc (.lst [.ref p1, .ref p2, .ref p3, .ref p4, .ref p5, .ref p7, .ref p8, .non, .int 3, .ref p9, .str "not", .ref p10]) Dc = some (.lst [.ref p1, .ref p2, .ref p3, .ref p4, .ref p5, .ref p7, .ref p8, .non, .int 3, .ref p9, .str "not", .ref p10]) := upd_same
  have s11 : Same G10 (upd G10 Dc (.lst [.ref p1, .ref p2, .ref p3, .ref p4, .ref p5, .ref p7, .ref p8, .non, .int 3, .ref p9, .str "not", .ref p10])) := same_upd nDc
  generalize upd G10 Dc (.lst [.ref p1, .ref p2, .ref p3, .ref p4, .ref p5, .ref p7, .ref p8, .non, .int 3, .ref p9, .str "not", .ref p10]) = G11 at e11 s11 ⊢
  have t11 : Same G11 G11 := Same.refl _
  have t10 := s11.trans t11
  have t9 := s10.trans t10
  have t8 := s9.trans t9
  have t7 := s8.trans t8
  have t6 := s7.trans t7
  have t5 := s6.trans t6
  have t4 := s5.trans t5
  have t3 := s4.trans t4
  have t2 := s3.trans t3
  have t1 := s2.trans t2
  have ttDc := s1.trans t1
  have wDc : DpAll K G11 [.ref p1, .ref p2, .ref p3, .ref p4, .ref p5, .ref p7, .ref p8, .non, .int 3, .ref p9, .str "not", .ref p10] (wrong3 xd) := (.cons (.tup (SqT.of (t1 _ _ e1)) (.cons (.str _) (.cons (.int _) (.cons (hxd _) (.cons (.int _) .nil))))) (.cons (.tup (SqT.of (t2 _ _ e2)) (.cons (.str _) (.cons (.int _) (.cons (.int _) (.cons (.int _) .nil))))) (.cons (.tup (SqT.of (t3 _ _ e3)) (.cons (.str _) (.cons (.int _) (.cons (.int _) (.cons (.int _) .nil))))) (.cons (.tup (SqT.of (t4 _ _ e4)) (.cons (.str _) (.cons (.int _) (.cons (.int _) .nil)))) (.cons (.tup (SqT.of (t5 _ _ e5)) (.cons (.str _) .nil)) (.cons (.tup (SqT.of (t7 _ _ e7)) (.cons (.str _) (.cons (.tup (SqT.of (t6 _ _ e6)) (.cons (.int _) .nil)) .nil))) (.cons (.lst (SqL.of (t8 _ _ e8)) (.cons (.str _) (.cons (.int _) .nil))) (.cons .non (.cons (.int _) (.cons (.tup (SqT.of (t9 _ _ e9)) .nil) (.cons (.str _) (.cons (.tup (SqT.of (t10 _ _ e10)) (.cons .non (.cons (.int _) .nil))) .nil))))))))))))
  have B8 := B7.same ttDc
  have k08 := k07.trans (Kp.same ttDc)
  have eE1 := ttDc _ _ eE1
  have w123 := dpa_app wDc (dpa_same w12 ttDc)
  have bad : ∀ d ∈ d12 ++ wrong3 xd, BadD al.cps.toList nz d := fun d hd => (List.mem_append.mp hd).elim (bad12 d) (wrong3_bad pxd bxd d)
  walk_at "ss"
  refine ⟨E1, Dc, _, _, rfl, rfl, eE1, e11, sz (by rw [l12]; simp), fun E2 nE2 => ?_⟩
  have sE2 : Same G11 (upd G11 E2 (.lst (x12 ++ [.ref p1, .ref p2, .ref p3, .ref p4, .ref p5, .ref p7, .ref p8, .non, .int 3, .ref p9, .str "not", .ref p10]))) := same_upd nE2
  have eE2 : upd G11 E2 (.lst (x12 ++ [.ref p1, .ref p2, .ref p3, .ref p4, .ref p5, .ref p7, .ref p8, .non, .int 3, .ref p9, .str "not", .ref p10])) E2 = some (.lst (x12 ++ [.ref p1, .ref p2, .ref p3, .ref p4, .ref p5, .ref p7, .ref p8, .non, .int 3, .ref p9, .str "not", .ref p10])) := upd_same
  have lx : (x12 ++ ([.ref p1, .ref p2, .ref p3, .ref p4, .ref p5, .ref p7, .ref p8, .non, .int 3, .ref p9, .str "not", .ref p10] : List V)).length = 31 := by rw [List.length_append, l12]; rfl
  generalize upd G11 E2 (.lst (x12 ++ [.ref p1, .ref p2, .ref p3, .ref p4, .ref p5, .ref p7, .ref p8, .non, .int 3, .ref p9, .str "not", .ref p10])) = G99 at sE2 eE2 ⊢
  generalize x12 ++ ([.ref p1, .ref p2, .ref p3, .ref p4, .ref p5, .ref p7, .ref p8, .non, .int 3, .ref p9, .str "not", .ref p10] : List V) = xx at w123 eE2 lx ⊢
  have B9 := B8.same sE2
  walk_at "ss"
  refine ⟨b, l, _, rfl, B9, .inl ⟨E2, _, rfl, B9.nlen eE2 (by omega), .inl (SqL.of eE2), (by intro z; rw [z] at lx; simp at lx), (by omega), fun u H' hu B' k' => ?_⟩⟩
  obtain ⟨iu, hiu⟩ := List.mem_iff_getElem?.mp hu
  obtain ⟨d, hd1, hd2⟩ := dpa_at (dpa_same w123 sE2) hiu
  have bd := bad d (List.mem_of_getElem? hd1)
  exact q u d H' (dp_kp k' B9 d u bd.2.2 hd2) bd B' ((k08.trans (Kp.same sE2)).trans k')
theorem ws2 (T : Env K mg) (cdv : Value) (A : Around) (outer : List PySem.Env) (s : Shared) (H : Hp) (E : XK) (hr : Room 2 (A.deeper (envOfC "_law_wrong_saying" (defScope s_wrong_saying) s.heap.objs.size T.f_wrong_saying cdv))) : ∃ t, PSs (cxOf CX0 P w K mg base N_wrong_saying "_law_wrong_saying" (defScope s_wrong_saying) T.f_wrong_saying cdv A outer s H E).nox ((defBody s_wrong_saying).drop 3) t ∧
    ∀ (D : Ends) (G : Hp) (b l Da : Addr) (al : Str) (nz : Int) (c : Nat) (x1 : List V) (d1 : List PyData) (y3 y6 : Option V), BagAt b l G → G Da = some (.lst x1) → x1.length = 14 → DpAll K G x1 d1 → (∀ d ∈ d1, BadD al.cps.toList nz d) → c ∉ al.cps.toList → Alpha al.cps.toList →
      (∀ (u : V) (d : PyData) (H' : Hp), Dp K H' u d → BadD al.cps.toList nz d → BagAt b l H' → Kp b G H' → D.rt u H') → t D [some (.ref b), some (.str al), some (.int nz), y3, some (.str (sg c)), some (.ref Da), y6] G := by
  obtain ⟨t3, h3, q3⟩ := ws3 (P := P) (w := w) (base := base) T cdv A outer s H E hr
  refine ⟨_, ((pss_cons (ps_set (i := 5) sc_wrong_saying.nd rfl (.inl rfl) (pe_op op_cat (pv 5) (pe_lst (pa_cons (pe_tup (pa_cons pe_str (pa_cons (pv 4) pa_nil))) (pa_cons (pe_tup (pa_cons pe_str (pa_cons (pe_op op_add_str (pe_ix ix_str (pv 1) pe_int (fun _ _ => rfl)) (pe_ix ix_str (pv 1) pe_int (fun _ _ => rfl))) pa_nil))) (pa_cons (pe_tup (pa_cons pe_str (pa_cons pe_non pa_nil))) (pa_cons (pe_tup (pa_cons pe_str (pa_cons (pe_tup (pa_cons (pe_ix ix_str (pv 1) pe_int (fun _ _ => rfl)) pa_nil)) pa_nil))) (pa_cons (pe_tup (pa_cons pe_str (pa_cons (pe_op op_add_str (pv 1) (pv 4)) pa_nil))) pa_nil))))))))
      h3)), ?_⟩
  rintro ⟨dn, dr, db, dc⟩ G b l Da al nz c x1 d1 y3 y6 B eDa l1 w1 bad1 hc hA q
  have al4 : al.length ≤ 4 := by rw [len_tl]; exact hA.2.1
  have al1 : 1 ≤ al.length := by rw [len_tl]; exact hA.1
  obtain ⟨s0, hs0, ms0⟩ := at_inN (xs := al.cps.toList) (i := 0) (by decide) (by rw [← len_tl]; omega)
  walk_at "ss"
  intro p1 np1
  have e1 : upd G p1 (.tup [.str "is", .str ⟨#[c]⟩]) p1 = some (.tup [.str "is", .str ⟨#[c]⟩]) := upd_same
  have s1 : Same G (upd G p1 (.tup [.str "is", .str ⟨#[c]⟩])) := same_upd np1
  generalize upd G p1 (.tup [.str "is", .str ⟨#[c]⟩]) = G1 at e1 s1 ⊢
  walk_at "ss"
  refine ⟨al, _, s0, rfl, rfl, sz (by omega), hs0, ?_⟩
  walk_at "ss"
  refine ⟨al, _, s0, rfl, rfl, sz (by omega), hs0, ?_⟩
  walk_at "ss"
  refine ⟨sz (by show 1 + 1 ≤ 100000; decide), ?_⟩
  walk_at "ss"
  intro p2 np2
  have e2 : upd G1 p2 (.tup [.str "is", .str (⟨#[s0]⟩ ++ ⟨#[s0]⟩)]) p2 = some (.tup [.str "is", .str (⟨#[s0]⟩ ++ ⟨#[s0]⟩)]) := upd_same
  have s2 : Same G1 (upd G1 p2 (.tup [.str "is", .str (⟨#[s0]⟩ ++ ⟨#[s0]⟩)])) := same_upd np2
  generalize upd G1 p2 (.tup [.str "is", .str (⟨#[s0]⟩ ++ ⟨#[s0]⟩)]) = G2 at e2 s2 ⊢
  walk_at "ss"
  intro p3 np3
  have e3 : upd G2 p3 (.tup [.str "is", .non]) p3 = some (.tup [.str "is", .non]) := upd_same
  have s3 : Same G2 (upd G2 p3 (.tup [.str "is", .non])) := same_upd np3
  generalize upd G2 p3 (.tup [.str "is", .non]) = G3 at e3 s3 ⊢
  walk_at "ss"
  refine ⟨al, _, s0, rfl, rfl, sz (by omega), hs0, ?_⟩
  walk_at "ss"
  intro p4 np4
  have e4 : upd G3 p4 (.tup [.str ⟨#[s0]⟩]) p4 = some (.tup [.str ⟨#[s0]⟩]) := upd_same
  have s4 : Same G3 (upd G3 p4 (.tup [.str ⟨#[s0]⟩])) := same_upd np4
  generalize upd G3 p4 (.tup [.str ⟨#[s0]⟩]) = G4 at e4 s4 ⊢
  walk_at "ss"
  intro p5 np5
  have e5 : upd G4 p5 (.tup [.str "is", .ref p4]) p5 = some (.tup [.str "is", .ref p4]) := upd_same
  have s5 : Same G4 (upd G4 p5 (.tup [.str "is", .ref p4])) := same_upd np5
  generalize upd G4 p5 (.tup [.str "is", .ref p4]) = G5 at e5 s5 ⊢
  walk_at "ss"
  first | refine ⟨sz (by show al.length + 1 ≤ 100000; omega), ?_⟩ | skip
  walk_at "ss"
  intro p6 np6
  have e6 : upd G5 p6 (.tup [.str "is", .str (al ++ ⟨#[c]⟩)]) p6 = some (.tup [.str "is", .str (al ++ ⟨#[c]⟩)]) := upd_same
  have s6 : Same G5 (upd G5 p6 (.tup [.str "is", .str (al ++ ⟨#[c]⟩)])) := same_upd np6
  generalize upd G5 p6 (.tup [.str "is", .str (al ++ ⟨#[c]⟩)]) = G6 at e6 s6 ⊢
  walk_at "ss"
  intro Db nDb
  have e7 : upd G6 Db (.lst [.ref p1, .ref p2, .ref p3, .ref p5, .ref p6]) Db = some (.lst [.ref p1, .ref p2, .ref p3, .ref p5, .ref p6]) := upd_same
  have s7 : Same G6 (upd G6 Db (.lst [.ref p1, .ref p2, .ref p3, .ref p5, .ref p6])) := same_upd nDb
  generalize upd G6 Db (.lst [.ref p1, .ref p2, .ref p3, .ref p5, .ref p6]) = G7 at e7 s7 ⊢
  have t7 : Same G7 G7 := Same.refl _
  have t6 := s7.trans t7
  have t5 := s6.trans t6
  have t4 := s5.trans t5
  have t3 := s4.trans t4
  have t2 := s3.trans t3
  have t1 := s2.trans t2
  have ttDb := s1.trans t1
  have wDb : DpAll K G7 [.ref p1, .ref p2, .ref p3, .ref p5, .ref p6] (wrong2 al s0 c) := (.cons (.tup (SqT.of (t1 _ _ e1)) (.cons (.str _) (.cons (.str _) .nil))) (.cons (.tup (SqT.of (t2 _ _ e2)) (.cons (.str _) (.cons (.str _) .nil))) (.cons (.tup (SqT.of (t3 _ _ e3)) (.cons (.str _) (.cons .non .nil))) (.cons (.tup (SqT.of (t5 _ _ e5)) (.cons (.str _) (.cons (.tup (SqT.of (t4 _ _ e4)) (.cons (.str _) .nil)) .nil))) (.cons (.tup (SqT.of (t6 _ _ e6)) (.cons (.str _) (.cons (.str _) .nil))) .nil)))))
  have w12 := dpa_app wDb (dpa_same w1 ttDb)
  have B5 := B.same ttDb
  have eDa := ttDb _ _ eDa
  walk_at "ss"
  refine ⟨Da, Db, _, _, rfl, rfl, eDa, e7, sz (by rw [l1]; simp), fun E1 nE1 => ?_⟩
  have sE1 : Same G7 (upd G7 E1 (.lst (x1 ++ [.ref p1, .ref p2, .ref p3, .ref p5, .ref p6]))) := same_upd nE1
  have kE : Kp b G (upd G7 E1 (.lst (x1 ++ [.ref p1, .ref p2, .ref p3, .ref p5, .ref p6]))) := Kp.same (ttDb.trans sE1)
  walk_at "ss"
  exact q3 _ _ b l E1 al nz _ _ _ _ _ (B5.same sE1) upd_same (by rw [List.length_append, l1]; rfl) (dpa_same w12 sE1) (fun d hd => (List.mem_append.mp hd).elim (bad1 d) (wrong2_bad ms0 hc (hA.2.2.2.imp fun h => Nat.ne_of_lt h) al4 d)) fun u d H' h1 h2 h3 h4 => q u d H' h1 h2 h3 (kE.trans h4)
theorem ok_wrong_saying (T : Env K mg) : FnOk P w K mg base CX0 3 T.f_wrong_saying T.fd_wrong_saying ["_law_bag_here", "_law_signs_here", "_law_at"] (spWS K) := by
  refine T.F_wrong_saying.ok sc_wrong_saying (fun vs H Q E h => ?_) (fun cdv A outer s H vs Q E hr h => ?_)
  · obtain ⟨b, l, al, n, rfl, _⟩ := h
    rfl
  · obtain ⟨t2, h2, q2⟩ := ws2 (P := P) (w := w) (base := base) T cdv A outer s H E hr
    refine ⟨_, ((pss_cons (ps_set (i := 3) sc_wrong_saying.nd rfl (.inl rfl) (pe_call (ok_of T) (hr.mono (by decide)) (by rfl) T.g_of T.F_of.kp T.b_of .nil pass0 (pa_cons (pv 0) (pa_cons (pe_lst (pa_cons (pv 2) (pa_cons (pe_un un_neg pe_int) (pa_cons pe_non (pa_cons pe_bl (pa_cons pe_str (pa_cons (pe_op op_add (pv 2) pe_int) pa_nil))))))) pa_nil))))
      (pss_cons (ps_set (i := 4) sc_wrong_saying.nd rfl (.inl rfl) (pe_ix ix_list (pe_lc (own := [("_law_sign", 6)]) (g := (gName 6)) rfl sc_wrong_saying.nd (pi_str pe_str) (blkOk_by (own := [("_law_sign", 6)]) (N := N_wrong_saying) (sc := defScope s_wrong_saying) (by decide +kernel)) (fun _ _ _ _ _ => (pg_name (i := 6) sc_wrong_saying.nd rfl (.inl rfl))) (fun _ _ _ _ _ => (pts_one (pt_cmpR op_notIn_sign (pv 6) (pv 1) (by rfl)))) (fun _ _ _ _ _ => (pv 6))) pe_int (fun _ _ => rfl)))
      (pss_cons (ps_set (i := 5) sc_wrong_saying.nd rfl (.inl rfl) (pe_lst (pa_cons (pe_tup (pa_cons pe_str (pa_cons (pv 3) pa_nil))) (pa_cons (pe_tup (pa_cons pe_str (pa_cons (pv 3) pa_nil))) (pa_cons (pe_tup (pa_cons pe_str (pa_cons (pv 3) (pa_cons pe_int pa_nil)))) (pa_cons (pe_tup (pa_cons pe_str (pa_cons pe_int (pa_cons (pv 3) pa_nil)))) (pa_cons (pe_tup (pa_cons pe_str (pa_cons (pv 3) (pa_cons pe_int (pa_cons pe_int pa_nil))))) (pa_cons (pe_tup (pa_cons pe_str (pa_cons (pe_tup (pa_cons (pv 3) pa_nil)) pa_nil))) (pa_cons (pe_tup (pa_cons pe_str (pa_cons (pe_tup (pa_cons pe_int (pa_cons (pv 3) pa_nil))) pa_nil))) (pa_cons (pe_tup (pa_cons pe_str (pa_cons (pe_tup (pa_cons pe_int (pa_cons pe_int pa_nil))) pa_nil))) (pa_cons (pe_tup (pa_cons pe_str (pa_cons (pe_lst (pa_cons pe_int pa_nil)) pa_nil))) (pa_cons (pe_tup (pa_cons pe_str (pa_cons pe_int pa_nil))) (pa_cons (pe_tup (pa_cons pe_str (pa_cons (pe_tup (pa_cons pe_int pa_nil)) pa_nil))) (pa_cons (pe_tup (pa_cons pe_str pa_nil)) (pa_cons (pe_tup (pa_cons pe_str (pa_cons pe_int pa_nil))) (pa_cons (pe_tup (pa_cons pe_str pa_nil)) pa_nil))))))))))))))))
      h2)))), ?_⟩
    obtain ⟨b, l, al, n, rfl, B, hA, n1, n2, q⟩ := h
    obtain ⟨nz, hnz⟩ : ∃ nz : Int, nz = ((n : Nat) : Int) := ⟨_, rfl⟩
    rw [← hnz]
    have al4 : al.length ≤ 4 := by rw [len_tl]; exact hA.2.1
    have al1 : 1 ≤ al.length := by rw [len_tl]; exact hA.1
    walk_at "ss"
    intro D0 hD0
    have s0 : Same H (upd H D0 (.lst [.int nz, .int (-1), .non, .bl true, .str "0", .int (nz + 5)])) := same_upd hD0
    refine ⟨b, l, _, rfl, B.same s0, .inl ⟨D0, _, rfl, B.nb hD0, .inl (SqL.of upd_same), (by intro z; cases z), (by show 6 ≤ 100000; decide), fun far H2 hv B2 k2 => ?_⟩⟩
    obtain ⟨fd, hfd, pfd, bfd⟩ : ∃ fd : PyData, (∀ G, Dp K G far fd) ∧ PlainD fd ∧ belowD nz fd = false := by
      simp only [List.mem_cons, List.not_mem_nil, or_false] at hv
      rcases hv with rfl | rfl | rfl | rfl | rfl | rfl
      · exact ⟨.int nz, fun _ => .int _, .inr (.inr (.inl ⟨_, rfl⟩)), decide_eq_false (by omega)⟩
      · exact ⟨.int (-1), fun _ => .int _, .inr (.inr (.inl ⟨_, rfl⟩)), (by unfold belowD; exact decide_eq_false (by omega))⟩
      · exact ⟨.none, fun _ => .non, .inl rfl, rfl⟩
      · exact ⟨.bool true, fun _ => .bl _, .inr (.inl ⟨_, rfl⟩), rfl⟩
      · exact ⟨.str "0", fun _ => .str _, .inr (.inr (.inr rfl)), rfl⟩
      · exact ⟨.int (nz + 5), fun _ => .int _, .inr (.inr (.inl ⟨_, rfl⟩)), decide_eq_false (by omega)⟩
    have k02 := (Kp.same (b := b) s0).trans k2
    clear hv s0 hD0 k2
    walk_at "ss"
    intro D hD
    refine lc_fil walk_str (fun H' => Same H2 H') (restOf al.cps.toList) (by rw [ah_size]; decide) (same_upd hD) (fun _ _ => trivial) (fun _ _ h => same_mut h hD) ?_ ?_
    · rintro i2 x H4 H5 Q1 Qn hlt hI ⟨rfl, c, hcz, rfl⟩ - hQ hN
      obtain ⟨hi8, rfl⟩ := ah_at hcz
      walk_at "ss"
      refine ite2 (fun e => ?_) (fun e => ?_)
      · have e2 : 97 + i2 ∉ al.cps.toList := by simpa using e
        walk_at "ss"
        exact hQ _ _ (by unfold restOf; rw [if_neg e2]) hI (fun _ h => h)
      · have e2 : 97 + i2 ∈ al.cps.toList := by simpa using e
        exact hN _ (by unfold restOf; rw [if_pos e2]) hI (fun _ h => h)
    · intro H3 hI hy
      rw [ah_size] at hy
      obtain ⟨r0, r1⟩ := rest8_len (cs := al.cps.toList) (by rw [← len_tl]; exact al4)
      obtain ⟨sv, hsv, hsm⟩ := at_in (xs := (List.range 8).filterMap (restOf al.cps.toList)) (i := 0) (by decide) (by omega)
      obtain ⟨c, rfl, hc⟩ := rest8_mem hsm
      have B3 := B2.same hI
      have k03 := k02.trans (Kp.same hI)
      walk_at "ss"
      refine ⟨D, _, 0, _, rfl, rfl, SqL.of hy, hsv, ?_⟩
      clear hsm hy r0 r1 hI k02 B2 hD
      walk_at "ss"
      intro p1 np1
      have e1 : upd H3 p1 (.tup [.str "not", far]) p1 = some (.tup [.str "not", far]) := upd_same
      have s1 : Same H3 (upd H3 p1 (.tup [.str "not", far])) := same_upd np1
      generalize upd H3 p1 (.tup [.str "not", far]) = G1 at e1 s1 ⊢
      walk_at "ss"
      intro p2 np2
      have e2 : upd G1 p2 (.tup [.str "before", far]) p2 = some (.tup [.str "before", far]) := upd_same
      have s2 : Same G1 (upd G1 p2 (.tup [.str "before", far])) := same_upd np2
      generalize upd G1 p2 (.tup [.str "before", far]) = G2 at e2 s2 ⊢
      walk_at "ss"
      intro p3 np3
      have e3 : upd G2 p3 (.tup [.str "since", far, .int 0]) p3 = some (.tup [.str "since", far, .int 0]) := upd_same
      have s3 : Same G2 (upd G2 p3 (.tup [.str "since", far, .int 0])) := same_upd np3
      generalize upd G2 p3 (.tup [.str "since", far, .int 0]) = G3 at e3 s3 ⊢
      walk_at "ss"
      intro p4 np4
      have e4 : upd G3 p4 (.tup [.str "since", .int 0, far]) p4 = some (.tup [.str "since", .int 0, far]) := upd_same
      have s4 : Same G3 (upd G3 p4 (.tup [.str "since", .int 0, far])) := same_upd np4
      generalize upd G3 p4 (.tup [.str "since", .int 0, far]) = G4 at e4 s4 ⊢
      walk_at "ss"
      intro p5 np5
      have e5 : upd G4 p5 (.tup [.str "count", far, .int 2, .int 0]) p5 = some (.tup [.str "count", far, .int 2, .int 0]) := upd_same
      have s5 : Same G4 (upd G4 p5 (.tup [.str "count", far, .int 2, .int 0])) := same_upd np5
      generalize upd G4 p5 (.tup [.str "count", far, .int 2, .int 0]) = G5 at e5 s5 ⊢
      walk_at "ss"
      intro p6 np6
      have e6 : upd G5 p6 (.tup [far]) p6 = some (.tup [far]) := upd_same
      have s6 : Same G5 (upd G5 p6 (.tup [far])) := same_upd np6
      generalize upd G5 p6 (.tup [far]) = G6 at e6 s6 ⊢
      walk_at "ss"
      intro p7 np7
      have e7 : upd G6 p7 (.tup [.str "and", .ref p6]) p7 = some (.tup [.str "and", .ref p6]) := upd_same
      have s7 : Same G6 (upd G6 p7 (.tup [.str "and", .ref p6])) := same_upd np7
      generalize upd G6 p7 (.tup [.str "and", .ref p6]) = G7 at e7 s7 ⊢
      walk_at "ss"
      intro p8 np8
      have e8 : upd G7 p8 (.tup [.int 0, far]) p8 = some (.tup [.int 0, far]) := upd_same
      have s8 : Same G7 (upd G7 p8 (.tup [.int 0, far])) := same_upd np8
      generalize upd G7 p8 (.tup [.int 0, far]) = G8 at e8 s8 ⊢
      walk_at "ss"
      intro p9 np9
      have e9 : upd G8 p9 (.tup [.str "or", .ref p8]) p9 = some (.tup [.str "or", .ref p8]) := upd_same
      have s9 : Same G8 (upd G8 p9 (.tup [.str "or", .ref p8])) := same_upd np9
      generalize upd G8 p9 (.tup [.str "or", .ref p8]) = G9 at e9 s9 ⊢
      walk_at "ss"
      intro p10 np10
      have e10 : upd G9 p10 (.tup [.int 0, .int 0]) p10 = some (.tup [.int 0, .int 0]) := upd_same
      have s10 : Same G9 (upd G9 p10 (.tup [.int 0, .int 0])) := same_upd np10
      generalize upd G9 p10 (.tup [.int 0, .int 0]) = G10 at e10 s10 ⊢
      walk_at "ss"
      intro p11 np11
      have e11 : upd G10 p11 (.tup [.str "and", .ref p10]) p11 = some (.tup [.str "and", .ref p10]) := upd_same
      have s11 : Same G10 (upd G10 p11 (.tup [.str "and", .ref p10])) := same_upd np11
      generalize upd G10 p11 (.tup [.str "and", .ref p10]) = G11 at e11 s11 ⊢
      walk_at "ss"
      intro p12 np12
      have e12 : upd G11 p12 (.lst [.int 0]) p12 = some (.lst [.int 0]) := upd_same
      have s12 : Same G11 (upd G11 p12 (.lst [.int 0])) := same_upd np12
      generalize upd G11 p12 (.lst [.int 0]) = G12 at e12 s12 ⊢
      walk_at "ss"
      intro p13 np13
      have e13 : upd G12 p13 (.tup [.str "or", .ref p12]) p13 = some (.tup [.str "or", .ref p12]) := upd_same
      have s13 : Same G12 (upd G12 p13 (.tup [.str "or", .ref p12])) := same_upd np13
      generalize upd G12 p13 (.tup [.str "or", .ref p12]) = G13 at e13 s13 ⊢
      walk_at "ss"
      intro p14 np14
      have e14 : upd G13 p14 (.tup [.str "and", .int 0]) p14 = some (.tup [.str "and", .int 0]) := upd_same
      have s14 : Same G13 (upd G13 p14 (.tup [.str "and", .int 0])) := same_upd np14
      generalize upd G13 p14 (.tup [.str "and", .int 0]) = G14 at e14 s14 ⊢
      walk_at "ss"
      intro p15 np15
      have e15 : upd G14 p15 (.tup [.int 0]) p15 = some (.tup [.int 0]) := upd_same
      have s15 : Same G14 (upd G14 p15 (.tup [.int 0])) := same_upd np15
      generalize upd G14 p15 (.tup [.int 0]) = G15 at e15 s15 ⊢
      walk_at "ss"
      intro p16 np16
      have e16 : upd G15 p16 (.tup [.str "not", .ref p15]) p16 = some (.tup [.str "not", .ref p15]) := upd_same
      have s16 : Same G15 (upd G15 p16 (.tup [.str "not", .ref p15])) := same_upd np16
      generalize upd G15 p16 (.tup [.str "not", .ref p15]) = G16 at e16 s16 ⊢
      walk_at "ss"
      intro p17 np17
      have e17 : upd G16 p17 (.tup [.str "not"]) p17 = some (.tup [.str "not"]) := upd_same
      have s17 : Same G16 (upd G16 p17 (.tup [.str "not"])) := same_upd np17
      generalize upd G16 p17 (.tup [.str "not"]) = G17 at e17 s17 ⊢
      walk_at "ss"
      intro p18 np18
      have e18 : upd G17 p18 (.tup [.str "since", .int 0]) p18 = some (.tup [.str "since", .int 0]) := upd_same
      have s18 : Same G17 (upd G17 p18 (.tup [.str "since", .int 0])) := same_upd np18
      generalize upd G17 p18 (.tup [.str "since", .int 0]) = G18 at e18 s18 ⊢
      walk_at "ss"
      intro p19 np19
      have e19 : upd G18 p19 (.tup [.str "is"]) p19 = some (.tup [.str "is"]) := upd_same
      have s19 : Same G18 (upd G18 p19 (.tup [.str "is"])) := same_upd np19
      generalize upd G18 p19 (.tup [.str "is"]) = G19 at e19 s19 ⊢
      walk_at "ss"
      intro Da nDa
      have e20 : upd G19 Da (.lst [.ref p1, .ref p2, .ref p3, .ref p4, .ref p5, .ref p7, .ref p9, .ref p11, .ref p13, .ref p14, .ref p16, .ref p17, .ref p18, .ref p19]) Da = some (.lst [.ref p1, .ref p2, .ref p3, .ref p4, .ref p5, .ref p7, .ref p9, .ref p11, .ref p13, .ref p14, .ref p16, .ref p17, .ref p18, .ref p19]) := upd_same
      have s20 : Same G19 (upd G19 Da (.lst [.ref p1, .ref p2, .ref p3, .ref p4, .ref p5, .ref p7, .ref p9, .ref p11, .ref p13, .ref p14, .ref p16, .ref p17, .ref p18, .ref p19])) := same_upd nDa
      generalize upd G19 Da (.lst [.ref p1, .ref p2, .ref p3, .ref p4, .ref p5, .ref p7, .ref p9, .ref p11, .ref p13, .ref p14, .ref p16, .ref p17, .ref p18, .ref p19]) = G20 at e20 s20 ⊢
      have t20 : Same G20 G20 := Same.refl _
      have t19 := s20.trans t20
      have t18 := s19.trans t19
      have t17 := s18.trans t18
      have t16 := s17.trans t17
      have t15 := s16.trans t16
      have t14 := s15.trans t15
      have t13 := s14.trans t14
      have t12 := s13.trans t13
      have t11 := s12.trans t12
      have t10 := s11.trans t11
      have t9 := s10.trans t10
      have t8 := s9.trans t9
      have t7 := s8.trans t8
      have t6 := s7.trans t7
      have t5 := s6.trans t6
      have t4 := s5.trans t5
      have t3 := s4.trans t4
      have t2 := s3.trans t3
      have t1 := s2.trans t2
      have ttDa := s1.trans t1
      have wDa : DpAll K G20 [.ref p1, .ref p2, .ref p3, .ref p4, .ref p5, .ref p7, .ref p9, .ref p11, .ref p13, .ref p14, .ref p16, .ref p17, .ref p18, .ref p19] (wrong1 fd) := (.cons (.tup (SqT.of (t1 _ _ e1)) (.cons (.str _) (.cons (hfd _) .nil))) (.cons (.tup (SqT.of (t2 _ _ e2)) (.cons (.str _) (.cons (hfd _) .nil))) (.cons (.tup (SqT.of (t3 _ _ e3)) (.cons (.str _) (.cons (hfd _) (.cons (.int _) .nil)))) (.cons (.tup (SqT.of (t4 _ _ e4)) (.cons (.str _) (.cons (.int _) (.cons (hfd _) .nil)))) (.cons (.tup (SqT.of (t5 _ _ e5)) (.cons (.str _) (.cons (hfd _) (.cons (.int _) (.cons (.int _) .nil))))) (.cons (.tup (SqT.of (t7 _ _ e7)) (.cons (.str _) (.cons (.tup (SqT.of (t6 _ _ e6)) (.cons (hfd _) .nil)) .nil))) (.cons (.tup (SqT.of (t9 _ _ e9)) (.cons (.str _) (.cons (.tup (SqT.of (t8 _ _ e8)) (.cons (.int _) (.cons (hfd _) .nil))) .nil))) (.cons (.tup (SqT.of (t11 _ _ e11)) (.cons (.str _) (.cons (.tup (SqT.of (t10 _ _ e10)) (.cons (.int _) (.cons (.int _) .nil))) .nil))) (.cons (.tup (SqT.of (t13 _ _ e13)) (.cons (.str _) (.cons (.lst (SqL.of (t12 _ _ e12)) (.cons (.int _) .nil)) .nil))) (.cons (.tup (SqT.of (t14 _ _ e14)) (.cons (.str _) (.cons (.int _) .nil))) (.cons (.tup (SqT.of (t16 _ _ e16)) (.cons (.str _) (.cons (.tup (SqT.of (t15 _ _ e15)) (.cons (.int _) .nil)) .nil))) (.cons (.tup (SqT.of (t17 _ _ e17)) (.cons (.str _) .nil)) (.cons (.tup (SqT.of (t18 _ _ e18)) (.cons (.str _) (.cons (.int _) .nil))) (.cons (.tup (SqT.of (t19 _ _ e19)) (.cons (.str _) .nil)) .nil))))))))))))))
      walk_at "ss"
      exact q2 _ _ b l Da al nz c _ _ _ _ (B3.same ttDa) e20 (by simp) wDa (wrong1_bad pfd bfd) hc hA fun u d H' h1 h2 h3 h4 => q u d H' h1 (hnz ▸ h2) h3 ((k03.trans (Kp.same ttDa)).trans h4)
end

/-! ### what formulas tell -/
def FmAt (C : Addr) (H : Hp) (m : Addr) (al : Str) (xs : List V) (b : Bool) : Prop := ∃ dx l, H m = some (.ins C dx (formF al l (.bl b))) ∧ H l = some (.lst xs)
theorem FmAt.same {C : Addr} {H H' : Hp} {m : Addr} {al : Str} {xs : List V} {b : Bool} (h : FmAt C H m al xs b) (s : Same H H') : FmAt C H' m al xs b := by
  obtain ⟨dx, l, a, c⟩ := h
  exact ⟨dx, l, s _ _ a, s _ _ c⟩
def spFLines (C : Addr) : Sp := fun vs H Q _ => ∃ (m : Addr) (al : Str) (xs : List V) (b : Bool), vs = [.ref m] ∧ FmAt C H m al xs b ∧ ∀ p, H p = none → Q (.ref p) (upd H p (.lst xs))
def spFLen (C : Addr) : Sp := fun vs H Q _ => ∃ (m : Addr) (al : Str) (xs : List V) (b : Bool), vs = [.ref m] ∧ FmAt C H m al xs b ∧ Q (.int xs.length) H
def spFFirst (C : Addr) : Sp := fun vs H Q _ => ∃ (m : Addr) (al : Str) (xs : List V) (b : Bool), vs = [.ref m] ∧ FmAt C H m al xs b ∧ Q (.bl b) H
def spFAlpha (C : Addr) : Sp := fun vs H Q _ => ∃ (m : Addr) (al : Str) (xs : List V) (b : Bool), vs = [.ref m] ∧ FmAt C H m al xs b ∧ Q (.str al) H
def repF (n : Int) : Str := (("Formula(" : Str) ++ (toString n : Str)) ++ (" lines)" : Str)
def spFRepr (C : Addr) : Sp := fun vs H Q _ => ∃ (m : Addr) (al : Str) (xs : List V) (b : Bool), vs = [.ref m] ∧ FmAt C H m al xs b ∧ xs.length ≤ 1000 ∧ Q (.str (repF xs.length)) H
theorem text_len : ∀ n ≤ 1000, (Str.ofString (toString (Int.ofNat n))).length ≤ 4 := by decide +kernel
theorem empty_add (x : Str) : Str.empty ++ x = x := by
  cases x with
  | mk c =>
    show Str.mk ((#[] : Array Nat) ++ c) = _
    simp
/-- made == y -/
def spFEq (K : PySem.W.Frag) (C : Addr) : Sp := fun vs H Q _ => ∃ (m : Addr) (y : V) (al : Str) (xs : List V) (b : Bool), vs = [.ref m, y] ∧ FmAt C H m al xs b ∧
  ((∃ (m2 : Addr) (al2 : Str) (xs2 : List V) (b2 : Bool) (ds ds2 : List PyData), y = .ref m2 ∧ FmAt C H m2 al2 xs2 b2 ∧ DpAll K H xs ds ∧ DpAll K H xs2 ds2 ∧ SeqAt.shaped (.list ds) = true ∧ SeqAt.shaped (.list ds2) = true ∧ Q (.bl (decide (al = al2) && (PyData.eqv (.list ds) (.list ds2) && decide (b = b2)))) H) ∨
   (∃ p ys, y = .ref p ∧ H p = some (.lst ys) ∧ Q (.bl false) H))
section
variable {P : Program} {w : World} {K : PySem.W.Frag} {mg : Str → Option Value} {base : Heap}
theorem ok_Formula_lines (T : Env K mg) : FnOk P w K mg base CX0 1 T.f_Formula_lines T.fd_Formula_lines ["self"] (spFLines T.C_Formula) := by
  refine T.F_Formula_lines.ok sc_Formula_lines (fun vs H Q E h => ?_) (fun cdv A outer s H vs Q E hr h => ⟨_, ((pss_one (ps_ret (pe_callTy call_list_of (by rfl) T.z_list (by decide +kernel) (pa_cons (pe_fld (pv 0) rfl) pa_nil))))), ?_⟩)
  · obtain ⟨m, al, xs, b, rfl, _⟩ := h
    rfl
  · obtain ⟨m, al, xs, b, rfl, ⟨dx, l, hm, hl⟩, q⟩ := h
    walk_at "ss"
    refine ⟨m, T.C_Formula, dx, _, _, rfl, hm, T.cl_Formula, T.n_Formula__lines, rfl, ?_⟩
    walk_at "ss"
    exact ⟨l, xs, rfl, .inl (SqL.of hl), q⟩
theorem ok_Formula___len (T : Env K mg) : FnOk P w K mg base CX0 1 T.f_Formula___len T.fd_Formula___len ["self"] (spFLen T.C_Formula) := by
  refine T.F_Formula___len.ok sc_Formula___len (fun vs H Q E h => ?_) (fun cdv A outer s H vs Q E hr h => ⟨_, ((pss_one (ps_ret (pe_callB call_len_seq (by rfl) T.z_len (by decide +kernel) (pa_cons (pe_fld (pv 0) rfl) pa_nil))))), ?_⟩)
  · obtain ⟨m, al, xs, b, rfl, _⟩ := h
    rfl
  · obtain ⟨m, al, xs, b, rfl, ⟨dx, l, hm, hl⟩, q⟩ := h
    walk_at "ss"
    refine ⟨m, T.C_Formula, dx, _, _, rfl, hm, T.cl_Formula, T.n_Formula__lines, rfl, ?_⟩
    walk_at "ss"
    exact ⟨l, xs, rfl, .inl (SqL.of hl), q⟩
theorem ok_Formula_first (T : Env K mg) : FnOk P w K mg base CX0 1 T.f_Formula_first T.fd_Formula_first ["self"] (spFFirst T.C_Formula) := by
  refine T.F_Formula_first.ok sc_Formula_first (fun vs H Q E h => ?_) (fun cdv A outer s H vs Q E hr h => ⟨_, ((pss_one (ps_ret (pe_fld (pv 0) rfl)))), ?_⟩)
  · obtain ⟨m, al, xs, b, rfl, _⟩ := h
    rfl
  · obtain ⟨m, al, xs, b, rfl, ⟨dx, l, hm, hl⟩, q⟩ := h
    walk_at "ss"
    exact ⟨m, T.C_Formula, dx, _, _, rfl, hm, T.cl_Formula, T.n_Formula__first, rfl, q⟩
theorem ok_Formula_alphabet (T : Env K mg) : FnOk P w K mg base CX0 1 T.f_Formula_alphabet T.fd_Formula_alphabet ["self"] (spFAlpha T.C_Formula) := by
  refine T.F_Formula_alphabet.ok sc_Formula_alphabet (fun vs H Q E h => ?_) (fun cdv A outer s H vs Q E hr h => ⟨_, ((pss_one (ps_ret (pe_fld (pv 0) rfl)))), ?_⟩)
  · obtain ⟨m, al, xs, b, rfl, _⟩ := h
    rfl
  · obtain ⟨m, al, xs, b, rfl, ⟨dx, l, hm, hl⟩, q⟩ := h
    walk_at "ss"
    exact ⟨m, T.C_Formula, dx, _, _, rfl, hm, T.cl_Formula, T.n_Formula__alphabet, rfl, q⟩
theorem ok_Formula___repr (T : Env K mg) : FnOk P w K mg base CX0 1 T.f_Formula___repr T.fd_Formula___repr ["self"] (spFRepr T.C_Formula) := by
  refine T.F_Formula___repr.ok sc_Formula___repr (fun vs H Q E h => ?_) (fun cdv A outer s H vs Q E hr h => ⟨_, ((pss_one (ps_ret (pe_joined (.cons pe_str (.cons (pe_fmt (pe_callB call_len_seq (by rfl) T.z_len (by decide +kernel) (pa_cons (pe_fld (pv 0) rfl) pa_nil))) (.cons pe_str .nil))))))), ?_⟩)
  · obtain ⟨m, al, xs, b, rfl, _⟩ := h
    rfl
  · obtain ⟨m, al, xs, b, rfl, ⟨dx, l, hm, hl⟩, hz, q⟩ := h
    walk_at "ss"
    refine ⟨m, T.C_Formula, dx, _, _, rfl, hm, T.cl_Formula, T.n_Formula__lines, rfl, ?_⟩
    walk_at "ss"
    refine ⟨l, xs, rfl, .inl (SqL.of hl), ?_⟩
    have L2 : (Str.ofString (toString ((xs.length : Nat) : Int))).length ≤ 4 := text_len xs.length hz
    have e1 : ∀ a b : Str, (a ++ b).length = a.length + b.length := fun a b => by
      show (a.cps ++ b.cps).size = _
      simp [Str.length]
    have m1 : (Str.ofString "Formula(").length = 8 := by decide +kernel
    have m2 : (Str.ofString " lines)").length = 7 := by decide +kernel
    have m0 : Str.empty.length = 0 := rfl
    refine .inr ⟨_, rfl, ?_, _, rfl, sz (by rw [e1, e1, m0, m1]; omega), _, rfl, sz (by rw [e1, e1, e1, m0, m1, m2]; omega), ?_⟩
    · have : Nat.log2 xs.length ≤ xs.length := Nat.log2_le_self _
      show Nat.log2 xs.length < 1920
      omega
    · show Q (V.str (((Str.empty ++ Str.ofString "Formula(") ++ Str.ofString (toString ((xs.length : Nat) : Int))) ++ Str.ofString " lines)")) H
      rw [empty_add]
      exact q
theorem ok_Formula___eq (T : Env K mg) : FnOk P w K mg base CX0 1 T.f_Formula___eq T.fd_Formula___eq ["self", "other"] (spFEq K T.C_Formula) := by
  refine T.F_Formula___eq.ok sc_Formula___eq (fun vs H Q E h => ?_) (fun cdv A outer s H vs Q E hr h => ⟨_, ((pss_one (ps_ret (pe_and (pe_callB call_isi (by rfl) T.z_isinstance (by decide +kernel) (pa_cons (pv 1) (pa_cons (pe_glob (v := .ref T.C_Formula) (by rfl) T.gC_Formula rfl) pa_nil))) (pe_and (pe_cmpR op_eq (pe_fld (pv 0) rfl) (pe_fld (pv 1) rfl) (nomark _)) (pe_and (pe_cmpR (op_eqD hr.units) (pe_fld (pv 0) rfl) (pe_fld (pv 1) rfl) (nomark _)) (pe_one (pe_cmpR op_eq (pe_fld (pv 0) rfl) (pe_fld (pv 1) rfl) (nomark _))))))))), ?_⟩)
  · obtain ⟨m, y, al, xs, b, rfl, _⟩ := h
    rfl
  · obtain ⟨m, y, al, xs, b, rfl, ⟨dx, l, hm, hl⟩, ⟨m2, al2, xs2, b2, ds, ds2, rfl, ⟨dx2, l2, hm2, hl2⟩, d1, d2, z1, z2, q⟩ | ⟨p, ys, rfl, hp, q⟩⟩ := h
    · walk_at "ss"
      refine ⟨_, _, _, _, true, rfl, ClsV.own _, .base (.ins hm2 T.cl_Formula T.isc_Formula.ha T.isc_Formula.hn T.isc_Formula.htk T.isc_Formula.hm), T.isc_Formula.me, ?_⟩
      walk_at "ss"
      refine ⟨m, T.C_Formula, dx, _, _, rfl, hm, T.cl_Formula, T.n_Formula__alphabet, rfl, ?_⟩
      walk_at "ss"
      refine ⟨m2, T.C_Formula, dx2, _, _, rfl, hm2, T.cl_Formula, T.n_Formula__alphabet, rfl, ?_⟩
      walk_at "ss"
      have ea : decide (V.str al = V.str al2) = decide (al = al2) := decide_eq_decide.mpr ⟨fun h => (by injection h), fun h => (by rw [h])⟩
      rw [ea]
      refine ite2 (fun e => ?_) (fun e => ?_)
      · rw [e, Bool.true_and] at q
        walk_at "ss"
        refine ⟨m, T.C_Formula, dx, _, _, rfl, hm, T.cl_Formula, T.n_Formula__lines, rfl, ?_⟩
        walk_at "ss"
        refine ⟨m2, T.C_Formula, dx2, _, _, rfl, hm2, T.cl_Formula, T.n_Formula__lines, rfl, ?_⟩
        refine ⟨.list ds, .list ds2, .lst (SqL.of hl) d1, .lst (SqL.of hl2) d2, z1, z2, ?_⟩
        walk_at "ss"
        cases hq : PyData.eqv (.list ds) (.list ds2) with
        | false =>
          rw [hq] at q
          walk_at "ss"
          exact q
        | true =>
          rw [hq] at q
          walk_at "ss"
          refine ⟨m, T.C_Formula, dx, _, _, rfl, hm, T.cl_Formula, T.n_Formula__first, rfl, ?_⟩
          walk_at "ss"
          refine ⟨m2, T.C_Formula, dx2, _, _, rfl, hm2, T.cl_Formula, T.n_Formula__first, rfl, ?_⟩
          walk_at "ss"
          show Q (V.bl (decide (V.bl b = V.bl b2))) H
          rw [show decide (V.bl b = V.bl b2) = decide (b = b2) from decide_eq_decide.mpr ⟨fun h => (by injection h), fun h => (by rw [h])⟩]
          exact q
      · have e2 : decide (al = al2) = false := Bool.not_eq_true _ |>.mp e
        rw [e2] at q
        exact q
    · walk_at "ss"
      refine ⟨_, _, _, _, false, rfl, ClsV.own _, tyx_list (SqL.of hp), T.kl_Formula, ?_⟩
      walk_at "ss"
      exact q
end

/-! ### lines of formulas -/
inductive FL where
  | is (z : List Nat)
  | not (i : Nat)
  | and (rs : List Nat)
  | or (rs : List Nat)
  | before (i : Nat)
  | since (i j : Nat)
  | count (i p r : Nat)
def strL (z : List Nat) : V := .str ⟨z.toArray⟩
def natL (rs : List Nat) : List V := rs.map fun n => V.int (n : Nat)
/-- how a line stands in the heap -/
def FLAt (H : Hp) (p : Addr) : FL → Prop
  | .is z => H p = some (.tup [.str "is", strL z])
  | .not i => H p = some (.tup [.str "not", .int (i : Nat)])
  | .and rs => ∃ q, H p = some (.tup [.str "and", .ref q]) ∧ H q = some (.tup (natL rs))
  | .or rs => ∃ q, H p = some (.tup [.str "or", .ref q]) ∧ H q = some (.tup (natL rs))
  | .before i => H p = some (.tup [.str "before", .int (i : Nat)])
  | .since i j => H p = some (.tup [.str "since", .int (i : Nat), .int (j : Nat)])
  | .count i p' r => H p = some (.tup [.str "count", .int (i : Nat), .int (p' : Nat), .int (r : Nat)])
theorem FLAt.same {H H' : Hp} {p : Addr} (s : Same H H') : ∀ {f : FL}, FLAt H p f → FLAt H' p f
  | .is _, h => s _ _ h
  | .not _, h => s _ _ h
  | .and _, ⟨q, a, b⟩ => ⟨q, s _ _ a, s _ _ b⟩
  | .or _, ⟨q, a, b⟩ => ⟨q, s _ _ a, s _ _ b⟩
  | .before _, h => s _ _ h
  | .since _ _, h => s _ _ h
  | .count _ _ _, h => s _ _ h
def PR : List Nat := [2, 3, 5, 7, 11, 13, 17, 19, 23, 29, 31, 37, 41, 43, 47, 53, 59, 61, 67, 71, 73, 79, 83, 89, 97]
theorem pr_of {p : Nat} (h : p ∈ [2, 3, 5]) : p ∈ PR := by
  simp only [List.mem_cons, List.not_mem_nil, or_false] at h
  rcases h with rfl | rfl | rfl <;> decide
/-- a line that can stand at a place -/
def FLOk (al : List Nat) (at_ : Nat) : FL → Prop
  | .is z => z = al.filter (fun c => decide (c ∈ z))
  | .not i => i < at_
  | .and rs => (∀ r ∈ rs, r < at_) ∧ rs.Pairwise (· < ·) ∧ rs.length ≤ 100
  | .or rs => (∀ r ∈ rs, r < at_) ∧ rs.Pairwise (· < ·) ∧ rs.length ≤ 100
  | .before i => i < at_
  | .since i j => i < at_ ∧ j < at_
  | .count i p r => i < at_ ∧ p ∈ PR ∧ r < p
theorem natL_at {ns : List Nat} {i : Nat} (h : i < ns.length) : (natL ns)[i]? = some (.int (ns.getD i 0 : Nat)) := by
  unfold natL
  rw [List.getElem?_map, List.getD_eq_getElem?_getD, List.getElem?_eq_getElem h]
  rfl
theorem natL_len (ns : List Nat) : (natL ns).length = ns.length := by unfold natL; rw [List.length_map]

/-! ### Formula(..) -/
/-- lines in the heap -/
def FLs (H : Hp) (r : Addr) (fls : List FL) : Prop := ∃ ps : List Addr, H r = some (.lst (ps.map V.ref)) ∧ ps.length = fls.length ∧ ∀ (i : Nat) (p : Addr) (f : FL), ps[i]? = some p → fls[i]? = some f → FLAt H p f
def FOk (al : List Nat) (fls : List FL) : Prop := ∀ (i : Nat) (f : FL), fls[i]? = some f → FLOk al i f
theorem FLs.same {H H' : Hp} {r : Addr} {fls : List FL} (h : FLs H r fls) (s : Same H H') : FLs H' r fls := by
  obtain ⟨ps, h1, h2, h3⟩ := h
  exact ⟨ps, s _ _ h1, h2, fun i p f a b => (h3 i p f a b).same s⟩
theorem FLs.at_ {H : Hp} {r : Addr} {fls : List FL} {i : Nat} {f : FL} (h : FLs H r fls) (e : fls[i]? = some f) : ∃ xs p, H r = some (.lst xs) ∧ xs.length = fls.length ∧ xs[i]? = some (.ref p) ∧ FLAt H p f := by
  obtain ⟨ps, h1, h2, h3⟩ := h
  have hi := (List.getElem?_eq_some_iff.mp e).1
  have hp : ps[i]? = some ps[i] := List.getElem?_eq_getElem (by omega)
  exact ⟨_, ps[i], h1, by rw [List.length_map, h2], by rw [List.getElem?_map, hp]; rfl, h3 i _ f hp e⟩
theorem FLs.len {H : Hp} {r : Addr} {fls : List FL} (h : FLs H r fls) : ∃ xs, H r = some (.lst xs) ∧ xs.length = fls.length := by
  obtain ⟨ps, h1, h2, h3⟩ := h
  exact ⟨_, h1, by rw [List.length_map, h2]⟩
theorem FLAt.but {H H' : Hp} {p x C dx : Addr} {fs : List (Str × V)} (e : H x = some (.ins C dx fs)) (k : ∀ c o, c ≠ x → H c = some o → H' c = some o) : ∀ {f : FL}, FLAt H p f → FLAt H' p f := by
  have no : ∀ {a : Addr} {xs : List V}, H a = some (.tup xs) → H' a = some (.tup xs) := fun {a xs} h => k _ _ (fun z => by rw [z, e] at h; cases h) h
  intro f h
  cases f with
  | is z => exact no h
  | not i => exact no h
  | and rs =>
    obtain ⟨q, a, b⟩ := h
    exact ⟨q, no a, no b⟩
  | or rs =>
    obtain ⟨q, a, b⟩ := h
    exact ⟨q, no a, no b⟩
  | before i => exact no h
  | since i j => exact no h
  | count i p' r => exact no h

/-! ### written lists of lines -/
def FLp (H : Hp) (ps : List Addr) (fls : List FL) : Prop := ps.length = fls.length ∧ ∀ (i : Nat) (p : Addr) (f : FL), ps[i]? = some p → fls[i]? = some f → FLAt H p f
theorem FLp.same {H H' : Hp} {ps : List Addr} {fls : List FL} (h : FLp H ps fls) (s : Same H H') : FLp H' ps fls := ⟨h.1, fun i p f a b => (h.2 i p f a b).same s⟩
theorem FLp.nil {H : Hp} : FLp H [] [] := ⟨rfl, fun i p f a _ => by simp at a⟩
theorem FLp.cons {H : Hp} {p : Addr} {f : FL} {ps : List Addr} {fls : List FL} (a : FLAt H p f) (h : FLp H ps fls) : FLp H (p :: ps) (f :: fls) := ⟨by simp [h.1], fun i q g x y => by
  cases i with
  | zero =>
    cases x
    cases y
    exact a
  | succ i => exact h.2 i q g (by simpa using x) (by simpa using y)⟩
theorem FLp.app {H : Hp} {qs : List Addr} {gs : List FL} (h2 : FLp H qs gs) : ∀ {ps : List Addr} {fls : List FL}, FLp H ps fls → FLp H (ps ++ qs) (fls ++ gs)
  | [], [], _ => h2
  | p :: ps, f :: fls, h => FLp.cons (h.2 0 p f rfl rfl) (FLp.app h2 ⟨by simpa using h.1, fun i q g a b => h.2 (i + 1) q g (by simpa using a) (by simpa using b)⟩)
  | [], _ :: _, h => by simp [FLp] at h
  | _ :: _, [], h => by simp [FLp] at h

/-! ### good lines as data -/
def flD : FL → PyData
  | .is z => .tuple [.str "is", .str ⟨z.toArray⟩]
  | .not i => .tuple [.str "not", .int (i : Nat)]
  | .and rs => .tuple [.str "and", .tuple (rs.map fun n => .int (n : Nat))]
  | .or rs => .tuple [.str "or", .tuple (rs.map fun n => .int (n : Nat))]
  | .before i => .tuple [.str "before", .int (i : Nat)]
  | .since i j => .tuple [.str "since", .int (i : Nat), .int (j : Nat)]
  | .count i p r => .tuple [.str "count", .int (i : Nat), .int (p : Nat), .int (r : Nat)]
theorem nats_dp {K : PySem.W.Frag} {H : Hp} : ∀ rs : List Nat, DpAll K H (natL rs) (rs.map fun n => .int (n : Nat))
  | [] => .nil
  | _ :: rs => .cons (.int _) (nats_dp rs)
theorem FLAt.dp {K : PySem.W.Frag} {H : Hp} {p : Addr} : ∀ {f : FL}, FLAt H p f → Dp K H (.ref p) (flD f)
  | .is _, h => .tup (SqT.of h) (.cons (.str _) (.cons (.str _) .nil))
  | .not _, h => .tup (SqT.of h) (.cons (.str _) (.cons (.int _) .nil))
  | .and rs, ⟨_, h, g⟩ => .tup (SqT.of h) (.cons (.str _) (.cons (.tup (SqT.of g) (nats_dp rs)) .nil))
  | .or rs, ⟨_, h, g⟩ => .tup (SqT.of h) (.cons (.str _) (.cons (.tup (SqT.of g) (nats_dp rs)) .nil))
  | .before _, h => .tup (SqT.of h) (.cons (.str _) (.cons (.int _) .nil))
  | .since _ _, h => .tup (SqT.of h) (.cons (.str _) (.cons (.int _) (.cons (.int _) .nil)))
  | .count _ _ _, h => .tup (SqT.of h) (.cons (.str _) (.cons (.int _) (.cons (.int _) (.cons (.int _) .nil))))
theorem FLp.dp {K : PySem.W.Frag} {H : Hp} : ∀ {ps : List Addr} {fls : List FL}, FLp H ps fls → DpAll K H (ps.map V.ref) (fls.map flD)
  | [], [], _ => .nil
  | p :: ps, f :: fls, h => .cons (h.2 0 p f rfl rfl).dp (FLp.dp ⟨by simpa using h.1, fun i q g a b => h.2 (i + 1) q g (by simpa using a) (by simpa using b)⟩)
  | [], _ :: _, h => by simp [FLp] at h
  | _ :: _, [], h => by simp [FLp] at h
theorem asc_nats {rs : List Nat} (h : rs.Pairwise (· < ·)) : ascD (rs.map fun n => .int (n : Nat)) = true := by
  unfold ascD
  rw [List.all_eq_true]
  intro i hi
  have hi := List.mem_range.mp hi
  rw [List.length_map] at hi
  have e : ∀ {j : Nat}, j < rs.length → intD ((rs.map fun n => PyData.int (n : Nat)).getD j .none) = ((rs.getD j 0 : Nat) : Int) := fun {j} hj => by
    rw [List.getD_eq_getElem?_getD, List.getElem?_map, List.getD_eq_getElem?_getD, List.getElem?_eq_getElem hj]
    rfl
  rw [e (by omega), e (by omega)]
  have lt := List.pairwise_iff_getElem.mp h i (i + 1) (by omega) (by omega) (by omega)
  rw [List.getD_eq_getElem?_getD, List.getElem?_eq_getElem (by omega), List.getD_eq_getElem?_getD, List.getElem?_eq_getElem (by omega)]
  exact decide_eq_true (by show ((rs[i] : Nat) : Int) < ((rs[i + 1] : Nat) : Int); omega)
theorem pr_int {p : Nat} (h : p ∈ PR) : primeD (.int (p : Nat)) = true := by
  refine decide_eq_true ?_
  unfold PR at h
  simp only [List.mem_cons, List.not_mem_nil, or_false] at h ⊢
  omega
theorem below_nat {i n : Nat} (h : i < n) : belowD (n : Nat) (.int (i : Nat)) = true := decide_eq_true (by omega)
theorem refs_nats {rs : List Nat} {n : Nat} (h : ∀ r ∈ rs, r < n) (asc : rs.Pairwise (· < ·)) : refsD (n : Nat) (.tuple (rs.map fun n => .int (n : Nat))) = true := by
  show (_ && ascD _) = true
  rw [asc_nats asc, Bool.and_true, List.all_eq_true]
  intro d hd
  obtain ⟨r, hr, rfl⟩ := List.mem_map.mp hd
  exact below_nat (h r hr)
theorem n5_nats : ∀ rs : List Nat, no5All (rs.map fun n => PyData.int (n : Nat)) = true
  | [] => rfl
  | _ :: rs => by show (true && no5All _) = true; rw [n5_nats rs]; rfl
theorem flD_good {al : List Nat} {n : Nat} (h4 : al.length ≤ 4) : ∀ {f : FL}, FLOk al n f → standD al (n : Nat) (flD f) = true ∧ OkD (flD f) ∧ no5 (flD f) = true
  | .is z, h => by
    have zl : z.length ≤ 4 := by
      have h : z = al.filter (fun c => decide (c ∈ z)) := h
      rw [h]
      exact Nat.le_trans (List.length_filter_le _ _) h4
    refine ⟨?_, ok1 (by decide +kernel) (short_str (by show z.toArray.size ≤ 1000; simp; omega)), rfl⟩
    show standD al n (.tuple [.str "is", .str ⟨z.toArray⟩]) = true
    rw [is1]
    refine decide_eq_true ?_
    have e : (⟨z.toArray⟩ : Str).cps.toList = z := by simp
    rw [e, ← show z = al.filter (fun c => decide (c ∈ z)) from h]
  | .not i, h => ⟨by show standD al n (.tuple [.str "not", _]) = true; rw [not1]; exact below_nat h, ok1 (by decide +kernel) short_int, rfl⟩
  | .and rs, h => ⟨by show standD al n (.tuple [.str "and", _]) = true; rw [and1]; exact refs_nats h.1 h.2.1, ok1 (by decide +kernel) (short_tup (by have := h.2.2; rw [List.length_map]; omega)), by show (no5All _ && true) = true; rw [n5_nats]; rfl⟩
  | .or rs, h => ⟨by show standD al n (.tuple [.str "or", _]) = true; rw [or1]; exact refs_nats h.1 h.2.1, ok1 (by decide +kernel) (short_tup (by have := h.2.2; rw [List.length_map]; omega)), by show (no5All _ && true) = true; rw [n5_nats]; rfl⟩
  | .before i, h => ⟨by show standD al n (.tuple [.str "before", _]) = true; rw [before1]; exact below_nat h, ok1 (by decide +kernel) short_int, rfl⟩
  | .since i j, h => ⟨by show standD al n (.tuple [.str "since", _, _]) = true; rw [since2, below_nat h.1, below_nat h.2]; rfl, ok2 (by decide +kernel) short_int short_int, rfl⟩
  | .count i p r, h => ⟨by
      show standD al n (.tuple [.str "count", _, _, _]) = true
      rw [count3, below_nat h.1, pr_int h.2.1, show belowD (intD (.int (p : Nat))) (.int (r : Nat)) = true from below_nat h.2.2]
      rfl, ok3 (by decide +kernel) short_int short_int short_int, rfl⟩

/-! ### drawn formulas -/
theorem sub_filter : ∀ {z al : List Nat}, z.Sublist al → al.Nodup → z = al.filter fun c => decide (c ∈ z)
  | _, _, .slnil, _ => rfl
  | z, _, .cons (l₂ := l) a h, nd => by
    obtain ⟨n1, n2⟩ := List.nodup_cons.mp nd
    have ih := sub_filter h n2
    have na : a ∉ z := fun hz => n1 (h.subset hz)
    rw [List.filter_cons, if_neg (by simpa using na)]
    exact ih
  | _, _, .cons₂ (l₁ := z) (l₂ := l) a h, nd => by
    obtain ⟨n1, n2⟩ := List.nodup_cons.mp nd
    have ih := sub_filter h n2
    rw [List.filter_cons, if_pos (by simp)]
    have e : (l.filter fun c => decide (c ∈ a :: z)) = l.filter fun c => decide (c ∈ z) := by
      apply List.filter_congr
      intro c hc
      have : c ≠ a := fun x => n1 (x ▸ hc)
      simp [this]
    rw [e, ← ih]
theorem FLAt.kp {b l p : Addr} {H H' : Hp} (k : Kp b H H') (B : BagAt b l H) : ∀ {f : FL}, FLAt H p f → FLAt H' p f := by
  have no : ∀ {a : Addr} {xs : List V}, H a = some (.tup xs) → H' a = some (.tup xs) := fun {a xs} h => k _ _ h fun z => by
    obtain ⟨⟨i, r, m, c, ns, hb, _⟩, _⟩ := B
    rw [z, hb] at h
    cases h
  intro f h
  cases f with
  | is z => exact no h
  | not i => exact no h
  | and rs =>
    obtain ⟨q, a, b⟩ := h
    exact ⟨q, no a, no b⟩
  | or rs =>
    obtain ⟨q, a, b⟩ := h
    exact ⟨q, no a, no b⟩
  | before i => exact no h
  | since i j => exact no h
  | count i p' r => exact no h
theorem FLs.kp {b l r : Addr} {H H' : Hp} {fls : List FL} (h : FLs H r fls) (k : Kp b H H') (B : BagAt b l H) (n : r ≠ b) : FLs H' r fls := by
  obtain ⟨ps, h1, h2, h3⟩ := h
  exact ⟨ps, k _ _ h1 n, h2, fun i p f a b => (h3 i p f a b).kp k B⟩
theorem FLAt.put {r p : Addr} {H : Hp} {xs : List V} {o : HO} (e : H r = some (.lst xs)) : ∀ {f : FL}, FLAt H p f → FLAt (upd H r o) p f := by
  have no : ∀ {a : Addr} {ys : List V}, H a = some (.tup ys) → upd H r o a = some (.tup ys) := fun {a ys} h => by
    rw [upd_ne (fun z => by rw [z, e] at h; cases h)]
    exact h
  intro f h
  cases f with
  | is z => exact no h
  | not i => exact no h
  | and rs =>
    obtain ⟨q, a, b⟩ := h
    exact ⟨q, no a, no b⟩
  | or rs =>
    obtain ⟨q, a, b⟩ := h
    exact ⟨q, no a, no b⟩
  | before i => exact no h
  | since i j => exact no h
  | count i p' r => exact no h
theorem FLs.add {r p : Addr} {H : Hp} {fls : List FL} {f : FL} (h : FLs H r fls) (hp : FLAt H p f) : ∃ xs, H r = some (.lst xs) ∧ xs.length = fls.length ∧ FLs (upd H r (.lst (xs ++ [.ref p]))) r (fls ++ [f]) := by
  obtain ⟨ps, h1, h2, h3⟩ := h
  refine ⟨_, h1, by rw [List.length_map, h2], ps ++ [p], by rw [upd_same, List.map_append]; rfl, by simp [h2], fun i q g a b => ?_⟩
  by_cases hi : i < ps.length
  · rw [List.getElem?_append_left hi] at a
    rw [List.getElem?_append_left (by omega)] at b
    exact (h3 i q g a b).put h1
  · have hi2 : i = ps.length := by
      have := (List.getElem?_eq_some_iff.mp a).1
      simp at this
      omega
    subst hi2
    simp at a
    subst a
    rw [h2] at b
    simp at b
    subst b
    exact hp.put h1
theorem FOk.snoc {al : List Nat} {fls : List FL} {f : FL} (h : FOk al fls) (hf : FLOk al fls.length f) : FOk al (fls ++ [f]) := fun i g e => by
  by_cases hi : i < fls.length
  · rw [List.getElem?_append_left hi] at e
    exact h i g e
  · have hi2 : i = fls.length := by
      have := (List.getElem?_eq_some_iff.mp e).1
      simp at this
      omega
    subst hi2
    simp at e
    rw [← e]
    exact hf
def spSS : Sp := fun vs H Q _ => ∃ (b l : Addr) (al : Str), vs = [.ref b, .str al] ∧ BagAt b l H ∧ al.length ≤ 4 ∧ ∀ (z : List Nat) (H' : Hp), z.Sublist al.cps.toList → BagAt b l H' → Kp b H H' → Q (strL z) H'
def kindsV : List V := [.str "is", .str "not", .str "and", .str "or", .str "before", .str "since", .str "count"]
def spSay : Sp := fun vs H Q _ => ∃ (b l kl : Addr) (al : Str) (many : Int) (kv : List V), vs = [.ref b, .str al, .int many, .ref kl] ∧ BagAt b l H ∧ 1 ≤ al.length ∧ al.length ≤ 4 ∧ al.cps.toList.Nodup ∧ 1 ≤ many ∧ many ≤ 50 ∧ H kl = some (.lst kv) ∧ (∀ v ∈ kv, v ∈ kindsV) ∧ kv ≠ [] ∧ kv.length ≤ 100 ∧ kl ≠ b ∧
  ∀ (r : Addr) (fls : List FL) (H' : Hp), FLs H' r fls → FOk al.cps.toList fls → (fls.length : Int) = many → H r = none → BagAt b l H' → Kp b H H' → Q (.ref r) H'
section
variable {P : Program} {w : World} {K : PySem.W.Frag} {mg : Str → Option Value} {base : Heap}
theorem ok_some_signs (T : Env K mg) : FnOk P w K mg base CX0 2 T.f_some_signs T.fd_some_signs ["_law_bag_here", "_law_signs_here"] spSS := by
  refine T.F_some_signs.ok sc_some_signs (fun vs H Q E h => ?_) (fun cdv A outer s H vs Q E hr h => ⟨_, ((pss_one (ps_ret (pe_join pe_str (pe_lc (own := [("_law_sign", 2)]) (g := (gName 2)) rfl sc_some_signs.nd (pi_str (pv 1)) (blkOk_by (own := [("_law_sign", 2)]) (N := N_some_signs) (sc := defScope s_some_signs) (by decide +kernel)) (fun _ _ _ _ _ => (pg_name (i := 2) sc_some_signs.nd rfl (.inl rfl))) (fun _ _ _ _ _ => (pts_one (pt_cmpR op_eq (pe_call (ok_pull T) (hr.mono (by decide)) (by rfl) T.g_pull T.F_pull.kp T.b_pull .nil pass0 (pa_cons (pv 0) (pa_cons pe_int pa_nil))) pe_int (nomark _)))) (fun _ _ _ _ _ => (pv 2))))))), ?_⟩)
  · obtain ⟨b, l, al, rfl, _⟩ := h
    rfl
  · obtain ⟨b, l, al, rfl, B, hal, q⟩ := h
    walk_at "ss"
    intro D hD
    have nb := B.nb hD
    have nl := B.nl hD
    refine lc_it walk_str (fun i H' => Stp (∃ zs : List Nat, zs.Sublist (al.cps.toList.take i) ∧ H' D = some (.lst ((zs.map sg).map V.str)) ∧ BagAt b l H' ∧ Kp b H H'))
      (.mk ⟨[], List.nil_sublist _, upd_same, B.mut nb nl, Kp.same (same_upd hD)⟩) (fun _ _ _ _ => trivial) ?_ ?_
    · rintro i x H1 H2 hi hP ⟨rfl, c, hc, rfl⟩
      obtain ⟨zs, sub, hz, B2, k2⟩ := hP.of
      clear hP
      rw [get_tl] at hc
      have tk : al.cps.toList.take (i + 1) = al.cps.toList.take i ++ [c] := by
        rw [List.take_add_one, hc]
        rfl
      have zl : zs.length ≤ 4 := by
        have := sub.length_le
        rw [List.length_take, ← len_tl] at this
        omega
      walk_at "ss"
      refine ⟨b, l, _, rfl, B2, by decide, by decide, fun k H3 k0 k1 B3 k3 => ?_⟩
      have hz3 := k3 _ _ hz nb
      walk_at "ss"
      refine ite2 (fun e => ?_) (fun e => ?_)
      · walk_at "ss"
        refine ⟨_, hz3, szl (by rw [List.length_map, List.length_map]; omega), .mk ⟨zs ++ [c], by rw [tk]; exact sub.append (List.Sublist.refl _), ?_, B3.mut nb nl, (k2.trans k3).mut hD⟩⟩
        rw [upd_same, List.map_append, List.map_append]
        rfl
      · exact .mk ⟨zs, by rw [tk]; exact sub.trans (List.sublist_append_left _ _), hz3, B3, k2.trans k3⟩
    · intro H1 hP
      obtain ⟨zs, sub, hz, B2, k2⟩ := hP.of
      have sub2 : zs.Sublist al.cps.toList := sub.trans (List.take_sublist _ _)
      have zl : zs.length ≤ 4 := by
        have := sub2.length_le
        rw [← len_tl] at this
        omega
      walk_at "ss"
      refine ⟨_, D, _, rfl, rfl, .inl (SqL.of hz), ?_, ?_⟩
      · rw [sum_sg, List.length_map]
        have : (Str.ofString "").length = 0 := rfl
        rw [this]
        omega
      · rw [join_sg]
        exact q zs H1 sub2 B2 k2
theorem ok_saying (T : Env K mg) : FnOk P w K mg base CX0 3 T.f_saying T.fd_saying ["_law_bag_here", "_law_signs_here", "_law_many", "_law_kinds"] spSay := by
  refine T.F_saying.ok sc_saying (fun vs H Q E h => ?_) (fun cdv A outer s H vs Q E hr h => ⟨_, ((pss_cons (ps_set (i := 4) sc_saying.nd rfl (.inl rfl) (pe_lst (pa_cons (pe_tup (pa_cons pe_str (pa_cons (pe_call (ok_some_signs T) (hr.mono (by decide)) (by rfl) T.g_some_signs T.F_some_signs.kp T.b_some_signs .nil pass0 (pa_cons (pv 0) (pa_cons (pv 1) pa_nil))) pa_nil))) pa_nil)))
      (pss_cons (ps_for PassesOwn.never rfl (pi_range2 (by rfl) T.z_range (pa_cons pe_int (pa_cons (pv 2) pa_nil))) (pg_name (i := 5) sc_saying.nd rfl (.inl rfl))
      (pss_cons (ps_asg (pe_tup (pa_cons (pe_call (ok_of T) (hr.mono (by decide)) (by rfl) T.g_of T.F_of.kp T.b_of .nil pass0 (pa_cons (pv 0) (pa_cons (pv 3) pa_nil))) (pa_cons (pe_op op_sub (pe_op op_sub (pv 5) pe_int) (pe_call (ok_of T) (hr.mono (by decide)) (by rfl) T.g_of T.F_of.kp T.b_of .nil pass0 (pa_cons (pv 0) (pa_cons (pe_lst (pa_cons pe_int (pa_cons pe_int (pa_cons (pe_call (ok_pull T) (hr.mono (by decide)) (by rfl) T.g_pull T.F_pull.kp T.b_pull .nil pass0 (pa_cons (pv 0) (pa_cons (pv 5) pa_nil))) pa_nil)))) pa_nil)))) pa_nil))) (pg_tup (by rfl) (pgs_cons (pg_name (i := 6) sc_saying.nd rfl (.inl rfl)) (pgs_cons (pg_name (i := 7) sc_saying.nd rfl (.inr rfl)) pgs_nil))))
      (pss_one (ps_if (pt_cmpR op_eq (pv 6) pe_str (nomark _))
      (pss_one (ps_expr (pe_bm PySem.F.plainAttrs_list PySem.F.slot_list_append PySem.F.type_list_append mt_append (pv 4) (pa_cons (pe_tup (pa_cons pe_str (pa_cons (pe_call (ok_some_signs T) (hr.mono (by decide)) (by rfl) T.g_some_signs T.F_some_signs.kp T.b_some_signs .nil pass0 (pa_cons (pv 0) (pa_cons (pv 1) pa_nil))) pa_nil))) pa_nil))))
      (pss_one (ps_if (pt_cmpR op_in_seq (pv 6) (pe_tup (pa_cons pe_str (pa_cons pe_str pa_nil))) (by rfl))
      (pss_one (ps_expr (pe_bm PySem.F.plainAttrs_list PySem.F.slot_list_append PySem.F.type_list_append mt_append (pv 4) (pa_cons (pe_tup (pa_cons (pv 6) (pa_cons (pe_ifExp (pt_cmpR op_gt (pe_call (ok_pull T) (hr.mono (by decide)) (by rfl) T.g_pull T.F_pull.kp T.b_pull .nil pass0 (pa_cons (pv 0) (pa_cons pe_int pa_nil))) pe_int (nomark _)) (pe_callTy call_tuple_of (by rfl) T.z_tuple (by decide +kernel) (pa_cons (pe_lc (own := [("_law_ref", 9)]) (g := (gName 9)) rfl sc_saying.nd (pi_range1 (by rfl) T.z_range (pa_cons (pv 5) pa_nil)) (blkOk_by (own := [("_law_ref", 9)]) (N := N_saying) (sc := defScope s_saying) (by decide +kernel)) (fun _ _ _ _ _ => (pg_name (i := 9) sc_saying.nd rfl (.inl rfl))) (fun _ _ _ _ _ => (pts_one (PW.pt (pw_or (pt_cmpR op_eq (pv 9) (pv 7) (nomark _)) (pw_or1 (pt_cmpR op_eq (pe_call (ok_pull T) (hr.mono (by decide)) (by rfl) T.g_pull T.F_pull.kp T.b_pull .nil pass0 (pa_cons (pv 0) (pa_cons pe_int pa_nil))) pe_int (nomark _))))))) (fun _ _ _ _ _ => (pv 9))) pa_nil)) (pe_tup pa_nil)) pa_nil))) pa_nil))))
      (pss_one (ps_if (pt_cmpR op_eq (pv 6) pe_str (nomark _))
      (pss_one (ps_expr (pe_bm PySem.F.plainAttrs_list PySem.F.slot_list_append PySem.F.type_list_append mt_append (pv 4) (pa_cons (pe_tup (pa_cons pe_str (pa_cons (pe_call (ok_pull T) (hr.mono (by decide)) (by rfl) T.g_pull T.F_pull.kp T.b_pull .nil pass0 (pa_cons (pv 0) (pa_cons (pv 5) pa_nil))) (pa_cons (pv 7) pa_nil)))) pa_nil))))
      (pss_one (ps_if (pt_cmpR op_eq (pv 6) pe_str (nomark _))
      (pss_cons (ps_set (i := 8) sc_saying.nd rfl (.inl rfl) (pe_call (ok_of T) (hr.mono (by decide)) (by rfl) T.g_of T.F_of.kp T.b_of .nil pass0 (pa_cons (pv 0) (pa_cons (pe_lst (pa_cons pe_int (pa_cons pe_int (pa_cons pe_int (pa_cons pe_int pa_nil))))) pa_nil))))
      (pss_one (ps_expr (pe_bm PySem.F.plainAttrs_list PySem.F.slot_list_append PySem.F.type_list_append mt_append (pv 4) (pa_cons (pe_tup (pa_cons pe_str (pa_cons (pv 7) (pa_cons (pv 8) (pa_cons (pe_call (ok_pull T) (hr.mono (by decide)) (by rfl) T.g_pull T.F_pull.kp T.b_pull .nil pass0 (pa_cons (pv 0) (pa_cons (pv 8) pa_nil))) pa_nil))))) pa_nil)))))
      (pss_one (ps_expr (pe_bm PySem.F.plainAttrs_list PySem.F.slot_list_append PySem.F.type_list_append mt_append (pv 4) (pa_cons (pe_tup (pa_cons (pv 6) (pa_cons (pv 7) pa_nil))) pa_nil))))))))))))))
      (pss_one (ps_ret (pv 4)))))), ?_⟩)
  · obtain ⟨b, l, kl, al, many, kv, rfl, _⟩ := h
    rfl
  · obtain ⟨b, l, kl, al, many, kv, rfl, B, al1, al4, nd, m2, m6, hkl, hkv, hkn, hkm, klb, q⟩ := h
    walk_at "ss"
    refine ⟨b, l, al, rfl, B, al4, fun z0 H1 sub0 B1 k1 => ?_⟩
    have hkl1 := k1 _ _ hkl klb
    walk_at "ss"
    intro p0 hp0
    have s2 := same_upd (o := .tup [.str "is", strL z0]) hp0
    walk_at "ss"
    intro L hL
    have s3 := s2.trans (same_upd (o := .lst [.ref p0]) hL)
    have LH : H L = none := by
      have h2 := s3
      have : H1 L = none := s2.free hL
      cases e : H L with
      | none => rfl
      | some o =>
        by_cases lb : L = b
        · obtain ⟨u, hu⟩ := B1.there
          rw [lb, hu] at this
          cases this
        · rw [k1 _ _ e lb] at this
          cases this
    have B3 := B1.same s3
    have k3 := k1.trans (Kp.same (b := b) s3)
    have hkl3 := s3 _ _ hkl1
    have F3 : FLs (upd (upd H1 p0 (.tup [.str "is", strL z0])) L (.lst [.ref p0])) L [.is z0] := ⟨[p0], upd_same, rfl, fun i q f a b => by
      match i, a, b with
      | 0, a, b =>
        cases a
        cases b
        exact same_upd hL _ _ upd_same
      | i + 1, a, b => simp at a⟩
    have O3 : FOk al.cps.toList [.is z0] := fun i f e => by
      match i, e with
      | 0, e =>
        cases e
        exact sub_filter sub0 nd
      | i + 1, e => simp at e
    clear hp0 hL s2 s3 hkl1 k1 B1
    generalize upd (upd H1 p0 (.tup [.str "is", strL z0])) L (.lst [.ref p0]) = G3 at *
    walk_at "ss"
    refine ⟨_, _, rfl, ⟨by decide, by decide, by omega, by omega⟩, ?_⟩
    refine for_it walk_range (fun i σ H' => Stp (∃ (fls : List FL) (y5 y6 y7 y8 y9 : Option V), σ = [some (.ref b), some (.str al), some (.int many), some (.ref kl), some (.ref L), y5, y6, y7, y8, y9] ∧ FLs H' L fls ∧ FOk al.cps.toList fls ∧ fls.length = i + 1 ∧ BagAt b l H' ∧ Kp b H H' ∧ H' kl = some (.lst kv)))
      (.mk ⟨_, _, _, _, _, _, rfl, F3, O3, rfl, B3, k3, hkl3⟩) (fun _ _ _ _ _ => trivial) ?_ ?_
    · clear F3 O3 B3 k3 hkl3
      rintro i x σ H4 H5 hi hP ⟨rfl, rfl⟩
      obtain ⟨fls, y5, y6, y7, y8, y9, rfl, F5, O5, fl5, B5, k5, hkl5⟩ := hP.of
      clear hP
      show gName 5 (V.int (1 + (i : Int))) _ _ _
      obtain ⟨az, haz⟩ : ∃ az : Int, az = 1 + (i : Int) := ⟨_, rfl⟩
      rw [← haz]
      have i6 : i < 49 := by omega
      have Lb : L ≠ b := B.nb LH
      walk_at "ss"
      refine ⟨b, l, _, rfl, B5, .inl ⟨kl, _, rfl, klb, .inl (SqL.of hkl5), hkn, (by omega), fun v H6 hv B6 k6 => ?_⟩⟩
      have F6 := F5.kp k6 B5 Lb
      have hkl6 := k6 _ _ hkl5 klb
      have k06 := k5.trans k6
      clear B5 F5 hkl5 k5 k6
      walk_at "ss"
      refine ⟨b, l, _, rfl, B6, by omega, by omega, fun k H7 kk0 kk1 B7 k7 => ?_⟩
      have F7 := F6.kp k7 B6 Lb
      have hkl7 := k7 _ _ hkl6 klb
      have k07 := k06.trans k7
      clear B6 F6 hkl6 k06 k7
      walk_at "ss"
      intro D hD
      have s8 := same_upd (o := .lst [.int 0, .int 0, .int k]) hD
      walk_at "ss"
      refine ⟨b, l, _, rfl, B7.same s8, .inl ⟨D, _, rfl, B7.nb hD, .inl (SqL.of upd_same), (by intro z; cases z), (by show 3 ≤ 100000; decide), fun u H9 hu B9 k9 => ?_⟩⟩
      obtain ⟨m, rfl, m0, m1⟩ : ∃ m : Int, u = .int m ∧ 0 ≤ m ∧ m < az := by
        simp only [List.mem_cons, List.not_mem_nil, or_false] at hu
        rcases hu with rfl | rfl | rfl <;> exact ⟨_, rfl, by omega, by omega⟩
      have F9 := (F7.same s8).kp k9 (B7.same s8) Lb
      have hkl9 := k9 _ _ (s8 _ _ hkl7) klb
      have k09 := (k07.trans (Kp.same s8)).trans k9
      clear B7 F7 hkl7 k07 s8 hD k9 hu
      obtain ⟨nr, hnr⟩ : ∃ nr : Nat, (nr : Int) = az - 1 - m := ⟨(az - 1 - m).toNat, by omega⟩
      have nri : nr < i + 1 := by omega
      walk_at "ss"
      intro tt htt
      have s10 := same_upd (o := .tup [v, .int (az - 1 - m)]) htt
      have F10 := F9.same s10
      have B10 := B9.same s10
      have hkl10 := s10 _ _ hkl9
      have k010 := k09.trans (Kp.same s10)
      refine ⟨tt, _, rfl, .inl (.inl upd_same), rfl, _, _, rfl, _, _, rfl, rfl, ?_⟩
      clear F9 B9 hkl9 k09 htt s10
      show (_ : Hp → Prop) (upd H9 tt (.tup [v, .int (az - 1 - m)]))
      generalize upd H9 tt (.tup [v, .int (az - 1 - m)]) = G at *
      have tail : ∀ (f : FL) (p : Addr) (G2 : Hp) (y6 y7 y8 y9 : Option V), FLAt G2 p f → FLOk al.cps.toList (i + 1) f → FLs G2 L fls → BagAt b l G2 → Kp b H G2 → G2 kl = some (.lst kv) →
          ∃ xs, G2 L = some (.lst xs) ∧ xs.length < 100000 ∧ (∃ (fls : List FL) (z5 z6 z7 z8 z9 : Option V), [some (.ref b), some (.str al), some (.int many), some (.ref kl), some (.ref L), some (.int az), y6, y7, y8, y9] = [some (.ref b), some (.str al), some (.int many), some (.ref kl), some (.ref L), z5, z6, z7, z8, z9] ∧ FLs (upd G2 L (.lst (xs ++ [.ref p]))) L fls ∧ FOk al.cps.toList fls ∧ fls.length = i + 1 + 1 ∧ BagAt b l (upd G2 L (.lst (xs ++ [.ref p]))) ∧ Kp b H (upd G2 L (.lst (xs ++ [.ref p]))) ∧ upd G2 L (.lst (xs ++ [.ref p])) kl = some (.lst kv)) := by
        intro f p G2 z6 z7 z8 z9 hf ho F B2 k2 hk2
        obtain ⟨xs, x1, x2, x3⟩ := F.add hf
        have Ll : L ≠ l := B.nl LH
        have klL : kl ≠ L := ne_of_none hkl LH
        exact ⟨xs, x1, by omega, _, _, _, _, _, _, rfl, x3, O5.snoc (by rw [fl5]; exact ho), by rw [List.length_append, fl5]; rfl, B2.mut Lb Ll, k2.mut LH, by rw [upd_ne klL]; exact hk2⟩
      have hv : v = .str "is" ∨ v = .str "not" ∨ v = .str "and" ∨ v = .str "or" ∨ v = .str "before" ∨ v = .str "since" ∨ v = .str "count" := by
        have hv := hkv v hv
        unfold kindsV at hv
        simpa only [List.mem_cons, List.not_mem_nil, or_false] using hv
      rcases hv with rfl | rfl | rfl | rfl | rfl | rfl | rfl
      all_goals obtain ⟨xs0, f1, f2⟩ := F10.len
      · walk_at "ss"
        refine ⟨.inl ⟨rfl, _, SqL.of f1⟩, ?_⟩
        walk_at "ss"
        refine ⟨b, l, al, rfl, B10, al4, fun z2 G2 sub2 B12 k12 => ?_⟩
        walk_at "ss"
        intro tp htp
        have s12 := same_upd (o := .tup [.str "is", strL z2]) htp
        obtain ⟨xs, x1, x2, x3⟩ := tail (.is z2) tp _ _ _ _ _ upd_same (sub_filter sub2 nd) ((F10.kp k12 B10 Lb).same s12) (B12.same s12) ((k010.trans k12).trans (Kp.same s12)) (s12 _ _ (k12 _ _ hkl10 klb))
        refine ⟨L, xs, _, rfl, rfl, x1, szl x2, ?_⟩
        exact .mk x3
      · walk_at "ss"
        intro pt hpt
        have sp := same_upd (o := .tup [.str "and", .str "or"]) hpt
        have F11 := F10.same sp
        have B11 := B10.same sp
        have k11 := k010.trans (Kp.same sp)
        have hkl11 := sp _ _ hkl10
        have f11 := sp _ _ f1
        walk_at "ss"
        refine ⟨pt, _, rfl, .inr (SqT.of upd_same), rfl, rfl, ?_⟩
        rw [show inV (V.str "not") [V.str "and", V.str "or"] = false from by decide +kernel]
        clear F10 B10 k010 hkl10 f1 sp hpt
        generalize upd G pt (.tup [.str "and", .str "or"]) = G1 at *
        walk_at "ss"
        refine ⟨.inl ⟨rfl, _, SqL.of f11⟩, ?_⟩
        walk_at "ss"
        intro tp htp
        have s12 := same_upd (o := .tup [.str "not", .int (az - 1 - m)]) htp
        have fa : FLAt (upd G1 tp (.tup [.str "not", .int (az - 1 - m)])) tp (.not nr) := by
          show _ = some (HO.tup [.str "not", .int (nr : Int)])
          rw [hnr]
          exact upd_same
        obtain ⟨xs, x1, x2, x3⟩ := tail (.not nr) tp _ _ _ _ _ fa nri (F11.same s12) (B11.same s12) (k11.trans (Kp.same s12)) (s12 _ _ hkl11)
        refine ⟨L, xs, _, rfl, rfl, x1, szl x2, ?_⟩
        exact .mk x3
      · walk_at "ss"
        intro pt hpt
        have sp := same_upd (o := .tup [.str "and", .str "or"]) hpt
        have F11 := F10.same sp
        have B11 := B10.same sp
        have k11 := k010.trans (Kp.same sp)
        have hkl11 := sp _ _ hkl10
        have f11 := sp _ _ f1
        walk_at "ss"
        refine ⟨pt, _, rfl, .inr (SqT.of upd_same), rfl, rfl, ?_⟩
        rw [show inV (V.str "and") [V.str "and", V.str "or"] = true from by decide +kernel]
        clear F10 B10 k010 hkl10 f1 sp hpt
        generalize upd G pt (.tup [.str "and", .str "or"]) = G1 at *
        walk_at "ss"
        refine ⟨.inl ⟨rfl, _, SqL.of f11⟩, ?_⟩
        walk_at "ss"
        refine ⟨b, l, _, rfl, B11, by decide, by decide, fun k9 G2 k90 k91 B12 k12 => ?_⟩
        have F12 := F11.kp k12 B11 Lb
        have k012 := k11.trans k12
        have hkl12 := k12 _ _ hkl11 klb
        clear F11 k11 hkl11 f11 B11 k12
        walk_at "ss"
        refine ite2 (fun e => ?_) (fun e => ?_)
        · walk_at "ss"
          intro D2 hD2
          have nb2 := B12.nb hD2
          have nl2 := B12.nl hD2
          refine lc_it walk_range (fun j H' => Stp (∃ rs : List Nat, (∀ r ∈ rs, r < j) ∧ rs.Pairwise (· < ·) ∧ rs.length ≤ j ∧ H' D2 = some (.lst (natL rs)) ∧ BagAt b l H' ∧ Kp b G2 H'))
            (.mk ⟨[], (fun _ h => by cases h), .nil, Nat.le_refl _, upd_same, B12.mut nb2 nl2, Kp.same (same_upd hD2)⟩) (fun _ _ _ _ => trivial) ?_ ?_
          · rintro j x H1 H2 hj hP ⟨rfl, rfl⟩
            obtain ⟨rs, r1, r2, r3, hz, B2, k2⟩ := hP.of
            clear hP
            obtain ⟨jz, hjz⟩ : ∃ jz : Int, jz = 0 + (j : Int) := ⟨_, rfl⟩
            show gName 9 (V.int (0 + (j : Int))) _ _ _
            rw [← hjz]
            have fin : ∀ H5 : Hp, H5 D2 = some (.lst (natL rs)) → BagAt b l H5 → Kp b G2 H5 → Stp (∃ rs' : List Nat, (∀ r ∈ rs', r < j + 1) ∧ rs'.Pairwise (· < ·) ∧ rs'.length ≤ j + 1 ∧ upd H5 D2 (.lst (natL rs ++ [.int jz])) D2 = some (.lst (natL rs')) ∧ BagAt b l (upd H5 D2 (.lst (natL rs ++ [.int jz]))) ∧ Kp b G2 (upd H5 D2 (.lst (natL rs ++ [.int jz])))) := by
              intro H5 h5 B5 k5
              refine .mk ⟨rs ++ [j], fun r hr => ?_, ?_, by rw [List.length_append]; show rs.length + 1 ≤ j + 1; omega, ?_, B5.mut nb2 nl2, k5.mut hD2⟩
              · rcases List.mem_append.mp hr with hr | hr
                · have := r1 r hr
                  omega
                · rw [List.mem_singleton.mp hr]
                  omega
              · refine List.pairwise_append.mpr ⟨r2, List.pairwise_singleton _ _, fun x hx y hy => ?_⟩
                rw [List.mem_singleton.mp hy]
                exact r1 x hx
              · rw [upd_same]
                unfold natL
                rw [List.map_append, hjz, Int.zero_add]
                rfl
            walk_at "ss"
            refine ite2 (fun e2 => ?_) (fun e2 => ?_)
            · walk_at "ss"
              exact ⟨_, hz, szl (by rw [natL_len]; omega), fin _ hz B2 k2⟩
            · walk_at "ss"
              refine ⟨b, l, _, rfl, B2, by decide, by decide, fun k4 H3 _ _ B3 k3 => ?_⟩
              have hz3 := k3 _ _ hz nb2
              walk_at "ss"
              refine ite2 (fun e3 => ?_) (fun e3 => ?_)
              · walk_at "ss"
                exact ⟨_, hz3, szl (by rw [natL_len]; omega), fin _ hz3 B3 (k2.trans k3)⟩
              · exact .mk ⟨rs, fun r hr => by have := r1 r hr; omega, r2, by omega, hz3, B3, k2.trans k3⟩
          · intro H1 hP
            obtain ⟨rs, r1, r2, r3, hz, B2, k2⟩ := hP.of
            clear hP
            walk_at "ss"
            refine ⟨D2, _, rfl, .inl ⟨SqL.of hz, fun q0 hq0 => ?_⟩⟩
            have s5 := same_upd (o := .tup (natL rs)) hq0
            walk_at "ss"
            intro tp htp
            have s6 := s5.trans (same_upd (o := .tup [.str "and", .ref q0]) htp)
            obtain ⟨xs, x1, x2, x3⟩ := tail (.and rs) tp _ _ _ _ _ ⟨q0, upd_same, same_upd htp _ _ upd_same⟩ (show (∀ r ∈ rs, r < i + 1) ∧ rs.Pairwise (· < ·) ∧ rs.length ≤ 100 from ⟨fun r hr => by have := r1 r hr; omega, r2, by omega⟩) ((F12.kp k2 B12 Lb).same s6) (B2.same s6) ((k012.trans k2).trans (Kp.same s6)) (s6 _ _ (k2 _ _ hkl12 klb))
            refine ⟨L, xs, _, rfl, rfl, x1, szl x2, ?_⟩
            exact .mk x3
        · walk_at "ss"
          intro q0 hq0
          have s5 := same_upd (o := .tup []) hq0
          walk_at "ss"
          intro tp htp
          have s6 := s5.trans (same_upd (o := .tup [.str "and", .ref q0]) htp)
          obtain ⟨xs, x1, x2, x3⟩ := tail (.and []) tp _ _ _ _ _ ⟨q0, upd_same, same_upd htp _ _ upd_same⟩ (show (∀ r ∈ ([] : List Nat), r < i + 1) ∧ ([] : List Nat).Pairwise (· < ·) ∧ ([] : List Nat).length ≤ 100 from ⟨(fun _ h => by cases h), .nil, by decide⟩) (F12.same s6) (B12.same s6) (k012.trans (Kp.same s6)) (s6 _ _ hkl12)
          refine ⟨L, xs, _, rfl, rfl, x1, szl x2, ?_⟩
          exact .mk x3
      · walk_at "ss"
        intro pt hpt
        have sp := same_upd (o := .tup [.str "and", .str "or"]) hpt
        have F11 := F10.same sp
        have B11 := B10.same sp
        have k11 := k010.trans (Kp.same sp)
        have hkl11 := sp _ _ hkl10
        have f11 := sp _ _ f1
        walk_at "ss"
        refine ⟨pt, _, rfl, .inr (SqT.of upd_same), rfl, rfl, ?_⟩
        rw [show inV (V.str "or") [V.str "and", V.str "or"] = true from by decide +kernel]
        clear F10 B10 k010 hkl10 f1 sp hpt
        generalize upd G pt (.tup [.str "and", .str "or"]) = G1 at *
        walk_at "ss"
        refine ⟨.inl ⟨rfl, _, SqL.of f11⟩, ?_⟩
        walk_at "ss"
        refine ⟨b, l, _, rfl, B11, by decide, by decide, fun k9 G2 k90 k91 B12 k12 => ?_⟩
        have F12 := F11.kp k12 B11 Lb
        have k012 := k11.trans k12
        have hkl12 := k12 _ _ hkl11 klb
        clear F11 k11 hkl11 f11 B11 k12
        walk_at "ss"
        refine ite2 (fun e => ?_) (fun e => ?_)
        · walk_at "ss"
          intro D2 hD2
          have nb2 := B12.nb hD2
          have nl2 := B12.nl hD2
          refine lc_it walk_range (fun j H' => Stp (∃ rs : List Nat, (∀ r ∈ rs, r < j) ∧ rs.Pairwise (· < ·) ∧ rs.length ≤ j ∧ H' D2 = some (.lst (natL rs)) ∧ BagAt b l H' ∧ Kp b G2 H'))
            (.mk ⟨[], (fun _ h => by cases h), .nil, Nat.le_refl _, upd_same, B12.mut nb2 nl2, Kp.same (same_upd hD2)⟩) (fun _ _ _ _ => trivial) ?_ ?_
          · rintro j x H1 H2 hj hP ⟨rfl, rfl⟩
            obtain ⟨rs, r1, r2, r3, hz, B2, k2⟩ := hP.of
            clear hP
            obtain ⟨jz, hjz⟩ : ∃ jz : Int, jz = 0 + (j : Int) := ⟨_, rfl⟩
            show gName 9 (V.int (0 + (j : Int))) _ _ _
            rw [← hjz]
            have fin : ∀ H5 : Hp, H5 D2 = some (.lst (natL rs)) → BagAt b l H5 → Kp b G2 H5 → Stp (∃ rs' : List Nat, (∀ r ∈ rs', r < j + 1) ∧ rs'.Pairwise (· < ·) ∧ rs'.length ≤ j + 1 ∧ upd H5 D2 (.lst (natL rs ++ [.int jz])) D2 = some (.lst (natL rs')) ∧ BagAt b l (upd H5 D2 (.lst (natL rs ++ [.int jz]))) ∧ Kp b G2 (upd H5 D2 (.lst (natL rs ++ [.int jz])))) := by
              intro H5 h5 B5 k5
              refine .mk ⟨rs ++ [j], fun r hr => ?_, ?_, by rw [List.length_append]; show rs.length + 1 ≤ j + 1; omega, ?_, B5.mut nb2 nl2, k5.mut hD2⟩
              · rcases List.mem_append.mp hr with hr | hr
                · have := r1 r hr
                  omega
                · rw [List.mem_singleton.mp hr]
                  omega
              · refine List.pairwise_append.mpr ⟨r2, List.pairwise_singleton _ _, fun x hx y hy => ?_⟩
                rw [List.mem_singleton.mp hy]
                exact r1 x hx
              · rw [upd_same]
                unfold natL
                rw [List.map_append, hjz, Int.zero_add]
                rfl
            walk_at "ss"
            refine ite2 (fun e2 => ?_) (fun e2 => ?_)
            · walk_at "ss"
              exact ⟨_, hz, szl (by rw [natL_len]; omega), fin _ hz B2 k2⟩
            · walk_at "ss"
              refine ⟨b, l, _, rfl, B2, by decide, by decide, fun k4 H3 _ _ B3 k3 => ?_⟩
              have hz3 := k3 _ _ hz nb2
              walk_at "ss"
              refine ite2 (fun e3 => ?_) (fun e3 => ?_)
              · walk_at "ss"
                exact ⟨_, hz3, szl (by rw [natL_len]; omega), fin _ hz3 B3 (k2.trans k3)⟩
              · exact .mk ⟨rs, fun r hr => by have := r1 r hr; omega, r2, by omega, hz3, B3, k2.trans k3⟩
          · intro H1 hP
            obtain ⟨rs, r1, r2, r3, hz, B2, k2⟩ := hP.of
            clear hP
            walk_at "ss"
            refine ⟨D2, _, rfl, .inl ⟨SqL.of hz, fun q0 hq0 => ?_⟩⟩
            have s5 := same_upd (o := .tup (natL rs)) hq0
            walk_at "ss"
            intro tp htp
            have s6 := s5.trans (same_upd (o := .tup [.str "or", .ref q0]) htp)
            obtain ⟨xs, x1, x2, x3⟩ := tail (.or rs) tp _ _ _ _ _ ⟨q0, upd_same, same_upd htp _ _ upd_same⟩ (show (∀ r ∈ rs, r < i + 1) ∧ rs.Pairwise (· < ·) ∧ rs.length ≤ 100 from ⟨fun r hr => by have := r1 r hr; omega, r2, by omega⟩) ((F12.kp k2 B12 Lb).same s6) (B2.same s6) ((k012.trans k2).trans (Kp.same s6)) (s6 _ _ (k2 _ _ hkl12 klb))
            refine ⟨L, xs, _, rfl, rfl, x1, szl x2, ?_⟩
            exact .mk x3
        · walk_at "ss"
          intro q0 hq0
          have s5 := same_upd (o := .tup []) hq0
          walk_at "ss"
          intro tp htp
          have s6 := s5.trans (same_upd (o := .tup [.str "or", .ref q0]) htp)
          obtain ⟨xs, x1, x2, x3⟩ := tail (.or []) tp _ _ _ _ _ ⟨q0, upd_same, same_upd htp _ _ upd_same⟩ (show (∀ r ∈ ([] : List Nat), r < i + 1) ∧ ([] : List Nat).Pairwise (· < ·) ∧ ([] : List Nat).length ≤ 100 from ⟨(fun _ h => by cases h), .nil, by decide⟩) (F12.same s6) (B12.same s6) (k012.trans (Kp.same s6)) (s6 _ _ hkl12)
          refine ⟨L, xs, _, rfl, rfl, x1, szl x2, ?_⟩
          exact .mk x3
      · walk_at "ss"
        intro pt hpt
        have sp := same_upd (o := .tup [.str "and", .str "or"]) hpt
        have F11 := F10.same sp
        have B11 := B10.same sp
        have k11 := k010.trans (Kp.same sp)
        have hkl11 := sp _ _ hkl10
        have f11 := sp _ _ f1
        walk_at "ss"
        refine ⟨pt, _, rfl, .inr (SqT.of upd_same), rfl, rfl, ?_⟩
        rw [show inV (V.str "before") [V.str "and", V.str "or"] = false from by decide +kernel]
        clear F10 B10 k010 hkl10 f1 sp hpt
        generalize upd G pt (.tup [.str "and", .str "or"]) = G1 at *
        walk_at "ss"
        refine ⟨.inl ⟨rfl, _, SqL.of f11⟩, ?_⟩
        walk_at "ss"
        intro tp htp
        have s12 := same_upd (o := .tup [.str "before", .int (az - 1 - m)]) htp
        have fa : FLAt (upd G1 tp (.tup [.str "before", .int (az - 1 - m)])) tp (.before nr) := by
          show _ = some (HO.tup [.str "before", .int (nr : Int)])
          rw [hnr]
          exact upd_same
        obtain ⟨xs, x1, x2, x3⟩ := tail (.before nr) tp _ _ _ _ _ fa nri (F11.same s12) (B11.same s12) (k11.trans (Kp.same s12)) (s12 _ _ hkl11)
        refine ⟨L, xs, _, rfl, rfl, x1, szl x2, ?_⟩
        exact .mk x3
      · walk_at "ss"
        intro pt hpt
        have sp := same_upd (o := .tup [.str "and", .str "or"]) hpt
        have F11 := F10.same sp
        have B11 := B10.same sp
        have k11 := k010.trans (Kp.same sp)
        have hkl11 := sp _ _ hkl10
        have f11 := sp _ _ f1
        walk_at "ss"
        refine ⟨pt, _, rfl, .inr (SqT.of upd_same), rfl, rfl, ?_⟩
        rw [show inV (V.str "since") [V.str "and", V.str "or"] = false from by decide +kernel]
        clear F10 B10 k010 hkl10 f1 sp hpt
        generalize upd G pt (.tup [.str "and", .str "or"]) = G1 at *
        walk_at "ss"
        refine ⟨.inl ⟨rfl, _, SqL.of f11⟩, ?_⟩
        walk_at "ss"
        refine ⟨b, l, _, rfl, B11, by omega, by omega, fun j G2 j0 j1 B12 k12 => ?_⟩
        obtain ⟨jn, hjn⟩ : ∃ jn : Nat, (jn : Int) = j := ⟨j.toNat, by omega⟩
        walk_at "ss"
        intro tp htp
        have s12 := same_upd (o := .tup [.str "since", .int j, .int (az - 1 - m)]) htp
        have fa : FLAt (upd G2 tp (.tup [.str "since", .int j, .int (az - 1 - m)])) tp (.since jn nr) := by
          show _ = some (HO.tup [.str "since", .int (jn : Int), .int (nr : Int)])
          rw [hnr, hjn]
          exact upd_same
        obtain ⟨xs, x1, x2, x3⟩ := tail (.since jn nr) tp _ _ _ _ _ fa (show jn < i + 1 ∧ nr < i + 1 by omega) ((F11.kp k12 B11 Lb).same s12) (B12.same s12) ((k11.trans k12).trans (Kp.same s12)) (s12 _ _ (k12 _ _ hkl11 klb))
        refine ⟨L, xs, _, rfl, rfl, x1, szl x2, ?_⟩
        exact .mk x3
      · walk_at "ss"
        intro pt hpt
        have sp := same_upd (o := .tup [.str "and", .str "or"]) hpt
        have F11 := F10.same sp
        have B11 := B10.same sp
        have k11 := k010.trans (Kp.same sp)
        have hkl11 := sp _ _ hkl10
        have f11 := sp _ _ f1
        walk_at "ss"
        refine ⟨pt, _, rfl, .inr (SqT.of upd_same), rfl, rfl, ?_⟩
        rw [show inV (V.str "count") [V.str "and", V.str "or"] = false from by decide +kernel]
        clear F10 B10 k010 hkl10 f1 sp hpt
        generalize upd G pt (.tup [.str "and", .str "or"]) = G1 at *
        walk_at "ss"
        intro D2 hD2
        have s12 := same_upd (o := .lst [.int 2, .int 2, .int 3, .int 5]) hD2
        walk_at "ss"
        refine ⟨b, l, _, rfl, B11.same s12, .inl ⟨D2, _, rfl, B11.nb hD2, .inl (SqL.of upd_same), (by intro z; cases z), (by show 4 ≤ 100000; decide), fun u G2 hu B12 k12 => ?_⟩⟩
        obtain ⟨pn, rfl, hpn⟩ : ∃ pn : Nat, u = .int (pn : Int) ∧ pn ∈ [2, 3, 5] := by
          simp only [List.mem_cons, List.not_mem_nil, or_false] at hu
          rcases hu with rfl | rfl | rfl | rfl
          · exact ⟨2, rfl, by decide⟩
          · exact ⟨2, rfl, by decide⟩
          · exact ⟨3, rfl, by decide⟩
          · exact ⟨5, rfl, by decide⟩
        have pn5 : 2 ≤ pn ∧ pn ≤ 5 := by
          simp only [List.mem_cons, List.not_mem_nil, or_false] at hpn
          omega
        have F12 := (F11.same s12).kp k12 (B11.same s12) Lb
        have k012 := (k11.trans (Kp.same s12)).trans k12
        have hkl12 := k12 _ _ (s12 _ _ hkl11) klb
        have f12 := k12 _ _ (s12 _ _ f11) Lb
        clear F11 k11 hkl11 f11 B11 s12 k12 hu hD2
        obtain ⟨pz, hpz⟩ : ∃ pz : Int, pz = (pn : Int) := ⟨_, rfl⟩
        rw [← hpz]
        walk_at "ss"
        refine ⟨.inl ⟨rfl, _, SqL.of f12⟩, ?_⟩
        walk_at "ss"
        refine ⟨b, l, _, rfl, B12, by omega, by omega, fun j G3 j0 j1 B13 k13 => ?_⟩
        obtain ⟨jn, hjn⟩ : ∃ jn : Nat, (jn : Int) = j := ⟨j.toNat, by omega⟩
        walk_at "ss"
        intro tp htp
        have s13 := same_upd (o := .tup [.str "count", .int (az - 1 - m), .int pz, .int j]) htp
        have fa : FLAt (upd G3 tp (.tup [.str "count", .int (az - 1 - m), .int pz, .int j])) tp (.count nr pn jn) := by
          show _ = some (HO.tup [.str "count", .int (nr : Int), .int (pn : Int), .int (jn : Int)])
          rw [hnr, hjn, ← hpz]
          exact upd_same
        obtain ⟨xs, x1, x2, x3⟩ := tail (.count nr pn jn) tp _ _ _ _ _ fa (show nr < i + 1 ∧ pn ∈ PR ∧ jn < pn from ⟨nri, pr_of hpn, by omega⟩) ((F12.kp k13 B12 Lb).same s13) (B13.same s13) ((k012.trans k13).trans (Kp.same s13)) (s13 _ _ (k13 _ _ hkl12 klb))
        refine ⟨L, xs, _, rfl, rfl, x1, szl x2, ?_⟩
        exact .mk x3
    · rintro σ H5 hP
      obtain ⟨fls, y5, y6, y7, y8, y9, rfl, F5, O5, fl5, B5, k5, hkl5⟩ := hP.of
      walk_at "ss"
      exact q L fls H5 F5 O5 (by omega) LH B5 k5
end

variable {K : PySem.W.Frag} {mg : Str → Option Value}
/-! ### what stays beside the bag, beside new code objects -/
theorem BagAt.nlist {b l : Addr} {H : Hp} (B : BagAt b l H) {ps : List Addr} (h : H b = some (.lst (ps.map V.ref))) : False := by
  obtain ⟨⟨i, r, m, c, ns, hb, _⟩, _⟩ := B
  rw [hb] at h
  have e := Option.some.inj h
  injection e with e
  match ps, e with
  | [], e => simp at e
  | [_], e => simp at e
  | _ :: _ :: _, e => simp at e
theorem tabs_kp {T : List (Addr × Str)} {H H' : Hp} {b l : Addr} (t : LamX.Tabs T H) (k : Kp b H H') (B : BagAt b l H) : LamX.Tabs T H' := fun p hp => by
  obtain ⟨⟨i, r, m, c, ns, hb, _⟩, _⟩ := B
  obtain ⟨ps, a1, a2, a3⟩ := t p hp
  refine ⟨ps, k _ _ a1 (fun z => by rw [z, hb] at a1; cases a1), a2, fun q v hq => ?_⟩
  obtain ⟨c0, e1, e3⟩ := a3 q v hq
  exact ⟨c0, e1, k _ _ e3 (fun z => by rw [z, hb] at e3; cases e3)⟩
open LamX (ExtN)
theorem seq_ext {K : PySem.W.Frag} {H H' : Hp} {a : Addr} {xs : List V} (e : ExtN H H') (h : SqL K H a xs) : SqL K H' a xs := by
  rcases h with (h | ⟨o, h⟩) | h
  · exact .inl (.inl (e _ _ h (by intro ps z; cases z)))
  · exact .inl (.inr ⟨o, e _ _ h (by intro ps z; cases z)⟩)
  · exact .inr h
theorem tup_ext {K : PySem.W.Frag} {H H' : Hp} {a : Addr} {xs : List V} (e : ExtN H H') (h : SqT K H a xs) : SqT K H' a xs := by
  rcases h with (h | ⟨o, h⟩) | h
  · exact .inl (.inl (e _ _ h (by intro ps z; cases z)))
  · exact .inl (.inr ⟨o, e _ _ h (by intro ps z; cases z)⟩)
  · exact .inr h
theorem BagAt.ext {b l : Addr} {H H' : Hp} (x : BagAt b l H) (e : ExtN H H') : BagAt b l H' := by
  obtain ⟨⟨i, r, m, c, ns, h1, h2, h3⟩, n⟩ := x
  exact ⟨⟨i, r, m, c, ns, e _ _ h1 (by intro ps z; cases z), e _ _ h2 (by intro ps z; cases z), h3⟩, n⟩
theorem free_by {scope sc : Scope} (h : (scope.names.all fun y => !decide (y.2 = .free) || (decide (sc.names.lookup y.1 = some .cell) || decide (sc.names.lookup y.1 = some .free))) = true) :
    ∀ y ∈ scope.names, y.2 = .free → sc.names.lookup y.1 = some .cell ∨ sc.names.lookup y.1 = some .free := fun y hy e => by
  have z := List.all_eq_true.mp h y hy
  rw [e] at z
  simpa using z

open NdefX (NScope)
section
variable {P : Program} {w : World} {base : Heap}
theorem bind0 {F : LF} {H : Hp} {s : Shared} (h : ∀ doc pm ctv, bindArgs (F.fd doc pm ctv) ⟨[], []⟩ = pure []) (doc pm ctv : Value) : ∃ us : List Value, Vals [] us ∧ BindsTo s (F.fd doc pm ctv) ⟨[], []⟩ ((([] : List Str)).zip us) :=
  ⟨[], .nil, .of_eq (h doc pm ctv)⟩
theorem bind1 {F : LF} {H : Hp} {s : Shared} {i : Int} {x : Str} (ok : HOk P w H s.heap) (hD : DefAt F [.int i] H)
    (h : ∀ (T : Addr) (doc pm ctv : Value) (its : List Value), F.dV = .ref T → its.length = 1 → ∃ k, bindArgs (F.fd doc pm ctv) ⟨[], []⟩ = seqItems? (.ref T) >>= k ∧ k (some its.toArray) = pure (([x] : List Str).zip its)) (doc pm ctv : Value) :
    ∃ us : List Value, Vals [.int i] us ∧ BindsTo s (F.fd doc pm ctv) ⟨[], []⟩ (([x] : List Str).zip us) := by
  rcases hD with ⟨e, _⟩ | ⟨T0, j, e, dv, ht⟩
  · cases e
  · cases e
    have z : ObjOk P w H s.heap T0 (.tup [.int i]) := ok T0 _ ht
    obtain ⟨_, its, r, tp⟩ := z
    obtain ⟨k, e1, e2⟩ := h T0 doc pm ctv its dv (by rw [← r.length]; rfl)
    refine ⟨its, r, BindsTo.of_looks fun M => ?_⟩
    rw [e1]
    have g : ∃ (o : Obj) (n : Nat), s.heap.get? T0 = some o ∧ o.data = .seq its.toArray n := by
      have tp : s.heap.IsTuple T0 its.toArray := tp
      obtain ⟨o, h1, _, n, h3⟩ := tp
      exact ⟨o, n, h1, h3⟩
    obtain ⟨o, n, g1, g2⟩ := g
    refine looks_items (K := [(T0, o)]) (o := o) (n := n) (fun a u e => ?_) (by simp) g2 (.of_pure e2)
    have e : List.lookup a [(T0, o)] = some u := e
    by_cases hz : a = T0
    · rw [hz] at e ⊢
      rw [show List.lookup T0 [(T0, o)] = some o by simp] at e
      cases e
      exact g1
    · have hb : (a == T0) = false := by simpa using hz
      simp [List.lookup, hb] at e
end

open LamX NdefX in
/-! ### lambdas, by their readings -/
open NdefX (NScope)
section
variable {P : Program} {w : World} {base : Heap}
theorem lok_g0 {k : Nat} {N fr : List Str} {F : LF} {f : Addr} {t : XK → TE} (S : NScope N [] fr F.scope) (hb : ∀ doc pm ctv, bindArgs (F.fd doc pm ctv) ⟨[], []⟩ = pure [])
    (hpe : ∀ (A : Around) (outer : List PySem.Env) (s : Shared) (H : Hp) (E : XK), Room k (A.deeper (NdefX.envF F.nf f s.heap.objs.size)) → PE (NdefX.ncx (L2.CX P w) P w K mg base N F.nf f A outer s H E) F.body (t E)) :
    LOk P w K mg base (L2.CX P w) (k + 1) f F [] fr (fun ws H Q E => t E (NdefX.startF N [] ws) H Q) :=
  lok_of S rfl (fun s H us doc pm ctv ok hD => bind0 (H := H) hb doc pm ctv) (fun A outer s H ws Q E hr hl h => ⟨t E, hpe A outer s H E hr, h⟩)
theorem lok_g1 {k : Nat} {N fr : List Str} {x : Str} {F : LF} {f : Addr} {i : Int} {t : XK → TE} (S : NScope N [x] fr F.scope)
    (hb : ∀ (T : Addr) (doc pm ctv : Value) (its : List Value), F.dV = .ref T → its.length = 1 → ∃ k, bindArgs (F.fd doc pm ctv) ⟨[], []⟩ = seqItems? (.ref T) >>= k ∧ k (some its.toArray) = pure (([x] : List Str).zip its))
    (hpe : ∀ (A : Around) (outer : List PySem.Env) (s : Shared) (H : Hp) (E : XK), Room k (A.deeper (NdefX.envF F.nf f s.heap.objs.size)) → PE (NdefX.ncx (L2.CX P w) P w K mg base N F.nf f A outer s H E) F.body (t E)) :
    LOk P w K mg base (L2.CX P w) (k + 1) f F [.int i] fr (fun ws H Q E => t E (NdefX.startF N [.int i] ws) H Q) :=
  lok_of S rfl (fun s H us doc pm ctv ok hD => bind1 ok hD hb doc pm ctv) (fun A outer s H ws Q E hr hl h => ⟨t E, hpe A outer s H E hr, h⟩)
theorem gotl_x {X : Cx} {σ : L2.St} (T : Env X.K X.mg) (k : Nat) {vs : List V} {H : Hp} {Q : VK} {E : XK} (h : ∀ bs, Ground X σ bs → spGotL X.prog X.w X.K X.mg bs [.ref T.C_AheadError, .ref T.C_Missing, .ref T.C_NothingLeft] k vs H Q E) :
    ∃ sp : Sp, (∀ base, Ground X σ base → FnOk X.prog X.w X.K X.mg base CX0 (k + 2) T.f_got T.fd_got ["_law_ask"] sp) ∧ sp vs H Q E :=
  ⟨fun vs H Q E => ∀ bs, Ground X σ bs → spGotL X.prog X.w X.K X.mg bs [.ref T.C_AheadError, .ref T.C_Missing, .ref T.C_NothingLeft] k vs H Q E,
    fun bs g => ⟨fun vs H Q E h => (ok_gotL (P := X.prog) (w := X.w) (base := bs) T k).len vs H Q E (h bs g), fun A outer s H args us vs Q E hr e0 hb r h => (ok_gotL (P := X.prog) (w := X.w) (base := bs) T k).run A outer s H args us vs Q E hr e0 hb r (h bs g)⟩, h⟩
theorem allgotl_x {X : Cx} {σ : L2.St} (T : Env X.K X.mg) (k : Nat) {vs : List V} {H : Hp} {Q : VK} {E : XK} (h : ∀ bs, Ground X σ bs → spAllGotL X.prog X.w X.K X.mg bs [.ref T.C_AheadError, .ref T.C_Missing, .ref T.C_NothingLeft] k vs H Q E) :
    ∃ sp : Sp, (∀ base, Ground X σ base → FnOk X.prog X.w X.K X.mg base CX0 (k + 3) T.f_all_got T.fd_all_got ["_law_asks"] sp) ∧ sp vs H Q E :=
  ⟨fun vs H Q E => ∀ bs, Ground X σ bs → spAllGotL X.prog X.w X.K X.mg bs [.ref T.C_AheadError, .ref T.C_Missing, .ref T.C_NothingLeft] k vs H Q E,
    fun bs g => ⟨fun vs H Q E h => (ok_all_gotL (P := X.prog) (w := X.w) (base := bs) T k).len vs H Q E (h bs g), fun A outer s H args us vs Q E hr e0 hb r h => (ok_all_gotL (P := X.prog) (w := X.w) (base := bs) T k).run A outer s H args us vs Q E hr e0 hb r (h bs g)⟩, h⟩
end
/-! ### asks of lambdas: the lambda's object first, so that its body is known to the rest -/
open NdefX (NScope)
theorem DefAt.same {F : LF} {ds : List V} {H H' : Hp} (h : DefAt F ds H) (s : Same H H') : DefAt F ds H' := by
  rcases h with h | ⟨T0, i, e1, e2, e3⟩
  · exact .inl h
  · exact .inr ⟨T0, i, e1, e2, s _ _ e3⟩
theorem ask_err0 {P : Program} {w : World} {K : PySem.W.Frag} {mg : Str → Option Value} {base : Heap} {cs : List Value} {k : Nat} {N fr : List Str} {F : LF} {f : Addr} {H : Hp} {ws : List (Option V)} {code : Str} {us : List V} {t : XK → TE}
    (lf : H f = some (LmO f F)) (lc : H F.c = some (LamX.CodeO F.c F.qual)) (dv : F.dV = .none) (S : NScope N [] fr F.scope) (hb : ∀ doc pm ctv, bindArgs (F.fd doc pm ctv) ⟨[], []⟩ = pure [])
    (C : NdefX.CellsAt F.cl fr ws base (fun _ => none)) (hpe : ∀ (A : Around) (outer : List PySem.Env) (s : Shared) (H : Hp) (E : XK), Room k (A.deeper (NdefX.envF F.nf f s.heap.objs.size)) → PE (NdefX.ncx (L2.CX P w) P w K mg base N F.nf f A outer s H E) F.body (t E))
    (q : ∀ H1, Same H H1 → ∀ (Q2 : VK) (E2 : XK), (∀ cls d H2, PySem.W.exmAny K cls cs = some true → ErrL K cls d H2 code us → Same H1 H2 → E2 cls d H2) → t E2 (NdefX.startF N [] ws) H1 Q2) : AskL P w K mg base cs (k + 1) H f (.err code us) :=
  ⟨_, _, LOk.held (lok_g0 S hb hpe) C, fun H1 s1 => ⟨⟨s1 _ _ lf, s1 _ _ lc, .inl ⟨rfl, dv⟩⟩, q H1 s1⟩⟩
theorem ask_val0 {P : Program} {w : World} {K : PySem.W.Frag} {mg : Str → Option Value} {base : Heap} {cs : List Value} {k : Nat} {N fr : List Str} {F : LF} {f : Addr} {H : Hp} {ws : List (Option V)} {R : V → Hp → Prop} {t : XK → TE}
    (lf : H f = some (LmO f F)) (lc : H F.c = some (LamX.CodeO F.c F.qual)) (dv : F.dV = .none) (S : NScope N [] fr F.scope) (hb : ∀ doc pm ctv, bindArgs (F.fd doc pm ctv) ⟨[], []⟩ = pure [])
    (C : NdefX.CellsAt F.cl fr ws base (fun _ => none)) (hpe : ∀ (A : Around) (outer : List PySem.Env) (s : Shared) (H : Hp) (E : XK), Room k (A.deeper (NdefX.envF F.nf f s.heap.objs.size)) → PE (NdefX.ncx (L2.CX P w) P w K mg base N F.nf f A outer s H E) F.body (t E))
    (q : ∀ H1, Same H H1 → ∀ (Q2 : VK) (E2 : XK), (∀ v H2, R v H2 → Same H1 H2 → Q2 v H2) → t E2 (NdefX.startF N [] ws) H1 Q2) : AskL P w K mg base cs (k + 1) H f (.val R) :=
  ⟨_, _, LOk.held (lok_g0 S hb hpe) C, fun H1 s1 => ⟨⟨s1 _ _ lf, s1 _ _ lc, .inl ⟨rfl, dv⟩⟩, q H1 s1⟩⟩
theorem ask_err1 {P : Program} {w : World} {K : PySem.W.Frag} {mg : Str → Option Value} {base : Heap} {cs : List Value} {k : Nat} {N fr : List Str} {x : Str} {F : LF} {f : Addr} {H : Hp} {ws : List (Option V)} {i : Int} {code : Str} {us : List V} {t : XK → TE}
    (lf : H f = some (LmO f F)) (lc : H F.c = some (LamX.CodeO F.c F.qual)) (dv : DefAt F [.int i] H) (S : NScope N [x] fr F.scope) (hb : ∀ (T : Addr) (doc pm ctv : Value) (its : List Value), F.dV = .ref T → its.length = 1 → ∃ k, bindArgs (F.fd doc pm ctv) ⟨[], []⟩ = seqItems? (.ref T) >>= k ∧ k (some its.toArray) = pure (([x] : List Str).zip its))
    (C : NdefX.CellsAt F.cl fr ws base (fun _ => none)) (hpe : ∀ (A : Around) (outer : List PySem.Env) (s : Shared) (H : Hp) (E : XK), Room k (A.deeper (NdefX.envF F.nf f s.heap.objs.size)) → PE (NdefX.ncx (L2.CX P w) P w K mg base N F.nf f A outer s H E) F.body (t E))
    (q : ∀ H1, Same H H1 → ∀ (Q2 : VK) (E2 : XK), (∀ cls d H2, PySem.W.exmAny K cls cs = some true → ErrL K cls d H2 code us → Same H1 H2 → E2 cls d H2) → t E2 (NdefX.startF N [.int i] ws) H1 Q2) : AskL P w K mg base cs (k + 1) H f (.err code us) :=
  ⟨_, _, LOk.held (lok_g1 S hb hpe) C, fun H1 s1 => ⟨⟨s1 _ _ lf, s1 _ _ lc, dv.same s1⟩, q H1 s1⟩⟩
theorem ask_val1 {P : Program} {w : World} {K : PySem.W.Frag} {mg : Str → Option Value} {base : Heap} {cs : List Value} {k : Nat} {N fr : List Str} {x : Str} {F : LF} {f : Addr} {H : Hp} {ws : List (Option V)} {i : Int} {R : V → Hp → Prop} {t : XK → TE}
    (lf : H f = some (LmO f F)) (lc : H F.c = some (LamX.CodeO F.c F.qual)) (dv : DefAt F [.int i] H) (S : NScope N [x] fr F.scope) (hb : ∀ (T : Addr) (doc pm ctv : Value) (its : List Value), F.dV = .ref T → its.length = 1 → ∃ k, bindArgs (F.fd doc pm ctv) ⟨[], []⟩ = seqItems? (.ref T) >>= k ∧ k (some its.toArray) = pure (([x] : List Str).zip its))
    (C : NdefX.CellsAt F.cl fr ws base (fun _ => none)) (hpe : ∀ (A : Around) (outer : List PySem.Env) (s : Shared) (H : Hp) (E : XK), Room k (A.deeper (NdefX.envF F.nf f s.heap.objs.size)) → PE (NdefX.ncx (L2.CX P w) P w K mg base N F.nf f A outer s H E) F.body (t E))
    (q : ∀ H1, Same H H1 → ∀ (Q2 : VK) (E2 : XK), (∀ v H2, R v H2 → Same H1 H2 → Q2 v H2) → t E2 (NdefX.startF N [.int i] ws) H1 Q2) : AskL P w K mg base cs (k + 1) H f (.val R) :=
  ⟨_, _, LOk.held (lok_g1 S hb hpe) C, fun H1 s1 => ⟨⟨s1 _ _ lf, s1 _ _ lc, dv.same s1⟩, q H1 s1⟩⟩
theorem sl_listN {CX : CXT} {P : Program} {w : World} {K : PySem.W.Frag} {mg : Str → Option Value} {base : Heap} {N : List Str} {F : _} {f : Addr} {A : Around} {outer : List PySem.Env} {s : Shared} {H : Hp} {E : XK} : SlR (NdefX.ncx CX P w K mg base N F f A outer s H E) (rSlL K) := sl_list

/-! ### good lines can be compared -/
theorem str_plain {z : Str} (h : ∀ c ∈ z.cps.toList, c < 200) : PyData.canLay0 (.str z) = true := by
  show PySem.PyData.strOk z = true
  unfold PySem.PyData.strOk
  rw [Array.all_eq_true]
  intro i hi
  have := h z.cps[i] (by simp)
  exact decide_eq_true (by omega)
theorem ints_lay : ∀ rs : List Nat, PyData.canLayAll0 (rs.map fun n => PyData.int (n : Nat)) = true ∧ PyData.depthAll (rs.map fun n => PyData.int (n : Nat)) = 0
  | [] => ⟨rfl, rfl⟩
  | _ :: rs => by
    obtain ⟨a, b⟩ := ints_lay rs
    refine ⟨?_, ?_⟩
    · show (true && PyData.canLayAll0 _) = true
      rw [a]
      rfl
    · show max 0 (PyData.depthAll _) = 0
      rw [b]
      rfl
theorem flD_lay {al : List Nat} {n : Nat} (hA : ∀ c ∈ al, c < 200) : ∀ {f : FL}, FLOk al n f → PyData.canLay0 (flD f) = true ∧ PyData.depth (flD f) ≤ 2
  | .is z, h => by
    have hz : PyData.canLay0 (.str ⟨z.toArray⟩) = true := str_plain fun c hc => by
      have hc : c ∈ z := by simpa using hc
      have h : z = al.filter (fun c => decide (c ∈ z)) := h
      rw [h] at hc
      exact hA c (List.mem_filter.mp hc).1
    refine ⟨?_, by show max 0 (max 0 0) + 1 ≤ 2; decide⟩
    show (PyData.canLay0 (.str "is") && (PyData.canLay0 (.str ⟨z.toArray⟩) && true)) = true
    rw [hz, show PyData.canLay0 (.str "is") = true by decide +kernel]
    rfl
  | .not i, _ => ⟨by show (PyData.canLay0 (.str "not") && (true && true)) = true; rw [show PyData.canLay0 (.str "not") = true by decide +kernel]; rfl, by show max 0 (max 0 0) + 1 ≤ 2; decide⟩
  | .and rs, _ => by
    obtain ⟨a, b⟩ := ints_lay rs
    refine ⟨?_, ?_⟩
    · show (PyData.canLay0 (.str "and") && (PyData.canLayAll0 _ && true)) = true
      rw [a, show PyData.canLay0 (.str "and") = true by decide +kernel]
      rfl
    · show max 0 (max (PyData.depthAll _ + 1) 0) + 1 ≤ 2
      rw [b]
      decide
  | .or rs, _ => by
    obtain ⟨a, b⟩ := ints_lay rs
    refine ⟨?_, ?_⟩
    · show (PyData.canLay0 (.str "or") && (PyData.canLayAll0 _ && true)) = true
      rw [a, show PyData.canLay0 (.str "or") = true by decide +kernel]
      rfl
    · show max 0 (max (PyData.depthAll _ + 1) 0) + 1 ≤ 2
      rw [b]
      decide
  | .before i, _ => ⟨by show (PyData.canLay0 (.str "before") && (true && true)) = true; rw [show PyData.canLay0 (.str "before") = true by decide +kernel]; rfl, by show max 0 (max 0 0) + 1 ≤ 2; decide⟩
  | .since i j, _ => ⟨by show (PyData.canLay0 (.str "since") && (true && (true && true))) = true; rw [show PyData.canLay0 (.str "since") = true by decide +kernel]; rfl, by show max 0 (max 0 (max 0 0)) + 1 ≤ 2; decide⟩
  | .count i p r, _ => ⟨by show (PyData.canLay0 (.str "count") && (true && (true && (true && true)))) = true; rw [show PyData.canLay0 (.str "count") = true by decide +kernel]; rfl, by show max 0 (max 0 (max 0 (max 0 0))) + 1 ≤ 2; decide⟩
theorem lay_all : ∀ {ds : List PyData}, (∀ d ∈ ds, PyData.canLay0 d = true ∧ PyData.depth d ≤ 2) → PyData.canLayAll0 ds = true ∧ PyData.depthAll ds ≤ 2
  | [], _ => ⟨rfl, by decide⟩
  | d :: ds, h => by
    obtain ⟨a, b⟩ := h d (List.mem_cons_self ..)
    obtain ⟨a2, b2⟩ := lay_all fun x hx => h x (List.mem_cons_of_mem _ hx)
    refine ⟨?_, ?_⟩
    · show (PyData.canLay0 d && PyData.canLayAll0 ds) = true
      rw [a, a2]
      rfl
    · show max (PyData.depth d) (PyData.depthAll ds) ≤ 2
      omega
theorem shaped_fls {al : List Nat} {fls : List FL} (hA : Alpha al) (O : FOk al fls) : SeqAt.shaped (.list (fls.map flD)) = true := by
  obtain ⟨a, b⟩ := lay_all (ds := fls.map flD) fun d hd => by
    obtain ⟨f, hf, rfl⟩ := List.mem_map.mp hd
    obtain ⟨j, hj⟩ := List.mem_iff_getElem?.mp hf
    exact flD_lay (fun c hc => by have := hA.2.2.1 c hc; omega) (O j _ hj)
  show (PyData.canLayAll0 _ && decide (PyData.depthAll _ + 1 ≤ 64)) = true
  rw [a, decide_eq_true (by omega)]
  rfl

def spLaw (K : PySem.W.Frag) (tb : Addr) : Sp := fun vs H Q _ => ∃ (a : Addr) (ns : List Int), vs = [.ref a] ∧ SqL K H a (ns.map V.int) ∧ ns.length ≤ 63 ∧ H tb = some (.tbl #[]) ∧ ∀ H', Q (.bl true) H'
def CodeIs (fd : FuncData) (c : Addr) : Prop := fd.code = .ref c
def qLam : Str := ("law" : Str) ++ ".<locals>." ++ "<lambda>"
def forBody : Stmt → List Stmt
  | .For _ _ b _ _ => b
  | _ => []
abbrev bodyTail (k : Nat) : List Stmt := (forBody ((defBody s_law).getD 2 (.Pass ⟨0, 0, 0, 0⟩))).drop k
abbrev endTail : List Stmt := (defBody s_law).drop 3
/-- a formula of good lines, made behind H: its list is new, too -/
def FmN (C : Addr) (H0 H : Hp) (m : Addr) (al : Str) (xs : List V) (b : Bool) : Prop := ∃ dx l, H m = some (.ins C dx (formF al l (.bl b))) ∧ H l = some (.lst xs) ∧ H0 l = none ∧ H0 m = none
theorem FmN.at_ {C : Addr} {H0 H : Hp} {m : Addr} {al : Str} {xs : List V} {b : Bool} (h : FmN C H0 H m al xs b) : FmAt C H m al xs b := by
  obtain ⟨dx, l, a, c, _⟩ := h
  exact ⟨dx, l, a, c⟩
theorem FmN.mut {C : Addr} {H0 H : Hp} {m p : Addr} {al : Str} {xs : List V} {b : Bool} {o o2 : HO} (h : FmN C H0 H m al xs b) (e : H0 p = some o2) : FmAt C (upd H p o) m al xs b := by
  obtain ⟨dx, l, a, c, n1, n2⟩ := h
  exact ⟨dx, l, by rw [upd_ne (fun z => by rw [z, e] at n2; cases n2)]; exact a, by rw [upd_ne (fun z => by rw [z, e] at n1; cases n1)]; exact c⟩
theorem FmAt.kp {C : Addr} {H H' : Hp} {m b l : Addr} {al : Str} {ps : List Addr} {v : Bool} (M : FmAt C H m al (ps.map V.ref) v) (k : Kp b H H') (B : BagAt b l H) : FmAt C H' m al (ps.map V.ref) v := by
  obtain ⟨dx, r, h1, h2⟩ := M
  refine ⟨dx, r, k _ _ h1 fun z => ?_, k _ _ h2 fun z => ?_⟩
  · obtain ⟨⟨i, r, m, c, ns, hb, _⟩, _⟩ := B
    rw [z, hb] at h1
    cases h1
  · rw [z] at h2
    exact (B.nlist h2).elim
theorem good_all {al : Str} {fls : List FL} (h4 : al.length ≤ 4) (O : FOk al.cps.toList fls) : (∀ j < (fls.map flD).length, standD al.cps.toList (j : Nat) ((fls.map flD).getD j .none) = true) ∧ (∀ d ∈ fls.map flD, OkD d) ∧ no5All (fls.map flD) = true := by
  have h4 : al.cps.toList.length ≤ 4 := by rw [← len_tl]; exact h4
  refine ⟨fun j hj => ?_, fun d hd => ?_, n5_all fun d hd => ?_⟩
  · rw [List.length_map] at hj
    have e : fls[j]? = some fls[j] := List.getElem?_eq_getElem hj
    rw [List.getD_eq_getElem?_getD, List.getElem?_map, e]
    exact (flD_good h4 (O j _ e)).1
  · obtain ⟨f, hf, rfl⟩ := List.mem_map.mp hd
    obtain ⟨j, hj⟩ := List.mem_iff_getElem?.mp hf
    exact (flD_good h4 (O j _ hj)).2.1
  · obtain ⟨f, hf, rfl⟩ := List.mem_map.mp hd
    obtain ⟨j, hj⟩ := List.mem_iff_getElem?.mp hf
    exact (flD_good h4 (O j _ hj)).2.2
theorem mk_use (T : Env K mg) {H : Hp} {x dx r : Addr} {al : Str} {ps : List Addr} {fls : List FL} {b : Bool} {Q : VK} {E : XK} {o : HO} (hx : H x = none) (hd : H dx = none) (ne : dx ≠ x) (hr : H r = some o) (hS : SqA K H r (ps.map V.ref)) (F : FLp H ps fls) (O : FOk al.cps.toList fls) (hA : Alpha al.cps.toList)
    (h1 : 1 ≤ fls.length) (h2 : fls.length ≤ 4000) (q : ∀ H', Same H H' → FmN T.C_Formula H H' x al (ps.map V.ref) b → Q .non H') : spFX K T [.ref x, .str al, .ref r, .bl b] (upd (upd H dx (.own x)) x (.ins T.C_Formula dx [])) Q E := by
  have sA : Same H (upd (upd H dx (.own x)) x (.ins T.C_Formula dx [])) := (same_upd hd).trans (same_upd (by rw [upd_ne ne.symm]; exact hx))
  have al4 : al.length ≤ 4 := by rw [len_tl]; exact hA.2.1
  have g := good_all al4 O
  have pl : (ps.map V.ref).length = fls.length := by rw [List.length_map, F.1]
  refine ⟨x, dx, .str al, .ref r, .bl b, rfl, upd_same, .inr ⟨al, rfl, hA, .inr ⟨r, ps.map V.ref, rfl, ne_of_none hr hx, hS.same sA, by omega, by omega, .inr ⟨by omega, fls.map flD, (F.same sA).dp, g.2.1, .inr ⟨g.1, fun H' l k e1 e2 e3 => ?_⟩⟩⟩⟩⟩
  have nl : H l = none := by
    cases e : H l with
    | none => rfl
    | some u => rw [sA _ _ e] at e2; cases e2
  exact q H' (fun c o h => k c o (ne_of_none h hx) (sA c o h)) ⟨dx, l, e1, e3, nl, hx⟩
theorem FLp.kp {b l : Addr} {H H' : Hp} {ps : List Addr} {fls : List FL} (h : FLp H ps fls) (k : Kp b H H') (B : BagAt b l H) : FLp H' ps fls := ⟨h.1, fun i p f x y => (h.2 i p f x y).kp k B⟩
theorem FLAt.sm {K : PySem.W.Frag} {H : Hp} {p : Addr} {f : FL} (h : FLAt H p f) (hz : ∀ rs, f = .and rs ∨ f = .or rs → rs.length ≤ 100) : Sm K H 3 (.ref p) (.ref p) := by
  have flat : ∀ {xs : List V}, H p = some (.tup xs) → xs.length ≤ 100 → (∀ x ∈ xs, Sm K H 2 x x) → Sm K H 3 (.ref p) (.ref p) := fun {xs} e l a => .inr ⟨p, p, xs, xs, rfl, rfl, by omega, rfl, fun i u v h1 h2 => by
    rw [h1] at h2
    cases h2
    exact a _ (List.mem_of_getElem? h1), .inr ⟨SqT.of e, SqT.of e⟩⟩
  have sc : ∀ {v : V}, scalV v = true → Sm K H 2 v v := fun h => .inl ⟨rfl, h⟩
  have inner : ∀ {q : Addr} {rs : List Nat}, H q = some (.tup (natL rs)) → rs.length ≤ 100 → Sm K H 2 (.ref q) (.ref q) := fun {q rs} e l => .inr ⟨q, q, natL rs, natL rs, rfl, rfl, by rw [natL_len]; omega, rfl, fun i u v h1 h2 => by
    rw [h1] at h2
    cases h2
    obtain ⟨n, _, rfl⟩ := List.mem_map.mp (List.mem_of_getElem? h1)
    exact .inl ⟨rfl, rfl⟩, .inr ⟨SqT.of e, SqT.of e⟩⟩
  cases f with
  | is z => exact flat h (by show 2 ≤ 100; decide) fun x hx => by simp at hx; rcases hx with rfl | rfl <;> exact sc rfl
  | not i => exact flat h (by show 2 ≤ 100; decide) fun x hx => by simp at hx; rcases hx with rfl | rfl <;> exact sc rfl
  | and rs =>
    obtain ⟨q, a, b⟩ := h
    exact flat a (by show 2 ≤ 100; decide) fun x hx => by
      simp at hx
      rcases hx with rfl | rfl
      · exact sc rfl
      · exact inner b (hz rs (.inl rfl))
  | or rs =>
    obtain ⟨q, a, b⟩ := h
    exact flat a (by show 2 ≤ 100; decide) fun x hx => by
      simp at hx
      rcases hx with rfl | rfl
      · exact sc rfl
      · exact inner b (hz rs (.inr rfl))
  | before i => exact flat h (by show 2 ≤ 100; decide) fun x hx => by simp at hx; rcases hx with rfl | rfl <;> exact sc rfl
  | since i j => exact flat h (by show 3 ≤ 100; decide) fun x hx => by simp at hx; rcases hx with rfl | rfl | rfl <;> exact sc rfl
  | count i p' r => exact flat h (by show 4 ≤ 100; decide) fun x hx => by simp at hx; rcases hx with rfl | rfl | rfl | rfl <;> exact sc rfl
theorem FLp.sm {K : PySem.W.Frag} {H : Hp} {a b : Addr} {al : List Nat} {ps : List Addr} {fls : List FL} (h : FLp H ps fls) (O : FOk al fls) (hl : fls.length ≤ 1000) (ha : SqL K H a (ps.map V.ref)) (hb : SqL K H b (ps.map V.ref)) : Sm K H 4 (.ref a) (.ref b) := by
  refine .inr ⟨a, b, _, _, rfl, rfl, by rw [List.length_map, h.1]; omega, rfl, fun i u v e1 e2 => ?_, .inl ⟨ha, hb⟩⟩
  rw [e1] at e2
  cases e2
  rw [List.getElem?_map] at e1
  cases hp : ps[i]? with
  | none => rw [hp] at e1; cases e1
  | some p =>
    rw [hp] at e1
    cases e1
    have il := (List.getElem?_eq_some_iff.mp hp).1
    have il2 : i < fls.length := by have := h.1; omega
    have hf : fls[i]? = some fls[i] := List.getElem?_eq_getElem il2
    have o := O i _ hf
    refine (h.2 i p _ hp hf).sm fun rs e => ?_
    rcases e with e | e
    · rw [e] at o
      exact o.2.2
    · rw [e] at o
      exact o.2.2
theorem sm_list {K : PySem.W.Frag} {H : Hp} {d : Nat} {a b : Addr} {xs ys : List V} (ha : SqL K H a xs) (hb : SqL K H b ys) (hl : xs.length = ys.length) (h1 : xs.length ≤ 1000) (h : ∀ p ∈ xs.zip ys, Sm K H d p.1 p.2) : Sm K H (d + 1) (.ref a) (.ref b) := by
  refine .inr ⟨a, b, xs, ys, rfl, rfl, by omega, hl, fun i u v e1 e2 => ?_, .inl ⟨ha, hb⟩⟩
  refine h (u, v) (List.mem_of_getElem? (i := i) ?_)
  rw [List.getElem?_zip_eq_some]
  exact ⟨e1, e2⟩
theorem cut_take {xs : List V} {i : Nat} : cutV xs none (some (i : Int)) = xs.take i := by
  unfold cutV
  rw [show HT.sIx xs.length xs.length (some (i : Int)) = min i xs.length from HT.sIx_nat _ _ i, HT.sIx_none]
  show xs.take (min i xs.length - 0) = _
  rw [Nat.sub_zero, List.take_eq_take_iff]
  omega
/-- no rows at all -/
def NoneV (b : Addr) (H : Hp) (v : V) : Prop := (∃ p, v = .ref p ∧ p ≠ b ∧ (H p = some (.lst []) ∨ H p = some (.tup []))) ∨ v = .non ∨ (∃ i, v = .int i) ∨ (∃ z, v = .str z) ∨ ∃ c, v = .bl c
theorem NoneV.kp {b : Addr} {H H' : Hp} {v : V} (h : NoneV b H v) (k : Kp b H H') : NoneV b H' v := by
  rcases h with ⟨p, e, n, h⟩ | h
  · exact .inl ⟨p, e, n, h.imp (fun h => k _ _ h n) fun h => k _ _ h n⟩
  · exact .inr h
theorem NoneV.ext {b : Addr} {H H' : Hp} {v : V} (h : NoneV b H v) (e : LamX.ExtN H H') : NoneV b H' v := by
  rcases h with ⟨p, e1, n, h⟩ | h
  · exact .inl ⟨p, e1, n, h.imp (fun h => e _ _ h (by intro ps z; cases z)) fun h => e _ _ h (by intro ps z; cases z)⟩
  · exact .inr h
theorem NoneV.no {K : PySem.W.Frag} {b : Addr} {H : Hp} {v : V} (h : NoneV b H v) : NoRows K H v := by
  rcases h with ⟨p, rfl, n, h | h⟩ | rfl | ⟨i, rfl⟩ | ⟨z, rfl⟩ | ⟨c, rfl⟩
  · exact .inl ⟨p, rfl, .inl (SqL.of h)⟩
  · exact .inl ⟨p, rfl, .inr (.inl (.inl h))⟩
  · exact .inr ⟨"NoneType", .base .non, by decide +kernel, by decide +kernel⟩
  · exact .inr ⟨"int", .base (.int i), by decide +kernel, by decide +kernel⟩
  · exact .inr ⟨"str", .base (.str z), by decide +kernel, by decide +kernel⟩
  · exact .inr ⟨"bool", .base (.bl c), by decide +kernel, by decide +kernel⟩

theorem if_join {c : Bool} {A B : TE} {σ : L2.St} {H : Hp} {Q2 : VK} (R : V → Hp → Prop) (hA : c = true → ∀ Q : VK, (∀ v H', R v H' → Q v H') → A σ H Q) (hB : ¬ c = true → ∀ Q : VK, (∀ v H', R v H' → Q v H') → B σ H Q) (q : ∀ v H', R v H' → Q2 v H') : if c = true then A σ H Q2 else B σ H Q2 := by
  by_cases h : c = true
  · rw [if_pos h]
    exact hA h Q2 q
  · rw [if_neg h]
    exact hB h Q2 q
theorem rep_flat (v : V) : ∀ n : Nat, (List.replicate n [v]).flatten = List.replicate n v
  | 0 => rfl
  | n + 1 => by
    rw [List.replicate_succ, List.flatten_cons, rep_flat v n, List.replicate_succ]
    rfl
theorem FLp.rep {H : Hp} {p : Addr} {f : FL} (h : FLAt H p f) (n : Nat) : FLp H (List.replicate n p) (List.replicate n f) := ⟨by simp, fun i q g a b => by
  rw [List.getElem?_replicate] at a b
  by_cases hi : i < n
  · rw [if_pos hi] at a b
    cases a
    cases b
    exact h
  · rw [if_neg hi] at a
    cases a⟩
/-- between two turns of the law -/
def LawSt (PL a b l kl : Addr) (σ : L2.St) (G : Hp) : Prop := (∃ y3 y4 y5 y6 y7 y8 y9 y10 y11 y12 y13 y14 y15 : Option V, σ = [some (.ref a), some (.ref b), some (.ref kl), y3, y4, y5, y6, y7, y8, y9, y10, y11, y12, y13, y14, y15]) ∧ BagAt b l G ∧ LamX.Tabs [(PL, qLam)] G ∧ G kl = some (.lst kindsV)
/-- what is known behind the drawing of the lines -/
structure Drawn (PL b l kl : Addr) (G : Hp) (al : Str) (r : Addr) (ps : List Addr) (fls : List FL) : Prop where
  bag : BagAt b l G
  tab : LamX.Tabs [(PL, qLam)] G
  kin : G kl = some (.lst kindsV)
  alp : Alpha al.cps.toList
  lst : G r = some (.lst (ps.map V.ref))
  fl : FLp G ps fls
  ok : FOk al.cps.toList fls
  len : 1 ≤ fls.length ∧ fls.length ≤ 10
theorem Drawn.same {PL b l kl : Addr} {G G' : Hp} {al : Str} {r : Addr} {ps : List Addr} {fls : List FL} (h : Drawn PL b l kl G al r ps fls) (s : Same G G') : Drawn PL b l kl G' al r ps fls :=
  ⟨h.bag.same s, h.tab.ext s, s _ _ h.kin, h.alp, s _ _ h.lst, h.fl.same s, h.ok, h.len⟩
theorem Drawn.kp {PL b l kl : Addr} {G G' : Hp} {al : Str} {r : Addr} {ps : List Addr} {fls : List FL} (h : Drawn PL b l kl G al r ps fls) (k : Kp b G G') (B : BagAt b l G') (n : kl ≠ b) : Drawn PL b l kl G' al r ps fls :=
  ⟨B, tabs_kp h.tab k h.bag, k _ _ h.kin n, h.alp, k _ _ h.lst fun z => by have e := h.lst; rw [z] at e; exact (h.bag.nlist e).elim, h.fl.kp k h.bag, h.ok, h.len⟩
theorem FLAt.ext {H H' : Hp} {p : Addr} (e : LamX.ExtN H H') : ∀ {f : FL}, FLAt H p f → FLAt H' p f := by
  have no : ∀ {a : Addr} {xs : List V}, H a = some (.tup xs) → H' a = some (.tup xs) := fun {a xs} h => e _ _ h (by intro ps z; cases z)
  intro f h
  cases f with
  | is z => exact no h
  | not i => exact no h
  | and rs =>
    obtain ⟨q, a, b⟩ := h
    exact ⟨q, no a, no b⟩
  | or rs =>
    obtain ⟨q, a, b⟩ := h
    exact ⟨q, no a, no b⟩
  | before i => exact no h
  | since i j => exact no h
  | count i p' r => exact no h

theorem FLp.ext {H H' : Hp} {ps : List Addr} {fls : List FL} (h : FLp H ps fls) (e : LamX.ExtN H H') : FLp H' ps fls := ⟨h.1, fun i p f x y => (h.2 i p f x y).ext e⟩
theorem Drawn.ext {PL b l kl : Addr} {G G' : Hp} {al : Str} {r : Addr} {ps : List Addr} {fls : List FL} (h : Drawn PL b l kl G al r ps fls) (e : LamX.ExtN G G') (t : LamX.Tabs [(PL, qLam)] G') : Drawn PL b l kl G' al r ps fls :=
  ⟨h.bag.ext e, t, e _ _ h.kin (by intro ps z; cases z), h.alp, e _ _ h.lst (by intro ps z; cases z), h.fl.ext e, h.ok, h.len⟩
theorem sm_tup2 {K : PySem.W.Frag} {H : Hp} {d : Nat} {a b : Addr} {x1 x2 y1 y2 : V} (ha : SqT K H a [x1, x2]) (hb : SqT K H b [y1, y2]) (h1 : Sm K H d x1 y1) (h2 : Sm K H d x2 y2) : Sm K H (d + 1) (.ref a) (.ref b) :=
  .inr ⟨a, b, [x1, x2], [y1, y2], rfl, rfl, by show 2 ≤ 100000; decide, rfl, fun i u v e1 e2 => by
    match i with
    | 0 => cases e1; cases e2; exact h1
    | 1 => cases e1; cases e2; exact h2
    | i + 2 => (cases e1), .inr ⟨ha, hb⟩⟩
/-- a tuple of small values and another of the same -/
theorem sm_scals {K : PySem.W.Frag} {H : Hp} {d : Nat} {a b : Addr} {us : List V} (ha : SqT K H a us) (hb : SqT K H b us) (hs : ∀ x ∈ us, scalV x = true) (hl : us.length ≤ 1000) : Sm K H (d + 2) (.ref a) (.ref b) :=
  .inr ⟨a, b, us, us, rfl, rfl, by omega, rfl, fun i u v e1 e2 => by
    rw [e1] at e2
    cases e2
    exact .inl ⟨rfl, hs _ (List.mem_of_getElem? e1)⟩, .inr ⟨ha, hb⟩⟩
/-- an error got, and the pair that is due -/
theorem gotl_err {K : PySem.W.Frag} {H H' : Hp} {y : V} {r q : Addr} {code : Str} {us : List V} {d : Nat} (g : GotL H y (.err code us)) (s : Same H H') (h3 : H' r = some (.tup [.str code, .ref q])) (h4 : H' q = some (.tup us)) (hs : ∀ x ∈ us, scalV x = true) (hl : us.length ≤ 1000) : Sm K H' (d + 3) y (.ref r) := by
  obtain ⟨p, t, rfl, h1, h2⟩ := g
  exact sm_tup2 (SqT.of (s _ _ h1)) (SqT.of h3) (.inl ⟨rfl, rfl⟩) (sm_scals (SqT.of (s _ _ h2)) (SqT.of h4) hs hl)


variable {K : PySem.W.Frag} {mg : Str → Option Value}
local macro_rules | `(tactic| walk_at "s2") => `(tactic| first
  | refine ⟨_, rfl, ?_⟩
  | refine ⟨_, _, rfl, rfl, ?_⟩
  | refine .inl ⟨_, rfl, ?_⟩
  | refine ⟨_, _, rfl, by assumption, ?_⟩
  | (refine And.intro ?_ ?_; focus (walk_at "side"))
  | refine iteT ?_
  | refine iteF ?_)
local macro_rules | `(tactic| walk_at "n2") => `(tactic| first
  | with_reducible refine MyP.seq_use (fun _ _ => ?_)
  | with_reducible refine MyP.SeqN.go (by assumption) ?_
  | with_reducible refine MyP.gname_use ?_
  | with_reducible refine MyP.next_use ?_
  | walk_at "s2")
local macro_rules | `(tactic| walk_at "nn2") => `(tactic| repeat walk_at "n2")

section
variable {P : Program} {w : World} {base : Heap}
theorem law_told {cL PL : Addr} (T : Env K mg) (A : Around) (outer : List PySem.Env) (s : Shared) (H : Hp) (E : XK) (hr : Room 15 (A.deeper (envOfC "law" (defScope s_law) s.heap.objs.size T.f_law (.ref cL)))) {tN : TS}
    (hN : PSs (cxOf CX0 P w K mg base N_law "law" (defScope s_law) T.f_law (.ref cL) A outer s H E).nox (bodyTail 8) tN) :
    ∃ t, PSs (cxOf CX0 P w K mg base N_law "law" (defScope s_law) T.f_law (.ref cL) A outer s H E).nox (bodyTail 6) t ∧ ∀ (D : Ends) (G : Hp) (a b l kl r m : Addr) (al : Str) (tr : Bool) (ps : List Addr) (fls : List FL) (y3 y7 y9 y10 y11 y12 y13 y14 y15 : Option V),
      (∀ (G' : Hp) (y9 : Option V), Drawn PL b l kl G' al r ps fls → FmAt T.C_Formula G' m al (ps.map V.ref) tr → tN D [some (.ref a), some (.ref b), some (.ref kl), y3, some (.str al), some (.bl tr), some (.ref r), y7, some (.ref m), y9, y10, y11, y12, y13, y14, y15] G') →
      Drawn PL b l kl G al r ps fls → FmAt T.C_Formula G m al (ps.map V.ref) tr →
      t D [some (.ref a), some (.ref b), some (.ref kl), y3, some (.str al), some (.bl tr), some (.ref r), y7, some (.ref m), y9, y10, y11, y12, y13, y14, y15] G := by
  refine ⟨_, ((pss_cons (ps_set (i := 9) sc_law.nd rfl (.inl rfl) (pe_lst (pa_cons (pe_meth0 (pv 8) T.cl_Formula T.m_Formula_lines (ok_Formula_lines T) (hr.mono (by decide)) T.b_Formula_lines .nil pass0) (pa_cons (pe_prop (pv 8) T.cl_Formula T.p_Formula_first (ok_Formula_first T) (hr.mono (by decide)) T.b_Formula_first .nil pass0 (by rfl)) (pa_cons (pe_callB (call_ownlen (ok_Formula___len T) (hr.mono (by decide)) ⟨T.m_Formula___len.1, T.m_Formula___len.2⟩ T.b_Formula___len pass0) (by rfl) T.z_len (by decide +kernel) (pa_cons (pv 8) pa_nil)) (pa_cons (pe_prop (pv 8) T.cl_Formula T.p_Formula_alphabet (ok_Formula_alphabet T) (hr.mono (by decide)) T.b_Formula_alphabet .nil pass0 (by rfl)) (pa_cons (pe_callB (call_ownrepr (ok_Formula___repr T) (hr.mono (by decide)) ⟨T.m_Formula___repr.1, T.m_Formula___repr.2⟩ T.b_Formula___repr pass0) (by rfl) T.z_repr (by decide +kernel) (pa_cons (pv 8) pa_nil)) (pa_cons (pe_prop (pe_makeK T.k_Formula___init (ok_Formula___init T) (hr.mono (by decide)) (by rfl) T.gC_Formula T.kb_Formula___init passL (pa_cons (pv 4) (pa_cons (pe_callTy call_tuple_of (by rfl) T.z_tuple (by decide +kernel) (pa_cons (pv 6) pa_nil)) pa_nil)) pk_nil) T.cl_Formula T.p_Formula_first (ok_Formula_first T) (hr.mono (by decide)) T.b_Formula_first .nil pass0 (by rfl)) pa_nil))))))))
      (pss_cons (ps_if (pt_not (pt_val (pe_call (ok_same T 5) (hr.mono (by decide)) (by rfl) T.g_same T.F_same.kp T.b_same .nil pass0 (pa_cons (pv 9) (pa_cons (pe_lst (pa_cons (pv 6) (pa_cons (pv 5) (pa_cons (pe_callB call_len_seq (by rfl) T.z_len (by decide +kernel) (pa_cons (pv 6) pa_nil)) (pa_cons (pv 4) (pa_cons (pe_op op_add_str (pe_op op_add_str pe_str (pe_callTy call_str_int (by rfl) T.z_str (by decide +kernel) (pa_cons (pe_callB call_len_seq (by rfl) T.z_len (by decide +kernel) (pa_cons (pv 6) pa_nil)) pa_nil))) pe_str) (pa_cons pe_bl pa_nil))))))) pa_nil)))))
      (pss_one (ps_ret pe_bl))
      pss_nil)
      hN))), ?_⟩
  rintro ⟨dn, dr, db, dc⟩ G a b l kl r m al tr ps fls y3 y7 y9 y10 y11 y12 y13 y14 y15 go dw M
  obtain ⟨dx, lm, hm, hl⟩ := id M
  walk_at "nn2"
  refine ⟨m, dx, _, rfl, hm, rfl, ?_⟩
  walk_at "nn2"
  refine ⟨m, al, _, tr, rfl, M, fun p1 n1 => ?_⟩
  have s1 := same_upd (o := .lst (ps.map V.ref)) n1
  have hp1 := upd_same (H := G) (a := p1) (o := .lst (ps.map V.ref))
  have dw1 := dw.same s1
  have M1 := M.same s1
  have hm1 := s1 _ _ hm
  clear dw M hm hl s1 n1
  generalize upd G p1 (.lst (ps.map V.ref)) = G1 at *
  walk_at "nn2"
  have pl : ps.length = fls.length := dw1.fl.1
  have ln := dw1.len
  have xl : (ps.map V.ref).length = fls.length := by rw [List.length_map, pl]
  refine ⟨m, dx, _, rfl, hm1, m, al, _, tr, rfl, M1, ?_⟩
  walk_at "nn2"
  refine ⟨m, dx, _, rfl, hm1, m, al, _, tr, rfl, M1, _, rfl, by omega, by omega, ?_⟩
  rw [xl]
  walk_at "nn2"
  refine ⟨m, dx, _, rfl, hm1, m, al, _, tr, rfl, M1, ?_⟩
  walk_at "nn2"
  refine ⟨m, dx, _, rfl, hm1, m, al, _, tr, rfl, M1, by omega, _, rfl, ?_⟩
  rw [xl]
  walk_at "nn2"
  refine ⟨r, _, rfl, .inl ⟨SqL.of dw1.lst, fun t nt => ?_⟩⟩
  have s2 := same_upd (o := .tup (ps.map V.ref)) nt
  have ht := upd_same (H := G1) (a := t) (o := .tup (ps.map V.ref))
  have dw2 := dw1.same s2
  have hp2 := s2 _ _ hp1
  have M2 := M1.same s2
  clear s2 nt dw1 hp1 M1 hm1
  generalize upd G1 t (.tup (ps.map V.ref)) = G2 at *
  walk_at "nn2"
  intro x3 d3 x30 d30 ne3
  refine mk_use T x30 d30 ne3 ht (.inr (SqT.of ht)) dw2.fl dw2.ok dw2.alp ln.1 (by omega) fun H3 s3 M3 => ⟨rfl, ?_⟩
  have M3a := M3.at_
  obtain ⟨dx3, l3, hx3, _⟩ := id M3a
  have dw3 := dw2.same s3
  have hp3 := s3 _ _ hp2
  have Mk := M2.same s3
  clear s3 dw2 hp2 M3 x30 d30 ht M2
  walk_at "nn2"
  refine ⟨x3, dx3, _, rfl, hx3, x3, al, _, false, rfl, M3a, ?_⟩
  walk_at "nn2"
  intro D1 nD1
  have u1 := same_upd (o := .lst [.ref p1, .bl tr, .int fls.length, .str al, .str (repF fls.length), .bl false]) nD1
  have dw4 := dw3.same u1
  have hp4 := u1 _ _ hp3
  have hD1 := upd_same (H := H3) (a := D1) (o := .lst [.ref p1, .bl tr, .int fls.length, .str al, .str (repF fls.length), .bl false])
  have M4 := Mk.same u1
  clear u1 nD1 dw3 hp3 hx3 M3a Mk
  generalize upd H3 D1 (.lst [.ref p1, .bl tr, .int fls.length, .str al, .str (repF fls.length), .bl false]) = G4 at *
  walk_at "nn2"
  refine ⟨r, _, rfl, .inl (SqL.of dw4.lst), ?_⟩
  rw [xl]
  walk_at "nn2"
  refine ⟨r, _, rfl, .inl (SqL.of dw4.lst), ?_⟩
  rw [xl]
  have L2 : (Str.ofString (toString ((fls.length : Nat) : Int))).length ≤ 4 := text_len fls.length (by omega)
  have e1 : ∀ a b : Str, (a ++ b).length = a.length + b.length := fun a b => by
    show (a.cps ++ b.cps).size = _
    simp [Str.length]
  have m1 : (Str.ofString "Formula(").length = 8 := by decide +kernel
  have m2 : (Str.ofString " lines)").length = 7 := by decide +kernel
  walk_at "nn2"
  have lg : (((fls.length : Nat) : Int)).natAbs.log2 < 1920 := by
    have := Nat.log2_le_self fls.length
    show fls.length.log2 < 1920
    omega
  have L2 : (Str.ofString (toString ((fls.length : Nat) : Int))).length ≤ 4 := text_len fls.length (by omega)
  have e1 : ∀ a b : Str, (a ++ b).length = a.length + b.length := fun a b => by
    show (a.cps ++ b.cps).size = _
    simp [Str.length]
  have m1 : (Str.ofString "Formula(").length = 8 := by decide +kernel
  have m2 : (Str.ofString " lines)").length = 7 := by decide +kernel
  refine ⟨lg, ?_⟩
  have L3 : (Str.ofString (((fls.length : Nat) : Int)).repr).length ≤ 4 := L2
  refine ⟨_, _, rfl, rfl, sz (by rw [m1]; omega), ?_⟩
  refine ⟨_, _, rfl, rfl, sz (by rw [e1, m1, m2]; omega), ?_⟩
  walk_at "nn2"
  intro D2 nD2
  have hD2 := upd_same (H := G4) (a := D2) (o := .lst [.ref r, .bl tr, .int fls.length, .str al, .str (repF fls.length), .bl false])
  have u2 := same_upd (o := .lst [.ref r, .bl tr, .int fls.length, .str al, .str (repF fls.length), .bl false]) nD2
  have dw5 := dw4.same u2
  have hp5 := u2 _ _ hp4
  have hD15 := u2 _ _ hD1
  have M5 := M4.same u2
  clear dw4 hp4 hD1 M4 u2 nD2
  show tNil _ (upd G4 D2 (.lst [.ref r, .bl tr, .int fls.length, .str al, .str (repF fls.length), .bl false])) _
  generalize upd G4 D2 (.lst [.ref r, .bl tr, .int fls.length, .str al, .str (repF fls.length), .bl false]) = G5 at *
  walk_at "nn2"
  refine ⟨.ref D1, .ref D2, rfl, sm_list (SqL.of hD15) (SqL.of hD2) rfl (by show 6 ≤ 1000; decide) fun p hp => ?_, fun H6 s6 => ?_⟩
  · simp only [List.zip_cons_cons, List.zip_nil_right, List.mem_cons, List.not_mem_nil, or_false] at hp
    rcases hp with rfl | rfl | rfl | rfl | rfl | rfl
    · exact dw5.fl.sm dw5.ok (by omega) (SqL.of hp5) (SqL.of dw5.lst)
    all_goals exact .inl ⟨rfl, rfl⟩
  walk_at "nn2"
  exact go _ _ (dw5.same s6) (M5.same s6)
end

variable {K : PySem.W.Frag} {mg : Str → Option Value}

theorem eqv_len : ∀ {xs ys : List PyData}, PyData.eqvAll xs ys = true → xs.length = ys.length
  | [], [], _ => rfl
  | x :: xs, y :: ys, h => by
    have h : (PyData.eqv x y && PyData.eqvAll xs ys) = true := h
    rw [Bool.and_eq_true] at h
    rw [List.length_cons, List.length_cons, eqv_len h.2]
  | [], _ :: _, h => by cases h
  | _ :: _, [], h => by cases h
section
variable {P : Program} {w : World} {base : Heap}
theorem law_eq {cL PL : Addr} (T : Env K mg) (A : Around) (outer : List PySem.Env) (s : Shared) (H : Hp) (E : XK) (hr : Room 15 (A.deeper (envOfC "law" (defScope s_law) s.heap.objs.size T.f_law (.ref cL)))) {tN : TS}
    (hN : PSs (cxOf CX0 P w K mg base N_law "law" (defScope s_law) T.f_law (.ref cL) A outer s H E).nox (bodyTail 10) tN) :
    ∃ t, PSs (cxOf CX0 P w K mg base N_law "law" (defScope s_law) T.f_law (.ref cL) A outer s H E).nox (bodyTail 8) t ∧ ∀ (D : Ends) (G : Hp) (a b l kl r m : Addr) (al : Str) (tr : Bool) (ps : List Addr) (fls : List FL) (y3 y7 y9 y10 y11 y12 y13 y14 y15 : Option V),
      (∀ (G' : Hp) (y10 : Option V), Drawn PL b l kl G' al r ps fls → tN D [some (.ref a), some (.ref b), some (.ref kl), y3, some (.str al), some (.bl tr), some (.ref r), y7, some (.ref m), y9, y10, y11, y12, y13, y14, y15] G') →
      Drawn PL b l kl G al r ps fls → FmAt T.C_Formula G m al (ps.map V.ref) tr →
      t D [some (.ref a), some (.ref b), some (.ref kl), y3, some (.str al), some (.bl tr), some (.ref r), y7, some (.ref m), y9, y10, y11, y12, y13, y14, y15] G := by
  refine ⟨_, ((pss_cons (ps_set (i := 10) sc_law.nd rfl (.inl rfl) (pe_lst (pa_cons (pe_cmpR (op_ownEq (ok_Formula___eq T) (hr.mono (by decide)) ⟨T.m_Formula___eq.1, T.m_Formula___eq.2⟩ T.b_Formula___eq pass0) (pv 8) (pe_makeK T.k_Formula___init (ok_Formula___init T) (hr.mono (by decide)) (by rfl) T.gC_Formula T.b_Formula___init passL (pa_cons (pv 4) (pa_cons (pv 6) pa_nil)) (pk_cons (pv 5) pk_nil)) (nomark _)) (pa_cons (pe_cmpR (op_ownEq (ok_Formula___eq T) (hr.mono (by decide)) ⟨T.m_Formula___eq.1, T.m_Formula___eq.2⟩ T.b_Formula___eq pass0) (pv 8) (pe_makeK T.k_Formula___init (ok_Formula___init T) (hr.mono (by decide)) (by rfl) T.gC_Formula T.b_Formula___init passL (pa_cons (pv 4) (pa_cons (pv 6) pa_nil)) (pk_cons (pe_not (pv 5)) pk_nil)) (nomark _)) (pa_cons (pe_cmpR (op_ownEq (ok_Formula___eq T) (hr.mono (by decide)) ⟨T.m_Formula___eq.1, T.m_Formula___eq.2⟩ T.b_Formula___eq pass0) (pv 8) (pv 6) (nomark _)) (pa_cons (pe_cmpR (op_ownEq (ok_Formula___eq T) (hr.mono (by decide)) ⟨T.m_Formula___eq.1, T.m_Formula___eq.2⟩ T.b_Formula___eq pass0) (pv 8) (pe_makeK T.k_Formula___init (ok_Formula___init T) (hr.mono (by decide)) (by rfl) T.gC_Formula T.b_Formula___init passL (pa_cons (pv 4) (pa_cons (pe_op op_cat (pv 6) (pe_lst (pa_cons (pe_tup (pa_cons pe_str (pa_cons (pe_tup pa_nil) pa_nil))) pa_nil))) pa_nil)) (pk_cons (pv 5) pk_nil)) (nomark _)) pa_nil))))))
      (pss_cons (ps_if (pt_not (pt_val (pe_call (ok_same T 5) (hr.mono (by decide)) (by rfl) T.g_same T.F_same.kp T.b_same .nil pass0 (pa_cons (pv 10) (pa_cons (pe_lst (pa_cons pe_bl (pa_cons pe_bl (pa_cons pe_bl (pa_cons pe_bl pa_nil))))) pa_nil)))))
      (pss_one (ps_ret pe_bl))
      pss_nil)
      hN))), ?_⟩
  rintro ⟨dn, dr, db, dc⟩ G a b l kl r m al tr ps fls y3 y7 y9 y10 y11 y12 y13 y14 y15 go dw M
  have dq : PyData.eqv (.list (fls.map flD)) (.list (fls.map flD)) = true := SeqAt.eqv_refl _ (SeqAt.canLay_of_shaped (shaped_fls dw.alp dw.ok))
  walk_at "nn2"
  intro x1 d1 x10 d10 ne1
  refine mk_use T x10 d10 ne1 dw.lst (.inl (SqL.of dw.lst)) dw.fl dw.ok dw.alp dw.len.1 (by have := dw.len.2; omega) fun H1 s1 M1 => ⟨rfl, ?_⟩
  have sh := shaped_fls dw.alp dw.ok
  have M1a := M1.at_
  have Ma := M.same s1
  have dw1 := dw.same s1
  obtain ⟨dxm, lm, hm1, _⟩ := id Ma
  obtain ⟨dx1, l1, hx1, _⟩ := id M1a
  clear M M1 s1 x10 d10 ne1 dw
  walk_at "nn2"
  refine ⟨m, dxm, _, rfl, hm1, ⟨x1, rfl, .inl ⟨_, _, hx1⟩⟩, ?_⟩
  refine ⟨m, .ref x1, al, _, tr, rfl, Ma, .inl ⟨x1, al, _, tr, fls.map flD, fls.map flD, rfl, M1a, dw1.fl.dp, dw1.fl.dp, sh, sh, ?_⟩⟩
  refine ⟨_, rfl, ?_⟩
  rw [show (decide (al = al) && (PyData.eqv (.list (fls.map flD)) (.list (fls.map flD)) && decide (tr = tr))) = true by rw [dq]; simp]
  clear M1a hx1
  walk_at "nn2"
  intro x2 d2 x20 d20 ne2
  refine mk_use T x20 d20 ne2 dw1.lst (.inl (SqL.of dw1.lst)) dw1.fl dw1.ok dw1.alp dw1.len.1 (by have := dw1.len.2; omega) fun H2 s2 M2 => ⟨rfl, ?_⟩
  have M2a := M2.at_
  have Mb := Ma.same s2
  have dw2 := dw1.same s2
  have hm2 := s2 _ _ hm1
  obtain ⟨dx2, l2, hx2, _⟩ := id M2a
  clear Ma M2 s2 x20 d20 ne2 dw1 hm1
  walk_at "nn2"
  refine ⟨m, dxm, _, rfl, hm2, ⟨x2, rfl, .inl ⟨_, _, hx2⟩⟩, ?_⟩
  refine ⟨m, .ref x2, al, _, tr, rfl, Mb, .inl ⟨x2, al, _, (!tr), fls.map flD, fls.map flD, rfl, M2a, dw2.fl.dp, dw2.fl.dp, sh, sh, ?_⟩⟩
  refine ⟨_, rfl, ?_⟩
  rw [show (decide (al = al) && (PyData.eqv (.list (fls.map flD)) (.list (fls.map flD)) && decide (tr = !tr))) = false by cases tr <;> simp]
  clear M2a hx2
  walk_at "nn2"
  refine ⟨m, dxm, _, rfl, hm2, ⟨r, rfl, .inr ⟨_, dw2.lst⟩⟩, ?_⟩
  refine ⟨m, .ref r, al, _, tr, rfl, Mb, .inr ⟨r, _, rfl, dw2.lst, ?_⟩⟩
  refine ⟨_, rfl, ?_⟩
  walk_at "nn2"
  intro q1 nq1
  have u1 := same_upd (o := .tup []) nq1
  walk_at "nn2"
  intro p1 np1
  have u2 := same_upd (o := .tup [.str "and", .ref q1]) np1
  walk_at "nn2"
  intro D1 nD1
  have u3 := same_upd (o := .lst [.ref p1]) nD1
  have S3 := u1.trans (u2.trans u3)
  have dw3 := dw2.same S3
  have fa : FLp (upd (upd (upd H2 q1 (.tup [])) p1 (.tup [.str "and", .ref q1])) D1 (.lst [.ref p1])) [p1] [.and []] := .cons ⟨q1, u3 _ _ upd_same, u3 _ _ (u2 _ _ upd_same)⟩ .nil
  have hD1 := upd_same (H := upd (upd H2 q1 (.tup [])) p1 (.tup [.str "and", .ref q1])) (a := D1) (o := .lst [.ref p1])
  have Mc := Mb.same S3
  have hm3 := S3 _ _ hm2
  clear dw2 Mb hm2 S3 u1 u2 u3 nq1 np1 nD1
  generalize upd (upd (upd H2 q1 (.tup [])) p1 (.tup [.str "and", .ref q1])) D1 (.lst [.ref p1]) = G3 at *
  walk_at "nn2"
  have pl : ps.length = fls.length := dw3.fl.1
  have ln := dw3.len
  refine ⟨r, D1, _, _, rfl, rfl, dw3.lst, hD1, sz (by rw [List.length_map]; show ps.length + 1 ≤ 100000; omega), fun r2 nr2 => ?_⟩
  have hr2 : upd G3 r2 (.lst (ps.map V.ref ++ [.ref p1])) r2 = some (.lst ((ps ++ [p1]).map V.ref)) := by rw [upd_same, List.map_append]; rfl
  have u4 := same_upd (o := .lst (ps.map V.ref ++ [.ref p1])) nr2
  have dw4 := dw3.same u4
  have Md := Mc.same u4
  have hm4 := u4 _ _ hm3
  have ff : FLp (upd G3 r2 (.lst (ps.map V.ref ++ [.ref p1]))) (ps ++ [p1]) (fls ++ [FL.and []]) := FLp.app (fa.same u4) dw4.fl
  have oo : FOk al.cps.toList (fls ++ [FL.and []]) := dw4.ok.snoc ⟨(fun _ h => by cases h), .nil, by decide⟩
  clear dw3 Mc hm3 u4 nr2 fa hD1
  show (_ : Hp → Prop) (upd G3 r2 (.lst (ps.map V.ref ++ [.ref p1])))
  generalize upd G3 r2 (.lst (ps.map V.ref ++ [.ref p1])) = G4 at *
  walk_at "nn2"
  intro x5 d5 x50 d50 ne5
  refine mk_use T x50 d50 ne5 hr2 (.inl (SqL.of hr2)) ff oo dw4.alp (by rw [List.length_append]; omega) (by rw [List.length_append]; show fls.length + 1 ≤ 4000; omega) fun H5 s5 M5 => ⟨rfl, ?_⟩
  have M5a := M5.at_
  obtain ⟨dx5, l5, hx5, _⟩ := id M5a
  have dw5 := dw4.same s5
  walk_at "nn2"
  refine ⟨m, dxm, _, rfl, s5 _ _ hm4, ⟨x5, rfl, .inl ⟨_, _, hx5⟩⟩, ?_⟩
  refine ⟨m, .ref x5, al, _, tr, rfl, Md.same s5, .inl ⟨x5, al, _, tr, fls.map flD, (fls ++ [FL.and []]).map flD, rfl, M5a, dw5.fl.dp, (ff.same s5).dp, sh, shaped_fls dw4.alp oo, ?_⟩⟩
  refine ⟨_, rfl, ?_⟩
  have nq : PyData.eqv (.list (fls.map flD)) (.list ((fls ++ [FL.and []]).map flD)) = false := by
    cases h : PyData.eqv (.list (fls.map flD)) (.list ((fls ++ [FL.and []]).map flD)) with
    | false => rfl
    | true =>
      have := eqv_len (xs := fls.map flD) (ys := (fls ++ [FL.and []]).map flD) h
      rw [List.length_map, List.length_map, List.length_append] at this
      simp at this
  rw [nq]
  rw [show (decide (al = al) && (false && decide (tr = tr))) = false by simp]
  clear M5a hx5 M5 x50 d50 ne5 Md hm4 dw4
  walk_at "nn2"
  intro D6 nD6
  have u6 := same_upd (o := .lst [.bl true, .bl false, .bl false, .bl false]) nD6
  walk_at "nn2"
  intro D7 nD7
  have u7 := same_upd (o := .lst [.bl true, .bl false, .bl false, .bl false]) nD7
  walk_at "nn2"
  refine ⟨.ref D6, .ref D7, rfl, sm_lst (d := 3) (xs := [.bl true, .bl false, .bl false, .bl false]) (SqL.of (u7 _ _ upd_same)) (SqL.of upd_same) (by decide) rfl, fun H8 s8 => ?_⟩
  walk_at "nn2"
  exact go _ _ (dw5.same (u6.trans (u7.trans s8)))
end

variable {K : PySem.W.Frag} {mg : Str → Option Value}

section
variable {P : Program} {w : World} {base : Heap}
theorem law_asks {cL PL : Addr} (T : Env K mg) (TB : LamX.TabB base mg cL PL) (A : Around) (outer : List PySem.Env) (s : Shared) (H : Hp) (E : XK) (hr : Room 15 (A.deeper (envOfC "law" (defScope s_law) s.heap.objs.size T.f_law (.ref cL))))
    (nd : CellsNd (cxOf CX0 P w K mg base N_law "law" (defScope s_law) T.f_law (.ref cL) A outer s H E).nox.env) (hfn : (cxOf CX0 P w K mg base N_law "law" (defScope s_law) T.f_law (.ref cL) A outer s H E).nox.Ok → ∀ y c, (cxOf CX0 P w K mg base N_law "law" (defScope s_law) T.f_law (.ref cL) A outer s H E).nox.env.cells.lookup y = some c → (cxOf CX0 P w K mg base N_law "law" (defScope s_law) T.f_law (.ref cL) A outer s H E).nox.s_0.heap.objs.size ≤ c)  {tN : TS}
    (hN : PSs (cxOf CX0 P w K mg base N_law "law" (defScope s_law) T.f_law (.ref cL) A outer s H E).nox (bodyTail 12) tN) :
    ∃ t, PSs (cxOf CX0 P w K mg base N_law "law" (defScope s_law) T.f_law (.ref cL) A outer s H E).nox (bodyTail 10) t ∧ ∀ (D : Ends) (G : Hp) (a b l kl r : Addr) (al : Str) (tr : Bool) (ps : List Addr) (fls : List FL) (y3 y7 y8 y9 y10 y11 y12 y13 y14 y15 : Option V),
      (∀ (G' : Hp) (W : Addr) (an : Nat) (u : V) (d : PyData) (y13 y14 : Option V), Drawn PL b l kl G' al r ps fls → G' W = some (.lst ((ps.take an).map V.ref ++ [u])) → W ≠ b → Dp K G' u d → BadD al.cps.toList (an : Nat) d → an ≤ fls.length →
        tN D [some (.ref a), some (.ref b), some (.ref kl), y3, some (.str al), some (.bl tr), some (.ref r), y7, y8, y9, y10, some (.int (an : Nat)), some (.ref W), y13, y14, y15] G') → kl ≠ b → Drawn PL b l kl G al r ps fls →
      t D [some (.ref a), some (.ref b), some (.ref kl), y3, some (.str al), some (.bl tr), some (.ref r), y7, y8, y9, y10, y11, y12, y13, y14, y15] G := by
  refine ⟨_, ((pss_cons (ps_set (i := 11) sc_law.nd rfl (.inr rfl) (pe_call (ok_pull T) (hr.mono (by decide)) (by rfl) T.g_pull T.F_pull.kp T.b_pull .nil pass0 (pa_cons (pv 1) (pa_cons (pe_op op_add (pe_callB call_len_seq (by rfl) T.z_len (by decide +kernel) (pa_cons (pv 6) pa_nil)) pe_int) pa_nil))))
      (pss_cons (ps_set (i := 12) sc_law.nd rfl (.inr rfl) (pe_op op_cat (pe_slice sl_list (pv 6) po_none (po_some (pv 11))) (pe_lst (pa_cons (pe_ifExp (pt_cmpR op_gt (pv 11) pe_int (nomark _)) (pe_call (ok_wrong_saying T) (hr.mono (by decide)) (by rfl) T.g_wrong_saying T.F_wrong_saying.kp T.b_wrong_saying .nil pass0 (pa_cons (pv 1) (pa_cons (pv 4) (pa_cons (pv 11) pa_nil)))) (pe_call (ok_of T) (hr.mono (by decide)) (by rfl) T.g_of T.F_of.kp T.b_of .nil pass0 (pa_cons (pv 1) (pa_cons (pe_lst (pa_cons (pe_tup (pa_cons pe_str (pa_cons pe_int pa_nil))) (pa_cons pe_non (pa_cons (pe_tup (pa_cons pe_str (pa_cons pe_int pa_nil))) pa_nil)))) pa_nil)))) pa_nil))))
      hN))), ?_⟩
  rintro ⟨dn, dr, db, dc⟩ G a b l kl r al tr ps fls y3 y7 y8 y9 y10 y11 y12 y13 y14 y15 go klb dw
  have pl : ps.length = fls.length := dw.fl.1
  have ln := dw.len
  have xl : (ps.map V.ref).length = fls.length := by rw [List.length_map, pl]
  walk_at "nn2"
  refine ⟨r, _, rfl, .inl (SqL.of dw.lst), ?_⟩
  rw [xl]
  obtain ⟨nz, hnz⟩ : ∃ nz : Int, nz = ((fls.length : Nat) : Int) := ⟨_, rfl⟩
  rw [← hnz]
  walk_at "nn2"
  refine ⟨b, l, _, rfl, dw.bag, by omega, by omega, fun az H1 a0 a1 B1 k1 => ?_⟩
  have dw1 := dw.kp k1 B1 klb
  clear k1 B1 dw
  obtain ⟨an, han⟩ : ∃ an : Nat, az = (an : Int) := ⟨az.toNat, by omega⟩
  subst han
  walk_at "nn2"
  refine ⟨r, _, rfl, SqL.of dw1.lst, fun p2 n2 => ?_⟩
  rw [cut_take, ← List.map_take]
  have s2 := same_upd (o := .lst ((ps.take an).map V.ref)) n2
  have hp2 := upd_same (H := H1) (a := p2) (o := .lst ((ps.take an).map V.ref))
  have dw2 := dw1.same s2
  have p2b : p2 ≠ b := dw1.bag.nb n2
  clear s2 n2 dw1
  generalize upd H1 p2 (.lst ((ps.take an).map V.ref)) = G2 at *
  walk_at "nn2"
  have al4 : al.length ≤ 4 := by rw [len_tl]; exact dw2.alp.2.1
  refine if_join (fun u H' => ∃ d, Dp K H' u d ∧ BadD al.cps.toList (an : Nat) d ∧ BagAt b l H' ∧ Kp b G2 H') (fun e Q hQ => ?_) (fun e Q hQ => ?_) ?_
  · walk_at "nn2"
    refine ⟨b, l, al, an, rfl, dw2.bag, dw2.alp, by have := of_decide_eq_true e; omega, by omega, fun u d H' h1 h2 h3 h4 => hQ u H' ⟨d, h1, h2, h3, h4⟩⟩
  · have a0 : an = 0 := by
      have : ¬ ((0 : Int) < (an : Int)) := fun h => e (decide_eq_true h)
      omega
    subst a0
    walk_at "nn2"
    intro q1 nq1
    have u1 := same_upd (o := .tup [.str "not", .int 0]) nq1
    walk_at "nn2"
    intro q2 nq2
    have u2 := same_upd (o := .tup [.str "is", .int 3]) nq2
    walk_at "nn2"
    intro D3 nD3
    have u3 := same_upd (o := .lst [.ref q1, .non, .ref q2]) nD3
    have S3 := u1.trans (u2.trans u3)
    refine ⟨b, l, _, rfl, dw2.bag.same S3, .inl ⟨D3, _, rfl, (dw2.bag.same (u1.trans u2)).nb nD3, .inl (SqL.of upd_same), (by intro z; cases z), (by show 3 ≤ 100000; decide), fun u H' hu B' k' => ?_⟩⟩
    have d1 : Dp K _ (.ref q1) (.tuple [.str "not", .int 0]) := .tup (SqT.of (u3 _ _ (u2 _ _ upd_same))) (.cons (.str _) (.cons (.int _) .nil))
    have d2 : Dp K _ (.ref q2) (.tuple [.str "is", .int 3]) := .tup (SqT.of (u3 _ _ upd_same)) (.cons (.str _) (.cons (.int _) .nil))
    have kk := (Kp.same (b := b) S3).trans k'
    simp only [List.mem_cons, List.not_mem_nil, or_false] at hu
    rcases hu with rfl | rfl | rfl
    · exact hQ _ _ ⟨_, dp_kp k' (dw2.bag.same S3) _ _ rfl d1, ⟨by rw [not1]; rfl, ok1 (by decide +kernel) short_int, rfl⟩, B', kk⟩
    · exact hQ _ _ ⟨_, .non, ⟨rfl, trivial, rfl⟩, B', kk⟩
    · exact hQ _ _ ⟨_, dp_kp k' (dw2.bag.same S3) _ _ rfl d2, ⟨by rw [is1]; rfl, ok1 (by decide +kernel) short_int, rfl⟩, B', kk⟩
  rintro u H3 ⟨d, hd, bd, B3, k3⟩
  have dw3 := dw2.kp k3 B3 klb
  have hp3 := k3 _ _ hp2 p2b
  clear dw2 hp2 k3 B3
  walk_at "nn2"
  intro D3 nD3
  have u3 := same_upd (o := .lst [u]) nD3
  have hD3 := upd_same (H := H3) (a := D3) (o := .lst [u])
  walk_at "nn2"
  refine ⟨p2, D3, _, _, rfl, rfl, u3 _ _ hp3, hD3, sz (by rw [List.length_map, List.length_take]; show min an ps.length + 1 ≤ 100000; omega), fun W nW => ?_⟩
  have u4 := same_upd (o := .lst ((ps.take an).map V.ref ++ [u])) nW
  have hW := upd_same (H := upd H3 D3 (.lst [u])) (a := W) (o := .lst ((ps.take an).map V.ref ++ [u]))
  have dw4 := dw3.same (u3.trans u4)
  have hd4 := dp_same hd (u3.trans u4)
  have Wb : W ≠ b := (dw3.bag.same u3).nb nW
  clear dw3 hd u3 u4 nD3 hD3 hp3
  generalize upd (upd H3 D3 (.lst [u])) W (.lst ((ps.take an).map V.ref ++ [u])) = G4 at *
  walk_at "nn2"
  exact go _ _ _ _ _ _ _ dw4 hW Wb hd4 bd (by omega)
end

variable {K : PySem.W.Frag} {mg : Str → Option Value}

theorem DpAll_bent {K : PySem.W.Frag} {H : Hp} {ps : List Addr} {fls : List FL} {u : V} {d : PyData} (F : FLp H ps fls) (hd : Dp K H u d) (n : Nat) : DpAll K H ((ps.take n).map V.ref ++ [u] ++ (ps.drop n).map V.ref) ((fls.take n).map flD ++ [d] ++ (fls.drop n).map flD) := by
  have a : FLp H (ps.take n) (fls.take n) := ⟨by rw [List.length_take, List.length_take, F.1], fun i p f h1 h2 => by
    rw [List.getElem?_take] at h1 h2
    by_cases hi : i < n
    · rw [if_pos hi] at h1 h2
      exact F.2 i p f h1 h2
    · rw [if_neg hi] at h1
      cases h1⟩
  have b : FLp H (ps.drop n) (fls.drop n) := ⟨by rw [List.length_drop, List.length_drop, F.1], fun i p f h1 h2 => by
    rw [List.getElem?_drop] at h1 h2
    exact F.2 _ p f h1 h2⟩
  exact dpa_app b.dp (dpa_app (.cons hd .nil) a.dp)
theorem bent_at {fls : List FL} {d : PyData} {n : Nat} (h : n ≤ fls.length) : ((fls.take n).map flD ++ [d] ++ (fls.drop n).map flD).getD n .none = d := by
  have l : ((fls.take n).map flD).length = n := by rw [List.length_map, List.length_take]; omega
  rw [List.getD_eq_getElem?_getD, List.append_assoc, List.getElem?_append_right (by omega), l, Nat.sub_self]
  rfl
theorem bent_lt {fls : List FL} {d : PyData} {n j : Nat} (h : n ≤ fls.length) (hj : j < n) : ((fls.take n).map flD ++ [d] ++ (fls.drop n).map flD).getD j .none = (fls.map flD).getD j .none := by
  have l : ((fls.take n).map flD).length = n := by rw [List.length_map, List.length_take]; omega
  rw [List.getD_eq_getElem?_getD, List.append_assoc, List.getElem?_append_left (by omega), List.map_take, List.getElem?_take, if_pos hj, List.getD_eq_getElem?_getD]
section
variable {P : Program} {w : World} {base : Heap}
theorem law_asks2 {cL PL : Addr} (T : Env K mg) (TB : LamX.TabB base mg cL PL) (A : Around) (outer : List PySem.Env) (s : Shared) (H : Hp) (E : XK) (hr : Room 15 (A.deeper (envOfC "law" (defScope s_law) s.heap.objs.size T.f_law (.ref cL))))
    (nd : CellsNd (cxOf CX0 P w K mg base N_law "law" (defScope s_law) T.f_law (.ref cL) A outer s H E).nox.env) (hfn : (cxOf CX0 P w K mg base N_law "law" (defScope s_law) T.f_law (.ref cL) A outer s H E).nox.Ok → ∀ y c, (cxOf CX0 P w K mg base N_law "law" (defScope s_law) T.f_law (.ref cL) A outer s H E).nox.env.cells.lookup y = some c → (cxOf CX0 P w K mg base N_law "law" (defScope s_law) T.f_law (.ref cL) A outer s H E).nox.s_0.heap.objs.size ≤ c) :
    ∃ t, PSs (cxOf CX0 P w K mg base N_law "law" (defScope s_law) T.f_law (.ref cL) A outer s H E).nox (bodyTail 12) t ∧ ∀ (D : Ends) (G : Hp) (a b l kl r W : Addr) (al : Str) (tr : Bool) (ps : List Addr) (fls : List FL) (an : Nat) (u : V) (d : PyData) (y3 y7 y8 y9 y10 y13 y14 y15 : Option V),
      (∀ σ G', LawSt PL a b l kl σ G' → D.nx σ G') → kl ≠ b → Drawn PL b l kl G al r ps fls → G W = some (.lst ((ps.take an).map V.ref ++ [u])) → W ≠ b → Dp K G u d → BadD al.cps.toList (an : Nat) d → an ≤ fls.length →
      t D [some (.ref a), some (.ref b), some (.ref kl), y3, some (.str al), some (.bl tr), some (.ref r), y7, y8, y9, y10, some (.int (an : Nat)), some (.ref W), y13, y14, y15] G := by
  refine ⟨_, ((pss_cons (ps_set (i := 13) sc_law.nd rfl (.inr rfl) (pe_call (ok_of T) (hr.mono (by decide)) (by rfl) T.g_of T.F_of.kp T.b_of .nil pass0 (pa_cons (pv 1) (pa_cons (pe_lst (pa_cons (pe_lst pa_nil) (pa_cons (pe_tup pa_nil) (pa_cons pe_non (pa_cons pe_int (pa_cons pe_str pa_nil)))))) pa_nil))))
      (pss_cons (ps_set (i := 14) sc_law.nd rfl (.inl rfl) (pe_lst (pa_cons (pe_lm (T := [(PL, qLam)]) TB rfl (List.mem_singleton.mpr rfl) (fun _ h _ => congrArg Prod.snd (List.mem_singleton.mp h)) (free_by (sc := defScope s_law) (by decide +kernel)) rfl) (pa_cons (pe_lm1 (T := [(PL, qLam)]) (i := 0) TB rfl (List.mem_singleton.mpr rfl) (fun _ h _ => congrArg Prod.snd (List.mem_singleton.mp h)) (free_by (sc := defScope s_law) (by decide +kernel)) rfl rfl) (pa_cons (pe_lm1 (T := [(PL, qLam)]) (i := 0) TB rfl (List.mem_singleton.mpr rfl) (fun _ h _ => congrArg Prod.snd (List.mem_singleton.mp h)) (free_by (sc := defScope s_law) (by decide +kernel)) rfl rfl) pa_nil)))))
      (pss_one (ps_if (pt_not (pt_val (pe_call (ok_same T 5) (hr.mono (by decide)) (by rfl) T.g_same T.F_same.kp T.b_same .nil pass0 (pa_cons (pe_callX (k := 11) (hr.mono (by decide)) (by rfl) T.g_all_got T.F_all_got.kp T.b_all_got pass0 nd hfn (pa_cons (pv 14) pa_nil)) (pa_cons (pe_lst (pa_cons (pe_tup (pa_cons pe_str (pa_cons (pe_tup (pa_cons (pv 11) pa_nil)) pa_nil))) (pa_cons (pe_tup (pa_cons pe_str (pa_cons (pe_tup (pa_cons pe_int pa_nil)) pa_nil))) (pa_cons (pe_tup (pa_cons pe_str (pa_cons (pe_tup (pa_cons pe_str pa_nil)) pa_nil))) pa_nil)))) pa_nil)))))
      (pss_one (ps_ret pe_bl))
      pss_nil))))), ?_⟩
  rintro ⟨dn, dr, db, dc⟩ G a b l kl r W al tr ps fls an u d y3 y7 y8 y9 y10 y13 y14 y15 inv klb dw hW Wb hd bd han
  have pl : ps.length = fls.length := dw.fl.1
  have ln := dw.len
  walk_at "nn2"
  intro p1 hp1
  have s1 := same_upd (o := .lst []) hp1
  walk_at "nn2"
  intro p2 hp2
  have s2 := same_upd (o := .tup []) hp2
  walk_at "nn2"
  intro D hD
  have s3 := same_upd (o := .lst [.ref p1, .ref p2, V.non, .int 3, .str "is"]) hD
  have sD := s1.trans (s2.trans s3)
  have p1b : p1 ≠ b := dw.bag.nb hp1
  have p2b : p2 ≠ b := (dw.bag.same s1).nb hp2
  have Db : D ≠ b := ((dw.bag.same s1).same s2).nb hD
  have BD := dw.bag.same sD
  have e1 := s3 _ _ (s2 _ _ (upd_same (H := G) (a := p1) (o := .lst [])))
  have e2 := s3 _ _ (upd_same (H := upd G p1 (.lst [])) (a := p2) (o := .tup []))
  walk_at "nn2"
  refine ⟨b, l, _, rfl, BD, .inl ⟨D, _, rfl, Db, .inl (SqL.of upd_same), (by intro z; cases z), (by show 5 ≤ 100000; decide), fun nn H1 hv B1 k1 => ?_⟩⟩
  have nv1 : NoneV b H1 nn := by
    simp only [List.mem_cons, List.not_mem_nil, or_false] at hv
    rcases hv with rfl | rfl | rfl | rfl | rfl
    · exact .inl ⟨p1, rfl, p1b, .inl (k1 _ _ e1 p1b)⟩
    · exact .inl ⟨p2, rfl, p2b, .inr (k1 _ _ e2 p2b)⟩
    · exact .inr (.inl rfl)
    · exact .inr (.inr (.inl ⟨_, rfl⟩))
    · exact .inr (.inr (.inr (.inl ⟨_, rfl⟩)))
  have dw1 := (dw.same sD).kp k1 B1 klb
  have hW1 := k1 _ _ (sD _ _ hW) Wb
  have hd1 := dp_kp k1 BD _ _ bd.2.2 (dp_same hd sD)
  clear e1 e2 sD s1 s2 s3 hp1 hp2 hD BD k1 hv dw hW hd Db p1b p2b B1
  have t1 := dw1.tab
  walk_at "nn2"
  intro f1 c1 G1 x1 _ tb1 _ lf1 lc1
  walk_at "nn2"
  intro f2 c2 T2 G2 x2 _ tb2 _ dt2 lf2 lc2
  walk_at "nn2"
  intro f3 c3 T3 G3 x3 _ tb3 _ dt3 lf3 lc3
  have x23 := x2.trans x3
  have x13 := x1.trans x23
  have dw3 := dw1.ext x13 tb3
  have hW3 := x13 _ _ hW1 (by intro ps z; cases z)
  have hd3 := dp_mono (fun _ _ h => seq_ext x13 h) (fun _ _ h => tup_ext x13 h) _ _ hd1
  have nv3 := nv1.ext x13
  have lf1' := x23 _ _ lf1 (by intro ps z; cases z)
  have lc1' := x23 _ _ lc1 LamX.codeO_ne
  have lf2' := x3 _ _ lf2 (by intro ps z; cases z)
  have lc2' := x3 _ _ lc2 LamX.codeO_ne
  have dt2' := x3 _ _ dt2 (by intro ps z; cases z)
  clear dw1 hW1 hd1 nv1 tb1 tb2 x1 x23 x13 lf1 lc1 lf2 lc2 dt2
  walk_at "nn2"
  intro lb hlb
  have S0 := same_upd (o := .lst [.ref f1, .ref f2, .ref f3]) hlb
  have dw4 := dw3.same S0
  have hW4 := S0 _ _ hW3
  have hd4 := dp_same hd3 S0
  have nv4 := nv3.kp (Kp.same (b := b) S0)
  have hlb4 := upd_same (H := G3) (a := lb) (o := .lst [.ref f1, .ref f2, .ref f3])
  have lf1a := S0 _ _ lf1'
  have lc1a := S0 _ _ lc1'
  have lf2a := S0 _ _ lf2'
  have lc2a := S0 _ _ lc2'
  have dt2a := S0 _ _ dt2'
  have lf3a := S0 _ _ lf3
  have lc3a := S0 _ _ lc3
  have dt3a := S0 _ _ dt3
  clear dw3 hW3 hd3 nv3 lf1' lc1' lf2' lc2' dt2' lf3 lc3 dt3 tb3 S0 hlb
  show gName 14 _ _ (upd G3 lb (.lst [.ref f1, .ref f2, .ref f3])) _
  generalize upd G3 lb (.lst [.ref f1, .ref f2, .ref f3]) = G4 at *
  walk_at "nn2"
  refine allgotl_x (X := (cxOf CX0 P w K mg base N_law "law" (defScope s_law) T.f_law (.ref cL) A outer s H E).nox) T 8 fun bs g => ?_
  refine ⟨lb, [f1, f2, f3], [.err "InvalidLine" [.int (an : Nat)], .err "InvalidLine" [.int 0], .err "InvalidAlphabet" [.str ""]], rfl, SqL.of hlb4, (by show 3 ≤ 100; decide), rfl, (fun d hd => by simp at hd; rcases hd with rfl | rfl | rfl <;> trivial), fun i f hf => ?_, fun pr ys G5 e1 e2 e3 s1 => ?_⟩
  · match i, hf with
    | 0, hf =>
      cases hf
      refine ⟨_, rfl, ?_⟩
      refine ask_err0 (P := P) (w := w) (N := ["_law_at", "_law_lines", "_law_signs_here", "_law_wrong"]) (fr := ["_law_at", "_law_lines", "_law_signs_here", "_law_wrong"]) lf1a lc1a rfl (NdefX.nscope_by (by kernel_rfl)) (fun _ _ _ => rfl) (g.cells _ _ [11, 6, 4, 12] (NdefX.Caps.made g.ok (free_by (sc := defScope s_law) (by decide +kernel)) (by decide +kernel) rfl)) (fun A outer s H E hr => (pe_makeK T.k_Formula___init (ok_Formula___init T) (hr.mono (by decide)) (by rfl) T.gC_Formula T.kb_Formula___init (passE (takes_of rfl rfl rfl rfl)) (pa_cons (pv 2) (pa_cons (pe_op op_cat (pv 3) (pe_slice sl_listN (pv 1) (po_some (pv 0)) po_none)) pa_nil)) pk_nil)) fun H5 s5 Q2 E2 hE => ?_
      walk_at "nn2"
      refine ⟨r, _, rfl, SqL.of (s5 _ _ dw4.lst), fun p5 n5 => ?_⟩
      rw [cut_drop, ← List.map_drop]
      have u5 := same_upd (o := .lst ((ps.drop an).map V.ref)) n5
      walk_at "nn2"
      have l1 : ((ps.take an).map V.ref ++ [u] : List V).length = an + 1 := by rw [List.length_append, List.length_map, List.length_take]; show min an ps.length + 1 = _; omega
      have l2 : ((ps.drop an).map V.ref : List V).length = fls.length - an := by rw [List.length_map, List.length_drop, pl]
      refine ⟨W, p5, _, _, rfl, rfl, u5 _ _ (s5 _ _ hW4), upd_same, sz (by rw [l1, l2]; omega), fun R nR => ?_⟩
      have hR := upd_same (H := upd H5 p5 (.lst ((ps.drop an).map V.ref))) (a := R) (o := .lst ((ps.take an).map V.ref ++ [u] ++ (ps.drop an).map V.ref))
      have u6 := same_upd (o := .lst ((ps.take an).map V.ref ++ [u] ++ (ps.drop an).map V.ref)) nR
      have S6 := s5.trans (u5.trans u6)
      have u56 := u5.trans u6
      clear u5 u6 n5 nR
      generalize upd (upd H5 p5 (.lst ((ps.drop an).map V.ref))) R (.lst ((ps.take an).map V.ref ++ [u] ++ (ps.drop an).map V.ref)) = H6 at *
      walk_at "nn2"
      intro x7 d7 x70 d70 ne7
      have sA : Same H6 (upd (upd H6 d7 (.own x7)) x7 (.ins T.C_Formula d7 [])) := (same_upd d70).trans (same_upd (by rw [upd_ne ne7.symm]; exact x70))
      have go := dpa_same (DpAll_bent dw4.fl hd4 an) (S6.trans sA)
      have al4 : al.length ≤ 4 := by rw [len_tl]; exact dw4.alp.2.1
      have gd := good_all al4 dw4.ok
      have dl : ((fls.take an).map flD ++ [d] ++ (fls.drop an).map flD).length = fls.length + 1 := by
        rw [List.length_append, List.length_append, List.length_map, List.length_map, List.length_take, List.length_drop]
        show min an fls.length + 1 + (fls.length - an) = _
        omega
      refine ⟨x7, d7, _, _, _, rfl, upd_same, .inr ⟨al, rfl, dw4.alp, .inr ⟨R, _, rfl, ne_of_none hR x70, .inl (SqL.of (sA _ _ hR)), by rw [List.length_append, l1, l2]; omega, by rw [List.length_append, l1, l2]; omega, .inr ⟨by rw [List.length_append, l1, l2]; omega, _, go, fun e he => ?_, .inl ⟨an, by rw [dl]; omega, ?_, fun j hj => ?_, fun d8 G8 s8 e8 => ?_⟩⟩⟩⟩⟩
      · rcases List.mem_append.mp he with h | h
        · rcases List.mem_append.mp h with h | h
          · rw [List.map_take] at h
            exact gd.2.1 e (List.mem_of_mem_take h)
          · cases List.mem_singleton.mp h
            exact bd.2.1
        · rw [List.map_drop] at h
          exact gd.2.1 e (List.mem_of_mem_drop h)
      · rw [bent_at han]
        exact bd.1
      · rw [bent_lt han hj]
        exact gd.1 j (by rw [List.length_map]; omega)
      · exact hE _ _ _ T.e_InvalidLine (.inl ⟨"at", _, rfl, .inr (.inl ⟨by decide +kernel, rfl⟩), T.C_InvalidLine, d8, rfl, T.y_InvalidLine, T.n_InvalidLine_code, T.n_InvalidLine_at, rfl, e8⟩) (u56.trans (sA.trans s8))
    | 1, hf =>
      cases hf
      refine ⟨_, rfl, ?_⟩
      refine ask_err1 (P := P) (w := w) (N := ["_law_a", "_law_none", "_law_signs_here"]) (fr := ["_law_none", "_law_signs_here"]) lf2a lc2a (.inr ⟨T2, 0, rfl, rfl, dt2a⟩) (NdefX.nscope_by (by kernel_rfl)) (fun Tt doc pm ctv its e h => by
          have e : Value.ref T2 = Value.ref Tt := e
          cases e
          match its, h with
          | [_], _ => exact ⟨_, rfl, rfl⟩) (g.cells _ _ [13, 4] (NdefX.Caps.made g.ok (free_by (sc := defScope s_law) (by decide +kernel)) (by decide +kernel) rfl)) (fun A outer s H E hr => (pe_makeK T.k_Formula___init (ok_Formula___init T) (hr.mono (by decide)) (by rfl) T.gC_Formula T.kb_Formula___init (passE (takes_of rfl rfl rfl rfl)) (pa_cons (pv 2) (pa_cons (pv 1) pa_nil)) pk_nil)) fun H5 s5 Q2 E2 hE => ?_
      walk_at "nn2"
      intro x5 d5 x50 d50 ne5
      have sA : Same H5 (upd (upd H5 d5 (.own x5)) x5 (.ins T.C_Formula d5 [])) := (same_upd d50).trans (same_upd (by rw [upd_ne ne5.symm]; exact x50))
      refine ⟨x5, d5, _, _, _, rfl, upd_same, .inr ⟨al, rfl, dw4.alp, .inl ⟨(nv4.kp (Kp.same (b := b) (s5.trans sA))).no, fun d6 G6 s6 e6 => ?_⟩⟩⟩
      exact hE _ _ _ T.e_InvalidLine (.inl ⟨"at", _, rfl, .inr (.inl ⟨by decide +kernel, rfl⟩), T.C_InvalidLine, d6, rfl, T.y_InvalidLine, T.n_InvalidLine_code, T.n_InvalidLine_at, rfl, e6⟩) (sA.trans s6)
    | 2, hf =>
      cases hf
      refine ⟨_, rfl, ?_⟩
      refine ask_err1 (P := P) (w := w) (N := ["_law_b", "_law_none"]) (fr := ["_law_none"]) lf3a lc3a (.inr ⟨T3, 0, rfl, rfl, dt3a⟩) (NdefX.nscope_by (by kernel_rfl)) (fun Tt doc pm ctv its e h => by
          have e : Value.ref T3 = Value.ref Tt := e
          cases e
          match its, h with
          | [_], _ => exact ⟨_, rfl, rfl⟩) (g.cells _ _ [13] (NdefX.Caps.made g.ok (free_by (sc := defScope s_law) (by decide +kernel)) (by decide +kernel) rfl)) (fun A outer s H E hr => (pe_makeK T.k_Formula___init (ok_Formula___init T) (hr.mono (by decide)) (by rfl) T.gC_Formula T.kb_Formula___init (passE (takes_of rfl rfl rfl rfl)) (pa_cons pe_str (pa_cons (pv 1) pa_nil)) pk_nil)) fun H5 s5 Q2 E2 hE => ?_
      walk_at "nn2"
      intro x5 d5 x50 d50 ne5
      have sA : Same H5 (upd (upd H5 d5 (.own x5)) x5 (.ins T.C_Formula d5 [])) := (same_upd d50).trans (same_upd (by rw [upd_ne ne5.symm]; exact x50))
      refine ⟨x5, d5, _, _, _, rfl, upd_same, .inl ⟨.inl ⟨_, rfl, by decide +kernel, by decide +kernel⟩, fun d6 G6 s6 e6 => ?_⟩⟩
      exact hE _ _ _ T.e_InvalidAlphabet (.inl ⟨"given", _, rfl, .inl ⟨by decide +kernel, rfl⟩, T.C_InvalidAlphabet, d6, rfl, T.y_InvalidAlphabet, T.n_InvalidAlphabet_code, T.n_InvalidAlphabet_given, rfl, e6⟩) (sA.trans s6)
    | i + 3, hf => simp at hf
  · walk_at "nn2"
    intro q0 nq0
    have v0 := same_upd (o := .tup [.int (an : Nat)]) nq0
    walk_at "nn2"
    intro r0 nr0
    have w0 := same_upd (o := .tup [.str "InvalidLine", .ref q0]) nr0
    walk_at "nn2"
    intro q1 nq1
    have v1 := same_upd (o := .tup [.int 0]) nq1
    walk_at "nn2"
    intro r1 nr1
    have w1 := same_upd (o := .tup [.str "InvalidLine", .ref q1]) nr1
    walk_at "nn2"
    intro q2 nq2
    have v2 := same_upd (o := .tup [.str ""]) nq2
    walk_at "nn2"
    intro r2 nr2
    have w2 := same_upd (o := .tup [.str "InvalidAlphabet", .ref q2]) nr2
    walk_at "nn2"
    intro ld nld
    have z0 := same_upd (o := .lst [.ref r0, .ref r1, .ref r2]) nld
    have z1 := w2.trans z0
    have z2 := v2.trans z1
    have z3 := w1.trans z2
    have z4 := v1.trans z3
    have z5 := w0.trans z4
    have z6 := v0.trans z5
    have b0 := z5 _ _ (upd_same (a := q0) (o := .tup [.int (an : Nat)]))
    have c0 := z4 _ _ (upd_same (a := r0) (o := .tup [.str "InvalidLine", .ref q0]))
    have b1 := z3 _ _ (upd_same (a := q1) (o := .tup [.int 0]))
    have c1' := z2 _ _ (upd_same (a := r1) (o := .tup [.str "InvalidLine", .ref q1]))
    have b2 := z1 _ _ (upd_same (a := q2) (o := .tup [.str ""]))
    have c2' := z0 _ _ (upd_same (a := r2) (o := .tup [.str "InvalidAlphabet", .ref q2]))
    match ys, e2 with
    | [y0, y1, y2], _ =>
      obtain ⟨_, f0, g0⟩ := e3 0 y0 rfl
      cases f0
      obtain ⟨_, f1, g1⟩ := e3 1 y1 rfl
      cases f1
      obtain ⟨_, f2, g2⟩ := e3 2 y2 rfl
      cases f2
      refine ⟨.ref pr, .ref ld, rfl, sm_list (SqL.of (z6 _ _ e1)) (SqL.of upd_same) rfl (by show 3 ≤ 1000; decide) fun p hp => ?_, fun H8 s8 => ?_⟩
      · simp only [List.zip_cons_cons, List.zip_nil_right, List.mem_cons, List.not_mem_nil, or_false] at hp
        rcases hp with rfl | rfl | rfl
        · exact gotl_err g0 z6 c0 b0 (fun x h => by cases List.mem_singleton.mp h; rfl) (by show 1 ≤ 1000; decide)
        · exact gotl_err g1 z6 c1' b1 (fun x h => by cases List.mem_singleton.mp h; rfl) (by show 1 ≤ 1000; decide)
        · exact gotl_err g2 z6 c2' b2 (fun x h => by cases List.mem_singleton.mp h; rfl) (by show 1 ≤ 1000; decide)
      walk_at "nn2"
      have sE := s1.trans (z6.trans s8)
      have dwE := dw4.same sE
      exact inv _ _ ⟨⟨_, _, _, _, _, _, _, _, _, _, _, _, _, rfl⟩, dwE.bag, dwE.tab, dwE.kin⟩
end

variable {K : PySem.W.Frag} {mg : Str → Option Value}

section
variable {P : Program} {w : World} {base : Heap}
theorem law_end {cL PL : Addr} (T : Env K mg) (TB : LamX.TabB base mg cL PL) (A : Around) (outer : List PySem.Env) (s : Shared) (H : Hp) (E : XK) (hr : Room 15 (A.deeper (envOfC "law" (defScope s_law) s.heap.objs.size T.f_law (.ref cL))))
    (nd : CellsNd (cxOf CX0 P w K mg base N_law "law" (defScope s_law) T.f_law (.ref cL) A outer s H E).nox.env) (hfn : (cxOf CX0 P w K mg base N_law "law" (defScope s_law) T.f_law (.ref cL) A outer s H E).nox.Ok → ∀ y c, (cxOf CX0 P w K mg base N_law "law" (defScope s_law) T.f_law (.ref cL) A outer s H E).nox.env.cells.lookup y = some c → (cxOf CX0 P w K mg base N_law "law" (defScope s_law) T.f_law (.ref cL) A outer s H E).nox.s_0.heap.objs.size ≤ c) :
    ∃ t, PSs (cxOf CX0 P w K mg base N_law "law" (defScope s_law) T.f_law (.ref cL) A outer s H E).nox endTail t ∧ ∀ (D : Ends) (G : Hp) (a b l kl : Addr) (y3 y4 y5 y6 y7 y8 y9 y10 y11 y12 y13 y14 y15 : Option V),
      (∀ G', D.rt (.bl true) G') → BagAt b l G → LamX.Tabs [(PL, qLam)] G → t D [some (.ref a), some (.ref b), some (.ref kl), y3, y4, y5, y6, y7, y8, y9, y10, y11, y12, y13, y14, y15] G := by
  refine ⟨_, ((pss_cons (ps_set (i := 15) sc_law.nd rfl (.inr rfl) (pe_op op_add pe_int (pe_call (ok_pull T) (hr.mono (by decide)) (by rfl) T.g_pull T.F_pull.kp T.b_pull .nil pass0 (pa_cons (pv 1) (pa_cons pe_int pa_nil)))))
      (pss_cons (ps_set (i := 9) sc_law.nd rfl (.inl rfl) (pe_callX (k := 10) (hr.mono (by decide)) (by rfl) T.g_got T.F_got.kp T.b_got pass0 nd hfn (pa_cons (pe_lm (T := [(PL, qLam)]) TB rfl (List.mem_singleton.mpr rfl) (fun _ h _ => congrArg Prod.snd (List.mem_singleton.mp h)) (free_by (sc := defScope s_law) (by decide +kernel)) rfl) pa_nil)))
      (pss_one (ps_ret (pe_and (pe_cmpR op_eq (ClX.pe_cval (pe_glob (v := .ref T.C_Formula) (by rfl) T.gC_Formula rfl)) pe_int (nomark _)) (pe_one (pe_call (ok_same T 5) (hr.mono (by decide)) (by rfl) T.g_same T.F_same.kp T.b_same .nil pass0 (pa_cons (pv 9) (pa_cons (pe_ifExp (pt_cmpR op_eq (pv 15) pe_int (nomark _)) (pe_tup (pa_cons pe_str (pa_cons pe_int pa_nil))) (pe_tup (pa_cons pe_str (pa_cons (pe_tup (pa_cons pe_str (pa_cons pe_int pa_nil))) pa_nil)))) pa_nil)))))))))), ?_⟩
  rintro ⟨dn, dr, db, dc⟩ G a b l kl y3 y4 y5 y6 y7 y8 y9 y10 y11 y12 y13 y14 y15 fin B t
  walk_at "nn2"
  refine ⟨b, l, _, rfl, B, by decide, by decide, fun wz H1 w0 w1 B1 k1 => ?_⟩
  have t1 := tabs_kp t k1 B
  clear B t k1
  walk_at "nn2"
  intro f1 c1 G1 x1 _ tb1 _ lf1 lc1
  walk_at "nn2"
  refine gotl_x (X := (cxOf CX0 P w K mg base N_law "law" (defScope s_law) T.f_law (.ref cL) A outer s H E).nox) T 8 fun bs g => ?_
  refine ⟨f1, _, _, rfl, LOk.held (lok_g0 (P := P) (w := w) (N := ["_law_wide"]) (fr := ["_law_wide"]) (NdefX.nscope_by (by kernel_rfl)) (fun _ _ _ => rfl) (fun A outer s H E hr => (pe_callB (call_ownlen (ok_Formula___len T) (hr.mono (by decide)) ⟨T.m_Formula___len.1, T.m_Formula___len.2⟩ T.b_Formula___len pass0) (by rfl) T.z_len (by decide +kernel) (pa_cons (pe_makeK T.k_Formula___init (ok_Formula___init T) (hr.mono (by decide)) (by rfl) T.gC_Formula T.kb_Formula___init (passE (takes_of rfl rfl rfl rfl)) (pa_cons pe_str (pa_cons (pe_op op_rep (pe_lst (pa_cons (pe_tup (pa_cons pe_str (pa_cons (pe_tup pa_nil) pa_nil))) pa_nil)) (pv 0)) pa_nil)) pk_nil) pa_nil)))) (g.cells _ _ [15] (NdefX.Caps.made g.ok (free_by (sc := defScope s_law) (by decide +kernel)) (by decide +kernel) rfl)), fun H5 s5 => ⟨⟨s5 _ _ lf1, s5 _ _ lc1, .inl ⟨rfl, rfl⟩⟩, fun Q2 E2 hQ hE => ?_⟩⟩
  walk_at "nn2"
  intro q1 nq1
  have u1 := same_upd (o := .tup []) nq1
  walk_at "nn2"
  intro p1 np1
  have u2 := same_upd (o := .tup [.str "and", .ref q1]) np1
  walk_at "nn2"
  intro D1 nD1
  have u3 := same_upd (o := .lst [.ref p1]) nD1
  have S3 := s5.trans (u1.trans (u2.trans u3))
  have fa : FLAt (upd (upd (upd H5 q1 (.tup [])) p1 (.tup [.str "and", .ref q1])) D1 (.lst [.ref p1])) p1 (.and []) := ⟨q1, u3 _ _ upd_same, u3 _ _ (u2 _ _ upd_same)⟩
  have hD1 := upd_same (H := upd (upd H5 q1 (.tup [])) p1 (.tup [.str "and", .ref q1])) (a := D1) (o := .lst [.ref p1])
  clear u1 u2 u3 nq1 np1 nD1
  generalize upd (upd (upd H5 q1 (.tup [])) p1 (.tup [.str "and", .ref q1])) D1 (.lst [.ref p1]) = G3 at *
  walk_at "nn2"
  obtain ⟨wn, hwn⟩ : ∃ wn : Nat, (4000 : Int) + wz = (wn : Int) := ⟨(4000 + wz).toNat, by omega⟩
  rw [show (fun i j : Int => V.int (i + j)) 4000 wz = V.int (wn : Int) from congrArg V.int hwn]
  refine ⟨D1, _, _, rfl, rfl, hD1, by omega, by omega, sz (by show 1 * _ ≤ _; omega), fun L nL => ?_⟩
  rw [show ((wn : Nat) : Int).toNat = wn from rfl, rep_flat]
  have hL := upd_same (H := G3) (a := L) (o := .lst (List.replicate wn (.ref p1)))
  have u4 := same_upd (o := .lst (List.replicate wn (.ref p1))) nL
  have fb := fa.same u4
  have S4 := S3.trans u4
  clear fa S3 u4 nL hD1
  generalize upd G3 L (.lst (List.replicate wn (.ref p1))) = G4 at *
  walk_at "nn2"
  intro x5 d5 x50 d50 ne5
  have w01 : wn = 4000 ∨ wn = 4001 := by omega
  have hL2 : G4 L = some (.lst ((List.replicate wn p1).map V.ref)) := by rw [List.map_replicate]; exact hL
  have nlL : (List.replicate wn (V.ref p1)).length = wn := List.length_replicate ..
  have aA : Alpha (Str.ofString "a").cps.toList := by decide +kernel
  have sA : Same G4 (upd (upd G4 d5 (.own x5)) x5 (.ins T.C_Formula d5 [])) := (same_upd d50).trans (same_upd (by rw [upd_ne ne5.symm]; exact x50))
  rcases w01 with e | e
  · refine mk_use T (fls := List.replicate wn (.and [])) x50 d50 ne5 hL2 (.inl (SqL.of hL2)) (FLp.rep fb wn) (fun i f h => ?_) aA (by rw [List.length_replicate]; omega) (by rw [List.length_replicate]; omega) fun H6 s6 M6 => ⟨rfl, ?_⟩
    · have := List.mem_of_getElem? h
      rw [List.eq_of_mem_replicate this]
      exact ⟨(fun _ h => by cases h), .nil, by decide⟩
    have M6a := M6.at_
    obtain ⟨dx6, l6, hx6, _⟩ := id M6a
    walk_at "nn2"
    refine ⟨x5, dx6, _, rfl, hx6, x5, _, _, false, rfl, M6a, _, rfl, by omega, by rw [List.length_map, List.length_replicate]; omega, ?_⟩
    rw [List.length_map, List.length_replicate, e]
    refine hQ _ _ fun pr H7 e7 s7 => ?_
    have S7 := S4.trans (s6.trans s7)
    walk_at "nn2"
    refine ⟨T.C_Formula, T.mc_Formula, .int 4000, T.cu_Formula_MOST, rfl, T.cr_Formula, T.cv_Formula_MOST, ?_⟩
    walk_at "nn2"
    rw [show (fun i j : Int => V.int (i + j)) 4000 wz = V.int (wn : Int) from congrArg V.int hwn, e]
    rw [show decide (V.int ((4000 : Nat) : Int) = V.int 4000) = true from rfl]
    walk_at "nn2"
    intro q7 nq7
    have u7 := same_upd (o := .tup [.str "", .int 4000]) nq7
    walk_at "nn2"
    refine ⟨.ref pr, .ref q7, rfl, sm_tup2 (SqT.of (u7 _ _ e7)) (SqT.of upd_same) (.inl ⟨rfl, rfl⟩) (.inl ⟨rfl, rfl⟩), fun H8 s8 => ?_⟩
    exact fin _
  · refine ⟨x5, d5, _, _, _, rfl, upd_same, .inr ⟨_, rfl, aA, .inr ⟨L, _, rfl, ne_of_none hL x50, .inl (SqL.of (sA _ _ hL)), by omega, by omega, .inl ⟨by omega, fun d H6 s6 e6 => ?_⟩⟩⟩⟩
    refine hE _ _ _ ⟨T.e_TooMany, "TooMany", [.str "lines", .int 4000], .inr (.inl ⟨_, _, rfl, rfl, T.C_TooMany, d, rfl, T.y_TooMany, T.n_TooMany_code, T.n_TooMany_subject, T.n_TooMany_most, rfl, e6⟩), fun pr tp H7 e7 e8 s7 => ?_⟩
    have S7 := S4.trans (sA.trans (s6.trans s7))
    walk_at "nn2"
    refine ⟨T.C_Formula, T.mc_Formula, .int 4000, T.cu_Formula_MOST, rfl, T.cr_Formula, T.cv_Formula_MOST, ?_⟩
    walk_at "nn2"
    rw [show (fun i j : Int => V.int (i + j)) 4000 wz = V.int (wn : Int) from congrArg V.int hwn, e]
    rw [show decide (V.int ((4001 : Nat) : Int) = V.int 4000) = false from rfl]
    walk_at "nn2"
    intro q6 nq6
    have u6 := same_upd (o := .tup [.str "lines", .int 4000]) nq6
    walk_at "nn2"
    intro q7 nq7
    have u7 := same_upd (o := .tup [.str "TooMany", .ref q6]) nq7
    walk_at "nn2"
    have S8 := u6.trans u7
    refine ⟨.ref pr, .ref q7, rfl, sm_tup2 (d := 4) (SqT.of (S8 _ _ e7)) (SqT.of upd_same) (.inl ⟨rfl, rfl⟩) (sm_tup2 (d := 3) (SqT.of (S8 _ _ e8)) (SqT.of (u7 _ _ upd_same)) (.inl ⟨rfl, rfl⟩) (.inl ⟨rfl, rfl⟩)), fun H8 s8 => ?_⟩
    exact fin _
end

variable {K : PySem.W.Frag} {mg : Str → Option Value}

section
variable {P : Program} {w : World} {base : Heap}
theorem ok_law {cL PL : Addr} (T : Env K mg) (cd : CodeIs T.fd_law cL) (TB : LamX.TabB base mg cL PL) : FnOk P w K mg base CX0 16 T.f_law T.fd_law ["_law_script"] (spLaw K PL) := by
  obtain ⟨oc, od, kV, doc, pm, an, cdv, ct, osl, e, lk, hcd⟩ := T.F_law.ex
  rw [e] at lk cd ⊢
  obtain rfl : cdv = .ref cL := cd
  refine fn_of lk hcd sc_law (fun vs H Q E h => ?_) (fun A outer s H vs Q E hr h => ?_)
  · obtain ⟨a, ns, rfl, _⟩ := h
    rfl
  · suffices z : ∃ t, PSs (cxOf CX0 P w K mg base N_law "law" (defScope s_law) T.f_law (.ref cL) A outer s H E).nox (defBody s_law) t ∧ t { nx := fun _ G => Q .non G, rt := Q } (L2.start N_law vs) H by
      obtain ⟨t, h1, h2⟩ := z
      exact ⟨t, h1.nox, h2⟩
    have nd : CellsNd (cxOf CX0 P w K mg base N_law "law" (defScope s_law) T.f_law (.ref cL) A outer s H E).nox.env := by
      intro y c hm
      have hm : (y, c) ∈ ([("_law_wrong", s.heap.objs.size + 1 + 1 + 1 + 1 + 1 + 1), ("_law_wide", s.heap.objs.size + 1 + 1 + 1 + 1 + 1), ("_law_signs_here", s.heap.objs.size + 1 + 1 + 1 + 1), ("_law_none", s.heap.objs.size + 1 + 1 + 1), ("_law_lines", s.heap.objs.size + 1 + 1), ("_law_at", s.heap.objs.size + 1)] : List (Str × Addr)) := hm
      simp only [List.mem_cons, Prod.mk.injEq, List.not_mem_nil, or_false] at hm
      rcases hm with ⟨rfl, rfl⟩ | ⟨rfl, rfl⟩ | ⟨rfl, rfl⟩ | ⟨rfl, rfl⟩ | ⟨rfl, rfl⟩ | ⟨rfl, rfl⟩ <;> rfl
    have hfn : (cxOf CX0 P w K mg base N_law "law" (defScope s_law) T.f_law (.ref cL) A outer s H E).nox.Ok → ∀ y c, (cxOf CX0 P w K mg base N_law "law" (defScope s_law) T.f_law (.ref cL) A outer s H E).nox.env.cells.lookup y = some c → (cxOf CX0 P w K mg base N_law "law" (defScope s_law) T.f_law (.ref cL) A outer s H E).nox.s_0.heap.objs.size ≤ c := by
      intro _ y c hm
      have hm : (y, c) ∈ ([("_law_wrong", s.heap.objs.size + 1 + 1 + 1 + 1 + 1 + 1), ("_law_wide", s.heap.objs.size + 1 + 1 + 1 + 1 + 1), ("_law_signs_here", s.heap.objs.size + 1 + 1 + 1 + 1), ("_law_none", s.heap.objs.size + 1 + 1 + 1), ("_law_lines", s.heap.objs.size + 1 + 1), ("_law_at", s.heap.objs.size + 1)] : List (Str × Addr)) := PySem.mem_of_lookup hm
      show s.heap.objs.size ≤ c
      simp only [List.mem_cons, Prod.mk.injEq, List.not_mem_nil, or_false] at hm
      rcases hm with ⟨_, rfl⟩ | ⟨_, rfl⟩ | ⟨_, rfl⟩ | ⟨_, rfl⟩ | ⟨_, rfl⟩ | ⟨_, rfl⟩ <;> omega
    obtain ⟨tE, hE, qE⟩ := law_end (P := P) (w := w) (base := base) T TB A outer s H E hr nd hfn
    obtain ⟨tB, hB, qB⟩ := law_asks2 (PL := PL) (P := P) (w := w) (base := base) T TB A outer s H E hr nd hfn
    obtain ⟨tA, hA, qA⟩ := law_asks (PL := PL) (P := P) (w := w) (base := base) T TB A outer s H E hr nd hfn hB
    obtain ⟨tQ, hQ, qQ⟩ := law_eq (PL := PL) (P := P) (w := w) (base := base) T A outer s H E hr hA
    obtain ⟨tT, hT, qT⟩ := law_told (PL := PL) (P := P) (w := w) (base := base) T A outer s H E hr hQ
    clear hB hA hQ
    refine ⟨_, ((pss_cons (ps_set (i := 1) sc_law.nd rfl (.inl rfl) (pe_call (ok_bag T) (hr.mono (by decide)) (by rfl) T.g_bag T.F_bag.kp T.b_bag .nil pass0 (pa_cons (pv 0) pa_nil)))
      (pss_cons (ps_set (i := 2) sc_law.nd rfl (.inl rfl) (pe_lst (pa_cons pe_str (pa_cons pe_str (pa_cons pe_str (pa_cons pe_str (pa_cons pe_str (pa_cons pe_str (pa_cons pe_str pa_nil)))))))))
      (pss_cons (ps_for PassesOwn.never rfl (pi_range1 (by rfl) T.z_range (pa_cons pe_int pa_nil)) (pg_name (i := 3) sc_law.nd rfl (.inl rfl))
      (pss_cons (ps_asg (pe_tup (pa_cons (pe_call (ok_signs T) (hr.mono (by decide)) (by rfl) T.g_signs T.F_signs.kp T.b_signs .nil pass0 (pa_cons (pv 1) pa_nil)) (pa_cons (pe_cmpR op_eq (pe_call (ok_pull T) (hr.mono (by decide)) (by rfl) T.g_pull T.F_pull.kp T.b_pull .nil pass0 (pa_cons (pv 1) (pa_cons pe_int pa_nil))) pe_int (nomark _)) pa_nil))) (pg_tup (by rfl) (pgs_cons (pg_name (i := 4) sc_law.nd rfl (.inr rfl)) (pgs_cons (pg_name (i := 5) sc_law.nd rfl (.inl rfl)) pgs_nil))))
      (pss_cons (ps_set (i := 6) sc_law.nd rfl (.inr rfl) (pe_call (ok_saying T) (hr.mono (by decide)) (by rfl) T.g_saying T.F_saying.kp T.b_saying .nil pass0 (pa_cons (pv 1) (pa_cons (pv 4) (pa_cons (pe_op op_add pe_int (pe_call (ok_pull T) (hr.mono (by decide)) (by rfl) T.g_pull T.F_pull.kp T.b_pull .nil pass0 (pa_cons (pv 1) (pa_cons pe_int pa_nil)))) (pa_cons (pv 2) pa_nil))))))
      (pss_cons (ps_set (i := 7) sc_law.nd rfl (.inl rfl) (pe_callTy call_list_of (by rfl) T.z_list (by decide +kernel) (pa_cons (pv 6) pa_nil)))
      (pss_cons (ps_set (i := 8) sc_law.nd rfl (.inl rfl) (pe_makeK T.k_Formula___init (ok_Formula___init T) (hr.mono (by decide)) (by rfl) T.gC_Formula T.b_Formula___init passL (pa_cons (pv 4) (pa_cons (pv 7) pa_nil)) (pk_cons (pv 5) pk_nil)))
      (pss_cons (ps_expr (pe_bm0 PySem.F.plainAttrs_list PySem.F.slot_list_clear PySem.F.type_list_clear mt_clear (pv 7)))
      (pss_cons (ps_expr (pe_bm PySem.F.plainAttrs_list PySem.F.slot_list_append PySem.F.type_list_append mt_append (pe_meth0 (pv 8) T.cl_Formula T.m_Formula_lines (ok_Formula_lines T) (hr.mono (by decide)) T.b_Formula_lines .nil pass0) (pa_cons pe_non pa_nil)))
      hT)))))))
      hE)))), ?_⟩
    obtain ⟨a, ns, rfl, hS, hlen, hT, q⟩ := h
    walk_at "ss"
    intro b l H1 hb0 hl0 B1 s1
    have t1 : LamX.Tabs [(PL, qLam)] H1 := fun p hp => by
      cases List.mem_singleton.mp hp
      exact ⟨#[], s1 _ _ hT, trivial, fun q v z => by cases z⟩
    walk_at "ss"
    intro kl hkl0
    have s2 := same_upd (o := .lst kindsV) hkl0
    have hkl : upd H1 kl (.lst kindsV) kl = some (.lst kindsV) := upd_same
    have B2 := B1.same s2
    have t2 : LamX.Tabs [(PL, qLam)] (upd H1 kl (.lst kindsV)) := t1.ext s2
    have klb : kl ≠ b := B1.nb hkl0
    show gName 2 _ _ (upd H1 kl (.lst kindsV)) _
    clear t1 B1 s2 hkl0 s1
    generalize upd H1 kl (.lst kindsV) = G1 at *
    walk_at "nn2"
    refine for_it walk_range (fun i σ H' => Stp (LawSt PL a b l kl σ H')) (.mk ⟨⟨_, _, _, _, _, _, _, _, _, _, _, _, _, rfl⟩, B2, t2, hkl⟩) (fun _ _ _ _ _ => trivial) ?_ ?_
    · clear B2 t2 hkl
      rintro i x σ H2 H3 hi hP ⟨rfl, rfl⟩
      obtain ⟨⟨y3, y4, y5, y6, y7, y8, y9, y10, y11, y12, y13, y14, y15, rfl⟩, B3, t3, hkl3⟩ := hP.of
      clear hP
      show gName 3 (V.int (0 + (i : Int))) _ _ _
      obtain ⟨iz, hiz⟩ : ∃ iz : Int, iz = 0 + (i : Int) := ⟨_, rfl⟩
      rw [← hiz]
      walk_at "nn2"
      intro al H4 hA B4 k4
      have t4 := tabs_kp t3 k4 B3
      have hkl4 := k4 _ _ hkl3 klb
      have al4 : al.length ≤ 4 := by rw [len_tl]; exact hA.2.1
      have al1 : 1 ≤ al.length := by rw [len_tl]; exact hA.1
      clear t3 k4 B3 hkl3
      walk_at "nn2"
      refine ⟨b, l, _, rfl, B4, by decide, by decide, fun kt H5 _ _ B5 k5 => ?_⟩
      have t5 := tabs_kp t4 k5 B4
      have hkl5 := k5 _ _ hkl4 klb
      clear t4 k5 B4 hkl4
      walk_at "nn2"
      obtain ⟨tr, htr⟩ : ∃ tr : Bool, tr = decide (V.int kt = V.int 0) := ⟨_, rfl⟩
      rw [← htr]
      intro tp tp0
      have sp := same_upd (o := .tup [.str al, .bl tr]) tp0
      have htp := upd_same (H := H5) (a := tp) (o := .tup [.str al, .bl tr])
      have B5a := B5.same sp
      have t5a : LamX.Tabs [(PL, qLam)] _ := t5.ext sp
      have hkl5a := sp _ _ hkl5
      clear B5 t5 hkl5 sp tp0
      refine ⟨tp, _, rfl, SqT.of htp, rfl, ?_⟩
      generalize upd H5 tp (.tup [.str al, .bl tr]) = H5a at *
      refine ⟨_, _, rfl, _, _, rfl, rfl, ?_⟩
      walk_at "nn2"
      refine ⟨b, l, _, rfl, B5a, by decide, by decide, fun n H6 n0 n1 B6 k6 => ?_⟩
      have t6 := tabs_kp t5a k6 B5a
      have hkl6 := k6 _ _ hkl5a klb
      clear t5a k6 B5a hkl5a htp
      walk_at "nn2"
      refine ⟨b, l, kl, al, _, kindsV, rfl, B6, al1, al4, hA.2.2.2.imp fun h => Nat.ne_of_lt h, by omega, by omega, hkl6, (fun _ h => h), (by intro z; cases z), by decide, klb, fun r fls H7 F7 O7 l7 r0 B7 k7 => ?_⟩
      have t7 := tabs_kp t6 k7 B6
      have hkl7 := k7 _ _ hkl6 klb
      clear t6 k7 B6 hkl6 r0
      obtain ⟨ps, hr7, pl, fp⟩ := id F7
      have dw7 : Drawn PL b l kl H7 al r ps fls := ⟨B7, t7, hkl7, hA, hr7, ⟨pl, fp⟩, O7, by omega⟩
      clear F7 B7 t7 hkl7 hr7 fp
      walk_at "nn2"
      refine ⟨r, _, rfl, .inl (SqL.of dw7.lst), fun h8 n8 => ?_⟩
      have u8 := same_upd (o := .lst (ps.map V.ref)) n8
      have hh8 := upd_same (H := H7) (a := h8) (o := .lst (ps.map V.ref))
      have dw8 := dw7.same u8
      generalize upd H7 h8 (.lst (ps.map V.ref)) = H8 at *
      walk_at "nn2"
      intro m dx m0 dx0 ne
      refine mk_use T m0 dx0 ne hh8 (.inl (SqL.of hh8)) dw8.fl dw8.ok dw8.alp dw8.len.1 (by have := dw8.len.2; omega) fun H9 s9 M9 => ⟨rfl, ?_⟩
      have c9 : Same H7 (upd H9 h8 (.lst [])) := same_mut (u8.trans s9) n8
      have dw9 := dw7.same c9
      have Ma := M9.mut (o := .lst []) hh8
      have hh9 := s9 _ _ hh8
      clear dw8 m0 dx0 M9 hh8 c9 dw7 u8 s9 n8
      walk_at "nn2"
      refine ⟨.inl ⟨rfl, _, SqL.of hh9⟩, ?_⟩
      refine ⟨h8, _, rfl, rfl, hh9, ?_⟩
      clear hh9
      show (_ : Hp → Prop) (upd H9 h8 (.lst []))
      generalize upd H9 h8 (.lst []) = G9 at *
      obtain ⟨dxm, lm, hm9, _⟩ := id Ma
      walk_at "nn2"
      refine ⟨m, dxm, _, rfl, hm9, rfl, ?_⟩
      walk_at "nn2"
      refine ⟨m, al, _, tr, rfl, Ma, fun p1 n1 => ?_⟩
      have c10 : Same G9 (upd (upd G9 p1 (.lst (ps.map V.ref))) p1 (.lst (ps.map V.ref ++ [.non]))) := same_mut (same_upd n1) n1
      have hp1 := upd_same (H := G9) (a := p1) (o := .lst (ps.map V.ref))
      walk_at "nn2"
      refine ⟨.inl ⟨rfl, _, SqL.of hp1⟩, ?_⟩
      walk_at "nn2"
      refine ⟨p1, _, .non, rfl, rfl, hp1, sz (by rw [List.length_map, pl]; have := dw9.len.2; omega), ?_⟩
      have dwA := dw9.same c10
      have MA := Ma.same c10
      clear c10 n1 hp1 dw9 Ma hm9
      show (_ : Hp → Prop) (upd (upd G9 p1 (.lst (ps.map V.ref))) p1 (.lst (ps.map V.ref ++ [.non])))
      generalize upd (upd G9 p1 (.lst (ps.map V.ref))) p1 (.lst (ps.map V.ref ++ [.non])) = GA at *
      walk_at "nn2"
      refine qT _ _ a b l kl r m al tr ps fls _ _ _ _ _ _ _ _ _ (fun G' y9 dw M => ?_) dwA MA
      refine qQ _ _ a b l kl r m al tr ps fls _ _ _ _ _ _ _ _ _ (fun G' y10 dw => ?_) dw M
      refine qA _ _ a b l kl r al tr ps fls _ _ _ _ _ _ _ _ _ _ (fun G' W an u d y13 y14 dw hW Wb hd bd han => ?_) klb dw
      exact qB _ _ a b l kl r W al tr ps fls an u d _ _ _ _ _ _ _ _ (fun σ G' h => .mk h) klb dw hW Wb hd bd han
    · rintro σ H2 hP
      obtain ⟨⟨y3, y4, y5, y6, y7, y8, y9, y10, y11, y12, y13, y14, y15, rfl⟩, B3, t3, hkl3⟩ := hP.of
      walk_at "nn2"
      refine qE _ _ a b l _ _ _ _ _ _ _ _ _ _ _ _ _ _ (fun G' => ?_) B3 t3
      exact q G'
end

theorem kit_self {K : PySem.W.Frag} {C : Addr} : PySem.W.kitOne K (.ref C) (.ref C) = some true := by
  unfold PySem.W.kitOne
  rw [if_pos (show ((Value.ref C : Value) == .ref C) = true from beq_iff_eq.mpr rfl)]
theorem kit_no {K : PySem.W.Frag} {x : String} {S : Addr} {b : Bool} (ic : PySem.W.isClsIn K S = true) (ty : PySem.W.typeIn K (.ref S) = some (.type "type")) (sb : PySem.W.subIn K (.type x) (.ref S) = some b) : PySem.W.kitOne K (.type x) (.ref S) = some b := by
  have t2 : ((PySem.W.clsIn K S).isSome && PySem.W.typeIn K (.ref S) == some (.type "type")) = true := by
    rw [show (PySem.W.clsIn K S).isSome = true from ic, ty] <;> rfl
  unfold PySem.W.kitOne
  rw [if_neg (show ¬ ((Value.type x : Value) == .ref S) = true from fun h => by cases beq_iff_eq.mp h)]
  show (if ((PySem.W.clsIn K S).isSome && PySem.W.typeIn K (.ref S) == some (.type "type")) = true then PySem.W.subIn K (.type x) (.ref S) else none) = some b
  rw [if_pos t2, sb]
open PySem.W PySem.Calls PySem.HandSPX in
theorem all_mk {l : PySem.W.OpenLaw} {w : World} {K : PySem.W.Frag} {h : Heap} {mg : Str → Option Value} {fa : Addr} (X : K.In h) (G : h.Ns mainGlobals mg) (hfa : mg "law" = some (.ref fa))
    {C_AheadError : Addr}
    {C_Missing : Addr}
    {C_NothingLeft : Addr}
    {C_Formula : Addr}
    {tk_Formula_MOST : Tok}
    {C_InvalidAlphabet : Addr}
    {nm_InvalidAlphabet q_InvalidAlphabet : Str} {N_InvalidAlphabet : Addr} {bs_InvalidAlphabet : List Value} {sn_InvalidAlphabet : List Str} {sub_InvalidAlphabet : List Value} {ab_InvalidAlphabet : Bool} {col_InvalidAlphabet : Option Bool} {dd_InvalidAlphabet : Option Addr} {m0_InvalidAlphabet m1_InvalidAlphabet m2_InvalidAlphabet m3_InvalidAlphabet m5_InvalidAlphabet : Option Value} {o1_InvalidAlphabet : Addr}
    {C_InvalidLine : Addr}
    {nm_InvalidLine q_InvalidLine : Str} {N_InvalidLine : Addr} {bs_InvalidLine : List Value} {sn_InvalidLine : List Str} {sub_InvalidLine : List Value} {ab_InvalidLine : Bool} {col_InvalidLine : Option Bool} {dd_InvalidLine : Option Addr} {m0_InvalidLine m1_InvalidLine m2_InvalidLine m3_InvalidLine m5_InvalidLine : Option Value} {o1_InvalidLine : Addr}
    {C_TooMany : Addr}
    {nm_TooMany q_TooMany : Str} {N_TooMany : Addr} {bs_TooMany : List Value} {sn_TooMany : List Str} {sub_TooMany : List Value} {ab_TooMany : Bool} {col_TooMany : Option Bool} {dd_TooMany : Option Addr} {m0_TooMany m1_TooMany m2_TooMany m3_TooMany m5_TooMany : Option Value} {o1_TooMany : Addr}
    {tv_Formula_MOST : Tok}
    {od_Formula___eq an_Formula___eq : Option Addr} {sl_Formula___eq : Array (Option Value)} {oc_Formula___eq kV_Formula___eq dc_Formula___eq pm_Formula___eq cd_Formula___eq ct_Formula___eq : Value} {f_Formula___eq : Addr}
    {od_Formula___init an_Formula___init : Option Addr} {sl_Formula___init : Array (Option Value)} {oc_Formula___init kV_Formula___init dc_Formula___init pm_Formula___init cd_Formula___init ct_Formula___init : Value} {f_Formula___init : Addr}
    {KD_Formula___init : Addr} 
    {od_Formula___len an_Formula___len : Option Addr} {sl_Formula___len : Array (Option Value)} {oc_Formula___len kV_Formula___len dc_Formula___len pm_Formula___len cd_Formula___len ct_Formula___len : Value} {f_Formula___len : Addr}
    {od_Formula___repr an_Formula___repr : Option Addr} {sl_Formula___repr : Array (Option Value)} {oc_Formula___repr kV_Formula___repr dc_Formula___repr pm_Formula___repr cd_Formula___repr ct_Formula___repr : Value} {f_Formula___repr : Addr}
    {od_Formula_alphabet an_Formula_alphabet : Option Addr} {sl_Formula_alphabet : Array (Option Value)} {oc_Formula_alphabet kV_Formula_alphabet dc_Formula_alphabet pm_Formula_alphabet cd_Formula_alphabet ct_Formula_alphabet : Value} {f_Formula_alphabet : Addr}
    {pp_Formula_alphabet : Addr} {pr_Formula_alphabet : List Value}
    {od_Formula_first an_Formula_first : Option Addr} {sl_Formula_first : Array (Option Value)} {oc_Formula_first kV_Formula_first dc_Formula_first pm_Formula_first cd_Formula_first ct_Formula_first : Value} {f_Formula_first : Addr}
    {pp_Formula_first : Addr} {pr_Formula_first : List Value}
    {od_Formula_lines an_Formula_lines : Option Addr} {sl_Formula_lines : Array (Option Value)} {oc_Formula_lines kV_Formula_lines dc_Formula_lines pm_Formula_lines cd_Formula_lines ct_Formula_lines : Value} {f_Formula_lines : Addr}
    {od_InvalidAlphabet___init an_InvalidAlphabet___init : Option Addr} {sl_InvalidAlphabet___init : Array (Option Value)} {oc_InvalidAlphabet___init kV_InvalidAlphabet___init dc_InvalidAlphabet___init pm_InvalidAlphabet___init cd_InvalidAlphabet___init ct_InvalidAlphabet___init : Value} {f_InvalidAlphabet___init : Addr}
    {od_InvalidLine___init an_InvalidLine___init : Option Addr} {sl_InvalidLine___init : Array (Option Value)} {oc_InvalidLine___init kV_InvalidLine___init dc_InvalidLine___init pm_InvalidLine___init cd_InvalidLine___init ct_InvalidLine___init : Value} {f_InvalidLine___init : Addr}
    {od_TooMany___init an_TooMany___init : Option Addr} {sl_TooMany___init : Array (Option Value)} {oc_TooMany___init kV_TooMany___init dc_TooMany___init pm_TooMany___init cd_TooMany___init ct_TooMany___init : Value} {f_TooMany___init : Addr}
    {od_all_got an_all_got : Option Addr} {sl_all_got : Array (Option Value)} {oc_all_got kV_all_got dc_all_got pm_all_got cd_all_got ct_all_got : Value} {f_all_got : Addr}
    {od_bag an_bag : Option Addr} {sl_bag : Array (Option Value)} {oc_bag kV_bag dc_bag pm_bag cd_bag ct_bag : Value} {f_bag : Addr}
    {od_field an_field : Option Addr} {sl_field : Array (Option Value)} {oc_field kV_field dc_field pm_field cd_field ct_field : Value} {f_field : Addr}
    {od_got an_got : Option Addr} {sl_got : Array (Option Value)} {oc_got kV_got dc_got pm_got cd_got ct_got : Value} {f_got : Addr}
    {od_of an_of : Option Addr} {sl_of : Array (Option Value)} {oc_of kV_of dc_of pm_of cd_of ct_of : Value} {f_of : Addr}
    {od_pull an_pull : Option Addr} {sl_pull : Array (Option Value)} {oc_pull kV_pull dc_pull pm_pull cd_pull ct_pull : Value} {f_pull : Addr}
    {od_same an_same : Option Addr} {sl_same : Array (Option Value)} {oc_same kV_same dc_same pm_same cd_same ct_same : Value} {f_same : Addr}
    {od_saying an_saying : Option Addr} {sl_saying : Array (Option Value)} {oc_saying kV_saying dc_saying pm_saying cd_saying ct_saying : Value} {f_saying : Addr}
    {od_signs an_signs : Option Addr} {sl_signs : Array (Option Value)} {oc_signs kV_signs dc_signs pm_signs cd_signs ct_signs : Value} {f_signs : Addr}
    {od_some_signs an_some_signs : Option Addr} {sl_some_signs : Array (Option Value)} {oc_some_signs kV_some_signs dc_some_signs pm_some_signs cd_some_signs ct_some_signs : Value} {f_some_signs : Addr}
    {od_wrong_saying an_wrong_saying : Option Addr} {sl_wrong_saying : Array (Option Value)} {oc_wrong_saying kV_wrong_saying dc_wrong_saying pm_wrong_saying cd_wrong_saying ct_wrong_saying : Value} {f_wrong_saying : Addr}
    {od_are_letters an_are_letters : Option Addr} {sl_are_letters : Array (Option Value)} {oc_are_letters kV_are_letters dc_are_letters pm_are_letters cd_are_letters ct_are_letters : Value} {f_are_letters : Addr}
    {od_are_refs an_are_refs : Option Addr} {sl_are_refs : Array (Option Value)} {oc_are_refs kV_are_refs dc_are_refs pm_are_refs cd_are_refs ct_are_refs : Value} {f_are_refs : Addr}
    {od_can_stand an_can_stand : Option Addr} {sl_can_stand : Array (Option Value)} {oc_can_stand kV_can_stand dc_can_stand pm_can_stand cd_can_stand ct_can_stand : Value} {f_can_stand : Addr}
    {od_check_lines an_check_lines : Option Addr} {sl_check_lines : Array (Option Value)} {oc_check_lines kV_check_lines dc_check_lines pm_check_lines cd_check_lines ct_check_lines : Value} {f_check_lines : Addr}
    {od_is_alphabet an_is_alphabet : Option Addr} {sl_is_alphabet : Array (Option Value)} {oc_is_alphabet kV_is_alphabet dc_is_alphabet pm_is_alphabet cd_is_alphabet ct_is_alphabet : Value} {f_is_alphabet : Addr}
    {od_is_below an_is_below : Option Addr} {sl_is_below : Array (Option Value)} {oc_is_below kV_is_below dc_is_below pm_is_below cd_is_below ct_is_below : Value} {f_is_below : Addr}
    {od_is_listed an_is_listed : Option Addr} {sl_is_listed : Array (Option Value)} {oc_is_listed kV_is_listed dc_is_listed pm_is_listed cd_is_listed ct_is_listed : Value} {f_is_listed : Addr}
    {od_is_number an_is_number : Option Addr} {sl_is_number : Array (Option Value)} {oc_is_number kV_is_number dc_is_number pm_is_number cd_is_number ct_is_number : Value} {f_is_number : Addr}
    {od_is_prime an_is_prime : Option Addr} {sl_is_prime : Array (Option Value)} {oc_is_prime kV_is_prime dc_is_prime pm_is_prime cd_is_prime ct_is_prime : Value} {f_is_prime : Addr}
    {od_is_word an_is_word : Option Addr} {sl_is_word : Array (Option Value)} {oc_is_word kV_is_word dc_is_word pm_is_word cd_is_word ct_is_word : Value} {f_is_word : Addr}
    {od_law an_law : Option Addr} {sl_law : Array (Option Value)} {oc_law kV_law dc_law pm_law cd_law ct_law : Value} {f_law : Addr}
    {t_MOST_LETTERS : Tok}
    {r_PRIMES : Addr} {ot_PRIMES : Option Addr} {tn_PRIMES : Nat} {sl_PRIMES : Array (Option Value)} {q_PRIMES_0 q_PRIMES_1 q_PRIMES_2 q_PRIMES_3 q_PRIMES_4 q_PRIMES_5 q_PRIMES_6 q_PRIMES_7 q_PRIMES_8 q_PRIMES_9 q_PRIMES_10 q_PRIMES_11 q_PRIMES_12 q_PRIMES_13 q_PRIMES_14 q_PRIMES_15 q_PRIMES_16 q_PRIMES_17 q_PRIMES_18 q_PRIMES_19 q_PRIMES_20 q_PRIMES_21 q_PRIMES_22 q_PRIMES_23 q_PRIMES_24 : Tok}
    {cL PL : Addr} {ocL : Value} {odL : Option Addr} {slL : Array (Option Value)} {vsL : Array Value}
    (aC_AheadError : PySem.W.nsIn K mainGlobals "AheadError" = some (some (.ref C_AheadError)))
    (bx_AheadError : PySem.W.subIn K (.ref C_AheadError) (.type "BaseException") = some true)
    (is_AheadError : PySem.W.isClsIn K C_AheadError = true)
    (ty_AheadError : PySem.W.typeIn K (.ref C_AheadError) = some (.type "type"))
    (aC_Missing : PySem.W.nsIn K mainGlobals "Missing" = some (some (.ref C_Missing)))
    (bx_Missing : PySem.W.subIn K (.ref C_Missing) (.type "BaseException") = some true)
    (is_Missing : PySem.W.isClsIn K C_Missing = true)
    (ty_Missing : PySem.W.typeIn K (.ref C_Missing) = some (.type "type"))
    (aC_NothingLeft : PySem.W.nsIn K mainGlobals "NothingLeft" = some (some (.ref C_NothingLeft)))
    (bx_NothingLeft : PySem.W.subIn K (.ref C_NothingLeft) (.type "BaseException") = some true)
    (is_NothingLeft : PySem.W.isClsIn K C_NothingLeft = true)
    (ty_NothingLeft : PySem.W.typeIn K (.ref C_NothingLeft) = some (.type "type"))
    (aC_Formula : PySem.W.nsIn K mainGlobals "Formula" = some (some (.ref C_Formula)))
    (pg_Formula : PySem.W.plainGet K C_Formula Str.empty = true)
    (hd_Formula : PySem.W.hasDictIn K C_Formula = true)
    (po_Formula : PySem.W.plainOver K C_Formula = true)
    (sa_Formula : PySem.W.findIn K (.ref C_Formula) "__setattr__" = some (some (.builtin "object.__setattr__")))
    (mk_Formula : PySem.W.makesIn K C_Formula = true)
    (kc_Formula : PySem.W.keepIn K (.ref C_Formula) = true)
    (n_Formula__alphabet : PySem.W.findIn K (.ref C_Formula) "_alphabet" = some none)
    (n_Formula__lines : PySem.W.findIn K (.ref C_Formula) "_lines" = some none)
    (n_Formula__first : PySem.W.findIn K (.ref C_Formula) "_first" = some none)
    (o_Formula_MOST : PySem.W.findIn K (.ref C_Formula) "MOST" = some (some (.int 4000 tk_Formula_MOST)))
    (og_Formula_MOST : PySem.W.specialIn K (.int 4000 tk_Formula_MOST) "__get__" = some none)
    (aC_InvalidAlphabet : PySem.W.nsIn K mainGlobals "InvalidAlphabet" = some (some (.ref C_InvalidAlphabet)))
    (xL_InvalidAlphabet : K.lookup C_InvalidAlphabet = some (excClassObj nm_InvalidAlphabet q_InvalidAlphabet C_InvalidAlphabet N_InvalidAlphabet bs_InvalidAlphabet [.ref o1_InvalidAlphabet, .type "ValueError", .type "Exception", .type "BaseException", .type "object"] true sn_InvalidAlphabet sub_InvalidAlphabet ab_InvalidAlphabet col_InvalidAlphabet dd_InvalidAlphabet m0_InvalidAlphabet m1_InvalidAlphabet m2_InvalidAlphabet m3_InvalidAlphabet m5_InvalidAlphabet "ValueError.__new__"))
    (sa_InvalidAlphabet : PySem.W.findIn K (.ref C_InvalidAlphabet) "__setattr__" = some (some (.builtin "object.__setattr__")))
    (ga_InvalidAlphabet : PySem.W.findIn K (.ref C_InvalidAlphabet) "__getattribute__" = some (some (.builtin "BaseException.__getattribute__")))
    (gg_InvalidAlphabet : PySem.W.findIn K (.ref C_InvalidAlphabet) "__getattr__" = some none)
    (kC_InvalidAlphabet : PySem.W.keepIn K (.ref C_InvalidAlphabet) = true)
    (eC_InvalidAlphabet : PySem.W.subIn K (.ref C_InvalidAlphabet) (.type "BaseException") = some true)
    (tC_InvalidAlphabet : PySem.W.typeIn K (.ref C_InvalidAlphabet) = some (.type "type"))
    (hC_InvalidAlphabet : PySem.W.hasDictIn K C_InvalidAlphabet = true)
    (n_InvalidAlphabet_given : PySem.W.findIn K (.ref C_InvalidAlphabet) "given" = some none)
    (n_InvalidAlphabet_code : PySem.W.findIn K (.ref C_InvalidAlphabet) "code" = some none)
    (s_InvalidAlphabet_AheadError : PySem.W.subIn K (.ref C_InvalidAlphabet) (.ref C_AheadError) = some true)
    (s_InvalidAlphabet_Missing : PySem.W.subIn K (.ref C_InvalidAlphabet) (.ref C_Missing) = some false)
    (s_InvalidAlphabet_NothingLeft : PySem.W.subIn K (.ref C_InvalidAlphabet) (.ref C_NothingLeft) = some false)
    (aC_InvalidLine : PySem.W.nsIn K mainGlobals "InvalidLine" = some (some (.ref C_InvalidLine)))
    (xL_InvalidLine : K.lookup C_InvalidLine = some (excClassObj nm_InvalidLine q_InvalidLine C_InvalidLine N_InvalidLine bs_InvalidLine [.ref o1_InvalidLine, .type "ValueError", .type "Exception", .type "BaseException", .type "object"] true sn_InvalidLine sub_InvalidLine ab_InvalidLine col_InvalidLine dd_InvalidLine m0_InvalidLine m1_InvalidLine m2_InvalidLine m3_InvalidLine m5_InvalidLine "ValueError.__new__"))
    (sa_InvalidLine : PySem.W.findIn K (.ref C_InvalidLine) "__setattr__" = some (some (.builtin "object.__setattr__")))
    (ga_InvalidLine : PySem.W.findIn K (.ref C_InvalidLine) "__getattribute__" = some (some (.builtin "BaseException.__getattribute__")))
    (gg_InvalidLine : PySem.W.findIn K (.ref C_InvalidLine) "__getattr__" = some none)
    (kC_InvalidLine : PySem.W.keepIn K (.ref C_InvalidLine) = true)
    (eC_InvalidLine : PySem.W.subIn K (.ref C_InvalidLine) (.type "BaseException") = some true)
    (tC_InvalidLine : PySem.W.typeIn K (.ref C_InvalidLine) = some (.type "type"))
    (hC_InvalidLine : PySem.W.hasDictIn K C_InvalidLine = true)
    (n_InvalidLine_at : PySem.W.findIn K (.ref C_InvalidLine) "at" = some none)
    (n_InvalidLine_code : PySem.W.findIn K (.ref C_InvalidLine) "code" = some none)
    (s_InvalidLine_AheadError : PySem.W.subIn K (.ref C_InvalidLine) (.ref C_AheadError) = some true)
    (s_InvalidLine_Missing : PySem.W.subIn K (.ref C_InvalidLine) (.ref C_Missing) = some false)
    (s_InvalidLine_NothingLeft : PySem.W.subIn K (.ref C_InvalidLine) (.ref C_NothingLeft) = some false)
    (aC_TooMany : PySem.W.nsIn K mainGlobals "TooMany" = some (some (.ref C_TooMany)))
    (xL_TooMany : K.lookup C_TooMany = some (excClassObj nm_TooMany q_TooMany C_TooMany N_TooMany bs_TooMany [.ref o1_TooMany, .type "ValueError", .type "Exception", .type "BaseException", .type "object"] true sn_TooMany sub_TooMany ab_TooMany col_TooMany dd_TooMany m0_TooMany m1_TooMany m2_TooMany m3_TooMany m5_TooMany "ValueError.__new__"))
    (sa_TooMany : PySem.W.findIn K (.ref C_TooMany) "__setattr__" = some (some (.builtin "object.__setattr__")))
    (ga_TooMany : PySem.W.findIn K (.ref C_TooMany) "__getattribute__" = some (some (.builtin "BaseException.__getattribute__")))
    (gg_TooMany : PySem.W.findIn K (.ref C_TooMany) "__getattr__" = some none)
    (kC_TooMany : PySem.W.keepIn K (.ref C_TooMany) = true)
    (eC_TooMany : PySem.W.subIn K (.ref C_TooMany) (.type "BaseException") = some true)
    (tC_TooMany : PySem.W.typeIn K (.ref C_TooMany) = some (.type "type"))
    (hC_TooMany : PySem.W.hasDictIn K C_TooMany = true)
    (n_TooMany_subject : PySem.W.findIn K (.ref C_TooMany) "subject" = some none)
    (n_TooMany_most : PySem.W.findIn K (.ref C_TooMany) "most" = some none)
    (n_TooMany_code : PySem.W.findIn K (.ref C_TooMany) "code" = some none)
    (s_TooMany_AheadError : PySem.W.subIn K (.ref C_TooMany) (.ref C_AheadError) = some true)
    (s_TooMany_Missing : PySem.W.subIn K (.ref C_TooMany) (.ref C_Missing) = some false)
    (s_TooMany_NothingLeft : PySem.W.subIn K (.ref C_TooMany) (.ref C_NothingLeft) = some false)
    (ia_Formula : PySem.W.findIn K (.ref C_Formula) "__class__" = some (some (.builtin "object.__class__")))
    (ib_Formula : PySem.W.specialIn K (.builtin "object.__class__") "__get__" = some (some (.builtin "getset_descriptor.__get__")))
    (ic_Formula : PySem.W.takesIn K (.builtin "object.__class__") = some true)
    (id_Formula : PySem.W.mroIn K C_Formula (.type "object") = some true)
    (ie_Formula : PySem.W.isClsIn K C_Formula = true)
    (if_Formula : PySem.W.typeIn K (.ref C_Formula) = some (.type "type"))
    (il_Formula : PySem.W.subIn K (.type "list") (.ref C_Formula) = some false)
    (ra_Formula : PySem.W.readsIn K C_Formula (.type "type") = true)
    (rb_Formula : PySem.W.specialIn K (.ref C_Formula) "__getattribute__" = some (some (.builtin "type.__getattribute__")))
    (rv_Formula_MOST : PySem.W.findCls K (.ref C_Formula) (.type "type") "MOST" = some (.val (.int 4000 tv_Formula_MOST)))
    (a_Formula___eq : PySem.W.findIn K (.ref C_Formula) "__eq__" = some (some (.ref f_Formula___eq)))
    (i_Formula___eq : PySem.W.isFn K (.ref f_Formula___eq) = true)
    (l_Formula___eq : K.lookup f_Formula___eq = some ⟨oc_Formula___eq, od_Formula___eq, .func (PySem.W.fnOf "__eq__" "Formula.__eq__" (defArgs s_Formula___eq) (defBody s_Formula___eq) (defScope s_Formula___eq) .none kV_Formula___eq dc_Formula___eq pm_Formula___eq an_Formula___eq cd_Formula___eq ct_Formula___eq), sl_Formula___eq⟩) (c_Formula___eq : PySem.W.codeIn K cd_Formula___eq "Formula.__eq__" = true) (k_Formula___eq : PySem.W.keepIn K (.ref f_Formula___eq) = true)
    (a_Formula___init : PySem.W.findIn K (.ref C_Formula) "__init__" = some (some (.ref f_Formula___init)))
    (i_Formula___init : PySem.W.isFn K (.ref f_Formula___init) = true)
    (l_Formula___init : K.lookup f_Formula___init = some ⟨oc_Formula___init, od_Formula___init, .func (PySem.W.fnOf "__init__" "Formula.__init__" (defArgs s_Formula___init) (defBody s_Formula___init) (defScope s_Formula___init) .none kV_Formula___init dc_Formula___init pm_Formula___init an_Formula___init cd_Formula___init ct_Formula___init), sl_Formula___init⟩) (c_Formula___init : PySem.W.codeIn K cd_Formula___init "Formula.__init__" = true) (k_Formula___init : PySem.W.keepIn K (.ref f_Formula___init) = true)
    (kd_Formula___init : kV_Formula___init = .ref KD_Formula___init)
    (kn_Formula___init_first : PySem.W.nsIn K KD_Formula___init "first" = some (some (.bool false)))
    (a_Formula___len : PySem.W.findIn K (.ref C_Formula) "__len__" = some (some (.ref f_Formula___len)))
    (i_Formula___len : PySem.W.isFn K (.ref f_Formula___len) = true)
    (l_Formula___len : K.lookup f_Formula___len = some ⟨oc_Formula___len, od_Formula___len, .func (PySem.W.fnOf "__len__" "Formula.__len__" (defArgs s_Formula___len) (defBody s_Formula___len) (defScope s_Formula___len) .none kV_Formula___len dc_Formula___len pm_Formula___len an_Formula___len cd_Formula___len ct_Formula___len), sl_Formula___len⟩) (c_Formula___len : PySem.W.codeIn K cd_Formula___len "Formula.__len__" = true) (k_Formula___len : PySem.W.keepIn K (.ref f_Formula___len) = true)
    (a_Formula___repr : PySem.W.findIn K (.ref C_Formula) "__repr__" = some (some (.ref f_Formula___repr)))
    (i_Formula___repr : PySem.W.isFn K (.ref f_Formula___repr) = true)
    (l_Formula___repr : K.lookup f_Formula___repr = some ⟨oc_Formula___repr, od_Formula___repr, .func (PySem.W.fnOf "__repr__" "Formula.__repr__" (defArgs s_Formula___repr) (defBody s_Formula___repr) (defScope s_Formula___repr) .none kV_Formula___repr dc_Formula___repr pm_Formula___repr an_Formula___repr cd_Formula___repr ct_Formula___repr), sl_Formula___repr⟩) (c_Formula___repr : PySem.W.codeIn K cd_Formula___repr "Formula.__repr__" = true) (k_Formula___repr : PySem.W.keepIn K (.ref f_Formula___repr) = true)
    (a_Formula_alphabet : PySem.W.findIn K (.ref C_Formula) "alphabet" = some (some (.ref pp_Formula_alphabet))) (qg_Formula_alphabet : PySem.W.specialIn K (.ref pp_Formula_alphabet) "__get__" = some (some (.builtin "property.__get__"))) (qt_Formula_alphabet : PySem.W.takesIn K (.ref pp_Formula_alphabet) = some true) (qr_Formula_alphabet : PySem.W.recIn K pp_Formula_alphabet "property" = some (.ref f_Formula_alphabet :: pr_Formula_alphabet))
    (l_Formula_alphabet : K.lookup f_Formula_alphabet = some ⟨oc_Formula_alphabet, od_Formula_alphabet, .func (PySem.W.fnOf "alphabet" "Formula.alphabet" (defArgs s_Formula_alphabet) (defBody s_Formula_alphabet) (defScope s_Formula_alphabet) .none kV_Formula_alphabet dc_Formula_alphabet pm_Formula_alphabet an_Formula_alphabet cd_Formula_alphabet ct_Formula_alphabet), sl_Formula_alphabet⟩) (c_Formula_alphabet : PySem.W.codeIn K cd_Formula_alphabet "Formula.alphabet" = true) (k_Formula_alphabet : PySem.W.keepIn K (.ref f_Formula_alphabet) = true)
    (a_Formula_first : PySem.W.findIn K (.ref C_Formula) "first" = some (some (.ref pp_Formula_first))) (qg_Formula_first : PySem.W.specialIn K (.ref pp_Formula_first) "__get__" = some (some (.builtin "property.__get__"))) (qt_Formula_first : PySem.W.takesIn K (.ref pp_Formula_first) = some true) (qr_Formula_first : PySem.W.recIn K pp_Formula_first "property" = some (.ref f_Formula_first :: pr_Formula_first))
    (l_Formula_first : K.lookup f_Formula_first = some ⟨oc_Formula_first, od_Formula_first, .func (PySem.W.fnOf "first" "Formula.first" (defArgs s_Formula_first) (defBody s_Formula_first) (defScope s_Formula_first) .none kV_Formula_first dc_Formula_first pm_Formula_first an_Formula_first cd_Formula_first ct_Formula_first), sl_Formula_first⟩) (c_Formula_first : PySem.W.codeIn K cd_Formula_first "Formula.first" = true) (k_Formula_first : PySem.W.keepIn K (.ref f_Formula_first) = true)
    (a_Formula_lines : PySem.W.findIn K (.ref C_Formula) "lines" = some (some (.ref f_Formula_lines)))
    (i_Formula_lines : PySem.W.isFn K (.ref f_Formula_lines) = true)
    (l_Formula_lines : K.lookup f_Formula_lines = some ⟨oc_Formula_lines, od_Formula_lines, .func (PySem.W.fnOf "lines" "Formula.lines" (defArgs s_Formula_lines) (defBody s_Formula_lines) (defScope s_Formula_lines) .none kV_Formula_lines dc_Formula_lines pm_Formula_lines an_Formula_lines cd_Formula_lines ct_Formula_lines), sl_Formula_lines⟩) (c_Formula_lines : PySem.W.codeIn K cd_Formula_lines "Formula.lines" = true) (k_Formula_lines : PySem.W.keepIn K (.ref f_Formula_lines) = true)
    (a_InvalidAlphabet___init : PySem.W.findIn K (.ref C_InvalidAlphabet) "__init__" = some (some (.ref f_InvalidAlphabet___init)))
    (t_InvalidAlphabet___init : PySem.W.typeIn K (.ref f_InvalidAlphabet___init) = some (.type "function"))
    (l_InvalidAlphabet___init : K.lookup f_InvalidAlphabet___init = some ⟨oc_InvalidAlphabet___init, od_InvalidAlphabet___init, .func (PySem.W.fnOf "__init__" "InvalidAlphabet.__init__" (defArgs s_InvalidAlphabet___init) (defBody s_InvalidAlphabet___init) (defScope s_InvalidAlphabet___init) .none kV_InvalidAlphabet___init dc_InvalidAlphabet___init pm_InvalidAlphabet___init an_InvalidAlphabet___init cd_InvalidAlphabet___init ct_InvalidAlphabet___init), sl_InvalidAlphabet___init⟩) (c_InvalidAlphabet___init : PySem.W.codeIn K cd_InvalidAlphabet___init "InvalidAlphabet.__init__" = true) (k_InvalidAlphabet___init : PySem.W.keepIn K (.ref f_InvalidAlphabet___init) = true)
    (a_InvalidLine___init : PySem.W.findIn K (.ref C_InvalidLine) "__init__" = some (some (.ref f_InvalidLine___init)))
    (t_InvalidLine___init : PySem.W.typeIn K (.ref f_InvalidLine___init) = some (.type "function"))
    (l_InvalidLine___init : K.lookup f_InvalidLine___init = some ⟨oc_InvalidLine___init, od_InvalidLine___init, .func (PySem.W.fnOf "__init__" "InvalidLine.__init__" (defArgs s_InvalidLine___init) (defBody s_InvalidLine___init) (defScope s_InvalidLine___init) .none kV_InvalidLine___init dc_InvalidLine___init pm_InvalidLine___init an_InvalidLine___init cd_InvalidLine___init ct_InvalidLine___init), sl_InvalidLine___init⟩) (c_InvalidLine___init : PySem.W.codeIn K cd_InvalidLine___init "InvalidLine.__init__" = true) (k_InvalidLine___init : PySem.W.keepIn K (.ref f_InvalidLine___init) = true)
    (a_TooMany___init : PySem.W.findIn K (.ref C_TooMany) "__init__" = some (some (.ref f_TooMany___init)))
    (t_TooMany___init : PySem.W.typeIn K (.ref f_TooMany___init) = some (.type "function"))
    (l_TooMany___init : K.lookup f_TooMany___init = some ⟨oc_TooMany___init, od_TooMany___init, .func (PySem.W.fnOf "__init__" "TooMany.__init__" (defArgs s_TooMany___init) (defBody s_TooMany___init) (defScope s_TooMany___init) .none kV_TooMany___init dc_TooMany___init pm_TooMany___init an_TooMany___init cd_TooMany___init ct_TooMany___init), sl_TooMany___init⟩) (c_TooMany___init : PySem.W.codeIn K cd_TooMany___init "TooMany.__init__" = true) (k_TooMany___init : PySem.W.keepIn K (.ref f_TooMany___init) = true)
    (a_all_got : PySem.W.nsIn K mainGlobals "_law_all_got" = some (some (.ref f_all_got)))
    (l_all_got : K.lookup f_all_got = some ⟨oc_all_got, od_all_got, .func (PySem.W.fnOf "_law_all_got" "_law_all_got" (defArgs s_all_got) (defBody s_all_got) (defScope s_all_got) .none kV_all_got dc_all_got pm_all_got an_all_got cd_all_got ct_all_got), sl_all_got⟩) (c_all_got : PySem.W.codeIn K cd_all_got "_law_all_got" = true) (k_all_got : PySem.W.keepIn K (.ref f_all_got) = true)
    (a_bag : PySem.W.nsIn K mainGlobals "_law_bag" = some (some (.ref f_bag)))
    (l_bag : K.lookup f_bag = some ⟨oc_bag, od_bag, .func (PySem.W.fnOf "_law_bag" "_law_bag" (defArgs s_bag) (defBody s_bag) (defScope s_bag) .none kV_bag dc_bag pm_bag an_bag cd_bag ct_bag), sl_bag⟩) (c_bag : PySem.W.codeIn K cd_bag "_law_bag" = true) (k_bag : PySem.W.keepIn K (.ref f_bag) = true)
    (a_field : PySem.W.nsIn K mainGlobals "_law_field" = some (some (.ref f_field)))
    (l_field : K.lookup f_field = some ⟨oc_field, od_field, .func (PySem.W.fnOf "_law_field" "_law_field" (defArgs s_field) (defBody s_field) (defScope s_field) .none kV_field dc_field pm_field an_field cd_field ct_field), sl_field⟩) (c_field : PySem.W.codeIn K cd_field "_law_field" = true) (k_field : PySem.W.keepIn K (.ref f_field) = true)
    (a_got : PySem.W.nsIn K mainGlobals "_law_got" = some (some (.ref f_got)))
    (l_got : K.lookup f_got = some ⟨oc_got, od_got, .func (PySem.W.fnOf "_law_got" "_law_got" (defArgs s_got) (defBody s_got) (defScope s_got) .none kV_got dc_got pm_got an_got cd_got ct_got), sl_got⟩) (c_got : PySem.W.codeIn K cd_got "_law_got" = true) (k_got : PySem.W.keepIn K (.ref f_got) = true)
    (a_of : PySem.W.nsIn K mainGlobals "_law_of" = some (some (.ref f_of)))
    (l_of : K.lookup f_of = some ⟨oc_of, od_of, .func (PySem.W.fnOf "_law_of" "_law_of" (defArgs s_of) (defBody s_of) (defScope s_of) .none kV_of dc_of pm_of an_of cd_of ct_of), sl_of⟩) (c_of : PySem.W.codeIn K cd_of "_law_of" = true) (k_of : PySem.W.keepIn K (.ref f_of) = true)
    (a_pull : PySem.W.nsIn K mainGlobals "_law_pull" = some (some (.ref f_pull)))
    (l_pull : K.lookup f_pull = some ⟨oc_pull, od_pull, .func (PySem.W.fnOf "_law_pull" "_law_pull" (defArgs s_pull) (defBody s_pull) (defScope s_pull) .none kV_pull dc_pull pm_pull an_pull cd_pull ct_pull), sl_pull⟩) (c_pull : PySem.W.codeIn K cd_pull "_law_pull" = true) (k_pull : PySem.W.keepIn K (.ref f_pull) = true)
    (a_same : PySem.W.nsIn K mainGlobals "_law_same" = some (some (.ref f_same)))
    (l_same : K.lookup f_same = some ⟨oc_same, od_same, .func (PySem.W.fnOf "_law_same" "_law_same" (defArgs s_same) (defBody s_same) (defScope s_same) .none kV_same dc_same pm_same an_same cd_same ct_same), sl_same⟩) (c_same : PySem.W.codeIn K cd_same "_law_same" = true) (k_same : PySem.W.keepIn K (.ref f_same) = true)
    (a_saying : PySem.W.nsIn K mainGlobals "_law_saying" = some (some (.ref f_saying)))
    (l_saying : K.lookup f_saying = some ⟨oc_saying, od_saying, .func (PySem.W.fnOf "_law_saying" "_law_saying" (defArgs s_saying) (defBody s_saying) (defScope s_saying) .none kV_saying dc_saying pm_saying an_saying cd_saying ct_saying), sl_saying⟩) (c_saying : PySem.W.codeIn K cd_saying "_law_saying" = true) (k_saying : PySem.W.keepIn K (.ref f_saying) = true)
    (a_signs : PySem.W.nsIn K mainGlobals "_law_signs" = some (some (.ref f_signs)))
    (l_signs : K.lookup f_signs = some ⟨oc_signs, od_signs, .func (PySem.W.fnOf "_law_signs" "_law_signs" (defArgs s_signs) (defBody s_signs) (defScope s_signs) .none kV_signs dc_signs pm_signs an_signs cd_signs ct_signs), sl_signs⟩) (c_signs : PySem.W.codeIn K cd_signs "_law_signs" = true) (k_signs : PySem.W.keepIn K (.ref f_signs) = true)
    (a_some_signs : PySem.W.nsIn K mainGlobals "_law_some_signs" = some (some (.ref f_some_signs)))
    (l_some_signs : K.lookup f_some_signs = some ⟨oc_some_signs, od_some_signs, .func (PySem.W.fnOf "_law_some_signs" "_law_some_signs" (defArgs s_some_signs) (defBody s_some_signs) (defScope s_some_signs) .none kV_some_signs dc_some_signs pm_some_signs an_some_signs cd_some_signs ct_some_signs), sl_some_signs⟩) (c_some_signs : PySem.W.codeIn K cd_some_signs "_law_some_signs" = true) (k_some_signs : PySem.W.keepIn K (.ref f_some_signs) = true)
    (a_wrong_saying : PySem.W.nsIn K mainGlobals "_law_wrong_saying" = some (some (.ref f_wrong_saying)))
    (l_wrong_saying : K.lookup f_wrong_saying = some ⟨oc_wrong_saying, od_wrong_saying, .func (PySem.W.fnOf "_law_wrong_saying" "_law_wrong_saying" (defArgs s_wrong_saying) (defBody s_wrong_saying) (defScope s_wrong_saying) .none kV_wrong_saying dc_wrong_saying pm_wrong_saying an_wrong_saying cd_wrong_saying ct_wrong_saying), sl_wrong_saying⟩) (c_wrong_saying : PySem.W.codeIn K cd_wrong_saying "_law_wrong_saying" = true) (k_wrong_saying : PySem.W.keepIn K (.ref f_wrong_saying) = true)
    (a_are_letters : PySem.W.nsIn K mainGlobals "are_letters" = some (some (.ref f_are_letters)))
    (l_are_letters : K.lookup f_are_letters = some ⟨oc_are_letters, od_are_letters, .func (PySem.W.fnOf "are_letters" "are_letters" (defArgs s_are_letters) (defBody s_are_letters) (defScope s_are_letters) .none kV_are_letters dc_are_letters pm_are_letters an_are_letters cd_are_letters ct_are_letters), sl_are_letters⟩) (c_are_letters : PySem.W.codeIn K cd_are_letters "are_letters" = true) (k_are_letters : PySem.W.keepIn K (.ref f_are_letters) = true)
    (a_are_refs : PySem.W.nsIn K mainGlobals "are_refs" = some (some (.ref f_are_refs)))
    (l_are_refs : K.lookup f_are_refs = some ⟨oc_are_refs, od_are_refs, .func (PySem.W.fnOf "are_refs" "are_refs" (defArgs s_are_refs) (defBody s_are_refs) (defScope s_are_refs) .none kV_are_refs dc_are_refs pm_are_refs an_are_refs cd_are_refs ct_are_refs), sl_are_refs⟩) (c_are_refs : PySem.W.codeIn K cd_are_refs "are_refs" = true) (k_are_refs : PySem.W.keepIn K (.ref f_are_refs) = true)
    (a_can_stand : PySem.W.nsIn K mainGlobals "can_stand" = some (some (.ref f_can_stand)))
    (l_can_stand : K.lookup f_can_stand = some ⟨oc_can_stand, od_can_stand, .func (PySem.W.fnOf "can_stand" "can_stand" (defArgs s_can_stand) (defBody s_can_stand) (defScope s_can_stand) .none kV_can_stand dc_can_stand pm_can_stand an_can_stand cd_can_stand ct_can_stand), sl_can_stand⟩) (c_can_stand : PySem.W.codeIn K cd_can_stand "can_stand" = true) (k_can_stand : PySem.W.keepIn K (.ref f_can_stand) = true)
    (a_check_lines : PySem.W.nsIn K mainGlobals "check_lines" = some (some (.ref f_check_lines)))
    (l_check_lines : K.lookup f_check_lines = some ⟨oc_check_lines, od_check_lines, .func (PySem.W.fnOf "check_lines" "check_lines" (defArgs s_check_lines) (defBody s_check_lines) (defScope s_check_lines) .none kV_check_lines dc_check_lines pm_check_lines an_check_lines cd_check_lines ct_check_lines), sl_check_lines⟩) (c_check_lines : PySem.W.codeIn K cd_check_lines "check_lines" = true) (k_check_lines : PySem.W.keepIn K (.ref f_check_lines) = true)
    (a_is_alphabet : PySem.W.nsIn K mainGlobals "is_alphabet" = some (some (.ref f_is_alphabet)))
    (l_is_alphabet : K.lookup f_is_alphabet = some ⟨oc_is_alphabet, od_is_alphabet, .func (PySem.W.fnOf "is_alphabet" "is_alphabet" (defArgs s_is_alphabet) (defBody s_is_alphabet) (defScope s_is_alphabet) .none kV_is_alphabet dc_is_alphabet pm_is_alphabet an_is_alphabet cd_is_alphabet ct_is_alphabet), sl_is_alphabet⟩) (c_is_alphabet : PySem.W.codeIn K cd_is_alphabet "is_alphabet" = true) (k_is_alphabet : PySem.W.keepIn K (.ref f_is_alphabet) = true)
    (a_is_below : PySem.W.nsIn K mainGlobals "is_below" = some (some (.ref f_is_below)))
    (l_is_below : K.lookup f_is_below = some ⟨oc_is_below, od_is_below, .func (PySem.W.fnOf "is_below" "is_below" (defArgs s_is_below) (defBody s_is_below) (defScope s_is_below) .none kV_is_below dc_is_below pm_is_below an_is_below cd_is_below ct_is_below), sl_is_below⟩) (c_is_below : PySem.W.codeIn K cd_is_below "is_below" = true) (k_is_below : PySem.W.keepIn K (.ref f_is_below) = true)
    (a_is_listed : PySem.W.nsIn K mainGlobals "is_listed" = some (some (.ref f_is_listed)))
    (l_is_listed : K.lookup f_is_listed = some ⟨oc_is_listed, od_is_listed, .func (PySem.W.fnOf "is_listed" "is_listed" (defArgs s_is_listed) (defBody s_is_listed) (defScope s_is_listed) .none kV_is_listed dc_is_listed pm_is_listed an_is_listed cd_is_listed ct_is_listed), sl_is_listed⟩) (c_is_listed : PySem.W.codeIn K cd_is_listed "is_listed" = true) (k_is_listed : PySem.W.keepIn K (.ref f_is_listed) = true)
    (a_is_number : PySem.W.nsIn K mainGlobals "is_number" = some (some (.ref f_is_number)))
    (l_is_number : K.lookup f_is_number = some ⟨oc_is_number, od_is_number, .func (PySem.W.fnOf "is_number" "is_number" (defArgs s_is_number) (defBody s_is_number) (defScope s_is_number) .none kV_is_number dc_is_number pm_is_number an_is_number cd_is_number ct_is_number), sl_is_number⟩) (c_is_number : PySem.W.codeIn K cd_is_number "is_number" = true) (k_is_number : PySem.W.keepIn K (.ref f_is_number) = true)
    (a_is_prime : PySem.W.nsIn K mainGlobals "is_prime" = some (some (.ref f_is_prime)))
    (l_is_prime : K.lookup f_is_prime = some ⟨oc_is_prime, od_is_prime, .func (PySem.W.fnOf "is_prime" "is_prime" (defArgs s_is_prime) (defBody s_is_prime) (defScope s_is_prime) .none kV_is_prime dc_is_prime pm_is_prime an_is_prime cd_is_prime ct_is_prime), sl_is_prime⟩) (c_is_prime : PySem.W.codeIn K cd_is_prime "is_prime" = true) (k_is_prime : PySem.W.keepIn K (.ref f_is_prime) = true)
    (a_is_word : PySem.W.nsIn K mainGlobals "is_word" = some (some (.ref f_is_word)))
    (l_is_word : K.lookup f_is_word = some ⟨oc_is_word, od_is_word, .func (PySem.W.fnOf "is_word" "is_word" (defArgs s_is_word) (defBody s_is_word) (defScope s_is_word) .none kV_is_word dc_is_word pm_is_word an_is_word cd_is_word ct_is_word), sl_is_word⟩) (c_is_word : PySem.W.codeIn K cd_is_word "is_word" = true) (k_is_word : PySem.W.keepIn K (.ref f_is_word) = true)
    (a_law : PySem.W.nsIn K mainGlobals "law" = some (some (.ref f_law)))
    (l_law : K.lookup f_law = some ⟨oc_law, od_law, .func (PySem.W.fnOf "law" "law" (defArgs s_law) (defBody s_law) (defScope s_law) .none kV_law dc_law pm_law an_law cd_law ct_law), sl_law⟩) (c_law : PySem.W.codeIn K cd_law "law" = true) (k_law : PySem.W.keepIn K (.ref f_law) = true)
    (z_abs : PySem.W.nsIn K mainGlobals "abs" = some none)
    (z_all : PySem.W.nsIn K mainGlobals "all" = some none)
    (z_any : PySem.W.nsIn K mainGlobals "any" = some none)
    (z_bool : PySem.W.nsIn K mainGlobals "bool" = some none)
    (z_dict : PySem.W.nsIn K mainGlobals "dict" = some none)
    (z_enumerate : PySem.W.nsIn K mainGlobals "enumerate" = some none)
    (z_int : PySem.W.nsIn K mainGlobals "int" = some none)
    (z_isinstance : PySem.W.nsIn K mainGlobals "isinstance" = some none)
    (z_len : PySem.W.nsIn K mainGlobals "len" = some none)
    (z_list : PySem.W.nsIn K mainGlobals "list" = some none)
    (z_max : PySem.W.nsIn K mainGlobals "max" = some none)
    (z_min : PySem.W.nsIn K mainGlobals "min" = some none)
    (z_range : PySem.W.nsIn K mainGlobals "range" = some none)
    (z_repr : PySem.W.nsIn K mainGlobals "repr" = some none)
    (z_sorted : PySem.W.nsIn K mainGlobals "sorted" = some none)
    (z_str : PySem.W.nsIn K mainGlobals "str" = some none)
    (z_tuple : PySem.W.nsIn K mainGlobals "tuple" = some none)
    (z_zip : PySem.W.nsIn K mainGlobals "zip" = some none)
    (c_MOST_LETTERS : PySem.W.nsIn K mainGlobals "MOST_LETTERS" = some (some (.int 4 t_MOST_LETTERS)))
    (a_PRIMES : PySem.W.nsIn K mainGlobals "PRIMES" = some (some (.ref r_PRIMES))) (l_PRIMES : K.lookup r_PRIMES = some ⟨.type "tuple", ot_PRIMES, .seq #[.int 2 q_PRIMES_0, .int 3 q_PRIMES_1, .int 5 q_PRIMES_2, .int 7 q_PRIMES_3, .int 11 q_PRIMES_4, .int 13 q_PRIMES_5, .int 17 q_PRIMES_6, .int 19 q_PRIMES_7, .int 23 q_PRIMES_8, .int 29 q_PRIMES_9, .int 31 q_PRIMES_10, .int 37 q_PRIMES_11, .int 41 q_PRIMES_12, .int 43 q_PRIMES_13, .int 47 q_PRIMES_14, .int 53 q_PRIMES_15, .int 59 q_PRIMES_16, .int 61 q_PRIMES_17, .int 67 q_PRIMES_18, .int 71 q_PRIMES_19, .int 73 q_PRIMES_20, .int 79 q_PRIMES_21, .int 83 q_PRIMES_22, .int 89 q_PRIMES_23, .int 97 q_PRIMES_24] tn_PRIMES, sl_PRIMES⟩)
    (ecL : cd_law = .ref cL) (lcL : K.lookup cL = some ⟨ocL, odL, .fields vsL, slL⟩) (epL : vsL[11]? = some (.ref PL)) (hcL : PySem.W.codeHdIn K cL PL = true) (npL : K.lookup PL = none) (tbL : h.get? PL = some (PySem.W.tabObj #[])) :
    LamX.LawAtS l w K CX0 16 63 "_law_script" mg fa h := by
  have e := hfa.symm.trans (PySem.W.mg_of X G a_law)
  cases e
  obtain ⟨kx_Formula___init, kb_Formula___init⟩ := FunD.kbinds0 (ps := ["self", "alphabet", "lines", "first"]) (show FunD K "__init__" "Formula.__init__" (defArgs s_Formula___init) (defBody s_Formula___init) (defScope s_Formula___init) [] [("first", .bl false)] f_Formula___init (PySem.W.fnOf "__init__" "Formula.__init__" (defArgs s_Formula___init) (defBody s_Formula___init) (defScope s_Formula___init) .none kV_Formula___init dc_Formula___init pm_Formula___init an_Formula___init cd_Formula___init ct_Formula___init) from ⟨⟨_, _, .none, kV_Formula___init, dc_Formula___init, pm_Formula___init, an_Formula___init, cd_Formula___init, ct_Formula___init, _, rfl, l_Formula___init, c_Formula___init, .inl ⟨rfl, rfl⟩, .inr ⟨KD_Formula___init, kd_Formula___init, fun q hq => by
    simp only [List.mem_cons, List.not_mem_nil, or_false] at hq
    rcases hq with rfl
    · exact ⟨_, kn_Formula___init_first, rfl⟩⟩⟩, k_Formula___init⟩) 3 [] [("first", .bl false)] (fun us mz _ => us ++ mz) (by decide) (fun q hq => hq) (fun a b _ => a.append b) (fun _ _ _ _ _ _ us mv ws h1 h2 h3 => match us, mv, ws, h1, h2, h3 with | [_, _, _], [_], [], _, _, _ => ⟨_, _, _, _, _, _, rfl, rfl, rfl⟩)
  let T : Env K mg := {
    C_AheadError := _, gC_AheadError := PySem.W.mg_of X G aC_AheadError,
    C_Missing := _, gC_Missing := PySem.W.mg_of X G aC_Missing,
    C_NothingLeft := _, gC_NothingLeft := PySem.W.mg_of X G aC_NothingLeft,
    C_Formula := _, gC_Formula := PySem.W.mg_of X G aC_Formula, n_Formula__alphabet := n_Formula__alphabet, n_Formula__lines := n_Formula__lines, n_Formula__first := n_Formula__first, u_Formula_MOST := _, o_Formula_MOST := ⟨o_Formula_MOST, ⟨_, rfl⟩, og_Formula_MOST, rfl⟩, cl_Formula := ⟨pg_Formula, hd_Formula, po_Formula, sa_Formula⟩,
    C_InvalidAlphabet := _, gC_InvalidAlphabet := PySem.W.mg_of X G aC_InvalidAlphabet, n_InvalidAlphabet_given := n_InvalidAlphabet_given, n_InvalidAlphabet_code := n_InvalidAlphabet_code, x_InvalidAlphabet := ⟨⟨_, _, _, _, _, _, _, _, _, _, _, _, _, _, _, xL_InvalidAlphabet, (show refsVE [.type "ValueError", .type "Exception", .type "BaseException", .type "object"] = true by decide +kernel)⟩, sa_InvalidAlphabet, eC_InvalidAlphabet, tC_InvalidAlphabet, kC_InvalidAlphabet⟩, y_InvalidAlphabet := ⟨ga_InvalidAlphabet, gg_InvalidAlphabet, eC_InvalidAlphabet, hC_InvalidAlphabet⟩, e_InvalidAlphabet := exm3 bx_AheadError is_AheadError ty_AheadError s_InvalidAlphabet_AheadError bx_Missing is_Missing ty_Missing s_InvalidAlphabet_Missing bx_NothingLeft is_NothingLeft ty_NothingLeft s_InvalidAlphabet_NothingLeft,
    C_InvalidLine := _, gC_InvalidLine := PySem.W.mg_of X G aC_InvalidLine, n_InvalidLine_at := n_InvalidLine_at, n_InvalidLine_code := n_InvalidLine_code, x_InvalidLine := ⟨⟨_, _, _, _, _, _, _, _, _, _, _, _, _, _, _, xL_InvalidLine, (show refsVE [.type "ValueError", .type "Exception", .type "BaseException", .type "object"] = true by decide +kernel)⟩, sa_InvalidLine, eC_InvalidLine, tC_InvalidLine, kC_InvalidLine⟩, y_InvalidLine := ⟨ga_InvalidLine, gg_InvalidLine, eC_InvalidLine, hC_InvalidLine⟩, e_InvalidLine := exm3 bx_AheadError is_AheadError ty_AheadError s_InvalidLine_AheadError bx_Missing is_Missing ty_Missing s_InvalidLine_Missing bx_NothingLeft is_NothingLeft ty_NothingLeft s_InvalidLine_NothingLeft,
    C_TooMany := _, gC_TooMany := PySem.W.mg_of X G aC_TooMany, n_TooMany_subject := n_TooMany_subject, n_TooMany_most := n_TooMany_most, n_TooMany_code := n_TooMany_code, x_TooMany := ⟨⟨_, _, _, _, _, _, _, _, _, _, _, _, _, _, _, xL_TooMany, (show refsVE [.type "ValueError", .type "Exception", .type "BaseException", .type "object"] = true by decide +kernel)⟩, sa_TooMany, eC_TooMany, tC_TooMany, kC_TooMany⟩, y_TooMany := ⟨ga_TooMany, gg_TooMany, eC_TooMany, hC_TooMany⟩, e_TooMany := exm3 bx_AheadError is_AheadError ty_AheadError s_TooMany_AheadError bx_Missing is_Missing ty_Missing s_TooMany_Missing bx_NothingLeft is_NothingLeft ty_NothingLeft s_TooMany_NothingLeft,
    isc_Formula := ⟨⟨pg_Formula, hd_Formula, po_Formula, sa_Formula⟩, ia_Formula, ib_Formula, ic_Formula, id_Formula, kit_self⟩, kl_Formula := kit_no ie_Formula if_Formula il_Formula,
    mc_Formula := .type "type", cr_Formula := ⟨ra_Formula, rb_Formula⟩,
    cu_Formula_MOST := _, cv_Formula_MOST := ⟨rv_Formula_MOST, ⟨_, rfl⟩⟩,
    f_Formula___eq := _, fd_Formula___eq := _, F_Formula___eq := fun_mk (st := s_Formula___eq) l_Formula___eq c_Formula___eq k_Formula___eq, b_Formula___eq := ((fun_mk (st := s_Formula___eq) l_Formula___eq c_Formula___eq k_Formula___eq).binds (ps := ["self", "other"]) (fun _ _ _ _ _ _ us hl => match us, hl with | [_, _], _ => rfl)), m_Formula___eq := ⟨a_Formula___eq, i_Formula___eq, k_Formula___eq⟩,
    f_Formula___init := _, fd_Formula___init := _, F_Formula___init := fun_mk (st := s_Formula___init) l_Formula___init c_Formula___init k_Formula___init, b_Formula___init := kb_of (ps := ["self", "alphabet", "lines", "first"]) (n := 3) (ks := ["first"]) (fun_mk (st := s_Formula___init) l_Formula___init c_Formula___init k_Formula___init) (fun _ _ _ _ _ _ us ws h1 h2 => match us, ws, h1, h2 with | [_, _, _], [_], _, _ => rfl), k_Formula___init := ⟨mk_Formula, a_Formula___init, i_Formula___init, kc_Formula⟩, kx_Formula___init := kx_Formula___init, kb_Formula___init := kb_Formula___init,
    f_Formula___len := _, fd_Formula___len := _, F_Formula___len := fun_mk (st := s_Formula___len) l_Formula___len c_Formula___len k_Formula___len, b_Formula___len := ((fun_mk (st := s_Formula___len) l_Formula___len c_Formula___len k_Formula___len).binds (ps := ["self"]) (fun _ _ _ _ _ _ us hl => match us, hl with | [_], _ => rfl)), m_Formula___len := ⟨a_Formula___len, i_Formula___len, k_Formula___len⟩,
    f_Formula___repr := _, fd_Formula___repr := _, F_Formula___repr := fun_mk (st := s_Formula___repr) l_Formula___repr c_Formula___repr k_Formula___repr, b_Formula___repr := ((fun_mk (st := s_Formula___repr) l_Formula___repr c_Formula___repr k_Formula___repr).binds (ps := ["self"]) (fun _ _ _ _ _ _ us hl => match us, hl with | [_], _ => rfl)), m_Formula___repr := ⟨a_Formula___repr, i_Formula___repr, k_Formula___repr⟩,
    f_Formula_alphabet := _, fd_Formula_alphabet := _, F_Formula_alphabet := fun_mk (st := s_Formula_alphabet) l_Formula_alphabet c_Formula_alphabet k_Formula_alphabet, b_Formula_alphabet := ((fun_mk (st := s_Formula_alphabet) l_Formula_alphabet c_Formula_alphabet k_Formula_alphabet).binds (ps := ["self"]) (fun _ _ _ _ _ _ us hl => match us, hl with | [_], _ => rfl)), pa_Formula_alphabet := _, p_Formula_alphabet := ⟨a_Formula_alphabet, qg_Formula_alphabet, qt_Formula_alphabet, ⟨_, qr_Formula_alphabet⟩⟩,
    f_Formula_first := _, fd_Formula_first := _, F_Formula_first := fun_mk (st := s_Formula_first) l_Formula_first c_Formula_first k_Formula_first, b_Formula_first := ((fun_mk (st := s_Formula_first) l_Formula_first c_Formula_first k_Formula_first).binds (ps := ["self"]) (fun _ _ _ _ _ _ us hl => match us, hl with | [_], _ => rfl)), pa_Formula_first := _, p_Formula_first := ⟨a_Formula_first, qg_Formula_first, qt_Formula_first, ⟨_, qr_Formula_first⟩⟩,
    f_Formula_lines := _, fd_Formula_lines := _, F_Formula_lines := fun_mk (st := s_Formula_lines) l_Formula_lines c_Formula_lines k_Formula_lines, b_Formula_lines := ((fun_mk (st := s_Formula_lines) l_Formula_lines c_Formula_lines k_Formula_lines).binds (ps := ["self"]) (fun _ _ _ _ _ _ us hl => match us, hl with | [_], _ => rfl)), m_Formula_lines := ⟨a_Formula_lines, i_Formula_lines, k_Formula_lines⟩,
    f_InvalidAlphabet___init := _, fd_InvalidAlphabet___init := _, F_InvalidAlphabet___init := fun_mk (st := s_InvalidAlphabet___init) l_InvalidAlphabet___init c_InvalidAlphabet___init k_InvalidAlphabet___init, b_InvalidAlphabet___init := ((fun_mk (st := s_InvalidAlphabet___init) l_InvalidAlphabet___init c_InvalidAlphabet___init k_InvalidAlphabet___init).binds (ps := ["self", "given"]) (fun _ _ _ _ _ _ us hl => match us, hl with | [_, _], _ => rfl)), i_InvalidAlphabet___init := a_InvalidAlphabet___init, t_InvalidAlphabet___init := t_InvalidAlphabet___init,
    f_InvalidLine___init := _, fd_InvalidLine___init := _, F_InvalidLine___init := fun_mk (st := s_InvalidLine___init) l_InvalidLine___init c_InvalidLine___init k_InvalidLine___init, b_InvalidLine___init := ((fun_mk (st := s_InvalidLine___init) l_InvalidLine___init c_InvalidLine___init k_InvalidLine___init).binds (ps := ["self", "at"]) (fun _ _ _ _ _ _ us hl => match us, hl with | [_, _], _ => rfl)), i_InvalidLine___init := a_InvalidLine___init, t_InvalidLine___init := t_InvalidLine___init,
    f_TooMany___init := _, fd_TooMany___init := _, F_TooMany___init := fun_mk (st := s_TooMany___init) l_TooMany___init c_TooMany___init k_TooMany___init, b_TooMany___init := ((fun_mk (st := s_TooMany___init) l_TooMany___init c_TooMany___init k_TooMany___init).binds (ps := ["self", "subject", "most"]) (fun _ _ _ _ _ _ us hl => match us, hl with | [_, _, _], _ => rfl)), i_TooMany___init := a_TooMany___init, t_TooMany___init := t_TooMany___init,
    f_all_got := _, fd_all_got := _, F_all_got := fun_mk (st := s_all_got) l_all_got c_all_got k_all_got, b_all_got := ((fun_mk (st := s_all_got) l_all_got c_all_got k_all_got).binds (ps := ["_law_asks"]) (fun _ _ _ _ _ _ us hl => match us, hl with | [_], _ => rfl)), g_all_got := PySem.W.mg_of X G a_all_got,
    f_bag := _, fd_bag := _, F_bag := fun_mk (st := s_bag) l_bag c_bag k_bag, b_bag := ((fun_mk (st := s_bag) l_bag c_bag k_bag).binds (ps := ["_law_script"]) (fun _ _ _ _ _ _ us hl => match us, hl with | [_], _ => rfl)), g_bag := PySem.W.mg_of X G a_bag,
    f_field := _, fd_field := _, F_field := fun_mk (st := s_field) l_field c_field k_field, b_field := ((fun_mk (st := s_field) l_field c_field k_field).binds (ps := ["_law_e"]) (fun _ _ _ _ _ _ us hl => match us, hl with | [_], _ => rfl)), g_field := PySem.W.mg_of X G a_field,
    f_got := _, fd_got := _, F_got := fun_mk (st := s_got) l_got c_got k_got, b_got := ((fun_mk (st := s_got) l_got c_got k_got).binds (ps := ["_law_ask"]) (fun _ _ _ _ _ _ us hl => match us, hl with | [_], _ => rfl)), g_got := PySem.W.mg_of X G a_got,
    f_of := _, fd_of := _, F_of := fun_mk (st := s_of) l_of c_of k_of, b_of := ((fun_mk (st := s_of) l_of c_of k_of).binds (ps := ["_law_bag_here", "_law_some"]) (fun _ _ _ _ _ _ us hl => match us, hl with | [_, _], _ => rfl)), g_of := PySem.W.mg_of X G a_of,
    f_pull := _, fd_pull := _, F_pull := fun_mk (st := s_pull) l_pull c_pull k_pull, b_pull := ((fun_mk (st := s_pull) l_pull c_pull k_pull).binds (ps := ["_law_bag_here", "_law_sides"]) (fun _ _ _ _ _ _ us hl => match us, hl with | [_, _], _ => rfl)), g_pull := PySem.W.mg_of X G a_pull,
    f_same := _, fd_same := _, F_same := fun_mk (st := s_same) l_same c_same k_same, b_same := ((fun_mk (st := s_same) l_same c_same k_same).binds (ps := ["_law_found", "_law_due"]) (fun _ _ _ _ _ _ us hl => match us, hl with | [_, _], _ => rfl)), g_same := PySem.W.mg_of X G a_same,
    f_saying := _, fd_saying := _, F_saying := fun_mk (st := s_saying) l_saying c_saying k_saying, b_saying := ((fun_mk (st := s_saying) l_saying c_saying k_saying).binds (ps := ["_law_bag_here", "_law_signs_here", "_law_many", "_law_kinds"]) (fun _ _ _ _ _ _ us hl => match us, hl with | [_, _, _, _], _ => rfl)), g_saying := PySem.W.mg_of X G a_saying,
    f_signs := _, fd_signs := _, F_signs := fun_mk (st := s_signs) l_signs c_signs k_signs, b_signs := ((fun_mk (st := s_signs) l_signs c_signs k_signs).binds (ps := ["_law_bag_here"]) (fun _ _ _ _ _ _ us hl => match us, hl with | [_], _ => rfl)), g_signs := PySem.W.mg_of X G a_signs,
    f_some_signs := _, fd_some_signs := _, F_some_signs := fun_mk (st := s_some_signs) l_some_signs c_some_signs k_some_signs, b_some_signs := ((fun_mk (st := s_some_signs) l_some_signs c_some_signs k_some_signs).binds (ps := ["_law_bag_here", "_law_signs_here"]) (fun _ _ _ _ _ _ us hl => match us, hl with | [_, _], _ => rfl)), g_some_signs := PySem.W.mg_of X G a_some_signs,
    f_wrong_saying := _, fd_wrong_saying := _, F_wrong_saying := fun_mk (st := s_wrong_saying) l_wrong_saying c_wrong_saying k_wrong_saying, b_wrong_saying := ((fun_mk (st := s_wrong_saying) l_wrong_saying c_wrong_saying k_wrong_saying).binds (ps := ["_law_bag_here", "_law_signs_here", "_law_at"]) (fun _ _ _ _ _ _ us hl => match us, hl with | [_, _, _], _ => rfl)), g_wrong_saying := PySem.W.mg_of X G a_wrong_saying,
    f_are_letters := _, fd_are_letters := _, F_are_letters := fun_mk (st := s_are_letters) l_are_letters c_are_letters k_are_letters, b_are_letters := ((fun_mk (st := s_are_letters) l_are_letters c_are_letters k_are_letters).binds (ps := ["alphabet", "value"]) (fun _ _ _ _ _ _ us hl => match us, hl with | [_, _], _ => rfl)), g_are_letters := PySem.W.mg_of X G a_are_letters,
    f_are_refs := _, fd_are_refs := _, F_are_refs := fun_mk (st := s_are_refs) l_are_refs c_are_refs k_are_refs, b_are_refs := ((fun_mk (st := s_are_refs) l_are_refs c_are_refs k_are_refs).binds (ps := ["value", "place"]) (fun _ _ _ _ _ _ us hl => match us, hl with | [_, _], _ => rfl)), g_are_refs := PySem.W.mg_of X G a_are_refs,
    f_can_stand := _, fd_can_stand := _, F_can_stand := fun_mk (st := s_can_stand) l_can_stand c_can_stand k_can_stand, b_can_stand := ((fun_mk (st := s_can_stand) l_can_stand c_can_stand k_can_stand).binds (ps := ["alphabet", "value", "place"]) (fun _ _ _ _ _ _ us hl => match us, hl with | [_, _, _], _ => rfl)), g_can_stand := PySem.W.mg_of X G a_can_stand,
    f_check_lines := _, fd_check_lines := _, F_check_lines := fun_mk (st := s_check_lines) l_check_lines c_check_lines k_check_lines, b_check_lines := ((fun_mk (st := s_check_lines) l_check_lines c_check_lines k_check_lines).binds (ps := ["alphabet", "lines"]) (fun _ _ _ _ _ _ us hl => match us, hl with | [_, _], _ => rfl)), g_check_lines := PySem.W.mg_of X G a_check_lines,
    f_is_alphabet := _, fd_is_alphabet := _, F_is_alphabet := fun_mk (st := s_is_alphabet) l_is_alphabet c_is_alphabet k_is_alphabet, b_is_alphabet := ((fun_mk (st := s_is_alphabet) l_is_alphabet c_is_alphabet k_is_alphabet).binds (ps := ["value"]) (fun _ _ _ _ _ _ us hl => match us, hl with | [_], _ => rfl)), g_is_alphabet := PySem.W.mg_of X G a_is_alphabet,
    f_is_below := _, fd_is_below := _, F_is_below := fun_mk (st := s_is_below) l_is_below c_is_below k_is_below, b_is_below := ((fun_mk (st := s_is_below) l_is_below c_is_below k_is_below).binds (ps := ["value", "bound"]) (fun _ _ _ _ _ _ us hl => match us, hl with | [_, _], _ => rfl)), g_is_below := PySem.W.mg_of X G a_is_below,
    f_is_listed := _, fd_is_listed := _, F_is_listed := fun_mk (st := s_is_listed) l_is_listed c_is_listed k_is_listed, b_is_listed := ((fun_mk (st := s_is_listed) l_is_listed c_is_listed k_is_listed).binds (ps := ["value"]) (fun _ _ _ _ _ _ us hl => match us, hl with | [_], _ => rfl)), g_is_listed := PySem.W.mg_of X G a_is_listed,
    f_is_number := _, fd_is_number := _, F_is_number := fun_mk (st := s_is_number) l_is_number c_is_number k_is_number, b_is_number := ((fun_mk (st := s_is_number) l_is_number c_is_number k_is_number).binds (ps := ["value"]) (fun _ _ _ _ _ _ us hl => match us, hl with | [_], _ => rfl)), g_is_number := PySem.W.mg_of X G a_is_number,
    f_is_prime := _, fd_is_prime := _, F_is_prime := fun_mk (st := s_is_prime) l_is_prime c_is_prime k_is_prime, b_is_prime := ((fun_mk (st := s_is_prime) l_is_prime c_is_prime k_is_prime).binds (ps := ["value"]) (fun _ _ _ _ _ _ us hl => match us, hl with | [_], _ => rfl)), g_is_prime := PySem.W.mg_of X G a_is_prime,
    f_is_word := _, fd_is_word := _, F_is_word := fun_mk (st := s_is_word) l_is_word c_is_word k_is_word, b_is_word := ((fun_mk (st := s_is_word) l_is_word c_is_word k_is_word).binds (ps := ["alphabet", "value"]) (fun _ _ _ _ _ _ us hl => match us, hl with | [_, _], _ => rfl)), g_is_word := PySem.W.mg_of X G a_is_word,
    f_law := _, fd_law := _, F_law := fun_mk (st := s_law) l_law c_law k_law, b_law := ((fun_mk (st := s_law) l_law c_law k_law).binds (ps := ["_law_script"]) (fun _ _ _ _ _ _ us hl => match us, hl with | [_], _ => rfl)), g_law := PySem.W.mg_of X G a_law,
    z_abs := PySem.W.mg_none_of X G z_abs,
    z_all := PySem.W.mg_none_of X G z_all,
    z_any := PySem.W.mg_none_of X G z_any,
    z_bool := PySem.W.mg_none_of X G z_bool,
    z_dict := PySem.W.mg_none_of X G z_dict,
    z_enumerate := PySem.W.mg_none_of X G z_enumerate,
    z_int := PySem.W.mg_none_of X G z_int,
    z_isinstance := PySem.W.mg_none_of X G z_isinstance,
    z_len := PySem.W.mg_none_of X G z_len,
    z_list := PySem.W.mg_none_of X G z_list,
    z_max := PySem.W.mg_none_of X G z_max,
    z_min := PySem.W.mg_none_of X G z_min,
    z_range := PySem.W.mg_none_of X G z_range,
    z_repr := PySem.W.mg_none_of X G z_repr,
    z_sorted := PySem.W.mg_none_of X G z_sorted,
    z_str := PySem.W.mg_none_of X G z_str,
    z_tuple := PySem.W.mg_none_of X G z_tuple,
    z_zip := PySem.W.mg_none_of X G z_zip,
    t_MOST_LETTERS := t_MOST_LETTERS, c_MOST_LETTERS := PySem.W.mg_of X G c_MOST_LETTERS,
    r_PRIMES := _, gt_PRIMES := PySem.W.mg_of X G a_PRIMES, st_PRIMES := fun _ => .inr ⟨_, _, _, l_PRIMES, rfl, rfl, (by show 25 ≤ sizeLine; decide), (.cons ⟨_, rfl⟩ (.cons ⟨_, rfl⟩ (.cons ⟨_, rfl⟩ (.cons ⟨_, rfl⟩ (.cons ⟨_, rfl⟩ (.cons ⟨_, rfl⟩ (.cons ⟨_, rfl⟩ (.cons ⟨_, rfl⟩ (.cons ⟨_, rfl⟩ (.cons ⟨_, rfl⟩ (.cons ⟨_, rfl⟩ (.cons ⟨_, rfl⟩ (.cons ⟨_, rfl⟩ (.cons ⟨_, rfl⟩ (.cons ⟨_, rfl⟩ (.cons ⟨_, rfl⟩ (.cons ⟨_, rfl⟩ (.cons ⟨_, rfl⟩ (.cons ⟨_, rfl⟩ (.cons ⟨_, rfl⟩ (.cons ⟨_, rfl⟩ (.cons ⟨_, rfl⟩ (.cons ⟨_, rfl⟩ (.cons ⟨_, rfl⟩ (.cons ⟨_, rfl⟩ .nil)))))))))))))))))))))))))⟩ }
  subst ecL
  exact ⟨_, [(cL, PL)], spLaw K PL, (fun p hp => by cases List.mem_singleton.mp hp; exact tbL), (fun p hp => by cases List.mem_singleton.mp hp; exact npL), (fun p hp => by cases List.mem_singleton.mp hp; exact PySem.W.codeHd_of_K X hcL), fun s v => .of_eq rfl,
    fun H a ns h1 _ h2 h3 => ⟨a, ns, rfl, h3, h1, h2 _ (List.mem_singleton.mpr rfl), fun _ => rfl⟩, fun base _ _ TB => ok_law T rfl (TB _ (List.mem_singleton.mpr rfl))⟩
end MyP
open PySem PySem.W PyProof.Rows
set_option maxHeartbeats 0 in
theorem PySem.Challenge.cw_onlyahead_k25_formulas_made_and_refused_holds : PySem.Challenge.rw_onlyahead_k25_formulas_made_and_refused.Holds := by
  w_on; o_law; k_head; (case hw => w_witness2)
  k_fill
  refine LamX.walk_ofTs (l := PySem.Challenge.rw_onlyahead_k25_formulas_made_and_refused) (n := 63) (k := 16) (x := "_law_script") (CX := fun _ => L2.CX0) rfl (by decide) rfl ⟨rfl, by decide, by decide⟩ (fun w h Y => PySem.W.km_in_of Y) ?F (fun _ _ _ _ _ h => h)
  case F =>
    intro w mg fa h Y KX G hmg
    refine' MyP.all_mk KX G hmg ?aC_AheadError ?bx_AheadError ?is_AheadError ?ty_AheadError ?aC_Missing ?bx_Missing ?is_Missing ?ty_Missing ?aC_NothingLeft ?bx_NothingLeft ?is_NothingLeft ?ty_NothingLeft ?aC_Formula ?pg_Formula ?hd_Formula ?po_Formula ?sa_Formula ?mk_Formula ?kc_Formula ?n_Formula__alphabet ?n_Formula__lines ?n_Formula__first ?o_Formula_MOST ?og_Formula_MOST ?aC_InvalidAlphabet ?xL_InvalidAlphabet ?sa_InvalidAlphabet ?ga_InvalidAlphabet ?gg_InvalidAlphabet ?kC_InvalidAlphabet ?eC_InvalidAlphabet ?tC_InvalidAlphabet ?hC_InvalidAlphabet ?n_InvalidAlphabet_given ?n_InvalidAlphabet_code ?s_InvalidAlphabet_AheadError ?s_InvalidAlphabet_Missing ?s_InvalidAlphabet_NothingLeft ?aC_InvalidLine ?xL_InvalidLine ?sa_InvalidLine ?ga_InvalidLine ?gg_InvalidLine ?kC_InvalidLine ?eC_InvalidLine ?tC_InvalidLine ?hC_InvalidLine ?n_InvalidLine_at ?n_InvalidLine_code ?s_InvalidLine_AheadError ?s_InvalidLine_Missing ?s_InvalidLine_NothingLeft ?aC_TooMany ?xL_TooMany ?sa_TooMany ?ga_TooMany ?gg_TooMany ?kC_TooMany ?eC_TooMany ?tC_TooMany ?hC_TooMany ?n_TooMany_subject ?n_TooMany_most ?n_TooMany_code ?s_TooMany_AheadError ?s_TooMany_Missing ?s_TooMany_NothingLeft ?ia_Formula ?ib_Formula ?ic_Formula ?id_Formula ?ie_Formula ?if_Formula ?il_Formula ?ra_Formula ?rb_Formula ?rv_Formula_MOST ?a_Formula___eq ?i_Formula___eq ?l_Formula___eq ?c_Formula___eq ?k_Formula___eq ?a_Formula___init ?i_Formula___init ?l_Formula___init ?c_Formula___init ?k_Formula___init ?kd_Formula___init ?kn_Formula___init_first ?a_Formula___len ?i_Formula___len ?l_Formula___len ?c_Formula___len ?k_Formula___len ?a_Formula___repr ?i_Formula___repr ?l_Formula___repr ?c_Formula___repr ?k_Formula___repr ?a_Formula_alphabet ?qg_Formula_alphabet ?qt_Formula_alphabet ?qr_Formula_alphabet ?l_Formula_alphabet ?c_Formula_alphabet ?k_Formula_alphabet ?a_Formula_first ?qg_Formula_first ?qt_Formula_first ?qr_Formula_first ?l_Formula_first ?c_Formula_first ?k_Formula_first ?a_Formula_lines ?i_Formula_lines ?l_Formula_lines ?c_Formula_lines ?k_Formula_lines ?a_InvalidAlphabet___init ?t_InvalidAlphabet___init ?l_InvalidAlphabet___init ?c_InvalidAlphabet___init ?k_InvalidAlphabet___init ?a_InvalidLine___init ?t_InvalidLine___init ?l_InvalidLine___init ?c_InvalidLine___init ?k_InvalidLine___init ?a_TooMany___init ?t_TooMany___init ?l_TooMany___init ?c_TooMany___init ?k_TooMany___init ?a_all_got ?l_all_got ?c_all_got ?k_all_got ?a_bag ?l_bag ?c_bag ?k_bag ?a_field ?l_field ?c_field ?k_field ?a_got ?l_got ?c_got ?k_got ?a_of ?l_of ?c_of ?k_of ?a_pull ?l_pull ?c_pull ?k_pull ?a_same ?l_same ?c_same ?k_same ?a_saying ?l_saying ?c_saying ?k_saying ?a_signs ?l_signs ?c_signs ?k_signs ?a_some_signs ?l_some_signs ?c_some_signs ?k_some_signs ?a_wrong_saying ?l_wrong_saying ?c_wrong_saying ?k_wrong_saying ?a_are_letters ?l_are_letters ?c_are_letters ?k_are_letters ?a_are_refs ?l_are_refs ?c_are_refs ?k_are_refs ?a_can_stand ?l_can_stand ?c_can_stand ?k_can_stand ?a_check_lines ?l_check_lines ?c_check_lines ?k_check_lines ?a_is_alphabet ?l_is_alphabet ?c_is_alphabet ?k_is_alphabet ?a_is_below ?l_is_below ?c_is_below ?k_is_below ?a_is_listed ?l_is_listed ?c_is_listed ?k_is_listed ?a_is_number ?l_is_number ?c_is_number ?k_is_number ?a_is_prime ?l_is_prime ?c_is_prime ?k_is_prime ?a_is_word ?l_is_word ?c_is_word ?k_is_word ?a_law ?l_law ?c_law ?k_law ?z_abs ?z_all ?z_any ?z_bool ?z_dict ?z_enumerate ?z_int ?z_isinstance ?z_len ?z_list ?z_max ?z_min ?z_range ?z_repr ?z_sorted ?z_str ?z_tuple ?z_zip ?c_MOST_LETTERS ?a_PRIMES ?l_PRIMES ?ecL ?lcL ?epL ?hcL ?npL ?tbL
    (case aC_AheadError => k_is)
    (case bx_AheadError => k_is)
    (case is_AheadError => k_is)
    (case ty_AheadError => k_is)
    (case aC_Missing => k_is)
    (case bx_Missing => k_is)
    (case is_Missing => k_is)
    (case ty_Missing => k_is)
    (case aC_NothingLeft => k_is)
    (case bx_NothingLeft => k_is)
    (case is_NothingLeft => k_is)
    (case ty_NothingLeft => k_is)
    (case aC_Formula => k_is)
    (case pg_Formula => k_is)
    (case hd_Formula => k_is)
    (case po_Formula => k_is)
    (case sa_Formula => k_is)
    (case mk_Formula => k_is)
    (case kc_Formula => k_is)
    (case n_Formula__alphabet => k_is)
    (case n_Formula__lines => k_is)
    (case n_Formula__first => k_is)
    (case o_Formula_MOST => k_is)
    (case og_Formula_MOST => k_is)
    (case aC_InvalidAlphabet => k_is)
    (case xL_InvalidAlphabet => k_is)
    (case sa_InvalidAlphabet => k_is)
    (case ga_InvalidAlphabet => k_is)
    (case gg_InvalidAlphabet => k_is)
    (case kC_InvalidAlphabet => k_is)
    (case eC_InvalidAlphabet => k_is)
    (case tC_InvalidAlphabet => k_is)
    (case hC_InvalidAlphabet => k_is)
    (case n_InvalidAlphabet_given => k_is)
    (case n_InvalidAlphabet_code => k_is)
    (case s_InvalidAlphabet_AheadError => k_is)
    (case s_InvalidAlphabet_Missing => k_is)
    (case s_InvalidAlphabet_NothingLeft => k_is)
    (case aC_InvalidLine => k_is)
    (case xL_InvalidLine => k_is)
    (case sa_InvalidLine => k_is)
    (case ga_InvalidLine => k_is)
    (case gg_InvalidLine => k_is)
    (case kC_InvalidLine => k_is)
    (case eC_InvalidLine => k_is)
    (case tC_InvalidLine => k_is)
    (case hC_InvalidLine => k_is)
    (case n_InvalidLine_at => k_is)
    (case n_InvalidLine_code => k_is)
    (case s_InvalidLine_AheadError => k_is)
    (case s_InvalidLine_Missing => k_is)
    (case s_InvalidLine_NothingLeft => k_is)
    (case aC_TooMany => k_is)
    (case xL_TooMany => k_is)
    (case sa_TooMany => k_is)
    (case ga_TooMany => k_is)
    (case gg_TooMany => k_is)
    (case kC_TooMany => k_is)
    (case eC_TooMany => k_is)
    (case tC_TooMany => k_is)
    (case hC_TooMany => k_is)
    (case n_TooMany_subject => k_is)
    (case n_TooMany_most => k_is)
    (case n_TooMany_code => k_is)
    (case s_TooMany_AheadError => k_is)
    (case s_TooMany_Missing => k_is)
    (case s_TooMany_NothingLeft => k_is)
    (case ia_Formula => k_is)
    (case ib_Formula => k_is)
    (case ic_Formula => k_is)
    (case id_Formula => k_is)
    (case ie_Formula => k_is)
    (case if_Formula => k_is)
    (case il_Formula => k_is)
    (case ra_Formula => k_is)
    (case rb_Formula => k_is)
    (case rv_Formula_MOST => k_is)
    (case a_Formula___eq => k_is)
    (case i_Formula___eq => k_is)
    (case l_Formula___eq => k_is)
    (case c_Formula___eq => k_is)
    (case k_Formula___eq => k_is)
    (case a_Formula___init => k_is)
    (case i_Formula___init => k_is)
    (case l_Formula___init => k_is)
    (case c_Formula___init => k_is)
    (case k_Formula___init => k_is)
    (case kd_Formula___init => rfl)
    (case kn_Formula___init_first => k_is)
    (case a_Formula___len => k_is)
    (case i_Formula___len => k_is)
    (case l_Formula___len => k_is)
    (case c_Formula___len => k_is)
    (case k_Formula___len => k_is)
    (case a_Formula___repr => k_is)
    (case i_Formula___repr => k_is)
    (case l_Formula___repr => k_is)
    (case c_Formula___repr => k_is)
    (case k_Formula___repr => k_is)
    (case a_Formula_alphabet => k_is)
    (case qg_Formula_alphabet => k_is)
    (case qt_Formula_alphabet => k_is)
    (case qr_Formula_alphabet => k_is)
    (case l_Formula_alphabet => k_is)
    (case c_Formula_alphabet => k_is)
    (case k_Formula_alphabet => k_is)
    (case a_Formula_first => k_is)
    (case qg_Formula_first => k_is)
    (case qt_Formula_first => k_is)
    (case qr_Formula_first => k_is)
    (case l_Formula_first => k_is)
    (case c_Formula_first => k_is)
    (case k_Formula_first => k_is)
    (case a_Formula_lines => k_is)
    (case i_Formula_lines => k_is)
    (case l_Formula_lines => k_is)
    (case c_Formula_lines => k_is)
    (case k_Formula_lines => k_is)
    (case a_InvalidAlphabet___init => k_is)
    (case t_InvalidAlphabet___init => k_is)
    (case l_InvalidAlphabet___init => k_is)
    (case c_InvalidAlphabet___init => k_is)
    (case k_InvalidAlphabet___init => k_is)
    (case a_InvalidLine___init => k_is)
    (case t_InvalidLine___init => k_is)
    (case l_InvalidLine___init => k_is)
    (case c_InvalidLine___init => k_is)
    (case k_InvalidLine___init => k_is)
    (case a_TooMany___init => k_is)
    (case t_TooMany___init => k_is)
    (case l_TooMany___init => k_is)
    (case c_TooMany___init => k_is)
    (case k_TooMany___init => k_is)
    (case a_all_got => k_is)
    (case l_all_got => k_is)
    (case c_all_got => k_is)
    (case k_all_got => k_is)
    (case a_bag => k_is)
    (case l_bag => k_is)
    (case c_bag => k_is)
    (case k_bag => k_is)
    (case a_field => k_is)
    (case l_field => k_is)
    (case c_field => k_is)
    (case k_field => k_is)
    (case a_got => k_is)
    (case l_got => k_is)
    (case c_got => k_is)
    (case k_got => k_is)
    (case a_of => k_is)
    (case l_of => k_is)
    (case c_of => k_is)
    (case k_of => k_is)
    (case a_pull => k_is)
    (case l_pull => k_is)
    (case c_pull => k_is)
    (case k_pull => k_is)
    (case a_same => k_is)
    (case l_same => k_is)
    (case c_same => k_is)
    (case k_same => k_is)
    (case a_saying => k_is)
    (case l_saying => k_is)
    (case c_saying => k_is)
    (case k_saying => k_is)
    (case a_signs => k_is)
    (case l_signs => k_is)
    (case c_signs => k_is)
    (case k_signs => k_is)
    (case a_some_signs => k_is)
    (case l_some_signs => k_is)
    (case c_some_signs => k_is)
    (case k_some_signs => k_is)
    (case a_wrong_saying => k_is)
    (case l_wrong_saying => k_is)
    (case c_wrong_saying => k_is)
    (case k_wrong_saying => k_is)
    (case a_are_letters => k_is)
    (case l_are_letters => k_is)
    (case c_are_letters => k_is)
    (case k_are_letters => k_is)
    (case a_are_refs => k_is)
    (case l_are_refs => k_is)
    (case c_are_refs => k_is)
    (case k_are_refs => k_is)
    (case a_can_stand => k_is)
    (case l_can_stand => k_is)
    (case c_can_stand => k_is)
    (case k_can_stand => k_is)
    (case a_check_lines => k_is)
    (case l_check_lines => k_is)
    (case c_check_lines => k_is)
    (case k_check_lines => k_is)
    (case a_is_alphabet => k_is)
    (case l_is_alphabet => k_is)
    (case c_is_alphabet => k_is)
    (case k_is_alphabet => k_is)
    (case a_is_below => k_is)
    (case l_is_below => k_is)
    (case c_is_below => k_is)
    (case k_is_below => k_is)
    (case a_is_listed => k_is)
    (case l_is_listed => k_is)
    (case c_is_listed => k_is)
    (case k_is_listed => k_is)
    (case a_is_number => k_is)
    (case l_is_number => k_is)
    (case c_is_number => k_is)
    (case k_is_number => k_is)
    (case a_is_prime => k_is)
    (case l_is_prime => k_is)
    (case c_is_prime => k_is)
    (case k_is_prime => k_is)
    (case a_is_word => k_is)
    (case l_is_word => k_is)
    (case c_is_word => k_is)
    (case k_is_word => k_is)
    (case a_law => k_is)
    (case l_law => k_is)
    (case c_law => k_is)
    (case k_law => k_is)
    (case z_abs => k_is)
    (case z_all => k_is)
    (case z_any => k_is)
    (case z_bool => k_is)
    (case z_dict => k_is)
    (case z_enumerate => k_is)
    (case z_int => k_is)
    (case z_isinstance => k_is)
    (case z_len => k_is)
    (case z_list => k_is)
    (case z_max => k_is)
    (case z_min => k_is)
    (case z_range => k_is)
    (case z_repr => k_is)
    (case z_sorted => k_is)
    (case z_str => k_is)
    (case z_tuple => k_is)
    (case z_zip => k_is)
    (case c_MOST_LETTERS => k_is)
    (case a_PRIMES => k_is)
    (case l_PRIMES => k_is)
    (case ecL => rfl)
    (case lcL => k_is)
    (case epL => rfl)
    (case hcL => kernel_rfl)
    (case npL => kernel_rfl)
    (case tbL => exact PySem.W.km_tabs_of Y _ (by k_mem))

