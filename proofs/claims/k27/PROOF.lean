import PyProof.Rows.All
import Wide.All
import OpenK.AllK
import Wide.FinOn
import HandS.ForMost
import HandS.IsInst
import HandS.Flow
import HandS.Zip
import HandS.Walk
import HandS.StrMore
import HandS.Codes
import HandS.Nested
import HandS.Lambda
import HandS.ExcInit
import HandS.ExcField
import HandS.WordsExc
import HandS.HotCalls
import HandS.MakeKwOnly
import HandS.Replace
import HandS.EndTab
import HandS.OwnEq
import HandS.Property
import HandS.NamedTupGet
import HandS.TupAny
import HandS.CallRecv
import HandS.Conv
import HandS.Star
import HandS.MethStar
import HandS.More
import HandS.SortInts
import HandS.ClsMeth
import HandS.FStr
import HandS.RaiseMore
import HandS.Small
import KE.KOpsOwn
import PySem.Challenge.RW_onlyahead_k27_formulas_joined
set_option Elab.async false
set_option linter.all false
set_option maxRecDepth 100000
set_option maxHeartbeats 4000000
namespace MyP
open PySem PySem.Spec PyProof.Rows L2
/-! ### heaps, the bag -/
/-- all that was tracked stays as it was, but for b -/
def Kp (b : Addr) (H H' : Hp) : Prop := ∀ c o, H c = some o → c ≠ b → H' c = some o
theorem Kp.refl (b : Addr) (H : Hp) : Kp b H H := fun _ _ h _ => h
theorem Kp.trans {b : Addr} {H H1 H2 : Hp} (x : Kp b H H1) (y : Kp b H1 H2) : Kp b H H2 := fun c o h n => y c o (x c o h n) n
theorem Kp.same {b : Addr} {H H1 : Hp} (x : Same H H1) : Kp b H H1 := fun c o h _ => x c o h
theorem Kp.seq {K : PySem.W.Frag} {b a : Addr} {H H' : Hp} {xs : List V} (e : Kp b H H') (n : a ≠ b) (h : SqL K H a xs) : SqL K H' a xs := by
  rcases h with (h | ⟨o, h⟩) | h
  · exact .inl (.inl (e _ _ h n))
  · exact .inl (.inr ⟨o, e _ _ h n⟩)
  · exact .inr h
theorem Kp.tup {K : PySem.W.Frag} {b a : Addr} {H H' : Hp} {xs : List V} (e : Kp b H H') (n : a ≠ b) (h : SqT K H a xs) : SqT K H' a xs := by
  rcases h with (h | ⟨o, h⟩) | h
  · exact .inl (.inl (e _ _ h n))
  · exact .inl (.inr ⟨o, e _ _ h n⟩)
  · exact .inr h
theorem same_tup {K : PySem.W.Frag} {a : Addr} {H H' : Hp} {xs : List V} (e : Same H H') (h : SqT K H a xs) : SqT K H' a xs := by
  rcases h with (h | ⟨o, h⟩) | h
  · exact .inl (.inl (e _ _ h))
  · exact .inl (.inr ⟨o, e _ _ h⟩)
  · exact .inr h
theorem same_upd {H : Hp} {p : Addr} {o : HO} (h : H p = none) : Same H (upd H p o) := fun b x e => by
  rw [upd_ne (ne_of_none e h)]
  exact e
theorem Kp.put {b : Addr} {H H1 : Hp} {o : HO} (x : Kp b H H1) : Kp b H (upd H1 b o) := fun c u h n => by
  rw [upd_ne n]
  exact x c u h n
/-- an object that is new since H may change -/
theorem Kp.mut {b p : Addr} {H H1 : Hp} {o : HO} (x : Kp b H H1) (n : H p = none) : Kp b H (upd H1 p o) := fun c u h k => by
  rw [upd_ne (ne_of_none h n)]
  exact x c u h k
theorem same_mut {p : Addr} {H H1 : Hp} {o : HO} (x : Same H H1) (n : H p = none) : Same H (upd H1 p o) := fun c u h => by
  rw [upd_ne (ne_of_none h n)]
  exact x c u h
theorem ne_none {H : Hp} {a b : Addr} {o : HO} (h : H b = none) (h' : H a = some o) : b ≠ a := (ne_of_none h' h).symm
theorem sz {n : Nat} (h : n ≤ 100000) : n ≤ sizeLine := Nat.le_trans h (by decide)
theorem szl {n : Nat} (h : n < 100000) : n < sizeLine := Nat.lt_of_lt_of_le h (by decide)
structure BagAt (b l : Addr) (H : Hp) : Prop where
  at_ : ∃ (i r m c : Int) (ns : List Int), H b = some (.lst [.ref l, .int i, .int r, .int m, .int c]) ∧ H l = some (.lst (ns.map V.int)) ∧ ns.length ≤ 63 ∧ 0 ≤ i ∧ i ≤ ns.length ∧ 0 ≤ r ∧ 0 ≤ m ∧ m < 2147483629
  ne : l ≠ b
theorem BagAt.there {b l : Addr} {H : Hp} (x : BagAt b l H) : ∃ o, H b = some o := by
  obtain ⟨⟨i, r, m, c, ns, h, _⟩, _⟩ := x
  exact ⟨_, h⟩
/-- an object new in H is not the bag -/
theorem BagAt.nb {b l p : Addr} {H : Hp} (x : BagAt b l H) (h : H p = none) : p ≠ b := by
  obtain ⟨o, e⟩ := x.there
  exact ne_none h e
theorem BagAt.nl {b l p : Addr} {H : Hp} (x : BagAt b l H) (h : H p = none) : p ≠ l := by
  obtain ⟨⟨i, r, m, c, ns, _, e, _⟩, _⟩ := x
  exact ne_none h e
theorem BagAt.same {b l : Addr} {H H' : Hp} (x : BagAt b l H) (s : Same H H') : BagAt b l H' := by
  obtain ⟨⟨i, r, m, c, ns, h1, h2, h3⟩, n⟩ := x
  exact ⟨⟨i, r, m, c, ns, s _ _ h1, s _ _ h2, h3⟩, n⟩
/-- a store into another list keeps the bag -/
theorem BagAt.mut {b l p : Addr} {H : Hp} {o : HO} (x : BagAt b l H) (n1 : p ≠ b) (n2 : p ≠ l) : BagAt b l (upd H p o) := by
  obtain ⟨⟨i, r, m, c, ns, h1, h2, h3⟩, n⟩ := x
  exact ⟨⟨i, r, m, c, ns, by rw [upd_ne n1.symm]; exact h1, by rw [upd_ne n2.symm]; exact h2, h3⟩, n⟩
/-- what is new behind a draw was new ahead of it -/
theorem Kp.free {b l p : Addr} {H H1 : Hp} (k : Kp b H H1) (B : BagAt b l H1) (h : H1 p = none) : H p = none := by
  cases e : H p with
  | none => rfl
  | some o =>
    by_cases hb : p = b
    · obtain ⟨u, e2⟩ := B.there
      rw [hb, e2] at h
      cases h
    · rw [k _ _ e hb] at h
      cases h
/-! ### steps of a reading -/
/-- a word that the steps below do not open -/
def Stp (p : Prop) : Prop := True → p
theorem Stp.of {p : Prop} (h : Stp p) : p := h True.intro
theorem Stp.mk {p : Prop} (h : p) : Stp p := fun _ => h
/-! ### what follows a statement, by a letter -/
structure SeqN (N R : L2.St → Hp → Prop) : Prop where
  of : ∀ σ H, R σ H → N σ H
theorem SeqN.go {N R : L2.St → Hp → Prop} {σ : L2.St} {H : Hp} (h : SeqN N R) (r : R σ H) : N σ H := h.of σ H r
theorem gname_use {i : Nat} {x : V} {σ : L2.St} {H : Hp} {N : L2.St → Hp → Prop} (h : N (σ.set i (some x)) H) : gName i x σ H N := h
theorem next_use {n : L2.St → Hp → Prop} {r : VK} {b c : L2.St → Hp → Prop} {σ : L2.St} {H : Hp} (h : n σ H) : tNext ⟨n, r, b, c⟩ σ H := h
theorem seq_use {s rest : TS} {n : L2.St → Hp → Prop} {r : VK} {b c : L2.St → Hp → Prop} {σ : L2.St} {H : Hp} (h : ∀ N : L2.St → Hp → Prop, SeqN N (fun σ H => rest ⟨n, r, b, c⟩ σ H) → s ⟨N, r, b, c⟩ σ H) : tSeq s rest ⟨n, r, b, c⟩ σ H := h _ ⟨fun _ _ h => h⟩
local macro_rules | `(tactic| walk_at "side") => `(tactic| first
  | rfl
  | (show (0 : Int) < _; first | decide | omega)
  | exact Or.inr (And.intro (by decide) (by decide))
  | exact And.intro (by decide) (by decide)
  | exact And.intro (by omega) (by omega)
  | exact Or.inl (And.intro (by omega) (by omega))
  | decide
  | omega
  | exact sz (by first | decide | omega | (simp; done))
  | exact szl (by first | decide | omega | (simp; done)))
local macro_rules | `(tactic| walk_at "s") => `(tactic| first
  | refine ⟨_, rfl, ?_⟩
  | refine ⟨_, _, rfl, rfl, ?_⟩
  | refine .inl ⟨_, rfl, ?_⟩
  | refine ⟨_, _, rfl, by assumption, ?_⟩
  | refine ⟨_, _, _, _, rfl, rfl, SqL.of upd_same, rfl, ?_⟩
  | refine ⟨_, _, _, _, rfl, rfl, SqL.of (by assumption), (by rfl), ?_⟩
  | refine ⟨_, _, _, _, rfl, rfl, upd_same, rfl, ?_⟩
  | refine ⟨_, _, _, _, rfl, rfl, (by assumption), (by rfl), ?_⟩
  | refine And.intro ⟨_, rfl⟩ ?_
  | refine And.intro (by walk_at "side") ?_
  | refine iteT ?_
  | refine iteF ?_)
local macro_rules | `(tactic| walk_at "ss") => `(tactic| repeat walk_at "s")
local macro_rules | `(tactic| walk_at "n") => `(tactic| first
  | with_reducible refine MyP.seq_use (fun _ _ => ?_)
  | with_reducible refine MyP.SeqN.go (by assumption) ?_
  | with_reducible refine MyP.gname_use ?_
  | with_reducible refine MyP.next_use ?_
  | walk_at "s")
local macro_rules | `(tactic| walk_at "nn") => `(tactic| repeat walk_at "n")
theorem iteP {c A B : Prop} [Decidable c] (h : c) (x : A) : if c then A else B := by
  rw [if_pos h]
  exact x
theorem iteN {c A B : Prop} [Decidable c] (h : ¬ c) (x : B) : if c then A else B := by
  rw [if_neg h]
  exact x
theorem at_inN {α : Type} {xs : List α} {i : Int} (h0 : 0 ≤ i) (h1 : i < xs.length) : ∃ v, atI xs i = some v ∧ v ∈ xs := by
  have h2 : i.toNat < xs.length := by omega
  refine ⟨xs[i.toNat], ?_, List.getElem_mem h2⟩
  have e : ((i.toNat : Nat) : Int) = i := by omega
  have e2 : atI xs ((i.toNat : Nat) : Int) = some xs[i.toNat] := atI_nat (List.getElem?_eq_getElem h2)
  rw [e] at e2
  exact e2
theorem ixN_in {n : Nat} {k : Int} (h0 : 0 ≤ k) (h1 : k < n) : ixN n k = some k.toNat := by
  unfold ixN
  rw [if_pos h0, if_pos h1]
theorem at_in {xs : List V} {i : Int} (h0 : 0 ≤ i) (h1 : i < xs.length) : ∃ v, atI xs i = some v ∧ v ∈ xs := at_inN h0 h1
theorem any2 {K : PySem.W.Frag} {t a b : String} {r1 r2 : Bool} (h1 : kitB t a = some r1) (h2 : kitB t b = some r2) : PySem.W.kitAny K (.type t) [.type a, .type b] = some (r1 || r2) := by
  refine kitAny_cons (kit_ty h1) (fun e => kitAny_cons (kit_ty h2) (fun e2 => ?_) (fun e2 => ?_)) (fun e => ?_)
  · rw [e, e2]
    rfl
  · rw [e2, Bool.or_true]
  · rw [e, Bool.true_or]
local macro_rules | `(tactic| walk_at "ty") => `(tactic| first | exact .base .non | exact .base (.bl _) | exact .base (.int _) | exact .base (.str _) | assumption)
local macro_rules | `(tactic| walk_at "si") => `(tactic| first
  | walk_at "s"
  | refine ⟨_, _, _, _, false, rfl, ClsV.ty _, (by assumption), kit_ty (by assumption), ?_⟩
  | refine ⟨_, _, _, _, true, rfl, ClsV.ty _, (by walk_at "ty"), kit_ty (by decide +kernel), ?_⟩
  | refine ⟨_, _, _, _, false, rfl, ClsV.ty _, (by walk_at "ty"), kit_ty (by decide +kernel), ?_⟩
  | refine ⟨_, _, _, _, _, true, rfl, upd_same, .cons (.ty _) (.cons (.ty _) .nil), (by walk_at "ty"), any2 (r1 := true) (r2 := false) (by decide +kernel) (by decide +kernel), ?_⟩
  | refine ⟨_, _, _, _, _, true, rfl, upd_same, .cons (.ty _) (.cons (.ty _) .nil), (by walk_at "ty"), any2 (r1 := false) (r2 := true) (by decide +kernel) (by decide +kernel), ?_⟩
  | refine ⟨_, _, _, _, _, false, rfl, upd_same, .cons (.ty _) (.cons (.ty _) .nil), (by walk_at "ty"), any2 (r1 := false) (r2 := false) (by decide +kernel) (by decide +kernel), ?_⟩
  | intro p hp)
local macro_rules | `(tactic| walk_at "ssi") => `(tactic| repeat walk_at "si")

/-! ### classes -/
theorem kb_of {K : PySem.W.Frag} {x qual : Str} {st : Stmt} {f : Addr} {fd : FuncData} {ps ks : List Str} {n : Nat} (F : Fun K x qual st f fd)
    (h : ∀ (kV doc pm : Value) (an : Option Addr) (cdv ct : Value) (us ws : List Value), us.length = n → ws.length = ks.length → bindArgs (PySem.W.fnOf x qual (defArgs st) (defBody st) (defScope st) .none kV doc pm an cdv ct) ⟨us, ks.zip ws⟩ = pure (ps.zip (us ++ ws))) :
    KBn K fd ps n ks (fun us ws => us ++ ws) (fun vs zs => vs ++ zs) := by
  obtain ⟨oc, od, kV, doc, pm, an, cdv, ct, osl, rfl, lk, hcd⟩ := F.ex
  exact ⟨fun s us ws _ h1 h2 => .of_eq (h kV doc pm an cdv ct us ws h1 h2), fun a b => a.append b⟩
theorem exm1 {K : PySem.W.Frag} {cls : Value} {S : Addr} {b : Bool} (bx : PySem.W.subIn K (.ref S) (.type "BaseException") = some true) (ic : PySem.W.isClsIn K S = true) (ty : PySem.W.typeIn K (.ref S) = some (.type "type")) (sb : PySem.W.subIn K cls (.ref S) = some b) :
    PySem.W.exmOne K cls (.ref S) = some b := by
  have t1 : (PySem.W.subIn K (.ref S) (.type "BaseException") == some true) = true := by rw [bx] <;> rfl
  have t2 : ((PySem.W.clsIn K S).isSome && PySem.W.typeIn K (.ref S) == some (.type "type")) = true := by
    rw [show (PySem.W.clsIn K S).isSome = true from ic, ty] <;> rfl
  show (if _ = true then (if ((PySem.W.clsIn K S).isSome && PySem.W.typeIn K (.ref S) == some (.type "type")) = true then PySem.W.subIn K cls (.ref S) else none) else none) = some b
  rw [if_pos t1, if_pos t2, sb]
theorem exm3 {K : PySem.W.Frag} {cls : Value} {S1 S2 S3 : Addr} {b2 b3 : Bool} (bx1 : PySem.W.subIn K (.ref S1) (.type "BaseException") = some true) (ic1 : PySem.W.isClsIn K S1 = true) (ty1 : PySem.W.typeIn K (.ref S1) = some (.type "type")) (sb1 : PySem.W.subIn K cls (.ref S1) = some true)
    (bx2 : PySem.W.subIn K (.ref S2) (.type "BaseException") = some true) (ic2 : PySem.W.isClsIn K S2 = true) (ty2 : PySem.W.typeIn K (.ref S2) = some (.type "type")) (sb2 : PySem.W.subIn K cls (.ref S2) = some b2)
    (bx3 : PySem.W.subIn K (.ref S3) (.type "BaseException") = some true) (ic3 : PySem.W.isClsIn K S3 = true) (ty3 : PySem.W.typeIn K (.ref S3) = some (.type "type")) (sb3 : PySem.W.subIn K cls (.ref S3) = some b3) :
    PySem.W.exmAny K cls [.ref S1, .ref S2, .ref S3] = some true := by
  unfold PySem.W.exmAny PySem.W.exmAny PySem.W.exmAny PySem.W.exmAny
  rw [exm1 bx1 ic1 ty1 sb1, exm1 bx2 ic2 ty2 sb2, exm1 bx3 ic3 ty3 sb3]
  rfl


section
open LamX NdefX
/-! ### a call over a wider ground: what the caller's cells hold stands fast while the callee runs -/
/-- the heap h where only what stands in the ground g and the cells cs is seen -/
def wider (h g : Heap) (cs : List Addr) : Heap := PySem.W.hideAll h ((List.range h.objs.size).filter fun a => (g.get? a).isNone && !cs.contains a)
theorem wider_size (h g : Heap) (cs : List Addr) : (wider h g cs).objs.size = h.objs.size := PySem.W.hideAll_size _ _
theorem wider_get {h g : Heap} {cs : List Addr} {a : Addr} {o : Obj} (e : h.get? a = some o) (w : (g.get? a).isSome = true ∨ a ∈ cs) : (wider h g cs).get? a = some o := by
  refine PySem.W.hideAll_get _ e fun hm => ?_
  have q := (List.mem_filter.mp hm).2
  rw [Bool.and_eq_true] at q
  rcases w with w | w
  · have q1 := q.1
    cases z : g.get? a with
    | none => rw [z] at w; cases w
    | some u => rw [z] at q1; cases q1
  · have q2 := q.2
    rw [List.contains_iff_mem.mpr w] at q2
    cases q2
theorem of_wider {h g : Heap} {cs : List Addr} {a : Addr} {o : Obj} (e : (wider h g cs).get? a = some o) : h.get? a = some o ∧ ((g.get? a).isSome = true ∨ a ∈ cs) := by
  have e1 := PySem.W.of_hideAll _ e
  refine ⟨e1, ?_⟩
  by_cases w : (g.get? a).isSome = true ∨ a ∈ cs
  · exact w
  · have hm : a ∈ (List.range h.objs.size).filter fun a => (g.get? a).isNone && !cs.contains a := by
      refine List.mem_filter.mpr ⟨List.mem_range.mpr (Heap.lt_size e1), ?_⟩
      have w1 : ¬ (g.get? a).isSome = true := fun z => w (.inl z)
      have w2 : a ∉ cs := fun z => w (.inr z)
      cases z : g.get? a with
      | some u => rw [z] at w1; exact absurd rfl w1
      | none =>
        have : cs.contains a = false := by
          cases k : cs.contains a with
          | false => rfl
          | true => exact absurd (List.contains_iff_mem.mp k) w2
        rw [this]
        rfl
    have z : (wider h g cs).get? a = none := PySem.W.hideAll_none _ hm
    rw [z] at e
    cases e
/-- the addresses of a frame's cells -/
def cellsOf (env : PySem.Env) : List Addr := env.cells.map (·.2)
theorem mem_cellsOf {env : PySem.Env} {y : Str} {c : Addr} (e : env.cells.lookup y = some c) : c ∈ cellsOf env := List.mem_map.mpr ⟨(y, c), PySem.mem_of_lookup e, rfl⟩
/-- each cell of the frame stands under a name: two entries never share a name -/
def CellsNd (env : PySem.Env) : Prop := ∀ y c, (y, c) ∈ env.cells → env.cells.lookup y = some c
theorem frames_wider {h base base' : Heap} : ∀ {l : List PySem.Env}, h.FunFrames base l → (∀ b ∈ frs l, base'.get? b = none) → h.FunFrames base' l
  | [], _, _ => trivial
  | env :: r, x, n => by
    obtain ⟨hk, ⟨L, o, hf, hn, ho, hd⟩, hr⟩ := x
    refine ⟨hk, ⟨L, o, hf, n L ?_, ho, hd⟩, frames_wider hr fun b hb => n b ?_⟩
    · unfold frs
      rw [List.filterMap_cons, hf]
      exact List.mem_cons_self ..
    · unfold frs
      rw [List.filterMap_cons, hf]
      exact List.mem_cons_of_mem _ hb
section
variable {X : Cx} {pins : List (Addr × Obj)} {σ : L2.St} {H : Hp} {s : Shared}
theorem wider_ok (I : Inv X pins σ H s) (nd : CellsNd X.env) (hfn : ∀ y c, X.env.cells.lookup y = some c → X.s_0.heap.objs.size ≤ c) :
    Env0 X.prog X.w X.K X.mg (wider s.heap X.base (cellsOf X.env)) X.A X.stack s H ∧ (∀ b o, X.base.get? b = some o → (wider s.heap X.base (cellsOf X.env)).get? b = some o) := by
  have up : ∀ b o, X.base.get? b = some o → (wider s.heap X.base (cellsOf X.env)).get? b = some o := fun b o e => wider_get (I.bk b o e) (.inl (by rw [e]; rfl))
  have inCell : ∀ c ∈ cellsOf X.env, ∃ y, X.env.cells.lookup y = some c := fun c hc => by
    obtain ⟨⟨y, c'⟩, hm, e⟩ := List.mem_map.mp hc
    have e : c' = c := e
    subst e
    exact ⟨y, nd y c' hm⟩
  refine ⟨⟨I.ok.frames, ⟨I.ok.mod.kin.keeps up, I.ok.mod.glob.keeps up, ?_, I.ok.mod.nolimit.keeps up⟩, fun b o e => ?_, ?_, frames_wider I.stack fun b hb => ?_, I.stkFree, I.hok, I.bare⟩, up⟩
  · obtain ⟨mb, h1, h2⟩ := I.ok.mod.blt
    exact ⟨mb, h1.keeps up, h2⟩
  · obtain ⟨e1, w⟩ := of_wider e
    refine ⟨e1, ?_⟩
    rcases w with w | w
    · obtain ⟨u, hu⟩ := Option.isSome_iff_exists.mp w
      exact (I.bs b u hu).2
    · obtain ⟨y, hy⟩ := inCell b w
      exact I.freeC y b hy
  · rw [wider_size]
    exact Nat.le_refl _
  · cases q : (wider s.heap X.base (cellsOf X.env)).get? b with
    | none => rfl
    | some o =>
      exfalso
      obtain ⟨e1, w⟩ := of_wider q
      rcases List.mem_cons.mp (I.stkSub b hb) with z | z
      · rcases w with w | w
        · obtain ⟨u, hu⟩ := Option.isSome_iff_exists.mp w
          have h1 := Heap.lt_size hu
          have h2 := I.ok.bsz
          have h3 := I.ok.above
          rw [z] at h1
          exact Nat.lt_irrefl _ (Nat.lt_of_lt_of_le h1 (Nat.le_trans h2 h3))
        · obtain ⟨y, hy⟩ := inCell b w
          exact I.cne y b hy z
      · rcases w with w | w
        · obtain ⟨u, hu⟩ := Option.isSome_iff_exists.mp w
          exact I.ok.nofr hu z
        · obtain ⟨y, hy⟩ := inCell b w
          obtain ⟨_, o2, ho2, _⟩ := I.ok.funs.mem z
          have h1 := Heap.lt_size ho2
          have h2 := hfn y b hy
          exact Nat.lt_irrefl _ (Nat.lt_of_lt_of_le h1 h2)
/-- what the captured cells hold, seen from the wider ground -/
theorem cells_wider {cl : List (Str × Addr)} {fr : List Str} {ws : List (Option V)} (C : CellsAt cl fr ws s.heap H) (sub : ∀ y c, cl.lookup y = some c → X.env.cells.lookup y = some c) : CellsAt cl fr ws (wider s.heap X.base (cellsOf X.env)) (fun _ => none) := by
  have kp : ∀ y c, cl.lookup y = some c → ∀ v, s.heap.IsCell c v → (wider s.heap X.base (cellsOf X.env)).IsCell c v := fun y c e v ⟨o, ho, hd⟩ => ⟨o, wider_get ho (.inr (mem_cellsOf (sub y c e))), hd⟩
  refine ⟨C.len, fun y c e => ⟨rfl, ?_⟩, C.inj, fun i y e => ?_⟩
  · obtain ⟨_, v, z⟩ := C.all y c e
    exact ⟨v, kp y c e v z⟩
  · obtain ⟨c, hc, hv⟩ := C.has i y e
    refine ⟨c, hc, fun v ev => ?_⟩
    obtain ⟨u, r, z⟩ := hv v ev
    exact ⟨u, r, kp y c hc _ z⟩
/-- .. and then in every state over that ground -/
theorem cells_narrow {P : Program} {w : World} {K : PySem.W.Frag} {mg : Str → Option Value} {base : Heap} {A : Around} {outer : List PySem.Env} {cl : List (Str × Addr)} {fr : List Str} {ws : List (Option V)} (C : CellsAt cl fr ws base (fun _ => none))
    (bs : ∀ b o, base.get? b = some o → s.heap.get? b = some o ∧ H b = none) : CellsAt cl fr ws s.heap H := by
  have kp : ∀ c v, base.IsCell c v → s.heap.IsCell c v := fun c v ⟨o, ho, hd⟩ => ⟨o, (bs c o ho).1, hd⟩
  refine ⟨C.len, fun y c e => ?_, C.inj, fun i y e => ?_⟩
  · obtain ⟨_, v, z⟩ := C.all y c e
    refine ⟨?_, v, kp c v z⟩
    obtain ⟨o, ho, _⟩ := z
    exact (bs c o ho).2
  · obtain ⟨c, hc, hv⟩ := C.has i y e
    refine ⟨c, hc, fun v ev => ?_⟩
    obtain ⟨u, r, z⟩ := hv v ev
    exact ⟨u, r, kp c _ z⟩
end
/-- what is told of the ground over which a callee runs: it is as wide as X.base, and tells what the cells hold that X's names σ stand in -/
structure Ground (X : Cx) (σ : L2.St) (base : Heap) : Prop where
  ok : X.Ok
  up : ∀ b o, X.base.get? b = some o → base.get? b = some o
  cells : ∀ (cl : List (Str × Addr)) (fr : List Str) (js : List Nat), Caps X cl fr js → CellsAt cl fr (js.map (slotAt σ)) base (fun _ => none)
/-- f(e, ..) over the wider ground: the callee's promise is told of every such ground -/
def tCallX (X : Cx) (CX : CXT) (k : Nat) (f : Addr) (fd : FuncData) (ps : List Str) (E : XK) (t : TA) : TE := fun σ H Q => t σ H fun vs H1 => ∃ sp : Sp, (∀ base, Ground X σ base → FnOk X.prog X.w X.K X.mg base CX k f fd ps sp) ∧ sp vs H1 Q E
section
variable {X : Cx} {CX : CXT} {k : Nat} {f : Addr} {fd : FuncData} {ps : List Str} {E : XK} {x : Str} {p pos : Pos} {e : Expr} {es : List Expr} {t : TA}
theorem pe_callX (hr : Room k X.A) (hg : Gl X x) (hm : X.mg x = some (.ref f)) (hk : PySem.W.keepIn X.K (.ref f) = true) (hb : Binds X.K fd ps []) (hx : Passes CX X E) (nd : CellsNd X.env) (hfn : X.Ok → ∀ y c, X.env.cells.lookup y = some c → X.s_0.heap.objs.size ≤ c)
    (ha : PA X (e :: es) t) (hdb : (x == ("__debug__" : Str)) = false := by decide) (he : starEach (e :: es) X.env = (false, eval e X.env) :: starEach es X.env := by rfl) (hpl : (backTo pos (starEach es X.env)).any (·.1) = false := by rfl) :
    PE X (.Call (.Name x p) (e :: es) [] pos) (tCallX X CX k f fd ps E t) := by
  refine ⟨fun pins s σ H Q I h => ?_⟩
  refine wpAny_Call_Name_kw (ld_glob I hg hm ?_ hdb)
  refine PySem.W.callWith_K (h₀ := X.base) I.ok.mod.kin hk (thn (ha.run pos pins s σ H _ I h) fun us s1 ⟨vs, H1, I1, r, sp, F, q⟩ => ⟨I1.kIn, ?_⟩) he hpl
  obtain ⟨e0, up⟩ := wider_ok I1 nd (hfn I1.ok)
  have G : Ground X σ (wider s1.heap X.base (cellsOf X.env)) := ⟨I1.ok, up, fun cl fr js c => cells_wider (cells_of I1 c) c.sub⟩
  have Fb := F _ G
  have hl : us.length = ps.length := by rw [← r.length]; exact Fb.len _ _ _ _ q
  have hb2 := hb s1 us I1.kIn (by rw [List.append_nil]; exact hl)
  rw [List.append_nil] at hb2
  refine wpAny_call (codeAny_mono (Fb.run X.A X.stack s1 H1 ⟨us, []⟩ us vs Q E hr e0 hb2 r q) fun r s' hq => ?_)
  cases r with
  | error e => exact hx pins σ H1 s1 e s' I1 hq
  | ok fl =>
    cases fl with
    | ret u => exact I1.after hq
    | next => exact False.elim hq
    | brk => exact False.elim hq
    | cont => exact False.elim hq
end
end
section
open LamX NdefX
/-! ### a lambda as a value -/
/-- its words: the maker's name for it, its text, the cells it captured, its code object, its defaults -/
structure LF where
  qual : Str
  params : Arguments
  body : Expr
  scope : Scope
  cl : List (Str × Addr)
  c : Addr
  dV : Value
abbrev LF.fd (F : LF) (doc pm ctv : Value) : FuncData := PySem.W.kdv_fn "<lambda>" F.qual F.params (.expr F.body) F.scope F.cl F.dV doc pm (.ref F.c) ctv
/-- the same words for the context of its body -/
def LF.nf (F : LF) : NF := ⟨"<lambda>", F.qual, F.params, [], F.scope, F.cl, F.c⟩
/-- at f stands the lambda F -/
def LmO (f : Addr) (F : LF) : HO := .ext fun h => ∃ (od : Option Addr) (sl : Array (Option Value)) (doc pm ctv : Value), h.get? f = some (⟨.type "function", od, .func (F.fd doc pm ctv), sl⟩ : Obj)
theorem lmo_at {P : Program} {w : World} {H : Hp} {h : Heap} {f : Addr} {F : LF} (ok : HOk P w H h) (e : H f = some (LmO f F)) :
    ∃ (od : Option Addr) (sl : Array (Option Value)) (doc pm ctv : Value), h.get? f = some (⟨.type "function", od, .func (F.fd doc pm ctv), sl⟩ : Obj) := (ok f _ e).1
/-- its defaults: none, or a tuple of one int -/
def DefAt (F : LF) (ds : List V) (H : Hp) : Prop := (ds = [] ∧ F.dV = .none) ∨ ∃ (T0 : Addr) (i : Int), ds = [.int i] ∧ F.dV = .ref T0 ∧ H T0 = some (.tup [.int i])
section
variable {X : Cx} {pins : List (Addr × Obj)} {σ : L2.St} {H : Hp} {s : Shared}
/-- a new object of that kind is tracked from now on -/
theorem inv_lm {F : LF} {t' : Nat} {doc pm ctv : Value} (I : Inv X pins σ H s) :
    Inv X pins σ (upd H s.heap.objs.size (LmO s.heap.objs.size F)) { s with heap := s.heap.push { cls := .type "function", data := .func (F.fd doc pm ctv) }, toks := t' } := by
  have e : (s.heap.push ({ cls := .type "function", data := .func (F.fd doc pm ctv) } : Obj)).get? s.heap.objs.size = some { cls := .type "function", data := .func (F.fd doc pm ctv) } := Heap.get?_push_size _ rfl
  exact I.laid (fun b u q => Heap.get?_push_of_some _ q) (Nat.le_refl _) ⟨⟨_, _, doc, pm, ctv, e⟩, ⟨_, e⟩, fun h1 h2 z st => by
    obtain ⟨od, sl, d, p, t, z⟩ := z
    exact ⟨od, sl, d, p, t, st _ z⟩⟩
theorem none_upd {a b : Addr} {o : HO} (e : upd H a o b = none) : H b = none := by
  by_cases z : b = a
  · rw [z, upd_same] at e
    cases e
  · rw [upd_ne z] at e
    exact e
/-- what is told behind the making -/
def Made (X : Cx) (pins : List (Addr × Obj)) (σ : L2.St) (T : List (Addr × Str)) (H : Hp) (mk : Addr → LF) (v : Value) (s' : Shared) : Prop :=
  ∃ (f c' : Addr) (H1 : Hp), v = .ref f ∧ Inv X pins σ H1 s' ∧ ExtN H H1 ∧ (∀ b, H1 b = none → H b = none) ∧ Tabs T H1 ∧ H f = none ∧ H1 f = some (LmO f (mk c')) ∧ H1 c' = some (CodeO c' (mk c').qual)
theorem lm_tail {T : List (Addr × Str)} {c P : Addr} {params : Arguments} {body : Expr} {scope : Scope} {pos : Pos} {dV : Value} {E : Value → Shared → Prop} (I : Inv X pins σ H s) (TB : TabB X.base X.mg c P) (hcode : X.env.code = .ref c)
    (hm : (P, X.env.qual ++ "<lambda>") ∈ T) (hu : ∀ p ∈ T, p.1 = P → p.2 = X.env.qual ++ "<lambda>") (hT : Tabs T H) (hfree : ∀ y ∈ scope.names, y.2 = .free → ∃ c, X.env.cells.lookup y.1 = some c) :
    wpAny (model X.prog X.w) X.A (makeTail "<lambda>" (X.env.qual ++ "<lambda>") params (.expr body) scope X.env dV .none none pos pos.line)
      (Made X pins σ T H fun c' => ⟨X.env.qual ++ "<lambda>", params, body, scope, cloFrom X.env.cells scope.names [], c', dV⟩) E s := by
  obtain ⟨ps, hP, ht, ha⟩ := hT _ hm
  have bP := TB.bm.keeps I.bk
  have oP : s.heap.get? P = some (PySem.W.tabObj ps) := I.hok P _ hP
  have gl := I.mod.glob.keeps I.bk
  have hd := TB.code.keeps I.bk
  rcases hc : codeAmong pos ps.toList with _ | cv
  · refine PySem.W.kdv_makeTail (closure_ok hfree) I.ok.glob gl hcode hd oP ht hc TB.gP bP fun c' ctv doc h' tk hx hge hlt hrec htb => ?_
    obtain ⟨c2, oc, us, t, e2, hoc, hdt, hv⟩ := hrec
    obtain rfl : c' = c2 := by injection e2
    have nC : H c' = none := I.hok.fresh hge
    have J := inv_table (t' := tk) (more := #[rawInt pos.line, rawInt pos.col, .ref c']) I hP (fun b o hb e => hx b o hb e) htb hge ⟨oc, us, t, hoc, hdt, hv⟩
    have ext : ExtN H (upd (upd H P (.tbl (ps ++ #[rawInt pos.line, rawInt pos.col, .ref c']))) c' (CodeO c' (X.env.qual ++ "<lambda>"))) := fun b o e n => by
      have n1 : b ≠ P := fun z => by
        rw [z, hP] at e
        exact n ps (Option.some.inj e).symm
      rw [upd_ne (ne_of_none e nC), upd_ne n1]
      exact e
    have lst : (ps ++ #[rawInt pos.line, rawInt pos.col, Value.ref c']).toList = ps.toList ++ [rawInt pos.line, rawInt pos.col, .ref c'] := by simp
    have tabs : Tabs T (upd (upd H P (.tbl (ps ++ #[rawInt pos.line, rawInt pos.col, .ref c']))) c' (CodeO c' (X.env.qual ++ "<lambda>"))) := fun p hp => by
      by_cases hb : p.1 = P
      · rw [hu p hp hb, hb]
        refine ⟨_, by rw [upd_ne (ne_of_none hP nC), upd_same], by rw [lst]; exact PySem.TriplesOk_snoc _ _ _ _ ht, fun q v hq => ?_⟩
        rw [lst] at hq
        rcases among_app _ ht hq with z | z
        · obtain ⟨c0, e1, e3⟩ := ha q v z
          exact ⟨c0, e1, ext _ _ e3 codeO_ne⟩
        · exact ⟨c', z, upd_same⟩
      · obtain ⟨qs, a1, a2, a3⟩ := hT p hp
        refine ⟨qs, by rw [upd_ne (ne_of_none a1 nC), upd_ne hb]; exact a1, a2, fun q v hq => ?_⟩
        obtain ⟨c0, e1, e3⟩ := a3 q v hq
        exact ⟨c0, e1, ext _ _ e3 codeO_ne⟩
    have nF : upd (upd H P (.tbl (ps ++ #[rawInt pos.line, rawInt pos.col, .ref c']))) c' (CodeO c' (X.env.qual ++ "<lambda>")) h'.objs.size = none := J.hok.fresh (Nat.le_refl _)
    refine ⟨h'.objs.size, c', _, rfl, inv_lm (t' := tk) (doc := doc) (pm := (X.mg "__name__").getD .none) (ctv := ctv) J, fun b o e n => ?_, fun b e => none_upd (none_upd (none_upd e)), tabs.ext fun b o e => ?_, none_upd (none_upd nF), upd_same, ?_⟩
    · have e1 := ext b o e n
      rw [upd_ne (ne_of_none e1 nF)]
      exact e1
    · rw [upd_ne (ne_of_none e nF)]
      exact e
    · rw [upd_ne (Nat.ne_of_lt hlt)]
      exact upd_same
  · obtain ⟨c', rfl, hco⟩ := ha pos cv hc
    refine PySem.W.kdv_makeTailHit (closure_ok hfree) I.ok.glob gl hcode hd oP ht hc bP fun ctv doc h' tk hx hsz => ?_
    have J : Inv X pins σ H { s with heap := h', toks := tk } := I.kept hx
    have nF : H h'.objs.size = none := J.hok.fresh (Nat.le_refl _)
    refine ⟨h'.objs.size, c', _, rfl, inv_lm (t' := tk) (doc := doc) (pm := (X.mg "__name__").getD .none) (ctv := ctv) J, fun b o e n => ?_, fun b e => none_upd e, hT.ext fun b o e => ?_, nF, upd_same, ?_⟩
    · rw [upd_ne (ne_of_none e nF)]
      exact e
    · rw [upd_ne (ne_of_none e nF)]
      exact e
    · rw [upd_ne (ne_of_none hco nF)]
      exact hco
end
/-- the reading of a lambda without defaults | with one int for its only parameter's default -/
def tLm (T : List (Addr × Str)) (mk : Addr → LF) : TE := fun _ H Q => Tabs T H ∧ ∀ (f c' : Addr) (H1 : Hp), ExtN H H1 → (∀ b, H1 b = none → H b = none) → Tabs T H1 → H f = none → H1 f = some (LmO f (mk c')) → H1 c' = some (CodeO c' (mk c').qual) → Q (.ref f) H1
def tLm1 (T : List (Addr × Str)) (i : Int) (mk : Addr → Addr → LF) : TE := fun _ H Q => Tabs T H ∧ ∀ (f c' T0 : Addr) (H1 : Hp), ExtN H H1 → (∀ b, H1 b = none → H b = none) → Tabs T H1 → H f = none → H1 T0 = some (.tup [.int i]) → H1 f = some (LmO f (mk T0 c')) → H1 c' = some (CodeO c' (mk T0 c').qual) → Q (.ref f) H1
section
variable {X : Cx} {T : List (Addr × Str)} {c P : Addr} {params : Arguments} {body : Expr} {scope : Scope} {pos : Pos}
theorem pe_lm (TB : TabB X.base X.mg c P) (hcode : X.env.code = .ref c) (hm : (P, X.env.qual ++ "<lambda>") ∈ T) (hu : ∀ p ∈ T, p.1 = P → p.2 = X.env.qual ++ "<lambda>")
    (hfree : ∀ y ∈ scope.names, y.2 = .free → X.env.scope.names.lookup y.1 = some .cell ∨ X.env.scope.names.lookup y.1 = some .free) (hdef : defaultsOf params X.env = ([], [])) :
    PE X (.Lambda params body scope pos) (tLm T fun c' => ⟨X.env.qual ++ "<lambda>", params, body, scope, cloFrom X.env.cells scope.names [], c', .none⟩) := by
  refine ⟨fun pins s σ H Q I h => ?_⟩
  obtain ⟨hT, h⟩ := h
  have fr : ∀ y ∈ scope.names, y.2 = .free → ∃ c, X.env.cells.lookup y.1 = some c := fun y hy e => (hfree y hy e).elim (fun z => I.ok.has _ (.inl z)) fun z => I.ok.has _ (.inr z)
  refine PySem.W.kla_eval hdef ?_
  rw [makeFunction_eq]
  simp only [List.zip_nil_right, List.filterMap_nil, List.isEmpty_nil, if_true, pure_bind]
  refine wpAny_mono (lm_tail (dV := .none) (E := X.xe) I TB hcode hm hu hT fr) (fun v s' hv => ?_) fun _ _ z => z
  obtain ⟨f, c', H1, rfl, J, e1, e2, e3, e4, e5, e6⟩ := hv
  exact ⟨.ref f, H1, J, rfl, h f c' H1 e1 e2 e3 e4 e5 e6⟩
theorem pe_lm1 {i : Int} {cj : Nat} {cp : Pos} (TB : TabB X.base X.mg c P) (hcode : X.env.code = .ref c) (hm : (P, X.env.qual ++ "<lambda>") ∈ T) (hu : ∀ p ∈ T, p.1 = P → p.2 = X.env.qual ++ "<lambda>")
    (hfree : ∀ y ∈ scope.names, y.2 = .free → X.env.scope.names.lookup y.1 = some .cell ∨ X.env.scope.names.lookup y.1 = some .free) (hd : params.defaults = [.Constant (.int i) cj cp]) (hk : params.kw_defaults = []) :
    PE X (.Lambda params body scope pos) (tLm1 T i fun T0 c' => ⟨X.env.qual ++ "<lambda>", params, body, scope, cloFrom X.env.cells scope.names [], c', .ref T0⟩) := by
  refine ⟨fun pins s σ H Q I h => ?_⟩
  obtain ⟨hT, h⟩ := h
  have fr : ∀ y ∈ scope.names, y.2 = .free → ∃ c, X.env.cells.lookup y.1 = some c := fun y hy e => (hfree y hy e).elim (fun z => I.ok.has _ (.inl z)) fun z => I.ok.has _ (.inr z)
  refine PySem.W.kdv_lam (by rw [hd]; rfl) hk ?_
  rw [hd]
  refine PySem.W.kdv_all1 (wpAny_mono ((pe_int (X := X) (i := i) (j := cj) (pos := cp)).run pins s σ H (fun v H' => v = .int i ∧ H' = H) I ⟨rfl, rfl⟩) (fun u s1 hv => ?_) fun _ _ z => z)
  obtain ⟨v, H', I1, r1, rfl, rfl⟩ := hv
  refine PySem.W.kdv_all0 ?_
  rw [makeFunction_eq]
  simp only [List.zip_nil_right, List.filterMap_nil, List.isEmpty_cons, List.isEmpty_nil, if_true, Bool.false_eq_true, if_false, pure_bind]
  refine wpAny_bind (wpAny_newTextTuple ?_)
  have n0 : H' s1.heap.objs.size = none := I1.hok.fresh (Nat.le_refl _)
  have I2 : Inv X pins σ (upd H' s1.heap.objs.size (.tup [.int i])) { s1 with heap := s1.heap.push { cls := .type "tuple", data := .seq [u].toArray } } :=
    I1.laid (t' := s1.toks) (fun b o e => Heap.get?_push_of_some _ e) (Nat.le_refl _) ⟨(by show 1 ≤ sizeLine; decide), [u], .cons r1 .nil, IsTup.new _ _⟩
  have hS : ∀ b o, H' b = some o → upd H' s1.heap.objs.size (.tup [.int i]) b = some o := fun b o e => by rw [upd_ne (ne_of_none e n0)]; exact e
  refine wpAny_mono (lm_tail (dV := .ref s1.heap.objs.size) (E := X.xe) I2 TB hcode hm hu (hT.ext hS) fr) (fun v s' hv => ?_) fun _ _ z => z
  obtain ⟨f, c', H1, rfl, J, e1, e2, e3, e4, e5, e6⟩ := hv
  exact ⟨.ref f, H1, J, rfl, h f c' s1.heap.objs.size H1 (fun b o e n => e1 b o (hS b o e) n) (fun b e => none_upd (e2 b e)) e3 (none_upd e4) (e1 _ _ upd_same fun ps z => by cases z) e5 e6⟩
end
/-! ### its promise -/
/-- the promise of the lambda F at f, called without arguments; ws: what its captured cells hold -/
structure LOk (P : Program) (w : World) (K : PySem.W.Frag) (mg : Str → Option Value) (base : Heap) (CX : CXT) (k : Nat) (f : Addr) (F : LF) (ds : List V) (fr : List Str) (sp : List (Option V) → Hp → VK → XK → Prop) : Prop where
  run : ∀ (A : Around) (outer : List PySem.Env) (s : Shared) (H : Hp) (ws : List (Option V)) (Q : VK) (E : XK), Room k A → Env0 P w K mg base A outer s H → H f = some (LmO f F) → H F.c = some (CodeO F.c F.qual) → DefAt F ds H →
    CellsAt F.cl fr ws s.heap H → sp ws H Q E → codeAny (model P w) A (.call (.ref f) ⟨[], []⟩) (CR CX outer P w H s Q E) s
section
variable {CX : CXT} {P : Program} {w : World} {K : PySem.W.Frag} {mg : Str → Option Value} {base : Heap} {N ps fr : List Str} {F : LF} {f : Addr} {k : Nat} {ds : List V} {sp : List (Option V) → Hp → VK → XK → Prop}
theorem lok_of (S : NScope N ps fr F.scope) (hlen : ds.length = ps.length) (hb : ∀ (s : Shared) (H : Hp) (us : List Value) (doc pm ctv : Value), HOk P w H s.heap → DefAt F ds H → ∃ us, Vals ds us ∧ BindsTo s (F.fd doc pm ctv) ⟨[], []⟩ (ps.zip us))
    (hbody : ∀ (A : Around) (outer : List PySem.Env) (s : Shared) (H : Hp) (ws : List (Option V)) (Q : VK) (E : XK), Room k (A.deeper (envF F.nf f s.heap.objs.size)) → ws.length = fr.length → sp ws H Q E →
      ∃ t, PE (ncx CX P w K mg base N F.nf f A outer s H E) F.body t ∧ t (startF N ds ws) H Q) : LOk P w K mg base CX (k + 1) f F ds fr sp := by
  refine ⟨fun A outer s H ws Q E hr e0 hf hc hD C hsp => ?_⟩
  have lim : s.heap.NoLimit := e0.mod.nolimit.keeps fun b o e => (e0.bs b o e).1
  obtain ⟨od, sl, doc, pm, ctv, ho⟩ := lmo_at e0.hok hf
  obtain ⟨us, rv, bind⟩ := hb s H [] doc pm ctv e0.hok hD
  have hul : us.length = ps.length := by rw [← rv.length]; exact hlen
  refine PySem.W.kla_callFunE hr.depth ho rfl S.co S.gen rfl (codeO_at e0.hok hc) ?_
  refine bind _ _ _ _ (wpAny_newFunctionEnv S.nocell (fun ⟨n, _⟩ hy => S.par n (List.of_mem_zip hy).1) (fun h₁ hns hsb => ⟨lim.fresh _ hsb, ?_⟩) S.kind)
  show codeAny _ _ (.expr F.body (envF F.nf f s.heap.objs.size)) _ _
  have kp : ∀ b o, s.heap.get? b = some o → h₁.get? b = some o := fun b o e => hsb.extBut b o (Nat.ne_of_lt (Heap.lt_size e)) (Heap.get?_push_of_some _ e)
  obtain ⟨t, ht, hq⟩ := hbody A outer s H ws Q E (hr.deeper _) C.len hsp
  have I : Inv (ncx CX P w K mg base N F.nf f A outer s H E) [] (startF N ds ws) H { s with heap := h₁, toks := s.toks + (ps.zip us).length } := inv_startN (F := F.nf) S hr.hd e0 hlen rv C hns kp
  refine PySem.W.kla_codeExpr (wpAny_mono (ht.run [] _ (startF N ds ws) H Q I hq) (fun v s' hs => ?_) fun e s' hs => hs)
  obtain ⟨y, H', J, ry, q⟩ := hs
  exact ⟨y, H', J.os, J.bare, J.base, J.hok, ry, q⟩
end
/-! ### a() where a holds something that is asked -/
/-- f may be called without arguments over the ground base, while g holds of the abstract heap: what it does is told by sp -/
def Held0 (P : Program) (w : World) (K : PySem.W.Frag) (mg : Str → Option Value) (base : Heap) (CX : CXT) (k : Nat) (f : Addr) (g : Hp → Prop) (sp : Hp → VK → XK → Prop) : Prop :=
  (∀ H h, HOk P w H h → g H → PySem.W.FnAt f h) ∧ ∀ (A : Around) (outer : List PySem.Env) (s : Shared) (H : Hp) (Q : VK) (E : XK), Room k A → Env0 P w K mg base A outer s H → g H → sp H Q E → codeAny (model P w) A (.call (.ref f) ⟨[], []⟩) (CR CX outer P w H s Q E) s
/-- a lambda, over a ground that tells what its cells hold -/
theorem LOk.held {P : Program} {w : World} {K : PySem.W.Frag} {mg : Str → Option Value} {base : Heap} {CX : CXT} {k : Nat} {f : Addr} {F : LF} {ds : List V} {fr : List Str} {sp : List (Option V) → Hp → VK → XK → Prop} {ws : List (Option V)}
    (o : LOk P w K mg base CX k f F ds fr sp) (C : CellsAt F.cl fr ws base (fun _ => none)) : Held0 P w K mg base CX k f (fun H => H f = some (LmO f F) ∧ H F.c = some (CodeO F.c F.qual) ∧ DefAt F ds H) (sp ws) := by
  refine ⟨fun H h ok g => ?_, fun A outer s H Q E hr e0 g q => o.run A outer s H ws Q E hr e0 g.1 g.2.1 g.2.2 (cells_narrow (P := P) (w := w) (K := K) (mg := mg) (A := A) (outer := outer) C e0.bs) q⟩
  obtain ⟨od, sl, doc, pm, ctv, ho⟩ := lmo_at ok g.1
  exact ⟨_, od, _, sl, ho⟩
def tAsk (P : Program) (w : World) (K : PySem.W.Frag) (mg : Str → Option Value) (base : Heap) (CX : CXT) (k i : Nat) (E : L2.St → XK) : TE := fun σ H Q => ∃ f g sp, σ[i]? = some (some (.ref f)) ∧ Held0 P w K mg base CX k f g sp ∧ g H ∧ sp H Q (E σ)
section
variable {X : Cx} {CX : CXT} {k i : Nat} {a : Str} {p1 p2 : Pos} {E : L2.St → XK}
theorem pe_ask (hr : Room k X.A) (hN : X.N[i]? = some a) (hv : Vis X.env.scope a) (hx : ∀ σ, PassesAt CX X σ (E σ)) (hd : (a == ("__debug__" : Str)) = false := by decide) (hcd : (a == ("__classdict__" : Str)) = false := by decide) :
    PE X (.Call (.Name a p1) [] [] p2) (tAsk X.prog X.w X.K X.mg X.base CX k i E) := by
  refine ⟨fun pins s σ H Q I h => ?_⟩
  obtain ⟨f, g, sp, hs, ⟨hf, hrun⟩, hg, q⟩ := h
  refine wpAny_Call_Name_kw (thn ((pe_var (pos := p1) hN hv hd hcd).run pins s σ H (fun v H1 => v = .ref f ∧ H1 = H) I ⟨.ref f, hs, rfl, rfl⟩) fun u s1 ⟨v, H1, I1, r1, q1⟩ => ?_)
  obtain ⟨rfl, rfl⟩ := q1
  obtain rfl : u = Value.ref f := r1
  refine PySem.W.callWith_F0 (hf H1 s1.heap I1.hok hg) ?_
  show wpAny _ _ (call (.ref f) []) _ _ _
  refine wpAny_call (codeAny_mono (hrun X.A X.stack s1 H1 Q (E σ) hr I1.env0 hg q) fun r s' hq => ?_)
  cases r with
  | error e => exact hx σ pins H1 s1 e s' I1 hq
  | ok fl =>
    cases fl with
    | ret u => exact I1.after hq
    | next => exact False.elim hq
    | brk => exact False.elim hq
    | cont => exact False.elim hq
end
end
section
open LamX NdefX
/-! ### except (A, B, C) as n, where one of the three always fits -/
theorem fly_wide {gr u u2 : Heap} {fl : List PySem.Env} {q : Addr} {Zq : Obj → Prop} (kp : ∀ b o, u.get? b = some o → u2.get? b = some o) (x : HandSPX.FlyingZ gr fl q Zq u) : HandSPX.FlyingZ gr fl q Zq u2 := by
  obtain ⟨x1, x2, x3, oe, vs, T, oT, ts, y1, y2, y3, y4, y5, y6, y7, y8, y9⟩ := x
  exact ⟨fun b o e => kp _ _ (x1 b o e), x2, x3.of_keeps fun b o e _ => ⟨o, kp _ _ e, rfl⟩, oe, vs, T, oT, ts, kp _ _ y1, y2, y3, y4, y5, y6, kp _ _ y7, y8, y9⟩
/-- the suite's ends, its name gone again -/
def gone (i : Nat) (D : Ends) : Ends := { nx := fun τ G => D.nx (τ.set i none) G, rt := D.rt, bk := fun τ G => D.bk (τ.set i none) G, ct := fun τ G => D.ct (τ.set i none) G }
/-- the wish of an exception that the body lets out -/
def wAny3 (K : PySem.W.Frag) (cs : List Value) (i : Nat) (ts : Addr → Value → Option Addr → TS) (D : Ends) : WX := fun cls d σ H =>
  PySem.W.exmAny K cls cs = some true ∧ ∀ q, H q = none → ts q cls d (gone i D) (σ.set i (some (.ref q))) H
section
variable {X : Cx} {xA xB xC n : Str} {cA cB cC : Value} {i j : Nat} {body suite : List Stmt} {b₀ : Stmt} {pA pB pC tp pos hp : Pos} {tb : WX → TS} {ts : Addr → Value → Option Addr → TS}
theorem name_here {Xs : Cx} {pins : List (Addr × Obj)} {τ : L2.St} {G : Hp} {s : Shared} {E : Value → Shared → Prop} {R : Value → Shared → Prop} {x : Str} {c : Value} {p : Pos} (hc : Names Xs x c) (I : Inv Xs pins τ G s) (r : R c s) :
    wpAny (model Xs.prog Xs.w) Xs.A (eval (.Name x p) Xs.env) R E s := by
  obtain ⟨hg, hd, hm | ⟨hm, hv, hn⟩⟩ := hc
  · exact ld_glob I hg hm r hd
  · exact ld_blt I hg hm hv r hn hd
theorem ps_tryA3 (hs : X.stack = X.env :: X.outer) (hf : X.env.frame = some X.env.locals) (hN : X.N.Nodup) (hi : X.N[i]? = some n) (hln : X.env.kindOf n = some .local) (nA : Names X xA cA) (nB : Names X xB cB) (nC : Names X xC cC)
    (hb : ∀ (W : WX) (pn : List (Addr × Obj)) (xe : Value → Shared → Prop), Takes (X.tr pn xe) W → PassesOwn (model X.prog X.w) X.A X.env xe → PSs (X.tr pn xe) body (tb W))
    (hsu : ∀ (q : Addr) (oe : Obj) (cls : Value) (d : Option Addr) (pn : List (Addr × Obj)), Zc cls d oe → (∃ vs, oe.data = .fields vs) → PSs (X.suite q ((q, oe) :: pn)) (b₀ :: suite) (ts q cls d)) :
    PS X (.Try body [.ExceptHandler (some (.Tuple [.Name xA pA, .Name xB pB, .Name xC pC] j tp)) (some n) (b₀ :: suite) hp] [] [] pos) (fun D σ H => tb (wAny3 X.K [cA, cB, cC] i ts D) D σ H) := by
  refine ⟨fun pins s σ H D I h => ?_⟩
  have okX := I.ok
  have stk : X.A.frames = some (X.env :: X.outer) := by rw [okX.frames, hs]
  refine wpAny_Try_except (wpAny_mono ((hb (wAny3 X.K [cA, cB, cC] i ts D) (X.pn ++ pins) (fun e s₁ => wpAny (model X.prog X.w) X.A (noteFrame e X.env) (fun _ s₂ => wpAny (model X.prog X.w) X.A (setFlight e none) (fun _ s₃ =>
    wpAny (model X.prog X.w) X.A (handleBy e X.env [.ExceptHandler (some (.Tuple [.Name xA pA, .Name xB pB, .Name xC pC] j tp)) (some n) (b₀ :: suite) hp]) (SP X pins D) X.xe s₃) X.xe s₂) X.xe s₁) (fun u s' z => ?_) PassesOwn.looking).run [] s σ H D (I.toTry _) h) (fun f s1 z => ?_) (fun _ _ z => z))
  · obtain ⟨q, gr, sI, pins', τ, G, cls, d, rfl, J0, nb, up, sky, nq, os, ag, hm, hsuite⟩ := z
    have J : Inv X pins τ G sI := J0.ofTry okX
    rw [show X.stack = X.env :: X.outer from hs] at sky
    show wpAny (model X.prog X.w) X.A (noteFrame (.ref q) X.env) _ _ _
    refine Sky.land Zc.steady stk hf sky fun g3 fl3 up3 => ?_
    have J3 : Inv X pins τ G { s' with heap := g3 } := J.landed nb fl3.1 (up.trans up3) os ag
    obtain ⟨o3, w3, he3, hz3, hd3⟩ := fl3.there
    have nfr : q ∉ frs (X.env :: X.outer) := fun hmem => by
      obtain ⟨_, o', e', hnf⟩ := fl3.2.2.1.mem hmem
      cases he3.symm.trans e'
      exact hnf _ hd3
    have nL : q ≠ X.env.locals := fun e => nfr (List.mem_filterMap.mpr ⟨X.env, List.mem_cons_self, by rw [hf, e]⟩)
    have nF : q ∉ X.fs := fun hmem => by
      obtain ⟨e, he, hq⟩ := List.mem_filterMap.mp hmem
      exact nfr (List.mem_filterMap.mpr ⟨e, List.mem_cons_of_mem _ he, hq⟩)
    have S3 := J3.suite he3 hd3 nq nL nF
    refine wpAny_handleBy_cons (codeAny_handlers_test ?_) (by intro e; cases e)
    have LT : PySem.W.Looks (model X.prog X.w) g3 (typeOf (.ref q)) cls := fun _ _ _ _ k r => wpAny_typeOf_ref (k _ _ he3) (by rw [hz3.1]; exact r)
    refine wpAny_Tuple (wpAny_items_cons (name_here (Xs := X.suite q ((q, o3) :: (X.pn ++ pins))) nA S3 (wpAny_items_cons (name_here (Xs := X.suite q ((q, o3) :: (X.pn ++ pins))) nB S3 (wpAny_items_cons (name_here (Xs := X.suite q ((q, o3) :: (X.pn ++ pins))) nC S3 (wpAny_items_nil ⟨by size_fits, ?_⟩)))))))
    have kp : ∀ b o, g3.get? b = some o → (g3.push { cls := .type "tuple", data := .seq [cA, cB, cC].toArray }).get? b = some o := fun _ _ e => Heap.get?_push_of_some _ e
    refine (PySem.W.exm_tup3 (J3.kIn.keeps kp) (LT.keeps kp) (Heap.get?_push_size g3 rfl) hm).here ?_
    refine codeAny_handlers_suite_as ?_
    refine HandSPX.lands_againZ (fly_wide kp fl3) fun g4 fl4 up4 => ?_
    have J4 : Inv X pins τ G { s' with heap := g4 } := J.landed nb fl4.1 ((up.trans up3).trans ((Heap.UpToSlots.of_keeps kp).trans up4)) os ag
    obtain ⟨o4, w4, he4, hz4, hd4⟩ := fl4.there
    have S4 := J4.suite he4 hd4 nq nL nF
    refine store_ok (X := X.suite q ((q, o4) :: (X.pn ++ pins))) (v := .ref q) S4 hN hi (.inl hln) rfl (fun s5 S5 => ?_) (.inr hln)
    refine wpAny_mono ((hsu q o4 cls d (X.pn ++ pins) hz4 ⟨_, hd4⟩).run [] s5 _ G _ S5 (hsuite q nq)) (fun f s6 z => ?_) fun _ _ z => False.elim z
    have fin : ∀ {τ6 : L2.St} {G6 : Hp} {R : Shared → Prop}, Inv (X.suite q ((q, o4) :: (X.pn ++ pins))) [] τ6 G6 s6 → (∀ s7, Inv X pins (τ6.set i none) G6 s7 → R s7) →
        wpAny (model X.prog X.w) X.A (do bindName X.env n .none; unbindBehindTheSuite X.env n hp) (fun _ s7 => R s7) X.xe s6 := fun {τ6 G6 R} S6 r => gone_ok (S6.unsuite okX) hN hi hln r
    cases f with
    | ret u => exact fin z.choose_spec.choose_spec.choose_spec.1 fun s7 J7 => ⟨_, _, _, J7, z.choose_spec.choose_spec.choose_spec.2.1, z.choose_spec.choose_spec.choose_spec.2.2⟩
    | next => exact fin z.choose_spec.choose_spec.1 fun s7 J7 => ⟨_, _, J7, z.choose_spec.choose_spec.2⟩
    | brk => exact fin z.choose_spec.choose_spec.1 fun s7 J7 => ⟨_, _, J7, z.choose_spec.choose_spec.2⟩
    | cont => exact fin z.choose_spec.choose_spec.1 fun s7 J7 => ⟨_, _, J7, z.choose_spec.choose_spec.2⟩
  · cases f with
    | ret u => exact ⟨_, _, _, z.choose_spec.choose_spec.choose_spec.1.ofTry okX, z.choose_spec.choose_spec.choose_spec.2.1, z.choose_spec.choose_spec.choose_spec.2.2⟩
    | next => exact wpAny_execs_nil ⟨_, _, z.choose_spec.choose_spec.1.ofTry okX, z.choose_spec.choose_spec.2⟩
    | brk => exact ⟨_, _, z.choose_spec.choose_spec.1.ofTry okX, z.choose_spec.choose_spec.2⟩
    | cont => exact ⟨_, _, z.choose_spec.choose_spec.1.ofTry okX, z.choose_spec.choose_spec.2⟩
end
end
section
open LamX NdefX L2H
/-! ### the caught exception: its fields, and a def that it is passed to -/
/-- what stands pinned at a: an exception of the class cls with the dict d -/
structure Pinned (X : Cx) (a : Addr) (oe : Obj) (cls : Value) (d : Option Addr) : Prop where
  mem : (a, oe) ∈ X.pn
  kin : Zc cls d oe
  fld : ∃ vs, oe.data = .fields vs
/-- the reading of e.n where e is that exception -/
def tXfA (K : PySem.W.Frag) (a : Addr) (cls : Value) (d : Option Addr) (n : Str) (te : TE) : TE := fun σ H Q => te σ H fun x G => x = .ref a ∧ ∃ (C dd : Addr) (fs : List (Str × V)) (v : V),
  cls = .ref C ∧ XfC K C ∧ PySem.W.findIn K (.ref C) n = some none ∧ d = some dd ∧ G dd = some (.xd fs) ∧ fs.lookup n = some v ∧ Q v G
theorem pe_xfA {X : Cx} {a : Addr} {oe : Obj} {cls : Value} {d : Option Addr} {e : Expr} {te : TE} {pos : Pos} {n : Str} (p : Pinned X a oe cls d) (he : PE X e te) (hb : attributeBase e n X.env (eval e X.env) = eval e X.env := by rfl) :
    PE X (.Attribute e n pos) (tXfA X.K a cls d n te) := by
  refine ⟨fun pins s σ H Q I h => attr_of hb (thn (he.run pins s σ H _ I h) fun u s1 z => ?_)⟩
  obtain ⟨x, G, I1, rx, rfl, C, dd, fs, v, rfl, T, hno, rfl, ea, l, q⟩ := z
  obtain rfl : u = Value.ref a := rx
  obtain ⟨vs, hd⟩ := p.fld
  have there := (I1.pin (a, oe) (List.mem_append_left _ p.mem)).1
  obtain ⟨mA, hns, hr⟩ := (show ObjOk X.prog X.w G s1.heap dd (.xd fs) from I1.hok dd _ ea)
  obtain ⟨od, ho, hl⟩ := lookIn_ns hns
  obtain ⟨u, hu, ru⟩ := RelO.some_of (v := v) (o := mA n) (by rw [← l]; exact hr n)
  refine HandSPX.exc_get I1.kIn (⟨there, p.kin.1, by unfold PySem.W.notCls; rw [hd] <;> rfl, by rw [p.kin.2]; exact ho⟩ : PySem.W.InstAt s1.heap a oe C (some od)) T.ga T.gg T.exC (PySem.W.findObj_own T.hdC hno rfl (by rw [hl, hu])) (handed_of ru) ⟨v, G, I1.tok _, ru, q⟩
/-- what a def promises that is called in an except suite with the exception among its arguments -/
structure FnP (P : Program) (w : World) (K : PySem.W.Frag) (mg : Str → Option Value) (base : Heap) (CX : CXT) (k : Nat) (f : Addr) (fd : FuncData) (ps : List Str) (sp : Addr → Value → Option Addr → Sp) : Prop where
  len : ∀ a cls d vs H Q E, sp a cls d vs H Q E → vs.length = ps.length
  run : ∀ (A : Around) (outer : List PySem.Env) (s : Shared) (H : Hp) (args : Args) (us : List Value) (vs : List V) (Q : VK) (E : XK) (p : Addr × Obj) (cls : Value) (d : Option Addr), RoomH k A → PinOk outer H s p → Zc cls d p.2 → (∃ vs, p.2.data = .fields vs) → Env0 P w K mg base A outer s H →
    BindsTo s fd args (ps.zip us) → Vals vs us → sp p.1 cls d vs H Q E → codeAny (model P w) A (.call (.ref f) args) (CR CX outer P w H s Q E) s
theorem fnp_of {CX : CXT} {P : Program} {w : World} {K : PySem.W.Frag} {mg : Str → Option Value} {base : Heap} {k : Nat} {f : Addr} {name qual : Str} {params : Arguments} {body : List Stmt} {scope : Scope} {dV kV doc pm cdv ct oc : Value} {an od : Option Addr} {osl : Array (Option Value)} {N ps : List Str} {sp : Addr → Value → Option Addr → Sp}
    (lk : K.lookup f = some ⟨oc, od, .func (PySem.W.fnOf name qual params body scope dV kV doc pm an cdv ct), osl⟩) (hcd : PySem.W.codeIn K cdv qual = true) (S : FnScope N ps scope) (len : ∀ a cls d vs H Q E, sp a cls d vs H Q E → vs.length = ps.length)
    (hbody : ∀ (A : Around) (outer : List PySem.Env) (s : Shared) (H : Hp) (vs : List V) (Q : VK) (E : XK) (p : Addr × Obj) (cls : Value) (d : Option Addr), Zc cls d p.2 → (∃ vs, p.2.data = .fields vs) → RoomH k (A.deeper (envOfC qual scope s.heap.objs.size f cdv)) → sp p.1 cls d vs H Q E →
      ∃ t, PSs (cxH CX P w K mg base N qual scope f cdv A outer s H E p) body t ∧ t { nx := fun _ G => Q .non G, rt := Q } (L2.start N vs) H) :
    FnP P w K mg base CX (k + 1) f (PySem.W.fnOf name qual params body scope dV kV doc pm an cdv ct) ps sp := by
  refine ⟨len, fun A outer s H args us vs Q E p cls d hr hpin hz hf e0 hb r hsp => ?_⟩
  have inK : K.In s.heap := e0.mod.kin.keeps fun b o e => (e0.bs b o e).1
  have noLim : s.heap.NoLimit := e0.mod.nolimit.keeps fun b o e => (e0.bs b o e).1
  refine codeAny_call_function hr.depth (inK _ _ lk) rfl S.co S.gen rfl (PySem.W.codeRec_of inK hcd) (hb _ _ _ _ (wpAny_newFunctionEnv_cells S.kind (fun ⟨n, v⟩ hy => (S.par n (List.of_mem_zip hy).1).imp id fun q => ⟨q, PySem.W.cellsFrom_some _ _ _ (.inl q)⟩) fun env he s1 x => ?_))
  subst he
  obtain ⟨t, ht, hq⟩ := hbody A outer s H vs Q E p cls d hz hf (hr.deeper _) hsp
  refine ⟨noLim.keeps x.toInCall.keep, codeAny_func (wpAny_mono (ht.run [] s1 (L2.start N vs) H _ (inv_startH S hpin e0 (len _ _ _ _ _ _ _ hsp) r x) hq) (fun fl s' z => ?_) fun e s' z => z)⟩
  cases fl with
  | ret u => exact ⟨_, _, z.choose_spec.choose_spec.choose_spec.1.os, z.choose_spec.choose_spec.choose_spec.1.bare, z.choose_spec.choose_spec.choose_spec.1.base, z.choose_spec.choose_spec.choose_spec.1.hok, z.choose_spec.choose_spec.choose_spec.2⟩
  | next => exact ⟨V.non, _, z.choose_spec.choose_spec.1.os, z.choose_spec.choose_spec.1.bare, z.choose_spec.choose_spec.1.base, z.choose_spec.choose_spec.1.hok, rfl, z.choose_spec.choose_spec.2⟩
  | brk => exact False.elim z.choose_spec.choose_spec.2
  | cont => exact False.elim z.choose_spec.choose_spec.2
/-- f(e) with the exception | its reading -/
def tCallP (a : Addr) (cls : Value) (d : Option Addr) (sp : Addr → Value → Option Addr → Sp) (t : TA) : TE := fun σ H Q => t σ H fun vs G => sp a cls d vs G Q fun _ _ _ => False
theorem pe_callP {X : Cx} {CX : CXT} {k : Nat} {f : Addr} {fd : FuncData} {ps : List Str} {sp : Addr → Value → Option Addr → Sp} {x : Str} {q pos : Pos} {e : Expr} {es : List Expr} {t : TA} {a : Addr} {oe : Obj} {cls : Value} {d : Option Addr}
    (F : FnP X.prog X.w X.K X.mg X.base CX k f fd ps sp) (hr : RoomH k X.A) (p : Pinned X a oe cls d) (hg : Gl X x) (hm : X.mg x = some (.ref f)) (hk : PySem.W.keepIn X.K (.ref f) = true) (hb : Binds X.K fd ps []) (hx : ∀ σ, PassesAt CX X σ fun _ _ _ => False)
    (ha : PA X (e :: es) t) (hd : (x == ("__debug__" : Str)) = false := by decide) (he : starEach (e :: es) X.env = (false, eval e X.env) :: starEach es X.env := by rfl) (hp : (backTo pos (starEach es X.env)).any (·.1) = false := by rfl) :
    PE X (.Call (.Name x q) (e :: es) [] pos) (tCallP a cls d sp t) := by
  refine ⟨fun pins s σ H Q I h => wpAny_Call_Name_kw (ld_glob I hg hm (PySem.W.callWith_K (h₀ := X.base) I.ok.mod.kin hk (thn (ha.run pos pins s σ H _ I h) fun us s1 ⟨vs, G, I1, r, z⟩ => ⟨I1.kIn, ?_⟩) he hp) hd)⟩
  have ln : us.length = ps.length := by rw [← r.length]; exact F.len _ _ _ _ _ _ _ z
  have b := hb s1 us I1.kIn (by rw [List.append_nil]; exact ln)
  rw [List.append_nil] at b
  obtain ⟨g1, g2, g3, g4, g5⟩ := I1.pin (a, oe) (List.mem_append_left _ p.mem)
  refine wpAny_call (codeAny_mono (F.run X.A X.stack s1 G ⟨us, []⟩ us vs Q _ (a, oe) cls d hr ⟨g1, g2, fun hm => (List.mem_cons.mp (I1.stkSub a hm)).elim g3 g4, g5⟩ p.kin p.fld I1.env0 b r z) fun r s' hq => ?_)
  cases r with
  | error e => exact hx σ pins G s1 e s' I1 hq
  | ok fl =>
    cases fl with
    | ret u => exact I1.after hq
    | next => exact False.elim hq
    | brk => exact False.elim hq
    | cont => exact False.elim hq
end

/-! ### comprehensions -/
/-- the new list's items one by one: I holds of the heap all the way, R i tells the i-th item -/
theorem lc_gen {J : It} {n : Nat} {G : Hp → Prop} {Y : Nat → Hp → V → Hp → Prop} (w : Walk J n G Y) {g : TG} {te : TE} {vs : List Nat} {σ : L2.St} {H1 : Hp} {D : Addr} {Qd : Hp → Prop}
    (I : Hp → Prop) (R : Nat → V → Prop) (hn : n ≤ 100000) (h0 : I (upd H1 D (.lst []))) (hG : ∀ H, I H → G H) (hU : ∀ H o, I H → I (upd H D o))
    (hs : ∀ i x H H' (Q : VK), i < n → I H → Y i H x H' → (∃ o, H D = some o) → (∀ y H4, R i y → I H4 → (∀ o, H D = some o → H4 D = some o) → Q y H4) → g x (wipe σ vs) H' fun σ2 H2 => wipe σ2 vs = wipe σ vs ∧ te σ2 H2 Q)
    (hd : ∀ H ys, I H → H D = some (.lst ys) → ys.length = n → (∀ i y, ys[i]? = some y → R i y) → Qd H) :
    ∃ W : Nat → Nat → Hp → Prop, (∃ m, W 0 m (upd H1 D (.lst []))) ∧ ∀ i m H, W i m H →
      (J.stop i H ∧ Qd H) ∨ (J.go i H ∧ ∃ Nx : Hp → Prop, (∀ H', Nx H' → ∃ m', m' < m ∧ W (i + 1) m' H') ∧ ∀ x H', J.yld i H x H' → g x (wipe σ vs) H' fun σ2 H2 => wipe σ2 vs = wipe σ vs ∧ tYes σ2 H2 fun b H3 =>
        if b = true then te σ2 H3 fun y H4 => ∃ acc, H4 D = some (.lst acc) ∧ acc.length < sizeLine ∧ Nx (upd H4 D (.lst (acc ++ [y]))) else Nx H3) := by
  refine lc_it w (fun i H => I H ∧ ∃ ys : List V, H D = some (.lst ys) ∧ ys.length = i ∧ ∀ j y, ys[j]? = some y → R j y) ⟨h0, [], upd_same, rfl, fun j y e => by simp at e⟩ (fun i H _ h => hG H h.1) ?_ ?_
  · rintro i x H H' hi ⟨hI, ys, hy, hl, hr⟩ hY
    refine hs i x H H' _ hi hI hY ⟨_, hy⟩ fun y H4 ry hI4 hk => ⟨ys, hk _ hy, szl (by omega), hU _ _ hI4, ys ++ [y], upd_same, by simp [hl], fun j z e => ?_⟩
    by_cases hj : j < ys.length
    · rw [List.getElem?_append_left hj] at e
      exact hr j z e
    · have hj2 : j = ys.length := by
        have := (List.getElem?_eq_some_iff.mp e).1
        simp at this
        omega
      subst hj2
      simp at e
      rw [← e, hl]
      exact ry
  · rintro H ⟨hI, ys, hy, hl, hr⟩
    exact hd H ys hI hy hl hr
/-- with a test: the items of the turns that are kept, by f -/
theorem lc_fil {J : It} {n : Nat} {G : Hp → Prop} {Y : Nat → Hp → V → Hp → Prop} (w : Walk J n G Y) {g : TG} {tt : TT} {te : TE} {vs : List Nat} {σ : L2.St} {H1 : Hp} {D : Addr} {Qd : Hp → Prop}
    (I : Hp → Prop) (f : Nat → Option V) (hn : n ≤ 100000) (h0 : I (upd H1 D (.lst []))) (hG : ∀ H, I H → G H) (hU : ∀ H o, I H → I (upd H D o))
    (hs : ∀ i x H H' (Q : VK) (Qn : Hp → Prop), i < n → I H → Y i H x H' → (∃ o, H D = some o) → (∀ y H4, f i = some y → I H4 → (∀ o, H D = some o → H4 D = some o) → Q y H4) → (∀ H4, f i = none → I H4 → (∀ o, H D = some o → H4 D = some o) → Qn H4) →
      g x (wipe σ vs) H' fun σ2 H2 => wipe σ2 vs = wipe σ vs ∧ tt σ2 H2 fun b H3 => if b = true then te σ2 H3 Q else Qn H3)
    (hd : ∀ H, I H → H D = some (.lst ((List.range n).filterMap f)) → Qd H) :
    ∃ W : Nat → Nat → Hp → Prop, (∃ m, W 0 m (upd H1 D (.lst []))) ∧ ∀ i m H, W i m H →
      (J.stop i H ∧ Qd H) ∨ (J.go i H ∧ ∃ Nx : Hp → Prop, (∀ H', Nx H' → ∃ m', m' < m ∧ W (i + 1) m' H') ∧ ∀ x H', J.yld i H x H' → g x (wipe σ vs) H' fun σ2 H2 => wipe σ2 vs = wipe σ vs ∧ tt σ2 H2 fun b H3 =>
        if b = true then te σ2 H3 fun y H4 => ∃ acc, H4 D = some (.lst acc) ∧ acc.length < sizeLine ∧ Nx (upd H4 D (.lst (acc ++ [y]))) else Nx H3) := by
  refine lc_it w (fun i H => I H ∧ H D = some (.lst ((List.range i).filterMap f))) ⟨h0, upd_same⟩ (fun i H _ h => hG H h.1) ?_ ?_
  · rintro i x H H' hi ⟨hI, hy⟩ hY
    have e : (List.range (i + 1)).filterMap f = (List.range i).filterMap f ++ (match f i with | some y => [y] | none => []) := by
      rw [List.range_succ, List.filterMap_append]
      cases h : f i <;> simp [h]
    have hl : ((List.range i).filterMap f).length ≤ i := by
      have := List.length_filterMap_le f (List.range i)
      rw [List.length_range] at this
      exact this
    refine hs i x H H' _ _ hi hI hY ⟨_, hy⟩ (fun y H4 ry hI4 hk => ⟨_, hk _ hy, szl (by omega), hU _ _ hI4, ?_⟩) (fun H4 ry hI4 hk => ⟨hI4, ?_⟩)
    · rw [upd_same, e, ry]
    · rw [hk _ hy, e, ry, List.append_nil]
  · rintro H ⟨hI, hy⟩
    exact hd H hI hy
theorem ys_map {α : Type} {l : List α} {f : α → V} {ys : List V} (hl : ys.length = l.length) (hr : ∀ (i : Nat) (y : V), ys[i]? = some y → ∃ c, l[i]? = some c ∧ y = f c) : ys = l.map f := by
  apply List.ext_getElem?
  intro i
  rw [List.getElem?_map]
  cases h : ys[i]? with
  | none =>
    have h1 := List.getElem?_eq_none_iff.mp h
    rw [List.getElem?_eq_none_iff.mpr (by omega)]
    rfl
  | some y =>
    obtain ⟨c, h1, h2⟩ := hr i y h
    rw [h1, h2]
    rfl
theorem all_dec {α : Type} {l : List α} {p : α → Prop} [DecidablePred p] : (l.map fun c => decide (p c)).all id = decide (∀ c ∈ l, p c) := by
  rw [Bool.eq_iff_iff]
  simp
theorem size_tl (z : Str) : z.cps.size = z.cps.toList.length := by simp
theorem len_tl (z : Str) : z.length = z.cps.toList.length := by simp [Str.length]
theorem get_tl (z : Str) (i : Nat) : z.cps[i]? = z.cps.toList[i]? := by simp
theorem pick_map {α : Type} {P : α → Prop} {f : α → V} : ∀ {ys : List V}, (∀ (i : Nat) (y : V), ys[i]? = some y → ∃ c, P c ∧ y = f c) → ∃ cs : List α, ys = cs.map f ∧ cs.length = ys.length ∧ ∀ c ∈ cs, P c
  | [], _ => ⟨[], rfl, rfl, fun _ h => nomatch h⟩
  | y :: r, h => by
    obtain ⟨c, hc, e⟩ := h 0 y rfl
    obtain ⟨cs, h1, h2, h3⟩ := pick_map (P := P) (f := f) (ys := r) fun i z hz => h (i + 1) z hz
    refine ⟨c :: cs, by rw [e, h1]; rfl, by simp [h2], fun x hx => ?_⟩
    rcases List.mem_cons.mp hx with rfl | hx
    · exact hc
    · exact h3 x hx
theorem fil_empty {f : Nat → Option V} {n : Nat} : (!(!((List.range n).filterMap f).isEmpty)) = decide (∀ i < n, f i = none) := by
  rw [Bool.eq_iff_iff]
  simp
/-- tuples stay what they are -/
def TupKeep (H H' : Hp) : Prop := ∀ c xs, H c = some (.tup xs) → H' c = some (.tup xs)
theorem TupKeep.of {H H' : Hp} (s : Same H H') : TupKeep H H' := fun _ _ h => s _ _ h
theorem TupKeep.put {H H' : Hp} {D : Addr} {xs ys : List V} (k : TupKeep H H') (e : H' D = some (.lst xs)) : TupKeep H (upd H' D (.lst ys)) := fun c zs h => by
  have h2 := k c zs h
  have n : c ≠ D := fun z => by
    rw [z, e] at h2
    cases h2
  rw [upd_ne n]
  exact h2
/-- as lc_gen, where what is told of the items stands in the heap -/
theorem lc_genH {J : It} {n : Nat} {G : Hp → Prop} {Y : Nat → Hp → V → Hp → Prop} (w : Walk J n G Y) {g : TG} {te : TE} {vs : List Nat} {σ : L2.St} {H1 : Hp} {D : Addr} {Qd : Hp → Prop}
    (I : Hp → Prop) (R : Nat → V → Hp → Prop) (hn : n ≤ 100000) (h0 : I (upd H1 D (.lst []))) (hG : ∀ H, I H → G H) (hU : ∀ H o, I H → I (upd H D o)) (hR : ∀ i y H H', TupKeep H H' → R i y H → R i y H')
    (hs : ∀ i x H H' (Q : VK), i < n → I H → Y i H x H' → (∃ xs, H D = some (.lst xs)) → (∀ y H4, R i y H4 → I H4 → TupKeep H H4 → (∀ o, H D = some o → H4 D = some o) → Q y H4) → g x (wipe σ vs) H' fun σ2 H2 => wipe σ2 vs = wipe σ vs ∧ te σ2 H2 Q)
    (hd : ∀ H ys, I H → H D = some (.lst ys) → ys.length = n → (∀ i y, ys[i]? = some y → R i y H) → Qd H) :
    ∃ W : Nat → Nat → Hp → Prop, (∃ m, W 0 m (upd H1 D (.lst []))) ∧ ∀ i m H, W i m H →
      (J.stop i H ∧ Qd H) ∨ (J.go i H ∧ ∃ Nx : Hp → Prop, (∀ H', Nx H' → ∃ m', m' < m ∧ W (i + 1) m' H') ∧ ∀ x H', J.yld i H x H' → g x (wipe σ vs) H' fun σ2 H2 => wipe σ2 vs = wipe σ vs ∧ tYes σ2 H2 fun b H3 =>
        if b = true then te σ2 H3 fun y H4 => ∃ acc, H4 D = some (.lst acc) ∧ acc.length < sizeLine ∧ Nx (upd H4 D (.lst (acc ++ [y]))) else Nx H3) := by
  refine lc_it w (fun i H => I H ∧ ∃ ys : List V, H D = some (.lst ys) ∧ ys.length = i ∧ ∀ j y, ys[j]? = some y → R j y H) ⟨h0, [], upd_same, rfl, fun j y e => by simp at e⟩ (fun i H _ h => hG H h.1) ?_ ?_
  · rintro i x H H' hi ⟨hI, ys, hy, hl, hr⟩ hY
    refine hs i x H H' _ hi hI hY ⟨_, hy⟩ fun y H4 ry hI4 tk hk => ⟨ys, hk _ hy, szl (by omega), hU _ _ hI4, ys ++ [y], upd_same, by simp [hl], fun j z e => ?_⟩
    by_cases hj : j < ys.length
    · rw [List.getElem?_append_left hj] at e
      exact hR _ _ _ _ (tk.put (hk _ hy)) (hr j z e)
    · have hj2 : j = ys.length := by
        have := (List.getElem?_eq_some_iff.mp e).1
        simp at this
        omega
      subst hj2
      simp at e
      rw [← e, hl]
      exact hR _ _ _ _ (TupKeep.put (fun _ _ h => h) (hk _ hy)) ry
  · rintro H ⟨hI, ys, hy, hl, hr⟩
    exact hd H ys hI hy hl hr

/-! ### len(o), repr(o) by own defs -/
section
variable {X : Cx} {CX : CXT} {k : Nat} {f C : Addr} {fd : FuncData} {ps : List Str} {sp : Sp} {E : XK}
/-- an own def called with the object alone, below the running body -/
theorem own_run {a : Addr} {A : Around} {pins : List (Addr × Obj)} {σ : L2.St} {H : Hp} {s : Shared} {Q : VK} {R E' : Value → Shared → Prop} (F : FnOk X.prog X.w X.K X.mg X.base CX k f fd ps sp) (sb : Sub X k A) (hb : Binds X.K fd ps [])
    (hx : ∀ e s', CX X.stack H s E e s' → E' e s') (I : Inv X pins σ H s) (h : sp [.ref a] H Q E) (q : ∀ u s', EP X pins σ Q u s' → R u s') :
    wpAny (model X.prog X.w) A (call (.ref f) [.ref a]) R E' s := by
  have e0 : Env0 X.prog X.w X.K X.mg X.base A X.stack s H := by
    have e := I.env0
    exact ⟨by rw [sb.fr]; exact e.frames, e.mod, e.bs, e.bsz, e.funs, e.frf, e.hok, e.bare⟩
  have hl := F.len _ _ _ _ h
  have r2 : Vals [V.ref a] [Value.ref a] := .cons rfl .nil
  refine wpAny_call (codeAny_mono (F.run A X.stack s H ⟨[.ref a], []⟩ [.ref a] [.ref a] _ E sb.room e0 (by
    have := hb s [.ref a] I.kIn (by simpa using hl)
    simpa using this) r2 h) fun r s' hq => ?_)
  cases r with
  | error e => exact hx e s' hq
  | ok fl =>
    cases fl with
    | ret w => exact q _ _ (I.after hq)
    | next => exact False.elim hq
    | brk => exact False.elim hq
    | cont => exact False.elim hq
/-- the class has an own def under a name -/
structure OwnDef (K : PySem.W.Frag) (C : Addr) (m : Str) (f : Addr) : Prop where
  at_ : PySem.W.findIn K (.ref C) m = some (some (.ref f))
  fn : PySem.W.isFn K (.ref f) = true
theorem call_ownlen (F : FnOk X.prog X.w X.K X.mg X.base CX k f fd ps sp) (hr : Room (k + 1) X.A) (d : OwnDef X.K C "__len__" f) (hb : Binds X.K fd ps []) (hx : Passes CX X E) :
    CallR X (.builtin "len") (fun xs H Q => ∃ (a dx : Addr) (fs : List (Str × V)), xs = [.ref a] ∧ H a = some (.ins C dx fs) ∧ sp [.ref a] H (fun v H' => ∃ n : Int, v = .int n ∧ 0 ≤ n ∧ n < 2 ^ 63 ∧ Q (.int n) H') E) := by
  intro pins s σ H xs us Q I r h
  obtain ⟨a, dx, fs, rfl, ha, h⟩ := h
  obtain ⟨u, rfl, ru⟩ := vals1 r
  obtain rfl : u = Value.ref a := ru
  obtain ⟨mA, J, _⟩ := ins_get I.hok ha
  obtain ⟨od, J, _⟩ := J.look
  refine Calls.call_function_entry kind_len plain_len entry_len (args_len1 _) ?_
  unfold Builtin.«len»
  refine wpAny_bind (m := oneArg "len" _) (wpAny_pure ?_)
  refine wpAny_bind (m := callSpecial? (.ref a) (PySem.Str.ofString "__len__")) (PySem.W.special_fn I.kIn J d.at_ (beq_iff_eq.mp d.fn) (own_run F ⟨hr.in1, rfl⟩ hb (fun e s' z => hx pins σ H s e s' I z) I h fun u s' z => ?_))
  obtain ⟨v, H', I', rv, n, rfl, n0, n1, q⟩ := z
  obtain ⟨t, rfl⟩ := rv
  refine wpAny_bind (wpAny_holding (wpAny_pure ?_))
  refine wpAny_bind (wpAny_letGo ?_)
  show wpAny _ _ (if n < 0 then _ else _) _ _ _
  rw [if_neg (by omega)]
  show wpAny _ _ (if n ≥ 2 ^ 63 then _ else _) _ _ _
  rw [if_neg (by omega)]
  exact wpAny_bind (wpAny_mkInt (wpAny_pure ⟨_, rfl, .int n, H', I'.tok _, ⟨_, rfl⟩, q⟩))
theorem call_ownrepr (F : FnOk X.prog X.w X.K X.mg X.base CX k f fd ps sp) (hr : Room (k + 1) X.A) (d : OwnDef X.K C "__repr__" f) (hb : Binds X.K fd ps []) (hx : Passes CX X E) :
    CallR X (.builtin "repr") (fun xs H Q => ∃ (a dx : Addr) (fs : List (Str × V)), xs = [.ref a] ∧ H a = some (.ins C dx fs) ∧ sp [.ref a] H (fun v H' => ∃ z : Str, v = .str z ∧ Q (.str z) H') E) := by
  intro pins s σ H xs us Q I r h
  obtain ⟨a, dx, fs, rfl, ha, h⟩ := h
  obtain ⟨u, rfl, ru⟩ := vals1 r
  obtain rfl : u = Value.ref a := ru
  obtain ⟨mA, J, _⟩ := ins_get I.hok ha
  obtain ⟨od, J, _⟩ := J.look
  refine Calls.call_function_entry PySem.F.kind_repr PySem.F.plain_repr PySem.F.entry_repr (PySem.F.args_repr1 _) ?_
  unfold Builtin.«repr»
  refine wpAny_bind (m := oneArg "repr" _) (wpAny_pure ?_)
  refine wpAny_bind (wpAny_cRoomFor hr.in1.units0 ?_)
  refine wpAny_bind (wpAny_bind (J.type.here ((PySem.W.looks_findIn I.kIn d.at_).here ?_)))
  refine wpAny_bind (m := callSpecialIfBound? (.ref a) (PySem.Str.ofString "__repr__")) (PySem.W.ifBound_K I.kIn J d.at_ d.fn (own_run F ⟨hr.in1, rfl⟩ hb (fun e s' z => hx pins σ H s e s' I z) I h fun u s' z => ?_))
  obtain ⟨v, H', I', rv, z, rfl, q⟩ := z
  obtain ⟨t, rfl⟩ := rv
  refine wpAny_bind (wpAny_isInstance (T := "str") (b := true) rfl isSubtype_str_str ?_)
  exact wpAny_pure ⟨_, rfl, .str z, H', I', ⟨t, rfl⟩, q⟩
end

/-! ### x in o by an own __contains__ -/
section
variable {X : Cx} {CX : CXT} {k : Nat} {f C : Addr} {fd : FuncData} {ps : List Str} {sp : Sp} {E : XK}
/-- an own def called with the object and one argument, below the running body -/
theorem own_run2 {a : Addr} {x : V} {v : Value} {A : Around} {pins : List (Addr × Obj)} {σ : L2.St} {H : Hp} {s : Shared} {Q : VK} {R E' : Value → Shared → Prop} (F : FnOk X.prog X.w X.K X.mg X.base CX k f fd ps sp) (sb : Sub X k A) (hb : Binds X.K fd ps [])
    (hx : ∀ e s', CX X.stack H s E e s' → E' e s') (I : Inv X pins σ H s) (rx : RelV x v) (h : sp [.ref a, x] H Q E) (q : ∀ u s', EP X pins σ Q u s' → R u s') :
    wpAny (model X.prog X.w) A (call (.ref f) [.ref a, v]) R E' s := by
  have e0 : Env0 X.prog X.w X.K X.mg X.base A X.stack s H := by
    have e := I.env0
    exact ⟨by rw [sb.fr]; exact e.frames, e.mod, e.bs, e.bsz, e.funs, e.frf, e.hok, e.bare⟩
  have hl := F.len _ _ _ _ h
  have r2 : Vals [V.ref a, x] [Value.ref a, v] := .cons rfl (.cons rx .nil)
  refine wpAny_call (codeAny_mono (F.run A X.stack s H ⟨[.ref a, v], []⟩ [.ref a, v] [.ref a, x] _ E sb.room e0 (by
    have := hb s [.ref a, v] I.kIn (by simpa using hl)
    simpa using this) r2 h) fun r s' hq => ?_)
  cases r with
  | error e => exact hx e s' hq
  | ok fl =>
    cases fl with
    | ret w => exact q _ _ (I.after hq)
    | next => exact False.elim hq
    | brk => exact False.elim hq
    | cont => exact False.elim hq
theorem op_ownIn (F : FnOk X.prog X.w X.K X.mg X.base CX k f fd ps sp) (hr : Room k X.A) (d : OwnDef X.K C "__contains__" f) (hb : Binds X.K fd ps []) (hx : Passes CX X E) :
    OpR X (compareOp .In) (fun x y H Q => ∃ (a dx : Addr) (fs : List (Str × V)), y = .ref a ∧ H a = some (.ins C dx fs) ∧ sp [.ref a, x] H (fun v H' => ∃ b : Bool, v = .bl b ∧ Q (.bl b) H') E) := by
  intro pins s σ H x y v u Q I rx ry h
  obtain ⟨a, dx, fs, rfl, ha, h⟩ := h
  obtain rfl : u = Value.ref a := ry
  obtain ⟨mA, J, _⟩ := ins_get I.hok ha
  obtain ⟨od, J, _⟩ := J.look
  unfold compareOp
  refine wpAny_bind (m := contains (.ref a) v) ?_
  unfold contains
  refine wpAny_holding ?_
  show wpAny _ _ (specialOf (.ref a) "__contains__" >>= _) _ _ _
  refine wpAny_bind (wpAny_bind (J.type.here ((PySem.W.looks_findIn I.kIn d.at_).here ?_)))
  have n1 : ¬ ((some (Value.ref f) == some Value.none) = true) := by
    intro z
    have : (some (Value.ref f) == some Value.none) = false := by rfl
    rw [this] at z
    cases z
  rw [if_neg n1]
  refine wpAny_bind (m := callSpecialUnlessNone? (.ref a) "__contains__" [v] _) ?_
  unfold callSpecialUnlessNone?
  refine wpAny_bind (wpAny_bind (J.type.here ((PySem.W.looks_findIn I.kIn d.at_).here ?_)))
  refine wpAny_holding (wpAny_bind ((PySem.W.bind_fn I.kIn _ (beq_iff_eq.mp d.fn)).here ?_))
  show wpAny _ _ (if (Value.ref f == Value.none) = true then _ else _) _ _ _
  have n2 : ¬ ((Value.ref f == Value.none) = true) := by
    intro z
    have : (Value.ref f == Value.none) = false := by rfl
    rw [this] at z
    cases z
  rw [if_neg n2]
  refine wpAny_bind (m := call (.ref f) [.ref a, v]) ?_
  refine own_run2 F ⟨hr, rfl⟩ hb (fun e s' z => hx pins σ H s e s' I z) I rx h fun u s' z => ?_
  obtain ⟨w', H', I', rv, b, rfl, q⟩ := z
  obtain rfl : u = .bool b := rv
  refine wpAny_pure ?_
  exact wpAny_truthy_bool (wpAny_pure ⟨.bl b, H', I', rfl, q⟩)
end

/-! ### raise C(), an own error without arguments -/
theorem pmk_oex0 {X : Cx} {CX : CXT} {x : Str} {C g : Addr} {k : Nat} {fd : FuncData} {ps : List Str} {sp : Sp} {p pos : Pos}
    (T : OexC X.K C)
    (iC : PySem.W.findIn X.K (.ref C) "__init__" = some (some (.ref g)))
    (tI : PySem.W.typeIn X.K (.ref g) = some (.type "function"))
    (F0 : FnOk X.prog X.w X.K X.mg X.base CX k g fd ps sp) (room : Room (k + 1) X.A)
    (bi : Binds X.K fd ps []) (px : Passes CX X (fun _ _ _ => False))
    (gl : Gl X x) (im : X.mg x = some (.ref C)) (nd : (x == ("__debug__" : Str)) = false := by decide) : PMk X (.Call (.Name x p) [] [] pos) (tMkO C sp [] tNil) := by
  intro pins s σ H Q I h
  obtain ⟨nm, q, N, bs, bm, sn, sub, ab, col, dd, a0, a1, a2, a3, a5, hC, hbm⟩ := T.cls
  refine wpAny_Call_Name_kw (ld_glob I gl im ?_ nd)
  refine PySem.W.callWith_K0 I.kIn T.kC ?_
  show wpAny _ _ (call (.ref C) []) _ _ _
  obtain ⟨hp, gs, dr, tk, os⟩ := s
  have up : hp.objs.size ≤ hp.objs.size + 1 := Nat.le_succ _
  have goal := h.2 (hp.objs.size + 1) (I.hok.fresh up)
  generalize hh2 : (hp.push (PySem.W.kdv_tup [])).push (PySem.HandSPX.excO C hp.objs.size) = h2
  have keep : ∀ b o, hp.get? b = some o → h2.get? b = some o := fun b o e => by
    rw [← hh2]
    exact Heap.get?_push_of_some _ (Heap.get?_push_of_some _ e)
  have there : h2.get? (hp.objs.size + 1) = some (PySem.HandSPX.excO C hp.objs.size) := by
    rw [← hh2]
    heap_get
  have J : Inv X pins σ (upd H (hp.objs.size + 1) (exo (hp.objs.size + 1) C none)) ⟨h2, gs, dr, tk, os⟩ :=
    I.laid (t' := tk) (a := hp.objs.size + 1) (o := exo (hp.objs.size + 1) C none) (h' := h2) keep up (exo_ok there)
  have one : Vals [V.ref (hp.objs.size + 1)] [Value.ref (hp.objs.size + 1)] := .cons rfl .nil
  have len : ([Value.ref (hp.objs.size + 1)] : List Value).length = ps.length := F0.len _ _ _ _ goal
  have run := F0.run _ X.stack _ _ ⟨[Value.ref (hp.objs.size + 1)], []⟩ [Value.ref (hp.objs.size + 1)] _ _ (fun _ _ _ => False) (room.make C [] []) (J.env0.make C [] []) (bi _ [Value.ref (hp.objs.size + 1)] J.kIn len) one goal
  refine wpAny_call (PySem.HandSPX.call_own F.excBase_ValueError (fun Y => PySem.HandSPX.refsVE_contains Y bm hbm) (I.kIn _ _ hC)
    (PySem.W.looks_findIn I.kIn iC) (fun self => PySem.W.bind_fn I.kIn self tI) (Nat.zero_le _) ?_)
  rw [hh2]
  refine codeAny_mono run fun r s' back => ?_
  match r, back with
  | .error er, back => exact px pins σ _ _ er s' J back
  | .ok (.ret u), back =>
    obtain ⟨v, H2, os2, bare2, un2, hok2, rv, ev, d, fs, ea, ed, hd1, q2⟩ := back
    subst ev
    obtain ⟨h3, g2, d2, t2, os'⟩ := s'
    exact ⟨rv, mk_end (raises_own T.exC T.tyC) I up keep un2 hok2 os2 bare2 ea ed hd1 q2⟩
  | .ok .next, back => exact False.elim back
  | .ok .brk, back => exact False.elim back
  | .ok .cont, back => exact False.elim back

/-! ### own operators: a & b, a | b of one class; -a -/
section
variable {X : Cx} {CX : CXT} {k : Nat} {f C : Addr} {fd : FuncData} {ps : List Str} {sp : Sp} {E : XK}
theorem op_ownBin {op : Operator} {nm : Str} (hn : PySem.dunder op.info.2 = nm) (F : FnOk X.prog X.w X.K X.mg X.base CX k f fd ps sp) (hr : Room k X.A) (d : OwnDef X.K C nm f) (sf : PySem.W.selfFirst X.K C = true) (hb : Binds X.K fd ps []) (hx : Passes CX X E) :
    OpR X (binaryOp op) (fun x y H Q => ∃ (a b dx dy : Addr) (fs gs : List (Str × V)), x = .ref a ∧ y = .ref b ∧ H a = some (.ins C dx fs) ∧ H b = some (.ins C dy gs) ∧ sp [.ref a, .ref b] H (fun v H' => ∃ c : Addr, v = .ref c ∧ Q (.ref c) H') E) := by
  intro pins s σ H x y v u Q I rx ry h
  obtain ⟨a, b, dx, dy, fs, gs, rfl, rfl, ha, hb2, h⟩ := h
  obtain rfl : v = Value.ref a := rx
  obtain rfl : u = Value.ref b := ry
  obtain ⟨mA, J, _⟩ := ins_get I.hok ha
  obtain ⟨od, J, _⟩ := J.look
  obtain ⟨mB, J2, _⟩ := ins_get I.hok hb2
  obtain ⟨od2, J2, _⟩ := J2.look
  obtain ⟨m, F0⟩ := I.fr
  refine PySem.W.binop_K F0 I.mod.kin J J2.type sf (by rw [hn]; exact d.at_) d.fn ?_
  refine own_run2 (x := V.ref b) F ⟨hr, rfl⟩ hb (fun e s' z => hx pins σ H s e s' I z) I rfl h fun u s' z => ?_
  obtain ⟨w', H', I', rv, c, rfl, q⟩ := z
  obtain rfl : u = .ref c := rv
  exact ⟨.ref c, H', I', rfl, q⟩
theorem un_ownNeg (F : FnOk X.prog X.w X.K X.mg X.base CX k f fd ps sp) (hr : Room k X.A) (d : OwnDef X.K C "__neg__" f) (hb : Binds X.K fd ps []) (hx : Passes CX X E) :
    UnR X (unaryOp .USub) (fun x H Q => ∃ (a dx : Addr) (fs : List (Str × V)), x = .ref a ∧ H a = some (.ins C dx fs) ∧ sp [.ref a] H (fun v H' => ∃ c : Addr, v = .ref c ∧ Q (.ref c) H') E) := by
  intro pins s σ H x v Q I rx h
  obtain ⟨a, dx, fs, rfl, ha, h⟩ := h
  obtain rfl : v = Value.ref a := rx
  obtain ⟨mA, J, _⟩ := ins_get I.hok ha
  obtain ⟨od, J, _⟩ := J.look
  obtain ⟨m, F0⟩ := I.fr
  refine PySem.W.ksp_neg F0 I.mod.kin J d.at_ d.fn ?_
  have e0 : Env0 X.prog X.w X.K X.mg X.base X.A X.stack s H := I.env0
  have hl := F.len _ _ _ _ h
  refine wpAny_call (codeAny_mono (F.run X.A X.stack s H ⟨[.ref a], []⟩ [.ref a] [.ref a] _ E hr e0 (by
    have := hb s [.ref a] I.kIn (by simpa using hl)
    simpa using this) (.cons rfl .nil) h) fun r s' hq => ?_)
  match r, hq with
  | .error e, hq => exact hx pins σ H s e s' I hq
  | .ok (.ret w), hq =>
    obtain ⟨w', H', I', rv, c, rfl, q⟩ := I.after hq
    obtain rfl : w = .ref c := rv
    exact ⟨.ref c, H', I', rfl, q⟩
  | .ok .next, hq => exact False.elim hq
  | .ok .brk, hq => exact False.elim hq
  | .ok .cont, hq => exact False.elim hq
end

/-! ### enumerate of a tuple -/
namespace EnT
open PySem
theorem drawT {prog : Program} {w : World} {A : Around} (hh : A.handled = none) (it l : Addr) (ne : l ≠ it) (its : Array Value) :
    Draws prog w A it [it, l] its.size (fun i v => its[i]? = some v) (fun i h => h.IsTupleIter it l i ∧ h.IsTuple l its) := {
  live := fun i h st => by
    obtain ⟨⟨o, ho, _⟩, _⟩ := st
    exact ⟨o, ho⟩
  frame := fun i h h' st keep => by
    obtain ⟨⟨o, ho, r⟩, ⟨u, hu, q⟩⟩ := st
    exact ⟨⟨o, keep it (by simp) o ho, r⟩, ⟨u, keep l (by simp) u hu, q⟩⟩
  item := fun i s Q E hi st k => RZ.nextOf_tuple_item st.1 st.2 (x := its[i]) (by simp [hi]) fun h' a b => k _ h' s.toks (by simp [hi]) ⟨a, st.2.extBut b.extBut ne⟩ b
  done := fun s Q E st k => RZ.nextOf_tuple_end hh st.1 st.2 (by simp) k }
theorem new_enumT (l : Addr) (its : Array Value) (n : Nat) (dct : Option Addr) (sl : Array (Option Value)) :
    Meets (Builtin.«enumerate.__new__» ⟨[.type "enumerate", .ref l], []⟩) (fun _ R s => s.heap.get? l = some { cls := .type "tuple", dict := dct, data := .seq its n, slots := sl } ∧
      R (.ok (.ret (.ref (s.heap.push { cls := .type "tuple_iterator", data := .fields #[.ref l, .int 0 0] }).objs.size)))
        { s with heap := (s.heap.push { cls := .type "tuple_iterator", data := .fields #[.ref l, .int 0 0] }).push { cls := .type "enumerate", data := .fields #[.none, .bool false, .ref s.heap.objs.size, rawInt 0, .none, .none] } }) := by
  refine .of_wp fun prog w A R s h => ?_
  obtain ⟨hp, g, d, tk, os⟩ := s
  obtain ⟨hl, fin⟩ := h
  have below := sub_enumerate
  have T : Heap.IsTuple (Shared.heap ⟨hp, g, d, tk, os⟩) l its := ⟨_, hl, rfl, n, rfl⟩
  wp_walk using AutoSeq1.wpAny_loadPart' hl
  refine wpAny_stack_any fun st => wpAny_pure ?_
  split
  · rename_i c _ _ _ _ _
    cases (c == Value.type "enumerate") <;> (wp_walk using AutoSeq1.wpAny_loadPart' hl, wpAny_pyIter_tuple T; exact ⟨_, rfl, fin⟩)
  · wp_walk using AutoSeq1.wpAny_loadPart' hl, wpAny_pyIter_tuple T
    exact ⟨_, rfl, fin⟩
theorem call_enumT {prog : Program} {w : World} {A : Around} {E : Value → Shared → Prop} {s : Shared} {l : Addr} {its : Array Value} {Q : Value → Shared → Prop} (T : s.heap.IsTuple l its)
    (k : ∀ h', IsEnum h' (s.heap.objs.size + 1) s.heap.objs.size 0 .none → h'.IsTupleIter s.heap.objs.size l 0 → (∀ b o, s.heap.get? b = some o → h'.get? b = some o) → Q (.ref (s.heap.objs.size + 1)) { s with heap := h' }) :
    wpAny (model prog w) A (call (.type "enumerate") [.ref l]) Q E s := by
  obtain ⟨⟨c, dct, dt, sl⟩, hl, hc, n, hd⟩ := T
  obtain rfl : c = .type "tuple" := hc
  obtain rfl : dt = .seq its n := hd
  refine callType_new F.called_enumerate (by decide) (F.typeCall_enumerate_1 _) (F.newCall_enumerate_1 _) (fun obj => F.args_object_init_2 obj _) F.entry_enumerate_new (new_enumT l its n dct sl) ⟨hl, ?_⟩
  have z : (s.heap.push { cls := .type "tuple_iterator", data := .fields #[.ref l, .int 0 0] }).objs.size = s.heap.objs.size + 1 := Heap.size_push ..
  show _ ∧ _
  rw [z]
  have en : IsEnum ((s.heap.push { cls := .type "tuple_iterator", data := .fields #[.ref l, .int 0 0] }).push { cls := .type "enumerate", data := .fields #[.none, .bool false, .ref s.heap.objs.size, rawInt 0, .none, .none] })
      (s.heap.objs.size + 1) s.heap.objs.size 0 .none := by
    have g := Heap.get?_push_size (s.heap.push { cls := .type "tuple_iterator", data := .fields #[.ref l, .int 0 0] }) (o := { cls := .type "enumerate", data := .fields #[.none, .bool false, .ref s.heap.objs.size, rawInt 0, .none, .none] }) rfl
    rw [z] at g
    exact g
  exact ⟨⟨_, en, rfl⟩, k _ en ⟨_, Heap.get?_push_of_some _ (Heap.get?_push_size _ rfl), rfl, rfl⟩ fun b o x => Heap.get?_push_of_some _ (Heap.get?_push_of_some _ x)⟩
end EnT
/-- the tuple at a, each item in a new pair with its place -/
def IteT (K : PySem.W.Frag) (a : Addr) : It := {
  go := fun i H => ∃ (xs : List V) (x : V), SqT K H a xs ∧ xs[i]? = some x
  yld := fun i H v H' => ∃ T x, v = .ref T ∧ H T = none ∧ H' = upd H T (.tup [.int (i : Nat), x]) ∧ ∀ xs, SqT K H a xs → xs[i]? = some x
  stop := fun i H => ∃ xs : List V, SqT K H a xs ∧ xs.length ≤ i }
theorem turn_enumT {P : Program} {w : World} {K : PySem.W.Frag} {elts : List Expr} {kk : Nat} {tpos : Pos} (a e it : Addr) :
    Turn P w K (.Tuple elts kk tpos) (IteT K a) [e, it] e (fun i h => (∃ old, IsEnum h e it ((i : Nat) : Int) old) ∧ h.IsTupleIter it a i ∧ e ≠ it) := {
  mem := by simp
  obj := fun i h st b hb => by
    obtain ⟨⟨old, he⟩, ⟨o, ho, hc, hd⟩, _⟩ := st
    have hb : b = e ∨ b = it := by simpa using hb
    rcases hb with rfl | rfl
    · exact ⟨_, he, fun v q => by cases q⟩
    · exact ⟨o, ho, fun v q => by rw [hd] at q; cases q⟩
  keep := fun i h h' st k => by
    obtain ⟨⟨old, he⟩, ⟨o, ho, r⟩, ne⟩ := st
    exact ⟨⟨old, k e (by simp) _ he⟩, ⟨o, k it (by simp) o ho, r⟩, ne⟩
  item := by
    intro X hP hw hK hc i pins s σ H E I hf st hg
    subst hP hw hK
    obtain ⟨⟨old, he⟩, hit, ne⟩ := st
    obtain ⟨xs, x, hq, hx⟩ := hg
    obtain ⟨its, rv, p, hz⟩ := I.tuple hq
    obtain ⟨u, hu, ru⟩ := rv.get hx
    have eT : ∀ {c : Addr} {o : Obj}, s.heap.get? c = some o → o.cls ≠ .type "tuple" → c ≠ a := fun {c} {o} h n z => by
      obtain ⟨o2, h2, c2, _⟩ := p
      rw [z, h2] at h
      cases h
      exact n c2
    have ea : e ≠ a := eT he (by simp)
    have ia : a ≠ it := by
      obtain ⟨o, ho, hc2, _⟩ := id hit
      exact (eT ho (by rw [hc2]; simp)).symm
    have le : e < s.heap.objs.size := Heap.lt_size he
    have li : it < s.heap.objs.size := by
      obtain ⟨_, ho, _⟩ := id hit
      exact Heap.lt_size ho
    have sz : i < its.toArray.size := by
      have := (List.getElem?_eq_some_iff.mp hu).1
      simpa using this
    have D := EnT.drawT (prog := X.prog) (w := X.w) (A := X.A.in1) (I.ok.hd hc) it a ia its.toArray
    refine wpAny_pyNext_enum_itemD D he (And.intro hit p) sz ne (by simp [ne, ea]) fun x2 h' tk hx2 ho st' hT hsz hk => ?_
    have eu : x2 = u := by
      have g : its[i]? = some x2 := by simpa using hx2
      rw [hu] at g
      exact (Option.some.inj g).symm
    subst eu
    refine ⟨_, rfl, wpAny_letOwnedTupleGo_enum (s := { s with heap := h', toks := tk + 1 }) ho fun h2 he2 sb => ?_⟩
    have hT2 : h2.get? s.heap.objs.size = some { cls := .type "tuple", data := .seq #[.int i tk, x2] } := by rw [sb.2 _ (Nat.ne_of_gt le)]; exact hT
    have fresh : ObjOk X.prog X.w (upd H s.heap.objs.size (.tup [.int (i : Nat), x])) h2 s.heap.objs.size (.tup [.int (i : Nat), x]) :=
      ⟨by show 2 ≤ sizeLine; decide, [.int i tk, x2], .cons ⟨_, rfl⟩ (.cons ru .nil), ⟨_, hT2, rfl, _, rfl⟩⟩
    have I1 : Inv X pins σ (upd H s.heap.objs.size (.tup [.int (i : Nat), x])) { s with heap := h2, toks := tk + 1 } := by
      refine I.turnedNew (ch := [e, it]) (fun b ob hb q => ?_) hf (Nat.le_refl _) fresh
      have n1 : b ≠ e := fun z => hb (by simp [z])
      have n2 : b ≠ it := fun z => hb (by simp [z])
      rw [sb.2 b n1]
      exact hk b ob n1 n2 q
    refine ⟨.ref s.heap.objs.size, _, I1, rfl, ⟨_, x, rfl, I.hok.fresh (Nat.le_refl _), rfl, fun ys hy => by rw [I.tuple_inj hy hq]; exact hx⟩, ⟨⟨x2, ?_⟩, ?_, ne⟩, fun b hb => ?_⟩
    · rw [show ((i + 1 : Nat) : Int) = (i : Int) + 1 by omega]
      exact he2
    · obtain ⟨o, ho2, r⟩ := st'.1
      exact ⟨o, by rw [sb.2 it (Ne.symm ne)]; exact ho2, r⟩
    · have hb2 : b = e ∨ b = it := by simpa using hb
      have lb : b < s.heap.objs.size := by rcases hb2 with rfl | rfl <;> assumption
      rw [upd_ne (Nat.ne_of_lt lb)]
      exact (hf b hb).1
  done := by
    intro X hP hw hK hc i pins s σ H E I hf st hg
    subst hP hw hK
    obtain ⟨⟨old, he⟩, hit, ne⟩ := st
    obtain ⟨xs, hq, hx⟩ := hg
    obtain ⟨its, rv, p, hz⟩ := I.tuple hq
    have ia : a ≠ it := fun z => by
      obtain ⟨o, ho, hc2, _⟩ := id hit
      obtain ⟨o2, h2, c2, _⟩ := id p
      rw [z, ho] at h2
      cases h2
      rw [hc2] at c2
      simp at c2
    obtain ⟨f0, f1, f2, f3, f4, f5⟩ := hf it (by simp)
    have hl := rv.length
    have hn : its.toArray.size ≤ i := by simp; omega
    -- the iterator stands at i, beyond the end
    have hT : s.TypeIs (.ref e) "enumerate" := ⟨_, he, rfl⟩
    unfold pyNext
    refine wpAny_bind (wpAny_attempt (wpAny_callSpecial?_slot (name := Str.ofString "__next__") hT F.slot_enumerate_next (wpAny_call_entry F.slot_enumerate_next hT F.entry_enumerate_next ?_ (F.args_enumerate_next_1 _))))
    show wpAny _ _ (field (.ref e) 2 >>= _) _ _ _
    refine wpAny_bind (wpAny_field he rfl (x := .ref it) rfl ?_)
    refine wpAny_bind (RZ.nextOf_tuple_end (I.ok.hd hc) hit p (by simpa using hn) fun h2 x k hx2 => ?_)
    obtain ⟨o, ho, hc2⟩ := hx2
    refine wpAny_bind (wpAny_isInstance (T := "StopIteration") (b := true) ⟨o, ho, hc2⟩ isSubtype_stop ?_)
    exact wpAny_pure ⟨rfl, I.turned (t' := s.toks) (fun b o hb q => k b o hb q) f0 f1 f3 f4 f5⟩
  self := fun A i s Q E st h => by
    obtain ⟨⟨_, he⟩, _⟩ := st
    exact wpAny_pyIter_enum he h }
def iEnumA (K : PySem.W.Frag) (ta : TA) : TI := fun σ H R => ta σ H fun vs H1 => ∃ a xs, vs = [.ref a] ∧ ((SqL K H1 a xs ∧ R (Ite K a) H1) ∨ (SqT K H1 a xs ∧ R (IteT K a) H1))
theorem pi_enumA {X : Cx} {e : Expr} {ta : TA} {p pos tpos : Pos} {elts : List Expr} {kk : Nat} (hg : Gl X "enumerate") (hm : X.mg "enumerate" = none) (ha : PA X [e] ta) (hs : starEach [e] X.env = [(false, eval e X.env)] := by rfl) :
    PI X (.Tuple elts kk tpos) (.Call (.Name "enumerate" p) [e] [] pos) (iEnumA X.K ta) := by
  refine ⟨fun pins s σ H R I h => ?_⟩
  refine Call_ (ld_blt I hg hm boot_enumerate (PyProof.Rows.callWith_type1 (thn (ha.run pos pins s σ H _ I h) fun us s1 ⟨vs, H1, I1, r1, q1⟩ => ?_) hs rfl))
  obtain ⟨a, xs, ex, q1⟩ := q1
  subst ex
  obtain ⟨u, rfl, ru⟩ := vals1 r1
  obtain rfl : u = Value.ref a := ru
  have two : ∀ b ∈ [s1.heap.objs.size + 1, s1.heap.objs.size], FpOk X pins H1 b := fun b hb => by
    have hb : b = s1.heap.objs.size + 1 ∨ b = s1.heap.objs.size := by simpa using hb
    have le : s1.heap.objs.size ≤ b := by omega
    exact I1.fpOk le (I1.hok.fresh le)
  rcases q1 with ⟨hq, q⟩ | ⟨hq, q⟩
  · obtain ⟨its, rv, p', hz⟩ := I1.list hq
    refine call_enumerate_list p'.isList fun h' he hit hsz hk => wpAny_pyIter_enum he ?_
    exact ⟨s1.heap.objs.size + 1, _, _, _, H1, rfl, I1.kept (t' := s1.toks) hk, turn_enum a (s1.heap.objs.size + 1) s1.heap.objs.size, ⟨⟨.none, he⟩, hit, Nat.succ_ne_self _⟩, two, q⟩
  · obtain ⟨its, rv, p', hz⟩ := I1.tuple hq
    refine EnT.call_enumT p' fun h' he hit hk => wpAny_pyIter_enum he ?_
    exact ⟨s1.heap.objs.size + 1, _, _, _, H1, rfl, I1.kept (t' := s1.toks) hk, turn_enumT a (s1.heap.objs.size + 1) s1.heap.objs.size, ⟨⟨.none, he⟩, hit, Nat.succ_ne_self _⟩, two, q⟩
theorem walk_enumT {K : PySem.W.Frag} {a : Addr} {xs : List V} : Walk (IteT K a) xs.length (fun H => SqT K H a xs) (YPair (fun i => some (.int (i : Nat))) (fun i => xs[i]?)) := by
  refine ⟨fun i _ hi q => ⟨xs, xs[i], q, by simp [hi]⟩, fun _ q => ⟨xs, q, Nat.le_refl _⟩, fun i H v H' _ q y => ?_⟩
  obtain ⟨T, x, e1, e2, e3, e4⟩ := y
  exact ⟨T, .int (i : Nat), x, e1, e2, e3, rfl, e4 xs q⟩

/-! ### the text -/
def top (i : Nat) : Stmt := PySem.Challenge.pw_onlyahead_k27_formulas_joined.main.body.getD i (.Pass ⟨0, 0, 0, 0⟩)
abbrev s_AlphabetsDiffer___init : Stmt := inClass (top 6) 0
abbrev N_AlphabetsDiffer___init : List Str := ["self"]
theorem sc_AlphabetsDiffer___init : FnScope N_AlphabetsDiffer___init ["self"] (defScope s_AlphabetsDiffer___init) := ⟨rfl, rfl, rfl, by decide +kernel, rfl, by decide +kernel, by decide +kernel⟩
abbrev s_Formula___and : Stmt := inClass (top 44) 10
abbrev N_Formula___and : List Str := ["self", "other", "lines"]
theorem sc_Formula___and : FnScope N_Formula___and ["self", "other"] (defScope s_Formula___and) := ⟨rfl, rfl, rfl, by decide +kernel, rfl, by decide +kernel, by decide +kernel⟩
abbrev s_Formula___contains : Stmt := inClass (top 44) 9
abbrev N_Formula___contains : List Str := ["self", "word"]
theorem sc_Formula___contains : FnScope N_Formula___contains ["self", "word"] (defScope s_Formula___contains) := ⟨rfl, rfl, rfl, by decide +kernel, rfl, by decide +kernel, by decide +kernel⟩
abbrev s_Formula___eq : Stmt := inClass (top 44) 14
abbrev N_Formula___eq : List Str := ["self", "other"]
theorem sc_Formula___eq : FnScope N_Formula___eq ["self", "other"] (defScope s_Formula___eq) := ⟨rfl, rfl, rfl, by decide +kernel, rfl, by decide +kernel, by decide +kernel⟩
abbrev s_Formula___init : Stmt := inClass (top 44) 1
abbrev N_Formula___init : List Str := ["self", "alphabet", "lines", "first"]
theorem sc_Formula___init : FnScope N_Formula___init ["self", "alphabet", "lines", "first"] (defScope s_Formula___init) := ⟨rfl, rfl, rfl, by decide +kernel, rfl, by decide +kernel, by decide +kernel⟩
abbrev s_Formula___len : Stmt := inClass (top 44) 13
abbrev N_Formula___len : List Str := ["self"]
theorem sc_Formula___len : FnScope N_Formula___len ["self"] (defScope s_Formula___len) := ⟨rfl, rfl, rfl, by decide +kernel, rfl, by decide +kernel, by decide +kernel⟩
abbrev s_Formula___neg : Stmt := inClass (top 44) 12
abbrev N_Formula___neg : List Str := ["self", "lines"]
theorem sc_Formula___neg : FnScope N_Formula___neg ["self"] (defScope s_Formula___neg) := ⟨rfl, rfl, rfl, by decide +kernel, rfl, by decide +kernel, by decide +kernel⟩
abbrev s_Formula___or : Stmt := inClass (top 44) 11
abbrev N_Formula___or : List Str := ["self", "other", "lines"]
theorem sc_Formula___or : FnScope N_Formula___or ["self", "other"] (defScope s_Formula___or) := ⟨rfl, rfl, rfl, by decide +kernel, rfl, by decide +kernel, by decide +kernel⟩
abbrev s_Formula___repr : Stmt := inClass (top 44) 15
abbrev N_Formula___repr : List Str := ["self"]
theorem sc_Formula___repr : FnScope N_Formula___repr ["self"] (defScope s_Formula___repr) := ⟨rfl, rfl, rfl, by decide +kernel, rfl, by decide +kernel, by decide +kernel⟩
abbrev s_Formula__both_lines : Stmt := inClass (top 44) 8
abbrev N_Formula__both_lines : List Str := ["self", "other", "kind", "behind", "lines", "line"]
theorem sc_Formula__both_lines : FnScope N_Formula__both_lines ["self", "other", "kind"] (defScope s_Formula__both_lines) := ⟨rfl, rfl, rfl, by decide +kernel, rfl, by decide +kernel, by decide +kernel⟩
abbrev s_Formula_alphabet : Stmt := inClass (top 44) 2
abbrev N_Formula_alphabet : List Str := ["self"]
theorem sc_Formula_alphabet : FnScope N_Formula_alphabet ["self"] (defScope s_Formula_alphabet) := ⟨rfl, rfl, rfl, by decide +kernel, rfl, by decide +kernel, by decide +kernel⟩
abbrev s_Formula_first : Stmt := inClass (top 44) 3
abbrev N_Formula_first : List Str := ["self"]
theorem sc_Formula_first : FnScope N_Formula_first ["self"] (defScope s_Formula_first) := ⟨rfl, rfl, rfl, by decide +kernel, rfl, by decide +kernel, by decide +kernel⟩
abbrev s_Formula_lines : Stmt := inClass (top 44) 6
abbrev N_Formula_lines : List Str := ["self"]
theorem sc_Formula_lines : FnScope N_Formula_lines ["self"] (defScope s_Formula_lines) := ⟨rfl, rfl, rfl, by decide +kernel, rfl, by decide +kernel, by decide +kernel⟩
abbrev s_Formula_truths : Stmt := inClass (top 44) 7
abbrev N_Formula_truths : List Str := ["self", "word"]
theorem sc_Formula_truths : FnScope N_Formula_truths ["self", "word"] (defScope s_Formula_truths) := ⟨rfl, rfl, rfl, by decide +kernel, rfl, by decide +kernel, by decide +kernel⟩
abbrev s_InvalidAlphabet___init : Stmt := inClass (top 2) 0
abbrev N_InvalidAlphabet___init : List Str := ["self", "given"]
theorem sc_InvalidAlphabet___init : FnScope N_InvalidAlphabet___init ["self", "given"] (defScope s_InvalidAlphabet___init) := ⟨rfl, rfl, rfl, by decide +kernel, rfl, by decide +kernel, by decide +kernel⟩
abbrev s_InvalidLine___init : Stmt := inClass (top 4) 0
abbrev N_InvalidLine___init : List Str := ["self", "at"]
theorem sc_InvalidLine___init : FnScope N_InvalidLine___init ["self", "at"] (defScope s_InvalidLine___init) := ⟨rfl, rfl, rfl, by decide +kernel, rfl, by decide +kernel, by decide +kernel⟩
abbrev s_InvalidWord___init : Stmt := inClass (top 3) 0
abbrev N_InvalidWord___init : List Str := ["self", "given"]
theorem sc_InvalidWord___init : FnScope N_InvalidWord___init ["self", "given"] (defScope s_InvalidWord___init) := ⟨rfl, rfl, rfl, by decide +kernel, rfl, by decide +kernel, by decide +kernel⟩
abbrev s_TooMany___init : Stmt := inClass (top 7) 0
abbrev N_TooMany___init : List Str := ["self", "subject", "most"]
theorem sc_TooMany___init : FnScope N_TooMany___init ["self", "subject", "most"] (defScope s_TooMany___init) := ⟨rfl, rfl, rfl, by decide +kernel, rfl, by decide +kernel, by decide +kernel⟩
abbrev s_accepts : Stmt := top 58
abbrev N_accepts : List Str := ["_law_lines", "_law_begin", "_law_text_here", "_law_last", "_law_counts", "_law_sign"]
theorem sc_accepts : FnScope N_accepts ["_law_lines", "_law_begin", "_law_text_here"] (defScope s_accepts) := ⟨rfl, rfl, rfl, by decide +kernel, rfl, by decide +kernel, by decide +kernel⟩
abbrev s_all_got : Stmt := top 52
abbrev N_all_got : List Str := ["_law_asks", "_law_ask"]
theorem sc_all_got : FnScope N_all_got ["_law_asks"] (defScope s_all_got) := ⟨rfl, rfl, rfl, by decide +kernel, rfl, by decide +kernel, by decide +kernel⟩
abbrev s_bag : Stmt := top 46
abbrev N_bag : List Str := ["_law_script", "_law_mixed", "_law_cell"]
theorem sc_bag : FnScope N_bag ["_law_script"] (defScope s_bag) := ⟨rfl, rfl, rfl, by decide +kernel, rfl, by decide +kernel, by decide +kernel⟩
abbrev s_field : Stmt := top 50
abbrev N_field : List Str := ["_law_e"]
theorem sc_field : FnScope N_field ["_law_e"] (defScope s_field) := ⟨rfl, rfl, rfl, by decide +kernel, rfl, by decide +kernel, by decide +kernel⟩
abbrev s_got : Stmt := top 51
abbrev N_got : List Str := ["_law_ask", "_law_said", "_law_e"]
theorem sc_got : FnScope N_got ["_law_ask"] (defScope s_got) := ⟨rfl, rfl, rfl, by decide +kernel, rfl, by decide +kernel, by decide +kernel⟩
abbrev s_moved : Stmt := top 59
abbrev N_moved : List Str := ["_law_line", "_law_many", "_law_ref"]
theorem sc_moved : FnScope N_moved ["_law_line", "_law_many"] (defScope s_moved) := ⟨rfl, rfl, rfl, by decide +kernel, rfl, by decide +kernel, by decide +kernel⟩
abbrev s_lnext : Stmt := top 57
abbrev N_lnext : List Str := ["_law_lines", "_law_last", "_law_counts", "_law_sign", "_law_found", "_law_many", "_law_at", "_law_line", "_law_some", "_law_ref"]
theorem sc_lnext : FnScope N_lnext ["_law_lines", "_law_last", "_law_counts", "_law_sign"] (defScope s_lnext) := ⟨rfl, rfl, rfl, by decide +kernel, rfl, by decide +kernel, by decide +kernel⟩
abbrev s_of : Stmt := top 48
abbrev N_of : List Str := ["_law_bag_here", "_law_some"]
theorem sc_of : FnScope N_of ["_law_bag_here", "_law_some"] (defScope s_of) := ⟨rfl, rfl, rfl, by decide +kernel, rfl, by decide +kernel, by decide +kernel⟩
abbrev s_pull : Stmt := top 47
abbrev N_pull : List Str := ["_law_bag_here", "_law_sides", "_law_cell", "_law_digit", "_law_twice"]
theorem sc_pull : FnScope N_pull ["_law_bag_here", "_law_sides"] (defScope s_pull) := ⟨rfl, rfl, rfl, by decide +kernel, rfl, by decide +kernel, by decide +kernel⟩
abbrev s_same : Stmt := top 49
abbrev N_same : List Str := ["_law_found", "_law_due", "_law_a", "_law_b"]
theorem sc_same : FnScope N_same ["_law_found", "_law_due"] (defScope s_same) := ⟨rfl, rfl, rfl, by decide +kernel, rfl, by decide +kernel, by decide +kernel⟩
abbrev s_saying : Stmt := top 55
abbrev N_saying : List Str := ["_law_bag_here", "_law_signs_here", "_law_many", "_law_kinds", "_law_lines", "_law_at", "_law_kind", "_law_near", "_law_prime", "_law_ref"]
theorem sc_saying : FnScope N_saying ["_law_bag_here", "_law_signs_here", "_law_many", "_law_kinds"] (defScope s_saying) := ⟨rfl, rfl, rfl, by decide +kernel, rfl, by decide +kernel, by decide +kernel⟩
abbrev s_signs : Stmt := top 53
abbrev N_signs : List Str := ["_law_bag_here", "_law_many", "_law_found", "_law_k", "_law_rest", "_law_sign"]
theorem sc_signs : FnScope N_signs ["_law_bag_here"] (defScope s_signs) := ⟨rfl, rfl, rfl, by decide +kernel, rfl, by decide +kernel, by decide +kernel⟩
abbrev s_some_signs : Stmt := top 56
abbrev N_some_signs : List Str := ["_law_bag_here", "_law_signs_here", "_law_sign"]
theorem sc_some_signs : FnScope N_some_signs ["_law_bag_here", "_law_signs_here"] (defScope s_some_signs) := ⟨rfl, rfl, rfl, by decide +kernel, rfl, by decide +kernel, by decide +kernel⟩
abbrev s_text : Stmt := top 54
abbrev N_text : List Str := ["_law_bag_here", "_law_signs_here", "_law_size", "_law_k"]
theorem sc_text : FnScope N_text ["_law_bag_here", "_law_signs_here", "_law_size"] (defScope s_text) := ⟨rfl, rfl, rfl, by decide +kernel, rfl, by decide +kernel, by decide +kernel⟩
abbrev s_wide_so : Stmt := top 60
abbrev N_wide_so : List Str := ["_law_flat", "_law_wide", "_law_less", "_law_asks", "_law_due"]
theorem sc_wide_so : FnScope N_wide_so [] (defScope s_wide_so) := ⟨rfl, rfl, rfl, by decide +kernel, rfl, by decide +kernel, by decide +kernel⟩
abbrev s_are_letters : Stmt := top 20
abbrev N_are_letters : List Str := ["alphabet", "value", "letter"]
theorem sc_are_letters : FnScope N_are_letters ["alphabet", "value"] (defScope s_are_letters) := ⟨rfl, rfl, rfl, by decide +kernel, rfl, by decide +kernel, by decide +kernel⟩
abbrev s_are_refs : Stmt := top 21
abbrev N_are_refs : List Str := ["value", "place", "at", "ref"]
theorem sc_are_refs : FnScope N_are_refs ["value", "place"] (defScope s_are_refs) := ⟨rfl, rfl, rfl, by decide +kernel, rfl, by decide +kernel, by decide +kernel⟩
abbrev s_can_stand : Stmt := top 19
abbrev N_can_stand : List Str := ["alphabet", "value", "place", "kind", "parts"]
theorem sc_can_stand : FnScope N_can_stand ["alphabet", "value", "place"] (defScope s_can_stand) := ⟨rfl, rfl, rfl, by decide +kernel, rfl, by decide +kernel, by decide +kernel⟩
abbrev s_check_lines : Stmt := top 18
abbrev N_check_lines : List Str := ["alphabet", "lines", "at", "line"]
theorem sc_check_lines : FnScope N_check_lines ["alphabet", "lines"] (defScope s_check_lines) := ⟨rfl, rfl, rfl, by decide +kernel, rfl, by decide +kernel, by decide +kernel⟩
abbrev s_is_alphabet : Stmt := top 27
abbrev N_is_alphabet : List Str := ["value", "at", "sign"]
theorem sc_is_alphabet : FnScope N_is_alphabet ["value"] (defScope s_is_alphabet) := ⟨rfl, rfl, rfl, by decide +kernel, rfl, by decide +kernel, by decide +kernel⟩
abbrev s_is_below : Stmt := top 12
abbrev N_is_below : List Str := ["value", "bound"]
theorem sc_is_below : FnScope N_is_below ["value", "bound"] (defScope s_is_below) := ⟨rfl, rfl, rfl, by decide +kernel, rfl, by decide +kernel, by decide +kernel⟩
abbrev s_is_listed : Stmt := top 13
abbrev N_is_listed : List Str := ["value"]
theorem sc_is_listed : FnScope N_is_listed ["value"] (defScope s_is_listed) := ⟨rfl, rfl, rfl, by decide +kernel, rfl, by decide +kernel, by decide +kernel⟩
abbrev s_is_number : Stmt := top 11
abbrev N_is_number : List Str := ["value"]
theorem sc_is_number : FnScope N_is_number ["value"] (defScope s_is_number) := ⟨rfl, rfl, rfl, by decide +kernel, rfl, by decide +kernel, by decide +kernel⟩
abbrev s_is_prime : Stmt := top 16
abbrev N_is_prime : List Str := ["value"]
theorem sc_is_prime : FnScope N_is_prime ["value"] (defScope s_is_prime) := ⟨rfl, rfl, rfl, by decide +kernel, rfl, by decide +kernel, by decide +kernel⟩
abbrev s_is_word : Stmt := top 28
abbrev N_is_word : List Str := ["alphabet", "value", "sign"]
theorem sc_is_word : FnScope N_is_word ["alphabet", "value"] (defScope s_is_word) := ⟨rfl, rfl, rfl, by decide +kernel, rfl, by decide +kernel, by decide +kernel⟩
abbrev s_last_truths : Stmt := top 23
abbrev N_last_truths : List Str := ["lines", "word", "truths", "counts", "letter", "_"]
theorem sc_last_truths : FnScope N_last_truths ["lines", "word"] (defScope s_last_truths) := ⟨rfl, rfl, rfl, by decide +kernel, rfl, by decide +kernel, by decide +kernel⟩
abbrev s_law : Stmt := top 61
abbrev N_law : List Str := ["_law_script", "_law_bag_here", "_law_kinds", "_law_turn_z", "_law_signs_here", "_law_left", "_law_right", "_law_a", "_law_b", "_law_one", "_law_other", "_law_many", "_law_rows", "_law_last", "_law_found", "_law_due", "_law_again", "_law_text_here", "_law_x", "_law_y", "_law_far", "_law_asks", "_law_k", "_law_line", "_law_late"]
theorem sc_law : FnScope N_law ["_law_script"] (defScope s_law) := ⟨rfl, rfl, rfl, by decide +kernel, rfl, by decide +kernel, by decide +kernel⟩
abbrev s_moved_line : Stmt := top 22
abbrev N_moved_line : List Str := ["line", "places", "kind", "ref"]
theorem sc_moved_line : FnScope N_moved_line ["line", "places"] (defScope s_moved_line) := ⟨rfl, rfl, rfl, by decide +kernel, rfl, by decide +kernel, by decide +kernel⟩
abbrev s_next_truths : Stmt := top 24
abbrev N_next_truths : List Str := ["lines", "letter", "past", "counts", "truths", "fresh", "at", "line", "kind", "truth", "ref"]
theorem sc_next_truths : FnScope N_next_truths ["lines", "letter", "past", "counts"] (defScope s_next_truths) := ⟨rfl, rfl, rfl, by decide +kernel, rfl, by decide +kernel, by decide +kernel⟩
/-! ### what the top holds -/
structure Env (K : PySem.W.Frag) (mg : Str → Option Value) where
  C_AheadError : Addr
  gC_AheadError : mg "AheadError" = some (.ref C_AheadError)
  C_Missing : Addr
  gC_Missing : mg "Missing" = some (.ref C_Missing)
  C_NothingLeft : Addr
  gC_NothingLeft : mg "NothingLeft" = some (.ref C_NothingLeft)
  C_AlphabetsDiffer : Addr
  gC_AlphabetsDiffer : mg "AlphabetsDiffer" = some (.ref C_AlphabetsDiffer)
  x_AlphabetsDiffer : OexC K C_AlphabetsDiffer
  y_AlphabetsDiffer : XfC K C_AlphabetsDiffer
  n_AlphabetsDiffer_code : PySem.W.findIn K (.ref C_AlphabetsDiffer) "code" = some none
  C_Formula : Addr
  gC_Formula : mg "Formula" = some (.ref C_Formula)
  cl_Formula : Cls K C_Formula
  n_Formula__alphabet : NoAttr K C_Formula "_alphabet"
  n_Formula__lines : NoAttr K C_Formula "_lines"
  n_Formula__first : NoAttr K C_Formula "_first"
  u_Formula_MOST : Value
  o_Formula_MOST : Con K C_Formula "MOST" (.int 4000) u_Formula_MOST
  C_InvalidAlphabet : Addr
  gC_InvalidAlphabet : mg "InvalidAlphabet" = some (.ref C_InvalidAlphabet)
  x_InvalidAlphabet : OexC K C_InvalidAlphabet
  y_InvalidAlphabet : XfC K C_InvalidAlphabet
  n_InvalidAlphabet_given : PySem.W.findIn K (.ref C_InvalidAlphabet) "given" = some none
  n_InvalidAlphabet_code : PySem.W.findIn K (.ref C_InvalidAlphabet) "code" = some none
  C_InvalidLine : Addr
  gC_InvalidLine : mg "InvalidLine" = some (.ref C_InvalidLine)
  x_InvalidLine : OexC K C_InvalidLine
  y_InvalidLine : XfC K C_InvalidLine
  n_InvalidLine_at : PySem.W.findIn K (.ref C_InvalidLine) "at" = some none
  n_InvalidLine_code : PySem.W.findIn K (.ref C_InvalidLine) "code" = some none
  C_InvalidWord : Addr
  gC_InvalidWord : mg "InvalidWord" = some (.ref C_InvalidWord)
  x_InvalidWord : OexC K C_InvalidWord
  y_InvalidWord : XfC K C_InvalidWord
  n_InvalidWord_given : PySem.W.findIn K (.ref C_InvalidWord) "given" = some none
  n_InvalidWord_code : PySem.W.findIn K (.ref C_InvalidWord) "code" = some none
  C_TooMany : Addr
  gC_TooMany : mg "TooMany" = some (.ref C_TooMany)
  x_TooMany : OexC K C_TooMany
  y_TooMany : XfC K C_TooMany
  n_TooMany_subject : PySem.W.findIn K (.ref C_TooMany) "subject" = some none
  n_TooMany_most : PySem.W.findIn K (.ref C_TooMany) "most" = some none
  n_TooMany_code : PySem.W.findIn K (.ref C_TooMany) "code" = some none
  sf_Formula : PySem.W.selfFirst K C_Formula = true
  isc_Formula : C8.InsC K C_Formula
  kl_Formula : PySem.W.kitOne K (.type "list") (.ref C_Formula) = some false
  e_AlphabetsDiffer : PySem.W.exmAny K (.ref C_AlphabetsDiffer) [.ref C_AheadError, .ref C_Missing, .ref C_NothingLeft] = some true
  e_InvalidAlphabet : PySem.W.exmAny K (.ref C_InvalidAlphabet) [.ref C_AheadError, .ref C_Missing, .ref C_NothingLeft] = some true
  e_InvalidLine : PySem.W.exmAny K (.ref C_InvalidLine) [.ref C_AheadError, .ref C_Missing, .ref C_NothingLeft] = some true
  e_InvalidWord : PySem.W.exmAny K (.ref C_InvalidWord) [.ref C_AheadError, .ref C_Missing, .ref C_NothingLeft] = some true
  e_TooMany : PySem.W.exmAny K (.ref C_TooMany) [.ref C_AheadError, .ref C_Missing, .ref C_NothingLeft] = some true
  f_AlphabetsDiffer___init : Addr
  fd_AlphabetsDiffer___init : FuncData
  F_AlphabetsDiffer___init : Fun K "__init__" "AlphabetsDiffer.__init__" s_AlphabetsDiffer___init f_AlphabetsDiffer___init fd_AlphabetsDiffer___init
  b_AlphabetsDiffer___init : Binds K fd_AlphabetsDiffer___init ["self"] []
  i_AlphabetsDiffer___init : PySem.W.findIn K (.ref C_AlphabetsDiffer) "__init__" = some (some (.ref f_AlphabetsDiffer___init))
  t_AlphabetsDiffer___init : PySem.W.typeIn K (.ref f_AlphabetsDiffer___init) = some (.type "function")
  f_Formula___and : Addr
  fd_Formula___and : FuncData
  F_Formula___and : Fun K "__and__" "Formula.__and__" s_Formula___and f_Formula___and fd_Formula___and
  b_Formula___and : Binds K fd_Formula___and ["self", "other"] []
  m_Formula___and : Meth K C_Formula "__and__" f_Formula___and
  f_Formula___contains : Addr
  fd_Formula___contains : FuncData
  F_Formula___contains : Fun K "__contains__" "Formula.__contains__" s_Formula___contains f_Formula___contains fd_Formula___contains
  b_Formula___contains : Binds K fd_Formula___contains ["self", "word"] []
  m_Formula___contains : Meth K C_Formula "__contains__" f_Formula___contains
  f_Formula___eq : Addr
  fd_Formula___eq : FuncData
  F_Formula___eq : Fun K "__eq__" "Formula.__eq__" s_Formula___eq f_Formula___eq fd_Formula___eq
  b_Formula___eq : Binds K fd_Formula___eq ["self", "other"] []
  m_Formula___eq : Meth K C_Formula "__eq__" f_Formula___eq
  f_Formula___init : Addr
  fd_Formula___init : FuncData
  F_Formula___init : Fun K "__init__" "Formula.__init__" s_Formula___init f_Formula___init fd_Formula___init
  b_Formula___init : KBn K fd_Formula___init ["self", "alphabet", "lines", "first"] 3 ["first"] (fun us ws => us ++ ws) (fun vs zs => vs ++ zs)
  k_Formula___init : Mk K C_Formula f_Formula___init
  kx_Formula___init : List Value
  kb_Formula___init : KBn K fd_Formula___init ["self", "alphabet", "lines", "first"] 3 [] (fun us _ => us ++ kx_Formula___init) (fun vs _ => vs ++ [.bl false])
  f_Formula___len : Addr
  fd_Formula___len : FuncData
  F_Formula___len : Fun K "__len__" "Formula.__len__" s_Formula___len f_Formula___len fd_Formula___len
  b_Formula___len : Binds K fd_Formula___len ["self"] []
  m_Formula___len : Meth K C_Formula "__len__" f_Formula___len
  f_Formula___neg : Addr
  fd_Formula___neg : FuncData
  F_Formula___neg : Fun K "__neg__" "Formula.__neg__" s_Formula___neg f_Formula___neg fd_Formula___neg
  b_Formula___neg : Binds K fd_Formula___neg ["self"] []
  m_Formula___neg : Meth K C_Formula "__neg__" f_Formula___neg
  f_Formula___or : Addr
  fd_Formula___or : FuncData
  F_Formula___or : Fun K "__or__" "Formula.__or__" s_Formula___or f_Formula___or fd_Formula___or
  b_Formula___or : Binds K fd_Formula___or ["self", "other"] []
  m_Formula___or : Meth K C_Formula "__or__" f_Formula___or
  f_Formula___repr : Addr
  fd_Formula___repr : FuncData
  F_Formula___repr : Fun K "__repr__" "Formula.__repr__" s_Formula___repr f_Formula___repr fd_Formula___repr
  b_Formula___repr : Binds K fd_Formula___repr ["self"] []
  m_Formula___repr : Meth K C_Formula "__repr__" f_Formula___repr
  f_Formula__both_lines : Addr
  fd_Formula__both_lines : FuncData
  F_Formula__both_lines : Fun K "_both_lines" "Formula._both_lines" s_Formula__both_lines f_Formula__both_lines fd_Formula__both_lines
  b_Formula__both_lines : Binds K fd_Formula__both_lines ["self", "other", "kind"] []
  m_Formula__both_lines : Meth K C_Formula "_both_lines" f_Formula__both_lines
  f_Formula_alphabet : Addr
  fd_Formula_alphabet : FuncData
  F_Formula_alphabet : Fun K "alphabet" "Formula.alphabet" s_Formula_alphabet f_Formula_alphabet fd_Formula_alphabet
  b_Formula_alphabet : Binds K fd_Formula_alphabet ["self"] []
  pa_Formula_alphabet : Addr
  p_Formula_alphabet : PropOf K C_Formula "alphabet" pa_Formula_alphabet f_Formula_alphabet
  f_Formula_first : Addr
  fd_Formula_first : FuncData
  F_Formula_first : Fun K "first" "Formula.first" s_Formula_first f_Formula_first fd_Formula_first
  b_Formula_first : Binds K fd_Formula_first ["self"] []
  pa_Formula_first : Addr
  p_Formula_first : PropOf K C_Formula "first" pa_Formula_first f_Formula_first
  f_Formula_lines : Addr
  fd_Formula_lines : FuncData
  F_Formula_lines : Fun K "lines" "Formula.lines" s_Formula_lines f_Formula_lines fd_Formula_lines
  b_Formula_lines : Binds K fd_Formula_lines ["self"] []
  m_Formula_lines : Meth K C_Formula "lines" f_Formula_lines
  f_Formula_truths : Addr
  fd_Formula_truths : FuncData
  F_Formula_truths : Fun K "truths" "Formula.truths" s_Formula_truths f_Formula_truths fd_Formula_truths
  b_Formula_truths : Binds K fd_Formula_truths ["self", "word"] []
  m_Formula_truths : Meth K C_Formula "truths" f_Formula_truths
  f_InvalidAlphabet___init : Addr
  fd_InvalidAlphabet___init : FuncData
  F_InvalidAlphabet___init : Fun K "__init__" "InvalidAlphabet.__init__" s_InvalidAlphabet___init f_InvalidAlphabet___init fd_InvalidAlphabet___init
  b_InvalidAlphabet___init : Binds K fd_InvalidAlphabet___init ["self", "given"] []
  i_InvalidAlphabet___init : PySem.W.findIn K (.ref C_InvalidAlphabet) "__init__" = some (some (.ref f_InvalidAlphabet___init))
  t_InvalidAlphabet___init : PySem.W.typeIn K (.ref f_InvalidAlphabet___init) = some (.type "function")
  f_InvalidLine___init : Addr
  fd_InvalidLine___init : FuncData
  F_InvalidLine___init : Fun K "__init__" "InvalidLine.__init__" s_InvalidLine___init f_InvalidLine___init fd_InvalidLine___init
  b_InvalidLine___init : Binds K fd_InvalidLine___init ["self", "at"] []
  i_InvalidLine___init : PySem.W.findIn K (.ref C_InvalidLine) "__init__" = some (some (.ref f_InvalidLine___init))
  t_InvalidLine___init : PySem.W.typeIn K (.ref f_InvalidLine___init) = some (.type "function")
  f_InvalidWord___init : Addr
  fd_InvalidWord___init : FuncData
  F_InvalidWord___init : Fun K "__init__" "InvalidWord.__init__" s_InvalidWord___init f_InvalidWord___init fd_InvalidWord___init
  b_InvalidWord___init : Binds K fd_InvalidWord___init ["self", "given"] []
  i_InvalidWord___init : PySem.W.findIn K (.ref C_InvalidWord) "__init__" = some (some (.ref f_InvalidWord___init))
  t_InvalidWord___init : PySem.W.typeIn K (.ref f_InvalidWord___init) = some (.type "function")
  f_TooMany___init : Addr
  fd_TooMany___init : FuncData
  F_TooMany___init : Fun K "__init__" "TooMany.__init__" s_TooMany___init f_TooMany___init fd_TooMany___init
  b_TooMany___init : Binds K fd_TooMany___init ["self", "subject", "most"] []
  i_TooMany___init : PySem.W.findIn K (.ref C_TooMany) "__init__" = some (some (.ref f_TooMany___init))
  t_TooMany___init : PySem.W.typeIn K (.ref f_TooMany___init) = some (.type "function")
  f_accepts : Addr
  fd_accepts : FuncData
  F_accepts : Fun K "_law_accepts" "_law_accepts" s_accepts f_accepts fd_accepts
  b_accepts : Binds K fd_accepts ["_law_lines", "_law_begin", "_law_text_here"] []
  g_accepts : mg "_law_accepts" = some (.ref f_accepts)
  f_all_got : Addr
  fd_all_got : FuncData
  F_all_got : Fun K "_law_all_got" "_law_all_got" s_all_got f_all_got fd_all_got
  b_all_got : Binds K fd_all_got ["_law_asks"] []
  g_all_got : mg "_law_all_got" = some (.ref f_all_got)
  f_bag : Addr
  fd_bag : FuncData
  F_bag : Fun K "_law_bag" "_law_bag" s_bag f_bag fd_bag
  b_bag : Binds K fd_bag ["_law_script"] []
  g_bag : mg "_law_bag" = some (.ref f_bag)
  f_field : Addr
  fd_field : FuncData
  F_field : Fun K "_law_field" "_law_field" s_field f_field fd_field
  b_field : Binds K fd_field ["_law_e"] []
  g_field : mg "_law_field" = some (.ref f_field)
  f_got : Addr
  fd_got : FuncData
  F_got : Fun K "_law_got" "_law_got" s_got f_got fd_got
  b_got : Binds K fd_got ["_law_ask"] []
  g_got : mg "_law_got" = some (.ref f_got)
  f_moved : Addr
  fd_moved : FuncData
  F_moved : Fun K "_law_moved" "_law_moved" s_moved f_moved fd_moved
  b_moved : Binds K fd_moved ["_law_line", "_law_many"] []
  g_moved : mg "_law_moved" = some (.ref f_moved)
  f_lnext : Addr
  fd_lnext : FuncData
  F_lnext : Fun K "_law_next_truths" "_law_next_truths" s_lnext f_lnext fd_lnext
  b_lnext : Binds K fd_lnext ["_law_lines", "_law_last", "_law_counts", "_law_sign"] []
  g_lnext : mg "_law_next_truths" = some (.ref f_lnext)
  f_of : Addr
  fd_of : FuncData
  F_of : Fun K "_law_of" "_law_of" s_of f_of fd_of
  b_of : Binds K fd_of ["_law_bag_here", "_law_some"] []
  g_of : mg "_law_of" = some (.ref f_of)
  f_pull : Addr
  fd_pull : FuncData
  F_pull : Fun K "_law_pull" "_law_pull" s_pull f_pull fd_pull
  b_pull : Binds K fd_pull ["_law_bag_here", "_law_sides"] []
  g_pull : mg "_law_pull" = some (.ref f_pull)
  f_same : Addr
  fd_same : FuncData
  F_same : Fun K "_law_same" "_law_same" s_same f_same fd_same
  b_same : Binds K fd_same ["_law_found", "_law_due"] []
  g_same : mg "_law_same" = some (.ref f_same)
  f_saying : Addr
  fd_saying : FuncData
  F_saying : Fun K "_law_saying" "_law_saying" s_saying f_saying fd_saying
  b_saying : Binds K fd_saying ["_law_bag_here", "_law_signs_here", "_law_many", "_law_kinds"] []
  g_saying : mg "_law_saying" = some (.ref f_saying)
  f_signs : Addr
  fd_signs : FuncData
  F_signs : Fun K "_law_signs" "_law_signs" s_signs f_signs fd_signs
  b_signs : Binds K fd_signs ["_law_bag_here"] []
  g_signs : mg "_law_signs" = some (.ref f_signs)
  f_some_signs : Addr
  fd_some_signs : FuncData
  F_some_signs : Fun K "_law_some_signs" "_law_some_signs" s_some_signs f_some_signs fd_some_signs
  b_some_signs : Binds K fd_some_signs ["_law_bag_here", "_law_signs_here"] []
  g_some_signs : mg "_law_some_signs" = some (.ref f_some_signs)
  f_text : Addr
  fd_text : FuncData
  F_text : Fun K "_law_text" "_law_text" s_text f_text fd_text
  b_text : Binds K fd_text ["_law_bag_here", "_law_signs_here", "_law_size"] []
  g_text : mg "_law_text" = some (.ref f_text)
  f_wide_so : Addr
  fd_wide_so : FuncData
  F_wide_so : Fun K "_law_wide_so" "_law_wide_so" s_wide_so f_wide_so fd_wide_so
  b_wide_so : Binds K fd_wide_so [] []
  g_wide_so : mg "_law_wide_so" = some (.ref f_wide_so)
  f_are_letters : Addr
  fd_are_letters : FuncData
  F_are_letters : Fun K "are_letters" "are_letters" s_are_letters f_are_letters fd_are_letters
  b_are_letters : Binds K fd_are_letters ["alphabet", "value"] []
  g_are_letters : mg "are_letters" = some (.ref f_are_letters)
  f_are_refs : Addr
  fd_are_refs : FuncData
  F_are_refs : Fun K "are_refs" "are_refs" s_are_refs f_are_refs fd_are_refs
  b_are_refs : Binds K fd_are_refs ["value", "place"] []
  g_are_refs : mg "are_refs" = some (.ref f_are_refs)
  f_can_stand : Addr
  fd_can_stand : FuncData
  F_can_stand : Fun K "can_stand" "can_stand" s_can_stand f_can_stand fd_can_stand
  b_can_stand : Binds K fd_can_stand ["alphabet", "value", "place"] []
  g_can_stand : mg "can_stand" = some (.ref f_can_stand)
  f_check_lines : Addr
  fd_check_lines : FuncData
  F_check_lines : Fun K "check_lines" "check_lines" s_check_lines f_check_lines fd_check_lines
  b_check_lines : Binds K fd_check_lines ["alphabet", "lines"] []
  g_check_lines : mg "check_lines" = some (.ref f_check_lines)
  f_is_alphabet : Addr
  fd_is_alphabet : FuncData
  F_is_alphabet : Fun K "is_alphabet" "is_alphabet" s_is_alphabet f_is_alphabet fd_is_alphabet
  b_is_alphabet : Binds K fd_is_alphabet ["value"] []
  g_is_alphabet : mg "is_alphabet" = some (.ref f_is_alphabet)
  f_is_below : Addr
  fd_is_below : FuncData
  F_is_below : Fun K "is_below" "is_below" s_is_below f_is_below fd_is_below
  b_is_below : Binds K fd_is_below ["value", "bound"] []
  g_is_below : mg "is_below" = some (.ref f_is_below)
  f_is_listed : Addr
  fd_is_listed : FuncData
  F_is_listed : Fun K "is_listed" "is_listed" s_is_listed f_is_listed fd_is_listed
  b_is_listed : Binds K fd_is_listed ["value"] []
  g_is_listed : mg "is_listed" = some (.ref f_is_listed)
  f_is_number : Addr
  fd_is_number : FuncData
  F_is_number : Fun K "is_number" "is_number" s_is_number f_is_number fd_is_number
  b_is_number : Binds K fd_is_number ["value"] []
  g_is_number : mg "is_number" = some (.ref f_is_number)
  f_is_prime : Addr
  fd_is_prime : FuncData
  F_is_prime : Fun K "is_prime" "is_prime" s_is_prime f_is_prime fd_is_prime
  b_is_prime : Binds K fd_is_prime ["value"] []
  g_is_prime : mg "is_prime" = some (.ref f_is_prime)
  f_is_word : Addr
  fd_is_word : FuncData
  F_is_word : Fun K "is_word" "is_word" s_is_word f_is_word fd_is_word
  b_is_word : Binds K fd_is_word ["alphabet", "value"] []
  g_is_word : mg "is_word" = some (.ref f_is_word)
  f_last_truths : Addr
  fd_last_truths : FuncData
  F_last_truths : Fun K "last_truths" "last_truths" s_last_truths f_last_truths fd_last_truths
  b_last_truths : Binds K fd_last_truths ["lines", "word"] []
  g_last_truths : mg "last_truths" = some (.ref f_last_truths)
  f_law : Addr
  fd_law : FuncData
  F_law : Fun K "law" "law" s_law f_law fd_law
  b_law : Binds K fd_law ["_law_script"] []
  g_law : mg "law" = some (.ref f_law)
  f_moved_line : Addr
  fd_moved_line : FuncData
  F_moved_line : Fun K "moved_line" "moved_line" s_moved_line f_moved_line fd_moved_line
  b_moved_line : Binds K fd_moved_line ["line", "places"] []
  g_moved_line : mg "moved_line" = some (.ref f_moved_line)
  f_next_truths : Addr
  fd_next_truths : FuncData
  F_next_truths : Fun K "next_truths" "next_truths" s_next_truths f_next_truths fd_next_truths
  b_next_truths : Binds K fd_next_truths ["lines", "letter", "past", "counts"] []
  g_next_truths : mg "next_truths" = some (.ref f_next_truths)
  z_abs : mg "abs" = none
  z_all : mg "all" = none
  z_any : mg "any" = none
  z_bool : mg "bool" = none
  z_dict : mg "dict" = none
  z_enumerate : mg "enumerate" = none
  z_int : mg "int" = none
  z_isinstance : mg "isinstance" = none
  z_len : mg "len" = none
  z_list : mg "list" = none
  z_max : mg "max" = none
  z_min : mg "min" = none
  z_range : mg "range" = none
  z_repr : mg "repr" = none
  z_sorted : mg "sorted" = none
  z_str : mg "str" = none
  z_tuple : mg "tuple" = none
  z_zip : mg "zip" = none
  t_MOST_LETTERS : Tok
  c_MOST_LETTERS : mg "MOST_LETTERS" = some (.int 4 t_MOST_LETTERS)
  r_PRIMES : Addr
  gt_PRIMES : mg "PRIMES" = some (.ref r_PRIMES)
  st_PRIMES : ∀ H, SqT K H r_PRIMES (([2, 3, 5, 7, 11, 13, 17, 19, 23, 29, 31, 37, 41, 43, 47, 53, 59, 61, 67, 71, 73, 79, 83, 89, 97] : List Int).map V.int)

/-! ### the draws -/
def spBag (K : PySem.W.Frag) : Sp := fun vs H Q _ => ∃ (a : Addr) (ns : List Int), vs = [.ref a] ∧ SqL K H a (ns.map V.int) ∧ ns.length ≤ 63 ∧
  ∀ b l H', H b = none → H l = none → BagAt b l H' → Same H H' → Q (.ref b) H'
def spPull : Sp := fun vs H Q _ => ∃ (b l : Addr) (n : Int), vs = [.ref b, .int n] ∧ BagAt b l H ∧ 0 < n ∧ n < 1000000000 ∧
  ∀ k H', 0 ≤ k → k < n → BagAt b l H' → Kp b H H' → Q (.int k) H'
def spOf (K : PySem.W.Frag) : Sp := fun vs H Q _ => ∃ (b l : Addr) (x : V), vs = [.ref b, x] ∧ BagAt b l H ∧
  ((∃ p xs, x = .ref p ∧ p ≠ b ∧ (SqL K H p xs ∨ SqT K H p xs) ∧ xs ≠ [] ∧ xs.length ≤ 100000 ∧ ∀ v H', v ∈ xs → BagAt b l H' → Kp b H H' → Q v H') ∨
   (∃ z : Str, x = .str z ∧ z.length ≠ 0 ∧ z.length ≤ 100000 ∧ ∀ c H', c ∈ z.cps.toList → BagAt b l H' → Kp b H H' → Q (.str ⟨#[c]⟩) H'))
section
variable {P : Program} {w : World} {K : PySem.W.Frag} {mg : Str → Option Value} {base : Heap}
theorem modlt (a : Int) : 0 ≤ a % 2147483629 ∧ a % 2147483629 < 2147483629 := ⟨Int.emod_nonneg _ (by decide), Int.emod_lt_of_pos _ (by decide)⟩
theorem cut63 {xs : List V} (h : xs.length ≤ 63) : cutV xs none (some 63) = xs := by
  unfold cutV
  rw [show HT.sIx xs.length xs.length (some 63) = min 63 xs.length from HT.sIx_nat _ _ 63, HT.sIx_none, Nat.min_eq_right h]
  show xs.take (xs.length - 0) = xs
  exact List.take_length
theorem int_of {ns : List Int} {i : Nat} {y : V} (h : (ns.map V.int)[i]? = some y) : ∃ n, y = .int n := by
  rw [List.getElem?_map] at h
  cases e : ns[i]? with
  | none => rw [e] at h; cases h
  | some n => rw [e] at h; exact ⟨n, (Option.some.inj h).symm⟩
theorem ok_bag (T : Env K mg) : FnOk P w K mg base CX0 1 T.f_bag T.fd_bag ["_law_script"] (spBag K) := by
  refine T.F_bag.ok sc_bag (fun vs H Q E h => ?_) (fun cdv A outer s H vs Q E hr h => ⟨_, ((pss_cons (ps_set (i := 1) sc_bag.nd rfl (.inl rfl) pe_int)
      (pss_cons (ps_for PassesOwn.never rfl (pi_list (pe_slice sl_list (pv 0) po_none (po_some pe_int))) (pg_name (i := 2) sc_bag.nd rfl (.inl rfl))
      (pss_one (ps_set (i := 1) sc_bag.nd rfl (.inl rfl) (pe_op op_mod (pe_callTy call_int1 (by rfl) T.z_int (by decide +kernel) (pa_cons (pe_op op_add (pe_op op_add (pe_op op_mul (pv 1) pe_int) (pe_op op_mul (pe_op op_mod (pe_callTy call_int1 (by rfl) T.z_int (by decide +kernel) (pa_cons (pv 2) pa_nil)) pe_int) pe_int)) pe_int) pa_nil)) pe_int))))
      (pss_one (ps_ret (pe_lst (pa_cons (pe_callTy call_list_of (by rfl) T.z_list (by decide +kernel) (pa_cons (pe_slice sl_list (pv 0) po_none (po_some pe_int)) pa_nil)) (pa_cons pe_int (pa_cons pe_int (pa_cons (pv 1) (pa_cons pe_int pa_nil))))))))))), ?_⟩)
  · obtain ⟨a, ns, rfl, _⟩ := h
    rfl
  · obtain ⟨a, ns, rfl, hS, hlen, q⟩ := h
    have ec : cutV (ns.map V.int) none (some 63) = ns.map V.int := cut63 (by rw [List.length_map]; exact hlen)
    walk_at "ss"
    intro p hp
    rw [ec]
    have s1 : Same H (upd H p (.lst (ns.map V.int))) := same_upd hp
    refine ⟨_, rfl, ⟨_, SqL.of upd_same⟩, for_list (xs := ns.map V.int) (fun i σ H' => Stp (H' = upd H p (.lst (ns.map V.int)) ∧ ∃ (m : Int) (y : Option V), σ = [some (.ref a), some (.int m), y] ∧ 0 ≤ m ∧ m < 2147483629))
      (.mk ⟨rfl, 5632, none, rfl, by decide, by decide⟩) (fun i σ H' _ h => by rw [h.of.1]; exact SqL.of upd_same) ?_ ?_⟩
    · rintro i x σ H' hx hP
      obtain ⟨rfl, m, y, rfl, h0, h1⟩ := hP.of
      obtain ⟨n, rfl⟩ := int_of hx
      walk_at "ss"
      exact .mk ⟨rfl, _, _, rfl, (modlt _).1, (modlt _).2⟩
    · rintro σ H' hP
      obtain ⟨rfl, m, y, rfl, h0, h1⟩ := hP.of
      walk_at "ss"
      refine ⟨_, _, rfl, s1.seq hS, ?_⟩
      intro p2 hp2
      rw [ec]
      refine ⟨_, _, rfl, .inl (SqL.of upd_same), ?_⟩
      intro l hl
      walk_at "ss"
      intro b hb
      have s2 := s1.trans (same_upd (o := .lst (ns.map V.int)) hp2)
      have s3 := s2.trans (same_upd (o := .lst (ns.map V.int)) hl)
      have s4 := s3.trans (same_upd (o := .lst [V.ref l, V.int 0, V.int 0, V.int m, V.int 0]) hb)
      have nl : l ≠ b := (ne_none hb upd_same).symm
      exact q b l _ (s3.free hb) (s2.free hl) ⟨⟨0, 0, m, 0, ns, upd_same, by rw [upd_ne nl]; exact upd_same, hlen, by decide, by omega, by decide, h0, h1⟩, nl⟩ s4
theorem ok_pull (T : Env K mg) : FnOk P w K mg base CX0 1 T.f_pull T.fd_pull ["_law_bag_here", "_law_sides"] spPull := by
  refine T.F_pull.ok sc_pull (fun vs H Q E h => ?_) (fun cdv A outer s H vs Q E hr h => ⟨_, ((pss_cons (ps_asg (pe_op op_add (pe_ix ix_list (pv 0) pe_int (fun _ _ => rfl)) pe_int) (pg_sub (pv 0) pe_int set_list))
      (C8.pss_cut (ps_if (PW.pt (pw_and (pt_cmpR op_eq (pe_ix ix_list (pv 0) pe_int (fun _ _ => rfl)) pe_int (nomark _)) (pw_and1 (pt_cmpR op_lt (pe_ix ix_list (pv 0) pe_int (fun _ _ => rfl)) (pe_callB call_len_seq (by rfl) T.z_len (by decide +kernel) (pa_cons (pe_ix ix_list (pv 0) pe_int (fun _ _ => rfl)) pa_nil)) (nomark _)))))
      (pss_cons (ps_set (i := 2) sc_pull.nd rfl (.inl rfl) (pe_ix ix_list (pe_ix ix_list (pv 0) pe_int (fun _ _ => rfl)) (pe_ix ix_list (pv 0) pe_int (fun _ _ => rfl)) (fun _ _ => rfl)))
      (pss_cons (ps_asg (pe_op op_add (pe_ix ix_list (pv 0) pe_int (fun _ _ => rfl)) pe_int) (pg_sub (pv 0) pe_int set_list))
      (pss_one (ps_if (pt_cmpR op_ge (pe_callB call_abs (by rfl) T.z_abs (by decide +kernel) (pa_cons (pv 2) pa_nil)) (pe_op op_pow pe_int pe_int) (nomark _))
      (pss_one (ps_asg (pe_callB call_abs (by rfl) T.z_abs (by decide +kernel) (pa_cons (pv 2) pa_nil)) (pg_sub (pv 0) pe_int set_list)))
      (pss_one (ps_asg (pe_op op_mod (pe_callTy call_int1 (by rfl) T.z_int (by decide +kernel) (pa_cons (pe_op op_add (pe_op op_add (pe_op op_mul (pe_ix ix_list (pv 0) pe_int (fun _ _ => rfl)) pe_int) (pe_op op_mul (pe_op op_mod (pe_callTy call_int1 (by rfl) T.z_int (by decide +kernel) (pa_cons (pv 2) pa_nil)) pe_int) pe_int)) pe_int) pa_nil)) pe_int) (pg_sub (pv 0) pe_int set_list)))))))
      pss_nil)
      (pss_cons (ps_if (pt_cmpR op_gt (pe_ix ix_list (pv 0) pe_int (fun _ _ => rfl)) pe_int (nomark _))
      (pss_cons (ps_set (i := 3) sc_pull.nd rfl (.inl rfl) (pe_op op_mod (pe_callTy call_int1 (by rfl) T.z_int (by decide +kernel) (pa_cons (pe_ix ix_list (pv 0) pe_int (fun _ _ => rfl)) pa_nil)) (pv 1)))
      (pss_cons (ps_asg (pe_op op_fdiv (pe_ix ix_list (pv 0) pe_int (fun _ _ => rfl)) (pv 1)) (pg_sub (pv 0) pe_int set_list))
      (pss_one (ps_ret (pv 3)))))
      pss_nil)
      (pss_cons (ps_set (i := 4) sc_pull.nd rfl (.inl rfl) (pe_op op_mod (pe_callTy call_int1 (by rfl) T.z_int (by decide +kernel) (pa_cons (pe_op op_add (pe_op op_mul (pe_ix ix_list (pv 0) pe_int (fun _ _ => rfl)) (pe_ix ix_list (pv 0) pe_int (fun _ _ => rfl))) (pe_op op_mul (pe_ix ix_list (pv 0) pe_int (fun _ _ => rfl)) pe_int)) pa_nil)) pe_int))
      (pss_cons (ps_asg (pe_op op_mod (pe_callTy call_int1 (by rfl) T.z_int (by decide +kernel) (pa_cons (pe_op op_add (pe_op op_add (pe_op op_mul (pv 4) pe_int) (pe_op op_mul (pe_ix ix_list (pv 0) pe_int (fun _ _ => rfl)) pe_int)) pe_int) pa_nil)) pe_int) (pg_sub (pv 0) pe_int set_list))
      (pss_one (ps_ret (pe_op op_mod (pe_callTy call_int1 (by rfl) T.z_int (by decide +kernel) (pa_cons (pe_op op_fdiv (pe_ix ix_list (pv 0) pe_int (fun _ _ => rfl)) pe_int) pa_nil)) (pv 1)))))))))), ?_⟩)
  · obtain ⟨b, l, n, rfl, _⟩ := h
    rfl
  · obtain ⟨b, l, n, rfl, ⟨⟨i, r, m, c, ns, hb, hl, h63, i0, i1, r0, m0, m1⟩, nlb⟩, n0, n1, q⟩ := h
    walk_at "ss"
    refine ⟨fun σ' H' => Stp (∃ (i r m c : Int) (y2 : Option V), σ' = [some (.ref b), some (.int n), y2, none, none] ∧ H' b = some (.lst [.ref l, .int i, .int r, .int m, .int c]) ∧ H' l = some (.lst (ns.map V.int)) ∧
      0 ≤ i ∧ i ≤ ns.length ∧ 0 ≤ r ∧ 0 ≤ m ∧ m < 2147483629 ∧ Kp b H H'), ?_, fun σ' H' hM => ?_⟩
    · walk_at "ss"
      have hl1 : ∀ o, (upd H b o) l = some (.lst (ns.map V.int)) := fun o => by rw [upd_ne nlb]; exact hl
      have hl2 : ∀ o u, (upd (upd H b o) b u) l = some (.lst (ns.map V.int)) := fun o u => by rw [upd_ne nlb, upd_ne nlb]; exact hl
      have hl3 : ∀ o u v, (upd (upd (upd H b o) b u) b v) l = some (.lst (ns.map V.int)) := fun o u v => by rw [upd_ne nlb, upd_ne nlb, upd_ne nlb]; exact hl
      have k1 : ∀ o, Kp b H (upd H b o) := fun o => (Kp.refl b H).put
      refine ite2 (fun e => ?_) (fun e => ?_)
      · walk_at "ss"
        refine ⟨_, _, rfl, .inl (SqL.of (hl1 _)), ?_⟩
        walk_at "ss"
        refine ite2 (fun e2 => ?_) (fun e2 => ?_)
        · have e2 : i < (ns.map V.int).length := of_decide_eq_true e2
          obtain ⟨v, hv, hm⟩ := at_in i0 e2
          obtain ⟨z, -, rfl⟩ := List.mem_map.mp hm
          rw [List.length_map] at e2
          walk_at "ss"
          refine ⟨_, _, _, _, rfl, rfl, SqL.of (hl1 _), hv, ?_⟩
          walk_at "ss"
          refine ite2 (fun e3 => ?_) (fun e3 => ?_)
          · walk_at "ss"
            exact .mk ⟨i + 1, _, m, _, _, rfl, upd_same, hl3 _ _ _, by omega, by omega, by split <;> omega, m0, m1, (k1 _).put.put⟩
          · walk_at "ss"
            exact .mk ⟨i + 1, r, _, _, _, rfl, upd_same, hl3 _ _ _, by omega, by omega, r0, (modlt _).1, (modlt _).2, (k1 _).put.put⟩
        · exact .mk ⟨i, r, m, _, _, rfl, upd_same, hl1 _, i0, i1, r0, m0, m1, k1 _⟩
      · refine iteF ?_
        exact .mk ⟨i, r, m, _, _, rfl, upd_same, hl1 _, i0, i1, r0, m0, m1, k1 _⟩
    · obtain ⟨i, r, m, c, y2, rfl, hb, hl, i0, i1, r0, m0, m1, kp⟩ := hM.of
      walk_at "ss"
      refine ite2 (fun e => ?_) (fun e => ?_)
      · walk_at "ss"
        refine q _ _ (Int.emod_nonneg _ (by omega)) (Int.emod_lt_of_pos _ n0) ⟨⟨i, _, m, c, ns, upd_same, ?_, h63, i0, i1, ?_, m0, m1⟩, nlb⟩ kp.put
        · rw [upd_ne nlb]
          exact hl
        · exact Int.ediv_nonneg r0 (by omega)
      · walk_at "ss"
        refine q _ _ (Int.emod_nonneg _ (by omega)) (Int.emod_lt_of_pos _ n0) ⟨⟨i, r, _, c, ns, upd_same, ?_, h63, i0, i1, r0, (modlt _).1, (modlt _).2⟩, nlb⟩ kp.put
        rw [upd_ne nlb]
        exact hl
theorem ok_of (T : Env K mg) : FnOk P w K mg base CX0 2 T.f_of T.fd_of ["_law_bag_here", "_law_some"] (spOf K) := by
  refine T.F_of.ok sc_of (fun vs H Q E h => ?_) (fun cdv A outer s H vs Q E hr h => ⟨_, ((pss_one (ps_ret (pe_ix ix_seq (pv 1) (pe_call (ok_pull T) (hr.mono (by decide)) (by rfl) T.g_pull T.F_pull.kp T.b_pull .nil pass0 (pa_cons (pv 0) (pa_cons (pe_callB call_len (by rfl) T.z_len (by decide +kernel) (pa_cons (pv 1) pa_nil)) pa_nil))) (fun _ _ => rfl))))), ?_⟩)
  · obtain ⟨b, l, x, rfl, _⟩ := h
    rfl
  · obtain ⟨b, l, x, rfl, B, h⟩ := h
    rcases h with ⟨p, xs, rfl, np, hS, hne, hl, q⟩ | ⟨z, rfl, hne, hl, q⟩
    · have hx : 0 < xs.length := List.length_pos_iff.mpr hne
      walk_at "ss"
      refine ⟨_, xs.length, rfl, ?_, b, l, _, rfl, B, by omega, by omega, fun k H1 k0 k1 B1 kp1 => ?_⟩
      · rcases hS with hS | hS
        · exact .inl ⟨xs, hS, rfl⟩
        · exact .inr ⟨xs, hS, rfl⟩
      obtain ⟨v, hv, hm⟩ := at_in k0 k1
      rcases hS with hS | hS
      · exact .inl ⟨p, xs, k, v, rfl, rfl, kp1.seq np hS, hv, q v H1 hm B1 kp1⟩
      · exact .inr (.inl ⟨p, xs, k, v, rfl, rfl, kp1.tup np hS, hv, q v H1 hm B1 kp1⟩)
    · walk_at "ss"
      refine ⟨_, z.length, rfl, ⟨sz hl, rfl⟩, b, l, _, rfl, B, by omega, by omega, fun k H1 k0 k1 B1 kp1 => ?_⟩
      have e : z.cps.toList.length = z.length := by simp [Str.length]
      obtain ⟨c, hc, hm⟩ := at_inN (xs := z.cps.toList) k0 (by rw [e]; exact k1)
      exact .inr (.inr ⟨z, k, c, rfl, rfl, sz hl, hc, q c H1 hm B1 kp1⟩)
end

/-! ### alphabets and words -/
def Alpha (l : List Nat) : Prop := 1 ≤ l.length ∧ l.length ≤ 4 ∧ (∀ c ∈ l, 97 ≤ c ∧ c ≤ 122) ∧ l.Pairwise (· < ·)
instance (l : List Nat) : Decidable (Alpha l) := by
  unfold Alpha
  exact inferInstance
theorem lt1 (a b : Nat) : (([a] : List Nat) < [b]) ↔ a < b := by
  simp [List.cons_lt_cons_iff]
theorem asc_pair (l : List Nat) (h : l.length ≤ 4) : ((List.range (l.length - 1)).map fun i => decide (l.getD i 0 < l.getD (i + 1) 0)).all id = decide (l.Pairwise (· < ·)) := by
  rw [all_dec, Bool.eq_iff_iff]
  simp only [decide_eq_true_eq]
  match l, h with
  | [], _ => simp
  | [a], _ => simp
  | [a, b], _ => simp [List.range_succ]
  | [a, b, c], _ => simp [List.range_succ]; try omega
  | [a, b, c, d], _ => simp [List.range_succ]; try omega
  | _ :: _ :: _ :: _ :: _ :: _, h => simp at h; try omega
theorem asc_none (l : List Nat) (h : l.length ≤ 4) : (∀ i < l.length - 1, ¬ l.getD (i + 1) 0 ≤ l.getD i 0) ↔ l.Pairwise (· < ·) := by
  have e := asc_pair l h
  rw [all_dec, Bool.eq_iff_iff] at e
  simp only [decide_eq_true_eq, List.mem_range] at e
  rw [← e]
  constructor
  · intro h i hi
    have := h i hi
    omega
  · intro h i hi
    have := h i hi
    omega
def NoStr (K : PySem.W.Frag) (H : Hp) (v : V) : Prop := ∃ t, TyX K H v (.type t) ∧ kitB t "str" = some false
theorem tyx_same {K : PySem.W.Frag} {H H' : Hp} (s : Same H H') {v : V} {t : Value} (h : TyX K H v t) : TyX K H' v t := by
  cases h with
  | base b =>
    cases b with
    | non => exact .base .non
    | bl x => exact .base (.bl x)
    | int i => exact .base (.int i)
    | str x => exact .base (.str x)
    | flt x => exact .base (.flt x)
    | lst e => exact .base (.lst (s _ _ e))
    | frz e => exact .base (.frz (s _ _ e))
    | tup e => exact .base (.tup (s _ _ e))
    | dK e => exact .base (.dK (s _ _ e))
    | dT e => exact .base (.dT (s _ _ e))
    | ins e cl ha hn htk hm => exact .base (.ins (s _ _ e) cl ha hn htk hm)
  | byt b => exact .byt b
  | set e => exact .set (s _ _ e)
  | kList e c => exact .kList e c
  | kTuple e c => exact .kTuple e c
  | kDict e c => exact .kDict e c
  | fTuple e => exact .fTuple (s _ _ e)
  | fDict e => exact .fDict (s _ _ e)
theorem NoStr.same {K : PySem.W.Frag} {H H' : Hp} {v : V} (h : NoStr K H v) (s : Same H H') : NoStr K H' v := by
  obtain ⟨t, h1, h2⟩ := h
  exact ⟨t, tyx_same s h1, h2⟩
theorem nostr_lst {K : PySem.W.Frag} {H : Hp} {p : Addr} {xs : List V} (h : H p = some (.lst xs)) : NoStr K H (.ref p) := ⟨"list", .base (.lst h), by decide +kernel⟩
theorem nostr_tup {K : PySem.W.Frag} {H : Hp} {p : Addr} {xs : List V} (h : H p = some (.tup xs)) : NoStr K H (.ref p) := ⟨"tuple", .base (.tup h), by decide +kernel⟩
theorem nostr_non {K : PySem.W.Frag} {H : Hp} : NoStr K H .non := ⟨"NoneType", .base .non, by decide +kernel⟩
theorem nostr_bl {K : PySem.W.Frag} {H : Hp} {x : Bool} : NoStr K H (.bl x) := ⟨"bool", .base (.bl x), by decide +kernel⟩
theorem nostr_int {K : PySem.W.Frag} {H : Hp} {x : Int} : NoStr K H (.int x) := ⟨"int", .base (.int x), by decide +kernel⟩
def spIsAlpha (K : PySem.W.Frag) : Sp := fun vs H Q _ => ∃ v, vs = [v] ∧ ((∃ z : Str, v = .str z ∧ z.length ≤ 100000 ∧ ∀ H', Same H H' → Q (.bl (decide (Alpha z.cps.toList))) H') ∨ (NoStr K H v ∧ ∀ H', Same H H' → Q (.bl false) H'))
def spIsWord (K : PySem.W.Frag) : Sp := fun vs H Q _ => ∃ (a : Str) (v : V), vs = [.str a, v] ∧ ((∃ z : Str, v = .str z ∧ z.length ≤ 100000 ∧ ∀ H', Same H H' → Q (.bl (decide (∀ c ∈ z.cps.toList, c ∈ a.cps.toList))) H') ∨ (NoStr K H v ∧ ∀ H', Same H H' → Q (.bl false) H'))
section
variable {P : Program} {w : World} {K : PySem.W.Frag} {mg : Str → Option Value} {base : Heap}
theorem ok_is_alphabet (T : Env K mg) : FnOk P w K mg base CX0 1 T.f_is_alphabet T.fd_is_alphabet ["value"] (spIsAlpha K) := by
  refine T.F_is_alphabet.ok sc_is_alphabet (fun vs H Q E h => ?_) (fun cdv A outer s H vs Q E hr h => ⟨_, ((pss_cons (ps_if (PW.pt (pw_or (pt_not (pt_val (pe_callB call_isi (by rfl) T.z_isinstance (by decide +kernel) (pa_cons (pv 0) (pa_cons (pe_bltn (v := .ty "str") (by rfl) T.z_str (by decide +kernel) rfl) pa_nil))))) (pw_or1 (pt_not (pt_chain op_le op_le pe_int (pe_callB call_len_str (by rfl) T.z_len (by decide +kernel) (pa_cons (pv 0) pa_nil)) (pe_glob (v := .int 4) (by rfl) T.c_MOST_LETTERS ⟨_, rfl⟩))))))
      (pss_one (ps_ret pe_bl))
      pss_nil)
      (pss_cons (ps_if (pt_not (pt_val (pe_callB (cr_all rfl) (by rfl) T.z_all (by decide +kernel) (pa_cons (pe_lc (own := [("sign", 2)]) (g := (gName 2)) (tt := tYes) rfl sc_is_alphabet.nd (pi_str (pv 0)) (blkOk_by (own := [("sign", 2)]) (N := N_is_alphabet) (sc := defScope s_is_alphabet) (by decide +kernel)) (fun _ _ _ _ _ => (pg_name (i := 2) sc_is_alphabet.nd rfl (.inl rfl))) (fun _ _ _ _ _ => pts_nil) (fun _ _ _ _ _ => (pe_chain op_le_str op_le_str pe_str (pv 2) pe_str))) pa_nil))))
      (pss_one (ps_ret pe_bl))
      pss_nil)
      (pss_one (ps_ret (pe_callB (cr_all rfl) (by rfl) T.z_all (by decide +kernel) (pa_cons (pe_lc (own := [("at", 1)]) (g := (gName 1)) (tt := tYes) rfl sc_is_alphabet.nd (pi_range2 (by rfl) T.z_range (pa_cons pe_int (pa_cons (pe_callB call_len_str (by rfl) T.z_len (by decide +kernel) (pa_cons (pv 0) pa_nil)) pa_nil))) (blkOk_by (own := [("at", 1)]) (N := N_is_alphabet) (sc := defScope s_is_alphabet) (by decide +kernel)) (fun _ _ _ _ _ => (pg_name (i := 1) sc_is_alphabet.nd rfl (.inl rfl))) (fun _ _ _ _ _ => pts_nil) (fun _ _ _ _ _ => (pe_cmpR op_lt_str (pe_ix ix_str (pv 0) (pe_op op_sub (pv 1) pe_int) (fun _ _ => rfl)) (pe_ix ix_str (pv 0) (pv 1) (fun _ _ => rfl)) (nomark _)))) pa_nil))))))), ?_⟩)
  · obtain ⟨v, rfl, _⟩ := h
    rfl
  · obtain ⟨v, rfl, ⟨z, rfl, hz, q⟩ | ⟨⟨t, ht, hk⟩, q⟩⟩ := h
    · have L := len_tl z
      have hF : ∀ H', Same H H' → ¬ Alpha z.cps.toList → Q (.bl false) H' := fun H' sm hn => by
        have := q H' sm
        rw [decide_eq_false hn] at this
        exact this
      walk_at "ssi"
      refine ite2 (fun e1 => ?_) (fun e1 => ?_)
      · have e1 : (1 : Int) ≤ z.length := of_decide_eq_true e1
        walk_at "ss"
        refine ite2 (fun e2 => ?_) (fun e2 => ?_)
        · refine hF _ (Same.refl H) fun hA => ?_
          have e3 : ¬ ((z.length : Int) ≤ 4) := by simpa using e2
          have := hA.2.1
          omega
        · have e3 : (z.length : Int) ≤ 4 := by simpa using e2
          walk_at "ss"
          intro D hD
          refine lc_gen walk_str (fun H' => Same H H') (fun i y => ∃ c, z.cps.toList[i]? = some c ∧ y = V.bl (decide (97 ≤ c ∧ c ≤ 122))) (by rw [size_tl, ← len_tl]; exact hz) (same_upd hD) (fun _ _ => trivial) (fun _ _ h => same_mut h hD) ?_ ?_
          · rintro i x H1 H2 Q1 hlt hI ⟨rfl, c, hc, rfl⟩ - hQ
            rw [get_tl] at hc
            walk_at "ss"
            refine ite2 (fun e5 => ?_) (fun e5 => ?_)
            · have e6 : (!decide (([c] : List Nat) < [97])) = true := e5
              have e7 : 97 ≤ c := by simpa [lt1] using e6
              walk_at "ss"
              refine hQ _ _ ⟨c, hc, congrArg V.bl ?_⟩ hI fun _ h => h
              show (!decide (([122] : List Nat) < [c])) = decide (97 ≤ c ∧ c ≤ 122)
              rw [Bool.eq_iff_iff]
              simp [lt1, e7]
            · have e6 : ¬ (!decide (([c] : List Nat) < [97])) = true := e5
              have e7 : ¬ 97 ≤ c := by simpa [lt1] using e6
              refine hQ _ _ ⟨c, hc, congrArg V.bl ?_⟩ hI fun _ h => h
              simp [e7]
          · intro H1 ys hI hy hl hr
            have e : ys = (z.cps.toList.map fun c => decide (97 ≤ c ∧ c ≤ 122)).map V.bl := by
              rw [List.map_map]
              exact ys_map (by rw [hl, size_tl]) hr
            subst e
            walk_at "ss"
            refine ⟨D, _, rfl, SqL.of hy, ?_⟩
            rw [all_dec]
            walk_at "ss"
            refine ite2 (fun e4 => ?_) (fun e4 => ?_)
            · refine hF _ hI fun hA => ?_
              have e5 := hA.2.2.1
              rw [decide_eq_true e5] at e4
              cases e4
            · have e5 : ∀ c ∈ z.cps.toList, 97 ≤ c ∧ c ≤ 122 := by simpa using e4
              walk_at "ss"
              refine ⟨_, _, rfl, ⟨by decide, by decide, by omega, by omega⟩, ?_⟩
              intro D2 hD2
              refine lc_gen walk_range (fun H' => Same H1 H') (fun i y => ∃ a b, z.cps.toList[i]? = some a ∧ z.cps.toList[i + 1]? = some b ∧ y = V.bl (decide (a < b))) (by omega) (same_upd hD2) (fun _ _ => trivial) (fun _ _ h => same_mut h hD2) ?_ ?_
              · rintro i x H2 H3 Q1 hlt hI2 ⟨rfl, rfl⟩ - hQ
                have h1 : i + 1 < z.cps.toList.length := by omega
                have h0 : i < z.cps.toList.length := by omega
                have g0 := List.getElem?_eq_getElem h0
                have g1 := List.getElem?_eq_getElem h1
                walk_at "ss"
                refine ⟨z, _, _, rfl, rfl, sz hz, (show atI z.cps.toList (1 + (i : Int) - 1) = some z.cps.toList[i] by rw [show 1 + (i : Int) - 1 = ((i : Nat) : Int) by omega]; exact atI_nat g0), ?_⟩
                walk_at "ss"
                refine ⟨z, _, _, rfl, rfl, sz hz, (show atI z.cps.toList (1 + (i : Int)) = some z.cps.toList[i + 1] by rw [show 1 + (i : Int) = ((i + 1 : Nat) : Int) by omega]; exact atI_nat g1), ?_⟩
                walk_at "ss"
                refine hQ _ _ ⟨_, _, g0, g1, congrArg V.bl ?_⟩ hI2 fun _ h => h
                show decide (([z.cps.toList[i]] : List Nat) < [z.cps.toList[i + 1]]) = _
                rw [Bool.eq_iff_iff]
                simp [lt1]
              · intro H2 ys2 hI2 hy2 hl2 hr2
                have e : ys2 = ((List.range (z.cps.toList.length - 1)).map fun i => decide (z.cps.toList.getD i 0 < z.cps.toList.getD (i + 1) 0)).map V.bl := by
                  rw [List.map_map]
                  refine ys_map (by rw [hl2, List.length_range]; omega) fun i y h => ?_
                  obtain ⟨a, b, h1, h2, h3⟩ := hr2 i y h
                  have hi := (List.getElem?_eq_some_iff.mp h).1
                  refine ⟨i, List.getElem?_range (by omega), ?_⟩
                  rw [h3]
                  simp only [Function.comp, List.getD_eq_getElem?_getD, h1, h2, Option.getD_some]
                subst e
                walk_at "ss"
                refine ⟨D2, _, rfl, SqL.of hy2, ?_⟩
                rw [asc_pair z.cps.toList (by omega)]
                have := q H2 (hI.trans hI2)
                rw [show decide (Alpha z.cps.toList) = decide (z.cps.toList.Pairwise (· < ·)) from ?_] at this
                · exact this
                · rw [Bool.eq_iff_iff]
                  simp only [decide_eq_true_eq]
                  exact ⟨fun h => h.2.2.2, fun h => ⟨by omega, by omega, e5, h⟩⟩
      · walk_at "ss"
        refine hF _ (Same.refl H) fun hA => ?_
        have e3 : ¬ ((1 : Int) ≤ z.length) := by simpa using e1
        have := hA.1
        omega
    · walk_at "ssi"
      exact q _ (Same.refl H)
theorem ok_is_word (T : Env K mg) : FnOk P w K mg base CX0 1 T.f_is_word T.fd_is_word ["alphabet", "value"] (spIsWord K) := by
  refine T.F_is_word.ok sc_is_word (fun vs H Q E h => ?_) (fun cdv A outer s H vs Q E hr h => ⟨_, ((pss_one (ps_ret (pe_and (pe_callB call_isi (by rfl) T.z_isinstance (by decide +kernel) (pa_cons (pv 1) (pa_cons (pe_bltn (v := .ty "str") (by rfl) T.z_str (by decide +kernel) rfl) pa_nil))) (pe_one (pe_callB (cr_all rfl) (by rfl) T.z_all (by decide +kernel) (pa_cons (pe_lc (own := [("sign", 2)]) (g := (gName 2)) (tt := tYes) rfl sc_is_word.nd (pi_str (pv 1)) (blkOk_by (own := [("sign", 2)]) (N := N_is_word) (sc := defScope s_is_word) (by decide +kernel)) (fun _ _ _ _ _ => (pg_name (i := 2) sc_is_word.nd rfl (.inl rfl))) (fun _ _ _ _ _ => pts_nil) (fun _ _ _ _ _ => (pe_cmpR op_in_sign (pv 2) (pv 0) (by rfl)))) pa_nil))))))), ?_⟩)
  · obtain ⟨a, v, rfl, _⟩ := h
    rfl
  · obtain ⟨a, v, rfl, ⟨z, rfl, hz, q⟩ | ⟨⟨t, ht, hk⟩, q⟩⟩ := h
    · walk_at "ss"
      refine ⟨_, _, _, _, true, rfl, ClsV.ty _, .base (.str _), kit_ty (by decide +kernel), ?_⟩
      walk_at "ss"
      intro D hD
      refine lc_gen walk_str (fun H' => Same H H') (fun i y => ∃ c, z.cps.toList[i]? = some c ∧ y = V.bl (decide (c ∈ a.cps.toList))) (by rw [size_tl, ← len_tl]; exact hz) (same_upd hD) (fun _ _ => trivial) (fun _ _ h => same_mut h hD) ?_ ?_
      · rintro i x H1 H2 Q1 hlt hI ⟨rfl, c, hc, rfl⟩ - hQ
        walk_at "ss"
        rw [get_tl] at hc
        exact hQ _ _ ⟨c, hc, rfl⟩ hI fun _ h => h
      · intro H1 ys hI hy hl hr
        have e : ys = (z.cps.toList.map fun c => decide (c ∈ a.cps.toList)).map V.bl := by
          rw [List.map_map]
          exact ys_map (by rw [hl, size_tl]) hr
        subst e
        walk_at "ss"
        refine ⟨D, _, rfl, SqL.of hy, ?_⟩
        rw [all_dec]
        exact q _ hI
    · walk_at "ssi"
      exact q _ (Same.refl H)
end

/-! ### what is found and what is due are the same -/
def scalV : V → Bool
  | .non => true
  | .bl _ => true
  | .int _ => true
  | .str _ => true
  | _ => false
/-- of depth below d: the same data -/
def Sm (K : PySem.W.Frag) (H : Hp) : Nat → V → V → Prop
  | 0, _, _ => False
  | d + 1, x, y => (x = y ∧ scalV x = true) ∨ (∃ a b xs ys, x = .ref a ∧ y = .ref b ∧ xs.length ≤ 100000 ∧ xs.length = ys.length ∧ (∀ (i : Nat) (u v : V), xs[i]? = some u → ys[i]? = some v → Sm K H d u v) ∧
      ((SqL K H a xs ∧ SqL K H b ys) ∨ (SqT K H a xs ∧ SqT K H b ys)))
theorem Sm.same {K : PySem.W.Frag} {H H' : Hp} (s : Same H H') : ∀ {d : Nat} {x y : V}, Sm K H d x y → Sm K H' d x y
  | 0, _, _, h => h
  | d + 1, x, y, h => by
    rcases h with h | ⟨a, b, xs, ys, e1, e2, hz, hl, hi, h⟩
    · exact .inl h
    · refine .inr ⟨a, b, xs, ys, e1, e2, hz, hl, fun i u v h1 h2 => Sm.same s (hi i u v h1 h2), ?_⟩
      rcases h with ⟨h1, h2⟩ | ⟨h1, h2⟩
      · exact .inl ⟨s.seq h1, s.seq h2⟩
      · exact .inr ⟨same_tup s h1, same_tup s h2⟩
theorem Sm.up {K : PySem.W.Frag} {H : Hp} : ∀ {d : Nat} {x y : V}, Sm K H d x y → Sm K H (d + 1) x y
  | 0, _, _, h => h.elim
  | d + 1, x, y, h => by
    rcases h with h | ⟨a, b, xs, ys, e1, e2, hz, hl, hi, h⟩
    · exact .inl h
    · exact .inr ⟨a, b, xs, ys, e1, e2, hz, hl, fun i u v h1 h2 => Sm.up (hi i u v h1 h2), h⟩
theorem tyx_list {K : PySem.W.Frag} {H : Hp} {a : Addr} {xs : List V} (h : SqL K H a xs) : TyX K H (.ref a) (.type "list") := by
  rcases h with (h | ⟨o, h⟩) | ⟨o, its, n, h1, h2, _⟩
  · exact .base (.lst h)
  · exact .base (.frz h)
  · exact .kList h1 h2
theorem tyx_tup {K : PySem.W.Frag} {H : Hp} {a : Addr} {xs : List V} (h : SqT K H a xs) : TyX K H (.ref a) (.type "tuple") := by
  rcases h with (h | ⟨o, h⟩) | ⟨o, its, n, h1, h2, _⟩
  · exact .base (.tup h)
  · exact .fTuple h
  · exact .kTuple h1 h2

theorem walk_zipT {K : PySem.W.Frag} {a b : Addr} {xs ys : List V} {n : Nat} (hn : n = min xs.length ys.length) : Walk (RZ.ItzT K a b) n (fun H => SqT K H a xs ∧ SqT K H b ys) (YPair (fun i => xs[i]?) (fun i => ys[i]?)) := by
  subst hn
  refine ⟨fun i _ hi q => ?_, fun _ q => ⟨xs, ys, q.1, q.2, by omega⟩, fun i H v H' _ q y => ?_⟩
  · have h1 : i < xs.length := by omega
    have h2 : i < ys.length := by omega
    exact ⟨xs, ys, xs[i], ys[i], q.1, q.2, by simp [h1], by simp [h2]⟩
  · obtain ⟨T, x, z, h1, h2, h3, h4, h5⟩ := y
    exact ⟨T, x, z, h1, h2, h3, h4 xs q.1, h5 ys q.2⟩
theorem sm_lst {K : PySem.W.Frag} {H : Hp} {d : Nat} {p q : Addr} {xs : List V} (h1 : SqL K H p xs) (h2 : SqL K H q xs) (hl : xs.length ≤ 100000) (hs : xs.all scalV = true) : Sm K H (d + 2) (.ref p) (.ref q) := by
  refine .inr ⟨p, q, xs, xs, rfl, rfl, hl, rfl, fun i u v e1 e2 => ?_, .inl ⟨h1, h2⟩⟩
  rw [e1] at e2
  cases e2
  exact .inl ⟨rfl, List.all_eq_true.mp hs u (List.mem_of_getElem? e1)⟩
def spSame (K : PySem.W.Frag) (d : Nat) : Sp := fun vs H Q _ => ∃ (x y : V), vs = [x, y] ∧ Sm K H d x y ∧ ∀ H', Same H H' → Q (.bl true) H'
section
variable {P : Program} {w : World} {K : PySem.W.Frag} {mg : Str → Option Value} {base : Heap}
theorem ok_same (T : Env K mg) : ∀ d : Nat, FnOk P w K mg base CX0 (d + 1) T.f_same T.fd_same ["_law_found", "_law_due"] (spSame K d)
  | 0 => by
    refine T.F_same.ok sc_same (fun vs H Q E h => ?_) (fun cdv A outer s H vs Q E hr h => ?_)
    · obtain ⟨x, y, rfl, _⟩ := h
      rfl
    · obtain ⟨x, y, rfl, h, _⟩ := h
      exact h.elim
  | d + 1 => by
    have ih : FnOk P w K mg base CX0 (d + 1) T.f_same T.fd_same ["_law_found", "_law_due"] (spSame K d) := ok_same T d
    refine T.F_same.ok sc_same (fun vs H Q E h => ?_) (fun cdv A outer s H vs Q E hr h => ⟨_, ((pss_cons (ps_if (pt_val (pe_callB call_isiT (by rfl) T.z_isinstance (by decide +kernel) (pa_cons (pv 1) (pa_cons (pe_tup (pa_cons (pe_bltn (v := .ty "list") (by rfl) T.z_list (by decide +kernel) rfl) (pa_cons (pe_bltn (v := .ty "tuple") (by rfl) T.z_tuple (by decide +kernel) rfl) pa_nil))) pa_nil))))
      (pss_cons (ps_if (PW.pt (pw_or (pt_cmpR op_ne (pe_callB call_isi (by rfl) T.z_isinstance (by decide +kernel) (pa_cons (pv 0) (pa_cons (pe_bltn (v := .ty "list") (by rfl) T.z_list (by decide +kernel) rfl) pa_nil))) (pe_callB call_isi (by rfl) T.z_isinstance (by decide +kernel) (pa_cons (pv 1) (pa_cons (pe_bltn (v := .ty "list") (by rfl) T.z_list (by decide +kernel) rfl) pa_nil))) (nomark _)) (pw_or1 (pt_cmpR op_ne (pe_callB call_isi (by rfl) T.z_isinstance (by decide +kernel) (pa_cons (pv 0) (pa_cons (pe_bltn (v := .ty "tuple") (by rfl) T.z_tuple (by decide +kernel) rfl) pa_nil))) (pe_callB call_isi (by rfl) T.z_isinstance (by decide +kernel) (pa_cons (pv 1) (pa_cons (pe_bltn (v := .ty "tuple") (by rfl) T.z_tuple (by decide +kernel) rfl) pa_nil))) (nomark _)))))
      (pss_one (ps_ret pe_bl))
      pss_nil)
      (pss_one (ps_ret (pe_and (pe_cmpR op_eq (pe_callB call_len (by rfl) T.z_len (by decide +kernel) (pa_cons (pv 0) pa_nil)) (pe_callB call_len (by rfl) T.z_len (by decide +kernel) (pa_cons (pv 1) pa_nil)) (nomark _)) (pe_one (pe_callB (cr_all rfl) (by rfl) T.z_all (by decide +kernel) (pa_cons (pe_lc (own := [("_law_a", 2), ("_law_b", 3)]) (g := (gTup K 2 (gCons (gName 2) (gCons (gName 3) gNil)))) (tt := tYes) rfl sc_same.nd (RZ.pi_zipA (by rfl) T.z_zip (pa_cons (pv 0) (pa_cons (pv 1) pa_nil))) (blkOk_by (own := [("_law_a", 2), ("_law_b", 3)]) (N := N_same) (sc := defScope s_same) (by decide +kernel)) (fun _ _ _ _ _ => (pg_tup (by rfl) (pgs_cons (pg_name (i := 2) sc_same.nd rfl (.inl rfl)) (pgs_cons (pg_name (i := 3) sc_same.nd rfl (.inl rfl)) pgs_nil)))) (fun _ _ _ _ _ => pts_nil) (fun _ _ _ _ _ => (pe_call ih hr (by rfl) T.g_same T.F_same.kp T.b_same .nil pass0 (pa_cons (pv 2) (pa_cons (pv 3) pa_nil))))) pa_nil)))))))
      pss_nil)
      (pss_cons (ps_if (PW.pt (pw_or (pt_cmpR op_isN (pv 1) pe_non (nomark _)) (pw_or1 (pt_cmpR op_isN (pv 0) pe_non (nomark _)))))
      (pss_one (ps_ret (pe_and (pe_cmpR op_isN (pv 1) pe_non (nomark _)) (pe_one (pe_cmpR op_isN (pv 0) pe_non (nomark _))))))
      pss_nil)
      (pss_cons (ps_if (PW.pt (pw_or (pt_cmpR op_ne (pe_callB call_isi (by rfl) T.z_isinstance (by decide +kernel) (pa_cons (pv 1) (pa_cons (pe_bltn (v := .ty "bool") (by rfl) T.z_bool (by decide +kernel) rfl) pa_nil))) (pe_callB call_isi (by rfl) T.z_isinstance (by decide +kernel) (pa_cons (pv 0) (pa_cons (pe_bltn (v := .ty "bool") (by rfl) T.z_bool (by decide +kernel) rfl) pa_nil))) (nomark _)) (pw_or1 (pt_cmpR op_ne (pe_callB call_isi (by rfl) T.z_isinstance (by decide +kernel) (pa_cons (pv 1) (pa_cons (pe_bltn (v := .ty "int") (by rfl) T.z_int (by decide +kernel) rfl) pa_nil))) (pe_callB call_isi (by rfl) T.z_isinstance (by decide +kernel) (pa_cons (pv 0) (pa_cons (pe_bltn (v := .ty "int") (by rfl) T.z_int (by decide +kernel) rfl) pa_nil))) (nomark _)))))
      (pss_one (ps_ret pe_bl))
      pss_nil)
      (pss_one (ps_ret (pe_and (pe_cmpR op_eq (pe_callB call_isi (by rfl) T.z_isinstance (by decide +kernel) (pa_cons (pv 1) (pa_cons (pe_bltn (v := .ty "str") (by rfl) T.z_str (by decide +kernel) rfl) pa_nil))) (pe_callB call_isi (by rfl) T.z_isinstance (by decide +kernel) (pa_cons (pv 0) (pa_cons (pe_bltn (v := .ty "str") (by rfl) T.z_str (by decide +kernel) rfl) pa_nil))) (nomark _)) (pe_one (pe_cmpR op_eq (pv 0) (pv 1) (nomark _)))))))))), ?_⟩)
    · obtain ⟨x, y, rfl, _⟩ := h
      rfl
    · obtain ⟨x, y, rfl, h, q⟩ := h
      rcases h with ⟨rfl, hsc⟩ | ⟨a, b, xs, ys, rfl, rfl, hz, hl, hi, h⟩
      · cases x with
        | non =>
          walk_at "ssi"
          exact q _ (same_upd (by assumption))
        | bl b =>
          walk_at "ssi"
          show Q (V.bl (decide (V.bl b = V.bl b))) _
          rw [decide_eq_true rfl]
          exact q _ (same_upd (by assumption))
        | int i =>
          walk_at "ssi"
          show Q (V.bl (decide (V.int i = V.int i))) _
          rw [decide_eq_true rfl]
          exact q _ (same_upd (by assumption))
        | str z =>
          walk_at "ssi"
          show Q (V.bl (decide (V.str z = V.str z))) _
          rw [decide_eq_true rfl]
          exact q _ (same_upd (by assumption))
        | byt z => cases hsc
        | flt z => cases hsc
        | ref z => cases hsc
        | ty z => cases hsc
      · rcases h with ⟨h1, h2⟩ | ⟨h1, h2⟩
        · walk_at "ss"
          intro p hp
          have s1 : Same H (upd H p (.tup [.ty "list", .ty "tuple"])) := same_upd hp
          have t1 := tyx_list (s1.seq h1)
          have t2 := tyx_list (s1.seq h2)
          walk_at "ssi"
          refine ⟨_, xs.length, rfl, .inl ⟨xs, s1.seq h1, rfl⟩, ?_⟩
          walk_at "ss"
          refine ⟨_, ys.length, rfl, .inl ⟨ys, s1.seq h2, rfl⟩, ?_⟩
          walk_at "ss"
          refine iteP (decide_eq_true (by rw [hl])) ?_
          walk_at "ss"
          refine ⟨a, b, xs, ys, rfl, .inl ⟨s1.seq h1, s1.seq h2, ?_⟩⟩
          intro D hD
          have hD0 : H D = none := s1.free hD
          refine lc_it (walk_zip (xs := xs) (ys := ys) (n := xs.length) (by omega)) (fun i H' => Stp (Same H H' ∧ H' D = some (.lst ((List.replicate i true).map V.bl))))
            (.mk ⟨same_mut s1 hD0, upd_same⟩) (fun i H' _ h => ⟨h.of.1.seq h1, h.of.1.seq h2⟩) ?_ ?_
          · rintro i x H1 H2 hlt hP ⟨Tp, u, v, rfl, hT, rfl, e1, e2⟩
            obtain ⟨s2, hDl⟩ := hP.of
            have s3 : Same H1 (upd H1 Tp (.tup [u, v])) := same_upd hT
            refine ⟨Tp, _, rfl, SqT.of upd_same, rfl, ?_⟩
            walk_at "ss"
            refine ⟨u, v, rfl, (hi i u v e1 e2).same (s2.trans s3), fun H3 s4 => ⟨_, s4 _ _ (s3 _ _ hDl), ?_, ?_⟩⟩
            · rw [List.length_map, List.length_replicate]
              exact szl (by omega)
            · refine .mk ⟨same_mut ((s2.trans s3).trans s4) hD0, ?_⟩
              rw [upd_same, List.replicate_succ', List.map_append]
              rfl
          · intro H1 hP
            obtain ⟨s2, hDl⟩ := hP.of
            walk_at "ss"
            refine ⟨D, _, rfl, SqL.of hDl, ?_⟩
            rw [show (List.replicate xs.length true).all id = true by simp]
            exact q _ s2
        · walk_at "ss"
          intro p hp
          have s1 : Same H (upd H p (.tup [.ty "list", .ty "tuple"])) := same_upd hp
          have t1 := tyx_tup (same_tup s1 h1)
          have t2 := tyx_tup (same_tup s1 h2)
          walk_at "ssi"
          refine ⟨_, xs.length, rfl, .inr ⟨xs, same_tup s1 h1, rfl⟩, ?_⟩
          walk_at "ss"
          refine ⟨_, ys.length, rfl, .inr ⟨ys, same_tup s1 h2, rfl⟩, ?_⟩
          walk_at "ss"
          refine iteP (decide_eq_true (by rw [hl])) ?_
          walk_at "ss"
          refine ⟨a, b, xs, ys, rfl, .inr ⟨same_tup s1 h1, same_tup s1 h2, ?_⟩⟩
          intro D hD
          have hD0 : H D = none := s1.free hD
          refine lc_it (walk_zipT (xs := xs) (ys := ys) (n := xs.length) (by omega)) (fun i H' => Stp (Same H H' ∧ H' D = some (.lst ((List.replicate i true).map V.bl))))
            (.mk ⟨same_mut s1 hD0, upd_same⟩) (fun i H' _ h => ⟨same_tup h.of.1 h1, same_tup h.of.1 h2⟩) ?_ ?_
          · rintro i x H1 H2 hlt hP ⟨Tp, u, v, rfl, hT, rfl, e1, e2⟩
            obtain ⟨s2, hDl⟩ := hP.of
            have s3 : Same H1 (upd H1 Tp (.tup [u, v])) := same_upd hT
            refine ⟨Tp, _, rfl, SqT.of upd_same, rfl, ?_⟩
            walk_at "ss"
            refine ⟨u, v, rfl, (hi i u v e1 e2).same (s2.trans s3), fun H3 s4 => ⟨_, s4 _ _ (s3 _ _ hDl), ?_, ?_⟩⟩
            · rw [List.length_map, List.length_replicate]
              exact szl (by omega)
            · refine .mk ⟨same_mut ((s2.trans s3).trans s4) hD0, ?_⟩
              rw [upd_same, List.replicate_succ', List.map_append]
              rfl
          · intro H1 hP
            obtain ⟨s2, hDl⟩ := hP.of
            walk_at "ss"
            refine ⟨D, _, rfl, SqL.of hDl, ?_⟩
            rw [show (List.replicate xs.length true).all id = true by simp]
            exact q _ s2
end

/-! ### values as data -/
mutual
theorem dp_mono {K : PySem.W.Frag} {H H' : Hp} (hs : ∀ a xs, SqL K H a xs → SqL K H' a xs) (ht : ∀ a xs, SqT K H a xs → SqT K H' a xs) : ∀ (d : PyData) (v : V), Dp K H v d → Dp K H' v d
  | .none, _, h => by cases h; exact .non
  | .bool b, _, h => by cases h; exact .bl b
  | .int i, _, h => by cases h; exact .int i
  | .str x, _, h => by cases h; exact .str x
  | .list ds, _, h => by
    cases h with
    | lst h1 h2 => exact .lst (hs _ _ h1) (dpa_mono hs ht ds _ h2)
  | .tuple ds, _, h => by
    cases h with
    | tup h1 h2 => exact .tup (ht _ _ h1) (dpa_mono hs ht ds _ h2)
  | .dict _, _, h => by cases h
theorem dpa_mono {K : PySem.W.Frag} {H H' : Hp} (hs : ∀ a xs, SqL K H a xs → SqL K H' a xs) (ht : ∀ a xs, SqT K H a xs → SqT K H' a xs) : ∀ (ds : List PyData) (vs : List V), DpAll K H vs ds → DpAll K H' vs ds
  | [], _, h => by cases h; exact .nil
  | d :: ds, _, h => by
    cases h with
    | cons a b => exact .cons (dp_mono hs ht d _ a) (dpa_mono hs ht ds _ b)
end
theorem dp_same {K : PySem.W.Frag} {H H' : Hp} {v : V} {d : PyData} (h : Dp K H v d) (s : Same H H') : Dp K H' v d := dp_mono (fun _ _ h => s.seq h) (fun _ _ h => same_tup s h) d v h
theorem dpa_same {K : PySem.W.Frag} {H H' : Hp} {vs : List V} {ds : List PyData} (h : DpAll K H vs ds) (s : Same H H') : DpAll K H' vs ds := dpa_mono (fun _ _ h => s.seq h) (fun _ _ h => same_tup s h) ds vs h
theorem dpa_len {K : PySem.W.Frag} {H : Hp} : ∀ {ds : List PyData} {vs : List V}, DpAll K H vs ds → vs.length = ds.length
  | [], _, h => by cases h; rfl
  | d :: ds, _, h => by
    cases h with
    | cons a b => rw [List.length_cons, List.length_cons, dpa_len b]
theorem dpa_app {K : PySem.W.Frag} {H : Hp} {us : List V} {es : List PyData} (h2 : DpAll K H us es) : ∀ {ds : List PyData} {vs : List V}, DpAll K H vs ds → DpAll K H (vs ++ us) (ds ++ es)
  | [], _, h => by cases h; exact h2
  | d :: ds, _, h => by
    cases h with
    | cons a b => exact .cons a (dpa_app h2 b)
theorem dpa_at {K : PySem.W.Frag} {H : Hp} : ∀ {ds : List PyData} {vs : List V} {i : Nat} {v : V}, DpAll K H vs ds → vs[i]? = some v → ∃ d, ds[i]? = some d ∧ Dp K H v d
  | [], _, _, _, h, e => by cases h; simp at e
  | d :: ds, _, 0, v, h, e => by
    cases h with
    | cons a b =>
      cases e
      exact ⟨d, rfl, a⟩
  | d :: ds, _, i + 1, v, h, e => by
    cases h with
    | cons a b =>
      have e : _ = some v := e
      exact dpa_at (ds := ds) (i := i) b e
mutual
/-- no list of five items -/
def no5 : PyData → Bool
  | .list ds => ds.length != 5 && no5All ds
  | .tuple ds => no5All ds
  | _ => true
def no5All : List PyData → Bool
  | [] => true
  | d :: ds => no5 d && no5All ds
end
mutual
theorem dp_kp {K : PySem.W.Frag} {b l : Addr} {H H' : Hp} (k : Kp b H H') (B : BagAt b l H) : ∀ (d : PyData) (v : V), no5 d = true → Dp K H v d → Dp K H' v d
  | .none, _, _, h => by cases h; exact .non
  | .bool b, _, _, h => by cases h; exact .bl b
  | .int i, _, _, h => by cases h; exact .int i
  | .str x, _, _, h => by cases h; exact .str x
  | .list ds, _, n, h => by
    cases h with
    | lst h1 h2 =>
      rename_i a xs
      have n : (ds.length != 5 && no5All ds) = true := n
      rw [Bool.and_eq_true] at n
      refine .lst ?_ (dpa_kp k B ds _ n.2 h2)
      by_cases e : a = b
      · obtain ⟨⟨i, r, m, c, ns, hb, _⟩, _⟩ := B
        have hl := dpa_len h2
        rcases h1 with (h1 | ⟨o, h1⟩) | h1
        · rw [e, hb] at h1
          cases h1
          have : ds.length = 5 := hl.symm
          rw [this] at n
          exact absurd n.1 (by decide)
        · rw [e, hb] at h1
          cases h1
        · exact .inr h1
      · exact k.seq e h1
  | .tuple ds, _, n, h => by
    cases h with
    | tup h1 h2 =>
      rename_i a xs
      refine .tup ?_ (dpa_kp k B ds _ n h2)
      obtain ⟨⟨i, r, m, c, ns, hb, _⟩, _⟩ := B
      rcases h1 with (h | ⟨o, h⟩) | h
      · exact .inl (.inl (k _ _ h fun z => by rw [z, hb] at h; cases h))
      · exact .inl (.inr ⟨o, k _ _ h fun z => by rw [z, hb] at h; cases h⟩)
      · exact .inr h
  | .dict _, _, _, h => by cases h
theorem dpa_kp {K : PySem.W.Frag} {b l : Addr} {H H' : Hp} (k : Kp b H H') (B : BagAt b l H) : ∀ (ds : List PyData) (vs : List V), no5All ds = true → DpAll K H vs ds → DpAll K H' vs ds
  | [], _, _, h => by cases h; exact .nil
  | d :: ds, _, n, h => by
    have n : (no5 d && no5All ds) = true := n
    rw [Bool.and_eq_true] at n
    cases h with
    | cons a b => exact .cons (dp_kp k B d _ n.1 a) (dpa_kp k B ds _ n.2 b)
end
def tyD : PyData → String
  | .none => "NoneType"
  | .bool _ => "bool"
  | .int _ => "int"
  | .str _ => "str"
  | .list _ => "list"
  | .tuple _ => "tuple"
  | .dict _ => "dict"
theorem dp_ty {K : PySem.W.Frag} {H : Hp} {v : V} {d : PyData} (h : Dp K H v d) : TyX K H v (.type (tyD d)) := by
  cases h with
  | non => exact .base .non
  | bl b => exact .base (.bl b)
  | int i => exact .base (.int i)
  | str x => exact .base (.str x)
  | lst h _ => exact tyx_list h
  | tup h _ => exact tyx_tup h
theorem cut_drop {xs : List V} {i : Nat} : cutV xs (some (i : Int)) none = xs.drop i := by
  unfold cutV
  rw [show HT.sIx xs.length 0 (some (i : Int)) = min i xs.length from HT.sIx_nat _ _ i, HT.sIx_none]
  rw [List.take_of_length_le (by rw [List.length_drop]; omega)]
  by_cases h : i ≤ xs.length
  · rw [Nat.min_eq_left h]
  · rw [List.drop_of_length_le (by omega), List.drop_of_length_le (by omega)]

/-! ### kinds of values -/
def NoInt (K : PySem.W.Frag) (H : Hp) (v : V) : Prop := ∃ t, TyX K H v (.type t) ∧ kitB t "int" = some false
def spNum (K : PySem.W.Frag) : Sp := fun vs H Q _ => ∃ (v : V), vs = [v] ∧
  ((∃ i, v = .int i ∧ Q (.bl (decide (0 ≤ i))) H) ∨ (∃ b, v = .bl b ∧ Q (.bl false) H) ∨ (NoInt K H v ∧ Q (.bl false) H))
def spBelow (K : PySem.W.Frag) : Sp := fun vs H Q _ => ∃ (v : V) (n : Int), vs = [v, .int n] ∧
  ((∃ i, v = .int i ∧ Q (.bl (decide (0 ≤ i ∧ i < n))) H) ∨ (∃ b, v = .bl b ∧ Q (.bl false) H) ∨ (NoInt K H v ∧ Q (.bl false) H))
section
variable {P : Program} {w : World} {K : PySem.W.Frag} {mg : Str → Option Value} {base : Heap}
theorem ok_is_number (T : Env K mg) : FnOk P w K mg base CX0 1 T.f_is_number T.fd_is_number ["value"] (spNum K) := by
  refine T.F_is_number.ok sc_is_number (fun vs H Q E h => ?_) (fun cdv A outer s H vs Q E hr h => ⟨_, ((pss_one (ps_ret (pe_and (pe_callB call_isi (by rfl) T.z_isinstance (by decide +kernel) (pa_cons (pv 0) (pa_cons (pe_bltn (v := .ty "int") (by rfl) T.z_int (by decide +kernel) rfl) pa_nil))) (pe_and (pe_not (pe_callB call_isi (by rfl) T.z_isinstance (by decide +kernel) (pa_cons (pv 0) (pa_cons (pe_bltn (v := .ty "bool") (by rfl) T.z_bool (by decide +kernel) rfl) pa_nil)))) (pe_one (pe_cmpR op_ge (pv 0) pe_int (nomark _)))))))), ?_⟩)
  · obtain ⟨v, rfl, _⟩ := h
    rfl
  · obtain ⟨v, rfl, ⟨i, rfl, q⟩ | ⟨b, rfl, q⟩ | ⟨⟨t, ht, hk⟩, q⟩⟩ := h
    · walk_at "ssi"
      exact q
    · walk_at "ssi"
      exact q
    · walk_at "ssi"
      exact q
theorem ok_is_below (T : Env K mg) : FnOk P w K mg base CX0 2 T.f_is_below T.fd_is_below ["value", "bound"] (spBelow K) := by
  refine T.F_is_below.ok sc_is_below (fun vs H Q E h => ?_) (fun cdv A outer s H vs Q E hr h => ⟨_, ((pss_one (ps_ret (pe_and (pe_call (ok_is_number T) (hr.mono (by decide)) (by rfl) T.g_is_number T.F_is_number.kp T.b_is_number .nil pass0 (pa_cons (pv 0) pa_nil)) (pe_one (pe_cmpR op_lt (pv 0) (pv 1) (nomark _))))))), ?_⟩)
  · obtain ⟨v, n, rfl, _⟩ := h
    rfl
  · obtain ⟨v, n, rfl, ⟨i, rfl, q⟩ | ⟨b, rfl, q⟩ | ⟨hn, q⟩⟩ := h
    · walk_at "ss"
      refine ite2 (fun e1 => ?_) (fun e1 => ?_)
      · have e2 : 0 ≤ i := of_decide_eq_true e1
        walk_at "ss"
        rw [show decide (0 ≤ i ∧ i < n) = decide (i < n) from decide_eq_decide.mpr ⟨fun h => h.2, fun h => ⟨e2, h⟩⟩] at q
        exact q
      · have e2 : ¬ 0 ≤ i := fun h => e1 (decide_eq_true h)
        rw [decide_eq_false fun h => e2 h.1] at q
        exact q
    · walk_at "ss"
      refine .inr (.inl ⟨b, rfl, ?_⟩)
      walk_at "ss"
      exact q
    · walk_at "ss"
      refine .inr (.inr ⟨hn, ?_⟩)
      walk_at "ss"
      exact q
def spListed (K : PySem.W.Frag) : Sp := fun vs H Q _ => ∃ (v : V), vs = [v] ∧ ((∃ p xs, v = .ref p ∧ (SqL K H p xs ∨ SqT K H p xs) ∧ ∀ H', Same H H' → Q (.bl true) H') ∨ (∃ t, TyX K H v (.type t) ∧ kitB t "list" = some false ∧ kitB t "tuple" = some false ∧ ∀ H', Same H H' → Q (.bl false) H'))
theorem ok_is_listed (T : Env K mg) : FnOk P w K mg base CX0 1 T.f_is_listed T.fd_is_listed ["value"] (spListed K) := by
  refine T.F_is_listed.ok sc_is_listed (fun vs H Q E h => ?_) (fun cdv A outer s H vs Q E hr h => ⟨_, ((pss_one (ps_ret (pe_callB call_isiT (by rfl) T.z_isinstance (by decide +kernel) (pa_cons (pv 0) (pa_cons (pe_tup (pa_cons (pe_bltn (v := .ty "list") (by rfl) T.z_list (by decide +kernel) rfl) (pa_cons (pe_bltn (v := .ty "tuple") (by rfl) T.z_tuple (by decide +kernel) rfl) pa_nil))) pa_nil)))))), ?_⟩)
  · obtain ⟨v, rfl, _⟩ := h
    rfl
  · obtain ⟨v, rfl, ⟨p, xs, rfl, h | h, q⟩ | ⟨t, ht, k1, k2, q⟩⟩ := h
    · have ty := tyx_list h
      walk_at "ss"
      intro D hD
      have ty2 := tyx_same (same_upd (o := .tup [.ty "list", .ty "tuple"]) hD) ty
      walk_at "ssi"
      exact q _ (same_upd hD)
    · have ty := tyx_tup h
      walk_at "ss"
      intro D hD
      have ty2 := tyx_same (same_upd (o := .tup [.ty "list", .ty "tuple"]) hD) ty
      walk_at "ssi"
      exact q _ (same_upd hD)
    · walk_at "ss"
      intro D hD
      have ty2 := tyx_same (same_upd (o := .tup [.ty "list", .ty "tuple"]) hD) ht
      refine ⟨_, _, _, _, _, false, rfl, upd_same, .cons (.ty _) (.cons (.ty _) .nil), ty2, any2 (r1 := false) (r2 := false) k1 k2, ?_⟩
      walk_at "ssi"
      exact q _ (same_upd hD)
end

/-! ### texts of single signs -/
abbrev sg (c : Nat) : Str := ⟨#[c]⟩
theorem rising_sg : ∀ (cs : List Nat) (p : Nat), risingS (sg p) (cs.map sg) = true → cs.Pairwise (· ≤ ·) ∧ ∀ c ∈ cs, p ≤ c
  | [], _, _ => ⟨.nil, fun _ h => nomatch h⟩
  | c :: r, p, h => by
    have h' : (!PySem.Spec.ltCps [c] [p] && risingS (sg c) (r.map sg)) = true := h
    rw [Bool.and_eq_true] at h'
    obtain ⟨h1, h2⟩ := h'
    have h3 : ¬ c < p := by
      intro hc
      simp [PySem.Spec.ltCps, hc] at h1
    obtain ⟨h4, h5⟩ := rising_sg r c h2
    refine ⟨List.pairwise_cons.mpr ⟨h5, h4⟩, fun x hx => ?_⟩
    rcases List.mem_cons.mp hx with rfl | hx
    · omega
    · have := h5 x hx
      omega
theorem sorted_sg : ∀ (cs : List Nat), sortedS (cs.map sg) = true → cs.Pairwise (· ≤ ·)
  | [], _ => .nil
  | c :: r, h => by
    obtain ⟨h4, h5⟩ := rising_sg r c h
    exact List.pairwise_cons.mpr ⟨h5, h4⟩
theorem perm_sg {ys : List Str} {cs : List Nat} (h : ys.Perm (cs.map sg)) : ∃ ds : List Nat, ds.Perm cs ∧ ys = ds.map sg := by
  refine ⟨ys.map fun y => y.cps.toList.headD 0, ?_, ?_⟩
  · have h2 := h.map fun y => y.cps.toList.headD 0
    rw [List.map_map] at h2
    have e : ((fun y : Str => y.cps.toList.headD 0) ∘ sg) = id := rfl
    rw [e, List.map_id] at h2
    exact h2
  · rw [List.map_map]
    have : ∀ y ∈ ys, (sg ∘ fun y : Str => y.cps.toList.headD 0) y = y := fun y hy => by
      obtain ⟨c, -, rfl⟩ := List.mem_map.mp (h.mem_iff.mp hy)
      rfl
    conv => lhs; rw [← List.map_id ys]
    exact (List.map_congr_left fun y hy => (this y hy)).symm
theorem joinL_sg : ∀ cs : List Nat, TL.joinL [] (cs.map fun c => [c]) = cs
  | [] => rfl
  | [c] => rfl
  | c :: d :: r => by
    show [c] ++ ([] ++ TL.joinL [] ((d :: r).map fun c => [c])) = c :: d :: r
    rw [joinL_sg (d :: r)]
    rfl
theorem join_sg (cs : List Nat) : Txt.join (Str.ofString "") (cs.map sg) = ⟨cs.toArray⟩ := by
  apply TL.ext_tl
  rw [TL.join_eq, TL.tl_join, List.map_map]
  show TL.joinL [] (cs.map fun c => [c]) = _
  rw [joinL_sg]
theorem sum_sg : ∀ cs : List Nat, ((cs.map sg).map (·.length)).sum = cs.length
  | [] => rfl
  | c :: r => by
    show 1 + ((r.map sg).map (·.length)).sum = r.length + 1
    rw [sum_sg r]
    omega
theorem rise_lt {cs : List Nat} (h : cs.Pairwise (· ≤ ·)) (n : cs.Nodup) : cs.Pairwise (· < ·) := by
  have h2 := List.pairwise_and_iff.mpr ⟨h, n⟩
  exact h2.imp fun ⟨a, b⟩ => Nat.lt_of_le_of_ne a b
theorem in_sg (c : Nat) (cs : List Nat) : inV (.str (sg c)) (cs.map fun c => V.str (sg c)) = decide (c ∈ cs) := by
  unfold inV
  rw [Bool.eq_iff_iff, List.any_map]
  simp only [List.any_eq_true, Function.comp, eqV, decide_eq_true_eq]
  constructor
  · rintro ⟨d, hd, e⟩
    have e2 : sg d = sg c := by simpa using e
    have e3 : d = c := by
      have := congrArg (fun z : Str => z.cps.toList) e2
      simpa using this
    rw [← e3]
    exact hd
  · intro h
    exact ⟨c, h, by simp⟩
theorem az_text : (Str.ofString "abcdefghijklmnopqrstuvwxyz").cps.toList = (List.range 26).map (97 + ·) := by decide +kernel
theorem az_at {i c : Nat} (h : (Str.ofString "abcdefghijklmnopqrstuvwxyz").cps[i]? = some c) : i < 26 ∧ c = 97 + i := by
  rw [get_tl, az_text, List.getElem?_map] at h
  by_cases hi : i < 26
  · rw [List.getElem?_range hi] at h
    exact ⟨hi, (Option.some.inj h).symm⟩
  · rw [List.getElem?_eq_none_iff.mpr (by simp; omega)] at h
    cases h
theorem az_size : (Str.ofString "abcdefghijklmnopqrstuvwxyz").cps.size = 26 := by decide +kernel
theorem az_len : (Str.ofString "abcdefghijklmnopqrstuvwxyz").length = 26 := by decide +kernel
theorem az_mem {c : Nat} (h : c ∈ (Str.ofString "abcdefghijklmnopqrstuvwxyz").cps.toList) : 97 ≤ c ∧ c ≤ 122 := by
  rw [az_text] at h
  obtain ⟨i, hi, rfl⟩ := List.mem_map.mp h
  have := List.mem_range.mp hi
  omega

def intD : PyData → Int
  | .int i => i
  | _ => 0
def ascD (ds : List PyData) : Bool := (List.range (ds.length - 1)).all fun i => decide (intD (ds.getD i .none) < intD (ds.getD (i + 1) .none))
theorem inV_ints (i : Int) (l : List Int) : inV (.int i) (l.map V.int) = decide (i ∈ l) := by
  unfold inV
  rw [Bool.eq_iff_iff, List.any_map]
  simp only [List.any_eq_true, Function.comp, eqV, decide_eq_true_eq]
  constructor
  · rintro ⟨d, hd, e⟩
    have e2 : d = i := by simpa using e
    rw [← e2]
    exact hd
  · intro h
    exact ⟨i, h, by simp⟩

/-! ### lines of formulas, any values -/
def belowD (n : Int) : PyData → Bool
  | .int i => decide (0 ≤ i ∧ i < n)
  | _ => false
def primeD : PyData → Bool
  | .int i => decide (i ∈ ([2, 3, 5, 7, 11, 13, 17, 19, 23, 29, 31, 37, 41, 43, 47, 53, 59, 61, 67, 71, 73, 79, 83, 89, 97] : List Int))
  | _ => false
def lettersD (al : List Nat) : PyData → Bool
  | .str z => decide (z = ⟨(al.filter fun c => decide (c ∈ z.cps.toList)).toArray⟩)
  | _ => false
def refsD (n : Int) : PyData → Bool
  | .tuple ds => ds.all (belowD n) && ascD ds
  | _ => false
def standD (al : List Nat) (n : Int) : PyData → Bool
  | .tuple [.str k, a] => if k = "is" then lettersD al a else if k = "not" ∨ k = "before" then belowD n a else if k = "and" ∨ k = "or" then refsD n a else false
  | .tuple [.str k, a, b] => if k = "since" then belowD n a && belowD n b else false
  | .tuple [.str k, a, b, c] => if k = "count" then belowD n a && (primeD b && belowD (intD b) c) else false
  | _ => false
def kinds9 : List Str := ["is", "not", "before", "and", "or", "since", "count", "letter", "xor"]
/-- what is asked of such values: short tuples that begin with a text or None; short texts -/
def OkD : PyData → Prop
  | .tuple [] => True
  | .tuple (.none :: ps) => ps.length ≤ 3
  | .tuple (.str k :: ps) => k ∈ kinds9 ∧ ps.length ≤ 3 ∧ ∀ d ∈ ps, (∀ z, d = .str z → z.length ≤ 1000) ∧ (∀ ds, d = .tuple ds → ds.length ≤ 1000)
  | .tuple _ => False
  | _ => True
theorem below_use {K : PySem.W.Frag} {H : Hp} {v : V} {d : PyData} {n : Int} {Q : VK} (h : Dp K H v d) (q : Q (.bl (belowD n d)) H) :
    (∃ i, v = .int i ∧ Q (.bl (decide (0 ≤ i ∧ i < n))) H) ∨ (∃ b, v = .bl b ∧ Q (.bl false) H) ∨ (NoInt K H v ∧ Q (.bl false) H) := by
  cases h with
  | non => exact .inr (.inr ⟨⟨"NoneType", .base .non, by decide +kernel⟩, q⟩)
  | bl b => exact .inr (.inl ⟨b, rfl, q⟩)
  | int i => exact .inl ⟨i, rfl, q⟩
  | str x => exact .inr (.inr ⟨⟨"str", .base (.str x), by decide +kernel⟩, q⟩)
  | lst h1 h2 => exact .inr (.inr ⟨⟨"list", tyx_list h1, by decide +kernel⟩, q⟩)
  | tup h1 h2 => exact .inr (.inr ⟨⟨"tuple", tyx_tup h1, by decide +kernel⟩, q⟩)
def spPrimeX (K : PySem.W.Frag) : Sp := fun vs H Q _ => ∃ (v : V) (d : PyData), vs = [v] ∧ Dp K H v d ∧ Q (.bl (primeD d)) H
section
variable {P : Program} {w : World} {K : PySem.W.Frag} {mg : Str → Option Value} {base : Heap}
theorem ok_is_prime (T : Env K mg) : FnOk P w K mg base CX0 2 T.f_is_prime T.fd_is_prime ["value"] (spPrimeX K) := by
  refine T.F_is_prime.ok sc_is_prime (fun vs H Q E h => ?_) (fun cdv A outer s H vs Q E hr h => ⟨_, ((pss_one (ps_ret (pe_and (pe_call (ok_is_number T) (hr.mono (by decide)) (by rfl) T.g_is_number T.F_is_number.kp T.b_is_number .nil pass0 (pa_cons (pv 0) pa_nil)) (pe_one (pe_cmpR op_in_seq (pv 0) (pe_glob (v := .ref T.r_PRIMES) (by rfl) T.gt_PRIMES rfl) (by rfl))))))), ?_⟩)
  · obtain ⟨v, d, rfl, _⟩ := h
    rfl
  · obtain ⟨v, d, rfl, hd, q⟩ := h
    walk_at "ss"
    cases hd with
    | int i =>
      refine .inl ⟨i, rfl, ?_⟩
      walk_at "ss"
      refine ite2 (fun e1 => ?_) (fun e1 => ?_)
      · walk_at "ss"
        refine ⟨_, _, rfl, .inr (T.st_PRIMES _), rfl, by decide, ?_⟩
        rw [inV_ints]
        exact q
      · have e2 : primeD (.int i) = false := decide_eq_false fun h => e1 (decide_eq_true (by
          simp only [List.mem_cons, List.not_mem_nil, or_false] at h
          omega))
        rw [e2] at q
        exact q
    | bl b =>
      refine .inr (.inl ⟨b, rfl, ?_⟩)
      walk_at "ss"
      exact q
    | non =>
      refine .inr (.inr ⟨⟨"NoneType", .base .non, by decide +kernel⟩, ?_⟩)
      walk_at "ss"
      exact q
    | str x =>
      refine .inr (.inr ⟨⟨"str", .base (.str x), by decide +kernel⟩, ?_⟩)
      walk_at "ss"
      exact q
    | lst h1 h2 =>
      refine .inr (.inr ⟨⟨"list", tyx_list h1, by decide +kernel⟩, ?_⟩)
      walk_at "ss"
      exact q
    | tup h1 h2 =>
      refine .inr (.inr ⟨⟨"tuple", tyx_tup h1, by decide +kernel⟩, ?_⟩)
      walk_at "ss"
      exact q
def spLettersX (K : PySem.W.Frag) : Sp := fun vs H Q _ => ∃ (al : Str) (v : V) (d : PyData), vs = [.str al, v] ∧ al.length ≤ 4 ∧ Dp K H v d ∧ (∀ z, d = .str z → z.length ≤ 1000) ∧ ∀ H', Same H H' → Q (.bl (lettersD al.cps.toList d)) H'
def letF (al z : List Nat) (i : Nat) : Option V := match al[i]? with | some c => if c ∈ z then some (.str (sg c)) else none | none => none
theorem letF_all (al z : List Nat) : (List.range al.length).filterMap (letF al z) = ((al.filter fun c => decide (c ∈ z)).map sg).map V.str := by
  have h : ∀ (l pre : List Nat), al = pre ++ l → (List.range' pre.length l.length).filterMap (letF al z) = ((l.filter fun c => decide (c ∈ z)).map sg).map V.str := by
    intro l
    induction l with
    | nil => intro pre e; rfl
    | cons c l ih =>
      intro pre e
      have hc : al[pre.length]? = some c := by rw [e]; simp
      have ih2 := ih (pre ++ [c]) (by rw [e]; simp)
      rw [List.length_append] at ih2
      rw [List.length_cons, List.range'_succ, List.filterMap_cons, List.filter_cons]
      have fc : letF al z pre.length = if c ∈ z then some (V.str (sg c)) else none := by
        unfold letF
        rw [hc]
      rw [fc]
      by_cases hm : c ∈ z
      · rw [if_pos hm, if_pos (decide_eq_true hm)]
        exact congrArg (V.str (sg c) :: ·) ih2
      · rw [if_neg hm, if_neg (by simpa using hm)]
        exact ih2
  have := h al [] rfl
  rw [List.length_nil] at this
  rw [← this, List.range_eq_range']
theorem ok_are_letters (T : Env K mg) : FnOk P w K mg base CX0 1 T.f_are_letters T.fd_are_letters ["alphabet", "value"] (spLettersX K) := by
  refine T.F_are_letters.ok sc_are_letters (fun vs H Q E h => ?_) (fun cdv A outer s H vs Q E hr h => ⟨_, ((pss_one (ps_ret (pe_and (pe_callB call_isi (by rfl) T.z_isinstance (by decide +kernel) (pa_cons (pv 1) (pa_cons (pe_bltn (v := .ty "str") (by rfl) T.z_str (by decide +kernel) rfl) pa_nil))) (pe_one (pe_cmpR op_eq (pv 1) (pe_join pe_str (pe_lc (own := [("letter", 2)]) (g := (gName 2)) rfl sc_are_letters.nd (pi_str (pv 0)) (blkOk_by (own := [("letter", 2)]) (N := N_are_letters) (sc := defScope s_are_letters) (by decide +kernel)) (fun _ _ _ _ _ => (pg_name (i := 2) sc_are_letters.nd rfl (.inl rfl))) (fun _ _ _ _ _ => (pts_one (pt_cmpR op_in_sign (pv 2) (pv 1) (by rfl)))) (fun _ _ _ _ _ => (pv 2)))) (nomark _))))))), ?_⟩)
  · obtain ⟨al, v, d, rfl, _⟩ := h
    rfl
  · obtain ⟨al, v, d, rfl, hal, hd, hz, q⟩ := h
    cases hd with
    | str z =>
      have hz := hz z rfl
      walk_at "ssi"
      rename_i D hD
      refine lc_fil walk_str (fun H' => Same H H') (letF al.cps.toList z.cps.toList) (by rw [size_tl, ← len_tl]; omega) (same_upd hD) (fun _ _ => trivial) (fun _ _ h => same_mut h hD) ?_ ?_
      · rintro i2 x H4 H5 Q1 Qn hlt hI ⟨rfl, c, hcz, rfl⟩ - hQ hN
        rw [get_tl] at hcz
        have fc : letF al.cps.toList z.cps.toList i2 = if c ∈ z.cps.toList then some (V.str (sg c)) else none := by
          unfold letF
          rw [hcz]
        walk_at "ss"
        by_cases hm : c ∈ z.cps.toList
        · rw [decide_eq_true hm]
          walk_at "ss"
          exact hQ _ _ (by rw [fc, if_pos hm]) hI fun _ h => h
        · rw [decide_eq_false hm]
          walk_at "ss"
          exact hN _ (by rw [fc, if_neg hm]) hI fun _ h => h
      · intro H1 hI hy
        rw [size_tl, letF_all] at hy
        walk_at "ss"
        have hl := List.length_filter_le (fun c => decide (c ∈ z.cps.toList)) al.cps.toList
        rw [← len_tl] at hl
        refine ⟨_, D, _, rfl, rfl, .inl (SqL.of hy), ?_, ?_⟩
        · rw [sum_sg, List.length_map]
          have : (Str.ofString "").length = 0 := rfl
          rw [this]
          omega
        · rw [join_sg]
          walk_at "ss"
          have q := q _ hI
          show Q (V.bl (decide (V.str z = V.str _))) H1
          rw [show decide (V.str z = V.str ⟨(al.cps.toList.filter fun c => decide (c ∈ z.cps.toList)).toArray⟩) = lettersD al.cps.toList (.str z) from decide_eq_decide.mpr ⟨fun h => by injection h, fun h => by rw [← h]⟩]
          exact q
    | non =>
      walk_at "ssi"
      exact q _ (Same.refl _)
    | bl b =>
      walk_at "ssi"
      exact q _ (Same.refl _)
    | int i =>
      walk_at "ssi"
      exact q _ (Same.refl _)
    | lst h1 h2 =>
      have ty := tyx_list h1
      walk_at "ssi"
      exact q _ (Same.refl _)
    | tup h1 h2 =>
      have ty := tyx_tup h1
      walk_at "ssi"
      exact q _ (Same.refl _)
def spRefsX (K : PySem.W.Frag) : Sp := fun vs H Q _ => ∃ (v : V) (d : PyData) (n : Int), vs = [v, .int n] ∧ Dp K H v d ∧ (∀ ds, d = .tuple ds → ds.length ≤ 1000) ∧ ∀ H', Same H H' → Q (.bl (refsD n d)) H'
theorem below_int {n : Int} {d : PyData} (h : belowD n d = true) : d = .int (intD d) := by
  cases d <;> first | rfl | cases h
theorem ok_are_refs (T : Env K mg) : FnOk P w K mg base CX0 3 T.f_are_refs T.fd_are_refs ["value", "place"] (spRefsX K) := by
  refine T.F_are_refs.ok sc_are_refs (fun vs H Q E h => ?_) (fun cdv A outer s H vs Q E hr h => ⟨_, ((pss_cons (ps_if (PW.pt (pw_or (pt_not (pt_val (pe_callB call_isi (by rfl) T.z_isinstance (by decide +kernel) (pa_cons (pv 0) (pa_cons (pe_bltn (v := .ty "tuple") (by rfl) T.z_tuple (by decide +kernel) rfl) pa_nil))))) (pw_or1 (pt_not (pt_val (pe_callB (cr_all rfl) (by rfl) T.z_all (by decide +kernel) (pa_cons (pe_lc (own := [("ref", 3)]) (g := (gName 3)) (tt := tYes) rfl sc_are_refs.nd (pi_tup (pv 0)) (blkOk_by (own := [("ref", 3)]) (N := N_are_refs) (sc := defScope s_are_refs) (by decide +kernel)) (fun _ _ _ _ _ => (pg_name (i := 3) sc_are_refs.nd rfl (.inl rfl))) (fun _ _ _ _ _ => pts_nil) (fun _ _ _ _ _ => (pe_call (ok_is_below T) (hr.mono (by decide)) (by rfl) T.g_is_below T.F_is_below.kp T.b_is_below .nil pass0 (pa_cons (pv 3) (pa_cons (pv 1) pa_nil))))) pa_nil)))))))
      (pss_one (ps_ret pe_bl))
      pss_nil)
      (pss_one (ps_ret (pe_callB (cr_all rfl) (by rfl) T.z_all (by decide +kernel) (pa_cons (pe_lc (own := [("at", 2)]) (g := (gName 2)) (tt := tYes) (te := (tOp _ (tOp (rIxT K) _ _) (tOp (rIxT K) _ _))) rfl sc_are_refs.nd (pi_range2 (by rfl) T.z_range (pa_cons pe_int (pa_cons (pe_callB call_len_seq (by rfl) T.z_len (by decide +kernel) (pa_cons (pv 0) pa_nil)) pa_nil))) (blkOk_by (own := [("at", 2)]) (N := N_are_refs) (sc := defScope s_are_refs) (by decide +kernel)) (fun _ _ _ _ _ => (pg_name (i := 2) sc_are_refs.nd rfl (.inl rfl))) (fun _ _ _ _ _ => pts_nil) (fun _ _ _ _ _ => (pe_cmpR op_lt (pe_ix ix_tup (pv 0) (pe_op op_sub (pv 2) pe_int) (fun _ _ => rfl)) (pe_ix ix_tup (pv 0) (pv 2) (fun _ _ => rfl)) (nomark _)))) pa_nil)))))), ?_⟩)
  · obtain ⟨v, d, n, rfl, _⟩ := h
    rfl
  · obtain ⟨v, d, n, rfl, hd, hds, q⟩ := h
    cases hd with
    | tup h1 h2 =>
      have ty := tyx_tup h1
      rename_i a xs ds
      have hn := hds ds rfl
      have hl := dpa_len h2
      walk_at "ssi"
      refine ⟨⟨_, h1⟩, ?_⟩
      intro D hD
      refine lc_gen walk_tup (fun H' => Same H H') (fun i y => ∃ d, ds[i]? = some d ∧ y = V.bl (belowD n d)) (by omega) (same_upd hD) (fun _ h => same_tup h h1) (fun _ _ h => same_mut h hD) ?_ ?_
      · rintro i x H1 H2 Q1 hlt2 hI ⟨rfl, hx⟩ - hQ
        obtain ⟨d, hd1, hd2⟩ := dpa_at h2 hx
        walk_at "ss"
        refine ⟨x, n, rfl, below_use (dp_same hd2 hI) ?_⟩
        exact hQ _ _ ⟨d, hd1, rfl⟩ hI fun _ h => h
      · intro H1 ys hI hy hl1 hr1
        have e : ys = (ds.map (belowD n)).map V.bl := by
          rw [List.map_map]
          exact ys_map (by omega) hr1
        subst e
        walk_at "ss"
        refine ⟨D, _, rfl, SqL.of hy, ?_⟩
        have ea : (ds.map (belowD n)).all id = ds.all (belowD n) := by rw [List.all_map]; rfl
        rw [ea]
        cases hall : ds.all (belowD n) with
        | false =>
          walk_at "ss"
          have q := q H1 hI
          rw [show refsD n (.tuple ds) = false by show (ds.all (belowD n) && _) = false; rw [hall]; rfl] at q
          exact q
        | true =>
          have items : ∀ {i : Nat}, i < xs.length → xs[i]? = some (.int (intD (ds.getD i .none))) := fun {i} hi => by
            obtain ⟨x, hx⟩ : ∃ x, xs[i]? = some x := ⟨_, List.getElem?_eq_getElem hi⟩
            obtain ⟨d, hd1, hd2⟩ := dpa_at h2 hx
            have b := below_int (List.all_eq_true.mp hall d (List.mem_of_getElem? hd1))
            rw [b] at hd2
            cases hd2
            rw [hx, List.getD_eq_getElem?_getD, hd1]
            rfl
          walk_at "ss"
          refine ⟨a, xs, rfl, .inr (same_tup hI h1), ?_⟩
          obtain ⟨nz, hnz⟩ : ∃ nz : Int, nz = ((xs.length : Nat) : Int) := ⟨_, rfl⟩
          rw [← hnz]
          walk_at "ss"
          refine ⟨_, _, rfl, ⟨by decide, by decide, by omega, by omega⟩, ?_⟩
          intro D2 hD2
          refine lc_gen walk_range (fun H' => Same H1 H') (fun i y => y = V.bl (decide (intD (ds.getD i .none) < intD (ds.getD (i + 1) .none)))) (by omega) (same_upd hD2) (fun _ _ => trivial) (fun _ _ h => same_mut h hD2) ?_ ?_
          · rintro i x H2 H3 Q1 hlt2 hI2 ⟨rfl, rfl⟩ - hQ
            have s2 := hI.trans hI2
            walk_at "ss"
            refine ⟨a, _, _, _, rfl, rfl, same_tup s2 h1, (show atI xs (1 + (i : Int) - 1) = _ by rw [show 1 + (i : Int) - 1 = ((i : Nat) : Int) by omega]; exact atI_nat (items (by omega))), ?_⟩
            walk_at "ss"
            refine ⟨a, _, _, _, rfl, rfl, same_tup s2 h1, (show atI xs (1 + (i : Int)) = _ by rw [show 1 + (i : Int) = ((i + 1 : Nat) : Int) by omega]; exact atI_nat (items (by omega))), ?_⟩
            walk_at "ss"
            exact hQ _ _ rfl hI2 fun _ h => h
          · intro H2 ys2 hI2 hy2 hl2 hr2
            have e : ys2 = ((List.range (ds.length - 1)).map fun i => decide (intD (ds.getD i .none) < intD (ds.getD (i + 1) .none))).map V.bl := by
              refine List.ext_getElem (by rw [hl2, List.length_map, List.length_map, List.length_range]; omega) fun i a1 a2 => ?_
              rw [hr2 i _ (List.getElem?_eq_getElem a1)]
              simp
            subst e
            walk_at "ss"
            refine ⟨D2, _, rfl, SqL.of hy2, ?_⟩
            have q := q H2 (hI.trans hI2)
            rw [show refsD n (.tuple ds) = ascD ds by show (ds.all (belowD n) && _) = _; rw [hall]; rfl] at q
            rw [List.all_map]
            exact q
    | non =>
      walk_at "ssi"
      exact q _ (Same.refl _)
    | bl b =>
      walk_at "ssi"
      exact q _ (Same.refl _)
    | int i =>
      walk_at "ssi"
      exact q _ (Same.refl _)
    | str x =>
      walk_at "ssi"
      exact q _ (Same.refl _)
    | lst h1 h2 =>
      have ty := tyx_list h1
      walk_at "ssi"
      exact q _ (Same.refl _)
end

theorem below_ways {K : PySem.W.Frag} {H : Hp} {v : V} {d : PyData} {n : Int} (h : Dp K H v d) : (∃ i, v = .int i ∧ belowD n d = decide (0 ≤ i ∧ i < n)) ∨ (∃ b, v = .bl b ∧ belowD n d = false) ∨ (NoInt K H v ∧ belowD n d = false) := by
  cases h with
  | non => exact .inr (.inr ⟨⟨"NoneType", .base .non, by decide +kernel⟩, rfl⟩)
  | bl b => exact .inr (.inl ⟨b, rfl, rfl⟩)
  | int i => exact .inl ⟨i, rfl, rfl⟩
  | str x => exact .inr (.inr ⟨⟨"str", .base (.str x), by decide +kernel⟩, rfl⟩)
  | lst h1 h2 => exact .inr (.inr ⟨⟨"list", tyx_list h1, by decide +kernel⟩, rfl⟩)
  | tup h1 h2 => exact .inr (.inr ⟨⟨"tuple", tyx_tup h1, by decide +kernel⟩, rfl⟩)
theorem standD1 (al : List Nat) (n : Int) (k : Str) (a : PyData) : standD al n (.tuple [.str k, a]) = if k = "is" then lettersD al a else if k = "not" ∨ k = "before" then belowD n a else if k = "and" ∨ k = "or" then refsD n a else false := rfl
theorem standD2 (al : List Nat) (n : Int) (k : Str) (a b : PyData) : standD al n (.tuple [.str k, a, b]) = if k = "since" then belowD n a && belowD n b else false := rfl
theorem standD3 (al : List Nat) (n : Int) (k : Str) (a b c : PyData) : standD al n (.tuple [.str k, a, b, c]) = if k = "count" then belowD n a && (primeD b && belowD (intD b) c) else false := rfl
def spStandX (K : PySem.W.Frag) : Sp := fun vs H Q _ => ∃ (al : Str) (v : V) (d : PyData) (n : Nat), vs = [.str al, v, .int (n : Nat)] ∧ al.length ≤ 4 ∧ Dp K H v d ∧ OkD d ∧ ∀ H', Same H H' → Q (.bl (standD al.cps.toList n d)) H'
section
variable {P : Program} {w : World} {K : PySem.W.Frag} {mg : Str → Option Value} {base : Heap}
theorem ok_can_stand (T : Env K mg) : FnOk P w K mg base CX0 4 T.f_can_stand T.fd_can_stand ["alphabet", "value", "place"] (spStandX K) := by
  refine T.F_can_stand.ok sc_can_stand (fun vs H Q E h => ?_) (fun cdv A outer s H vs Q E hr h => ⟨_, ((pss_cons (ps_if (PW.pt (pw_or (pt_not (pt_val (pe_callB call_isi (by rfl) T.z_isinstance (by decide +kernel) (pa_cons (pv 1) (pa_cons (pe_bltn (v := .ty "tuple") (by rfl) T.z_tuple (by decide +kernel) rfl) pa_nil))))) (pw_or1 (pt_not (pt_truth (pv 1) (by intro _; rfl))))))
      (pss_one (ps_ret pe_bl))
      pss_nil)
      (pss_cons (ps_set (i := 3) sc_can_stand.nd rfl (.inl rfl) (pe_ix ix_tup (pv 1) pe_int (fun _ _ => rfl)))
      (pss_cons (ps_set (i := 4) sc_can_stand.nd rfl (.inl rfl) (pe_slice sl_tup (pv 1) (po_some pe_int) po_none))
      (pss_cons (ps_if (PW.pt (pw_and (pt_cmpR op_eq (pv 3) pe_str (nomark _)) (pw_and1 (pt_cmpR op_eq (pe_callB call_len_seq (by rfl) T.z_len (by decide +kernel) (pa_cons (pv 4) pa_nil)) pe_int (nomark _)))))
      (pss_one (ps_ret (StX.pe_callS2 ((ok_are_letters T).raw T.b_are_letters .nil) (hr.mono (by decide)) T.F_are_letters.kp (by rfl) T.g_are_letters pass0 (pa_cons (pv 0) (StX.pa_star (pv 4) pa_nil)))))
      pss_nil)
      (pss_cons (ps_if (PW.pt (pw_and (PW.pt (pw_or (pt_cmpR op_eq (pv 3) pe_str (nomark _)) (pw_or1 (pt_cmpR op_eq (pv 3) pe_str (nomark _))))) (pw_and1 (pt_cmpR op_eq (pe_callB call_len_seq (by rfl) T.z_len (by decide +kernel) (pa_cons (pv 4) pa_nil)) pe_int (nomark _)))))
      (pss_one (ps_ret (pe_call (ok_is_below T) (hr.mono (by decide)) (by rfl) T.g_is_below T.F_is_below.kp T.b_is_below .nil pass0 (pa_cons (pe_ix ix_tup (pv 4) pe_int (fun _ _ => rfl)) (pa_cons (pv 2) pa_nil)))))
      pss_nil)
      (pss_cons (ps_if (PW.pt (pw_and (PW.pt (pw_or (pt_cmpR op_eq (pv 3) pe_str (nomark _)) (pw_or1 (pt_cmpR op_eq (pv 3) pe_str (nomark _))))) (pw_and1 (pt_cmpR op_eq (pe_callB call_len_seq (by rfl) T.z_len (by decide +kernel) (pa_cons (pv 4) pa_nil)) pe_int (nomark _)))))
      (pss_one (ps_ret (pe_call (ok_are_refs T) (hr.mono (by decide)) (by rfl) T.g_are_refs T.F_are_refs.kp T.b_are_refs .nil pass0 (pa_cons (pe_ix ix_tup (pv 4) pe_int (fun _ _ => rfl)) (pa_cons (pv 2) pa_nil)))))
      pss_nil)
      (pss_cons (ps_if (PW.pt (pw_and (pt_cmpR op_eq (pv 3) pe_str (nomark _)) (pw_and1 (pt_cmpR op_eq (pe_callB call_len_seq (by rfl) T.z_len (by decide +kernel) (pa_cons (pv 4) pa_nil)) pe_int (nomark _)))))
      (pss_one (ps_ret (pe_and (pe_call (ok_is_below T) (hr.mono (by decide)) (by rfl) T.g_is_below T.F_is_below.kp T.b_is_below .nil pass0 (pa_cons (pe_ix ix_tup (pv 4) pe_int (fun _ _ => rfl)) (pa_cons (pv 2) pa_nil))) (pe_one (pe_call (ok_is_below T) (hr.mono (by decide)) (by rfl) T.g_is_below T.F_is_below.kp T.b_is_below .nil pass0 (pa_cons (pe_ix ix_tup (pv 4) pe_int (fun _ _ => rfl)) (pa_cons (pv 2) pa_nil)))))))
      pss_nil)
      (pss_cons (ps_if (PW.pt (pw_and (pt_cmpR op_eq (pv 3) pe_str (nomark _)) (pw_and1 (pt_cmpR op_eq (pe_callB call_len_seq (by rfl) T.z_len (by decide +kernel) (pa_cons (pv 4) pa_nil)) pe_int (nomark _)))))
      (pss_one (ps_ret (pe_and (pe_call (ok_is_below T) (hr.mono (by decide)) (by rfl) T.g_is_below T.F_is_below.kp T.b_is_below .nil pass0 (pa_cons (pe_ix ix_tup (pv 4) pe_int (fun _ _ => rfl)) (pa_cons (pv 2) pa_nil))) (pe_and (pe_call (ok_is_prime T) (hr.mono (by decide)) (by rfl) T.g_is_prime T.F_is_prime.kp T.b_is_prime .nil pass0 (pa_cons (pe_ix ix_tup (pv 4) pe_int (fun _ _ => rfl)) pa_nil)) (pe_one (pe_call (ok_is_below T) (hr.mono (by decide)) (by rfl) T.g_is_below T.F_is_below.kp T.b_is_below .nil pass0 (pa_cons (pe_ix ix_tup (pv 4) pe_int (fun _ _ => rfl)) (pa_cons (pe_ix ix_tup (pv 4) pe_int (fun _ _ => rfl)) pa_nil))))))))
      pss_nil)
      (pss_one (ps_ret pe_bl))))))))))), ?_⟩)
  · obtain ⟨al, v, d, n, rfl, _⟩ := h
    rfl
  · obtain ⟨al, v, d, n, rfl, hal, hd, ok, q⟩ := h
    obtain ⟨nz, hnz⟩ : ∃ nz : Int, nz = ((n : Nat) : Int) := ⟨_, rfl⟩
    rw [← hnz] at q ⊢
    cases hd with
    | non =>
      walk_at "ssi"
      exact q _ (Same.refl _)
    | bl b =>
      walk_at "ssi"
      exact q _ (Same.refl _)
    | int i =>
      walk_at "ssi"
      exact q _ (Same.refl _)
    | str x =>
      walk_at "ssi"
      exact q _ (Same.refl _)
    | lst h1 h2 =>
      have ty := tyx_list h1
      walk_at "ssi"
      exact q _ (Same.refl _)
    | tup h1 h2 =>
      rename_i p xs ds
      have ty := tyx_tup h1
      cases h2 with
      | nil =>
        walk_at "ssi"
        refine ⟨false, .inr (.inl ⟨_, h1, rfl⟩), ?_⟩
        walk_at "ss"
        exact q _ (Same.refl _)
      | cons hx hr2 =>
        rename_i x xr d0 dr
        walk_at "ssi"
        refine ⟨true, .inr (.inl ⟨_, h1, rfl⟩), ?_⟩
        walk_at "ss"
        refine ⟨p, _, 0, x, rfl, rfl, h1, atI_nat (j := 0) rfl, ?_⟩
        walk_at "ss"
        have len3 : dr.length ≤ 3 := by
          cases d0 with
          | none => exact ok
          | str k => exact ok.2.1
          | bool b => exact ok.elim
          | int i => exact ok.elim
          | list ds => exact ok.elim
          | tuple ds => exact ok.elim
          | dict ds => exact ok.elim
        have many : ∀ {m : Nat}, m = xr.length + 1 → m ≤ 4 → ¬ (HT.sIx m 0 (some 1) = 0 ∧ HT.sIx m m none = m) := fun {m} e h => by
          have : m = 1 ∨ m = 2 ∨ m = 3 ∨ m = 4 := by omega
          rcases this with rfl | rfl | rfl | rfl <;> decide
        have xl := dpa_len hr2
        have cutE : cutV (x :: xr) (some 1) none = xr := by
          show cutV (x :: xr) (some ((1 : Nat) : Int)) none = _
          rw [cut_drop]
          rfl
        refine ⟨many rfl (by rw [List.length_cons]; omega), fun t ht => ?_⟩
        rw [cutE]
        have s1 := same_upd (o := .tup xr) ht
        have ht1 : upd H t (.tup xr) t = some (.tup xr) := upd_same
        have hr3 := dpa_same hr2 s1
        generalize upd H t (.tup xr) = G at *
        have done : standD al.cps.toList nz (.tuple (d0 :: dr)) = false → Q (.bl false) G := fun e => by
          have q := q G s1
          rw [e] at q
          exact q
        cases hx with
        | bl b => exact ok.elim
        | int i => exact ok.elim
        | lst _ _ => exact ok.elim
        | tup _ _ => exact ok.elim
        | non =>
          walk_at "ss"
          exact done rfl
        | str k =>
          obtain ⟨kk, _, okd⟩ := ok
          clear hr2 xl many cutE ty h1
          unfold kinds9 at kk
          simp only [List.mem_cons, List.not_mem_nil, or_false] at kk
          rcases kk with rfl | rfl | rfl | rfl | rfl | rfl | rfl | rfl | rfl
          · cases hr3 with
            | nil =>
              walk_at "ss"
              refine ⟨t, _, rfl, .inr (SqT.of ht1), ?_⟩
              walk_at "ss"
              exact done rfl
            | @cons x1 _ d1 _ a1 hr3 =>
              cases hr3 with
              | nil =>
                walk_at "ss"
                refine ⟨t, _, rfl, .inr (SqT.of ht1), ?_⟩
                walk_at "ss"
                refine ⟨t, _, rfl, .inl (SqT.of ht1), ?_⟩
                refine ⟨al, x1, d1, rfl, hal, a1, (okd d1 (by simp)).1, fun H' s' => ?_⟩
                have q := q H' (s1.trans s')
                rw [show standD al.cps.toList nz (.tuple [.str "is", d1]) = lettersD al.cps.toList d1 from by first | rw [standD1, if_pos rfl] | rw [standD2, if_pos rfl] | rw [standD3, if_pos rfl]] at q
                exact q
              | @cons x2 _ d2 _ a2 hr3 =>
                cases hr3 with
                | nil =>
                  walk_at "ss"
                  refine ⟨t, _, rfl, .inr (SqT.of ht1), ?_⟩
                  walk_at "ss"
                  exact done (by first | rw [standD2, if_neg (by decide +kernel)] | rw [standD3, if_neg (by decide +kernel)])
                | @cons x3 _ d3 _ a3 hr3 =>
                  cases hr3 with
                  | nil =>
                    walk_at "ss"
                    refine ⟨t, _, rfl, .inr (SqT.of ht1), ?_⟩
                    walk_at "ss"
                    exact done (by first | rw [standD2, if_neg (by decide +kernel)] | rw [standD3, if_neg (by decide +kernel)])
                  | cons a4 hr3 => simp at len3; try omega
          · cases hr3 with
            | nil =>
              walk_at "ss"
              refine ⟨t, _, rfl, .inr (SqT.of ht1), ?_⟩
              walk_at "ss"
              exact done rfl
            | @cons x1 _ d1 _ a1 hr3 =>
              cases hr3 with
              | nil =>
                walk_at "ss"
                refine ⟨t, _, rfl, .inr (SqT.of ht1), ?_⟩
                walk_at "ss"
                refine ⟨t, _, 0, x1, rfl, rfl, SqT.of ht1, atI_nat (j := 0) rfl, ?_⟩
                walk_at "ss"
                refine ⟨x1, nz, rfl, below_use a1 ?_⟩
                have q := q G s1
                rw [show standD al.cps.toList nz (.tuple [.str "not", d1]) = belowD nz d1 from by rw [standD1, if_neg (by decide +kernel), if_pos (by decide +kernel)]] at q
                exact q
              | @cons x2 _ d2 _ a2 hr3 =>
                cases hr3 with
                | nil =>
                  walk_at "ss"
                  refine ⟨t, _, rfl, .inr (SqT.of ht1), ?_⟩
                  walk_at "ss"
                  exact done (by first | rw [standD2, if_neg (by decide +kernel)] | rw [standD3, if_neg (by decide +kernel)])
                | @cons x3 _ d3 _ a3 hr3 =>
                  cases hr3 with
                  | nil =>
                    walk_at "ss"
                    refine ⟨t, _, rfl, .inr (SqT.of ht1), ?_⟩
                    walk_at "ss"
                    exact done (by first | rw [standD2, if_neg (by decide +kernel)] | rw [standD3, if_neg (by decide +kernel)])
                  | cons a4 hr3 => simp at len3; try omega
          · cases hr3 with
            | nil =>
              walk_at "ss"
              refine ⟨t, _, rfl, .inr (SqT.of ht1), ?_⟩
              walk_at "ss"
              exact done rfl
            | @cons x1 _ d1 _ a1 hr3 =>
              cases hr3 with
              | nil =>
                walk_at "ss"
                refine ⟨t, _, rfl, .inr (SqT.of ht1), ?_⟩
                walk_at "ss"
                refine ⟨t, _, 0, x1, rfl, rfl, SqT.of ht1, atI_nat (j := 0) rfl, ?_⟩
                walk_at "ss"
                refine ⟨x1, nz, rfl, below_use a1 ?_⟩
                have q := q G s1
                rw [show standD al.cps.toList nz (.tuple [.str "before", d1]) = belowD nz d1 from by rw [standD1, if_neg (by decide +kernel), if_pos (by decide +kernel)]] at q
                exact q
              | @cons x2 _ d2 _ a2 hr3 =>
                cases hr3 with
                | nil =>
                  walk_at "ss"
                  refine ⟨t, _, rfl, .inr (SqT.of ht1), ?_⟩
                  walk_at "ss"
                  exact done (by first | rw [standD2, if_neg (by decide +kernel)] | rw [standD3, if_neg (by decide +kernel)])
                | @cons x3 _ d3 _ a3 hr3 =>
                  cases hr3 with
                  | nil =>
                    walk_at "ss"
                    refine ⟨t, _, rfl, .inr (SqT.of ht1), ?_⟩
                    walk_at "ss"
                    exact done (by first | rw [standD2, if_neg (by decide +kernel)] | rw [standD3, if_neg (by decide +kernel)])
                  | cons a4 hr3 => simp at len3; try omega
          · cases hr3 with
            | nil =>
              walk_at "ss"
              refine ⟨t, _, rfl, .inr (SqT.of ht1), ?_⟩
              walk_at "ss"
              exact done rfl
            | @cons x1 _ d1 _ a1 hr3 =>
              cases hr3 with
              | nil =>
                walk_at "ss"
                refine ⟨t, _, rfl, .inr (SqT.of ht1), ?_⟩
                walk_at "ss"
                refine ⟨t, _, 0, x1, rfl, rfl, SqT.of ht1, atI_nat (j := 0) rfl, ?_⟩
                walk_at "ss"
                refine ⟨x1, d1, nz, rfl, a1, (okd d1 (by simp)).2, fun H' s' => ?_⟩
                have q := q H' (s1.trans s')
                rw [show standD al.cps.toList nz (.tuple [.str "and", d1]) = refsD nz d1 from by rw [standD1, if_neg (by decide +kernel), if_neg (by decide +kernel), if_pos (by decide +kernel)]] at q
                exact q
              | @cons x2 _ d2 _ a2 hr3 =>
                cases hr3 with
                | nil =>
                  walk_at "ss"
                  refine ⟨t, _, rfl, .inr (SqT.of ht1), ?_⟩
                  walk_at "ss"
                  exact done (by first | rw [standD2, if_neg (by decide +kernel)] | rw [standD3, if_neg (by decide +kernel)])
                | @cons x3 _ d3 _ a3 hr3 =>
                  cases hr3 with
                  | nil =>
                    walk_at "ss"
                    refine ⟨t, _, rfl, .inr (SqT.of ht1), ?_⟩
                    walk_at "ss"
                    exact done (by first | rw [standD2, if_neg (by decide +kernel)] | rw [standD3, if_neg (by decide +kernel)])
                  | cons a4 hr3 => simp at len3; try omega
          · cases hr3 with
            | nil =>
              walk_at "ss"
              refine ⟨t, _, rfl, .inr (SqT.of ht1), ?_⟩
              walk_at "ss"
              exact done rfl
            | @cons x1 _ d1 _ a1 hr3 =>
              cases hr3 with
              | nil =>
                walk_at "ss"
                refine ⟨t, _, rfl, .inr (SqT.of ht1), ?_⟩
                walk_at "ss"
                refine ⟨t, _, 0, x1, rfl, rfl, SqT.of ht1, atI_nat (j := 0) rfl, ?_⟩
                walk_at "ss"
                refine ⟨x1, d1, nz, rfl, a1, (okd d1 (by simp)).2, fun H' s' => ?_⟩
                have q := q H' (s1.trans s')
                rw [show standD al.cps.toList nz (.tuple [.str "or", d1]) = refsD nz d1 from by rw [standD1, if_neg (by decide +kernel), if_neg (by decide +kernel), if_pos (by decide +kernel)]] at q
                exact q
              | @cons x2 _ d2 _ a2 hr3 =>
                cases hr3 with
                | nil =>
                  walk_at "ss"
                  refine ⟨t, _, rfl, .inr (SqT.of ht1), ?_⟩
                  walk_at "ss"
                  exact done (by first | rw [standD2, if_neg (by decide +kernel)] | rw [standD3, if_neg (by decide +kernel)])
                | @cons x3 _ d3 _ a3 hr3 =>
                  cases hr3 with
                  | nil =>
                    walk_at "ss"
                    refine ⟨t, _, rfl, .inr (SqT.of ht1), ?_⟩
                    walk_at "ss"
                    exact done (by first | rw [standD2, if_neg (by decide +kernel)] | rw [standD3, if_neg (by decide +kernel)])
                  | cons a4 hr3 => simp at len3; try omega
          · cases hr3 with
            | nil =>
              walk_at "ss"
              refine ⟨t, _, rfl, .inr (SqT.of ht1), ?_⟩
              walk_at "ss"
              exact done rfl
            | @cons x1 _ d1 _ a1 hr3 =>
              cases hr3 with
              | nil =>
                walk_at "ss"
                refine ⟨t, _, rfl, .inr (SqT.of ht1), ?_⟩
                walk_at "ss"
                exact done (by rw [standD1, if_neg (by decide +kernel), if_neg (by decide +kernel), if_neg (by decide +kernel)])
              | @cons x2 _ d2 _ a2 hr3 =>
                cases hr3 with
                | nil =>
                  walk_at "ss"
                  refine ⟨t, _, rfl, .inr (SqT.of ht1), ?_⟩
                  walk_at "ss"
                  refine ⟨t, _, 0, x1, rfl, rfl, SqT.of ht1, atI_nat (j := 0) rfl, ?_⟩
                  walk_at "ss"
                  have q := q G s1
                  rw [show standD al.cps.toList nz (.tuple [.str "since", d1, d2]) = (belowD nz d1 && belowD nz d2) from by first | rw [standD1, if_pos rfl] | rw [standD2, if_pos rfl] | rw [standD3, if_pos rfl]] at q
                  rcases below_ways (n := nz) a1 with ⟨i1, e1, e2⟩ | ⟨b1, e1, e2⟩ | ⟨hn1, e2⟩
                  rotate_left
                  · refine ⟨x1, nz, rfl, .inr (.inl ⟨b1, e1, ?_⟩)⟩
                    rw [e2] at q
                    walk_at "ss"
                    exact q
                  · refine ⟨x1, nz, rfl, .inr (.inr ⟨hn1, ?_⟩)⟩
                    rw [e2] at q
                    walk_at "ss"
                    exact q
                  refine ⟨x1, nz, rfl, .inl ⟨i1, e1, ?_⟩⟩
                  rw [← e2]
                  walk_at "ss"
                  cases hb : belowD nz d1 with
                  | false =>
                    rw [hb] at q
                    walk_at "ss"
                    exact q
                  | true =>
                    rw [hb] at q
                    walk_at "ss"
                    refine ⟨t, _, 1, x2, rfl, rfl, SqT.of ht1, atI_nat (j := 1) rfl, ?_⟩
                    walk_at "ss"
                    refine ⟨x2, nz, rfl, below_use a2 ?_⟩
                    exact q
                | @cons x3 _ d3 _ a3 hr3 =>
                  cases hr3 with
                  | nil =>
                    walk_at "ss"
                    refine ⟨t, _, rfl, .inr (SqT.of ht1), ?_⟩
                    walk_at "ss"
                    exact done (by first | rw [standD2, if_neg (by decide +kernel)] | rw [standD3, if_neg (by decide +kernel)])
                  | cons a4 hr3 => simp at len3; try omega
          · cases hr3 with
            | nil =>
              walk_at "ss"
              refine ⟨t, _, rfl, .inr (SqT.of ht1), ?_⟩
              walk_at "ss"
              exact done rfl
            | @cons x1 _ d1 _ a1 hr3 =>
              cases hr3 with
              | nil =>
                walk_at "ss"
                refine ⟨t, _, rfl, .inr (SqT.of ht1), ?_⟩
                walk_at "ss"
                exact done (by rw [standD1, if_neg (by decide +kernel), if_neg (by decide +kernel), if_neg (by decide +kernel)])
              | @cons x2 _ d2 _ a2 hr3 =>
                cases hr3 with
                | nil =>
                  walk_at "ss"
                  refine ⟨t, _, rfl, .inr (SqT.of ht1), ?_⟩
                  walk_at "ss"
                  exact done (by first | rw [standD2, if_neg (by decide +kernel)] | rw [standD3, if_neg (by decide +kernel)])
                | @cons x3 _ d3 _ a3 hr3 =>
                  cases hr3 with
                  | nil =>
                    walk_at "ss"
                    refine ⟨t, _, rfl, .inr (SqT.of ht1), ?_⟩
                    walk_at "ss"
                    refine ⟨t, _, 0, x1, rfl, rfl, SqT.of ht1, atI_nat (j := 0) rfl, ?_⟩
                    walk_at "ss"
                    have q := q G s1
                    rw [show standD al.cps.toList nz (.tuple [.str "count", d1, d2, d3]) = (belowD nz d1 && (primeD d2 && belowD (intD d2) d3)) from by first | rw [standD1, if_pos rfl] | rw [standD2, if_pos rfl] | rw [standD3, if_pos rfl]] at q
                    rcases below_ways (n := nz) a1 with ⟨i1, e1, e2⟩ | ⟨b1, e1, e2⟩ | ⟨hn1, e2⟩
                    rotate_left
                    · refine ⟨x1, nz, rfl, .inr (.inl ⟨b1, e1, ?_⟩)⟩
                      rw [e2] at q
                      walk_at "ss"
                      exact q
                    · refine ⟨x1, nz, rfl, .inr (.inr ⟨hn1, ?_⟩)⟩
                      rw [e2] at q
                      walk_at "ss"
                      exact q
                    refine ⟨x1, nz, rfl, .inl ⟨i1, e1, ?_⟩⟩
                    rw [← e2]
                    walk_at "ss"
                    cases hb : belowD nz d1 with
                    | false =>
                      rw [hb] at q
                      walk_at "ss"
                      exact q
                    | true =>
                      rw [hb] at q
                      walk_at "ss"
                      refine ⟨t, _, 1, x2, rfl, rfl, SqT.of ht1, atI_nat (j := 1) rfl, ?_⟩
                      walk_at "ss"
                      cases hb2 : primeD d2 with
                      | false =>
                        rw [hb2] at q
                        walk_at "ss"
                        exact q
                      | true =>
                        rw [hb2] at q
                        have e2 : d2 = .int (intD d2) := by cases d2 <;> first | rfl | cases hb2
                        rw [e2] at a2
                        cases a2
                        walk_at "ss"
                        refine ⟨t, _, 2, x3, rfl, rfl, SqT.of ht1, atI_nat (j := 2) rfl, ?_⟩
                        walk_at "ss"
                        refine ⟨t, _, 1, _, rfl, rfl, SqT.of ht1, atI_nat (j := 1) rfl, ?_⟩
                        walk_at "ss"
                        refine ⟨x3, intD d2, rfl, below_use a3 ?_⟩
                        exact q
                  | cons a4 hr3 => simp at len3; try omega
          · cases hr3 with
            | nil =>
              walk_at "ss"
              exact done rfl
            | @cons x1 _ d1 _ a1 hr3 =>
              cases hr3 with
              | nil =>
                walk_at "ss"
                exact done (by rw [standD1, if_neg (by decide +kernel), if_neg (by decide +kernel), if_neg (by decide +kernel)])
              | @cons x2 _ d2 _ a2 hr3 =>
                cases hr3 with
                | nil =>
                  walk_at "ss"
                  exact done (by first | rw [standD2, if_neg (by decide +kernel)] | rw [standD3, if_neg (by decide +kernel)])
                | @cons x3 _ d3 _ a3 hr3 =>
                  cases hr3 with
                  | nil =>
                    walk_at "ss"
                    exact done (by first | rw [standD2, if_neg (by decide +kernel)] | rw [standD3, if_neg (by decide +kernel)])
                  | cons a4 hr3 => simp at len3; try omega
          · cases hr3 with
            | nil =>
              walk_at "ss"
              exact done rfl
            | @cons x1 _ d1 _ a1 hr3 =>
              cases hr3 with
              | nil =>
                walk_at "ss"
                exact done (by rw [standD1, if_neg (by decide +kernel), if_neg (by decide +kernel), if_neg (by decide +kernel)])
              | @cons x2 _ d2 _ a2 hr3 =>
                cases hr3 with
                | nil =>
                  walk_at "ss"
                  exact done (by first | rw [standD2, if_neg (by decide +kernel)] | rw [standD3, if_neg (by decide +kernel)])
                | @cons x3 _ d3 _ a3 hr3 =>
                  cases hr3 with
                  | nil =>
                    walk_at "ss"
                    exact done (by first | rw [standD2, if_neg (by decide +kernel)] | rw [standD3, if_neg (by decide +kernel)])
                  | cons a4 hr3 => simp at len3; try omega
end

variable {K : PySem.W.Frag} {mg : Str → Option Value}
/-! ### what is got -/
open L2H (RoomH)
/-- an error's code and the name of its field -/
def CodeF (code f : Str) : Prop := (code ∈ ([Str.ofString "InvalidAlphabet", "InvalidWord", "InvalidLetter", "InvalidState", "InvalidPrime", "InvalidSet"] : List Str) ∧ f = "given") ∨ (code ∈ ([Str.ofString "InvalidRows", "InvalidLine"] : List Str) ∧ f = "at") ∨ (code ∈ ([Str.ofString "InvalidText", "InvalidPage"] : List Str) ∧ f = "row")
/-- what the caught error is: its class, its fields -/
def ErrIs (K : PySem.W.Frag) (cls : Value) (d : Option Addr) (H : Hp) (code f : Str) (v : V) : Prop := CodeF code f ∧ ∃ C dd, cls = .ref C ∧ XfC K C ∧ PySem.W.findIn K (.ref C) "code" = some none ∧ PySem.W.findIn K (.ref C) f = some none ∧ d = some dd ∧ H dd = some (.xd [("code", .str code), (f, v)])
/-- what the caught error is: its code, the values of its fields -/
def ErrL (K : PySem.W.Frag) (cls : Value) (d : Option Addr) (H : Hp) (code : Str) (us : List V) : Prop := (∃ f v, us = [v] ∧ ErrIs K cls d H code f v) ∨
  (∃ s m, us = [s, m] ∧ code = "TooMany" ∧ ∃ C dd, cls = .ref C ∧ XfC K C ∧ PySem.W.findIn K (.ref C) "code" = some none ∧ PySem.W.findIn K (.ref C) "subject" = some none ∧ PySem.W.findIn K (.ref C) "most" = some none ∧ d = some dd ∧ H dd = some (.xd [("code", .str "TooMany"), ("most", m), ("subject", s)])) ∨
  (us = [] ∧ code = "AlphabetsDiffer" ∧ ∃ C dd, cls = .ref C ∧ XfC K C ∧ PySem.W.findIn K (.ref C) "code" = some none ∧ d = some dd ∧ H dd = some (.xd [("code", .str "AlphabetsDiffer")]))
theorem in_tup {K : PySem.W.Frag} {H : Hp} {x : V} {ys : List V} {Q : VK} (hx : flatV x = true) (hab : ys.all flatV = true) (q : ∀ H', Same H H' → Q (.bl (inV x ys)) H') (p : Addr) (hp : H p = none) : rIn K false x (.ref p) (upd H p (.tup ys)) Q :=
  ⟨p, ys, rfl, .inr (SqT.of upd_same), hx, hab, q _ (same_upd hp)⟩
def spFieldL (K : PySem.W.Frag) : Addr → Value → Option Addr → Sp := fun a cls d vs H Q _ => ∃ (code : Str) (us : List V), vs = [.ref a] ∧ ErrL K cls d H code us ∧ ∀ p H', H' p = some (.tup us) → Same H H' → Q (.ref p) H'
section
variable {P : Program} {w : World} {base : Heap}
theorem ok_fieldL (T : Env K mg) : FnP P w K mg base CX0 1 T.f_field T.fd_field ["_law_e"] (spFieldL K) := by
  obtain ⟨oc, od, kV, doc, pm, an, cdv, ct, osl, e, lk, hcd⟩ := T.F_field.ex
  rw [e]
  rw [e] at lk
  refine fnp_of lk hcd sc_field (fun a cls d vs H Q E h => ?_) (fun A outer s H vs Q E p cls d hz hf hr h => ⟨_, ((pss_cons (ps_if (pt_cmpR op_in_seq (pe_xfA ⟨List.mem_cons_self .., hz, hf⟩ (pv 0)) (pe_tup (pa_cons pe_str (pa_cons pe_str (pa_cons pe_str (pa_cons pe_str (pa_cons pe_str (pa_cons pe_str pa_nil))))))) (by rfl))
      (pss_one (ps_ret (pe_tup (pa_cons (pe_xfA ⟨List.mem_cons_self .., hz, hf⟩ (pv 0)) pa_nil))))
      pss_nil)
      (pss_cons (ps_if (pt_cmpR op_in_seq (pe_xfA ⟨List.mem_cons_self .., hz, hf⟩ (pv 0)) (pe_tup (pa_cons pe_str (pa_cons pe_str pa_nil))) (by rfl))
      (pss_one (ps_ret (pe_tup (pa_cons (pe_xfA ⟨List.mem_cons_self .., hz, hf⟩ (pv 0)) pa_nil))))
      pss_nil)
      (pss_cons (ps_if (pt_cmpR op_in_seq (pe_xfA ⟨List.mem_cons_self .., hz, hf⟩ (pv 0)) (pe_tup (pa_cons pe_str (pa_cons pe_str pa_nil))) (by rfl))
      (pss_one (ps_ret (pe_tup (pa_cons (pe_xfA ⟨List.mem_cons_self .., hz, hf⟩ (pv 0)) pa_nil))))
      pss_nil)
      (pss_cons (ps_if (pt_cmpR op_in_seq (pe_xfA ⟨List.mem_cons_self .., hz, hf⟩ (pv 0)) (pe_tup (pa_cons pe_str (pa_cons pe_str pa_nil))) (by rfl))
      (pss_one (ps_ret (pe_tup (pa_cons (pe_xfA ⟨List.mem_cons_self .., hz, hf⟩ (pv 0)) pa_nil))))
      pss_nil)
      (pss_cons (ps_if (pt_cmpR op_in_seq (pe_xfA ⟨List.mem_cons_self .., hz, hf⟩ (pv 0)) (pe_tup (pa_cons pe_str (pa_cons pe_str pa_nil))) (by rfl))
      (pss_one (ps_ret (pe_tup (pa_cons (pe_xfA ⟨List.mem_cons_self .., hz, hf⟩ (pv 0)) pa_nil))))
      pss_nil)
      (pss_one (ps_ret (pe_ifExp (pt_cmpR op_eq (pe_xfA ⟨List.mem_cons_self .., hz, hf⟩ (pv 0)) pe_str (nomark _)) (pe_tup (pa_cons (pe_xfA ⟨List.mem_cons_self .., hz, hf⟩ (pv 0)) (pa_cons (pe_xfA ⟨List.mem_cons_self .., hz, hf⟩ (pv 0)) pa_nil))) (pe_tup pa_nil)))))))))), ?_⟩)
  · obtain ⟨code, us, rfl, _⟩ := h
    rfl
  · obtain ⟨code, us, rfl, er, q⟩ := h
    rcases er with ⟨f, v, rfl, cf, C, dd, rfl, xf, n1, n2, rfl, hd⟩ | ⟨sv, mv, rfl, rfl, C, dd, rfl, xf, n1, n2, n3, rfl, hd⟩ | ⟨rfl, rfl, C, dd, rfl, xf, n1, rfl, hd⟩
    · walk_at "ss"
      refine ⟨C, dd, _, _, rfl, xf, n1, rfl, hd, rfl, ?_⟩
      walk_at "ss"
      intro p1 hp1
      have s1 := same_upd (o := .tup [.str "InvalidAlphabet", .str "InvalidWord", .str "InvalidLetter", .str "InvalidState", .str "InvalidPrime", .str "InvalidSet"]) hp1
      walk_at "ss"
      refine ⟨p1, _, rfl, .inr (.inl (.inl upd_same)), rfl, rfl, ?_⟩
      rcases cf with ⟨cf, rfl⟩ | ⟨cf, rfl⟩ | ⟨cf, rfl⟩
      · rw [show inV (V.str code) [V.str "InvalidAlphabet", .str "InvalidWord", .str "InvalidLetter", .str "InvalidState", .str "InvalidPrime", .str "InvalidSet"] = true by
          simp only [List.mem_cons, List.not_mem_nil, or_false] at cf
          rcases cf with e | e | e | e | e | e <;> rw [e] <;> decide +kernel]
        walk_at "ss"
        refine ⟨C, dd, _, _, rfl, xf, n2, rfl, s1 _ _ hd, rfl, ?_⟩
        walk_at "ss"
        intro p2 hp2
        exact q p2 _ upd_same (s1.trans (same_upd hp2))
      · rw [show inV (V.str code) [V.str "InvalidAlphabet", .str "InvalidWord", .str "InvalidLetter", .str "InvalidState", .str "InvalidPrime", .str "InvalidSet"] = false by
          simp only [List.mem_cons, List.not_mem_nil, or_false] at cf
          rcases cf with e | e <;> rw [e] <;> decide +kernel]
        walk_at "ss"
        refine ⟨C, dd, _, _, rfl, xf, n1, rfl, s1 _ _ hd, rfl, ?_⟩
        walk_at "ss"
        intro p2 hp2
        have s2 := s1.trans (same_upd (o := .tup [.str "InvalidName", .str "InvalidLimit"]) hp2)
        walk_at "ss"
        refine ⟨p2, _, rfl, .inr (.inl (.inl upd_same)), rfl, rfl, ?_⟩
        rw [show inV (V.str code) [V.str "InvalidName", .str "InvalidLimit"] = false by
          simp only [List.mem_cons, List.not_mem_nil, or_false] at cf
          rcases cf with e | e <;> rw [e] <;> decide +kernel]
        walk_at "ss"
        refine ⟨C, dd, _, _, rfl, xf, n1, rfl, s2 _ _ hd, rfl, ?_⟩
        walk_at "ss"
        intro p3 hp3
        have s3 := s2.trans (same_upd (o := .tup [.str "InvalidRows", .str "InvalidLine"]) hp3)
        walk_at "ss"
        refine ⟨p3, _, rfl, .inr (.inl (.inl upd_same)), rfl, rfl, ?_⟩
        rw [show inV (V.str code) [V.str "InvalidRows", .str "InvalidLine"] = true by
          simp only [List.mem_cons, List.not_mem_nil, or_false] at cf
          rcases cf with e | e <;> rw [e] <;> decide +kernel]
        walk_at "ss"
        refine ⟨C, dd, _, _, rfl, xf, n2, rfl, s3 _ _ hd, rfl, ?_⟩
        walk_at "ss"
        intro p4 hp4
        exact q p4 _ upd_same (s3.trans (same_upd hp4))
      · rw [show inV (V.str code) [V.str "InvalidAlphabet", .str "InvalidWord", .str "InvalidLetter", .str "InvalidState", .str "InvalidPrime", .str "InvalidSet"] = false by
          simp only [List.mem_cons, List.not_mem_nil, or_false] at cf
          rcases cf with e | e <;> rw [e] <;> decide +kernel]
        walk_at "ss"
        refine ⟨C, dd, _, _, rfl, xf, n1, rfl, s1 _ _ hd, rfl, ?_⟩
        walk_at "ss"
        intro p2 hp2
        have s2 := s1.trans (same_upd (o := .tup [.str "InvalidName", .str "InvalidLimit"]) hp2)
        walk_at "ss"
        refine ⟨p2, _, rfl, .inr (.inl (.inl upd_same)), rfl, rfl, ?_⟩
        rw [show inV (V.str code) [V.str "InvalidName", .str "InvalidLimit"] = false by
          simp only [List.mem_cons, List.not_mem_nil, or_false] at cf
          rcases cf with e | e <;> rw [e] <;> decide +kernel]
        walk_at "ss"
        refine ⟨C, dd, _, _, rfl, xf, n1, rfl, s2 _ _ hd, rfl, ?_⟩
        walk_at "ss"
        intro p3 hp3
        have s3 := s2.trans (same_upd (o := .tup [.str "InvalidRows", .str "InvalidLine"]) hp3)
        walk_at "ss"
        refine ⟨p3, _, rfl, .inr (.inl (.inl upd_same)), rfl, rfl, ?_⟩
        rw [show inV (V.str code) [V.str "InvalidRows", .str "InvalidLine"] = false by
          simp only [List.mem_cons, List.not_mem_nil, or_false] at cf
          rcases cf with e | e <;> rw [e] <;> decide +kernel]
        walk_at "ss"
        refine ⟨C, dd, _, _, rfl, xf, n1, rfl, s3 _ _ hd, rfl, ?_⟩
        walk_at "ss"
        intro p4 hp4
        have s4 := s3.trans (same_upd (o := .tup [.str "InvalidText", .str "InvalidPage"]) hp4)
        walk_at "ss"
        refine ⟨p4, _, rfl, .inr (.inl (.inl upd_same)), rfl, rfl, ?_⟩
        rw [show inV (V.str code) [V.str "InvalidText", .str "InvalidPage"] = true by
          simp only [List.mem_cons, List.not_mem_nil, or_false] at cf
          rcases cf with e | e <;> rw [e] <;> decide +kernel]
        walk_at "ss"
        refine ⟨C, dd, _, _, rfl, xf, n2, rfl, s4 _ _ hd, rfl, ?_⟩
        walk_at "ss"
        intro p5 hp5
        exact q p5 _ upd_same (s4.trans (same_upd hp5))
    · walk_at "ss"
      refine ⟨C, dd, _, _, rfl, xf, n1, rfl, hd, rfl, ?_⟩
      walk_at "ss"
      refine in_tup rfl rfl fun G1 s1 => ?_
      rw [show inV (V.str "TooMany") [V.str "InvalidAlphabet", .str "InvalidWord", .str "InvalidLetter", .str "InvalidState", .str "InvalidPrime", .str "InvalidSet"] = false by decide +kernel]
      walk_at "ss"
      refine ⟨C, dd, _, _, rfl, xf, n1, rfl, s1 _ _ hd, rfl, ?_⟩
      walk_at "ss"
      refine in_tup rfl rfl fun G2 s2 => ?_
      rw [show inV (V.str "TooMany") [V.str "InvalidName", .str "InvalidLimit"] = false by decide +kernel]
      have s2 := s1.trans s2
      walk_at "ss"
      refine ⟨C, dd, _, _, rfl, xf, n1, rfl, s2 _ _ hd, rfl, ?_⟩
      walk_at "ss"
      refine in_tup rfl rfl fun G3 s3 => ?_
      rw [show inV (V.str "TooMany") [V.str "InvalidRows", .str "InvalidLine"] = false by decide +kernel]
      have s3 := s2.trans s3
      walk_at "ss"
      refine ⟨C, dd, _, _, rfl, xf, n1, rfl, s3 _ _ hd, rfl, ?_⟩
      walk_at "ss"
      refine in_tup rfl rfl fun G4 s4 => ?_
      rw [show inV (V.str "TooMany") [V.str "InvalidText", .str "InvalidPage"] = false by decide +kernel]
      have s4 := s3.trans s4
      walk_at "ss"
      refine ⟨C, dd, _, _, rfl, xf, n1, rfl, s4 _ _ hd, rfl, ?_⟩
      walk_at "ss"
      refine in_tup rfl rfl fun G5 s5 => ?_
      rw [show inV (V.str "TooMany") [V.str "WrongKind", .str "UnknownName"] = false by decide +kernel]
      have s5 := s4.trans s5
      walk_at "ss"
      refine ⟨C, dd, _, _, rfl, xf, n1, rfl, s5 _ _ hd, rfl, ?_⟩
      walk_at "ss"
      refine ⟨C, dd, _, _, rfl, xf, n2, rfl, s5 _ _ hd, rfl, ?_⟩
      walk_at "ss"
      refine ⟨C, dd, _, _, rfl, xf, n3, rfl, s5 _ _ hd, rfl, ?_⟩
      walk_at "ss"
      intro p6 hp6
      exact q p6 _ upd_same (s5.trans (same_upd hp6))
    · walk_at "ss"
      refine ⟨C, dd, _, _, rfl, xf, n1, rfl, hd, rfl, ?_⟩
      walk_at "ss"
      refine in_tup rfl rfl fun G1 s1 => ?_
      rw [show inV (V.str "AlphabetsDiffer") [V.str "InvalidAlphabet", .str "InvalidWord", .str "InvalidLetter", .str "InvalidState", .str "InvalidPrime", .str "InvalidSet"] = false by decide +kernel]
      walk_at "ss"
      refine ⟨C, dd, _, _, rfl, xf, n1, rfl, s1 _ _ hd, rfl, ?_⟩
      walk_at "ss"
      refine in_tup rfl rfl fun G2 s2 => ?_
      rw [show inV (V.str "AlphabetsDiffer") [V.str "InvalidName", .str "InvalidLimit"] = false by decide +kernel]
      have s2 := s1.trans s2
      walk_at "ss"
      refine ⟨C, dd, _, _, rfl, xf, n1, rfl, s2 _ _ hd, rfl, ?_⟩
      walk_at "ss"
      refine in_tup rfl rfl fun G3 s3 => ?_
      rw [show inV (V.str "AlphabetsDiffer") [V.str "InvalidRows", .str "InvalidLine"] = false by decide +kernel]
      have s3 := s2.trans s3
      walk_at "ss"
      refine ⟨C, dd, _, _, rfl, xf, n1, rfl, s3 _ _ hd, rfl, ?_⟩
      walk_at "ss"
      refine in_tup rfl rfl fun G4 s4 => ?_
      rw [show inV (V.str "AlphabetsDiffer") [V.str "InvalidText", .str "InvalidPage"] = false by decide +kernel]
      have s4 := s3.trans s4
      walk_at "ss"
      refine ⟨C, dd, _, _, rfl, xf, n1, rfl, s4 _ _ hd, rfl, ?_⟩
      walk_at "ss"
      refine in_tup rfl rfl fun G5 s5 => ?_
      rw [show inV (V.str "AlphabetsDiffer") [V.str "WrongKind", .str "UnknownName"] = false by decide +kernel]
      have s5 := s4.trans s5
      walk_at "ss"
      refine ⟨C, dd, _, _, rfl, xf, n1, rfl, s5 _ _ hd, rfl, ?_⟩
      walk_at "ss"
      intro p6 hp6
      exact q p6 _ upd_same (s5.trans (same_upd hp6))
end
section
variable {P : Program} {w : World} {base : Heap}
/-- what is got of f -/
def spGotL (P : Program) (w : World) (K : PySem.W.Frag) (mg : Str → Option Value) (base : Heap) (cs : List Value) (k : Nat) : Sp := fun vs H Q _ => ∃ (f : Addr) (g : Hp → Prop) (sp : Hp → VK → XK → Prop), vs = [.ref f] ∧ Held0 P w K mg base (L2.CX P w) k f g sp ∧ ∀ H1, Same H H1 → g H1 ∧
  ∀ (Q2 : VK) (E2 : XK), (∀ v H2, (∀ p H3, H3 p = some (.tup [.str "", v]) → Same H2 H3 → Q (.ref p) H3) → Q2 v H2) →
    (∀ cls d H2, (PySem.W.exmAny K cls cs = some true ∧ ∃ code us, ErrL K cls d H2 code us ∧ ∀ p t H3, H3 p = some (.tup [.str code, .ref t]) → H3 t = some (.tup us) → Same H2 H3 → Q (.ref p) H3) → E2 cls d H2) → sp H1 Q2 E2
theorem ok_gotL (T : Env K mg) (k : Nat) : FnOk P w K mg base CX0 (k + 2) T.f_got T.fd_got ["_law_ask"] (spGotL P w K mg base [.ref T.C_AheadError, .ref T.C_Missing, .ref T.C_NothingLeft] k) := by
  refine T.F_got.ok sc_got (fun vs H Q E h => ?_) (fun cdv A outer s H vs Q E hr h => ⟨_, pss_cons (ps_set (i := 1) sc_got.nd rfl (.inl rfl) (pe_tup (pa_cons pe_str (pa_cons pe_non pa_nil))))
    (pss_cons (ps_tryA3 (i := 2) (tb := fun W => tAsg (tTup (tCons (tC (.str "")) (tCons (tAsk P w K mg base (L2.CX P w) k 0 (WE W)) tNil))) (gName 1))
      (ts := fun q cls d => tAsg (tTup (tCons (tXfA K q cls d "code" (tVar 2)) (tCons (tCallP q cls d (spFieldL K) (tCons (tVar 2) tNil)) tNil))) (gName 1))
      rfl rfl sc_got.nd rfl rfl ⟨by rfl, by decide, .inl T.gC_AheadError⟩ ⟨by rfl, by decide, .inl T.gC_Missing⟩ ⟨by rfl, by decide, .inl T.gC_NothingLeft⟩
      (fun W pn xe tk po => pss_one (ps_set (i := 1) sc_got.nd rfl (.inl rfl) (pe_tup (pa_cons pe_str (pa_cons (pe_ask (hr.mono (by omega)) rfl (by first | exact .inl rfl | exact .inr (.inl rfl)) (fun σ => passAt tk σ)) pa_nil)))))
      (fun q oe cls d pn hz hf => pss_one (ps_set (i := 1) sc_got.nd rfl (.inl rfl) (pe_tup (pa_cons (pe_xfA ⟨List.mem_cons_self .., hz, hf⟩ (pv 2)) (pa_cons (pe_callP (ok_fieldL T) (RoomH.mono ⟨hr.dp, hr.un⟩ (by omega)) ⟨List.mem_cons_self .., hz, hf⟩ (by rfl) T.g_field T.F_field.kp T.b_field (fun σ pins H s e s' I c => c.elim) (pa_cons (pv 2) pa_nil)) pa_nil))))))
    (pss_one (ps_ret (pv 1)))), ?_⟩)
  · obtain ⟨f, g, sp, rfl, _⟩ := h
    rfl
  · obtain ⟨f, g, sp, rfl, hH, q⟩ := h
    walk_at "ss"
    intro p0 hp0
    obtain ⟨hg, q⟩ := q _ (same_upd (o := .tup [.str "", .non]) hp0)
    walk_at "ss"
    refine ⟨f, g, sp, rfl, hH, hg, q _ _ (fun v H2 z => ?_) (fun cls d H2 z => ?_)⟩
    · walk_at "ss"
      intro p1 hp1
      walk_at "ss"
      exact z p1 _ upd_same (same_upd hp1)
    · obtain ⟨em, code, us, er, z⟩ := z
      refine ⟨em, fun x hx => ?_⟩
      obtain ⟨C, dd, fs, rfl, xf, n1, rfl, hd, hc⟩ : ∃ C dd fs, cls = .ref C ∧ XfC K C ∧ PySem.W.findIn K (.ref C) "code" = some none ∧ d = some dd ∧ H2 dd = some (.xd fs) ∧ List.lookup ("code" : Str) fs = some (V.str code) := by
        rcases er with ⟨f, v, rfl, cf, C, dd, rfl, xf, n1, n2, rfl, hd⟩ | ⟨sv, mv, rfl, rfl, C, dd, rfl, xf, n1, n2, n3, rfl, hd⟩ | ⟨rfl, rfl, C, dd, rfl, xf, n1, rfl, hd⟩
        · exact ⟨C, dd, _, rfl, xf, n1, rfl, hd, rfl⟩
        · exact ⟨C, dd, _, rfl, xf, n1, rfl, hd, rfl⟩
        · exact ⟨C, dd, _, rfl, xf, n1, rfl, hd, rfl⟩
      walk_at "ss"
      refine ⟨C, dd, _, _, rfl, xf, n1, rfl, hd, hc, ?_⟩
      walk_at "ss"
      first | intro p1 H3 e1 s1 | refine ⟨code, us, rfl, er, fun p1 H3 e1 s1 => ?_⟩
      walk_at "ss"
      intro p2 hp2
      walk_at "ss"
      exact z p2 p1 _ upd_same (by rw [upd_ne (ne_of_none e1 hp2)]; exact e1) (s1.trans (same_upd hp2))
end

/-! ### o == y by an own __eq__, with either answer -/
section
variable {X : Cx} {CX : CXT} {k : Nat} {f C : Addr} {fd : FuncData} {ps : List Str} {sp : Sp} {E : XK}
/-- what is asked of the right side: an instance of the same class, or a list -/
def EqSide (C : Addr) (H : Hp) (y : V) : Prop := ∃ b, y = .ref b ∧ ((∃ dx fs, H b = some (.ins C dx fs)) ∨ ∃ xs, H b = some (.lst xs))
theorem op_ownEq (F : FnOk X.prog X.w X.K X.mg X.base CX k f fd ps sp) (hr : Room k X.A) (d : OwnDef X.K C "__eq__" f) (hb : Binds X.K fd ps []) (hx : Passes CX X E) :
    OpR X (compareOp .Eq) (fun x y H Q => ∃ (a dx : Addr) (fs : List (Str × V)), x = .ref a ∧ H a = some (.ins C dx fs) ∧ EqSide C H y ∧ sp [.ref a, y] H (fun v H' => ∃ b : Bool, v = .bl b ∧ Q (.bl b) H') E) := by
  intro pins s σ H x y v u Q I rx ry h
  obtain ⟨a, dx, fs, rfl, ha, ⟨b, rfl, hy⟩, h⟩ := h
  obtain rfl : v = Value.ref a := rx
  obtain rfl : u = Value.ref b := ry
  obtain ⟨mA, J, _⟩ := ins_get I.hok ha
  obtain ⟨od, J, _⟩ := J.look
  obtain ⟨m, hF⟩ := I.fr
  have go : ∀ {R' : Value → Shared → Prop}, (∀ w' s', EP X pins σ (fun v H' => ∃ b : Bool, v = .bl b ∧ Q (.bl b) H') w' s' → R' w' s') → wpAny (model X.prog X.w) X.A (call (.ref f) [.ref a, .ref b]) R' X.xe s :=
    fun h2 => own_run2 (x := V.ref b) F ⟨hr, rfl⟩ hb (fun e s' z => hx pins σ H s e s' I z) I rfl h h2
  have back : ∀ w' s', EP X pins σ (fun v H' => ∃ b : Bool, v = .bl b ∧ Q (.bl b) H') w' s' → PySem.W.CmpBack (EP X pins σ Q) w' s' := fun w' s' z => by
    obtain ⟨zz, H', I', rz, bb, rfl, q⟩ := z
    obtain rfl : w' = .bool bb := rz
    exact ⟨.bl bb, H', I', rfl, q⟩
  show wpAny (model X.prog X.w) X.A (richCompare .Eq (.ref a) (.ref b)) (EP X pins σ Q) X.xe s
  rcases hy with ⟨dy, gs, hy⟩ | ⟨xs, hy⟩
  · obtain ⟨mB, J', _⟩ := ins_get I.hok hy
    obtain ⟨od', J', _⟩ := J'.look
    exact PySem.W.cmp_K (op := .Eq) (tb := .ref C) hr.units0 hF I.ok.mod.kin J J'.type (by simp [PySem.W.notFirst]) d.at_ d.fn (go back)
  · obtain ⟨_, _, n, _, h1⟩ := (show ObjOk X.prog X.w H s.heap b (.lst xs) from I.hok b _ hy)
    exact PySem.W.cmp_K (op := .Eq) (tb := .type "list") hr.units0 hF I.ok.mod.kin J (PySem.W.kitAt_ty _ _ ⟨_, h1, rfl⟩) (by rfl) d.at_ d.fn (go back)
end

/-! ### all that is got of asks: values, errors -/
inductive Due where
  | val (R : V → Hp → Prop)
  | err (code : Str) (us : List V)
section
variable {P : Program} {w : World} {base : Heap}
def AskL (P : Program) (w : World) (K : PySem.W.Frag) (mg : Str → Option Value) (base : Heap) (cs : List Value) (k : Nat) (H : Hp) (f : Addr) : Due → Prop
  | .val R => ∃ g sp, Held0 P w K mg base (L2.CX P w) k f g sp ∧ ∀ H1, Same H H1 → g H1 ∧ ∀ (Q2 : VK) (E2 : XK), (∀ v H2, R v H2 → Same H1 H2 → Q2 v H2) → sp H1 Q2 E2
  | .err code us => ∃ g sp, Held0 P w K mg base (L2.CX P w) k f g sp ∧ ∀ H1, Same H H1 → g H1 ∧ ∀ (Q2 : VK) (E2 : XK), (∀ cls d H2, PySem.W.exmAny K cls cs = some true → ErrL K cls d H2 code us → Same H1 H2 → E2 cls d H2) → sp H1 Q2 E2
def GotL (H : Hp) (y : V) : Due → Prop
  | .val R => ∃ q v, y = .ref q ∧ H q = some (.tup [.str "", v]) ∧ R v H
  | .err code us => ∃ q t, y = .ref q ∧ H q = some (.tup [.str code, .ref t]) ∧ H t = some (.tup us)
def Due.Keeps : Due → Prop
  | .val R => ∀ v H H', TupKeep H H' → R v H → R v H'
  | .err _ _ => True
theorem GotL.keep {H H' : Hp} {y : V} (k : TupKeep H H') : ∀ {d : Due}, d.Keeps → GotL H y d → GotL H' y d
  | .val R, kk, ⟨q, v, a, b, c⟩ => ⟨q, v, a, k _ _ b, kk _ _ _ k c⟩
  | .err _ _, _, ⟨q, t, a, b, c⟩ => ⟨q, t, a, k _ _ b, k _ _ c⟩
def spAllGotL (P : Program) (w : World) (K : PySem.W.Frag) (mg : Str → Option Value) (base : Heap) (cs : List Value) (k : Nat) : Sp := fun vs H Q _ => ∃ (l : Addr) (ps : List Addr) (dues : List Due), vs = [.ref l] ∧ SqL K H l (ps.map V.ref) ∧ ps.length ≤ 100 ∧ dues.length = ps.length ∧ (∀ d ∈ dues, d.Keeps) ∧
  (∀ (i : Nat) (f : Addr), ps[i]? = some f → ∃ d, dues[i]? = some d ∧ AskL P w K mg base cs k H f d) ∧
  ∀ p ys H', H' p = some (.lst ys) → ys.length = dues.length → (∀ (i : Nat) (y : V), ys[i]? = some y → ∃ d, dues[i]? = some d ∧ GotL H' y d) → Same H H' → Q (.ref p) H'
theorem ok_all_gotL (T : Env K mg) (k : Nat) : FnOk P w K mg base CX0 (k + 3) T.f_all_got T.fd_all_got ["_law_asks"] (spAllGotL P w K mg base [.ref T.C_AheadError, .ref T.C_Missing, .ref T.C_NothingLeft] k) := by
  refine T.F_all_got.ok sc_all_got (fun vs H Q E h => ?_) (fun cdv A outer s H vs Q E hr h => ⟨_, ((pss_one (ps_ret (pe_lc (own := [("_law_ask", 1)]) (g := (gName 1)) (tt := tYes) rfl sc_all_got.nd (pi_list (pv 0)) (blkOk_by (own := [("_law_ask", 1)]) (N := N_all_got) (sc := defScope s_all_got) (by decide +kernel)) (fun _ _ _ _ _ => (pg_name (i := 1) sc_all_got.nd rfl (.inl rfl))) (fun _ _ _ _ _ => pts_nil) (fun _ _ _ _ _ => (pe_call (ok_gotL (P := P) (w := w) (base := base) T k) hr (by rfl) T.g_got T.F_got.kp T.b_got .nil pass0 (pa_cons (pv 1) pa_nil))))))), ?_⟩)
  · obtain ⟨l, ps, dues, rfl, _⟩ := h
    rfl
  · obtain ⟨l, ps, dues, rfl, hl, hn, hd, kk, ha, q⟩ := h
    walk_at "ss"
    try refine ⟨⟨_, hl⟩, ?_⟩
    intro D hD
    refine lc_genH walk_list (fun H' => Same H H') (fun i y H' => ∃ d, dues[i]? = some d ∧ GotL H' y d) (by rw [List.length_map]; omega) (same_upd hD) (fun _ h => h.seq hl) (fun _ _ h => same_mut h hD)
      (fun i y H1 H2 tk ⟨d, e1, e2⟩ => ⟨d, e1, e2.keep tk (kk d (List.mem_of_getElem? e1))⟩) ?_ ?_
    · rintro i x H1 H2 Q1 hlt hI ⟨rfl, hx⟩ - hQ
      rw [List.getElem?_map] at hx
      cases hf : ps[i]? with
      | none => rw [hf] at hx; cases hx
      | some f =>
        rw [hf] at hx
        cases hx
        obtain ⟨d, hdu, as⟩ := ha i f hf
        walk_at "ss"
        cases d with
        | val R =>
          obtain ⟨g, sp, hH, z⟩ := as
          refine ⟨f, g, sp, rfl, hH, fun H3 s3 => ⟨(z H3 (hI.trans s3)).1, fun Q2 E2 hQ2 _ => (z H3 (hI.trans s3)).2 Q2 E2 fun v H4 hR s4 => hQ2 v H4 fun p H5 e1 s5 => ?_⟩⟩
          have s35 := s3.trans (s4.trans s5)
          exact hQ _ _ ⟨_, hdu, p, v, rfl, e1, kk _ (List.mem_of_getElem? hdu) _ _ _ (TupKeep.of s5) hR⟩ (hI.trans s35) (TupKeep.of s35) fun o ho => s35 _ _ ho
        | err code us =>
          obtain ⟨g, sp, hH, z⟩ := as
          refine ⟨f, g, sp, rfl, hH, fun H3 s3 => ⟨(z H3 (hI.trans s3)).1, fun Q2 E2 _ hE => (z H3 (hI.trans s3)).2 Q2 E2 fun cls d H4 em er s4 => hE cls d H4 ⟨em, code, us, er, fun p t H5 e1 e2 s5 => ?_⟩⟩⟩
          have s35 := s3.trans (s4.trans s5)
          exact hQ _ _ ⟨_, hdu, p, t, rfl, e1, e2⟩ (hI.trans s35) (TupKeep.of s35) fun o ho => s35 _ _ ho
    · intro H1 ys hI hy hl2 hr2
      walk_at "ss"
      exact q D ys _ hy (by rw [hl2, List.length_map, hd]) hr2 hI
end

/-! ### own errors -/
/-- what __init__ leaves of an error with one field f -/
def spErr (C : Addr) (f code : Str) : Sp := fun vs H Q _ => ∃ (a : Addr) (v : V), vs = [.ref a, v] ∧ H a = some (exo a C none) ∧
  ∀ dx H', H dx = none → dx ≠ a → H' a = some (exo a C (some dx)) → H' dx = some (exd dx [("code", .str code), (f, v)]) → (∀ c, c ≠ a → c ≠ dx → H' c = H c) → Q .non H'
theorem err_end {H : Hp} {a C dx : Addr} {f code : Str} {v : V} {Q : VK} (q : ∀ dx H', H dx = none → dx ≠ a → H' a = some (exo a C (some dx)) → H' dx = some (exd dx [("code", .str code), (f, v)]) → (∀ c, c ≠ a → c ≠ dx → H' c = H c) → Q .non H')
    (n : H dx = none) (ne : dx ≠ a) : Q .non (upd (upd (upd H dx (exd dx [(f, v)])) a (exo a C (some dx))) dx (exd dx [("code", .str code), (f, v)])) :=
  q dx _ n ne (by rw [upd_ne ne.symm, upd_same]) upd_same fun c h1 h2 => by rw [upd_ne h2, upd_ne h1, upd_ne h2]
/-- raise C(v): what stands behind it -/
theorem err_out {H : Hp} {C : Addr} {f code : Str} {v : V} {Q : XK} (q : ∀ d G, H d = none → Same H G → G d = some (.xd [("code", .str code), (f, v)]) → Q (.ref C) (some d) G) :
    ([v] : List V).length ≤ 1000 ∧ ∀ a, H a = none → spErr C f code (.ref a :: ([v] ++ [])) (upd H a (exo a C none))
      (fun u G => u = .non ∧ ∃ (d : Addr) (fs : List (Str × V)), G a = some (exo a C (some d)) ∧ G d = some (exd d fs) ∧ H d = none ∧ Q (.ref C) (some d) (upd (del G a) d (.xd fs))) (fun _ _ _ => False) := by
  refine ⟨by show 1 ≤ 1000; decide, fun a n => ⟨a, v, rfl, upd_same, fun dx G n1 ne g1 g2 g3 => ⟨rfl, dx, _, g1, g2, ?_, ?_⟩⟩⟩
  · rw [upd_ne ne] at n1
    exact n1
  · have n2 : H dx = none := by rw [upd_ne ne] at n1; exact n1
    refine q dx _ n2 (fun c o e => ?_) upd_same
    have c1 : c ≠ dx := ne_of_none e n2
    have c2 : c ≠ a := ne_of_none e n
    rw [upd_ne c1, del_ne c2, g3 c c2 c1, upd_ne c2]
    exact e
/-- what a call lets out goes on out of the def -/
theorem passE {X : Cx} {E : XK} (tk : Takes X (fun c d _ H => E c d H)) : Passes (L2.CX X.prog X.w) X E := fun pins σ H s e s' => passAt (W := fun c d _ H => E c d H) tk σ pins H s e s'
section
variable {P : Program} {w : World} {K : PySem.W.Frag} {mg : Str → Option Value} {base : Heap}
theorem ok_InvalidAlphabet___init (T : Env K mg) : FnOk P w K mg base CX0 1 T.f_InvalidAlphabet___init T.fd_InvalidAlphabet___init ["self", "given"] (spErr T.C_InvalidAlphabet "given" "InvalidAlphabet") := by
  refine T.F_InvalidAlphabet___init.ok sc_InvalidAlphabet___init (fun vs H Q E h => ?_) (fun cdv A outer s H vs Q E hr h => ⟨_, ((pss_cons (ps_ost (pv 0) (pv 1))
      (pss_one (ps_ost (pv 0) pe_str)))), ?_⟩)
  · obtain ⟨a, v, rfl, _⟩ := h
    rfl
  · obtain ⟨a, v, rfl, ha, q⟩ := h
    walk_at "ss"
    refine ⟨a, T.C_InvalidAlphabet, rfl, T.x_InvalidAlphabet, T.n_InvalidAlphabet_given, .inl ⟨ha, fun dx n ne => ?_⟩⟩
    walk_at "ss"
    exact ⟨a, T.C_InvalidAlphabet, rfl, T.x_InvalidAlphabet, T.n_InvalidAlphabet_code, .inr ⟨dx, _, upd_same, by rw [upd_ne ne]; exact upd_same, (by show 1 ≤ 900; decide), err_end q n ne⟩⟩
theorem ok_InvalidWord___init (T : Env K mg) : FnOk P w K mg base CX0 1 T.f_InvalidWord___init T.fd_InvalidWord___init ["self", "given"] (spErr T.C_InvalidWord "given" "InvalidWord") := by
  refine T.F_InvalidWord___init.ok sc_InvalidWord___init (fun vs H Q E h => ?_) (fun cdv A outer s H vs Q E hr h => ⟨_, ((pss_cons (ps_ost (pv 0) (pv 1))
      (pss_one (ps_ost (pv 0) pe_str)))), ?_⟩)
  · obtain ⟨a, v, rfl, _⟩ := h
    rfl
  · obtain ⟨a, v, rfl, ha, q⟩ := h
    walk_at "ss"
    refine ⟨a, T.C_InvalidWord, rfl, T.x_InvalidWord, T.n_InvalidWord_given, .inl ⟨ha, fun dx n ne => ?_⟩⟩
    walk_at "ss"
    exact ⟨a, T.C_InvalidWord, rfl, T.x_InvalidWord, T.n_InvalidWord_code, .inr ⟨dx, _, upd_same, by rw [upd_ne ne]; exact upd_same, (by show 1 ≤ 900; decide), err_end q n ne⟩⟩
theorem ok_InvalidLine___init (T : Env K mg) : FnOk P w K mg base CX0 1 T.f_InvalidLine___init T.fd_InvalidLine___init ["self", "at"] (spErr T.C_InvalidLine "at" "InvalidLine") := by
  refine T.F_InvalidLine___init.ok sc_InvalidLine___init (fun vs H Q E h => ?_) (fun cdv A outer s H vs Q E hr h => ⟨_, ((pss_cons (ps_ost (pv 0) (pv 1))
      (pss_one (ps_ost (pv 0) pe_str)))), ?_⟩)
  · obtain ⟨a, v, rfl, _⟩ := h
    rfl
  · obtain ⟨a, v, rfl, ha, q⟩ := h
    walk_at "ss"
    refine ⟨a, T.C_InvalidLine, rfl, T.x_InvalidLine, T.n_InvalidLine_at, .inl ⟨ha, fun dx n ne => ?_⟩⟩
    walk_at "ss"
    exact ⟨a, T.C_InvalidLine, rfl, T.x_InvalidLine, T.n_InvalidLine_code, .inr ⟨dx, _, upd_same, by rw [upd_ne ne]; exact upd_same, (by show 1 ≤ 900; decide), err_end q n ne⟩⟩
end

/-- TooMany: what __init__ leaves -/
def spMany (C : Addr) : Sp := fun vs H Q _ => ∃ (a : Addr) (u v : V), vs = [.ref a, u, v] ∧ H a = some (exo a C none) ∧
  ∀ dx H', H dx = none → dx ≠ a → H' a = some (exo a C (some dx)) → H' dx = some (exd dx [("code", .str "TooMany"), ("most", v), ("subject", u)]) → (∀ c, c ≠ a → c ≠ dx → H' c = H c) → Q .non H'
theorem many_out {H : Hp} {C : Addr} {u v : V} {Q : XK} (q : ∀ d G, H d = none → Same H G → G d = some (.xd [("code", .str "TooMany"), ("most", v), ("subject", u)]) → Q (.ref C) (some d) G) :
    ([u, v] : List V).length ≤ 1000 ∧ ∀ a, H a = none → spMany C (.ref a :: ([u, v] ++ [])) (upd H a (exo a C none))
      (fun u G => u = .non ∧ ∃ (d : Addr) (fs : List (Str × V)), G a = some (exo a C (some d)) ∧ G d = some (exd d fs) ∧ H d = none ∧ Q (.ref C) (some d) (upd (del G a) d (.xd fs))) (fun _ _ _ => False) := by
  refine ⟨by show 2 ≤ 1000; decide, fun a n => ⟨a, u, v, rfl, upd_same, fun dx G n1 ne g1 g2 g3 => ⟨rfl, dx, _, g1, g2, ?_, ?_⟩⟩⟩
  · rw [upd_ne ne] at n1
    exact n1
  · have n2 : H dx = none := by rw [upd_ne ne] at n1; exact n1
    refine q dx _ n2 (fun c o e => ?_) upd_same
    have c1 : c ≠ dx := ne_of_none e n2
    have c2 : c ≠ a := ne_of_none e n
    rw [upd_ne c1, del_ne c2, g3 c c2 c1, upd_ne c2]
    exact e
section
variable {P : Program} {w : World} {K : PySem.W.Frag} {mg : Str → Option Value} {base : Heap}
theorem ok_TooMany___init (T : Env K mg) : FnOk P w K mg base CX0 1 T.f_TooMany___init T.fd_TooMany___init ["self", "subject", "most"] (spMany T.C_TooMany) := by
  refine T.F_TooMany___init.ok sc_TooMany___init (fun vs H Q E h => ?_) (fun cdv A outer s H vs Q E hr h => ⟨_, ((pss_cons (ps_ost (pv 0) (pv 1))
      (pss_cons (ps_ost (pv 0) (pv 2))
      (pss_one (ps_ost (pv 0) pe_str))))), ?_⟩)
  · obtain ⟨a, u, v, rfl, _⟩ := h
    rfl
  · obtain ⟨a, u, v, rfl, ha, q⟩ := h
    walk_at "ss"
    refine ⟨a, T.C_TooMany, rfl, T.x_TooMany, T.n_TooMany_subject, .inl ⟨ha, fun dx n ne => ?_⟩⟩
    walk_at "ss"
    refine ⟨a, T.C_TooMany, rfl, T.x_TooMany, T.n_TooMany_most, .inr ⟨dx, _, upd_same, by rw [upd_ne ne]; exact upd_same, (by show 1 ≤ 900; decide), ?_⟩⟩
    walk_at "ss"
    refine ⟨a, T.C_TooMany, rfl, T.x_TooMany, T.n_TooMany_code, .inr ⟨dx, _, by rw [upd_ne ne.symm]; exact upd_same, upd_same, (by show 2 ≤ 900; decide), ?_⟩⟩
    exact q dx _ n ne (by rw [upd_ne ne.symm, upd_ne ne.symm, upd_same]) upd_same fun c h1 h2 => by rw [upd_ne h2, upd_ne h2, upd_ne h1, upd_ne h2]
end

/-- AlphabetsDiffer: what __init__ leaves -/
def spDiff (C : Addr) : Sp := fun vs H Q _ => ∃ (a : Addr), vs = [.ref a] ∧ H a = some (exo a C none) ∧
  ∀ dx H', H dx = none → dx ≠ a → H' a = some (exo a C (some dx)) → H' dx = some (exd dx [("code", .str "AlphabetsDiffer")]) → (∀ c, c ≠ a → c ≠ dx → H' c = H c) → Q .non H'
theorem diff_out {H : Hp} {C : Addr} {Q : XK} (q : ∀ d G, H d = none → Same H G → G d = some (.xd [("code", .str "AlphabetsDiffer")]) → Q (.ref C) (some d) G) :
    ([] : List V).length ≤ 1000 ∧ ∀ a, H a = none → spDiff C (.ref a :: ([] ++ [])) (upd H a (exo a C none))
      (fun u G => u = .non ∧ ∃ (d : Addr) (fs : List (Str × V)), G a = some (exo a C (some d)) ∧ G d = some (exd d fs) ∧ H d = none ∧ Q (.ref C) (some d) (upd (del G a) d (.xd fs))) (fun _ _ _ => False) := by
  refine ⟨by show 0 ≤ 1000; decide, fun a n => ⟨a, rfl, upd_same, fun dx G n1 ne g1 g2 g3 => ⟨rfl, dx, _, g1, g2, ?_, ?_⟩⟩⟩
  · rw [upd_ne ne] at n1
    exact n1
  · have n2 : H dx = none := by rw [upd_ne ne] at n1; exact n1
    refine q dx _ n2 (fun c o e => ?_) upd_same
    have c1 : c ≠ dx := ne_of_none e n2
    have c2 : c ≠ a := ne_of_none e n
    rw [upd_ne c1, del_ne c2, g3 c c2 c1, upd_ne c2]
    exact e
section
variable {P : Program} {w : World} {K : PySem.W.Frag} {mg : Str → Option Value} {base : Heap}
theorem ok_AlphabetsDiffer___init (T : Env K mg) : FnOk P w K mg base CX0 1 T.f_AlphabetsDiffer___init T.fd_AlphabetsDiffer___init ["self"] (spDiff T.C_AlphabetsDiffer) := by
  refine T.F_AlphabetsDiffer___init.ok sc_AlphabetsDiffer___init (fun vs H Q E h => ?_) (fun cdv A outer s H vs Q E hr h => ⟨_, ((pss_one (ps_ost (pv 0) pe_str))), ?_⟩)
  · obtain ⟨a, rfl, _⟩ := h
    rfl
  · obtain ⟨a, rfl, ha, q⟩ := h
    walk_at "ss"
    refine ⟨a, T.C_AlphabetsDiffer, rfl, T.x_AlphabetsDiffer, T.n_AlphabetsDiffer_code, .inl ⟨ha, fun dx n ne => ?_⟩⟩
    exact q dx _ n ne upd_same (by rw [upd_ne ne]; exact upd_same) fun c h1 h2 => by rw [upd_ne h1, upd_ne h2]
end

variable {K : PySem.W.Frag} {mg : Str → Option Value}
def SqA (K : PySem.W.Frag) (H : Hp) (a : Addr) (xs : List V) : Prop := SqL K H a xs ∨ SqT K H a xs
theorem SqA.same {K : PySem.W.Frag} {H H' : Hp} {a : Addr} {xs : List V} (h : SqA K H a xs) (s : Same H H') : SqA K H' a xs := h.elim (fun h => .inl (s.seq h)) fun h => .inr (same_tup s h)
theorem seq_ne {K : PySem.W.Frag} {H : Hp} {a x : Addr} {xs : List V} {o : HO} (h : SqL K H a xs) (n : a ≠ x) : SqL K (upd H x o) a xs := by
  rcases h with (h | ⟨u, h⟩) | h
  · exact .inl (.inl (by rw [upd_ne n]; exact h))
  · exact .inl (.inr ⟨u, by rw [upd_ne n]; exact h⟩)
  · exact .inr h
theorem SqA.ne {K : PySem.W.Frag} {H : Hp} {a x : Addr} {xs : List V} {o : HO} (h : SqA K H a xs) (n : a ≠ x) : SqA K (upd H x o) a xs := by
  rcases h with h | h
  · exact .inl (seq_ne h n)
  · rcases h with (h | ⟨u, h⟩) | h
    · exact .inr (.inl (.inl (by rw [upd_ne n]; exact h)))
    · exact .inr (.inl (.inr ⟨u, by rw [upd_ne n]; exact h⟩))
    · exact .inr (.inr h)
def NoAlpha (K : PySem.W.Frag) (H : Hp) (v : V) : Prop := (∃ z : Str, v = .str z ∧ z.length ≤ 100000 ∧ ¬ Alpha z.cps.toList) ∨ NoStr K H v
/-- no list and no tuple, or an empty one -/
def NoRows (K : PySem.W.Frag) (H : Hp) (v : V) : Prop := (∃ p, v = .ref p ∧ SqA K H p []) ∨ ∃ t, TyX K H v (.type t) ∧ kitB t "list" = some false ∧ kitB t "tuple" = some false
def ErrE (C : Addr) (code f : Str) (v : V) (H : Hp) (E : XK) : Prop := ∀ d H', Same H H' → H' d = some (.xd [("code", .str code), (f, v)]) → E (.ref C) (some d) H'
theorem tru_seq {K : PySem.W.Frag} {H : Hp} {a : Addr} {xs : List V} (h : SqA K H a xs) : TruV K (.ref a) H (!xs.isEmpty) := by
  rcases h with h | h
  · exact .inl ⟨xs, h, rfl⟩
  · exact .inr (.inl ⟨xs, h, rfl⟩)

/-! ### Formula(..) of anything -/
def spChkX (K : PySem.W.Frag) (T : Env K mg) : Sp := fun vs H Q E => ∃ (al : Str) (r : Addr) (xs : List V) (ds : List PyData), vs = [.str al, .ref r] ∧ al.length ≤ 4 ∧ SqA K H r xs ∧ xs.length ≤ 10000 ∧ DpAll K H xs ds ∧ (∀ d ∈ ds, OkD d) ∧
  ((∃ i, i < ds.length ∧ standD al.cps.toList i (ds.getD i .none) = false ∧ (∀ j < i, standD al.cps.toList j (ds.getD j .none) = true) ∧ ErrE T.C_InvalidLine "InvalidLine" "at" (.int i) H E) ∨
   ((∀ j < ds.length, standD al.cps.toList j (ds.getD j .none) = true) ∧ ∀ H', Same H H' → Q .non H'))
section
variable {P : Program} {w : World} {base : Heap}
theorem ok_check_lines (T : Env K mg) : FnOk P w K mg base (L2.CX P w) 5 T.f_check_lines T.fd_check_lines ["alphabet", "lines"] (spChkX K T) := by
  refine T.F_check_lines.okX sc_check_lines (fun vs H Q E h => ?_) (fun cdv A outer s H vs Q E hr h => ⟨_, ((pss_one (ps_for (passes_of rfl) rfl (pi_enumA (by rfl) T.z_enumerate (pa_cons (pv 1) pa_nil)) (pg_tup (by rfl) (pgs_cons (pg_name (i := 2) sc_check_lines.nd rfl (.inl rfl)) (pgs_cons (pg_name (i := 3) sc_check_lines.nd rfl (.inl rfl)) pgs_nil)))
      (pss_one (ps_if (pt_not (pt_val (pe_call (ok_can_stand T) (hr.mono (by decide)) (by rfl) T.g_can_stand T.F_can_stand.kp T.b_can_stand .nil pass0 (pa_cons (pv 0) (pa_cons (pv 3) (pa_cons (pv 2) pa_nil))))))
      (pss_one (ps_raise rfl (takes_of rfl rfl rfl rfl) (pmk_oex T.x_InvalidLine T.i_InvalidLine___init T.t_InvalidLine___init (ok_InvalidLine___init T) (hr.mono (by decide)) T.b_InvalidLine___init .nil pass0 (by rfl) T.gC_InvalidLine (pa_cons (pv 2) pa_nil))))
      pss_nil))))), ?_⟩)
  · obtain ⟨al, r, xs, ds, rfl, _⟩ := h
    rfl
  · obtain ⟨al, r, xs, ds, rfl, hal, hS, xl, hD, ok, q⟩ := h
    have dl := dpa_len hD
    walk_at "ss"
    refine ⟨r, xs, rfl, ?_⟩
    rcases id hS with hL | hL
    · refine .inl ⟨hL, ?_⟩
      refine for_it walk_enum (fun i σ H' => Stp (Same H H' ∧ (∀ j < i, standD al.cps.toList j (ds.getD j .none) = true) ∧ ∃ y4 y5 : Option V, σ = [some (.str al), some (.ref r), y4, y5])) (.mk ⟨Same.refl _, fun _ h => absurd h (Nat.not_lt_zero _), _, _, rfl⟩) (fun i σ H' _ h => h.of.1.seq hL) ?_ ?_
      · rintro i y σ H3 H4 hi hP ⟨Tt, u, v, rfl, nT, rfl, eu, ev⟩
        obtain ⟨s3, good, y4, y5, rfl⟩ := hP.of
        clear hP
        cases eu
        have ev : xs[i]? = some v := ev
        obtain ⟨d, hd1, hd2⟩ := dpa_at hD ev
        have s4 : Same H3 (upd H3 Tt (.tup [.int (i : Nat), v])) := same_upd nT
        have gd : ds.getD i .none = d := by rw [List.getD_eq_getElem?_getD, hd1]; rfl
        have il : i < ds.length := (List.getElem?_eq_some_iff.mp hd1).1
        refine ⟨Tt, _, rfl, .inl (.inl upd_same), rfl, _, _, rfl, _, _, rfl, rfl, ?_⟩
        walk_at "ss"
        refine ⟨al, v, d, i, rfl, hal, dp_same hd2 (s3.trans s4), ok d (List.mem_of_getElem? hd1), fun H5 s5 => ?_⟩
        have s35 := s3.trans (s4.trans s5)
        cases hb : standD al.cps.toList i d with
        | true =>
          walk_at "ss"
          refine .mk ⟨s35, fun j hj => ?_, _, _, rfl⟩
          by_cases e : j = i
          · rw [e, gd]
            exact hb
          · exact good j (by omega)
        | false =>
          walk_at "ss"
          rcases q with ⟨at_, a1, a2, a3, q⟩ | ⟨all, _⟩
          · have e : at_ = i := by
              rcases Nat.lt_trichotomy at_ i with h | h | h
              · rw [good at_ h] at a2
                cases a2
              · exact h
              · rw [← gd, a3 i h] at hb
                cases hb
            subst e
            first | exact err_out (fun d G _ s6 e => q d G (s35.trans s6) e) | exact (err_out (fun d G _ s6 e => q d G (s35.trans s6) e)).2
          · rw [← gd, all i il] at hb
            cases hb
      · rintro σ H3 hP
        obtain ⟨s3, good, y4, y5, rfl⟩ := hP.of
        rcases q with ⟨at_, a1, a2, _⟩ | ⟨_, q⟩
        · rw [good at_ (by omega)] at a2
          cases a2
        walk_at "ss"
        exact q _ s3
    · refine .inr ⟨hL, ?_⟩
      refine for_it walk_enumT (fun i σ H' => Stp (Same H H' ∧ (∀ j < i, standD al.cps.toList j (ds.getD j .none) = true) ∧ ∃ y4 y5 : Option V, σ = [some (.str al), some (.ref r), y4, y5])) (.mk ⟨Same.refl _, fun _ h => absurd h (Nat.not_lt_zero _), _, _, rfl⟩) (fun i σ H' _ h => same_tup h.of.1 hL) ?_ ?_
      · rintro i y σ H3 H4 hi hP ⟨Tt, u, v, rfl, nT, rfl, eu, ev⟩
        obtain ⟨s3, good, y4, y5, rfl⟩ := hP.of
        clear hP
        cases eu
        have ev : xs[i]? = some v := ev
        obtain ⟨d, hd1, hd2⟩ := dpa_at hD ev
        have s4 : Same H3 (upd H3 Tt (.tup [.int (i : Nat), v])) := same_upd nT
        have gd : ds.getD i .none = d := by rw [List.getD_eq_getElem?_getD, hd1]; rfl
        have il : i < ds.length := (List.getElem?_eq_some_iff.mp hd1).1
        refine ⟨Tt, _, rfl, .inl (.inl upd_same), rfl, _, _, rfl, _, _, rfl, rfl, ?_⟩
        walk_at "ss"
        refine ⟨al, v, d, i, rfl, hal, dp_same hd2 (s3.trans s4), ok d (List.mem_of_getElem? hd1), fun H5 s5 => ?_⟩
        have s35 := s3.trans (s4.trans s5)
        cases hb : standD al.cps.toList i d with
        | true =>
          walk_at "ss"
          refine .mk ⟨s35, fun j hj => ?_, _, _, rfl⟩
          by_cases e : j = i
          · rw [e, gd]
            exact hb
          · exact good j (by omega)
        | false =>
          walk_at "ss"
          rcases q with ⟨at_, a1, a2, a3, q⟩ | ⟨all, _⟩
          · have e : at_ = i := by
              rcases Nat.lt_trichotomy at_ i with h | h | h
              · rw [good at_ h] at a2
                cases a2
              · exact h
              · rw [← gd, a3 i h] at hb
                cases hb
            subst e
            first | exact err_out (fun d G _ s6 e => q d G (s35.trans s6) e) | exact (err_out (fun d G _ s6 e => q d G (s35.trans s6) e)).2
          · rw [← gd, all i il] at hb
            cases hb
      · rintro σ H3 hP
        obtain ⟨s3, good, y4, y5, rfl⟩ := hP.of
        rcases q with ⟨at_, a1, a2, _⟩ | ⟨_, q⟩
        · rw [good at_ (by omega)] at a2
          cases a2
        walk_at "ss"
        exact q _ s3
end
def formF (al : Str) (l : Addr) (b : V) : List (Str × V) := [("_alphabet", .str al), ("_lines", .ref l), ("_first", b)]
def spFX (K : PySem.W.Frag) (T : Env K mg) : Sp := fun vs H Q E => ∃ (x dx : Addr) (A R F : V), vs = [.ref x, A, R, F] ∧ H x = some (.ins T.C_Formula dx []) ∧
  ((NoAlpha K H A ∧ ErrE T.C_InvalidAlphabet "InvalidAlphabet" "given" A H E) ∨
   (∃ al : Str, A = .str al ∧ Alpha al.cps.toList ∧
    ((NoRows K H R ∧ ErrE T.C_InvalidLine "InvalidLine" "at" (.int 0) H E) ∨
     (∃ (r : Addr) (xs : List V), R = .ref r ∧ r ≠ x ∧ SqA K H r xs ∧ 1 ≤ xs.length ∧ xs.length ≤ 10000 ∧
      ((4000 < xs.length ∧ ∀ d H', Same H H' → H' d = some (.xd [("code", .str "TooMany"), ("most", .int 4000), ("subject", .str "lines")]) → E (.ref T.C_TooMany) (some d) H') ∨
       (xs.length ≤ 4000 ∧ ∃ ds : List PyData, DpAll K H xs ds ∧ (∀ d ∈ ds, OkD d) ∧
        ((∃ i, i < ds.length ∧ standD al.cps.toList i (ds.getD i .none) = false ∧ (∀ j < i, standD al.cps.toList j (ds.getD j .none) = true) ∧ ErrE T.C_InvalidLine "InvalidLine" "at" (.int i) H E) ∨
         ((∀ j < ds.length, standD al.cps.toList j (ds.getD j .none) = true) ∧ ∀ H' l, (∀ c o, c ≠ x → H c = some o → H' c = some o) → H' x = some (.ins T.C_Formula dx (formF al l F)) → H l = none → H' l = some (.lst xs) → Q .non H'))))))))
section
variable {P : Program} {w : World} {base : Heap}
theorem ok_Formula___init (T : Env K mg) : FnOk P w K mg base (L2.CX P w) 6 T.f_Formula___init T.fd_Formula___init ["self", "alphabet", "lines", "first"] (spFX K T) := by
  refine T.F_Formula___init.okX sc_Formula___init (fun vs H Q E h => ?_) (fun cdv A outer s H vs Q E hr h => ⟨_, ((pss_cons (ps_if (pt_not (pt_val (pe_call (ok_is_alphabet T) (hr.mono (by decide)) (by rfl) T.g_is_alphabet T.F_is_alphabet.kp T.b_is_alphabet .nil pass0 (pa_cons (pv 1) pa_nil))))
      (pss_one (ps_raise rfl (takes_of rfl rfl rfl rfl) (pmk_oex T.x_InvalidAlphabet T.i_InvalidAlphabet___init T.t_InvalidAlphabet___init (ok_InvalidAlphabet___init T) (hr.mono (by decide)) T.b_InvalidAlphabet___init .nil pass0 (by rfl) T.gC_InvalidAlphabet (pa_cons (pv 1) pa_nil))))
      pss_nil)
      (pss_cons (ps_if (PW.pt (pw_or (pt_not (pt_val (pe_call (ok_is_listed T) (hr.mono (by decide)) (by rfl) T.g_is_listed T.F_is_listed.kp T.b_is_listed .nil pass0 (pa_cons (pv 2) pa_nil)))) (pw_or1 (pt_not (pt_truth (pv 2) (by intro _; rfl))))))
      (pss_one (ps_raise rfl (takes_of rfl rfl rfl rfl) (pmk_oex T.x_InvalidLine T.i_InvalidLine___init T.t_InvalidLine___init (ok_InvalidLine___init T) (hr.mono (by decide)) T.b_InvalidLine___init .nil pass0 (by rfl) T.gC_InvalidLine (pa_cons pe_int pa_nil))))
      pss_nil)
      (pss_cons (ps_if (pt_cmpR op_gt (pe_callB call_len_seq (by rfl) T.z_len (by decide +kernel) (pa_cons (pv 2) pa_nil)) (pe_con (pv 0) rfl) (nomark _))
      (pss_one (ps_raise rfl (takes_of rfl rfl rfl rfl) (pmk_oex T.x_TooMany T.i_TooMany___init T.t_TooMany___init (ok_TooMany___init T) (hr.mono (by decide)) T.b_TooMany___init .nil pass0 (by rfl) T.gC_TooMany (pa_cons pe_str (pa_cons (pe_con (pv 0) rfl) pa_nil)))))
      pss_nil)
      (pss_cons (ps_expr (pe_call (ok_check_lines T) (hr.mono (by decide)) (by rfl) T.g_check_lines T.F_check_lines.kp T.b_check_lines .nil (passE (takes_of rfl rfl rfl rfl)) (pa_cons (pv 1) (pa_cons (pv 2) pa_nil))))
      (pss_cons (ps_fld (pv 0) (pv 1) rfl)
      (pss_cons (ps_fld (pv 0) (pe_callTy call_list_of (by rfl) T.z_list (by decide +kernel) (pa_cons (pv 2) pa_nil)) rfl)
      (pss_one (ps_fld (pv 0) (pv 3) rfl))))))))), ?_⟩)
  · obtain ⟨x, dx, A, R, F, rfl, _⟩ := h
    rfl
  · obtain ⟨x, dx, A, R, F, rfl, hx, q⟩ := h
    walk_at "ss"
    rcases q with ⟨hA, q⟩ | ⟨al, rfl, hA, q⟩
    · rcases hA with ⟨z, rfl, hz, hn⟩ | hn
      · refine .inl ⟨z, rfl, hz, fun H1 s1 => ?_⟩
        rw [decide_eq_false hn]
        walk_at "ss"
        first | exact err_out (fun d G _ s2 e => q d G (s1.trans s2) e) | exact (err_out (fun d G _ s2 e => q d G (s1.trans s2) e)).2
      · refine .inr ⟨hn, fun H1 s1 => ?_⟩
        walk_at "ss"
        first | exact err_out (fun d G _ s2 e => q d G (s1.trans s2) e) | exact (err_out (fun d G _ s2 e => q d G (s1.trans s2) e)).2
    have al4 : al.length ≤ 4 := by rw [len_tl]; exact hA.2.1
    refine .inl ⟨al, rfl, by omega, fun H1 s1 => ?_⟩
    rw [decide_eq_true hA]
    walk_at "ss"
    rcases q with ⟨hR, q⟩ | ⟨r, xs, rfl, nr, hS, x1, x2, q⟩
    · rcases hR with ⟨p, rfl, hp⟩ | ⟨t, ht, k1, k2⟩
      · refine .inl ⟨p, [], rfl, hp.same s1, fun H2 s2 => ?_⟩
        walk_at "ss"
        refine ⟨false, tru_seq ((hp.same s1).same s2), ?_⟩
        walk_at "ss"
        first | exact err_out (fun d G _ s3 e => q d G ((s1.trans s2).trans s3) e) | exact (err_out (fun d G _ s3 e => q d G ((s1.trans s2).trans s3) e)).2
      · refine .inr ⟨t, tyx_same s1 ht, k1, k2, fun H2 s2 => ?_⟩
        walk_at "ss"
        first | exact err_out (fun d G _ s3 e => q d G ((s1.trans s2).trans s3) e) | exact (err_out (fun d G _ s3 e => q d G ((s1.trans s2).trans s3) e)).2
    refine .inl ⟨r, xs, rfl, hS.same s1, fun H2 s2 => ?_⟩
    have s12 := s1.trans s2
    have hS2 := hS.same s12
    have hx2 := s12 _ _ hx
    walk_at "ss"
    have ne0 : (!xs.isEmpty) = true := by cases xs with | nil => simp at x1 | cons => rfl
    refine ⟨true, ne0 ▸ tru_seq hS2, ?_⟩
    walk_at "ss"
    refine ⟨x, T.C_Formula, dx, _, _, _, rfl, hx2, T.cl_Formula, T.o_Formula_MOST, rfl, ?_⟩
    walk_at "ss"
    rcases q with ⟨hm, q⟩ | ⟨hm, ds, hD, ok, q⟩
    · refine iteP (decide_eq_true (by omega)) ?_
      walk_at "ss"
      refine ⟨x, T.C_Formula, dx, _, _, _, rfl, hx2, T.cl_Formula, T.o_Formula_MOST, rfl, ?_⟩
      walk_at "ss"
      first | exact many_out (fun d G _ s3 e => q d G (s12.trans s3) e) | exact (many_out (fun d G _ s3 e => q d G (s12.trans s3) e)).2
    refine iteN (by rw [decide_eq_false (by omega)]; decide) ?_
    walk_at "ss"
    refine ⟨al, r, xs, ds, rfl, al4, hS2, x2, dpa_same hD s12, ok, ?_⟩
    rcases q with ⟨i, i1, i2, i3, q⟩ | ⟨all, q⟩
    · exact .inl ⟨i, i1, i2, i3, fun d G s3 e => q d G (s12.trans s3) e⟩
    refine .inr ⟨all, fun H3 s3 => ?_⟩
    have hx3 := s3 _ _ hx2
    have hS3 := hS2.same s3
    have s13 := s12.trans s3
    walk_at "ss"
    refine ⟨x, T.C_Formula, dx, [], rfl, hx3, T.cl_Formula, T.n_Formula__alphabet, (by show 0 < 1000; decide), ?_⟩
    walk_at "ss"
    refine ⟨r, _, rfl, hS3.ne nr, fun l hl4 => ?_⟩
    have lx : l ≠ x := ne_none hl4 upd_same
    have hl3 : H3 l = none := by rw [upd_ne lx] at hl4; exact hl4
    refine ⟨_, rfl, x, T.C_Formula, dx, _, rfl, by rw [upd_ne lx.symm]; exact upd_same, T.cl_Formula, T.n_Formula__lines, (by show 1 < 1000; decide), ?_⟩
    walk_at "ss"
    refine ⟨x, T.C_Formula, dx, _, rfl, upd_same, T.cl_Formula, T.n_Formula__first, (by show 2 < 1000; decide), ?_⟩
    refine q _ l (fun c o ne h => ?_) upd_same (s13.free hl3) (by rw [upd_ne lx, upd_ne lx, upd_same])
    have h3 := s13 _ _ h
    rw [upd_ne ne, upd_ne ne, upd_ne (ne_of_none h3 hl3), upd_ne ne]
    exact h3
end

section
variable {P : Program} {w : World} {K : PySem.W.Frag} {mg : Str → Option Value} {base : Heap}
/-- the letters that are left -/
def restOf (cs : List Nat) (i : Nat) : Option V := if 97 + i ∈ cs then none else some (.str (sg (97 + i)))
theorem rest_mem {cs : List Nat} {v : V} (h : v ∈ (List.range 26).filterMap (restOf cs)) : ∃ c, v = .str (sg c) ∧ c ∉ cs ∧ 97 ≤ c ∧ c ≤ 122 := by
  obtain ⟨i, hi, e⟩ := List.mem_filterMap.mp h
  have := List.mem_range.mp hi
  unfold restOf at e
  split at e
  · cases e
  · rename_i hn
    exact ⟨97 + i, (Option.some.inj e).symm, hn, by omega, by omega⟩
theorem rest_len {cs : List Nat} (hl : cs.length ≤ 3) : 0 < ((List.range 26).filterMap (restOf cs)).length ∧ ((List.range 26).filterMap (restOf cs)).length ≤ 26 := by
  have h2 := List.length_filterMap_le (restOf cs) (List.range 26)
  rw [List.length_range] at h2
  refine ⟨?_, h2⟩
  rw [List.length_pos_iff]
  intro e
  have h3 : ∀ i < 26, 97 + i ∈ cs := fun i hi => by
    by_cases hm : 97 + i ∈ cs
    · exact hm
    · have : V.str (sg (97 + i)) ∈ (List.range 26).filterMap (restOf cs) := List.mem_filterMap.mpr ⟨i, List.mem_range.mpr hi, by unfold restOf; rw [if_neg hm]⟩
      rw [e] at this
      cases this
  have m0 := h3 0 (by decide)
  have m1 := h3 1 (by decide)
  have m2 := h3 2 (by decide)
  have m3 := h3 3 (by decide)
  clear h3 e h2
  match cs, hl, m0, m1, m2, m3 with
  | [], _, m0, _, _, _ => simp at m0
  | [a], _, m0, m1, _, _ =>
    simp at m0 m1
    omega
  | [a, b], _, m0, m1, m2, _ =>
    simp at m0 m1 m2
    omega
  | [a, b, c], _, m0, m1, m2, m3 =>
    simp at m0 m1 m2 m3
    omega
  | _ :: _ :: _ :: _ :: _, h, _, _, _, _ =>
    simp at h
def spSigns : Sp := fun vs H Q _ => ∃ (b l : Addr), vs = [.ref b] ∧ BagAt b l H ∧ ∀ z H', Alpha z.cps.toList → BagAt b l H' → Kp b H H' → Q (.str z) H'
theorem ok_signs (T : Env K mg) : FnOk P w K mg base CX0 3 T.f_signs T.fd_signs ["_law_bag_here"] spSigns := by
  refine T.F_signs.ok sc_signs (fun vs H Q E h => ?_) (fun cdv A outer s H vs Q E hr h => ⟨_, ((pss_cons (ps_set (i := 1) sc_signs.nd rfl (.inl rfl) (pe_op op_add pe_int (pe_call (ok_of T) (hr.mono (by decide)) (by rfl) T.g_of T.F_of.kp T.b_of .nil pass0 (pa_cons (pv 0) (pa_cons (pe_lst (pa_cons pe_int (pa_cons pe_int (pa_cons pe_int (pa_cons pe_int (pa_cons pe_int (pa_cons pe_int pa_nil))))))) pa_nil)))))
      (pss_cons (ps_set (i := 2) sc_signs.nd rfl (.inr rfl) (pe_lst pa_nil))
      (pss_cons (ps_for PassesOwn.never rfl (pi_range1 (by rfl) T.z_range (pa_cons (pv 1) pa_nil)) (pg_name (i := 3) sc_signs.nd rfl (.inl rfl))
      (pss_cons (ps_setLc (i := 4) (own := [("_law_sign", 5)]) (g := (gName 5)) (tt := (tTest (tOp (rIn K true) _ _))) rfl sc_signs.nd rfl rfl (sw_true rfl rfl rfl (by decide +kernel)) (pi_str pe_str) (blkOk_by (own := [("_law_sign", 5)]) (N := N_signs) (sc := defScope s_signs) (by decide +kernel)) (fun _ _ _ _ _ => (pg_name (i := 5) sc_signs.nd rfl (.inl rfl))) (fun _ _ _ _ _ => (pts_one (pt_cmpR op_notIn_seq (pv 5) (pv 2) (by rfl)))) (fun _ _ _ _ _ => (pv 5)))
      (pss_one (ps_expr (pe_bm PySem.F.plainAttrs_list PySem.F.slot_list_append PySem.F.type_list_append mt_append (pv 2) (pa_cons (pe_ix ix_list (pv 4) (pe_call (ok_of T) (hr.mono (by decide)) (by rfl) T.g_of T.F_of.kp T.b_of .nil pass0 (pa_cons (pv 0) (pa_cons (pe_lst (pa_cons pe_int (pa_cons pe_int (pa_cons pe_int (pa_cons (pe_call (ok_pull T) (hr.mono (by decide)) (by rfl) T.g_pull T.F_pull.kp T.b_pull .nil pass0 (pa_cons (pv 0) (pa_cons (pe_callB call_len_seq (by rfl) T.z_len (by decide +kernel) (pa_cons (pv 4) pa_nil)) pa_nil))) pa_nil))))) pa_nil))) (fun _ _ => rfl)) pa_nil))))))
      (pss_one (ps_ret (pe_join pe_str (pe_callB cr_sortedS (by rfl) T.z_sorted (by decide +kernel) (pa_cons (pv 2) pa_nil))))))))), ?_⟩)
  · obtain ⟨b, l, rfl, _⟩ := h
    rfl
  · obtain ⟨b, l, rfl, B, q⟩ := h
    walk_at "ss"
    intro p hp
    have s0 : Same H (upd H p (.lst [.int 0, .int 1, .int 1, .int 1, .int 2, .int 3])) := same_upd hp
    refine ⟨b, l, _, rfl, B.same s0, .inl ⟨p, _, rfl, B.nb hp, .inl (SqL.of upd_same), by simp, by simp, fun v H1 hv B1 k1 => ?_⟩⟩
    obtain ⟨n, rfl, n0, n3⟩ : ∃ n : Int, v = .int n ∧ 0 ≤ n ∧ n ≤ 3 := by
      simp at hv
      rcases hv with rfl | rfl | rfl | rfl | rfl | rfl <;> exact ⟨_, rfl, by decide, by decide⟩
    have k2 : Kp b H H1 := (Kp.same s0).trans k1
    walk_at "ss"
    intro F hF
    have hFH : H F = none := k2.free B1 hF
    have nFb : F ≠ b := B1.nb hF
    have nFl : F ≠ l := B1.nl hF
    have k3 : Kp b H (upd H1 F (.lst [])) := k2.mut hFH
    refine ⟨_, rfl, _, rfl, by omega, by omega, ?_⟩
    refine for_it walk_range (fun i σ H' => Stp (∃ (y3 y4 y5 : Option V) (cs : List Nat), σ = [some (.ref b), some (.int (1 + n)), some (.ref F), y3, y4, y5] ∧ BagAt b l H' ∧ Kp b H H' ∧
      H' F = some (.lst (cs.map fun c => V.str (sg c))) ∧ cs.length = i ∧ cs.Nodup ∧ ∀ c ∈ cs, 97 ≤ c ∧ c ≤ 122))
      (.mk ⟨none, none, none, [], rfl, (B1.mut nFb nFl), k3, upd_same, rfl, List.nodup_nil, fun _ h => nomatch h⟩) (fun _ _ _ _ _ => trivial) ?_ ?_
    · rintro i x σ H2 H3 hi hP ⟨rfl, rfl⟩
      obtain ⟨y3, y4, y5, cs, rfl, B2, k4, hcs, hlen, hnd, hc⟩ := hP.of
      walk_at "ss"
      intro D hD
      refine lc_fil walk_str (fun H' => Same H3 H') (restOf cs) (by rw [az_size]; decide) (same_upd hD) (fun _ _ => trivial) (fun _ _ h => same_mut h hD) ?_ ?_
      · rintro i2 x H4 H5 Q1 Qn hlt hI ⟨rfl, c, hcz, rfl⟩ - hQ hN
        obtain ⟨hi26, rfl⟩ := az_at hcz
        walk_at "ss"
        refine ⟨F, _, rfl, .inl (SqL.of (hI _ _ hcs)), rfl, by simp [flatV], ?_⟩
        rw [in_sg]
        walk_at "ss"
        refine ite2 (fun e => ?_) (fun e => ?_)
        · have e2 : 97 + i2 ∉ cs := by simpa using e
          walk_at "ss"
          exact hQ _ _ (by unfold restOf; rw [if_neg e2]) hI (fun _ h => h)
        · have e2 : 97 + i2 ∈ cs := by simpa using e
          exact hN _ (by unfold restOf; rw [if_pos e2]) hI (fun _ h => h)
      · intro H4 hI hy
        rw [az_size] at hy
        obtain ⟨r0, r1⟩ := rest_len (cs := cs) (by omega)
        have B4 := B2.same hI
        walk_at "ss"
        refine ⟨.inl ⟨rfl, _, SqL.of (hI _ _ hcs)⟩, ?_⟩
        walk_at "ss"
        refine ⟨D, _, rfl, .inl (SqL.of hy), ?_⟩
        refine ⟨b, l, _, rfl, B4, by omega, by omega, fun k H5 k0 k1 B5 kp5 => ?_⟩
        walk_at "ss"
        intro p2 hp2
        have s6 : Same H5 (upd H5 p2 (.lst [.int 0, .int 0, .int 0, .int k])) := same_upd hp2
        refine ⟨b, l, _, rfl, B5.same s6, .inl ⟨p2, _, rfl, B5.nb hp2, .inl (SqL.of upd_same), by simp, by simp, fun v H7 hv B7 k7 => ?_⟩⟩
        obtain ⟨j, rfl, j0, j1⟩ : ∃ j : Int, v = .int j ∧ 0 ≤ j ∧ j < ((List.range 26).filterMap (restOf cs)).length := by
          simp at hv
          rcases hv with rfl | rfl
          · exact ⟨_, rfl, by omega, by omega⟩
          · exact ⟨_, rfl, k0, k1⟩
        have k47 : Kp b H4 H7 := kp5.trans ((Kp.same s6).trans k7)
        have nD : D ≠ b := B2.nb hD
        obtain ⟨u, hu, hm⟩ := at_in j0 j1
        obtain ⟨c, rfl, hcn, hc1, hc2⟩ := rest_mem hm
        refine ⟨D, _, j, _, rfl, rfl, SqL.of (k47 _ _ hy nD), hu, ?_⟩
        have hF7 : H7 F = some (.lst (cs.map fun c => V.str (sg c))) := k47 _ _ (hI _ _ hcs) nFb
        refine ⟨F, _, _, rfl, rfl, hF7, szl (by rw [List.length_map]; omega), ?_⟩
        refine .mk ⟨_, _, _, cs ++ [c], rfl, B7.mut nFb nFl, ((k4.trans (.same hI)).trans k47).mut hFH, ?_, by simp [hlen], ?_, ?_⟩
        · rw [upd_same, List.map_append]
          rfl
        · rw [List.nodup_append]
          refine ⟨hnd, by simp, fun x hx y hy => ?_⟩
          simp at hy
          rw [hy]
          intro e
          exact hcn (e ▸ hx)
        · intro x hx
          rcases List.mem_append.mp hx with hx | hx
          · exact hc x hx
          · simp at hx
            rw [hx]
            exact ⟨hc1, hc2⟩
    · intro σ H2 hP
      obtain ⟨y3, y4, y5, cs, rfl, B2, k4, hcs, hlen, hnd, hc⟩ := hP.of
      walk_at "ss"
      refine ⟨F, cs.map sg, rfl, SqL.of (by rw [List.map_map]; exact hcs), by rw [List.length_map]; omega, fun ys p2 perm srt hp2 => ?_⟩
      obtain ⟨ds, hd, rfl⟩ := perm_sg perm
      have hr := rise_lt (sorted_sg ds srt) (hd.nodup_iff.mpr hnd)
      have hln : ds.length = cs.length := hd.length_eq
      refine ⟨_, p2, ds.map sg, rfl, rfl, .inl (SqL.of upd_same), ?_, ?_⟩
      · rw [sum_sg, List.length_map]
        have : (Str.ofString "").length = 0 := rfl
        rw [this]
        omega
      · rw [join_sg]
        refine q _ _ ⟨?_, ?_, ?_, ?_⟩ (B2.same (same_upd hp2)) (k4.trans (.same (same_upd hp2)))
        · simp
          omega
        · simp
          omega
        · intro c hm
          simp at hm
          exact hc c (hd.mem_iff.mp hm)
        · simpa using hr
end

section
variable {P : Program} {w : World} {K : PySem.W.Frag} {mg : Str → Option Value} {base : Heap}
def spText : Sp := fun vs H Q _ => ∃ (b l : Addr) (z : Str) (n : Int), vs = [.ref b, .str z, .int n] ∧ BagAt b l H ∧ z.length ≠ 0 ∧ z.length ≤ 100000 ∧ 0 ≤ n ∧ n ≤ 100000 ∧
  ∀ (cs : List Nat) H', (cs.length : Int) = n → (∀ c ∈ cs, c ∈ z.cps.toList) → BagAt b l H' → Kp b H H' → Q (.str ⟨cs.toArray⟩) H'
theorem ok_text (T : Env K mg) : FnOk P w K mg base CX0 3 T.f_text T.fd_text ["_law_bag_here", "_law_signs_here", "_law_size"] spText := by
  refine T.F_text.ok sc_text (fun vs H Q E h => ?_) (fun cdv A outer s H vs Q E hr h => ⟨_, ((pss_one (ps_ret (pe_join pe_str (pe_lc (own := [("_law_k", 3)]) (g := (gName 3)) (tt := tYes) rfl sc_text.nd (pi_range1 (by rfl) T.z_range (pa_cons (pv 2) pa_nil)) (blkOk_by (own := [("_law_k", 3)]) (N := N_text) (sc := defScope s_text) (by decide +kernel)) (fun _ _ _ _ _ => (pg_name (i := 3) sc_text.nd rfl (.inl rfl))) (fun _ _ _ _ _ => pts_nil) (fun _ _ _ _ _ => (pe_call (ok_of T) (hr.mono (by decide)) (by rfl) T.g_of T.F_of.kp T.b_of .nil pass0 (pa_cons (pv 0) (pa_cons (pv 1) pa_nil))))))))), ?_⟩)
  · obtain ⟨b, l, z, n, rfl, _⟩ := h
    rfl
  · obtain ⟨b, l, z, n, rfl, B, z0, hz, n0, n1, q⟩ := h
    walk_at "ss"
    intro D hD
    have nDb : D ≠ b := B.nb hD
    have nDl : D ≠ l := B.nl hD
    refine lc_gen walk_range (fun H' => BagAt b l H' ∧ Kp b H H') (fun i y => ∃ c, c ∈ z.cps.toList ∧ y = V.str (sg c)) (by omega) ⟨B.mut nDb nDl, Kp.same (same_upd hD)⟩ (fun _ _ => trivial) (fun _ _ h => ⟨h.1.mut nDb nDl, h.2.mut hD⟩) ?_ ?_
    · rintro i x H1 H2 Q1 hlt hI ⟨rfl, rfl⟩ - hQ
      walk_at "ss"
      exact ⟨b, l, _, rfl, hI.1, .inr ⟨z, rfl, z0, hz, fun c H4 hc B4 k4 => hQ _ _ ⟨c, hc, rfl⟩ ⟨B4, hI.2.trans k4⟩ fun o ho => k4 _ _ ho nDb⟩⟩
    · intro H1 ys hI hy hl hr
      obtain ⟨cs, rfl, hl2, hm⟩ := pick_map (P := fun c => c ∈ z.cps.toList) (f := fun c => V.str (sg c)) hr
      walk_at "ss"
      refine ⟨_, D, cs.map sg, rfl, rfl, .inl (SqL.of (by rw [List.map_map]; exact hy)), ?_, ?_⟩
      · rw [sum_sg, List.length_map]
        have : (Str.ofString "").length = 0 := rfl
        rw [this]
        omega
      · rw [join_sg]
        exact q cs _ (by omega) hm hI.1 hI.2
end

/-! ### what formulas tell -/
def FmAt (C : Addr) (H : Hp) (m : Addr) (al : Str) (xs : List V) (b : Bool) : Prop := ∃ dx l, H m = some (.ins C dx (formF al l (.bl b))) ∧ H l = some (.lst xs)
theorem FmAt.same {C : Addr} {H H' : Hp} {m : Addr} {al : Str} {xs : List V} {b : Bool} (h : FmAt C H m al xs b) (s : Same H H') : FmAt C H' m al xs b := by
  obtain ⟨dx, l, a, c⟩ := h
  exact ⟨dx, l, s _ _ a, s _ _ c⟩
def spFLines (C : Addr) : Sp := fun vs H Q _ => ∃ (m : Addr) (al : Str) (xs : List V) (b : Bool), vs = [.ref m] ∧ FmAt C H m al xs b ∧ ∀ p, H p = none → Q (.ref p) (upd H p (.lst xs))
def spFLen (C : Addr) : Sp := fun vs H Q _ => ∃ (m : Addr) (al : Str) (xs : List V) (b : Bool), vs = [.ref m] ∧ FmAt C H m al xs b ∧ Q (.int xs.length) H
def spFFirst (C : Addr) : Sp := fun vs H Q _ => ∃ (m : Addr) (al : Str) (xs : List V) (b : Bool), vs = [.ref m] ∧ FmAt C H m al xs b ∧ Q (.bl b) H
def spFAlpha (C : Addr) : Sp := fun vs H Q _ => ∃ (m : Addr) (al : Str) (xs : List V) (b : Bool), vs = [.ref m] ∧ FmAt C H m al xs b ∧ Q (.str al) H
def repF (n : Int) : Str := (("Formula(" : Str) ++ (toString n : Str)) ++ (" lines)" : Str)
def spFRepr (C : Addr) : Sp := fun vs H Q _ => ∃ (m : Addr) (al : Str) (xs : List V) (b : Bool), vs = [.ref m] ∧ FmAt C H m al xs b ∧ xs.length ≤ 1000 ∧ Q (.str (repF xs.length)) H
theorem text_len : ∀ n ≤ 1000, (Str.ofString (toString (Int.ofNat n))).length ≤ 4 := by decide +kernel
theorem empty_add (x : Str) : Str.empty ++ x = x := by
  cases x with
  | mk c =>
    show Str.mk ((#[] : Array Nat) ++ c) = _
    simp
/-- made == y -/
def spFEq (K : PySem.W.Frag) (C : Addr) : Sp := fun vs H Q _ => ∃ (m : Addr) (y : V) (al : Str) (xs : List V) (b : Bool), vs = [.ref m, y] ∧ FmAt C H m al xs b ∧
  ((∃ (m2 : Addr) (al2 : Str) (xs2 : List V) (b2 : Bool) (ds ds2 : List PyData), y = .ref m2 ∧ FmAt C H m2 al2 xs2 b2 ∧ DpAll K H xs ds ∧ DpAll K H xs2 ds2 ∧ SeqAt.shaped (.list ds) = true ∧ SeqAt.shaped (.list ds2) = true ∧ Q (.bl (decide (al = al2) && (PyData.eqv (.list ds) (.list ds2) && decide (b = b2)))) H) ∨
   (∃ p ys, y = .ref p ∧ H p = some (.lst ys) ∧ Q (.bl false) H))
section
variable {P : Program} {w : World} {K : PySem.W.Frag} {mg : Str → Option Value} {base : Heap}
theorem ok_Formula_lines (T : Env K mg) : FnOk P w K mg base CX0 1 T.f_Formula_lines T.fd_Formula_lines ["self"] (spFLines T.C_Formula) := by
  refine T.F_Formula_lines.ok sc_Formula_lines (fun vs H Q E h => ?_) (fun cdv A outer s H vs Q E hr h => ⟨_, ((pss_one (ps_ret (pe_callTy call_list_of (by rfl) T.z_list (by decide +kernel) (pa_cons (pe_fld (pv 0) rfl) pa_nil))))), ?_⟩)
  · obtain ⟨m, al, xs, b, rfl, _⟩ := h
    rfl
  · obtain ⟨m, al, xs, b, rfl, ⟨dx, l, hm, hl⟩, q⟩ := h
    walk_at "ss"
    refine ⟨m, T.C_Formula, dx, _, _, rfl, hm, T.cl_Formula, T.n_Formula__lines, rfl, ?_⟩
    walk_at "ss"
    exact ⟨l, xs, rfl, .inl (SqL.of hl), q⟩
theorem ok_Formula___len (T : Env K mg) : FnOk P w K mg base CX0 1 T.f_Formula___len T.fd_Formula___len ["self"] (spFLen T.C_Formula) := by
  refine T.F_Formula___len.ok sc_Formula___len (fun vs H Q E h => ?_) (fun cdv A outer s H vs Q E hr h => ⟨_, ((pss_one (ps_ret (pe_callB call_len_seq (by rfl) T.z_len (by decide +kernel) (pa_cons (pe_fld (pv 0) rfl) pa_nil))))), ?_⟩)
  · obtain ⟨m, al, xs, b, rfl, _⟩ := h
    rfl
  · obtain ⟨m, al, xs, b, rfl, ⟨dx, l, hm, hl⟩, q⟩ := h
    walk_at "ss"
    refine ⟨m, T.C_Formula, dx, _, _, rfl, hm, T.cl_Formula, T.n_Formula__lines, rfl, ?_⟩
    walk_at "ss"
    exact ⟨l, xs, rfl, .inl (SqL.of hl), q⟩
theorem ok_Formula_first (T : Env K mg) : FnOk P w K mg base CX0 1 T.f_Formula_first T.fd_Formula_first ["self"] (spFFirst T.C_Formula) := by
  refine T.F_Formula_first.ok sc_Formula_first (fun vs H Q E h => ?_) (fun cdv A outer s H vs Q E hr h => ⟨_, ((pss_one (ps_ret (pe_fld (pv 0) rfl)))), ?_⟩)
  · obtain ⟨m, al, xs, b, rfl, _⟩ := h
    rfl
  · obtain ⟨m, al, xs, b, rfl, ⟨dx, l, hm, hl⟩, q⟩ := h
    walk_at "ss"
    exact ⟨m, T.C_Formula, dx, _, _, rfl, hm, T.cl_Formula, T.n_Formula__first, rfl, q⟩
theorem ok_Formula_alphabet (T : Env K mg) : FnOk P w K mg base CX0 1 T.f_Formula_alphabet T.fd_Formula_alphabet ["self"] (spFAlpha T.C_Formula) := by
  refine T.F_Formula_alphabet.ok sc_Formula_alphabet (fun vs H Q E h => ?_) (fun cdv A outer s H vs Q E hr h => ⟨_, ((pss_one (ps_ret (pe_fld (pv 0) rfl)))), ?_⟩)
  · obtain ⟨m, al, xs, b, rfl, _⟩ := h
    rfl
  · obtain ⟨m, al, xs, b, rfl, ⟨dx, l, hm, hl⟩, q⟩ := h
    walk_at "ss"
    exact ⟨m, T.C_Formula, dx, _, _, rfl, hm, T.cl_Formula, T.n_Formula__alphabet, rfl, q⟩
theorem ok_Formula___repr (T : Env K mg) : FnOk P w K mg base CX0 1 T.f_Formula___repr T.fd_Formula___repr ["self"] (spFRepr T.C_Formula) := by
  refine T.F_Formula___repr.ok sc_Formula___repr (fun vs H Q E h => ?_) (fun cdv A outer s H vs Q E hr h => ⟨_, ((pss_one (ps_ret (pe_joined (.cons pe_str (.cons (pe_fmt (pe_callB call_len_seq (by rfl) T.z_len (by decide +kernel) (pa_cons (pe_fld (pv 0) rfl) pa_nil))) (.cons pe_str .nil))))))), ?_⟩)
  · obtain ⟨m, al, xs, b, rfl, _⟩ := h
    rfl
  · obtain ⟨m, al, xs, b, rfl, ⟨dx, l, hm, hl⟩, hz, q⟩ := h
    walk_at "ss"
    refine ⟨m, T.C_Formula, dx, _, _, rfl, hm, T.cl_Formula, T.n_Formula__lines, rfl, ?_⟩
    walk_at "ss"
    refine ⟨l, xs, rfl, .inl (SqL.of hl), ?_⟩
    have L2 : (Str.ofString (toString ((xs.length : Nat) : Int))).length ≤ 4 := text_len xs.length hz
    have e1 : ∀ a b : Str, (a ++ b).length = a.length + b.length := fun a b => by
      show (a.cps ++ b.cps).size = _
      simp [Str.length]
    have m1 : (Str.ofString "Formula(").length = 8 := by decide +kernel
    have m2 : (Str.ofString " lines)").length = 7 := by decide +kernel
    have m0 : Str.empty.length = 0 := rfl
    refine .inr ⟨_, rfl, ?_, _, rfl, sz (by rw [e1, e1, m0, m1]; omega), _, rfl, sz (by rw [e1, e1, e1, m0, m1, m2]; omega), ?_⟩
    · have : Nat.log2 xs.length ≤ xs.length := Nat.log2_le_self _
      show Nat.log2 xs.length < 1920
      omega
    · show Q (V.str (((Str.empty ++ Str.ofString "Formula(") ++ Str.ofString (toString ((xs.length : Nat) : Int))) ++ Str.ofString " lines)")) H
      rw [empty_add]
      exact q
theorem ok_Formula___eq (T : Env K mg) : FnOk P w K mg base CX0 1 T.f_Formula___eq T.fd_Formula___eq ["self", "other"] (spFEq K T.C_Formula) := by
  refine T.F_Formula___eq.ok sc_Formula___eq (fun vs H Q E h => ?_) (fun cdv A outer s H vs Q E hr h => ⟨_, ((pss_one (ps_ret (pe_and (pe_callB call_isi (by rfl) T.z_isinstance (by decide +kernel) (pa_cons (pv 1) (pa_cons (pe_glob (v := .ref T.C_Formula) (by rfl) T.gC_Formula rfl) pa_nil))) (pe_and (pe_cmpR op_eq (pe_fld (pv 0) rfl) (pe_fld (pv 1) rfl) (nomark _)) (pe_and (pe_cmpR (op_eqD hr.units) (pe_fld (pv 0) rfl) (pe_fld (pv 1) rfl) (nomark _)) (pe_one (pe_cmpR op_eq (pe_fld (pv 0) rfl) (pe_fld (pv 1) rfl) (nomark _))))))))), ?_⟩)
  · obtain ⟨m, y, al, xs, b, rfl, _⟩ := h
    rfl
  · obtain ⟨m, y, al, xs, b, rfl, ⟨dx, l, hm, hl⟩, ⟨m2, al2, xs2, b2, ds, ds2, rfl, ⟨dx2, l2, hm2, hl2⟩, d1, d2, z1, z2, q⟩ | ⟨p, ys, rfl, hp, q⟩⟩ := h
    · walk_at "ss"
      refine ⟨_, _, _, _, true, rfl, ClsV.own _, .base (.ins hm2 T.cl_Formula T.isc_Formula.ha T.isc_Formula.hn T.isc_Formula.htk T.isc_Formula.hm), T.isc_Formula.me, ?_⟩
      walk_at "ss"
      refine ⟨m, T.C_Formula, dx, _, _, rfl, hm, T.cl_Formula, T.n_Formula__alphabet, rfl, ?_⟩
      walk_at "ss"
      refine ⟨m2, T.C_Formula, dx2, _, _, rfl, hm2, T.cl_Formula, T.n_Formula__alphabet, rfl, ?_⟩
      walk_at "ss"
      have ea : decide (V.str al = V.str al2) = decide (al = al2) := decide_eq_decide.mpr ⟨fun h => (by injection h), fun h => (by rw [h])⟩
      rw [ea]
      refine ite2 (fun e => ?_) (fun e => ?_)
      · rw [e, Bool.true_and] at q
        walk_at "ss"
        refine ⟨m, T.C_Formula, dx, _, _, rfl, hm, T.cl_Formula, T.n_Formula__lines, rfl, ?_⟩
        walk_at "ss"
        refine ⟨m2, T.C_Formula, dx2, _, _, rfl, hm2, T.cl_Formula, T.n_Formula__lines, rfl, ?_⟩
        refine ⟨.list ds, .list ds2, .lst (SqL.of hl) d1, .lst (SqL.of hl2) d2, z1, z2, ?_⟩
        walk_at "ss"
        cases hq : PyData.eqv (.list ds) (.list ds2) with
        | false =>
          rw [hq] at q
          walk_at "ss"
          exact q
        | true =>
          rw [hq] at q
          walk_at "ss"
          refine ⟨m, T.C_Formula, dx, _, _, rfl, hm, T.cl_Formula, T.n_Formula__first, rfl, ?_⟩
          walk_at "ss"
          refine ⟨m2, T.C_Formula, dx2, _, _, rfl, hm2, T.cl_Formula, T.n_Formula__first, rfl, ?_⟩
          walk_at "ss"
          show Q (V.bl (decide (V.bl b = V.bl b2))) H
          rw [show decide (V.bl b = V.bl b2) = decide (b = b2) from decide_eq_decide.mpr ⟨fun h => (by injection h), fun h => (by rw [h])⟩]
          exact q
      · have e2 : decide (al = al2) = false := Bool.not_eq_true _ |>.mp e
        rw [e2] at q
        exact q
    · walk_at "ss"
      refine ⟨_, _, _, _, false, rfl, ClsV.own _, tyx_list (SqL.of hp), T.kl_Formula, ?_⟩
      walk_at "ss"
      exact q
end

theorem short_int {i : Int} : (∀ z, PyData.int i = .str z → z.length ≤ 1000) ∧ ∀ ds, PyData.int i = .tuple ds → ds.length ≤ 1000 := ⟨fun z e => (by cases e), fun z e => (by cases e)⟩
theorem short_non : (∀ z, PyData.none = .str z → z.length ≤ 1000) ∧ ∀ ds, PyData.none = .tuple ds → ds.length ≤ 1000 := ⟨fun z e => (by cases e), fun z e => (by cases e)⟩
theorem short_lst {xs : List PyData} : (∀ z, PyData.list xs = .str z → z.length ≤ 1000) ∧ ∀ ds, PyData.list xs = .tuple ds → ds.length ≤ 1000 := ⟨fun z e => (by cases e), fun z e => (by cases e)⟩
theorem short_tup {xs : List PyData} (h : xs.length ≤ 1000) : (∀ z, PyData.tuple xs = .str z → z.length ≤ 1000) ∧ ∀ ds, PyData.tuple xs = .tuple ds → ds.length ≤ 1000 := ⟨fun z e => (by cases e), fun z e => (by cases e; exact h)⟩
theorem short_str {y : Str} (h : y.length ≤ 1000) : (∀ z, PyData.str y = .str z → z.length ≤ 1000) ∧ ∀ ds, PyData.str y = .tuple ds → ds.length ≤ 1000 := ⟨fun z e => (by cases e; exact h), fun z e => (by cases e)⟩
theorem ok0 {k : Str} (hk : k ∈ kinds9) : OkD (.tuple [.str k]) := ⟨hk, by decide, fun d hd => by cases hd⟩
theorem ok1 {k : Str} {a : PyData} (hk : k ∈ kinds9) (h : (∀ z, a = .str z → z.length ≤ 1000) ∧ ∀ ds, a = .tuple ds → ds.length ≤ 1000) : OkD (.tuple [.str k, a]) := ⟨hk, by show 1 ≤ 3; decide, fun d hd => by rw [List.mem_singleton.mp hd]; exact h⟩
theorem ok2 {k : Str} {a b : PyData} (hk : k ∈ kinds9) (h : (∀ z, a = .str z → z.length ≤ 1000) ∧ ∀ ds, a = .tuple ds → ds.length ≤ 1000) (h2 : (∀ z, b = .str z → z.length ≤ 1000) ∧ ∀ ds, b = .tuple ds → ds.length ≤ 1000) : OkD (.tuple [.str k, a, b]) := ⟨hk, by show 2 ≤ 3; decide, fun d hd => by
  rcases List.mem_cons.mp hd with rfl | hd
  · exact h
  · rw [List.mem_singleton.mp hd]
    exact h2⟩
theorem ok3 {k : Str} {a b c : PyData} (hk : k ∈ kinds9) (h : (∀ z, a = .str z → z.length ≤ 1000) ∧ ∀ ds, a = .tuple ds → ds.length ≤ 1000) (h2 : (∀ z, b = .str z → z.length ≤ 1000) ∧ ∀ ds, b = .tuple ds → ds.length ≤ 1000) (h3 : (∀ z, c = .str z → z.length ≤ 1000) ∧ ∀ ds, c = .tuple ds → ds.length ≤ 1000) : OkD (.tuple [.str k, a, b, c]) := ⟨hk, by show 3 ≤ 3; decide, fun d hd => by
  rcases List.mem_cons.mp hd with rfl | hd
  · exact h
  · rcases List.mem_cons.mp hd with rfl | hd
    · exact h2
    · rw [List.mem_singleton.mp hd]
      exact h3⟩
theorem is1 (al : List Nat) (n : Int) (a : PyData) : standD al n (.tuple [.str "is", a]) = lettersD al a := by rw [standD1, if_pos rfl]
theorem not1 (al : List Nat) (n : Int) (a : PyData) : standD al n (.tuple [.str "not", a]) = belowD n a := by rw [standD1, if_neg (by decide +kernel), if_pos (by decide +kernel)]
theorem before1 (al : List Nat) (n : Int) (a : PyData) : standD al n (.tuple [.str "before", a]) = belowD n a := by rw [standD1, if_neg (by decide +kernel), if_pos (by decide +kernel)]
theorem and1 (al : List Nat) (n : Int) (a : PyData) : standD al n (.tuple [.str "and", a]) = refsD n a := by rw [standD1, if_neg (by decide +kernel), if_neg (by decide +kernel), if_pos (by decide +kernel)]
theorem or1 (al : List Nat) (n : Int) (a : PyData) : standD al n (.tuple [.str "or", a]) = refsD n a := by rw [standD1, if_neg (by decide +kernel), if_neg (by decide +kernel), if_pos (by decide +kernel)]
theorem since2 (al : List Nat) (n : Int) (a b : PyData) : standD al n (.tuple [.str "since", a, b]) = (belowD n a && belowD n b) := by rw [standD2, if_pos rfl]
theorem count3 (al : List Nat) (n : Int) (a b c : PyData) : standD al n (.tuple [.str "count", a, b, c]) = (belowD n a && (primeD b && belowD (intD b) c)) := by rw [standD3, if_pos rfl]

/-! ### lines of formulas -/
inductive FL where
  | is (z : List Nat)
  | not (i : Nat)
  | and (rs : List Nat)
  | or (rs : List Nat)
  | before (i : Nat)
  | since (i j : Nat)
  | count (i p r : Nat)
def strL (z : List Nat) : V := .str ⟨z.toArray⟩
def natL (rs : List Nat) : List V := rs.map fun n => V.int (n : Nat)
/-- how a line stands in the heap -/
def FLAt (H : Hp) (p : Addr) : FL → Prop
  | .is z => H p = some (.tup [.str "is", strL z])
  | .not i => H p = some (.tup [.str "not", .int (i : Nat)])
  | .and rs => ∃ q, H p = some (.tup [.str "and", .ref q]) ∧ H q = some (.tup (natL rs))
  | .or rs => ∃ q, H p = some (.tup [.str "or", .ref q]) ∧ H q = some (.tup (natL rs))
  | .before i => H p = some (.tup [.str "before", .int (i : Nat)])
  | .since i j => H p = some (.tup [.str "since", .int (i : Nat), .int (j : Nat)])
  | .count i p' r => H p = some (.tup [.str "count", .int (i : Nat), .int (p' : Nat), .int (r : Nat)])
theorem FLAt.same {H H' : Hp} {p : Addr} (s : Same H H') : ∀ {f : FL}, FLAt H p f → FLAt H' p f
  | .is _, h => s _ _ h
  | .not _, h => s _ _ h
  | .and _, ⟨q, a, b⟩ => ⟨q, s _ _ a, s _ _ b⟩
  | .or _, ⟨q, a, b⟩ => ⟨q, s _ _ a, s _ _ b⟩
  | .before _, h => s _ _ h
  | .since _ _, h => s _ _ h
  | .count _ _ _, h => s _ _ h
def PR : List Nat := [2, 3, 5, 7, 11, 13, 17, 19, 23, 29, 31, 37, 41, 43, 47, 53, 59, 61, 67, 71, 73, 79, 83, 89, 97]
theorem pr_of {p : Nat} (h : p ∈ [2, 3, 5]) : p ∈ PR := by
  simp only [List.mem_cons, List.not_mem_nil, or_false] at h
  rcases h with rfl | rfl | rfl <;> decide
/-- a line that can stand at a place -/
def FLOk (al : List Nat) (at_ : Nat) : FL → Prop
  | .is z => z = al.filter (fun c => decide (c ∈ z))
  | .not i => i < at_
  | .and rs => (∀ r ∈ rs, r < at_) ∧ rs.Pairwise (· < ·) ∧ rs.length ≤ 100
  | .or rs => (∀ r ∈ rs, r < at_) ∧ rs.Pairwise (· < ·) ∧ rs.length ≤ 100
  | .before i => i < at_
  | .since i j => i < at_ ∧ j < at_
  | .count i p r => i < at_ ∧ p ∈ PR ∧ r < p
theorem natL_at {ns : List Nat} {i : Nat} (h : i < ns.length) : (natL ns)[i]? = some (.int (ns.getD i 0 : Nat)) := by
  unfold natL
  rw [List.getElem?_map, List.getD_eq_getElem?_getD, List.getElem?_eq_getElem h]
  rfl
theorem natL_len (ns : List Nat) : (natL ns).length = ns.length := by unfold natL; rw [List.length_map]

/-! ### Formula(..) -/
/-- lines in the heap -/
def FLs (H : Hp) (r : Addr) (fls : List FL) : Prop := ∃ ps : List Addr, H r = some (.lst (ps.map V.ref)) ∧ ps.length = fls.length ∧ ∀ (i : Nat) (p : Addr) (f : FL), ps[i]? = some p → fls[i]? = some f → FLAt H p f
def FOk (al : List Nat) (fls : List FL) : Prop := ∀ (i : Nat) (f : FL), fls[i]? = some f → FLOk al i f
theorem FLs.same {H H' : Hp} {r : Addr} {fls : List FL} (h : FLs H r fls) (s : Same H H') : FLs H' r fls := by
  obtain ⟨ps, h1, h2, h3⟩ := h
  exact ⟨ps, s _ _ h1, h2, fun i p f a b => (h3 i p f a b).same s⟩
theorem FLs.at_ {H : Hp} {r : Addr} {fls : List FL} {i : Nat} {f : FL} (h : FLs H r fls) (e : fls[i]? = some f) : ∃ xs p, H r = some (.lst xs) ∧ xs.length = fls.length ∧ xs[i]? = some (.ref p) ∧ FLAt H p f := by
  obtain ⟨ps, h1, h2, h3⟩ := h
  have hi := (List.getElem?_eq_some_iff.mp e).1
  have hp : ps[i]? = some ps[i] := List.getElem?_eq_getElem (by omega)
  exact ⟨_, ps[i], h1, by rw [List.length_map, h2], by rw [List.getElem?_map, hp]; rfl, h3 i _ f hp e⟩
theorem FLs.len {H : Hp} {r : Addr} {fls : List FL} (h : FLs H r fls) : ∃ xs, H r = some (.lst xs) ∧ xs.length = fls.length := by
  obtain ⟨ps, h1, h2, h3⟩ := h
  exact ⟨_, h1, by rw [List.length_map, h2]⟩
theorem FLAt.but {H H' : Hp} {p x C dx : Addr} {fs : List (Str × V)} (e : H x = some (.ins C dx fs)) (k : ∀ c o, c ≠ x → H c = some o → H' c = some o) : ∀ {f : FL}, FLAt H p f → FLAt H' p f := by
  have no : ∀ {a : Addr} {xs : List V}, H a = some (.tup xs) → H' a = some (.tup xs) := fun {a xs} h => k _ _ (fun z => by rw [z, e] at h; cases h) h
  intro f h
  cases f with
  | is z => exact no h
  | not i => exact no h
  | and rs =>
    obtain ⟨q, a, b⟩ := h
    exact ⟨q, no a, no b⟩
  | or rs =>
    obtain ⟨q, a, b⟩ := h
    exact ⟨q, no a, no b⟩
  | before i => exact no h
  | since i j => exact no h
  | count i p' r => exact no h

/-! ### written lists of lines -/
def FLp (H : Hp) (ps : List Addr) (fls : List FL) : Prop := ps.length = fls.length ∧ ∀ (i : Nat) (p : Addr) (f : FL), ps[i]? = some p → fls[i]? = some f → FLAt H p f
theorem FLp.same {H H' : Hp} {ps : List Addr} {fls : List FL} (h : FLp H ps fls) (s : Same H H') : FLp H' ps fls := ⟨h.1, fun i p f a b => (h.2 i p f a b).same s⟩
theorem FLp.nil {H : Hp} : FLp H [] [] := ⟨rfl, fun i p f a _ => by simp at a⟩
theorem FLp.cons {H : Hp} {p : Addr} {f : FL} {ps : List Addr} {fls : List FL} (a : FLAt H p f) (h : FLp H ps fls) : FLp H (p :: ps) (f :: fls) := ⟨by simp [h.1], fun i q g x y => by
  cases i with
  | zero =>
    cases x
    cases y
    exact a
  | succ i => exact h.2 i q g (by simpa using x) (by simpa using y)⟩
theorem FLp.app {H : Hp} {qs : List Addr} {gs : List FL} (h2 : FLp H qs gs) : ∀ {ps : List Addr} {fls : List FL}, FLp H ps fls → FLp H (ps ++ qs) (fls ++ gs)
  | [], [], _ => h2
  | p :: ps, f :: fls, h => FLp.cons (h.2 0 p f rfl rfl) (FLp.app h2 ⟨by simpa using h.1, fun i q g a b => h.2 (i + 1) q g (by simpa using a) (by simpa using b)⟩)
  | [], _ :: _, h => by simp [FLp] at h
  | _ :: _, [], h => by simp [FLp] at h

/-! ### good lines as data -/
def flD : FL → PyData
  | .is z => .tuple [.str "is", .str ⟨z.toArray⟩]
  | .not i => .tuple [.str "not", .int (i : Nat)]
  | .and rs => .tuple [.str "and", .tuple (rs.map fun n => .int (n : Nat))]
  | .or rs => .tuple [.str "or", .tuple (rs.map fun n => .int (n : Nat))]
  | .before i => .tuple [.str "before", .int (i : Nat)]
  | .since i j => .tuple [.str "since", .int (i : Nat), .int (j : Nat)]
  | .count i p r => .tuple [.str "count", .int (i : Nat), .int (p : Nat), .int (r : Nat)]
theorem nats_dp {K : PySem.W.Frag} {H : Hp} : ∀ rs : List Nat, DpAll K H (natL rs) (rs.map fun n => .int (n : Nat))
  | [] => .nil
  | _ :: rs => .cons (.int _) (nats_dp rs)
theorem FLAt.dp {K : PySem.W.Frag} {H : Hp} {p : Addr} : ∀ {f : FL}, FLAt H p f → Dp K H (.ref p) (flD f)
  | .is _, h => .tup (SqT.of h) (.cons (.str _) (.cons (.str _) .nil))
  | .not _, h => .tup (SqT.of h) (.cons (.str _) (.cons (.int _) .nil))
  | .and rs, ⟨_, h, g⟩ => .tup (SqT.of h) (.cons (.str _) (.cons (.tup (SqT.of g) (nats_dp rs)) .nil))
  | .or rs, ⟨_, h, g⟩ => .tup (SqT.of h) (.cons (.str _) (.cons (.tup (SqT.of g) (nats_dp rs)) .nil))
  | .before _, h => .tup (SqT.of h) (.cons (.str _) (.cons (.int _) .nil))
  | .since _ _, h => .tup (SqT.of h) (.cons (.str _) (.cons (.int _) (.cons (.int _) .nil)))
  | .count _ _ _, h => .tup (SqT.of h) (.cons (.str _) (.cons (.int _) (.cons (.int _) (.cons (.int _) .nil))))
theorem FLp.dp {K : PySem.W.Frag} {H : Hp} : ∀ {ps : List Addr} {fls : List FL}, FLp H ps fls → DpAll K H (ps.map V.ref) (fls.map flD)
  | [], [], _ => .nil
  | p :: ps, f :: fls, h => .cons (h.2 0 p f rfl rfl).dp (FLp.dp ⟨by simpa using h.1, fun i q g a b => h.2 (i + 1) q g (by simpa using a) (by simpa using b)⟩)
  | [], _ :: _, h => by simp [FLp] at h
  | _ :: _, [], h => by simp [FLp] at h
theorem asc_nats {rs : List Nat} (h : rs.Pairwise (· < ·)) : ascD (rs.map fun n => .int (n : Nat)) = true := by
  unfold ascD
  rw [List.all_eq_true]
  intro i hi
  have hi := List.mem_range.mp hi
  rw [List.length_map] at hi
  have e : ∀ {j : Nat}, j < rs.length → intD ((rs.map fun n => PyData.int (n : Nat)).getD j .none) = ((rs.getD j 0 : Nat) : Int) := fun {j} hj => by
    rw [List.getD_eq_getElem?_getD, List.getElem?_map, List.getD_eq_getElem?_getD, List.getElem?_eq_getElem hj]
    rfl
  rw [e (by omega), e (by omega)]
  have lt := List.pairwise_iff_getElem.mp h i (i + 1) (by omega) (by omega) (by omega)
  rw [List.getD_eq_getElem?_getD, List.getElem?_eq_getElem (by omega), List.getD_eq_getElem?_getD, List.getElem?_eq_getElem (by omega)]
  exact decide_eq_true (by show ((rs[i] : Nat) : Int) < ((rs[i + 1] : Nat) : Int); omega)
theorem pr_int {p : Nat} (h : p ∈ PR) : primeD (.int (p : Nat)) = true := by
  refine decide_eq_true ?_
  unfold PR at h
  simp only [List.mem_cons, List.not_mem_nil, or_false] at h ⊢
  omega
theorem below_nat {i n : Nat} (h : i < n) : belowD (n : Nat) (.int (i : Nat)) = true := decide_eq_true (by omega)
theorem refs_nats {rs : List Nat} {n : Nat} (h : ∀ r ∈ rs, r < n) (asc : rs.Pairwise (· < ·)) : refsD (n : Nat) (.tuple (rs.map fun n => .int (n : Nat))) = true := by
  show (_ && ascD _) = true
  rw [asc_nats asc, Bool.and_true, List.all_eq_true]
  intro d hd
  obtain ⟨r, hr, rfl⟩ := List.mem_map.mp hd
  exact below_nat (h r hr)
theorem n5_nats : ∀ rs : List Nat, no5All (rs.map fun n => PyData.int (n : Nat)) = true
  | [] => rfl
  | _ :: rs => by show (true && no5All _) = true; rw [n5_nats rs]; rfl
theorem flD_good {al : List Nat} {n : Nat} (h4 : al.length ≤ 4) : ∀ {f : FL}, FLOk al n f → standD al (n : Nat) (flD f) = true ∧ OkD (flD f) ∧ no5 (flD f) = true
  | .is z, h => by
    have zl : z.length ≤ 4 := by
      have h : z = al.filter (fun c => decide (c ∈ z)) := h
      rw [h]
      exact Nat.le_trans (List.length_filter_le _ _) h4
    refine ⟨?_, ok1 (by decide +kernel) (short_str (by show z.toArray.size ≤ 1000; simp; omega)), rfl⟩
    show standD al n (.tuple [.str "is", .str ⟨z.toArray⟩]) = true
    rw [is1]
    refine decide_eq_true ?_
    have e : (⟨z.toArray⟩ : Str).cps.toList = z := by simp
    rw [e, ← show z = al.filter (fun c => decide (c ∈ z)) from h]
  | .not i, h => ⟨by show standD al n (.tuple [.str "not", _]) = true; rw [not1]; exact below_nat h, ok1 (by decide +kernel) short_int, rfl⟩
  | .and rs, h => ⟨by show standD al n (.tuple [.str "and", _]) = true; rw [and1]; exact refs_nats h.1 h.2.1, ok1 (by decide +kernel) (short_tup (by have := h.2.2; rw [List.length_map]; omega)), by show (no5All _ && true) = true; rw [n5_nats]; rfl⟩
  | .or rs, h => ⟨by show standD al n (.tuple [.str "or", _]) = true; rw [or1]; exact refs_nats h.1 h.2.1, ok1 (by decide +kernel) (short_tup (by have := h.2.2; rw [List.length_map]; omega)), by show (no5All _ && true) = true; rw [n5_nats]; rfl⟩
  | .before i, h => ⟨by show standD al n (.tuple [.str "before", _]) = true; rw [before1]; exact below_nat h, ok1 (by decide +kernel) short_int, rfl⟩
  | .since i j, h => ⟨by show standD al n (.tuple [.str "since", _, _]) = true; rw [since2, below_nat h.1, below_nat h.2]; rfl, ok2 (by decide +kernel) short_int short_int, rfl⟩
  | .count i p r, h => ⟨by
      show standD al n (.tuple [.str "count", _, _, _]) = true
      rw [count3, below_nat h.1, pr_int h.2.1, show belowD (intD (.int (p : Nat))) (.int (r : Nat)) = true from below_nat h.2.2]
      rfl, ok3 (by decide +kernel) short_int short_int short_int, rfl⟩

/-! ### drawn formulas -/
theorem sub_filter : ∀ {z al : List Nat}, z.Sublist al → al.Nodup → z = al.filter fun c => decide (c ∈ z)
  | _, _, .slnil, _ => rfl
  | z, _, .cons (l₂ := l) a h, nd => by
    obtain ⟨n1, n2⟩ := List.nodup_cons.mp nd
    have ih := sub_filter h n2
    have na : a ∉ z := fun hz => n1 (h.subset hz)
    rw [List.filter_cons, if_neg (by simpa using na)]
    exact ih
  | _, _, .cons₂ (l₁ := z) (l₂ := l) a h, nd => by
    obtain ⟨n1, n2⟩ := List.nodup_cons.mp nd
    have ih := sub_filter h n2
    rw [List.filter_cons, if_pos (by simp)]
    have e : (l.filter fun c => decide (c ∈ a :: z)) = l.filter fun c => decide (c ∈ z) := by
      apply List.filter_congr
      intro c hc
      have : c ≠ a := fun x => n1 (x ▸ hc)
      simp [this]
    rw [e, ← ih]
theorem FLAt.kp {b l p : Addr} {H H' : Hp} (k : Kp b H H') (B : BagAt b l H) : ∀ {f : FL}, FLAt H p f → FLAt H' p f := by
  have no : ∀ {a : Addr} {xs : List V}, H a = some (.tup xs) → H' a = some (.tup xs) := fun {a xs} h => k _ _ h fun z => by
    obtain ⟨⟨i, r, m, c, ns, hb, _⟩, _⟩ := B
    rw [z, hb] at h
    cases h
  intro f h
  cases f with
  | is z => exact no h
  | not i => exact no h
  | and rs =>
    obtain ⟨q, a, b⟩ := h
    exact ⟨q, no a, no b⟩
  | or rs =>
    obtain ⟨q, a, b⟩ := h
    exact ⟨q, no a, no b⟩
  | before i => exact no h
  | since i j => exact no h
  | count i p' r => exact no h
theorem FLs.kp {b l r : Addr} {H H' : Hp} {fls : List FL} (h : FLs H r fls) (k : Kp b H H') (B : BagAt b l H) (n : r ≠ b) : FLs H' r fls := by
  obtain ⟨ps, h1, h2, h3⟩ := h
  exact ⟨ps, k _ _ h1 n, h2, fun i p f a b => (h3 i p f a b).kp k B⟩
theorem FLAt.put {r p : Addr} {H : Hp} {xs : List V} {o : HO} (e : H r = some (.lst xs)) : ∀ {f : FL}, FLAt H p f → FLAt (upd H r o) p f := by
  have no : ∀ {a : Addr} {ys : List V}, H a = some (.tup ys) → upd H r o a = some (.tup ys) := fun {a ys} h => by
    rw [upd_ne (fun z => by rw [z, e] at h; cases h)]
    exact h
  intro f h
  cases f with
  | is z => exact no h
  | not i => exact no h
  | and rs =>
    obtain ⟨q, a, b⟩ := h
    exact ⟨q, no a, no b⟩
  | or rs =>
    obtain ⟨q, a, b⟩ := h
    exact ⟨q, no a, no b⟩
  | before i => exact no h
  | since i j => exact no h
  | count i p' r => exact no h
theorem FLs.add {r p : Addr} {H : Hp} {fls : List FL} {f : FL} (h : FLs H r fls) (hp : FLAt H p f) : ∃ xs, H r = some (.lst xs) ∧ xs.length = fls.length ∧ FLs (upd H r (.lst (xs ++ [.ref p]))) r (fls ++ [f]) := by
  obtain ⟨ps, h1, h2, h3⟩ := h
  refine ⟨_, h1, by rw [List.length_map, h2], ps ++ [p], by rw [upd_same, List.map_append]; rfl, by simp [h2], fun i q g a b => ?_⟩
  by_cases hi : i < ps.length
  · rw [List.getElem?_append_left hi] at a
    rw [List.getElem?_append_left (by omega)] at b
    exact (h3 i q g a b).put h1
  · have hi2 : i = ps.length := by
      have := (List.getElem?_eq_some_iff.mp a).1
      simp at this
      omega
    subst hi2
    simp at a
    subst a
    rw [h2] at b
    simp at b
    subst b
    exact hp.put h1
theorem FOk.snoc {al : List Nat} {fls : List FL} {f : FL} (h : FOk al fls) (hf : FLOk al fls.length f) : FOk al (fls ++ [f]) := fun i g e => by
  by_cases hi : i < fls.length
  · rw [List.getElem?_append_left hi] at e
    exact h i g e
  · have hi2 : i = fls.length := by
      have := (List.getElem?_eq_some_iff.mp e).1
      simp at this
      omega
    subst hi2
    simp at e
    rw [← e]
    exact hf
def spSS : Sp := fun vs H Q _ => ∃ (b l : Addr) (al : Str), vs = [.ref b, .str al] ∧ BagAt b l H ∧ al.length ≤ 4 ∧ ∀ (z : List Nat) (H' : Hp), z.Sublist al.cps.toList → BagAt b l H' → Kp b H H' → Q (strL z) H'
def kindsV : List V := [.str "is", .str "not", .str "and", .str "or", .str "before", .str "since", .str "count"]
def spSay : Sp := fun vs H Q _ => ∃ (b l kl : Addr) (al : Str) (many : Int) (kv : List V), vs = [.ref b, .str al, .int many, .ref kl] ∧ BagAt b l H ∧ 1 ≤ al.length ∧ al.length ≤ 4 ∧ al.cps.toList.Nodup ∧ 1 ≤ many ∧ many ≤ 50 ∧ H kl = some (.lst kv) ∧ (∀ v ∈ kv, v ∈ kindsV) ∧ kv ≠ [] ∧ kv.length ≤ 100 ∧ kl ≠ b ∧
  ∀ (r : Addr) (fls : List FL) (H' : Hp), FLs H' r fls → FOk al.cps.toList fls → (fls.length : Int) = many → H r = none → BagAt b l H' → Kp b H H' → Q (.ref r) H'
section
variable {P : Program} {w : World} {K : PySem.W.Frag} {mg : Str → Option Value} {base : Heap}
theorem ok_some_signs (T : Env K mg) : FnOk P w K mg base CX0 2 T.f_some_signs T.fd_some_signs ["_law_bag_here", "_law_signs_here"] spSS := by
  refine T.F_some_signs.ok sc_some_signs (fun vs H Q E h => ?_) (fun cdv A outer s H vs Q E hr h => ⟨_, ((pss_one (ps_ret (pe_join pe_str (pe_lc (own := [("_law_sign", 2)]) (g := (gName 2)) rfl sc_some_signs.nd (pi_str (pv 1)) (blkOk_by (own := [("_law_sign", 2)]) (N := N_some_signs) (sc := defScope s_some_signs) (by decide +kernel)) (fun _ _ _ _ _ => (pg_name (i := 2) sc_some_signs.nd rfl (.inl rfl))) (fun _ _ _ _ _ => (pts_one (pt_cmpR op_eq (pe_call (ok_pull T) (hr.mono (by decide)) (by rfl) T.g_pull T.F_pull.kp T.b_pull .nil pass0 (pa_cons (pv 0) (pa_cons pe_int pa_nil))) pe_int (nomark _)))) (fun _ _ _ _ _ => (pv 2))))))), ?_⟩)
  · obtain ⟨b, l, al, rfl, _⟩ := h
    rfl
  · obtain ⟨b, l, al, rfl, B, hal, q⟩ := h
    walk_at "ss"
    intro D hD
    have nb := B.nb hD
    have nl := B.nl hD
    refine lc_it walk_str (fun i H' => Stp (∃ zs : List Nat, zs.Sublist (al.cps.toList.take i) ∧ H' D = some (.lst ((zs.map sg).map V.str)) ∧ BagAt b l H' ∧ Kp b H H'))
      (.mk ⟨[], List.nil_sublist _, upd_same, B.mut nb nl, Kp.same (same_upd hD)⟩) (fun _ _ _ _ => trivial) ?_ ?_
    · rintro i x H1 H2 hi hP ⟨rfl, c, hc, rfl⟩
      obtain ⟨zs, sub, hz, B2, k2⟩ := hP.of
      clear hP
      rw [get_tl] at hc
      have tk : al.cps.toList.take (i + 1) = al.cps.toList.take i ++ [c] := by
        rw [List.take_add_one, hc]
        rfl
      have zl : zs.length ≤ 4 := by
        have := sub.length_le
        rw [List.length_take, ← len_tl] at this
        omega
      walk_at "ss"
      refine ⟨b, l, _, rfl, B2, by decide, by decide, fun k H3 k0 k1 B3 k3 => ?_⟩
      have hz3 := k3 _ _ hz nb
      walk_at "ss"
      refine ite2 (fun e => ?_) (fun e => ?_)
      · walk_at "ss"
        refine ⟨_, hz3, szl (by rw [List.length_map, List.length_map]; omega), .mk ⟨zs ++ [c], by rw [tk]; exact sub.append (List.Sublist.refl _), ?_, B3.mut nb nl, (k2.trans k3).mut hD⟩⟩
        rw [upd_same, List.map_append, List.map_append]
        rfl
      · exact .mk ⟨zs, by rw [tk]; exact sub.trans (List.sublist_append_left _ _), hz3, B3, k2.trans k3⟩
    · intro H1 hP
      obtain ⟨zs, sub, hz, B2, k2⟩ := hP.of
      have sub2 : zs.Sublist al.cps.toList := sub.trans (List.take_sublist _ _)
      have zl : zs.length ≤ 4 := by
        have := sub2.length_le
        rw [← len_tl] at this
        omega
      walk_at "ss"
      refine ⟨_, D, _, rfl, rfl, .inl (SqL.of hz), ?_, ?_⟩
      · rw [sum_sg, List.length_map]
        have : (Str.ofString "").length = 0 := rfl
        rw [this]
        omega
      · rw [join_sg]
        exact q zs H1 sub2 B2 k2
theorem ok_saying (T : Env K mg) : FnOk P w K mg base CX0 3 T.f_saying T.fd_saying ["_law_bag_here", "_law_signs_here", "_law_many", "_law_kinds"] spSay := by
  refine T.F_saying.ok sc_saying (fun vs H Q E h => ?_) (fun cdv A outer s H vs Q E hr h => ⟨_, ((pss_cons (ps_set (i := 4) sc_saying.nd rfl (.inl rfl) (pe_lst (pa_cons (pe_tup (pa_cons pe_str (pa_cons (pe_call (ok_some_signs T) (hr.mono (by decide)) (by rfl) T.g_some_signs T.F_some_signs.kp T.b_some_signs .nil pass0 (pa_cons (pv 0) (pa_cons (pv 1) pa_nil))) pa_nil))) pa_nil)))
      (pss_cons (ps_for PassesOwn.never rfl (pi_range2 (by rfl) T.z_range (pa_cons pe_int (pa_cons (pv 2) pa_nil))) (pg_name (i := 5) sc_saying.nd rfl (.inl rfl))
      (pss_cons (ps_asg (pe_tup (pa_cons (pe_call (ok_of T) (hr.mono (by decide)) (by rfl) T.g_of T.F_of.kp T.b_of .nil pass0 (pa_cons (pv 0) (pa_cons (pv 3) pa_nil))) (pa_cons (pe_op op_sub (pe_op op_sub (pv 5) pe_int) (pe_call (ok_of T) (hr.mono (by decide)) (by rfl) T.g_of T.F_of.kp T.b_of .nil pass0 (pa_cons (pv 0) (pa_cons (pe_lst (pa_cons pe_int (pa_cons pe_int (pa_cons (pe_call (ok_pull T) (hr.mono (by decide)) (by rfl) T.g_pull T.F_pull.kp T.b_pull .nil pass0 (pa_cons (pv 0) (pa_cons (pv 5) pa_nil))) pa_nil)))) pa_nil)))) pa_nil))) (pg_tup (by rfl) (pgs_cons (pg_name (i := 6) sc_saying.nd rfl (.inl rfl)) (pgs_cons (pg_name (i := 7) sc_saying.nd rfl (.inr rfl)) pgs_nil))))
      (pss_one (ps_if (pt_cmpR op_eq (pv 6) pe_str (nomark _))
      (pss_one (ps_expr (pe_bm PySem.F.plainAttrs_list PySem.F.slot_list_append PySem.F.type_list_append mt_append (pv 4) (pa_cons (pe_tup (pa_cons pe_str (pa_cons (pe_call (ok_some_signs T) (hr.mono (by decide)) (by rfl) T.g_some_signs T.F_some_signs.kp T.b_some_signs .nil pass0 (pa_cons (pv 0) (pa_cons (pv 1) pa_nil))) pa_nil))) pa_nil))))
      (pss_one (ps_if (pt_cmpR op_in_seq (pv 6) (pe_tup (pa_cons pe_str (pa_cons pe_str pa_nil))) (by rfl))
      (pss_one (ps_expr (pe_bm PySem.F.plainAttrs_list PySem.F.slot_list_append PySem.F.type_list_append mt_append (pv 4) (pa_cons (pe_tup (pa_cons (pv 6) (pa_cons (pe_ifExp (pt_cmpR op_gt (pe_call (ok_pull T) (hr.mono (by decide)) (by rfl) T.g_pull T.F_pull.kp T.b_pull .nil pass0 (pa_cons (pv 0) (pa_cons pe_int pa_nil))) pe_int (nomark _)) (pe_callTy call_tuple_of (by rfl) T.z_tuple (by decide +kernel) (pa_cons (pe_lc (own := [("_law_ref", 9)]) (g := (gName 9)) rfl sc_saying.nd (pi_range1 (by rfl) T.z_range (pa_cons (pv 5) pa_nil)) (blkOk_by (own := [("_law_ref", 9)]) (N := N_saying) (sc := defScope s_saying) (by decide +kernel)) (fun _ _ _ _ _ => (pg_name (i := 9) sc_saying.nd rfl (.inl rfl))) (fun _ _ _ _ _ => (pts_one (PW.pt (pw_or (pt_cmpR op_eq (pv 9) (pv 7) (nomark _)) (pw_or1 (pt_cmpR op_eq (pe_call (ok_pull T) (hr.mono (by decide)) (by rfl) T.g_pull T.F_pull.kp T.b_pull .nil pass0 (pa_cons (pv 0) (pa_cons pe_int pa_nil))) pe_int (nomark _))))))) (fun _ _ _ _ _ => (pv 9))) pa_nil)) (pe_tup pa_nil)) pa_nil))) pa_nil))))
      (pss_one (ps_if (pt_cmpR op_eq (pv 6) pe_str (nomark _))
      (pss_one (ps_expr (pe_bm PySem.F.plainAttrs_list PySem.F.slot_list_append PySem.F.type_list_append mt_append (pv 4) (pa_cons (pe_tup (pa_cons pe_str (pa_cons (pe_call (ok_pull T) (hr.mono (by decide)) (by rfl) T.g_pull T.F_pull.kp T.b_pull .nil pass0 (pa_cons (pv 0) (pa_cons (pv 5) pa_nil))) (pa_cons (pv 7) pa_nil)))) pa_nil))))
      (pss_one (ps_if (pt_cmpR op_eq (pv 6) pe_str (nomark _))
      (pss_cons (ps_set (i := 8) sc_saying.nd rfl (.inl rfl) (pe_call (ok_of T) (hr.mono (by decide)) (by rfl) T.g_of T.F_of.kp T.b_of .nil pass0 (pa_cons (pv 0) (pa_cons (pe_lst (pa_cons pe_int (pa_cons pe_int (pa_cons pe_int (pa_cons pe_int pa_nil))))) pa_nil))))
      (pss_one (ps_expr (pe_bm PySem.F.plainAttrs_list PySem.F.slot_list_append PySem.F.type_list_append mt_append (pv 4) (pa_cons (pe_tup (pa_cons pe_str (pa_cons (pv 7) (pa_cons (pv 8) (pa_cons (pe_call (ok_pull T) (hr.mono (by decide)) (by rfl) T.g_pull T.F_pull.kp T.b_pull .nil pass0 (pa_cons (pv 0) (pa_cons (pv 8) pa_nil))) pa_nil))))) pa_nil)))))
      (pss_one (ps_expr (pe_bm PySem.F.plainAttrs_list PySem.F.slot_list_append PySem.F.type_list_append mt_append (pv 4) (pa_cons (pe_tup (pa_cons (pv 6) (pa_cons (pv 7) pa_nil))) pa_nil))))))))))))))
      (pss_one (ps_ret (pv 4)))))), ?_⟩)
  · obtain ⟨b, l, kl, al, many, kv, rfl, _⟩ := h
    rfl
  · obtain ⟨b, l, kl, al, many, kv, rfl, B, al1, al4, nd, m2, m6, hkl, hkv, hkn, hkm, klb, q⟩ := h
    walk_at "ss"
    refine ⟨b, l, al, rfl, B, al4, fun z0 H1 sub0 B1 k1 => ?_⟩
    have hkl1 := k1 _ _ hkl klb
    walk_at "ss"
    intro p0 hp0
    have s2 := same_upd (o := .tup [.str "is", strL z0]) hp0
    walk_at "ss"
    intro L hL
    have s3 := s2.trans (same_upd (o := .lst [.ref p0]) hL)
    have LH : H L = none := by
      have h2 := s3
      have : H1 L = none := s2.free hL
      cases e : H L with
      | none => rfl
      | some o =>
        by_cases lb : L = b
        · obtain ⟨u, hu⟩ := B1.there
          rw [lb, hu] at this
          cases this
        · rw [k1 _ _ e lb] at this
          cases this
    have B3 := B1.same s3
    have k3 := k1.trans (Kp.same (b := b) s3)
    have hkl3 := s3 _ _ hkl1
    have F3 : FLs (upd (upd H1 p0 (.tup [.str "is", strL z0])) L (.lst [.ref p0])) L [.is z0] := ⟨[p0], upd_same, rfl, fun i q f a b => by
      match i, a, b with
      | 0, a, b =>
        cases a
        cases b
        exact same_upd hL _ _ upd_same
      | i + 1, a, b => simp at a⟩
    have O3 : FOk al.cps.toList [.is z0] := fun i f e => by
      match i, e with
      | 0, e =>
        cases e
        exact sub_filter sub0 nd
      | i + 1, e => simp at e
    clear hp0 hL s2 s3 hkl1 k1 B1
    generalize upd (upd H1 p0 (.tup [.str "is", strL z0])) L (.lst [.ref p0]) = G3 at *
    walk_at "ss"
    refine ⟨_, _, rfl, ⟨by decide, by decide, by omega, by omega⟩, ?_⟩
    refine for_it walk_range (fun i σ H' => Stp (∃ (fls : List FL) (y5 y6 y7 y8 y9 : Option V), σ = [some (.ref b), some (.str al), some (.int many), some (.ref kl), some (.ref L), y5, y6, y7, y8, y9] ∧ FLs H' L fls ∧ FOk al.cps.toList fls ∧ fls.length = i + 1 ∧ BagAt b l H' ∧ Kp b H H' ∧ H' kl = some (.lst kv)))
      (.mk ⟨_, _, _, _, _, _, rfl, F3, O3, rfl, B3, k3, hkl3⟩) (fun _ _ _ _ _ => trivial) ?_ ?_
    · clear F3 O3 B3 k3 hkl3
      rintro i x σ H4 H5 hi hP ⟨rfl, rfl⟩
      obtain ⟨fls, y5, y6, y7, y8, y9, rfl, F5, O5, fl5, B5, k5, hkl5⟩ := hP.of
      clear hP
      show gName 5 (V.int (1 + (i : Int))) _ _ _
      obtain ⟨az, haz⟩ : ∃ az : Int, az = 1 + (i : Int) := ⟨_, rfl⟩
      rw [← haz]
      have i6 : i < 49 := by omega
      have Lb : L ≠ b := B.nb LH
      walk_at "ss"
      refine ⟨b, l, _, rfl, B5, .inl ⟨kl, _, rfl, klb, .inl (SqL.of hkl5), hkn, (by omega), fun v H6 hv B6 k6 => ?_⟩⟩
      have F6 := F5.kp k6 B5 Lb
      have hkl6 := k6 _ _ hkl5 klb
      have k06 := k5.trans k6
      clear B5 F5 hkl5 k5 k6
      walk_at "ss"
      refine ⟨b, l, _, rfl, B6, by omega, by omega, fun k H7 kk0 kk1 B7 k7 => ?_⟩
      have F7 := F6.kp k7 B6 Lb
      have hkl7 := k7 _ _ hkl6 klb
      have k07 := k06.trans k7
      clear B6 F6 hkl6 k06 k7
      walk_at "ss"
      intro D hD
      have s8 := same_upd (o := .lst [.int 0, .int 0, .int k]) hD
      walk_at "ss"
      refine ⟨b, l, _, rfl, B7.same s8, .inl ⟨D, _, rfl, B7.nb hD, .inl (SqL.of upd_same), (by intro z; cases z), (by show 3 ≤ 100000; decide), fun u H9 hu B9 k9 => ?_⟩⟩
      obtain ⟨m, rfl, m0, m1⟩ : ∃ m : Int, u = .int m ∧ 0 ≤ m ∧ m < az := by
        simp only [List.mem_cons, List.not_mem_nil, or_false] at hu
        rcases hu with rfl | rfl | rfl <;> exact ⟨_, rfl, by omega, by omega⟩
      have F9 := (F7.same s8).kp k9 (B7.same s8) Lb
      have hkl9 := k9 _ _ (s8 _ _ hkl7) klb
      have k09 := (k07.trans (Kp.same s8)).trans k9
      clear B7 F7 hkl7 k07 s8 hD k9 hu
      obtain ⟨nr, hnr⟩ : ∃ nr : Nat, (nr : Int) = az - 1 - m := ⟨(az - 1 - m).toNat, by omega⟩
      have nri : nr < i + 1 := by omega
      walk_at "ss"
      intro tt htt
      have s10 := same_upd (o := .tup [v, .int (az - 1 - m)]) htt
      have F10 := F9.same s10
      have B10 := B9.same s10
      have hkl10 := s10 _ _ hkl9
      have k010 := k09.trans (Kp.same s10)
      refine ⟨tt, _, rfl, .inl (.inl upd_same), rfl, _, _, rfl, _, _, rfl, rfl, ?_⟩
      clear F9 B9 hkl9 k09 htt s10
      show (_ : Hp → Prop) (upd H9 tt (.tup [v, .int (az - 1 - m)]))
      generalize upd H9 tt (.tup [v, .int (az - 1 - m)]) = G at *
      have tail : ∀ (f : FL) (p : Addr) (G2 : Hp) (y6 y7 y8 y9 : Option V), FLAt G2 p f → FLOk al.cps.toList (i + 1) f → FLs G2 L fls → BagAt b l G2 → Kp b H G2 → G2 kl = some (.lst kv) →
          ∃ xs, G2 L = some (.lst xs) ∧ xs.length < 100000 ∧ (∃ (fls : List FL) (z5 z6 z7 z8 z9 : Option V), [some (.ref b), some (.str al), some (.int many), some (.ref kl), some (.ref L), some (.int az), y6, y7, y8, y9] = [some (.ref b), some (.str al), some (.int many), some (.ref kl), some (.ref L), z5, z6, z7, z8, z9] ∧ FLs (upd G2 L (.lst (xs ++ [.ref p]))) L fls ∧ FOk al.cps.toList fls ∧ fls.length = i + 1 + 1 ∧ BagAt b l (upd G2 L (.lst (xs ++ [.ref p]))) ∧ Kp b H (upd G2 L (.lst (xs ++ [.ref p]))) ∧ upd G2 L (.lst (xs ++ [.ref p])) kl = some (.lst kv)) := by
        intro f p G2 z6 z7 z8 z9 hf ho F B2 k2 hk2
        obtain ⟨xs, x1, x2, x3⟩ := F.add hf
        have Ll : L ≠ l := B.nl LH
        have klL : kl ≠ L := ne_of_none hkl LH
        exact ⟨xs, x1, by omega, _, _, _, _, _, _, rfl, x3, O5.snoc (by rw [fl5]; exact ho), by rw [List.length_append, fl5]; rfl, B2.mut Lb Ll, k2.mut LH, by rw [upd_ne klL]; exact hk2⟩
      have hv : v = .str "is" ∨ v = .str "not" ∨ v = .str "and" ∨ v = .str "or" ∨ v = .str "before" ∨ v = .str "since" ∨ v = .str "count" := by
        have hv := hkv v hv
        unfold kindsV at hv
        simpa only [List.mem_cons, List.not_mem_nil, or_false] using hv
      rcases hv with rfl | rfl | rfl | rfl | rfl | rfl | rfl
      all_goals obtain ⟨xs0, f1, f2⟩ := F10.len
      · walk_at "ss"
        refine ⟨.inl ⟨rfl, _, SqL.of f1⟩, ?_⟩
        walk_at "ss"
        refine ⟨b, l, al, rfl, B10, al4, fun z2 G2 sub2 B12 k12 => ?_⟩
        walk_at "ss"
        intro tp htp
        have s12 := same_upd (o := .tup [.str "is", strL z2]) htp
        obtain ⟨xs, x1, x2, x3⟩ := tail (.is z2) tp _ _ _ _ _ upd_same (sub_filter sub2 nd) ((F10.kp k12 B10 Lb).same s12) (B12.same s12) ((k010.trans k12).trans (Kp.same s12)) (s12 _ _ (k12 _ _ hkl10 klb))
        refine ⟨L, xs, _, rfl, rfl, x1, szl x2, ?_⟩
        exact .mk x3
      · walk_at "ss"
        intro pt hpt
        have sp := same_upd (o := .tup [.str "and", .str "or"]) hpt
        have F11 := F10.same sp
        have B11 := B10.same sp
        have k11 := k010.trans (Kp.same sp)
        have hkl11 := sp _ _ hkl10
        have f11 := sp _ _ f1
        walk_at "ss"
        refine ⟨pt, _, rfl, .inr (SqT.of upd_same), rfl, rfl, ?_⟩
        rw [show inV (V.str "not") [V.str "and", V.str "or"] = false from by decide +kernel]
        clear F10 B10 k010 hkl10 f1 sp hpt
        generalize upd G pt (.tup [.str "and", .str "or"]) = G1 at *
        walk_at "ss"
        refine ⟨.inl ⟨rfl, _, SqL.of f11⟩, ?_⟩
        walk_at "ss"
        intro tp htp
        have s12 := same_upd (o := .tup [.str "not", .int (az - 1 - m)]) htp
        have fa : FLAt (upd G1 tp (.tup [.str "not", .int (az - 1 - m)])) tp (.not nr) := by
          show _ = some (HO.tup [.str "not", .int (nr : Int)])
          rw [hnr]
          exact upd_same
        obtain ⟨xs, x1, x2, x3⟩ := tail (.not nr) tp _ _ _ _ _ fa nri (F11.same s12) (B11.same s12) (k11.trans (Kp.same s12)) (s12 _ _ hkl11)
        refine ⟨L, xs, _, rfl, rfl, x1, szl x2, ?_⟩
        exact .mk x3
      · walk_at "ss"
        intro pt hpt
        have sp := same_upd (o := .tup [.str "and", .str "or"]) hpt
        have F11 := F10.same sp
        have B11 := B10.same sp
        have k11 := k010.trans (Kp.same sp)
        have hkl11 := sp _ _ hkl10
        have f11 := sp _ _ f1
        walk_at "ss"
        refine ⟨pt, _, rfl, .inr (SqT.of upd_same), rfl, rfl, ?_⟩
        rw [show inV (V.str "and") [V.str "and", V.str "or"] = true from by decide +kernel]
        clear F10 B10 k010 hkl10 f1 sp hpt
        generalize upd G pt (.tup [.str "and", .str "or"]) = G1 at *
        walk_at "ss"
        refine ⟨.inl ⟨rfl, _, SqL.of f11⟩, ?_⟩
        walk_at "ss"
        refine ⟨b, l, _, rfl, B11, by decide, by decide, fun k9 G2 k90 k91 B12 k12 => ?_⟩
        have F12 := F11.kp k12 B11 Lb
        have k012 := k11.trans k12
        have hkl12 := k12 _ _ hkl11 klb
        clear F11 k11 hkl11 f11 B11 k12
        walk_at "ss"
        refine ite2 (fun e => ?_) (fun e => ?_)
        · walk_at "ss"
          intro D2 hD2
          have nb2 := B12.nb hD2
          have nl2 := B12.nl hD2
          refine lc_it walk_range (fun j H' => Stp (∃ rs : List Nat, (∀ r ∈ rs, r < j) ∧ rs.Pairwise (· < ·) ∧ rs.length ≤ j ∧ H' D2 = some (.lst (natL rs)) ∧ BagAt b l H' ∧ Kp b G2 H'))
            (.mk ⟨[], (fun _ h => by cases h), .nil, Nat.le_refl _, upd_same, B12.mut nb2 nl2, Kp.same (same_upd hD2)⟩) (fun _ _ _ _ => trivial) ?_ ?_
          · rintro j x H1 H2 hj hP ⟨rfl, rfl⟩
            obtain ⟨rs, r1, r2, r3, hz, B2, k2⟩ := hP.of
            clear hP
            obtain ⟨jz, hjz⟩ : ∃ jz : Int, jz = 0 + (j : Int) := ⟨_, rfl⟩
            show gName 9 (V.int (0 + (j : Int))) _ _ _
            rw [← hjz]
            have fin : ∀ H5 : Hp, H5 D2 = some (.lst (natL rs)) → BagAt b l H5 → Kp b G2 H5 → Stp (∃ rs' : List Nat, (∀ r ∈ rs', r < j + 1) ∧ rs'.Pairwise (· < ·) ∧ rs'.length ≤ j + 1 ∧ upd H5 D2 (.lst (natL rs ++ [.int jz])) D2 = some (.lst (natL rs')) ∧ BagAt b l (upd H5 D2 (.lst (natL rs ++ [.int jz]))) ∧ Kp b G2 (upd H5 D2 (.lst (natL rs ++ [.int jz])))) := by
              intro H5 h5 B5 k5
              refine .mk ⟨rs ++ [j], fun r hr => ?_, ?_, by rw [List.length_append]; show rs.length + 1 ≤ j + 1; omega, ?_, B5.mut nb2 nl2, k5.mut hD2⟩
              · rcases List.mem_append.mp hr with hr | hr
                · have := r1 r hr
                  omega
                · rw [List.mem_singleton.mp hr]
                  omega
              · refine List.pairwise_append.mpr ⟨r2, List.pairwise_singleton _ _, fun x hx y hy => ?_⟩
                rw [List.mem_singleton.mp hy]
                exact r1 x hx
              · rw [upd_same]
                unfold natL
                rw [List.map_append, hjz, Int.zero_add]
                rfl
            walk_at "ss"
            refine ite2 (fun e2 => ?_) (fun e2 => ?_)
            · walk_at "ss"
              exact ⟨_, hz, szl (by rw [natL_len]; omega), fin _ hz B2 k2⟩
            · walk_at "ss"
              refine ⟨b, l, _, rfl, B2, by decide, by decide, fun k4 H3 _ _ B3 k3 => ?_⟩
              have hz3 := k3 _ _ hz nb2
              walk_at "ss"
              refine ite2 (fun e3 => ?_) (fun e3 => ?_)
              · walk_at "ss"
                exact ⟨_, hz3, szl (by rw [natL_len]; omega), fin _ hz3 B3 (k2.trans k3)⟩
              · exact .mk ⟨rs, fun r hr => by have := r1 r hr; omega, r2, by omega, hz3, B3, k2.trans k3⟩
          · intro H1 hP
            obtain ⟨rs, r1, r2, r3, hz, B2, k2⟩ := hP.of
            clear hP
            walk_at "ss"
            refine ⟨D2, _, rfl, .inl ⟨SqL.of hz, fun q0 hq0 => ?_⟩⟩
            have s5 := same_upd (o := .tup (natL rs)) hq0
            walk_at "ss"
            intro tp htp
            have s6 := s5.trans (same_upd (o := .tup [.str "and", .ref q0]) htp)
            obtain ⟨xs, x1, x2, x3⟩ := tail (.and rs) tp _ _ _ _ _ ⟨q0, upd_same, same_upd htp _ _ upd_same⟩ (show (∀ r ∈ rs, r < i + 1) ∧ rs.Pairwise (· < ·) ∧ rs.length ≤ 100 from ⟨fun r hr => by have := r1 r hr; omega, r2, by omega⟩) ((F12.kp k2 B12 Lb).same s6) (B2.same s6) ((k012.trans k2).trans (Kp.same s6)) (s6 _ _ (k2 _ _ hkl12 klb))
            refine ⟨L, xs, _, rfl, rfl, x1, szl x2, ?_⟩
            exact .mk x3
        · walk_at "ss"
          intro q0 hq0
          have s5 := same_upd (o := .tup []) hq0
          walk_at "ss"
          intro tp htp
          have s6 := s5.trans (same_upd (o := .tup [.str "and", .ref q0]) htp)
          obtain ⟨xs, x1, x2, x3⟩ := tail (.and []) tp _ _ _ _ _ ⟨q0, upd_same, same_upd htp _ _ upd_same⟩ (show (∀ r ∈ ([] : List Nat), r < i + 1) ∧ ([] : List Nat).Pairwise (· < ·) ∧ ([] : List Nat).length ≤ 100 from ⟨(fun _ h => by cases h), .nil, by decide⟩) (F12.same s6) (B12.same s6) (k012.trans (Kp.same s6)) (s6 _ _ hkl12)
          refine ⟨L, xs, _, rfl, rfl, x1, szl x2, ?_⟩
          exact .mk x3
      · walk_at "ss"
        intro pt hpt
        have sp := same_upd (o := .tup [.str "and", .str "or"]) hpt
        have F11 := F10.same sp
        have B11 := B10.same sp
        have k11 := k010.trans (Kp.same sp)
        have hkl11 := sp _ _ hkl10
        have f11 := sp _ _ f1
        walk_at "ss"
        refine ⟨pt, _, rfl, .inr (SqT.of upd_same), rfl, rfl, ?_⟩
        rw [show inV (V.str "or") [V.str "and", V.str "or"] = true from by decide +kernel]
        clear F10 B10 k010 hkl10 f1 sp hpt
        generalize upd G pt (.tup [.str "and", .str "or"]) = G1 at *
        walk_at "ss"
        refine ⟨.inl ⟨rfl, _, SqL.of f11⟩, ?_⟩
        walk_at "ss"
        refine ⟨b, l, _, rfl, B11, by decide, by decide, fun k9 G2 k90 k91 B12 k12 => ?_⟩
        have F12 := F11.kp k12 B11 Lb
        have k012 := k11.trans k12
        have hkl12 := k12 _ _ hkl11 klb
        clear F11 k11 hkl11 f11 B11 k12
        walk_at "ss"
        refine ite2 (fun e => ?_) (fun e => ?_)
        · walk_at "ss"
          intro D2 hD2
          have nb2 := B12.nb hD2
          have nl2 := B12.nl hD2
          refine lc_it walk_range (fun j H' => Stp (∃ rs : List Nat, (∀ r ∈ rs, r < j) ∧ rs.Pairwise (· < ·) ∧ rs.length ≤ j ∧ H' D2 = some (.lst (natL rs)) ∧ BagAt b l H' ∧ Kp b G2 H'))
            (.mk ⟨[], (fun _ h => by cases h), .nil, Nat.le_refl _, upd_same, B12.mut nb2 nl2, Kp.same (same_upd hD2)⟩) (fun _ _ _ _ => trivial) ?_ ?_
          · rintro j x H1 H2 hj hP ⟨rfl, rfl⟩
            obtain ⟨rs, r1, r2, r3, hz, B2, k2⟩ := hP.of
            clear hP
            obtain ⟨jz, hjz⟩ : ∃ jz : Int, jz = 0 + (j : Int) := ⟨_, rfl⟩
            show gName 9 (V.int (0 + (j : Int))) _ _ _
            rw [← hjz]
            have fin : ∀ H5 : Hp, H5 D2 = some (.lst (natL rs)) → BagAt b l H5 → Kp b G2 H5 → Stp (∃ rs' : List Nat, (∀ r ∈ rs', r < j + 1) ∧ rs'.Pairwise (· < ·) ∧ rs'.length ≤ j + 1 ∧ upd H5 D2 (.lst (natL rs ++ [.int jz])) D2 = some (.lst (natL rs')) ∧ BagAt b l (upd H5 D2 (.lst (natL rs ++ [.int jz]))) ∧ Kp b G2 (upd H5 D2 (.lst (natL rs ++ [.int jz])))) := by
              intro H5 h5 B5 k5
              refine .mk ⟨rs ++ [j], fun r hr => ?_, ?_, by rw [List.length_append]; show rs.length + 1 ≤ j + 1; omega, ?_, B5.mut nb2 nl2, k5.mut hD2⟩
              · rcases List.mem_append.mp hr with hr | hr
                · have := r1 r hr
                  omega
                · rw [List.mem_singleton.mp hr]
                  omega
              · refine List.pairwise_append.mpr ⟨r2, List.pairwise_singleton _ _, fun x hx y hy => ?_⟩
                rw [List.mem_singleton.mp hy]
                exact r1 x hx
              · rw [upd_same]
                unfold natL
                rw [List.map_append, hjz, Int.zero_add]
                rfl
            walk_at "ss"
            refine ite2 (fun e2 => ?_) (fun e2 => ?_)
            · walk_at "ss"
              exact ⟨_, hz, szl (by rw [natL_len]; omega), fin _ hz B2 k2⟩
            · walk_at "ss"
              refine ⟨b, l, _, rfl, B2, by decide, by decide, fun k4 H3 _ _ B3 k3 => ?_⟩
              have hz3 := k3 _ _ hz nb2
              walk_at "ss"
              refine ite2 (fun e3 => ?_) (fun e3 => ?_)
              · walk_at "ss"
                exact ⟨_, hz3, szl (by rw [natL_len]; omega), fin _ hz3 B3 (k2.trans k3)⟩
              · exact .mk ⟨rs, fun r hr => by have := r1 r hr; omega, r2, by omega, hz3, B3, k2.trans k3⟩
          · intro H1 hP
            obtain ⟨rs, r1, r2, r3, hz, B2, k2⟩ := hP.of
            clear hP
            walk_at "ss"
            refine ⟨D2, _, rfl, .inl ⟨SqL.of hz, fun q0 hq0 => ?_⟩⟩
            have s5 := same_upd (o := .tup (natL rs)) hq0
            walk_at "ss"
            intro tp htp
            have s6 := s5.trans (same_upd (o := .tup [.str "or", .ref q0]) htp)
            obtain ⟨xs, x1, x2, x3⟩ := tail (.or rs) tp _ _ _ _ _ ⟨q0, upd_same, same_upd htp _ _ upd_same⟩ (show (∀ r ∈ rs, r < i + 1) ∧ rs.Pairwise (· < ·) ∧ rs.length ≤ 100 from ⟨fun r hr => by have := r1 r hr; omega, r2, by omega⟩) ((F12.kp k2 B12 Lb).same s6) (B2.same s6) ((k012.trans k2).trans (Kp.same s6)) (s6 _ _ (k2 _ _ hkl12 klb))
            refine ⟨L, xs, _, rfl, rfl, x1, szl x2, ?_⟩
            exact .mk x3
        · walk_at "ss"
          intro q0 hq0
          have s5 := same_upd (o := .tup []) hq0
          walk_at "ss"
          intro tp htp
          have s6 := s5.trans (same_upd (o := .tup [.str "or", .ref q0]) htp)
          obtain ⟨xs, x1, x2, x3⟩ := tail (.or []) tp _ _ _ _ _ ⟨q0, upd_same, same_upd htp _ _ upd_same⟩ (show (∀ r ∈ ([] : List Nat), r < i + 1) ∧ ([] : List Nat).Pairwise (· < ·) ∧ ([] : List Nat).length ≤ 100 from ⟨(fun _ h => by cases h), .nil, by decide⟩) (F12.same s6) (B12.same s6) (k012.trans (Kp.same s6)) (s6 _ _ hkl12)
          refine ⟨L, xs, _, rfl, rfl, x1, szl x2, ?_⟩
          exact .mk x3
      · walk_at "ss"
        intro pt hpt
        have sp := same_upd (o := .tup [.str "and", .str "or"]) hpt
        have F11 := F10.same sp
        have B11 := B10.same sp
        have k11 := k010.trans (Kp.same sp)
        have hkl11 := sp _ _ hkl10
        have f11 := sp _ _ f1
        walk_at "ss"
        refine ⟨pt, _, rfl, .inr (SqT.of upd_same), rfl, rfl, ?_⟩
        rw [show inV (V.str "before") [V.str "and", V.str "or"] = false from by decide +kernel]
        clear F10 B10 k010 hkl10 f1 sp hpt
        generalize upd G pt (.tup [.str "and", .str "or"]) = G1 at *
        walk_at "ss"
        refine ⟨.inl ⟨rfl, _, SqL.of f11⟩, ?_⟩
        walk_at "ss"
        intro tp htp
        have s12 := same_upd (o := .tup [.str "before", .int (az - 1 - m)]) htp
        have fa : FLAt (upd G1 tp (.tup [.str "before", .int (az - 1 - m)])) tp (.before nr) := by
          show _ = some (HO.tup [.str "before", .int (nr : Int)])
          rw [hnr]
          exact upd_same
        obtain ⟨xs, x1, x2, x3⟩ := tail (.before nr) tp _ _ _ _ _ fa nri (F11.same s12) (B11.same s12) (k11.trans (Kp.same s12)) (s12 _ _ hkl11)
        refine ⟨L, xs, _, rfl, rfl, x1, szl x2, ?_⟩
        exact .mk x3
      · walk_at "ss"
        intro pt hpt
        have sp := same_upd (o := .tup [.str "and", .str "or"]) hpt
        have F11 := F10.same sp
        have B11 := B10.same sp
        have k11 := k010.trans (Kp.same sp)
        have hkl11 := sp _ _ hkl10
        have f11 := sp _ _ f1
        walk_at "ss"
        refine ⟨pt, _, rfl, .inr (SqT.of upd_same), rfl, rfl, ?_⟩
        rw [show inV (V.str "since") [V.str "and", V.str "or"] = false from by decide +kernel]
        clear F10 B10 k010 hkl10 f1 sp hpt
        generalize upd G pt (.tup [.str "and", .str "or"]) = G1 at *
        walk_at "ss"
        refine ⟨.inl ⟨rfl, _, SqL.of f11⟩, ?_⟩
        walk_at "ss"
        refine ⟨b, l, _, rfl, B11, by omega, by omega, fun j G2 j0 j1 B12 k12 => ?_⟩
        obtain ⟨jn, hjn⟩ : ∃ jn : Nat, (jn : Int) = j := ⟨j.toNat, by omega⟩
        walk_at "ss"
        intro tp htp
        have s12 := same_upd (o := .tup [.str "since", .int j, .int (az - 1 - m)]) htp
        have fa : FLAt (upd G2 tp (.tup [.str "since", .int j, .int (az - 1 - m)])) tp (.since jn nr) := by
          show _ = some (HO.tup [.str "since", .int (jn : Int), .int (nr : Int)])
          rw [hnr, hjn]
          exact upd_same
        obtain ⟨xs, x1, x2, x3⟩ := tail (.since jn nr) tp _ _ _ _ _ fa (show jn < i + 1 ∧ nr < i + 1 by omega) ((F11.kp k12 B11 Lb).same s12) (B12.same s12) ((k11.trans k12).trans (Kp.same s12)) (s12 _ _ (k12 _ _ hkl11 klb))
        refine ⟨L, xs, _, rfl, rfl, x1, szl x2, ?_⟩
        exact .mk x3
      · walk_at "ss"
        intro pt hpt
        have sp := same_upd (o := .tup [.str "and", .str "or"]) hpt
        have F11 := F10.same sp
        have B11 := B10.same sp
        have k11 := k010.trans (Kp.same sp)
        have hkl11 := sp _ _ hkl10
        have f11 := sp _ _ f1
        walk_at "ss"
        refine ⟨pt, _, rfl, .inr (SqT.of upd_same), rfl, rfl, ?_⟩
        rw [show inV (V.str "count") [V.str "and", V.str "or"] = false from by decide +kernel]
        clear F10 B10 k010 hkl10 f1 sp hpt
        generalize upd G pt (.tup [.str "and", .str "or"]) = G1 at *
        walk_at "ss"
        intro D2 hD2
        have s12 := same_upd (o := .lst [.int 2, .int 2, .int 3, .int 5]) hD2
        walk_at "ss"
        refine ⟨b, l, _, rfl, B11.same s12, .inl ⟨D2, _, rfl, B11.nb hD2, .inl (SqL.of upd_same), (by intro z; cases z), (by show 4 ≤ 100000; decide), fun u G2 hu B12 k12 => ?_⟩⟩
        obtain ⟨pn, rfl, hpn⟩ : ∃ pn : Nat, u = .int (pn : Int) ∧ pn ∈ [2, 3, 5] := by
          simp only [List.mem_cons, List.not_mem_nil, or_false] at hu
          rcases hu with rfl | rfl | rfl | rfl
          · exact ⟨2, rfl, by decide⟩
          · exact ⟨2, rfl, by decide⟩
          · exact ⟨3, rfl, by decide⟩
          · exact ⟨5, rfl, by decide⟩
        have pn5 : 2 ≤ pn ∧ pn ≤ 5 := by
          simp only [List.mem_cons, List.not_mem_nil, or_false] at hpn
          omega
        have F12 := (F11.same s12).kp k12 (B11.same s12) Lb
        have k012 := (k11.trans (Kp.same s12)).trans k12
        have hkl12 := k12 _ _ (s12 _ _ hkl11) klb
        have f12 := k12 _ _ (s12 _ _ f11) Lb
        clear F11 k11 hkl11 f11 B11 s12 k12 hu hD2
        obtain ⟨pz, hpz⟩ : ∃ pz : Int, pz = (pn : Int) := ⟨_, rfl⟩
        rw [← hpz]
        walk_at "ss"
        refine ⟨.inl ⟨rfl, _, SqL.of f12⟩, ?_⟩
        walk_at "ss"
        refine ⟨b, l, _, rfl, B12, by omega, by omega, fun j G3 j0 j1 B13 k13 => ?_⟩
        obtain ⟨jn, hjn⟩ : ∃ jn : Nat, (jn : Int) = j := ⟨j.toNat, by omega⟩
        walk_at "ss"
        intro tp htp
        have s13 := same_upd (o := .tup [.str "count", .int (az - 1 - m), .int pz, .int j]) htp
        have fa : FLAt (upd G3 tp (.tup [.str "count", .int (az - 1 - m), .int pz, .int j])) tp (.count nr pn jn) := by
          show _ = some (HO.tup [.str "count", .int (nr : Int), .int (pn : Int), .int (jn : Int)])
          rw [hnr, hjn, ← hpz]
          exact upd_same
        obtain ⟨xs, x1, x2, x3⟩ := tail (.count nr pn jn) tp _ _ _ _ _ fa (show nr < i + 1 ∧ pn ∈ PR ∧ jn < pn from ⟨nri, pr_of hpn, by omega⟩) ((F12.kp k13 B12 Lb).same s13) (B13.same s13) ((k012.trans k13).trans (Kp.same s13)) (s13 _ _ (k13 _ _ hkl12 klb))
        refine ⟨L, xs, _, rfl, rfl, x1, szl x2, ?_⟩
        exact .mk x3
    · rintro σ H5 hP
      obtain ⟨fls, y5, y6, y7, y8, y9, rfl, F5, O5, fl5, B5, k5, hkl5⟩ := hP.of
      walk_at "ss"
      exact q L fls H5 F5 O5 (by omega) LH B5 k5
end

/-! ### the truths of the lines, moment by moment -/
def evL (f : FL) (tr past : List Bool) (at_ cnt c : Nat) : Bool × Nat :=
  match f with
  | .is z => (decide (c ∈ z), cnt)
  | .not i => (!(tr.getD i false), cnt)
  | .and rs => (rs.all fun r => tr.getD r false, cnt)
  | .or rs => (rs.any fun r => tr.getD r false, cnt)
  | .before i => (past.getD i false, cnt)
  | .since i j => (tr.getD j false || (tr.getD i false && past.getD at_ false), cnt)
  | .count i p r => let n := if tr.getD i false then (cnt + 1) % p else cnt; (decide (n = r), n)
def stepL (fls : List FL) (c : Nat) (past : List Bool) (cn : List Nat) : Nat → List Bool × List Nat
  | 0 => ([], cn)
  | k + 1 => match fls[k]? with
    | some f => ((stepL fls c past cn k).1 ++ [(evL f (stepL fls c past cn k).1 past k (cn.getD k 0) c).1], (stepL fls c past cn k).2.set k (evL f (stepL fls c past cn k).1 past k (cn.getD k 0) c).2)
    | none => stepL fls c past cn k
theorem stepL_len {fls : List FL} {c : Nat} {past : List Bool} {cn : List Nat} : ∀ {k : Nat}, k ≤ fls.length → (stepL fls c past cn k).1.length = k ∧ (stepL fls c past cn k).2.length = cn.length
  | 0, _ => ⟨rfl, rfl⟩
  | k + 1, h => by
    obtain ⟨a, b⟩ := stepL_len (fls := fls) (c := c) (past := past) (cn := cn) (k := k) (by omega)
    have e : fls[k]? = some fls[k] := List.getElem?_eq_getElem (by omega)
    unfold stepL
    rw [e]
    exact ⟨by simp [a], by simp [b]⟩
def boolL (bs : List Bool) : List V := bs.map V.bl
theorem boolL_at {bs : List Bool} {i : Nat} (h : i < bs.length) : (boolL bs)[i]? = some (.bl (bs.getD i false)) := by
  unfold boolL
  rw [List.getElem?_map, List.getD_eq_getElem?_getD, List.getElem?_eq_getElem h]
  rfl
theorem boolL_len (bs : List Bool) : (boolL bs).length = bs.length := by unfold boolL; rw [List.length_map]
theorem boolL_snoc (bs : List Bool) (b : Bool) : boolL (bs ++ [b]) = boolL bs ++ [.bl b] := by unfold boolL; rw [List.map_append]; rfl
theorem stepL_keep {fls : List FL} {c : Nat} {past : List Bool} {cn : List Nat} : ∀ {k j : Nat}, k ≤ j → (stepL fls c past cn k).2.getD j 0 = cn.getD j 0
  | 0, _, _ => rfl
  | k + 1, j, h => by
    have ih := stepL_keep (fls := fls) (c := c) (past := past) (cn := cn) (k := k) (j := j) (by omega)
    unfold stepL
    cases fls[k]? with
    | none => exact ih
    | some f =>
      show (List.set _ k _).getD j 0 = _
      rw [List.getD_eq_getElem?_getD, List.getElem?_set_ne (by omega), ← List.getD_eq_getElem?_getD]
      exact ih
def spNext : Sp := fun vs H Q _ => ∃ (r p k : Addr) (c : Nat) (al : List Nat) (fls : List FL) (past : List Bool) (cn : List Nat), vs = [.ref r, .str ⟨#[c]⟩, .ref p, .ref k] ∧ FLs H r fls ∧ FOk al fls ∧ al.length ≤ 4 ∧ fls.length ≤ 1000 ∧ H p = some (.lst (boolL past)) ∧ H k = some (.lst (natL cn)) ∧
  past.length = fls.length ∧ cn.length = fls.length ∧ ∀ (u t f : Addr) (H' : Hp), H' u = some (.tup [.ref t, .ref f]) → H' t = some (.lst (boolL (stepL fls c past cn fls.length).1)) → H' f = some (.lst (natL (stepL fls c past cn fls.length).2)) → H t = none → Same H H' → Q (.ref u) H'
section
variable {P : Program} {w : World} {K : PySem.W.Frag} {mg : Str → Option Value} {base : Heap}
theorem ok_next_truths (T : Env K mg) : FnOk P w K mg base CX0 1 T.f_next_truths T.fd_next_truths ["lines", "letter", "past", "counts"] spNext := by
  refine T.F_next_truths.ok sc_next_truths (fun vs H Q E h => ?_) (fun cdv A outer s H vs Q E hr h => ⟨_, ((pss_cons (ps_set (i := 4) sc_next_truths.nd rfl (.inr rfl) (pe_lst pa_nil))
      (pss_cons (ps_set (i := 5) sc_next_truths.nd rfl (.inl rfl) (pe_callTy call_list_of (by rfl) T.z_list (by decide +kernel) (pa_cons (pv 3) pa_nil)))
      (pss_cons (ps_for PassesOwn.never rfl (pi_enum (by rfl) T.z_enumerate (pa_cons (pv 0) pa_nil)) (pg_tup (by rfl) (pgs_cons (pg_name (i := 6) sc_next_truths.nd rfl (.inl rfl)) (pgs_cons (pg_name (i := 7) sc_next_truths.nd rfl (.inl rfl)) pgs_nil)))
      (pss_cons (ps_set (i := 8) sc_next_truths.nd rfl (.inl rfl) (pe_ix ix_tup (pv 7) pe_int (fun _ _ => rfl)))
      (pss_cons (ps_if (pt_cmpR op_eq (pv 8) pe_str (nomark _))
      (pss_one (ps_set (i := 9) sc_next_truths.nd rfl (.inl rfl) (pe_cmpR op_in_sign (pv 1) (pe_ix ix_tup (pv 7) pe_int (fun _ _ => rfl)) (by rfl))))
      (pss_one (ps_if (pt_cmpR op_eq (pv 8) pe_str (nomark _))
      (pss_one (ps_set (i := 9) sc_next_truths.nd rfl (.inl rfl) (pe_not (pe_ix ix_list (pv 4) (pe_ix ix_tup (pv 7) pe_int (fun _ _ => rfl)) (fun _ _ => rfl)))))
      (pss_one (ps_if (pt_cmpR op_eq (pv 8) pe_str (nomark _))
      (pss_one (ps_set (i := 9) sc_next_truths.nd rfl (.inl rfl) (pe_callB (cr_all rfl) (by rfl) T.z_all (by decide +kernel) (pa_cons (pe_lc (own := [("ref", 10)]) (g := (gName 10)) (tt := tYes) (te := (tOp (rIxL K) _ _)) rfl sc_next_truths.nd (pi_tup (pe_ix ix_tup (pv 7) pe_int (fun _ _ => rfl))) (blkOk_by (own := [("ref", 10)]) (N := N_next_truths) (sc := defScope s_next_truths) (by decide +kernel)) (fun _ _ _ _ _ => (pg_name (i := 10) sc_next_truths.nd rfl (.inl rfl))) (fun _ _ _ _ _ => pts_nil) (fun _ _ _ _ _ => (pe_ix ix_list (pv 4) (pv 10) (fun _ _ => rfl)))) pa_nil))))
      (pss_one (ps_if (pt_cmpR op_eq (pv 8) pe_str (nomark _))
      (pss_one (ps_set (i := 9) sc_next_truths.nd rfl (.inl rfl) (pe_callB (cr_any rfl) (by rfl) T.z_any (by decide +kernel) (pa_cons (pe_lc (own := [("ref", 10)]) (g := (gName 10)) (tt := tYes) (te := (tOp (rIxL K) _ _)) rfl sc_next_truths.nd (pi_tup (pe_ix ix_tup (pv 7) pe_int (fun _ _ => rfl))) (blkOk_by (own := [("ref", 10)]) (N := N_next_truths) (sc := defScope s_next_truths) (by decide +kernel)) (fun _ _ _ _ _ => (pg_name (i := 10) sc_next_truths.nd rfl (.inl rfl))) (fun _ _ _ _ _ => pts_nil) (fun _ _ _ _ _ => (pe_ix ix_list (pv 4) (pv 10) (fun _ _ => rfl)))) pa_nil))))
      (pss_one (ps_if (pt_cmpR op_eq (pv 8) pe_str (nomark _))
      (pss_one (ps_set (i := 9) sc_next_truths.nd rfl (.inl rfl) (pe_ix ix_list (pv 2) (pe_ix ix_tup (pv 7) pe_int (fun _ _ => rfl)) (fun _ _ => rfl))))
      (pss_one (ps_if (pt_cmpR op_eq (pv 8) pe_str (nomark _))
      (pss_one (ps_set (i := 9) sc_next_truths.nd rfl (.inl rfl) (pe_or (pe_ix ix_list (pv 4) (pe_ix ix_tup (pv 7) pe_int (fun _ _ => rfl)) (fun _ _ => rfl)) (pe_one (pe_and (pe_ix ix_list (pv 4) (pe_ix ix_tup (pv 7) pe_int (fun _ _ => rfl)) (fun _ _ => rfl)) (pe_one (pe_ix ix_list (pv 2) (pv 6) (fun _ _ => rfl))))))))
      (pss_cons (ps_if (pt_val (pe_ix ix_list (pv 4) (pe_ix ix_tup (pv 7) pe_int (fun _ _ => rfl)) (fun _ _ => rfl)))
      (pss_one (ps_asg (pe_op op_mod (pe_op op_add (pe_ix ix_list (pv 3) (pv 6) (fun _ _ => rfl)) pe_int) (pe_ix ix_tup (pv 7) pe_int (fun _ _ => rfl))) (pg_sub (pv 5) (pv 6) set_list)))
      pss_nil)
      (pss_one (ps_set (i := 9) sc_next_truths.nd rfl (.inl rfl) (pe_cmpR op_eq (pe_ix ix_list (pv 5) (pv 6) (fun _ _ => rfl)) (pe_ix ix_tup (pv 7) pe_int (fun _ _ => rfl)) (nomark _))))))))))))))))
      (pss_one (ps_expr (pe_bm PySem.F.plainAttrs_list PySem.F.slot_list_append PySem.F.type_list_append mt_append (pv 4) (pa_cons (pv 9) pa_nil)))))))
      (pss_one (ps_ret (pe_tup (pa_cons (pv 4) (pa_cons (pv 5) pa_nil))))))))), ?_⟩)
  · obtain ⟨r, p, k, c, al, fls, past, cn, rfl, _⟩ := h
    rfl
  · obtain ⟨r, p, k, c, al, fls, past, cn, rfl, hf, ok, hal, hn, hp, hk, lp, lk, q⟩ := h
    walk_at "ss"
    intro t ht
    have s1 := same_upd (o := .lst []) ht
    walk_at "ss"
    refine ⟨k, _, rfl, .inl (SqL.of (s1 _ _ hk)), fun f hfr => ?_⟩
    have hfH : H f = none := by
      cases e : H f with
      | none => rfl
      | some o => rw [s1 _ _ e] at hfr; cases hfr
    have tf : t ≠ f := ne_of_none upd_same hfr
    have s2 : Same H (upd (upd H t (.lst [])) f (.lst (natL cn))) := s1.trans (same_upd hfr)
    have ht2 : upd (upd H t (.lst [])) f (.lst (natL cn)) t = some (.lst (boolL (stepL fls c past cn 0).1)) := by rw [upd_ne tf]; exact upd_same
    have hf2 : upd (upd H t (.lst [])) f (.lst (natL cn)) f = some (.lst (natL (stepL fls c past cn 0).2)) := upd_same
    generalize upd (upd H t (.lst [])) f (.lst (natL cn)) = G0 at *
    obtain ⟨xs, hx, hl⟩ := hf.len
    have hxq : SqL K G0 r xs := SqL.of (s2 _ _ hx)
    walk_at "ss"
    refine for_it walk_enum (fun i σ H' => Stp (Same H H' ∧ H' t = some (.lst (boolL (stepL fls c past cn i).1)) ∧ H' f = some (.lst (natL (stepL fls c past cn i).2)) ∧ ∃ y6 y7 y8 y9 y10 : Option V, σ = [some (.ref r), some (.str ⟨#[c]⟩), some (.ref p), some (.ref k), some (.ref t), some (.ref f), y6, y7, y8, y9, y10]))
      (.mk ⟨s2, ht2, hf2, _, _, _, _, _, rfl⟩) (fun i σ H' _ h => SqL.of (h.of.1 _ _ hx)) ?_ ?_
    · clear s2 ht2 hf2 hxq
      rintro i y σ H3 H4 hi hP ⟨Tt, u, v, rfl, nT, rfl, eu, ev⟩
      obtain ⟨s3, ht3, hf3, y6, y7, y8, y9, y10, rfl⟩ := hP.of
      clear hP
      cases eu
      obtain ⟨fl, hfi⟩ : ∃ f, fls[i]? = some f := ⟨_, List.getElem?_eq_getElem (by omega)⟩
      obtain ⟨xs2, pl, g1, g2, g3, g4⟩ := hf.at_ hfi
      rw [hx] at g1
      cases g1
      have ev : xs[i]? = some v := ev
      rw [g3] at ev
      cases ev
      have s4 : Same H3 (upd H3 Tt (.tup [.int (i : Nat), .ref pl])) := same_upd nT
      refine ⟨Tt, _, rfl, .inl (.inl upd_same), rfl, _, _, rfl, _, _, rfl, rfl, ?_⟩
      have s5 := s3.trans s4
      have ht5 := s4 _ _ ht3
      have hf5 := s4 _ _ hf3
      clear s3 s4 ht3 hf3 nT
      generalize upd H3 Tt (.tup [.int (i : Nat), .ref pl]) = G5 at *
      obtain ⟨l1, l2⟩ := stepL_len (fls := fls) (c := c) (past := past) (cn := cn) (k := i) (by omega)
      have nx : stepL fls c past cn (i + 1) = ((stepL fls c past cn i).1 ++ [(evL fl (stepL fls c past cn i).1 past i (cn.getD i 0) c).1], (stepL fls c past cn i).2.set i (evL fl (stepL fls c past cn i).1 past i (cn.getD i 0) c).2) := by
        show (match fls[i]? with | some f => _ | none => _) = _
        rw [hfi]
      have keep0 := stepL_keep (fls := fls) (c := c) (past := past) (cn := cn) (k := i) (j := i) (Nat.le_refl _)
      generalize stepL fls c past cn (i + 1) = S1 at *
      generalize stepL fls c past cn i = S0 at *
      obtain ⟨tr, fr⟩ := S0
      have l1 : tr.length = i := l1
      have l2 : fr.length = cn.length := l2
      have keep : fr.set i (cn.getD i 0) = fr := by
        have k0 : fr.getD i 0 = cn.getD i 0 := keep0
        rw [← k0, List.getD_eq_getElem?_getD, List.getElem?_eq_getElem (by omega)]
        exact List.set_getElem_self (by omega)
      have ht5 : G5 t = some (.lst (boolL tr)) := ht5
      have hf5 : G5 f = some (.lst (natL fr)) := hf5
      have okf := ok i fl hfi
      have gp := g4.same s5
      have hp5 := s5 _ _ hp
      have hk5 := s5 _ _ hk
      walk_at "ss"
      cases fl with
      | is z =>
        have gp : G5 pl = some (.tup [.str "is", strL z]) := gp
        refine ⟨pl, _, 0, _, rfl, rfl, SqT.of gp, rfl, ?_⟩
        walk_at "ss"
        refine ⟨pl, _, 1, _, rfl, rfl, SqT.of gp, rfl, ?_⟩
        walk_at "ss"
        refine ⟨.inl ⟨rfl, _, SqL.of ht5⟩, ?_⟩
        walk_at "ss"
        refine ⟨t, _, _, rfl, rfl, ht5, szl (by rw [boolL_len]; omega), ?_⟩
        refine .mk ⟨same_mut (s5) ht, ?_, ?_, _, _, _, _, _, rfl⟩
        · rw [upd_same, nx]
          exact congrArg (fun l => some (HO.lst l)) (boolL_snoc _ _).symm
        · rw [upd_ne tf.symm, nx]
          show _ = some (HO.lst (natL (fr.set i (cn.getD i 0))))
          rw [keep]
          exact hf5
      | not j =>
        have gp : G5 pl = some (.tup [.str "not", .int (j : Nat)]) := gp
        refine ⟨pl, _, 0, _, rfl, rfl, SqT.of gp, rfl, ?_⟩
        walk_at "ss"
        refine ⟨pl, _, 1, _, rfl, rfl, SqT.of gp, rfl, ?_⟩
        walk_at "ss"
        have okf : j < i := okf
        refine ⟨t, _, _, _, rfl, rfl, SqL.of ht5, atI_nat (boolL_at (by omega)), ?_⟩
        walk_at "ss"
        refine ⟨.inl ⟨rfl, _, SqL.of ht5⟩, ?_⟩
        walk_at "ss"
        refine ⟨t, _, _, rfl, rfl, ht5, szl (by rw [boolL_len]; omega), ?_⟩
        refine .mk ⟨same_mut (s5) ht, ?_, ?_, _, _, _, _, _, rfl⟩
        · rw [upd_same, nx]
          exact congrArg (fun l => some (HO.lst l)) (boolL_snoc _ _).symm
        · rw [upd_ne tf.symm, nx]
          show _ = some (HO.lst (natL (fr.set i (cn.getD i 0))))
          rw [keep]
          exact hf5
      | and rs =>
        obtain ⟨q0, gp, gq⟩ := gp
        have gp : G5 pl = some (.tup [.str "and", .ref q0]) := gp
        refine ⟨pl, _, 0, _, rfl, rfl, SqT.of gp, rfl, ?_⟩
        walk_at "ss"
        refine ⟨pl, _, 1, _, rfl, rfl, SqT.of gp, rfl, ?_⟩
        walk_at "ss"
        refine ⟨⟨_, SqT.of gq⟩, ?_⟩
        intro D hD
        have okf : (∀ r ∈ rs, r < i) ∧ rs.Pairwise (· < ·) ∧ rs.length ≤ 100 := okf
        refine lc_gen walk_tup (fun H' => Same G5 H') (fun k2 y => ∃ r, rs[k2]? = some r ∧ y = V.bl (tr.getD r false)) (by rw [natL_len]; omega) (same_upd hD) (fun _ h => same_tup h (SqT.of gq)) (fun _ _ h => same_mut h hD) ?_ ?_
        · rintro k2 x H1 H2 Q1 hlt2 hI ⟨rfl, hx⟩ - hQ
          have hx : (natL rs)[k2]? = some x := hx
          have k2l : k2 < rs.length := by rw [natL_len] at hlt2; exact hlt2
          have er : rs[k2]? = some (rs.getD k2 0) := by rw [List.getD_eq_getElem?_getD, List.getElem?_eq_getElem k2l]; rfl
          rw [natL_at k2l] at hx
          cases hx
          have lt := okf.1 _ (List.mem_of_getElem? er)
          walk_at "ss"
          refine ⟨t, _, _, _, rfl, rfl, SqL.of (hI _ _ ht5), atI_nat (boolL_at (by omega)), ?_⟩
          exact hQ _ _ ⟨_, er, rfl⟩ hI fun _ h => h
        · intro H1 ys hI hy hl2 hr2
          have e : ys = (rs.map fun r => tr.getD r false).map V.bl := by
            rw [List.map_map]
            exact ys_map (by rw [hl2, natL_len]) hr2
          subst e
          walk_at "ss"
          refine ⟨D, _, rfl, SqL.of hy, ?_⟩
          rw [show (rs.map fun r => tr.getD r false).all id = rs.all (fun r => tr.getD r false) by rw [List.all_map]; rfl]
          walk_at "ss"
          refine ⟨.inl ⟨rfl, _, SqL.of (hI _ _ ht5)⟩, ?_⟩
          walk_at "ss"
          refine ⟨t, _, _, rfl, rfl, (hI _ _ ht5), szl (by rw [boolL_len]; omega), ?_⟩
          refine .mk ⟨same_mut (s5.trans hI) ht, ?_, ?_, _, _, _, _, _, rfl⟩
          · rw [upd_same, nx]
            exact congrArg (fun l => some (HO.lst l)) (boolL_snoc _ _).symm
          · rw [upd_ne tf.symm, nx]
            show _ = some (HO.lst (natL (fr.set i (cn.getD i 0))))
            rw [keep]
            exact (hI _ _ hf5)
      | or rs =>
        obtain ⟨q0, gp, gq⟩ := gp
        have gp : G5 pl = some (.tup [.str "or", .ref q0]) := gp
        refine ⟨pl, _, 0, _, rfl, rfl, SqT.of gp, rfl, ?_⟩
        walk_at "ss"
        refine ⟨pl, _, 1, _, rfl, rfl, SqT.of gp, rfl, ?_⟩
        walk_at "ss"
        refine ⟨⟨_, SqT.of gq⟩, ?_⟩
        intro D hD
        have okf : (∀ r ∈ rs, r < i) ∧ rs.Pairwise (· < ·) ∧ rs.length ≤ 100 := okf
        refine lc_gen walk_tup (fun H' => Same G5 H') (fun k2 y => ∃ r, rs[k2]? = some r ∧ y = V.bl (tr.getD r false)) (by rw [natL_len]; omega) (same_upd hD) (fun _ h => same_tup h (SqT.of gq)) (fun _ _ h => same_mut h hD) ?_ ?_
        · rintro k2 x H1 H2 Q1 hlt2 hI ⟨rfl, hx⟩ - hQ
          have hx : (natL rs)[k2]? = some x := hx
          have k2l : k2 < rs.length := by rw [natL_len] at hlt2; exact hlt2
          have er : rs[k2]? = some (rs.getD k2 0) := by rw [List.getD_eq_getElem?_getD, List.getElem?_eq_getElem k2l]; rfl
          rw [natL_at k2l] at hx
          cases hx
          have lt := okf.1 _ (List.mem_of_getElem? er)
          walk_at "ss"
          refine ⟨t, _, _, _, rfl, rfl, SqL.of (hI _ _ ht5), atI_nat (boolL_at (by omega)), ?_⟩
          exact hQ _ _ ⟨_, er, rfl⟩ hI fun _ h => h
        · intro H1 ys hI hy hl2 hr2
          have e : ys = (rs.map fun r => tr.getD r false).map V.bl := by
            rw [List.map_map]
            exact ys_map (by rw [hl2, natL_len]) hr2
          subst e
          walk_at "ss"
          refine ⟨D, _, rfl, SqL.of hy, ?_⟩
          rw [show (rs.map fun r => tr.getD r false).any id = rs.any (fun r => tr.getD r false) by rw [List.any_map]; rfl]
          walk_at "ss"
          refine ⟨.inl ⟨rfl, _, SqL.of (hI _ _ ht5)⟩, ?_⟩
          walk_at "ss"
          refine ⟨t, _, _, rfl, rfl, (hI _ _ ht5), szl (by rw [boolL_len]; omega), ?_⟩
          refine .mk ⟨same_mut (s5.trans hI) ht, ?_, ?_, _, _, _, _, _, rfl⟩
          · rw [upd_same, nx]
            exact congrArg (fun l => some (HO.lst l)) (boolL_snoc _ _).symm
          · rw [upd_ne tf.symm, nx]
            show _ = some (HO.lst (natL (fr.set i (cn.getD i 0))))
            rw [keep]
            exact (hI _ _ hf5)
      | before j =>
        have gp : G5 pl = some (.tup [.str "before", .int (j : Nat)]) := gp
        refine ⟨pl, _, 0, _, rfl, rfl, SqT.of gp, rfl, ?_⟩
        walk_at "ss"
        refine ⟨pl, _, 1, _, rfl, rfl, SqT.of gp, rfl, ?_⟩
        walk_at "ss"
        have okf : j < i := okf
        refine ⟨p, _, _, _, rfl, rfl, SqL.of hp5, atI_nat (boolL_at (by omega)), ?_⟩
        walk_at "ss"
        refine ⟨.inl ⟨rfl, _, SqL.of ht5⟩, ?_⟩
        walk_at "ss"
        refine ⟨t, _, _, rfl, rfl, ht5, szl (by rw [boolL_len]; omega), ?_⟩
        refine .mk ⟨same_mut (s5) ht, ?_, ?_, _, _, _, _, _, rfl⟩
        · rw [upd_same, nx]
          exact congrArg (fun l => some (HO.lst l)) (boolL_snoc _ _).symm
        · rw [upd_ne tf.symm, nx]
          show _ = some (HO.lst (natL (fr.set i (cn.getD i 0))))
          rw [keep]
          exact hf5
      | since j j2 =>
        have gp : G5 pl = some (.tup [.str "since", .int (j : Nat), .int (j2 : Nat)]) := gp
        refine ⟨pl, _, 0, _, rfl, rfl, SqT.of gp, rfl, ?_⟩
        walk_at "ss"
        refine ⟨pl, _, 2, _, rfl, rfl, SqT.of gp, rfl, ?_⟩
        walk_at "ss"
        have okf : j < i ∧ j2 < i := okf
        refine ⟨t, _, _, _, rfl, rfl, SqL.of ht5, atI_nat (boolL_at (by omega)), ?_⟩
        walk_at "ss"
        cases hb : tr.getD j2 false with
        | true =>
          have ev : (evL (.since j j2) tr past i (cn.getD i 0) c).1 = true := by
            show (tr.getD j2 false || _) = true
            rw [hb]
            rfl
          walk_at "ss"
          refine ⟨.inl ⟨rfl, _, SqL.of ht5⟩, ?_⟩
          walk_at "ss"
          refine ⟨t, _, _, rfl, rfl, ht5, szl (by rw [boolL_len]; omega), ?_⟩
          refine .mk ⟨same_mut (s5) ht, ?_, ?_, _, _, _, _, _, rfl⟩
          · rw [upd_same, nx, ev]
            exact congrArg (fun l => some (HO.lst l)) (boolL_snoc _ _).symm
          · rw [upd_ne tf.symm, nx]
            show _ = some (HO.lst (natL (fr.set i (cn.getD i 0))))
            rw [keep]
            exact hf5
        | false =>
          walk_at "ss"
          refine ⟨pl, _, 1, _, rfl, rfl, SqT.of gp, rfl, ?_⟩
          walk_at "ss"
          refine ⟨t, _, _, _, rfl, rfl, SqL.of ht5, atI_nat (boolL_at (by omega)), ?_⟩
          walk_at "ss"

          cases hb2 : tr.getD j false with
          | true =>
            have ev : (evL (.since j j2) tr past i (cn.getD i 0) c).1 = past.getD i false := by
              show (tr.getD j2 false || (tr.getD j false && past.getD i false)) = _
              rw [hb, hb2]
              rfl
            walk_at "ss"
            refine ⟨p, _, _, _, rfl, rfl, SqL.of hp5, atI_nat (boolL_at (by omega)), ?_⟩
            walk_at "ss"

            refine ⟨.inl ⟨rfl, _, SqL.of ht5⟩, ?_⟩
            walk_at "ss"
            refine ⟨t, _, _, rfl, rfl, ht5, szl (by rw [boolL_len]; omega), ?_⟩
            refine .mk ⟨same_mut (s5) ht, ?_, ?_, _, _, _, _, _, rfl⟩
            · rw [upd_same, nx, ev]
              exact congrArg (fun l => some (HO.lst l)) (boolL_snoc _ _).symm
            · rw [upd_ne tf.symm, nx]
              show _ = some (HO.lst (natL (fr.set i (cn.getD i 0))))
              rw [keep]
              exact hf5
          | false =>
            have ev : (evL (.since j j2) tr past i (cn.getD i 0) c).1 = false := by
              show (tr.getD j2 false || (tr.getD j false && past.getD i false)) = _
              rw [hb, hb2]
              rfl
            walk_at "ss"
            refine ⟨.inl ⟨rfl, _, SqL.of ht5⟩, ?_⟩
            walk_at "ss"
            refine ⟨t, _, _, rfl, rfl, ht5, szl (by rw [boolL_len]; omega), ?_⟩
            refine .mk ⟨same_mut (s5) ht, ?_, ?_, _, _, _, _, _, rfl⟩
            · rw [upd_same, nx, ev]
              exact congrArg (fun l => some (HO.lst l)) (boolL_snoc _ _).symm
            · rw [upd_ne tf.symm, nx]
              show _ = some (HO.lst (natL (fr.set i (cn.getD i 0))))
              rw [keep]
              exact hf5
      | count j p2 r2 =>
        have gp : G5 pl = some (.tup [.str "count", .int (j : Nat), .int (p2 : Nat), .int (r2 : Nat)]) := gp
        refine ⟨pl, _, 0, _, rfl, rfl, SqT.of gp, rfl, ?_⟩
        walk_at "ss"
        refine ⟨pl, _, 1, _, rfl, rfl, SqT.of gp, rfl, ?_⟩
        walk_at "ss"
        have okf : j < i ∧ p2 ∈ PR ∧ r2 < p2 := okf
        have p20 : 0 < p2 := by omega
        refine ⟨t, _, _, _, rfl, rfl, SqL.of ht5, atI_nat (boolL_at (by omega)), ?_⟩
        walk_at "ss"
        cases hb : tr.getD j false with
        | true =>
          walk_at "ss"
          refine ⟨k, _, _, _, rfl, rfl, SqL.of hk5, atI_nat (natL_at (by omega)), ?_⟩
          walk_at "ss"
          refine ⟨pl, _, 2, _, rfl, rfl, SqT.of gp, rfl, ?_⟩
          refine ⟨_, _, rfl, rfl, (show (0 : Int) < (p2 : Int) by omega), ?_⟩
          have em : (((cn.getD i 0 : Nat) : Int) + 1) % (p2 : Int) = (((cn.getD i 0 + 1) % p2 : Nat) : Int) := (Int.natCast_emod (cn.getD i 0 + 1) p2).symm
          show gSub (tVar 5) (tVar 6) rSetL (V.int ((((cn.getD i 0 : Nat) : Int) + 1) % (p2 : Int))) _ _ _
          rw [em]
          walk_at "ss"
          refine ⟨f, _, _, i, rfl, rfl, hf5, ixN_in (by omega) (by rw [natL_len]; omega), ?_⟩
          have plf : pl ≠ f := fun z => by rw [z, hf5] at gp; cases gp
          have hf6 : upd G5 f (.lst ((natL fr).set i (.int ((cn.getD i 0 + 1) % p2 : Nat)))) f = some (.lst ((natL fr).set i (.int ((cn.getD i 0 + 1) % p2 : Nat)))) := upd_same
          have ht6 : upd G5 f (.lst ((natL fr).set i (.int ((cn.getD i 0 + 1) % p2 : Nat)))) t = some (.lst (boolL tr)) := by rw [upd_ne tf]; exact ht5
          have gp6 : upd G5 f (.lst ((natL fr).set i (.int ((cn.getD i 0 + 1) % p2 : Nat)))) pl = some (.tup [.str "count", .int (j : Nat), .int (p2 : Nat), .int (r2 : Nat)]) := by rw [upd_ne plf]; exact gp
          have s6 := same_mut (o := .lst ((natL fr).set i (.int ((cn.getD i 0 + 1) % p2 : Nat)))) s5 hfH
          generalize upd G5 f (.lst ((natL fr).set i (.int ((cn.getD i 0 + 1) % p2 : Nat)))) = G6 at *
          have at6 : ((natL fr).set i (V.int ((cn.getD i 0 + 1) % p2 : Nat)))[i]? = some (.int ((cn.getD i 0 + 1) % p2 : Nat)) := List.getElem?_set_self (by rw [natL_len]; omega)
          walk_at "ss"
          refine ⟨f, _, _, _, rfl, rfl, SqL.of hf6, atI_nat at6, ?_⟩
          walk_at "ss"
          refine ⟨pl, _, 3, _, rfl, rfl, SqT.of gp6, rfl, ?_⟩
          walk_at "ss"
          have ev2 : (evL (.count j p2 r2) tr past i (cn.getD i 0) c).2 = (cn.getD i 0 + 1) % p2 := by
            show (if tr.getD j false = true then _ else _) = _
            rw [hb]
            rfl
          have ev : (evL (.count j p2 r2) tr past i (cn.getD i 0) c).1 = decide (V.int ((cn.getD i 0 + 1) % p2 : Nat) = V.int (r2 : Nat)) := by
            show decide ((evL (.count j p2 r2) tr past i (cn.getD i 0) c).2 = r2) = _
            rw [ev2]
            exact decide_eq_decide.mpr ⟨fun h => by rw [h], fun h => by injection h with h; exact Int.ofNat.inj h⟩
          refine ⟨.inl ⟨rfl, _, SqL.of ht6⟩, ?_⟩
          walk_at "ss"
          refine ⟨t, _, _, rfl, rfl, ht6, szl (by rw [boolL_len]; omega), ?_⟩
          refine .mk ⟨same_mut s6 ht, ?_, ?_, _, _, _, _, _, rfl⟩
          · rw [upd_same, nx, ev]
            exact congrArg (fun l => some (HO.lst l)) (boolL_snoc _ _).symm
          · rw [upd_ne tf.symm, nx, ev2]
            show _ = some (HO.lst (natL (fr.set i ((cn.getD i 0 + 1) % p2))))
            rw [hf6]
            unfold natL
            rw [List.map_set]
        | false =>
          walk_at "ss"
          refine ⟨f, _, _, _, rfl, rfl, SqL.of hf5, atI_nat (natL_at (by omega)), ?_⟩
          walk_at "ss"
          refine ⟨pl, _, 3, _, rfl, rfl, SqT.of gp, rfl, ?_⟩
          walk_at "ss"
          have k0 : fr.getD i 0 = cn.getD i 0 := keep0
          have ev2 : (evL (.count j p2 r2) tr past i (cn.getD i 0) c).2 = cn.getD i 0 := by
            show (if tr.getD j false = true then _ else _) = _
            rw [hb]
            rfl
          have ev : (evL (.count j p2 r2) tr past i (cn.getD i 0) c).1 = decide (V.int (fr.getD i 0 : Nat) = V.int (r2 : Nat)) := by
            show decide ((evL (.count j p2 r2) tr past i (cn.getD i 0) c).2 = r2) = _
            rw [ev2, k0]
            exact decide_eq_decide.mpr ⟨fun h => by rw [h], fun h => by injection h with h; exact Int.ofNat.inj h⟩
          refine ⟨.inl ⟨rfl, _, SqL.of ht5⟩, ?_⟩
          walk_at "ss"
          refine ⟨t, _, _, rfl, rfl, ht5, szl (by rw [boolL_len]; omega), ?_⟩
          refine .mk ⟨same_mut s5 ht, ?_, ?_, _, _, _, _, _, rfl⟩
          · rw [upd_same, nx, ev]
            exact congrArg (fun l => some (HO.lst l)) (boolL_snoc _ _).symm
          · rw [upd_ne tf.symm, nx, ev2]
            show _ = some (HO.lst (natL (fr.set i (cn.getD i 0))))
            rw [keep]
            exact hf5
    · rintro σ H3 hP
      obtain ⟨s3, ht3, hf3, y6, y7, y8, y9, y10, rfl⟩ := hP.of
      rw [hl] at ht3 hf3
      walk_at "ss"
      intro u hu
      exact q u t f _ upd_same (same_upd hu _ _ ht3) (same_upd hu _ _ hf3) ht (s3.trans (same_upd hu))
end

/-- the truths and counts behind a word -/
def runL (fls : List FL) (w : List Nat) : List Bool × List Nat := w.foldl (fun s c => stepL fls c s.1 s.2 fls.length) (List.replicate fls.length false, List.replicate fls.length 0)
theorem runL_snoc (fls : List FL) (w : List Nat) (c : Nat) : runL fls (w ++ [c]) = stepL fls c (runL fls w).1 (runL fls w).2 fls.length := by
  unfold runL
  rw [List.foldl_append]
  rfl
theorem runL_len (fls : List FL) (w : List Nat) : (runL fls w).1.length = fls.length ∧ (runL fls w).2.length = fls.length := by
  have h : ∀ (w : List Nat) (s : List Bool × List Nat), s.1.length = fls.length ∧ s.2.length = fls.length → (w.foldl (fun s c => stepL fls c s.1 s.2 fls.length) s).1.length = fls.length ∧ (w.foldl (fun s c => stepL fls c s.1 s.2 fls.length) s).2.length = fls.length := by
    intro w
    induction w with
    | nil => exact fun s h => h
    | cons c w ih =>
      intro s h
      obtain ⟨a, b⟩ := stepL_len (fls := fls) (c := c) (past := s.1) (cn := s.2) (k := fls.length) (Nat.le_refl _)
      exact ih _ ⟨a, by rw [b]; exact h.2⟩
  exact h w _ ⟨by simp, by simp⟩
def spLast : Sp := fun vs H Q _ => ∃ (r : Addr) (z : Str) (al : List Nat) (fls : List FL), vs = [.ref r, .str z] ∧ FLs H r fls ∧ FOk al fls ∧ al.length ≤ 4 ∧ fls.length ≤ 1000 ∧ z.length ≤ 100000 ∧
  ∀ (t : Addr) (H' : Hp), H' t = some (.lst (boolL (runL fls z.cps.toList).1)) → H t = none → Same H H' → Q (.ref t) H'
section
variable {P : Program} {w : World} {K : PySem.W.Frag} {mg : Str → Option Value} {base : Heap}
theorem ok_last_truths (T : Env K mg) : FnOk P w K mg base CX0 2 T.f_last_truths T.fd_last_truths ["lines", "word"] spLast := by
  refine T.F_last_truths.ok sc_last_truths (fun vs H Q E h => ?_) (fun cdv A outer s H vs Q E hr h => ⟨_, ((pss_cons (ps_setLc (i := 2) (own := [("_", 5)]) (g := (gName 5)) (tt := tYes) rfl sc_last_truths.nd rfl rfl (sw_true rfl rfl rfl (by decide +kernel)) (pi_list (pv 0)) (blkOk_by (own := [("_", 5)]) (N := N_last_truths) (sc := defScope s_last_truths) (by decide +kernel)) (fun _ _ _ _ _ => (pg_name (i := 5) sc_last_truths.nd rfl (.inl rfl))) (fun _ _ _ _ _ => pts_nil) (fun _ _ _ _ _ => pe_bl))
      (pss_cons (ps_setLc (i := 3) (own := [("_", 5)]) (g := (gName 5)) (tt := tYes) rfl sc_last_truths.nd rfl rfl (sw_true rfl rfl rfl (by decide +kernel)) (pi_list (pv 0)) (blkOk_by (own := [("_", 5)]) (N := N_last_truths) (sc := defScope s_last_truths) (by decide +kernel)) (fun _ _ _ _ _ => (pg_name (i := 5) sc_last_truths.nd rfl (.inl rfl))) (fun _ _ _ _ _ => pts_nil) (fun _ _ _ _ _ => pe_int))
      (pss_cons (ps_for PassesOwn.never rfl (pi_str (pv 1)) (pg_name (i := 4) sc_last_truths.nd rfl (.inl rfl))
      (pss_one (ps_asg (pe_call (ok_next_truths T) (hr.mono (by decide)) (by rfl) T.g_next_truths T.F_next_truths.kp T.b_next_truths .nil pass0 (pa_cons (pv 0) (pa_cons (pv 4) (pa_cons (pv 2) (pa_cons (pv 3) pa_nil))))) (pg_tup (by rfl) (pgs_cons (pg_name (i := 2) sc_last_truths.nd rfl (.inl rfl)) (pgs_cons (pg_name (i := 3) sc_last_truths.nd rfl (.inl rfl)) pgs_nil))))))
      (pss_one (ps_ret (pv 2))))))), ?_⟩)
  · obtain ⟨r, z, al, fls, rfl, _⟩ := h
    rfl
  · obtain ⟨r, z, al, fls, rfl, hf, ok, hal, hn, hz, q⟩ := h
    obtain ⟨xs, hx, hl⟩ := hf.len
    walk_at "ss"
    refine ⟨⟨_, SqL.of hx⟩, fun D hD => ?_⟩
    refine lc_gen walk_list (fun H' => Same H H') (fun i y => y = V.bl false) (by rw [hl]; omega) (same_upd hD) (fun _ h => SqL.of (h _ _ hx)) (fun _ _ h => same_mut h hD) ?_ ?_
    · rintro i x H1 H2 Q1 hlt2 hI ⟨rfl, hxx⟩ - hQ
      walk_at "ss"
      exact hQ _ _ rfl hI fun _ h => h
    · intro H1 ys hI hy hl1 hr1
      have e1 : ys = boolL (List.replicate fls.length false) := by
        refine List.ext_getElem (by simp [boolL, hl1, hl]) fun i a b => ?_
        rw [hr1 i _ (List.getElem?_eq_getElem a)]
        simp [boolL]
      subst e1
      walk_at "ss"
      refine ⟨⟨_, SqL.of (hI _ _ hx)⟩, fun D2 hD2 => ?_⟩
      refine lc_gen walk_list (fun H' => Same H1 H') (fun i y => y = V.int 0) (by rw [hl]; omega) (same_upd hD2) (fun _ h => SqL.of (h _ _ (hI _ _ hx))) (fun _ _ h => same_mut h hD2) ?_ ?_
      · rintro i x H2 H3 Q1 hlt2 hI2 ⟨rfl, hxx⟩ - hQ
        walk_at "ss"
        exact hQ _ _ rfl hI2 fun _ h => h
      · intro H2 ys hI2 hy2 hl2 hr2
        have e2 : ys = natL (List.replicate fls.length 0) := by
          refine List.ext_getElem (by simp [natL, hl2, hl]) fun i a b => ?_
          rw [hr2 i _ (List.getElem?_eq_getElem a)]
          simp [natL]
        subst e2
        have s2 := hI.trans hI2
        have hy' := hI2 _ _ hy
        clear hr1 hr2 hl1 hl2 hy hI hI2
        walk_at "ss"
        refine for_it walk_str (fun i σ H' => Stp (∃ (t k : Addr) (y4 y5 : Option V), σ = [some (.ref r), some (.str z), some (.ref t), some (.ref k), y4, y5] ∧ Same H H' ∧ H' t = some (.lst (boolL (runL fls (z.cps.toList.take i)).1)) ∧ H' k = some (.lst (natL (runL fls (z.cps.toList.take i)).2)) ∧ H t = none))
          (.mk ⟨D, D2, _, _, rfl, s2, hy', hy2, hD⟩) (fun _ _ _ _ _ => trivial) ?_ ?_
        · rintro i x σ H3 H4 hi hP ⟨rfl, c, hc, rfl⟩
          obtain ⟨t, k, y4, y5, rfl, s3, ht, hk, t0⟩ := hP.of
          clear hP
          rw [get_tl] at hc
          have tk : z.cps.toList.take (i + 1) = z.cps.toList.take i ++ [c] := by
            rw [List.take_add_one, hc]
            rfl
          obtain ⟨n1, n2⟩ := runL_len fls (z.cps.toList.take i)
          walk_at "ss"
          refine ⟨r, t, k, c, al, fls, _, _, rfl, hf.same s3, ok, hal, hn, ht, hk, n1, n2, fun u t2 k2 H5 hu ht2 hk2 n2 s5 => ?_⟩
          walk_at "ss"
          refine ⟨u, _, rfl, .inl (.inl hu), rfl, _, _, rfl, _, _, rfl, rfl, ?_⟩
          exact .mk ⟨t2, k2, _, _, rfl, s3.trans s5, by rw [tk, runL_snoc]; exact ht2, by rw [tk, runL_snoc]; exact hk2, s3.free n2⟩
        · rintro σ H3 hP
          obtain ⟨t, k, y4, y5, rfl, s3, ht, hk, t0⟩ := hP.of
          rw [size_tl, List.take_length] at ht
          walk_at "ss"
          exact q t H3 ht t0 s3
end

structure FormAt (K : PySem.W.Frag) (C : Addr) (H : Hp) (m : Addr) (al : Str) (fls : List FL) (b : Bool) : Prop where
  at_ : ∃ dx l, H m = some (.ins C dx [("_alphabet", .str al), ("_lines", .ref l), ("_first", .bl b)]) ∧ FLs H l fls
  alpha : Alpha al.cps.toList
  ok : FOk al.cps.toList fls
  many : 1 ≤ fls.length ∧ fls.length ≤ 1000
theorem FormAt.same {K : PySem.W.Frag} {C : Addr} {H H' : Hp} {m : Addr} {al : Str} {fls : List FL} {b : Bool} (M : FormAt K C H m al fls b) (e : Same H H') : FormAt K C H' m al fls b := by
  obtain ⟨dx, l, h1, h2⟩ := M.at_
  exact ⟨⟨dx, l, e _ _ h1, h2.same e⟩, M.alpha, M.ok, M.many⟩

/-! ### truths and in, of anything -/
theorem at_m1 {α : Type} {xs : List α} {v : α} (h : xs.getLast? = some v) : atI xs (-1) = some v := by
  obtain ⟨ys, rfl⟩ := List.getLast?_eq_some_iff.mp h
  exact atI_last ys v
theorem NoStr.kp0 {K : PySem.W.Frag} {H H' : Hp} {v : V} (h : NoStr K H v) (s : Same H H') : NoStr K H' v := h.same s
def BadW (K : PySem.W.Frag) (H : Hp) (al : List Nat) (v : V) : Prop := (∃ z : Str, v = .str z ∧ z.length ≤ 100000 ∧ ((¬ ∀ c ∈ z.cps.toList, c ∈ al) ∨ z.length = 0)) ∨ NoStr K H v
theorem BadW.same {K : PySem.W.Frag} {H H' : Hp} {al : List Nat} {v : V} (h : BadW K H al v) (s : Same H H') : BadW K H' al v := h.elim .inl fun h => .inr (h.same s)
def spTruX (K : PySem.W.Frag) (T : Env K mg) : Sp := fun vs H Q E => ∃ (m : Addr) (v : V) (al : Str) (fls : List FL) (b : Bool), vs = [.ref m, v] ∧ FormAt K T.C_Formula H m al fls b ∧
  ((∃ z : Str, v = .str z ∧ z.length ≤ 100000 ∧ 1 ≤ z.length ∧ (∀ c ∈ z.cps.toList, c ∈ al.cps.toList) ∧ ∀ (t : Addr) (H' : Hp), H' t = some (.lst (boolL (runL fls z.cps.toList).1)) → H t = none → Same H H' → Q (.ref t) H') ∨
   (BadW K H al.cps.toList v ∧ ∀ d H', Same H H' → H' d = some (.xd [("code", .str "InvalidWord"), ("given", v)]) → E (.ref T.C_InvalidWord) (some d) H'))
def accF (fls : List FL) (b : Bool) (al w : List Nat) : Bool := if ∀ c ∈ w, c ∈ al then (if w = [] then b else (runL fls w).1.getD (fls.length - 1) false) else false
def spFIn (K : PySem.W.Frag) (C : Addr) : Sp := fun vs H Q _ => ∃ (m : Addr) (v : V) (al : Str) (fls : List FL) (b : Bool), vs = [.ref m, v] ∧ FormAt K C H m al fls b ∧
  ((∃ z : Str, v = .str z ∧ z.length ≤ 100000 ∧ ∀ H', Same H H' → Q (.bl (accF fls b al.cps.toList z.cps.toList)) H') ∨ (NoStr K H v ∧ ∀ H', Same H H' → Q (.bl false) H'))
section
variable {P : Program} {w : World} {K : PySem.W.Frag} {mg : Str → Option Value} {base : Heap}
theorem ok_Formula_truths (T : Env K mg) : FnOk P w K mg base (L2.CX P w) 3 T.f_Formula_truths T.fd_Formula_truths ["self", "word"] (spTruX K T) := by
  refine T.F_Formula_truths.okX sc_Formula_truths (fun vs H Q E h => ?_) (fun cdv A outer s H vs Q E hr h => ⟨_, ((pss_cons (ps_if (PW.pt (pw_or (pt_not (pt_val (pe_call (ok_is_word T) (hr.mono (by decide)) (by rfl) T.g_is_word T.F_is_word.kp T.b_is_word .nil pass0 (pa_cons (pe_fld (pv 0) rfl) (pa_cons (pv 1) pa_nil))))) (pw_or1 (pt_not (pt_truth (pv 1) (by intro _; rfl))))))
      (pss_one (ps_raise rfl (takes_of rfl rfl rfl rfl) (pmk_oex T.x_InvalidWord T.i_InvalidWord___init T.t_InvalidWord___init (ok_InvalidWord___init T) (hr.mono (by decide)) T.b_InvalidWord___init .nil pass0 (by rfl) T.gC_InvalidWord (pa_cons (pv 1) pa_nil))))
      pss_nil)
      (pss_one (ps_ret (pe_call (ok_last_truths T) (hr.mono (by decide)) (by rfl) T.g_last_truths T.F_last_truths.kp T.b_last_truths .nil pass0 (pa_cons (pe_fld (pv 0) rfl) (pa_cons (pv 1) pa_nil))))))), ?_⟩)
  · obtain ⟨m, v, al, fls, b, rfl, _⟩ := h
    rfl
  · obtain ⟨m, v, al, fls, b, rfl, M, h⟩ := h
    obtain ⟨dx, l, hm, hf⟩ := M.at_
    walk_at "ss"
    first | refine ⟨m, T.C_Formula, dx, _, _, rfl, hm, T.cl_Formula, T.n_Formula__alphabet, rfl, ?_⟩ | refine ⟨_, rfl, m, T.C_Formula, dx, _, _, rfl, hm, T.cl_Formula, T.n_Formula__alphabet, rfl, ?_⟩
    walk_at "ss"
    refine ⟨al, v, rfl, ?_⟩
    rcases h with ⟨z, rfl, hz, h1, hw, q⟩ | ⟨⟨z, rfl, hz, hb⟩ | hn, q⟩
    · refine .inl ⟨z, rfl, hz, fun H1 s1 => ?_⟩
      rw [decide_eq_true hw]
      walk_at "ss"
      refine ⟨true, ?_, ?_⟩
      · show z.length ≤ sizeLine ∧ true = ((z.length : Int) != 0)
        refine ⟨sz hz, ?_⟩
        symm
        rw [bne_iff_ne]
        omega
      walk_at "ss"
      first | refine ⟨m, T.C_Formula, dx, _, _, rfl, s1 _ _ hm, T.cl_Formula, T.n_Formula__lines, rfl, ?_⟩ | refine ⟨_, rfl, m, T.C_Formula, dx, _, _, rfl, s1 _ _ hm, T.cl_Formula, T.n_Formula__lines, rfl, ?_⟩
      walk_at "ss"
      exact ⟨l, z, _, fls, rfl, hf.same s1, M.ok, M.alpha.2.1, M.many.2, hz, fun t H' e n s' => q t H' e (s1.free n) (s1.trans s')⟩
    · refine .inl ⟨z, rfl, hz, fun H1 s1 => ?_⟩
      by_cases hw : ∀ c ∈ z.cps.toList, c ∈ al.cps.toList
      · rw [decide_eq_true hw]
        have z0 : z.length = 0 := hb.elim (fun h => absurd hw h) id
        walk_at "ss"
        refine ⟨false, ?_, ?_⟩
        · show z.length ≤ sizeLine ∧ false = ((z.length : Int) != 0)
          refine ⟨sz hz, ?_⟩
          rw [z0]
          rfl
        walk_at "ss"
        exact err_out fun d G _ s2 e => q d G (s1.trans s2) e
      · rw [decide_eq_false hw]
        walk_at "ss"
        exact err_out fun d G _ s2 e => q d G (s1.trans s2) e
    · refine .inr ⟨hn, fun H1 s1 => ?_⟩
      walk_at "ss"
      exact err_out fun d G _ s2 e => q d G (s1.trans s2) e
theorem ok_Formula___contains (T : Env K mg) : FnOk P w K mg base CX0 3 T.f_Formula___contains T.fd_Formula___contains ["self", "word"] (spFIn K T.C_Formula) := by
  refine T.F_Formula___contains.ok sc_Formula___contains (fun vs H Q E h => ?_) (fun cdv A outer s H vs Q E hr h => ⟨_, ((pss_cons (ps_if (pt_not (pt_val (pe_call (ok_is_word T) (hr.mono (by decide)) (by rfl) T.g_is_word T.F_is_word.kp T.b_is_word .nil pass0 (pa_cons (pe_fld (pv 0) rfl) (pa_cons (pv 1) pa_nil)))))
      (pss_one (ps_ret pe_bl))
      pss_nil)
      (pss_one (ps_ret (pe_ifExp (pt_truth (pv 1) (by intro _; rfl)) (pe_ix ix_list (pe_call (ok_last_truths T) (hr.mono (by decide)) (by rfl) T.g_last_truths T.F_last_truths.kp T.b_last_truths .nil pass0 (pa_cons (pe_fld (pv 0) rfl) (pa_cons (pv 1) pa_nil))) (pe_un un_neg pe_int) (fun _ _ => rfl)) (pe_fld (pv 0) rfl)))))), ?_⟩)
  · obtain ⟨m, v, al, fls, b, rfl, _⟩ := h
    rfl
  · obtain ⟨m, v, al, fls, b, rfl, M, h⟩ := h
    obtain ⟨dx, l, hm, hf⟩ := M.at_
    walk_at "ss"
    first | refine ⟨m, T.C_Formula, dx, _, _, rfl, hm, T.cl_Formula, T.n_Formula__alphabet, rfl, ?_⟩ | refine ⟨_, rfl, m, T.C_Formula, dx, _, _, rfl, hm, T.cl_Formula, T.n_Formula__alphabet, rfl, ?_⟩
    walk_at "ss"
    refine ⟨al, v, rfl, ?_⟩
    rcases h with ⟨z, rfl, hz, q⟩ | ⟨hn, q⟩
    · refine .inl ⟨z, rfl, hz, fun H1 s1 => ?_⟩
      by_cases hw : ∀ c ∈ z.cps.toList, c ∈ al.cps.toList
      · rw [decide_eq_true hw]
        walk_at "ss"
        by_cases z0 : z.length = 0
        · refine ⟨false, ?_, ?_⟩
          · show z.length ≤ sizeLine ∧ false = ((z.length : Int) != 0)
            refine ⟨sz hz, ?_⟩
            rw [z0]
            rfl
          walk_at "ss"
          first | refine ⟨m, T.C_Formula, dx, _, _, rfl, s1 _ _ hm, T.cl_Formula, T.n_Formula__first, rfl, ?_⟩ | refine ⟨_, rfl, m, T.C_Formula, dx, _, _, rfl, s1 _ _ hm, T.cl_Formula, T.n_Formula__first, rfl, ?_⟩
          have := q H1 s1
          unfold accF at this
          rw [if_pos hw, if_pos (List.eq_nil_of_length_eq_zero (by rw [← len_tl]; exact z0))] at this
          exact this
        · refine ⟨true, ?_, ?_⟩
          · show z.length ≤ sizeLine ∧ true = ((z.length : Int) != 0)
            refine ⟨sz hz, ?_⟩
            symm
            rw [bne_iff_ne]
            omega
          walk_at "ss"
          first | refine ⟨m, T.C_Formula, dx, _, _, rfl, s1 _ _ hm, T.cl_Formula, T.n_Formula__lines, rfl, ?_⟩ | refine ⟨_, rfl, m, T.C_Formula, dx, _, _, rfl, s1 _ _ hm, T.cl_Formula, T.n_Formula__lines, rfl, ?_⟩
          walk_at "ss"
          refine ⟨l, z, _, fls, rfl, hf.same s1, M.ok, M.alpha.2.1, M.many.2, hz, fun t H' e n s' => ?_⟩
          walk_at "ss"
          have rl := (runL_len fls z.cps.toList).1
          have nz : z.cps.toList ≠ [] := fun e => by rw [len_tl, e] at z0; exact z0 rfl
          have := q H' (s1.trans s')
          unfold accF at this
          rw [if_pos hw, if_neg nz] at this
          have m1 := M.many.1
          refine ⟨t, _, _, _, rfl, rfl, SqL.of e, (show atI (boolL (runL fls z.cps.toList).1) (-1) = some (.bl ((runL fls z.cps.toList).1.getD (fls.length - 1) false)) from ?_), this⟩
          refine at_m1 ?_
          rw [List.getLast?_eq_getElem?, boolL_len, rl]
          exact boolL_at (by omega)
      · rw [decide_eq_false hw]
        walk_at "ss"
        have := q H1 s1
        unfold accF at this
        rw [if_neg hw] at this
        exact this
    · refine .inr ⟨hn, fun H1 s1 => ?_⟩
      walk_at "ss"
      exact q H1 s1
end

/-! ### what the lines say, by the moment ahead -/
def tv (F : List FL) (w : List Nat) (k : Nat) : Bool := (runL F w).1.getD k false
def cv (F : List FL) (w : List Nat) (k : Nat) : Nat := (runL F w).2.getD k 0
theorem tv_nil (F : List FL) (k : Nat) : tv F [] k = false := by
  unfold tv runL
  show (List.replicate F.length false).getD k false = false
  rw [List.getD_eq_getElem?_getD, List.getElem?_replicate]
  split <;> rfl
theorem cv_nil (F : List FL) (k : Nat) : cv F [] k = 0 := by
  unfold cv runL
  show (List.replicate F.length 0).getD k 0 = 0
  rw [List.getD_eq_getElem?_getD, List.getElem?_replicate]
  split <;> rfl
theorem stepL_pre {F : List FL} {c : Nat} {past : List Bool} {cn : List Nat} {k : Nat} : ∀ (j : Nat), k + j ≤ F.length → (∀ r, r < k → (stepL F c past cn (k + j)).1.getD r false = (stepL F c past cn k).1.getD r false)
  | 0, _, _, _ => rfl
  | j + 1, h, r, hr => by
    have ih := stepL_pre (F := F) (c := c) (past := past) (cn := cn) (k := k) j (by omega) r hr
    have e : F[k + j]? = some F[k + j] := List.getElem?_eq_getElem (by omega)
    have ln := (stepL_len (fls := F) (c := c) (past := past) (cn := cn) (k := k + j) (by omega)).1
    show (stepL F c past cn (k + j + 1)).1.getD r false = _
    rw [stepL, e]
    show (_ ++ [_] : List Bool).getD r false = _
    rw [List.getD_eq_getElem?_getD, List.getElem?_append_left (by omega), ← List.getD_eq_getElem?_getD]
    exact ih
theorem stepL_cnt {F : List FL} {c : Nat} {past : List Bool} {cn : List Nat} {k : Nat} : ∀ (j : Nat), k + 1 + j ≤ F.length → (stepL F c past cn (k + 1 + j)).2.getD k 0 = (stepL F c past cn (k + 1)).2.getD k 0
  | 0, _ => rfl
  | j + 1, h => by
    have ih := stepL_cnt (F := F) (c := c) (past := past) (cn := cn) (k := k) j (by omega)
    have e : F[k + 1 + j]? = some F[k + 1 + j] := List.getElem?_eq_getElem (by omega)
    show (stepL F c past cn (k + 1 + j + 1)).2.getD k 0 = _
    rw [stepL, e]
    show (List.set _ (k + 1 + j) _).getD k 0 = _
    rw [List.getD_eq_getElem?_getD, List.getElem?_set_ne (by omega), ← List.getD_eq_getElem?_getD]
    exact ih
/-- a line's truth at a moment: by the truths of the lines ahead of it at this moment, and of the moment ahead -/
theorem tv_step {F : List FL} {k : Nat} {f : FL} (hk : F[k]? = some f) (w : List Nat) (c : Nat) : ∃ tr : List Bool, (∀ r, r < k → tr.getD r false = tv F (w ++ [c]) r) ∧ tv F (w ++ [c]) k = (evL f tr (runL F w).1 k (cv F w k) c).1 ∧ cv F (w ++ [c]) k = (evL f tr (runL F w).1 k (cv F w k) c).2 := by
  have kl := (List.getElem?_eq_some_iff.mp hk).1
  obtain ⟨j, hj⟩ := Nat.exists_eq_add_of_le (Nat.succ_le_of_lt kl)
  have hj : F.length = k + 1 + j := hj
  obtain ⟨l1, l2⟩ := stepL_len (fls := F) (c := c) (past := (runL F w).1) (cn := (runL F w).2) (k := k) (by omega)
  have nx : stepL F c (runL F w).1 (runL F w).2 (k + 1) = ((stepL F c (runL F w).1 (runL F w).2 k).1 ++ [(evL f (stepL F c (runL F w).1 (runL F w).2 k).1 (runL F w).1 k ((runL F w).2.getD k 0) c).1], (stepL F c (runL F w).1 (runL F w).2 k).2.set k (evL f (stepL F c (runL F w).1 (runL F w).2 k).1 (runL F w).1 k ((runL F w).2.getD k 0) c).2) := by
    rw [stepL, hk]
  refine ⟨(stepL F c (runL F w).1 (runL F w).2 k).1, fun r hr => ?_, ?_, ?_⟩
  · have := stepL_pre (F := F) (c := c) (past := (runL F w).1) (cn := (runL F w).2) (k := k) (j + 1) (by omega) r hr
    unfold tv
    rw [runL_snoc, hj, ← this, Nat.add_assoc, Nat.add_comm 1 j]
  · have := stepL_pre (F := F) (c := c) (past := (runL F w).1) (cn := (runL F w).2) (k := k + 1) j (by omega) k (by omega)
    unfold tv cv
    rw [runL_snoc, hj, this, nx]
    show (_ ++ [_] : List Bool).getD k false = _
    rw [List.getD_eq_getElem?_getD, List.getElem?_append_right (by omega), l1, Nat.sub_self]
    rfl
  · have := stepL_cnt (F := F) (c := c) (past := (runL F w).1) (cn := (runL F w).2) (k := k) j (by omega)
    unfold cv
    rw [runL_snoc, hj, this, nx]
    show (List.set _ k _).getD k 0 = _
    have := (runL_len F w).2
    rw [List.getD_eq_getElem?_getD, List.getElem?_set_self (by omega)]
    rfl
theorem tv_not {F : List FL} {k i : Nat} (hk : F[k]? = some (.not i)) (hi : i < k) (w : List Nat) (c : Nat) : tv F (w ++ [c]) k = !tv F (w ++ [c]) i := by
  obtain ⟨tr, h1, h2, _⟩ := tv_step hk w c
  rw [h2, ← h1 i hi]
  rfl
theorem tv_before {F : List FL} {k i : Nat} (hk : F[k]? = some (.before i)) (w : List Nat) (c : Nat) : tv F (w ++ [c]) k = tv F w i := by
  obtain ⟨tr, h1, h2, _⟩ := tv_step hk w c
  rw [h2]
  rfl
theorem tv_since {F : List FL} {k i j : Nat} (hk : F[k]? = some (.since i j)) (hi : i < k) (hj : j < k) (w : List Nat) (c : Nat) : tv F (w ++ [c]) k = (tv F (w ++ [c]) j || (tv F (w ++ [c]) i && tv F w k)) := by
  obtain ⟨tr, h1, h2, _⟩ := tv_step hk w c
  rw [h2, ← h1 i hi, ← h1 j hj]
  rfl
theorem tv_and2 {F : List FL} {k i j : Nat} (hk : F[k]? = some (.and [i, j])) (hi : i < k) (hj : j < k) (w : List Nat) (c : Nat) : tv F (w ++ [c]) k = (tv F (w ++ [c]) i && tv F (w ++ [c]) j) := by
  obtain ⟨tr, h1, h2, _⟩ := tv_step hk w c
  rw [h2, ← h1 i hi, ← h1 j hj]
  show ([i, j].all fun r => tr.getD r false) = _
  simp
theorem tv_or2 {F : List FL} {k i j : Nat} (hk : F[k]? = some (.or [i, j])) (hi : i < k) (hj : j < k) (w : List Nat) (c : Nat) : tv F (w ++ [c]) k = (tv F (w ++ [c]) i || tv F (w ++ [c]) j) := by
  obtain ⟨tr, h1, h2, _⟩ := tv_step hk w c
  rw [h2, ← h1 i hi, ← h1 j hj]
  show ([i, j].any fun r => tr.getD r false) = _
  simp
theorem tv_true {F : List FL} {k : Nat} (hk : F[k]? = some (.and [])) (w : List Nat) (c : Nat) : tv F (w ++ [c]) k = true := by
  obtain ⟨tr, h1, h2, _⟩ := tv_step hk w c
  rw [h2]
  rfl
theorem tv_count {F : List FL} {k i p r : Nat} (hk : F[k]? = some (.count i p r)) (hi : i < k) (w : List Nat) (c : Nat) : cv F (w ++ [c]) k = (if tv F (w ++ [c]) i then (cv F w k + 1) % p else cv F w k) ∧ tv F (w ++ [c]) k = decide (cv F (w ++ [c]) k = r) := by
  obtain ⟨tr, h1, h2, h3⟩ := tv_step hk w c
  refine ⟨?_, ?_⟩
  · rw [h3, ← h1 i hi]
    rfl
  · rw [h2, h3]
    rfl
theorem snoc_ind {P : List Nat → Prop} (h0 : P []) (h1 : ∀ u c, P u → P (u ++ [c])) (w : List Nat) : P w := by
  have h : ∀ v : List Nat, P v.reverse := by
    intro v
    induction v with
    | nil => exact h0
    | cons c v ih =>
      rw [List.reverse_cons]
      exact h1 _ _ ih
  have := h w.reverse
  rw [List.reverse_reverse] at this
  exact this
def seenB (F : List FL) (i : Nat) (w : List Nat) : List Bool := (List.range w.length).map fun s => tv F (w.take (s + 1)) i
theorem seenB_snoc (F : List FL) (i : Nat) (u : List Nat) (c : Nat) : seenB F i (u ++ [c]) = seenB F i u ++ [tv F (u ++ [c]) i] := by
  unfold seenB
  rw [List.length_append, List.length_singleton, List.range_succ, List.map_append]
  congr 1
  · refine List.map_congr_left fun s hs => ?_
    have := List.mem_range.mp hs
    rw [List.take_append_of_le_length (by omega)]
  · show [tv F ((u ++ [c]).take (u.length + 1)) i] = _
    rw [List.take_of_length_le (by simp)]
def cntB (bs : List Bool) : Nat := (bs.filter id).length
theorem cntB_snoc (bs : List Bool) (b : Bool) : cntB (bs ++ [b]) = if b then cntB bs + 1 else cntB bs := by
  unfold cntB
  rw [List.filter_append]
  cases b <;> simp
theorem cv_seen {F : List FL} {k i p r : Nat} (hk : F[k]? = some (.count i p r)) (hi : i < k) (hp : 0 < p) (w : List Nat) : cv F w k = cntB (seenB F i w) % p := by
  refine snoc_ind (P := fun w => cv F w k = cntB (seenB F i w) % p) ?_ ?_ w
  · rw [cv_nil]
    exact (Nat.zero_mod p).symm
  · intro u c ih
    rw [(tv_count hk hi u c).1, seenB_snoc, cntB_snoc]
    cases tv F (u ++ [c]) i with
    | true =>
      show (cv F u k + 1) % p = (cntB (seenB F i u) + 1) % p
      rw [ih, Nat.mod_add_mod]
    | false => exact ih
theorem since_seen {F : List FL} {k i t : Nat} (hk : F[k]? = some (.since t i)) (hi : i < k) (ht : t < k) (tt : F[t]? = some (.and [])) (w : List Nat) : tv F w k = (seenB F i w).any id := by
  refine snoc_ind (P := fun w => tv F w k = (seenB F i w).any id) ?_ ?_ w
  · rw [tv_nil]
    rfl
  · intro u c ih
    rw [tv_since hk ht hi u c, tv_true tt u c, ih, seenB_snoc, List.any_append]
    simp [Bool.or_comm]
theorem tv_some {F : List FL} {t : Nat} (tt : F[t]? = some (.and [])) (w : List Nat) : tv F w t = decide (1 ≤ w.length) := by
  refine snoc_ind (P := fun w => tv F w t = decide (1 ≤ w.length)) ?_ ?_ w
  · rw [tv_nil]
    rfl
  · intro u c _
    rw [tv_true tt u c]
    simp
/-- the rows that the law adds -/
def lawF (fls : List FL) (n i j p : Nat) : List FL := fls ++ [.since i j, .before n, .and [i, n + 1], .or [j, n + 2]] ++ [.and [], .before (n + 4), .not i, .before (n + 6), .before i, .not (n + 8)] ++ ((List.range p).map fun r => .count i p r) ++ [.since (n + 4) i, .since i (n + 4)]
theorem lawF_len (fls : List FL) {n i j p : Nat} (hn : fls.length = n) : (lawF fls n i j p).length = n + 12 + p := by
  unfold lawF
  simp [hn]
  omega
theorem lawF_at {fls : List FL} {n i j p : Nat} (hn : fls.length = n) : ∀ m, m < 10 → (lawF fls n i j p)[n + m]? = ([.since i j, .before n, .and [i, n + 1], .or [j, n + 2], .and [], .before (n + 4), .not i, .before (n + 6), .before i, .not (n + 8)] : List FL)[m]? := by
  intro m hm
  unfold lawF
  rw [List.append_assoc, List.append_assoc, List.append_assoc, List.getElem?_append_right (by omega)]
  rw [show n + m - fls.length = m by omega, ← List.append_assoc, List.getElem?_append_left (by simp; omega)]
  rfl
theorem lawF_cnt {fls : List FL} {n i j p : Nat} (hn : fls.length = n) {r : Nat} (hr : r < p) : (lawF fls n i j p)[n + 10 + r]? = some (.count i p r) := by
  unfold lawF
  rw [List.append_assoc, List.getElem?_append_right (by simp [hn]; try omega)]
  rw [List.getElem?_append_left (by simp [hn]; try omega), List.getElem?_map, List.getElem?_range (by simp [hn]; try omega)]
  simp [hn]
  try omega
theorem lawF_end {fls : List FL} {n i j p : Nat} (hn : fls.length = n) : (lawF fls n i j p)[n + 10 + p]? = some (.since (n + 4) i) ∧ (lawF fls n i j p)[n + 11 + p]? = some (.since i (n + 4)) := by
  unfold lawF
  refine ⟨?_, ?_⟩
  · rw [List.getElem?_append_right (by simp [hn]; try omega)]
    simp [hn]
    rw [show n + 10 + p - (n + (p + 10)) = 0 by omega]
    rfl
  · rw [List.getElem?_append_right (by simp [hn]; try omega)]
    simp [hn]
    rw [show n + 11 + p - (n + (p + 10)) = 1 by omega]
    rfl
theorem lawF_ok {al : List Nat} {fls : List FL} {n i j p : Nat} (ok : FOk al fls) (hn : fls.length = n) (hi : i < n) (hj : j < n) (hp : p ∈ [2, 3, 5]) : FOk al (lawF fls n i j p) := by
  intro k f hk
  by_cases h1 : k < n
  · refine ok k f ?_
    unfold lawF at hk
    rw [List.append_assoc, List.append_assoc, List.append_assoc, List.getElem?_append_left (by omega)] at hk
    exact hk
  obtain ⟨m, rfl⟩ := Nat.exists_eq_add_of_le (Nat.le_of_not_lt h1)
  by_cases h2 : m < 10
  · rw [lawF_at hn m h2] at hk
    have hm : m = 0 ∨ m = 1 ∨ m = 2 ∨ m = 3 ∨ m = 4 ∨ m = 5 ∨ m = 6 ∨ m = 7 ∨ m = 8 ∨ m = 9 := by omega
    rcases hm with rfl | rfl | rfl | rfl | rfl | rfl | rfl | rfl | rfl | rfl <;> (cases hk)
    · exact ⟨hi, hj⟩
    · show n < n + 1
      omega
    · refine ⟨fun r hr => ?_, ?_, by show 2 ≤ 100; decide⟩
      · simp at hr
        omega
      · simp
        omega
    · refine ⟨fun r hr => ?_, ?_, by show 2 ≤ 100; decide⟩
      · simp at hr
        omega
      · simp
        omega
    · exact ⟨(fun r hr => by cases hr), List.Pairwise.nil, (by decide)⟩
    · show n + 4 < n + 5
      omega
    · show i < n + 6
      omega
    · show n + 6 < n + 7
      omega
    · show i < n + 8
      omega
    · show n + 8 < n + 9
      omega
  · have len := lawF_len fls (i := i) (j := j) (p := p) hn
    have kl := (List.getElem?_eq_some_iff.mp hk).1
    by_cases h3 : m < 10 + p
    · obtain ⟨r, rfl⟩ := Nat.exists_eq_add_of_le (Nat.le_of_not_lt h2)
      rw [← Nat.add_assoc, lawF_cnt hn (by omega)] at hk
      cases hk
      exact ⟨by omega, pr_of hp, by omega⟩
    · have hm : n + m = n + 10 + p ∨ n + m = n + 11 + p := by omega
      rcases hm with e | e
      · rw [e, (lawF_end hn).1] at hk
        cases hk
        exact ⟨by omega, by omega⟩
      · rw [e, (lawF_end hn).2] at hk
        cases hk
        exact ⟨by omega, by omega⟩
/-- what the law asks of the truths behind a word that is not empty -/
theorem law_says {fls : List FL} {n i j p : Nat} (hn : fls.length = n) (hi : i < n) (hj : j < n) (hp : 0 < p) {w : List Nat} (hw : 1 ≤ w.length) :
    let F := lawF fls n i j p
    tv F w n = tv F w (n + 3) ∧ tv F w (n + 5) = decide (1 < w.length) ∧ tv F w (n + 7) = (tv F w (n + 9) && decide (1 < w.length)) ∧ (∀ r, r < p → tv F w (n + 10 + r) = decide (cntB (seenB F i w) % p = r)) ∧ tv F w (n + 11 + p) = true ∧ tv F w (n + 10 + p) = (seenB F i w).any id := by
  intro F
  obtain ⟨u, c, rfl⟩ : ∃ u c, w = u ++ [c] := by
    have := List.dropLast_concat_getLast (l := w) (by intro z; rw [z] at hw; simp at hw)
    exact ⟨_, _, this.symm⟩
  have a0 : F[n + 0]? = some (.since i j) := lawF_at hn 0 (by decide)
  have a1 : F[n + 1]? = some (.before n) := lawF_at hn 1 (by decide)
  have a2 : F[n + 2]? = some (.and [i, n + 1]) := lawF_at hn 2 (by decide)
  have a3 : F[n + 3]? = some (.or [j, n + 2]) := lawF_at hn 3 (by decide)
  have a4 : F[n + 4]? = some (.and []) := lawF_at hn 4 (by decide)
  have a5 : F[n + 5]? = some (.before (n + 4)) := lawF_at hn 5 (by decide)
  have a6 : F[n + 6]? = some (.not i) := lawF_at hn 6 (by decide)
  have a7 : F[n + 7]? = some (.before (n + 6)) := lawF_at hn 7 (by decide)
  have a8 : F[n + 8]? = some (.before i) := lawF_at hn 8 (by decide)
  have a9 : F[n + 9]? = some (.not (n + 8)) := lawF_at hn 9 (by decide)
  have e1 : decide (1 < (u ++ [c]).length) = decide (1 ≤ u.length) := by
    rw [List.length_append]
    exact decide_eq_decide.mpr ⟨fun h => by simp at h; omega, fun h => by simp; omega⟩
  refine ⟨?_, ?_, ?_, fun r hr => ?_, ?_, ?_⟩
  · have h0 := tv_since a0 (by omega) (by omega) u c
    rw [Nat.add_zero] at h0
    rw [h0, tv_or2 a3 (by omega) (by omega) u c, tv_and2 a2 (by omega) (by omega) u c, tv_before a1 u c]
  · rw [tv_before a5 u c, tv_some a4 u, e1]
  · rw [tv_before a7 u c, tv_not a9 (by omega) u c, tv_before a8 u c, e1]
    refine snoc_ind (P := fun u => tv F u (n + 6) = (!tv F u i && decide (1 ≤ u.length))) ?_ ?_ u
    · rw [tv_nil, tv_nil]
      rfl
    · intro v d _
      rw [tv_not a6 (by omega) v d]
      simp
  · rw [(tv_count (lawF_cnt hn hr) (by omega) u c).2, cv_seen (lawF_cnt hn hr) (by omega) hp]
  · rw [tv_since (lawF_end hn).2 (by omega) (by omega) u c, tv_true a4 u c]
    rfl
  · exact since_seen (lawF_end hn).1 (by omega) (by omega) a4 _
theorem one_true {p s : Nat} (h : s < p) : ((List.range p).map fun r => decide (s = r)).filter id = [true] := by
  have h1 : ∀ l : List Nat, l.Nodup → (s ∈ l → (l.map fun r => decide (s = r)).filter id = [true]) ∧ (s ∉ l → (l.map fun r => decide (s = r)).filter id = []) := by
    intro l
    induction l with
    | nil => exact fun _ => ⟨(fun h => by cases h), fun _ => rfl⟩
    | cons a l ih =>
      intro nd
      obtain ⟨n1, n2⟩ := List.nodup_cons.mp nd
      obtain ⟨i1, i2⟩ := ih n2
      by_cases e : s = a
      · subst e
        refine ⟨fun _ => ?_, fun h => absurd (List.mem_cons_self ..) h⟩
        rw [List.map_cons, decide_eq_true rfl, List.filter_cons_of_pos (by rfl), i2 n1]
      · refine ⟨fun hm => ?_, fun hm => ?_⟩
        · rw [List.map_cons, decide_eq_false e, List.filter_cons_of_neg (by simp)]
          exact i1 ((List.mem_cons.mp hm).resolve_left e)
        · rw [List.map_cons, decide_eq_false e, List.filter_cons_of_neg (by simp)]
          exact i2 fun h => hm (List.mem_cons_of_mem _ h)
  exact (h1 _ List.nodup_range).1 (List.mem_range.mpr h)

/-! ### the truths, moment by moment, as the law's own walk finds them -/
theorem tv_is {F : List FL} {k : Nat} {z : List Nat} (hk : F[k]? = some (.is z)) (w : List Nat) (c : Nat) : tv F (w ++ [c]) k = decide (c ∈ z) := by
  obtain ⟨tr, h1, h2, _⟩ := tv_step hk w c
  rw [h2]
  rfl
theorem tv_and {F : List FL} {k : Nat} {rs : List Nat} (hk : F[k]? = some (.and rs)) (hr : ∀ r ∈ rs, r < k) (w : List Nat) (c : Nat) : tv F (w ++ [c]) k = rs.all fun r => tv F (w ++ [c]) r := by
  obtain ⟨tr, h1, h2, _⟩ := tv_step hk w c
  rw [h2]
  show (rs.all fun r => tr.getD r false) = _
  rw [Bool.eq_iff_iff, List.all_eq_true, List.all_eq_true]
  exact ⟨fun h r hm => by rw [← h1 r (hr r hm)]; exact h r hm, fun h r hm => by rw [h1 r (hr r hm)]; exact h r hm⟩
theorem tv_or {F : List FL} {k : Nat} {rs : List Nat} (hk : F[k]? = some (.or rs)) (hr : ∀ r ∈ rs, r < k) (w : List Nat) (c : Nat) : tv F (w ++ [c]) k = rs.any fun r => tv F (w ++ [c]) r := by
  obtain ⟨tr, h1, h2, _⟩ := tv_step hk w c
  rw [h2]
  show (rs.any fun r => tr.getD r false) = _
  rw [Bool.eq_iff_iff, List.any_eq_true, List.any_eq_true]
  exact ⟨fun ⟨r, hm, h⟩ => ⟨r, hm, by rw [← h1 r (hr r hm)]; exact h⟩, fun ⟨r, hm, h⟩ => ⟨r, hm, by rw [h1 r (hr r hm)]; exact h⟩⟩
/-- the truth of a line at a moment of a word -/
def tm (F : List FL) (w : List Nat) (k at_ : Nat) : Bool := tv F (w.take (at_ + 1)) k
theorem take_snoc {w : List Nat} {a : Nat} (h : a < w.length) : w.take (a + 1) = w.take a ++ [w[a]] := by
  rw [List.take_add_one, List.getElem?_eq_getElem h, Option.toList_some]
theorem tm_is {F : List FL} {w : List Nat} {k a : Nat} {z : List Nat} (hk : F[k]? = some (.is z)) (h : a < w.length) : tm F w k a = decide (w[a] ∈ z) := by
  unfold tm
  rw [take_snoc h, tv_is hk]
theorem tm_not {F : List FL} {w : List Nat} {k a i : Nat} (hk : F[k]? = some (.not i)) (hi : i < k) (h : a < w.length) : tm F w k a = !tm F w i a := by
  unfold tm
  rw [take_snoc h, tv_not hk hi]
theorem tm_and {F : List FL} {w : List Nat} {k a : Nat} {rs : List Nat} (hk : F[k]? = some (.and rs)) (hr : ∀ r ∈ rs, r < k) (h : a < w.length) : tm F w k a = rs.all fun r => tm F w r a := by
  unfold tm
  rw [take_snoc h, tv_and hk hr]
theorem tm_or {F : List FL} {w : List Nat} {k a : Nat} {rs : List Nat} (hk : F[k]? = some (.or rs)) (hr : ∀ r ∈ rs, r < k) (h : a < w.length) : tm F w k a = rs.any fun r => tm F w r a := by
  unfold tm
  rw [take_snoc h, tv_or hk hr]
theorem tm_before0 {F : List FL} {w : List Nat} {k i : Nat} (hk : F[k]? = some (.before i)) (h : 0 < w.length) : tm F w k 0 = false := by
  unfold tm
  rw [take_snoc h, tv_before hk, List.take_zero, tv_nil]
theorem tm_before {F : List FL} {w : List Nat} {k i a : Nat} (hk : F[k]? = some (.before i)) (h : a + 1 < w.length) : tm F w k (a + 1) = tm F w i a := by
  unfold tm
  rw [take_snoc h, tv_before hk]
/-- whether the second line was true at some moment, and the first one at all moments since -/
def sinceB (ti tj : Nat → Bool) (a : Nat) : Bool := (List.range (a + 1)).any fun h => tj h && (List.range (a - h)).all fun q => ti (h + 1 + q)
theorem sinceB_zero (ti tj : Nat → Bool) : sinceB ti tj 0 = tj 0 := by
  unfold sinceB
  simp
theorem sinceB_succ (ti tj : Nat → Bool) (a : Nat) : sinceB ti tj (a + 1) = (tj (a + 1) || (ti (a + 1) && sinceB ti tj a)) := by
  rw [Bool.eq_iff_iff]
  unfold sinceB
  simp only [Bool.or_eq_true, Bool.and_eq_true, List.any_eq_true, List.all_eq_true, List.mem_range]
  constructor
  · rintro ⟨h, h1, h2, h3⟩
    by_cases e : h = a + 1
    · left
      rw [← e]
      exact h2
    · right
      refine ⟨?_, h, by omega, h2, fun q hq => h3 q (by omega)⟩
      have := h3 (a - h) (by omega)
      rwa [show h + 1 + (a - h) = a + 1 by omega] at this
  · rintro (h | ⟨h1, h, h2, h3, h4⟩)
    · exact ⟨a + 1, by omega, h, fun q hq => by omega⟩
    · refine ⟨h, by omega, h3, fun q hq => ?_⟩
      by_cases e : q = a - h
      · rw [e, show h + 1 + (a - h) = a + 1 by omega]
        exact h1
      · exact h4 q (by omega)
theorem tm_since {F : List FL} {w : List Nat} {k i j : Nat} (hk : F[k]? = some (.since i j)) (hi : i < k) (hj : j < k) : ∀ {a : Nat}, a < w.length → tm F w k a = sinceB (tm F w i) (tm F w j) a
  | 0, h => by
    rw [sinceB_zero]
    unfold tm
    rw [take_snoc h, tv_since hk hi hj, List.take_zero, tv_nil, Bool.and_false, Bool.or_false]
  | a + 1, h => by
    rw [sinceB_succ, ← tm_since hk hi hj (a := a) (by omega)]
    unfold tm
    rw [take_snoc h, tv_since hk hi hj]
theorem seenB_tm (F : List FL) (i : Nat) (w : List Nat) {a : Nat} (h : a ≤ w.length) : seenB F i (w.take a) = (List.range a).map fun s => tm F w i s := by
  unfold seenB tm
  rw [List.length_take, Nat.min_eq_left h]
  refine List.map_congr_left fun s hs => ?_
  have := List.mem_range.mp hs
  rw [List.take_take, Nat.min_eq_left (by omega)]
theorem tm_count {F : List FL} {w : List Nat} {k i p r a : Nat} (hk : F[k]? = some (.count i p r)) (hi : i < k) (hp : 0 < p) (h : a < w.length) : tm F w k a = decide (((List.range (a + 1)).filter fun s => tm F w i s).length % p = r) := by
  have h1 : tm F w k a = decide (cv F (w.take (a + 1)) k = r) := by
    unfold tm
    rw [take_snoc h]
    exact (tv_count hk hi _ _).2
  rw [h1, cv_seen hk hi hp, seenB_tm F i w (by omega)]
  congr 3
  unfold cntB
  rw [List.filter_map, List.length_map]
  rfl
theorem cv_lt {F : List FL} {k i p r : Nat} (hk : F[k]? = some (.count i p r)) (hi : i < k) (hp : 0 < p) (w : List Nat) : cv F w k < p := by
  rw [cv_seen hk hi hp]
  exact Nat.mod_lt _ hp
/-! ### small facts of truths in lists -/
theorem in_two {K : PySem.W.Frag} {H : Hp} {x a b : V} {Q : VK} (hx : flatV x = true) (hab : [a, b].all flatV = true) (q : ∀ H', Same H H' → Q (.bl (inV x [a, b])) H') (p : Addr) (hp : H p = none) : rIn K false x (.ref p) (upd H p (.tup [a, b])) Q :=
  ⟨p, [a, b], rfl, .inr (SqT.of upd_same), hx, hab, q _ (same_upd hp)⟩
theorem flat_bools : ∀ l : List Bool, (l.map V.bl).all flatV = true
  | [] => rfl
  | _ :: l => flat_bools l
theorem in_true (bs : List Bool) : inV (.bl true) (bs.map V.bl) = bs.any id := by
  unfold inV
  rw [List.any_map]
  congr 1
  funext b
  cases b <;> rfl
theorem notin_false (bs : List Bool) : (!inV (.bl false) (bs.map V.bl)) = bs.all id := by
  unfold inV
  rw [List.any_map, List.not_any_eq_all_not]
  congr 1
  funext b
  cases b <;> rfl
theorem filif_len (f : Nat → Bool) (g : Nat → V) : ∀ l : List Nat, (l.filterMap fun s => if f s then some (g s) else none).length = (l.filter f).length
  | [] => rfl
  | s :: l => by
    have ih := filif_len f g l
    rw [List.filterMap_cons, List.filter_cons]
    cases h : f s
    · simpa [h] using ih
    · simpa [h] using ih


local macro_rules | `(tactic| walk_at "t") => `(tactic| first
  | walk_at "s"
  | refine ⟨_, _, _, _, rfl, rfl, SqT.of (by assumption), (by rfl), ?_⟩)
local macro_rules | `(tactic| walk_at "tt") => `(tactic| repeat walk_at "t")

/-- the truths and counts behind a word, as the law's walk holds them -/
def LastAt (H : Hp) (F : List FL) (w : List Nat) (x y : V) : Prop := (w = [] ∧ x = .non ∧ y = .non) ∨ (w ≠ [] ∧ ∃ p q, x = .ref p ∧ y = .ref q ∧ H p = some (.tup (boolL (runL F w).1)) ∧ H q = some (.tup (natL (runL F w).2)))
theorem LastAt.same {H H' : Hp} {F : List FL} {w : List Nat} {x y : V} (h : LastAt H F w x y) (s : Same H H') : LastAt H' F w x y := by
  rcases h with h | ⟨n, p, q, a, b, c, d⟩
  · exact .inl h
  · exact .inr ⟨n, p, q, a, b, s _ _ c, s _ _ d⟩
def spLNext : Sp := fun vs H Q _ => ∃ (r : Addr) (x y : V) (c : Nat) (al : List Nat) (fls : List FL) (w : List Nat), vs = [.ref r, x, y, .str ⟨#[c]⟩] ∧ FLs H r fls ∧ FOk al fls ∧ fls.length ≤ 1000 ∧ LastAt H fls w x y ∧
  ∀ (u t f : Addr) (H' : Hp), H' u = some (.tup [.ref t, .ref f]) → LastAt H' fls (w ++ [c]) (.ref t) (.ref f) → Same H H' → Q (.ref u) H'
section
variable {P : Program} {w : World} {K : PySem.W.Frag} {mg : Str → Option Value} {base : Heap}
theorem ok_lnext (T : Env K mg) : FnOk P w K mg base CX0 1 T.f_lnext T.fd_lnext ["_law_lines", "_law_last", "_law_counts", "_law_sign"] spLNext := by
  refine T.F_lnext.ok sc_lnext (fun vs H Q E h => ?_) (fun cdv A outer s H vs Q E hr h => ⟨_, ((C8.pss_cut (ps_asg (pe_tup (pa_cons (pe_lst pa_nil) (pa_cons (pe_ifExp (pt_cmpR op_isN (pv 2) pe_non (nomark _)) (pe_op op_rep (pe_lst (pa_cons pe_int pa_nil)) (pe_callB call_len_seq (by rfl) T.z_len (by decide +kernel) (pa_cons (pv 0) pa_nil))) (pe_callTy call_list_of (by rfl) T.z_list (by decide +kernel) (pa_cons (pv 2) pa_nil))) pa_nil))) (pg_tup (by rfl) (pgs_cons (pg_name (i := 4) sc_lnext.nd rfl (.inr rfl)) (pgs_cons (pg_name (i := 5) sc_lnext.nd rfl (.inl rfl)) pgs_nil))))
      (pss_cons (ps_for PassesOwn.never rfl (pi_range1 (by rfl) T.z_range (pa_cons (pe_callB call_len_seq (by rfl) T.z_len (by decide +kernel) (pa_cons (pv 0) pa_nil)) pa_nil)) (pg_name (i := 6) sc_lnext.nd rfl (.inl rfl))
      (pss_cons (ps_set (i := 7) sc_lnext.nd rfl (.inl rfl) (pe_ix ix_list (pv 0) (pv 6) (fun _ _ => rfl)))
      (pss_one (ps_if (pt_cmpR op_eq (pe_ix ix_tup (pv 7) pe_int (fun _ _ => rfl)) pe_str (nomark _))
      (pss_one (ps_expr (pe_bm PySem.F.plainAttrs_list PySem.F.slot_list_append PySem.F.type_list_append mt_append (pv 4) (pa_cons (pe_cmpR op_in_sign (pv 3) (pe_ix ix_tup (pv 7) pe_int (fun _ _ => rfl)) (by rfl)) pa_nil))))
      (pss_one (ps_if (pt_cmpR op_eq (pe_ix ix_tup (pv 7) pe_int (fun _ _ => rfl)) pe_str (nomark _))
      (pss_one (ps_expr (pe_bm PySem.F.plainAttrs_list PySem.F.slot_list_append PySem.F.type_list_append mt_append (pv 4) (pa_cons (pe_not (pe_ix ix_list (pv 4) (pe_ix ix_tup (pv 7) pe_int (fun _ _ => rfl)) (fun _ _ => rfl))) pa_nil))))
      (pss_one (ps_if (pt_cmpR op_in_seq (pe_ix ix_tup (pv 7) pe_int (fun _ _ => rfl)) (pe_tup (pa_cons pe_str (pa_cons pe_str pa_nil))) (by rfl))
      (pss_cons (ps_setLc (i := 8) (own := [("_law_ref", 9)]) (g := (gName 9)) (tt := tYes) (te := (tOp (rIxL K) _ _)) rfl sc_lnext.nd rfl rfl (sw_true rfl rfl rfl (by decide +kernel)) (pi_tup (pe_ix ix_tup (pv 7) pe_int (fun _ _ => rfl))) (blkOk_by (own := [("_law_ref", 9)]) (N := N_lnext) (sc := defScope s_lnext) (by decide +kernel)) (fun _ _ _ _ _ => (pg_name (i := 9) sc_lnext.nd rfl (.inl rfl))) (fun _ _ _ _ _ => pts_nil) (fun _ _ _ _ _ => (pe_ix ix_list (pv 4) (pv 9) (fun _ _ => rfl))))
      (pss_one (ps_expr (pe_bm PySem.F.plainAttrs_list PySem.F.slot_list_append PySem.F.type_list_append mt_append (pv 4) (pa_cons (pe_ifExp (pt_cmpR op_eq (pe_ix ix_tup (pv 7) pe_int (fun _ _ => rfl)) pe_str (nomark _)) (pe_cmpR op_notIn_seq pe_bl (pv 8) (by rfl)) (pe_cmpR op_in_seq pe_bl (pv 8) (by rfl))) pa_nil)))))
      (pss_one (ps_if (pt_cmpR op_eq (pe_ix ix_tup (pv 7) pe_int (fun _ _ => rfl)) pe_str (nomark _))
      (pss_one (ps_expr (pe_bm PySem.F.plainAttrs_list PySem.F.slot_list_append PySem.F.type_list_append mt_append (pv 4) (pa_cons (pe_and (pe_cmpR op_notN (pv 1) pe_non (nomark _)) (pe_one (pe_ix ix_tup (pv 1) (pe_ix ix_tup (pv 7) pe_int (fun _ _ => rfl)) (fun _ _ => rfl)))) pa_nil))))
      (pss_one (ps_if (pt_cmpR op_eq (pe_ix ix_tup (pv 7) pe_int (fun _ _ => rfl)) pe_str (nomark _))
      (pss_one (ps_expr (pe_bm PySem.F.plainAttrs_list PySem.F.slot_list_append PySem.F.type_list_append mt_append (pv 4) (pa_cons (pe_or (pe_ix ix_list (pv 4) (pe_ix ix_tup (pv 7) pe_int (fun _ _ => rfl)) (fun _ _ => rfl)) (pe_one (pe_and (pe_ix ix_list (pv 4) (pe_ix ix_tup (pv 7) pe_int (fun _ _ => rfl)) (fun _ _ => rfl)) (pe_and (pe_cmpR op_notN (pv 1) pe_non (nomark _)) (pe_one (pe_ix ix_tup (pv 1) (pv 6) (fun _ _ => rfl))))))) pa_nil))))
      (pss_cons (ps_asg (pe_op op_mod (pe_callTy call_int1 (by rfl) T.z_int (by decide +kernel) (pa_cons (pe_op op_add (pe_ix ix_list (pv 5) (pv 6) (fun _ _ => rfl)) (pe_callTy call_int1 (by rfl) T.z_int (by decide +kernel) (pa_cons (pe_ix ix_list (pv 4) (pe_ix ix_tup (pv 7) pe_int (fun _ _ => rfl)) (fun _ _ => rfl)) pa_nil))) pa_nil)) (pe_ix ix_tup (pv 7) pe_int (fun _ _ => rfl))) (pg_sub (pv 5) (pv 6) set_list))
      (pss_one (ps_expr (pe_bm PySem.F.plainAttrs_list PySem.F.slot_list_append PySem.F.type_list_append mt_append (pv 4) (pa_cons (pe_cmpR op_eq (pe_ix ix_list (pv 5) (pv 6) (fun _ _ => rfl)) (pe_ix ix_tup (pv 7) pe_int (fun _ _ => rfl)) (nomark _)) pa_nil)))))))))))))))))
      (pss_one (ps_ret (pe_tup (pa_cons (pe_callTy call_tuple_of (by rfl) T.z_tuple (by decide +kernel) (pa_cons (pv 4) pa_nil)) (pa_cons (pe_callTy call_tuple_of (by rfl) T.z_tuple (by decide +kernel) (pa_cons (pv 5) pa_nil)) pa_nil)))))))), ?_⟩)
  · obtain ⟨r, x, y, c, al, fls, wd, rfl, _⟩ := h
    rfl
  · obtain ⟨r, x, y, c, al, fls, wd, rfl, hf, ok, hn, hL, q⟩ := h
    obtain ⟨xs, hx, hl⟩ := hf.len
    walk_at "tt"
    refine ⟨fun σ' G => Stp (∃ (t k : Addr) (y6 y7 y8 y9 : Option V), σ' = [some (.ref r), some x, some y, some (.str ⟨#[c]⟩), some (.ref t), some (.ref k), y6, y7, y8, y9] ∧ G t = some (.lst []) ∧ G k = some (.lst (natL (runL fls wd).2)) ∧ t ≠ k ∧ Same H G ∧ H t = none ∧ H k = none), ?_, fun σ' G hM => ?_⟩
    · walk_at "tt"
      intro t ht
      walk_at "tt"
      have s1 := same_upd (o := .lst []) ht
      rcases hL with ⟨rfl, rfl, rfl⟩ | ⟨wn, p, q, rfl, rfl, hp, hq⟩
      · walk_at "tt"
        intro d0 hd0
        have s2 := s1.trans (same_upd (o := .lst [.int 0]) hd0)
        walk_at "tt"
        refine ⟨r, _, rfl, .inl (SqL.of (s2 _ _ hx)), ?_⟩
        rw [hl]
        have e0 : ∀ m : Nat, ((List.replicate m [V.int 0]).flatten : List V) = natL (List.replicate m 0) := fun m => by
          induction m with
          | zero => rfl
          | succ m ih =>
            rw [List.replicate_succ, List.flatten_cons, ih, List.replicate_succ]
            rfl
        refine ⟨d0, _, _, rfl, rfl, upd_same, (by omega), (by omega), (by show 1 * _ ≤ _; exact sz (by omega)), fun k hk => ?_⟩
        rw [show (fls.length : Int).toNat = fls.length from rfl, e0]
        have s3 := s2.trans (same_upd (o := .lst (natL (List.replicate fls.length 0))) hk)
        walk_at "tt"
        intro tt htt
        have td : t ≠ d0 := ne_of_none upd_same hd0
        have tk : t ≠ k := ne_of_none (by rw [upd_ne td]; exact upd_same) hk
        refine ⟨tt, _, rfl, .inl (.inl upd_same), rfl, _, _, rfl, _, _, rfl, rfl, ?_⟩
        refine .mk ⟨t, k, _, _, _, _, rfl, ?_, ?_, tk, s3.trans (same_upd htt), ht, s2.free hk⟩
        · exact same_upd htt _ _ (by rw [upd_ne tk, upd_ne td]; exact upd_same)
        · exact same_upd htt _ _ upd_same
      · walk_at "tt"
        refine ⟨q, _, rfl, .inr (SqT.of (s1 _ _ hq)), fun k hk => ?_⟩
        have s2 := s1.trans (same_upd (o := .lst (natL (runL fls wd).2)) hk)
        walk_at "tt"
        intro tt htt
        have tk : t ≠ k := ne_of_none upd_same hk
        refine ⟨tt, _, rfl, .inl (.inl upd_same), rfl, _, _, rfl, _, _, rfl, rfl, ?_⟩
        refine .mk ⟨t, k, _, _, _, _, rfl, ?_, ?_, tk, s2.trans (same_upd htt), ht, s1.free hk⟩
        · exact same_upd htt _ _ (by rw [upd_ne tk]; exact upd_same)
        · exact same_upd htt _ _ upd_same
    · obtain ⟨t, k, y6, y7, y8, y9, rfl, ht, hk, tk, s1, tn, kn⟩ := hM.of
      clear hM
      have hxG := s1 _ _ hx
      walk_at "tt"
      refine ⟨r, _, rfl, .inl (SqL.of hxG), ?_⟩
      rw [hl]
      obtain ⟨nI, hnI⟩ : ∃ nI : Int, nI = (fls.length : Int) := ⟨_, rfl⟩
      rw [← hnI]
      walk_at "tt"
      refine for_it walk_range (fun i σ H' => Stp (Same H H' ∧ H' t = some (.lst (boolL (stepL fls c (runL fls wd).1 (runL fls wd).2 i).1)) ∧ H' k = some (.lst (natL (stepL fls c (runL fls wd).1 (runL fls wd).2 i).2)) ∧ ∃ y6 y7 y8 y9 : Option V, σ = [some (.ref r), some x, some y, some (.str ⟨#[c]⟩), some (.ref t), some (.ref k), y6, y7, y8, y9]))
        (.mk ⟨s1, ht, hk, _, _, _, _, rfl⟩) (fun _ _ _ _ _ => trivial) ?_ ?_
      · clear ht hk hxG s1
        rintro i v σ H3 H4 hi hP ⟨rfl, rfl⟩
        obtain ⟨s5, ht5, hk5, y6, y7, y8, y9, rfl⟩ := hP.of
        clear hP
        obtain ⟨fl, hfi⟩ : ∃ f, fls[i]? = some f := ⟨_, List.getElem?_eq_getElem (by omega)⟩
        obtain ⟨xs2, pl, g1, g2, g3, g4⟩ := (hf.same s5).at_ hfi
        obtain ⟨past, hpast⟩ : ∃ p, p = (runL fls wd).1 := ⟨_, rfl⟩
        obtain ⟨cn, hcn⟩ : ∃ p, p = (runL fls wd).2 := ⟨_, rfl⟩
        have pl1 : past.length = fls.length := by rw [hpast]; exact (runL_len fls wd).1
        have cn1 : cn.length = fls.length := by rw [hcn]; exact (runL_len fls wd).2
        rw [← hpast, ← hcn] at ht5 hk5 ⊢
        obtain ⟨l1, l2⟩ := stepL_len (fls := fls) (c := c) (past := past) (cn := cn) (k := i) (by omega)
        have nx : stepL fls c past cn (i + 1) = ((stepL fls c past cn i).1 ++ [(evL fl (stepL fls c past cn i).1 past i (cn.getD i 0) c).1], (stepL fls c past cn i).2.set i (evL fl (stepL fls c past cn i).1 past i (cn.getD i 0) c).2) := by
          show (match fls[i]? with | some f => _ | none => _) = _
          rw [hfi]
        have keep0 := stepL_keep (fls := fls) (c := c) (past := past) (cn := cn) (k := i) (j := i) (Nat.le_refl _)
        generalize stepL fls c past cn (i + 1) = S1 at *
        generalize stepL fls c past cn i = S0 at *
        obtain ⟨tr, fr⟩ := S0
        have l1 : tr.length = i := l1
        have l2 : fr.length = cn.length := l2
        have k0 : fr.getD i 0 = cn.getD i 0 := keep0
        have keep : fr.set i (cn.getD i 0) = fr := by
          rw [← k0, List.getD_eq_getElem?_getD, List.getElem?_eq_getElem (by omega)]
          exact List.set_getElem_self (by omega)
        have ht5 : H4 t = some (.lst (boolL tr)) := ht5
        have hk5 : H4 k = some (.lst (natL fr)) := hk5
        have okf := ok i fl hfi
        have il : i < fls.length := (List.getElem?_eq_some_iff.mp hfi).1
        have fin : ∀ {G : Hp} {bv : Bool} {y6 y7 y8 y9 : Option V}, Same H G → G k = some (.lst (natL (fr.set i (evL fl tr past i (cn.getD i 0) c).2))) → bv = (evL fl tr past i (cn.getD i 0) c).1 →
            Stp (Same H (upd G t (.lst (boolL tr ++ [.bl bv]))) ∧ upd G t (.lst (boolL tr ++ [.bl bv])) t = some (.lst (boolL S1.1)) ∧ upd G t (.lst (boolL tr ++ [.bl bv])) k = some (.lst (natL S1.2)) ∧ ∃ z6 z7 z8 z9 : Option V, ([some (.ref r), some x, some y, some (.str ⟨#[c]⟩), some (.ref t), some (.ref k), y6, y7, y8, y9] : L2.St) = [some (.ref r), some x, some y, some (.str ⟨#[c]⟩), some (.ref t), some (.ref k), z6, z7, z8, z9]) := by
          intro G bv y6 y7 y8 y9 sG gk eb
          refine .mk ⟨same_mut sG tn, ?_, ?_, _, _, _, _, rfl⟩
          · rw [upd_same, nx, eb]
            exact congrArg (fun l => some (HO.lst l)) (boolL_snoc _ _).symm
          · rw [upd_ne tk.symm, nx]
            exact gk
        show gName 6 (V.int (0 + (i : Int))) _ _ _
        rw [Int.zero_add]
        walk_at "tt"
        refine ⟨r, _, _, .ref pl, rfl, rfl, SqL.of g1, atI_nat g3, ?_⟩
        walk_at "tt"
        clear nx keep0 g1 g3
        have tl : tr.length < 100000 := by omega
        have kp1 : H4 k = some (.lst (natL (fr.set i (cn.getD i 0)))) := by rw [keep]; exact hk5
        have L4 := hL.same s5
        cases fl with
        | is z =>
          have gp : H4 pl = some (.tup [.str "is", strL z]) := g4
          walk_at "tt"
          refine ⟨.inl ⟨rfl, _, SqL.of ht5⟩, ?_⟩
          walk_at "tt"
          refine ⟨t, _, _, rfl, rfl, ht5, szl (by rw [boolL_len]; omega), ?_⟩
          exact fin s5 kp1 (by show decide (c ∈ (⟨z.toArray⟩ : Str).cps.toList) = decide (c ∈ z); simp)
        | not j =>
          have gp : H4 pl = some (.tup [.str "not", .int (j : Nat)]) := g4
          have okf : j < i := okf
          walk_at "tt"
          refine ⟨.inl ⟨rfl, _, SqL.of ht5⟩, ?_⟩
          walk_at "tt"
          refine ⟨t, _, _, _, rfl, rfl, SqL.of ht5, atI_nat (boolL_at (by omega)), ?_⟩
          walk_at "tt"
          refine ⟨t, _, _, rfl, rfl, ht5, szl (by rw [boolL_len]; omega), ?_⟩
          exact fin s5 kp1 rfl
        | and rs =>
          obtain ⟨q0, gp, gq⟩ := g4
          have okf : (∀ r ∈ rs, r < i) ∧ rs.Pairwise (· < ·) ∧ rs.length ≤ 100 := okf
          walk_at "tt"
          refine in_two rfl rfl fun H6 s6 => ?_
          rw [show inV (V.str "and") [V.str "and", V.str "or"] = true from by decide +kernel]
          have gp6 := s6 _ _ gp
          have gq6 := s6 _ _ gq
          have ht6 := s6 _ _ ht5
          walk_at "tt"
          refine ⟨⟨_, SqT.of gq6⟩, ?_⟩
          intro D hD
          refine lc_gen walk_tup (fun H' => Same H6 H') (fun k2 y => ∃ r, rs[k2]? = some r ∧ y = V.bl (tr.getD r false)) (by rw [natL_len]; omega) (same_upd hD) (fun _ h => same_tup h (SqT.of gq6)) (fun _ _ h => same_mut h hD) ?_ ?_
          · rintro k2 x H1 H2 Q1 hlt2 hI ⟨rfl, hx⟩ - hQ
            have hx : (natL rs)[k2]? = some x := hx
            have k2l : k2 < rs.length := by rw [natL_len] at hlt2; exact hlt2
            have er : rs[k2]? = some (rs.getD k2 0) := by rw [List.getD_eq_getElem?_getD, List.getElem?_eq_getElem k2l]; rfl
            rw [natL_at k2l] at hx
            cases hx
            have lt := okf.1 _ (List.mem_of_getElem? er)
            walk_at "tt"
            refine ⟨t, _, _, _, rfl, rfl, SqL.of (hI _ _ ht6), atI_nat (boolL_at (by omega)), ?_⟩
            exact hQ _ _ ⟨_, er, rfl⟩ hI fun _ h => h
          · intro H1 ys hI hy hl2 hr2
            have e : ys = (rs.map fun r => tr.getD r false).map V.bl := by
              rw [List.map_map]
              exact ys_map (by rw [hl2, natL_len]) hr2
            subst e
            have gp7 := hI _ _ gp6
            walk_at "tt"
            refine ⟨.inl ⟨rfl, _, SqL.of (hI _ _ ht6)⟩, ?_⟩
            walk_at "tt"
            refine ⟨D, _, rfl, .inl (SqL.of hy), rfl, flat_bools _, ?_⟩
            rw [notin_false, List.all_map]
            walk_at "tt"
            refine ⟨t, _, _, rfl, rfl, hI _ _ ht6, szl (by rw [boolL_len]; omega), ?_⟩
            exact fin (s5.trans (s6.trans hI)) (hI _ _ (s6 _ _ kp1)) rfl
        | or rs =>
          obtain ⟨q0, gp, gq⟩ := g4
          have okf : (∀ r ∈ rs, r < i) ∧ rs.Pairwise (· < ·) ∧ rs.length ≤ 100 := okf
          walk_at "tt"
          refine in_two rfl rfl fun H6 s6 => ?_
          rw [show inV (V.str "or") [V.str "and", V.str "or"] = true from by decide +kernel]
          have gp6 := s6 _ _ gp
          have gq6 := s6 _ _ gq
          have ht6 := s6 _ _ ht5
          walk_at "tt"
          refine ⟨⟨_, SqT.of gq6⟩, ?_⟩
          intro D hD
          refine lc_gen walk_tup (fun H' => Same H6 H') (fun k2 y => ∃ r, rs[k2]? = some r ∧ y = V.bl (tr.getD r false)) (by rw [natL_len]; omega) (same_upd hD) (fun _ h => same_tup h (SqT.of gq6)) (fun _ _ h => same_mut h hD) ?_ ?_
          · rintro k2 x H1 H2 Q1 hlt2 hI ⟨rfl, hx⟩ - hQ
            have hx : (natL rs)[k2]? = some x := hx
            have k2l : k2 < rs.length := by rw [natL_len] at hlt2; exact hlt2
            have er : rs[k2]? = some (rs.getD k2 0) := by rw [List.getD_eq_getElem?_getD, List.getElem?_eq_getElem k2l]; rfl
            rw [natL_at k2l] at hx
            cases hx
            have lt := okf.1 _ (List.mem_of_getElem? er)
            walk_at "tt"
            refine ⟨t, _, _, _, rfl, rfl, SqL.of (hI _ _ ht6), atI_nat (boolL_at (by omega)), ?_⟩
            exact hQ _ _ ⟨_, er, rfl⟩ hI fun _ h => h
          · intro H1 ys hI hy hl2 hr2
            have e : ys = (rs.map fun r => tr.getD r false).map V.bl := by
              rw [List.map_map]
              exact ys_map (by rw [hl2, natL_len]) hr2
            subst e
            have gp7 := hI _ _ gp6
            walk_at "tt"
            refine ⟨.inl ⟨rfl, _, SqL.of (hI _ _ ht6)⟩, ?_⟩
            walk_at "tt"
            refine ⟨D, _, rfl, .inl (SqL.of hy), rfl, flat_bools _, ?_⟩
            rw [in_true, List.any_map]
            walk_at "tt"
            refine ⟨t, _, _, rfl, rfl, hI _ _ ht6, szl (by rw [boolL_len]; omega), ?_⟩
            exact fin (s5.trans (s6.trans hI)) (hI _ _ (s6 _ _ kp1)) rfl
        | before j =>
          have gp : H4 pl = some (.tup [.str "before", .int (j : Nat)]) := g4
          have okf : j < i := okf
          walk_at "tt"
          refine in_two rfl rfl fun H6 s6 => ?_
          rw [show inV (V.str "before") [V.str "and", V.str "or"] = false from by decide +kernel]
          have gp6 := s6 _ _ gp
          have ht6 := s6 _ _ ht5
          have L6 := L4.same s6
          walk_at "tt"
          refine ⟨.inl ⟨rfl, _, SqL.of ht6⟩, ?_⟩
          rcases L6 with ⟨rfl, rfl, rfl⟩ | ⟨wn, p, q, rfl, rfl, hp, hq⟩
          · walk_at "tt"
            refine ⟨t, _, _, rfl, rfl, ht6, szl (by rw [boolL_len]; omega), ?_⟩
            exact fin (s5.trans s6) (s6 _ _ kp1) (by show false = past.getD j false; rw [hpast]; exact (tv_nil fls j).symm)
          · rw [← hpast] at hp
            walk_at "tt"
            refine ⟨p, _, _, _, rfl, rfl, SqT.of hp, atI_nat (boolL_at (by omega)), ?_⟩
            walk_at "tt"
            refine ⟨t, _, _, rfl, rfl, ht6, szl (by rw [boolL_len]; omega), ?_⟩
            exact fin (s5.trans s6) (s6 _ _ kp1) rfl
        | since j j2 =>
          have gp : H4 pl = some (.tup [.str "since", .int (j : Nat), .int (j2 : Nat)]) := g4
          have okf : j < i ∧ j2 < i := okf
          walk_at "tt"
          refine in_two rfl rfl fun H6 s6 => ?_
          rw [show inV (V.str "since") [V.str "and", V.str "or"] = false from by decide +kernel]
          have gp6 := s6 _ _ gp
          have ht6 := s6 _ _ ht5
          have L6 := L4.same s6
          walk_at "tt"
          refine ⟨.inl ⟨rfl, _, SqL.of ht6⟩, ?_⟩
          walk_at "tt"
          refine ⟨t, _, _, _, rfl, rfl, SqL.of ht6, atI_nat (boolL_at (by omega)), ?_⟩
          cases hb : tr.getD j2 false with
          | true =>
            walk_at "tt"
            refine ⟨t, _, _, rfl, rfl, ht6, szl (by rw [boolL_len]; omega), ?_⟩
            exact fin (s5.trans s6) (s6 _ _ kp1) (by show true = (tr.getD j2 false || _); rw [hb]; rfl)
          | false =>
            walk_at "tt"
            refine ⟨t, _, _, _, rfl, rfl, SqL.of ht6, atI_nat (boolL_at (by omega)), ?_⟩
            cases hb2 : tr.getD j false with
            | false =>
              walk_at "tt"
              refine ⟨t, _, _, rfl, rfl, ht6, szl (by rw [boolL_len]; omega), ?_⟩
              exact fin (s5.trans s6) (s6 _ _ kp1) (by show false = (tr.getD j2 false || (tr.getD j false && _)); rw [hb, hb2]; rfl)
            | true =>
              rcases L6 with ⟨rfl, rfl, rfl⟩ | ⟨wn, p, q, rfl, rfl, hp, hq⟩
              · walk_at "tt"
                refine ⟨t, _, _, rfl, rfl, ht6, szl (by rw [boolL_len]; omega), ?_⟩
                exact fin (s5.trans s6) (s6 _ _ kp1) (by show false = (tr.getD j2 false || (tr.getD j false && past.getD i false)); rw [hb, hb2, hpast]; exact (tv_nil fls i).symm)
              · rw [← hpast] at hp
                walk_at "tt"
                refine ⟨p, _, _, _, rfl, rfl, SqT.of hp, atI_nat (boolL_at (by omega)), ?_⟩
                walk_at "tt"
                refine ⟨t, _, _, rfl, rfl, ht6, szl (by rw [boolL_len]; omega), ?_⟩
                exact fin (s5.trans s6) (s6 _ _ kp1) (by show past.getD i false = (tr.getD j2 false || (tr.getD j false && past.getD i false)); rw [hb, hb2]; rfl)
        | count j p2 r2 =>
          have gp : H4 pl = some (.tup [.str "count", .int (j : Nat), .int (p2 : Nat), .int (r2 : Nat)]) := g4
          have okf : j < i ∧ p2 ∈ PR ∧ r2 < p2 := okf
          have p20 : 0 < p2 := by omega
          have p2z : (0 : Int) < (p2 : Int) := by omega
          walk_at "tt"
          refine in_two rfl rfl fun H6 s6 => ?_
          rw [show inV (V.str "count") [V.str "and", V.str "or"] = false from by decide +kernel]
          have gp6 := s6 _ _ gp
          have ht6 := s6 _ _ ht5
          have hk6 := s6 _ _ hk5
          have s06 := s5.trans s6
          walk_at "tt"
          refine ⟨k, _, _, _, rfl, rfl, SqL.of hk6, atI_nat (natL_at (by omega)), ?_⟩
          walk_at "tt"
          refine ⟨t, _, _, _, rfl, rfl, SqL.of ht6, atI_nat (boolL_at (by omega)), ?_⟩
          refine .inr ⟨_, rfl, ?_⟩
          walk_at "tt"
          have ev2 : (((fr.getD i 0 : Nat) : Int) + (if tr.getD j false = true then 1 else 0)) % (p2 : Int) = (((evL (.count j p2 r2) tr past i (cn.getD i 0) c).2 : Nat) : Int) := by
            show _ = ((if tr.getD j false = true then (cn.getD i 0 + 1) % p2 else cn.getD i 0 : Nat) : Int)
            rw [k0]
            cases tr.getD j false with
            | true => exact (Int.natCast_emod (cn.getD i 0 + 1) p2).symm
            | false =>
              have lt : cn.getD i 0 < p2 := by rw [hcn]; exact cv_lt hfi okf.1 p20 wd
              show (((cn.getD i 0 : Nat) : Int) + 0) % (p2 : Int) = ((cn.getD i 0 : Nat) : Int)
              rw [Int.add_zero, ← Int.natCast_emod, Nat.mod_eq_of_lt lt]
          show rSetL _ _ (V.int ((((fr.getD i 0 : Nat) : Int) + (if tr.getD j false = true then 1 else 0)) % (p2 : Int))) _ _
          rw [ev2]
          clear ev2
          obtain ⟨nv, hnv⟩ : ∃ nv, nv = (evL (.count j p2 r2) tr past i (cn.getD i 0) c).2 := ⟨_, rfl⟩
          rw [← hnv]
          refine ⟨k, _, _, i, rfl, rfl, hk6, ixN_in (by omega) (by rw [natL_len]; omega), ?_⟩
          have plk : pl ≠ k := fun z => by rw [z, hk6] at gp6; cases gp6
          have hk7 : upd H6 k (.lst ((natL fr).set i (.int (nv : Nat)))) k = some (.lst (natL (fr.set i nv))) := by
            rw [upd_same]
            unfold natL
            rw [List.map_set]
          have ht7 : upd H6 k (.lst ((natL fr).set i (.int (nv : Nat)))) t = some (.lst (boolL tr)) := by rw [upd_ne tk]; exact ht6
          have gp7 : upd H6 k (.lst ((natL fr).set i (.int (nv : Nat)))) pl = some (.tup [.str "count", .int (j : Nat), .int (p2 : Nat), .int (r2 : Nat)]) := by rw [upd_ne plk]; exact gp6
          have s7 := same_mut (o := .lst ((natL fr).set i (.int (nv : Nat)))) s06 kn
          generalize upd H6 k (.lst ((natL fr).set i (.int (nv : Nat)))) = G7 at *
          walk_at "tt"
          refine ⟨.inl ⟨rfl, _, SqL.of ht7⟩, ?_⟩
          walk_at "tt"
          refine ⟨k, _, _, _, rfl, rfl, SqL.of hk7, atI_nat (natL_at (by rw [List.length_set]; omega)), ?_⟩
          walk_at "tt"
          refine ⟨t, _, _, rfl, rfl, ht7, szl (by rw [boolL_len]; omega), ?_⟩
          refine fin s7 (by rw [← hnv]; exact hk7) ?_
          show decide (V.int (((fr.set i nv).getD i 0 : Nat) : Int) = V.int (r2 : Nat)) = decide ((evL (.count j p2 r2) tr past i (cn.getD i 0) c).2 = r2)
          rw [← hnv, show (fr.set i nv).getD i 0 = nv by rw [List.getD_eq_getElem?_getD, List.getElem?_set_self (by omega)]; rfl]
          exact decide_eq_decide.mpr ⟨fun h => by injection h with h; exact Int.ofNat.inj h, fun h => by rw [h]⟩
      · rintro σ H3 hP
        obtain ⟨s5, ht5, hk5, y6, y7, y8, y9, rfl⟩ := hP.of
        clear hP
        rw [show (nI : Int).toNat = fls.length by omega] at ht5 hk5
        rw [← runL_snoc] at ht5 hk5
        walk_at "tt"
        refine ⟨t, _, rfl, .inl ⟨SqL.of ht5, fun a ha => ?_⟩⟩
        walk_at "tt"
        refine ⟨k, _, rfl, .inl ⟨SqL.of (same_upd ha _ _ hk5), fun b hb => ?_⟩⟩
        walk_at "tt"
        intro u hu
        have s8 := (same_upd (o := .tup (boolL (runL fls (wd ++ [c])).1)) ha).trans ((same_upd (o := .tup (natL (runL fls (wd ++ [c])).2)) hb).trans (same_upd (o := .tup [.ref a, .ref b]) hu))
        refine q u a b _ upd_same (.inr ⟨by simp, a, b, rfl, rfl, same_upd hu _ _ (same_upd hb _ _ upd_same), same_upd hu _ _ upd_same⟩) (s5.trans s8)
end


/-! ### lines moved behind others -/
def mvL (n : Nat) : FL → FL
  | .is z => .is z
  | .not i => .not (i + n)
  | .and rs => .and (rs.map (· + n))
  | .or rs => .or (rs.map (· + n))
  | .before i => .before (i + n)
  | .since i j => .since (i + n) (j + n)
  | .count i p r => .count (i + n) p r
theorem mvL_ok {al : List Nat} {n j : Nat} : ∀ {f : FL}, FLOk al j f → FLOk al (n + j) (mvL n f)
  | .is _, h => h
  | .not i, h => by
    have h : i < j := h
    show i + n < n + j
    omega
  | .and rs, h => ⟨fun r hr => by
      obtain ⟨x, hx, rfl⟩ := List.mem_map.mp hr
      have := h.1 x hx
      omega, List.pairwise_map.mpr (h.2.1.imp fun h => by omega), by rw [List.length_map]; exact h.2.2⟩
  | .or rs, h => ⟨fun r hr => by
      obtain ⟨x, hx, rfl⟩ := List.mem_map.mp hr
      have := h.1 x hx
      omega, List.pairwise_map.mpr (h.2.1.imp fun h => by omega), by rw [List.length_map]; exact h.2.2⟩
  | .before i, h => by
    have h : i < j := h
    show i + n < n + j
    omega
  | .since i k, h => ⟨by have := h.1; omega, by have := h.2; omega⟩
  | .count i p r, h => ⟨by have := h.1; omega, h.2.1, h.2.2⟩
theorem natL_mv (n : Nat) (rs : List Nat) : natL (rs.map (· + n)) = rs.map fun r => V.int ((r : Nat) + (n : Nat) : Int) := by
  unfold natL
  rw [List.map_map]
  refine List.map_congr_left fun r _ => ?_
  show V.int ((r + n : Nat) : Int) = _
  rw [Int.natCast_add]
def spMv : Sp := fun vs H Q _ => ∃ (p : Addr) (f : FL) (n : Nat), vs = [.ref p, .int (n : Nat)] ∧ FLAt H p f ∧ (∀ rs, f = .and rs ∨ f = .or rs → rs.length ≤ 100) ∧ ∀ q H', Same H H' → FLAt H' q (mvL n f) → Q (.ref q) H'
section
variable {P : Program} {w : World} {K : PySem.W.Frag} {mg : Str → Option Value} {base : Heap}
theorem ok_moved_line (T : Env K mg) : FnOk P w K mg base CX0 1 T.f_moved_line T.fd_moved_line ["line", "places"] spMv := by
  refine T.F_moved_line.ok sc_moved_line (fun vs H Q E h => ?_) (fun cdv A outer s H vs Q E hr h => ⟨_, ((pss_cons (ps_set (i := 2) sc_moved_line.nd rfl (.inl rfl) (pe_ix ix_tup (pv 0) pe_int (fun _ _ => rfl)))
      (pss_cons (ps_if (pt_cmpR op_eq (pv 2) pe_str (nomark _))
      (pss_one (ps_ret (pv 0)))
      pss_nil)
      (pss_cons (ps_if (PW.pt (pw_or (pt_cmpR op_eq (pv 2) pe_str (nomark _)) (pw_or1 (pt_cmpR op_eq (pv 2) pe_str (nomark _)))))
      (pss_one (ps_ret (pe_tup (pa_cons (pv 2) (pa_cons (pe_callTy call_tuple_of (by rfl) T.z_tuple (by decide +kernel) (pa_cons (pe_lc (own := [("ref", 3)]) (g := (gName 3)) (tt := tYes) rfl sc_moved_line.nd (pi_tup (pe_ix ix_tup (pv 0) pe_int (fun _ _ => rfl))) (blkOk_by (own := [("ref", 3)]) (N := N_moved_line) (sc := defScope s_moved_line) (by decide +kernel)) (fun _ _ _ _ _ => (pg_name (i := 3) sc_moved_line.nd rfl (.inl rfl))) (fun _ _ _ _ _ => pts_nil) (fun _ _ _ _ _ => (pe_op op_add (pv 3) (pv 1)))) pa_nil)) pa_nil)))))
      pss_nil)
      (pss_cons (ps_if (pt_cmpR op_eq (pv 2) pe_str (nomark _))
      (pss_one (ps_ret (pe_tup (pa_cons (pv 2) (pa_cons (pe_op op_add (pe_ix ix_tup (pv 0) pe_int (fun _ _ => rfl)) (pv 1)) (pa_cons (pe_op op_add (pe_ix ix_tup (pv 0) pe_int (fun _ _ => rfl)) (pv 1)) pa_nil))))))
      pss_nil)
      (pss_one (ps_ret (pe_tup (pa_cons (pv 2) (pa_cons (pe_op op_add (pe_ix ix_tup (pv 0) pe_int (fun _ _ => rfl)) (pv 1)) (StX.pa_star (pe_slice sl_tup (pv 0) (po_some pe_int) po_none) pa_nil))))))))))), ?_⟩)
  · obtain ⟨p, f, n, rfl, _⟩ := h
    rfl
  · obtain ⟨p, f, n, rfl, hf, hs, q⟩ := h
    cases f with
    | is z =>
      have h0 : H p = _ := hf
      walk_at "tt"
      exact q p H (Same.refl _) hf
    | not i =>
      have h0 : H p = _ := hf
      walk_at "tt"
      refine ⟨p, _, rfl, SqT.of h0, fun h => absurd h.1 (by show ¬ HT.sIx 2 0 (some 2) = 0; decide), fun u nu => ?_⟩
      rw [show cutV [V.str "not", V.int (i : Nat)] (some 2) none = [] from cut_drop (i := 2)]
      have s1 := same_upd (o := .tup []) nu
      walk_at "tt"
      refine ⟨u, _, rfl, .inl (SqT.of upd_same), ?_⟩
      walk_at "tt"
      intro q0 nq
      refine q q0 _ (s1.trans (same_upd nq)) ?_
      show _ = some (HO.tup [.str "not", .int ((i + n : Nat) : Int)])
      rw [Int.natCast_add]
      exact upd_same
    | and rs =>
      obtain ⟨t, h0, h1⟩ := hf
      have rl := hs rs (.inl rfl)
      walk_at "tt"
      refine ⟨⟨_, SqT.of h1⟩, ?_⟩
      intro D hD
      refine lc_gen walk_tup (fun H' => Same H H') (fun i y => ∃ r, rs[i]? = some r ∧ y = V.int ((r : Nat) + (n : Nat) : Int)) (by rw [natL_len]; omega) (same_upd hD) (fun _ h => same_tup h (SqT.of h1)) (fun _ _ h => same_mut h hD) ?_ ?_
      · rintro i x H1 H2 Q1 hlt hI ⟨rfl, hx⟩ - hQ
        unfold natL at hx
        rw [List.getElem?_map] at hx
        cases ec : rs[i]? with
        | none => rw [ec] at hx; cases hx
        | some c =>
        rw [ec] at hx
        cases hx
        walk_at "tt"
        exact hQ _ _ ⟨c, ec, rfl⟩ hI fun _ h => h
      · intro H1 ys hI hy hl hr2
        have e : ys = natL (rs.map (· + n)) := by
          rw [natL_mv]
          exact ys_map (by rw [hl, natL_len]) hr2
        subst e
        walk_at "tt"
        refine ⟨D, _, rfl, .inl ⟨SqL.of hy, fun u nu => ?_⟩⟩
        have s1 := hI.trans (same_upd (o := .tup (natL (rs.map (· + n)))) nu)
        walk_at "tt"
        intro q0 nq
        have s2 := same_upd (o := .tup [.str "and", .ref u]) nq
        exact q q0 _ (s1.trans s2) ⟨u, upd_same, s2 _ _ upd_same⟩
    | or rs =>
      obtain ⟨t, h0, h1⟩ := hf
      have rl := hs rs (.inr rfl)
      walk_at "tt"
      refine ⟨⟨_, SqT.of h1⟩, ?_⟩
      intro D hD
      refine lc_gen walk_tup (fun H' => Same H H') (fun i y => ∃ r, rs[i]? = some r ∧ y = V.int ((r : Nat) + (n : Nat) : Int)) (by rw [natL_len]; omega) (same_upd hD) (fun _ h => same_tup h (SqT.of h1)) (fun _ _ h => same_mut h hD) ?_ ?_
      · rintro i x H1 H2 Q1 hlt hI ⟨rfl, hx⟩ - hQ
        unfold natL at hx
        rw [List.getElem?_map] at hx
        cases ec : rs[i]? with
        | none => rw [ec] at hx; cases hx
        | some c =>
        rw [ec] at hx
        cases hx
        walk_at "tt"
        exact hQ _ _ ⟨c, ec, rfl⟩ hI fun _ h => h
      · intro H1 ys hI hy hl hr2
        have e : ys = natL (rs.map (· + n)) := by
          rw [natL_mv]
          exact ys_map (by rw [hl, natL_len]) hr2
        subst e
        walk_at "tt"
        refine ⟨D, _, rfl, .inl ⟨SqL.of hy, fun u nu => ?_⟩⟩
        have s1 := hI.trans (same_upd (o := .tup (natL (rs.map (· + n)))) nu)
        walk_at "tt"
        intro q0 nq
        have s2 := same_upd (o := .tup [.str "or", .ref u]) nq
        exact q q0 _ (s1.trans s2) ⟨u, upd_same, s2 _ _ upd_same⟩
    | before i =>
      have h0 : H p = _ := hf
      walk_at "tt"
      refine ⟨p, _, rfl, SqT.of h0, fun h => absurd h.1 (by show ¬ HT.sIx 2 0 (some 2) = 0; decide), fun u nu => ?_⟩
      rw [show cutV [V.str "before", V.int (i : Nat)] (some 2) none = [] from cut_drop (i := 2)]
      have s1 := same_upd (o := .tup []) nu
      walk_at "tt"
      refine ⟨u, _, rfl, .inl (SqT.of upd_same), ?_⟩
      walk_at "tt"
      intro q0 nq
      refine q q0 _ (s1.trans (same_upd nq)) ?_
      show _ = some (HO.tup [.str "before", .int ((i + n : Nat) : Int)])
      rw [Int.natCast_add]
      exact upd_same
    | since i j =>
      have h0 : H p = _ := hf
      walk_at "tt"
      intro q0 nq
      refine q q0 _ (same_upd nq) ?_
      show _ = some (HO.tup [.str "since", .int ((i + n : Nat) : Int), .int ((j + n : Nat) : Int)])
      rw [Int.natCast_add, Int.natCast_add]
      exact upd_same
    | count i p' r =>
      have h0 : H p = _ := hf
      walk_at "tt"
      refine ⟨p, _, rfl, SqT.of h0, fun h => absurd h.1 (by show ¬ HT.sIx 4 0 (some 2) = 0; decide), fun u nu => ?_⟩
      rw [show cutV [V.str "count", V.int (i : Nat), V.int (p' : Nat), V.int (r : Nat)] (some 2) none = [V.int (p' : Nat), V.int (r : Nat)] from cut_drop (i := 2)]
      have s1 := same_upd (o := .tup [V.int (p' : Nat), V.int (r : Nat)]) nu
      walk_at "tt"
      refine ⟨u, _, rfl, .inl (SqT.of upd_same), ?_⟩
      walk_at "tt"
      intro q0 nq
      refine q q0 _ (s1.trans (same_upd nq)) ?_
      show _ = some (HO.tup [.str "count", .int ((i + n : Nat) : Int), .int (p' : Nat), .int (r : Nat)])
      rw [Int.natCast_add]
      exact upd_same
theorem ok_moved (T : Env K mg) : FnOk P w K mg base CX0 1 T.f_moved T.fd_moved ["_law_line", "_law_many"] spMv := by
  refine T.F_moved.ok sc_moved (fun vs H Q E h => ?_) (fun cdv A outer s H vs Q E hr h => ⟨_, ((pss_cons (ps_if (pt_cmpR op_eq (pe_ix ix_tup (pv 0) pe_int (fun _ _ => rfl)) pe_str (nomark _))
      (pss_one (ps_ret (pv 0)))
      pss_nil)
      (pss_cons (ps_if (pt_cmpR op_in_seq (pe_ix ix_tup (pv 0) pe_int (fun _ _ => rfl)) (pe_tup (pa_cons pe_str (pa_cons pe_str pa_nil))) (by rfl))
      (pss_one (ps_ret (pe_tup (pa_cons (pe_ix ix_tup (pv 0) pe_int (fun _ _ => rfl)) (pa_cons (pe_callTy call_tuple_of (by rfl) T.z_tuple (by decide +kernel) (pa_cons (pe_lc (own := [("_law_ref", 2)]) (g := (gName 2)) (tt := tYes) rfl sc_moved.nd (pi_tup (pe_ix ix_tup (pv 0) pe_int (fun _ _ => rfl))) (blkOk_by (own := [("_law_ref", 2)]) (N := N_moved) (sc := defScope s_moved) (by decide +kernel)) (fun _ _ _ _ _ => (pg_name (i := 2) sc_moved.nd rfl (.inl rfl))) (fun _ _ _ _ _ => pts_nil) (fun _ _ _ _ _ => (pe_op op_add (pv 2) (pv 1)))) pa_nil)) pa_nil)))))
      pss_nil)
      (pss_cons (ps_if (pt_cmpR op_eq (pe_ix ix_tup (pv 0) pe_int (fun _ _ => rfl)) pe_str (nomark _))
      (pss_one (ps_ret (pe_tup (pa_cons pe_str (pa_cons (pe_op op_add (pe_ix ix_tup (pv 0) pe_int (fun _ _ => rfl)) (pv 1)) (pa_cons (pe_ix ix_tup (pv 0) pe_int (fun _ _ => rfl)) (pa_cons (pe_ix ix_tup (pv 0) pe_int (fun _ _ => rfl)) pa_nil)))))))
      pss_nil)
      (pss_one (ps_ret (pe_op op_catT (pe_tup (pa_cons (pe_ix ix_tup (pv 0) pe_int (fun _ _ => rfl)) pa_nil)) (pe_callTy call_tuple_of (by rfl) T.z_tuple (by decide +kernel) (pa_cons (pe_lc (own := [("_law_ref", 2)]) (g := (gName 2)) (tt := tYes) rfl sc_moved.nd (pi_tup (pe_slice sl_tup (pv 0) (po_some pe_int) po_none)) (blkOk_by (own := [("_law_ref", 2)]) (N := N_moved) (sc := defScope s_moved) (by decide +kernel)) (fun _ _ _ _ _ => (pg_name (i := 2) sc_moved.nd rfl (.inl rfl))) (fun _ _ _ _ _ => pts_nil) (fun _ _ _ _ _ => (pe_op op_add (pv 2) (pv 1)))) pa_nil))))))))), ?_⟩)
  · obtain ⟨p, f, n, rfl, _⟩ := h
    rfl
  · obtain ⟨p, f, n, rfl, hf, hs, q⟩ := h
    cases f with
    | is z =>
      have h0 : H p = _ := hf
      walk_at "tt"
      exact q p H (Same.refl _) hf
    | not i =>
      have h0 : H p = _ := hf
      walk_at "tt"
      refine in_two rfl rfl fun G1 s1 => ?_
      rw [show inV (V.str "not") [V.str "and", V.str "or"] = false from by decide +kernel]
      have h0 := s1 _ _ h0
      walk_at "tt"
      intro t0 nt0
      have s2 := same_upd (o := .tup [.str "not"]) nt0
      have ht0 := upd_same (H := G1) (a := t0) (o := .tup [.str "not"])
      have h0 := s2 _ _ h0
      have s2 := s1.trans s2
      clear nt0
      generalize upd G1 t0 (.tup [.str "not"]) = G2 at *
      walk_at "tt"
      refine ⟨p, _, rfl, SqT.of h0, fun h => absurd h.1 (by show ¬ HT.sIx 2 0 (some 1) = 0; decide), fun u nu => ?_⟩
      rw [show cutV [V.str "not", V.int (i : Nat)] (some 1) none = natL [i] from cut_drop (i := 1)]
      have s3 := same_upd (o := .tup (natL [i])) nu
      have hu := upd_same (H := G2) (a := u) (o := .tup (natL [i]))
      have ht0 := s3 _ _ ht0
      have s3 := s2.trans s3
      clear nu
      generalize upd G2 u (.tup (natL [i])) = G3 at *
      walk_at "tt"
      refine ⟨⟨_, SqT.of hu⟩, ?_⟩
      intro D hD
      refine lc_gen walk_tup (fun H' => Same G3 H') (fun o y => ∃ r, ([i] : List Nat)[o]? = some r ∧ y = V.int ((r : Nat) + (n : Nat) : Int)) (by show 1 ≤ 100000; decide) (same_upd hD) (fun _ h => same_tup h (SqT.of hu)) (fun _ _ h => same_mut h hD) ?_ ?_
      · rintro j x H1 H2 Q1 hlt hI ⟨rfl, hx⟩ - hQ
        unfold natL at hx
        rw [List.getElem?_map] at hx
        cases ec : ([i] : List Nat)[j]? with
        | none => rw [ec] at hx; cases hx
        | some c =>
        rw [ec] at hx
        cases hx
        walk_at "tt"
        exact hQ _ _ ⟨c, ec, rfl⟩ hI fun _ h => h
      · intro H1 ys hI hy hl hr2
        have e : ys = natL (([i] : List Nat).map (· + n)) := by
          rw [natL_mv]
          exact ys_map (by rw [hl, natL_len]) hr2
        subst e
        walk_at "tt"
        refine ⟨D, _, rfl, .inl ⟨SqL.of hy, fun u2 nu => ?_⟩⟩
        have s4 := same_upd (o := .tup (natL (([i] : List Nat).map (· + n)))) nu
        refine ⟨t0, u2, _, _, rfl, rfl, SqT.of (s4 _ _ (hI _ _ ht0)), SqT.of upd_same, (by intro z; cases z), sz (by show 2 ≤ 100000; decide), (fun z => by cases z), fun _ q0 nq => ?_⟩
        exact q q0 _ (((s3.trans hI).trans s4).trans (same_upd nq)) upd_same
    | and rs =>
      obtain ⟨t, h0, h1⟩ := hf
      have rl := hs rs (.inl rfl)
      walk_at "tt"
      refine in_two rfl rfl fun G1 s1 => ?_
      rw [show inV (V.str "and") [V.str "and", V.str "or"] = true from by decide +kernel]
      have h0 := s1 _ _ h0
      have h1 := s1 _ _ h1
      walk_at "tt"
      refine ⟨⟨_, SqT.of h1⟩, ?_⟩
      intro D hD
      refine lc_gen walk_tup (fun H' => Same G1 H') (fun i y => ∃ r, rs[i]? = some r ∧ y = V.int ((r : Nat) + (n : Nat) : Int)) (by rw [natL_len]; omega) (same_upd hD) (fun _ h => same_tup h (SqT.of h1)) (fun _ _ h => same_mut h hD) ?_ ?_
      · rintro i x H1 H2 Q1 hlt hI ⟨rfl, hx⟩ - hQ
        unfold natL at hx
        rw [List.getElem?_map] at hx
        cases ec : rs[i]? with
        | none => rw [ec] at hx; cases hx
        | some c =>
        rw [ec] at hx
        cases hx
        walk_at "tt"
        exact hQ _ _ ⟨c, ec, rfl⟩ hI fun _ h => h
      · intro H1 ys hI hy hl hr2
        have e : ys = natL (rs.map (· + n)) := by
          rw [natL_mv]
          exact ys_map (by rw [hl, natL_len]) hr2
        subst e
        walk_at "tt"
        refine ⟨D, _, rfl, .inl ⟨SqL.of hy, fun u nu => ?_⟩⟩
        have s2 := (s1.trans hI).trans (same_upd (o := .tup (natL (rs.map (· + n)))) nu)
        walk_at "tt"
        intro q0 nq
        have s3 := same_upd (o := .tup [.str "and", .ref u]) nq
        exact q q0 _ (s2.trans s3) ⟨u, upd_same, s3 _ _ upd_same⟩
    | or rs =>
      obtain ⟨t, h0, h1⟩ := hf
      have rl := hs rs (.inr rfl)
      walk_at "tt"
      refine in_two rfl rfl fun G1 s1 => ?_
      rw [show inV (V.str "or") [V.str "and", V.str "or"] = true from by decide +kernel]
      have h0 := s1 _ _ h0
      have h1 := s1 _ _ h1
      walk_at "tt"
      refine ⟨⟨_, SqT.of h1⟩, ?_⟩
      intro D hD
      refine lc_gen walk_tup (fun H' => Same G1 H') (fun i y => ∃ r, rs[i]? = some r ∧ y = V.int ((r : Nat) + (n : Nat) : Int)) (by rw [natL_len]; omega) (same_upd hD) (fun _ h => same_tup h (SqT.of h1)) (fun _ _ h => same_mut h hD) ?_ ?_
      · rintro i x H1 H2 Q1 hlt hI ⟨rfl, hx⟩ - hQ
        unfold natL at hx
        rw [List.getElem?_map] at hx
        cases ec : rs[i]? with
        | none => rw [ec] at hx; cases hx
        | some c =>
        rw [ec] at hx
        cases hx
        walk_at "tt"
        exact hQ _ _ ⟨c, ec, rfl⟩ hI fun _ h => h
      · intro H1 ys hI hy hl hr2
        have e : ys = natL (rs.map (· + n)) := by
          rw [natL_mv]
          exact ys_map (by rw [hl, natL_len]) hr2
        subst e
        walk_at "tt"
        refine ⟨D, _, rfl, .inl ⟨SqL.of hy, fun u nu => ?_⟩⟩
        have s2 := (s1.trans hI).trans (same_upd (o := .tup (natL (rs.map (· + n)))) nu)
        walk_at "tt"
        intro q0 nq
        have s3 := same_upd (o := .tup [.str "or", .ref u]) nq
        exact q q0 _ (s2.trans s3) ⟨u, upd_same, s3 _ _ upd_same⟩
    | before i =>
      have h0 : H p = _ := hf
      walk_at "tt"
      refine in_two rfl rfl fun G1 s1 => ?_
      rw [show inV (V.str "before") [V.str "and", V.str "or"] = false from by decide +kernel]
      have h0 := s1 _ _ h0
      walk_at "tt"
      intro t0 nt0
      have s2 := same_upd (o := .tup [.str "before"]) nt0
      have ht0 := upd_same (H := G1) (a := t0) (o := .tup [.str "before"])
      have h0 := s2 _ _ h0
      have s2 := s1.trans s2
      clear nt0
      generalize upd G1 t0 (.tup [.str "before"]) = G2 at *
      walk_at "tt"
      refine ⟨p, _, rfl, SqT.of h0, fun h => absurd h.1 (by show ¬ HT.sIx 2 0 (some 1) = 0; decide), fun u nu => ?_⟩
      rw [show cutV [V.str "before", V.int (i : Nat)] (some 1) none = natL [i] from cut_drop (i := 1)]
      have s3 := same_upd (o := .tup (natL [i])) nu
      have hu := upd_same (H := G2) (a := u) (o := .tup (natL [i]))
      have ht0 := s3 _ _ ht0
      have s3 := s2.trans s3
      clear nu
      generalize upd G2 u (.tup (natL [i])) = G3 at *
      walk_at "tt"
      refine ⟨⟨_, SqT.of hu⟩, ?_⟩
      intro D hD
      refine lc_gen walk_tup (fun H' => Same G3 H') (fun o y => ∃ r, ([i] : List Nat)[o]? = some r ∧ y = V.int ((r : Nat) + (n : Nat) : Int)) (by show 1 ≤ 100000; decide) (same_upd hD) (fun _ h => same_tup h (SqT.of hu)) (fun _ _ h => same_mut h hD) ?_ ?_
      · rintro j x H1 H2 Q1 hlt hI ⟨rfl, hx⟩ - hQ
        unfold natL at hx
        rw [List.getElem?_map] at hx
        cases ec : ([i] : List Nat)[j]? with
        | none => rw [ec] at hx; cases hx
        | some c =>
        rw [ec] at hx
        cases hx
        walk_at "tt"
        exact hQ _ _ ⟨c, ec, rfl⟩ hI fun _ h => h
      · intro H1 ys hI hy hl hr2
        have e : ys = natL (([i] : List Nat).map (· + n)) := by
          rw [natL_mv]
          exact ys_map (by rw [hl, natL_len]) hr2
        subst e
        walk_at "tt"
        refine ⟨D, _, rfl, .inl ⟨SqL.of hy, fun u2 nu => ?_⟩⟩
        have s4 := same_upd (o := .tup (natL (([i] : List Nat).map (· + n)))) nu
        refine ⟨t0, u2, _, _, rfl, rfl, SqT.of (s4 _ _ (hI _ _ ht0)), SqT.of upd_same, (by intro z; cases z), sz (by show 2 ≤ 100000; decide), (fun z => by cases z), fun _ q0 nq => ?_⟩
        exact q q0 _ (((s3.trans hI).trans s4).trans (same_upd nq)) upd_same
    | since i k =>
      have h0 : H p = _ := hf
      walk_at "tt"
      refine in_two rfl rfl fun G1 s1 => ?_
      rw [show inV (V.str "since") [V.str "and", V.str "or"] = false from by decide +kernel]
      have h0 := s1 _ _ h0
      walk_at "tt"
      intro t0 nt0
      have s2 := same_upd (o := .tup [.str "since"]) nt0
      have ht0 := upd_same (H := G1) (a := t0) (o := .tup [.str "since"])
      have h0 := s2 _ _ h0
      have s2 := s1.trans s2
      clear nt0
      generalize upd G1 t0 (.tup [.str "since"]) = G2 at *
      walk_at "tt"
      refine ⟨p, _, rfl, SqT.of h0, fun h => absurd h.1 (by show ¬ HT.sIx 3 0 (some 1) = 0; decide), fun u nu => ?_⟩
      rw [show cutV [V.str "since", V.int (i : Nat), V.int (k : Nat)] (some 1) none = natL [i, k] from cut_drop (i := 1)]
      have s3 := same_upd (o := .tup (natL [i, k])) nu
      have hu := upd_same (H := G2) (a := u) (o := .tup (natL [i, k]))
      have ht0 := s3 _ _ ht0
      have s3 := s2.trans s3
      clear nu
      generalize upd G2 u (.tup (natL [i, k])) = G3 at *
      walk_at "tt"
      refine ⟨⟨_, SqT.of hu⟩, ?_⟩
      intro D hD
      refine lc_gen walk_tup (fun H' => Same G3 H') (fun o y => ∃ r, ([i, k] : List Nat)[o]? = some r ∧ y = V.int ((r : Nat) + (n : Nat) : Int)) (by show 2 ≤ 100000; decide) (same_upd hD) (fun _ h => same_tup h (SqT.of hu)) (fun _ _ h => same_mut h hD) ?_ ?_
      · rintro j x H1 H2 Q1 hlt hI ⟨rfl, hx⟩ - hQ
        unfold natL at hx
        rw [List.getElem?_map] at hx
        cases ec : ([i, k] : List Nat)[j]? with
        | none => rw [ec] at hx; cases hx
        | some c =>
        rw [ec] at hx
        cases hx
        walk_at "tt"
        exact hQ _ _ ⟨c, ec, rfl⟩ hI fun _ h => h
      · intro H1 ys hI hy hl hr2
        have e : ys = natL (([i, k] : List Nat).map (· + n)) := by
          rw [natL_mv]
          exact ys_map (by rw [hl, natL_len]) hr2
        subst e
        walk_at "tt"
        refine ⟨D, _, rfl, .inl ⟨SqL.of hy, fun u2 nu => ?_⟩⟩
        have s4 := same_upd (o := .tup (natL (([i, k] : List Nat).map (· + n)))) nu
        refine ⟨t0, u2, _, _, rfl, rfl, SqT.of (s4 _ _ (hI _ _ ht0)), SqT.of upd_same, (by intro z; cases z), sz (by show 3 ≤ 100000; decide), (fun z => by cases z), fun _ q0 nq => ?_⟩
        exact q q0 _ (((s3.trans hI).trans s4).trans (same_upd nq)) upd_same
    | count i p' r =>
      have h0 : H p = _ := hf
      walk_at "tt"
      refine in_two rfl rfl fun G1 s1 => ?_
      rw [show inV (V.str "count") [V.str "and", V.str "or"] = false from by decide +kernel]
      have h0 := s1 _ _ h0
      walk_at "tt"
      intro q0 nq
      refine q q0 _ (s1.trans (same_upd nq)) ?_
      show _ = some (HO.tup [.str "count", .int ((i + n : Nat) : Int), .int (p' : Nat), .int (r : Nat)])
      rw [Int.natCast_add]
      exact upd_same
end

/-! ### what joined lines say -/
theorem tv_mv {al : List Nat} {F G : List FL} {d : Nat} (ok : FOk al F) (h : ∀ (k : Nat) (f : FL), F[k]? = some f → G[k + d]? = some (mvL d f)) (w : List Nat) : ∀ k < F.length, tv G w (k + d) = tv F w k ∧ cv G w (k + d) = cv F w k := by
  refine snoc_ind (P := fun w => ∀ k < F.length, tv G w (k + d) = tv F w k ∧ cv G w (k + d) = cv F w k) ?_ ?_ w
  · intro k _
    rw [tv_nil, tv_nil, cv_nil, cv_nil]
    exact ⟨rfl, rfl⟩
  · intro u c ihu k
    induction k using Nat.strongRecOn with
    | _ k ih =>
      intro kl
      have hF : F[k]? = some F[k] := List.getElem?_eq_getElem kl
      have o := ok k _ hF
      have hG := h k _ hF
      obtain ⟨tr1, a1, b1, c1⟩ := tv_step hF u c
      obtain ⟨tr2, a2, b2, c2⟩ := tv_step hG u c
      have tr : ∀ i, i < k → tr2.getD (i + d) false = tr1.getD i false := fun i hi => by
        rw [a1 i hi, a2 (i + d) (by omega)]
        exact (ih i hi (by omega)).1
      have past : ∀ i, i < F.length → (runL G u).1.getD (i + d) false = (runL F u).1.getD i false := fun i hi => (ihu i hi).1
      have cnt : cv G u (k + d) = cv F u k := (ihu k kl).2
      rw [b1, b2, c1, c2, cnt]
      generalize F[k] = f at *
      cases f with
      | is z => exact ⟨rfl, rfl⟩
      | not i =>
        refine ⟨?_, rfl⟩
        show (!(tr2.getD (i + d) false)) = !(tr1.getD i false)
        rw [tr i o]
      | and rs =>
        refine ⟨?_, rfl⟩
        show ((rs.map (· + d)).all fun r => tr2.getD r false) = rs.all fun r => tr1.getD r false
        rw [List.all_map, Bool.eq_iff_iff, List.all_eq_true, List.all_eq_true]
        exact ⟨fun g r hr => by rw [← tr r (o.1 r hr)]; exact g r hr, fun g r hr => by show tr2.getD (r + d) false = true; rw [tr r (o.1 r hr)]; exact g r hr⟩
      | or rs =>
        refine ⟨?_, rfl⟩
        show ((rs.map (· + d)).any fun r => tr2.getD r false) = rs.any fun r => tr1.getD r false
        rw [List.any_map, Bool.eq_iff_iff, List.any_eq_true, List.any_eq_true]
        exact ⟨fun ⟨r, hr, g⟩ => ⟨r, hr, by rw [← tr r (o.1 r hr)]; exact g⟩, fun ⟨r, hr, g⟩ => ⟨r, hr, by show tr2.getD (r + d) false = true; rw [tr r (o.1 r hr)]; exact g⟩⟩
      | before i =>
        have o : i < k := o
        exact ⟨past i (by omega), rfl⟩
      | since i j =>
        refine ⟨?_, rfl⟩
        show (tr2.getD (j + d) false || (tr2.getD (i + d) false && (runL G u).1.getD (k + d) false)) = (tr1.getD j false || (tr1.getD i false && (runL F u).1.getD k false))
        rw [tr i o.1, tr j o.2, past k kl]
      | count i p r =>
        refine ⟨?_, ?_⟩
        · show decide ((if tr2.getD (i + d) false then (cv F u k + 1) % p else cv F u k) = r) = decide ((if tr1.getD i false then (cv F u k + 1) % p else cv F u k) = r)
          rw [tr i o.1]
        · show (if tr2.getD (i + d) false then (cv F u k + 1) % p else cv F u k) = if tr1.getD i false then (cv F u k + 1) % p else cv F u k
          rw [tr i o.1]
theorem mvL_zero : ∀ f : FL, mvL 0 f = f
  | .is _ => rfl
  | .not _ => rfl
  | .and rs => by show FL.and (rs.map (· + 0)) = _; simp
  | .or rs => by show FL.or (rs.map (· + 0)) = _; simp
  | .before _ => rfl
  | .since _ _ => rfl
  | .count _ _ _ => rfl
theorem tv_pre {al : List Nat} {F X : List FL} (ok : FOk al F) (w : List Nat) {k : Nat} (h : k < F.length) : tv (F ++ X) w k = tv F w k :=
  (tv_mv (G := F ++ X) (d := 0) ok (fun k f e => by
    rw [mvL_zero, Nat.add_zero, List.getElem?_append_left (List.getElem?_eq_some_iff.mp e).1]
    exact e) w k h).1
/-- two lots of lines, the second moved behind the first -/
def joinF (fls gls : List FL) : List FL := fls ++ gls.map (mvL fls.length)
theorem joinF_len (fls gls : List FL) : (joinF fls gls).length = fls.length + gls.length := by
  unfold joinF
  rw [List.length_append, List.length_map]
theorem joinF_ok {al : List Nat} {fls gls : List FL} (h1 : FOk al fls) (h2 : FOk al gls) : FOk al (joinF fls gls) := fun k f e => by
  unfold joinF at e
  by_cases hk : k < fls.length
  · rw [List.getElem?_append_left hk] at e
    exact h1 k f e
  · obtain ⟨j, rfl⟩ := Nat.exists_eq_add_of_le (Nat.le_of_not_lt hk)
    rw [List.getElem?_append_right (by omega), Nat.add_sub_cancel_left, List.getElem?_map] at e
    cases hj : gls[j]? with
    | none => rw [hj] at e; cases e
    | some g =>
      rw [hj] at e
      cases e
      exact mvL_ok (h2 j g hj)
theorem FOk.add {al : List Nat} {fls : List FL} {f : FL} (h : FOk al fls) (o : FLOk al fls.length f) : FOk al (fls ++ [f]) := fun k g e => by
  by_cases hk : k < fls.length
  · rw [List.getElem?_append_left hk] at e
    exact h k g e
  · rw [List.getElem?_append_right (by omega)] at e
    have : k - fls.length = 0 := by
      have := (List.getElem?_eq_some_iff.mp e).1
      simp at this
      omega
    rw [this] at e
    cases e
    rw [show k = fls.length by omega]
    exact o
theorem tv_two {al : List Nat} {fls gls : List FL} {f : FL} (h1 : FOk al fls) (h2 : FOk al gls) (w : List Nat) (n1 : 1 ≤ fls.length) (n2 : 1 ≤ gls.length) :
    tv (joinF fls gls ++ [f]) w (fls.length - 1) = tv fls w (fls.length - 1) ∧ tv (joinF fls gls ++ [f]) w (fls.length + gls.length - 1) = tv gls w (gls.length - 1) := by
  refine ⟨?_, ?_⟩
  · unfold joinF
    rw [List.append_assoc]
    exact tv_pre h1 w (by omega)
  · have := (tv_mv (F := gls) (G := joinF fls gls ++ [f]) (d := fls.length) h2 (fun k g e => by
      have kl := (List.getElem?_eq_some_iff.mp e).1
      unfold joinF
      rw [List.getElem?_append_left (by rw [List.length_append, List.length_map]; omega), List.getElem?_append_right (by omega), Nat.add_sub_cancel, List.getElem?_map, e]
      rfl) w (gls.length - 1) (by omega)).1
    rw [← this]
    congr 1
    omega
theorem last_at (fls gls : List FL) (f : FL) : (joinF fls gls ++ [f])[fls.length + gls.length]? = some f := by
  rw [List.getElem?_append_right (by rw [joinF_len]; omega), joinF_len, Nat.sub_self]
  rfl
/-- what a formula of these lines says of a word of its alphabet -/
def accW (fls : List FL) (b : Bool) (w : List Nat) : Bool := if w = [] then b else tv fls w (fls.length - 1)
theorem acc_and {al : List Nat} {fls gls : List FL} {b c : Bool} (h1 : FOk al fls) (h2 : FOk al gls) (n1 : 1 ≤ fls.length) (n2 : 1 ≤ gls.length) (w : List Nat) : accW (joinF fls gls ++ [.and [fls.length - 1, fls.length + gls.length - 1]]) (b && c) w = (accW fls b w && accW gls c w) := by
  unfold accW
  by_cases hw : w = []
  · rw [if_pos hw, if_pos hw, if_pos hw]
  · rw [if_neg hw, if_neg hw, if_neg hw]
    obtain ⟨u, x, rfl⟩ : ∃ u x, w = u ++ [x] := ⟨_, _, (List.dropLast_concat_getLast hw).symm⟩
    obtain ⟨e1, e2⟩ := tv_two (f := .and [fls.length - 1, fls.length + gls.length - 1]) h1 h2 (u ++ [x]) n1 n2
    rw [List.length_append, joinF_len, List.length_singleton, Nat.add_sub_cancel, tv_and2 (last_at fls gls _) (by omega) (by omega) u x, e1, e2]
theorem acc_or {al : List Nat} {fls gls : List FL} {b c : Bool} (h1 : FOk al fls) (h2 : FOk al gls) (n1 : 1 ≤ fls.length) (n2 : 1 ≤ gls.length) (w : List Nat) : accW (joinF fls gls ++ [.or [fls.length - 1, fls.length + gls.length - 1]]) (b || c) w = (accW fls b w || accW gls c w) := by
  unfold accW
  by_cases hw : w = []
  · rw [if_pos hw, if_pos hw, if_pos hw]
  · rw [if_neg hw, if_neg hw, if_neg hw]
    obtain ⟨u, x, rfl⟩ : ∃ u x, w = u ++ [x] := ⟨_, _, (List.dropLast_concat_getLast hw).symm⟩
    obtain ⟨e1, e2⟩ := tv_two (f := .or [fls.length - 1, fls.length + gls.length - 1]) h1 h2 (u ++ [x]) n1 n2
    rw [List.length_append, joinF_len, List.length_singleton, Nat.add_sub_cancel, tv_or2 (last_at fls gls _) (by omega) (by omega) u x, e1, e2]
theorem acc_not {al : List Nat} {fls : List FL} {b : Bool} (h1 : FOk al fls) (n1 : 1 ≤ fls.length) (w : List Nat) : accW (fls ++ [.not (fls.length - 1)]) (!b) w = !accW fls b w := by
  unfold accW
  by_cases hw : w = []
  · rw [if_pos hw, if_pos hw]
  · rw [if_neg hw, if_neg hw]
    obtain ⟨u, x, rfl⟩ : ∃ u x, w = u ++ [x] := ⟨_, _, (List.dropLast_concat_getLast hw).symm⟩
    have e : (fls ++ [FL.not (fls.length - 1)])[fls.length]? = some (.not (fls.length - 1)) := by
      rw [List.getElem?_append_right (Nat.le_refl _), Nat.sub_self]
      rfl
    rw [List.length_append, List.length_singleton, Nat.add_sub_cancel, tv_not e (by omega) u x, tv_pre h1 (u ++ [x]) (by omega)]
theorem accF_W {fls : List FL} {b : Bool} {al w : List Nat} (h : ∀ c ∈ w, c ∈ al) : accF fls b al w = accW fls b w := by
  unfold accF accW
  rw [if_pos h]
  rfl

/-! ### what lines say of a text, by the law's own walk -/
def spAcc : Sp := fun vs H Q _ => ∃ (r : Addr) (al : List Nat) (fls : List FL) (b : Bool) (z : Str), vs = [.ref r, .bl b, .str z] ∧ FLs H r fls ∧ FOk al fls ∧ (1 ≤ fls.length ∧ fls.length ≤ 1000) ∧ z.length ≤ 100000 ∧ ∀ H', Same H H' → Q (.bl (accW fls b z.cps.toList)) H'
section
variable {P : Program} {w : World} {K : PySem.W.Frag} {mg : Str → Option Value} {base : Heap}
theorem ok_accepts (T : Env K mg) : FnOk P w K mg base CX0 2 T.f_accepts T.fd_accepts ["_law_lines", "_law_begin", "_law_text_here"] spAcc := by
  refine T.F_accepts.ok sc_accepts (fun vs H Q E h => ?_) (fun cdv A outer s H vs Q E hr h => ⟨_, ((pss_cons (ps_asg (pe_tup (pa_cons pe_non (pa_cons pe_non pa_nil))) (pg_tup (by rfl) (pgs_cons (pg_name (i := 3) sc_accepts.nd rfl (.inl rfl)) (pgs_cons (pg_name (i := 4) sc_accepts.nd rfl (.inl rfl)) pgs_nil))))
      (pss_cons (ps_for PassesOwn.never rfl (pi_str (pv 2)) (pg_name (i := 5) sc_accepts.nd rfl (.inl rfl))
      (pss_one (ps_asg (pe_call (ok_lnext T) (hr.mono (by decide)) (by rfl) T.g_lnext T.F_lnext.kp T.b_lnext .nil pass0 (pa_cons (pv 0) (pa_cons (pv 3) (pa_cons (pv 4) (pa_cons (pv 5) pa_nil))))) (pg_tup (by rfl) (pgs_cons (pg_name (i := 3) sc_accepts.nd rfl (.inl rfl)) (pgs_cons (pg_name (i := 4) sc_accepts.nd rfl (.inl rfl)) pgs_nil))))))
      (pss_one (ps_ret (pe_ifExp (pt_cmpR op_isN (pv 3) pe_non (nomark _)) (pv 1) (pe_ix ix_tup (pv 3) (pe_un un_neg pe_int) (fun _ _ => rfl)))))))), ?_⟩)
  · obtain ⟨r, al, fls, b, z, rfl, _⟩ := h
    rfl
  · obtain ⟨r, al, fls, b, z, rfl, hf, ok, hn, hz, q⟩ := h
    walk_at "ss"
    intro t0 nt0
    have s0 := same_upd (o := .tup [.non, .non]) nt0
    refine ⟨t0, _, rfl, SqT.of upd_same, rfl, ?_⟩
    refine ⟨_, _, rfl, _, _, rfl, rfl, ?_⟩
    walk_at "ss"
    refine for_it walk_str (fun i σ H' => Stp (∃ (x y : V) (y5 : Option V), σ = [some (.ref r), some (.bl b), some (.str z), some x, some y, y5] ∧ LastAt H' fls (z.cps.toList.take i) x y ∧ Same H H'))
      (.mk ⟨_, _, _, rfl, .inl ⟨rfl, rfl, rfl⟩, s0⟩) (fun _ _ _ _ _ => trivial) ?_ ?_
    · rintro i x σ H1 H2 hi hP ⟨rfl, c, hc, rfl⟩
      obtain ⟨x, y, y5, rfl, la, s1⟩ := hP.of
      clear hP
      rw [get_tl] at hc
      have tk : z.cps.toList.take (i + 1) = z.cps.toList.take i ++ [c] := by
        rw [List.take_add_one, hc]
        rfl
      walk_at "ss"
      refine ⟨r, x, y, c, al, fls, _, rfl, hf.same s1, ok, hn.2, la, fun u t f H3 hu la3 s3 => ?_⟩
      refine ⟨u, _, rfl, SqT.of hu, rfl, ?_⟩
      refine ⟨_, _, rfl, _, _, rfl, rfl, ?_⟩
      exact .mk ⟨_, _, _, rfl, by rw [tk]; exact la3, s1.trans s3⟩
    · rintro σ H1 hP
      obtain ⟨x, y, y5, rfl, la, s1⟩ := hP.of
      clear hP
      rw [List.take_of_length_le (by rw [size_tl]; exact Nat.le_refl _)] at la
      have q := q H1 s1
      unfold accW at q
      rcases la with ⟨e, rfl, rfl⟩ | ⟨ne, p, f, rfl, rfl, hp, hq⟩
      · rw [if_pos e] at q
        walk_at "ss"
        exact q
      · rw [if_neg ne] at q
        walk_at "ss"
        refine ⟨p, _, _, _, rfl, rfl, SqT.of hp, at_m1 ?_, q⟩
        have rl := (runL_len fls z.cps.toList).1
        rw [List.getLast?_eq_getElem?, boolL_len, rl]
        exact boolL_at (by omega)
end

variable {K : PySem.W.Frag} {mg : Str → Option Value}
/-! ### formulas joined -/
theorem n5_all : ∀ {ds : List PyData}, (∀ d ∈ ds, no5 d = true) → no5All ds = true
  | [], _ => rfl
  | d :: ds, h => by
    show (no5 d && no5All ds) = true
    rw [h d (List.mem_cons_self ..), n5_all fun x hx => h x (List.mem_cons_of_mem _ hx)]
    rfl

/-! ### good lines can be compared -/
theorem str_plain {z : Str} (h : ∀ c ∈ z.cps.toList, c < 200) : PyData.canLay0 (.str z) = true := by
  show PySem.PyData.strOk z = true
  unfold PySem.PyData.strOk
  rw [Array.all_eq_true]
  intro i hi
  have := h z.cps[i] (by simp)
  exact decide_eq_true (by omega)
theorem ints_lay : ∀ rs : List Nat, PyData.canLayAll0 (rs.map fun n => PyData.int (n : Nat)) = true ∧ PyData.depthAll (rs.map fun n => PyData.int (n : Nat)) = 0
  | [] => ⟨rfl, rfl⟩
  | _ :: rs => by
    obtain ⟨a, b⟩ := ints_lay rs
    refine ⟨?_, ?_⟩
    · show (true && PyData.canLayAll0 _) = true
      rw [a]
      rfl
    · show max 0 (PyData.depthAll _) = 0
      rw [b]
      rfl
theorem flD_lay {al : List Nat} {n : Nat} (hA : ∀ c ∈ al, c < 200) : ∀ {f : FL}, FLOk al n f → PyData.canLay0 (flD f) = true ∧ PyData.depth (flD f) ≤ 2
  | .is z, h => by
    have hz : PyData.canLay0 (.str ⟨z.toArray⟩) = true := str_plain fun c hc => by
      have hc : c ∈ z := by simpa using hc
      have h : z = al.filter (fun c => decide (c ∈ z)) := h
      rw [h] at hc
      exact hA c (List.mem_filter.mp hc).1
    refine ⟨?_, by show max 0 (max 0 0) + 1 ≤ 2; decide⟩
    show (PyData.canLay0 (.str "is") && (PyData.canLay0 (.str ⟨z.toArray⟩) && true)) = true
    rw [hz, show PyData.canLay0 (.str "is") = true by decide +kernel]
    rfl
  | .not i, _ => ⟨by show (PyData.canLay0 (.str "not") && (true && true)) = true; rw [show PyData.canLay0 (.str "not") = true by decide +kernel]; rfl, by show max 0 (max 0 0) + 1 ≤ 2; decide⟩
  | .and rs, _ => by
    obtain ⟨a, b⟩ := ints_lay rs
    refine ⟨?_, ?_⟩
    · show (PyData.canLay0 (.str "and") && (PyData.canLayAll0 _ && true)) = true
      rw [a, show PyData.canLay0 (.str "and") = true by decide +kernel]
      rfl
    · show max 0 (max (PyData.depthAll _ + 1) 0) + 1 ≤ 2
      rw [b]
      decide
  | .or rs, _ => by
    obtain ⟨a, b⟩ := ints_lay rs
    refine ⟨?_, ?_⟩
    · show (PyData.canLay0 (.str "or") && (PyData.canLayAll0 _ && true)) = true
      rw [a, show PyData.canLay0 (.str "or") = true by decide +kernel]
      rfl
    · show max 0 (max (PyData.depthAll _ + 1) 0) + 1 ≤ 2
      rw [b]
      decide
  | .before i, _ => ⟨by show (PyData.canLay0 (.str "before") && (true && true)) = true; rw [show PyData.canLay0 (.str "before") = true by decide +kernel]; rfl, by show max 0 (max 0 0) + 1 ≤ 2; decide⟩
  | .since i j, _ => ⟨by show (PyData.canLay0 (.str "since") && (true && (true && true))) = true; rw [show PyData.canLay0 (.str "since") = true by decide +kernel]; rfl, by show max 0 (max 0 (max 0 0)) + 1 ≤ 2; decide⟩
  | .count i p r, _ => ⟨by show (PyData.canLay0 (.str "count") && (true && (true && (true && true)))) = true; rw [show PyData.canLay0 (.str "count") = true by decide +kernel]; rfl, by show max 0 (max 0 (max 0 (max 0 0))) + 1 ≤ 2; decide⟩
theorem lay_all : ∀ {ds : List PyData}, (∀ d ∈ ds, PyData.canLay0 d = true ∧ PyData.depth d ≤ 2) → PyData.canLayAll0 ds = true ∧ PyData.depthAll ds ≤ 2
  | [], _ => ⟨rfl, by decide⟩
  | d :: ds, h => by
    obtain ⟨a, b⟩ := h d (List.mem_cons_self ..)
    obtain ⟨a2, b2⟩ := lay_all fun x hx => h x (List.mem_cons_of_mem _ hx)
    refine ⟨?_, ?_⟩
    · show (PyData.canLay0 d && PyData.canLayAll0 ds) = true
      rw [a, a2]
      rfl
    · show max (PyData.depth d) (PyData.depthAll ds) ≤ 2
      omega
theorem shaped_fls {al : List Nat} {fls : List FL} (hA : Alpha al) (O : FOk al fls) : SeqAt.shaped (.list (fls.map flD)) = true := by
  obtain ⟨a, b⟩ := lay_all (ds := fls.map flD) fun d hd => by
    obtain ⟨f, hf, rfl⟩ := List.mem_map.mp hd
    obtain ⟨j, hj⟩ := List.mem_iff_getElem?.mp hf
    exact flD_lay (fun c hc => by have := hA.2.2.1 c hc; omega) (O j _ hj)
  show (PyData.canLayAll0 _ && decide (PyData.depthAll _ + 1 ≤ 64)) = true
  rw [a, decide_eq_true (by omega)]
  rfl

/-- a formula of good lines, made behind H: its list is new, too -/
def FmN (C : Addr) (H0 H : Hp) (m : Addr) (al : Str) (xs : List V) (b : Bool) : Prop := ∃ dx l, H m = some (.ins C dx (formF al l (.bl b))) ∧ H l = some (.lst xs) ∧ H0 l = none ∧ H0 m = none
theorem FmN.at_ {C : Addr} {H0 H : Hp} {m : Addr} {al : Str} {xs : List V} {b : Bool} (h : FmN C H0 H m al xs b) : FmAt C H m al xs b := by
  obtain ⟨dx, l, a, c, _⟩ := h
  exact ⟨dx, l, a, c⟩
theorem FmN.mut {C : Addr} {H0 H : Hp} {m p : Addr} {al : Str} {xs : List V} {b : Bool} {o o2 : HO} (h : FmN C H0 H m al xs b) (e : H0 p = some o2) : FmAt C (upd H p o) m al xs b := by
  obtain ⟨dx, l, a, c, n1, n2⟩ := h
  exact ⟨dx, l, by rw [upd_ne (fun z => by rw [z, e] at n2; cases n2)]; exact a, by rw [upd_ne (fun z => by rw [z, e] at n1; cases n1)]; exact c⟩
theorem good_all {al : Str} {fls : List FL} (h4 : al.length ≤ 4) (O : FOk al.cps.toList fls) : (∀ j < (fls.map flD).length, standD al.cps.toList (j : Nat) ((fls.map flD).getD j .none) = true) ∧ (∀ d ∈ fls.map flD, OkD d) ∧ no5All (fls.map flD) = true := by
  have h4 : al.cps.toList.length ≤ 4 := by rw [← len_tl]; exact h4
  refine ⟨fun j hj => ?_, fun d hd => ?_, n5_all fun d hd => ?_⟩
  · rw [List.length_map] at hj
    have e : fls[j]? = some fls[j] := List.getElem?_eq_getElem hj
    rw [List.getD_eq_getElem?_getD, List.getElem?_map, e]
    exact (flD_good h4 (O j _ e)).1
  · obtain ⟨f, hf, rfl⟩ := List.mem_map.mp hd
    obtain ⟨j, hj⟩ := List.mem_iff_getElem?.mp hf
    exact (flD_good h4 (O j _ hj)).2.1
  · obtain ⟨f, hf, rfl⟩ := List.mem_map.mp hd
    obtain ⟨j, hj⟩ := List.mem_iff_getElem?.mp hf
    exact (flD_good h4 (O j _ hj)).2.2
theorem mk_use (T : Env K mg) {H : Hp} {x dx r : Addr} {al : Str} {ps : List Addr} {fls : List FL} {b : Bool} {Q : VK} {E : XK} {o : HO} (hx : H x = none) (hd : H dx = none) (ne : dx ≠ x) (hr : H r = some o) (hS : SqA K H r (ps.map V.ref)) (F : FLp H ps fls) (O : FOk al.cps.toList fls) (hA : Alpha al.cps.toList)
    (h1 : 1 ≤ fls.length) (h2 : fls.length ≤ 4000) (q : ∀ H', Same H H' → FmN T.C_Formula H H' x al (ps.map V.ref) b → Q .non H') : spFX K T [.ref x, .str al, .ref r, .bl b] (upd (upd H dx (.own x)) x (.ins T.C_Formula dx [])) Q E := by
  have sA : Same H (upd (upd H dx (.own x)) x (.ins T.C_Formula dx [])) := (same_upd hd).trans (same_upd (by rw [upd_ne ne.symm]; exact hx))
  have al4 : al.length ≤ 4 := by rw [len_tl]; exact hA.2.1
  have g := good_all al4 O
  have pl : (ps.map V.ref).length = fls.length := by rw [List.length_map, F.1]
  refine ⟨x, dx, .str al, .ref r, .bl b, rfl, upd_same, .inr ⟨al, rfl, hA, .inr ⟨r, ps.map V.ref, rfl, ne_of_none hr hx, hS.same sA, by omega, by omega, .inr ⟨by omega, fls.map flD, (F.same sA).dp, g.2.1, .inr ⟨g.1, fun H' l k e1 e2 e3 => ?_⟩⟩⟩⟩⟩
  have nl : H l = none := by
    cases e : H l with
    | none => rfl
    | some u => rw [sA _ _ e] at e2; cases e2
  exact q H' (fun c o h => k c o (ne_of_none h hx) (sA c o h)) ⟨dx, l, e1, e3, nl, hx⟩

theorem short_of {al : List Nat} {fls : List FL} (O : FOk al fls) {i : Nat} {f : FL} (h : fls[i]? = some f) : ∀ rs, f = .and rs ∨ f = .or rs → rs.length ≤ 100 := fun rs e => by
  have o := O i f h
  rcases e with rfl | rfl
  · exact o.2.2
  · exact o.2.2
/-- two formulas, and what is known of them -/
structure TwoF (C : Addr) (H : Hp) (m m2 : Addr) (al al2 : Str) (ps qs : List Addr) (fls gls : List FL) (b b2 : Bool) : Prop where
  one : FmAt C H m al (ps.map V.ref) b
  two : FmAt C H m2 al2 (qs.map V.ref) b2
  fl : FLp H ps fls
  gl : FLp H qs gls
  ok1 : FOk al.cps.toList fls
  ok2 : FOk al2.cps.toList gls
  alp : Alpha al.cps.toList
  l1 : 1 ≤ fls.length ∧ fls.length ≤ 4000
  l2 : 1 ≤ gls.length ∧ gls.length ≤ 4000
theorem TwoF.same {C : Addr} {H H' : Hp} {m m2 : Addr} {al al2 : Str} {ps qs : List Addr} {fls gls : List FL} {b b2 : Bool} (t : TwoF C H m m2 al al2 ps qs fls gls b b2) (s : Same H H') : TwoF C H' m m2 al al2 ps qs fls gls b b2 :=
  ⟨t.one.same s, t.two.same s, t.fl.same s, t.gl.same s, t.ok1, t.ok2, t.alp, t.l1, t.l2⟩
def spBoth (K : PySem.W.Frag) (T : Env K mg) : Sp := fun vs H Q E => ∃ (m m2 : Addr) (al al2 kd : Str) (ps qs : List Addr) (fls gls : List FL) (b b2 : Bool), vs = [.ref m, .ref m2, .str kd] ∧ TwoF T.C_Formula H m m2 al al2 ps qs fls gls b b2 ∧
  ((al ≠ al2 ∧ ∀ d H', Same H H' → H' d = some (.xd [("code", .str "AlphabetsDiffer")]) → E (.ref T.C_AlphabetsDiffer) (some d) H') ∨
   (al = al2 ∧ ∀ (r : Addr) (rs : List Addr) (t q : Addr) (H' : Hp), Same H H' → H' r = some (.lst ((rs ++ [t]).map V.ref)) → FLp H' rs (joinF fls gls) → H' t = some (.tup [.str kd, .ref q]) → H' q = some (.tup (natL [fls.length - 1, fls.length + gls.length - 1])) → Q (.ref r) H'))
def mkAnd (fls gls : List FL) : List FL := joinF fls gls ++ [.and [fls.length - 1, fls.length + gls.length - 1]]
def mkOr (fls gls : List FL) : List FL := joinF fls gls ++ [.or [fls.length - 1, fls.length + gls.length - 1]]
theorem mkAnd_len (fls gls : List FL) : (mkAnd fls gls).length = fls.length + gls.length + 1 := by
  unfold mkAnd
  rw [List.length_append, joinF_len]
  rfl
theorem mkOr_len (fls gls : List FL) : (mkOr fls gls).length = fls.length + gls.length + 1 := by
  unfold mkOr
  rw [List.length_append, joinF_len]
  rfl
def spOp (K : PySem.W.Frag) (T : Env K mg) (mk : List FL → List FL → List FL) (fb : Bool → Bool → Bool) : Sp := fun vs H Q E => ∃ (m m2 : Addr) (al al2 : Str) (ps qs : List Addr) (fls gls : List FL) (b b2 : Bool), vs = [.ref m, .ref m2] ∧ TwoF T.C_Formula H m m2 al al2 ps qs fls gls b b2 ∧
  ((al ≠ al2 ∧ ∀ d H', Same H H' → H' d = some (.xd [("code", .str "AlphabetsDiffer")]) → E (.ref T.C_AlphabetsDiffer) (some d) H') ∨
   (al = al2 ∧ fls.length + gls.length + 1 ≤ 4000 ∧ ∀ (x : Addr) (rs : List Addr) (H' : Hp), Same H H' → FmN T.C_Formula H H' x al (rs.map V.ref) (fb b b2) → FLp H' rs (mk fls gls) → Q (.ref x) H') ∨
   (al = al2 ∧ 4000 < fls.length + gls.length + 1 ∧ ∀ d H', Same H H' → H' d = some (.xd [("code", .str "TooMany"), ("most", .int 4000), ("subject", .str "lines")]) → E (.ref T.C_TooMany) (some d) H'))
def spNegF (K : PySem.W.Frag) (T : Env K mg) : Sp := fun vs H Q E => ∃ (m : Addr) (al : Str) (ps : List Addr) (fls : List FL) (b : Bool), vs = [.ref m] ∧ FmAt T.C_Formula H m al (ps.map V.ref) b ∧ FLp H ps fls ∧ FOk al.cps.toList fls ∧ Alpha al.cps.toList ∧ (1 ≤ fls.length ∧ fls.length ≤ 4000) ∧
  ((fls.length + 1 ≤ 4000 ∧ ∀ (x : Addr) (rs : List Addr) (H' : Hp), Same H H' → FmN T.C_Formula H H' x al (rs.map V.ref) (!b) → FLp H' rs (fls ++ [.not (fls.length - 1)]) → Q (.ref x) H') ∨
   (4000 < fls.length + 1 ∧ ∀ d H', Same H H' → H' d = some (.xd [("code", .str "TooMany"), ("most", .int 4000), ("subject", .str "lines")]) → E (.ref T.C_TooMany) (some d) H'))
theorem FLAt.keep {H H' : Hp} {p : Addr} (k : TupKeep H H') : ∀ {f : FL}, FLAt H p f → FLAt H' p f
  | .is _, h => k _ _ h
  | .not _, h => k _ _ h
  | .and _, ⟨q, a, b⟩ => ⟨q, k _ _ a, k _ _ b⟩
  | .or _, ⟨q, a, b⟩ => ⟨q, k _ _ a, k _ _ b⟩
  | .before _, h => k _ _ h
  | .since _ _, h => k _ _ h
  | .count _ _ _, h => k _ _ h
theorem FLp.of {H : Hp} {gls : List FL} {n : Nat} : ∀ {ys : List V}, ys.length = gls.length → (∀ (i : Nat) (y : V), ys[i]? = some y → ∃ q g, gls[i]? = some g ∧ y = .ref q ∧ FLAt H q (mvL n g)) → ∃ qs : List Addr, ys = qs.map V.ref ∧ FLp H qs (gls.map (mvL n)) := by
  induction gls with
  | nil =>
    intro ys hl _
    exact ⟨[], List.eq_nil_of_length_eq_zero hl, FLp.nil⟩
  | cons g gls ih =>
    intro ys hl h
    cases ys with
    | nil => simp at hl
    | cons y ys =>
      obtain ⟨q, g2, e1, rfl, e2⟩ := h 0 y rfl
      cases e1
      obtain ⟨qs, e3, e4⟩ := ih (ys := ys) (by simpa using hl) fun i z hz => h (i + 1) z hz
      exact ⟨q :: qs, by rw [e3]; rfl, FLp.cons e2 e4⟩
/-- the formula of the joined lines is made, or there are too many -/
theorem join_end (T : Env K mg) {H H1 : Hp} {x dx r : Addr} {al : Str} {rs : List Addr} {F : List FL} {v : Bool} {Q : VK} {E : XK} (s1 : Same H H1) (x0 : H1 x = none) (dx0 : H1 dx = none) (ne : dx ≠ x) (hr : H1 r = some (.lst (rs.map V.ref))) (fl : FLp H1 rs F) (ok : FOk al.cps.toList F) (hA : Alpha al.cps.toList) (l1 : 1 ≤ F.length) (lm : F.length ≤ 10000)
    (h : (F.length ≤ 4000 ∧ ∀ (x : Addr) (rs : List Addr) (H' : Hp), Same H H' → FmN T.C_Formula H H' x al (rs.map V.ref) v → FLp H' rs F → Q (.ref x) H') ∨ (4000 < F.length ∧ ∀ d H', Same H H' → H' d = some (.xd [("code", .str "TooMany"), ("most", .int 4000), ("subject", .str "lines")]) → E (.ref T.C_TooMany) (some d) H')) :
    spFX K T [.ref x, .str al, .ref r, .bl v] (upd (upd H1 dx (.own x)) x (.ins T.C_Formula dx [])) (fun u H' => u = .non ∧ Q (.ref x) H') E := by
  have sA : Same H1 (upd (upd H1 dx (.own x)) x (.ins T.C_Formula dx [])) := (same_upd dx0).trans (same_upd (by rw [upd_ne ne.symm]; exact x0))
  have rl : (rs.map V.ref).length = F.length := by rw [List.length_map]; exact fl.1
  rcases h with ⟨few, q⟩ | ⟨many, q⟩
  · refine mk_use T x0 dx0 ne hr (.inl (SqL.of hr)) fl ok hA l1 few fun H2 s2 M2 => ⟨rfl, ?_⟩
    obtain ⟨dx4, l4, a1, a2, a3, a4⟩ := M2
    exact q x rs H2 (s1.trans s2) ⟨dx4, l4, a1, a2, s1.free a3, s1.free a4⟩ (fl.same s2)
  · exact ⟨x, dx, _, _, _, rfl, upd_same, .inr ⟨al, rfl, hA, .inr ⟨r, _, rfl, ne_of_none hr x0, .inl (SqL.of (sA _ _ hr)), by omega, by omega, .inl ⟨by omega, fun d H6 s6 e6 => q d H6 (s1.trans (sA.trans s6)) e6⟩⟩⟩⟩
theorem two_ok {n m : Nat} (h1 : 1 ≤ n) (h2 : 1 ≤ m) : (∀ r ∈ [n - 1, n + m - 1], r < n + m) ∧ [n - 1, n + m - 1].Pairwise (· < ·) ∧ [n - 1, n + m - 1].length ≤ 100 := by
  refine ⟨fun r hr => ?_, ?_, by show 2 ≤ 100; decide⟩
  · simp at hr
    omega
  · simp
    omega
section
variable {P : Program} {w : World} {base : Heap}
theorem ok_Formula__both_lines (T : Env K mg) : FnOk P w K mg base (L2.CX P w) 3 T.f_Formula__both_lines T.fd_Formula__both_lines ["self", "other", "kind"] (spBoth K T) := by
  refine T.F_Formula__both_lines.okX sc_Formula__both_lines (fun vs H Q E h => ?_) (fun cdv A outer s H vs Q E hr h => ⟨_, ((pss_cons (ps_if (pt_cmpR op_ne (pe_fld (pv 0) rfl) (pe_fld (pv 1) rfl) (nomark _))
      (pss_one (ps_raise rfl (takes_of rfl rfl rfl rfl) (pmk_oex0 T.x_AlphabetsDiffer T.i_AlphabetsDiffer___init T.t_AlphabetsDiffer___init (ok_AlphabetsDiffer___init T) (hr.mono (by decide)) T.b_AlphabetsDiffer___init pass0 (by rfl) T.gC_AlphabetsDiffer)))
      pss_nil)
      (pss_cons (ps_set (i := 3) sc_Formula__both_lines.nd rfl (.inr rfl) (pe_callB call_len_seq (by rfl) T.z_len (by decide +kernel) (pa_cons (pe_fld (pv 0) rfl) pa_nil)))
      (pss_cons (ps_set (i := 4) sc_Formula__both_lines.nd rfl (.inl rfl) (pe_op op_cat (pe_fld (pv 0) rfl) (pe_lc (own := [("line", 5)]) (g := (gName 5)) (tt := tYes) rfl sc_Formula__both_lines.nd (pi_list (pe_fld (pv 1) rfl)) (blkOk_by (own := [("line", 5)]) (N := N_Formula__both_lines) (sc := defScope s_Formula__both_lines) (by decide +kernel)) (fun _ _ _ _ _ => (pg_name (i := 5) sc_Formula__both_lines.nd rfl (.inl rfl))) (fun _ _ _ _ _ => pts_nil) (fun _ _ _ _ _ => (pe_call (ok_moved_line T) (hr.mono (by decide)) (by rfl) T.g_moved_line T.F_moved_line.kp T.b_moved_line .nil pass0 (pa_cons (pv 5) (pa_cons (pv 3) pa_nil)))))))
      (pss_one (ps_ret (pe_lst (StX.pa_star (pv 4) (pa_cons (pe_tup (pa_cons (pv 2) (pa_cons (pe_tup (pa_cons (pe_op op_sub (pv 3) pe_int) (pa_cons (pe_op op_sub (pe_callB call_len_seq (by rfl) T.z_len (by decide +kernel) (pa_cons (pv 4) pa_nil)) pe_int) pa_nil))) pa_nil))) pa_nil))))))))), ?_⟩)
  · obtain ⟨m, m2, al, al2, kd, ps, qs, fls, gls, b, b2, rfl, _⟩ := h
    rfl
  · obtain ⟨m, m2, al, al2, kd, ps, qs, fls, gls, b, b2, rfl, tw, h⟩ := h
    obtain ⟨dx, l, hm, hl⟩ := id tw.one
    obtain ⟨dx2, l2, hm2, hl2⟩ := id tw.two
    have pl := tw.fl.1
    have ql := tw.gl.1
    have n1 := tw.l1
    have n2 := tw.l2
    walk_at "ss"
    first | refine ⟨m, T.C_Formula, dx, _, _, rfl, hm, T.cl_Formula, T.n_Formula__alphabet, rfl, ?_⟩ | refine ⟨_, rfl, m, T.C_Formula, dx, _, _, rfl, hm, T.cl_Formula, T.n_Formula__alphabet, rfl, ?_⟩
    first | refine ⟨m2, T.C_Formula, dx2, _, _, rfl, hm2, T.cl_Formula, T.n_Formula__alphabet, rfl, ?_⟩ | refine ⟨_, rfl, m2, T.C_Formula, dx2, _, _, rfl, hm2, T.cl_Formula, T.n_Formula__alphabet, rfl, ?_⟩
    walk_at "ss"
    rcases h with ⟨ne, q⟩ | ⟨rfl, q⟩
    · refine ite2 (fun e => ?_) (fun e => ?_)
      · walk_at "ss"
        first | exact diff_out fun d G _ s1 e1 => q d G s1 e1 | exact (diff_out fun d G _ s1 e1 => q d G s1 e1).2
      · exfalso
        refine ne ?_
        have : decide (V.str al = V.str al2) = true := by simpa using e
        injection of_decide_eq_true this
    refine ite2 (fun e => ?_) (fun e => ?_)
    · simp at e
    walk_at "ss"
    first | refine ⟨m, T.C_Formula, dx, _, _, rfl, hm, T.cl_Formula, T.n_Formula__lines, rfl, ?_⟩ | refine ⟨_, rfl, m, T.C_Formula, dx, _, _, rfl, hm, T.cl_Formula, T.n_Formula__lines, rfl, ?_⟩
    refine ⟨l, _, rfl, .inl (SqL.of hl), ?_⟩
    rw [List.length_map, pl]
    walk_at "ss"
    first | refine ⟨m, T.C_Formula, dx, _, _, rfl, hm, T.cl_Formula, T.n_Formula__lines, rfl, ?_⟩ | refine ⟨_, rfl, m, T.C_Formula, dx, _, _, rfl, hm, T.cl_Formula, T.n_Formula__lines, rfl, ?_⟩
    first | refine ⟨m2, T.C_Formula, dx2, _, _, rfl, hm2, T.cl_Formula, T.n_Formula__lines, rfl, ?_⟩ | refine ⟨_, rfl, m2, T.C_Formula, dx2, _, _, rfl, hm2, T.cl_Formula, T.n_Formula__lines, rfl, ?_⟩
    refine ⟨l2, rfl, ⟨_, SqL.of hl2⟩, ?_⟩
    intro D hD
    refine lc_genH walk_list (fun H' => Same H H') (fun i y H' => ∃ q g, gls[i]? = some g ∧ y = .ref q ∧ FLAt H' q (mvL fls.length g)) (by rw [List.length_map]; omega) (same_upd hD) (fun _ h => h.seq (SqL.of hl2)) (fun _ _ h => same_mut h hD)
      (fun i y H1 H2 tk ⟨q, g, e1, e2, e3⟩ => ⟨q, g, e1, e2, e3.keep tk⟩) ?_ ?_
    · rintro i x H1 H2 Q1 hlt hI ⟨rfl, hx⟩ - hQ
      rw [List.getElem?_map] at hx
      cases hp : qs[i]? with
      | none => rw [hp] at hx; cases hx
      | some pi =>
      rw [hp] at hx
      cases hx
      have il := (List.getElem?_eq_some_iff.mp hp).1
      have hg : gls[i]? = some gls[i] := List.getElem?_eq_getElem (by omega)
      walk_at "ss"
      exact ⟨pi, _, fls.length, rfl, (tw.gl.2 i pi _ hp hg).same hI, short_of tw.ok2 hg, fun q0 H3 s3 hq => hQ _ _ ⟨q0, _, hg, rfl, hq⟩ (hI.trans s3) (TupKeep.of s3) fun o ho => s3 _ _ ho⟩
    · intro H1 ys hI hy hl1 hr1
      obtain ⟨qs2, rfl, fq⟩ := FLp.of (by rw [hl1, List.length_map, ql]) hr1
      have q2l := fq.1
      rw [List.length_map] at q2l
      walk_at "ss"
      refine ⟨l, D, _, _, rfl, rfl, hI _ _ hl, hy, sz (by rw [List.length_map, List.length_map]; omega), fun L nL => ?_⟩
      rw [← List.map_append]
      have s1 := same_upd (o := .lst ((ps ++ qs2).map V.ref)) nL
      have hL := upd_same (H := H1) (a := L) (o := .lst ((ps ++ qs2).map V.ref))
      have fj : FLp _ (ps ++ qs2) (joinF fls gls) := FLp.app (fq.same s1) (tw.fl.same (hI.trans s1))
      have S := hI.trans s1
      clear hI s1 hy fq nL
      generalize upd H1 L (.lst ((ps ++ qs2).map V.ref)) = H2 at *
      walk_at "ss"
      refine ⟨L, _, rfl, .inr (SqL.of hL), ?_⟩
      walk_at "ss"
      refine ⟨L, _, rfl, .inl (SqL.of hL), ?_⟩
      rw [List.length_map, List.length_append, pl, q2l]
      walk_at "ss"
      intro q0 nq
      have s1 := same_upd (o := .tup (natL [fls.length - 1, fls.length + gls.length - 1])) nq
      rw [show ([V.int (((fls.length : Nat) : Int) - 1), V.int (((fls.length + gls.length : Nat) : Int) - 1)] : List V) = natL [fls.length - 1, fls.length + gls.length - 1] from by
        show _ = [V.int ((fls.length - 1 : Nat) : Int), V.int ((fls.length + gls.length - 1 : Nat) : Int)]
        rw [show ((fls.length : Nat) : Int) - 1 = ((fls.length - 1 : Nat) : Int) by omega, show ((fls.length + gls.length : Nat) : Int) - 1 = ((fls.length + gls.length - 1 : Nat) : Int) by omega]]
      walk_at "ss"
      intro t0 nt
      have s2 := same_upd (o := .tup [.str kd, .ref q0]) nt
      refine ⟨sz (by rw [List.length_append, List.length_map, List.length_append]; show ps.length + qs2.length + 1 ≤ 100000; omega), fun R nR => ?_⟩
      rw [show ((ps ++ qs2).map V.ref ++ [V.ref t0]) = ((ps ++ qs2) ++ [t0]).map V.ref from by simp]
      have s3 := same_upd (o := .lst (((ps ++ qs2) ++ [t0]).map V.ref)) nR
      have s23 := s2.trans s3
      exact q R (ps ++ qs2) t0 q0 _ (S.trans (s1.trans s23)) upd_same (fj.same (s1.trans s23)) (s3 _ _ upd_same) (s23 _ _ upd_same)
theorem and_join {b : Bool} {A : TE} {σ : L2.St} {H : Hp} {Q : VK} (R : V → Hp → Prop) (hA : b = true → ∀ Q2 : VK, (∀ v H', R v H' → Q2 v H') → A σ H Q2) (hB : b = false → R (.bl false) H) (q : ∀ v H', R v H' → Q v H') : if b = true then A σ H Q else Q (.bl false) H := by
  cases b with
  | true => exact hA rfl Q q
  | false => exact q _ _ (hB rfl)
theorem or_join {b : Bool} {A : TE} {σ : L2.St} {H : Hp} {Q : VK} (R : V → Hp → Prop) (hA : b = false → ∀ Q2 : VK, (∀ v H', R v H' → Q2 v H') → A σ H Q2) (hB : b = true → R (.bl true) H) (q : ∀ v H', R v H' → Q v H') : if b = true then Q (.bl true) H else A σ H Q := by
  cases b with
  | true => exact q _ _ (hB rfl)
  | false => exact hA rfl Q q
theorem ok_Formula___and (T : Env K mg) : FnOk P w K mg base (L2.CX P w) 9 T.f_Formula___and T.fd_Formula___and ["self", "other"] (spOp K T mkAnd (· && ·)) := by
  refine T.F_Formula___and.okX sc_Formula___and (fun vs H Q E h => ?_) (fun cdv A outer s H vs Q E hr h => ⟨_, ((pss_cons (ps_set (i := 2) sc_Formula___and.nd rfl (.inl rfl) (pe_meth (pv 0) T.cl_Formula T.m_Formula__both_lines (ok_Formula__both_lines T) (hr.mono (by decide)) T.b_Formula__both_lines .nil (passE (takes_of rfl rfl rfl rfl)) (pa_cons (pv 1) (pa_cons pe_str pa_nil))))
      (pss_one (ps_ret (pe_makeK T.k_Formula___init (ok_Formula___init T) (hr.mono (by decide)) (by rfl) T.gC_Formula T.b_Formula___init (passE (takes_of rfl rfl rfl rfl)) (pa_cons (pe_fld (pv 0) rfl) (pa_cons (pv 2) pa_nil)) (pk_cons (pe_and (pe_fld (pv 0) rfl) (pe_one (pe_fld (pv 1) rfl))) pk_nil)))))), ?_⟩)
  · obtain ⟨m, m2, al, al2, ps, qs, fls, gls, b, b2, rfl, _⟩ := h
    rfl
  · obtain ⟨m, m2, al, al2, ps, qs, fls, gls, b, b2, rfl, tw, h⟩ := h
    obtain ⟨dx, l, hm, hl⟩ := id tw.one
    obtain ⟨dx2, l2, hm2, hl2⟩ := id tw.two
    walk_at "ss"
    refine ⟨m, dx, _, rfl, hm, rfl, ?_⟩
    walk_at "ss"
    refine ⟨m, m2, al, al2, "and", ps, qs, fls, gls, b, b2, rfl, tw, ?_⟩
    rcases h with ⟨ne, q⟩ | h
    · exact .inl ⟨ne, fun d H' s1 e => q d H' s1 e⟩
    obtain rfl : al = al2 := by
      rcases h with ⟨e, _⟩ | ⟨e, _⟩ <;> exact e
    refine .inr ⟨rfl, fun r rs t q0 H1 s1 hr1 fj ht hq => ?_⟩
    have hm1 := s1 _ _ hm
    have hm21 := s1 _ _ hm2
    walk_at "ss"
    first | refine ⟨m, T.C_Formula, dx, _, _, rfl, hm1, T.cl_Formula, T.n_Formula__alphabet, rfl, ?_⟩ | refine ⟨_, rfl, m, T.C_Formula, dx, _, _, rfl, hm1, T.cl_Formula, T.n_Formula__alphabet, rfl, ?_⟩
    walk_at "ss"
    first | refine ⟨m, T.C_Formula, dx, _, _, rfl, hm1, T.cl_Formula, T.n_Formula__first, rfl, ?_⟩ | refine ⟨_, rfl, m, T.C_Formula, dx, _, _, rfl, hm1, T.cl_Formula, T.n_Formula__first, rfl, ?_⟩
    refine ⟨b, rfl, ?_⟩
    refine and_join (fun v H' => v = .bl (b && b2) ∧ H' = H1) (fun e Q2 hQ2 => ?_) (fun e => ⟨by rw [e]; rfl, rfl⟩) ?_
    · walk_at "ss"
      first | refine ⟨m2, T.C_Formula, dx2, _, _, rfl, hm21, T.cl_Formula, T.n_Formula__first, rfl, ?_⟩ | refine ⟨_, rfl, m2, T.C_Formula, dx2, _, _, rfl, hm21, T.cl_Formula, T.n_Formula__first, rfl, ?_⟩
      exact hQ2 _ _ ⟨by rw [e]; rfl, rfl⟩
    rintro v H' ⟨rfl, rfl⟩
    walk_at "ss"
    intro x dx3 x0 dx30 ne3
    refine join_end T s1 x0 dx30 ne3 hr1 (F := mkAnd fls gls) (FLp.app (FLp.cons (f := .and [fls.length - 1, fls.length + gls.length - 1]) ⟨q0, ht, hq⟩ FLp.nil) fj) ((joinF_ok tw.ok1 tw.ok2).add (by rw [joinF_len]; exact two_ok tw.l1.1 tw.l2.1)) tw.alp (by rw [mkAnd_len]; omega) (by rw [mkAnd_len]; have := tw.l1.2; have := tw.l2.2; omega) ?_
    rw [mkAnd_len]
    rcases h with ⟨-, few, q⟩ | ⟨-, many, q⟩
    · exact .inl ⟨few, q⟩
    · exact .inr ⟨many, q⟩
theorem ok_Formula___or (T : Env K mg) : FnOk P w K mg base (L2.CX P w) 9 T.f_Formula___or T.fd_Formula___or ["self", "other"] (spOp K T mkOr (· || ·)) := by
  refine T.F_Formula___or.okX sc_Formula___or (fun vs H Q E h => ?_) (fun cdv A outer s H vs Q E hr h => ⟨_, ((pss_cons (ps_set (i := 2) sc_Formula___or.nd rfl (.inl rfl) (pe_meth (pv 0) T.cl_Formula T.m_Formula__both_lines (ok_Formula__both_lines T) (hr.mono (by decide)) T.b_Formula__both_lines .nil (passE (takes_of rfl rfl rfl rfl)) (pa_cons (pv 1) (pa_cons pe_str pa_nil))))
      (pss_one (ps_ret (pe_makeK T.k_Formula___init (ok_Formula___init T) (hr.mono (by decide)) (by rfl) T.gC_Formula T.b_Formula___init (passE (takes_of rfl rfl rfl rfl)) (pa_cons (pe_fld (pv 0) rfl) (pa_cons (pv 2) pa_nil)) (pk_cons (pe_or (pe_fld (pv 0) rfl) (pe_one (pe_fld (pv 1) rfl))) pk_nil)))))), ?_⟩)
  · obtain ⟨m, m2, al, al2, ps, qs, fls, gls, b, b2, rfl, _⟩ := h
    rfl
  · obtain ⟨m, m2, al, al2, ps, qs, fls, gls, b, b2, rfl, tw, h⟩ := h
    obtain ⟨dx, l, hm, hl⟩ := id tw.one
    obtain ⟨dx2, l2, hm2, hl2⟩ := id tw.two
    walk_at "ss"
    refine ⟨m, dx, _, rfl, hm, rfl, ?_⟩
    walk_at "ss"
    refine ⟨m, m2, al, al2, "or", ps, qs, fls, gls, b, b2, rfl, tw, ?_⟩
    rcases h with ⟨ne, q⟩ | h
    · exact .inl ⟨ne, fun d H' s1 e => q d H' s1 e⟩
    obtain rfl : al = al2 := by
      rcases h with ⟨e, _⟩ | ⟨e, _⟩ <;> exact e
    refine .inr ⟨rfl, fun r rs t q0 H1 s1 hr1 fj ht hq => ?_⟩
    have hm1 := s1 _ _ hm
    have hm21 := s1 _ _ hm2
    walk_at "ss"
    first | refine ⟨m, T.C_Formula, dx, _, _, rfl, hm1, T.cl_Formula, T.n_Formula__alphabet, rfl, ?_⟩ | refine ⟨_, rfl, m, T.C_Formula, dx, _, _, rfl, hm1, T.cl_Formula, T.n_Formula__alphabet, rfl, ?_⟩
    walk_at "ss"
    first | refine ⟨m, T.C_Formula, dx, _, _, rfl, hm1, T.cl_Formula, T.n_Formula__first, rfl, ?_⟩ | refine ⟨_, rfl, m, T.C_Formula, dx, _, _, rfl, hm1, T.cl_Formula, T.n_Formula__first, rfl, ?_⟩
    refine ⟨b, rfl, ?_⟩
    refine or_join (fun v H' => v = .bl (b || b2) ∧ H' = H1) (fun e Q2 hQ2 => ?_) (fun e => ⟨by rw [e]; rfl, rfl⟩) ?_
    · walk_at "ss"
      first | refine ⟨m2, T.C_Formula, dx2, _, _, rfl, hm21, T.cl_Formula, T.n_Formula__first, rfl, ?_⟩ | refine ⟨_, rfl, m2, T.C_Formula, dx2, _, _, rfl, hm21, T.cl_Formula, T.n_Formula__first, rfl, ?_⟩
      exact hQ2 _ _ ⟨by rw [e]; rfl, rfl⟩
    rintro v H' ⟨rfl, rfl⟩
    walk_at "ss"
    intro x dx3 x0 dx30 ne3
    refine join_end T s1 x0 dx30 ne3 hr1 (F := mkOr fls gls) (FLp.app (FLp.cons (f := .or [fls.length - 1, fls.length + gls.length - 1]) ⟨q0, ht, hq⟩ FLp.nil) fj) ((joinF_ok tw.ok1 tw.ok2).add (by rw [joinF_len]; exact two_ok tw.l1.1 tw.l2.1)) tw.alp (by rw [mkOr_len]; omega) (by rw [mkOr_len]; have := tw.l1.2; have := tw.l2.2; omega) ?_
    rw [mkOr_len]
    rcases h with ⟨-, few, q⟩ | ⟨-, many, q⟩
    · exact .inl ⟨few, q⟩
    · exact .inr ⟨many, q⟩
theorem ok_Formula___neg (T : Env K mg) : FnOk P w K mg base (L2.CX P w) 9 T.f_Formula___neg T.fd_Formula___neg ["self"] (spNegF K T) := by
  refine T.F_Formula___neg.okX sc_Formula___neg (fun vs H Q E h => ?_) (fun cdv A outer s H vs Q E hr h => ⟨_, ((pss_cons (ps_set (i := 1) sc_Formula___neg.nd rfl (.inl rfl) (pe_lst (StX.pa_star (pe_fld (pv 0) rfl) (pa_cons (pe_tup (pa_cons pe_str (pa_cons (pe_op op_sub (pe_callB call_len_seq (by rfl) T.z_len (by decide +kernel) (pa_cons (pe_fld (pv 0) rfl) pa_nil)) pe_int) pa_nil))) pa_nil))))
      (pss_one (ps_ret (pe_makeK T.k_Formula___init (ok_Formula___init T) (hr.mono (by decide)) (by rfl) T.gC_Formula T.b_Formula___init (passE (takes_of rfl rfl rfl rfl)) (pa_cons (pe_fld (pv 0) rfl) (pa_cons (pv 1) pa_nil)) (pk_cons (pe_not (pe_fld (pv 0) rfl)) pk_nil)))))), ?_⟩)
  · obtain ⟨m, al, ps, fls, b, rfl, _⟩ := h
    rfl
  · obtain ⟨m, al, ps, fls, b, rfl, one, fl, ok, hA, l1, h⟩ := h
    obtain ⟨dx, l, hm, hl⟩ := id one
    have pl := fl.1
    have psl : ps.length ≤ 4000 := by omega
    walk_at "ss"
    first | refine ⟨m, T.C_Formula, dx, _, _, rfl, hm, T.cl_Formula, T.n_Formula__lines, rfl, ?_⟩ | refine ⟨_, rfl, m, T.C_Formula, dx, _, _, rfl, hm, T.cl_Formula, T.n_Formula__lines, rfl, ?_⟩
    refine ⟨l, _, rfl, .inr (SqL.of hl), ?_⟩
    walk_at "ss"
    first | refine ⟨m, T.C_Formula, dx, _, _, rfl, hm, T.cl_Formula, T.n_Formula__lines, rfl, ?_⟩ | refine ⟨_, rfl, m, T.C_Formula, dx, _, _, rfl, hm, T.cl_Formula, T.n_Formula__lines, rfl, ?_⟩
    refine ⟨l, _, rfl, .inl (SqL.of hl), ?_⟩
    rw [List.length_map, pl]
    walk_at "ss"
    intro t nt
    have s1 := same_upd (o := .tup [.str "not", .int ((fls.length - 1 : Nat) : Int)]) nt
    rw [show (fun i j : Int => V.int (i - j)) ((fls.length : Nat) : Int) 1 = V.int ((fls.length - 1 : Nat) : Int) from congrArg V.int (by omega)]
    have ht := upd_same (H := H) (a := t) (o := .tup [.str "not", .int ((fls.length - 1 : Nat) : Int)])
    refine ⟨sz (by rw [List.length_append, List.length_map]; show ps.length + 1 ≤ 100000; omega), fun r nr => ?_⟩
    rw [show (ps.map V.ref ++ [V.ref t]) = (ps ++ [t]).map V.ref from by simp]
    have s2 := same_upd (o := .lst ((ps ++ [t]).map V.ref)) nr
    have S := s1.trans s2
    have hr1 := upd_same (H := upd H t (.tup [.str "not", .int ((fls.length - 1 : Nat) : Int)])) (a := r) (o := .lst ((ps ++ [t]).map V.ref))
    have ht2 := s2 _ _ ht
    have fl2 := fl.same S
    have hm1 := S _ _ hm
    clear s1 s2 nt nr ht
    generalize upd (upd H t (.tup [.str "not", .int ((fls.length - 1 : Nat) : Int)])) r (.lst ((ps ++ [t]).map V.ref)) = H1 at *
    walk_at "ss"
    first | refine ⟨m, T.C_Formula, dx, _, _, rfl, hm1, T.cl_Formula, T.n_Formula__alphabet, rfl, ?_⟩ | refine ⟨_, rfl, m, T.C_Formula, dx, _, _, rfl, hm1, T.cl_Formula, T.n_Formula__alphabet, rfl, ?_⟩
    walk_at "ss"
    first | refine ⟨m, T.C_Formula, dx, _, _, rfl, hm1, T.cl_Formula, T.n_Formula__first, rfl, ?_⟩ | refine ⟨_, rfl, m, T.C_Formula, dx, _, _, rfl, hm1, T.cl_Formula, T.n_Formula__first, rfl, ?_⟩
    walk_at "ss"
    intro x dx3 x0 dx30 ne3
    refine join_end T S x0 dx30 ne3 hr1 (F := fls ++ [.not (fls.length - 1)]) (FLp.app (FLp.cons (f := .not (fls.length - 1)) ht2 FLp.nil) fl2) (ok.add (f := .not (fls.length - 1)) (by show fls.length - 1 < fls.length; omega)) hA (by rw [List.length_append]; show 1 ≤ fls.length + 1; omega) (by rw [List.length_append]; show fls.length + 1 ≤ 10000; omega) ?_
    rw [show (fls ++ [FL.not (fls.length - 1)]).length = fls.length + 1 from by rw [List.length_append]; rfl]
    exact h
end

variable {K : PySem.W.Frag} {mg : Str → Option Value}
/-! ### what stays beside the bag, beside new code objects -/
theorem BagAt.nlist {b l : Addr} {H : Hp} (B : BagAt b l H) {ps : List Addr} (h : H b = some (.lst (ps.map V.ref))) : False := by
  obtain ⟨⟨i, r, m, c, ns, hb, _⟩, _⟩ := B
  rw [hb] at h
  have e := Option.some.inj h
  injection e with e
  match ps, e with
  | [], e => simp at e
  | [_], e => simp at e
  | _ :: _ :: _, e => simp at e
theorem tabs_kp {T : List (Addr × Str)} {H H' : Hp} {b l : Addr} (t : LamX.Tabs T H) (k : Kp b H H') (B : BagAt b l H) : LamX.Tabs T H' := fun p hp => by
  obtain ⟨⟨i, r, m, c, ns, hb, _⟩, _⟩ := B
  obtain ⟨ps, a1, a2, a3⟩ := t p hp
  refine ⟨ps, k _ _ a1 (fun z => by rw [z, hb] at a1; cases a1), a2, fun q v hq => ?_⟩
  obtain ⟨c0, e1, e3⟩ := a3 q v hq
  exact ⟨c0, e1, k _ _ e3 (fun z => by rw [z, hb] at e3; cases e3)⟩
open LamX (ExtN)
theorem seq_ext {K : PySem.W.Frag} {H H' : Hp} {a : Addr} {xs : List V} (e : ExtN H H') (h : SqL K H a xs) : SqL K H' a xs := by
  rcases h with (h | ⟨o, h⟩) | h
  · exact .inl (.inl (e _ _ h (by intro ps z; cases z)))
  · exact .inl (.inr ⟨o, e _ _ h (by intro ps z; cases z)⟩)
  · exact .inr h
theorem tup_ext {K : PySem.W.Frag} {H H' : Hp} {a : Addr} {xs : List V} (e : ExtN H H') (h : SqT K H a xs) : SqT K H' a xs := by
  rcases h with (h | ⟨o, h⟩) | h
  · exact .inl (.inl (e _ _ h (by intro ps z; cases z)))
  · exact .inl (.inr ⟨o, e _ _ h (by intro ps z; cases z)⟩)
  · exact .inr h
theorem BagAt.ext {b l : Addr} {H H' : Hp} (x : BagAt b l H) (e : ExtN H H') : BagAt b l H' := by
  obtain ⟨⟨i, r, m, c, ns, h1, h2, h3⟩, n⟩ := x
  exact ⟨⟨i, r, m, c, ns, e _ _ h1 (by intro ps z; cases z), e _ _ h2 (by intro ps z; cases z), h3⟩, n⟩
theorem free_by {scope sc : Scope} (h : (scope.names.all fun y => !decide (y.2 = .free) || (decide (sc.names.lookup y.1 = some .cell) || decide (sc.names.lookup y.1 = some .free))) = true) :
    ∀ y ∈ scope.names, y.2 = .free → sc.names.lookup y.1 = some .cell ∨ sc.names.lookup y.1 = some .free := fun y hy e => by
  have z := List.all_eq_true.mp h y hy
  rw [e] at z
  simpa using z

open NdefX (NScope)
section
variable {P : Program} {w : World} {base : Heap}
theorem bind0 {F : LF} {H : Hp} {s : Shared} (h : ∀ doc pm ctv, bindArgs (F.fd doc pm ctv) ⟨[], []⟩ = pure []) (doc pm ctv : Value) : ∃ us : List Value, Vals [] us ∧ BindsTo s (F.fd doc pm ctv) ⟨[], []⟩ ((([] : List Str)).zip us) :=
  ⟨[], .nil, .of_eq (h doc pm ctv)⟩
theorem bind1 {F : LF} {H : Hp} {s : Shared} {i : Int} {x : Str} (ok : HOk P w H s.heap) (hD : DefAt F [.int i] H)
    (h : ∀ (T : Addr) (doc pm ctv : Value) (its : List Value), F.dV = .ref T → its.length = 1 → ∃ k, bindArgs (F.fd doc pm ctv) ⟨[], []⟩ = seqItems? (.ref T) >>= k ∧ k (some its.toArray) = pure (([x] : List Str).zip its)) (doc pm ctv : Value) :
    ∃ us : List Value, Vals [.int i] us ∧ BindsTo s (F.fd doc pm ctv) ⟨[], []⟩ (([x] : List Str).zip us) := by
  rcases hD with ⟨e, _⟩ | ⟨T0, j, e, dv, ht⟩
  · cases e
  · cases e
    have z : ObjOk P w H s.heap T0 (.tup [.int i]) := ok T0 _ ht
    obtain ⟨_, its, r, tp⟩ := z
    obtain ⟨k, e1, e2⟩ := h T0 doc pm ctv its dv (by rw [← r.length]; rfl)
    refine ⟨its, r, BindsTo.of_looks fun M => ?_⟩
    rw [e1]
    have g : ∃ (o : Obj) (n : Nat), s.heap.get? T0 = some o ∧ o.data = .seq its.toArray n := by
      have tp : s.heap.IsTuple T0 its.toArray := tp
      obtain ⟨o, h1, _, n, h3⟩ := tp
      exact ⟨o, n, h1, h3⟩
    obtain ⟨o, n, g1, g2⟩ := g
    refine looks_items (K := [(T0, o)]) (o := o) (n := n) (fun a u e => ?_) (by simp) g2 (.of_pure e2)
    have e : List.lookup a [(T0, o)] = some u := e
    by_cases hz : a = T0
    · rw [hz] at e ⊢
      rw [show List.lookup T0 [(T0, o)] = some o by simp] at e
      cases e
      exact g1
    · have hb : (a == T0) = false := by simpa using hz
      simp [List.lookup, hb] at e
end

open LamX NdefX in
/-! ### lambdas, by their readings -/
open NdefX (NScope)
section
variable {P : Program} {w : World} {base : Heap}
theorem lok_g0 {k : Nat} {N fr : List Str} {F : LF} {f : Addr} {t : XK → TE} (S : NScope N [] fr F.scope) (hb : ∀ doc pm ctv, bindArgs (F.fd doc pm ctv) ⟨[], []⟩ = pure [])
    (hpe : ∀ (A : Around) (outer : List PySem.Env) (s : Shared) (H : Hp) (E : XK), Room k (A.deeper (NdefX.envF F.nf f s.heap.objs.size)) → PE (NdefX.ncx (L2.CX P w) P w K mg base N F.nf f A outer s H E) F.body (t E)) :
    LOk P w K mg base (L2.CX P w) (k + 1) f F [] fr (fun ws H Q E => t E (NdefX.startF N [] ws) H Q) :=
  lok_of S rfl (fun s H us doc pm ctv ok hD => bind0 (H := H) hb doc pm ctv) (fun A outer s H ws Q E hr hl h => ⟨t E, hpe A outer s H E hr, h⟩)
theorem lok_g1 {k : Nat} {N fr : List Str} {x : Str} {F : LF} {f : Addr} {i : Int} {t : XK → TE} (S : NScope N [x] fr F.scope)
    (hb : ∀ (T : Addr) (doc pm ctv : Value) (its : List Value), F.dV = .ref T → its.length = 1 → ∃ k, bindArgs (F.fd doc pm ctv) ⟨[], []⟩ = seqItems? (.ref T) >>= k ∧ k (some its.toArray) = pure (([x] : List Str).zip its))
    (hpe : ∀ (A : Around) (outer : List PySem.Env) (s : Shared) (H : Hp) (E : XK), Room k (A.deeper (NdefX.envF F.nf f s.heap.objs.size)) → PE (NdefX.ncx (L2.CX P w) P w K mg base N F.nf f A outer s H E) F.body (t E)) :
    LOk P w K mg base (L2.CX P w) (k + 1) f F [.int i] fr (fun ws H Q E => t E (NdefX.startF N [.int i] ws) H Q) :=
  lok_of S rfl (fun s H us doc pm ctv ok hD => bind1 ok hD hb doc pm ctv) (fun A outer s H ws Q E hr hl h => ⟨t E, hpe A outer s H E hr, h⟩)
theorem gotl_x {X : Cx} {σ : L2.St} (T : Env X.K X.mg) (k : Nat) {vs : List V} {H : Hp} {Q : VK} {E : XK} (h : ∀ bs, Ground X σ bs → spGotL X.prog X.w X.K X.mg bs [.ref T.C_AheadError, .ref T.C_Missing, .ref T.C_NothingLeft] k vs H Q E) :
    ∃ sp : Sp, (∀ base, Ground X σ base → FnOk X.prog X.w X.K X.mg base CX0 (k + 2) T.f_got T.fd_got ["_law_ask"] sp) ∧ sp vs H Q E :=
  ⟨fun vs H Q E => ∀ bs, Ground X σ bs → spGotL X.prog X.w X.K X.mg bs [.ref T.C_AheadError, .ref T.C_Missing, .ref T.C_NothingLeft] k vs H Q E,
    fun bs g => ⟨fun vs H Q E h => (ok_gotL (P := X.prog) (w := X.w) (base := bs) T k).len vs H Q E (h bs g), fun A outer s H args us vs Q E hr e0 hb r h => (ok_gotL (P := X.prog) (w := X.w) (base := bs) T k).run A outer s H args us vs Q E hr e0 hb r (h bs g)⟩, h⟩
theorem allgotl_x {X : Cx} {σ : L2.St} (T : Env X.K X.mg) (k : Nat) {vs : List V} {H : Hp} {Q : VK} {E : XK} (h : ∀ bs, Ground X σ bs → spAllGotL X.prog X.w X.K X.mg bs [.ref T.C_AheadError, .ref T.C_Missing, .ref T.C_NothingLeft] k vs H Q E) :
    ∃ sp : Sp, (∀ base, Ground X σ base → FnOk X.prog X.w X.K X.mg base CX0 (k + 3) T.f_all_got T.fd_all_got ["_law_asks"] sp) ∧ sp vs H Q E :=
  ⟨fun vs H Q E => ∀ bs, Ground X σ bs → spAllGotL X.prog X.w X.K X.mg bs [.ref T.C_AheadError, .ref T.C_Missing, .ref T.C_NothingLeft] k vs H Q E,
    fun bs g => ⟨fun vs H Q E h => (ok_all_gotL (P := X.prog) (w := X.w) (base := bs) T k).len vs H Q E (h bs g), fun A outer s H args us vs Q E hr e0 hb r h => (ok_all_gotL (P := X.prog) (w := X.w) (base := bs) T k).run A outer s H args us vs Q E hr e0 hb r (h bs g)⟩, h⟩
end
/-! ### asks of lambdas: the lambda's object first, so that its body is known to the rest -/
open NdefX (NScope)
theorem DefAt.same {F : LF} {ds : List V} {H H' : Hp} (h : DefAt F ds H) (s : Same H H') : DefAt F ds H' := by
  rcases h with h | ⟨T0, i, e1, e2, e3⟩
  · exact .inl h
  · exact .inr ⟨T0, i, e1, e2, s _ _ e3⟩
theorem ask_err0 {P : Program} {w : World} {K : PySem.W.Frag} {mg : Str → Option Value} {base : Heap} {cs : List Value} {k : Nat} {N fr : List Str} {F : LF} {f : Addr} {H : Hp} {ws : List (Option V)} {code : Str} {us : List V} {t : XK → TE}
    (lf : H f = some (LmO f F)) (lc : H F.c = some (LamX.CodeO F.c F.qual)) (dv : F.dV = .none) (S : NScope N [] fr F.scope) (hb : ∀ doc pm ctv, bindArgs (F.fd doc pm ctv) ⟨[], []⟩ = pure [])
    (C : NdefX.CellsAt F.cl fr ws base (fun _ => none)) (hpe : ∀ (A : Around) (outer : List PySem.Env) (s : Shared) (H : Hp) (E : XK), Room k (A.deeper (NdefX.envF F.nf f s.heap.objs.size)) → PE (NdefX.ncx (L2.CX P w) P w K mg base N F.nf f A outer s H E) F.body (t E))
    (q : ∀ H1, Same H H1 → ∀ (Q2 : VK) (E2 : XK), (∀ cls d H2, PySem.W.exmAny K cls cs = some true → ErrL K cls d H2 code us → Same H1 H2 → E2 cls d H2) → t E2 (NdefX.startF N [] ws) H1 Q2) : AskL P w K mg base cs (k + 1) H f (.err code us) :=
  ⟨_, _, LOk.held (lok_g0 S hb hpe) C, fun H1 s1 => ⟨⟨s1 _ _ lf, s1 _ _ lc, .inl ⟨rfl, dv⟩⟩, q H1 s1⟩⟩
theorem ask_val0 {P : Program} {w : World} {K : PySem.W.Frag} {mg : Str → Option Value} {base : Heap} {cs : List Value} {k : Nat} {N fr : List Str} {F : LF} {f : Addr} {H : Hp} {ws : List (Option V)} {R : V → Hp → Prop} {t : XK → TE}
    (lf : H f = some (LmO f F)) (lc : H F.c = some (LamX.CodeO F.c F.qual)) (dv : F.dV = .none) (S : NScope N [] fr F.scope) (hb : ∀ doc pm ctv, bindArgs (F.fd doc pm ctv) ⟨[], []⟩ = pure [])
    (C : NdefX.CellsAt F.cl fr ws base (fun _ => none)) (hpe : ∀ (A : Around) (outer : List PySem.Env) (s : Shared) (H : Hp) (E : XK), Room k (A.deeper (NdefX.envF F.nf f s.heap.objs.size)) → PE (NdefX.ncx (L2.CX P w) P w K mg base N F.nf f A outer s H E) F.body (t E))
    (q : ∀ H1, Same H H1 → ∀ (Q2 : VK) (E2 : XK), (∀ v H2, R v H2 → Same H1 H2 → Q2 v H2) → t E2 (NdefX.startF N [] ws) H1 Q2) : AskL P w K mg base cs (k + 1) H f (.val R) :=
  ⟨_, _, LOk.held (lok_g0 S hb hpe) C, fun H1 s1 => ⟨⟨s1 _ _ lf, s1 _ _ lc, .inl ⟨rfl, dv⟩⟩, q H1 s1⟩⟩
theorem ask_err1 {P : Program} {w : World} {K : PySem.W.Frag} {mg : Str → Option Value} {base : Heap} {cs : List Value} {k : Nat} {N fr : List Str} {x : Str} {F : LF} {f : Addr} {H : Hp} {ws : List (Option V)} {i : Int} {code : Str} {us : List V} {t : XK → TE}
    (lf : H f = some (LmO f F)) (lc : H F.c = some (LamX.CodeO F.c F.qual)) (dv : DefAt F [.int i] H) (S : NScope N [x] fr F.scope) (hb : ∀ (T : Addr) (doc pm ctv : Value) (its : List Value), F.dV = .ref T → its.length = 1 → ∃ k, bindArgs (F.fd doc pm ctv) ⟨[], []⟩ = seqItems? (.ref T) >>= k ∧ k (some its.toArray) = pure (([x] : List Str).zip its))
    (C : NdefX.CellsAt F.cl fr ws base (fun _ => none)) (hpe : ∀ (A : Around) (outer : List PySem.Env) (s : Shared) (H : Hp) (E : XK), Room k (A.deeper (NdefX.envF F.nf f s.heap.objs.size)) → PE (NdefX.ncx (L2.CX P w) P w K mg base N F.nf f A outer s H E) F.body (t E))
    (q : ∀ H1, Same H H1 → ∀ (Q2 : VK) (E2 : XK), (∀ cls d H2, PySem.W.exmAny K cls cs = some true → ErrL K cls d H2 code us → Same H1 H2 → E2 cls d H2) → t E2 (NdefX.startF N [.int i] ws) H1 Q2) : AskL P w K mg base cs (k + 1) H f (.err code us) :=
  ⟨_, _, LOk.held (lok_g1 S hb hpe) C, fun H1 s1 => ⟨⟨s1 _ _ lf, s1 _ _ lc, dv.same s1⟩, q H1 s1⟩⟩
theorem ask_val1 {P : Program} {w : World} {K : PySem.W.Frag} {mg : Str → Option Value} {base : Heap} {cs : List Value} {k : Nat} {N fr : List Str} {x : Str} {F : LF} {f : Addr} {H : Hp} {ws : List (Option V)} {i : Int} {R : V → Hp → Prop} {t : XK → TE}
    (lf : H f = some (LmO f F)) (lc : H F.c = some (LamX.CodeO F.c F.qual)) (dv : DefAt F [.int i] H) (S : NScope N [x] fr F.scope) (hb : ∀ (T : Addr) (doc pm ctv : Value) (its : List Value), F.dV = .ref T → its.length = 1 → ∃ k, bindArgs (F.fd doc pm ctv) ⟨[], []⟩ = seqItems? (.ref T) >>= k ∧ k (some its.toArray) = pure (([x] : List Str).zip its))
    (C : NdefX.CellsAt F.cl fr ws base (fun _ => none)) (hpe : ∀ (A : Around) (outer : List PySem.Env) (s : Shared) (H : Hp) (E : XK), Room k (A.deeper (NdefX.envF F.nf f s.heap.objs.size)) → PE (NdefX.ncx (L2.CX P w) P w K mg base N F.nf f A outer s H E) F.body (t E))
    (q : ∀ H1, Same H H1 → ∀ (Q2 : VK) (E2 : XK), (∀ v H2, R v H2 → Same H1 H2 → Q2 v H2) → t E2 (NdefX.startF N [.int i] ws) H1 Q2) : AskL P w K mg base cs (k + 1) H f (.val R) :=
  ⟨_, _, LOk.held (lok_g1 S hb hpe) C, fun H1 s1 => ⟨⟨s1 _ _ lf, s1 _ _ lc, dv.same s1⟩, q H1 s1⟩⟩
theorem sl_listN {CX : CXT} {P : Program} {w : World} {K : PySem.W.Frag} {mg : Str → Option Value} {base : Heap} {N : List Str} {F : _} {f : Addr} {A : Around} {outer : List PySem.Env} {s : Shared} {H : Hp} {E : XK} : SlR (NdefX.ncx CX P w K mg base N F f A outer s H E) (rSlL K) := sl_list

theorem sm_list {K : PySem.W.Frag} {H : Hp} {d : Nat} {a b : Addr} {xs ys : List V} (ha : SqL K H a xs) (hb : SqL K H b ys) (hl : xs.length = ys.length) (h1 : xs.length ≤ 1000) (h : ∀ p ∈ xs.zip ys, Sm K H d p.1 p.2) : Sm K H (d + 1) (.ref a) (.ref b) := by
  refine .inr ⟨a, b, xs, ys, rfl, rfl, by omega, hl, fun i u v e1 e2 => ?_, .inl ⟨ha, hb⟩⟩
  refine h (u, v) (List.mem_of_getElem? (i := i) ?_)
  rw [List.getElem?_zip_eq_some]
  exact ⟨e1, e2⟩
theorem if_join {c : Bool} {A B : TE} {σ : L2.St} {H : Hp} {Q2 : VK} (R : V → Hp → Prop) (hA : c = true → ∀ Q : VK, (∀ v H', R v H' → Q v H') → A σ H Q) (hB : ¬ c = true → ∀ Q : VK, (∀ v H', R v H' → Q v H') → B σ H Q) (q : ∀ v H', R v H' → Q2 v H') : if c = true then A σ H Q2 else B σ H Q2 := by
  by_cases h : c = true
  · rw [if_pos h]
    exact hA h Q2 q
  · rw [if_neg h]
    exact hB h Q2 q
theorem sm_tup2 {K : PySem.W.Frag} {H : Hp} {d : Nat} {a b : Addr} {x1 x2 y1 y2 : V} (ha : SqT K H a [x1, x2]) (hb : SqT K H b [y1, y2]) (h1 : Sm K H d x1 y1) (h2 : Sm K H d x2 y2) : Sm K H (d + 1) (.ref a) (.ref b) :=
  .inr ⟨a, b, [x1, x2], [y1, y2], rfl, rfl, by show 2 ≤ 100000; decide, rfl, fun i u v e1 e2 => by
    match i with
    | 0 => cases e1; cases e2; exact h1
    | 1 => cases e1; cases e2; exact h2
    | i + 2 => (cases e1), .inr ⟨ha, hb⟩⟩
/-- a tuple of small values and another of the same -/
theorem sm_scals {K : PySem.W.Frag} {H : Hp} {d : Nat} {a b : Addr} {us : List V} (ha : SqT K H a us) (hb : SqT K H b us) (hs : ∀ x ∈ us, scalV x = true) (hl : us.length ≤ 1000) : Sm K H (d + 2) (.ref a) (.ref b) :=
  .inr ⟨a, b, us, us, rfl, rfl, by omega, rfl, fun i u v e1 e2 => by
    rw [e1] at e2
    cases e2
    exact .inl ⟨rfl, hs _ (List.mem_of_getElem? e1)⟩, .inr ⟨ha, hb⟩⟩
/-- an error got, and the pair that is due -/
theorem gotl_err {K : PySem.W.Frag} {H H' : Hp} {y : V} {r q : Addr} {code : Str} {us : List V} {d : Nat} (g : GotL H y (.err code us)) (s : Same H H') (h3 : H' r = some (.tup [.str code, .ref q])) (h4 : H' q = some (.tup us)) (hs : ∀ x ∈ us, scalV x = true) (hl : us.length ≤ 1000) : Sm K H' (d + 3) y (.ref r) := by
  obtain ⟨p, t, rfl, h1, h2⟩ := g
  exact sm_tup2 (SqT.of (s _ _ h1)) (SqT.of h3) (.inl ⟨rfl, rfl⟩) (sm_scals (SqT.of (s _ _ h2)) (SqT.of h4) hs hl)


def CodeIs (fd : FuncData) (c : Addr) : Prop := fd.code = .ref c
def qLam : Str := ("law" : Str) ++ ".<locals>." ++ "<lambda>"
def qLamW : Str := ("_law_wide_so" : Str) ++ ".<locals>." ++ "<lambda>"
abbrev tabs2 (PL PW : Addr) : List (Addr × Str) := [(PL, qLam), (PW, qLamW)]
theorem tabs2_1 {PL PW : Addr} {q : Str} (h : q = qLam) : (PL, q) ∈ tabs2 PL PW := by
  rw [h]
  exact List.mem_cons_self ..
theorem tabs2_2 {PL PW : Addr} {q : Str} (h : q = qLamW) : (PW, q) ∈ tabs2 PL PW := by
  rw [h]
  exact List.mem_cons_of_mem _ (List.mem_cons_self ..)
theorem tabs2_u1 {PL PW : Addr} {q : Str} (ne : PL ≠ PW) (h : q = qLam) : ∀ p ∈ tabs2 PL PW, p.1 = PL → p.2 = q := by
  intro p hp e
  simp only [List.mem_cons, List.not_mem_nil, or_false] at hp
  rcases hp with rfl | rfl
  · exact h.symm
  · exact absurd e.symm ne
theorem tabs2_u2 {PL PW : Addr} {q : Str} (ne : PL ≠ PW) (h : q = qLamW) : ∀ p ∈ tabs2 PL PW, p.1 = PW → p.2 = q := by
  intro p hp e
  simp only [List.mem_cons, List.not_mem_nil, or_false] at hp
  rcases hp with rfl | rfl
  · exact absurd e ne
  · exact h.symm
def spLaw (K : PySem.W.Frag) (tb tb2 : Addr) : Sp := fun vs H Q _ => ∃ (a : Addr) (ns : List Int), vs = [.ref a] ∧ SqL K H a (ns.map V.int) ∧ ns.length ≤ 63 ∧ H tb = some (.tbl #[]) ∧ H tb2 = some (.tbl #[]) ∧ ∀ H', Q (.bl true) H'
def spWide (PL PW : Addr) : Sp := fun vs H Q _ => vs = [] ∧ LamX.Tabs (tabs2 PL PW) H ∧ ∀ H', Q (.bl true) H'
def forBody : Stmt → List Stmt
  | .For _ _ b _ _ => b
  | _ => []
abbrev bodyTail (k : Nat) : List Stmt := (forBody ((defBody s_law).getD 2 (.Pass ⟨0, 0, 0, 0⟩))).drop k
theorem FmAt.kp {C : Addr} {H H' : Hp} {m b l : Addr} {al : Str} {ps : List Addr} {v : Bool} (M : FmAt C H m al (ps.map V.ref) v) (k : Kp b H H') (B : BagAt b l H) : FmAt C H' m al (ps.map V.ref) v := by
  obtain ⟨dx, r, h1, h2⟩ := M
  refine ⟨dx, r, k _ _ h1 fun z => ?_, k _ _ h2 fun z => ?_⟩
  · obtain ⟨⟨i, r, m, c, ns, hb, _⟩, _⟩ := B
    rw [z, hb] at h1
    cases h1
  · rw [z] at h2
    exact (B.nlist h2).elim
theorem FLp.kp {b l : Addr} {H H' : Hp} {ps : List Addr} {fls : List FL} (h : FLp H ps fls) (k : Kp b H H') (B : BagAt b l H) : FLp H' ps fls := ⟨h.1, fun i p f x y => (h.2 i p f x y).kp k B⟩
theorem FLAt.sm {K : PySem.W.Frag} {H : Hp} {p : Addr} {f : FL} (h : FLAt H p f) (hz : ∀ rs, f = .and rs ∨ f = .or rs → rs.length ≤ 100) : Sm K H 3 (.ref p) (.ref p) := by
  have flat : ∀ {xs : List V}, H p = some (.tup xs) → xs.length ≤ 100 → (∀ x ∈ xs, Sm K H 2 x x) → Sm K H 3 (.ref p) (.ref p) := fun {xs} e l a => .inr ⟨p, p, xs, xs, rfl, rfl, by omega, rfl, fun i u v h1 h2 => by
    rw [h1] at h2
    cases h2
    exact a _ (List.mem_of_getElem? h1), .inr ⟨SqT.of e, SqT.of e⟩⟩
  have sc : ∀ {v : V}, scalV v = true → Sm K H 2 v v := fun h => .inl ⟨rfl, h⟩
  have inner : ∀ {q : Addr} {rs : List Nat}, H q = some (.tup (natL rs)) → rs.length ≤ 100 → Sm K H 2 (.ref q) (.ref q) := fun {q rs} e l => .inr ⟨q, q, natL rs, natL rs, rfl, rfl, by rw [natL_len]; omega, rfl, fun i u v h1 h2 => by
    rw [h1] at h2
    cases h2
    obtain ⟨n, _, rfl⟩ := List.mem_map.mp (List.mem_of_getElem? h1)
    exact .inl ⟨rfl, rfl⟩, .inr ⟨SqT.of e, SqT.of e⟩⟩
  cases f with
  | is z => exact flat h (by show 2 ≤ 100; decide) fun x hx => by simp at hx; rcases hx with rfl | rfl <;> exact sc rfl
  | not i => exact flat h (by show 2 ≤ 100; decide) fun x hx => by simp at hx; rcases hx with rfl | rfl <;> exact sc rfl
  | and rs =>
    obtain ⟨q, a, b⟩ := h
    exact flat a (by show 2 ≤ 100; decide) fun x hx => by
      simp at hx
      rcases hx with rfl | rfl
      · exact sc rfl
      · exact inner b (hz rs (.inl rfl))
  | or rs =>
    obtain ⟨q, a, b⟩ := h
    exact flat a (by show 2 ≤ 100; decide) fun x hx => by
      simp at hx
      rcases hx with rfl | rfl
      · exact sc rfl
      · exact inner b (hz rs (.inr rfl))
  | before i => exact flat h (by show 2 ≤ 100; decide) fun x hx => by simp at hx; rcases hx with rfl | rfl <;> exact sc rfl
  | since i j => exact flat h (by show 3 ≤ 100; decide) fun x hx => by simp at hx; rcases hx with rfl | rfl | rfl <;> exact sc rfl
  | count i p' r => exact flat h (by show 4 ≤ 100; decide) fun x hx => by simp at hx; rcases hx with rfl | rfl | rfl | rfl <;> exact sc rfl
theorem FLp.sm {K : PySem.W.Frag} {H : Hp} {a b : Addr} {al : List Nat} {ps : List Addr} {fls : List FL} (h : FLp H ps fls) (O : FOk al fls) (hl : fls.length ≤ 1000) (ha : SqL K H a (ps.map V.ref)) (hb : SqL K H b (ps.map V.ref)) : Sm K H 4 (.ref a) (.ref b) := by
  refine .inr ⟨a, b, _, _, rfl, rfl, by rw [List.length_map, h.1]; omega, rfl, fun i u v e1 e2 => ?_, .inl ⟨ha, hb⟩⟩
  rw [e1] at e2
  cases e2
  rw [List.getElem?_map] at e1
  cases hp : ps[i]? with
  | none => rw [hp] at e1; cases e1
  | some p =>
    rw [hp] at e1
    cases e1
    have il := (List.getElem?_eq_some_iff.mp hp).1
    have il2 : i < fls.length := by have := h.1; omega
    have hf : fls[i]? = some fls[i] := List.getElem?_eq_getElem il2
    have o := O i _ hf
    refine (h.2 i p _ hp hf).sm fun rs e => ?_
    rcases e with e | e
    · rw [e] at o
      exact o.2.2
    · rw [e] at o
      exact o.2.2
theorem rep_flat (v : V) : ∀ n : Nat, (List.replicate n [v]).flatten = List.replicate n v
  | 0 => rfl
  | n + 1 => by
    rw [List.replicate_succ, List.flatten_cons, rep_flat v n, List.replicate_succ]
    rfl
theorem FLp.rep {H : Hp} {p : Addr} {f : FL} (h : FLAt H p f) (n : Nat) : FLp H (List.replicate n p) (List.replicate n f) := ⟨by simp, fun i q g a b => by
  rw [List.getElem?_replicate] at a b
  by_cases hi : i < n
  · rw [if_pos hi] at a b
    cases a
    cases b
    exact h
  · rw [if_neg hi] at a
    cases a⟩
theorem FLAt.ext {H H' : Hp} {p : Addr} (e : LamX.ExtN H H') : ∀ {f : FL}, FLAt H p f → FLAt H' p f := by
  have no : ∀ {a : Addr} {xs : List V}, H a = some (.tup xs) → H' a = some (.tup xs) := fun {a xs} h => e _ _ h (by intro ps z; cases z)
  intro f h
  cases f with
  | is z => exact no h
  | not i => exact no h
  | and rs =>
    obtain ⟨q, a, b⟩ := h
    exact ⟨q, no a, no b⟩
  | or rs =>
    obtain ⟨q, a, b⟩ := h
    exact ⟨q, no a, no b⟩
  | before i => exact no h
  | since i j => exact no h
  | count i p' r => exact no h

theorem FLp.ext {H H' : Hp} {ps : List Addr} {fls : List FL} (h : FLp H ps fls) (e : LamX.ExtN H H') : FLp H' ps fls := ⟨h.1, fun i p f x y => (h.2 i p f x y).ext e⟩
theorem FmAt.ext {C : Addr} {H H' : Hp} {m : Addr} {al : Str} {ps : List Addr} {v : Bool} (M : FmAt C H m al (ps.map V.ref) v) (e : LamX.ExtN H H') : FmAt C H' m al (ps.map V.ref) v := by
  obtain ⟨dx, r, h1, h2⟩ := M
  exact ⟨dx, r, e _ _ h1 (by intro ps z; cases z), e _ _ h2 (by intro ps z; cases z)⟩
theorem FmAt.form {K : PySem.W.Frag} {C : Addr} {H : Hp} {m : Addr} {al : Str} {ps : List Addr} {fls : List FL} {v : Bool} (M : FmAt C H m al (ps.map V.ref) v) (fl : FLp H ps fls) (ok : FOk al.cps.toList fls) (hA : Alpha al.cps.toList) (h : 1 ≤ fls.length ∧ fls.length ≤ 1000) : FormAt K C H m al fls v := by
  obtain ⟨dx, r, h1, h2⟩ := M
  exact ⟨⟨dx, r, h1, ps, h2, fl.1, fl.2⟩, hA, ok, h⟩
/-- two addresses of the same line -/
theorem FLAt.sm2 {K : PySem.W.Frag} {H : Hp} {p q : Addr} {f : FL} (h : FLAt H p f) (g : FLAt H q f) (hz : ∀ rs, f = .and rs ∨ f = .or rs → rs.length ≤ 100) : Sm K H 3 (.ref p) (.ref q) := by
  have flat : ∀ {xs : List V}, H p = some (.tup xs) → H q = some (.tup xs) → xs.length ≤ 100 → (∀ x ∈ xs, scalV x = true) → Sm K H 3 (.ref p) (.ref q) := fun {xs} e1 e2 l a => sm_scals (d := 1) (SqT.of e1) (SqT.of e2) a (by omega)
  have two : ∀ {kd : Str} {u v : Addr} {rs : List Nat}, H p = some (.tup [.str kd, .ref u]) → H q = some (.tup [.str kd, .ref v]) → H u = some (.tup (natL rs)) → H v = some (.tup (natL rs)) → rs.length ≤ 100 → Sm K H 3 (.ref p) (.ref q) := fun {kd u v rs} e1 e2 e3 e4 l =>
    sm_tup2 (SqT.of e1) (SqT.of e2) (.inl ⟨rfl, rfl⟩) (sm_scals (d := 0) (SqT.of e3) (SqT.of e4) (fun x hx => by obtain ⟨n, _, rfl⟩ := List.mem_map.mp hx; rfl) (by rw [natL_len]; omega))
  cases f with
  | is z => exact flat h g (by show 2 ≤ 100; decide) fun x hx => by simp at hx; rcases hx with rfl | rfl <;> rfl
  | not i => exact flat h g (by show 2 ≤ 100; decide) fun x hx => by simp at hx; rcases hx with rfl | rfl <;> rfl
  | and rs =>
    obtain ⟨u, a1, a2⟩ := h
    obtain ⟨v, b1, b2⟩ := g
    exact two a1 b1 a2 b2 (hz rs (.inl rfl))
  | or rs =>
    obtain ⟨u, a1, a2⟩ := h
    obtain ⟨v, b1, b2⟩ := g
    exact two a1 b1 a2 b2 (hz rs (.inr rfl))
  | before i => exact flat h g (by show 2 ≤ 100; decide) fun x hx => by simp at hx; rcases hx with rfl | rfl <;> rfl
  | since i j => exact flat h g (by show 3 ≤ 100; decide) fun x hx => by simp at hx; rcases hx with rfl | rfl | rfl <;> rfl
  | count i p' r => exact flat h g (by show 4 ≤ 100; decide) fun x hx => by simp at hx; rcases hx with rfl | rfl | rfl | rfl <;> rfl
theorem FLp.sm2 {K : PySem.W.Frag} {H : Hp} {a b : Addr} {al : List Nat} {ps qs : List Addr} {fls : List FL} (h : FLp H ps fls) (g : FLp H qs fls) (O : FOk al fls) (hl : fls.length ≤ 1000) (ha : SqL K H a (ps.map V.ref)) (hb : SqL K H b (qs.map V.ref)) : Sm K H 4 (.ref a) (.ref b) := by
  refine .inr ⟨a, b, _, _, rfl, rfl, by rw [List.length_map, h.1]; omega, by rw [List.length_map, List.length_map, h.1, g.1], fun i u v e1 e2 => ?_, .inl ⟨ha, hb⟩⟩
  rw [List.getElem?_map] at e1 e2
  cases hp : ps[i]? with
  | none => rw [hp] at e1; cases e1
  | some p =>
    rw [hp] at e1
    cases e1
    cases hq : qs[i]? with
    | none => rw [hq] at e2; cases e2
    | some q =>
      rw [hq] at e2
      cases e2
      have il := (List.getElem?_eq_some_iff.mp hp).1
      have il2 : i < fls.length := by have := h.1; omega
      have hf : fls[i]? = some fls[i] := List.getElem?_eq_getElem il2
      exact (h.2 i p _ hp hf).sm2 (g.2 i q _ hq hf) (short_of O hf)
/-- what is known of the two drawn formulas -/
structure Dr (C PL PW b l kl : Addr) (G : Hp) (al : Str) (r1 r2 m1 m2 : Addr) (ps qs : List Addr) (fls gls : List FL) (ba bb : Bool) : Prop where
  bag : BagAt b l G
  tab : LamX.Tabs (tabs2 PL PW) G
  kin : G kl = some (.lst kindsV)
  alp : Alpha al.cps.toList
  lft : G r1 = some (.lst (ps.map V.ref))
  rgt : G r2 = some (.lst (qs.map V.ref))
  fl : FLp G ps fls
  gl : FLp G qs gls
  ok1 : FOk al.cps.toList fls
  ok2 : FOk al.cps.toList gls
  l1 : 1 ≤ fls.length ∧ fls.length ≤ 10
  l2 : 1 ≤ gls.length ∧ gls.length ≤ 10
  one : FmAt C G m1 al (ps.map V.ref) ba
  two : FmAt C G m2 al (qs.map V.ref) bb
section
variable {C PL PW b l kl : Addr} {G G' : Hp} {al : Str} {r1 r2 m1 m2 : Addr} {ps qs : List Addr} {fls gls : List FL} {ba bb : Bool}
theorem Dr.same (h : Dr C PL PW b l kl G al r1 r2 m1 m2 ps qs fls gls ba bb) (s : Same G G') : Dr C PL PW b l kl G' al r1 r2 m1 m2 ps qs fls gls ba bb :=
  ⟨h.bag.same s, h.tab.ext s, s _ _ h.kin, h.alp, s _ _ h.lft, s _ _ h.rgt, h.fl.same s, h.gl.same s, h.ok1, h.ok2, h.l1, h.l2, h.one.same s, h.two.same s⟩
theorem Dr.kp (h : Dr C PL PW b l kl G al r1 r2 m1 m2 ps qs fls gls ba bb) (k : Kp b G G') (B : BagAt b l G') (n : kl ≠ b) : Dr C PL PW b l kl G' al r1 r2 m1 m2 ps qs fls gls ba bb :=
  ⟨B, tabs_kp h.tab k h.bag, k _ _ h.kin n, h.alp, k _ _ h.lft fun z => by have e := h.lft; rw [z] at e; exact (h.bag.nlist e).elim, k _ _ h.rgt fun z => by have e := h.rgt; rw [z] at e; exact (h.bag.nlist e).elim, h.fl.kp k h.bag, h.gl.kp k h.bag, h.ok1, h.ok2, h.l1, h.l2, h.one.kp k h.bag, h.two.kp k h.bag⟩
theorem Dr.ext (h : Dr C PL PW b l kl G al r1 r2 m1 m2 ps qs fls gls ba bb) (e : LamX.ExtN G G') (t : LamX.Tabs (tabs2 PL PW) G') : Dr C PL PW b l kl G' al r1 r2 m1 m2 ps qs fls gls ba bb :=
  ⟨h.bag.ext e, t, e _ _ h.kin (by intro ps z; cases z), h.alp, e _ _ h.lft (by intro ps z; cases z), e _ _ h.rgt (by intro ps z; cases z), h.fl.ext e, h.gl.ext e, h.ok1, h.ok2, h.l1, h.l2, h.one.ext e, h.two.ext e⟩
theorem Dr.tw (h : Dr C PL PW b l kl G al r1 r2 m1 m2 ps qs fls gls ba bb) : TwoF C G m1 m2 al al ps qs fls gls ba bb := ⟨h.one, h.two, h.fl, h.gl, h.ok1, h.ok2, h.alp, ⟨h.l1.1, by have := h.l1.2; omega⟩, ⟨h.l2.1, by have := h.l2.2; omega⟩⟩
end
/-- between two turns of the law -/
def LawSt (PL PW a b l kl : Addr) (σ : L2.St) (G : Hp) : Prop := (∃ y3 y4 y5 y6 y7 y8 y9 y10 y11 y12 y13 y14 y15 y16 y17 y18 y19 y20 y21 y22 y23 y24 : Option V, σ = [some (.ref a), some (.ref b), some (.ref kl), y3, y4, y5, y6, y7, y8, y9, y10, y11, y12, y13, y14, y15, y16, y17, y18, y19, y20, y21, y22, y23, y24]) ∧ BagAt b l G ∧ LamX.Tabs (tabs2 PL PW) G ∧ G kl = some (.lst kindsV)
/-- the three formulas made of the two -/
def Fnd (C : Addr) (G : Hp) (al : Str) (lf x1 x2 x3 : Addr) (fls gls : List FL) (ba bb : Bool) : Prop := G lf = some (.lst ([x1, x2, x3].map V.ref)) ∧ ∃ rs1 rs2 rs3 : List Addr, FmAt C G x1 al (rs1.map V.ref) (ba && bb) ∧ FLp G rs1 (mkAnd fls gls) ∧ FmAt C G x2 al (rs2.map V.ref) (ba || bb) ∧ FLp G rs2 (mkOr fls gls) ∧ FmAt C G x3 al (rs3.map V.ref) (!ba) ∧ FLp G rs3 (fls ++ [.not (fls.length - 1)])
theorem Fnd.same {C : Addr} {G G' : Hp} {al : Str} {lf x1 x2 x3 : Addr} {fls gls : List FL} {ba bb : Bool} (h : Fnd C G al lf x1 x2 x3 fls gls ba bb) (s : Same G G') : Fnd C G' al lf x1 x2 x3 fls gls ba bb := by
  obtain ⟨e, rs1, rs2, rs3, a1, a2, b1, b2, c1, c2⟩ := h
  exact ⟨s _ _ e, rs1, rs2, rs3, a1.same s, a2.same s, b1.same s, b2.same s, c1.same s, c2.same s⟩
theorem Fnd.kp {C b l : Addr} {G G' : Hp} {al : Str} {lf x1 x2 x3 : Addr} {fls gls : List FL} {ba bb : Bool} (h : Fnd C G al lf x1 x2 x3 fls gls ba bb) (k : Kp b G G') (B : BagAt b l G) : Fnd C G' al lf x1 x2 x3 fls gls ba bb := by
  obtain ⟨e, rs1, rs2, rs3, a1, a2, b1, b2, c1, c2⟩ := h
  exact ⟨k _ _ e fun z => by rw [z] at e; exact (B.nlist e).elim, rs1, rs2, rs3, a1.kp k B, a2.kp k B, b1.kp k B, b2.kp k B, c1.kp k B, c2.kp k B⟩

variable {K : PySem.W.Frag} {mg : Str → Option Value}
local macro_rules | `(tactic| walk_at "s2") => `(tactic| first
  | refine ⟨_, rfl, ?_⟩
  | refine ⟨_, _, rfl, rfl, ?_⟩
  | refine .inl ⟨_, rfl, ?_⟩
  | refine ⟨_, _, rfl, by assumption, ?_⟩
  | (refine And.intro ?_ ?_; focus (walk_at "side"))
  | refine iteT ?_
  | refine iteF ?_)
local macro_rules | `(tactic| walk_at "n2") => `(tactic| first
  | with_reducible refine MyP.seq_use (fun _ _ => ?_)
  | with_reducible refine MyP.SeqN.go (by assumption) ?_
  | with_reducible refine MyP.gname_use ?_
  | with_reducible refine MyP.next_use ?_
  | walk_at "s2")
local macro_rules | `(tactic| walk_at "nn2") => `(tactic| repeat walk_at "n2")

/-- the two wide formulas -/
structure Wd (C PL PW : Addr) (G : Hp) (x1 x2 l0 q0 : Addr) : Prop where
  tab : LamX.Tabs (tabs2 PL PW) G
  one : FmAt C G x1 "a" ((List.replicate 2000 q0).map V.ref) false
  two : FmAt C G x2 "a" ((List.replicate 1999 q0).map V.ref) false
  fa : FLAt G q0 (.and [])
  flat : G l0 = some (.lst [.ref q0])
theorem Wd.same {C PL PW : Addr} {G G' : Hp} {x1 x2 l0 q0 : Addr} (h : Wd C PL PW G x1 x2 l0 q0) (s : Same G G') : Wd C PL PW G' x1 x2 l0 q0 := ⟨h.tab.ext s, h.one.same s, h.two.same s, h.fa.same s, s _ _ h.flat⟩
theorem Wd.ext {C PL PW : Addr} {G G' : Hp} {x1 x2 l0 q0 : Addr} (h : Wd C PL PW G x1 x2 l0 q0) (e : LamX.ExtN G G') (t : LamX.Tabs (tabs2 PL PW) G') : Wd C PL PW G' x1 x2 l0 q0 := ⟨t, h.one.ext e, h.two.ext e, h.fa.ext e, e _ _ h.flat (by intro ps z; cases z)⟩
theorem fok_rep {al : List Nat} (n : Nat) : FOk al (List.replicate n (.and [])) := fun i f h => by
  rw [List.getElem?_replicate] at h
  by_cases hi : i < n
  · rw [if_pos hi] at h
    cases h
    exact ⟨fun r hr => by simp at hr, .nil, by show 0 ≤ 100; decide⟩
  · rw [if_neg hi] at h
    cases h
theorem alpha_a : Alpha ("a" : Str).cps.toList := by decide +kernel
theorem Wd.tw {C PL PW : Addr} {H5 : Hp} {x1 x2 l0 q0 : Addr} (h : Wd C PL PW H5 x1 x2 l0 q0) : TwoF C H5 x1 x2 "a" "a" (List.replicate 2000 q0) (List.replicate 1999 q0) (List.replicate 2000 (.and [])) (List.replicate 1999 (.and [])) false false := ⟨h.one, h.two, FLp.rep h.fa 2000, FLp.rep h.fa 1999, fok_rep 2000, fok_rep 1999, alpha_a, ⟨by rw [List.length_replicate]; decide, by rw [List.length_replicate]; decide⟩, ⟨by rw [List.length_replicate]; decide, by rw [List.length_replicate]; decide⟩⟩
theorem Wd.wt {C PL PW : Addr} {H5 : Hp} {x1 x2 l0 q0 : Addr} (h : Wd C PL PW H5 x1 x2 l0 q0) : TwoF C H5 x2 x1 "a" "a" (List.replicate 1999 q0) (List.replicate 2000 q0) (List.replicate 1999 (.and [])) (List.replicate 2000 (.and [])) false false := ⟨h.two, h.one, FLp.rep h.fa 1999, FLp.rep h.fa 2000, fok_rep 1999, fok_rep 2000, alpha_a, ⟨by rw [List.length_replicate]; decide, by rw [List.length_replicate]; decide⟩, ⟨by rw [List.length_replicate]; decide, by rw [List.length_replicate]; decide⟩⟩
theorem Wd.ww {C PL PW : Addr} {H5 : Hp} {x1 x2 l0 q0 : Addr} (h : Wd C PL PW H5 x1 x2 l0 q0) : TwoF C H5 x1 x1 "a" "a" (List.replicate 2000 q0) (List.replicate 2000 q0) (List.replicate 2000 (.and [])) (List.replicate 2000 (.and [])) false false := ⟨h.one, h.one, FLp.rep h.fa 2000, FLp.rep h.fa 2000, fok_rep 2000, fok_rep 2000, alpha_a, ⟨by rw [List.length_replicate]; decide, by rw [List.length_replicate]; decide⟩, ⟨by rw [List.length_replicate]; decide, by rw [List.length_replicate]; decide⟩⟩
theorem many_e {K : PySem.W.Frag} {mg : Str → Option Value} (T : Env K mg) (H1 : Hp) (E2 : XK) (hE : ∀ cls d H2, PySem.W.exmAny K cls [.ref T.C_AheadError, .ref T.C_Missing, .ref T.C_NothingLeft] = some true → ErrL K cls d H2 "TooMany" [.str "lines", .int 4000] → Same H1 H2 → E2 cls d H2) (d : Addr) (H' : Hp) (s6 : Same H1 H') (e6 : H' d = some (.xd [("code", .str "TooMany"), ("most", .int 4000), ("subject", .str "lines")])) : E2 (.ref T.C_TooMany) (some d) H' :=
  hE _ _ _ T.e_TooMany (.inr (.inl ⟨_, _, rfl, rfl, T.C_TooMany, d, rfl, T.y_TooMany, T.n_TooMany_code, T.n_TooMany_subject, T.n_TooMany_most, rfl, e6⟩)) s6
theorem due_read {σ : L2.St} {H0 : Hp} {Q : VK} (q : ∀ (L4 a1 p1 b1 a2 p2 b2 : Addr) (H' : Hp), Same H0 H' → H' L4 = some (.lst [.ref a1, .ref a1, .ref b1, .ref b1, .ref a2, .ref b2]) → H' a1 = some (.tup [.str "", .int 4000]) → H' p1 = some (.tup [.str "lines", .int 4000]) → H' b1 = some (.tup [.str "TooMany", .ref p1]) → H' a2 = some (.tup [.str "", .int 4000]) → H' p2 = some (.tup [.str "lines", .int 4000]) → H' b2 = some (.tup [.str "TooMany", .ref p2]) → Q (.ref L4) H') :
    tOp rCat (tOp rCat (tOp rRep (tLst (tCons (tTup (tCons (tC (.str "")) (tCons (tC (.int 4000)) tNil))) tNil)) (tC (.int 2))) (tOp rRep (tLst (tCons (tTup (tCons (tC (.str "TooMany")) (tCons (tTup (tCons (tC (.str "lines")) (tCons (tC (.int 4000)) tNil))) tNil))) tNil)) (tC (.int 2)))) (tLst (tCons (tTup (tCons (tC (.str "")) (tCons (tC (.int 4000)) tNil))) (tCons (tTup (tCons (tC (.str "TooMany")) (tCons (tTup (tCons (tC (.str "lines")) (tCons (tC (.int 4000)) tNil))) tNil))) tNil))) σ H0 Q := by
  walk_at "nn2"
  have S : Same H0 H0 := Same.refl _
  intro a1 na1
  have s := same_upd (o := .tup [.str "", .int 4000]) na1
  have ha1 := upd_same (H := H0) (a := a1) (o := .tup [.str "", .int 4000])
  have S := S.trans s
  clear na1 s
  generalize upd H0 a1 (.tup [.str "", .int 4000]) = K1 at *
  walk_at "nn2"
  intro e1 ne1
  have s := same_upd (o := .lst [.ref a1]) ne1
  have he1 := upd_same (H := K1) (a := e1) (o := .lst [.ref a1])
  have ha1 := s _ _ ha1
  have S := S.trans s
  clear ne1 s
  generalize upd K1 e1 (.lst [.ref a1]) = K2 at *
  walk_at "nn2"
  refine ⟨e1, 2, _, rfl, rfl, he1, by decide, by decide, sz (by show 2 ≤ 100000; decide), fun L1 nL1 => ?_⟩
  rw [show (List.replicate (Int.toNat 2) [V.ref a1]).flatten = [V.ref a1, V.ref a1] from rfl]
  have s := same_upd (o := .lst [.ref a1, .ref a1]) nL1
  have hL1 := upd_same (H := K2) (a := L1) (o := .lst [.ref a1, .ref a1])
  have ha1 := s _ _ ha1
  have he1 := s _ _ he1
  have S := S.trans s
  clear nL1 s
  generalize upd K2 L1 (.lst [.ref a1, .ref a1]) = K3 at *
  walk_at "nn2"
  intro p1 np1
  have s := same_upd (o := .tup [.str "lines", .int 4000]) np1
  have hp1 := upd_same (H := K3) (a := p1) (o := .tup [.str "lines", .int 4000])
  have ha1 := s _ _ ha1
  have he1 := s _ _ he1
  have hL1 := s _ _ hL1
  have S := S.trans s
  clear np1 s
  generalize upd K3 p1 (.tup [.str "lines", .int 4000]) = K4 at *
  walk_at "nn2"
  intro b1 nb1
  have s := same_upd (o := .tup [.str "TooMany", .ref p1]) nb1
  have hb1 := upd_same (H := K4) (a := b1) (o := .tup [.str "TooMany", .ref p1])
  have ha1 := s _ _ ha1
  have he1 := s _ _ he1
  have hL1 := s _ _ hL1
  have hp1 := s _ _ hp1
  have S := S.trans s
  clear nb1 s
  generalize upd K4 b1 (.tup [.str "TooMany", .ref p1]) = K5 at *
  walk_at "nn2"
  intro e2 ne2
  have s := same_upd (o := .lst [.ref b1]) ne2
  have he2 := upd_same (H := K5) (a := e2) (o := .lst [.ref b1])
  have ha1 := s _ _ ha1
  have he1 := s _ _ he1
  have hL1 := s _ _ hL1
  have hp1 := s _ _ hp1
  have hb1 := s _ _ hb1
  have S := S.trans s
  clear ne2 s
  generalize upd K5 e2 (.lst [.ref b1]) = K6 at *
  walk_at "nn2"
  refine ⟨e2, 2, _, rfl, rfl, he2, by decide, by decide, sz (by show 2 ≤ 100000; decide), fun L2 nL2 => ?_⟩
  rw [show (List.replicate (Int.toNat 2) [V.ref b1]).flatten = [V.ref b1, V.ref b1] from rfl]
  have s := same_upd (o := .lst [.ref b1, .ref b1]) nL2
  have hL2 := upd_same (H := K6) (a := L2) (o := .lst [.ref b1, .ref b1])
  have ha1 := s _ _ ha1
  have he1 := s _ _ he1
  have hL1 := s _ _ hL1
  have hp1 := s _ _ hp1
  have hb1 := s _ _ hb1
  have he2 := s _ _ he2
  have S := S.trans s
  clear nL2 s
  generalize upd K6 L2 (.lst [.ref b1, .ref b1]) = K7 at *
  walk_at "nn2"
  refine ⟨L1, L2, _, _, rfl, rfl, hL1, hL2, sz (by show 4 ≤ 100000; decide), fun L3 nL3 => ?_⟩
  rw [show ([V.ref a1, V.ref a1] ++ [V.ref b1, V.ref b1] : List V) = [V.ref a1, V.ref a1, V.ref b1, V.ref b1] from rfl]
  have s := same_upd (o := .lst [.ref a1, .ref a1, .ref b1, .ref b1]) nL3
  have hL3 := upd_same (H := K7) (a := L3) (o := .lst [.ref a1, .ref a1, .ref b1, .ref b1])
  have ha1 := s _ _ ha1
  have he1 := s _ _ he1
  have hL1 := s _ _ hL1
  have hp1 := s _ _ hp1
  have hb1 := s _ _ hb1
  have he2 := s _ _ he2
  have hL2 := s _ _ hL2
  have S := S.trans s
  clear nL3 s
  generalize upd K7 L3 (.lst [.ref a1, .ref a1, .ref b1, .ref b1]) = K8 at *
  walk_at "nn2"
  intro a2 na2
  have s := same_upd (o := .tup [.str "", .int 4000]) na2
  have ha2 := upd_same (H := K8) (a := a2) (o := .tup [.str "", .int 4000])
  have ha1 := s _ _ ha1
  have he1 := s _ _ he1
  have hL1 := s _ _ hL1
  have hp1 := s _ _ hp1
  have hb1 := s _ _ hb1
  have he2 := s _ _ he2
  have hL2 := s _ _ hL2
  have hL3 := s _ _ hL3
  have S := S.trans s
  clear na2 s
  generalize upd K8 a2 (.tup [.str "", .int 4000]) = K9 at *
  walk_at "nn2"
  intro p2 np2
  have s := same_upd (o := .tup [.str "lines", .int 4000]) np2
  have hp2 := upd_same (H := K9) (a := p2) (o := .tup [.str "lines", .int 4000])
  have ha1 := s _ _ ha1
  have he1 := s _ _ he1
  have hL1 := s _ _ hL1
  have hp1 := s _ _ hp1
  have hb1 := s _ _ hb1
  have he2 := s _ _ he2
  have hL2 := s _ _ hL2
  have hL3 := s _ _ hL3
  have ha2 := s _ _ ha2
  have S := S.trans s
  clear np2 s
  generalize upd K9 p2 (.tup [.str "lines", .int 4000]) = K10 at *
  walk_at "nn2"
  intro b2 nb2
  have s := same_upd (o := .tup [.str "TooMany", .ref p2]) nb2
  have hb2 := upd_same (H := K10) (a := b2) (o := .tup [.str "TooMany", .ref p2])
  have ha1 := s _ _ ha1
  have he1 := s _ _ he1
  have hL1 := s _ _ hL1
  have hp1 := s _ _ hp1
  have hb1 := s _ _ hb1
  have he2 := s _ _ he2
  have hL2 := s _ _ hL2
  have hL3 := s _ _ hL3
  have ha2 := s _ _ ha2
  have hp2 := s _ _ hp2
  have S := S.trans s
  clear nb2 s
  generalize upd K10 b2 (.tup [.str "TooMany", .ref p2]) = K11 at *
  walk_at "nn2"
  intro e3 ne3
  have s := same_upd (o := .lst [.ref a2, .ref b2]) ne3
  have he3 := upd_same (H := K11) (a := e3) (o := .lst [.ref a2, .ref b2])
  have ha1 := s _ _ ha1
  have he1 := s _ _ he1
  have hL1 := s _ _ hL1
  have hp1 := s _ _ hp1
  have hb1 := s _ _ hb1
  have he2 := s _ _ he2
  have hL2 := s _ _ hL2
  have hL3 := s _ _ hL3
  have ha2 := s _ _ ha2
  have hp2 := s _ _ hp2
  have hb2 := s _ _ hb2
  have S := S.trans s
  clear ne3 s
  generalize upd K11 e3 (.lst [.ref a2, .ref b2]) = K12 at *
  walk_at "nn2"
  refine ⟨L3, e3, _, _, rfl, rfl, hL3, he3, sz (by show 6 ≤ 100000; decide), fun L4 nL4 => ?_⟩
  rw [show ([V.ref a1, V.ref a1, V.ref b1, V.ref b1] ++ [V.ref a2, V.ref b2] : List V) = [V.ref a1, V.ref a1, V.ref b1, V.ref b1, V.ref a2, V.ref b2] from rfl]
  have s := same_upd (o := .lst [.ref a1, .ref a1, .ref b1, .ref b1, .ref a2, .ref b2]) nL4
  have hL4 := upd_same (H := K12) (a := L4) (o := .lst [.ref a1, .ref a1, .ref b1, .ref b1, .ref a2, .ref b2])
  have ha1 := s _ _ ha1
  have he1 := s _ _ he1
  have hL1 := s _ _ hL1
  have hp1 := s _ _ hp1
  have hb1 := s _ _ hb1
  have he2 := s _ _ he2
  have hL2 := s _ _ hL2
  have hL3 := s _ _ hL3
  have ha2 := s _ _ ha2
  have hp2 := s _ _ hp2
  have hb2 := s _ _ hb2
  have he3 := s _ _ he3
  have S := S.trans s
  clear nL4 s
  generalize upd K12 L4 (.lst [.ref a1, .ref a1, .ref b1, .ref b1, .ref a2, .ref b2]) = K13 at *
  exact q L4 a1 p1 b1 a2 p2 b2 _ S hL4 ha1 hp1 hb1 ha2 hp2 hb2
section
variable {P : Program} {w : World} {base : Heap}
theorem ok_wide_so {cW PL PW : Addr} (T : Env K mg) (cd : CodeIs T.fd_wide_so cW) (TBW : LamX.TabB base mg cW PW) (neP : PL ≠ PW) : FnOk P w K mg base CX0 15 T.f_wide_so T.fd_wide_so [] (spWide PL PW) := by
  obtain ⟨oc, od, kV, doc, pm, an, cdv, ct, osl, e, lk, hcd⟩ := T.F_wide_so.ex
  rw [e] at lk cd ⊢
  obtain rfl : cdv = .ref cW := cd
  refine fn_of lk hcd sc_wide_so (fun vs H Q E h => ?_) (fun A outer s H vs Q E hr h => ?_)
  · obtain ⟨rfl, _⟩ := h
    rfl
  · suffices z : ∃ t, PSs (cxOf CX0 P w K mg base N_wide_so "_law_wide_so" (defScope s_wide_so) T.f_wide_so (.ref cW) A outer s H E).nox (defBody s_wide_so) t ∧ t { nx := fun _ G => Q .non G, rt := Q } (L2.start N_wide_so vs) H by
      obtain ⟨t, h1, h2⟩ := z
      exact ⟨t, h1.nox, h2⟩
    have nd : CellsNd (cxOf CX0 P w K mg base N_wide_so "_law_wide_so" (defScope s_wide_so) T.f_wide_so (.ref cW) A outer s H E).nox.env := by
      intro y c hm
      have hm : (y, c) ∈ ([("_law_wide", s.heap.objs.size + 1 + 1 + 1), ("_law_less", s.heap.objs.size + 1 + 1), ("_law_flat", s.heap.objs.size + 1)] : List (Str × Addr)) := hm
      simp only [List.mem_cons, Prod.mk.injEq, List.not_mem_nil, or_false] at hm
      rcases hm with ⟨rfl, rfl⟩ | ⟨rfl, rfl⟩ | ⟨rfl, rfl⟩ <;> rfl
    have hfn : (cxOf CX0 P w K mg base N_wide_so "_law_wide_so" (defScope s_wide_so) T.f_wide_so (.ref cW) A outer s H E).nox.Ok → ∀ y c, (cxOf CX0 P w K mg base N_wide_so "_law_wide_so" (defScope s_wide_so) T.f_wide_so (.ref cW) A outer s H E).nox.env.cells.lookup y = some c → (cxOf CX0 P w K mg base N_wide_so "_law_wide_so" (defScope s_wide_so) T.f_wide_so (.ref cW) A outer s H E).nox.s_0.heap.objs.size ≤ c := by
      intro _ y c hm
      have hm : (y, c) ∈ ([("_law_wide", s.heap.objs.size + 1 + 1 + 1), ("_law_less", s.heap.objs.size + 1 + 1), ("_law_flat", s.heap.objs.size + 1)] : List (Str × Addr)) := PySem.mem_of_lookup hm
      show s.heap.objs.size ≤ c
      simp only [List.mem_cons, Prod.mk.injEq, List.not_mem_nil, or_false] at hm
      rcases hm with ⟨_, rfl⟩ | ⟨_, rfl⟩ | ⟨_, rfl⟩ <;> omega
    refine ⟨_, ((pss_cons (ps_set (i := 0) sc_wide_so.nd rfl (.inr rfl) (pe_lst (pa_cons (pe_tup (pa_cons pe_str (pa_cons (pe_tup pa_nil) pa_nil))) pa_nil)))
      (pss_cons (ps_asg (pe_tup (pa_cons (pe_makeK T.k_Formula___init (ok_Formula___init T) (hr.mono (by decide)) (by rfl) T.gC_Formula T.kb_Formula___init passL (pa_cons pe_str (pa_cons (pe_op op_rep (pv 0) pe_int) pa_nil)) pk_nil) (pa_cons (pe_makeK T.k_Formula___init (ok_Formula___init T) (hr.mono (by decide)) (by rfl) T.gC_Formula T.kb_Formula___init passL (pa_cons pe_str (pa_cons (pe_op op_rep (pv 0) pe_int) pa_nil)) pk_nil) pa_nil))) (pg_tup (by rfl) (pgs_cons (pg_name (i := 1) sc_wide_so.nd rfl (.inr rfl)) (pgs_cons (pg_name (i := 2) sc_wide_so.nd rfl (.inr rfl)) pgs_nil))))
      (pss_cons (ps_set (i := 3) sc_wide_so.nd rfl (.inl rfl) (pe_lst (pa_cons (pe_lm (T := tabs2 PL PW) TBW rfl (tabs2_2 rfl) (tabs2_u2 neP rfl) (free_by (sc := defScope s_wide_so) (by decide +kernel)) rfl) (pa_cons (pe_lm1 (i := 0) (T := tabs2 PL PW) TBW rfl (tabs2_2 rfl) (tabs2_u2 neP rfl) (free_by (sc := defScope s_wide_so) (by decide +kernel)) rfl rfl) (pa_cons (pe_lm1 (i := 0) (T := tabs2 PL PW) TBW rfl (tabs2_2 rfl) (tabs2_u2 neP rfl) (free_by (sc := defScope s_wide_so) (by decide +kernel)) rfl rfl) (pa_cons (pe_lm1 (i := 0) (T := tabs2 PL PW) TBW rfl (tabs2_2 rfl) (tabs2_u2 neP rfl) (free_by (sc := defScope s_wide_so) (by decide +kernel)) rfl rfl) pa_nil))))))
      (pss_cons (ps_set (i := 3) sc_wide_so.nd rfl (.inl rfl) (pe_op op_cat (pv 3) (pe_lst (pa_cons (pe_lm (T := tabs2 PL PW) TBW rfl (tabs2_2 rfl) (tabs2_u2 neP rfl) (free_by (sc := defScope s_wide_so) (by decide +kernel)) rfl) (pa_cons (pe_lm1 (i := 0) (T := tabs2 PL PW) TBW rfl (tabs2_2 rfl) (tabs2_u2 neP rfl) (free_by (sc := defScope s_wide_so) (by decide +kernel)) rfl rfl) pa_nil)))))
      (pss_cons (ps_set (i := 4) sc_wide_so.nd rfl (.inl rfl) (pe_op op_cat (pe_op op_cat (pe_op op_rep (pe_lst (pa_cons (pe_tup (pa_cons pe_str (pa_cons pe_int pa_nil))) pa_nil)) pe_int) (pe_op op_rep (pe_lst (pa_cons (pe_tup (pa_cons pe_str (pa_cons (pe_tup (pa_cons pe_str (pa_cons pe_int pa_nil))) pa_nil))) pa_nil)) pe_int)) (pe_lst (pa_cons (pe_tup (pa_cons pe_str (pa_cons pe_int pa_nil))) (pa_cons (pe_tup (pa_cons pe_str (pa_cons (pe_tup (pa_cons pe_str (pa_cons pe_int pa_nil))) pa_nil))) pa_nil)))))
      (pss_one (ps_ret (pe_call (ok_same T 5) (hr.mono (by decide)) (by rfl) T.g_same T.F_same.kp T.b_same .nil pass0 (pa_cons (pe_callX (k := 13) (hr.mono (by decide)) (by rfl) T.g_all_got T.F_all_got.kp T.b_all_got pass0 nd hfn (pa_cons (pv 3) pa_nil)) (pa_cons (pv 4) pa_nil))))))))))), ?_⟩
    obtain ⟨rfl, t0, q⟩ := h
    walk_at "nn2"
    intro t0a nt0
    have u0 := same_upd (o := .tup []) nt0
    have ht0 := upd_same (H := H) (a := t0a) (o := .tup [])
    walk_at "nn2"
    intro q0 nq0
    have u1 := same_upd (o := .tup [.str "and", .ref t0a]) nq0
    have hq0 := upd_same (H := upd H t0a (.tup [])) (a := q0) (o := .tup [.str "and", .ref t0a])
    have ht1 := u1 _ _ ht0
    walk_at "nn2"
    intro l0 nl0
    have u2 := same_upd (o := .lst [.ref q0]) nl0
    have hl0 := upd_same (H := upd (upd H t0a (.tup [])) q0 (.tup [.str "and", .ref t0a])) (a := l0) (o := .lst [.ref q0])
    have S := u0.trans (u1.trans u2)
    have fa : FLAt (upd (upd (upd H t0a (.tup [])) q0 (.tup [.str "and", .ref t0a])) l0 (.lst [.ref q0])) q0 (.and []) := ⟨t0a, u2 _ _ hq0, u2 _ _ ht1⟩
    have t1 : LamX.Tabs (tabs2 PL PW) _ := t0.ext S
    clear S u0 u1 u2 hq0 ht1 ht0 nt0 nq0 nl0 t0
    generalize upd (upd (upd H t0a (.tup [])) q0 (.tup [.str "and", .ref t0a])) l0 (.lst [.ref q0]) = G1 at *
    walk_at "nn2"
    refine ⟨l0, 2000, _, rfl, rfl, hl0, by decide, by decide, sz (by show 2000 ≤ 100000; decide), fun r1 nr1 => ?_⟩
    rw [show (List.replicate (Int.toNat 2000) [V.ref q0]).flatten = (List.replicate 2000 q0).map V.ref from by rw [show Int.toNat 2000 = 2000 from rfl, rep_flat, List.map_replicate]]
    have s1 := same_upd (o := .lst ((List.replicate 2000 q0).map V.ref)) nr1
    have hr1 := upd_same (H := G1) (a := r1) (o := .lst ((List.replicate 2000 q0).map V.ref))
    have hl1 := s1 _ _ hl0
    have fa1 := fa.same s1
    have t2 : LamX.Tabs (tabs2 PL PW) _ := t1.ext s1
    clear s1 hl0 fa t1 nr1
    generalize upd G1 r1 (.lst ((List.replicate 2000 q0).map V.ref)) = G2 at *
    walk_at "nn2"
    intro x1 dx1 x10 dx10 ne1
    refine mk_use T (ps := List.replicate 2000 q0) x10 dx10 ne1 hr1 (.inl (SqL.of hr1)) (FLp.rep fa1 2000) (fok_rep 2000) alpha_a (by rw [List.length_replicate]; decide) (by rw [List.length_replicate]; decide) fun G3 s3 M3 => ⟨rfl, ?_⟩
    have hl3 := s3 _ _ hl1
    have fa3 := fa1.same s3
    have t3 : LamX.Tabs (tabs2 PL PW) _ := t2.ext s3
    have A3 := M3.at_
    clear s3 hl1 fa1 t2 M3 x10 dx10 ne1 hr1
    walk_at "nn2"
    refine ⟨l0, 1999, _, rfl, rfl, hl3, by decide, by decide, sz (by show 1999 ≤ 100000; decide), fun r2 nr2 => ?_⟩
    rw [show (List.replicate (Int.toNat 1999) [V.ref q0]).flatten = (List.replicate 1999 q0).map V.ref from by rw [show Int.toNat 1999 = 1999 from rfl, rep_flat, List.map_replicate]]
    have s1 := same_upd (o := .lst ((List.replicate 1999 q0).map V.ref)) nr2
    have hr2 := upd_same (H := G3) (a := r2) (o := .lst ((List.replicate 1999 q0).map V.ref))
    have hl4 := s1 _ _ hl3
    have fa4 := fa3.same s1
    have t4 : LamX.Tabs (tabs2 PL PW) _ := t3.ext s1
    have A4 := A3.same s1
    clear s1 hl3 fa3 t3 nr2 A3
    generalize upd G3 r2 (.lst ((List.replicate 1999 q0).map V.ref)) = G4 at *
    walk_at "nn2"
    intro x2 dx2 x20 dx20 ne2
    refine mk_use T (ps := List.replicate 1999 q0) x20 dx20 ne2 hr2 (.inl (SqL.of hr2)) (FLp.rep fa4 1999) (fok_rep 1999) alpha_a (by rw [List.length_replicate]; decide) (by rw [List.length_replicate]; decide) fun G5 s5 M5 => ⟨rfl, ?_⟩
    have wd5 : Wd T.C_Formula PL PW G5 x1 x2 l0 q0 := ⟨t4.ext s5, A4.same s5, M5.at_, fa4.same s5, s5 _ _ hl4⟩
    clear s5 hl4 fa4 t4 M5 x20 dx20 ne2 hr2 A4
    walk_at "nn2"
    intro tp tp0
    have sp := same_upd (o := .tup [.ref x1, .ref x2]) tp0
    have htp := upd_same (H := G5) (a := tp) (o := .tup [.ref x1, .ref x2])
    have wd6 := wd5.same sp
    clear wd5 sp tp0
    refine ⟨tp, _, rfl, SqT.of htp, rfl, ?_⟩
    generalize upd G5 tp (.tup [.ref x1, .ref x2]) = G6 at *
    refine ⟨_, _, rfl, _, _, rfl, rfl, ?_⟩
    clear htp
    have t6 := wd6.tab
    walk_at "nn2"
    intro f0 c0 H0 y0 _ tb0 _ lf0 lc0
    walk_at "nn2"
    intro f1 c1 T1 H1 y1 _ tb1 _ dT1 lf1 lc1
    have lf0 := y1 _ _ lf0 (by intro ps z; cases z)
    have lc0 := y1 _ _ lc0 LamX.codeO_ne
    walk_at "nn2"
    intro f2 c2 T2 H2 y2 _ tb2 _ dT2 lf2 lc2
    have lf0 := y2 _ _ lf0 (by intro ps z; cases z)
    have lc0 := y2 _ _ lc0 LamX.codeO_ne
    have lf1 := y2 _ _ lf1 (by intro ps z; cases z)
    have lc1 := y2 _ _ lc1 LamX.codeO_ne
    have dT1 := y2 _ _ dT1 (by intro ps z; cases z)
    walk_at "nn2"
    intro f3 c3 T3 H3 y3 _ tb3 _ dT3 lf3 lc3
    have lf0 := y3 _ _ lf0 (by intro ps z; cases z)
    have lc0 := y3 _ _ lc0 LamX.codeO_ne
    have lf1 := y3 _ _ lf1 (by intro ps z; cases z)
    have lc1 := y3 _ _ lc1 LamX.codeO_ne
    have dT1 := y3 _ _ dT1 (by intro ps z; cases z)
    have lf2 := y3 _ _ lf2 (by intro ps z; cases z)
    have lc2 := y3 _ _ lc2 LamX.codeO_ne
    have dT2 := y3 _ _ dT2 (by intro ps z; cases z)
    have wd7 := wd6.ext (y0.trans (y1.trans (y2.trans y3))) tb3
    clear wd6 t6 y0 y1 y2 y3 tb0 tb1 tb2
    walk_at "nn2"
    intro la nla
    have sa := same_upd (o := .lst [.ref f0, .ref f1, .ref f2, .ref f3]) nla
    have hla := upd_same (H := H3) (a := la) (o := .lst [.ref f0, .ref f1, .ref f2, .ref f3])
    have wd8 := wd7.same sa
    have lf0 := sa _ _ lf0
    have lc0 := sa _ _ lc0
    have lf1 := sa _ _ lf1
    have lc1 := sa _ _ lc1
    have dT1 := sa _ _ dT1
    have lf2 := sa _ _ lf2
    have lc2 := sa _ _ lc2
    have dT2 := sa _ _ dT2
    have lf3 := sa _ _ lf3
    have lc3 := sa _ _ lc3
    have dT3 := sa _ _ dT3
    have t8 := wd8.tab
    clear wd7 sa nla tb3
    show gName 3 _ _ (upd H3 la (.lst [.ref f0, .ref f1, .ref f2, .ref f3])) _
    generalize upd H3 la (.lst [.ref f0, .ref f1, .ref f2, .ref f3]) = H4 at *
    walk_at "nn2"
    intro f4 c4 H5 y5 _ tb5 _ lf4 lc4
    walk_at "nn2"
    intro f5 c5 T5 H6 y6 _ tb6 _ dT5 lf5 lc5
    have lf4 := y6 _ _ lf4 (by intro ps z; cases z)
    have lc4 := y6 _ _ lc4 LamX.codeO_ne
    have yy := y5.trans y6
    have wd9 := wd8.ext yy tb6
    have hla := yy _ _ hla (by intro ps z; cases z)
    have lf0 := yy _ _ lf0 (by intro ps z; cases z)
    have lc0 := yy _ _ lc0 LamX.codeO_ne
    have lf1 := yy _ _ lf1 (by intro ps z; cases z)
    have lc1 := yy _ _ lc1 LamX.codeO_ne
    have dT1 := yy _ _ dT1 (by intro ps z; cases z)
    have lf2 := yy _ _ lf2 (by intro ps z; cases z)
    have lc2 := yy _ _ lc2 LamX.codeO_ne
    have dT2 := yy _ _ dT2 (by intro ps z; cases z)
    have lf3 := yy _ _ lf3 (by intro ps z; cases z)
    have lc3 := yy _ _ lc3 LamX.codeO_ne
    have dT3 := yy _ _ dT3 (by intro ps z; cases z)
    clear wd8 y5 y6 yy tb5 tb6 t8
    walk_at "nn2"
    intro lb nlb
    have sb := same_upd (o := .lst [.ref f4, .ref f5]) nlb
    have hlb := upd_same (H := H6) (a := lb) (o := .lst [.ref f4, .ref f5])
    refine ⟨la, lb, _, _, rfl, rfl, sb _ _ hla, hlb, sz (by show 6 ≤ 100000; decide), fun L nL => ?_⟩
    have sL := same_upd (o := .lst [.ref f0, .ref f1, .ref f2, .ref f3, .ref f4, .ref f5]) nL
    have hL := upd_same (H := upd H6 lb (.lst [.ref f4, .ref f5])) (a := L) (o := .lst [.ref f0, .ref f1, .ref f2, .ref f3, .ref f4, .ref f5])
    have sb := sb.trans sL
    have wd10 := wd9.same sb
    have lf0 := sb _ _ lf0
    have lc0 := sb _ _ lc0
    have lf1 := sb _ _ lf1
    have lc1 := sb _ _ lc1
    have dT1 := sb _ _ dT1
    have lf2 := sb _ _ lf2
    have lc2 := sb _ _ lc2
    have dT2 := sb _ _ dT2
    have lf3 := sb _ _ lf3
    have lc3 := sb _ _ lc3
    have dT3 := sb _ _ dT3
    have lf4 := sb _ _ lf4
    have lc4 := sb _ _ lc4
    have lf5 := sb _ _ lf5
    have lc5 := sb _ _ lc5
    have dT5 := sb _ _ dT5
    clear wd9 sb sL hla hlb nlb nL
    show gName 3 _ _ (upd (upd H6 lb (.lst [.ref f4, .ref f5])) L (.lst [.ref f0, .ref f1, .ref f2, .ref f3, .ref f4, .ref f5])) _
    generalize upd (upd H6 lb (.lst [.ref f4, .ref f5])) L (.lst [.ref f0, .ref f1, .ref f2, .ref f3, .ref f4, .ref f5]) = G7 at *
    with_reducible refine MyP.gname_use ?_
    with_reducible refine MyP.SeqN.go (by assumption) ?_
    with_reducible refine MyP.seq_use (fun _ _ => ?_)
    refine due_read (fun L4 a1 p1 b1 a2 p2 b2 G8 S hL4 ha1 hp1 hb1 ha2 hp2 hb2 => ?_)
    have wd10 := wd10.same S
    have lf0 := S _ _ lf0
    have lc0 := S _ _ lc0
    have lf1 := S _ _ lf1
    have lc1 := S _ _ lc1
    have dT1 := S _ _ dT1
    have lf2 := S _ _ lf2
    have lc2 := S _ _ lc2
    have dT2 := S _ _ dT2
    have lf3 := S _ _ lf3
    have lc3 := S _ _ lc3
    have dT3 := S _ _ dT3
    have lf4 := S _ _ lf4
    have lc4 := S _ _ lc4
    have lf5 := S _ _ lf5
    have lc5 := S _ _ lc5
    have dT5 := S _ _ dT5
    have hL := S _ _ hL
    clear S
    walk_at "nn2"
    refine allgotl_x (X := (cxOf CX0 P w K mg base N_wide_so "_law_wide_so" (defScope s_wide_so) T.f_wide_so (.ref cW) A outer s H E).nox) T 10 fun bs g => ?_
    refine ⟨L, [f0, f1, f2, f3, f4, f5], [.val (fun v _ => v = .int 4000), .val (fun v _ => v = .int 4000), .err "TooMany" [.str "lines", .int 4000], .err "TooMany" [.str "lines", .int 4000], .val (fun v _ => v = .int 4000), .err "TooMany" [.str "lines", .int 4000]], rfl, SqL.of hL, (by show 6 ≤ 100; decide), rfl, fun d hd => ?_, fun i f hf => ?_, fun pr ys GA e1 e2 e3 s1 => ?_⟩
    · simp only [List.mem_cons, List.not_mem_nil, or_false] at hd
      rcases hd with rfl | rfl | rfl | rfl | rfl | rfl
      · exact fun v H1 H2 tk h => h
      · exact fun v H1 H2 tk h => h
      · trivial
      · trivial
      · exact fun v H1 H2 tk h => h
      · trivial
    · match i, hf with
      | 0, hf =>
        cases hf
        refine ⟨_, rfl, ?_⟩
        refine ask_val0 (P := P) (w := w) (N := ["_law_less", "_law_wide"]) (fr := ["_law_less", "_law_wide"]) lf0 lc0 rfl (NdefX.nscope_by (by kernel_rfl)) (fun _ _ _ => rfl) (g.cells _ _ [2, 1] (NdefX.Caps.made g.ok (free_by (sc := defScope s_wide_so) (by decide +kernel)) (by decide +kernel) rfl)) (fun A outer s H E hr => (pe_callB (call_ownlen (ok_Formula___len T) (hr.mono (by decide)) ⟨T.m_Formula___len.1, T.m_Formula___len.2⟩ T.b_Formula___len pass0) (by rfl) T.z_len (by decide +kernel) (pa_cons (pe_op (op_ownBin (op := .BitAnd) (by rfl) (ok_Formula___and T) (hr.mono (by decide)) ⟨T.m_Formula___and.1, T.m_Formula___and.2⟩ T.sf_Formula T.b_Formula___and (passE (takes_of rfl rfl rfl rfl))) (pv 1) (pv 0)) pa_nil))) fun H5 s5 Q2 E2 hE => ?_
        have W5 := wd10.same s5
        clear lf0 lc0 lf1 lc1 dT1 lf2 lc2 dT2 lf3 lc3 dT3 lf4 lc4 lf5 lc5 dT5 hL hL4 ha1 hp1 hb1 ha2 hp2 hb2 q wd10 g s5
        obtain ⟨d1, k1, g1, -⟩ := id W5.one
        obtain ⟨d2, k2, g2, -⟩ := id W5.two
        walk_at "nn2"
        refine ⟨x1, x2, d1, d2, _, _, rfl, rfl, g1, g2, ?_⟩
        refine ⟨x1, x2, "a", "a", _, _, _, _, false, false, rfl, W5.tw, .inr (.inl ⟨rfl, by simp only [List.length_replicate]; omega, fun x rs H6 s6 M F => ⟨_, rfl, ?_⟩⟩)⟩
        have M := M.at_
        obtain ⟨dm, lm, hm, -⟩ := id M
        have rl : (rs.map V.ref).length = 4000 := by rw [List.length_map, F.1, mkAnd_len, List.length_replicate, List.length_replicate]
        walk_at "nn2"
        refine ⟨x, dm, _, rfl, hm, x, "a", _, _, rfl, M, _, rfl, by omega, by omega, ?_⟩
        exact hE _ _ (by rw [rl]; rfl) s6
      | 1, hf =>
        cases hf
        refine ⟨_, rfl, ?_⟩
        refine ask_val1 (P := P) (w := w) (N := ["_law_a", "_law_less", "_law_wide"]) (fr := ["_law_less", "_law_wide"]) lf1 lc1 (.inr ⟨T1, 0, rfl, rfl, dT1⟩) (NdefX.nscope_by (by kernel_rfl)) (fun Tt doc pm ctv its e h => by
          have e : Value.ref T1 = Value.ref Tt := e
          cases e
          match its, h with
          | [_], _ => exact ⟨_, rfl, rfl⟩) (g.cells _ _ [2, 1] (NdefX.Caps.made g.ok (free_by (sc := defScope s_wide_so) (by decide +kernel)) (by decide +kernel) rfl)) (fun A outer s H E hr => (pe_callB (call_ownlen (ok_Formula___len T) (hr.mono (by decide)) ⟨T.m_Formula___len.1, T.m_Formula___len.2⟩ T.b_Formula___len pass0) (by rfl) T.z_len (by decide +kernel) (pa_cons (pe_op (op_ownBin (op := .BitOr) (by rfl) (ok_Formula___or T) (hr.mono (by decide)) ⟨T.m_Formula___or.1, T.m_Formula___or.2⟩ T.sf_Formula T.b_Formula___or (passE (takes_of rfl rfl rfl rfl))) (pv 1) (pv 2)) pa_nil))) fun H5 s5 Q2 E2 hE => ?_
        have W5 := wd10.same s5
        clear lf0 lc0 lf1 lc1 dT1 lf2 lc2 dT2 lf3 lc3 dT3 lf4 lc4 lf5 lc5 dT5 hL hL4 ha1 hp1 hb1 ha2 hp2 hb2 q wd10 g s5
        obtain ⟨d1, k1, g1, -⟩ := id W5.one
        obtain ⟨d2, k2, g2, -⟩ := id W5.two
        walk_at "nn2"
        refine ⟨x2, x1, d2, d1, _, _, rfl, rfl, g2, g1, ?_⟩
        refine ⟨x2, x1, "a", "a", _, _, _, _, false, false, rfl, W5.wt, .inr (.inl ⟨rfl, by simp only [List.length_replicate]; omega, fun x rs H6 s6 M F => ⟨_, rfl, ?_⟩⟩)⟩
        have M := M.at_
        obtain ⟨dm, lm, hm, -⟩ := id M
        have rl : (rs.map V.ref).length = 4000 := by rw [List.length_map, F.1, mkOr_len, List.length_replicate, List.length_replicate]
        walk_at "nn2"
        refine ⟨x, dm, _, rfl, hm, x, "a", _, _, rfl, M, _, rfl, by omega, by omega, ?_⟩
        exact hE _ _ (by rw [rl]; rfl) s6
      | 2, hf =>
        cases hf
        refine ⟨_, rfl, ?_⟩
        refine ask_err1 (P := P) (w := w) (N := ["_law_b", "_law_wide"]) (fr := ["_law_wide"]) lf2 lc2 (.inr ⟨T2, 0, rfl, rfl, dT2⟩) (NdefX.nscope_by (by kernel_rfl)) (fun Tt doc pm ctv its e h => by
          have e : Value.ref T2 = Value.ref Tt := e
          cases e
          match its, h with
          | [_], _ => exact ⟨_, rfl, rfl⟩) (g.cells _ _ [1] (NdefX.Caps.made g.ok (free_by (sc := defScope s_wide_so) (by decide +kernel)) (by decide +kernel) rfl)) (fun A outer s H E hr => (pe_op (op_ownBin (op := .BitAnd) (by rfl) (ok_Formula___and T) (hr.mono (by decide)) ⟨T.m_Formula___and.1, T.m_Formula___and.2⟩ T.sf_Formula T.b_Formula___and (passE (takes_of rfl rfl rfl rfl))) (pv 1) (pv 1))) fun H5 s5 Q2 E2 hE => ?_
        have W5 := wd10.same s5
        clear lf0 lc0 lf1 lc1 dT1 lf2 lc2 dT2 lf3 lc3 dT3 lf4 lc4 lf5 lc5 dT5 hL hL4 ha1 hp1 hb1 ha2 hp2 hb2 q wd10 g s5
        obtain ⟨d1, k1, g1, -⟩ := id W5.one
        walk_at "nn2"
        refine ⟨x1, x1, d1, d1, _, _, rfl, rfl, g1, g1, ?_⟩
        exact ⟨x1, x1, "a", "a", _, _, _, _, false, false, rfl, W5.ww, .inr (.inr ⟨rfl, by simp only [List.length_replicate]; omega, many_e T _ _ hE⟩)⟩
      | 3, hf =>
        cases hf
        refine ⟨_, rfl, ?_⟩
        refine ask_err1 (P := P) (w := w) (N := ["_law_c", "_law_wide"]) (fr := ["_law_wide"]) lf3 lc3 (.inr ⟨T3, 0, rfl, rfl, dT3⟩) (NdefX.nscope_by (by kernel_rfl)) (fun Tt doc pm ctv its e h => by
          have e : Value.ref T3 = Value.ref Tt := e
          cases e
          match its, h with
          | [_], _ => exact ⟨_, rfl, rfl⟩) (g.cells _ _ [1] (NdefX.Caps.made g.ok (free_by (sc := defScope s_wide_so) (by decide +kernel)) (by decide +kernel) rfl)) (fun A outer s H E hr => (pe_op (op_ownBin (op := .BitOr) (by rfl) (ok_Formula___or T) (hr.mono (by decide)) ⟨T.m_Formula___or.1, T.m_Formula___or.2⟩ T.sf_Formula T.b_Formula___or (passE (takes_of rfl rfl rfl rfl))) (pv 1) (pv 1))) fun H5 s5 Q2 E2 hE => ?_
        have W5 := wd10.same s5
        clear lf0 lc0 lf1 lc1 dT1 lf2 lc2 dT2 lf3 lc3 dT3 lf4 lc4 lf5 lc5 dT5 hL hL4 ha1 hp1 hb1 ha2 hp2 hb2 q wd10 g s5
        obtain ⟨d1, k1, g1, -⟩ := id W5.one
        walk_at "nn2"
        refine ⟨x1, x1, d1, d1, _, _, rfl, rfl, g1, g1, ?_⟩
        exact ⟨x1, x1, "a", "a", _, _, _, _, false, false, rfl, W5.ww, .inr (.inr ⟨rfl, by simp only [List.length_replicate]; omega, many_e T _ _ hE⟩)⟩
      | 4, hf =>
        cases hf
        refine ⟨_, rfl, ?_⟩
        refine ask_val0 (P := P) (w := w) (N := ["_law_flat"]) (fr := ["_law_flat"]) lf4 lc4 rfl (NdefX.nscope_by (by kernel_rfl)) (fun _ _ _ => rfl) (g.cells _ _ [0] (NdefX.Caps.made g.ok (free_by (sc := defScope s_wide_so) (by decide +kernel)) (by decide +kernel) rfl)) (fun A outer s H E hr => (pe_callB (call_ownlen (ok_Formula___len T) (hr.mono (by decide)) ⟨T.m_Formula___len.1, T.m_Formula___len.2⟩ T.b_Formula___len pass0) (by rfl) T.z_len (by decide +kernel) (pa_cons (pe_un (un_ownNeg (ok_Formula___neg T) (hr.mono (by decide)) ⟨T.m_Formula___neg.1, T.m_Formula___neg.2⟩ T.b_Formula___neg (passE (takes_of rfl rfl rfl rfl))) (pe_makeK T.k_Formula___init (ok_Formula___init T) (hr.mono (by decide)) (by rfl) T.gC_Formula T.kb_Formula___init (passE (takes_of rfl rfl rfl rfl)) (pa_cons pe_str (pa_cons (pe_op op_rep (pv 0) pe_int) pa_nil)) pk_nil)) pa_nil))) fun H5 s5 Q2 E2 hE => ?_
        have W5 := wd10.same s5
        clear lf0 lc0 lf1 lc1 dT1 lf2 lc2 dT2 lf3 lc3 dT3 lf4 lc4 lf5 lc5 dT5 hL hL4 ha1 hp1 hb1 ha2 hp2 hb2 q wd10 g s5
        walk_at "nn2"
        refine ⟨l0, 3999, _, rfl, rfl, W5.flat, by decide, by decide, sz (by show 3999 ≤ 100000; decide), fun r nr => ?_⟩
        rw [show (List.replicate (Int.toNat 3999) [V.ref q0]).flatten = (List.replicate 3999 q0).map V.ref from by rw [show Int.toNat 3999 = 3999 from rfl, rep_flat, List.map_replicate]]
        have s6 := same_upd (o := .lst ((List.replicate 3999 q0).map V.ref)) nr
        have hr6 := upd_same (H := H5) (a := r) (o := .lst ((List.replicate 3999 q0).map V.ref))
        have fa6 := W5.fa.same s6
        generalize upd H5 r (.lst ((List.replicate 3999 q0).map V.ref)) = H6 at *
        walk_at "nn2"
        intro x dx xn dxn ne
        refine mk_use T (ps := List.replicate 3999 q0) xn dxn ne hr6 (.inl (SqL.of hr6)) (FLp.rep fa6 3999) (fok_rep 3999) alpha_a (by rw [List.length_replicate]; decide) (by rw [List.length_replicate]; decide) fun H7 s7 M7 => ⟨rfl, ?_⟩
        have M7 := M7.at_
        obtain ⟨d7, k7, g7, -⟩ := id M7
        walk_at "nn2"
        refine ⟨x, d7, _, rfl, g7, ?_⟩
        refine ⟨x, "a", _, _, false, rfl, M7, FLp.rep (fa6.same s7) 3999, fok_rep 3999, alpha_a, ⟨by rw [List.length_replicate]; decide, by rw [List.length_replicate]; decide⟩, .inl ⟨by rw [List.length_replicate]; decide, fun y rs H8 s8 M F => ⟨_, rfl, ?_⟩⟩⟩
        have M := M.at_
        obtain ⟨dm, lm, hm, -⟩ := id M
        have rl : (rs.map V.ref).length = 4000 := by rw [List.length_map, F.1, List.length_append]; simp only [List.length_replicate, List.length_cons, List.length_nil]
        walk_at "nn2"
        refine ⟨y, dm, _, rfl, hm, y, "a", _, _, rfl, M, _, rfl, by omega, by omega, ?_⟩
        exact hE _ _ (by rw [rl]; rfl) (s6.trans (s7.trans s8))
      | 5, hf =>
        cases hf
        refine ⟨_, rfl, ?_⟩
        refine ask_err1 (P := P) (w := w) (N := ["_law_a", "_law_flat"]) (fr := ["_law_flat"]) lf5 lc5 (.inr ⟨T5, 0, rfl, rfl, dT5⟩) (NdefX.nscope_by (by kernel_rfl)) (fun Tt doc pm ctv its e h => by
          have e : Value.ref T5 = Value.ref Tt := e
          cases e
          match its, h with
          | [_], _ => exact ⟨_, rfl, rfl⟩) (g.cells _ _ [0] (NdefX.Caps.made g.ok (free_by (sc := defScope s_wide_so) (by decide +kernel)) (by decide +kernel) rfl)) (fun A outer s H E hr => (pe_un (un_ownNeg (ok_Formula___neg T) (hr.mono (by decide)) ⟨T.m_Formula___neg.1, T.m_Formula___neg.2⟩ T.b_Formula___neg (passE (takes_of rfl rfl rfl rfl))) (pe_makeK T.k_Formula___init (ok_Formula___init T) (hr.mono (by decide)) (by rfl) T.gC_Formula T.kb_Formula___init (passE (takes_of rfl rfl rfl rfl)) (pa_cons pe_str (pa_cons (pe_op op_rep (pv 1) pe_int) pa_nil)) pk_nil))) fun H5 s5 Q2 E2 hE => ?_
        have W5 := wd10.same s5
        clear lf0 lc0 lf1 lc1 dT1 lf2 lc2 dT2 lf3 lc3 dT3 lf4 lc4 lf5 lc5 dT5 hL hL4 ha1 hp1 hb1 ha2 hp2 hb2 q wd10 g s5
        walk_at "nn2"
        refine ⟨l0, 4000, _, rfl, rfl, W5.flat, by decide, by decide, sz (by show 4000 ≤ 100000; decide), fun r nr => ?_⟩
        rw [show (List.replicate (Int.toNat 4000) [V.ref q0]).flatten = (List.replicate 4000 q0).map V.ref from by rw [show Int.toNat 4000 = 4000 from rfl, rep_flat, List.map_replicate]]
        have s6 := same_upd (o := .lst ((List.replicate 4000 q0).map V.ref)) nr
        have hr6 := upd_same (H := H5) (a := r) (o := .lst ((List.replicate 4000 q0).map V.ref))
        have fa6 := W5.fa.same s6
        generalize upd H5 r (.lst ((List.replicate 4000 q0).map V.ref)) = H6 at *
        walk_at "nn2"
        intro x dx xn dxn ne
        refine mk_use T (ps := List.replicate 4000 q0) xn dxn ne hr6 (.inl (SqL.of hr6)) (FLp.rep fa6 4000) (fok_rep 4000) alpha_a (by rw [List.length_replicate]; decide) (by rw [List.length_replicate]; decide) fun H7 s7 M7 => ⟨rfl, ?_⟩
        have M7 := M7.at_
        obtain ⟨d7, k7, g7, -⟩ := id M7
        walk_at "nn2"
        refine ⟨x, d7, _, rfl, g7, ?_⟩
        exact ⟨x, "a", _, _, false, rfl, M7, FLp.rep (fa6.same s7) 4000, fok_rep 4000, alpha_a, ⟨by rw [List.length_replicate]; decide, by rw [List.length_replicate]; decide⟩, .inr ⟨by rw [List.length_replicate]; decide, fun d H8 s8 e8 => many_e T _ _ hE d H8 (s6.trans (s7.trans s8)) e8⟩⟩
      | i + 6, hf => simp at hf
    · walk_at "nn2"
      match ys, e2 with
      | [v0, v1, v2, v3, v4, v5], _ =>
      obtain ⟨_, g0, g0'⟩ := e3 0 v0 rfl
      cases g0
      obtain ⟨_, g1, g1'⟩ := e3 1 v1 rfl
      cases g1
      obtain ⟨_, g2, g2'⟩ := e3 2 v2 rfl
      cases g2
      obtain ⟨_, g3, g3'⟩ := e3 3 v3 rfl
      cases g3
      obtain ⟨_, g4, g4'⟩ := e3 4 v4 rfl
      cases g4
      obtain ⟨_, g5, g5'⟩ := e3 5 v5 rfl
      cases g5
      have sc : ∀ x ∈ ([.str "lines", .int 4000] : List V), scalV x = true := fun x hx => by
        simp only [List.mem_cons, List.not_mem_nil, or_false] at hx
        rcases hx with rfl | rfl <;> rfl
      have gv : ∀ {y : V} {a : Addr}, GotL GA y (.val (fun v _ => v = .int 4000)) → GA a = some (.tup [.str "", .int 4000]) → Sm K GA 4 y (.ref a) := fun {y a} h ha => by
        obtain ⟨q, v, rfl, a1, rfl⟩ := h
        exact sm_tup2 (SqT.of a1) (SqT.of ha) (.inl ⟨rfl, rfl⟩) (.inl ⟨rfl, rfl⟩)
      refine ⟨.ref pr, .ref L4, rfl, sm_list (d := 4) (SqL.of e1) (SqL.of (s1 _ _ hL4)) rfl (by show 6 ≤ 1000; decide) fun p hp => ?_, fun H8 s8 => ?_⟩
      · simp only [List.zip_cons_cons, List.zip_nil_right, List.mem_cons, List.not_mem_nil, or_false] at hp
        rcases hp with rfl | rfl | rfl | rfl | rfl | rfl
        · exact gv g0' (s1 _ _ ha1)
        · exact gv g1' (s1 _ _ ha1)
        · exact gotl_err g2' (Same.refl _) (s1 _ _ hb1) (s1 _ _ hp1) sc (by show 2 ≤ 1000; decide)
        · exact gotl_err g3' (Same.refl _) (s1 _ _ hb1) (s1 _ _ hp1) sc (by show 2 ≤ 1000; decide)
        · exact gv g4' (s1 _ _ ha2)
        · exact gotl_err g5' (Same.refl _) (s1 _ _ hb2) (s1 _ _ hp2) sc (by show 2 ≤ 1000; decide)
      exact q _
end

variable {K : PySem.W.Frag} {mg : Str → Option Value}

theorem fok_and0 {al : List Nat} : FOk al [.and []] := fun i f h => by
  match i, h with
  | 0, h => cases h; exact ⟨fun r hr => by simp at hr, .nil, by show 0 ≤ 100; decide⟩
  | i + 1, h => simp at h
theorem alpha_qz : Alpha ("qz" : Str).cps.toList := by decide +kernel
theorem alpha_q : Alpha ("q" : Str).cps.toList := by decide +kernel
section
variable {P : Program} {w : World} {base : Heap}
theorem law_far {cL PL PW : Addr} (T : Env K mg) (TB : LamX.TabB base mg cL PL) (neP : PL ≠ PW) (A : Around) (outer : List PySem.Env) (s : Shared) (H : Hp) (E : XK) (hr : Room 15 (A.deeper (envOfC "law" (defScope s_law) s.heap.objs.size T.f_law (.ref cL))))
    (nd : CellsNd (cxOf CX0 P w K mg base N_law "law" (defScope s_law) T.f_law (.ref cL) A outer s H E).nox.env) (hfn : (cxOf CX0 P w K mg base N_law "law" (defScope s_law) T.f_law (.ref cL) A outer s H E).nox.Ok → ∀ y c, (cxOf CX0 P w K mg base N_law "law" (defScope s_law) T.f_law (.ref cL) A outer s H E).nox.env.cells.lookup y = some c → (cxOf CX0 P w K mg base N_law "law" (defScope s_law) T.f_law (.ref cL) A outer s H E).nox.s_0.heap.objs.size ≤ c) :
    ∃ t, PSs (cxOf CX0 P w K mg base N_law "law" (defScope s_law) T.f_law (.ref cL) A outer s H E).nox (bodyTail 13) t ∧ ∀ (D : Ends) (G : Hp) (a b l kl : Addr) (al : Str) (r1 r2 m1 m2 : Addr) (ps qs : List Addr) (fls gls : List FL) (ba bb : Bool) (y3 y11 y12 y13 y14 y15 y16 y17 y18 y19 y20 y21 y22 y23 y24 : Option V),
      (∀ σ G', LawSt PL PW a b l kl σ G' → D.nx σ G') → Dr T.C_Formula PL PW b l kl G al r1 r2 m1 m2 ps qs fls gls ba bb →
      t D [some (.ref a), some (.ref b), some (.ref kl), y3, some (.str al), some (.ref r1), some (.ref r2), some (.bl ba), some (.bl bb), some (.ref m1), some (.ref m2), y11, y12, y13, y14, y15, y16, y17, y18, y19, y20, y21, y22, y23, y24] G := by
  refine ⟨_, ((pss_cons (ps_set (i := 20) sc_law.nd rfl (.inr rfl) (pe_makeK T.k_Formula___init (ok_Formula___init T) (hr.mono (by decide)) (by rfl) T.gC_Formula T.kb_Formula___init passL (pa_cons (pe_ifExp (pt_cmpR op_ne (pv 4) pe_str (nomark _)) pe_str pe_str) (pa_cons (pe_lst (pa_cons (pe_tup (pa_cons pe_str (pa_cons (pe_tup pa_nil) pa_nil))) pa_nil)) pa_nil)) pk_nil))
      (pss_cons (ps_set (i := 21) sc_law.nd rfl (.inl rfl) (pe_lst (pa_cons (pe_lm (T := tabs2 PL PW) TB rfl (tabs2_1 rfl) (tabs2_u1 neP rfl) (free_by (sc := defScope s_law) (by decide +kernel)) rfl) (pa_cons (pe_lm1 (i := 0) (T := tabs2 PL PW) TB rfl (tabs2_1 rfl) (tabs2_u1 neP rfl) (free_by (sc := defScope s_law) (by decide +kernel)) rfl rfl) pa_nil))))
      (pss_one (ps_if (pt_not (pt_val (pe_call (ok_same T 5) (hr.mono (by decide)) (by rfl) T.g_same T.F_same.kp T.b_same .nil pass0 (pa_cons (pe_callX (k := 13) (hr.mono (by decide)) (by rfl) T.g_all_got T.F_all_got.kp T.b_all_got pass0 nd hfn (pa_cons (pv 21) pa_nil)) (pa_cons (pe_op op_rep (pe_lst (pa_cons (pe_tup (pa_cons pe_str (pa_cons (pe_tup pa_nil) pa_nil))) pa_nil)) pe_int) pa_nil)))))
      (pss_one (ps_ret pe_bl))
      pss_nil))))), ?_⟩
  rintro ⟨dn, dr, db, dc⟩ G a b l kl al r1 r2 m1 m2 ps qs fls gls ba bb y3 y11 y12 y13 y14 y15 y16 y17 y18 y19 y20 y21 y22 y23 y24 inv dw
  have t1 := dw.tab
  walk_at "nn2"
  refine if_join (fun v H' => G = H' ∧ ∃ al2 : Str, v = .str al2 ∧ al2 ≠ al ∧ Alpha al2.cps.toList) (fun e Q2 hQ => hQ _ _ ⟨rfl, "qz", rfl, fun z => ?_, alpha_qz⟩) (fun e Q2 hQ => hQ _ _ ⟨rfl, "q", rfl, fun z => ?_, alpha_q⟩) ?_
  · rw [← z] at e
    simp at e
  · rw [← z] at e
    exact e (by decide +kernel)
  rintro v H0 ⟨rfl, al2, rfl, ne, hA2⟩
  walk_at "nn2"
  intro t0 nt0
  have u0 := same_upd (o := .tup []) nt0
  have ht0 := upd_same (H := G) (a := t0) (o := .tup [])
  walk_at "nn2"
  intro q0 nq0
  have u1 := same_upd (o := .tup [.str "and", .ref t0]) nq0
  have hq0 := upd_same (H := upd G t0 (.tup [])) (a := q0) (o := .tup [.str "and", .ref t0])
  have ht1 := u1 _ _ ht0
  walk_at "nn2"
  intro l0 nl0
  have u2 := same_upd (o := .lst [.ref q0]) nl0
  have hl0 := upd_same (H := upd (upd G t0 (.tup [])) q0 (.tup [.str "and", .ref t0])) (a := l0) (o := .lst [.ref q0])
  have S := u0.trans (u1.trans u2)
  have fl2 : FLp (upd (upd (upd G t0 (.tup [])) q0 (.tup [.str "and", .ref t0])) l0 (.lst [.ref q0])) [q0] [.and []] := FLp.cons (f := .and []) ⟨t0, u2 _ _ hq0, u2 _ _ ht1⟩ FLp.nil
  have dw1 := dw.same S
  clear dw S u0 u1 u2 hq0 ht1 ht0 nt0 nq0 nl0 t1
  generalize upd (upd (upd G t0 (.tup [])) q0 (.tup [.str "and", .ref t0])) l0 (.lst [.ref q0]) = G1 at *
  walk_at "nn2"
  intro x dx x0 dx0 ne3
  refine mk_use T (ps := [q0]) x0 dx0 ne3 hl0 (.inl (SqL.of hl0)) fl2 fok_and0 hA2 (by show 1 ≤ 1; decide) (by show 1 ≤ 4000; decide) fun G2 s2 M2 => ⟨rfl, ?_⟩
  have dw2 := dw1.same s2
  have M2 := M2.at_
  have fl2 := fl2.same s2
  have t2 := dw2.tab
  clear dw1 s2 x0 dx0 ne3 hl0
  walk_at "nn2"
  intro f1 c1 G3 x1 _ tb1 _ lf1 lc1
  walk_at "nn2"
  intro f2 c2 T2 G4 x2 _ tb2 _ dt2 lf2 lc2
  have x12 := x1.trans x2
  have dw4 := dw2.ext x12 tb2
  have M4 := M2.ext x12
  have fl4 := fl2.ext x12
  have lf1' := x2 _ _ lf1 (by intro ps z; cases z)
  have lc1' := x2 _ _ lc1 LamX.codeO_ne
  clear dw2 M2 fl2 tb1 x1 x2 x12 lf1 lc1 t2
  walk_at "nn2"
  intro lb hlb
  have S0 := same_upd (o := .lst [.ref f1, .ref f2]) hlb
  have hlb5 := upd_same (H := G4) (a := lb) (o := .lst [.ref f1, .ref f2])
  have dw5 := dw4.same S0
  have M5 := M4.same S0
  have fl5 := fl4.same S0
  have lf1b := S0 _ _ lf1'
  have lc1b := S0 _ _ lc1'
  have lf2b := S0 _ _ lf2
  have lc2b := S0 _ _ lc2
  have dt2b := S0 _ _ dt2
  clear dw4 M4 fl4 lf1' lc1' lf2 lc2 dt2 tb2 S0 hlb
  show gName 21 _ _ (upd G4 lb (.lst [.ref f1, .ref f2])) _
  generalize upd G4 lb (.lst [.ref f1, .ref f2]) = G5 at *
  obtain ⟨dm, lm, hm, -⟩ := id dw5.one
  obtain ⟨dz, lz, hz, -⟩ := id M5
  have n1 := dw5.l1
  have tw : ∀ {H5 : Hp}, Same G5 H5 → TwoF T.C_Formula H5 m1 x al al2 ps [q0] fls [.and []] ba false := fun s5 => ⟨(dw5.same s5).one, M5.same s5, (dw5.same s5).fl, fl5.same s5, dw5.ok1, fok_and0, dw5.alp, ⟨by omega, by omega⟩, ⟨by show 1 ≤ 1; decide, by show 1 ≤ 4000; decide⟩⟩
  have wt : ∀ {H5 : Hp}, Same G5 H5 → TwoF T.C_Formula H5 x m1 al2 al [q0] ps [.and []] fls false ba := fun s5 => ⟨M5.same s5, (dw5.same s5).one, fl5.same s5, (dw5.same s5).fl, fok_and0, dw5.ok1, hA2, ⟨by show 1 ≤ 1; decide, by show 1 ≤ 4000; decide⟩, ⟨by omega, by omega⟩⟩
  have diff : ∀ (H1 : Hp) (E2 : XK), (∀ cls d H2, PySem.W.exmAny K cls [.ref T.C_AheadError, .ref T.C_Missing, .ref T.C_NothingLeft] = some true → ErrL K cls d H2 "AlphabetsDiffer" [] → Same H1 H2 → E2 cls d H2) → ∀ (d : Addr) (H' : Hp), Same H1 H' → H' d = some (.xd [("code", .str "AlphabetsDiffer")]) → E2 (.ref T.C_AlphabetsDiffer) (some d) H' := fun H1 E2 hE d H' s6 e6 =>
    hE _ _ _ T.e_AlphabetsDiffer (.inr (.inr ⟨rfl, rfl, T.C_AlphabetsDiffer, d, rfl, T.y_AlphabetsDiffer, T.n_AlphabetsDiffer_code, rfl, e6⟩)) s6
  walk_at "nn2"
  refine allgotl_x (X := (cxOf CX0 P w K mg base N_law "law" (defScope s_law) T.f_law (.ref cL) A outer s H E).nox) T 10 fun bs g => ?_
  refine ⟨lb, [f1, f2], [.err "AlphabetsDiffer" [], .err "AlphabetsDiffer" []], rfl, SqL.of hlb5, (by show 2 ≤ 100; decide), rfl, fun d hd => ?_, fun i f hf => ?_, fun pr ys G6 e1 e2 e3 s1 => ?_⟩
  · simp only [List.mem_cons, List.not_mem_nil, or_false] at hd
    rcases hd with rfl | rfl <;> trivial
  · match i, hf with
    | 0, hf =>
      cases hf
      refine ⟨_, rfl, ?_⟩
      refine ask_err0 (P := P) (w := w) (N := ["_law_far", "_law_one"]) (fr := ["_law_far", "_law_one"]) lf1b lc1b rfl (NdefX.nscope_by (by kernel_rfl)) (fun _ _ _ => rfl) (g.cells _ _ [20, 9] (NdefX.Caps.made g.ok (free_by (sc := defScope s_law) (by decide +kernel)) (by decide +kernel) rfl)) (fun A outer s H E hr => (pe_op (op_ownBin (op := .BitAnd) (by rfl) (ok_Formula___and T) (hr.mono (by decide)) ⟨T.m_Formula___and.1, T.m_Formula___and.2⟩ T.sf_Formula T.b_Formula___and (passE (takes_of rfl rfl rfl rfl))) (pv 1) (pv 0))) fun H5 s5 Q2 E2 hE => ?_
      walk_at "nn2"
      refine ⟨m1, x, dm, dz, _, _, rfl, rfl, s5 _ _ hm, s5 _ _ hz, ?_⟩
      exact ⟨m1, x, al, al2, ps, [q0], fls, [.and []], ba, false, rfl, tw s5, .inl ⟨ne.symm, diff _ _ hE⟩⟩
    | 1, hf =>
      cases hf
      refine ⟨_, rfl, ?_⟩
      refine ask_err1 (P := P) (w := w) (N := ["_law_c", "_law_far", "_law_one"]) (fr := ["_law_far", "_law_one"]) lf2b lc2b (.inr ⟨T2, 0, rfl, rfl, dt2b⟩) (NdefX.nscope_by (by kernel_rfl)) (fun Tt doc pm ctv its e h => by
          have e : Value.ref T2 = Value.ref Tt := e
          cases e
          match its, h with
          | [_], _ => exact ⟨_, rfl, rfl⟩) (g.cells _ _ [20, 9] (NdefX.Caps.made g.ok (free_by (sc := defScope s_law) (by decide +kernel)) (by decide +kernel) rfl)) (fun A outer s H E hr => (pe_op (op_ownBin (op := .BitOr) (by rfl) (ok_Formula___or T) (hr.mono (by decide)) ⟨T.m_Formula___or.1, T.m_Formula___or.2⟩ T.sf_Formula T.b_Formula___or (passE (takes_of rfl rfl rfl rfl))) (pv 1) (pv 2))) fun H5 s5 Q2 E2 hE => ?_
      walk_at "nn2"
      refine ⟨x, m1, dz, dm, _, _, rfl, rfl, s5 _ _ hz, s5 _ _ hm, ?_⟩
      exact ⟨x, m1, al2, al, [q0], ps, [.and []], fls, false, ba, rfl, wt s5, .inl ⟨ne, diff _ _ hE⟩⟩
    | i + 2, hf => simp at hf
  · have dw6 := dw5.same s1
    clear dw5 M5 fl5 tw wt diff hm hz s1
    walk_at "nn2"
    intro e0 ne0
    have v0 := same_upd (o := .tup []) ne0
    have he0 := upd_same (H := G6) (a := e0) (o := .tup [])
    walk_at "nn2"
    intro w0 nw0
    have v1 := same_upd (o := .tup [.str "AlphabetsDiffer", .ref e0]) nw0
    have hw0 := upd_same (H := upd G6 e0 (.tup [])) (a := w0) (o := .tup [.str "AlphabetsDiffer", .ref e0])
    have he1 := v1 _ _ he0
    walk_at "nn2"
    intro d0 nd0
    have v2 := same_upd (o := .lst [.ref w0]) nd0
    have hd0 := upd_same (H := upd (upd G6 e0 (.tup [])) w0 (.tup [.str "AlphabetsDiffer", .ref e0])) (a := d0) (o := .lst [.ref w0])
    have VV := v0.trans (v1.trans v2)
    have hw1 := v2 _ _ hw0
    have he2 := v2 _ _ he1
    clear v0 v1 v2 he0 he1 hw0 ne0 nw0 nd0
    generalize upd (upd (upd G6 e0 (.tup [])) w0 (.tup [.str "AlphabetsDiffer", .ref e0])) d0 (.lst [.ref w0]) = G7 at *
    walk_at "nn2"
    refine ⟨d0, 2, _, rfl, rfl, hd0, by decide, by decide, sz (by show 2 ≤ 100000; decide), fun r nr => ?_⟩
    rw [show (List.replicate (Int.toNat 2) [V.ref w0]).flatten = [V.ref w0, V.ref w0] from rfl]
    have v3 : Same G7 (upd G7 r (.lst [.ref w0, .ref w0])) := same_upd nr
    have W := VV.trans v3
    match ys, e2 with
    | [y0, y1], _ =>
    obtain ⟨_, g0, g0'⟩ := e3 0 y0 rfl
    cases g0
    obtain ⟨_, g1, g1'⟩ := e3 1 y1 rfl
    cases g1
    refine ⟨.ref pr, .ref r, rfl, sm_list (d := 4) (SqL.of (W _ _ e1)) (SqL.of (xs := [.ref w0, .ref w0]) upd_same) rfl (by show 2 ≤ 1000; decide) fun p hp => ?_, fun H8 s8 => ?_⟩
    · simp only [List.zip_cons_cons, List.zip_nil_right, List.mem_cons, List.not_mem_nil, or_false] at hp
      rcases hp with rfl | rfl
      · exact gotl_err g0' W (v3 _ _ hw1) (v3 _ _ he2) (fun x hx => by simp at hx) (by show 0 ≤ 1000; decide)
      · exact gotl_err g1' W (v3 _ _ hw1) (v3 _ _ he2) (fun x hx => by simp at hx) (by show 0 ≤ 1000; decide)
    walk_at "nn2"
    have dwE := dw6.same (W.trans s8)
    exact inv _ _ ⟨⟨_, _, _, _, _, _, _, _, _, _, _, _, _, _, _, _, _, _, _, _, _, _, rfl⟩, dwE.bag, dwE.tab, dwE.kin⟩
end

variable {K : PySem.W.Frag} {mg : Str → Option Value}

section
variable {P : Program} {w : World} {base : Heap}
theorem law_words {cL PL PW : Addr} (T : Env K mg) (A : Around) (outer : List PySem.Env) (s : Shared) (H : Hp) (E : XK) (hr : Room 15 (A.deeper (envOfC "law" (defScope s_law) s.heap.objs.size T.f_law (.ref cL)))) {tF : TS}
    (hF : PSs (cxOf CX0 P w K mg base N_law "law" (defScope s_law) T.f_law (.ref cL) A outer s H E).nox (bodyTail 13) tF) :
    ∃ t, PSs (cxOf CX0 P w K mg base N_law "law" (defScope s_law) T.f_law (.ref cL) A outer s H E).nox (bodyTail 12) t ∧ ∀ (D : Ends) (G : Hp) (a b l kl : Addr) (al : Str) (r1 r2 m1 m2 : Addr) (ps qs : List Addr) (fls gls : List FL) (ba bb : Bool) (lf x1 x2 x3 : Addr) (y3 y11 y12 y13 y15 y16 y17 y18 y19 y20 y21 y22 y23 y24 : Option V),
      (∀ (G' : Hp) (y16 y17 y18 y19 y24 : Option V), Dr T.C_Formula PL PW b l kl G' al r1 r2 m1 m2 ps qs fls gls ba bb → tF D [some (.ref a), some (.ref b), some (.ref kl), y3, some (.str al), some (.ref r1), some (.ref r2), some (.bl ba), some (.bl bb), some (.ref m1), some (.ref m2), y11, y12, y13, some (.ref lf), y15, y16, y17, y18, y19, y20, y21, y22, y23, y24] G') →
      Dr T.C_Formula PL PW b l kl G al r1 r2 m1 m2 ps qs fls gls ba bb → Fnd T.C_Formula G al lf x1 x2 x3 fls gls ba bb → kl ≠ b →
      t D [some (.ref a), some (.ref b), some (.ref kl), y3, some (.str al), some (.ref r1), some (.ref r2), some (.bl ba), some (.bl bb), some (.ref m1), some (.ref m2), y11, y12, y13, some (.ref lf), y15, y16, y17, y18, y19, y20, y21, y22, y23, y24] G := by
  refine ⟨_, ((pss_cons (ps_for PassesOwn.never rfl (pi_range1 (by rfl) T.z_range (pa_cons pe_int pa_nil)) (pg_name (i := 16) sc_law.nd rfl (.inl rfl))
      (pss_cons (ps_set (i := 17) sc_law.nd rfl (.inr rfl) (pe_call (ok_text T) (hr.mono (by decide)) (by rfl) T.g_text T.F_text.kp T.b_text .nil pass0 (pa_cons (pv 1) (pa_cons (pv 4) (pa_cons (pe_call (ok_pull T) (hr.mono (by decide)) (by rfl) T.g_pull T.F_pull.kp T.b_pull .nil pass0 (pa_cons (pv 1) (pa_cons pe_int pa_nil))) pa_nil)))))
      (pss_cons (ps_par (i := 18) (j := 19) (by rfl) sc_law.nd rfl rfl (by decide) rfl rfl (pa_cons (pe_call (ok_accepts T) (hr.mono (by decide)) (by rfl) T.g_accepts T.F_accepts.kp T.b_accepts .nil pass0 (pa_cons (pv 5) (pa_cons (pv 7) (pa_cons (pv 17) pa_nil)))) (pa_cons (pe_call (ok_accepts T) (hr.mono (by decide)) (by rfl) T.g_accepts T.F_accepts.kp T.b_accepts .nil pass0 (pa_cons (pv 6) (pa_cons (pv 8) (pa_cons (pv 17) pa_nil)))) pa_nil)) (by rfl))
      (pss_one (ps_if (pt_not (pt_val (pe_call (ok_same T 5) (hr.mono (by decide)) (by rfl) T.g_same T.F_same.kp T.b_same .nil pass0 (pa_cons (pe_lc (own := [("_law_late", 24)]) (g := (gName 24)) (tt := tYes) rfl sc_law.nd (pi_list (pv 14)) (blkOk_by (own := [("_law_late", 24)]) (N := N_law) (sc := defScope s_law) (by decide +kernel)) (fun _ _ _ _ _ => (pg_name (i := 24) sc_law.nd rfl (.inl rfl))) (fun _ _ _ _ _ => pts_nil) (fun _ _ _ _ _ => (pe_cmpR (op_ownIn (ok_Formula___contains T) (hr.mono (by decide)) ⟨T.m_Formula___contains.1, T.m_Formula___contains.2⟩ T.b_Formula___contains pass0) (pv 17) (pv 24) (by rfl)))) (pa_cons (pe_lst (pa_cons (pe_and (pv 18) (pe_one (pv 19))) (pa_cons (pe_or (pv 18) (pe_one (pv 19))) (pa_cons (pe_not (pv 18)) pa_nil)))) pa_nil)))))
      (pss_one (ps_ret pe_bl))
      pss_nil)))))
      hF)), ?_⟩
  rintro ⟨dn, dr, db, dc⟩ G a b l kl al r1 r2 m1 m2 ps qs fls gls ba bb lf x1 x2 x3 y3 y11 y12 y13 y15 y16 y17 y18 y19 y20 y21 y22 y23 y24 go dw fn klb
  walk_at "nn2"
  refine for_it walk_range (fun i σ H' => Stp ((∃ y16 y17 y18 y19 y24 : Option V, σ = [some (.ref a), some (.ref b), some (.ref kl), y3, some (.str al), some (.ref r1), some (.ref r2), some (.bl ba), some (.bl bb), some (.ref m1), some (.ref m2), y11, y12, y13, some (.ref lf), y15, y16, y17, y18, y19, y20, y21, y22, y23, y24]) ∧ Dr T.C_Formula PL PW b l kl H' al r1 r2 m1 m2 ps qs fls gls ba bb ∧ Fnd T.C_Formula H' al lf x1 x2 x3 fls gls ba bb))
    (.mk ⟨⟨_, _, _, _, _, rfl⟩, dw, fn⟩) (fun _ _ _ _ _ => trivial) ?_ ?_
  · clear dw fn
    rintro i x σ H2 H3 hi hP ⟨rfl, rfl⟩
    obtain ⟨⟨y16, y17, y18, y19, y24, rfl⟩, dw, fn⟩ := hP.of
    clear hP
    show gName 16 (V.int (0 + (i : Int))) _ _ _
    obtain ⟨iz, hiz⟩ : ∃ iz : Int, iz = 0 + (i : Int) := ⟨_, rfl⟩
    rw [← hiz]
    have al4 : al.length ≤ 4 := by rw [len_tl]; exact dw.alp.2.1
    have al1 : 1 ≤ al.length := by rw [len_tl]; exact dw.alp.1
    walk_at "nn2"
    refine ⟨b, l, _, rfl, dw.bag, by decide, by decide, fun n H4 n0 n1 B4 k4 => ?_⟩
    have dw4 := dw.kp k4 B4 klb
    have fn4 := fn.kp k4 dw.bag
    clear dw fn k4 B4
    walk_at "nn2"
    refine ⟨b, l, al, _, rfl, dw4.bag, by omega, by omega, by omega, by omega, fun wd H5 wl wm B5 k5 => ?_⟩
    have dw5 := dw4.kp k5 B5 klb
    have fn5 := fn4.kp k5 dw4.bag
    clear dw4 fn4 k5 B5
    have lwd : (⟨wd.toArray⟩ : Str).length = wd.length := by show wd.toArray.size = _; simp
    have wa : ∀ c ∈ (⟨wd.toArray⟩ : Str).cps.toList, c ∈ al.cps.toList := fun c hc => wm c (by simpa using hc)
    obtain ⟨wz, hwz⟩ : ∃ wz : Str, wz = ⟨wd.toArray⟩ := ⟨_, rfl⟩
    rw [← hwz] at lwd wa ⊢
    have n1' := dw5.l1
    have n2' := dw5.l2
    walk_at "nn2"
    refine ⟨r1, al.cps.toList, fls, ba, wz, rfl, ⟨ps, dw5.lft, dw5.fl.1, dw5.fl.2⟩, dw5.ok1, ⟨by omega, by omega⟩, by omega, fun H6 s6 => ?_⟩
    have dw6 := dw5.same s6
    have fn6 := fn5.same s6
    clear dw5 fn5 s6
    walk_at "nn2"
    refine ⟨r2, al.cps.toList, gls, bb, wz, rfl, ⟨qs, dw6.rgt, dw6.gl.1, dw6.gl.2⟩, dw6.ok2, ⟨by omega, by omega⟩, by omega, fun H7 s7 => ?_⟩
    have dw7 := dw6.same s7
    have fn7 := fn6.same s7
    clear dw6 fn6 s7
    obtain ⟨hlf, rs1, rs2, rs3, ma, fa, mo, fo, mn, fn3⟩ := id fn7
    have j1 := joinF_ok dw7.ok1 dw7.ok2
    have ok_a : FOk al.cps.toList (mkAnd fls gls) := j1.add (by rw [joinF_len]; exact two_ok n1'.1 n2'.1)
    have ok_o : FOk al.cps.toList (mkOr fls gls) := j1.add (by rw [joinF_len]; exact two_ok n1'.1 n2'.1)
    have ok_n : FOk al.cps.toList (fls ++ [.not (fls.length - 1)]) := dw7.ok1.add (f := .not (fls.length - 1)) (by show fls.length - 1 < fls.length; omega)
    have Fa := FmAt.form (K := K) ma fa ok_a dw7.alp (by rw [mkAnd_len]; omega)
    have Fo := FmAt.form (K := K) mo fo ok_o dw7.alp (by rw [mkOr_len]; omega)
    have Fn := FmAt.form (K := K) mn fn3 ok_n dw7.alp (by rw [List.length_append]; show 1 ≤ fls.length + 1 ∧ fls.length + 1 ≤ 1000; omega)
    have aa := acc_and (b := ba) (c := bb) dw7.ok1 dw7.ok2 n1'.1 n2'.1 wz.cps.toList
    have ao := acc_or (b := ba) (c := bb) dw7.ok1 dw7.ok2 n1'.1 n2'.1 wz.cps.toList
    have an := acc_not (b := ba) dw7.ok1 n1'.1 wz.cps.toList
    generalize accW fls ba wz.cps.toList = X at *
    generalize accW gls bb wz.cps.toList = Y at *
    walk_at "nn2"
    refine ⟨_, _, rfl, ?_⟩
    walk_at "nn2"
    refine ⟨⟨_, SqL.of hlf⟩, fun D hD => ?_⟩
    refine lc_gen walk_list (fun H' => Same H7 H') (fun i y => y = V.bl ([X && Y, X || Y, !X].getD i false)) (by show 3 ≤ 100000; decide) (same_upd hD) (fun _ h => h.seq (SqL.of hlf)) (fun _ _ h => same_mut h hD) ?_ ?_
    · rintro j x H8 H9 Q1 hlt hI ⟨rfl, hx⟩ - hQ
      obtain ⟨x0, F, v, rfl, M, acc⟩ : ∃ (x0 : Addr) (F : List FL) (v : Bool), x = V.ref x0 ∧ FormAt K T.C_Formula H7 x0 al F v ∧ accF F v al.cps.toList wz.cps.toList = [X && Y, X || Y, !X].getD j false := by
        match j, hx with
        | 0, hx => cases hx; exact ⟨x1, _, _, rfl, Fa, (accF_W wa).trans aa⟩
        | 1, hx => cases hx; exact ⟨x2, _, _, rfl, Fo, (accF_W wa).trans ao⟩
        | 2, hx => cases hx; exact ⟨x3, _, _, rfl, Fn, (accF_W wa).trans an⟩
        | j + 3, hx => simp at hx
      obtain ⟨dm, lm, hm, -⟩ := id (M.same hI).at_
      walk_at "nn2"
      refine ⟨x0, dm, _, rfl, hm, ?_⟩
      refine ⟨x0, _, al, F, v, rfl, M.same hI, .inl ⟨_, rfl, by omega, fun H10 s10 => ⟨_, rfl, ?_⟩⟩⟩
      rw [acc]
      exact hQ _ _ rfl (hI.trans s10) fun o ho => s10 _ _ ho
    · intro H8 ys hI hy hl2 hr2
      have e : ys = boolL [X && Y, X || Y, !X] := by
        refine List.ext_getElem (by rw [hl2, boolL_len]; rfl) fun i a1 a2 => ?_
        rw [hr2 i _ (List.getElem?_eq_getElem a1)]
        have := boolL_at (bs := [X && Y, X || Y, !X]) (i := i) (by rw [hl2] at a1; exact a1)
        rw [List.getElem?_eq_getElem a2] at this
        exact (Option.some.inj this).symm
      subst e
      have dw8 := dw7.same hI
      have fn8 := fn7.same hI
      clear dw7 fn7 hI hr2 hl2 hD hlf ma fa mo fo mn fn3 Fa Fo Fn ok_a ok_o ok_n j1 aa ao an
      cases X <;> cases Y <;>
      · walk_at "nn2"
        intro D2 nD2
        refine ⟨.ref D, .ref D2, rfl, sm_lst (d := 3) (SqL.of (same_upd nD2 _ _ hy)) (SqL.of upd_same) (by show 3 ≤ 100000; decide) rfl, fun H9 s10 => ?_⟩
        have dw9 := dw8.same ((same_upd nD2).trans s10)
        have fn9 := fn8.same ((same_upd nD2).trans s10)
        walk_at "nn2"
        exact .mk ⟨⟨_, _, _, _, _, rfl⟩, dw9, fn9⟩
  · rintro σ H2 hP
    obtain ⟨⟨y16, y17, y18, y19, y24, rfl⟩, dw, fn⟩ := hP.of
    walk_at "nn2"
    exact go _ _ _ _ _ _ dw
end

variable {K : PySem.W.Frag} {mg : Str → Option Value}

theorem lc_genL {J : It} {n : Nat} {G : Hp → Prop} {Y : Nat → Hp → V → Hp → Prop} (w : Walk J n G Y) {g : TG} {te : TE} {vs : List Nat} {σ : L2.St} {H1 : Hp} {D : Addr} {Qd : Hp → Prop}
    (I : Hp → Prop) (R : Nat → V → Hp → Prop) (hn : n ≤ 100000) (h0 : I (upd H1 D (.lst []))) (hG : ∀ H, I H → G H) (hU : ∀ H o, I H → I (upd H D o)) (hR : ∀ i y H H', (∀ c o, c ≠ D → H c = some o → H' c = some o) → R i y H → R i y H')
    (hs : ∀ i x H H' (Q : VK), i < n → I H → Y i H x H' → (∃ xs, H D = some (.lst xs)) → (∀ y H4, R i y H4 → I H4 → Same H H4 → Q y H4) → g x (wipe σ vs) H' fun σ2 H2 => wipe σ2 vs = wipe σ vs ∧ te σ2 H2 Q)
    (hd : ∀ H ys, I H → H D = some (.lst ys) → ys.length = n → (∀ i y, ys[i]? = some y → R i y H) → Qd H) :
    ∃ W : Nat → Nat → Hp → Prop, (∃ m, W 0 m (upd H1 D (.lst []))) ∧ ∀ i m H, W i m H →
      (J.stop i H ∧ Qd H) ∨ (J.go i H ∧ ∃ Nx : Hp → Prop, (∀ H', Nx H' → ∃ m', m' < m ∧ W (i + 1) m' H') ∧ ∀ x H', J.yld i H x H' → g x (wipe σ vs) H' fun σ2 H2 => wipe σ2 vs = wipe σ vs ∧ tYes σ2 H2 fun b H3 =>
        if b = true then te σ2 H3 fun y H4 => ∃ acc, H4 D = some (.lst acc) ∧ acc.length < sizeLine ∧ Nx (upd H4 D (.lst (acc ++ [y]))) else Nx H3) := by
  refine lc_it w (fun i H => I H ∧ ∃ ys : List V, H D = some (.lst ys) ∧ ys.length = i ∧ ∀ j y, ys[j]? = some y → R j y H) ⟨h0, [], upd_same, rfl, fun j y e => by simp at e⟩ (fun i H _ h => hG H h.1) ?_ ?_
  · rintro i x H H' hi ⟨hI, ys, hy, hl, hr⟩ hY
    refine hs i x H H' _ hi hI hY ⟨_, hy⟩ fun y H4 ry hI4 sm => ⟨ys, sm _ _ hy, szl (by omega), hU _ _ hI4, ys ++ [y], upd_same, by simp [hl], fun j z e => ?_⟩
    by_cases hj : j < ys.length
    · rw [List.getElem?_append_left hj] at e
      exact hR _ _ _ _ (fun c o n h => by rw [upd_ne n]; exact sm _ _ h) (hr j z e)
    · have hj2 : j = ys.length := by
        have := (List.getElem?_eq_some_iff.mp e).1
        simp at this
        omega
      subst hj2
      simp at e
      rw [← e, hl]
      exact hR _ _ _ _ (fun c o n h => by rw [upd_ne n]; exact h) ry
  · rintro H ⟨hI, ys, hy, hl, hr⟩
    exact hd H ys hI hy hl hr
/-- the lines of a made formula, told -/
def Told (D : Addr) (RS : List (List Addr)) (i : Nat) (y : V) (H : Hp) : Prop := ∃ (p : Addr) (rs : List Addr), y = .ref p ∧ p ≠ D ∧ RS[i]? = some rs ∧ H p = some (.lst (rs.map V.ref))
section
variable {P : Program} {w : World} {base : Heap}
theorem law_told3 {cL PL PW : Addr} (T : Env K mg) (A : Around) (outer : List PySem.Env) (s : Shared) (H : Hp) (E : XK) (hr : Room 15 (A.deeper (envOfC "law" (defScope s_law) s.heap.objs.size T.f_law (.ref cL)))) {tW : TS}
    (hW : PSs (cxOf CX0 P w K mg base N_law "law" (defScope s_law) T.f_law (.ref cL) A outer s H E).nox (bodyTail 12) tW) :
    ∃ t, PSs (cxOf CX0 P w K mg base N_law "law" (defScope s_law) T.f_law (.ref cL) A outer s H E).nox (bodyTail 11) t ∧ ∀ (D : Ends) (G : Hp) (a b l kl : Addr) (al : Str) (r1 r2 m1 m2 : Addr) (ps qs : List Addr) (fls gls : List FL) (ba bb : Bool) (rw lt lf x1 x2 x3 : Addr) (y3 y15 y16 y17 y18 y19 y20 y21 y22 y23 y24 : Option V),
      (∀ (G' : Hp) (y15 y24 : Option V), Dr T.C_Formula PL PW b l kl G' al r1 r2 m1 m2 ps qs fls gls ba bb → Fnd T.C_Formula G' al lf x1 x2 x3 fls gls ba bb → tW D [some (.ref a), some (.ref b), some (.ref kl), y3, some (.str al), some (.ref r1), some (.ref r2), some (.bl ba), some (.bl bb), some (.ref m1), some (.ref m2), some (.int fls.length), some (.ref rw), some (.ref lt), some (.ref lf), y15, y16, y17, y18, y19, y20, y21, y22, y23, y24] G') →
      Dr T.C_Formula PL PW b l kl G al r1 r2 m1 m2 ps qs fls gls ba bb → Fnd T.C_Formula G al lf x1 x2 x3 fls gls ba bb →
      t D [some (.ref a), some (.ref b), some (.ref kl), y3, some (.str al), some (.ref r1), some (.ref r2), some (.bl ba), some (.bl bb), some (.ref m1), some (.ref m2), some (.int fls.length), some (.ref rw), some (.ref lt), some (.ref lf), y15, y16, y17, y18, y19, y20, y21, y22, y23, y24] G := by
  refine ⟨_, ((pss_cons (ps_if (pt_not (pt_val (pe_call (ok_same T 5) (hr.mono (by decide)) (by rfl) T.g_same T.F_same.kp T.b_same .nil pass0 (pa_cons (pe_lst (pa_cons (pe_meth0 (pv 9) T.cl_Formula T.m_Formula_lines (ok_Formula_lines T) (hr.mono (by decide)) T.b_Formula_lines .nil pass0) (pa_cons (pe_meth0 (pv 10) T.cl_Formula T.m_Formula_lines (ok_Formula_lines T) (hr.mono (by decide)) T.b_Formula_lines .nil pass0) (pa_cons (pe_prop (pe_ix ix_list (pv 14) pe_int (fun _ _ => rfl)) T.cl_Formula T.p_Formula_alphabet (ok_Formula_alphabet T) (hr.mono (by decide)) T.b_Formula_alphabet .nil pass0 (by rfl)) pa_nil)))) (pa_cons (pe_lst (pa_cons (pv 5) (pa_cons (pv 6) (pa_cons (pv 4) pa_nil)))) pa_nil)))))
      (pss_one (ps_ret pe_bl))
      pss_nil)
      hW)), ?_⟩
  rintro ⟨dn, dr, db, dc⟩ G a b l kl al r1 r2 m1 m2 ps qs fls gls ba bb rw lt lf x1 x2 x3 y3 y15 y16 y17 y18 y19 y20 y21 y22 y23 y24 go dw fn
  have n1 := dw.l1
  have n2 := dw.l2
  obtain ⟨dm1, lm1, hm1, -⟩ := id dw.one
  obtain ⟨dm2, lm2, hm2, -⟩ := id dw.two
  walk_at "nn2"
  refine ⟨m1, dm1, _, rfl, hm1, rfl, ?_⟩
  walk_at "nn2"
  refine ⟨m1, al, _, _, rfl, dw.one, fun p1 np1 => ?_⟩
  have w1 := same_upd (o := .lst (ps.map V.ref)) np1
  have hp1 := upd_same (H := G) (a := p1) (o := .lst (ps.map V.ref))
  walk_at "nn2"
  refine ⟨m2, dm2, _, rfl, w1 _ _ hm2, rfl, ?_⟩
  walk_at "nn2"
  refine ⟨m2, al, _, _, rfl, dw.two.same w1, fun p2 np2 => ?_⟩
  have w2 := same_upd (o := .lst (qs.map V.ref)) np2
  have hp2 := upd_same (H := upd G p1 (.lst (ps.map V.ref))) (a := p2) (o := .lst (qs.map V.ref))
  have hp1' := w2 _ _ hp1
  have w12 := w1.trans w2
  have dwC := dw.same w12
  have fnC := fn.same w12
  clear dw fn w1 w2 w12 hp1 np1 np2 hm1 hm2
  generalize upd (upd G p1 (.lst (ps.map V.ref))) p2 (.lst (qs.map V.ref)) = HC at *
  obtain ⟨hlf, rs1, rs2, rs3, ma, -⟩ := id fnC
  obtain ⟨dm, lm, hm, -⟩ := id ma
  walk_at "nn2"
  refine ⟨lf, _, 0, .ref x1, rfl, rfl, SqL.of hlf, atI_nat (j := 0) rfl, ?_⟩
  walk_at "nn2"
  refine ⟨x1, dm, _, rfl, hm, x1, al, _, _, rfl, ma, ?_⟩
  walk_at "nn2"
  intro D3 nD3
  have z1 := same_upd (o := .lst [.ref p1, .ref p2, .str al]) nD3
  have hD3 := upd_same (H := HC) (a := D3) (o := .lst [.ref p1, .ref p2, .str al])
  walk_at "nn2"
  intro D4 nD4
  have z2 := same_upd (o := .lst [.ref r1, .ref r2, .str al]) nD4
  have z12 := z1.trans z2
  have dwD := dwC.same z12
  have fnD := fnC.same z12
  have hp1D := z12 _ _ hp1'
  have hp2D := z12 _ _ hp2
  refine ⟨.ref D3, .ref D4, rfl, sm_list (d := 4) (SqL.of (z2 _ _ hD3)) (SqL.of upd_same) rfl (by show 3 ≤ 1000; decide) fun pr hp => ?_, fun H13 s13 => ?_⟩
  · simp only [List.zip_cons_cons, List.zip_nil_right, List.mem_cons, List.not_mem_nil, or_false] at hp
    rcases hp with rfl | rfl | rfl
    · exact FLp.sm dwD.fl dwD.ok1 (by omega) (SqL.of hp1D) (SqL.of dwD.lft)
    · exact FLp.sm dwD.gl dwD.ok2 (by omega) (SqL.of hp2D) (SqL.of dwD.rgt)
    · exact .inl ⟨rfl, rfl⟩
  walk_at "nn2"
  exact go _ _ _ (dwD.same s13) (fnD.same s13)
end

variable {K : PySem.W.Frag} {mg : Str → Option Value}

section
variable {P : Program} {w : World} {base : Heap}
theorem law_told {cL PL PW : Addr} (T : Env K mg) (A : Around) (outer : List PySem.Env) (s : Shared) (H : Hp) (E : XK) (hr : Room 15 (A.deeper (envOfC "law" (defScope s_law) s.heap.objs.size T.f_law (.ref cL)))) {tW : TS}
    (hW : PSs (cxOf CX0 P w K mg base N_law "law" (defScope s_law) T.f_law (.ref cL) A outer s H E).nox (bodyTail 12) tW) :
    ∃ t, PSs (cxOf CX0 P w K mg base N_law "law" (defScope s_law) T.f_law (.ref cL) A outer s H E).nox (bodyTail 7) t ∧ ∀ (D : Ends) (G : Hp) (a b l kl : Addr) (al : Str) (r1 r2 m1 m2 : Addr) (ps qs : List Addr) (fls gls : List FL) (ba bb : Bool) (rw lt : Addr) (qs2 : List Addr) (y3 y14 y15 y16 y17 y18 y19 y20 y21 y22 y23 y24 : Option V),
      (∀ (G' : Hp) (lf x1 x2 x3 : Addr) (y15 y24 : Option V), Dr T.C_Formula PL PW b l kl G' al r1 r2 m1 m2 ps qs fls gls ba bb → Fnd T.C_Formula G' al lf x1 x2 x3 fls gls ba bb → tW D [some (.ref a), some (.ref b), some (.ref kl), y3, some (.str al), some (.ref r1), some (.ref r2), some (.bl ba), some (.bl bb), some (.ref m1), some (.ref m2), some (.int fls.length), some (.ref rw), some (.ref lt), some (.ref lf), y15, y16, y17, y18, y19, y20, y21, y22, y23, y24] G') →
      Dr T.C_Formula PL PW b l kl G al r1 r2 m1 m2 ps qs fls gls ba bb → G rw = some (.lst ((ps ++ qs2).map V.ref)) → FLp G (ps ++ qs2) (joinF fls gls) → G lt = some (.tup (natL [fls.length - 1, fls.length + gls.length - 1])) → kl ≠ b →
      t D [some (.ref a), some (.ref b), some (.ref kl), y3, some (.str al), some (.ref r1), some (.ref r2), some (.bl ba), some (.bl bb), some (.ref m1), some (.ref m2), some (.int fls.length), some (.ref rw), some (.ref lt), y14, y15, y16, y17, y18, y19, y20, y21, y22, y23, y24] G := by
  obtain ⟨tK, hK, qK⟩ := law_told3 (PL := PL) (PW := PW) (P := P) (w := w) (base := base) T A outer s H E hr hW
  clear hW
  refine ⟨_, ((pss_cons (ps_set (i := 14) sc_law.nd rfl (.inl rfl) (pe_lst (pa_cons (pe_op (op_ownBin (op := .BitAnd) (by rfl) (ok_Formula___and T) (hr.mono (by decide)) ⟨T.m_Formula___and.1, T.m_Formula___and.2⟩ T.sf_Formula T.b_Formula___and passL) (pv 9) (pv 10)) (pa_cons (pe_op (op_ownBin (op := .BitOr) (by rfl) (ok_Formula___or T) (hr.mono (by decide)) ⟨T.m_Formula___or.1, T.m_Formula___or.2⟩ T.sf_Formula T.b_Formula___or passL) (pv 9) (pv 10)) (pa_cons (pe_un (un_ownNeg (ok_Formula___neg T) (hr.mono (by decide)) ⟨T.m_Formula___neg.1, T.m_Formula___neg.2⟩ T.b_Formula___neg passL) (pv 9)) pa_nil)))))
      (pss_cons (ps_set (i := 15) sc_law.nd rfl (.inl rfl) (pe_lst (pa_cons (pe_op op_cat (pv 12) (pe_lst (pa_cons (pe_tup (pa_cons pe_str (pa_cons (pv 13) pa_nil))) pa_nil))) (pa_cons (pe_op op_cat (pv 12) (pe_lst (pa_cons (pe_tup (pa_cons pe_str (pa_cons (pv 13) pa_nil))) pa_nil))) (pa_cons (pe_op op_cat (pv 5) (pe_lst (pa_cons (pe_tup (pa_cons pe_str (pa_cons (pe_op op_sub (pv 11) pe_int) pa_nil))) pa_nil))) pa_nil)))))
      (pss_cons (ps_if (pt_not (pt_val (pe_call (ok_same T 5) (hr.mono (by decide)) (by rfl) T.g_same T.F_same.kp T.b_same .nil pass0 (pa_cons (pe_lc (own := [("_law_late", 24)]) (g := (gName 24)) (tt := tYes) rfl sc_law.nd (pi_list (pv 14)) (blkOk_by (own := [("_law_late", 24)]) (N := N_law) (sc := defScope s_law) (by decide +kernel)) (fun _ _ _ _ _ => (pg_name (i := 24) sc_law.nd rfl (.inl rfl))) (fun _ _ _ _ _ => pts_nil) (fun _ _ _ _ _ => (pe_meth0 (pv 24) T.cl_Formula T.m_Formula_lines (ok_Formula_lines T) (hr.mono (by decide)) T.b_Formula_lines .nil pass0))) (pa_cons (pv 15) pa_nil)))))
      (pss_one (ps_ret pe_bl))
      pss_nil)
      (pss_cons (ps_if (pt_not (pt_val (pe_call (ok_same T 5) (hr.mono (by decide)) (by rfl) T.g_same T.F_same.kp T.b_same .nil pass0 (pa_cons (pe_lc (own := [("_law_late", 24)]) (g := (gName 24)) (tt := tYes) rfl sc_law.nd (pi_list (pv 14)) (blkOk_by (own := [("_law_late", 24)]) (N := N_law) (sc := defScope s_law) (by decide +kernel)) (fun _ _ _ _ _ => (pg_name (i := 24) sc_law.nd rfl (.inl rfl))) (fun _ _ _ _ _ => pts_nil) (fun _ _ _ _ _ => (pe_prop (pv 24) T.cl_Formula T.p_Formula_first (ok_Formula_first T) (hr.mono (by decide)) T.b_Formula_first .nil pass0 (by rfl)))) (pa_cons (pe_lst (pa_cons (pe_and (pv 7) (pe_one (pv 8))) (pa_cons (pe_or (pv 7) (pe_one (pv 8))) (pa_cons (pe_not (pv 7)) pa_nil)))) pa_nil)))))
      (pss_one (ps_ret pe_bl))
      pss_nil)
      hK))))), ?_⟩
  rintro ⟨dn, dr, db, dc⟩ G a b l kl al r1 r2 m1 m2 ps qs fls gls ba bb rw lt qs2 y3 y14 y15 y16 y17 y18 y19 y20 y21 y22 y23 y24 go dw hrw frw hlt klb
  walk_at "nn2"
  obtain ⟨dx1, l1, hm1, -⟩ := id dw.one
  obtain ⟨dx2, l2, hm2, -⟩ := id dw.two
  have n1 := dw.l1
  have n2 := dw.l2
  refine ⟨m1, m2, dx1, dx2, _, _, rfl, rfl, hm1, hm2, ?_⟩
  refine ⟨m1, m2, al, al, ps, qs, fls, gls, ba, bb, rfl, dw.tw, .inr (.inl ⟨rfl, by omega, fun x1 rs1 H1 s1 M1 F1 => ⟨_, rfl, ?_⟩⟩)⟩
  walk_at "nn2"
  refine ⟨m1, m2, dx1, dx2, _, _, rfl, rfl, s1 _ _ hm1, s1 _ _ hm2, ?_⟩
  refine ⟨m1, m2, al, al, ps, qs, fls, gls, ba, bb, rfl, (dw.same s1).tw, .inr (.inl ⟨rfl, by omega, fun x2 rs2 H2 s2 M2 F2 => ⟨_, rfl, ?_⟩⟩)⟩
  have s12 := s1.trans s2
  walk_at "nn2"
  refine ⟨m1, dx1, _, rfl, s12 _ _ hm1, ?_⟩
  refine ⟨m1, al, ps, fls, ba, rfl, (dw.same s12).one, (dw.same s12).fl, dw.ok1, dw.alp, ⟨by omega, by omega⟩, .inl ⟨by omega, fun x3 rs3 H3 s3 M3 F3 => ⟨_, rfl, ?_⟩⟩⟩
  have s13 := s12.trans s3
  have A1 := (M1.at_.same s2).same s3
  have A2 := M2.at_.same s3
  have A3 := M3.at_
  have G1 := (F1.same s2).same s3
  have G2 := F2.same s3
  walk_at "nn2"
  intro lf nlf
  have s4 := same_upd (o := .lst [.ref x1, .ref x2, .ref x3]) nlf
  have fn : Fnd T.C_Formula (upd H3 lf (.lst [.ref x1, .ref x2, .ref x3])) al lf x1 x2 x3 fls gls ba bb := ⟨upd_same, rs1, rs2, rs3, A1.same s4, G1.same s4, A2.same s4, G2.same s4, A3.same s4, F3.same s4⟩
  have S := s13.trans s4
  have dw4 := dw.same S
  have hrw4 := S _ _ hrw
  have frw4 := frw.same S
  have hlt4 := S _ _ hlt
  clear s1 s2 s3 s4 s12 s13 S M1 M2 M3 F1 F2 F3 A1 A2 A3 G1 G2 nlf dw hrw frw hlt hm1 hm2
  generalize upd H3 lf (.lst [.ref x1, .ref x2, .ref x3]) = H4 at *
  obtain ⟨hlf, rs1, rs2, rs3, ma, fa, mo, fo, mn, fn3⟩ := id fn
  have l12 : (ps ++ qs2).length = fls.length + gls.length := by rw [frw4.1, joinF_len]
  have l12m : ((ps ++ qs2).map V.ref).length = fls.length + gls.length := by rw [List.length_map, l12]
  have psl := dw4.fl.1
  walk_at "nn2"
  intro t1 nt1
  have u1 := same_upd (o := .tup [.str "and", .ref lt]) nt1
  have ht1 := upd_same (H := H4) (a := t1) (o := .tup [.str "and", .ref lt])
  walk_at "nn2"
  intro q1 nq1
  have u2 := same_upd (o := .lst [.ref t1]) nq1
  have hq1 := upd_same (H := upd H4 t1 (.tup [.str "and", .ref lt])) (a := q1) (o := .lst [.ref t1])
  have u12 := u1.trans u2
  have ht1' := u2 _ _ ht1
  refine ⟨rw, q1, _, _, rfl, rfl, u12 _ _ hrw4, hq1, sz (by rw [l12m]; show fls.length + gls.length + 1 ≤ 100000; omega), fun L1 nL1 => ?_⟩
  rw [show ((ps ++ qs2).map V.ref ++ [V.ref t1]) = ((ps ++ qs2) ++ [t1]).map V.ref from by simp]
  have u3 := same_upd (o := .lst (((ps ++ qs2) ++ [t1]).map V.ref)) nL1
  have hL1 := upd_same (H := upd (upd H4 t1 (.tup [.str "and", .ref lt])) q1 (.lst [.ref t1])) (a := L1) (o := .lst (((ps ++ qs2) ++ [t1]).map V.ref))
  have ht1'' := u3 _ _ ht1'
  have v1 := u12.trans u3
  clear u1 u2 u12 u3 ht1 ht1' nt1 nq1 nL1 hq1
  generalize upd (upd (upd H4 t1 (.tup [.str "and", .ref lt])) q1 (.lst [.ref t1])) L1 (.lst (((ps ++ qs2) ++ [t1]).map V.ref)) = H5 at *
  walk_at "nn2"
  intro t2 nt2
  have u1 := same_upd (o := .tup [.str "or", .ref lt]) nt2
  have ht2 := upd_same (H := H5) (a := t2) (o := .tup [.str "or", .ref lt])
  walk_at "nn2"
  intro q2 nq2
  have u2 := same_upd (o := .lst [.ref t2]) nq2
  have hq2 := upd_same (H := upd H5 t2 (.tup [.str "or", .ref lt])) (a := q2) (o := .lst [.ref t2])
  have u12 := u1.trans u2
  have ht2' := u2 _ _ ht2
  refine ⟨rw, q2, _, _, rfl, rfl, (v1.trans u12) _ _ hrw4, hq2, sz (by rw [l12m]; show fls.length + gls.length + 1 ≤ 100000; omega), fun L2 nL2 => ?_⟩
  rw [show ((ps ++ qs2).map V.ref ++ [V.ref t2]) = ((ps ++ qs2) ++ [t2]).map V.ref from by simp]
  have u3 := same_upd (o := .lst (((ps ++ qs2) ++ [t2]).map V.ref)) nL2
  have hL2 := upd_same (H := upd (upd H5 t2 (.tup [.str "or", .ref lt])) q2 (.lst [.ref t2])) (a := L2) (o := .lst (((ps ++ qs2) ++ [t2]).map V.ref))
  have ht2'' := u3 _ _ ht2'
  have v2 := u12.trans u3
  clear u1 u2 u12 u3 ht2 ht2' nt2 nq2 nL2 hq2
  generalize upd (upd (upd H5 t2 (.tup [.str "or", .ref lt])) q2 (.lst [.ref t2])) L2 (.lst (((ps ++ qs2) ++ [t2]).map V.ref)) = H6 at *
  walk_at "nn2"
  rw [show (fun i j : Int => V.int (i - j)) ((fls.length : Nat) : Int) 1 = V.int ((fls.length - 1 : Nat) : Int) from congrArg V.int (by omega)]
  intro t3 nt3
  have u1 := same_upd (o := .tup [.str "not", .int ((fls.length - 1 : Nat) : Int)]) nt3
  have ht3 := upd_same (H := H6) (a := t3) (o := .tup [.str "not", .int ((fls.length - 1 : Nat) : Int)])
  walk_at "nn2"
  intro q3 nq3
  have u2 := same_upd (o := .lst [.ref t3]) nq3
  have hq3 := upd_same (H := upd H6 t3 (.tup [.str "not", .int ((fls.length - 1 : Nat) : Int)])) (a := q3) (o := .lst [.ref t3])
  have u12 := u1.trans u2
  have ht3' := u2 _ _ ht3
  refine ⟨r1, q3, _, _, rfl, rfl, ((v1.trans v2).trans u12) _ _ dw4.lft, hq3, sz (by rw [List.length_map, psl]; show fls.length + 1 ≤ 100000; omega), fun L3 nL3 => ?_⟩
  rw [show (ps.map V.ref ++ [V.ref t3]) = (ps ++ [t3]).map V.ref from by simp]
  have u3 := same_upd (o := .lst ((ps ++ [t3]).map V.ref)) nL3
  have hL3 := upd_same (H := upd (upd H6 t3 (.tup [.str "not", .int ((fls.length - 1 : Nat) : Int)])) q3 (.lst [.ref t3])) (a := L3) (o := .lst ((ps ++ [t3]).map V.ref))
  have ht3'' := u3 _ _ ht3'
  have v3 := u12.trans u3
  clear u1 u2 u12 u3 ht3 ht3' nt3 nq3 nL3 hq3
  generalize upd (upd (upd H6 t3 (.tup [.str "not", .int ((fls.length - 1 : Nat) : Int)])) q3 (.lst [.ref t3])) L3 (.lst ((ps ++ [t3]).map V.ref)) = H7 at *
  walk_at "nn2"
  intro du ndu
  have v4 := same_upd (o := .lst [.ref L1, .ref L2, .ref L3]) ndu
  have hdu := upd_same (H := H7) (a := du) (o := .lst [.ref L1, .ref L2, .ref L3])
  have v34 := v3.trans v4
  have v24 := v2.trans v34
  have v14 := v1.trans v24
  have dw8 := dw4.same v14
  have fn8 := fn.same v14
  have c1 := v24 _ _ hL1
  have c2 := v34 _ _ hL2
  have c3 := v4 _ _ hL3
  have frw8 := frw4.same v14
  have hlt8 := v14 _ _ hlt4
  have g1 : FLp _ ((ps ++ qs2) ++ [t1]) (mkAnd fls gls) := FLp.app (FLp.cons (f := .and [fls.length - 1, fls.length + gls.length - 1]) ⟨lt, v24 _ _ ht1'', hlt8⟩ FLp.nil) frw8
  have g2 : FLp _ ((ps ++ qs2) ++ [t2]) (mkOr fls gls) := FLp.app (FLp.cons (f := .or [fls.length - 1, fls.length + gls.length - 1]) ⟨lt, v34 _ _ ht2'', hlt8⟩ FLp.nil) frw8
  have g3 : FLp _ (ps ++ [t3]) (fls ++ [.not (fls.length - 1)]) := FLp.app (FLp.cons (f := .not (fls.length - 1)) (v4 _ _ ht3'') FLp.nil) dw8.fl
  clear v1 v2 v3 v4 v34 v24 v14 dw4 fn hL1 hL2 hL3 frw4 hlt4 ht1'' ht2'' ht3'' hrw4 frw8 hlt8 ndu hlf ma fa mo fo mn fn3
  generalize upd H7 du (.lst [.ref L1, .ref L2, .ref L3]) = H8 at *
  obtain ⟨hlf, rs1, rs2, rs3, ma, fa, mo, fo, mn, fn3⟩ := id fn8
  have j1 := joinF_ok dw8.ok1 dw8.ok2
  have ok_a : FOk al.cps.toList (mkAnd fls gls) := j1.add (by rw [joinF_len]; exact two_ok n1.1 n2.1)
  have ok_o : FOk al.cps.toList (mkOr fls gls) := j1.add (by rw [joinF_len]; exact two_ok n1.1 n2.1)
  have ok_n : FOk al.cps.toList (fls ++ [.not (fls.length - 1)]) := dw8.ok1.add (f := .not (fls.length - 1)) (by show fls.length - 1 < fls.length; omega)
  walk_at "nn2"
  refine ⟨⟨_, SqL.of hlf⟩, fun D hD => ?_⟩
  refine lc_genL walk_list (fun H' => Same H8 H') (Told D [rs1, rs2, rs3]) (by show 3 ≤ 100000; decide) (same_upd hD) (fun _ h => h.seq (SqL.of hlf)) (fun _ _ h => same_mut h hD)
    (fun i y Ha Hb k ⟨p, rs, e1, e2, e3, e4⟩ => ⟨p, rs, e1, e2, e3, k _ _ e2 e4⟩) ?_ ?_
  · rintro j x H9 H10 Q1 hlt hI ⟨rfl, hx⟩ ⟨xsD, hxD⟩ hQ
    obtain ⟨x0, rs, v, rfl, M, e⟩ : ∃ (x0 : Addr) (rs : List Addr) (v : Bool), x = V.ref x0 ∧ FmAt T.C_Formula H8 x0 al (rs.map V.ref) v ∧ [rs1, rs2, rs3][j]? = some rs := by
      match j, hx with
      | 0, hx => cases hx; exact ⟨x1, _, _, rfl, ma, rfl⟩
      | 1, hx => cases hx; exact ⟨x2, _, _, rfl, mo, rfl⟩
      | 2, hx => cases hx; exact ⟨x3, _, _, rfl, mn, rfl⟩
      | j + 3, hx => simp at hx
    have M9 := M.same hI
    obtain ⟨dm, lm, hm, -⟩ := id M9
    walk_at "nn2"
    refine ⟨x0, dm, _, rfl, hm, rfl, ?_⟩
    walk_at "nn2"
    refine ⟨x0, al, _, v, rfl, M9, fun p np => ?_⟩
    have sp := same_upd (o := .lst (rs.map V.ref)) np
    exact hQ _ _ ⟨p, rs, rfl, (ne_of_none hxD np).symm, e, upd_same⟩ (hI.trans sp) sp
  · intro H9 ys hI hy hl2 hr2
    match ys, hl2 with
    | [w1, w2, w3], _ =>
    obtain ⟨p1, _, rfl, -, e1, h1⟩ := hr2 0 w1 rfl
    obtain ⟨p2, _, rfl, -, e2, h2⟩ := hr2 1 w2 rfl
    obtain ⟨p3, _, rfl, -, e3, h3⟩ := hr2 2 w3 rfl
    cases e1
    cases e2
    cases e3
    walk_at "nn2"
    refine ⟨.ref D, .ref du, rfl, sm_list (d := 4) (SqL.of hy) (SqL.of (hI _ _ hdu)) rfl (by show 3 ≤ 1000; decide) fun pr hp => ?_, fun H10 s10 => ?_⟩
    · simp only [List.zip_cons_cons, List.zip_nil_right, List.mem_cons, List.not_mem_nil, or_false] at hp
      rcases hp with rfl | rfl | rfl
      · exact FLp.sm2 (fa.same hI) (g1.same hI) ok_a (by rw [mkAnd_len]; omega) (SqL.of h1) (SqL.of (hI _ _ c1))
      · exact FLp.sm2 (fo.same hI) (g2.same hI) ok_o (by rw [mkOr_len]; omega) (SqL.of h2) (SqL.of (hI _ _ c2))
      · exact FLp.sm2 (fn3.same hI) (g3.same hI) ok_n (by rw [List.length_append]; show fls.length + 1 ≤ 1000; omega) (SqL.of h3) (SqL.of (hI _ _ c3))
    have dw9 := (dw8.same hI).same s10
    have fn9 := (fn8.same hI).same s10
    clear dw8 fn8 hI hr2 hy h1 h2 h3 c1 c2 c3 g1 g2 g3 ma mo mn fa fo fn3 hlf hD hdu s10
    obtain ⟨hlf, rs1, rs2, rs3, ma, fa, mo, fo, mn, fn3⟩ := id fn9
    walk_at "nn2"
    refine ⟨⟨_, SqL.of hlf⟩, fun D hD => ?_⟩
    refine lc_gen walk_list (fun H' => Same H10 H') (fun i y => y = V.bl ([ba && bb, ba || bb, !ba].getD i false)) (by show 3 ≤ 100000; decide) (same_upd hD) (fun _ h => h.seq (SqL.of hlf)) (fun _ _ h => same_mut h hD) ?_ ?_
    · rintro j x Ha Hb Q1 hlt hI ⟨rfl, hx⟩ - hQ
      obtain ⟨x0, rs, rfl, M⟩ : ∃ (x0 : Addr) (rs : List Addr), x = V.ref x0 ∧ FmAt T.C_Formula H10 x0 al (rs.map V.ref) ([ba && bb, ba || bb, !ba].getD j false) := by
        match j, hx with
        | 0, hx => cases hx; exact ⟨x1, _, rfl, ma⟩
        | 1, hx => cases hx; exact ⟨x2, _, rfl, mo⟩
        | 2, hx => cases hx; exact ⟨x3, _, rfl, mn⟩
        | j + 3, hx => simp at hx
      have M9 := M.same hI
      obtain ⟨dm, lm, hm, -⟩ := id M9
      walk_at "nn2"
      refine ⟨x0, dm, _, rfl, hm, x0, al, _, _, rfl, M9, ?_⟩
      exact hQ _ _ rfl hI fun o ho => ho
    · intro H11 ys hI hy hl2 hr2
      have e : ys = boolL [ba && bb, ba || bb, !ba] := by
        refine List.ext_getElem (by rw [hl2, boolL_len]; rfl) fun i a1 a2 => ?_
        rw [hr2 i _ (List.getElem?_eq_getElem a1)]
        have := boolL_at (bs := [ba && bb, ba || bb, !ba]) (i := i) (by rw [hl2] at a1; exact a1)
        rw [List.getElem?_eq_getElem a2] at this
        exact (Option.some.inj this).symm
      subst e
      have dwA := dw9.same hI
      have fnA := fn9.same hI
      clear dw9 fn9 hI hr2 hl2 hD hlf ma fa mo fo mn fn3
      cases ba <;> cases bb <;>
      · walk_at "nn2"
        intro D2 nD2
        refine ⟨.ref D, .ref D2, rfl, sm_lst (d := 3) (SqL.of (same_upd nD2 _ _ hy)) (SqL.of upd_same) (by show 3 ≤ 100000; decide) rfl, fun H12 s10 => ?_⟩
        have dwB := dwA.same ((same_upd nD2).trans s10)
        have fnB := fnA.same ((same_upd nD2).trans s10)
        clear dwA fnA s10 hy nD2
        walk_at "nn2"
        exact qK _ _ a b l kl al r1 r2 m1 m2 ps qs fls gls _ _ rw lt lf x1 x2 x3 _ _ _ _ _ _ _ _ _ _ _ (fun G' y15 y24 dw fn => go G' lf x1 x2 x3 y15 y24 dw fn) dwB fnB
end

variable {K : PySem.W.Frag} {mg : Str → Option Value}

theorem FLs.put {H : Hp} {D r : Addr} {fls : List FL} {xs zs : List V} (h : FLs H r fls) (n : r ≠ D) (e : H D = some (.lst xs)) : FLs (upd H D (.lst zs)) r fls := by
  obtain ⟨ps, h1, h2, h3⟩ := h
  exact ⟨ps, by rw [upd_ne n]; exact h1, h2, fun i p f a b => (h3 i p f a b).keep (TupKeep.put (fun _ _ h => h) e)⟩
section
variable {P : Program} {w : World} {base : Heap}
theorem ok_law {cL PL cW PW : Addr} (T : Env K mg) (cd : CodeIs T.fd_law cL) (cdW : CodeIs T.fd_wide_so cW) (TB : LamX.TabB base mg cL PL) (TBW : LamX.TabB base mg cW PW) (neP : PL ≠ PW) : FnOk P w K mg base CX0 16 T.f_law T.fd_law ["_law_script"] (spLaw K PL PW) := by
  obtain ⟨oc, od, kV, doc, pm, an, cdv, ct, osl, e, lk, hcd⟩ := T.F_law.ex
  rw [e] at lk cd ⊢
  obtain rfl : cdv = .ref cL := cd
  refine fn_of lk hcd sc_law (fun vs H Q E h => ?_) (fun A outer s H vs Q E hr h => ?_)
  · obtain ⟨a, ns, rfl, _⟩ := h
    rfl
  · suffices z : ∃ t, PSs (cxOf CX0 P w K mg base N_law "law" (defScope s_law) T.f_law (.ref cL) A outer s H E).nox (defBody s_law) t ∧ t { nx := fun _ G => Q .non G, rt := Q } (L2.start N_law vs) H by
      obtain ⟨t, h1, h2⟩ := z
      exact ⟨t, h1.nox, h2⟩
    have nd : CellsNd (cxOf CX0 P w K mg base N_law "law" (defScope s_law) T.f_law (.ref cL) A outer s H E).nox.env := by
      intro y c hm
      have hm : (y, c) ∈ ([("_law_one", s.heap.objs.size + 1 + 1 + 1 + 1 + 1 + 1 + 1), ("_law_far", s.heap.objs.size + 1 + 1 + 1 + 1 + 1 + 1), ("_law_text_here", s.heap.objs.size + 1 + 1 + 1 + 1 + 1), ("_law_many", s.heap.objs.size + 1 + 1 + 1 + 1), ("_law_signs_here", s.heap.objs.size + 1 + 1 + 1), ("_law_kinds", s.heap.objs.size + 1 + 1), ("_law_bag_here", s.heap.objs.size + 1)] : List (Str × Addr)) := hm
      simp only [List.mem_cons, Prod.mk.injEq, List.not_mem_nil, or_false] at hm
      rcases hm with ⟨rfl, rfl⟩ | ⟨rfl, rfl⟩ | ⟨rfl, rfl⟩ | ⟨rfl, rfl⟩ | ⟨rfl, rfl⟩ | ⟨rfl, rfl⟩ | ⟨rfl, rfl⟩ <;> rfl
    have hfn : (cxOf CX0 P w K mg base N_law "law" (defScope s_law) T.f_law (.ref cL) A outer s H E).nox.Ok → ∀ y c, (cxOf CX0 P w K mg base N_law "law" (defScope s_law) T.f_law (.ref cL) A outer s H E).nox.env.cells.lookup y = some c → (cxOf CX0 P w K mg base N_law "law" (defScope s_law) T.f_law (.ref cL) A outer s H E).nox.s_0.heap.objs.size ≤ c := by
      intro _ y c hm
      have hm : (y, c) ∈ ([("_law_one", s.heap.objs.size + 1 + 1 + 1 + 1 + 1 + 1 + 1), ("_law_far", s.heap.objs.size + 1 + 1 + 1 + 1 + 1 + 1), ("_law_text_here", s.heap.objs.size + 1 + 1 + 1 + 1 + 1), ("_law_many", s.heap.objs.size + 1 + 1 + 1 + 1), ("_law_signs_here", s.heap.objs.size + 1 + 1 + 1), ("_law_kinds", s.heap.objs.size + 1 + 1), ("_law_bag_here", s.heap.objs.size + 1)] : List (Str × Addr)) := PySem.mem_of_lookup hm
      show s.heap.objs.size ≤ c
      simp only [List.mem_cons, Prod.mk.injEq, List.not_mem_nil, or_false] at hm
      rcases hm with ⟨_, rfl⟩ | ⟨_, rfl⟩ | ⟨_, rfl⟩ | ⟨_, rfl⟩ | ⟨_, rfl⟩ | ⟨_, rfl⟩ | ⟨_, rfl⟩ <;> omega
    obtain ⟨tF, hF, qF⟩ := law_far (PL := PL) (PW := PW) (P := P) (w := w) (base := base) T TB neP A outer s H E hr nd hfn
    obtain ⟨tW, hW, qW⟩ := law_words (PL := PL) (PW := PW) (P := P) (w := w) (base := base) T A outer s H E hr hF
    obtain ⟨tT, hT, qT⟩ := law_told (PL := PL) (PW := PW) (P := P) (w := w) (base := base) T A outer s H E hr hW
    clear hF hW
    refine ⟨_, ((pss_cons (ps_set (i := 1) sc_law.nd rfl (.inr rfl) (pe_call (ok_bag T) (hr.mono (by decide)) (by rfl) T.g_bag T.F_bag.kp T.b_bag .nil pass0 (pa_cons (pv 0) pa_nil)))
      (pss_cons (ps_set (i := 2) sc_law.nd rfl (.inr rfl) (pe_lst (pa_cons pe_str (pa_cons pe_str (pa_cons pe_str (pa_cons pe_str (pa_cons pe_str (pa_cons pe_str (pa_cons pe_str pa_nil)))))))))
      (pss_cons (ps_for PassesOwn.never rfl (pi_range1 (by rfl) T.z_range (pa_cons pe_int pa_nil)) (pg_name (i := 3) sc_law.nd rfl (.inl rfl))
      (pss_cons (ps_set (i := 4) sc_law.nd rfl (.inr rfl) (pe_call (ok_signs T) (hr.mono (by decide)) (by rfl) T.g_signs T.F_signs.kp T.b_signs .nil pass0 (pa_cons (pv 1) pa_nil)))
      (pss_cons (ps_asg (pe_lc (own := [("_law_k", 22)]) (g := (gName 22)) (tt := tYes) rfl sc_law.nd (pi_range1 (by rfl) T.z_range (pa_cons pe_int pa_nil)) (blkOk_by (own := [("_law_k", 22)]) (N := N_law) (sc := defScope s_law) (by decide +kernel)) (fun _ _ _ _ _ => (pg_name (i := 22) sc_law.nd rfl (.inl rfl))) (fun _ _ _ _ _ => pts_nil) (fun _ _ _ _ _ => (pe_call (ok_saying T) (hr.mono (by decide)) (by rfl) T.g_saying T.F_saying.kp T.b_saying .nil pass0 (pa_cons (pv 1) (pa_cons (pv 4) (pa_cons (pe_op op_add pe_int (pe_call (ok_pull T) (hr.mono (by decide)) (by rfl) T.g_pull T.F_pull.kp T.b_pull .nil pass0 (pa_cons (pv 1) (pa_cons pe_int pa_nil)))) (pa_cons (pv 2) pa_nil))))))) (pg_lst (by rfl) (pgs_cons (pg_name (i := 5) sc_law.nd rfl (.inl rfl)) (pgs_cons (pg_name (i := 6) sc_law.nd rfl (.inl rfl)) pgs_nil))))
      (pss_cons (ps_par (i := 7) (j := 8) (by rfl) sc_law.nd rfl rfl (by decide) rfl rfl (pa_cons (pe_cmpR op_eq (pe_call (ok_pull T) (hr.mono (by decide)) (by rfl) T.g_pull T.F_pull.kp T.b_pull .nil pass0 (pa_cons (pv 1) (pa_cons pe_int pa_nil))) pe_int (nomark _)) (pa_cons (pe_cmpR op_eq (pe_call (ok_pull T) (hr.mono (by decide)) (by rfl) T.g_pull T.F_pull.kp T.b_pull .nil pass0 (pa_cons (pv 1) (pa_cons pe_int pa_nil))) pe_int (nomark _)) pa_nil)) (by rfl))
      (pss_cons (ps_asg (pe_tup (pa_cons (pe_makeK T.k_Formula___init (ok_Formula___init T) (hr.mono (by decide)) (by rfl) T.gC_Formula T.b_Formula___init passL (pa_cons (pv 4) (pa_cons (pv 5) pa_nil)) (pk_cons (pv 7) pk_nil)) (pa_cons (pe_makeK T.k_Formula___init (ok_Formula___init T) (hr.mono (by decide)) (by rfl) T.gC_Formula T.b_Formula___init passL (pa_cons (pv 4) (pa_cons (pv 6) pa_nil)) (pk_cons (pv 8) pk_nil)) pa_nil))) (pg_tup (by rfl) (pgs_cons (pg_name (i := 9) sc_law.nd rfl (.inr rfl)) (pgs_cons (pg_name (i := 10) sc_law.nd rfl (.inl rfl)) pgs_nil))))
      (pss_cons (ps_set (i := 11) sc_law.nd rfl (.inr rfl) (pe_callB call_len_seq (by rfl) T.z_len (by decide +kernel) (pa_cons (pv 5) pa_nil)))
      (pss_cons (ps_set (i := 12) sc_law.nd rfl (.inl rfl) (pe_op op_cat (pv 5) (pe_lc (own := [("_law_line", 23)]) (g := (gName 23)) (tt := tYes) rfl sc_law.nd (pi_list (pv 6)) (blkOk_by (own := [("_law_line", 23)]) (N := N_law) (sc := defScope s_law) (by decide +kernel)) (fun _ _ _ _ _ => (pg_name (i := 23) sc_law.nd rfl (.inl rfl))) (fun _ _ _ _ _ => pts_nil) (fun _ _ _ _ _ => (pe_call (ok_moved T) (hr.mono (by decide)) (by rfl) T.g_moved T.F_moved.kp T.b_moved .nil pass0 (pa_cons (pv 23) (pa_cons (pv 11) pa_nil)))))))
      (pss_cons (ps_set (i := 13) sc_law.nd rfl (.inl rfl) (pe_tup (pa_cons (pe_op op_sub (pv 11) pe_int) (pa_cons (pe_op op_sub (pe_callB call_len_seq (by rfl) T.z_len (by decide +kernel) (pa_cons (pv 12) pa_nil)) pe_int) pa_nil))))
      hT))))))))
      (pss_one (ps_ret (pe_call0 (ok_wide_so T cdW TBW neP) (hr.mono (by decide)) (by rfl) T.g_wide_so T.F_wide_so.kp T.b_wide_so .nil pass0))))))), ?_⟩
    obtain ⟨a, ns, rfl, hS, hlen, hL1, hL2, q⟩ := h
    walk_at "ss"
    intro b l H1 hb0 hl0 B1 s1
    have t1 : LamX.Tabs (tabs2 PL PW) H1 := fun p hp => by
      simp only [List.mem_cons, List.not_mem_nil, or_false] at hp
      rcases hp with rfl | rfl
      · exact ⟨#[], s1 _ _ hL1, trivial, fun q v z => by cases z⟩
      · exact ⟨#[], s1 _ _ hL2, trivial, fun q v z => by cases z⟩
    walk_at "ss"
    intro kl hkl0
    have s2 := same_upd (o := .lst kindsV) hkl0
    have hkl : upd H1 kl (.lst kindsV) kl = some (.lst kindsV) := upd_same
    have B2 := B1.same s2
    have t2 : LamX.Tabs (tabs2 PL PW) (upd H1 kl (.lst kindsV)) := t1.ext s2
    have klb : kl ≠ b := B1.nb hkl0
    show gName 2 _ _ (upd H1 kl (.lst kindsV)) _
    clear t1 B1 s2 hkl0 s1
    generalize upd H1 kl (.lst kindsV) = G1 at *
    walk_at "nn2"
    refine for_it walk_range (fun i σ H' => Stp (LawSt PL PW a b l kl σ H')) (.mk ⟨⟨_, _, _, _, _, _, _, _, _, _, _, _, _, _, _, _, _, _, _, _, _, _, rfl⟩, B2, t2, hkl⟩) (fun _ _ _ _ _ => trivial) ?_ ?_
    · clear B2 t2 hkl
      rintro i x σ H2 H3 hi hP ⟨rfl, rfl⟩
      obtain ⟨⟨y3, y4, y5, y6, y7, y8, y9, y10, y11, y12, y13, y14, y15, y16, y17, y18, y19, y20, y21, y22, y23, y24, rfl⟩, B3, t3, hkl3⟩ := hP.of
      clear hP
      show gName 3 (V.int (0 + (i : Int))) _ _ _
      obtain ⟨iz, hiz⟩ : ∃ iz : Int, iz = 0 + (i : Int) := ⟨_, rfl⟩
      rw [← hiz]
      walk_at "nn2"
      intro al H4 hA B4 k4
      have t4 := tabs_kp t3 k4 B3
      have hkl4 := k4 _ _ hkl3 klb
      have al4 : al.length ≤ 4 := by rw [len_tl]; exact hA.2.1
      have al1 : 1 ≤ al.length := by rw [len_tl]; exact hA.1
      clear t3 k4 B3 hkl3
      walk_at "nn2"
      intro D nD
      have nb := B4.nb nD
      have nl := B4.nl nD
      have klD : kl ≠ D := ne_of_none hkl4 nD
      refine lc_it walk_range (fun i H' => Stp (∃ xs : List (Addr × List FL), xs.length = i ∧ H' D = some (.lst (xs.map fun x => V.ref x.1)) ∧ (∀ x ∈ xs, FLs H' x.1 x.2 ∧ FOk al.cps.toList x.2 ∧ (1 ≤ x.2.length ∧ x.2.length ≤ 8) ∧ x.1 ≠ D ∧ x.1 ≠ b) ∧ BagAt b l H' ∧ Kp b H4 H'))
        (.mk ⟨[], rfl, upd_same, fun x hx => by simp at hx, B4.mut nb nl, Kp.same (same_upd nD)⟩) (fun _ _ _ _ => trivial) ?_ ?_
      · rintro j x H5 H6 hj hP ⟨rfl, rfl⟩
        obtain ⟨xs, xl, hD, hx, B5, k5⟩ := hP.of
        clear hP
        walk_at "nn2"
        refine ⟨b, l, _, rfl, B5, by decide, by decide, fun n H7 n0 n1 B7 k7 => ?_⟩
        have k47 := k5.trans k7
        have hkl7 := k47 _ _ hkl4 klb
        have hD7 := k7 _ _ hD nb
        walk_at "nn2"
        refine ⟨b, l, kl, al, _, kindsV, rfl, B7, al1, al4, hA.2.2.2.imp fun h => Nat.ne_of_lt h, by omega, by omega, hkl7, (fun _ h => h), (by intro z; cases z), by decide, klb, fun r fls H8 F8 O8 l8 r0 B8 k8 => ?_⟩
        have hD8 := k8 _ _ hD7 nb
        have rD : r ≠ D := (ne_of_none hD7 r0).symm
        have rb : r ≠ b := B7.nb r0
        refine ⟨_, hD8, szl (by rw [List.length_map]; omega), .mk ⟨xs ++ [(r, fls)], by rw [List.length_append, xl]; rfl, ?_, fun x hm => ?_, B8.mut nb nl, (k47.trans k8).mut nD⟩⟩
        · rw [upd_same, List.map_append]
          rfl
        · rcases List.mem_append.mp hm with hm | hm
          · obtain ⟨a1, a2, a3, a4, a5⟩ := hx x hm
            exact ⟨FLs.put ((a1.kp k7 B5 a5).kp k8 B7 a5) a4 hD8, a2, a3, a4, a5⟩
          · obtain rfl : x = (r, fls) := by simpa using hm
            exact ⟨F8.put rD hD8, O8, by show 1 ≤ fls.length ∧ fls.length ≤ 8; omega, rD, rb⟩
      · intro H5 hP
        obtain ⟨xs, xl, hD, hx, B5, k5⟩ := hP.of
        clear hP
        have t5 := tabs_kp t4 k5 B4
        have hkl5 := k5 _ _ hkl4 klb
        match xs, xl with
        | [(r1, fls), (r2, gls)], _ =>
        obtain ⟨F1, ok1, ln1, -, r1b⟩ := hx (r1, fls) (by simp)
        obtain ⟨F2, ok2, ln2, -, r2b⟩ := hx (r2, gls) (by simp)
        clear t4 hkl4 k5 B4 hx nD nb nl klD
        walk_at "nn2"
        refine ⟨D, _, rfl, SqL.of hD, rfl, ?_⟩
        refine ⟨_, _, rfl, _, _, rfl, rfl, ?_⟩
        walk_at "nn2"
        refine ⟨b, l, _, rfl, B5, by decide, by decide, fun ka H7 _ _ B7 k7 => ?_⟩
        have F17 := FLs.kp F1 k7 B5 r1b
        have F27 := FLs.kp F2 k7 B5 r2b
        have t7 := tabs_kp t5 k7 B5
        have hkl7 := k7 _ _ hkl5 klb
        clear F1 F2 t5 hkl5 k7 B5 hD
        walk_at "nn2"
        obtain ⟨ba, hba⟩ : ∃ ba : Bool, ba = decide (V.int ka = V.int 0) := ⟨_, rfl⟩
        rw [← hba]
        refine ⟨b, l, _, rfl, B7, by decide, by decide, fun kb H8 _ _ B8 k8 => ?_⟩
        have F1 := FLs.kp F17 k8 B7 r1b
        have F2 := FLs.kp F27 k8 B7 r2b
        have t8 := tabs_kp t7 k8 B7
        have hkl8 := k8 _ _ hkl7 klb
        clear F17 F27 t7 hkl7 k8 B7
        walk_at "nn2"
        obtain ⟨bb, hbb⟩ : ∃ bb : Bool, bb = decide (V.int kb = V.int 0) := ⟨_, rfl⟩
        rw [← hbb]
        refine ⟨_, _, rfl, ?_⟩
        clear hba hbb
        obtain ⟨ps, hp1, pl1, fp1⟩ := id F1
        obtain ⟨qs, hp2, pl2, fp2⟩ := id F2
        walk_at "nn2"
        intro m1 d1 m10 d10 ne1
        refine mk_use T m10 d10 ne1 hp1 (.inl (SqL.of hp1)) ⟨pl1, fp1⟩ ok1 hA ln1.1 (by have := ln1.2; simp only at this; omega) fun H9 s9 M9 => ⟨rfl, ?_⟩
        have hp19 := s9 _ _ hp1
        have hp29 := s9 _ _ hp2
        have f19 : FLp H9 ps fls := FLp.same ⟨pl1, fp1⟩ s9
        have f29 : FLp H9 qs gls := FLp.same ⟨pl2, fp2⟩ s9
        have B9 := B8.same s9
        have t9 : LamX.Tabs (tabs2 PL PW) H9 := t8.ext s9
        have hkl9 := s9 _ _ hkl8
        have M9 := M9.at_
        clear F1 F2 hp1 hp2 fp1 fp2 B8 t8 hkl8 s9 m10 d10 ne1
        walk_at "nn2"
        intro m2 d2 m20 d20 ne2
        refine mk_use T m20 d20 ne2 hp29 (.inl (SqL.of hp29)) f29 ok2 hA ln2.1 (by have := ln2.2; simp only at this; omega) fun H10 s10 M10 => ⟨rfl, ?_⟩
        have dw : Dr T.C_Formula PL PW b l kl H10 al r1 r2 m1 m2 ps qs fls gls ba bb := ⟨B9.same s10, t9.ext s10, s10 _ _ hkl9, hA, s10 _ _ hp19, s10 _ _ hp29, f19.same s10, f29.same s10, ok1, ok2, ⟨ln1.1, Nat.le_trans ln1.2 (by decide)⟩, ⟨ln2.1, Nat.le_trans ln2.2 (by decide)⟩, M9.same s10, M10.at_⟩
        clear hp19 hp29 f19 f29 B9 t9 hkl9 M9 M10 s10 m20 d20 ne2
        walk_at "nn2"
        intro tp tp0
        have sp := same_upd (o := .tup [.ref m1, .ref m2]) tp0
        have htp := upd_same (H := H10) (a := tp) (o := .tup [.ref m1, .ref m2])
        have dw1 := dw.same sp
        clear dw sp tp0
        refine ⟨tp, _, rfl, SqT.of htp, rfl, ?_⟩
        generalize upd H10 tp (.tup [.ref m1, .ref m2]) = H11 at *
        refine ⟨_, _, rfl, _, _, rfl, rfl, ?_⟩
        clear htp
        walk_at "nn2"
        have pl := dw1.fl.1
        have ql := dw1.gl.1
        have n1 := dw1.l1
        have n2 := dw1.l2
        refine ⟨r1, _, rfl, .inl (SqL.of dw1.lft), ?_⟩
        rw [List.length_map, pl]
        walk_at "nn2"
        refine ⟨⟨_, SqL.of dw1.rgt⟩, ?_⟩
        intro D2 hD2
        refine lc_genH walk_list (fun H' => Same H11 H') (fun i y H' => ∃ q g, gls[i]? = some g ∧ y = .ref q ∧ FLAt H' q (mvL fls.length g)) (by rw [List.length_map]; omega) (same_upd hD2) (fun _ h => h.seq (SqL.of dw1.rgt)) (fun _ _ h => same_mut h hD2)
          (fun i y H1 H2 tk ⟨q, g, e1, e2, e3⟩ => ⟨q, g, e1, e2, e3.keep tk⟩) ?_ ?_
        · rintro j x Ha Hb Q1 hlt hI ⟨rfl, hx⟩ - hQ
          rw [List.getElem?_map] at hx
          cases hp : qs[j]? with
          | none => rw [hp] at hx; cases hx
          | some pi =>
          rw [hp] at hx
          cases hx
          have il := (List.getElem?_eq_some_iff.mp hp).1
          have il2 : j < gls.length := by omega
          have hg : gls[j]? = some gls[j] := List.getElem?_eq_getElem il2
          walk_at "nn2"
          exact ⟨pi, _, fls.length, rfl, (dw1.gl.2 j pi _ hp hg).same hI, short_of dw1.ok2 hg, fun q0 H3 s3 hq => hQ _ _ ⟨q0, _, hg, rfl, hq⟩ (hI.trans s3) (TupKeep.of s3) fun o ho => s3 _ _ ho⟩
        · intro Ha ys hI hy hl1 hr1
          obtain ⟨qs2, rfl, fq⟩ := FLp.of (by rw [hl1, List.length_map, ql]) hr1
          have q2l := fq.1
          rw [List.length_map] at q2l
          walk_at "nn2"
          refine ⟨r1, D2, _, _, rfl, rfl, hI _ _ dw1.lft, hy, sz (by rw [List.length_map, List.length_map]; show ps.length + qs2.length ≤ 100000; omega), fun L nL => ?_⟩
          rw [← List.map_append]
          have s1 := same_upd (o := .lst ((ps ++ qs2).map V.ref)) nL
          have hL := upd_same (H := Ha) (a := L) (o := .lst ((ps ++ qs2).map V.ref))
          have fj : FLp _ (ps ++ qs2) (joinF fls gls) := FLp.app (fq.same s1) ((dw1.fl.same hI).same s1)
          have dw2 := dw1.same (hI.trans s1)
          clear hI s1 hy fq nL hr1 hl1 dw1 hD2
          generalize upd Ha L (.lst ((ps ++ qs2).map V.ref)) = H12 at *
          walk_at "nn2"
          refine ⟨L, _, rfl, .inl (SqL.of hL), ?_⟩
          rw [List.length_map, List.length_append, pl, q2l]
          walk_at "nn2"
          intro lt nlt
          have s2 := same_upd (o := .tup (natL [fls.length - 1, fls.length + gls.length - 1])) nlt
          have hlt := upd_same (H := H12) (a := lt) (o := .tup (natL [fls.length - 1, fls.length + gls.length - 1]))
          rw [show ([V.int (((fls.length : Nat) : Int) - 1), V.int (((fls.length + gls.length : Nat) : Int) - 1)] : List V) = natL [fls.length - 1, fls.length + gls.length - 1] from by
            show _ = [V.int ((fls.length - 1 : Nat) : Int), V.int ((fls.length + gls.length - 1 : Nat) : Int)]
            rw [show ((fls.length : Nat) : Int) - 1 = ((fls.length - 1 : Nat) : Int) by omega, show ((fls.length + gls.length : Nat) : Int) - 1 = ((fls.length + gls.length - 1 : Nat) : Int) by omega]]
          walk_at "nn2"
          refine qT _ _ a b l kl al r1 r2 m1 m2 ps qs fls gls ba bb L lt qs2 _ _ _ _ _ _ _ _ _ _ _ _ (fun G' lf x1 x2 x3 y15 y24 dw fn => ?_) (dw2.same s2) (s2 _ _ hL) (fj.same s2) hlt klb
          refine qW _ _ a b l kl al r1 r2 m1 m2 ps qs fls gls ba bb lf x1 x2 x3 _ _ _ _ _ _ _ _ _ _ _ _ _ _ (fun G' y16 y17 y18 y19 y24 dw => ?_) dw fn klb
          exact qF _ _ a b l kl al r1 r2 m1 m2 ps qs fls gls ba bb _ _ _ _ _ _ _ _ _ _ _ _ _ _ _ (fun σ G' h => .mk h) dw
    · rintro σ H2 hP
      obtain ⟨⟨y3, y4, y5, y6, y7, y8, y9, y10, y11, y12, y13, y14, y15, y16, y17, y18, y19, y20, y21, y22, y23, y24, rfl⟩, B3, t3, hkl3⟩ := hP.of
      walk_at "nn2"
      exact q
end

theorem kit_self {K : PySem.W.Frag} {C : Addr} : PySem.W.kitOne K (.ref C) (.ref C) = some true := by
  unfold PySem.W.kitOne
  rw [if_pos (show ((Value.ref C : Value) == .ref C) = true from beq_iff_eq.mpr rfl)]
theorem kit_no {K : PySem.W.Frag} {x : String} {S : Addr} {b : Bool} (ic : PySem.W.isClsIn K S = true) (ty : PySem.W.typeIn K (.ref S) = some (.type "type")) (sb : PySem.W.subIn K (.type x) (.ref S) = some b) : PySem.W.kitOne K (.type x) (.ref S) = some b := by
  have t2 : ((PySem.W.clsIn K S).isSome && PySem.W.typeIn K (.ref S) == some (.type "type")) = true := by
    rw [show (PySem.W.clsIn K S).isSome = true from ic, ty] <;> rfl
  unfold PySem.W.kitOne
  rw [if_neg (show ¬ ((Value.type x : Value) == .ref S) = true from fun h => by cases beq_iff_eq.mp h)]
  show (if ((PySem.W.clsIn K S).isSome && PySem.W.typeIn K (.ref S) == some (.type "type")) = true then PySem.W.subIn K (.type x) (.ref S) else none) = some b
  rw [if_pos t2, sb]
open PySem.W PySem.Calls PySem.HandSPX in
theorem all_mk {l : PySem.W.OpenLaw} {w : World} {K : PySem.W.Frag} {h : Heap} {mg : Str → Option Value} {fa : Addr} (X : K.In h) (G : h.Ns mainGlobals mg) (hfa : mg "law" = some (.ref fa))
    {C_AheadError : Addr}
    {C_Missing : Addr}
    {C_NothingLeft : Addr}
    {C_AlphabetsDiffer : Addr}
    {nm_AlphabetsDiffer q_AlphabetsDiffer : Str} {N_AlphabetsDiffer : Addr} {bs_AlphabetsDiffer : List Value} {sn_AlphabetsDiffer : List Str} {sub_AlphabetsDiffer : List Value} {ab_AlphabetsDiffer : Bool} {col_AlphabetsDiffer : Option Bool} {dd_AlphabetsDiffer : Option Addr} {m0_AlphabetsDiffer m1_AlphabetsDiffer m2_AlphabetsDiffer m3_AlphabetsDiffer m5_AlphabetsDiffer : Option Value} {o1_AlphabetsDiffer : Addr}
    {C_Formula : Addr}
    {tk_Formula_MOST : Tok}
    {C_InvalidAlphabet : Addr}
    {nm_InvalidAlphabet q_InvalidAlphabet : Str} {N_InvalidAlphabet : Addr} {bs_InvalidAlphabet : List Value} {sn_InvalidAlphabet : List Str} {sub_InvalidAlphabet : List Value} {ab_InvalidAlphabet : Bool} {col_InvalidAlphabet : Option Bool} {dd_InvalidAlphabet : Option Addr} {m0_InvalidAlphabet m1_InvalidAlphabet m2_InvalidAlphabet m3_InvalidAlphabet m5_InvalidAlphabet : Option Value} {o1_InvalidAlphabet : Addr}
    {C_InvalidLine : Addr}
    {nm_InvalidLine q_InvalidLine : Str} {N_InvalidLine : Addr} {bs_InvalidLine : List Value} {sn_InvalidLine : List Str} {sub_InvalidLine : List Value} {ab_InvalidLine : Bool} {col_InvalidLine : Option Bool} {dd_InvalidLine : Option Addr} {m0_InvalidLine m1_InvalidLine m2_InvalidLine m3_InvalidLine m5_InvalidLine : Option Value} {o1_InvalidLine : Addr}
    {C_InvalidWord : Addr}
    {nm_InvalidWord q_InvalidWord : Str} {N_InvalidWord : Addr} {bs_InvalidWord : List Value} {sn_InvalidWord : List Str} {sub_InvalidWord : List Value} {ab_InvalidWord : Bool} {col_InvalidWord : Option Bool} {dd_InvalidWord : Option Addr} {m0_InvalidWord m1_InvalidWord m2_InvalidWord m3_InvalidWord m5_InvalidWord : Option Value} {o1_InvalidWord : Addr}
    {C_TooMany : Addr}
    {nm_TooMany q_TooMany : Str} {N_TooMany : Addr} {bs_TooMany : List Value} {sn_TooMany : List Str} {sub_TooMany : List Value} {ab_TooMany : Bool} {col_TooMany : Option Bool} {dd_TooMany : Option Addr} {m0_TooMany m1_TooMany m2_TooMany m3_TooMany m5_TooMany : Option Value} {o1_TooMany : Addr}
    {od_AlphabetsDiffer___init an_AlphabetsDiffer___init : Option Addr} {sl_AlphabetsDiffer___init : Array (Option Value)} {oc_AlphabetsDiffer___init kV_AlphabetsDiffer___init dc_AlphabetsDiffer___init pm_AlphabetsDiffer___init cd_AlphabetsDiffer___init ct_AlphabetsDiffer___init : Value} {f_AlphabetsDiffer___init : Addr}
    {od_Formula___and an_Formula___and : Option Addr} {sl_Formula___and : Array (Option Value)} {oc_Formula___and kV_Formula___and dc_Formula___and pm_Formula___and cd_Formula___and ct_Formula___and : Value} {f_Formula___and : Addr}
    {od_Formula___contains an_Formula___contains : Option Addr} {sl_Formula___contains : Array (Option Value)} {oc_Formula___contains kV_Formula___contains dc_Formula___contains pm_Formula___contains cd_Formula___contains ct_Formula___contains : Value} {f_Formula___contains : Addr}
    {od_Formula___eq an_Formula___eq : Option Addr} {sl_Formula___eq : Array (Option Value)} {oc_Formula___eq kV_Formula___eq dc_Formula___eq pm_Formula___eq cd_Formula___eq ct_Formula___eq : Value} {f_Formula___eq : Addr}
    {od_Formula___init an_Formula___init : Option Addr} {sl_Formula___init : Array (Option Value)} {oc_Formula___init kV_Formula___init dc_Formula___init pm_Formula___init cd_Formula___init ct_Formula___init : Value} {f_Formula___init : Addr}
    {KD_Formula___init : Addr} 
    {od_Formula___len an_Formula___len : Option Addr} {sl_Formula___len : Array (Option Value)} {oc_Formula___len kV_Formula___len dc_Formula___len pm_Formula___len cd_Formula___len ct_Formula___len : Value} {f_Formula___len : Addr}
    {od_Formula___neg an_Formula___neg : Option Addr} {sl_Formula___neg : Array (Option Value)} {oc_Formula___neg kV_Formula___neg dc_Formula___neg pm_Formula___neg cd_Formula___neg ct_Formula___neg : Value} {f_Formula___neg : Addr}
    {od_Formula___or an_Formula___or : Option Addr} {sl_Formula___or : Array (Option Value)} {oc_Formula___or kV_Formula___or dc_Formula___or pm_Formula___or cd_Formula___or ct_Formula___or : Value} {f_Formula___or : Addr}
    {od_Formula___repr an_Formula___repr : Option Addr} {sl_Formula___repr : Array (Option Value)} {oc_Formula___repr kV_Formula___repr dc_Formula___repr pm_Formula___repr cd_Formula___repr ct_Formula___repr : Value} {f_Formula___repr : Addr}
    {od_Formula__both_lines an_Formula__both_lines : Option Addr} {sl_Formula__both_lines : Array (Option Value)} {oc_Formula__both_lines kV_Formula__both_lines dc_Formula__both_lines pm_Formula__both_lines cd_Formula__both_lines ct_Formula__both_lines : Value} {f_Formula__both_lines : Addr}
    {od_Formula_alphabet an_Formula_alphabet : Option Addr} {sl_Formula_alphabet : Array (Option Value)} {oc_Formula_alphabet kV_Formula_alphabet dc_Formula_alphabet pm_Formula_alphabet cd_Formula_alphabet ct_Formula_alphabet : Value} {f_Formula_alphabet : Addr}
    {pp_Formula_alphabet : Addr} {pr_Formula_alphabet : List Value}
    {od_Formula_first an_Formula_first : Option Addr} {sl_Formula_first : Array (Option Value)} {oc_Formula_first kV_Formula_first dc_Formula_first pm_Formula_first cd_Formula_first ct_Formula_first : Value} {f_Formula_first : Addr}
    {pp_Formula_first : Addr} {pr_Formula_first : List Value}
    {od_Formula_lines an_Formula_lines : Option Addr} {sl_Formula_lines : Array (Option Value)} {oc_Formula_lines kV_Formula_lines dc_Formula_lines pm_Formula_lines cd_Formula_lines ct_Formula_lines : Value} {f_Formula_lines : Addr}
    {od_Formula_truths an_Formula_truths : Option Addr} {sl_Formula_truths : Array (Option Value)} {oc_Formula_truths kV_Formula_truths dc_Formula_truths pm_Formula_truths cd_Formula_truths ct_Formula_truths : Value} {f_Formula_truths : Addr}
    {od_InvalidAlphabet___init an_InvalidAlphabet___init : Option Addr} {sl_InvalidAlphabet___init : Array (Option Value)} {oc_InvalidAlphabet___init kV_InvalidAlphabet___init dc_InvalidAlphabet___init pm_InvalidAlphabet___init cd_InvalidAlphabet___init ct_InvalidAlphabet___init : Value} {f_InvalidAlphabet___init : Addr}
    {od_InvalidLine___init an_InvalidLine___init : Option Addr} {sl_InvalidLine___init : Array (Option Value)} {oc_InvalidLine___init kV_InvalidLine___init dc_InvalidLine___init pm_InvalidLine___init cd_InvalidLine___init ct_InvalidLine___init : Value} {f_InvalidLine___init : Addr}
    {od_InvalidWord___init an_InvalidWord___init : Option Addr} {sl_InvalidWord___init : Array (Option Value)} {oc_InvalidWord___init kV_InvalidWord___init dc_InvalidWord___init pm_InvalidWord___init cd_InvalidWord___init ct_InvalidWord___init : Value} {f_InvalidWord___init : Addr}
    {od_TooMany___init an_TooMany___init : Option Addr} {sl_TooMany___init : Array (Option Value)} {oc_TooMany___init kV_TooMany___init dc_TooMany___init pm_TooMany___init cd_TooMany___init ct_TooMany___init : Value} {f_TooMany___init : Addr}
    {od_accepts an_accepts : Option Addr} {sl_accepts : Array (Option Value)} {oc_accepts kV_accepts dc_accepts pm_accepts cd_accepts ct_accepts : Value} {f_accepts : Addr}
    {od_all_got an_all_got : Option Addr} {sl_all_got : Array (Option Value)} {oc_all_got kV_all_got dc_all_got pm_all_got cd_all_got ct_all_got : Value} {f_all_got : Addr}
    {od_bag an_bag : Option Addr} {sl_bag : Array (Option Value)} {oc_bag kV_bag dc_bag pm_bag cd_bag ct_bag : Value} {f_bag : Addr}
    {od_field an_field : Option Addr} {sl_field : Array (Option Value)} {oc_field kV_field dc_field pm_field cd_field ct_field : Value} {f_field : Addr}
    {od_got an_got : Option Addr} {sl_got : Array (Option Value)} {oc_got kV_got dc_got pm_got cd_got ct_got : Value} {f_got : Addr}
    {od_moved an_moved : Option Addr} {sl_moved : Array (Option Value)} {oc_moved kV_moved dc_moved pm_moved cd_moved ct_moved : Value} {f_moved : Addr}
    {od_lnext an_lnext : Option Addr} {sl_lnext : Array (Option Value)} {oc_lnext kV_lnext dc_lnext pm_lnext cd_lnext ct_lnext : Value} {f_lnext : Addr}
    {od_of an_of : Option Addr} {sl_of : Array (Option Value)} {oc_of kV_of dc_of pm_of cd_of ct_of : Value} {f_of : Addr}
    {od_pull an_pull : Option Addr} {sl_pull : Array (Option Value)} {oc_pull kV_pull dc_pull pm_pull cd_pull ct_pull : Value} {f_pull : Addr}
    {od_same an_same : Option Addr} {sl_same : Array (Option Value)} {oc_same kV_same dc_same pm_same cd_same ct_same : Value} {f_same : Addr}
    {od_saying an_saying : Option Addr} {sl_saying : Array (Option Value)} {oc_saying kV_saying dc_saying pm_saying cd_saying ct_saying : Value} {f_saying : Addr}
    {od_signs an_signs : Option Addr} {sl_signs : Array (Option Value)} {oc_signs kV_signs dc_signs pm_signs cd_signs ct_signs : Value} {f_signs : Addr}
    {od_some_signs an_some_signs : Option Addr} {sl_some_signs : Array (Option Value)} {oc_some_signs kV_some_signs dc_some_signs pm_some_signs cd_some_signs ct_some_signs : Value} {f_some_signs : Addr}
    {od_text an_text : Option Addr} {sl_text : Array (Option Value)} {oc_text kV_text dc_text pm_text cd_text ct_text : Value} {f_text : Addr}
    {od_wide_so an_wide_so : Option Addr} {sl_wide_so : Array (Option Value)} {oc_wide_so kV_wide_so dc_wide_so pm_wide_so cd_wide_so ct_wide_so : Value} {f_wide_so : Addr}
    {od_are_letters an_are_letters : Option Addr} {sl_are_letters : Array (Option Value)} {oc_are_letters kV_are_letters dc_are_letters pm_are_letters cd_are_letters ct_are_letters : Value} {f_are_letters : Addr}
    {od_are_refs an_are_refs : Option Addr} {sl_are_refs : Array (Option Value)} {oc_are_refs kV_are_refs dc_are_refs pm_are_refs cd_are_refs ct_are_refs : Value} {f_are_refs : Addr}
    {od_can_stand an_can_stand : Option Addr} {sl_can_stand : Array (Option Value)} {oc_can_stand kV_can_stand dc_can_stand pm_can_stand cd_can_stand ct_can_stand : Value} {f_can_stand : Addr}
    {od_check_lines an_check_lines : Option Addr} {sl_check_lines : Array (Option Value)} {oc_check_lines kV_check_lines dc_check_lines pm_check_lines cd_check_lines ct_check_lines : Value} {f_check_lines : Addr}
    {od_is_alphabet an_is_alphabet : Option Addr} {sl_is_alphabet : Array (Option Value)} {oc_is_alphabet kV_is_alphabet dc_is_alphabet pm_is_alphabet cd_is_alphabet ct_is_alphabet : Value} {f_is_alphabet : Addr}
    {od_is_below an_is_below : Option Addr} {sl_is_below : Array (Option Value)} {oc_is_below kV_is_below dc_is_below pm_is_below cd_is_below ct_is_below : Value} {f_is_below : Addr}
    {od_is_listed an_is_listed : Option Addr} {sl_is_listed : Array (Option Value)} {oc_is_listed kV_is_listed dc_is_listed pm_is_listed cd_is_listed ct_is_listed : Value} {f_is_listed : Addr}
    {od_is_number an_is_number : Option Addr} {sl_is_number : Array (Option Value)} {oc_is_number kV_is_number dc_is_number pm_is_number cd_is_number ct_is_number : Value} {f_is_number : Addr}
    {od_is_prime an_is_prime : Option Addr} {sl_is_prime : Array (Option Value)} {oc_is_prime kV_is_prime dc_is_prime pm_is_prime cd_is_prime ct_is_prime : Value} {f_is_prime : Addr}
    {od_is_word an_is_word : Option Addr} {sl_is_word : Array (Option Value)} {oc_is_word kV_is_word dc_is_word pm_is_word cd_is_word ct_is_word : Value} {f_is_word : Addr}
    {od_last_truths an_last_truths : Option Addr} {sl_last_truths : Array (Option Value)} {oc_last_truths kV_last_truths dc_last_truths pm_last_truths cd_last_truths ct_last_truths : Value} {f_last_truths : Addr}
    {od_law an_law : Option Addr} {sl_law : Array (Option Value)} {oc_law kV_law dc_law pm_law cd_law ct_law : Value} {f_law : Addr}
    {od_moved_line an_moved_line : Option Addr} {sl_moved_line : Array (Option Value)} {oc_moved_line kV_moved_line dc_moved_line pm_moved_line cd_moved_line ct_moved_line : Value} {f_moved_line : Addr}
    {od_next_truths an_next_truths : Option Addr} {sl_next_truths : Array (Option Value)} {oc_next_truths kV_next_truths dc_next_truths pm_next_truths cd_next_truths ct_next_truths : Value} {f_next_truths : Addr}
    {t_MOST_LETTERS : Tok}
    {r_PRIMES : Addr} {ot_PRIMES : Option Addr} {tn_PRIMES : Nat} {sl_PRIMES : Array (Option Value)} {q_PRIMES_0 q_PRIMES_1 q_PRIMES_2 q_PRIMES_3 q_PRIMES_4 q_PRIMES_5 q_PRIMES_6 q_PRIMES_7 q_PRIMES_8 q_PRIMES_9 q_PRIMES_10 q_PRIMES_11 q_PRIMES_12 q_PRIMES_13 q_PRIMES_14 q_PRIMES_15 q_PRIMES_16 q_PRIMES_17 q_PRIMES_18 q_PRIMES_19 q_PRIMES_20 q_PRIMES_21 q_PRIMES_22 q_PRIMES_23 q_PRIMES_24 : Tok}
    {cL PL : Addr} {ocL : Value} {odL : Option Addr} {slL : Array (Option Value)} {vsL : Array Value}
    {cL_wide_so PL_wide_so : Addr} {ocL_wide_so : Value} {odL_wide_so : Option Addr} {slL_wide_so : Array (Option Value)} {vsL_wide_so : Array Value}
    (aC_AheadError : PySem.W.nsIn K mainGlobals "AheadError" = some (some (.ref C_AheadError)))
    (bx_AheadError : PySem.W.subIn K (.ref C_AheadError) (.type "BaseException") = some true)
    (is_AheadError : PySem.W.isClsIn K C_AheadError = true)
    (ty_AheadError : PySem.W.typeIn K (.ref C_AheadError) = some (.type "type"))
    (aC_Missing : PySem.W.nsIn K mainGlobals "Missing" = some (some (.ref C_Missing)))
    (bx_Missing : PySem.W.subIn K (.ref C_Missing) (.type "BaseException") = some true)
    (is_Missing : PySem.W.isClsIn K C_Missing = true)
    (ty_Missing : PySem.W.typeIn K (.ref C_Missing) = some (.type "type"))
    (aC_NothingLeft : PySem.W.nsIn K mainGlobals "NothingLeft" = some (some (.ref C_NothingLeft)))
    (bx_NothingLeft : PySem.W.subIn K (.ref C_NothingLeft) (.type "BaseException") = some true)
    (is_NothingLeft : PySem.W.isClsIn K C_NothingLeft = true)
    (ty_NothingLeft : PySem.W.typeIn K (.ref C_NothingLeft) = some (.type "type"))
    (aC_AlphabetsDiffer : PySem.W.nsIn K mainGlobals "AlphabetsDiffer" = some (some (.ref C_AlphabetsDiffer)))
    (xL_AlphabetsDiffer : K.lookup C_AlphabetsDiffer = some (excClassObj nm_AlphabetsDiffer q_AlphabetsDiffer C_AlphabetsDiffer N_AlphabetsDiffer bs_AlphabetsDiffer [.ref o1_AlphabetsDiffer, .type "ValueError", .type "Exception", .type "BaseException", .type "object"] true sn_AlphabetsDiffer sub_AlphabetsDiffer ab_AlphabetsDiffer col_AlphabetsDiffer dd_AlphabetsDiffer m0_AlphabetsDiffer m1_AlphabetsDiffer m2_AlphabetsDiffer m3_AlphabetsDiffer m5_AlphabetsDiffer "ValueError.__new__"))
    (sa_AlphabetsDiffer : PySem.W.findIn K (.ref C_AlphabetsDiffer) "__setattr__" = some (some (.builtin "object.__setattr__")))
    (ga_AlphabetsDiffer : PySem.W.findIn K (.ref C_AlphabetsDiffer) "__getattribute__" = some (some (.builtin "BaseException.__getattribute__")))
    (gg_AlphabetsDiffer : PySem.W.findIn K (.ref C_AlphabetsDiffer) "__getattr__" = some none)
    (kC_AlphabetsDiffer : PySem.W.keepIn K (.ref C_AlphabetsDiffer) = true)
    (eC_AlphabetsDiffer : PySem.W.subIn K (.ref C_AlphabetsDiffer) (.type "BaseException") = some true)
    (tC_AlphabetsDiffer : PySem.W.typeIn K (.ref C_AlphabetsDiffer) = some (.type "type"))
    (hC_AlphabetsDiffer : PySem.W.hasDictIn K C_AlphabetsDiffer = true)
    (n_AlphabetsDiffer_code : PySem.W.findIn K (.ref C_AlphabetsDiffer) "code" = some none)
    (s_AlphabetsDiffer_AheadError : PySem.W.subIn K (.ref C_AlphabetsDiffer) (.ref C_AheadError) = some true)
    (s_AlphabetsDiffer_Missing : PySem.W.subIn K (.ref C_AlphabetsDiffer) (.ref C_Missing) = some false)
    (s_AlphabetsDiffer_NothingLeft : PySem.W.subIn K (.ref C_AlphabetsDiffer) (.ref C_NothingLeft) = some false)
    (aC_Formula : PySem.W.nsIn K mainGlobals "Formula" = some (some (.ref C_Formula)))
    (pg_Formula : PySem.W.plainGet K C_Formula Str.empty = true)
    (hd_Formula : PySem.W.hasDictIn K C_Formula = true)
    (po_Formula : PySem.W.plainOver K C_Formula = true)
    (sa_Formula : PySem.W.findIn K (.ref C_Formula) "__setattr__" = some (some (.builtin "object.__setattr__")))
    (mk_Formula : PySem.W.makesIn K C_Formula = true)
    (kc_Formula : PySem.W.keepIn K (.ref C_Formula) = true)
    (n_Formula__alphabet : PySem.W.findIn K (.ref C_Formula) "_alphabet" = some none)
    (n_Formula__lines : PySem.W.findIn K (.ref C_Formula) "_lines" = some none)
    (n_Formula__first : PySem.W.findIn K (.ref C_Formula) "_first" = some none)
    (o_Formula_MOST : PySem.W.findIn K (.ref C_Formula) "MOST" = some (some (.int 4000 tk_Formula_MOST)))
    (og_Formula_MOST : PySem.W.specialIn K (.int 4000 tk_Formula_MOST) "__get__" = some none)
    (aC_InvalidAlphabet : PySem.W.nsIn K mainGlobals "InvalidAlphabet" = some (some (.ref C_InvalidAlphabet)))
    (xL_InvalidAlphabet : K.lookup C_InvalidAlphabet = some (excClassObj nm_InvalidAlphabet q_InvalidAlphabet C_InvalidAlphabet N_InvalidAlphabet bs_InvalidAlphabet [.ref o1_InvalidAlphabet, .type "ValueError", .type "Exception", .type "BaseException", .type "object"] true sn_InvalidAlphabet sub_InvalidAlphabet ab_InvalidAlphabet col_InvalidAlphabet dd_InvalidAlphabet m0_InvalidAlphabet m1_InvalidAlphabet m2_InvalidAlphabet m3_InvalidAlphabet m5_InvalidAlphabet "ValueError.__new__"))
    (sa_InvalidAlphabet : PySem.W.findIn K (.ref C_InvalidAlphabet) "__setattr__" = some (some (.builtin "object.__setattr__")))
    (ga_InvalidAlphabet : PySem.W.findIn K (.ref C_InvalidAlphabet) "__getattribute__" = some (some (.builtin "BaseException.__getattribute__")))
    (gg_InvalidAlphabet : PySem.W.findIn K (.ref C_InvalidAlphabet) "__getattr__" = some none)
    (kC_InvalidAlphabet : PySem.W.keepIn K (.ref C_InvalidAlphabet) = true)
    (eC_InvalidAlphabet : PySem.W.subIn K (.ref C_InvalidAlphabet) (.type "BaseException") = some true)
    (tC_InvalidAlphabet : PySem.W.typeIn K (.ref C_InvalidAlphabet) = some (.type "type"))
    (hC_InvalidAlphabet : PySem.W.hasDictIn K C_InvalidAlphabet = true)
    (n_InvalidAlphabet_given : PySem.W.findIn K (.ref C_InvalidAlphabet) "given" = some none)
    (n_InvalidAlphabet_code : PySem.W.findIn K (.ref C_InvalidAlphabet) "code" = some none)
    (s_InvalidAlphabet_AheadError : PySem.W.subIn K (.ref C_InvalidAlphabet) (.ref C_AheadError) = some true)
    (s_InvalidAlphabet_Missing : PySem.W.subIn K (.ref C_InvalidAlphabet) (.ref C_Missing) = some false)
    (s_InvalidAlphabet_NothingLeft : PySem.W.subIn K (.ref C_InvalidAlphabet) (.ref C_NothingLeft) = some false)
    (aC_InvalidLine : PySem.W.nsIn K mainGlobals "InvalidLine" = some (some (.ref C_InvalidLine)))
    (xL_InvalidLine : K.lookup C_InvalidLine = some (excClassObj nm_InvalidLine q_InvalidLine C_InvalidLine N_InvalidLine bs_InvalidLine [.ref o1_InvalidLine, .type "ValueError", .type "Exception", .type "BaseException", .type "object"] true sn_InvalidLine sub_InvalidLine ab_InvalidLine col_InvalidLine dd_InvalidLine m0_InvalidLine m1_InvalidLine m2_InvalidLine m3_InvalidLine m5_InvalidLine "ValueError.__new__"))
    (sa_InvalidLine : PySem.W.findIn K (.ref C_InvalidLine) "__setattr__" = some (some (.builtin "object.__setattr__")))
    (ga_InvalidLine : PySem.W.findIn K (.ref C_InvalidLine) "__getattribute__" = some (some (.builtin "BaseException.__getattribute__")))
    (gg_InvalidLine : PySem.W.findIn K (.ref C_InvalidLine) "__getattr__" = some none)
    (kC_InvalidLine : PySem.W.keepIn K (.ref C_InvalidLine) = true)
    (eC_InvalidLine : PySem.W.subIn K (.ref C_InvalidLine) (.type "BaseException") = some true)
    (tC_InvalidLine : PySem.W.typeIn K (.ref C_InvalidLine) = some (.type "type"))
    (hC_InvalidLine : PySem.W.hasDictIn K C_InvalidLine = true)
    (n_InvalidLine_at : PySem.W.findIn K (.ref C_InvalidLine) "at" = some none)
    (n_InvalidLine_code : PySem.W.findIn K (.ref C_InvalidLine) "code" = some none)
    (s_InvalidLine_AheadError : PySem.W.subIn K (.ref C_InvalidLine) (.ref C_AheadError) = some true)
    (s_InvalidLine_Missing : PySem.W.subIn K (.ref C_InvalidLine) (.ref C_Missing) = some false)
    (s_InvalidLine_NothingLeft : PySem.W.subIn K (.ref C_InvalidLine) (.ref C_NothingLeft) = some false)
    (aC_InvalidWord : PySem.W.nsIn K mainGlobals "InvalidWord" = some (some (.ref C_InvalidWord)))
    (xL_InvalidWord : K.lookup C_InvalidWord = some (excClassObj nm_InvalidWord q_InvalidWord C_InvalidWord N_InvalidWord bs_InvalidWord [.ref o1_InvalidWord, .type "ValueError", .type "Exception", .type "BaseException", .type "object"] true sn_InvalidWord sub_InvalidWord ab_InvalidWord col_InvalidWord dd_InvalidWord m0_InvalidWord m1_InvalidWord m2_InvalidWord m3_InvalidWord m5_InvalidWord "ValueError.__new__"))
    (sa_InvalidWord : PySem.W.findIn K (.ref C_InvalidWord) "__setattr__" = some (some (.builtin "object.__setattr__")))
    (ga_InvalidWord : PySem.W.findIn K (.ref C_InvalidWord) "__getattribute__" = some (some (.builtin "BaseException.__getattribute__")))
    (gg_InvalidWord : PySem.W.findIn K (.ref C_InvalidWord) "__getattr__" = some none)
    (kC_InvalidWord : PySem.W.keepIn K (.ref C_InvalidWord) = true)
    (eC_InvalidWord : PySem.W.subIn K (.ref C_InvalidWord) (.type "BaseException") = some true)
    (tC_InvalidWord : PySem.W.typeIn K (.ref C_InvalidWord) = some (.type "type"))
    (hC_InvalidWord : PySem.W.hasDictIn K C_InvalidWord = true)
    (n_InvalidWord_given : PySem.W.findIn K (.ref C_InvalidWord) "given" = some none)
    (n_InvalidWord_code : PySem.W.findIn K (.ref C_InvalidWord) "code" = some none)
    (s_InvalidWord_AheadError : PySem.W.subIn K (.ref C_InvalidWord) (.ref C_AheadError) = some true)
    (s_InvalidWord_Missing : PySem.W.subIn K (.ref C_InvalidWord) (.ref C_Missing) = some false)
    (s_InvalidWord_NothingLeft : PySem.W.subIn K (.ref C_InvalidWord) (.ref C_NothingLeft) = some false)
    (aC_TooMany : PySem.W.nsIn K mainGlobals "TooMany" = some (some (.ref C_TooMany)))
    (xL_TooMany : K.lookup C_TooMany = some (excClassObj nm_TooMany q_TooMany C_TooMany N_TooMany bs_TooMany [.ref o1_TooMany, .type "ValueError", .type "Exception", .type "BaseException", .type "object"] true sn_TooMany sub_TooMany ab_TooMany col_TooMany dd_TooMany m0_TooMany m1_TooMany m2_TooMany m3_TooMany m5_TooMany "ValueError.__new__"))
    (sa_TooMany : PySem.W.findIn K (.ref C_TooMany) "__setattr__" = some (some (.builtin "object.__setattr__")))
    (ga_TooMany : PySem.W.findIn K (.ref C_TooMany) "__getattribute__" = some (some (.builtin "BaseException.__getattribute__")))
    (gg_TooMany : PySem.W.findIn K (.ref C_TooMany) "__getattr__" = some none)
    (kC_TooMany : PySem.W.keepIn K (.ref C_TooMany) = true)
    (eC_TooMany : PySem.W.subIn K (.ref C_TooMany) (.type "BaseException") = some true)
    (tC_TooMany : PySem.W.typeIn K (.ref C_TooMany) = some (.type "type"))
    (hC_TooMany : PySem.W.hasDictIn K C_TooMany = true)
    (n_TooMany_subject : PySem.W.findIn K (.ref C_TooMany) "subject" = some none)
    (n_TooMany_most : PySem.W.findIn K (.ref C_TooMany) "most" = some none)
    (n_TooMany_code : PySem.W.findIn K (.ref C_TooMany) "code" = some none)
    (s_TooMany_AheadError : PySem.W.subIn K (.ref C_TooMany) (.ref C_AheadError) = some true)
    (s_TooMany_Missing : PySem.W.subIn K (.ref C_TooMany) (.ref C_Missing) = some false)
    (s_TooMany_NothingLeft : PySem.W.subIn K (.ref C_TooMany) (.ref C_NothingLeft) = some false)
    (sf_Formula : PySem.W.selfFirst K C_Formula = true)
    (ia_Formula : PySem.W.findIn K (.ref C_Formula) "__class__" = some (some (.builtin "object.__class__")))
    (ib_Formula : PySem.W.specialIn K (.builtin "object.__class__") "__get__" = some (some (.builtin "getset_descriptor.__get__")))
    (ic_Formula : PySem.W.takesIn K (.builtin "object.__class__") = some true)
    (id_Formula : PySem.W.mroIn K C_Formula (.type "object") = some true)
    (ie_Formula : PySem.W.isClsIn K C_Formula = true)
    (if_Formula : PySem.W.typeIn K (.ref C_Formula) = some (.type "type"))
    (il_Formula : PySem.W.subIn K (.type "list") (.ref C_Formula) = some false)
    (a_AlphabetsDiffer___init : PySem.W.findIn K (.ref C_AlphabetsDiffer) "__init__" = some (some (.ref f_AlphabetsDiffer___init)))
    (t_AlphabetsDiffer___init : PySem.W.typeIn K (.ref f_AlphabetsDiffer___init) = some (.type "function"))
    (l_AlphabetsDiffer___init : K.lookup f_AlphabetsDiffer___init = some ⟨oc_AlphabetsDiffer___init, od_AlphabetsDiffer___init, .func (PySem.W.fnOf "__init__" "AlphabetsDiffer.__init__" (defArgs s_AlphabetsDiffer___init) (defBody s_AlphabetsDiffer___init) (defScope s_AlphabetsDiffer___init) .none kV_AlphabetsDiffer___init dc_AlphabetsDiffer___init pm_AlphabetsDiffer___init an_AlphabetsDiffer___init cd_AlphabetsDiffer___init ct_AlphabetsDiffer___init), sl_AlphabetsDiffer___init⟩) (c_AlphabetsDiffer___init : PySem.W.codeIn K cd_AlphabetsDiffer___init "AlphabetsDiffer.__init__" = true) (k_AlphabetsDiffer___init : PySem.W.keepIn K (.ref f_AlphabetsDiffer___init) = true)
    (a_Formula___and : PySem.W.findIn K (.ref C_Formula) "__and__" = some (some (.ref f_Formula___and)))
    (i_Formula___and : PySem.W.isFn K (.ref f_Formula___and) = true)
    (l_Formula___and : K.lookup f_Formula___and = some ⟨oc_Formula___and, od_Formula___and, .func (PySem.W.fnOf "__and__" "Formula.__and__" (defArgs s_Formula___and) (defBody s_Formula___and) (defScope s_Formula___and) .none kV_Formula___and dc_Formula___and pm_Formula___and an_Formula___and cd_Formula___and ct_Formula___and), sl_Formula___and⟩) (c_Formula___and : PySem.W.codeIn K cd_Formula___and "Formula.__and__" = true) (k_Formula___and : PySem.W.keepIn K (.ref f_Formula___and) = true)
    (a_Formula___contains : PySem.W.findIn K (.ref C_Formula) "__contains__" = some (some (.ref f_Formula___contains)))
    (i_Formula___contains : PySem.W.isFn K (.ref f_Formula___contains) = true)
    (l_Formula___contains : K.lookup f_Formula___contains = some ⟨oc_Formula___contains, od_Formula___contains, .func (PySem.W.fnOf "__contains__" "Formula.__contains__" (defArgs s_Formula___contains) (defBody s_Formula___contains) (defScope s_Formula___contains) .none kV_Formula___contains dc_Formula___contains pm_Formula___contains an_Formula___contains cd_Formula___contains ct_Formula___contains), sl_Formula___contains⟩) (c_Formula___contains : PySem.W.codeIn K cd_Formula___contains "Formula.__contains__" = true) (k_Formula___contains : PySem.W.keepIn K (.ref f_Formula___contains) = true)
    (a_Formula___eq : PySem.W.findIn K (.ref C_Formula) "__eq__" = some (some (.ref f_Formula___eq)))
    (i_Formula___eq : PySem.W.isFn K (.ref f_Formula___eq) = true)
    (l_Formula___eq : K.lookup f_Formula___eq = some ⟨oc_Formula___eq, od_Formula___eq, .func (PySem.W.fnOf "__eq__" "Formula.__eq__" (defArgs s_Formula___eq) (defBody s_Formula___eq) (defScope s_Formula___eq) .none kV_Formula___eq dc_Formula___eq pm_Formula___eq an_Formula___eq cd_Formula___eq ct_Formula___eq), sl_Formula___eq⟩) (c_Formula___eq : PySem.W.codeIn K cd_Formula___eq "Formula.__eq__" = true) (k_Formula___eq : PySem.W.keepIn K (.ref f_Formula___eq) = true)
    (a_Formula___init : PySem.W.findIn K (.ref C_Formula) "__init__" = some (some (.ref f_Formula___init)))
    (i_Formula___init : PySem.W.isFn K (.ref f_Formula___init) = true)
    (l_Formula___init : K.lookup f_Formula___init = some ⟨oc_Formula___init, od_Formula___init, .func (PySem.W.fnOf "__init__" "Formula.__init__" (defArgs s_Formula___init) (defBody s_Formula___init) (defScope s_Formula___init) .none kV_Formula___init dc_Formula___init pm_Formula___init an_Formula___init cd_Formula___init ct_Formula___init), sl_Formula___init⟩) (c_Formula___init : PySem.W.codeIn K cd_Formula___init "Formula.__init__" = true) (k_Formula___init : PySem.W.keepIn K (.ref f_Formula___init) = true)
    (kd_Formula___init : kV_Formula___init = .ref KD_Formula___init)
    (kn_Formula___init_first : PySem.W.nsIn K KD_Formula___init "first" = some (some (.bool false)))
    (a_Formula___len : PySem.W.findIn K (.ref C_Formula) "__len__" = some (some (.ref f_Formula___len)))
    (i_Formula___len : PySem.W.isFn K (.ref f_Formula___len) = true)
    (l_Formula___len : K.lookup f_Formula___len = some ⟨oc_Formula___len, od_Formula___len, .func (PySem.W.fnOf "__len__" "Formula.__len__" (defArgs s_Formula___len) (defBody s_Formula___len) (defScope s_Formula___len) .none kV_Formula___len dc_Formula___len pm_Formula___len an_Formula___len cd_Formula___len ct_Formula___len), sl_Formula___len⟩) (c_Formula___len : PySem.W.codeIn K cd_Formula___len "Formula.__len__" = true) (k_Formula___len : PySem.W.keepIn K (.ref f_Formula___len) = true)
    (a_Formula___neg : PySem.W.findIn K (.ref C_Formula) "__neg__" = some (some (.ref f_Formula___neg)))
    (i_Formula___neg : PySem.W.isFn K (.ref f_Formula___neg) = true)
    (l_Formula___neg : K.lookup f_Formula___neg = some ⟨oc_Formula___neg, od_Formula___neg, .func (PySem.W.fnOf "__neg__" "Formula.__neg__" (defArgs s_Formula___neg) (defBody s_Formula___neg) (defScope s_Formula___neg) .none kV_Formula___neg dc_Formula___neg pm_Formula___neg an_Formula___neg cd_Formula___neg ct_Formula___neg), sl_Formula___neg⟩) (c_Formula___neg : PySem.W.codeIn K cd_Formula___neg "Formula.__neg__" = true) (k_Formula___neg : PySem.W.keepIn K (.ref f_Formula___neg) = true)
    (a_Formula___or : PySem.W.findIn K (.ref C_Formula) "__or__" = some (some (.ref f_Formula___or)))
    (i_Formula___or : PySem.W.isFn K (.ref f_Formula___or) = true)
    (l_Formula___or : K.lookup f_Formula___or = some ⟨oc_Formula___or, od_Formula___or, .func (PySem.W.fnOf "__or__" "Formula.__or__" (defArgs s_Formula___or) (defBody s_Formula___or) (defScope s_Formula___or) .none kV_Formula___or dc_Formula___or pm_Formula___or an_Formula___or cd_Formula___or ct_Formula___or), sl_Formula___or⟩) (c_Formula___or : PySem.W.codeIn K cd_Formula___or "Formula.__or__" = true) (k_Formula___or : PySem.W.keepIn K (.ref f_Formula___or) = true)
    (a_Formula___repr : PySem.W.findIn K (.ref C_Formula) "__repr__" = some (some (.ref f_Formula___repr)))
    (i_Formula___repr : PySem.W.isFn K (.ref f_Formula___repr) = true)
    (l_Formula___repr : K.lookup f_Formula___repr = some ⟨oc_Formula___repr, od_Formula___repr, .func (PySem.W.fnOf "__repr__" "Formula.__repr__" (defArgs s_Formula___repr) (defBody s_Formula___repr) (defScope s_Formula___repr) .none kV_Formula___repr dc_Formula___repr pm_Formula___repr an_Formula___repr cd_Formula___repr ct_Formula___repr), sl_Formula___repr⟩) (c_Formula___repr : PySem.W.codeIn K cd_Formula___repr "Formula.__repr__" = true) (k_Formula___repr : PySem.W.keepIn K (.ref f_Formula___repr) = true)
    (a_Formula__both_lines : PySem.W.findIn K (.ref C_Formula) "_both_lines" = some (some (.ref f_Formula__both_lines)))
    (i_Formula__both_lines : PySem.W.isFn K (.ref f_Formula__both_lines) = true)
    (l_Formula__both_lines : K.lookup f_Formula__both_lines = some ⟨oc_Formula__both_lines, od_Formula__both_lines, .func (PySem.W.fnOf "_both_lines" "Formula._both_lines" (defArgs s_Formula__both_lines) (defBody s_Formula__both_lines) (defScope s_Formula__both_lines) .none kV_Formula__both_lines dc_Formula__both_lines pm_Formula__both_lines an_Formula__both_lines cd_Formula__both_lines ct_Formula__both_lines), sl_Formula__both_lines⟩) (c_Formula__both_lines : PySem.W.codeIn K cd_Formula__both_lines "Formula._both_lines" = true) (k_Formula__both_lines : PySem.W.keepIn K (.ref f_Formula__both_lines) = true)
    (a_Formula_alphabet : PySem.W.findIn K (.ref C_Formula) "alphabet" = some (some (.ref pp_Formula_alphabet))) (qg_Formula_alphabet : PySem.W.specialIn K (.ref pp_Formula_alphabet) "__get__" = some (some (.builtin "property.__get__"))) (qt_Formula_alphabet : PySem.W.takesIn K (.ref pp_Formula_alphabet) = some true) (qr_Formula_alphabet : PySem.W.recIn K pp_Formula_alphabet "property" = some (.ref f_Formula_alphabet :: pr_Formula_alphabet))
    (l_Formula_alphabet : K.lookup f_Formula_alphabet = some ⟨oc_Formula_alphabet, od_Formula_alphabet, .func (PySem.W.fnOf "alphabet" "Formula.alphabet" (defArgs s_Formula_alphabet) (defBody s_Formula_alphabet) (defScope s_Formula_alphabet) .none kV_Formula_alphabet dc_Formula_alphabet pm_Formula_alphabet an_Formula_alphabet cd_Formula_alphabet ct_Formula_alphabet), sl_Formula_alphabet⟩) (c_Formula_alphabet : PySem.W.codeIn K cd_Formula_alphabet "Formula.alphabet" = true) (k_Formula_alphabet : PySem.W.keepIn K (.ref f_Formula_alphabet) = true)
    (a_Formula_first : PySem.W.findIn K (.ref C_Formula) "first" = some (some (.ref pp_Formula_first))) (qg_Formula_first : PySem.W.specialIn K (.ref pp_Formula_first) "__get__" = some (some (.builtin "property.__get__"))) (qt_Formula_first : PySem.W.takesIn K (.ref pp_Formula_first) = some true) (qr_Formula_first : PySem.W.recIn K pp_Formula_first "property" = some (.ref f_Formula_first :: pr_Formula_first))
    (l_Formula_first : K.lookup f_Formula_first = some ⟨oc_Formula_first, od_Formula_first, .func (PySem.W.fnOf "first" "Formula.first" (defArgs s_Formula_first) (defBody s_Formula_first) (defScope s_Formula_first) .none kV_Formula_first dc_Formula_first pm_Formula_first an_Formula_first cd_Formula_first ct_Formula_first), sl_Formula_first⟩) (c_Formula_first : PySem.W.codeIn K cd_Formula_first "Formula.first" = true) (k_Formula_first : PySem.W.keepIn K (.ref f_Formula_first) = true)
    (a_Formula_lines : PySem.W.findIn K (.ref C_Formula) "lines" = some (some (.ref f_Formula_lines)))
    (i_Formula_lines : PySem.W.isFn K (.ref f_Formula_lines) = true)
    (l_Formula_lines : K.lookup f_Formula_lines = some ⟨oc_Formula_lines, od_Formula_lines, .func (PySem.W.fnOf "lines" "Formula.lines" (defArgs s_Formula_lines) (defBody s_Formula_lines) (defScope s_Formula_lines) .none kV_Formula_lines dc_Formula_lines pm_Formula_lines an_Formula_lines cd_Formula_lines ct_Formula_lines), sl_Formula_lines⟩) (c_Formula_lines : PySem.W.codeIn K cd_Formula_lines "Formula.lines" = true) (k_Formula_lines : PySem.W.keepIn K (.ref f_Formula_lines) = true)
    (a_Formula_truths : PySem.W.findIn K (.ref C_Formula) "truths" = some (some (.ref f_Formula_truths)))
    (i_Formula_truths : PySem.W.isFn K (.ref f_Formula_truths) = true)
    (l_Formula_truths : K.lookup f_Formula_truths = some ⟨oc_Formula_truths, od_Formula_truths, .func (PySem.W.fnOf "truths" "Formula.truths" (defArgs s_Formula_truths) (defBody s_Formula_truths) (defScope s_Formula_truths) .none kV_Formula_truths dc_Formula_truths pm_Formula_truths an_Formula_truths cd_Formula_truths ct_Formula_truths), sl_Formula_truths⟩) (c_Formula_truths : PySem.W.codeIn K cd_Formula_truths "Formula.truths" = true) (k_Formula_truths : PySem.W.keepIn K (.ref f_Formula_truths) = true)
    (a_InvalidAlphabet___init : PySem.W.findIn K (.ref C_InvalidAlphabet) "__init__" = some (some (.ref f_InvalidAlphabet___init)))
    (t_InvalidAlphabet___init : PySem.W.typeIn K (.ref f_InvalidAlphabet___init) = some (.type "function"))
    (l_InvalidAlphabet___init : K.lookup f_InvalidAlphabet___init = some ⟨oc_InvalidAlphabet___init, od_InvalidAlphabet___init, .func (PySem.W.fnOf "__init__" "InvalidAlphabet.__init__" (defArgs s_InvalidAlphabet___init) (defBody s_InvalidAlphabet___init) (defScope s_InvalidAlphabet___init) .none kV_InvalidAlphabet___init dc_InvalidAlphabet___init pm_InvalidAlphabet___init an_InvalidAlphabet___init cd_InvalidAlphabet___init ct_InvalidAlphabet___init), sl_InvalidAlphabet___init⟩) (c_InvalidAlphabet___init : PySem.W.codeIn K cd_InvalidAlphabet___init "InvalidAlphabet.__init__" = true) (k_InvalidAlphabet___init : PySem.W.keepIn K (.ref f_InvalidAlphabet___init) = true)
    (a_InvalidLine___init : PySem.W.findIn K (.ref C_InvalidLine) "__init__" = some (some (.ref f_InvalidLine___init)))
    (t_InvalidLine___init : PySem.W.typeIn K (.ref f_InvalidLine___init) = some (.type "function"))
    (l_InvalidLine___init : K.lookup f_InvalidLine___init = some ⟨oc_InvalidLine___init, od_InvalidLine___init, .func (PySem.W.fnOf "__init__" "InvalidLine.__init__" (defArgs s_InvalidLine___init) (defBody s_InvalidLine___init) (defScope s_InvalidLine___init) .none kV_InvalidLine___init dc_InvalidLine___init pm_InvalidLine___init an_InvalidLine___init cd_InvalidLine___init ct_InvalidLine___init), sl_InvalidLine___init⟩) (c_InvalidLine___init : PySem.W.codeIn K cd_InvalidLine___init "InvalidLine.__init__" = true) (k_InvalidLine___init : PySem.W.keepIn K (.ref f_InvalidLine___init) = true)
    (a_InvalidWord___init : PySem.W.findIn K (.ref C_InvalidWord) "__init__" = some (some (.ref f_InvalidWord___init)))
    (t_InvalidWord___init : PySem.W.typeIn K (.ref f_InvalidWord___init) = some (.type "function"))
    (l_InvalidWord___init : K.lookup f_InvalidWord___init = some ⟨oc_InvalidWord___init, od_InvalidWord___init, .func (PySem.W.fnOf "__init__" "InvalidWord.__init__" (defArgs s_InvalidWord___init) (defBody s_InvalidWord___init) (defScope s_InvalidWord___init) .none kV_InvalidWord___init dc_InvalidWord___init pm_InvalidWord___init an_InvalidWord___init cd_InvalidWord___init ct_InvalidWord___init), sl_InvalidWord___init⟩) (c_InvalidWord___init : PySem.W.codeIn K cd_InvalidWord___init "InvalidWord.__init__" = true) (k_InvalidWord___init : PySem.W.keepIn K (.ref f_InvalidWord___init) = true)
    (a_TooMany___init : PySem.W.findIn K (.ref C_TooMany) "__init__" = some (some (.ref f_TooMany___init)))
    (t_TooMany___init : PySem.W.typeIn K (.ref f_TooMany___init) = some (.type "function"))
    (l_TooMany___init : K.lookup f_TooMany___init = some ⟨oc_TooMany___init, od_TooMany___init, .func (PySem.W.fnOf "__init__" "TooMany.__init__" (defArgs s_TooMany___init) (defBody s_TooMany___init) (defScope s_TooMany___init) .none kV_TooMany___init dc_TooMany___init pm_TooMany___init an_TooMany___init cd_TooMany___init ct_TooMany___init), sl_TooMany___init⟩) (c_TooMany___init : PySem.W.codeIn K cd_TooMany___init "TooMany.__init__" = true) (k_TooMany___init : PySem.W.keepIn K (.ref f_TooMany___init) = true)
    (a_accepts : PySem.W.nsIn K mainGlobals "_law_accepts" = some (some (.ref f_accepts)))
    (l_accepts : K.lookup f_accepts = some ⟨oc_accepts, od_accepts, .func (PySem.W.fnOf "_law_accepts" "_law_accepts" (defArgs s_accepts) (defBody s_accepts) (defScope s_accepts) .none kV_accepts dc_accepts pm_accepts an_accepts cd_accepts ct_accepts), sl_accepts⟩) (c_accepts : PySem.W.codeIn K cd_accepts "_law_accepts" = true) (k_accepts : PySem.W.keepIn K (.ref f_accepts) = true)
    (a_all_got : PySem.W.nsIn K mainGlobals "_law_all_got" = some (some (.ref f_all_got)))
    (l_all_got : K.lookup f_all_got = some ⟨oc_all_got, od_all_got, .func (PySem.W.fnOf "_law_all_got" "_law_all_got" (defArgs s_all_got) (defBody s_all_got) (defScope s_all_got) .none kV_all_got dc_all_got pm_all_got an_all_got cd_all_got ct_all_got), sl_all_got⟩) (c_all_got : PySem.W.codeIn K cd_all_got "_law_all_got" = true) (k_all_got : PySem.W.keepIn K (.ref f_all_got) = true)
    (a_bag : PySem.W.nsIn K mainGlobals "_law_bag" = some (some (.ref f_bag)))
    (l_bag : K.lookup f_bag = some ⟨oc_bag, od_bag, .func (PySem.W.fnOf "_law_bag" "_law_bag" (defArgs s_bag) (defBody s_bag) (defScope s_bag) .none kV_bag dc_bag pm_bag an_bag cd_bag ct_bag), sl_bag⟩) (c_bag : PySem.W.codeIn K cd_bag "_law_bag" = true) (k_bag : PySem.W.keepIn K (.ref f_bag) = true)
    (a_field : PySem.W.nsIn K mainGlobals "_law_field" = some (some (.ref f_field)))
    (l_field : K.lookup f_field = some ⟨oc_field, od_field, .func (PySem.W.fnOf "_law_field" "_law_field" (defArgs s_field) (defBody s_field) (defScope s_field) .none kV_field dc_field pm_field an_field cd_field ct_field), sl_field⟩) (c_field : PySem.W.codeIn K cd_field "_law_field" = true) (k_field : PySem.W.keepIn K (.ref f_field) = true)
    (a_got : PySem.W.nsIn K mainGlobals "_law_got" = some (some (.ref f_got)))
    (l_got : K.lookup f_got = some ⟨oc_got, od_got, .func (PySem.W.fnOf "_law_got" "_law_got" (defArgs s_got) (defBody s_got) (defScope s_got) .none kV_got dc_got pm_got an_got cd_got ct_got), sl_got⟩) (c_got : PySem.W.codeIn K cd_got "_law_got" = true) (k_got : PySem.W.keepIn K (.ref f_got) = true)
    (a_moved : PySem.W.nsIn K mainGlobals "_law_moved" = some (some (.ref f_moved)))
    (l_moved : K.lookup f_moved = some ⟨oc_moved, od_moved, .func (PySem.W.fnOf "_law_moved" "_law_moved" (defArgs s_moved) (defBody s_moved) (defScope s_moved) .none kV_moved dc_moved pm_moved an_moved cd_moved ct_moved), sl_moved⟩) (c_moved : PySem.W.codeIn K cd_moved "_law_moved" = true) (k_moved : PySem.W.keepIn K (.ref f_moved) = true)
    (a_lnext : PySem.W.nsIn K mainGlobals "_law_next_truths" = some (some (.ref f_lnext)))
    (l_lnext : K.lookup f_lnext = some ⟨oc_lnext, od_lnext, .func (PySem.W.fnOf "_law_next_truths" "_law_next_truths" (defArgs s_lnext) (defBody s_lnext) (defScope s_lnext) .none kV_lnext dc_lnext pm_lnext an_lnext cd_lnext ct_lnext), sl_lnext⟩) (c_lnext : PySem.W.codeIn K cd_lnext "_law_next_truths" = true) (k_lnext : PySem.W.keepIn K (.ref f_lnext) = true)
    (a_of : PySem.W.nsIn K mainGlobals "_law_of" = some (some (.ref f_of)))
    (l_of : K.lookup f_of = some ⟨oc_of, od_of, .func (PySem.W.fnOf "_law_of" "_law_of" (defArgs s_of) (defBody s_of) (defScope s_of) .none kV_of dc_of pm_of an_of cd_of ct_of), sl_of⟩) (c_of : PySem.W.codeIn K cd_of "_law_of" = true) (k_of : PySem.W.keepIn K (.ref f_of) = true)
    (a_pull : PySem.W.nsIn K mainGlobals "_law_pull" = some (some (.ref f_pull)))
    (l_pull : K.lookup f_pull = some ⟨oc_pull, od_pull, .func (PySem.W.fnOf "_law_pull" "_law_pull" (defArgs s_pull) (defBody s_pull) (defScope s_pull) .none kV_pull dc_pull pm_pull an_pull cd_pull ct_pull), sl_pull⟩) (c_pull : PySem.W.codeIn K cd_pull "_law_pull" = true) (k_pull : PySem.W.keepIn K (.ref f_pull) = true)
    (a_same : PySem.W.nsIn K mainGlobals "_law_same" = some (some (.ref f_same)))
    (l_same : K.lookup f_same = some ⟨oc_same, od_same, .func (PySem.W.fnOf "_law_same" "_law_same" (defArgs s_same) (defBody s_same) (defScope s_same) .none kV_same dc_same pm_same an_same cd_same ct_same), sl_same⟩) (c_same : PySem.W.codeIn K cd_same "_law_same" = true) (k_same : PySem.W.keepIn K (.ref f_same) = true)
    (a_saying : PySem.W.nsIn K mainGlobals "_law_saying" = some (some (.ref f_saying)))
    (l_saying : K.lookup f_saying = some ⟨oc_saying, od_saying, .func (PySem.W.fnOf "_law_saying" "_law_saying" (defArgs s_saying) (defBody s_saying) (defScope s_saying) .none kV_saying dc_saying pm_saying an_saying cd_saying ct_saying), sl_saying⟩) (c_saying : PySem.W.codeIn K cd_saying "_law_saying" = true) (k_saying : PySem.W.keepIn K (.ref f_saying) = true)
    (a_signs : PySem.W.nsIn K mainGlobals "_law_signs" = some (some (.ref f_signs)))
    (l_signs : K.lookup f_signs = some ⟨oc_signs, od_signs, .func (PySem.W.fnOf "_law_signs" "_law_signs" (defArgs s_signs) (defBody s_signs) (defScope s_signs) .none kV_signs dc_signs pm_signs an_signs cd_signs ct_signs), sl_signs⟩) (c_signs : PySem.W.codeIn K cd_signs "_law_signs" = true) (k_signs : PySem.W.keepIn K (.ref f_signs) = true)
    (a_some_signs : PySem.W.nsIn K mainGlobals "_law_some_signs" = some (some (.ref f_some_signs)))
    (l_some_signs : K.lookup f_some_signs = some ⟨oc_some_signs, od_some_signs, .func (PySem.W.fnOf "_law_some_signs" "_law_some_signs" (defArgs s_some_signs) (defBody s_some_signs) (defScope s_some_signs) .none kV_some_signs dc_some_signs pm_some_signs an_some_signs cd_some_signs ct_some_signs), sl_some_signs⟩) (c_some_signs : PySem.W.codeIn K cd_some_signs "_law_some_signs" = true) (k_some_signs : PySem.W.keepIn K (.ref f_some_signs) = true)
    (a_text : PySem.W.nsIn K mainGlobals "_law_text" = some (some (.ref f_text)))
    (l_text : K.lookup f_text = some ⟨oc_text, od_text, .func (PySem.W.fnOf "_law_text" "_law_text" (defArgs s_text) (defBody s_text) (defScope s_text) .none kV_text dc_text pm_text an_text cd_text ct_text), sl_text⟩) (c_text : PySem.W.codeIn K cd_text "_law_text" = true) (k_text : PySem.W.keepIn K (.ref f_text) = true)
    (a_wide_so : PySem.W.nsIn K mainGlobals "_law_wide_so" = some (some (.ref f_wide_so)))
    (l_wide_so : K.lookup f_wide_so = some ⟨oc_wide_so, od_wide_so, .func (PySem.W.fnOf "_law_wide_so" "_law_wide_so" (defArgs s_wide_so) (defBody s_wide_so) (defScope s_wide_so) .none kV_wide_so dc_wide_so pm_wide_so an_wide_so cd_wide_so ct_wide_so), sl_wide_so⟩) (c_wide_so : PySem.W.codeIn K cd_wide_so "_law_wide_so" = true) (k_wide_so : PySem.W.keepIn K (.ref f_wide_so) = true)
    (a_are_letters : PySem.W.nsIn K mainGlobals "are_letters" = some (some (.ref f_are_letters)))
    (l_are_letters : K.lookup f_are_letters = some ⟨oc_are_letters, od_are_letters, .func (PySem.W.fnOf "are_letters" "are_letters" (defArgs s_are_letters) (defBody s_are_letters) (defScope s_are_letters) .none kV_are_letters dc_are_letters pm_are_letters an_are_letters cd_are_letters ct_are_letters), sl_are_letters⟩) (c_are_letters : PySem.W.codeIn K cd_are_letters "are_letters" = true) (k_are_letters : PySem.W.keepIn K (.ref f_are_letters) = true)
    (a_are_refs : PySem.W.nsIn K mainGlobals "are_refs" = some (some (.ref f_are_refs)))
    (l_are_refs : K.lookup f_are_refs = some ⟨oc_are_refs, od_are_refs, .func (PySem.W.fnOf "are_refs" "are_refs" (defArgs s_are_refs) (defBody s_are_refs) (defScope s_are_refs) .none kV_are_refs dc_are_refs pm_are_refs an_are_refs cd_are_refs ct_are_refs), sl_are_refs⟩) (c_are_refs : PySem.W.codeIn K cd_are_refs "are_refs" = true) (k_are_refs : PySem.W.keepIn K (.ref f_are_refs) = true)
    (a_can_stand : PySem.W.nsIn K mainGlobals "can_stand" = some (some (.ref f_can_stand)))
    (l_can_stand : K.lookup f_can_stand = some ⟨oc_can_stand, od_can_stand, .func (PySem.W.fnOf "can_stand" "can_stand" (defArgs s_can_stand) (defBody s_can_stand) (defScope s_can_stand) .none kV_can_stand dc_can_stand pm_can_stand an_can_stand cd_can_stand ct_can_stand), sl_can_stand⟩) (c_can_stand : PySem.W.codeIn K cd_can_stand "can_stand" = true) (k_can_stand : PySem.W.keepIn K (.ref f_can_stand) = true)
    (a_check_lines : PySem.W.nsIn K mainGlobals "check_lines" = some (some (.ref f_check_lines)))
    (l_check_lines : K.lookup f_check_lines = some ⟨oc_check_lines, od_check_lines, .func (PySem.W.fnOf "check_lines" "check_lines" (defArgs s_check_lines) (defBody s_check_lines) (defScope s_check_lines) .none kV_check_lines dc_check_lines pm_check_lines an_check_lines cd_check_lines ct_check_lines), sl_check_lines⟩) (c_check_lines : PySem.W.codeIn K cd_check_lines "check_lines" = true) (k_check_lines : PySem.W.keepIn K (.ref f_check_lines) = true)
    (a_is_alphabet : PySem.W.nsIn K mainGlobals "is_alphabet" = some (some (.ref f_is_alphabet)))
    (l_is_alphabet : K.lookup f_is_alphabet = some ⟨oc_is_alphabet, od_is_alphabet, .func (PySem.W.fnOf "is_alphabet" "is_alphabet" (defArgs s_is_alphabet) (defBody s_is_alphabet) (defScope s_is_alphabet) .none kV_is_alphabet dc_is_alphabet pm_is_alphabet an_is_alphabet cd_is_alphabet ct_is_alphabet), sl_is_alphabet⟩) (c_is_alphabet : PySem.W.codeIn K cd_is_alphabet "is_alphabet" = true) (k_is_alphabet : PySem.W.keepIn K (.ref f_is_alphabet) = true)
    (a_is_below : PySem.W.nsIn K mainGlobals "is_below" = some (some (.ref f_is_below)))
    (l_is_below : K.lookup f_is_below = some ⟨oc_is_below, od_is_below, .func (PySem.W.fnOf "is_below" "is_below" (defArgs s_is_below) (defBody s_is_below) (defScope s_is_below) .none kV_is_below dc_is_below pm_is_below an_is_below cd_is_below ct_is_below), sl_is_below⟩) (c_is_below : PySem.W.codeIn K cd_is_below "is_below" = true) (k_is_below : PySem.W.keepIn K (.ref f_is_below) = true)
    (a_is_listed : PySem.W.nsIn K mainGlobals "is_listed" = some (some (.ref f_is_listed)))
    (l_is_listed : K.lookup f_is_listed = some ⟨oc_is_listed, od_is_listed, .func (PySem.W.fnOf "is_listed" "is_listed" (defArgs s_is_listed) (defBody s_is_listed) (defScope s_is_listed) .none kV_is_listed dc_is_listed pm_is_listed an_is_listed cd_is_listed ct_is_listed), sl_is_listed⟩) (c_is_listed : PySem.W.codeIn K cd_is_listed "is_listed" = true) (k_is_listed : PySem.W.keepIn K (.ref f_is_listed) = true)
    (a_is_number : PySem.W.nsIn K mainGlobals "is_number" = some (some (.ref f_is_number)))
    (l_is_number : K.lookup f_is_number = some ⟨oc_is_number, od_is_number, .func (PySem.W.fnOf "is_number" "is_number" (defArgs s_is_number) (defBody s_is_number) (defScope s_is_number) .none kV_is_number dc_is_number pm_is_number an_is_number cd_is_number ct_is_number), sl_is_number⟩) (c_is_number : PySem.W.codeIn K cd_is_number "is_number" = true) (k_is_number : PySem.W.keepIn K (.ref f_is_number) = true)
    (a_is_prime : PySem.W.nsIn K mainGlobals "is_prime" = some (some (.ref f_is_prime)))
    (l_is_prime : K.lookup f_is_prime = some ⟨oc_is_prime, od_is_prime, .func (PySem.W.fnOf "is_prime" "is_prime" (defArgs s_is_prime) (defBody s_is_prime) (defScope s_is_prime) .none kV_is_prime dc_is_prime pm_is_prime an_is_prime cd_is_prime ct_is_prime), sl_is_prime⟩) (c_is_prime : PySem.W.codeIn K cd_is_prime "is_prime" = true) (k_is_prime : PySem.W.keepIn K (.ref f_is_prime) = true)
    (a_is_word : PySem.W.nsIn K mainGlobals "is_word" = some (some (.ref f_is_word)))
    (l_is_word : K.lookup f_is_word = some ⟨oc_is_word, od_is_word, .func (PySem.W.fnOf "is_word" "is_word" (defArgs s_is_word) (defBody s_is_word) (defScope s_is_word) .none kV_is_word dc_is_word pm_is_word an_is_word cd_is_word ct_is_word), sl_is_word⟩) (c_is_word : PySem.W.codeIn K cd_is_word "is_word" = true) (k_is_word : PySem.W.keepIn K (.ref f_is_word) = true)
    (a_last_truths : PySem.W.nsIn K mainGlobals "last_truths" = some (some (.ref f_last_truths)))
    (l_last_truths : K.lookup f_last_truths = some ⟨oc_last_truths, od_last_truths, .func (PySem.W.fnOf "last_truths" "last_truths" (defArgs s_last_truths) (defBody s_last_truths) (defScope s_last_truths) .none kV_last_truths dc_last_truths pm_last_truths an_last_truths cd_last_truths ct_last_truths), sl_last_truths⟩) (c_last_truths : PySem.W.codeIn K cd_last_truths "last_truths" = true) (k_last_truths : PySem.W.keepIn K (.ref f_last_truths) = true)
    (a_law : PySem.W.nsIn K mainGlobals "law" = some (some (.ref f_law)))
    (l_law : K.lookup f_law = some ⟨oc_law, od_law, .func (PySem.W.fnOf "law" "law" (defArgs s_law) (defBody s_law) (defScope s_law) .none kV_law dc_law pm_law an_law cd_law ct_law), sl_law⟩) (c_law : PySem.W.codeIn K cd_law "law" = true) (k_law : PySem.W.keepIn K (.ref f_law) = true)
    (a_moved_line : PySem.W.nsIn K mainGlobals "moved_line" = some (some (.ref f_moved_line)))
    (l_moved_line : K.lookup f_moved_line = some ⟨oc_moved_line, od_moved_line, .func (PySem.W.fnOf "moved_line" "moved_line" (defArgs s_moved_line) (defBody s_moved_line) (defScope s_moved_line) .none kV_moved_line dc_moved_line pm_moved_line an_moved_line cd_moved_line ct_moved_line), sl_moved_line⟩) (c_moved_line : PySem.W.codeIn K cd_moved_line "moved_line" = true) (k_moved_line : PySem.W.keepIn K (.ref f_moved_line) = true)
    (a_next_truths : PySem.W.nsIn K mainGlobals "next_truths" = some (some (.ref f_next_truths)))
    (l_next_truths : K.lookup f_next_truths = some ⟨oc_next_truths, od_next_truths, .func (PySem.W.fnOf "next_truths" "next_truths" (defArgs s_next_truths) (defBody s_next_truths) (defScope s_next_truths) .none kV_next_truths dc_next_truths pm_next_truths an_next_truths cd_next_truths ct_next_truths), sl_next_truths⟩) (c_next_truths : PySem.W.codeIn K cd_next_truths "next_truths" = true) (k_next_truths : PySem.W.keepIn K (.ref f_next_truths) = true)
    (z_abs : PySem.W.nsIn K mainGlobals "abs" = some none)
    (z_all : PySem.W.nsIn K mainGlobals "all" = some none)
    (z_any : PySem.W.nsIn K mainGlobals "any" = some none)
    (z_bool : PySem.W.nsIn K mainGlobals "bool" = some none)
    (z_dict : PySem.W.nsIn K mainGlobals "dict" = some none)
    (z_enumerate : PySem.W.nsIn K mainGlobals "enumerate" = some none)
    (z_int : PySem.W.nsIn K mainGlobals "int" = some none)
    (z_isinstance : PySem.W.nsIn K mainGlobals "isinstance" = some none)
    (z_len : PySem.W.nsIn K mainGlobals "len" = some none)
    (z_list : PySem.W.nsIn K mainGlobals "list" = some none)
    (z_max : PySem.W.nsIn K mainGlobals "max" = some none)
    (z_min : PySem.W.nsIn K mainGlobals "min" = some none)
    (z_range : PySem.W.nsIn K mainGlobals "range" = some none)
    (z_repr : PySem.W.nsIn K mainGlobals "repr" = some none)
    (z_sorted : PySem.W.nsIn K mainGlobals "sorted" = some none)
    (z_str : PySem.W.nsIn K mainGlobals "str" = some none)
    (z_tuple : PySem.W.nsIn K mainGlobals "tuple" = some none)
    (z_zip : PySem.W.nsIn K mainGlobals "zip" = some none)
    (c_MOST_LETTERS : PySem.W.nsIn K mainGlobals "MOST_LETTERS" = some (some (.int 4 t_MOST_LETTERS)))
    (a_PRIMES : PySem.W.nsIn K mainGlobals "PRIMES" = some (some (.ref r_PRIMES))) (l_PRIMES : K.lookup r_PRIMES = some ⟨.type "tuple", ot_PRIMES, .seq #[.int 2 q_PRIMES_0, .int 3 q_PRIMES_1, .int 5 q_PRIMES_2, .int 7 q_PRIMES_3, .int 11 q_PRIMES_4, .int 13 q_PRIMES_5, .int 17 q_PRIMES_6, .int 19 q_PRIMES_7, .int 23 q_PRIMES_8, .int 29 q_PRIMES_9, .int 31 q_PRIMES_10, .int 37 q_PRIMES_11, .int 41 q_PRIMES_12, .int 43 q_PRIMES_13, .int 47 q_PRIMES_14, .int 53 q_PRIMES_15, .int 59 q_PRIMES_16, .int 61 q_PRIMES_17, .int 67 q_PRIMES_18, .int 71 q_PRIMES_19, .int 73 q_PRIMES_20, .int 79 q_PRIMES_21, .int 83 q_PRIMES_22, .int 89 q_PRIMES_23, .int 97 q_PRIMES_24] tn_PRIMES, sl_PRIMES⟩)
    (ecL : cd_law = .ref cL) (lcL : K.lookup cL = some ⟨ocL, odL, .fields vsL, slL⟩) (epL : vsL[11]? = some (.ref PL)) (hcL : PySem.W.codeHdIn K cL PL = true) (npL : K.lookup PL = none) (tbL : h.get? PL = some (PySem.W.tabObj #[]))
    (ecL_wide_so : cd_wide_so = .ref cL_wide_so) (lcL_wide_so : K.lookup cL_wide_so = some ⟨ocL_wide_so, odL_wide_so, .fields vsL_wide_so, slL_wide_so⟩) (epL_wide_so : vsL_wide_so[11]? = some (.ref PL_wide_so)) (hcL_wide_so : PySem.W.codeHdIn K cL_wide_so PL_wide_so = true) (npL_wide_so : K.lookup PL_wide_so = none) (tbL_wide_so : h.get? PL_wide_so = some (PySem.W.tabObj #[])) (neP_wide_so : PL ≠ PL_wide_so) :
    LamX.LawAtS l w K CX0 16 63 "_law_script" mg fa h := by
  have e := hfa.symm.trans (PySem.W.mg_of X G a_law)
  cases e
  obtain ⟨kx_Formula___init, kb_Formula___init⟩ := FunD.kbinds0 (ps := ["self", "alphabet", "lines", "first"]) (show FunD K "__init__" "Formula.__init__" (defArgs s_Formula___init) (defBody s_Formula___init) (defScope s_Formula___init) [] [("first", .bl false)] f_Formula___init (PySem.W.fnOf "__init__" "Formula.__init__" (defArgs s_Formula___init) (defBody s_Formula___init) (defScope s_Formula___init) .none kV_Formula___init dc_Formula___init pm_Formula___init an_Formula___init cd_Formula___init ct_Formula___init) from ⟨⟨_, _, .none, kV_Formula___init, dc_Formula___init, pm_Formula___init, an_Formula___init, cd_Formula___init, ct_Formula___init, _, rfl, l_Formula___init, c_Formula___init, .inl ⟨rfl, rfl⟩, .inr ⟨KD_Formula___init, kd_Formula___init, fun q hq => by
    simp only [List.mem_cons, List.not_mem_nil, or_false] at hq
    rcases hq with rfl
    · exact ⟨_, kn_Formula___init_first, rfl⟩⟩⟩, k_Formula___init⟩) 3 [] [("first", .bl false)] (fun us mz _ => us ++ mz) (by decide) (fun q hq => hq) (fun a b _ => a.append b) (fun _ _ _ _ _ _ us mv ws h1 h2 h3 => match us, mv, ws, h1, h2, h3 with | [_, _, _], [_], [], _, _, _ => ⟨_, _, _, _, _, _, rfl, rfl, rfl⟩)
  let T : Env K mg := {
    C_AheadError := _, gC_AheadError := PySem.W.mg_of X G aC_AheadError,
    C_Missing := _, gC_Missing := PySem.W.mg_of X G aC_Missing,
    C_NothingLeft := _, gC_NothingLeft := PySem.W.mg_of X G aC_NothingLeft,
    C_AlphabetsDiffer := _, gC_AlphabetsDiffer := PySem.W.mg_of X G aC_AlphabetsDiffer, n_AlphabetsDiffer_code := n_AlphabetsDiffer_code, x_AlphabetsDiffer := ⟨⟨_, _, _, _, _, _, _, _, _, _, _, _, _, _, _, xL_AlphabetsDiffer, (show refsVE [.type "ValueError", .type "Exception", .type "BaseException", .type "object"] = true by decide +kernel)⟩, sa_AlphabetsDiffer, eC_AlphabetsDiffer, tC_AlphabetsDiffer, kC_AlphabetsDiffer⟩, y_AlphabetsDiffer := ⟨ga_AlphabetsDiffer, gg_AlphabetsDiffer, eC_AlphabetsDiffer, hC_AlphabetsDiffer⟩, e_AlphabetsDiffer := exm3 bx_AheadError is_AheadError ty_AheadError s_AlphabetsDiffer_AheadError bx_Missing is_Missing ty_Missing s_AlphabetsDiffer_Missing bx_NothingLeft is_NothingLeft ty_NothingLeft s_AlphabetsDiffer_NothingLeft,
    C_Formula := _, gC_Formula := PySem.W.mg_of X G aC_Formula, n_Formula__alphabet := n_Formula__alphabet, n_Formula__lines := n_Formula__lines, n_Formula__first := n_Formula__first, u_Formula_MOST := _, o_Formula_MOST := ⟨o_Formula_MOST, ⟨_, rfl⟩, og_Formula_MOST, rfl⟩, cl_Formula := ⟨pg_Formula, hd_Formula, po_Formula, sa_Formula⟩,
    C_InvalidAlphabet := _, gC_InvalidAlphabet := PySem.W.mg_of X G aC_InvalidAlphabet, n_InvalidAlphabet_given := n_InvalidAlphabet_given, n_InvalidAlphabet_code := n_InvalidAlphabet_code, x_InvalidAlphabet := ⟨⟨_, _, _, _, _, _, _, _, _, _, _, _, _, _, _, xL_InvalidAlphabet, (show refsVE [.type "ValueError", .type "Exception", .type "BaseException", .type "object"] = true by decide +kernel)⟩, sa_InvalidAlphabet, eC_InvalidAlphabet, tC_InvalidAlphabet, kC_InvalidAlphabet⟩, y_InvalidAlphabet := ⟨ga_InvalidAlphabet, gg_InvalidAlphabet, eC_InvalidAlphabet, hC_InvalidAlphabet⟩, e_InvalidAlphabet := exm3 bx_AheadError is_AheadError ty_AheadError s_InvalidAlphabet_AheadError bx_Missing is_Missing ty_Missing s_InvalidAlphabet_Missing bx_NothingLeft is_NothingLeft ty_NothingLeft s_InvalidAlphabet_NothingLeft,
    C_InvalidLine := _, gC_InvalidLine := PySem.W.mg_of X G aC_InvalidLine, n_InvalidLine_at := n_InvalidLine_at, n_InvalidLine_code := n_InvalidLine_code, x_InvalidLine := ⟨⟨_, _, _, _, _, _, _, _, _, _, _, _, _, _, _, xL_InvalidLine, (show refsVE [.type "ValueError", .type "Exception", .type "BaseException", .type "object"] = true by decide +kernel)⟩, sa_InvalidLine, eC_InvalidLine, tC_InvalidLine, kC_InvalidLine⟩, y_InvalidLine := ⟨ga_InvalidLine, gg_InvalidLine, eC_InvalidLine, hC_InvalidLine⟩, e_InvalidLine := exm3 bx_AheadError is_AheadError ty_AheadError s_InvalidLine_AheadError bx_Missing is_Missing ty_Missing s_InvalidLine_Missing bx_NothingLeft is_NothingLeft ty_NothingLeft s_InvalidLine_NothingLeft,
    C_InvalidWord := _, gC_InvalidWord := PySem.W.mg_of X G aC_InvalidWord, n_InvalidWord_given := n_InvalidWord_given, n_InvalidWord_code := n_InvalidWord_code, x_InvalidWord := ⟨⟨_, _, _, _, _, _, _, _, _, _, _, _, _, _, _, xL_InvalidWord, (show refsVE [.type "ValueError", .type "Exception", .type "BaseException", .type "object"] = true by decide +kernel)⟩, sa_InvalidWord, eC_InvalidWord, tC_InvalidWord, kC_InvalidWord⟩, y_InvalidWord := ⟨ga_InvalidWord, gg_InvalidWord, eC_InvalidWord, hC_InvalidWord⟩, e_InvalidWord := exm3 bx_AheadError is_AheadError ty_AheadError s_InvalidWord_AheadError bx_Missing is_Missing ty_Missing s_InvalidWord_Missing bx_NothingLeft is_NothingLeft ty_NothingLeft s_InvalidWord_NothingLeft,
    C_TooMany := _, gC_TooMany := PySem.W.mg_of X G aC_TooMany, n_TooMany_subject := n_TooMany_subject, n_TooMany_most := n_TooMany_most, n_TooMany_code := n_TooMany_code, x_TooMany := ⟨⟨_, _, _, _, _, _, _, _, _, _, _, _, _, _, _, xL_TooMany, (show refsVE [.type "ValueError", .type "Exception", .type "BaseException", .type "object"] = true by decide +kernel)⟩, sa_TooMany, eC_TooMany, tC_TooMany, kC_TooMany⟩, y_TooMany := ⟨ga_TooMany, gg_TooMany, eC_TooMany, hC_TooMany⟩, e_TooMany := exm3 bx_AheadError is_AheadError ty_AheadError s_TooMany_AheadError bx_Missing is_Missing ty_Missing s_TooMany_Missing bx_NothingLeft is_NothingLeft ty_NothingLeft s_TooMany_NothingLeft,
    sf_Formula := sf_Formula,
    isc_Formula := ⟨⟨pg_Formula, hd_Formula, po_Formula, sa_Formula⟩, ia_Formula, ib_Formula, ic_Formula, id_Formula, kit_self⟩, kl_Formula := kit_no ie_Formula if_Formula il_Formula,
    f_AlphabetsDiffer___init := _, fd_AlphabetsDiffer___init := _, F_AlphabetsDiffer___init := fun_mk (st := s_AlphabetsDiffer___init) l_AlphabetsDiffer___init c_AlphabetsDiffer___init k_AlphabetsDiffer___init, b_AlphabetsDiffer___init := ((fun_mk (st := s_AlphabetsDiffer___init) l_AlphabetsDiffer___init c_AlphabetsDiffer___init k_AlphabetsDiffer___init).binds (ps := ["self"]) (fun _ _ _ _ _ _ us hl => match us, hl with | [_], _ => rfl)), i_AlphabetsDiffer___init := a_AlphabetsDiffer___init, t_AlphabetsDiffer___init := t_AlphabetsDiffer___init,
    f_Formula___and := _, fd_Formula___and := _, F_Formula___and := fun_mk (st := s_Formula___and) l_Formula___and c_Formula___and k_Formula___and, b_Formula___and := ((fun_mk (st := s_Formula___and) l_Formula___and c_Formula___and k_Formula___and).binds (ps := ["self", "other"]) (fun _ _ _ _ _ _ us hl => match us, hl with | [_, _], _ => rfl)), m_Formula___and := ⟨a_Formula___and, i_Formula___and, k_Formula___and⟩,
    f_Formula___contains := _, fd_Formula___contains := _, F_Formula___contains := fun_mk (st := s_Formula___contains) l_Formula___contains c_Formula___contains k_Formula___contains, b_Formula___contains := ((fun_mk (st := s_Formula___contains) l_Formula___contains c_Formula___contains k_Formula___contains).binds (ps := ["self", "word"]) (fun _ _ _ _ _ _ us hl => match us, hl with | [_, _], _ => rfl)), m_Formula___contains := ⟨a_Formula___contains, i_Formula___contains, k_Formula___contains⟩,
    f_Formula___eq := _, fd_Formula___eq := _, F_Formula___eq := fun_mk (st := s_Formula___eq) l_Formula___eq c_Formula___eq k_Formula___eq, b_Formula___eq := ((fun_mk (st := s_Formula___eq) l_Formula___eq c_Formula___eq k_Formula___eq).binds (ps := ["self", "other"]) (fun _ _ _ _ _ _ us hl => match us, hl with | [_, _], _ => rfl)), m_Formula___eq := ⟨a_Formula___eq, i_Formula___eq, k_Formula___eq⟩,
    f_Formula___init := _, fd_Formula___init := _, F_Formula___init := fun_mk (st := s_Formula___init) l_Formula___init c_Formula___init k_Formula___init, b_Formula___init := kb_of (ps := ["self", "alphabet", "lines", "first"]) (n := 3) (ks := ["first"]) (fun_mk (st := s_Formula___init) l_Formula___init c_Formula___init k_Formula___init) (fun _ _ _ _ _ _ us ws h1 h2 => match us, ws, h1, h2 with | [_, _, _], [_], _, _ => rfl), k_Formula___init := ⟨mk_Formula, a_Formula___init, i_Formula___init, kc_Formula⟩, kx_Formula___init := kx_Formula___init, kb_Formula___init := kb_Formula___init,
    f_Formula___len := _, fd_Formula___len := _, F_Formula___len := fun_mk (st := s_Formula___len) l_Formula___len c_Formula___len k_Formula___len, b_Formula___len := ((fun_mk (st := s_Formula___len) l_Formula___len c_Formula___len k_Formula___len).binds (ps := ["self"]) (fun _ _ _ _ _ _ us hl => match us, hl with | [_], _ => rfl)), m_Formula___len := ⟨a_Formula___len, i_Formula___len, k_Formula___len⟩,
    f_Formula___neg := _, fd_Formula___neg := _, F_Formula___neg := fun_mk (st := s_Formula___neg) l_Formula___neg c_Formula___neg k_Formula___neg, b_Formula___neg := ((fun_mk (st := s_Formula___neg) l_Formula___neg c_Formula___neg k_Formula___neg).binds (ps := ["self"]) (fun _ _ _ _ _ _ us hl => match us, hl with | [_], _ => rfl)), m_Formula___neg := ⟨a_Formula___neg, i_Formula___neg, k_Formula___neg⟩,
    f_Formula___or := _, fd_Formula___or := _, F_Formula___or := fun_mk (st := s_Formula___or) l_Formula___or c_Formula___or k_Formula___or, b_Formula___or := ((fun_mk (st := s_Formula___or) l_Formula___or c_Formula___or k_Formula___or).binds (ps := ["self", "other"]) (fun _ _ _ _ _ _ us hl => match us, hl with | [_, _], _ => rfl)), m_Formula___or := ⟨a_Formula___or, i_Formula___or, k_Formula___or⟩,
    f_Formula___repr := _, fd_Formula___repr := _, F_Formula___repr := fun_mk (st := s_Formula___repr) l_Formula___repr c_Formula___repr k_Formula___repr, b_Formula___repr := ((fun_mk (st := s_Formula___repr) l_Formula___repr c_Formula___repr k_Formula___repr).binds (ps := ["self"]) (fun _ _ _ _ _ _ us hl => match us, hl with | [_], _ => rfl)), m_Formula___repr := ⟨a_Formula___repr, i_Formula___repr, k_Formula___repr⟩,
    f_Formula__both_lines := _, fd_Formula__both_lines := _, F_Formula__both_lines := fun_mk (st := s_Formula__both_lines) l_Formula__both_lines c_Formula__both_lines k_Formula__both_lines, b_Formula__both_lines := ((fun_mk (st := s_Formula__both_lines) l_Formula__both_lines c_Formula__both_lines k_Formula__both_lines).binds (ps := ["self", "other", "kind"]) (fun _ _ _ _ _ _ us hl => match us, hl with | [_, _, _], _ => rfl)), m_Formula__both_lines := ⟨a_Formula__both_lines, i_Formula__both_lines, k_Formula__both_lines⟩,
    f_Formula_alphabet := _, fd_Formula_alphabet := _, F_Formula_alphabet := fun_mk (st := s_Formula_alphabet) l_Formula_alphabet c_Formula_alphabet k_Formula_alphabet, b_Formula_alphabet := ((fun_mk (st := s_Formula_alphabet) l_Formula_alphabet c_Formula_alphabet k_Formula_alphabet).binds (ps := ["self"]) (fun _ _ _ _ _ _ us hl => match us, hl with | [_], _ => rfl)), pa_Formula_alphabet := _, p_Formula_alphabet := ⟨a_Formula_alphabet, qg_Formula_alphabet, qt_Formula_alphabet, ⟨_, qr_Formula_alphabet⟩⟩,
    f_Formula_first := _, fd_Formula_first := _, F_Formula_first := fun_mk (st := s_Formula_first) l_Formula_first c_Formula_first k_Formula_first, b_Formula_first := ((fun_mk (st := s_Formula_first) l_Formula_first c_Formula_first k_Formula_first).binds (ps := ["self"]) (fun _ _ _ _ _ _ us hl => match us, hl with | [_], _ => rfl)), pa_Formula_first := _, p_Formula_first := ⟨a_Formula_first, qg_Formula_first, qt_Formula_first, ⟨_, qr_Formula_first⟩⟩,
    f_Formula_lines := _, fd_Formula_lines := _, F_Formula_lines := fun_mk (st := s_Formula_lines) l_Formula_lines c_Formula_lines k_Formula_lines, b_Formula_lines := ((fun_mk (st := s_Formula_lines) l_Formula_lines c_Formula_lines k_Formula_lines).binds (ps := ["self"]) (fun _ _ _ _ _ _ us hl => match us, hl with | [_], _ => rfl)), m_Formula_lines := ⟨a_Formula_lines, i_Formula_lines, k_Formula_lines⟩,
    f_Formula_truths := _, fd_Formula_truths := _, F_Formula_truths := fun_mk (st := s_Formula_truths) l_Formula_truths c_Formula_truths k_Formula_truths, b_Formula_truths := ((fun_mk (st := s_Formula_truths) l_Formula_truths c_Formula_truths k_Formula_truths).binds (ps := ["self", "word"]) (fun _ _ _ _ _ _ us hl => match us, hl with | [_, _], _ => rfl)), m_Formula_truths := ⟨a_Formula_truths, i_Formula_truths, k_Formula_truths⟩,
    f_InvalidAlphabet___init := _, fd_InvalidAlphabet___init := _, F_InvalidAlphabet___init := fun_mk (st := s_InvalidAlphabet___init) l_InvalidAlphabet___init c_InvalidAlphabet___init k_InvalidAlphabet___init, b_InvalidAlphabet___init := ((fun_mk (st := s_InvalidAlphabet___init) l_InvalidAlphabet___init c_InvalidAlphabet___init k_InvalidAlphabet___init).binds (ps := ["self", "given"]) (fun _ _ _ _ _ _ us hl => match us, hl with | [_, _], _ => rfl)), i_InvalidAlphabet___init := a_InvalidAlphabet___init, t_InvalidAlphabet___init := t_InvalidAlphabet___init,
    f_InvalidLine___init := _, fd_InvalidLine___init := _, F_InvalidLine___init := fun_mk (st := s_InvalidLine___init) l_InvalidLine___init c_InvalidLine___init k_InvalidLine___init, b_InvalidLine___init := ((fun_mk (st := s_InvalidLine___init) l_InvalidLine___init c_InvalidLine___init k_InvalidLine___init).binds (ps := ["self", "at"]) (fun _ _ _ _ _ _ us hl => match us, hl with | [_, _], _ => rfl)), i_InvalidLine___init := a_InvalidLine___init, t_InvalidLine___init := t_InvalidLine___init,
    f_InvalidWord___init := _, fd_InvalidWord___init := _, F_InvalidWord___init := fun_mk (st := s_InvalidWord___init) l_InvalidWord___init c_InvalidWord___init k_InvalidWord___init, b_InvalidWord___init := ((fun_mk (st := s_InvalidWord___init) l_InvalidWord___init c_InvalidWord___init k_InvalidWord___init).binds (ps := ["self", "given"]) (fun _ _ _ _ _ _ us hl => match us, hl with | [_, _], _ => rfl)), i_InvalidWord___init := a_InvalidWord___init, t_InvalidWord___init := t_InvalidWord___init,
    f_TooMany___init := _, fd_TooMany___init := _, F_TooMany___init := fun_mk (st := s_TooMany___init) l_TooMany___init c_TooMany___init k_TooMany___init, b_TooMany___init := ((fun_mk (st := s_TooMany___init) l_TooMany___init c_TooMany___init k_TooMany___init).binds (ps := ["self", "subject", "most"]) (fun _ _ _ _ _ _ us hl => match us, hl with | [_, _, _], _ => rfl)), i_TooMany___init := a_TooMany___init, t_TooMany___init := t_TooMany___init,
    f_accepts := _, fd_accepts := _, F_accepts := fun_mk (st := s_accepts) l_accepts c_accepts k_accepts, b_accepts := ((fun_mk (st := s_accepts) l_accepts c_accepts k_accepts).binds (ps := ["_law_lines", "_law_begin", "_law_text_here"]) (fun _ _ _ _ _ _ us hl => match us, hl with | [_, _, _], _ => rfl)), g_accepts := PySem.W.mg_of X G a_accepts,
    f_all_got := _, fd_all_got := _, F_all_got := fun_mk (st := s_all_got) l_all_got c_all_got k_all_got, b_all_got := ((fun_mk (st := s_all_got) l_all_got c_all_got k_all_got).binds (ps := ["_law_asks"]) (fun _ _ _ _ _ _ us hl => match us, hl with | [_], _ => rfl)), g_all_got := PySem.W.mg_of X G a_all_got,
    f_bag := _, fd_bag := _, F_bag := fun_mk (st := s_bag) l_bag c_bag k_bag, b_bag := ((fun_mk (st := s_bag) l_bag c_bag k_bag).binds (ps := ["_law_script"]) (fun _ _ _ _ _ _ us hl => match us, hl with | [_], _ => rfl)), g_bag := PySem.W.mg_of X G a_bag,
    f_field := _, fd_field := _, F_field := fun_mk (st := s_field) l_field c_field k_field, b_field := ((fun_mk (st := s_field) l_field c_field k_field).binds (ps := ["_law_e"]) (fun _ _ _ _ _ _ us hl => match us, hl with | [_], _ => rfl)), g_field := PySem.W.mg_of X G a_field,
    f_got := _, fd_got := _, F_got := fun_mk (st := s_got) l_got c_got k_got, b_got := ((fun_mk (st := s_got) l_got c_got k_got).binds (ps := ["_law_ask"]) (fun _ _ _ _ _ _ us hl => match us, hl with | [_], _ => rfl)), g_got := PySem.W.mg_of X G a_got,
    f_moved := _, fd_moved := _, F_moved := fun_mk (st := s_moved) l_moved c_moved k_moved, b_moved := ((fun_mk (st := s_moved) l_moved c_moved k_moved).binds (ps := ["_law_line", "_law_many"]) (fun _ _ _ _ _ _ us hl => match us, hl with | [_, _], _ => rfl)), g_moved := PySem.W.mg_of X G a_moved,
    f_lnext := _, fd_lnext := _, F_lnext := fun_mk (st := s_lnext) l_lnext c_lnext k_lnext, b_lnext := ((fun_mk (st := s_lnext) l_lnext c_lnext k_lnext).binds (ps := ["_law_lines", "_law_last", "_law_counts", "_law_sign"]) (fun _ _ _ _ _ _ us hl => match us, hl with | [_, _, _, _], _ => rfl)), g_lnext := PySem.W.mg_of X G a_lnext,
    f_of := _, fd_of := _, F_of := fun_mk (st := s_of) l_of c_of k_of, b_of := ((fun_mk (st := s_of) l_of c_of k_of).binds (ps := ["_law_bag_here", "_law_some"]) (fun _ _ _ _ _ _ us hl => match us, hl with | [_, _], _ => rfl)), g_of := PySem.W.mg_of X G a_of,
    f_pull := _, fd_pull := _, F_pull := fun_mk (st := s_pull) l_pull c_pull k_pull, b_pull := ((fun_mk (st := s_pull) l_pull c_pull k_pull).binds (ps := ["_law_bag_here", "_law_sides"]) (fun _ _ _ _ _ _ us hl => match us, hl with | [_, _], _ => rfl)), g_pull := PySem.W.mg_of X G a_pull,
    f_same := _, fd_same := _, F_same := fun_mk (st := s_same) l_same c_same k_same, b_same := ((fun_mk (st := s_same) l_same c_same k_same).binds (ps := ["_law_found", "_law_due"]) (fun _ _ _ _ _ _ us hl => match us, hl with | [_, _], _ => rfl)), g_same := PySem.W.mg_of X G a_same,
    f_saying := _, fd_saying := _, F_saying := fun_mk (st := s_saying) l_saying c_saying k_saying, b_saying := ((fun_mk (st := s_saying) l_saying c_saying k_saying).binds (ps := ["_law_bag_here", "_law_signs_here", "_law_many", "_law_kinds"]) (fun _ _ _ _ _ _ us hl => match us, hl with | [_, _, _, _], _ => rfl)), g_saying := PySem.W.mg_of X G a_saying,
    f_signs := _, fd_signs := _, F_signs := fun_mk (st := s_signs) l_signs c_signs k_signs, b_signs := ((fun_mk (st := s_signs) l_signs c_signs k_signs).binds (ps := ["_law_bag_here"]) (fun _ _ _ _ _ _ us hl => match us, hl with | [_], _ => rfl)), g_signs := PySem.W.mg_of X G a_signs,
    f_some_signs := _, fd_some_signs := _, F_some_signs := fun_mk (st := s_some_signs) l_some_signs c_some_signs k_some_signs, b_some_signs := ((fun_mk (st := s_some_signs) l_some_signs c_some_signs k_some_signs).binds (ps := ["_law_bag_here", "_law_signs_here"]) (fun _ _ _ _ _ _ us hl => match us, hl with | [_, _], _ => rfl)), g_some_signs := PySem.W.mg_of X G a_some_signs,
    f_text := _, fd_text := _, F_text := fun_mk (st := s_text) l_text c_text k_text, b_text := ((fun_mk (st := s_text) l_text c_text k_text).binds (ps := ["_law_bag_here", "_law_signs_here", "_law_size"]) (fun _ _ _ _ _ _ us hl => match us, hl with | [_, _, _], _ => rfl)), g_text := PySem.W.mg_of X G a_text,
    f_wide_so := _, fd_wide_so := _, F_wide_so := fun_mk (st := s_wide_so) l_wide_so c_wide_so k_wide_so, b_wide_so := ((fun_mk (st := s_wide_so) l_wide_so c_wide_so k_wide_so).binds (ps := []) (fun _ _ _ _ _ _ us hl => match us, hl with | [], _ => rfl)), g_wide_so := PySem.W.mg_of X G a_wide_so,
    f_are_letters := _, fd_are_letters := _, F_are_letters := fun_mk (st := s_are_letters) l_are_letters c_are_letters k_are_letters, b_are_letters := ((fun_mk (st := s_are_letters) l_are_letters c_are_letters k_are_letters).binds (ps := ["alphabet", "value"]) (fun _ _ _ _ _ _ us hl => match us, hl with | [_, _], _ => rfl)), g_are_letters := PySem.W.mg_of X G a_are_letters,
    f_are_refs := _, fd_are_refs := _, F_are_refs := fun_mk (st := s_are_refs) l_are_refs c_are_refs k_are_refs, b_are_refs := ((fun_mk (st := s_are_refs) l_are_refs c_are_refs k_are_refs).binds (ps := ["value", "place"]) (fun _ _ _ _ _ _ us hl => match us, hl with | [_, _], _ => rfl)), g_are_refs := PySem.W.mg_of X G a_are_refs,
    f_can_stand := _, fd_can_stand := _, F_can_stand := fun_mk (st := s_can_stand) l_can_stand c_can_stand k_can_stand, b_can_stand := ((fun_mk (st := s_can_stand) l_can_stand c_can_stand k_can_stand).binds (ps := ["alphabet", "value", "place"]) (fun _ _ _ _ _ _ us hl => match us, hl with | [_, _, _], _ => rfl)), g_can_stand := PySem.W.mg_of X G a_can_stand,
    f_check_lines := _, fd_check_lines := _, F_check_lines := fun_mk (st := s_check_lines) l_check_lines c_check_lines k_check_lines, b_check_lines := ((fun_mk (st := s_check_lines) l_check_lines c_check_lines k_check_lines).binds (ps := ["alphabet", "lines"]) (fun _ _ _ _ _ _ us hl => match us, hl with | [_, _], _ => rfl)), g_check_lines := PySem.W.mg_of X G a_check_lines,
    f_is_alphabet := _, fd_is_alphabet := _, F_is_alphabet := fun_mk (st := s_is_alphabet) l_is_alphabet c_is_alphabet k_is_alphabet, b_is_alphabet := ((fun_mk (st := s_is_alphabet) l_is_alphabet c_is_alphabet k_is_alphabet).binds (ps := ["value"]) (fun _ _ _ _ _ _ us hl => match us, hl with | [_], _ => rfl)), g_is_alphabet := PySem.W.mg_of X G a_is_alphabet,
    f_is_below := _, fd_is_below := _, F_is_below := fun_mk (st := s_is_below) l_is_below c_is_below k_is_below, b_is_below := ((fun_mk (st := s_is_below) l_is_below c_is_below k_is_below).binds (ps := ["value", "bound"]) (fun _ _ _ _ _ _ us hl => match us, hl with | [_, _], _ => rfl)), g_is_below := PySem.W.mg_of X G a_is_below,
    f_is_listed := _, fd_is_listed := _, F_is_listed := fun_mk (st := s_is_listed) l_is_listed c_is_listed k_is_listed, b_is_listed := ((fun_mk (st := s_is_listed) l_is_listed c_is_listed k_is_listed).binds (ps := ["value"]) (fun _ _ _ _ _ _ us hl => match us, hl with | [_], _ => rfl)), g_is_listed := PySem.W.mg_of X G a_is_listed,
    f_is_number := _, fd_is_number := _, F_is_number := fun_mk (st := s_is_number) l_is_number c_is_number k_is_number, b_is_number := ((fun_mk (st := s_is_number) l_is_number c_is_number k_is_number).binds (ps := ["value"]) (fun _ _ _ _ _ _ us hl => match us, hl with | [_], _ => rfl)), g_is_number := PySem.W.mg_of X G a_is_number,
    f_is_prime := _, fd_is_prime := _, F_is_prime := fun_mk (st := s_is_prime) l_is_prime c_is_prime k_is_prime, b_is_prime := ((fun_mk (st := s_is_prime) l_is_prime c_is_prime k_is_prime).binds (ps := ["value"]) (fun _ _ _ _ _ _ us hl => match us, hl with | [_], _ => rfl)), g_is_prime := PySem.W.mg_of X G a_is_prime,
    f_is_word := _, fd_is_word := _, F_is_word := fun_mk (st := s_is_word) l_is_word c_is_word k_is_word, b_is_word := ((fun_mk (st := s_is_word) l_is_word c_is_word k_is_word).binds (ps := ["alphabet", "value"]) (fun _ _ _ _ _ _ us hl => match us, hl with | [_, _], _ => rfl)), g_is_word := PySem.W.mg_of X G a_is_word,
    f_last_truths := _, fd_last_truths := _, F_last_truths := fun_mk (st := s_last_truths) l_last_truths c_last_truths k_last_truths, b_last_truths := ((fun_mk (st := s_last_truths) l_last_truths c_last_truths k_last_truths).binds (ps := ["lines", "word"]) (fun _ _ _ _ _ _ us hl => match us, hl with | [_, _], _ => rfl)), g_last_truths := PySem.W.mg_of X G a_last_truths,
    f_law := _, fd_law := _, F_law := fun_mk (st := s_law) l_law c_law k_law, b_law := ((fun_mk (st := s_law) l_law c_law k_law).binds (ps := ["_law_script"]) (fun _ _ _ _ _ _ us hl => match us, hl with | [_], _ => rfl)), g_law := PySem.W.mg_of X G a_law,
    f_moved_line := _, fd_moved_line := _, F_moved_line := fun_mk (st := s_moved_line) l_moved_line c_moved_line k_moved_line, b_moved_line := ((fun_mk (st := s_moved_line) l_moved_line c_moved_line k_moved_line).binds (ps := ["line", "places"]) (fun _ _ _ _ _ _ us hl => match us, hl with | [_, _], _ => rfl)), g_moved_line := PySem.W.mg_of X G a_moved_line,
    f_next_truths := _, fd_next_truths := _, F_next_truths := fun_mk (st := s_next_truths) l_next_truths c_next_truths k_next_truths, b_next_truths := ((fun_mk (st := s_next_truths) l_next_truths c_next_truths k_next_truths).binds (ps := ["lines", "letter", "past", "counts"]) (fun _ _ _ _ _ _ us hl => match us, hl with | [_, _, _, _], _ => rfl)), g_next_truths := PySem.W.mg_of X G a_next_truths,
    z_abs := PySem.W.mg_none_of X G z_abs,
    z_all := PySem.W.mg_none_of X G z_all,
    z_any := PySem.W.mg_none_of X G z_any,
    z_bool := PySem.W.mg_none_of X G z_bool,
    z_dict := PySem.W.mg_none_of X G z_dict,
    z_enumerate := PySem.W.mg_none_of X G z_enumerate,
    z_int := PySem.W.mg_none_of X G z_int,
    z_isinstance := PySem.W.mg_none_of X G z_isinstance,
    z_len := PySem.W.mg_none_of X G z_len,
    z_list := PySem.W.mg_none_of X G z_list,
    z_max := PySem.W.mg_none_of X G z_max,
    z_min := PySem.W.mg_none_of X G z_min,
    z_range := PySem.W.mg_none_of X G z_range,
    z_repr := PySem.W.mg_none_of X G z_repr,
    z_sorted := PySem.W.mg_none_of X G z_sorted,
    z_str := PySem.W.mg_none_of X G z_str,
    z_tuple := PySem.W.mg_none_of X G z_tuple,
    z_zip := PySem.W.mg_none_of X G z_zip,
    t_MOST_LETTERS := t_MOST_LETTERS, c_MOST_LETTERS := PySem.W.mg_of X G c_MOST_LETTERS,
    r_PRIMES := _, gt_PRIMES := PySem.W.mg_of X G a_PRIMES, st_PRIMES := fun _ => .inr ⟨_, _, _, l_PRIMES, rfl, rfl, (by show 25 ≤ sizeLine; decide), (.cons ⟨_, rfl⟩ (.cons ⟨_, rfl⟩ (.cons ⟨_, rfl⟩ (.cons ⟨_, rfl⟩ (.cons ⟨_, rfl⟩ (.cons ⟨_, rfl⟩ (.cons ⟨_, rfl⟩ (.cons ⟨_, rfl⟩ (.cons ⟨_, rfl⟩ (.cons ⟨_, rfl⟩ (.cons ⟨_, rfl⟩ (.cons ⟨_, rfl⟩ (.cons ⟨_, rfl⟩ (.cons ⟨_, rfl⟩ (.cons ⟨_, rfl⟩ (.cons ⟨_, rfl⟩ (.cons ⟨_, rfl⟩ (.cons ⟨_, rfl⟩ (.cons ⟨_, rfl⟩ (.cons ⟨_, rfl⟩ (.cons ⟨_, rfl⟩ (.cons ⟨_, rfl⟩ (.cons ⟨_, rfl⟩ (.cons ⟨_, rfl⟩ (.cons ⟨_, rfl⟩ .nil)))))))))))))))))))))))))⟩ }
  subst ecL
  subst ecL_wide_so
  exact ⟨_, [(cL, PL), (cL_wide_so, PL_wide_so)], spLaw K PL PL_wide_so, (fun p hp => by
    simp only [List.mem_cons, List.not_mem_nil, or_false] at hp
    rcases hp with rfl | rfl
    · exact tbL
    · exact tbL_wide_so), (fun p hp => by
    simp only [List.mem_cons, List.not_mem_nil, or_false] at hp
    rcases hp with rfl | rfl
    · exact npL
    · exact npL_wide_so), (fun p hp => by
    simp only [List.mem_cons, List.not_mem_nil, or_false] at hp
    rcases hp with rfl | rfl
    · exact PySem.W.codeHd_of_K X hcL
    · exact PySem.W.codeHd_of_K X hcL_wide_so), fun s v => .of_eq rfl,
    fun H a ns h1 _ h2 h3 => ⟨a, ns, rfl, h3, h1, h2 (cL, PL) (by simp), h2 (cL_wide_so, PL_wide_so) (by simp), fun _ => rfl⟩, fun base _ _ TB => ok_law T rfl rfl (TB (cL, PL) (by simp)) (TB (cL_wide_so, PL_wide_so) (by simp)) neP_wide_so⟩
end MyP
open PySem PySem.W PyProof.Rows
set_option maxHeartbeats 0 in
theorem PySem.Challenge.cw_onlyahead_k27_formulas_joined_holds : PySem.Challenge.rw_onlyahead_k27_formulas_joined.Holds := by
  w_on; o_law; k_head; (case hw => w_witness2)
  k_fill
  refine LamX.walk_ofTs (l := PySem.Challenge.rw_onlyahead_k27_formulas_joined) (n := 63) (k := 16) (x := "_law_script") (CX := fun _ => L2.CX0) rfl (by decide) rfl ⟨rfl, by decide, by decide⟩ (fun w h Y => PySem.W.km_in_of Y) ?F (fun _ _ _ _ _ h => h)
  case F =>
    intro w mg fa h Y KX G hmg
    refine' MyP.all_mk KX G hmg ?aC_AheadError ?bx_AheadError ?is_AheadError ?ty_AheadError ?aC_Missing ?bx_Missing ?is_Missing ?ty_Missing ?aC_NothingLeft ?bx_NothingLeft ?is_NothingLeft ?ty_NothingLeft ?aC_AlphabetsDiffer ?xL_AlphabetsDiffer ?sa_AlphabetsDiffer ?ga_AlphabetsDiffer ?gg_AlphabetsDiffer ?kC_AlphabetsDiffer ?eC_AlphabetsDiffer ?tC_AlphabetsDiffer ?hC_AlphabetsDiffer ?n_AlphabetsDiffer_code ?s_AlphabetsDiffer_AheadError ?s_AlphabetsDiffer_Missing ?s_AlphabetsDiffer_NothingLeft ?aC_Formula ?pg_Formula ?hd_Formula ?po_Formula ?sa_Formula ?mk_Formula ?kc_Formula ?n_Formula__alphabet ?n_Formula__lines ?n_Formula__first ?o_Formula_MOST ?og_Formula_MOST ?aC_InvalidAlphabet ?xL_InvalidAlphabet ?sa_InvalidAlphabet ?ga_InvalidAlphabet ?gg_InvalidAlphabet ?kC_InvalidAlphabet ?eC_InvalidAlphabet ?tC_InvalidAlphabet ?hC_InvalidAlphabet ?n_InvalidAlphabet_given ?n_InvalidAlphabet_code ?s_InvalidAlphabet_AheadError ?s_InvalidAlphabet_Missing ?s_InvalidAlphabet_NothingLeft ?aC_InvalidLine ?xL_InvalidLine ?sa_InvalidLine ?ga_InvalidLine ?gg_InvalidLine ?kC_InvalidLine ?eC_InvalidLine ?tC_InvalidLine ?hC_InvalidLine ?n_InvalidLine_at ?n_InvalidLine_code ?s_InvalidLine_AheadError ?s_InvalidLine_Missing ?s_InvalidLine_NothingLeft ?aC_InvalidWord ?xL_InvalidWord ?sa_InvalidWord ?ga_InvalidWord ?gg_InvalidWord ?kC_InvalidWord ?eC_InvalidWord ?tC_InvalidWord ?hC_InvalidWord ?n_InvalidWord_given ?n_InvalidWord_code ?s_InvalidWord_AheadError ?s_InvalidWord_Missing ?s_InvalidWord_NothingLeft ?aC_TooMany ?xL_TooMany ?sa_TooMany ?ga_TooMany ?gg_TooMany ?kC_TooMany ?eC_TooMany ?tC_TooMany ?hC_TooMany ?n_TooMany_subject ?n_TooMany_most ?n_TooMany_code ?s_TooMany_AheadError ?s_TooMany_Missing ?s_TooMany_NothingLeft ?sf_Formula ?ia_Formula ?ib_Formula ?ic_Formula ?id_Formula ?ie_Formula ?if_Formula ?il_Formula ?a_AlphabetsDiffer___init ?t_AlphabetsDiffer___init ?l_AlphabetsDiffer___init ?c_AlphabetsDiffer___init ?k_AlphabetsDiffer___init ?a_Formula___and ?i_Formula___and ?l_Formula___and ?c_Formula___and ?k_Formula___and ?a_Formula___contains ?i_Formula___contains ?l_Formula___contains ?c_Formula___contains ?k_Formula___contains ?a_Formula___eq ?i_Formula___eq ?l_Formula___eq ?c_Formula___eq ?k_Formula___eq ?a_Formula___init ?i_Formula___init ?l_Formula___init ?c_Formula___init ?k_Formula___init ?kd_Formula___init ?kn_Formula___init_first ?a_Formula___len ?i_Formula___len ?l_Formula___len ?c_Formula___len ?k_Formula___len ?a_Formula___neg ?i_Formula___neg ?l_Formula___neg ?c_Formula___neg ?k_Formula___neg ?a_Formula___or ?i_Formula___or ?l_Formula___or ?c_Formula___or ?k_Formula___or ?a_Formula___repr ?i_Formula___repr ?l_Formula___repr ?c_Formula___repr ?k_Formula___repr ?a_Formula__both_lines ?i_Formula__both_lines ?l_Formula__both_lines ?c_Formula__both_lines ?k_Formula__both_lines ?a_Formula_alphabet ?qg_Formula_alphabet ?qt_Formula_alphabet ?qr_Formula_alphabet ?l_Formula_alphabet ?c_Formula_alphabet ?k_Formula_alphabet ?a_Formula_first ?qg_Formula_first ?qt_Formula_first ?qr_Formula_first ?l_Formula_first ?c_Formula_first ?k_Formula_first ?a_Formula_lines ?i_Formula_lines ?l_Formula_lines ?c_Formula_lines ?k_Formula_lines ?a_Formula_truths ?i_Formula_truths ?l_Formula_truths ?c_Formula_truths ?k_Formula_truths ?a_InvalidAlphabet___init ?t_InvalidAlphabet___init ?l_InvalidAlphabet___init ?c_InvalidAlphabet___init ?k_InvalidAlphabet___init ?a_InvalidLine___init ?t_InvalidLine___init ?l_InvalidLine___init ?c_InvalidLine___init ?k_InvalidLine___init ?a_InvalidWord___init ?t_InvalidWord___init ?l_InvalidWord___init ?c_InvalidWord___init ?k_InvalidWord___init ?a_TooMany___init ?t_TooMany___init ?l_TooMany___init ?c_TooMany___init ?k_TooMany___init ?a_accepts ?l_accepts ?c_accepts ?k_accepts ?a_all_got ?l_all_got ?c_all_got ?k_all_got ?a_bag ?l_bag ?c_bag ?k_bag ?a_field ?l_field ?c_field ?k_field ?a_got ?l_got ?c_got ?k_got ?a_moved ?l_moved ?c_moved ?k_moved ?a_lnext ?l_lnext ?c_lnext ?k_lnext ?a_of ?l_of ?c_of ?k_of ?a_pull ?l_pull ?c_pull ?k_pull ?a_same ?l_same ?c_same ?k_same ?a_saying ?l_saying ?c_saying ?k_saying ?a_signs ?l_signs ?c_signs ?k_signs ?a_some_signs ?l_some_signs ?c_some_signs ?k_some_signs ?a_text ?l_text ?c_text ?k_text ?a_wide_so ?l_wide_so ?c_wide_so ?k_wide_so ?a_are_letters ?l_are_letters ?c_are_letters ?k_are_letters ?a_are_refs ?l_are_refs ?c_are_refs ?k_are_refs ?a_can_stand ?l_can_stand ?c_can_stand ?k_can_stand ?a_check_lines ?l_check_lines ?c_check_lines ?k_check_lines ?a_is_alphabet ?l_is_alphabet ?c_is_alphabet ?k_is_alphabet ?a_is_below ?l_is_below ?c_is_below ?k_is_below ?a_is_listed ?l_is_listed ?c_is_listed ?k_is_listed ?a_is_number ?l_is_number ?c_is_number ?k_is_number ?a_is_prime ?l_is_prime ?c_is_prime ?k_is_prime ?a_is_word ?l_is_word ?c_is_word ?k_is_word ?a_last_truths ?l_last_truths ?c_last_truths ?k_last_truths ?a_law ?l_law ?c_law ?k_law ?a_moved_line ?l_moved_line ?c_moved_line ?k_moved_line ?a_next_truths ?l_next_truths ?c_next_truths ?k_next_truths ?z_abs ?z_all ?z_any ?z_bool ?z_dict ?z_enumerate ?z_int ?z_isinstance ?z_len ?z_list ?z_max ?z_min ?z_range ?z_repr ?z_sorted ?z_str ?z_tuple ?z_zip ?c_MOST_LETTERS ?a_PRIMES ?l_PRIMES ?ecL ?lcL ?epL ?hcL ?npL ?tbL ?ecL_wide_so ?lcL_wide_so ?epL_wide_so ?hcL_wide_so ?npL_wide_so ?tbL_wide_so ?neP_wide_so
    (case aC_AheadError => k_is)
    (case bx_AheadError => k_is)
    (case is_AheadError => k_is)
    (case ty_AheadError => k_is)
    (case aC_Missing => k_is)
    (case bx_Missing => k_is)
    (case is_Missing => k_is)
    (case ty_Missing => k_is)
    (case aC_NothingLeft => k_is)
    (case bx_NothingLeft => k_is)
    (case is_NothingLeft => k_is)
    (case ty_NothingLeft => k_is)
    (case aC_AlphabetsDiffer => k_is)
    (case xL_AlphabetsDiffer => k_is)
    (case sa_AlphabetsDiffer => k_is)
    (case ga_AlphabetsDiffer => k_is)
    (case gg_AlphabetsDiffer => k_is)
    (case kC_AlphabetsDiffer => k_is)
    (case eC_AlphabetsDiffer => k_is)
    (case tC_AlphabetsDiffer => k_is)
    (case hC_AlphabetsDiffer => k_is)
    (case n_AlphabetsDiffer_code => k_is)
    (case s_AlphabetsDiffer_AheadError => k_is)
    (case s_AlphabetsDiffer_Missing => k_is)
    (case s_AlphabetsDiffer_NothingLeft => k_is)
    (case aC_Formula => k_is)
    (case pg_Formula => k_is)
    (case hd_Formula => k_is)
    (case po_Formula => k_is)
    (case sa_Formula => k_is)
    (case mk_Formula => k_is)
    (case kc_Formula => k_is)
    (case n_Formula__alphabet => k_is)
    (case n_Formula__lines => k_is)
    (case n_Formula__first => k_is)
    (case o_Formula_MOST => k_is)
    (case og_Formula_MOST => k_is)
    (case aC_InvalidAlphabet => k_is)
    (case xL_InvalidAlphabet => k_is)
    (case sa_InvalidAlphabet => k_is)
    (case ga_InvalidAlphabet => k_is)
    (case gg_InvalidAlphabet => k_is)
    (case kC_InvalidAlphabet => k_is)
    (case eC_InvalidAlphabet => k_is)
    (case tC_InvalidAlphabet => k_is)
    (case hC_InvalidAlphabet => k_is)
    (case n_InvalidAlphabet_given => k_is)
    (case n_InvalidAlphabet_code => k_is)
    (case s_InvalidAlphabet_AheadError => k_is)
    (case s_InvalidAlphabet_Missing => k_is)
    (case s_InvalidAlphabet_NothingLeft => k_is)
    (case aC_InvalidLine => k_is)
    (case xL_InvalidLine => k_is)
    (case sa_InvalidLine => k_is)
    (case ga_InvalidLine => k_is)
    (case gg_InvalidLine => k_is)
    (case kC_InvalidLine => k_is)
    (case eC_InvalidLine => k_is)
    (case tC_InvalidLine => k_is)
    (case hC_InvalidLine => k_is)
    (case n_InvalidLine_at => k_is)
    (case n_InvalidLine_code => k_is)
    (case s_InvalidLine_AheadError => k_is)
    (case s_InvalidLine_Missing => k_is)
    (case s_InvalidLine_NothingLeft => k_is)
    (case aC_InvalidWord => k_is)
    (case xL_InvalidWord => k_is)
    (case sa_InvalidWord => k_is)
    (case ga_InvalidWord => k_is)
    (case gg_InvalidWord => k_is)
    (case kC_InvalidWord => k_is)
    (case eC_InvalidWord => k_is)
    (case tC_InvalidWord => k_is)
    (case hC_InvalidWord => k_is)
    (case n_InvalidWord_given => k_is)
    (case n_InvalidWord_code => k_is)
    (case s_InvalidWord_AheadError => k_is)
    (case s_InvalidWord_Missing => k_is)
    (case s_InvalidWord_NothingLeft => k_is)
    (case aC_TooMany => k_is)
    (case xL_TooMany => k_is)
    (case sa_TooMany => k_is)
    (case ga_TooMany => k_is)
    (case gg_TooMany => k_is)
    (case kC_TooMany => k_is)
    (case eC_TooMany => k_is)
    (case tC_TooMany => k_is)
    (case hC_TooMany => k_is)
    (case n_TooMany_subject => k_is)
    (case n_TooMany_most => k_is)
    (case n_TooMany_code => k_is)
    (case s_TooMany_AheadError => k_is)
    (case s_TooMany_Missing => k_is)
    (case s_TooMany_NothingLeft => k_is)
    (case sf_Formula => k_is)
    (case ia_Formula => k_is)
    (case ib_Formula => k_is)
    (case ic_Formula => k_is)
    (case id_Formula => k_is)
    (case ie_Formula => k_is)
    (case if_Formula => k_is)
    (case il_Formula => k_is)
    (case a_AlphabetsDiffer___init => k_is)
    (case t_AlphabetsDiffer___init => k_is)
    (case l_AlphabetsDiffer___init => k_is)
    (case c_AlphabetsDiffer___init => k_is)
    (case k_AlphabetsDiffer___init => k_is)
    (case a_Formula___and => k_is)
    (case i_Formula___and => k_is)
    (case l_Formula___and => k_is)
    (case c_Formula___and => k_is)
    (case k_Formula___and => k_is)
    (case a_Formula___contains => k_is)
    (case i_Formula___contains => k_is)
    (case l_Formula___contains => k_is)
    (case c_Formula___contains => k_is)
    (case k_Formula___contains => k_is)
    (case a_Formula___eq => k_is)
    (case i_Formula___eq => k_is)
    (case l_Formula___eq => k_is)
    (case c_Formula___eq => k_is)
    (case k_Formula___eq => k_is)
    (case a_Formula___init => k_is)
    (case i_Formula___init => k_is)
    (case l_Formula___init => k_is)
    (case c_Formula___init => k_is)
    (case k_Formula___init => k_is)
    (case kd_Formula___init => rfl)
    (case kn_Formula___init_first => k_is)
    (case a_Formula___len => k_is)
    (case i_Formula___len => k_is)
    (case l_Formula___len => k_is)
    (case c_Formula___len => k_is)
    (case k_Formula___len => k_is)
    (case a_Formula___neg => k_is)
    (case i_Formula___neg => k_is)
    (case l_Formula___neg => k_is)
    (case c_Formula___neg => k_is)
    (case k_Formula___neg => k_is)
    (case a_Formula___or => k_is)
    (case i_Formula___or => k_is)
    (case l_Formula___or => k_is)
    (case c_Formula___or => k_is)
    (case k_Formula___or => k_is)
    (case a_Formula___repr => k_is)
    (case i_Formula___repr => k_is)
    (case l_Formula___repr => k_is)
    (case c_Formula___repr => k_is)
    (case k_Formula___repr => k_is)
    (case a_Formula__both_lines => k_is)
    (case i_Formula__both_lines => k_is)
    (case l_Formula__both_lines => k_is)
    (case c_Formula__both_lines => k_is)
    (case k_Formula__both_lines => k_is)
    (case a_Formula_alphabet => k_is)
    (case qg_Formula_alphabet => k_is)
    (case qt_Formula_alphabet => k_is)
    (case qr_Formula_alphabet => k_is)
    (case l_Formula_alphabet => k_is)
    (case c_Formula_alphabet => k_is)
    (case k_Formula_alphabet => k_is)
    (case a_Formula_first => k_is)
    (case qg_Formula_first => k_is)
    (case qt_Formula_first => k_is)
    (case qr_Formula_first => k_is)
    (case l_Formula_first => k_is)
    (case c_Formula_first => k_is)
    (case k_Formula_first => k_is)
    (case a_Formula_lines => k_is)
    (case i_Formula_lines => k_is)
    (case l_Formula_lines => k_is)
    (case c_Formula_lines => k_is)
    (case k_Formula_lines => k_is)
    (case a_Formula_truths => k_is)
    (case i_Formula_truths => k_is)
    (case l_Formula_truths => k_is)
    (case c_Formula_truths => k_is)
    (case k_Formula_truths => k_is)
    (case a_InvalidAlphabet___init => k_is)
    (case t_InvalidAlphabet___init => k_is)
    (case l_InvalidAlphabet___init => k_is)
    (case c_InvalidAlphabet___init => k_is)
    (case k_InvalidAlphabet___init => k_is)
    (case a_InvalidLine___init => k_is)
    (case t_InvalidLine___init => k_is)
    (case l_InvalidLine___init => k_is)
    (case c_InvalidLine___init => k_is)
    (case k_InvalidLine___init => k_is)
    (case a_InvalidWord___init => k_is)
    (case t_InvalidWord___init => k_is)
    (case l_InvalidWord___init => k_is)
    (case c_InvalidWord___init => k_is)
    (case k_InvalidWord___init => k_is)
    (case a_TooMany___init => k_is)
    (case t_TooMany___init => k_is)
    (case l_TooMany___init => k_is)
    (case c_TooMany___init => k_is)
    (case k_TooMany___init => k_is)
    (case a_accepts => k_is)
    (case l_accepts => k_is)
    (case c_accepts => k_is)
    (case k_accepts => k_is)
    (case a_all_got => k_is)
    (case l_all_got => k_is)
    (case c_all_got => k_is)
    (case k_all_got => k_is)
    (case a_bag => k_is)
    (case l_bag => k_is)
    (case c_bag => k_is)
    (case k_bag => k_is)
    (case a_field => k_is)
    (case l_field => k_is)
    (case c_field => k_is)
    (case k_field => k_is)
    (case a_got => k_is)
    (case l_got => k_is)
    (case c_got => k_is)
    (case k_got => k_is)
    (case a_moved => k_is)
    (case l_moved => k_is)
    (case c_moved => k_is)
    (case k_moved => k_is)
    (case a_lnext => k_is)
    (case l_lnext => k_is)
    (case c_lnext => k_is)
    (case k_lnext => k_is)
    (case a_of => k_is)
    (case l_of => k_is)
    (case c_of => k_is)
    (case k_of => k_is)
    (case a_pull => k_is)
    (case l_pull => k_is)
    (case c_pull => k_is)
    (case k_pull => k_is)
    (case a_same => k_is)
    (case l_same => k_is)
    (case c_same => k_is)
    (case k_same => k_is)
    (case a_saying => k_is)
    (case l_saying => k_is)
    (case c_saying => k_is)
    (case k_saying => k_is)
    (case a_signs => k_is)
    (case l_signs => k_is)
    (case c_signs => k_is)
    (case k_signs => k_is)
    (case a_some_signs => k_is)
    (case l_some_signs => k_is)
    (case c_some_signs => k_is)
    (case k_some_signs => k_is)
    (case a_text => k_is)
    (case l_text => k_is)
    (case c_text => k_is)
    (case k_text => k_is)
    (case a_wide_so => k_is)
    (case l_wide_so => k_is)
    (case c_wide_so => k_is)
    (case k_wide_so => k_is)
    (case a_are_letters => k_is)
    (case l_are_letters => k_is)
    (case c_are_letters => k_is)
    (case k_are_letters => k_is)
    (case a_are_refs => k_is)
    (case l_are_refs => k_is)
    (case c_are_refs => k_is)
    (case k_are_refs => k_is)
    (case a_can_stand => k_is)
    (case l_can_stand => k_is)
    (case c_can_stand => k_is)
    (case k_can_stand => k_is)
    (case a_check_lines => k_is)
    (case l_check_lines => k_is)
    (case c_check_lines => k_is)
    (case k_check_lines => k_is)
    (case a_is_alphabet => k_is)
    (case l_is_alphabet => k_is)
    (case c_is_alphabet => k_is)
    (case k_is_alphabet => k_is)
    (case a_is_below => k_is)
    (case l_is_below => k_is)
    (case c_is_below => k_is)
    (case k_is_below => k_is)
    (case a_is_listed => k_is)
    (case l_is_listed => k_is)
    (case c_is_listed => k_is)
    (case k_is_listed => k_is)
    (case a_is_number => k_is)
    (case l_is_number => k_is)
    (case c_is_number => k_is)
    (case k_is_number => k_is)
    (case a_is_prime => k_is)
    (case l_is_prime => k_is)
    (case c_is_prime => k_is)
    (case k_is_prime => k_is)
    (case a_is_word => k_is)
    (case l_is_word => k_is)
    (case c_is_word => k_is)
    (case k_is_word => k_is)
    (case a_last_truths => k_is)
    (case l_last_truths => k_is)
    (case c_last_truths => k_is)
    (case k_last_truths => k_is)
    (case a_law => k_is)
    (case l_law => k_is)
    (case c_law => k_is)
    (case k_law => k_is)
    (case a_moved_line => k_is)
    (case l_moved_line => k_is)
    (case c_moved_line => k_is)
    (case k_moved_line => k_is)
    (case a_next_truths => k_is)
    (case l_next_truths => k_is)
    (case c_next_truths => k_is)
    (case k_next_truths => k_is)
    (case z_abs => k_is)
    (case z_all => k_is)
    (case z_any => k_is)
    (case z_bool => k_is)
    (case z_dict => k_is)
    (case z_enumerate => k_is)
    (case z_int => k_is)
    (case z_isinstance => k_is)
    (case z_len => k_is)
    (case z_list => k_is)
    (case z_max => k_is)
    (case z_min => k_is)
    (case z_range => k_is)
    (case z_repr => k_is)
    (case z_sorted => k_is)
    (case z_str => k_is)
    (case z_tuple => k_is)
    (case z_zip => k_is)
    (case c_MOST_LETTERS => k_is)
    (case a_PRIMES => k_is)
    (case l_PRIMES => k_is)
    (case ecL => rfl)
    (case lcL => k_is)
    (case epL => rfl)
    (case hcL => kernel_rfl)
    (case npL => kernel_rfl)
    (case tbL => exact PySem.W.km_tabs_of Y _ (by k_mem))
    (case ecL_wide_so => rfl)
    (case lcL_wide_so => k_is)
    (case epL_wide_so => rfl)
    (case hcL_wide_so => kernel_rfl)
    (case npL_wide_so => kernel_rfl)
    (case tbL_wide_so => exact PySem.W.km_tabs_of Y _ (by k_mem))
    (case neP_wide_so => decide)

