import PyProof.Rows.All
import Wide.All
import OpenK.AllK
import Wide.FinOn
import HandS.ForMost
import HandS.IsInst
import HandS.Flow
import HandS.Zip
import HandS.Walk
import HandS.StrMore
import HandS.Codes
import HandS.Nested
import HandS.Lambda
import HandS.ExcInit
import HandS.ExcField
import HandS.WordsExc
import HandS.HotCalls
import HandS.MakeKwOnly
import HandS.Replace
import HandS.EndTab
import HandS.OwnEq
import HandS.Property
import HandS.NamedTupGet
import HandS.TupAny
import HandS.CallRecv
import HandS.Conv
import HandS.Star
import HandS.TupMul
import HandS.MethStar
import HandS.More
import HandS.SortInts
import HandS.ClsMeth
import HandS.FStr
import HandS.RaiseMore
import HandS.Small
import HandS.Defaults
import HandS.DictComp
import HandS.RevRange
import HandS.Keys
import KE.KOpsOwn
import HandS.Style
import HandS.Set
import HandS.SetFor
import HandS.Strs
import PyProof.Draws
import KE.GoesComp
import KE.GoesRaise
import PySem.Challenge.RW_onlyahead_k20_circuits_refused
set_option Elab.async false
set_option linter.all false
set_option maxRecDepth 100000
set_option maxHeartbeats 4000000
namespace MyP
open PySem PySem.Spec PyProof.Rows L2
/-! ### heaps, the bag -/
/-- all that was tracked stays as it was, but for b -/
def Kp (b : Addr) (H H' : Hp) : Prop := ∀ c o, H c = some o → c ≠ b → H' c = some o
theorem Kp.refl (b : Addr) (H : Hp) : Kp b H H := fun _ _ h _ => h
theorem Kp.trans {b : Addr} {H H1 H2 : Hp} (x : Kp b H H1) (y : Kp b H1 H2) : Kp b H H2 := fun c o h n => y c o (x c o h n) n
theorem Kp.same {b : Addr} {H H1 : Hp} (x : Same H H1) : Kp b H H1 := fun c o h _ => x c o h
theorem Kp.seq {K : PySem.W.Frag} {b a : Addr} {H H' : Hp} {xs : List V} (e : Kp b H H') (n : a ≠ b) (h : SqL K H a xs) : SqL K H' a xs := by
  rcases h with (h | ⟨o, h⟩) | h
  · exact .inl (.inl (e _ _ h n))
  · exact .inl (.inr ⟨o, e _ _ h n⟩)
  · exact .inr h
theorem Kp.tup {K : PySem.W.Frag} {b a : Addr} {H H' : Hp} {xs : List V} (e : Kp b H H') (n : a ≠ b) (h : SqT K H a xs) : SqT K H' a xs := by
  rcases h with (h | ⟨o, h⟩) | h
  · exact .inl (.inl (e _ _ h n))
  · exact .inl (.inr ⟨o, e _ _ h n⟩)
  · exact .inr h
theorem same_tup {K : PySem.W.Frag} {a : Addr} {H H' : Hp} {xs : List V} (e : Same H H') (h : SqT K H a xs) : SqT K H' a xs := by
  rcases h with (h | ⟨o, h⟩) | h
  · exact .inl (.inl (e _ _ h))
  · exact .inl (.inr ⟨o, e _ _ h⟩)
  · exact .inr h
theorem same_upd {H : Hp} {p : Addr} {o : HO} (h : H p = none) : Same H (upd H p o) := fun b x e => by
  rw [upd_ne (ne_of_none e h)]
  exact e
theorem Kp.put {b : Addr} {H H1 : Hp} {o : HO} (x : Kp b H H1) : Kp b H (upd H1 b o) := fun c u h n => by
  rw [upd_ne n]
  exact x c u h n
/-- an object that is new since H may change -/
theorem Kp.mut {b p : Addr} {H H1 : Hp} {o : HO} (x : Kp b H H1) (n : H p = none) : Kp b H (upd H1 p o) := fun c u h k => by
  rw [upd_ne (ne_of_none h n)]
  exact x c u h k
theorem same_mut {p : Addr} {H H1 : Hp} {o : HO} (x : Same H H1) (n : H p = none) : Same H (upd H1 p o) := fun c u h => by
  rw [upd_ne (ne_of_none h n)]
  exact x c u h
theorem ne_none {H : Hp} {a b : Addr} {o : HO} (h : H b = none) (h' : H a = some o) : b ≠ a := (ne_of_none h' h).symm
theorem sz {n : Nat} (h : n ≤ 100000) : n ≤ sizeLine := Nat.le_trans h (by decide)
theorem szl {n : Nat} (h : n < 100000) : n < sizeLine := Nat.lt_of_lt_of_le h (by decide)
structure BagAt (b l : Addr) (H : Hp) : Prop where
  at_ : ∃ (i r m c : Int) (ns : List Int), H b = some (.lst [.ref l, .int i, .int r, .int m, .int c]) ∧ H l = some (.lst (ns.map V.int)) ∧ ns.length ≤ 63 ∧ 0 ≤ i ∧ i ≤ ns.length ∧ 0 ≤ r ∧ 0 ≤ m ∧ m < 2147483629
  ne : l ≠ b
theorem BagAt.there {b l : Addr} {H : Hp} (x : BagAt b l H) : ∃ o, H b = some o := by
  obtain ⟨⟨i, r, m, c, ns, h, _⟩, _⟩ := x
  exact ⟨_, h⟩
/-- an object new in H is not the bag -/
theorem BagAt.nb {b l p : Addr} {H : Hp} (x : BagAt b l H) (h : H p = none) : p ≠ b := by
  obtain ⟨o, e⟩ := x.there
  exact ne_none h e
theorem BagAt.nl {b l p : Addr} {H : Hp} (x : BagAt b l H) (h : H p = none) : p ≠ l := by
  obtain ⟨⟨i, r, m, c, ns, _, e, _⟩, _⟩ := x
  exact ne_none h e
theorem BagAt.same {b l : Addr} {H H' : Hp} (x : BagAt b l H) (s : Same H H') : BagAt b l H' := by
  obtain ⟨⟨i, r, m, c, ns, h1, h2, h3⟩, n⟩ := x
  exact ⟨⟨i, r, m, c, ns, s _ _ h1, s _ _ h2, h3⟩, n⟩
/-- a store into another list keeps the bag -/
theorem BagAt.mut {b l p : Addr} {H : Hp} {o : HO} (x : BagAt b l H) (n1 : p ≠ b) (n2 : p ≠ l) : BagAt b l (upd H p o) := by
  obtain ⟨⟨i, r, m, c, ns, h1, h2, h3⟩, n⟩ := x
  exact ⟨⟨i, r, m, c, ns, by rw [upd_ne n1.symm]; exact h1, by rw [upd_ne n2.symm]; exact h2, h3⟩, n⟩
/-- what is new behind a draw was new ahead of it -/
theorem Kp.free {b l p : Addr} {H H1 : Hp} (k : Kp b H H1) (B : BagAt b l H1) (h : H1 p = none) : H p = none := by
  cases e : H p with
  | none => rfl
  | some o =>
    by_cases hb : p = b
    · obtain ⟨u, e2⟩ := B.there
      rw [hb, e2] at h
      cases h
    · rw [k _ _ e hb] at h
      cases h
/-! ### steps of a reading -/
/-- a word that the steps below do not open -/
def Stp (p : Prop) : Prop := True → p
theorem Stp.of {p : Prop} (h : Stp p) : p := h True.intro
theorem Stp.mk {p : Prop} (h : p) : Stp p := fun _ => h
/-! ### what follows a statement, by a letter -/
structure SeqN (N R : L2.St → Hp → Prop) : Prop where
  of : ∀ σ H, R σ H → N σ H
theorem SeqN.go {N R : L2.St → Hp → Prop} {σ : L2.St} {H : Hp} (h : SeqN N R) (r : R σ H) : N σ H := h.of σ H r
theorem gname_use {i : Nat} {x : V} {σ : L2.St} {H : Hp} {N : L2.St → Hp → Prop} (h : N (σ.set i (some x)) H) : gName i x σ H N := h
theorem next_use {n : L2.St → Hp → Prop} {r : VK} {b c : L2.St → Hp → Prop} {σ : L2.St} {H : Hp} (h : n σ H) : tNext ⟨n, r, b, c⟩ σ H := h
theorem seq_use {s rest : TS} {n : L2.St → Hp → Prop} {r : VK} {b c : L2.St → Hp → Prop} {σ : L2.St} {H : Hp} (h : ∀ N : L2.St → Hp → Prop, SeqN N (fun σ H => rest ⟨n, r, b, c⟩ σ H) → s ⟨N, r, b, c⟩ σ H) : tSeq s rest ⟨n, r, b, c⟩ σ H := h _ ⟨fun _ _ h => h⟩
local macro_rules | `(tactic| walk_at "side") => `(tactic| first
  | rfl
  | (show (0 : Int) < _; first | decide | omega)
  | exact Or.inr (And.intro (by decide) (by decide))
  | exact And.intro (by decide) (by decide)
  | exact And.intro (by omega) (by omega)
  | exact Or.inl (And.intro (by omega) (by omega))
  | decide
  | omega
  | exact sz (by first | decide | omega | (simp; done))
  | exact szl (by first | decide | omega | (simp; done)))
local macro_rules | `(tactic| walk_at "s") => `(tactic| first
  | refine ⟨_, rfl, ?_⟩
  | refine ⟨_, _, rfl, rfl, ?_⟩
  | refine .inl ⟨_, rfl, ?_⟩
  | refine ⟨_, _, rfl, by assumption, ?_⟩
  | refine ⟨_, _, _, _, rfl, rfl, SqL.of upd_same, rfl, ?_⟩
  | refine ⟨_, _, _, _, rfl, rfl, SqL.of (by assumption), (by rfl), ?_⟩
  | refine ⟨_, _, _, _, rfl, rfl, upd_same, rfl, ?_⟩
  | refine ⟨_, _, _, _, rfl, rfl, (by assumption), (by rfl), ?_⟩
  | refine And.intro ⟨_, rfl⟩ ?_
  | refine And.intro (by walk_at "side") ?_
  | refine iteT ?_
  | refine iteF ?_)
local macro_rules | `(tactic| walk_at "ss") => `(tactic| repeat walk_at "s")
local macro_rules | `(tactic| walk_at "n") => `(tactic| first
  | with_reducible refine MyP.seq_use (fun _ _ => ?_)
  | with_reducible refine MyP.SeqN.go (by assumption) ?_
  | with_reducible refine MyP.gname_use ?_
  | with_reducible refine MyP.next_use ?_
  | walk_at "s")
local macro_rules | `(tactic| walk_at "nn") => `(tactic| repeat walk_at "n")
theorem iteP {c A B : Prop} [Decidable c] (h : c) (x : A) : if c then A else B := by
  rw [if_pos h]
  exact x
theorem iteN {c A B : Prop} [Decidable c] (h : ¬ c) (x : B) : if c then A else B := by
  rw [if_neg h]
  exact x
theorem at_inN {α : Type} {xs : List α} {i : Int} (h0 : 0 ≤ i) (h1 : i < xs.length) : ∃ v, atI xs i = some v ∧ v ∈ xs := by
  have h2 : i.toNat < xs.length := by omega
  refine ⟨xs[i.toNat], ?_, List.getElem_mem h2⟩
  have e : ((i.toNat : Nat) : Int) = i := by omega
  have e2 : atI xs ((i.toNat : Nat) : Int) = some xs[i.toNat] := atI_nat (List.getElem?_eq_getElem h2)
  rw [e] at e2
  exact e2
theorem ixN_in {n : Nat} {k : Int} (h0 : 0 ≤ k) (h1 : k < n) : ixN n k = some k.toNat := by
  unfold ixN
  rw [if_pos h0, if_pos h1]
theorem at_in {xs : List V} {i : Int} (h0 : 0 ≤ i) (h1 : i < xs.length) : ∃ v, atI xs i = some v ∧ v ∈ xs := at_inN h0 h1
theorem any2 {K : PySem.W.Frag} {t a b : String} {r1 r2 : Bool} (h1 : kitB t a = some r1) (h2 : kitB t b = some r2) : PySem.W.kitAny K (.type t) [.type a, .type b] = some (r1 || r2) := by
  refine kitAny_cons (kit_ty h1) (fun e => kitAny_cons (kit_ty h2) (fun e2 => ?_) (fun e2 => ?_)) (fun e => ?_)
  · rw [e, e2]
    rfl
  · rw [e2, Bool.or_true]
  · rw [e, Bool.true_or]
local macro_rules | `(tactic| walk_at "ty") => `(tactic| first | exact .base .non | exact .base (.bl _) | exact .base (.int _) | exact .base (.str _) | assumption)
local macro_rules | `(tactic| walk_at "si") => `(tactic| first
  | walk_at "s"
  | refine ⟨_, _, _, _, false, rfl, ClsV.ty _, (by assumption), kit_ty (by assumption), ?_⟩
  | refine ⟨_, _, _, _, true, rfl, ClsV.ty _, (by walk_at "ty"), kit_ty (by decide +kernel), ?_⟩
  | refine ⟨_, _, _, _, false, rfl, ClsV.ty _, (by walk_at "ty"), kit_ty (by decide +kernel), ?_⟩
  | refine ⟨_, _, _, _, _, true, rfl, upd_same, .cons (.ty _) (.cons (.ty _) .nil), (by walk_at "ty"), any2 (r1 := true) (r2 := false) (by decide +kernel) (by decide +kernel), ?_⟩
  | refine ⟨_, _, _, _, _, true, rfl, upd_same, .cons (.ty _) (.cons (.ty _) .nil), (by walk_at "ty"), any2 (r1 := false) (r2 := true) (by decide +kernel) (by decide +kernel), ?_⟩
  | refine ⟨_, _, _, _, _, false, rfl, upd_same, .cons (.ty _) (.cons (.ty _) .nil), (by walk_at "ty"), any2 (r1 := false) (r2 := false) (by decide +kernel) (by decide +kernel), ?_⟩
  | intro p hp)
local macro_rules | `(tactic| walk_at "ssi") => `(tactic| repeat walk_at "si")

/-! ### classes -/
theorem kb_of {K : PySem.W.Frag} {x qual : Str} {st : Stmt} {f : Addr} {fd : FuncData} {ps ks : List Str} {n : Nat} (F : Fun K x qual st f fd)
    (h : ∀ (kV doc pm : Value) (an : Option Addr) (cdv ct : Value) (us ws : List Value), us.length = n → ws.length = ks.length → bindArgs (PySem.W.fnOf x qual (defArgs st) (defBody st) (defScope st) .none kV doc pm an cdv ct) ⟨us, ks.zip ws⟩ = pure (ps.zip (us ++ ws))) :
    KBn K fd ps n ks (fun us ws => us ++ ws) (fun vs zs => vs ++ zs) := by
  obtain ⟨oc, od, kV, doc, pm, an, cdv, ct, osl, rfl, lk, hcd⟩ := F.ex
  exact ⟨fun s us ws _ h1 h2 => .of_eq (h kV doc pm an cdv ct us ws h1 h2), fun a b => a.append b⟩
theorem exm1 {K : PySem.W.Frag} {cls : Value} {S : Addr} {b : Bool} (bx : PySem.W.subIn K (.ref S) (.type "BaseException") = some true) (ic : PySem.W.isClsIn K S = true) (ty : PySem.W.typeIn K (.ref S) = some (.type "type")) (sb : PySem.W.subIn K cls (.ref S) = some b) :
    PySem.W.exmOne K cls (.ref S) = some b := by
  have t1 : (PySem.W.subIn K (.ref S) (.type "BaseException") == some true) = true := by rw [bx] <;> rfl
  have t2 : ((PySem.W.clsIn K S).isSome && PySem.W.typeIn K (.ref S) == some (.type "type")) = true := by
    rw [show (PySem.W.clsIn K S).isSome = true from ic, ty] <;> rfl
  show (if _ = true then (if ((PySem.W.clsIn K S).isSome && PySem.W.typeIn K (.ref S) == some (.type "type")) = true then PySem.W.subIn K cls (.ref S) else none) else none) = some b
  rw [if_pos t1, if_pos t2, sb]
theorem exm3 {K : PySem.W.Frag} {cls : Value} {S1 S2 S3 : Addr} {b2 b3 : Bool} (bx1 : PySem.W.subIn K (.ref S1) (.type "BaseException") = some true) (ic1 : PySem.W.isClsIn K S1 = true) (ty1 : PySem.W.typeIn K (.ref S1) = some (.type "type")) (sb1 : PySem.W.subIn K cls (.ref S1) = some true)
    (bx2 : PySem.W.subIn K (.ref S2) (.type "BaseException") = some true) (ic2 : PySem.W.isClsIn K S2 = true) (ty2 : PySem.W.typeIn K (.ref S2) = some (.type "type")) (sb2 : PySem.W.subIn K cls (.ref S2) = some b2)
    (bx3 : PySem.W.subIn K (.ref S3) (.type "BaseException") = some true) (ic3 : PySem.W.isClsIn K S3 = true) (ty3 : PySem.W.typeIn K (.ref S3) = some (.type "type")) (sb3 : PySem.W.subIn K cls (.ref S3) = some b3) :
    PySem.W.exmAny K cls [.ref S1, .ref S2, .ref S3] = some true := by
  unfold PySem.W.exmAny PySem.W.exmAny PySem.W.exmAny PySem.W.exmAny
  rw [exm1 bx1 ic1 ty1 sb1, exm1 bx2 ic2 ty2 sb2, exm1 bx3 ic3 ty3 sb3]
  rfl


section
open LamX NdefX
/-! ### a call over a wider ground: what the caller's cells hold stands fast while the callee runs -/
/-- the heap h where only what stands in the ground g and the cells cs is seen -/
def wider (h g : Heap) (cs : List Addr) : Heap := PySem.W.hideAll h ((List.range h.objs.size).filter fun a => (g.get? a).isNone && !cs.contains a)
theorem wider_size (h g : Heap) (cs : List Addr) : (wider h g cs).objs.size = h.objs.size := PySem.W.hideAll_size _ _
theorem wider_get {h g : Heap} {cs : List Addr} {a : Addr} {o : Obj} (e : h.get? a = some o) (w : (g.get? a).isSome = true ∨ a ∈ cs) : (wider h g cs).get? a = some o := by
  refine PySem.W.hideAll_get _ e fun hm => ?_
  have q := (List.mem_filter.mp hm).2
  rw [Bool.and_eq_true] at q
  rcases w with w | w
  · have q1 := q.1
    cases z : g.get? a with
    | none => rw [z] at w; cases w
    | some u => rw [z] at q1; cases q1
  · have q2 := q.2
    rw [List.contains_iff_mem.mpr w] at q2
    cases q2
theorem of_wider {h g : Heap} {cs : List Addr} {a : Addr} {o : Obj} (e : (wider h g cs).get? a = some o) : h.get? a = some o ∧ ((g.get? a).isSome = true ∨ a ∈ cs) := by
  have e1 := PySem.W.of_hideAll _ e
  refine ⟨e1, ?_⟩
  by_cases w : (g.get? a).isSome = true ∨ a ∈ cs
  · exact w
  · have hm : a ∈ (List.range h.objs.size).filter fun a => (g.get? a).isNone && !cs.contains a := by
      refine List.mem_filter.mpr ⟨List.mem_range.mpr (Heap.lt_size e1), ?_⟩
      have w1 : ¬ (g.get? a).isSome = true := fun z => w (.inl z)
      have w2 : a ∉ cs := fun z => w (.inr z)
      cases z : g.get? a with
      | some u => rw [z] at w1; exact absurd rfl w1
      | none =>
        have : cs.contains a = false := by
          cases k : cs.contains a with
          | false => rfl
          | true => exact absurd (List.contains_iff_mem.mp k) w2
        rw [this]
        rfl
    have z : (wider h g cs).get? a = none := PySem.W.hideAll_none _ hm
    rw [z] at e
    cases e
/-- the addresses of a frame's cells -/
def cellsOf (env : PySem.Env) : List Addr := env.cells.map (·.2)
theorem mem_cellsOf {env : PySem.Env} {y : Str} {c : Addr} (e : env.cells.lookup y = some c) : c ∈ cellsOf env := List.mem_map.mpr ⟨(y, c), PySem.mem_of_lookup e, rfl⟩
/-- each cell of the frame stands under a name: two entries never share a name -/
def CellsNd (env : PySem.Env) : Prop := ∀ y c, (y, c) ∈ env.cells → env.cells.lookup y = some c
theorem frames_wider {h base base' : Heap} : ∀ {l : List PySem.Env}, h.FunFrames base l → (∀ b ∈ frs l, base'.get? b = none) → h.FunFrames base' l
  | [], _, _ => trivial
  | env :: r, x, n => by
    obtain ⟨hk, ⟨L, o, hf, hn, ho, hd⟩, hr⟩ := x
    refine ⟨hk, ⟨L, o, hf, n L ?_, ho, hd⟩, frames_wider hr fun b hb => n b ?_⟩
    · unfold frs
      rw [List.filterMap_cons, hf]
      exact List.mem_cons_self ..
    · unfold frs
      rw [List.filterMap_cons, hf]
      exact List.mem_cons_of_mem _ hb
section
variable {X : Cx} {pins : List (Addr × Obj)} {σ : L2.St} {H : Hp} {s : Shared}
theorem wider_ok (I : Inv X pins σ H s) (nd : CellsNd X.env) (hfn : ∀ y c, X.env.cells.lookup y = some c → X.s_0.heap.objs.size ≤ c) :
    Env0 X.prog X.w X.K X.mg (wider s.heap X.base (cellsOf X.env)) X.A X.stack s H ∧ (∀ b o, X.base.get? b = some o → (wider s.heap X.base (cellsOf X.env)).get? b = some o) := by
  have up : ∀ b o, X.base.get? b = some o → (wider s.heap X.base (cellsOf X.env)).get? b = some o := fun b o e => wider_get (I.bk b o e) (.inl (by rw [e]; rfl))
  have inCell : ∀ c ∈ cellsOf X.env, ∃ y, X.env.cells.lookup y = some c := fun c hc => by
    obtain ⟨⟨y, c'⟩, hm, e⟩ := List.mem_map.mp hc
    have e : c' = c := e
    subst e
    exact ⟨y, nd y c' hm⟩
  refine ⟨⟨I.ok.frames, ⟨I.ok.mod.kin.keeps up, I.ok.mod.glob.keeps up, ?_, I.ok.mod.nolimit.keeps up⟩, fun b o e => ?_, ?_, frames_wider I.stack fun b hb => ?_, I.stkFree, I.hok, I.bare⟩, up⟩
  · obtain ⟨mb, h1, h2⟩ := I.ok.mod.blt
    exact ⟨mb, h1.keeps up, h2⟩
  · obtain ⟨e1, w⟩ := of_wider e
    refine ⟨e1, ?_⟩
    rcases w with w | w
    · obtain ⟨u, hu⟩ := Option.isSome_iff_exists.mp w
      exact (I.bs b u hu).2
    · obtain ⟨y, hy⟩ := inCell b w
      exact I.freeC y b hy
  · rw [wider_size]
    exact Nat.le_refl _
  · cases q : (wider s.heap X.base (cellsOf X.env)).get? b with
    | none => rfl
    | some o =>
      exfalso
      obtain ⟨e1, w⟩ := of_wider q
      rcases List.mem_cons.mp (I.stkSub b hb) with z | z
      · rcases w with w | w
        · obtain ⟨u, hu⟩ := Option.isSome_iff_exists.mp w
          have h1 := Heap.lt_size hu
          have h2 := I.ok.bsz
          have h3 := I.ok.above
          rw [z] at h1
          exact Nat.lt_irrefl _ (Nat.lt_of_lt_of_le h1 (Nat.le_trans h2 h3))
        · obtain ⟨y, hy⟩ := inCell b w
          exact I.cne y b hy z
      · rcases w with w | w
        · obtain ⟨u, hu⟩ := Option.isSome_iff_exists.mp w
          exact I.ok.nofr hu z
        · obtain ⟨y, hy⟩ := inCell b w
          obtain ⟨_, o2, ho2, _⟩ := I.ok.funs.mem z
          have h1 := Heap.lt_size ho2
          have h2 := hfn y b hy
          exact Nat.lt_irrefl _ (Nat.lt_of_lt_of_le h1 h2)
/-- what the captured cells hold, seen from the wider ground -/
theorem cells_wider {cl : List (Str × Addr)} {fr : List Str} {ws : List (Option V)} (C : CellsAt cl fr ws s.heap H) (sub : ∀ y c, cl.lookup y = some c → X.env.cells.lookup y = some c) : CellsAt cl fr ws (wider s.heap X.base (cellsOf X.env)) (fun _ => none) := by
  have kp : ∀ y c, cl.lookup y = some c → ∀ v, s.heap.IsCell c v → (wider s.heap X.base (cellsOf X.env)).IsCell c v := fun y c e v ⟨o, ho, hd⟩ => ⟨o, wider_get ho (.inr (mem_cellsOf (sub y c e))), hd⟩
  refine ⟨C.len, fun y c e => ⟨rfl, ?_⟩, C.inj, fun i y e => ?_⟩
  · obtain ⟨_, v, z⟩ := C.all y c e
    exact ⟨v, kp y c e v z⟩
  · obtain ⟨c, hc, hv⟩ := C.has i y e
    refine ⟨c, hc, fun v ev => ?_⟩
    obtain ⟨u, r, z⟩ := hv v ev
    exact ⟨u, r, kp y c hc _ z⟩
/-- .. and then in every state over that ground -/
theorem cells_narrow {P : Program} {w : World} {K : PySem.W.Frag} {mg : Str → Option Value} {base : Heap} {A : Around} {outer : List PySem.Env} {cl : List (Str × Addr)} {fr : List Str} {ws : List (Option V)} (C : CellsAt cl fr ws base (fun _ => none))
    (bs : ∀ b o, base.get? b = some o → s.heap.get? b = some o ∧ H b = none) : CellsAt cl fr ws s.heap H := by
  have kp : ∀ c v, base.IsCell c v → s.heap.IsCell c v := fun c v ⟨o, ho, hd⟩ => ⟨o, (bs c o ho).1, hd⟩
  refine ⟨C.len, fun y c e => ?_, C.inj, fun i y e => ?_⟩
  · obtain ⟨_, v, z⟩ := C.all y c e
    refine ⟨?_, v, kp c v z⟩
    obtain ⟨o, ho, _⟩ := z
    exact (bs c o ho).2
  · obtain ⟨c, hc, hv⟩ := C.has i y e
    refine ⟨c, hc, fun v ev => ?_⟩
    obtain ⟨u, r, z⟩ := hv v ev
    exact ⟨u, r, kp c _ z⟩
end
/-- what is told of the ground over which a callee runs: it is as wide as X.base, and tells what the cells hold that X's names σ stand in -/
structure Ground (X : Cx) (σ : L2.St) (base : Heap) : Prop where
  ok : X.Ok
  up : ∀ b o, X.base.get? b = some o → base.get? b = some o
  cells : ∀ (cl : List (Str × Addr)) (fr : List Str) (js : List Nat), Caps X cl fr js → CellsAt cl fr (js.map (slotAt σ)) base (fun _ => none)
/-- f(e, ..) over the wider ground: the callee's promise is told of every such ground -/
def tCallX (X : Cx) (CX : CXT) (k : Nat) (f : Addr) (fd : FuncData) (ps : List Str) (E : XK) (t : TA) : TE := fun σ H Q => t σ H fun vs H1 => ∃ sp : Sp, (∀ base, Ground X σ base → FnOk X.prog X.w X.K X.mg base CX k f fd ps sp) ∧ sp vs H1 Q E
section
variable {X : Cx} {CX : CXT} {k : Nat} {f : Addr} {fd : FuncData} {ps : List Str} {E : XK} {x : Str} {p pos : Pos} {e : Expr} {es : List Expr} {t : TA}
theorem pe_callX (hr : Room k X.A) (hg : Gl X x) (hm : X.mg x = some (.ref f)) (hk : PySem.W.keepIn X.K (.ref f) = true) (hb : Binds X.K fd ps []) (hx : Passes CX X E) (nd : CellsNd X.env) (hfn : X.Ok → ∀ y c, X.env.cells.lookup y = some c → X.s_0.heap.objs.size ≤ c)
    (ha : PA X (e :: es) t) (hdb : (x == ("__debug__" : Str)) = false := by decide) (he : starEach (e :: es) X.env = (false, eval e X.env) :: starEach es X.env := by rfl) (hpl : (backTo pos (starEach es X.env)).any (·.1) = false := by rfl) :
    PE X (.Call (.Name x p) (e :: es) [] pos) (tCallX X CX k f fd ps E t) := by
  refine ⟨fun pins s σ H Q I h => ?_⟩
  refine wpAny_Call_Name_kw (ld_glob I hg hm ?_ hdb)
  refine PySem.W.callWith_K (h₀ := X.base) I.ok.mod.kin hk (thn (ha.run pos pins s σ H _ I h) fun us s1 ⟨vs, H1, I1, r, sp, F, q⟩ => ⟨I1.kIn, ?_⟩) he hpl
  obtain ⟨e0, up⟩ := wider_ok I1 nd (hfn I1.ok)
  have G : Ground X σ (wider s1.heap X.base (cellsOf X.env)) := ⟨I1.ok, up, fun cl fr js c => cells_wider (cells_of I1 c) c.sub⟩
  have Fb := F _ G
  have hl : us.length = ps.length := by rw [← r.length]; exact Fb.len _ _ _ _ q
  have hb2 := hb s1 us I1.kIn (by rw [List.append_nil]; exact hl)
  rw [List.append_nil] at hb2
  refine wpAny_call (codeAny_mono (Fb.run X.A X.stack s1 H1 ⟨us, []⟩ us vs Q E hr e0 hb2 r q) fun r s' hq => ?_)
  cases r with
  | error e => exact hx pins σ H1 s1 e s' I1 hq
  | ok fl =>
    cases fl with
    | ret u => exact I1.after hq
    | next => exact False.elim hq
    | brk => exact False.elim hq
    | cont => exact False.elim hq
end
end
section
open LamX NdefX
/-! ### a lambda as a value -/
/-- its words: the maker's name for it, its text, the cells it captured, its code object, its defaults -/
structure LF where
  qual : Str
  params : Arguments
  body : Expr
  scope : Scope
  cl : List (Str × Addr)
  c : Addr
  dV : Value
abbrev LF.fd (F : LF) (doc pm ctv : Value) : FuncData := PySem.W.kdv_fn "<lambda>" F.qual F.params (.expr F.body) F.scope F.cl F.dV doc pm (.ref F.c) ctv
/-- the same words for the context of its body -/
def LF.nf (F : LF) : NF := ⟨"<lambda>", F.qual, F.params, [], F.scope, F.cl, F.c⟩
/-- at f stands the lambda F -/
def LmO (f : Addr) (F : LF) : HO := .ext fun h => ∃ (od : Option Addr) (sl : Array (Option Value)) (doc pm ctv : Value), h.get? f = some (⟨.type "function", od, .func (F.fd doc pm ctv), sl⟩ : Obj)
theorem lmo_at {P : Program} {w : World} {H : Hp} {h : Heap} {f : Addr} {F : LF} (ok : HOk P w H h) (e : H f = some (LmO f F)) :
    ∃ (od : Option Addr) (sl : Array (Option Value)) (doc pm ctv : Value), h.get? f = some (⟨.type "function", od, .func (F.fd doc pm ctv), sl⟩ : Obj) := (ok f _ e).1
/-- its defaults: none, or a tuple of one int -/
def DefAt (F : LF) (ds : List V) (H : Hp) : Prop := (ds = [] ∧ F.dV = .none) ∨ ∃ (T0 : Addr) (i : Int), ds = [.int i] ∧ F.dV = .ref T0 ∧ H T0 = some (.tup [.int i])
section
variable {X : Cx} {pins : List (Addr × Obj)} {σ : L2.St} {H : Hp} {s : Shared}
/-- a new object of that kind is tracked from now on -/
theorem inv_lm {F : LF} {t' : Nat} {doc pm ctv : Value} (I : Inv X pins σ H s) :
    Inv X pins σ (upd H s.heap.objs.size (LmO s.heap.objs.size F)) { s with heap := s.heap.push { cls := .type "function", data := .func (F.fd doc pm ctv) }, toks := t' } := by
  have e : (s.heap.push ({ cls := .type "function", data := .func (F.fd doc pm ctv) } : Obj)).get? s.heap.objs.size = some { cls := .type "function", data := .func (F.fd doc pm ctv) } := Heap.get?_push_size _ rfl
  exact I.laid (fun b u q => Heap.get?_push_of_some _ q) (Nat.le_refl _) ⟨⟨_, _, doc, pm, ctv, e⟩, ⟨_, e⟩, fun h1 h2 z st => by
    obtain ⟨od, sl, d, p, t, z⟩ := z
    exact ⟨od, sl, d, p, t, st _ z⟩⟩
theorem none_upd {a b : Addr} {o : HO} (e : upd H a o b = none) : H b = none := by
  by_cases z : b = a
  · rw [z, upd_same] at e
    cases e
  · rw [upd_ne z] at e
    exact e
/-- what is told behind the making -/
def Made (X : Cx) (pins : List (Addr × Obj)) (σ : L2.St) (T : List (Addr × Str)) (H : Hp) (mk : Addr → LF) (v : Value) (s' : Shared) : Prop :=
  ∃ (f c' : Addr) (H1 : Hp), v = .ref f ∧ Inv X pins σ H1 s' ∧ ExtN H H1 ∧ (∀ b, H1 b = none → H b = none) ∧ Tabs T H1 ∧ H f = none ∧ H1 f = some (LmO f (mk c')) ∧ H1 c' = some (CodeO c' (mk c').qual)
theorem lm_tail {T : List (Addr × Str)} {c P : Addr} {params : Arguments} {body : Expr} {scope : Scope} {pos : Pos} {dV : Value} {E : Value → Shared → Prop} (I : Inv X pins σ H s) (TB : TabB X.base X.mg c P) (hcode : X.env.code = .ref c)
    (hm : (P, X.env.qual ++ "<lambda>") ∈ T) (hu : ∀ p ∈ T, p.1 = P → p.2 = X.env.qual ++ "<lambda>") (hT : Tabs T H) (hfree : ∀ y ∈ scope.names, y.2 = .free → ∃ c, X.env.cells.lookup y.1 = some c) :
    wpAny (model X.prog X.w) X.A (makeTail "<lambda>" (X.env.qual ++ "<lambda>") params (.expr body) scope X.env dV .none none pos pos.line)
      (Made X pins σ T H fun c' => ⟨X.env.qual ++ "<lambda>", params, body, scope, cloFrom X.env.cells scope.names [], c', dV⟩) E s := by
  obtain ⟨ps, hP, ht, ha⟩ := hT _ hm
  have bP := TB.bm.keeps I.bk
  have oP : s.heap.get? P = some (PySem.W.tabObj ps) := I.hok P _ hP
  have gl := I.mod.glob.keeps I.bk
  have hd := TB.code.keeps I.bk
  rcases hc : codeAmong pos ps.toList with _ | cv
  · refine PySem.W.kdv_makeTail (closure_ok hfree) I.ok.glob gl hcode hd oP ht hc TB.gP bP fun c' ctv doc h' tk hx hge hlt hrec htb => ?_
    obtain ⟨c2, oc, us, t, e2, hoc, hdt, hv⟩ := hrec
    obtain rfl : c' = c2 := by injection e2
    have nC : H c' = none := I.hok.fresh hge
    have J := inv_table (t' := tk) (more := #[rawInt pos.line, rawInt pos.col, .ref c']) I hP (fun b o hb e => hx b o hb e) htb hge ⟨oc, us, t, hoc, hdt, hv⟩
    have ext : ExtN H (upd (upd H P (.tbl (ps ++ #[rawInt pos.line, rawInt pos.col, .ref c']))) c' (CodeO c' (X.env.qual ++ "<lambda>"))) := fun b o e n => by
      have n1 : b ≠ P := fun z => by
        rw [z, hP] at e
        exact n ps (Option.some.inj e).symm
      rw [upd_ne (ne_of_none e nC), upd_ne n1]
      exact e
    have lst : (ps ++ #[rawInt pos.line, rawInt pos.col, Value.ref c']).toList = ps.toList ++ [rawInt pos.line, rawInt pos.col, .ref c'] := by simp
    have tabs : Tabs T (upd (upd H P (.tbl (ps ++ #[rawInt pos.line, rawInt pos.col, .ref c']))) c' (CodeO c' (X.env.qual ++ "<lambda>"))) := fun p hp => by
      by_cases hb : p.1 = P
      · rw [hu p hp hb, hb]
        refine ⟨_, by rw [upd_ne (ne_of_none hP nC), upd_same], by rw [lst]; exact PySem.TriplesOk_snoc _ _ _ _ ht, fun q v hq => ?_⟩
        rw [lst] at hq
        rcases among_app _ ht hq with z | z
        · obtain ⟨c0, e1, e3⟩ := ha q v z
          exact ⟨c0, e1, ext _ _ e3 codeO_ne⟩
        · exact ⟨c', z, upd_same⟩
      · obtain ⟨qs, a1, a2, a3⟩ := hT p hp
        refine ⟨qs, by rw [upd_ne (ne_of_none a1 nC), upd_ne hb]; exact a1, a2, fun q v hq => ?_⟩
        obtain ⟨c0, e1, e3⟩ := a3 q v hq
        exact ⟨c0, e1, ext _ _ e3 codeO_ne⟩
    have nF : upd (upd H P (.tbl (ps ++ #[rawInt pos.line, rawInt pos.col, .ref c']))) c' (CodeO c' (X.env.qual ++ "<lambda>")) h'.objs.size = none := J.hok.fresh (Nat.le_refl _)
    refine ⟨h'.objs.size, c', _, rfl, inv_lm (t' := tk) (doc := doc) (pm := (X.mg "__name__").getD .none) (ctv := ctv) J, fun b o e n => ?_, fun b e => none_upd (none_upd (none_upd e)), tabs.ext fun b o e => ?_, none_upd (none_upd nF), upd_same, ?_⟩
    · have e1 := ext b o e n
      rw [upd_ne (ne_of_none e1 nF)]
      exact e1
    · rw [upd_ne (ne_of_none e nF)]
      exact e
    · rw [upd_ne (Nat.ne_of_lt hlt)]
      exact upd_same
  · obtain ⟨c', rfl, hco⟩ := ha pos cv hc
    refine PySem.W.kdv_makeTailHit (closure_ok hfree) I.ok.glob gl hcode hd oP ht hc bP fun ctv doc h' tk hx hsz => ?_
    have J : Inv X pins σ H { s with heap := h', toks := tk } := I.kept hx
    have nF : H h'.objs.size = none := J.hok.fresh (Nat.le_refl _)
    refine ⟨h'.objs.size, c', _, rfl, inv_lm (t' := tk) (doc := doc) (pm := (X.mg "__name__").getD .none) (ctv := ctv) J, fun b o e n => ?_, fun b e => none_upd e, hT.ext fun b o e => ?_, nF, upd_same, ?_⟩
    · rw [upd_ne (ne_of_none e nF)]
      exact e
    · rw [upd_ne (ne_of_none e nF)]
      exact e
    · rw [upd_ne (ne_of_none hco nF)]
      exact hco
end
/-- the reading of a lambda without defaults | with one int for its only parameter's default -/
def tLm (T : List (Addr × Str)) (mk : Addr → LF) : TE := fun _ H Q => Tabs T H ∧ ∀ (f c' : Addr) (H1 : Hp), ExtN H H1 → (∀ b, H1 b = none → H b = none) → Tabs T H1 → H f = none → H1 f = some (LmO f (mk c')) → H1 c' = some (CodeO c' (mk c').qual) → Q (.ref f) H1
def tLm1 (T : List (Addr × Str)) (i : Int) (mk : Addr → Addr → LF) : TE := fun _ H Q => Tabs T H ∧ ∀ (f c' T0 : Addr) (H1 : Hp), ExtN H H1 → (∀ b, H1 b = none → H b = none) → Tabs T H1 → H f = none → H1 T0 = some (.tup [.int i]) → H1 f = some (LmO f (mk T0 c')) → H1 c' = some (CodeO c' (mk T0 c').qual) → Q (.ref f) H1
section
variable {X : Cx} {T : List (Addr × Str)} {c P : Addr} {params : Arguments} {body : Expr} {scope : Scope} {pos : Pos}
theorem pe_lm (TB : TabB X.base X.mg c P) (hcode : X.env.code = .ref c) (hm : (P, X.env.qual ++ "<lambda>") ∈ T) (hu : ∀ p ∈ T, p.1 = P → p.2 = X.env.qual ++ "<lambda>")
    (hfree : ∀ y ∈ scope.names, y.2 = .free → X.env.scope.names.lookup y.1 = some .cell ∨ X.env.scope.names.lookup y.1 = some .free) (hdef : defaultsOf params X.env = ([], [])) :
    PE X (.Lambda params body scope pos) (tLm T fun c' => ⟨X.env.qual ++ "<lambda>", params, body, scope, cloFrom X.env.cells scope.names [], c', .none⟩) := by
  refine ⟨fun pins s σ H Q I h => ?_⟩
  obtain ⟨hT, h⟩ := h
  have fr : ∀ y ∈ scope.names, y.2 = .free → ∃ c, X.env.cells.lookup y.1 = some c := fun y hy e => (hfree y hy e).elim (fun z => I.ok.has _ (.inl z)) fun z => I.ok.has _ (.inr z)
  refine PySem.W.kla_eval hdef ?_
  rw [makeFunction_eq]
  simp only [List.zip_nil_right, List.filterMap_nil, List.isEmpty_nil, if_true, pure_bind]
  refine wpAny_mono (lm_tail (dV := .none) (E := X.xe) I TB hcode hm hu hT fr) (fun v s' hv => ?_) fun _ _ z => z
  obtain ⟨f, c', H1, rfl, J, e1, e2, e3, e4, e5, e6⟩ := hv
  exact ⟨.ref f, H1, J, rfl, h f c' H1 e1 e2 e3 e4 e5 e6⟩
theorem pe_lm1 {i : Int} {cj : Nat} {cp : Pos} (TB : TabB X.base X.mg c P) (hcode : X.env.code = .ref c) (hm : (P, X.env.qual ++ "<lambda>") ∈ T) (hu : ∀ p ∈ T, p.1 = P → p.2 = X.env.qual ++ "<lambda>")
    (hfree : ∀ y ∈ scope.names, y.2 = .free → X.env.scope.names.lookup y.1 = some .cell ∨ X.env.scope.names.lookup y.1 = some .free) (hd : params.defaults = [.Constant (.int i) cj cp]) (hk : params.kw_defaults = []) :
    PE X (.Lambda params body scope pos) (tLm1 T i fun T0 c' => ⟨X.env.qual ++ "<lambda>", params, body, scope, cloFrom X.env.cells scope.names [], c', .ref T0⟩) := by
  refine ⟨fun pins s σ H Q I h => ?_⟩
  obtain ⟨hT, h⟩ := h
  have fr : ∀ y ∈ scope.names, y.2 = .free → ∃ c, X.env.cells.lookup y.1 = some c := fun y hy e => (hfree y hy e).elim (fun z => I.ok.has _ (.inl z)) fun z => I.ok.has _ (.inr z)
  refine PySem.W.kdv_lam (by rw [hd]; rfl) hk ?_
  rw [hd]
  refine PySem.W.kdv_all1 (wpAny_mono ((pe_int (X := X) (i := i) (j := cj) (pos := cp)).run pins s σ H (fun v H' => v = .int i ∧ H' = H) I ⟨rfl, rfl⟩) (fun u s1 hv => ?_) fun _ _ z => z)
  obtain ⟨v, H', I1, r1, rfl, rfl⟩ := hv
  refine PySem.W.kdv_all0 ?_
  rw [makeFunction_eq]
  simp only [List.zip_nil_right, List.filterMap_nil, List.isEmpty_cons, List.isEmpty_nil, if_true, Bool.false_eq_true, if_false, pure_bind]
  refine wpAny_bind (wpAny_newTextTuple ?_)
  have n0 : H' s1.heap.objs.size = none := I1.hok.fresh (Nat.le_refl _)
  have I2 : Inv X pins σ (upd H' s1.heap.objs.size (.tup [.int i])) { s1 with heap := s1.heap.push { cls := .type "tuple", data := .seq [u].toArray } } :=
    I1.laid (t' := s1.toks) (fun b o e => Heap.get?_push_of_some _ e) (Nat.le_refl _) ⟨(by show 1 ≤ sizeLine; decide), [u], .cons r1 .nil, IsTup.new _ _⟩
  have hS : ∀ b o, H' b = some o → upd H' s1.heap.objs.size (.tup [.int i]) b = some o := fun b o e => by rw [upd_ne (ne_of_none e n0)]; exact e
  refine wpAny_mono (lm_tail (dV := .ref s1.heap.objs.size) (E := X.xe) I2 TB hcode hm hu (hT.ext hS) fr) (fun v s' hv => ?_) fun _ _ z => z
  obtain ⟨f, c', H1, rfl, J, e1, e2, e3, e4, e5, e6⟩ := hv
  exact ⟨.ref f, H1, J, rfl, h f c' s1.heap.objs.size H1 (fun b o e n => e1 b o (hS b o e) n) (fun b e => none_upd (e2 b e)) e3 (none_upd e4) (e1 _ _ upd_same fun ps z => by cases z) e5 e6⟩
end
/-! ### its promise -/
/-- the promise of the lambda F at f, called without arguments; ws: what its captured cells hold -/
structure LOk (P : Program) (w : World) (K : PySem.W.Frag) (mg : Str → Option Value) (base : Heap) (CX : CXT) (k : Nat) (f : Addr) (F : LF) (ds : List V) (fr : List Str) (sp : List (Option V) → Hp → VK → XK → Prop) : Prop where
  run : ∀ (A : Around) (outer : List PySem.Env) (s : Shared) (H : Hp) (ws : List (Option V)) (Q : VK) (E : XK), Room k A → Env0 P w K mg base A outer s H → H f = some (LmO f F) → H F.c = some (CodeO F.c F.qual) → DefAt F ds H →
    CellsAt F.cl fr ws s.heap H → sp ws H Q E → codeAny (model P w) A (.call (.ref f) ⟨[], []⟩) (CR CX outer P w H s Q E) s
section
variable {CX : CXT} {P : Program} {w : World} {K : PySem.W.Frag} {mg : Str → Option Value} {base : Heap} {N ps fr : List Str} {F : LF} {f : Addr} {k : Nat} {ds : List V} {sp : List (Option V) → Hp → VK → XK → Prop}
theorem lok_of (S : NScope N ps fr F.scope) (hlen : ds.length = ps.length) (hb : ∀ (s : Shared) (H : Hp) (us : List Value) (doc pm ctv : Value), HOk P w H s.heap → DefAt F ds H → ∃ us, Vals ds us ∧ BindsTo s (F.fd doc pm ctv) ⟨[], []⟩ (ps.zip us))
    (hbody : ∀ (A : Around) (outer : List PySem.Env) (s : Shared) (H : Hp) (ws : List (Option V)) (Q : VK) (E : XK), Room k (A.deeper (envF F.nf f s.heap.objs.size)) → ws.length = fr.length → sp ws H Q E →
      ∃ t, PE (ncx CX P w K mg base N F.nf f A outer s H E) F.body t ∧ t (startF N ds ws) H Q) : LOk P w K mg base CX (k + 1) f F ds fr sp := by
  refine ⟨fun A outer s H ws Q E hr e0 hf hc hD C hsp => ?_⟩
  have lim : s.heap.NoLimit := e0.mod.nolimit.keeps fun b o e => (e0.bs b o e).1
  obtain ⟨od, sl, doc, pm, ctv, ho⟩ := lmo_at e0.hok hf
  obtain ⟨us, rv, bind⟩ := hb s H [] doc pm ctv e0.hok hD
  have hul : us.length = ps.length := by rw [← rv.length]; exact hlen
  refine PySem.W.kla_callFunE hr.depth ho rfl S.co S.gen rfl (codeO_at e0.hok hc) ?_
  refine bind _ _ _ _ (wpAny_newFunctionEnv S.nocell (fun ⟨n, _⟩ hy => S.par n (List.of_mem_zip hy).1) (fun h₁ hns hsb => ⟨lim.fresh _ hsb, ?_⟩) S.kind)
  show codeAny _ _ (.expr F.body (envF F.nf f s.heap.objs.size)) _ _
  have kp : ∀ b o, s.heap.get? b = some o → h₁.get? b = some o := fun b o e => hsb.extBut b o (Nat.ne_of_lt (Heap.lt_size e)) (Heap.get?_push_of_some _ e)
  obtain ⟨t, ht, hq⟩ := hbody A outer s H ws Q E (hr.deeper _) C.len hsp
  have I : Inv (ncx CX P w K mg base N F.nf f A outer s H E) [] (startF N ds ws) H { s with heap := h₁, toks := s.toks + (ps.zip us).length } := inv_startN (F := F.nf) S hr.hd e0 hlen rv C hns kp
  refine PySem.W.kla_codeExpr (wpAny_mono (ht.run [] _ (startF N ds ws) H Q I hq) (fun v s' hs => ?_) fun e s' hs => hs)
  obtain ⟨y, H', J, ry, q⟩ := hs
  exact ⟨y, H', J.os, J.bare, J.base, J.hok, ry, q⟩
end
/-! ### a() where a holds something that is asked -/
/-- f may be called without arguments over the ground base, while g holds of the abstract heap: what it does is told by sp -/
def Held0 (P : Program) (w : World) (K : PySem.W.Frag) (mg : Str → Option Value) (base : Heap) (CX : CXT) (k : Nat) (f : Addr) (g : Hp → Prop) (sp : Hp → VK → XK → Prop) : Prop :=
  (∀ H h, HOk P w H h → g H → PySem.W.FnAt f h) ∧ ∀ (A : Around) (outer : List PySem.Env) (s : Shared) (H : Hp) (Q : VK) (E : XK), Room k A → Env0 P w K mg base A outer s H → g H → sp H Q E → codeAny (model P w) A (.call (.ref f) ⟨[], []⟩) (CR CX outer P w H s Q E) s
/-- a lambda, over a ground that tells what its cells hold -/
theorem LOk.held {P : Program} {w : World} {K : PySem.W.Frag} {mg : Str → Option Value} {base : Heap} {CX : CXT} {k : Nat} {f : Addr} {F : LF} {ds : List V} {fr : List Str} {sp : List (Option V) → Hp → VK → XK → Prop} {ws : List (Option V)}
    (o : LOk P w K mg base CX k f F ds fr sp) (C : CellsAt F.cl fr ws base (fun _ => none)) : Held0 P w K mg base CX k f (fun H => H f = some (LmO f F) ∧ H F.c = some (CodeO F.c F.qual) ∧ DefAt F ds H) (sp ws) := by
  refine ⟨fun H h ok g => ?_, fun A outer s H Q E hr e0 g q => o.run A outer s H ws Q E hr e0 g.1 g.2.1 g.2.2 (cells_narrow (P := P) (w := w) (K := K) (mg := mg) (A := A) (outer := outer) C e0.bs) q⟩
  obtain ⟨od, sl, doc, pm, ctv, ho⟩ := lmo_at ok g.1
  exact ⟨_, od, _, sl, ho⟩
def tAsk (P : Program) (w : World) (K : PySem.W.Frag) (mg : Str → Option Value) (base : Heap) (CX : CXT) (k i : Nat) (E : L2.St → XK) : TE := fun σ H Q => ∃ f g sp, σ[i]? = some (some (.ref f)) ∧ Held0 P w K mg base CX k f g sp ∧ g H ∧ sp H Q (E σ)
section
variable {X : Cx} {CX : CXT} {k i : Nat} {a : Str} {p1 p2 : Pos} {E : L2.St → XK}
theorem pe_ask (hr : Room k X.A) (hN : X.N[i]? = some a) (hv : Vis X.env.scope a) (hx : ∀ σ, PassesAt CX X σ (E σ)) (hd : (a == ("__debug__" : Str)) = false := by decide) (hcd : (a == ("__classdict__" : Str)) = false := by decide) :
    PE X (.Call (.Name a p1) [] [] p2) (tAsk X.prog X.w X.K X.mg X.base CX k i E) := by
  refine ⟨fun pins s σ H Q I h => ?_⟩
  obtain ⟨f, g, sp, hs, ⟨hf, hrun⟩, hg, q⟩ := h
  refine wpAny_Call_Name_kw (thn ((pe_var (pos := p1) hN hv hd hcd).run pins s σ H (fun v H1 => v = .ref f ∧ H1 = H) I ⟨.ref f, hs, rfl, rfl⟩) fun u s1 ⟨v, H1, I1, r1, q1⟩ => ?_)
  obtain ⟨rfl, rfl⟩ := q1
  obtain rfl : u = Value.ref f := r1
  refine PySem.W.callWith_F0 (hf H1 s1.heap I1.hok hg) ?_
  show wpAny _ _ (call (.ref f) []) _ _ _
  refine wpAny_call (codeAny_mono (hrun X.A X.stack s1 H1 Q (E σ) hr I1.env0 hg q) fun r s' hq => ?_)
  cases r with
  | error e => exact hx σ pins H1 s1 e s' I1 hq
  | ok fl =>
    cases fl with
    | ret u => exact I1.after hq
    | next => exact False.elim hq
    | brk => exact False.elim hq
    | cont => exact False.elim hq
end
end
section
open LamX NdefX
/-! ### except (A, B, C) as n, where one of the three always fits -/
theorem fly_wide {gr u u2 : Heap} {fl : List PySem.Env} {q : Addr} {Zq : Obj → Prop} (kp : ∀ b o, u.get? b = some o → u2.get? b = some o) (x : HandSPX.FlyingZ gr fl q Zq u) : HandSPX.FlyingZ gr fl q Zq u2 := by
  obtain ⟨x1, x2, x3, oe, vs, T, oT, ts, y1, y2, y3, y4, y5, y6, y7, y8, y9⟩ := x
  exact ⟨fun b o e => kp _ _ (x1 b o e), x2, x3.of_keeps fun b o e _ => ⟨o, kp _ _ e, rfl⟩, oe, vs, T, oT, ts, kp _ _ y1, y2, y3, y4, y5, y6, kp _ _ y7, y8, y9⟩
/-- the suite's ends, its name gone again -/
def gone (i : Nat) (D : Ends) : Ends := { nx := fun τ G => D.nx (τ.set i none) G, rt := D.rt, bk := fun τ G => D.bk (τ.set i none) G, ct := fun τ G => D.ct (τ.set i none) G }
/-- the wish of an exception that the body lets out -/
def wAny3 (K : PySem.W.Frag) (cs : List Value) (i : Nat) (ts : Addr → Value → Option Addr → TS) (D : Ends) : WX := fun cls d σ H =>
  PySem.W.exmAny K cls cs = some true ∧ ∀ q, H q = none → ts q cls d (gone i D) (σ.set i (some (.ref q))) H
section
variable {X : Cx} {xA xB xC n : Str} {cA cB cC : Value} {i j : Nat} {body suite : List Stmt} {b₀ : Stmt} {pA pB pC tp pos hp : Pos} {tb : WX → TS} {ts : Addr → Value → Option Addr → TS}
theorem name_here {Xs : Cx} {pins : List (Addr × Obj)} {τ : L2.St} {G : Hp} {s : Shared} {E : Value → Shared → Prop} {R : Value → Shared → Prop} {x : Str} {c : Value} {p : Pos} (hc : Names Xs x c) (I : Inv Xs pins τ G s) (r : R c s) :
    wpAny (model Xs.prog Xs.w) Xs.A (eval (.Name x p) Xs.env) R E s := by
  obtain ⟨hg, hd, hm | ⟨hm, hv, hn⟩⟩ := hc
  · exact ld_glob I hg hm r hd
  · exact ld_blt I hg hm hv r hn hd
theorem ps_tryA3 (hs : X.stack = X.env :: X.outer) (hf : X.env.frame = some X.env.locals) (hN : X.N.Nodup) (hi : X.N[i]? = some n) (hln : X.env.kindOf n = some .local) (nA : Names X xA cA) (nB : Names X xB cB) (nC : Names X xC cC)
    (hb : ∀ (W : WX) (pn : List (Addr × Obj)) (xe : Value → Shared → Prop), Takes (X.tr pn xe) W → PassesOwn (model X.prog X.w) X.A X.env xe → PSs (X.tr pn xe) body (tb W))
    (hsu : ∀ (q : Addr) (oe : Obj) (cls : Value) (d : Option Addr) (pn : List (Addr × Obj)), Zc cls d oe → (∃ vs, oe.data = .fields vs) → PSs (X.suite q ((q, oe) :: pn)) (b₀ :: suite) (ts q cls d)) :
    PS X (.Try body [.ExceptHandler (some (.Tuple [.Name xA pA, .Name xB pB, .Name xC pC] j tp)) (some n) (b₀ :: suite) hp] [] [] pos) (fun D σ H => tb (wAny3 X.K [cA, cB, cC] i ts D) D σ H) := by
  refine ⟨fun pins s σ H D I h => ?_⟩
  have okX := I.ok
  have stk : X.A.frames = some (X.env :: X.outer) := by rw [okX.frames, hs]
  refine wpAny_Try_except (wpAny_mono ((hb (wAny3 X.K [cA, cB, cC] i ts D) (X.pn ++ pins) (fun e s₁ => wpAny (model X.prog X.w) X.A (noteFrame e X.env) (fun _ s₂ => wpAny (model X.prog X.w) X.A (setFlight e none) (fun _ s₃ =>
    wpAny (model X.prog X.w) X.A (handleBy e X.env [.ExceptHandler (some (.Tuple [.Name xA pA, .Name xB pB, .Name xC pC] j tp)) (some n) (b₀ :: suite) hp]) (SP X pins D) X.xe s₃) X.xe s₂) X.xe s₁) (fun u s' z => ?_) PassesOwn.looking).run [] s σ H D (I.toTry _) h) (fun f s1 z => ?_) (fun _ _ z => z))
  · obtain ⟨q, gr, sI, pins', τ, G, cls, d, rfl, J0, nb, up, sky, nq, os, ag, hm, hsuite⟩ := z
    have J : Inv X pins τ G sI := J0.ofTry okX
    rw [show X.stack = X.env :: X.outer from hs] at sky
    show wpAny (model X.prog X.w) X.A (noteFrame (.ref q) X.env) _ _ _
    refine Sky.land Zc.steady stk hf sky fun g3 fl3 up3 => ?_
    have J3 : Inv X pins τ G { s' with heap := g3 } := J.landed nb fl3.1 (up.trans up3) os ag
    obtain ⟨o3, w3, he3, hz3, hd3⟩ := fl3.there
    have nfr : q ∉ frs (X.env :: X.outer) := fun hmem => by
      obtain ⟨_, o', e', hnf⟩ := fl3.2.2.1.mem hmem
      cases he3.symm.trans e'
      exact hnf _ hd3
    have nL : q ≠ X.env.locals := fun e => nfr (List.mem_filterMap.mpr ⟨X.env, List.mem_cons_self, by rw [hf, e]⟩)
    have nF : q ∉ X.fs := fun hmem => by
      obtain ⟨e, he, hq⟩ := List.mem_filterMap.mp hmem
      exact nfr (List.mem_filterMap.mpr ⟨e, List.mem_cons_of_mem _ he, hq⟩)
    have S3 := J3.suite he3 hd3 nq nL nF
    refine wpAny_handleBy_cons (codeAny_handlers_test ?_) (by intro e; cases e)
    have LT : PySem.W.Looks (model X.prog X.w) g3 (typeOf (.ref q)) cls := fun _ _ _ _ k r => wpAny_typeOf_ref (k _ _ he3) (by rw [hz3.1]; exact r)
    refine wpAny_Tuple (wpAny_items_cons (name_here (Xs := X.suite q ((q, o3) :: (X.pn ++ pins))) nA S3 (wpAny_items_cons (name_here (Xs := X.suite q ((q, o3) :: (X.pn ++ pins))) nB S3 (wpAny_items_cons (name_here (Xs := X.suite q ((q, o3) :: (X.pn ++ pins))) nC S3 (wpAny_items_nil ⟨by size_fits, ?_⟩)))))))
    have kp : ∀ b o, g3.get? b = some o → (g3.push { cls := .type "tuple", data := .seq [cA, cB, cC].toArray }).get? b = some o := fun _ _ e => Heap.get?_push_of_some _ e
    refine (PySem.W.exm_tup3 (J3.kIn.keeps kp) (LT.keeps kp) (Heap.get?_push_size g3 rfl) hm).here ?_
    refine codeAny_handlers_suite_as ?_
    refine HandSPX.lands_againZ (fly_wide kp fl3) fun g4 fl4 up4 => ?_
    have J4 : Inv X pins τ G { s' with heap := g4 } := J.landed nb fl4.1 ((up.trans up3).trans ((Heap.UpToSlots.of_keeps kp).trans up4)) os ag
    obtain ⟨o4, w4, he4, hz4, hd4⟩ := fl4.there
    have S4 := J4.suite he4 hd4 nq nL nF
    refine store_ok (X := X.suite q ((q, o4) :: (X.pn ++ pins))) (v := .ref q) S4 hN hi (.inl hln) rfl (fun s5 S5 => ?_) (.inr hln)
    refine wpAny_mono ((hsu q o4 cls d (X.pn ++ pins) hz4 ⟨_, hd4⟩).run [] s5 _ G _ S5 (hsuite q nq)) (fun f s6 z => ?_) fun _ _ z => False.elim z
    have fin : ∀ {τ6 : L2.St} {G6 : Hp} {R : Shared → Prop}, Inv (X.suite q ((q, o4) :: (X.pn ++ pins))) [] τ6 G6 s6 → (∀ s7, Inv X pins (τ6.set i none) G6 s7 → R s7) →
        wpAny (model X.prog X.w) X.A (do bindName X.env n .none; unbindBehindTheSuite X.env n hp) (fun _ s7 => R s7) X.xe s6 := fun {τ6 G6 R} S6 r => gone_ok (S6.unsuite okX) hN hi hln r
    cases f with
    | ret u => exact fin z.choose_spec.choose_spec.choose_spec.1 fun s7 J7 => ⟨_, _, _, J7, z.choose_spec.choose_spec.choose_spec.2.1, z.choose_spec.choose_spec.choose_spec.2.2⟩
    | next => exact fin z.choose_spec.choose_spec.1 fun s7 J7 => ⟨_, _, J7, z.choose_spec.choose_spec.2⟩
    | brk => exact fin z.choose_spec.choose_spec.1 fun s7 J7 => ⟨_, _, J7, z.choose_spec.choose_spec.2⟩
    | cont => exact fin z.choose_spec.choose_spec.1 fun s7 J7 => ⟨_, _, J7, z.choose_spec.choose_spec.2⟩
  · cases f with
    | ret u => exact ⟨_, _, _, z.choose_spec.choose_spec.choose_spec.1.ofTry okX, z.choose_spec.choose_spec.choose_spec.2.1, z.choose_spec.choose_spec.choose_spec.2.2⟩
    | next => exact wpAny_execs_nil ⟨_, _, z.choose_spec.choose_spec.1.ofTry okX, z.choose_spec.choose_spec.2⟩
    | brk => exact ⟨_, _, z.choose_spec.choose_spec.1.ofTry okX, z.choose_spec.choose_spec.2⟩
    | cont => exact ⟨_, _, z.choose_spec.choose_spec.1.ofTry okX, z.choose_spec.choose_spec.2⟩
end
end
section
open LamX NdefX L2H
/-! ### the caught exception: its fields, and a def that it is passed to -/
/-- what stands pinned at a: an exception of the class cls with the dict d -/
structure Pinned (X : Cx) (a : Addr) (oe : Obj) (cls : Value) (d : Option Addr) : Prop where
  mem : (a, oe) ∈ X.pn
  kin : Zc cls d oe
  fld : ∃ vs, oe.data = .fields vs
/-- the reading of e.n where e is that exception -/
def tXfA (K : PySem.W.Frag) (a : Addr) (cls : Value) (d : Option Addr) (n : Str) (te : TE) : TE := fun σ H Q => te σ H fun x G => x = .ref a ∧ ∃ (C dd : Addr) (fs : List (Str × V)) (v : V),
  cls = .ref C ∧ XfC K C ∧ PySem.W.findIn K (.ref C) n = some none ∧ d = some dd ∧ G dd = some (.xd fs) ∧ fs.lookup n = some v ∧ Q v G
theorem pe_xfA {X : Cx} {a : Addr} {oe : Obj} {cls : Value} {d : Option Addr} {e : Expr} {te : TE} {pos : Pos} {n : Str} (p : Pinned X a oe cls d) (he : PE X e te) (hb : attributeBase e n X.env (eval e X.env) = eval e X.env := by rfl) :
    PE X (.Attribute e n pos) (tXfA X.K a cls d n te) := by
  refine ⟨fun pins s σ H Q I h => attr_of hb (thn (he.run pins s σ H _ I h) fun u s1 z => ?_)⟩
  obtain ⟨x, G, I1, rx, rfl, C, dd, fs, v, rfl, T, hno, rfl, ea, l, q⟩ := z
  obtain rfl : u = Value.ref a := rx
  obtain ⟨vs, hd⟩ := p.fld
  have there := (I1.pin (a, oe) (List.mem_append_left _ p.mem)).1
  obtain ⟨mA, hns, hr⟩ := (show ObjOk X.prog X.w G s1.heap dd (.xd fs) from I1.hok dd _ ea)
  obtain ⟨od, ho, hl⟩ := lookIn_ns hns
  obtain ⟨u, hu, ru⟩ := RelO.some_of (v := v) (o := mA n) (by rw [← l]; exact hr n)
  refine HandSPX.exc_get I1.kIn (⟨there, p.kin.1, by unfold PySem.W.notCls; rw [hd] <;> rfl, by rw [p.kin.2]; exact ho⟩ : PySem.W.InstAt s1.heap a oe C (some od)) T.ga T.gg T.exC (PySem.W.findObj_own T.hdC hno rfl (by rw [hl, hu])) (handed_of ru) ⟨v, G, I1.tok _, ru, q⟩
/-- what a def promises that is called in an except suite with the exception among its arguments -/
structure FnP (P : Program) (w : World) (K : PySem.W.Frag) (mg : Str → Option Value) (base : Heap) (CX : CXT) (k : Nat) (f : Addr) (fd : FuncData) (ps : List Str) (sp : Addr → Value → Option Addr → Sp) : Prop where
  len : ∀ a cls d vs H Q E, sp a cls d vs H Q E → vs.length = ps.length
  run : ∀ (A : Around) (outer : List PySem.Env) (s : Shared) (H : Hp) (args : Args) (us : List Value) (vs : List V) (Q : VK) (E : XK) (p : Addr × Obj) (cls : Value) (d : Option Addr), RoomH k A → PinOk outer H s p → Zc cls d p.2 → (∃ vs, p.2.data = .fields vs) → Env0 P w K mg base A outer s H →
    BindsTo s fd args (ps.zip us) → Vals vs us → sp p.1 cls d vs H Q E → codeAny (model P w) A (.call (.ref f) args) (CR CX outer P w H s Q E) s
theorem fnp_of {CX : CXT} {P : Program} {w : World} {K : PySem.W.Frag} {mg : Str → Option Value} {base : Heap} {k : Nat} {f : Addr} {name qual : Str} {params : Arguments} {body : List Stmt} {scope : Scope} {dV kV doc pm cdv ct oc : Value} {an od : Option Addr} {osl : Array (Option Value)} {N ps : List Str} {sp : Addr → Value → Option Addr → Sp}
    (lk : K.lookup f = some ⟨oc, od, .func (PySem.W.fnOf name qual params body scope dV kV doc pm an cdv ct), osl⟩) (hcd : PySem.W.codeIn K cdv qual = true) (S : FnScope N ps scope) (len : ∀ a cls d vs H Q E, sp a cls d vs H Q E → vs.length = ps.length)
    (hbody : ∀ (A : Around) (outer : List PySem.Env) (s : Shared) (H : Hp) (vs : List V) (Q : VK) (E : XK) (p : Addr × Obj) (cls : Value) (d : Option Addr), Zc cls d p.2 → (∃ vs, p.2.data = .fields vs) → RoomH k (A.deeper (envOfC qual scope s.heap.objs.size f cdv)) → sp p.1 cls d vs H Q E →
      ∃ t, PSs (cxH CX P w K mg base N qual scope f cdv A outer s H E p) body t ∧ t { nx := fun _ G => Q .non G, rt := Q } (L2.start N vs) H) :
    FnP P w K mg base CX (k + 1) f (PySem.W.fnOf name qual params body scope dV kV doc pm an cdv ct) ps sp := by
  refine ⟨len, fun A outer s H args us vs Q E p cls d hr hpin hz hf e0 hb r hsp => ?_⟩
  have inK : K.In s.heap := e0.mod.kin.keeps fun b o e => (e0.bs b o e).1
  have noLim : s.heap.NoLimit := e0.mod.nolimit.keeps fun b o e => (e0.bs b o e).1
  refine codeAny_call_function hr.depth (inK _ _ lk) rfl S.co S.gen rfl (PySem.W.codeRec_of inK hcd) (hb _ _ _ _ (wpAny_newFunctionEnv_cells S.kind (fun ⟨n, v⟩ hy => (S.par n (List.of_mem_zip hy).1).imp id fun q => ⟨q, PySem.W.cellsFrom_some _ _ _ (.inl q)⟩) fun env he s1 x => ?_))
  subst he
  obtain ⟨t, ht, hq⟩ := hbody A outer s H vs Q E p cls d hz hf (hr.deeper _) hsp
  refine ⟨noLim.keeps x.toInCall.keep, codeAny_func (wpAny_mono (ht.run [] s1 (L2.start N vs) H _ (inv_startH S hpin e0 (len _ _ _ _ _ _ _ hsp) r x) hq) (fun fl s' z => ?_) fun e s' z => z)⟩
  cases fl with
  | ret u => exact ⟨_, _, z.choose_spec.choose_spec.choose_spec.1.os, z.choose_spec.choose_spec.choose_spec.1.bare, z.choose_spec.choose_spec.choose_spec.1.base, z.choose_spec.choose_spec.choose_spec.1.hok, z.choose_spec.choose_spec.choose_spec.2⟩
  | next => exact ⟨V.non, _, z.choose_spec.choose_spec.1.os, z.choose_spec.choose_spec.1.bare, z.choose_spec.choose_spec.1.base, z.choose_spec.choose_spec.1.hok, rfl, z.choose_spec.choose_spec.2⟩
  | brk => exact False.elim z.choose_spec.choose_spec.2
  | cont => exact False.elim z.choose_spec.choose_spec.2
/-- f(e) with the exception | its reading -/
def tCallP (a : Addr) (cls : Value) (d : Option Addr) (sp : Addr → Value → Option Addr → Sp) (t : TA) : TE := fun σ H Q => t σ H fun vs G => sp a cls d vs G Q fun _ _ _ => False
theorem pe_callP {X : Cx} {CX : CXT} {k : Nat} {f : Addr} {fd : FuncData} {ps : List Str} {sp : Addr → Value → Option Addr → Sp} {x : Str} {q pos : Pos} {e : Expr} {es : List Expr} {t : TA} {a : Addr} {oe : Obj} {cls : Value} {d : Option Addr}
    (F : FnP X.prog X.w X.K X.mg X.base CX k f fd ps sp) (hr : RoomH k X.A) (p : Pinned X a oe cls d) (hg : Gl X x) (hm : X.mg x = some (.ref f)) (hk : PySem.W.keepIn X.K (.ref f) = true) (hb : Binds X.K fd ps []) (hx : ∀ σ, PassesAt CX X σ fun _ _ _ => False)
    (ha : PA X (e :: es) t) (hd : (x == ("__debug__" : Str)) = false := by decide) (he : starEach (e :: es) X.env = (false, eval e X.env) :: starEach es X.env := by rfl) (hp : (backTo pos (starEach es X.env)).any (·.1) = false := by rfl) :
    PE X (.Call (.Name x q) (e :: es) [] pos) (tCallP a cls d sp t) := by
  refine ⟨fun pins s σ H Q I h => wpAny_Call_Name_kw (ld_glob I hg hm (PySem.W.callWith_K (h₀ := X.base) I.ok.mod.kin hk (thn (ha.run pos pins s σ H _ I h) fun us s1 ⟨vs, G, I1, r, z⟩ => ⟨I1.kIn, ?_⟩) he hp) hd)⟩
  have ln : us.length = ps.length := by rw [← r.length]; exact F.len _ _ _ _ _ _ _ z
  have b := hb s1 us I1.kIn (by rw [List.append_nil]; exact ln)
  rw [List.append_nil] at b
  obtain ⟨g1, g2, g3, g4, g5⟩ := I1.pin (a, oe) (List.mem_append_left _ p.mem)
  refine wpAny_call (codeAny_mono (F.run X.A X.stack s1 G ⟨us, []⟩ us vs Q _ (a, oe) cls d hr ⟨g1, g2, fun hm => (List.mem_cons.mp (I1.stkSub a hm)).elim g3 g4, g5⟩ p.kin p.fld I1.env0 b r z) fun r s' hq => ?_)
  cases r with
  | error e => exact hx σ pins G s1 e s' I1 hq
  | ok fl =>
    cases fl with
    | ret u => exact I1.after hq
    | next => exact False.elim hq
    | brk => exact False.elim hq
    | cont => exact False.elim hq
end

/-! ### comprehensions -/
/-- the new list's items one by one: I holds of the heap all the way, R i tells the i-th item -/
theorem lc_gen {J : It} {n : Nat} {G : Hp → Prop} {Y : Nat → Hp → V → Hp → Prop} (w : Walk J n G Y) {g : TG} {te : TE} {vs : List Nat} {σ : L2.St} {H1 : Hp} {D : Addr} {Qd : Hp → Prop}
    (I : Hp → Prop) (R : Nat → V → Prop) (hn : n ≤ 100000) (h0 : I (upd H1 D (.lst []))) (hG : ∀ H, I H → G H) (hU : ∀ H o, I H → I (upd H D o))
    (hs : ∀ i x H H' (Q : VK), i < n → I H → Y i H x H' → (∃ o, H D = some o) → (∀ y H4, R i y → I H4 → (∀ o, H D = some o → H4 D = some o) → Q y H4) → g x (wipe σ vs) H' fun σ2 H2 => wipe σ2 vs = wipe σ vs ∧ te σ2 H2 Q)
    (hd : ∀ H ys, I H → H D = some (.lst ys) → ys.length = n → (∀ i y, ys[i]? = some y → R i y) → Qd H) :
    ∃ W : Nat → Nat → Hp → Prop, (∃ m, W 0 m (upd H1 D (.lst []))) ∧ ∀ i m H, W i m H →
      (J.stop i H ∧ Qd H) ∨ (J.go i H ∧ ∃ Nx : Hp → Prop, (∀ H', Nx H' → ∃ m', m' < m ∧ W (i + 1) m' H') ∧ ∀ x H', J.yld i H x H' → g x (wipe σ vs) H' fun σ2 H2 => wipe σ2 vs = wipe σ vs ∧ tYes σ2 H2 fun b H3 =>
        if b = true then te σ2 H3 fun y H4 => ∃ acc, H4 D = some (.lst acc) ∧ acc.length < sizeLine ∧ Nx (upd H4 D (.lst (acc ++ [y]))) else Nx H3) := by
  refine lc_it w (fun i H => I H ∧ ∃ ys : List V, H D = some (.lst ys) ∧ ys.length = i ∧ ∀ j y, ys[j]? = some y → R j y) ⟨h0, [], upd_same, rfl, fun j y e => by simp at e⟩ (fun i H _ h => hG H h.1) ?_ ?_
  · rintro i x H H' hi ⟨hI, ys, hy, hl, hr⟩ hY
    refine hs i x H H' _ hi hI hY ⟨_, hy⟩ fun y H4 ry hI4 hk => ⟨ys, hk _ hy, szl (by omega), hU _ _ hI4, ys ++ [y], upd_same, by simp [hl], fun j z e => ?_⟩
    by_cases hj : j < ys.length
    · rw [List.getElem?_append_left hj] at e
      exact hr j z e
    · have hj2 : j = ys.length := by
        have := (List.getElem?_eq_some_iff.mp e).1
        simp at this
        omega
      subst hj2
      simp at e
      rw [← e, hl]
      exact ry
  · rintro H ⟨hI, ys, hy, hl, hr⟩
    exact hd H ys hI hy hl hr
/-- with a test: the items of the turns that are kept, by f -/
theorem lc_fil {J : It} {n : Nat} {G : Hp → Prop} {Y : Nat → Hp → V → Hp → Prop} (w : Walk J n G Y) {g : TG} {tt : TT} {te : TE} {vs : List Nat} {σ : L2.St} {H1 : Hp} {D : Addr} {Qd : Hp → Prop}
    (I : Hp → Prop) (f : Nat → Option V) (hn : n ≤ 100000) (h0 : I (upd H1 D (.lst []))) (hG : ∀ H, I H → G H) (hU : ∀ H o, I H → I (upd H D o))
    (hs : ∀ i x H H' (Q : VK) (Qn : Hp → Prop), i < n → I H → Y i H x H' → (∃ o, H D = some o) → (∀ y H4, f i = some y → I H4 → (∀ o, H D = some o → H4 D = some o) → Q y H4) → (∀ H4, f i = none → I H4 → (∀ o, H D = some o → H4 D = some o) → Qn H4) →
      g x (wipe σ vs) H' fun σ2 H2 => wipe σ2 vs = wipe σ vs ∧ tt σ2 H2 fun b H3 => if b = true then te σ2 H3 Q else Qn H3)
    (hd : ∀ H, I H → H D = some (.lst ((List.range n).filterMap f)) → Qd H) :
    ∃ W : Nat → Nat → Hp → Prop, (∃ m, W 0 m (upd H1 D (.lst []))) ∧ ∀ i m H, W i m H →
      (J.stop i H ∧ Qd H) ∨ (J.go i H ∧ ∃ Nx : Hp → Prop, (∀ H', Nx H' → ∃ m', m' < m ∧ W (i + 1) m' H') ∧ ∀ x H', J.yld i H x H' → g x (wipe σ vs) H' fun σ2 H2 => wipe σ2 vs = wipe σ vs ∧ tt σ2 H2 fun b H3 =>
        if b = true then te σ2 H3 fun y H4 => ∃ acc, H4 D = some (.lst acc) ∧ acc.length < sizeLine ∧ Nx (upd H4 D (.lst (acc ++ [y]))) else Nx H3) := by
  refine lc_it w (fun i H => I H ∧ H D = some (.lst ((List.range i).filterMap f))) ⟨h0, upd_same⟩ (fun i H _ h => hG H h.1) ?_ ?_
  · rintro i x H H' hi ⟨hI, hy⟩ hY
    have e : (List.range (i + 1)).filterMap f = (List.range i).filterMap f ++ (match f i with | some y => [y] | none => []) := by
      rw [List.range_succ, List.filterMap_append]
      cases h : f i <;> simp [h]
    have hl : ((List.range i).filterMap f).length ≤ i := by
      have := List.length_filterMap_le f (List.range i)
      rw [List.length_range] at this
      exact this
    refine hs i x H H' _ _ hi hI hY ⟨_, hy⟩ (fun y H4 ry hI4 hk => ⟨_, hk _ hy, szl (by omega), hU _ _ hI4, ?_⟩) (fun H4 ry hI4 hk => ⟨hI4, ?_⟩)
    · rw [upd_same, e, ry]
    · rw [hk _ hy, e, ry, List.append_nil]
  · rintro H ⟨hI, hy⟩
    exact hd H hI hy
theorem ys_map {α : Type} {l : List α} {f : α → V} {ys : List V} (hl : ys.length = l.length) (hr : ∀ (i : Nat) (y : V), ys[i]? = some y → ∃ c, l[i]? = some c ∧ y = f c) : ys = l.map f := by
  apply List.ext_getElem?
  intro i
  rw [List.getElem?_map]
  cases h : ys[i]? with
  | none =>
    have h1 := List.getElem?_eq_none_iff.mp h
    rw [List.getElem?_eq_none_iff.mpr (by omega)]
    rfl
  | some y =>
    obtain ⟨c, h1, h2⟩ := hr i y h
    rw [h1, h2]
    rfl
theorem all_dec {α : Type} {l : List α} {p : α → Prop} [DecidablePred p] : (l.map fun c => decide (p c)).all id = decide (∀ c ∈ l, p c) := by
  rw [Bool.eq_iff_iff]
  simp
theorem size_tl (z : Str) : z.cps.size = z.cps.toList.length := by simp
theorem len_tl (z : Str) : z.length = z.cps.toList.length := by simp [Str.length]
theorem get_tl (z : Str) (i : Nat) : z.cps[i]? = z.cps.toList[i]? := by simp
theorem pick_map {α : Type} {P : α → Prop} {f : α → V} : ∀ {ys : List V}, (∀ (i : Nat) (y : V), ys[i]? = some y → ∃ c, P c ∧ y = f c) → ∃ cs : List α, ys = cs.map f ∧ cs.length = ys.length ∧ ∀ c ∈ cs, P c
  | [], _ => ⟨[], rfl, rfl, fun _ h => nomatch h⟩
  | y :: r, h => by
    obtain ⟨c, hc, e⟩ := h 0 y rfl
    obtain ⟨cs, h1, h2, h3⟩ := pick_map (P := P) (f := f) (ys := r) fun i z hz => h (i + 1) z hz
    refine ⟨c :: cs, by rw [e, h1]; rfl, by simp [h2], fun x hx => ?_⟩
    rcases List.mem_cons.mp hx with rfl | hx
    · exact hc
    · exact h3 x hx
theorem fil_empty {f : Nat → Option V} {n : Nat} : (!(!((List.range n).filterMap f).isEmpty)) = decide (∀ i < n, f i = none) := by
  rw [Bool.eq_iff_iff]
  simp
/-- tuples stay what they are -/
def TupKeep (H H' : Hp) : Prop := ∀ c xs, H c = some (.tup xs) → H' c = some (.tup xs)
theorem TupKeep.of {H H' : Hp} (s : Same H H') : TupKeep H H' := fun _ _ h => s _ _ h
theorem TupKeep.put {H H' : Hp} {D : Addr} {xs ys : List V} (k : TupKeep H H') (e : H' D = some (.lst xs)) : TupKeep H (upd H' D (.lst ys)) := fun c zs h => by
  have h2 := k c zs h
  have n : c ≠ D := fun z => by
    rw [z, e] at h2
    cases h2
  rw [upd_ne n]
  exact h2
/-- as lc_gen, where what is told of the items stands in the heap -/
theorem lc_genH {J : It} {n : Nat} {G : Hp → Prop} {Y : Nat → Hp → V → Hp → Prop} (w : Walk J n G Y) {g : TG} {te : TE} {vs : List Nat} {σ : L2.St} {H1 : Hp} {D : Addr} {Qd : Hp → Prop}
    (I : Hp → Prop) (R : Nat → V → Hp → Prop) (hn : n ≤ 100000) (h0 : I (upd H1 D (.lst []))) (hG : ∀ H, I H → G H) (hU : ∀ H o, I H → I (upd H D o)) (hR : ∀ i y H H', TupKeep H H' → R i y H → R i y H')
    (hs : ∀ i x H H' (Q : VK), i < n → I H → Y i H x H' → (∃ xs, H D = some (.lst xs)) → (∀ y H4, R i y H4 → I H4 → TupKeep H H4 → (∀ o, H D = some o → H4 D = some o) → Q y H4) → g x (wipe σ vs) H' fun σ2 H2 => wipe σ2 vs = wipe σ vs ∧ te σ2 H2 Q)
    (hd : ∀ H ys, I H → H D = some (.lst ys) → ys.length = n → (∀ i y, ys[i]? = some y → R i y H) → Qd H) :
    ∃ W : Nat → Nat → Hp → Prop, (∃ m, W 0 m (upd H1 D (.lst []))) ∧ ∀ i m H, W i m H →
      (J.stop i H ∧ Qd H) ∨ (J.go i H ∧ ∃ Nx : Hp → Prop, (∀ H', Nx H' → ∃ m', m' < m ∧ W (i + 1) m' H') ∧ ∀ x H', J.yld i H x H' → g x (wipe σ vs) H' fun σ2 H2 => wipe σ2 vs = wipe σ vs ∧ tYes σ2 H2 fun b H3 =>
        if b = true then te σ2 H3 fun y H4 => ∃ acc, H4 D = some (.lst acc) ∧ acc.length < sizeLine ∧ Nx (upd H4 D (.lst (acc ++ [y]))) else Nx H3) := by
  refine lc_it w (fun i H => I H ∧ ∃ ys : List V, H D = some (.lst ys) ∧ ys.length = i ∧ ∀ j y, ys[j]? = some y → R j y H) ⟨h0, [], upd_same, rfl, fun j y e => by simp at e⟩ (fun i H _ h => hG H h.1) ?_ ?_
  · rintro i x H H' hi ⟨hI, ys, hy, hl, hr⟩ hY
    refine hs i x H H' _ hi hI hY ⟨_, hy⟩ fun y H4 ry hI4 tk hk => ⟨ys, hk _ hy, szl (by omega), hU _ _ hI4, ys ++ [y], upd_same, by simp [hl], fun j z e => ?_⟩
    by_cases hj : j < ys.length
    · rw [List.getElem?_append_left hj] at e
      exact hR _ _ _ _ (tk.put (hk _ hy)) (hr j z e)
    · have hj2 : j = ys.length := by
        have := (List.getElem?_eq_some_iff.mp e).1
        simp at this
        omega
      subst hj2
      simp at e
      rw [← e, hl]
      exact hR _ _ _ _ (TupKeep.put (fun _ _ h => h) (hk _ hy)) ry
  · rintro H ⟨hI, ys, hy, hl, hr⟩
    exact hd H ys hI hy hl hr

/-! ### len(o), repr(o) by own defs -/
section
variable {X : Cx} {CX : CXT} {k : Nat} {f C : Addr} {fd : FuncData} {ps : List Str} {sp : Sp} {E : XK}
/-- an own def called with the object alone, below the running body -/
theorem own_run {a : Addr} {A : Around} {pins : List (Addr × Obj)} {σ : L2.St} {H : Hp} {s : Shared} {Q : VK} {R E' : Value → Shared → Prop} (F : FnOk X.prog X.w X.K X.mg X.base CX k f fd ps sp) (sb : Sub X k A) (hb : Binds X.K fd ps [])
    (hx : ∀ e s', CX X.stack H s E e s' → E' e s') (I : Inv X pins σ H s) (h : sp [.ref a] H Q E) (q : ∀ u s', EP X pins σ Q u s' → R u s') :
    wpAny (model X.prog X.w) A (call (.ref f) [.ref a]) R E' s := by
  have e0 : Env0 X.prog X.w X.K X.mg X.base A X.stack s H := by
    have e := I.env0
    exact ⟨by rw [sb.fr]; exact e.frames, e.mod, e.bs, e.bsz, e.funs, e.frf, e.hok, e.bare⟩
  have hl := F.len _ _ _ _ h
  have r2 : Vals [V.ref a] [Value.ref a] := .cons rfl .nil
  refine wpAny_call (codeAny_mono (F.run A X.stack s H ⟨[.ref a], []⟩ [.ref a] [.ref a] _ E sb.room e0 (by
    have := hb s [.ref a] I.kIn (by simpa using hl)
    simpa using this) r2 h) fun r s' hq => ?_)
  cases r with
  | error e => exact hx e s' hq
  | ok fl =>
    cases fl with
    | ret w => exact q _ _ (I.after hq)
    | next => exact False.elim hq
    | brk => exact False.elim hq
    | cont => exact False.elim hq
/-- the class has an own def under a name -/
structure OwnDef (K : PySem.W.Frag) (C : Addr) (m : Str) (f : Addr) : Prop where
  at_ : PySem.W.findIn K (.ref C) m = some (some (.ref f))
  fn : PySem.W.isFn K (.ref f) = true
theorem call_ownlen (F : FnOk X.prog X.w X.K X.mg X.base CX k f fd ps sp) (hr : Room (k + 1) X.A) (d : OwnDef X.K C "__len__" f) (hb : Binds X.K fd ps []) (hx : Passes CX X E) :
    CallR X (.builtin "len") (fun xs H Q => ∃ (a dx : Addr) (fs : List (Str × V)), xs = [.ref a] ∧ H a = some (.ins C dx fs) ∧ sp [.ref a] H (fun v H' => ∃ n : Int, v = .int n ∧ 0 ≤ n ∧ n < 2 ^ 63 ∧ Q (.int n) H') E) := by
  intro pins s σ H xs us Q I r h
  obtain ⟨a, dx, fs, rfl, ha, h⟩ := h
  obtain ⟨u, rfl, ru⟩ := vals1 r
  obtain rfl : u = Value.ref a := ru
  obtain ⟨mA, J, _⟩ := ins_get I.hok ha
  obtain ⟨od, J, _⟩ := J.look
  refine Calls.call_function_entry kind_len plain_len entry_len (args_len1 _) ?_
  unfold Builtin.«len»
  refine wpAny_bind (m := oneArg "len" _) (wpAny_pure ?_)
  refine wpAny_bind (m := callSpecial? (.ref a) (PySem.Str.ofString "__len__")) (PySem.W.special_fn I.kIn J d.at_ (beq_iff_eq.mp d.fn) (own_run F ⟨hr.in1, rfl⟩ hb (fun e s' z => hx pins σ H s e s' I z) I h fun u s' z => ?_))
  obtain ⟨v, H', I', rv, n, rfl, n0, n1, q⟩ := z
  obtain ⟨t, rfl⟩ := rv
  refine wpAny_bind (wpAny_holding (wpAny_pure ?_))
  refine wpAny_bind (wpAny_letGo ?_)
  show wpAny _ _ (if n < 0 then _ else _) _ _ _
  rw [if_neg (by omega)]
  show wpAny _ _ (if n ≥ 2 ^ 63 then _ else _) _ _ _
  rw [if_neg (by omega)]
  exact wpAny_bind (wpAny_mkInt (wpAny_pure ⟨_, rfl, .int n, H', I'.tok _, ⟨_, rfl⟩, q⟩))
theorem call_ownrepr (F : FnOk X.prog X.w X.K X.mg X.base CX k f fd ps sp) (hr : Room (k + 1) X.A) (d : OwnDef X.K C "__repr__" f) (hb : Binds X.K fd ps []) (hx : Passes CX X E) :
    CallR X (.builtin "repr") (fun xs H Q => ∃ (a dx : Addr) (fs : List (Str × V)), xs = [.ref a] ∧ H a = some (.ins C dx fs) ∧ sp [.ref a] H (fun v H' => ∃ z : Str, v = .str z ∧ Q (.str z) H') E) := by
  intro pins s σ H xs us Q I r h
  obtain ⟨a, dx, fs, rfl, ha, h⟩ := h
  obtain ⟨u, rfl, ru⟩ := vals1 r
  obtain rfl : u = Value.ref a := ru
  obtain ⟨mA, J, _⟩ := ins_get I.hok ha
  obtain ⟨od, J, _⟩ := J.look
  refine Calls.call_function_entry PySem.F.kind_repr PySem.F.plain_repr PySem.F.entry_repr (PySem.F.args_repr1 _) ?_
  unfold Builtin.«repr»
  refine wpAny_bind (m := oneArg "repr" _) (wpAny_pure ?_)
  refine wpAny_bind (wpAny_cRoomFor hr.in1.units0 ?_)
  refine wpAny_bind (wpAny_bind (J.type.here ((PySem.W.looks_findIn I.kIn d.at_).here ?_)))
  refine wpAny_bind (m := callSpecialIfBound? (.ref a) (PySem.Str.ofString "__repr__")) (PySem.W.ifBound_K I.kIn J d.at_ d.fn (own_run F ⟨hr.in1, rfl⟩ hb (fun e s' z => hx pins σ H s e s' I z) I h fun u s' z => ?_))
  obtain ⟨v, H', I', rv, z, rfl, q⟩ := z
  obtain ⟨t, rfl⟩ := rv
  refine wpAny_bind (wpAny_isInstance (T := "str") (b := true) rfl isSubtype_str_str ?_)
  exact wpAny_pure ⟨_, rfl, .str z, H', I', ⟨t, rfl⟩, q⟩
end

/-! ### x in o by an own __contains__ -/
section
variable {X : Cx} {CX : CXT} {k : Nat} {f C : Addr} {fd : FuncData} {ps : List Str} {sp : Sp} {E : XK}
/-- an own def called with the object and one argument, below the running body -/
theorem own_run2 {a : Addr} {x : V} {v : Value} {A : Around} {pins : List (Addr × Obj)} {σ : L2.St} {H : Hp} {s : Shared} {Q : VK} {R E' : Value → Shared → Prop} (F : FnOk X.prog X.w X.K X.mg X.base CX k f fd ps sp) (sb : Sub X k A) (hb : Binds X.K fd ps [])
    (hx : ∀ e s', CX X.stack H s E e s' → E' e s') (I : Inv X pins σ H s) (rx : RelV x v) (h : sp [.ref a, x] H Q E) (q : ∀ u s', EP X pins σ Q u s' → R u s') :
    wpAny (model X.prog X.w) A (call (.ref f) [.ref a, v]) R E' s := by
  have e0 : Env0 X.prog X.w X.K X.mg X.base A X.stack s H := by
    have e := I.env0
    exact ⟨by rw [sb.fr]; exact e.frames, e.mod, e.bs, e.bsz, e.funs, e.frf, e.hok, e.bare⟩
  have hl := F.len _ _ _ _ h
  have r2 : Vals [V.ref a, x] [Value.ref a, v] := .cons rfl (.cons rx .nil)
  refine wpAny_call (codeAny_mono (F.run A X.stack s H ⟨[.ref a, v], []⟩ [.ref a, v] [.ref a, x] _ E sb.room e0 (by
    have := hb s [.ref a, v] I.kIn (by simpa using hl)
    simpa using this) r2 h) fun r s' hq => ?_)
  cases r with
  | error e => exact hx e s' hq
  | ok fl =>
    cases fl with
    | ret w => exact q _ _ (I.after hq)
    | next => exact False.elim hq
    | brk => exact False.elim hq
    | cont => exact False.elim hq
theorem op_ownIn (F : FnOk X.prog X.w X.K X.mg X.base CX k f fd ps sp) (hr : Room k X.A) (d : OwnDef X.K C "__contains__" f) (hb : Binds X.K fd ps []) (hx : Passes CX X E) :
    OpR X (compareOp .In) (fun x y H Q => ∃ (a dx : Addr) (fs : List (Str × V)), y = .ref a ∧ H a = some (.ins C dx fs) ∧ sp [.ref a, x] H (fun v H' => ∃ b : Bool, v = .bl b ∧ Q (.bl b) H') E) := by
  intro pins s σ H x y v u Q I rx ry h
  obtain ⟨a, dx, fs, rfl, ha, h⟩ := h
  obtain rfl : u = Value.ref a := ry
  obtain ⟨mA, J, _⟩ := ins_get I.hok ha
  obtain ⟨od, J, _⟩ := J.look
  unfold compareOp
  refine wpAny_bind (m := contains (.ref a) v) ?_
  unfold contains
  refine wpAny_holding ?_
  show wpAny _ _ (specialOf (.ref a) "__contains__" >>= _) _ _ _
  refine wpAny_bind (wpAny_bind (J.type.here ((PySem.W.looks_findIn I.kIn d.at_).here ?_)))
  have n1 : ¬ ((some (Value.ref f) == some Value.none) = true) := by
    intro z
    have : (some (Value.ref f) == some Value.none) = false := by rfl
    rw [this] at z
    cases z
  rw [if_neg n1]
  refine wpAny_bind (m := callSpecialUnlessNone? (.ref a) "__contains__" [v] _) ?_
  unfold callSpecialUnlessNone?
  refine wpAny_bind (wpAny_bind (J.type.here ((PySem.W.looks_findIn I.kIn d.at_).here ?_)))
  refine wpAny_holding (wpAny_bind ((PySem.W.bind_fn I.kIn _ (beq_iff_eq.mp d.fn)).here ?_))
  show wpAny _ _ (if (Value.ref f == Value.none) = true then _ else _) _ _ _
  have n2 : ¬ ((Value.ref f == Value.none) = true) := by
    intro z
    have : (Value.ref f == Value.none) = false := by rfl
    rw [this] at z
    cases z
  rw [if_neg n2]
  refine wpAny_bind (m := call (.ref f) [.ref a, v]) ?_
  refine own_run2 F ⟨hr, rfl⟩ hb (fun e s' z => hx pins σ H s e s' I z) I rx h fun u s' z => ?_
  obtain ⟨w', H', I', rv, b, rfl, q⟩ := z
  obtain rfl : u = .bool b := rv
  refine wpAny_pure ?_
  exact wpAny_truthy_bool (wpAny_pure ⟨.bl b, H', I', rfl, q⟩)
end

/-! ### max of a tuple -/
section
variable {prog : Program} {w : World} {A : Around} {E : Value → Shared → Prop} {s : Shared} {l : Addr} {its : List Value} {ns : List Int} {Q : Value → Shared → Prop}
theorem max_tup_raw (hh : A.handled = none) (hl : s.heap.IsTuple l its.toArray) (hi : IntsAre its ns) (hne : 0 < ns.length)
    (h : ∀ h' tk M t', (∀ b o, s.heap.get? b = some o → h'.get? b = some o) → M ∈ ns → (∀ a, a ∈ ns → a ≤ M) → Q (.int M t') { s with heap := h', toks := tk }) : wpAny (model prog w) A (call (.builtin "max") [.ref l]) Q E s := by
  obtain ⟨xs, e⟩ := hi.allInts.items
  have hn : numsOf (intItems xs).toList = ns := by rw [← e]; exact hi.numsOf
  rw [nums_intItems] at hn
  subst hn
  rw [e] at hl
  have hsz : 0 < xs.size := by simpa using hne
  have hlt : l < s.heap.objs.size := by
    obtain ⟨_, e, _⟩ := hl
    exact Heap.lt_size e
  refine call_max_walk (wpAny_pyIter_tuple hl ?_)
  refine ⟨_, _, _, _, _, _, _, rfl, Walks.tuple (A := A.in1) hh s.heap.objs.size l (Nat.ne_of_lt hlt) (intItems xs), ⟨⟨_, Heap.get?_push_size _ rfl, rfl, rfl⟩, hl.push _⟩, fun b hb => ?_, by simpa [intItems] using hsz, CmpOf.ints_gt (numAt xs) (fun _ _ => intItems_at), fun v h' tk hP hk => ?_⟩
  · show b < (s.heap.push _).objs.size
    rw [Heap.size_push]
    rcases List.mem_cons.mp hb with rfl | hb
    · exact Nat.lt_succ_self _
    · rw [List.mem_singleton.mp hb]
      exact Nat.lt_succ_of_lt hlt
  · have hP : (intItems xs)[argBest (fun i j => decide (numAt xs i > numAt xs j)) (xs.size - 1)]? = some v := by simpa [intItems] using hP
    obtain ⟨t, rfl⟩ := intItems_at hP
    obtain ⟨h1, h2⟩ := argBest_gt (numAt xs) (xs.size - 1)
    refine h h' tk _ t (fun b o e => hk b o (fun hm => ?_) (Heap.get?_push_of_some _ e)) ?_ fun a ha => ?_
    · rcases List.mem_cons.mp hm with e1 | hm
      · exact absurd (e1 ▸ Heap.lt_size e) (Nat.lt_irrefl _)
      · cases hm
    · rw [numAt_eq]
      exact PySem.getD_mem (by rw [List.length_map, Array.length_toList]; omega)
    · obtain ⟨j, hj, rfl⟩ := mem_getD ha
      rw [List.length_map, Array.length_toList] at hj
      rw [← numAt_eq]
      exact h2 j (by omega)
end
section
variable {X : Cx}
/-- max(t) of a tuple of ints -/
def rMaxT (K : PySem.W.Frag) : List V → Hp → VK → Prop := fun vs H Q => ∃ (a : Addr) (ns : List Int), vs = [V.ref a] ∧ SqT K H a (ns.map V.int) ∧ 0 < ns.length ∧ ∀ m, m ∈ ns → (∀ y, y ∈ ns → y ≤ m) → Q (.int m) H
theorem cr_maxT (hc : X.calm = true) : CallR X (.builtin "max") (rMaxT X.K) := by
  intro pins s σ H vs us Q I r h
  obtain ⟨a, ns, rfl, hs, hne, q⟩ := h
  obtain ⟨its, rv, hl, _⟩ := I.tuple hs
  rw [Vals.ref1 r]
  exact max_tup_raw (I.ok.hd hc) hl rv.ints hne fun h' tk m t' hk h1 h2 => ⟨.int _, H, I.kept hk, ⟨_, rfl⟩, q m h1 h2⟩
/-- a def with defaults that lets nothing out -/
theorem fund_ok0 {P : Program} {w : World} {K : PySem.W.Frag} {mg : Str → Option Value} {base : Heap} {x qual : Str} {params : Arguments} {body : List Stmt} {scope : Scope} {dvs : List V} {kws : List (Str × V)} {f : Addr} {fd : FuncData} {N ps : List Str} {k : Nat} {sp : Sp}
    (F : FunD K x qual params body scope dvs kws f fd) (S : FnScope N ps scope) (len : ∀ vs H Q E, sp vs H Q E → vs.length = ps.length)
    (hbody : ∀ (cdv : Value) (A : Around) (outer : List PySem.Env) (s : Shared) (H : Hp) (vs : List V) (Q : VK) (E : XK), Room k (A.deeper (envOfC qual scope s.heap.objs.size f cdv)) → sp vs H Q E →
      ∃ t, PSs (cxOf CX0 P w K mg base N qual scope f cdv A outer s H E).nox body t ∧ t { nx := fun _ H' => Q .non H', rt := Q } (start N vs) H) : FnOk P w K mg base CX0 (k + 1) f fd ps sp := by
  refine F.ok S len fun cdv A outer s H vs Q E hr hsp => ?_
  obtain ⟨t, h, q⟩ := hbody cdv A outer s H vs Q E hr hsp
  exact ⟨t, h.nox, q⟩
/-- a dict comprehension: I holds of the heap and of what stands at D all the way -/
theorem dc_gen {J : It} {n : Nat} {G : Hp → Prop} {Y : Nat → Hp → V → Hp → Prop} (w : Walk J n G Y) {g : TG} {tt : TT} {tk tv : TE} {vs : List Nat} {σ : L2.St} {H1 : Hp} {D : Addr} {Qd : Hp → Prop}
    (Pv : Nat → Hp → Prop) (h0 : Pv 0 (upd H1 D (.dK []))) (hG : ∀ i H, i ≤ n → Pv i H → G H)
    (hs : ∀ i x H H', i < n → Pv i H → Y i H x H' → g x (wipe σ vs) H' fun σ2 H2 => wipe σ2 vs = wipe σ vs ∧ tt σ2 H2 fun b H3 =>
      if b = true then tk σ2 H3 fun y H4 => tv σ2 H4 fun z H5 => ∃ kvs k, y = kV k ∧ H5 D = some (.dK kvs) ∧ kvs.length < sizeLine ∧ Pv (i + 1) (upd H5 D (.dK (putK kvs k z))) else Pv (i + 1) H3) (hd : ∀ H, Pv n H → Qd H) :
    ∃ W : Nat → Nat → Hp → Prop, (∃ m, W 0 m (upd H1 D (.dK []))) ∧ ∀ i m H, W i m H →
      (J.stop i H ∧ Qd H) ∨ (J.go i H ∧ ∃ Nx : Hp → Prop, (∀ H', Nx H' → ∃ m', m' < m ∧ W (i + 1) m' H') ∧ ∀ x H', J.yld i H x H' → g x (wipe σ vs) H' fun σ2 H2 => wipe σ2 vs = wipe σ vs ∧ tt σ2 H2 fun b H3 =>
        if b = true then tk σ2 H3 fun y H4 => tv σ2 H4 fun z H5 => ∃ kvs k, y = kV k ∧ H5 D = some (.dK kvs) ∧ kvs.length < sizeLine ∧ Nx (upd H5 D (.dK (putK kvs k z))) else Nx H3) := by
  refine ⟨fun i m H => i ≤ n ∧ m = n - i ∧ Pv i H, ⟨_, Nat.zero_le _, rfl, h0⟩, ?_⟩
  rintro i m H ⟨hi, rfl, hP⟩
  by_cases e : i = n
  · subst e
    exact .inl ⟨w.stops _ (hG _ _ hi hP), hd _ hP⟩
  · refine .inr ⟨w.goes i _ (by omega) (hG _ _ hi hP), fun H' => Pv (i + 1) H', fun H' h => ⟨n - (i + 1), by omega, by omega, rfl, h⟩, fun x H' y => ?_⟩
    exact hs i x H H' (by omega) hP (w.yields i H x H' (by omega) (hG _ _ hi hP) y)
end
section
variable {X : Cx}
/-- a name that gets a dict comprehension -/
theorem ps_setDc {i : Nat} {z : Str} {pz : Pos} {ek ev tg0 src : Expr} {conds : List Expr} {sc0 : Scope} {own : List (Str × Nat)} {p1 p2 : Pos} {wi : TI} {g : TG} {tt : TT} {tk tv : TE} (nd : X.N.Nodup) (hz : X.N[i]? = some z) (lz : X.env.scope.names.lookup z = some .local)
    (sw : swapsWith (.DictComp ek ev [⟨tg0, src, conds, 0⟩] sc0 p1) (some (.Name z pz)) p2.line X.env = pure true) (hc : X.calm = true) (pi : PI X tg0 src wi) (bk : BlkOk X.N X.env.scope sc0 own)
    (pg : ∀ (s : Shared) (H : Hp) (C : Addr) (cl : List (Str × Addr)) (fp : List Addr), PG (X.blk s H sc0 (compEnvC sc0 cl C X.env) fp) tg0 g) (pt : ∀ (s : Shared) (H : Hp) (C : Addr) (cl : List (Str × Addr)) (fp : List Addr), PTs (X.blk s H sc0 (compEnvC sc0 cl C X.env) fp) conds tt)
    (pk : ∀ (s : Shared) (H : Hp) (C : Addr) (cl : List (Str × Addr)) (fp : List Addr), PE (X.blk s H sc0 (compEnvC sc0 cl C X.env) fp) ek tk) (pv : ∀ (s : Shared) (H : Hp) (C : Addr) (cl : List (Str × Addr)) (fp : List Addr), PE (X.blk s H sc0 (compEnvC sc0 cl C X.env) fp) ev tv)
    (fo : ∀ x, foldedSetIterable src X.env x = pure x := by intro _; rfl) :
    PS X (.Assign [.Name z pz] (.DictComp ek ev [⟨tg0, src, conds, 0⟩] sc0 p1) p2) (tAsg (tDc wi g tt tk tv (own.map (·.2))) (gName i)) := ⟨fun pins s σ H D inv rd => by
  rw [exec_Assign_Name_used _ _ _ _ sw]
  have rd2 : tDc wi g tt tk tv (own.map (·.2)) σ H (fun v H1 => gName i v σ H1 D.nx) := rd
  have core := dc_core (X := X) (use := some (assign (.Name z pz) X.env)) (pos := p1) (pos' := firstIterPos [⟨tg0, src, conds, 0⟩] p1) (Qf := fun _ s' => SP X pins D .next s') hc nd inv pi bk pg pt pk pv fo rd2 fun L C s' m H' I' q hn f => by
    show wpAny _ _ (assign (.Name z pz) X.env (.ref L)) _ _ _
    obtain ⟨f0, f1, f2, f3, f4, f5⟩ := f
    refine wpAny_assign_Name (store_ok2 (v := V.ref L) I' nd hz (.inl lz) rfl (fun s2 I2 ⟨c, sb, hc2⟩ => ?_) (.inr lz))
    have nc : C ≠ c := hc2.elim (fun e => by rw [e]; exact f1) (fun k e => f4 z c k e.symm)
    exact ⟨m, hn.sameBut sb nc, fun h3 sb3 => ⟨_, H', I2.turned (t' := s2.toks) (fun b o hb e => (sb3.2 b hb).trans e) f0 f1 f3 f4 f5, q⟩⟩
  exact wpAny_bind (wpAny_standAt (wpAny_bind (wpAny_bind (thn core fun _ s' hq => wpAny_pure (wpAny_pure hq)))))⟩
theorem swD_true {ek ev : Expr} {gs : List Comprehension} {sc0 : Scope} {p1 pz : Pos} {z : Str} {l : Nat} {env : PySem.Env} (fk : env.scope.kind = .function) (lz : env.scope.names.lookup z = some .local) (hl : (pz.line == p1.line) = true)
    (na : (sc0.names.any fun (n, k) => n == z && (k == .local || k == .cell)) = false) : swapsWith (.DictComp ek ev gs sc0 p1) (some (.Name z pz)) l env = pure true := by
  have k1 : env.kindOf z = some .local := lz
  have k2 : env.blockKind = .function := by unfold Env.blockKind; rw [fk]; rfl
  unfold swapsWith
  simp only [k2, k1, na, Expr.pos, hl]
  rfl
end

/-! ### enumerate of a tuple -/
namespace EnT
open PySem
theorem drawT {prog : Program} {w : World} {A : Around} (hh : A.handled = none) (it l : Addr) (ne : l ≠ it) (its : Array Value) :
    Draws prog w A it [it, l] its.size (fun i v => its[i]? = some v) (fun i h => h.IsTupleIter it l i ∧ h.IsTuple l its) := {
  live := fun i h st => by
    obtain ⟨⟨o, ho, _⟩, _⟩ := st
    exact ⟨o, ho⟩
  frame := fun i h h' st keep => by
    obtain ⟨⟨o, ho, r⟩, ⟨u, hu, q⟩⟩ := st
    exact ⟨⟨o, keep it (by simp) o ho, r⟩, ⟨u, keep l (by simp) u hu, q⟩⟩
  item := fun i s Q E hi st k => RZ.nextOf_tuple_item st.1 st.2 (x := its[i]) (by simp [hi]) fun h' a b => k _ h' s.toks (by simp [hi]) ⟨a, st.2.extBut b.extBut ne⟩ b
  done := fun s Q E st k => RZ.nextOf_tuple_end hh st.1 st.2 (by simp) k }
theorem new_enumT (l : Addr) (its : Array Value) (n : Nat) (dct : Option Addr) (sl : Array (Option Value)) :
    Meets (Builtin.«enumerate.__new__» ⟨[.type "enumerate", .ref l], []⟩) (fun _ R s => s.heap.get? l = some { cls := .type "tuple", dict := dct, data := .seq its n, slots := sl } ∧
      R (.ok (.ret (.ref (s.heap.push { cls := .type "tuple_iterator", data := .fields #[.ref l, .int 0 0] }).objs.size)))
        { s with heap := (s.heap.push { cls := .type "tuple_iterator", data := .fields #[.ref l, .int 0 0] }).push { cls := .type "enumerate", data := .fields #[.none, .bool false, .ref s.heap.objs.size, rawInt 0, .none, .none] } }) := by
  refine .of_wp fun prog w A R s h => ?_
  obtain ⟨hp, g, d, tk, os⟩ := s
  obtain ⟨hl, fin⟩ := h
  have below := sub_enumerate
  have T : Heap.IsTuple (Shared.heap ⟨hp, g, d, tk, os⟩) l its := ⟨_, hl, rfl, n, rfl⟩
  wp_walk using AutoSeq1.wpAny_loadPart' hl
  refine wpAny_stack_any fun st => wpAny_pure ?_
  split
  · rename_i c _ _ _ _ _
    cases (c == Value.type "enumerate") <;> (wp_walk using AutoSeq1.wpAny_loadPart' hl, wpAny_pyIter_tuple T; exact ⟨_, rfl, fin⟩)
  · wp_walk using AutoSeq1.wpAny_loadPart' hl, wpAny_pyIter_tuple T
    exact ⟨_, rfl, fin⟩
theorem call_enumT {prog : Program} {w : World} {A : Around} {E : Value → Shared → Prop} {s : Shared} {l : Addr} {its : Array Value} {Q : Value → Shared → Prop} (T : s.heap.IsTuple l its)
    (k : ∀ h', IsEnum h' (s.heap.objs.size + 1) s.heap.objs.size 0 .none → h'.IsTupleIter s.heap.objs.size l 0 → (∀ b o, s.heap.get? b = some o → h'.get? b = some o) → Q (.ref (s.heap.objs.size + 1)) { s with heap := h' }) :
    wpAny (model prog w) A (call (.type "enumerate") [.ref l]) Q E s := by
  obtain ⟨⟨c, dct, dt, sl⟩, hl, hc, n, hd⟩ := T
  obtain rfl : c = .type "tuple" := hc
  obtain rfl : dt = .seq its n := hd
  refine callType_new F.called_enumerate (by decide) (F.typeCall_enumerate_1 _) (F.newCall_enumerate_1 _) (fun obj => F.args_object_init_2 obj _) F.entry_enumerate_new (new_enumT l its n dct sl) ⟨hl, ?_⟩
  have z : (s.heap.push { cls := .type "tuple_iterator", data := .fields #[.ref l, .int 0 0] }).objs.size = s.heap.objs.size + 1 := Heap.size_push ..
  show _ ∧ _
  rw [z]
  have en : IsEnum ((s.heap.push { cls := .type "tuple_iterator", data := .fields #[.ref l, .int 0 0] }).push { cls := .type "enumerate", data := .fields #[.none, .bool false, .ref s.heap.objs.size, rawInt 0, .none, .none] })
      (s.heap.objs.size + 1) s.heap.objs.size 0 .none := by
    have g := Heap.get?_push_size (s.heap.push { cls := .type "tuple_iterator", data := .fields #[.ref l, .int 0 0] }) (o := { cls := .type "enumerate", data := .fields #[.none, .bool false, .ref s.heap.objs.size, rawInt 0, .none, .none] }) rfl
    rw [z] at g
    exact g
  exact ⟨⟨_, en, rfl⟩, k _ en ⟨_, Heap.get?_push_of_some _ (Heap.get?_push_size _ rfl), rfl, rfl⟩ fun b o x => Heap.get?_push_of_some _ (Heap.get?_push_of_some _ x)⟩
end EnT
/-- the tuple at a, each item in a new pair with its place -/
def IteT (K : PySem.W.Frag) (a : Addr) : It := {
  go := fun i H => ∃ (xs : List V) (x : V), SqT K H a xs ∧ xs[i]? = some x
  yld := fun i H v H' => ∃ T x, v = .ref T ∧ H T = none ∧ H' = upd H T (.tup [.int (i : Nat), x]) ∧ ∀ xs, SqT K H a xs → xs[i]? = some x
  stop := fun i H => ∃ xs : List V, SqT K H a xs ∧ xs.length ≤ i }
theorem turn_enumT {P : Program} {w : World} {K : PySem.W.Frag} {elts : List Expr} {kk : Nat} {tpos : Pos} (a e it : Addr) :
    Turn P w K (.Tuple elts kk tpos) (IteT K a) [e, it] e (fun i h => (∃ old, IsEnum h e it ((i : Nat) : Int) old) ∧ h.IsTupleIter it a i ∧ e ≠ it) := {
  mem := by simp
  obj := fun i h st b hb => by
    obtain ⟨⟨old, he⟩, ⟨o, ho, hc, hd⟩, _⟩ := st
    have hb : b = e ∨ b = it := by simpa using hb
    rcases hb with rfl | rfl
    · exact ⟨_, he, fun v q => by cases q⟩
    · exact ⟨o, ho, fun v q => by rw [hd] at q; cases q⟩
  keep := fun i h h' st k => by
    obtain ⟨⟨old, he⟩, ⟨o, ho, r⟩, ne⟩ := st
    exact ⟨⟨old, k e (by simp) _ he⟩, ⟨o, k it (by simp) o ho, r⟩, ne⟩
  item := by
    intro X hP hw hK hc i pins s σ H E I hf st hg
    subst hP hw hK
    obtain ⟨⟨old, he⟩, hit, ne⟩ := st
    obtain ⟨xs, x, hq, hx⟩ := hg
    obtain ⟨its, rv, p, hz⟩ := I.tuple hq
    obtain ⟨u, hu, ru⟩ := rv.get hx
    have eT : ∀ {c : Addr} {o : Obj}, s.heap.get? c = some o → o.cls ≠ .type "tuple" → c ≠ a := fun {c} {o} h n z => by
      obtain ⟨o2, h2, c2, _⟩ := p
      rw [z, h2] at h
      cases h
      exact n c2
    have ea : e ≠ a := eT he (by simp)
    have ia : a ≠ it := by
      obtain ⟨o, ho, hc2, _⟩ := id hit
      exact (eT ho (by rw [hc2]; simp)).symm
    have le : e < s.heap.objs.size := Heap.lt_size he
    have li : it < s.heap.objs.size := by
      obtain ⟨_, ho, _⟩ := id hit
      exact Heap.lt_size ho
    have sz : i < its.toArray.size := by
      have := (List.getElem?_eq_some_iff.mp hu).1
      simpa using this
    have D := EnT.drawT (prog := X.prog) (w := X.w) (A := X.A.in1) (I.ok.hd hc) it a ia its.toArray
    refine wpAny_pyNext_enum_itemD D he (And.intro hit p) sz ne (by simp [ne, ea]) fun x2 h' tk hx2 ho st' hT hsz hk => ?_
    have eu : x2 = u := by
      have g : its[i]? = some x2 := by simpa using hx2
      rw [hu] at g
      exact (Option.some.inj g).symm
    subst eu
    refine ⟨_, rfl, wpAny_letOwnedTupleGo_enum (s := { s with heap := h', toks := tk + 1 }) ho fun h2 he2 sb => ?_⟩
    have hT2 : h2.get? s.heap.objs.size = some { cls := .type "tuple", data := .seq #[.int i tk, x2] } := by rw [sb.2 _ (Nat.ne_of_gt le)]; exact hT
    have fresh : ObjOk X.prog X.w (upd H s.heap.objs.size (.tup [.int (i : Nat), x])) h2 s.heap.objs.size (.tup [.int (i : Nat), x]) :=
      ⟨by show 2 ≤ sizeLine; decide, [.int i tk, x2], .cons ⟨_, rfl⟩ (.cons ru .nil), ⟨_, hT2, rfl, _, rfl⟩⟩
    have I1 : Inv X pins σ (upd H s.heap.objs.size (.tup [.int (i : Nat), x])) { s with heap := h2, toks := tk + 1 } := by
      refine I.turnedNew (ch := [e, it]) (fun b ob hb q => ?_) hf (Nat.le_refl _) fresh
      have n1 : b ≠ e := fun z => hb (by simp [z])
      have n2 : b ≠ it := fun z => hb (by simp [z])
      rw [sb.2 b n1]
      exact hk b ob n1 n2 q
    refine ⟨.ref s.heap.objs.size, _, I1, rfl, ⟨_, x, rfl, I.hok.fresh (Nat.le_refl _), rfl, fun ys hy => by rw [I.tuple_inj hy hq]; exact hx⟩, ⟨⟨x2, ?_⟩, ?_, ne⟩, fun b hb => ?_⟩
    · rw [show ((i + 1 : Nat) : Int) = (i : Int) + 1 by omega]
      exact he2
    · obtain ⟨o, ho2, r⟩ := st'.1
      exact ⟨o, by rw [sb.2 it (Ne.symm ne)]; exact ho2, r⟩
    · have hb2 : b = e ∨ b = it := by simpa using hb
      have lb : b < s.heap.objs.size := by rcases hb2 with rfl | rfl <;> assumption
      rw [upd_ne (Nat.ne_of_lt lb)]
      exact (hf b hb).1
  done := by
    intro X hP hw hK hc i pins s σ H E I hf st hg
    subst hP hw hK
    obtain ⟨⟨old, he⟩, hit, ne⟩ := st
    obtain ⟨xs, hq, hx⟩ := hg
    obtain ⟨its, rv, p, hz⟩ := I.tuple hq
    have ia : a ≠ it := fun z => by
      obtain ⟨o, ho, hc2, _⟩ := id hit
      obtain ⟨o2, h2, c2, _⟩ := id p
      rw [z, ho] at h2
      cases h2
      rw [hc2] at c2
      simp at c2
    obtain ⟨f0, f1, f2, f3, f4, f5⟩ := hf it (by simp)
    have hl := rv.length
    have hn : its.toArray.size ≤ i := by simp; omega
    -- the iterator stands at i, beyond the end
    have hT : s.TypeIs (.ref e) "enumerate" := ⟨_, he, rfl⟩
    unfold pyNext
    refine wpAny_bind (wpAny_attempt (wpAny_callSpecial?_slot (name := Str.ofString "__next__") hT F.slot_enumerate_next (wpAny_call_entry F.slot_enumerate_next hT F.entry_enumerate_next ?_ (F.args_enumerate_next_1 _))))
    show wpAny _ _ (field (.ref e) 2 >>= _) _ _ _
    refine wpAny_bind (wpAny_field he rfl (x := .ref it) rfl ?_)
    refine wpAny_bind (RZ.nextOf_tuple_end (I.ok.hd hc) hit p (by simpa using hn) fun h2 x k hx2 => ?_)
    obtain ⟨o, ho, hc2⟩ := hx2
    refine wpAny_bind (wpAny_isInstance (T := "StopIteration") (b := true) ⟨o, ho, hc2⟩ isSubtype_stop ?_)
    exact wpAny_pure ⟨rfl, I.turned (t' := s.toks) (fun b o hb q => k b o hb q) f0 f1 f3 f4 f5⟩
  self := fun A i s Q E st h => by
    obtain ⟨⟨_, he⟩, _⟩ := st
    exact wpAny_pyIter_enum he h }
def iEnumA (K : PySem.W.Frag) (ta : TA) : TI := fun σ H R => ta σ H fun vs H1 => ∃ a xs, vs = [.ref a] ∧ ((SqL K H1 a xs ∧ R (Ite K a) H1) ∨ (SqT K H1 a xs ∧ R (IteT K a) H1))
theorem pi_enumA {X : Cx} {e : Expr} {ta : TA} {p pos tpos : Pos} {elts : List Expr} {kk : Nat} (hg : Gl X "enumerate") (hm : X.mg "enumerate" = none) (ha : PA X [e] ta) (hs : starEach [e] X.env = [(false, eval e X.env)] := by rfl) :
    PI X (.Tuple elts kk tpos) (.Call (.Name "enumerate" p) [e] [] pos) (iEnumA X.K ta) := by
  refine ⟨fun pins s σ H R I h => ?_⟩
  refine Call_ (ld_blt I hg hm boot_enumerate (PyProof.Rows.callWith_type1 (thn (ha.run pos pins s σ H _ I h) fun us s1 ⟨vs, H1, I1, r1, q1⟩ => ?_) hs rfl))
  obtain ⟨a, xs, ex, q1⟩ := q1
  subst ex
  obtain ⟨u, rfl, ru⟩ := vals1 r1
  obtain rfl : u = Value.ref a := ru
  have two : ∀ b ∈ [s1.heap.objs.size + 1, s1.heap.objs.size], FpOk X pins H1 b := fun b hb => by
    have hb : b = s1.heap.objs.size + 1 ∨ b = s1.heap.objs.size := by simpa using hb
    have le : s1.heap.objs.size ≤ b := by omega
    exact I1.fpOk le (I1.hok.fresh le)
  rcases q1 with ⟨hq, q⟩ | ⟨hq, q⟩
  · obtain ⟨its, rv, p', hz⟩ := I1.list hq
    refine call_enumerate_list p'.isList fun h' he hit hsz hk => wpAny_pyIter_enum he ?_
    exact ⟨s1.heap.objs.size + 1, _, _, _, H1, rfl, I1.kept (t' := s1.toks) hk, turn_enum a (s1.heap.objs.size + 1) s1.heap.objs.size, ⟨⟨.none, he⟩, hit, Nat.succ_ne_self _⟩, two, q⟩
  · obtain ⟨its, rv, p', hz⟩ := I1.tuple hq
    refine EnT.call_enumT p' fun h' he hit hk => wpAny_pyIter_enum he ?_
    exact ⟨s1.heap.objs.size + 1, _, _, _, H1, rfl, I1.kept (t' := s1.toks) hk, turn_enumT a (s1.heap.objs.size + 1) s1.heap.objs.size, ⟨⟨.none, he⟩, hit, Nat.succ_ne_self _⟩, two, q⟩
theorem walk_enumT {K : PySem.W.Frag} {a : Addr} {xs : List V} : Walk (IteT K a) xs.length (fun H => SqT K H a xs) (YPair (fun i => some (.int (i : Nat))) (fun i => xs[i]?)) := by
  refine ⟨fun i _ hi q => ⟨xs, xs[i], q, by simp [hi]⟩, fun _ q => ⟨xs, q, Nat.le_refl _⟩, fun i H v H' _ q y => ?_⟩
  obtain ⟨T, x, e1, e2, e3, e4⟩ := y
  exact ⟨T, .int (i : Nat), x, e1, e2, e3, rfl, e4 xs q⟩

/-! ### the text -/
def top (i : Nat) : Stmt := PySem.Challenge.pw_onlyahead_k20_circuits_refused.main.body.getD i (.Pass ⟨0, 0, 0, 0⟩)
abbrev s_Circuit___init : Stmt := inClass (top 55) 1
abbrev N_Circuit___init : List Str := ["self", "alphabet", "lines", "sizes", "looks"]
theorem sc_Circuit___init : FnScope N_Circuit___init ["self", "alphabet", "lines"] (defScope s_Circuit___init) := ⟨rfl, rfl, rfl, by decide +kernel, rfl, by decide +kernel, by decide +kernel⟩
abbrev s_Circuit___len : Stmt := inClass (top 55) 13
abbrev N_Circuit___len : List Str := ["self"]
theorem sc_Circuit___len : FnScope N_Circuit___len ["self"] (defScope s_Circuit___len) := ⟨rfl, rfl, rfl, by decide +kernel, rfl, by decide +kernel, by decide +kernel⟩
abbrev s_InvalidAlphabet___init : Stmt := inClass (top 3) 0
abbrev N_InvalidAlphabet___init : List Str := ["self", "given"]
theorem sc_InvalidAlphabet___init : FnScope N_InvalidAlphabet___init ["self", "given"] (defScope s_InvalidAlphabet___init) := ⟨rfl, rfl, rfl, by decide +kernel, rfl, by decide +kernel, by decide +kernel⟩
abbrev s_InvalidLine___init : Stmt := inClass (top 5) 0
abbrev N_InvalidLine___init : List Str := ["self", "at"]
theorem sc_InvalidLine___init : FnScope N_InvalidLine___init ["self", "at"] (defScope s_InvalidLine___init) := ⟨rfl, rfl, rfl, by decide +kernel, rfl, by decide +kernel, by decide +kernel⟩
abbrev s_Steps___init : Stmt := inClass (top 36) 0
abbrev N_Steps___init : List Str := ["self", "lines", "at", "line"]
theorem sc_Steps___init : FnScope N_Steps___init ["self", "lines"] (defScope s_Steps___init) := ⟨rfl, rfl, rfl, by decide +kernel, rfl, by decide +kernel, by decide +kernel⟩
abbrev s_TooMany___init : Stmt := inClass (top 7) 0
abbrev N_TooMany___init : List Str := ["self", "subject", "most"]
theorem sc_TooMany___init : FnScope N_TooMany___init ["self", "subject", "most"] (defScope s_TooMany___init) := ⟨rfl, rfl, rfl, by decide +kernel, rfl, by decide +kernel, by decide +kernel⟩
abbrev s_all_got : Stmt := top 63
abbrev N_all_got : List Str := ["_law_asks", "_law_ask"]
theorem sc_all_got : FnScope N_all_got ["_law_asks"] (defScope s_all_got) := ⟨rfl, rfl, rfl, by decide +kernel, rfl, by decide +kernel, by decide +kernel⟩
abbrev s_bag : Stmt := top 57
abbrev N_bag : List Str := ["_law_script", "_law_mixed", "_law_cell"]
theorem sc_bag : FnScope N_bag ["_law_script"] (defScope s_bag) := ⟨rfl, rfl, rfl, by decide +kernel, rfl, by decide +kernel, by decide +kernel⟩
abbrev s_field : Stmt := top 61
abbrev N_field : List Str := ["_law_e"]
theorem sc_field : FnScope N_field ["_law_e"] (defScope s_field) := ⟨rfl, rfl, rfl, by decide +kernel, rfl, by decide +kernel, by decide +kernel⟩
abbrev s_got : Stmt := top 62
abbrev N_got : List Str := ["_law_ask", "_law_said", "_law_e"]
theorem sc_got : FnScope N_got ["_law_ask"] (defScope s_got) := ⟨rfl, rfl, rfl, by decide +kernel, rfl, by decide +kernel, by decide +kernel⟩
abbrev s_line : Stmt := top 66
abbrev N_line : List Str := ["_law_bag_here", "_law_sizes", "_law_many", "_law_kind", "_law_one", "_law_other", "_law_sides", "_law_prime", "_law_k", "_law_j"]
theorem sc_line : FnScope N_line ["_law_bag_here", "_law_sizes"] (defScope s_line) := ⟨rfl, rfl, rfl, by decide +kernel, rfl, by decide +kernel, by decide +kernel⟩
abbrev s_lines : Stmt := top 65
abbrev N_lines : List Str := ["_law_bag_here", "_law_signs_here", "_law_many", "_law_lines_here", "_law_sizes", "_law_k", "_law_line_here", "_law_cells", "_law_ref", "_law_at"]
theorem sc_lines : FnScope N_lines ["_law_bag_here", "_law_signs_here", "_law_many"] (defScope s_lines) := ⟨rfl, rfl, rfl, by decide +kernel, rfl, by decide +kernel, by decide +kernel⟩
abbrev s_looking : Stmt := top 68
abbrev N_looking : List Str := ["_law_lines_here", "_law_found", "_law_line_here", "_law_seen"]
theorem sc_looking : FnScope N_looking ["_law_lines_here"] (defScope s_looking) := ⟨rfl, rfl, rfl, by decide +kernel, rfl, by decide +kernel, by decide +kernel⟩
abbrev s_of : Stmt := top 59
abbrev N_of : List Str := ["_law_bag_here", "_law_some"]
theorem sc_of : FnScope N_of ["_law_bag_here", "_law_some"] (defScope s_of) := ⟨rfl, rfl, rfl, by decide +kernel, rfl, by decide +kernel, by decide +kernel⟩
abbrev s_pull : Stmt := top 58
abbrev N_pull : List Str := ["_law_bag_here", "_law_sides", "_law_cell", "_law_digit", "_law_twice"]
theorem sc_pull : FnScope N_pull ["_law_bag_here", "_law_sides"] (defScope s_pull) := ⟨rfl, rfl, rfl, by decide +kernel, rfl, by decide +kernel, by decide +kernel⟩
abbrev s_same : Stmt := top 60
abbrev N_same : List Str := ["_law_found", "_law_due", "_law_a", "_law_b"]
theorem sc_same : FnScope N_same ["_law_found", "_law_due"] (defScope s_same) := ⟨rfl, rfl, rfl, by decide +kernel, rfl, by decide +kernel, by decide +kernel⟩
abbrev s_signs : Stmt := top 64
abbrev N_signs : List Str := ["_law_bag_here", "_law_many", "_law_found", "_law_k", "_law_rest", "_law_sign"]
theorem sc_signs : FnScope N_signs ["_law_bag_here"] (defScope s_signs) := ⟨rfl, rfl, rfl, by decide +kernel, rfl, by decide +kernel, by decide +kernel⟩
abbrev s_size : Stmt := top 67
abbrev N_size : List Str := ["_law_line_here", "_law_sizes", "_law_width", "_law_row"]
theorem sc_size : FnScope N_size ["_law_line_here", "_law_sizes", "_law_width"] (defScope s_size) := ⟨rfl, rfl, rfl, by decide +kernel, rfl, by decide +kernel, by decide +kernel⟩
abbrev s_wrong_line : Stmt := top 69
abbrev N_wrong_line : List Str := ["_law_bag_here", "_law_sizes", "_law_many", "_law_ref", "_law_size_here", "_law_table", "_law_wide", "_law_far", "_law_some", "_law_k"]
theorem sc_wrong_line : FnScope N_wrong_line ["_law_bag_here", "_law_sizes"] (defScope s_wrong_line) := ⟨rfl, rfl, rfl, by decide +kernel, rfl, by decide +kernel, by decide +kernel⟩
abbrev s_const_size : Stmt := top 23
abbrev N_const_size : List Str := ["worth"]
theorem sc_const_size : FnScope N_const_size ["worth"] (defScope s_const_size) := ⟨rfl, rfl, rfl, by decide +kernel, rfl, by decide +kernel, by decide +kernel⟩
abbrev s_counter_size : Stmt := top 28
abbrev N_counter_size : List Str := ["sizes", "prime", "start", "ref"]
theorem sc_counter_size : FnScope N_counter_size ["sizes", "prime", "start", "ref"] (defScope s_counter_size) := ⟨rfl, rfl, rfl, by decide +kernel, rfl, by decide +kernel, by decide +kernel⟩
abbrev s_is_alphabet : Stmt := top 39
abbrev N_is_alphabet : List Str := ["value", "at", "sign"]
theorem sc_is_alphabet : FnScope N_is_alphabet ["value"] (defScope s_is_alphabet) := ⟨rfl, rfl, rfl, by decide +kernel, rfl, by decide +kernel, by decide +kernel⟩
abbrev s_is_below : Stmt := top 12
abbrev N_is_below : List Str := ["value", "bound"]
theorem sc_is_below : FnScope N_is_below ["value", "bound"] (defScope s_is_below) := ⟨rfl, rfl, rfl, by decide +kernel, rfl, by decide +kernel, by decide +kernel⟩
abbrev s_is_cell : Stmt := top 31
abbrev N_is_cell : List Str := ["line"]
theorem sc_is_cell : FnScope N_is_cell ["line"] (defScope s_is_cell) := ⟨rfl, rfl, rfl, by decide +kernel, rfl, by decide +kernel, by decide +kernel⟩
abbrev s_is_listed : Stmt := top 13
abbrev N_is_listed : List Str := ["value"]
theorem sc_is_listed : FnScope N_is_listed ["value"] (defScope s_is_listed) := ⟨rfl, rfl, rfl, by decide +kernel, rfl, by decide +kernel, by decide +kernel⟩
abbrev s_is_number : Stmt := top 11
abbrev N_is_number : List Str := ["value"]
theorem sc_is_number : FnScope N_is_number ["value"] (defScope s_is_number) := ⟨rfl, rfl, rfl, by decide +kernel, rfl, by decide +kernel, by decide +kernel⟩
abbrev s_is_prime : Stmt := top 16
abbrev N_is_prime : List Str := ["value"]
theorem sc_is_prime : FnScope N_is_prime ["value"] (defScope s_is_prime) := ⟨rfl, rfl, rfl, by decide +kernel, rfl, by decide +kernel, by decide +kernel⟩
abbrev s_is_table : Stmt := top 25
abbrev N_is_table : List Str := ["value", "length", "item"]
theorem sc_is_table : FnScope N_is_table ["value", "length"] (defScope s_is_table) := ⟨rfl, rfl, rfl, by decide +kernel, rfl, by decide +kernel, by decide +kernel⟩
abbrev s_is_word : Stmt := top 40
abbrev N_is_word : List Str := ["alphabet", "value", "sign"]
theorem sc_is_word : FnScope N_is_word ["alphabet", "value"] (defScope s_is_word) := ⟨rfl, rfl, rfl, by decide +kernel, rfl, by decide +kernel, by decide +kernel⟩
abbrev s_join_size : Stmt := top 26
abbrev N_join_size : List Str := ["sizes", "ref", "other", "table", "row"]
theorem sc_join_size : FnScope N_join_size ["sizes", "ref", "other", "table"] (defScope s_join_size) := ⟨rfl, rfl, rfl, by decide +kernel, rfl, by decide +kernel, by decide +kernel⟩
abbrev s_latch_size : Stmt := top 27
abbrev N_latch_size : List Str := ["sizes", "sides", "start", "ref"]
theorem sc_latch_size : FnScope N_latch_size ["sizes", "sides", "start", "ref"] (defScope s_latch_size) := ⟨rfl, rfl, rfl, by decide +kernel, rfl, by decide +kernel, by decide +kernel⟩
abbrev s_law : Stmt := top 70
abbrev N_law : List Str := ["_law_script", "_law_bag_here", "_law_turn_z", "_law_signs_here", "_law_lines_here", "_law_sizes", "_law_at", "_law_wrong", "_law_looks_z", "_law_ref", "_law_more", "_law_none", "_law_asks", "_law_due", "_law_wide", "_law_told", "_law_k"]
theorem sc_law : FnScope N_law ["_law_script"] (defScope s_law) := ⟨rfl, rfl, rfl, by decide +kernel, rfl, by decide +kernel, by decide +kernel⟩
abbrev s_looks_behind : Stmt := top 29
abbrev N_looks_behind : List Str := ["looks", "line", "ref"]
theorem sc_looks_behind : FnScope N_looks_behind ["looks", "line"] (defScope s_looks_behind) := ⟨rfl, rfl, rfl, by decide +kernel, rfl, by decide +kernel, by decide +kernel⟩
abbrev s_measured : Stmt := top 21
abbrev N_measured : List Str := ["lines", "letters", "sizes", "looks", "at", "line", "size"]
theorem sc_measured : FnScope N_measured ["lines", "letters"] (defScope s_measured) := ⟨rfl, rfl, rfl, by decide +kernel, rfl, by decide +kernel, by decide +kernel⟩
abbrev s_needed_places : Stmt := top 35
abbrev N_needed_places : List Str := ["lines", "targets", "known", "needed", "at", "ref", "target"]
theorem sc_needed_places : FnScope N_needed_places ["lines", "targets", "known"] (defScope s_needed_places) := ⟨rfl, rfl, rfl, by decide +kernel, rfl, by decide +kernel, by decide +kernel⟩
abbrev s_refs_at_once : Stmt := top 30
abbrev N_refs_at_once : List Str := ["line"]
theorem sc_refs_at_once : FnScope N_refs_at_once ["line"] (defScope s_refs_at_once) := ⟨rfl, rfl, rfl, by decide +kernel, rfl, by decide +kernel, by decide +kernel⟩
abbrev s_size_behind : Stmt := top 22
abbrev N_size_behind : List Str := ["sizes", "value", "letters", "kind", "parts"]
theorem sc_size_behind : FnScope N_size_behind ["sizes", "value", "letters"] (defScope s_size_behind) := ⟨rfl, rfl, rfl, by decide +kernel, rfl, by decide +kernel, by decide +kernel⟩
abbrev s_wire_size : Stmt := top 24
abbrev N_wire_size : List Str := ["sizes", "ref", "table"]
theorem sc_wire_size : FnScope N_wire_size ["sizes", "ref", "table"] (defScope s_wire_size) := ⟨rfl, rfl, rfl, by decide +kernel, rfl, by decide +kernel, by decide +kernel⟩
/-! ### what the top holds -/
structure Env (K : PySem.W.Frag) (mg : Str → Option Value) where
  C_AheadError : Addr
  gC_AheadError : mg "AheadError" = some (.ref C_AheadError)
  C_Missing : Addr
  gC_Missing : mg "Missing" = some (.ref C_Missing)
  C_NothingLeft : Addr
  gC_NothingLeft : mg "NothingLeft" = some (.ref C_NothingLeft)
  C_Circuit : Addr
  gC_Circuit : mg "Circuit" = some (.ref C_Circuit)
  cl_Circuit : Cls K C_Circuit
  n_Circuit__alphabet : NoAttr K C_Circuit "_alphabet"
  n_Circuit__lines : NoAttr K C_Circuit "_lines"
  n_Circuit__sizes : NoAttr K C_Circuit "_sizes"
  n_Circuit__looks : NoAttr K C_Circuit "_looks"
  n_Circuit__steps : NoAttr K C_Circuit "_steps"
  u_Circuit_MOST : Value
  o_Circuit_MOST : Con K C_Circuit "MOST" (.int 4000) u_Circuit_MOST
  C_InvalidAlphabet : Addr
  gC_InvalidAlphabet : mg "InvalidAlphabet" = some (.ref C_InvalidAlphabet)
  x_InvalidAlphabet : OexC K C_InvalidAlphabet
  y_InvalidAlphabet : XfC K C_InvalidAlphabet
  n_InvalidAlphabet_given : PySem.W.findIn K (.ref C_InvalidAlphabet) "given" = some none
  n_InvalidAlphabet_code : PySem.W.findIn K (.ref C_InvalidAlphabet) "code" = some none
  C_InvalidLine : Addr
  gC_InvalidLine : mg "InvalidLine" = some (.ref C_InvalidLine)
  x_InvalidLine : OexC K C_InvalidLine
  y_InvalidLine : XfC K C_InvalidLine
  n_InvalidLine_at : PySem.W.findIn K (.ref C_InvalidLine) "at" = some none
  n_InvalidLine_code : PySem.W.findIn K (.ref C_InvalidLine) "code" = some none
  C_Steps : Addr
  gC_Steps : mg "Steps" = some (.ref C_Steps)
  cl_Steps : Cls K C_Steps
  n_Steps__lines : NoAttr K C_Steps "_lines"
  n_Steps__cells : NoAttr K C_Steps "_cells"
  n_Steps__ahead : NoAttr K C_Steps "_ahead"
  n_Steps__behind : NoAttr K C_Steps "_behind"
  C_TooMany : Addr
  gC_TooMany : mg "TooMany" = some (.ref C_TooMany)
  x_TooMany : OexC K C_TooMany
  y_TooMany : XfC K C_TooMany
  n_TooMany_subject : PySem.W.findIn K (.ref C_TooMany) "subject" = some none
  n_TooMany_most : PySem.W.findIn K (.ref C_TooMany) "most" = some none
  n_TooMany_code : PySem.W.findIn K (.ref C_TooMany) "code" = some none
  mc_Circuit : Value
  cr_Circuit : ClX.CRead K C_Circuit mc_Circuit
  cu_Circuit_MOST : Value
  cv_Circuit_MOST : ClX.CVal K C_Circuit mc_Circuit "MOST" (.int 4000) cu_Circuit_MOST
  e_InvalidAlphabet : PySem.W.exmAny K (.ref C_InvalidAlphabet) [.ref C_AheadError, .ref C_Missing, .ref C_NothingLeft] = some true
  e_InvalidLine : PySem.W.exmAny K (.ref C_InvalidLine) [.ref C_AheadError, .ref C_Missing, .ref C_NothingLeft] = some true
  e_TooMany : PySem.W.exmAny K (.ref C_TooMany) [.ref C_AheadError, .ref C_Missing, .ref C_NothingLeft] = some true
  f_Circuit___init : Addr
  fd_Circuit___init : FuncData
  F_Circuit___init : Fun K "__init__" "Circuit.__init__" s_Circuit___init f_Circuit___init fd_Circuit___init
  b_Circuit___init : Binds K fd_Circuit___init ["self", "alphabet", "lines"] []
  k_Circuit___init : Mk K C_Circuit f_Circuit___init
  f_Circuit___len : Addr
  fd_Circuit___len : FuncData
  F_Circuit___len : Fun K "__len__" "Circuit.__len__" s_Circuit___len f_Circuit___len fd_Circuit___len
  b_Circuit___len : Binds K fd_Circuit___len ["self"] []
  m_Circuit___len : Meth K C_Circuit "__len__" f_Circuit___len
  f_InvalidAlphabet___init : Addr
  fd_InvalidAlphabet___init : FuncData
  F_InvalidAlphabet___init : Fun K "__init__" "InvalidAlphabet.__init__" s_InvalidAlphabet___init f_InvalidAlphabet___init fd_InvalidAlphabet___init
  b_InvalidAlphabet___init : Binds K fd_InvalidAlphabet___init ["self", "given"] []
  i_InvalidAlphabet___init : PySem.W.findIn K (.ref C_InvalidAlphabet) "__init__" = some (some (.ref f_InvalidAlphabet___init))
  t_InvalidAlphabet___init : PySem.W.typeIn K (.ref f_InvalidAlphabet___init) = some (.type "function")
  f_InvalidLine___init : Addr
  fd_InvalidLine___init : FuncData
  F_InvalidLine___init : Fun K "__init__" "InvalidLine.__init__" s_InvalidLine___init f_InvalidLine___init fd_InvalidLine___init
  b_InvalidLine___init : Binds K fd_InvalidLine___init ["self", "at"] []
  i_InvalidLine___init : PySem.W.findIn K (.ref C_InvalidLine) "__init__" = some (some (.ref f_InvalidLine___init))
  t_InvalidLine___init : PySem.W.typeIn K (.ref f_InvalidLine___init) = some (.type "function")
  f_Steps___init : Addr
  fd_Steps___init : FuncData
  F_Steps___init : Fun K "__init__" "Steps.__init__" s_Steps___init f_Steps___init fd_Steps___init
  b_Steps___init : Binds K fd_Steps___init ["self", "lines"] []
  k_Steps___init : Mk K C_Steps f_Steps___init
  f_TooMany___init : Addr
  fd_TooMany___init : FuncData
  F_TooMany___init : Fun K "__init__" "TooMany.__init__" s_TooMany___init f_TooMany___init fd_TooMany___init
  b_TooMany___init : Binds K fd_TooMany___init ["self", "subject", "most"] []
  i_TooMany___init : PySem.W.findIn K (.ref C_TooMany) "__init__" = some (some (.ref f_TooMany___init))
  t_TooMany___init : PySem.W.typeIn K (.ref f_TooMany___init) = some (.type "function")
  f_all_got : Addr
  fd_all_got : FuncData
  F_all_got : Fun K "_law_all_got" "_law_all_got" s_all_got f_all_got fd_all_got
  b_all_got : Binds K fd_all_got ["_law_asks"] []
  g_all_got : mg "_law_all_got" = some (.ref f_all_got)
  f_bag : Addr
  fd_bag : FuncData
  F_bag : Fun K "_law_bag" "_law_bag" s_bag f_bag fd_bag
  b_bag : Binds K fd_bag ["_law_script"] []
  g_bag : mg "_law_bag" = some (.ref f_bag)
  f_field : Addr
  fd_field : FuncData
  F_field : Fun K "_law_field" "_law_field" s_field f_field fd_field
  b_field : Binds K fd_field ["_law_e"] []
  g_field : mg "_law_field" = some (.ref f_field)
  f_got : Addr
  fd_got : FuncData
  F_got : Fun K "_law_got" "_law_got" s_got f_got fd_got
  b_got : Binds K fd_got ["_law_ask"] []
  g_got : mg "_law_got" = some (.ref f_got)
  f_line : Addr
  fd_line : FuncData
  F_line : Fun K "_law_line" "_law_line" s_line f_line fd_line
  b_line : Binds K fd_line ["_law_bag_here", "_law_sizes"] []
  g_line : mg "_law_line" = some (.ref f_line)
  f_lines : Addr
  fd_lines : FuncData
  F_lines : Fun K "_law_lines" "_law_lines" s_lines f_lines fd_lines
  b_lines : Binds K fd_lines ["_law_bag_here", "_law_signs_here", "_law_many"] []
  g_lines : mg "_law_lines" = some (.ref f_lines)
  f_looking : Addr
  fd_looking : FuncData
  F_looking : Fun K "_law_looking" "_law_looking" s_looking f_looking fd_looking
  b_looking : Binds K fd_looking ["_law_lines_here"] []
  g_looking : mg "_law_looking" = some (.ref f_looking)
  f_of : Addr
  fd_of : FuncData
  F_of : Fun K "_law_of" "_law_of" s_of f_of fd_of
  b_of : Binds K fd_of ["_law_bag_here", "_law_some"] []
  g_of : mg "_law_of" = some (.ref f_of)
  f_pull : Addr
  fd_pull : FuncData
  F_pull : Fun K "_law_pull" "_law_pull" s_pull f_pull fd_pull
  b_pull : Binds K fd_pull ["_law_bag_here", "_law_sides"] []
  g_pull : mg "_law_pull" = some (.ref f_pull)
  f_same : Addr
  fd_same : FuncData
  F_same : Fun K "_law_same" "_law_same" s_same f_same fd_same
  b_same : Binds K fd_same ["_law_found", "_law_due"] []
  g_same : mg "_law_same" = some (.ref f_same)
  f_signs : Addr
  fd_signs : FuncData
  F_signs : Fun K "_law_signs" "_law_signs" s_signs f_signs fd_signs
  b_signs : Binds K fd_signs ["_law_bag_here"] []
  g_signs : mg "_law_signs" = some (.ref f_signs)
  f_size : Addr
  fd_size : FuncData
  F_size : Fun K "_law_size" "_law_size" s_size f_size fd_size
  b_size : Binds K fd_size ["_law_line_here", "_law_sizes", "_law_width"] []
  g_size : mg "_law_size" = some (.ref f_size)
  f_wrong_line : Addr
  fd_wrong_line : FuncData
  F_wrong_line : Fun K "_law_wrong_line" "_law_wrong_line" s_wrong_line f_wrong_line fd_wrong_line
  b_wrong_line : Binds K fd_wrong_line ["_law_bag_here", "_law_sizes"] []
  g_wrong_line : mg "_law_wrong_line" = some (.ref f_wrong_line)
  f_const_size : Addr
  fd_const_size : FuncData
  F_const_size : Fun K "const_size" "const_size" s_const_size f_const_size fd_const_size
  b_const_size : Binds K fd_const_size ["worth"] []
  g_const_size : mg "const_size" = some (.ref f_const_size)
  f_counter_size : Addr
  fd_counter_size : FuncData
  F_counter_size : Fun K "counter_size" "counter_size" s_counter_size f_counter_size fd_counter_size
  b_counter_size : Binds K fd_counter_size ["sizes", "prime", "start", "ref"] []
  g_counter_size : mg "counter_size" = some (.ref f_counter_size)
  f_is_alphabet : Addr
  fd_is_alphabet : FuncData
  F_is_alphabet : Fun K "is_alphabet" "is_alphabet" s_is_alphabet f_is_alphabet fd_is_alphabet
  b_is_alphabet : Binds K fd_is_alphabet ["value"] []
  g_is_alphabet : mg "is_alphabet" = some (.ref f_is_alphabet)
  f_is_below : Addr
  fd_is_below : FuncData
  F_is_below : Fun K "is_below" "is_below" s_is_below f_is_below fd_is_below
  b_is_below : Binds K fd_is_below ["value", "bound"] []
  g_is_below : mg "is_below" = some (.ref f_is_below)
  f_is_cell : Addr
  fd_is_cell : FuncData
  F_is_cell : Fun K "is_cell" "is_cell" s_is_cell f_is_cell fd_is_cell
  b_is_cell : Binds K fd_is_cell ["line"] []
  g_is_cell : mg "is_cell" = some (.ref f_is_cell)
  f_is_listed : Addr
  fd_is_listed : FuncData
  F_is_listed : Fun K "is_listed" "is_listed" s_is_listed f_is_listed fd_is_listed
  b_is_listed : Binds K fd_is_listed ["value"] []
  g_is_listed : mg "is_listed" = some (.ref f_is_listed)
  f_is_number : Addr
  fd_is_number : FuncData
  F_is_number : Fun K "is_number" "is_number" s_is_number f_is_number fd_is_number
  b_is_number : Binds K fd_is_number ["value"] []
  g_is_number : mg "is_number" = some (.ref f_is_number)
  f_is_prime : Addr
  fd_is_prime : FuncData
  F_is_prime : Fun K "is_prime" "is_prime" s_is_prime f_is_prime fd_is_prime
  b_is_prime : Binds K fd_is_prime ["value"] []
  g_is_prime : mg "is_prime" = some (.ref f_is_prime)
  f_is_table : Addr
  fd_is_table : FuncData
  F_is_table : Fun K "is_table" "is_table" s_is_table f_is_table fd_is_table
  b_is_table : Binds K fd_is_table ["value", "length"] []
  g_is_table : mg "is_table" = some (.ref f_is_table)
  f_is_word : Addr
  fd_is_word : FuncData
  F_is_word : Fun K "is_word" "is_word" s_is_word f_is_word fd_is_word
  b_is_word : Binds K fd_is_word ["alphabet", "value"] []
  g_is_word : mg "is_word" = some (.ref f_is_word)
  f_join_size : Addr
  fd_join_size : FuncData
  F_join_size : Fun K "join_size" "join_size" s_join_size f_join_size fd_join_size
  b_join_size : Binds K fd_join_size ["sizes", "ref", "other", "table"] []
  g_join_size : mg "join_size" = some (.ref f_join_size)
  f_latch_size : Addr
  fd_latch_size : FuncData
  F_latch_size : Fun K "latch_size" "latch_size" s_latch_size f_latch_size fd_latch_size
  b_latch_size : Binds K fd_latch_size ["sizes", "sides", "start", "ref"] []
  g_latch_size : mg "latch_size" = some (.ref f_latch_size)
  f_law : Addr
  fd_law : FuncData
  F_law : Fun K "law" "law" s_law f_law fd_law
  b_law : Binds K fd_law ["_law_script"] []
  g_law : mg "law" = some (.ref f_law)
  f_looks_behind : Addr
  fd_looks_behind : FuncData
  F_looks_behind : Fun K "looks_behind" "looks_behind" s_looks_behind f_looks_behind fd_looks_behind
  b_looks_behind : Binds K fd_looks_behind ["looks", "line"] []
  g_looks_behind : mg "looks_behind" = some (.ref f_looks_behind)
  f_measured : Addr
  fd_measured : FuncData
  F_measured : Fun K "measured" "measured" s_measured f_measured fd_measured
  b_measured : Binds K fd_measured ["lines", "letters"] []
  g_measured : mg "measured" = some (.ref f_measured)
  f_needed_places : Addr
  fd_needed_places : FuncData
  F_needed_places : FunD K "needed_places" "needed_places" (defArgs s_needed_places) (defBody s_needed_places) (defScope s_needed_places) [.non] [] f_needed_places fd_needed_places
  bd_needed_places : List Value
  vb_needed_places : Vals [.non] bd_needed_places
  b_needed_places : Binds K fd_needed_places ["lines", "targets", "known"] bd_needed_places
  g_needed_places : mg "needed_places" = some (.ref f_needed_places)
  f_refs_at_once : Addr
  fd_refs_at_once : FuncData
  F_refs_at_once : Fun K "refs_at_once" "refs_at_once" s_refs_at_once f_refs_at_once fd_refs_at_once
  b_refs_at_once : Binds K fd_refs_at_once ["line"] []
  g_refs_at_once : mg "refs_at_once" = some (.ref f_refs_at_once)
  f_size_behind : Addr
  fd_size_behind : FuncData
  F_size_behind : Fun K "size_behind" "size_behind" s_size_behind f_size_behind fd_size_behind
  b_size_behind : Binds K fd_size_behind ["sizes", "value", "letters"] []
  g_size_behind : mg "size_behind" = some (.ref f_size_behind)
  f_wire_size : Addr
  fd_wire_size : FuncData
  F_wire_size : Fun K "wire_size" "wire_size" s_wire_size f_wire_size fd_wire_size
  b_wire_size : Binds K fd_wire_size ["sizes", "ref", "table"] []
  g_wire_size : mg "wire_size" = some (.ref f_wire_size)
  z_abs : mg "abs" = none
  z_all : mg "all" = none
  z_any : mg "any" = none
  z_bool : mg "bool" = none
  z_dict : mg "dict" = none
  z_enumerate : mg "enumerate" = none
  z_int : mg "int" = none
  z_isinstance : mg "isinstance" = none
  z_len : mg "len" = none
  z_list : mg "list" = none
  z_max : mg "max" = none
  z_min : mg "min" = none
  z_range : mg "range" = none
  z_reversed : mg "reversed" = none
  z_set : mg "set" = none
  z_sorted : mg "sorted" = none
  z_str : mg "str" = none
  z_tuple : mg "tuple" = none
  z_zip : mg "zip" = none
  t_FEWEST_SIDES : Tok
  c_FEWEST_SIDES : mg "FEWEST_SIDES" = some (.int 2 t_FEWEST_SIDES)
  t_MOST_LETTERS : Tok
  c_MOST_LETTERS : mg "MOST_LETTERS" = some (.int 4 t_MOST_LETTERS)
  t_MOST_SIDES : Tok
  c_MOST_SIDES : mg "MOST_SIDES" = some (.int 999 t_MOST_SIDES)
  t_VALUES : Tok
  c_VALUES : mg "VALUES" = some (.int 1000 t_VALUES)
  r_PRIMES : Addr
  gt_PRIMES : mg "PRIMES" = some (.ref r_PRIMES)
  st_PRIMES : ∀ H, SqT K H r_PRIMES (([2, 3, 5, 7, 11, 13, 17, 19, 23, 29, 31, 37, 41, 43, 47, 53, 59, 61, 67, 71, 73, 79, 83, 89, 97] : List Int).map V.int)

/-! ### the draws -/
def spBag (K : PySem.W.Frag) : Sp := fun vs H Q _ => ∃ (a : Addr) (ns : List Int), vs = [.ref a] ∧ SqL K H a (ns.map V.int) ∧ ns.length ≤ 63 ∧
  ∀ b l H', H b = none → H l = none → BagAt b l H' → Same H H' → Q (.ref b) H'
def spPull : Sp := fun vs H Q _ => ∃ (b l : Addr) (n : Int), vs = [.ref b, .int n] ∧ BagAt b l H ∧ 0 < n ∧ n < 1000000000 ∧
  ∀ k H', 0 ≤ k → k < n → BagAt b l H' → Kp b H H' → Q (.int k) H'
def spOf (K : PySem.W.Frag) : Sp := fun vs H Q _ => ∃ (b l : Addr) (x : V), vs = [.ref b, x] ∧ BagAt b l H ∧
  ((∃ p xs, x = .ref p ∧ p ≠ b ∧ (SqL K H p xs ∨ SqT K H p xs) ∧ xs ≠ [] ∧ xs.length ≤ 100000 ∧ ∀ v H', v ∈ xs → BagAt b l H' → Kp b H H' → Q v H') ∨
   (∃ z : Str, x = .str z ∧ z.length ≠ 0 ∧ z.length ≤ 100000 ∧ ∀ c H', c ∈ z.cps.toList → BagAt b l H' → Kp b H H' → Q (.str ⟨#[c]⟩) H'))
section
variable {P : Program} {w : World} {K : PySem.W.Frag} {mg : Str → Option Value} {base : Heap}
theorem modlt (a : Int) : 0 ≤ a % 2147483629 ∧ a % 2147483629 < 2147483629 := ⟨Int.emod_nonneg _ (by decide), Int.emod_lt_of_pos _ (by decide)⟩
theorem cut63 {xs : List V} (h : xs.length ≤ 63) : cutV xs none (some 63) = xs := by
  unfold cutV
  rw [show HT.sIx xs.length xs.length (some 63) = min 63 xs.length from HT.sIx_nat _ _ 63, HT.sIx_none, Nat.min_eq_right h]
  show xs.take (xs.length - 0) = xs
  exact List.take_length
theorem int_of {ns : List Int} {i : Nat} {y : V} (h : (ns.map V.int)[i]? = some y) : ∃ n, y = .int n := by
  rw [List.getElem?_map] at h
  cases e : ns[i]? with
  | none => rw [e] at h; cases h
  | some n => rw [e] at h; exact ⟨n, (Option.some.inj h).symm⟩
theorem ok_bag (T : Env K mg) : FnOk P w K mg base CX0 1 T.f_bag T.fd_bag ["_law_script"] (spBag K) := by
  refine T.F_bag.ok sc_bag (fun vs H Q E h => ?_) (fun cdv A outer s H vs Q E hr h => ⟨_, ((pss_cons (ps_set (i := 1) sc_bag.nd rfl (.inl rfl) pe_int)
      (pss_cons (ps_for PassesOwn.never rfl (pi_list (pe_slice sl_list (pv 0) po_none (po_some pe_int))) (pg_name (i := 2) sc_bag.nd rfl (.inl rfl))
      (pss_one (ps_set (i := 1) sc_bag.nd rfl (.inl rfl) (pe_op op_mod (pe_callTy call_int1 (by rfl) T.z_int (by decide +kernel) (pa_cons (pe_op op_add (pe_op op_add (pe_op op_mul (pv 1) pe_int) (pe_op op_mul (pe_op op_mod (pe_callTy call_int1 (by rfl) T.z_int (by decide +kernel) (pa_cons (pv 2) pa_nil)) pe_int) pe_int)) pe_int) pa_nil)) pe_int))))
      (pss_one (ps_ret (pe_lst (pa_cons (pe_callTy call_list_of (by rfl) T.z_list (by decide +kernel) (pa_cons (pe_slice sl_list (pv 0) po_none (po_some pe_int)) pa_nil)) (pa_cons pe_int (pa_cons pe_int (pa_cons (pv 1) (pa_cons pe_int pa_nil))))))))))), ?_⟩)
  · obtain ⟨a, ns, rfl, _⟩ := h
    rfl
  · obtain ⟨a, ns, rfl, hS, hlen, q⟩ := h
    have ec : cutV (ns.map V.int) none (some 63) = ns.map V.int := cut63 (by rw [List.length_map]; exact hlen)
    walk_at "ss"
    intro p hp
    rw [ec]
    have s1 : Same H (upd H p (.lst (ns.map V.int))) := same_upd hp
    refine ⟨_, rfl, ⟨_, SqL.of upd_same⟩, for_list (xs := ns.map V.int) (fun i σ H' => Stp (H' = upd H p (.lst (ns.map V.int)) ∧ ∃ (m : Int) (y : Option V), σ = [some (.ref a), some (.int m), y] ∧ 0 ≤ m ∧ m < 2147483629))
      (.mk ⟨rfl, 5632, none, rfl, by decide, by decide⟩) (fun i σ H' _ h => by rw [h.of.1]; exact SqL.of upd_same) ?_ ?_⟩
    · rintro i x σ H' hx hP
      obtain ⟨rfl, m, y, rfl, h0, h1⟩ := hP.of
      obtain ⟨n, rfl⟩ := int_of hx
      walk_at "ss"
      exact .mk ⟨rfl, _, _, rfl, (modlt _).1, (modlt _).2⟩
    · rintro σ H' hP
      obtain ⟨rfl, m, y, rfl, h0, h1⟩ := hP.of
      walk_at "ss"
      refine ⟨_, _, rfl, s1.seq hS, ?_⟩
      intro p2 hp2
      rw [ec]
      refine ⟨_, _, rfl, .inl (SqL.of upd_same), ?_⟩
      intro l hl
      walk_at "ss"
      intro b hb
      have s2 := s1.trans (same_upd (o := .lst (ns.map V.int)) hp2)
      have s3 := s2.trans (same_upd (o := .lst (ns.map V.int)) hl)
      have s4 := s3.trans (same_upd (o := .lst [V.ref l, V.int 0, V.int 0, V.int m, V.int 0]) hb)
      have nl : l ≠ b := (ne_none hb upd_same).symm
      exact q b l _ (s3.free hb) (s2.free hl) ⟨⟨0, 0, m, 0, ns, upd_same, by rw [upd_ne nl]; exact upd_same, hlen, by decide, by omega, by decide, h0, h1⟩, nl⟩ s4
theorem ok_pull (T : Env K mg) : FnOk P w K mg base CX0 1 T.f_pull T.fd_pull ["_law_bag_here", "_law_sides"] spPull := by
  refine T.F_pull.ok sc_pull (fun vs H Q E h => ?_) (fun cdv A outer s H vs Q E hr h => ⟨_, ((pss_cons (ps_asg (pe_op op_add (pe_ix ix_list (pv 0) pe_int (fun _ _ => rfl)) pe_int) (pg_sub (pv 0) pe_int set_list))
      (C8.pss_cut (ps_if (PW.pt (pw_and (pt_cmpR op_eq (pe_ix ix_list (pv 0) pe_int (fun _ _ => rfl)) pe_int (nomark _)) (pw_and1 (pt_cmpR op_lt (pe_ix ix_list (pv 0) pe_int (fun _ _ => rfl)) (pe_callB call_len_seq (by rfl) T.z_len (by decide +kernel) (pa_cons (pe_ix ix_list (pv 0) pe_int (fun _ _ => rfl)) pa_nil)) (nomark _)))))
      (pss_cons (ps_set (i := 2) sc_pull.nd rfl (.inl rfl) (pe_ix ix_list (pe_ix ix_list (pv 0) pe_int (fun _ _ => rfl)) (pe_ix ix_list (pv 0) pe_int (fun _ _ => rfl)) (fun _ _ => rfl)))
      (pss_cons (ps_asg (pe_op op_add (pe_ix ix_list (pv 0) pe_int (fun _ _ => rfl)) pe_int) (pg_sub (pv 0) pe_int set_list))
      (pss_one (ps_if (pt_cmpR op_ge (pe_callB call_abs (by rfl) T.z_abs (by decide +kernel) (pa_cons (pv 2) pa_nil)) (pe_op op_pow pe_int pe_int) (nomark _))
      (pss_one (ps_asg (pe_callB call_abs (by rfl) T.z_abs (by decide +kernel) (pa_cons (pv 2) pa_nil)) (pg_sub (pv 0) pe_int set_list)))
      (pss_one (ps_asg (pe_op op_mod (pe_callTy call_int1 (by rfl) T.z_int (by decide +kernel) (pa_cons (pe_op op_add (pe_op op_add (pe_op op_mul (pe_ix ix_list (pv 0) pe_int (fun _ _ => rfl)) pe_int) (pe_op op_mul (pe_op op_mod (pe_callTy call_int1 (by rfl) T.z_int (by decide +kernel) (pa_cons (pv 2) pa_nil)) pe_int) pe_int)) pe_int) pa_nil)) pe_int) (pg_sub (pv 0) pe_int set_list)))))))
      pss_nil)
      (pss_cons (ps_if (pt_cmpR op_gt (pe_ix ix_list (pv 0) pe_int (fun _ _ => rfl)) pe_int (nomark _))
      (pss_cons (ps_set (i := 3) sc_pull.nd rfl (.inl rfl) (pe_op op_mod (pe_callTy call_int1 (by rfl) T.z_int (by decide +kernel) (pa_cons (pe_ix ix_list (pv 0) pe_int (fun _ _ => rfl)) pa_nil)) (pv 1)))
      (pss_cons (ps_asg (pe_op op_fdiv (pe_ix ix_list (pv 0) pe_int (fun _ _ => rfl)) (pv 1)) (pg_sub (pv 0) pe_int set_list))
      (pss_one (ps_ret (pv 3)))))
      pss_nil)
      (pss_cons (ps_set (i := 4) sc_pull.nd rfl (.inl rfl) (pe_op op_mod (pe_callTy call_int1 (by rfl) T.z_int (by decide +kernel) (pa_cons (pe_op op_add (pe_op op_mul (pe_ix ix_list (pv 0) pe_int (fun _ _ => rfl)) (pe_ix ix_list (pv 0) pe_int (fun _ _ => rfl))) (pe_op op_mul (pe_ix ix_list (pv 0) pe_int (fun _ _ => rfl)) pe_int)) pa_nil)) pe_int))
      (pss_cons (ps_asg (pe_op op_mod (pe_callTy call_int1 (by rfl) T.z_int (by decide +kernel) (pa_cons (pe_op op_add (pe_op op_add (pe_op op_mul (pv 4) pe_int) (pe_op op_mul (pe_ix ix_list (pv 0) pe_int (fun _ _ => rfl)) pe_int)) pe_int) pa_nil)) pe_int) (pg_sub (pv 0) pe_int set_list))
      (pss_one (ps_ret (pe_op op_mod (pe_callTy call_int1 (by rfl) T.z_int (by decide +kernel) (pa_cons (pe_op op_fdiv (pe_ix ix_list (pv 0) pe_int (fun _ _ => rfl)) pe_int) pa_nil)) (pv 1)))))))))), ?_⟩)
  · obtain ⟨b, l, n, rfl, _⟩ := h
    rfl
  · obtain ⟨b, l, n, rfl, ⟨⟨i, r, m, c, ns, hb, hl, h63, i0, i1, r0, m0, m1⟩, nlb⟩, n0, n1, q⟩ := h
    walk_at "ss"
    refine ⟨fun σ' H' => Stp (∃ (i r m c : Int) (y2 : Option V), σ' = [some (.ref b), some (.int n), y2, none, none] ∧ H' b = some (.lst [.ref l, .int i, .int r, .int m, .int c]) ∧ H' l = some (.lst (ns.map V.int)) ∧
      0 ≤ i ∧ i ≤ ns.length ∧ 0 ≤ r ∧ 0 ≤ m ∧ m < 2147483629 ∧ Kp b H H'), ?_, fun σ' H' hM => ?_⟩
    · walk_at "ss"
      have hl1 : ∀ o, (upd H b o) l = some (.lst (ns.map V.int)) := fun o => by rw [upd_ne nlb]; exact hl
      have hl2 : ∀ o u, (upd (upd H b o) b u) l = some (.lst (ns.map V.int)) := fun o u => by rw [upd_ne nlb, upd_ne nlb]; exact hl
      have hl3 : ∀ o u v, (upd (upd (upd H b o) b u) b v) l = some (.lst (ns.map V.int)) := fun o u v => by rw [upd_ne nlb, upd_ne nlb, upd_ne nlb]; exact hl
      have k1 : ∀ o, Kp b H (upd H b o) := fun o => (Kp.refl b H).put
      refine ite2 (fun e => ?_) (fun e => ?_)
      · walk_at "ss"
        refine ⟨_, _, rfl, .inl (SqL.of (hl1 _)), ?_⟩
        walk_at "ss"
        refine ite2 (fun e2 => ?_) (fun e2 => ?_)
        · have e2 : i < (ns.map V.int).length := of_decide_eq_true e2
          obtain ⟨v, hv, hm⟩ := at_in i0 e2
          obtain ⟨z, -, rfl⟩ := List.mem_map.mp hm
          rw [List.length_map] at e2
          walk_at "ss"
          refine ⟨_, _, _, _, rfl, rfl, SqL.of (hl1 _), hv, ?_⟩
          walk_at "ss"
          refine ite2 (fun e3 => ?_) (fun e3 => ?_)
          · walk_at "ss"
            exact .mk ⟨i + 1, _, m, _, _, rfl, upd_same, hl3 _ _ _, by omega, by omega, by split <;> omega, m0, m1, (k1 _).put.put⟩
          · walk_at "ss"
            exact .mk ⟨i + 1, r, _, _, _, rfl, upd_same, hl3 _ _ _, by omega, by omega, r0, (modlt _).1, (modlt _).2, (k1 _).put.put⟩
        · exact .mk ⟨i, r, m, _, _, rfl, upd_same, hl1 _, i0, i1, r0, m0, m1, k1 _⟩
      · refine iteF ?_
        exact .mk ⟨i, r, m, _, _, rfl, upd_same, hl1 _, i0, i1, r0, m0, m1, k1 _⟩
    · obtain ⟨i, r, m, c, y2, rfl, hb, hl, i0, i1, r0, m0, m1, kp⟩ := hM.of
      walk_at "ss"
      refine ite2 (fun e => ?_) (fun e => ?_)
      · walk_at "ss"
        refine q _ _ (Int.emod_nonneg _ (by omega)) (Int.emod_lt_of_pos _ n0) ⟨⟨i, _, m, c, ns, upd_same, ?_, h63, i0, i1, ?_, m0, m1⟩, nlb⟩ kp.put
        · rw [upd_ne nlb]
          exact hl
        · exact Int.ediv_nonneg r0 (by omega)
      · walk_at "ss"
        refine q _ _ (Int.emod_nonneg _ (by omega)) (Int.emod_lt_of_pos _ n0) ⟨⟨i, r, _, c, ns, upd_same, ?_, h63, i0, i1, r0, (modlt _).1, (modlt _).2⟩, nlb⟩ kp.put
        rw [upd_ne nlb]
        exact hl
theorem ok_of (T : Env K mg) : FnOk P w K mg base CX0 2 T.f_of T.fd_of ["_law_bag_here", "_law_some"] (spOf K) := by
  refine T.F_of.ok sc_of (fun vs H Q E h => ?_) (fun cdv A outer s H vs Q E hr h => ⟨_, ((pss_one (ps_ret (pe_ix ix_seq (pv 1) (pe_call (ok_pull T) (hr.mono (by decide)) (by rfl) T.g_pull T.F_pull.kp T.b_pull .nil pass0 (pa_cons (pv 0) (pa_cons (pe_callB call_len (by rfl) T.z_len (by decide +kernel) (pa_cons (pv 1) pa_nil)) pa_nil))) (fun _ _ => rfl))))), ?_⟩)
  · obtain ⟨b, l, x, rfl, _⟩ := h
    rfl
  · obtain ⟨b, l, x, rfl, B, h⟩ := h
    rcases h with ⟨p, xs, rfl, np, hS, hne, hl, q⟩ | ⟨z, rfl, hne, hl, q⟩
    · have hx : 0 < xs.length := List.length_pos_iff.mpr hne
      walk_at "ss"
      refine ⟨_, xs.length, rfl, ?_, b, l, _, rfl, B, by omega, by omega, fun k H1 k0 k1 B1 kp1 => ?_⟩
      · rcases hS with hS | hS
        · exact .inl ⟨xs, hS, rfl⟩
        · exact .inr ⟨xs, hS, rfl⟩
      obtain ⟨v, hv, hm⟩ := at_in k0 k1
      rcases hS with hS | hS
      · exact .inl ⟨p, xs, k, v, rfl, rfl, kp1.seq np hS, hv, q v H1 hm B1 kp1⟩
      · exact .inr (.inl ⟨p, xs, k, v, rfl, rfl, kp1.tup np hS, hv, q v H1 hm B1 kp1⟩)
    · walk_at "ss"
      refine ⟨_, z.length, rfl, ⟨sz hl, rfl⟩, b, l, _, rfl, B, by omega, by omega, fun k H1 k0 k1 B1 kp1 => ?_⟩
      have e : z.cps.toList.length = z.length := by simp [Str.length]
      obtain ⟨c, hc, hm⟩ := at_inN (xs := z.cps.toList) k0 (by rw [e]; exact k1)
      exact .inr (.inr ⟨z, k, c, rfl, rfl, sz hl, hc, q c H1 hm B1 kp1⟩)
end

/-! ### alphabets and words -/
def Alpha (l : List Nat) : Prop := 1 ≤ l.length ∧ l.length ≤ 4 ∧ (∀ c ∈ l, 97 ≤ c ∧ c ≤ 122) ∧ l.Pairwise (· < ·)
instance (l : List Nat) : Decidable (Alpha l) := by
  unfold Alpha
  exact inferInstance
theorem lt1 (a b : Nat) : (([a] : List Nat) < [b]) ↔ a < b := by
  simp [List.cons_lt_cons_iff]
theorem asc_pair (l : List Nat) (h : l.length ≤ 4) : ((List.range (l.length - 1)).map fun i => decide (l.getD i 0 < l.getD (i + 1) 0)).all id = decide (l.Pairwise (· < ·)) := by
  rw [all_dec, Bool.eq_iff_iff]
  simp only [decide_eq_true_eq]
  match l, h with
  | [], _ => simp
  | [a], _ => simp
  | [a, b], _ => simp [List.range_succ]
  | [a, b, c], _ => simp [List.range_succ]; try omega
  | [a, b, c, d], _ => simp [List.range_succ]; try omega
  | _ :: _ :: _ :: _ :: _ :: _, h => simp at h; try omega
theorem asc_none (l : List Nat) (h : l.length ≤ 4) : (∀ i < l.length - 1, ¬ l.getD (i + 1) 0 ≤ l.getD i 0) ↔ l.Pairwise (· < ·) := by
  have e := asc_pair l h
  rw [all_dec, Bool.eq_iff_iff] at e
  simp only [decide_eq_true_eq, List.mem_range] at e
  rw [← e]
  constructor
  · intro h i hi
    have := h i hi
    omega
  · intro h i hi
    have := h i hi
    omega
def NoStr (K : PySem.W.Frag) (H : Hp) (v : V) : Prop := ∃ t, TyX K H v (.type t) ∧ kitB t "str" = some false
theorem tyx_same {K : PySem.W.Frag} {H H' : Hp} (s : Same H H') {v : V} {t : Value} (h : TyX K H v t) : TyX K H' v t := by
  cases h with
  | base b =>
    cases b with
    | non => exact .base .non
    | bl x => exact .base (.bl x)
    | int i => exact .base (.int i)
    | str x => exact .base (.str x)
    | flt x => exact .base (.flt x)
    | lst e => exact .base (.lst (s _ _ e))
    | frz e => exact .base (.frz (s _ _ e))
    | tup e => exact .base (.tup (s _ _ e))
    | dK e => exact .base (.dK (s _ _ e))
    | dT e => exact .base (.dT (s _ _ e))
    | ins e cl ha hn htk hm => exact .base (.ins (s _ _ e) cl ha hn htk hm)
  | byt b => exact .byt b
  | set e => exact .set (s _ _ e)
  | kList e c => exact .kList e c
  | kTuple e c => exact .kTuple e c
  | kDict e c => exact .kDict e c
  | fTuple e => exact .fTuple (s _ _ e)
  | fDict e => exact .fDict (s _ _ e)
theorem NoStr.same {K : PySem.W.Frag} {H H' : Hp} {v : V} (h : NoStr K H v) (s : Same H H') : NoStr K H' v := by
  obtain ⟨t, h1, h2⟩ := h
  exact ⟨t, tyx_same s h1, h2⟩
theorem nostr_lst {K : PySem.W.Frag} {H : Hp} {p : Addr} {xs : List V} (h : H p = some (.lst xs)) : NoStr K H (.ref p) := ⟨"list", .base (.lst h), by decide +kernel⟩
theorem nostr_tup {K : PySem.W.Frag} {H : Hp} {p : Addr} {xs : List V} (h : H p = some (.tup xs)) : NoStr K H (.ref p) := ⟨"tuple", .base (.tup h), by decide +kernel⟩
theorem nostr_non {K : PySem.W.Frag} {H : Hp} : NoStr K H .non := ⟨"NoneType", .base .non, by decide +kernel⟩
theorem nostr_bl {K : PySem.W.Frag} {H : Hp} {x : Bool} : NoStr K H (.bl x) := ⟨"bool", .base (.bl x), by decide +kernel⟩
theorem nostr_int {K : PySem.W.Frag} {H : Hp} {x : Int} : NoStr K H (.int x) := ⟨"int", .base (.int x), by decide +kernel⟩
def spIsAlpha (K : PySem.W.Frag) : Sp := fun vs H Q _ => ∃ v, vs = [v] ∧ ((∃ z : Str, v = .str z ∧ z.length ≤ 100000 ∧ ∀ H', Same H H' → Q (.bl (decide (Alpha z.cps.toList))) H') ∨ (NoStr K H v ∧ ∀ H', Same H H' → Q (.bl false) H'))
def spIsWord (K : PySem.W.Frag) : Sp := fun vs H Q _ => ∃ (a : Str) (v : V), vs = [.str a, v] ∧ ((∃ z : Str, v = .str z ∧ z.length ≤ 100000 ∧ ∀ H', Same H H' → Q (.bl (decide (∀ c ∈ z.cps.toList, c ∈ a.cps.toList))) H') ∨ (NoStr K H v ∧ ∀ H', Same H H' → Q (.bl false) H'))
section
variable {P : Program} {w : World} {K : PySem.W.Frag} {mg : Str → Option Value} {base : Heap}
theorem ok_is_alphabet (T : Env K mg) : FnOk P w K mg base CX0 1 T.f_is_alphabet T.fd_is_alphabet ["value"] (spIsAlpha K) := by
  refine T.F_is_alphabet.ok sc_is_alphabet (fun vs H Q E h => ?_) (fun cdv A outer s H vs Q E hr h => ⟨_, ((pss_cons (ps_if (PW.pt (pw_or (pt_not (pt_val (pe_callB call_isi (by rfl) T.z_isinstance (by decide +kernel) (pa_cons (pv 0) (pa_cons (pe_bltn (v := .ty "str") (by rfl) T.z_str (by decide +kernel) rfl) pa_nil))))) (pw_or1 (pt_not (pt_chain op_le op_le pe_int (pe_callB call_len_str (by rfl) T.z_len (by decide +kernel) (pa_cons (pv 0) pa_nil)) (pe_glob (v := .int 4) (by rfl) T.c_MOST_LETTERS ⟨_, rfl⟩))))))
      (pss_one (ps_ret pe_bl))
      pss_nil)
      (pss_cons (ps_if (pt_not (pt_val (pe_callB (cr_all rfl) (by rfl) T.z_all (by decide +kernel) (pa_cons (pe_lc (own := [("sign", 2)]) (g := (gName 2)) (tt := tYes) rfl sc_is_alphabet.nd (pi_str (pv 0)) (blkOk_by (own := [("sign", 2)]) (N := N_is_alphabet) (sc := defScope s_is_alphabet) (by decide +kernel)) (fun _ _ _ _ _ => (pg_name (i := 2) sc_is_alphabet.nd rfl (.inl rfl))) (fun _ _ _ _ _ => pts_nil) (fun _ _ _ _ _ => (pe_chain op_le_str op_le_str pe_str (pv 2) pe_str))) pa_nil))))
      (pss_one (ps_ret pe_bl))
      pss_nil)
      (pss_one (ps_ret (pe_callB (cr_all rfl) (by rfl) T.z_all (by decide +kernel) (pa_cons (pe_lc (own := [("at", 1)]) (g := (gName 1)) (tt := tYes) rfl sc_is_alphabet.nd (pi_range2 (by rfl) T.z_range (pa_cons pe_int (pa_cons (pe_callB call_len_str (by rfl) T.z_len (by decide +kernel) (pa_cons (pv 0) pa_nil)) pa_nil))) (blkOk_by (own := [("at", 1)]) (N := N_is_alphabet) (sc := defScope s_is_alphabet) (by decide +kernel)) (fun _ _ _ _ _ => (pg_name (i := 1) sc_is_alphabet.nd rfl (.inl rfl))) (fun _ _ _ _ _ => pts_nil) (fun _ _ _ _ _ => (pe_cmpR op_lt_str (pe_ix ix_str (pv 0) (pe_op op_sub (pv 1) pe_int) (fun _ _ => rfl)) (pe_ix ix_str (pv 0) (pv 1) (fun _ _ => rfl)) (nomark _)))) pa_nil))))))), ?_⟩)
  · obtain ⟨v, rfl, _⟩ := h
    rfl
  · obtain ⟨v, rfl, ⟨z, rfl, hz, q⟩ | ⟨⟨t, ht, hk⟩, q⟩⟩ := h
    · have L := len_tl z
      have hF : ∀ H', Same H H' → ¬ Alpha z.cps.toList → Q (.bl false) H' := fun H' sm hn => by
        have := q H' sm
        rw [decide_eq_false hn] at this
        exact this
      walk_at "ssi"
      refine ite2 (fun e1 => ?_) (fun e1 => ?_)
      · have e1 : (1 : Int) ≤ z.length := of_decide_eq_true e1
        walk_at "ss"
        refine ite2 (fun e2 => ?_) (fun e2 => ?_)
        · refine hF _ (Same.refl H) fun hA => ?_
          have e3 : ¬ ((z.length : Int) ≤ 4) := by simpa using e2
          have := hA.2.1
          omega
        · have e3 : (z.length : Int) ≤ 4 := by simpa using e2
          walk_at "ss"
          intro D hD
          refine lc_gen walk_str (fun H' => Same H H') (fun i y => ∃ c, z.cps.toList[i]? = some c ∧ y = V.bl (decide (97 ≤ c ∧ c ≤ 122))) (by rw [size_tl, ← len_tl]; exact hz) (same_upd hD) (fun _ _ => trivial) (fun _ _ h => same_mut h hD) ?_ ?_
          · rintro i x H1 H2 Q1 hlt hI ⟨rfl, c, hc, rfl⟩ - hQ
            rw [get_tl] at hc
            walk_at "ss"
            refine ite2 (fun e5 => ?_) (fun e5 => ?_)
            · have e6 : (!decide (([c] : List Nat) < [97])) = true := e5
              have e7 : 97 ≤ c := by simpa [lt1] using e6
              walk_at "ss"
              refine hQ _ _ ⟨c, hc, congrArg V.bl ?_⟩ hI fun _ h => h
              show (!decide (([122] : List Nat) < [c])) = decide (97 ≤ c ∧ c ≤ 122)
              rw [Bool.eq_iff_iff]
              simp [lt1, e7]
            · have e6 : ¬ (!decide (([c] : List Nat) < [97])) = true := e5
              have e7 : ¬ 97 ≤ c := by simpa [lt1] using e6
              refine hQ _ _ ⟨c, hc, congrArg V.bl ?_⟩ hI fun _ h => h
              simp [e7]
          · intro H1 ys hI hy hl hr
            have e : ys = (z.cps.toList.map fun c => decide (97 ≤ c ∧ c ≤ 122)).map V.bl := by
              rw [List.map_map]
              exact ys_map (by rw [hl, size_tl]) hr
            subst e
            walk_at "ss"
            refine ⟨D, _, rfl, SqL.of hy, ?_⟩
            rw [all_dec]
            walk_at "ss"
            refine ite2 (fun e4 => ?_) (fun e4 => ?_)
            · refine hF _ hI fun hA => ?_
              have e5 := hA.2.2.1
              rw [decide_eq_true e5] at e4
              cases e4
            · have e5 : ∀ c ∈ z.cps.toList, 97 ≤ c ∧ c ≤ 122 := by simpa using e4
              walk_at "ss"
              refine ⟨_, _, rfl, ⟨by decide, by decide, by omega, by omega⟩, ?_⟩
              intro D2 hD2
              refine lc_gen walk_range (fun H' => Same H1 H') (fun i y => ∃ a b, z.cps.toList[i]? = some a ∧ z.cps.toList[i + 1]? = some b ∧ y = V.bl (decide (a < b))) (by omega) (same_upd hD2) (fun _ _ => trivial) (fun _ _ h => same_mut h hD2) ?_ ?_
              · rintro i x H2 H3 Q1 hlt hI2 ⟨rfl, rfl⟩ - hQ
                have h1 : i + 1 < z.cps.toList.length := by omega
                have h0 : i < z.cps.toList.length := by omega
                have g0 := List.getElem?_eq_getElem h0
                have g1 := List.getElem?_eq_getElem h1
                walk_at "ss"
                refine ⟨z, _, _, rfl, rfl, sz hz, (show atI z.cps.toList (1 + (i : Int) - 1) = some z.cps.toList[i] by rw [show 1 + (i : Int) - 1 = ((i : Nat) : Int) by omega]; exact atI_nat g0), ?_⟩
                walk_at "ss"
                refine ⟨z, _, _, rfl, rfl, sz hz, (show atI z.cps.toList (1 + (i : Int)) = some z.cps.toList[i + 1] by rw [show 1 + (i : Int) = ((i + 1 : Nat) : Int) by omega]; exact atI_nat g1), ?_⟩
                walk_at "ss"
                refine hQ _ _ ⟨_, _, g0, g1, congrArg V.bl ?_⟩ hI2 fun _ h => h
                show decide (([z.cps.toList[i]] : List Nat) < [z.cps.toList[i + 1]]) = _
                rw [Bool.eq_iff_iff]
                simp [lt1]
              · intro H2 ys2 hI2 hy2 hl2 hr2
                have e : ys2 = ((List.range (z.cps.toList.length - 1)).map fun i => decide (z.cps.toList.getD i 0 < z.cps.toList.getD (i + 1) 0)).map V.bl := by
                  rw [List.map_map]
                  refine ys_map (by rw [hl2, List.length_range]; omega) fun i y h => ?_
                  obtain ⟨a, b, h1, h2, h3⟩ := hr2 i y h
                  have hi := (List.getElem?_eq_some_iff.mp h).1
                  refine ⟨i, List.getElem?_range (by omega), ?_⟩
                  rw [h3]
                  simp only [Function.comp, List.getD_eq_getElem?_getD, h1, h2, Option.getD_some]
                subst e
                walk_at "ss"
                refine ⟨D2, _, rfl, SqL.of hy2, ?_⟩
                rw [asc_pair z.cps.toList (by omega)]
                have := q H2 (hI.trans hI2)
                rw [show decide (Alpha z.cps.toList) = decide (z.cps.toList.Pairwise (· < ·)) from ?_] at this
                · exact this
                · rw [Bool.eq_iff_iff]
                  simp only [decide_eq_true_eq]
                  exact ⟨fun h => h.2.2.2, fun h => ⟨by omega, by omega, e5, h⟩⟩
      · walk_at "ss"
        refine hF _ (Same.refl H) fun hA => ?_
        have e3 : ¬ ((1 : Int) ≤ z.length) := by simpa using e1
        have := hA.1
        omega
    · walk_at "ssi"
      exact q _ (Same.refl H)
theorem ok_is_word (T : Env K mg) : FnOk P w K mg base CX0 1 T.f_is_word T.fd_is_word ["alphabet", "value"] (spIsWord K) := by
  refine T.F_is_word.ok sc_is_word (fun vs H Q E h => ?_) (fun cdv A outer s H vs Q E hr h => ⟨_, ((pss_one (ps_ret (pe_and (pe_callB call_isi (by rfl) T.z_isinstance (by decide +kernel) (pa_cons (pv 1) (pa_cons (pe_bltn (v := .ty "str") (by rfl) T.z_str (by decide +kernel) rfl) pa_nil))) (pe_one (pe_callB (cr_all rfl) (by rfl) T.z_all (by decide +kernel) (pa_cons (pe_lc (own := [("sign", 2)]) (g := (gName 2)) (tt := tYes) rfl sc_is_word.nd (pi_str (pv 1)) (blkOk_by (own := [("sign", 2)]) (N := N_is_word) (sc := defScope s_is_word) (by decide +kernel)) (fun _ _ _ _ _ => (pg_name (i := 2) sc_is_word.nd rfl (.inl rfl))) (fun _ _ _ _ _ => pts_nil) (fun _ _ _ _ _ => (pe_cmpR op_in_sign (pv 2) (pv 0) (by rfl)))) pa_nil))))))), ?_⟩)
  · obtain ⟨a, v, rfl, _⟩ := h
    rfl
  · obtain ⟨a, v, rfl, ⟨z, rfl, hz, q⟩ | ⟨⟨t, ht, hk⟩, q⟩⟩ := h
    · walk_at "ss"
      refine ⟨_, _, _, _, true, rfl, ClsV.ty _, .base (.str _), kit_ty (by decide +kernel), ?_⟩
      walk_at "ss"
      intro D hD
      refine lc_gen walk_str (fun H' => Same H H') (fun i y => ∃ c, z.cps.toList[i]? = some c ∧ y = V.bl (decide (c ∈ a.cps.toList))) (by rw [size_tl, ← len_tl]; exact hz) (same_upd hD) (fun _ _ => trivial) (fun _ _ h => same_mut h hD) ?_ ?_
      · rintro i x H1 H2 Q1 hlt hI ⟨rfl, c, hc, rfl⟩ - hQ
        walk_at "ss"
        rw [get_tl] at hc
        exact hQ _ _ ⟨c, hc, rfl⟩ hI fun _ h => h
      · intro H1 ys hI hy hl hr
        have e : ys = (z.cps.toList.map fun c => decide (c ∈ a.cps.toList)).map V.bl := by
          rw [List.map_map]
          exact ys_map (by rw [hl, size_tl]) hr
        subst e
        walk_at "ss"
        refine ⟨D, _, rfl, SqL.of hy, ?_⟩
        rw [all_dec]
        exact q _ hI
    · walk_at "ssi"
      exact q _ (Same.refl H)
end

/-! ### what is found and what is due are the same -/
def scalV : V → Bool
  | .non => true
  | .bl _ => true
  | .int _ => true
  | .str _ => true
  | _ => false
/-- of depth below d: the same data -/
def Sm (K : PySem.W.Frag) (H : Hp) : Nat → V → V → Prop
  | 0, _, _ => False
  | d + 1, x, y => (x = y ∧ scalV x = true) ∨ (∃ a b xs ys, x = .ref a ∧ y = .ref b ∧ xs.length ≤ 100000 ∧ xs.length = ys.length ∧ (∀ (i : Nat) (u v : V), xs[i]? = some u → ys[i]? = some v → Sm K H d u v) ∧
      ((SqL K H a xs ∧ SqL K H b ys) ∨ (SqT K H a xs ∧ SqT K H b ys)))
theorem Sm.same {K : PySem.W.Frag} {H H' : Hp} (s : Same H H') : ∀ {d : Nat} {x y : V}, Sm K H d x y → Sm K H' d x y
  | 0, _, _, h => h
  | d + 1, x, y, h => by
    rcases h with h | ⟨a, b, xs, ys, e1, e2, hz, hl, hi, h⟩
    · exact .inl h
    · refine .inr ⟨a, b, xs, ys, e1, e2, hz, hl, fun i u v h1 h2 => Sm.same s (hi i u v h1 h2), ?_⟩
      rcases h with ⟨h1, h2⟩ | ⟨h1, h2⟩
      · exact .inl ⟨s.seq h1, s.seq h2⟩
      · exact .inr ⟨same_tup s h1, same_tup s h2⟩
theorem Sm.up {K : PySem.W.Frag} {H : Hp} : ∀ {d : Nat} {x y : V}, Sm K H d x y → Sm K H (d + 1) x y
  | 0, _, _, h => h.elim
  | d + 1, x, y, h => by
    rcases h with h | ⟨a, b, xs, ys, e1, e2, hz, hl, hi, h⟩
    · exact .inl h
    · exact .inr ⟨a, b, xs, ys, e1, e2, hz, hl, fun i u v h1 h2 => Sm.up (hi i u v h1 h2), h⟩
theorem tyx_list {K : PySem.W.Frag} {H : Hp} {a : Addr} {xs : List V} (h : SqL K H a xs) : TyX K H (.ref a) (.type "list") := by
  rcases h with (h | ⟨o, h⟩) | ⟨o, its, n, h1, h2, _⟩
  · exact .base (.lst h)
  · exact .base (.frz h)
  · exact .kList h1 h2
theorem tyx_tup {K : PySem.W.Frag} {H : Hp} {a : Addr} {xs : List V} (h : SqT K H a xs) : TyX K H (.ref a) (.type "tuple") := by
  rcases h with (h | ⟨o, h⟩) | ⟨o, its, n, h1, h2, _⟩
  · exact .base (.tup h)
  · exact .fTuple h
  · exact .kTuple h1 h2

theorem walk_zipT {K : PySem.W.Frag} {a b : Addr} {xs ys : List V} {n : Nat} (hn : n = min xs.length ys.length) : Walk (RZ.ItzT K a b) n (fun H => SqT K H a xs ∧ SqT K H b ys) (YPair (fun i => xs[i]?) (fun i => ys[i]?)) := by
  subst hn
  refine ⟨fun i _ hi q => ?_, fun _ q => ⟨xs, ys, q.1, q.2, by omega⟩, fun i H v H' _ q y => ?_⟩
  · have h1 : i < xs.length := by omega
    have h2 : i < ys.length := by omega
    exact ⟨xs, ys, xs[i], ys[i], q.1, q.2, by simp [h1], by simp [h2]⟩
  · obtain ⟨T, x, z, h1, h2, h3, h4, h5⟩ := y
    exact ⟨T, x, z, h1, h2, h3, h4 xs q.1, h5 ys q.2⟩
theorem sm_lst {K : PySem.W.Frag} {H : Hp} {d : Nat} {p q : Addr} {xs : List V} (h1 : SqL K H p xs) (h2 : SqL K H q xs) (hl : xs.length ≤ 100000) (hs : xs.all scalV = true) : Sm K H (d + 2) (.ref p) (.ref q) := by
  refine .inr ⟨p, q, xs, xs, rfl, rfl, hl, rfl, fun i u v e1 e2 => ?_, .inl ⟨h1, h2⟩⟩
  rw [e1] at e2
  cases e2
  exact .inl ⟨rfl, List.all_eq_true.mp hs u (List.mem_of_getElem? e1)⟩
def spSame (K : PySem.W.Frag) (d : Nat) : Sp := fun vs H Q _ => ∃ (x y : V), vs = [x, y] ∧ Sm K H d x y ∧ ∀ H', Same H H' → Q (.bl true) H'
section
variable {P : Program} {w : World} {K : PySem.W.Frag} {mg : Str → Option Value} {base : Heap}
theorem ok_same (T : Env K mg) : ∀ d : Nat, FnOk P w K mg base CX0 (d + 1) T.f_same T.fd_same ["_law_found", "_law_due"] (spSame K d)
  | 0 => by
    refine T.F_same.ok sc_same (fun vs H Q E h => ?_) (fun cdv A outer s H vs Q E hr h => ?_)
    · obtain ⟨x, y, rfl, _⟩ := h
      rfl
    · obtain ⟨x, y, rfl, h, _⟩ := h
      exact h.elim
  | d + 1 => by
    have ih : FnOk P w K mg base CX0 (d + 1) T.f_same T.fd_same ["_law_found", "_law_due"] (spSame K d) := ok_same T d
    refine T.F_same.ok sc_same (fun vs H Q E h => ?_) (fun cdv A outer s H vs Q E hr h => ⟨_, ((pss_cons (ps_if (pt_val (pe_callB call_isiT (by rfl) T.z_isinstance (by decide +kernel) (pa_cons (pv 1) (pa_cons (pe_tup (pa_cons (pe_bltn (v := .ty "list") (by rfl) T.z_list (by decide +kernel) rfl) (pa_cons (pe_bltn (v := .ty "tuple") (by rfl) T.z_tuple (by decide +kernel) rfl) pa_nil))) pa_nil))))
      (pss_cons (ps_if (PW.pt (pw_or (pt_cmpR op_ne (pe_callB call_isi (by rfl) T.z_isinstance (by decide +kernel) (pa_cons (pv 0) (pa_cons (pe_bltn (v := .ty "list") (by rfl) T.z_list (by decide +kernel) rfl) pa_nil))) (pe_callB call_isi (by rfl) T.z_isinstance (by decide +kernel) (pa_cons (pv 1) (pa_cons (pe_bltn (v := .ty "list") (by rfl) T.z_list (by decide +kernel) rfl) pa_nil))) (nomark _)) (pw_or1 (pt_cmpR op_ne (pe_callB call_isi (by rfl) T.z_isinstance (by decide +kernel) (pa_cons (pv 0) (pa_cons (pe_bltn (v := .ty "tuple") (by rfl) T.z_tuple (by decide +kernel) rfl) pa_nil))) (pe_callB call_isi (by rfl) T.z_isinstance (by decide +kernel) (pa_cons (pv 1) (pa_cons (pe_bltn (v := .ty "tuple") (by rfl) T.z_tuple (by decide +kernel) rfl) pa_nil))) (nomark _)))))
      (pss_one (ps_ret pe_bl))
      pss_nil)
      (pss_one (ps_ret (pe_and (pe_cmpR op_eq (pe_callB call_len (by rfl) T.z_len (by decide +kernel) (pa_cons (pv 0) pa_nil)) (pe_callB call_len (by rfl) T.z_len (by decide +kernel) (pa_cons (pv 1) pa_nil)) (nomark _)) (pe_one (pe_callB (cr_all rfl) (by rfl) T.z_all (by decide +kernel) (pa_cons (pe_lc (own := [("_law_a", 2), ("_law_b", 3)]) (g := (gTup K 2 (gCons (gName 2) (gCons (gName 3) gNil)))) (tt := tYes) rfl sc_same.nd (RZ.pi_zipA (by rfl) T.z_zip (pa_cons (pv 0) (pa_cons (pv 1) pa_nil))) (blkOk_by (own := [("_law_a", 2), ("_law_b", 3)]) (N := N_same) (sc := defScope s_same) (by decide +kernel)) (fun _ _ _ _ _ => (pg_tup (by rfl) (pgs_cons (pg_name (i := 2) sc_same.nd rfl (.inl rfl)) (pgs_cons (pg_name (i := 3) sc_same.nd rfl (.inl rfl)) pgs_nil)))) (fun _ _ _ _ _ => pts_nil) (fun _ _ _ _ _ => (pe_call ih hr (by rfl) T.g_same T.F_same.kp T.b_same .nil pass0 (pa_cons (pv 2) (pa_cons (pv 3) pa_nil))))) pa_nil)))))))
      pss_nil)
      (pss_cons (ps_if (PW.pt (pw_or (pt_cmpR op_isN (pv 1) pe_non (nomark _)) (pw_or1 (pt_cmpR op_isN (pv 0) pe_non (nomark _)))))
      (pss_one (ps_ret (pe_and (pe_cmpR op_isN (pv 1) pe_non (nomark _)) (pe_one (pe_cmpR op_isN (pv 0) pe_non (nomark _))))))
      pss_nil)
      (pss_cons (ps_if (PW.pt (pw_or (pt_cmpR op_ne (pe_callB call_isi (by rfl) T.z_isinstance (by decide +kernel) (pa_cons (pv 1) (pa_cons (pe_bltn (v := .ty "bool") (by rfl) T.z_bool (by decide +kernel) rfl) pa_nil))) (pe_callB call_isi (by rfl) T.z_isinstance (by decide +kernel) (pa_cons (pv 0) (pa_cons (pe_bltn (v := .ty "bool") (by rfl) T.z_bool (by decide +kernel) rfl) pa_nil))) (nomark _)) (pw_or1 (pt_cmpR op_ne (pe_callB call_isi (by rfl) T.z_isinstance (by decide +kernel) (pa_cons (pv 1) (pa_cons (pe_bltn (v := .ty "int") (by rfl) T.z_int (by decide +kernel) rfl) pa_nil))) (pe_callB call_isi (by rfl) T.z_isinstance (by decide +kernel) (pa_cons (pv 0) (pa_cons (pe_bltn (v := .ty "int") (by rfl) T.z_int (by decide +kernel) rfl) pa_nil))) (nomark _)))))
      (pss_one (ps_ret pe_bl))
      pss_nil)
      (pss_one (ps_ret (pe_and (pe_cmpR op_eq (pe_callB call_isi (by rfl) T.z_isinstance (by decide +kernel) (pa_cons (pv 1) (pa_cons (pe_bltn (v := .ty "str") (by rfl) T.z_str (by decide +kernel) rfl) pa_nil))) (pe_callB call_isi (by rfl) T.z_isinstance (by decide +kernel) (pa_cons (pv 0) (pa_cons (pe_bltn (v := .ty "str") (by rfl) T.z_str (by decide +kernel) rfl) pa_nil))) (nomark _)) (pe_one (pe_cmpR op_eq (pv 0) (pv 1) (nomark _)))))))))), ?_⟩)
    · obtain ⟨x, y, rfl, _⟩ := h
      rfl
    · obtain ⟨x, y, rfl, h, q⟩ := h
      rcases h with ⟨rfl, hsc⟩ | ⟨a, b, xs, ys, rfl, rfl, hz, hl, hi, h⟩
      · cases x with
        | non =>
          walk_at "ssi"
          exact q _ (same_upd (by assumption))
        | bl b =>
          walk_at "ssi"
          show Q (V.bl (decide (V.bl b = V.bl b))) _
          rw [decide_eq_true rfl]
          exact q _ (same_upd (by assumption))
        | int i =>
          walk_at "ssi"
          show Q (V.bl (decide (V.int i = V.int i))) _
          rw [decide_eq_true rfl]
          exact q _ (same_upd (by assumption))
        | str z =>
          walk_at "ssi"
          show Q (V.bl (decide (V.str z = V.str z))) _
          rw [decide_eq_true rfl]
          exact q _ (same_upd (by assumption))
        | byt z => cases hsc
        | flt z => cases hsc
        | ref z => cases hsc
        | ty z => cases hsc
      · rcases h with ⟨h1, h2⟩ | ⟨h1, h2⟩
        · walk_at "ss"
          intro p hp
          have s1 : Same H (upd H p (.tup [.ty "list", .ty "tuple"])) := same_upd hp
          have t1 := tyx_list (s1.seq h1)
          have t2 := tyx_list (s1.seq h2)
          walk_at "ssi"
          refine ⟨_, xs.length, rfl, .inl ⟨xs, s1.seq h1, rfl⟩, ?_⟩
          walk_at "ss"
          refine ⟨_, ys.length, rfl, .inl ⟨ys, s1.seq h2, rfl⟩, ?_⟩
          walk_at "ss"
          refine iteP (decide_eq_true (by rw [hl])) ?_
          walk_at "ss"
          refine ⟨a, b, xs, ys, rfl, .inl ⟨s1.seq h1, s1.seq h2, ?_⟩⟩
          intro D hD
          have hD0 : H D = none := s1.free hD
          refine lc_it (walk_zip (xs := xs) (ys := ys) (n := xs.length) (by omega)) (fun i H' => Stp (Same H H' ∧ H' D = some (.lst ((List.replicate i true).map V.bl))))
            (.mk ⟨same_mut s1 hD0, upd_same⟩) (fun i H' _ h => ⟨h.of.1.seq h1, h.of.1.seq h2⟩) ?_ ?_
          · rintro i x H1 H2 hlt hP ⟨Tp, u, v, rfl, hT, rfl, e1, e2⟩
            obtain ⟨s2, hDl⟩ := hP.of
            have s3 : Same H1 (upd H1 Tp (.tup [u, v])) := same_upd hT
            refine ⟨Tp, _, rfl, SqT.of upd_same, rfl, ?_⟩
            walk_at "ss"
            refine ⟨u, v, rfl, (hi i u v e1 e2).same (s2.trans s3), fun H3 s4 => ⟨_, s4 _ _ (s3 _ _ hDl), ?_, ?_⟩⟩
            · rw [List.length_map, List.length_replicate]
              exact szl (by omega)
            · refine .mk ⟨same_mut ((s2.trans s3).trans s4) hD0, ?_⟩
              rw [upd_same, List.replicate_succ', List.map_append]
              rfl
          · intro H1 hP
            obtain ⟨s2, hDl⟩ := hP.of
            walk_at "ss"
            refine ⟨D, _, rfl, SqL.of hDl, ?_⟩
            rw [show (List.replicate xs.length true).all id = true by simp]
            exact q _ s2
        · walk_at "ss"
          intro p hp
          have s1 : Same H (upd H p (.tup [.ty "list", .ty "tuple"])) := same_upd hp
          have t1 := tyx_tup (same_tup s1 h1)
          have t2 := tyx_tup (same_tup s1 h2)
          walk_at "ssi"
          refine ⟨_, xs.length, rfl, .inr ⟨xs, same_tup s1 h1, rfl⟩, ?_⟩
          walk_at "ss"
          refine ⟨_, ys.length, rfl, .inr ⟨ys, same_tup s1 h2, rfl⟩, ?_⟩
          walk_at "ss"
          refine iteP (decide_eq_true (by rw [hl])) ?_
          walk_at "ss"
          refine ⟨a, b, xs, ys, rfl, .inr ⟨same_tup s1 h1, same_tup s1 h2, ?_⟩⟩
          intro D hD
          have hD0 : H D = none := s1.free hD
          refine lc_it (walk_zipT (xs := xs) (ys := ys) (n := xs.length) (by omega)) (fun i H' => Stp (Same H H' ∧ H' D = some (.lst ((List.replicate i true).map V.bl))))
            (.mk ⟨same_mut s1 hD0, upd_same⟩) (fun i H' _ h => ⟨same_tup h.of.1 h1, same_tup h.of.1 h2⟩) ?_ ?_
          · rintro i x H1 H2 hlt hP ⟨Tp, u, v, rfl, hT, rfl, e1, e2⟩
            obtain ⟨s2, hDl⟩ := hP.of
            have s3 : Same H1 (upd H1 Tp (.tup [u, v])) := same_upd hT
            refine ⟨Tp, _, rfl, SqT.of upd_same, rfl, ?_⟩
            walk_at "ss"
            refine ⟨u, v, rfl, (hi i u v e1 e2).same (s2.trans s3), fun H3 s4 => ⟨_, s4 _ _ (s3 _ _ hDl), ?_, ?_⟩⟩
            · rw [List.length_map, List.length_replicate]
              exact szl (by omega)
            · refine .mk ⟨same_mut ((s2.trans s3).trans s4) hD0, ?_⟩
              rw [upd_same, List.replicate_succ', List.map_append]
              rfl
          · intro H1 hP
            obtain ⟨s2, hDl⟩ := hP.of
            walk_at "ss"
            refine ⟨D, _, rfl, SqL.of hDl, ?_⟩
            rw [show (List.replicate xs.length true).all id = true by simp]
            exact q _ s2
end

/-! ### kinds of values -/
def NoInt (K : PySem.W.Frag) (H : Hp) (v : V) : Prop := ∃ t, TyX K H v (.type t) ∧ kitB t "int" = some false
def spNum (K : PySem.W.Frag) : Sp := fun vs H Q _ => ∃ (v : V), vs = [v] ∧
  ((∃ i, v = .int i ∧ Q (.bl (decide (0 ≤ i))) H) ∨ (∃ b, v = .bl b ∧ Q (.bl false) H) ∨ (NoInt K H v ∧ Q (.bl false) H))
def spBelow (K : PySem.W.Frag) : Sp := fun vs H Q _ => ∃ (v : V) (n : Int), vs = [v, .int n] ∧
  ((∃ i, v = .int i ∧ Q (.bl (decide (0 ≤ i ∧ i < n))) H) ∨ (∃ b, v = .bl b ∧ Q (.bl false) H) ∨ (NoInt K H v ∧ Q (.bl false) H))
section
variable {P : Program} {w : World} {K : PySem.W.Frag} {mg : Str → Option Value} {base : Heap}
theorem ok_is_number (T : Env K mg) : FnOk P w K mg base CX0 1 T.f_is_number T.fd_is_number ["value"] (spNum K) := by
  refine T.F_is_number.ok sc_is_number (fun vs H Q E h => ?_) (fun cdv A outer s H vs Q E hr h => ⟨_, ((pss_one (ps_ret (pe_and (pe_callB call_isi (by rfl) T.z_isinstance (by decide +kernel) (pa_cons (pv 0) (pa_cons (pe_bltn (v := .ty "int") (by rfl) T.z_int (by decide +kernel) rfl) pa_nil))) (pe_and (pe_not (pe_callB call_isi (by rfl) T.z_isinstance (by decide +kernel) (pa_cons (pv 0) (pa_cons (pe_bltn (v := .ty "bool") (by rfl) T.z_bool (by decide +kernel) rfl) pa_nil)))) (pe_one (pe_cmpR op_ge (pv 0) pe_int (nomark _)))))))), ?_⟩)
  · obtain ⟨v, rfl, _⟩ := h
    rfl
  · obtain ⟨v, rfl, ⟨i, rfl, q⟩ | ⟨b, rfl, q⟩ | ⟨⟨t, ht, hk⟩, q⟩⟩ := h
    · walk_at "ssi"
      exact q
    · walk_at "ssi"
      exact q
    · walk_at "ssi"
      exact q
theorem ok_is_below (T : Env K mg) : FnOk P w K mg base CX0 2 T.f_is_below T.fd_is_below ["value", "bound"] (spBelow K) := by
  refine T.F_is_below.ok sc_is_below (fun vs H Q E h => ?_) (fun cdv A outer s H vs Q E hr h => ⟨_, ((pss_one (ps_ret (pe_and (pe_call (ok_is_number T) (hr.mono (by decide)) (by rfl) T.g_is_number T.F_is_number.kp T.b_is_number .nil pass0 (pa_cons (pv 0) pa_nil)) (pe_one (pe_cmpR op_lt (pv 0) (pv 1) (nomark _))))))), ?_⟩)
  · obtain ⟨v, n, rfl, _⟩ := h
    rfl
  · obtain ⟨v, n, rfl, ⟨i, rfl, q⟩ | ⟨b, rfl, q⟩ | ⟨hn, q⟩⟩ := h
    · walk_at "ss"
      refine ite2 (fun e1 => ?_) (fun e1 => ?_)
      · have e2 : 0 ≤ i := of_decide_eq_true e1
        walk_at "ss"
        rw [show decide (0 ≤ i ∧ i < n) = decide (i < n) from decide_eq_decide.mpr ⟨fun h => h.2, fun h => ⟨e2, h⟩⟩] at q
        exact q
      · have e2 : ¬ 0 ≤ i := fun h => e1 (decide_eq_true h)
        rw [decide_eq_false fun h => e2 h.1] at q
        exact q
    · walk_at "ss"
      refine .inr (.inl ⟨b, rfl, ?_⟩)
      walk_at "ss"
      exact q
    · walk_at "ss"
      refine .inr (.inr ⟨hn, ?_⟩)
      walk_at "ss"
      exact q
def spListed (K : PySem.W.Frag) : Sp := fun vs H Q _ => ∃ (v : V), vs = [v] ∧ ((∃ p xs, v = .ref p ∧ (SqL K H p xs ∨ SqT K H p xs) ∧ ∀ H', Same H H' → Q (.bl true) H') ∨ (∃ t, TyX K H v (.type t) ∧ kitB t "list" = some false ∧ kitB t "tuple" = some false ∧ ∀ H', Same H H' → Q (.bl false) H'))
theorem ok_is_listed (T : Env K mg) : FnOk P w K mg base CX0 1 T.f_is_listed T.fd_is_listed ["value"] (spListed K) := by
  refine T.F_is_listed.ok sc_is_listed (fun vs H Q E h => ?_) (fun cdv A outer s H vs Q E hr h => ⟨_, ((pss_one (ps_ret (pe_callB call_isiT (by rfl) T.z_isinstance (by decide +kernel) (pa_cons (pv 0) (pa_cons (pe_tup (pa_cons (pe_bltn (v := .ty "list") (by rfl) T.z_list (by decide +kernel) rfl) (pa_cons (pe_bltn (v := .ty "tuple") (by rfl) T.z_tuple (by decide +kernel) rfl) pa_nil))) pa_nil)))))), ?_⟩)
  · obtain ⟨v, rfl, _⟩ := h
    rfl
  · obtain ⟨v, rfl, ⟨p, xs, rfl, h | h, q⟩ | ⟨t, ht, k1, k2, q⟩⟩ := h
    · have ty := tyx_list h
      walk_at "ss"
      intro D hD
      have ty2 := tyx_same (same_upd (o := .tup [.ty "list", .ty "tuple"]) hD) ty
      walk_at "ssi"
      exact q _ (same_upd hD)
    · have ty := tyx_tup h
      walk_at "ss"
      intro D hD
      have ty2 := tyx_same (same_upd (o := .tup [.ty "list", .ty "tuple"]) hD) ty
      walk_at "ssi"
      exact q _ (same_upd hD)
    · walk_at "ss"
      intro D hD
      have ty2 := tyx_same (same_upd (o := .tup [.ty "list", .ty "tuple"]) hD) ht
      refine ⟨_, _, _, _, _, false, rfl, upd_same, .cons (.ty _) (.cons (.ty _) .nil), ty2, any2 (r1 := false) (r2 := false) k1 k2, ?_⟩
      walk_at "ssi"
      exact q _ (same_upd hD)
end

/-! ### texts of single signs -/
abbrev sg (c : Nat) : Str := ⟨#[c]⟩
theorem rising_sg : ∀ (cs : List Nat) (p : Nat), risingS (sg p) (cs.map sg) = true → cs.Pairwise (· ≤ ·) ∧ ∀ c ∈ cs, p ≤ c
  | [], _, _ => ⟨.nil, fun _ h => nomatch h⟩
  | c :: r, p, h => by
    have h' : (!PySem.Spec.ltCps [c] [p] && risingS (sg c) (r.map sg)) = true := h
    rw [Bool.and_eq_true] at h'
    obtain ⟨h1, h2⟩ := h'
    have h3 : ¬ c < p := by
      intro hc
      simp [PySem.Spec.ltCps, hc] at h1
    obtain ⟨h4, h5⟩ := rising_sg r c h2
    refine ⟨List.pairwise_cons.mpr ⟨h5, h4⟩, fun x hx => ?_⟩
    rcases List.mem_cons.mp hx with rfl | hx
    · omega
    · have := h5 x hx
      omega
theorem sorted_sg : ∀ (cs : List Nat), sortedS (cs.map sg) = true → cs.Pairwise (· ≤ ·)
  | [], _ => .nil
  | c :: r, h => by
    obtain ⟨h4, h5⟩ := rising_sg r c h
    exact List.pairwise_cons.mpr ⟨h5, h4⟩
theorem perm_sg {ys : List Str} {cs : List Nat} (h : ys.Perm (cs.map sg)) : ∃ ds : List Nat, ds.Perm cs ∧ ys = ds.map sg := by
  refine ⟨ys.map fun y => y.cps.toList.headD 0, ?_, ?_⟩
  · have h2 := h.map fun y => y.cps.toList.headD 0
    rw [List.map_map] at h2
    have e : ((fun y : Str => y.cps.toList.headD 0) ∘ sg) = id := rfl
    rw [e, List.map_id] at h2
    exact h2
  · rw [List.map_map]
    have : ∀ y ∈ ys, (sg ∘ fun y : Str => y.cps.toList.headD 0) y = y := fun y hy => by
      obtain ⟨c, -, rfl⟩ := List.mem_map.mp (h.mem_iff.mp hy)
      rfl
    conv => lhs; rw [← List.map_id ys]
    exact (List.map_congr_left fun y hy => (this y hy)).symm
theorem joinL_sg : ∀ cs : List Nat, TL.joinL [] (cs.map fun c => [c]) = cs
  | [] => rfl
  | [c] => rfl
  | c :: d :: r => by
    show [c] ++ ([] ++ TL.joinL [] ((d :: r).map fun c => [c])) = c :: d :: r
    rw [joinL_sg (d :: r)]
    rfl
theorem join_sg (cs : List Nat) : Txt.join (Str.ofString "") (cs.map sg) = ⟨cs.toArray⟩ := by
  apply TL.ext_tl
  rw [TL.join_eq, TL.tl_join, List.map_map]
  show TL.joinL [] (cs.map fun c => [c]) = _
  rw [joinL_sg]
theorem sum_sg : ∀ cs : List Nat, ((cs.map sg).map (·.length)).sum = cs.length
  | [] => rfl
  | c :: r => by
    show 1 + ((r.map sg).map (·.length)).sum = r.length + 1
    rw [sum_sg r]
    omega
theorem rise_lt {cs : List Nat} (h : cs.Pairwise (· ≤ ·)) (n : cs.Nodup) : cs.Pairwise (· < ·) := by
  have h2 := List.pairwise_and_iff.mpr ⟨h, n⟩
  exact h2.imp fun ⟨a, b⟩ => Nat.lt_of_le_of_ne a b
theorem in_sg (c : Nat) (cs : List Nat) : inV (.str (sg c)) (cs.map fun c => V.str (sg c)) = decide (c ∈ cs) := by
  unfold inV
  rw [Bool.eq_iff_iff, List.any_map]
  simp only [List.any_eq_true, Function.comp, eqV, decide_eq_true_eq]
  constructor
  · rintro ⟨d, hd, e⟩
    have e2 : sg d = sg c := by simpa using e
    have e3 : d = c := by
      have := congrArg (fun z : Str => z.cps.toList) e2
      simpa using this
    rw [← e3]
    exact hd
  · intro h
    exact ⟨c, h, by simp⟩
theorem az_text : (Str.ofString "abcdefghijklmnopqrstuvwxyz").cps.toList = (List.range 26).map (97 + ·) := by decide +kernel
theorem az_at {i c : Nat} (h : (Str.ofString "abcdefghijklmnopqrstuvwxyz").cps[i]? = some c) : i < 26 ∧ c = 97 + i := by
  rw [get_tl, az_text, List.getElem?_map] at h
  by_cases hi : i < 26
  · rw [List.getElem?_range hi] at h
    exact ⟨hi, (Option.some.inj h).symm⟩
  · rw [List.getElem?_eq_none_iff.mpr (by simp; omega)] at h
    cases h
theorem az_size : (Str.ofString "abcdefghijklmnopqrstuvwxyz").cps.size = 26 := by decide +kernel
theorem az_len : (Str.ofString "abcdefghijklmnopqrstuvwxyz").length = 26 := by decide +kernel
theorem az_mem {c : Nat} (h : c ∈ (Str.ofString "abcdefghijklmnopqrstuvwxyz").cps.toList) : 97 ≤ c ∧ c ≤ 122 := by
  rw [az_text] at h
  obtain ⟨i, hi, rfl⟩ := List.mem_map.mp h
  have := List.mem_range.mp hi
  omega

/-! ### lines of formulas -/
inductive FL where
  | is (z : List Nat)
  | not (i : Nat)
  | and (rs : List Nat)
  | or (rs : List Nat)
  | before (i : Nat)
  | since (i j : Nat)
  | count (i p r : Nat)
def strL (z : List Nat) : V := .str ⟨z.toArray⟩
def natL (rs : List Nat) : List V := rs.map fun n => V.int (n : Nat)
/-- how a line stands in the heap -/
def FLAt (H : Hp) (p : Addr) : FL → Prop
  | .is z => H p = some (.tup [.str "is", strL z])
  | .not i => H p = some (.tup [.str "not", .int (i : Nat)])
  | .and rs => ∃ q, H p = some (.tup [.str "and", .ref q]) ∧ H q = some (.tup (natL rs))
  | .or rs => ∃ q, H p = some (.tup [.str "or", .ref q]) ∧ H q = some (.tup (natL rs))
  | .before i => H p = some (.tup [.str "before", .int (i : Nat)])
  | .since i j => H p = some (.tup [.str "since", .int (i : Nat), .int (j : Nat)])
  | .count i p' r => H p = some (.tup [.str "count", .int (i : Nat), .int (p' : Nat), .int (r : Nat)])
theorem FLAt.same {H H' : Hp} {p : Addr} (s : Same H H') : ∀ {f : FL}, FLAt H p f → FLAt H' p f
  | .is _, h => s _ _ h
  | .not _, h => s _ _ h
  | .and _, ⟨q, a, b⟩ => ⟨q, s _ _ a, s _ _ b⟩
  | .or _, ⟨q, a, b⟩ => ⟨q, s _ _ a, s _ _ b⟩
  | .before _, h => s _ _ h
  | .since _ _, h => s _ _ h
  | .count _ _ _, h => s _ _ h
def PR : List Nat := [2, 3, 5, 7, 11, 13, 17, 19, 23, 29, 31, 37, 41, 43, 47, 53, 59, 61, 67, 71, 73, 79, 83, 89, 97]
theorem pr_of {p : Nat} (h : p ∈ [2, 3, 5]) : p ∈ PR := by
  simp only [List.mem_cons, List.not_mem_nil, or_false] at h
  rcases h with rfl | rfl | rfl <;> decide
/-- a line that can stand at a place -/
def FLOk (al : List Nat) (at_ : Nat) : FL → Prop
  | .is z => z = al.filter (fun c => decide (c ∈ z))
  | .not i => i < at_
  | .and rs => (∀ r ∈ rs, r < at_) ∧ rs.Pairwise (· < ·) ∧ rs.length ≤ 100
  | .or rs => (∀ r ∈ rs, r < at_) ∧ rs.Pairwise (· < ·) ∧ rs.length ≤ 100
  | .before i => i < at_
  | .since i j => i < at_ ∧ j < at_
  | .count i p r => i < at_ ∧ p ∈ PR ∧ r < p
theorem natL_at {ns : List Nat} {i : Nat} (h : i < ns.length) : (natL ns)[i]? = some (.int (ns.getD i 0 : Nat)) := by
  unfold natL
  rw [List.getElem?_map, List.getD_eq_getElem?_getD, List.getElem?_eq_getElem h]
  rfl
theorem natL_len (ns : List Nat) : (natL ns).length = ns.length := by unfold natL; rw [List.length_map]

/-! ### lines of circuits -/
inductive CL where
  | const (v : Nat)
  | letter
  | wire (r : Nat) (t : List Nat)
  | join (a b : Nat) (t : List (List Nat))
  | latch (s a r : Nat)
  | counter (p a r : Nat)
def RowsAt (H : Hp) (qs : List Addr) (t : List (List Nat)) : Prop := qs.length = t.length ∧ ∀ (i : Nat) (q : Addr) (row : List Nat), qs[i]? = some q → t[i]? = some row → H q = some (.tup (natL row))
/-- how a line stands in the heap -/
def CLAt (H : Hp) (p : Addr) : CL → Prop
  | .const v => H p = some (.tup [.str "const", .int (v : Nat)])
  | .letter => H p = some (.tup [.str "letter"])
  | .wire r t => ∃ q, H p = some (.tup [.str "wire", .int (r : Nat), .ref q]) ∧ H q = some (.tup (natL t))
  | .join a b t => ∃ q qs, H p = some (.tup [.str "join", .int (a : Nat), .int (b : Nat), .ref q]) ∧ H q = some (.tup (qs.map V.ref)) ∧ RowsAt H qs t
  | .latch s a r => H p = some (.tup [.str "latch", .int (s : Nat), .int (a : Nat), .int (r : Nat)])
  | .counter p' a r => H p = some (.tup [.str "counter", .int (p' : Nat), .int (a : Nat), .int (r : Nat)])
theorem RowsAt.keep {H H' : Hp} {qs : List Addr} {t : List (List Nat)} (k : TupKeep H H') (h : RowsAt H qs t) : RowsAt H' qs t := ⟨h.1, fun i q row a b => k _ _ (h.2 i q row a b)⟩
theorem CLAt.keep {H H' : Hp} {p : Addr} (k : TupKeep H H') : ∀ {f : CL}, CLAt H p f → CLAt H' p f
  | .const _, h => k _ _ h
  | .letter, h => k _ _ h
  | .wire _ _, ⟨q, a, b⟩ => ⟨q, k _ _ a, k _ _ b⟩
  | .join _ _ _, ⟨q, qs, a, b, c⟩ => ⟨q, qs, k _ _ a, k _ _ b, c.keep k⟩
  | .latch _ _ _, h => k _ _ h
  | .counter _ _ _, h => k _ _ h
theorem CLAt.same {H H' : Hp} {p : Addr} {f : CL} (h : CLAt H p f) (s : Same H H') : CLAt H' p f := h.keep (.of s)
theorem TupKeep.trans {H H1 H2 : Hp} (a : TupKeep H H1) (b : TupKeep H1 H2) : TupKeep H H2 := fun c xs h => b _ _ (a _ _ h)
theorem TupKeep.refl (H : Hp) : TupKeep H H := fun _ _ h => h
theorem TupKeep.kp {b l : Addr} {H H' : Hp} (k : Kp b H H') (B : BagAt b l H) : TupKeep H H' := fun c xs h => k _ _ h fun z => by
  obtain ⟨⟨i, r, m, c, ns, hb, _⟩, _⟩ := B
  rw [z, hb] at h
  cases h
theorem TupKeep.kpL {b : Addr} {H H' : Hp} {xs : List V} (k : Kp b H H') (e : H b = some (.lst xs)) : TupKeep H H' := fun c ys h => k _ _ h fun z => by
  rw [z, e] at h
  cases h
/-- all but x, an instance -/
theorem TupKeep.ins {H H' : Hp} {x C dx : Addr} {fs : List (Str × V)} (e : H x = some (.ins C dx fs)) (k : ∀ c o, c ≠ x → H c = some o → H' c = some o) : TupKeep H H' := fun c ys h => k _ _ (fun z => by rw [z, e] at h; cases h) h
/-- lines in the heap -/
def CLs (H : Hp) (r : Addr) (cls : List CL) : Prop := ∃ ps : List Addr, H r = some (.lst (ps.map V.ref)) ∧ ps.length = cls.length ∧ ∀ (i : Nat) (p : Addr) (f : CL), ps[i]? = some p → cls[i]? = some f → CLAt H p f
theorem CLs.keep {H H' : Hp} {r : Addr} {cls : List CL} (h : CLs H r cls) (k : TupKeep H H') (s : ∀ o, H r = some o → H' r = some o) : CLs H' r cls := by
  obtain ⟨ps, h1, h2, h3⟩ := h
  exact ⟨ps, s _ h1, h2, fun i p f a b => (h3 i p f a b).keep k⟩
theorem CLs.same {H H' : Hp} {r : Addr} {cls : List CL} (h : CLs H r cls) (s : Same H H') : CLs H' r cls := h.keep (.of s) (fun _ e => s _ _ e)
theorem CLs.at_ {H : Hp} {r : Addr} {cls : List CL} {i : Nat} {f : CL} (h : CLs H r cls) (e : cls[i]? = some f) : ∃ xs p, H r = some (.lst xs) ∧ xs.length = cls.length ∧ xs[i]? = some (.ref p) ∧ CLAt H p f := by
  obtain ⟨ps, h1, h2, h3⟩ := h
  have hi := (List.getElem?_eq_some_iff.mp e).1
  have hp : ps[i]? = some ps[i] := List.getElem?_eq_getElem (by omega)
  exact ⟨_, ps[i], h1, by rw [List.length_map, h2], by rw [List.getElem?_map, hp]; rfl, h3 i _ f hp e⟩
theorem CLs.len {H : Hp} {r : Addr} {cls : List CL} (h : CLs H r cls) : ∃ xs, H r = some (.lst xs) ∧ xs.length = cls.length := by
  obtain ⟨ps, h1, h2, h3⟩ := h
  exact ⟨_, h1, by rw [List.length_map, h2]⟩
theorem CLs.add {r p : Addr} {H : Hp} {cls : List CL} {f : CL} (h : CLs H r cls) (hp : CLAt H p f) : ∃ xs, H r = some (.lst xs) ∧ xs.length = cls.length ∧ CLs (upd H r (.lst (xs ++ [.ref p]))) r (cls ++ [f]) := by
  obtain ⟨ps, h1, h2, h3⟩ := h
  have k : TupKeep H (upd H r (.lst (ps.map V.ref ++ [.ref p]))) := TupKeep.put (.refl H) h1
  refine ⟨_, h1, by rw [List.length_map, h2], ps ++ [p], by rw [upd_same, List.map_append]; rfl, by simp [h2], fun i q g a b => ?_⟩
  by_cases hi : i < ps.length
  · rw [List.getElem?_append_left hi] at a
    rw [List.getElem?_append_left (by omega)] at b
    exact (h3 i q g a b).keep k
  · have hi2 : i = ps.length := by
      have := (List.getElem?_eq_some_iff.mp a).1
      simp at this
      omega
    subst hi2
    simp at a
    subst a
    rw [h2] at b
    simp at b
    subst b
    exact hp.keep k
/-- H2 has what is new in H' behind H, and what is ok, as H' has it -/
def NewK (H H' H2 : Hp) (ok : Addr → Prop) : Prop := TupKeep H' H2 ∧ ∀ c o, (H c = none ∨ ok c) → H' c = some o → H2 c = some o
theorem NewK.refl {H H' : Hp} {ok : Addr → Prop} : NewK H H' H' ok := ⟨.refl _, fun _ _ _ h => h⟩
theorem NewK.put {H H' : Hp} {ok : Addr → Prop} {r : Addr} {xs ys : List V} (e : H r = some (.lst xs)) (e2 : H' r = some (.lst xs)) (n : ¬ ok r) : NewK H H' (upd H' r (.lst ys)) ok := ⟨TupKeep.put (.refl _) e2, fun c o h1 h2 => by
  rw [upd_ne (fun z => by rw [z] at h1; exact h1.elim (fun h => by rw [e] at h; cases h) n)]
  exact h2⟩
theorem none_back {H H1 : Hp} {c : Addr} (h : ∀ o, H c = some o → H1 c = some o) (n : H1 c = none) : H c = none := by
  cases e : H c with
  | none => rfl
  | some o => rw [h o e] at n; cases n
/-- lines in a list or in a tuple -/
def CLsA (H : Hp) (r : Addr) (cls : List CL) : Prop := ∃ ps : List Addr, (H r = some (.lst (ps.map V.ref)) ∨ H r = some (.tup (ps.map V.ref))) ∧ ps.length = cls.length ∧ ∀ (i : Nat) (p : Addr) (f : CL), ps[i]? = some p → cls[i]? = some f → CLAt H p f
theorem CLs.any {H : Hp} {r : Addr} {cls : List CL} (h : CLs H r cls) : CLsA H r cls := by
  obtain ⟨ps, h1, h2, h3⟩ := h
  exact ⟨ps, .inl h1, h2, h3⟩
theorem CLsA.keep {H H' : Hp} {r : Addr} {cls : List CL} (h : CLsA H r cls) (k : TupKeep H H') (s : ∀ o, H r = some o → H' r = some o) : CLsA H' r cls := by
  obtain ⟨ps, h1, h2, h3⟩ := h
  exact ⟨ps, h1.imp (s _) (s _), h2, fun i p f a b => (h3 i p f a b).keep k⟩
theorem CLsA.same {H H' : Hp} {r : Addr} {cls : List CL} (h : CLsA H r cls) (s : Same H H') : CLsA H' r cls := h.keep (.of s) (fun _ e => s _ _ e)
theorem CLsA.seqs {H : Hp} {r : Addr} {cls : List CL} (h : CLsA H r cls) : ∃ xs, (H r = some (.lst xs) ∨ H r = some (.tup xs)) ∧ xs.length = cls.length ∧ ∀ (i : Nat) (f : CL), cls[i]? = some f → ∃ p, xs[i]? = some (.ref p) ∧ CLAt H p f := by
  obtain ⟨ps, h1, h2, h3⟩ := h
  refine ⟨_, h1, by rw [List.length_map, h2], fun i f e => ?_⟩
  have hi := (List.getElem?_eq_some_iff.mp e).1
  have hp : ps[i]? = some ps[i] := List.getElem?_eq_getElem (by omega)
  exact ⟨ps[i], by rw [List.getElem?_map, hp]; rfl, h3 i _ f hp e⟩
theorem sqa_of {K : PySem.W.Frag} {H : Hp} {r : Addr} {xs : List V} (h : H r = some (.lst xs) ∨ H r = some (.tup xs)) : SqL K H r xs ∨ SqT K H r xs := h.imp SqL.of SqT.of
/-- sizes -/
def mx (t : List Nat) : Nat := t.foldr max 0
def szC (L : Nat) : CL → Nat
  | .const v => v + 1
  | .letter => L
  | .wire _ t => mx t + 1
  | .join _ _ t => mx (t.map mx) + 1
  | .latch s _ _ => s
  | .counter p _ _ => p
def szAt (L : Nat) (cls : List CL) (i : Nat) : Nat := (cls.map (szC L)).getD i 0
def CLOk (sz : Nat → Nat) (n : Nat) : CL → Prop
  | .const v => v < 1000
  | .letter => True
  | .wire r t => r < n ∧ t.length = sz r ∧ ∀ x ∈ t, x < 1000
  | .join a b t => a < n ∧ b < n ∧ t.length = sz a ∧ ∀ row ∈ t, row.length = sz b ∧ ∀ x ∈ row, x < 1000
  | .latch s a r => 2 ≤ s ∧ s ≤ 999 ∧ a < s ∧ r < n ∧ sz r ≤ s + 1
  | .counter p a r => p ∈ PR ∧ a < p ∧ r < n
def COk (L : Nat) (cls : List CL) : Prop := ∀ (i : Nat) (f : CL), cls[i]? = some f → CLOk (szAt L cls) i f
theorem CLOk.congr {sz sz' : Nat → Nat} {n : Nat} (e : ∀ i < n, sz i = sz' i) : ∀ {f : CL}, CLOk sz n f → CLOk sz' n f
  | .const _, h => h
  | .letter, h => h
  | .wire r t, ⟨a, b, c⟩ => ⟨a, by rw [b, e _ a], c⟩
  | .join x y t, ⟨a, b, c, d⟩ => ⟨a, b, by rw [c, e _ a], fun row hr => ⟨by rw [(d row hr).1, e _ b], (d row hr).2⟩⟩
  | .latch s a r, ⟨h1, h2, h3, h4, h5⟩ => ⟨h1, h2, h3, h4, by rw [← e _ h4]; exact h5⟩
  | .counter p a r, h => h
theorem szAt_app {L : Nat} {cls c2 : List CL} {i : Nat} (h : i < cls.length) : szAt L (cls ++ c2) i = szAt L cls i := by
  unfold szAt
  rw [List.map_append, List.getD_eq_getElem?_getD, List.getD_eq_getElem?_getD, List.getElem?_append_left (by rw [List.length_map]; exact h)]
theorem szAt_of {L : Nat} {cls : List CL} {i : Nat} {f : CL} (h : cls[i]? = some f) : szAt L cls i = szC L f := by
  unfold szAt
  rw [List.getD_eq_getElem?_getD, List.getElem?_map, h]
  rfl
theorem COk.snoc {L : Nat} {cls : List CL} {f : CL} (h : COk L cls) (hf : CLOk (szAt L cls) cls.length f) : COk L (cls ++ [f]) := fun i g e => by
  by_cases hi : i < cls.length
  · rw [List.getElem?_append_left hi] at e
    exact (h i g e).congr fun j hj => (szAt_app (by omega)).symm
  · have hi2 : i = cls.length := by
      have := (List.getElem?_eq_some_iff.mp e).1
      simp at this
      omega
    subst hi2
    simp at e
    rw [← e]
    exact hf.congr fun j hj => (szAt_app hj).symm
theorem mx_ge {t : List Nat} {x : Nat} (h : x ∈ t) : x ≤ mx t := by
  induction t with
  | nil => cases h
  | cons a t ih =>
    show x ≤ max a (mx t)
    rcases List.mem_cons.mp h with rfl | h
    · omega
    · have := ih h
      omega
theorem mx_mem {t : List Nat} (h : t ≠ []) : mx t ∈ t := by
  induction t with
  | nil => exact absurd rfl h
  | cons a t ih =>
    show max a (mx t) ∈ a :: t
    by_cases e : t = []
    · subst e
      simp [mx]
    · have := ih e
      rcases Nat.le_total a (mx t) with z | z
      · rw [Nat.max_eq_right z]
        exact List.mem_cons_of_mem _ this
      · rw [Nat.max_eq_left z]
        exact List.mem_cons_self ..
theorem mx_of {t : List Nat} {m : Nat} (h : m ∈ t) (g : ∀ y ∈ t, y ≤ m) : mx t = m := by
  have a := mx_ge h
  have b := g _ (mx_mem (List.ne_nil_of_mem h))
  omega
theorem pr_range {p : Nat} (h : p ∈ PR) : 2 ≤ p ∧ p ≤ 97 := by
  unfold PR at h
  simp only [List.mem_cons, List.not_mem_nil, or_false] at h
  omega
/-- sizes are from 1 on -/
theorem COk.pos {L : Nat} {cls : List CL} (h : COk L cls) (hL : 1 ≤ L) {i : Nat} {f : CL} (e : cls[i]? = some f) : 1 ≤ szC L f := by
  have k := h i f e
  cases f with
  | const v => show 1 ≤ v + 1; omega
  | letter => exact hL
  | wire r t => show 1 ≤ mx t + 1; omega
  | join a b t => show 1 ≤ mx (t.map mx) + 1; omega
  | latch s a r => have := k.1; show 1 ≤ s; omega
  | counter p a r => have := (pr_range k.1).1; show 1 ≤ p; omega
theorem COk.posAt {L : Nat} {cls : List CL} (h : COk L cls) (hL : 1 ≤ L) {i : Nat} (hi : i < cls.length) : 1 ≤ szAt L cls i := by
  have e : cls[i]? = some cls[i] := List.getElem?_eq_getElem hi
  rw [szAt_of e]
  exact h.pos hL e
theorem mx_lt {t : List Nat} {n : Nat} (h : ∀ x ∈ t, x < n) (hn : 0 < n) : mx t < n := by
  by_cases e : t = []
  · subst e
    exact hn
  · exact h _ (mx_mem e)
theorem COk.le {L : Nat} {cls : List CL} (h : COk L cls) (hL : L ≤ 1000) {i : Nat} {f : CL} (e : cls[i]? = some f) : szC L f ≤ 1000 := by
  have k := h i f e
  cases f with
  | const v => have k : v < 1000 := k; show v + 1 ≤ 1000; omega
  | letter => exact hL
  | wire r t => have := mx_lt k.2.2 (by decide); show mx t + 1 ≤ 1000; omega
  | join a b t =>
    have : mx (t.map mx) < 1000 := mx_lt (fun x hx => by
      obtain ⟨row, hr, rfl⟩ := List.mem_map.mp hx
      exact mx_lt (k.2.2.2 row hr).2 (by decide)) (by decide)
    show mx (t.map mx) + 1 ≤ 1000
    omega
  | latch s a r => have := k.2.1; show s ≤ 1000; omega
  | counter p a r => have := (pr_range k.1).2; show p ≤ 1000; omega
theorem COk.leAt {L : Nat} {cls : List CL} (h : COk L cls) (hL : L ≤ 1000) (i : Nat) : szAt L cls i ≤ 1000 := by
  cases e : cls[i]? with
  | none =>
    unfold szAt
    rw [List.getD_eq_getElem?_getD, List.getElem?_map, e]
    exact Nat.zero_le _
  | some f =>
    rw [szAt_of e]
    exact h.le hL e
/-- refs at once, cells, looks -/
def rf1 : CL → List Nat
  | .wire r _ => [r]
  | .join a b _ => [a, b]
  | _ => []
def isCl : CL → Bool
  | .latch _ _ _ => true
  | .counter _ _ _ => true
  | _ => false
theorem CLOk.rf {sz : Nat → Nat} {n : Nat} : ∀ {f : CL}, CLOk sz n f → ∀ r ∈ rf1 f, r < n
  | .const _, _, r, h => nomatch h
  | .letter, _, r, h => nomatch h
  | .wire a t, k, r, h => by
    rw [List.mem_singleton.mp h]
    exact k.1
  | .join a b t, k, r, h => by
    simp only [rf1, List.mem_cons, List.not_mem_nil, or_false] at h
    rcases h with rfl | rfl
    · exact k.1
    · exact k.2.1
  | .latch _ _ _, _, r, h => nomatch h
  | .counter _ _ _, _, r, h => nomatch h
def lkOf (f : CL) (lk : List Bool) : Bool := match f with
  | .letter => true
  | f => (rf1 f).any fun r => lk.getD r false
def lkS (cls : List CL) : Nat → List Bool
  | 0 => []
  | k + 1 => match cls[k]? with
    | some f => lkS cls k ++ [lkOf f (lkS cls k)]
    | none => lkS cls k
theorem lkS_len {cls : List CL} : ∀ {k : Nat}, k ≤ cls.length → (lkS cls k).length = k
  | 0, _ => rfl
  | k + 1, h => by
    have ih := lkS_len (cls := cls) (k := k) (by omega)
    have e : cls[k]? = some cls[k] := List.getElem?_eq_getElem (by omega)
    unfold lkS
    rw [e]
    simp [ih]
theorem lkS_succ {cls : List CL} {k : Nat} {f : CL} (e : cls[k]? = some f) : lkS cls (k + 1) = lkS cls k ++ [lkOf f (lkS cls k)] := by
  conv => lhs; unfold lkS
  rw [e]
theorem lkS_getD {cls : List CL} {j : Nat} : ∀ {k m : Nat}, j < k → k ≤ m → m ≤ cls.length → (lkS cls m).getD j false = (lkS cls k).getD j false
  | k, 0, h1, h2, _ => by omega
  | k, m + 1, h1, h2, h3 => by
    by_cases e : k = m + 1
    · rw [e]
    · have ih := lkS_getD (cls := cls) (j := j) (k := k) (m := m) h1 (by omega) (by omega)
      rw [← ih]
      have e : cls[m]? = some cls[m] := List.getElem?_eq_getElem (by omega)
      rw [lkS_succ e, List.getD_eq_getElem?_getD, List.getElem?_append_left (by rw [lkS_len (by omega)]; omega), ← List.getD_eq_getElem?_getD]
def lkC (cls : List CL) (j : Nat) : Bool := (lkS cls cls.length).getD j false
theorem lkC_eq {cls : List CL} {j : Nat} {f : CL} {sz : Nat → Nat} (e : cls[j]? = some f) (ok : CLOk sz j f) : lkC cls j = match f with | .letter => true | f => (rf1 f).any (lkC cls) := by
  have hj := (List.getElem?_eq_some_iff.mp e).1
  unfold lkC
  rw [lkS_getD (k := j + 1) (by omega) (by omega) (Nat.le_refl _)]
  rw [lkS_succ e, List.getD_eq_getElem?_getD, List.getElem?_append_right (by rw [lkS_len (by omega)]; omega), lkS_len (by omega), Nat.sub_self]
  have any_eq : ((rf1 f).any fun r => (lkS cls j).getD r false) = (rf1 f).any fun j => (lkS cls cls.length).getD j false := by
    have h := ok.rf
    generalize rf1 f = l at *
    induction l with
    | nil => rfl
    | cons a l ih =>
      rw [List.any_cons, List.any_cons, ih (fun r hr => h r (List.mem_cons_of_mem _ hr)), lkS_getD (k := j) (h a (List.mem_cons_self ..)) (by omega) (Nat.le_refl _)]
  cases f <;> first | rfl | exact any_eq
/-- values -/
def vlOf (f : CL) (vs : Nat → Nat) (s c : Nat) : Nat := match f with
  | .const v => v
  | .letter => c
  | .wire r t => t.getD (vs r) 0
  | .join a b t => (t.getD (vs a) []).getD (vs b) 0
  | .latch _ _ _ => s
  | .counter _ _ _ => s
def vlS (cls : List CL) (st : List Nat) (c : Nat) : Nat → List Nat
  | 0 => []
  | k + 1 => match cls[k]? with
    | some f => vlS cls st c k ++ [vlOf f (fun r => (vlS cls st c k).getD r 0) (st.getD k 0) c]
    | none => vlS cls st c k
theorem vlS_len {cls : List CL} {st : List Nat} {c : Nat} : ∀ {k : Nat}, k ≤ cls.length → (vlS cls st c k).length = k
  | 0, _ => rfl
  | k + 1, h => by
    have ih := vlS_len (cls := cls) (st := st) (c := c) (k := k) (by omega)
    have e : cls[k]? = some cls[k] := List.getElem?_eq_getElem (by omega)
    unfold vlS
    rw [e]
    simp [ih]
theorem vlS_succ {cls : List CL} {st : List Nat} {c k : Nat} {f : CL} (e : cls[k]? = some f) : vlS cls st c (k + 1) = vlS cls st c k ++ [vlOf f (fun r => (vlS cls st c k).getD r 0) (st.getD k 0) c] := by
  conv => lhs; unfold vlS
  rw [e]
theorem vlS_getD {cls : List CL} {st : List Nat} {c j : Nat} : ∀ {k m : Nat}, j < k → k ≤ m → m ≤ cls.length → (vlS cls st c m).getD j 0 = (vlS cls st c k).getD j 0
  | k, 0, h1, h2, _ => by omega
  | k, m + 1, h1, h2, h3 => by
    by_cases e : k = m + 1
    · rw [e]
    · have ih := vlS_getD (cls := cls) (st := st) (c := c) (j := j) (k := k) (m := m) h1 (by omega) (by omega)
      rw [← ih]
      have e : cls[m]? = some cls[m] := List.getElem?_eq_getElem (by omega)
      rw [vlS_succ e, List.getD_eq_getElem?_getD, List.getElem?_append_left (by rw [vlS_len (by omega)]; omega), ← List.getD_eq_getElem?_getD]
def vlC (cls : List CL) (st : List Nat) (c j : Nat) : Nat := (vlS cls st c cls.length).getD j 0
theorem vlOf_congr {f : CL} {n s c : Nat} {vs vs' : Nat → Nat} {sz : Nat → Nat} (ok : CLOk sz n f) (e : ∀ j < n, vs j = vs' j) : vlOf f vs s c = vlOf f vs' s c := by
  have h := ok.rf
  cases f with
  | wire r t => show t.getD (vs r) 0 = t.getD (vs' r) 0; rw [e r (h r (by simp [rf1]))]
  | join a b t => show (t.getD (vs a) []).getD (vs b) 0 = (t.getD (vs' a) []).getD (vs' b) 0; rw [e a (h a (by simp [rf1])), e b (h b (by simp [rf1]))]
  | _ => rfl
theorem vlC_eq {cls : List CL} {st : List Nat} {c j : Nat} {f : CL} {sz : Nat → Nat} (e : cls[j]? = some f) (ok : CLOk sz j f) : vlC cls st c j = vlOf f (vlC cls st c) (st.getD j 0) c := by
  have hj := (List.getElem?_eq_some_iff.mp e).1
  unfold vlC
  rw [vlS_getD (k := j + 1) (by omega) (by omega) (Nat.le_refl _), vlS_succ e, List.getD_eq_getElem?_getD, List.getElem?_append_right (by rw [vlS_len (by omega)]; omega), vlS_len (by omega), Nat.sub_self]
  exact vlOf_congr ok fun i hi => (vlS_getD (k := j) hi (by omega) (Nat.le_refl _)).symm
/-- sides of cells within their bounds -/
def StOk (L : Nat) (cls : List CL) (st : List Nat) : Prop := st.length = cls.length ∧ ∀ (j : Nat) (f : CL), cls[j]? = some f → isCl f = true → st.getD j 0 < szC L f
theorem getD_lt {t : List Nat} {i n : Nat} (hi : i < t.length) (h : ∀ x ∈ t, x < n) : t.getD i 0 < n := by
  rw [List.getD_eq_getElem?_getD, List.getElem?_eq_getElem hi]
  exact h _ (List.getElem_mem hi)
theorem vlC_lt {L : Nat} {cls : List CL} {st : List Nat} {c : Nat} (ok : COk L cls) (hc : c < L) (so : StOk L cls st) : ∀ (j : Nat) (f : CL), cls[j]? = some f → vlC cls st c j < szC L f := by
  intro j
  induction j using Nat.strongRecOn with
  | _ j ih =>
    intro f e
    have k := ok j f e
    have hj := (List.getElem?_eq_some_iff.mp e).1
    have ih2 : ∀ r < j, vlC cls st c r < szAt L cls r := fun r hr => by
      have er : cls[r]? = some cls[r] := List.getElem?_eq_getElem (by omega)
      rw [szAt_of er]
      exact ih r hr _ er
    rw [vlC_eq e k]
    cases f with
    | const v => show v < v + 1; omega
    | letter => exact hc
    | wire r t =>
      show t.getD (vlC cls st c r) 0 < mx t + 1
      have := ih2 r k.1
      refine getD_lt (by rw [k.2.1]; exact this) fun x hx => ?_
      have := mx_ge hx
      omega
    | join a b t =>
      show (t.getD (vlC cls st c a) []).getD (vlC cls st c b) 0 < mx (t.map mx) + 1
      have ha := ih2 a k.1
      have hb := ih2 b k.2.1
      have hl : vlC cls st c a < t.length := by rw [k.2.2.1]; exact ha
      have hm : t.getD (vlC cls st c a) [] ∈ t := by
        rw [List.getD_eq_getElem?_getD, List.getElem?_eq_getElem hl]
        exact List.getElem_mem hl
      refine getD_lt (by rw [(k.2.2.2 _ hm).1]; exact hb) fun x hx => ?_
      have h1 := mx_ge hx
      have h2 : mx (t.getD (vlC cls st c a) []) ≤ mx (t.map mx) := mx_ge (List.mem_map.mpr ⟨_, hm, rfl⟩)
      omega
    | latch s a r => exact so.2 j _ e rfl
    | counter p a r => exact so.2 j _ e rfl
/-- a step of the cells -/
def stOf (f : CL) (s : Nat) (vs : Nat → Nat) : Nat := match f with
  | .latch _ _ r => if vs r = 0 then s else vs r - 1
  | .counter p _ r => (s + vs r) % p
  | _ => s
def stepC (cls : List CL) (st : List Nat) (c : Nat) : List Nat := (List.range cls.length).map fun j => match cls[j]? with | some f => stOf f (st.getD j 0) (vlC cls st c) | none => 0
theorem stepC_at {cls : List CL} {st : List Nat} {c j : Nat} {f : CL} (e : cls[j]? = some f) : (stepC cls st c).getD j 0 = stOf f (st.getD j 0) (vlC cls st c) := by
  have hj := (List.getElem?_eq_some_iff.mp e).1
  unfold stepC
  rw [List.getD_eq_getElem?_getD, List.getElem?_map, List.getElem?_range hj]
  show (match cls[j]? with | some f => _ | none => _) = _
  rw [e]
theorem stepC_len (cls : List CL) (st : List Nat) (c : Nat) : (stepC cls st c).length = cls.length := by unfold stepC; simp
theorem stepC_ok {L : Nat} {cls : List CL} {st : List Nat} {c : Nat} (ok : COk L cls) (hc : c < L) (so : StOk L cls st) : StOk L cls (stepC cls st c) := by
  refine ⟨stepC_len _ _ _, fun j f e hf => ?_⟩
  rw [stepC_at e]
  have k := ok j f e
  have hj := (List.getElem?_eq_some_iff.mp e).1
  cases f with
  | latch s a r =>
    show (if vlC cls st c r = 0 then st.getD j 0 else vlC cls st c r - 1) < s
    have hrl : r < cls.length := by have := k.2.2.2.1; omega
    have er : cls[r]? = some cls[r] := List.getElem?_eq_getElem hrl
    have h1 := vlC_lt ok hc so r _ er
    rw [← szAt_of er] at h1
    have h2 := k.2.2.2.2
    have h3 : st.getD j 0 < s := so.2 j _ e rfl
    split <;> omega
  | counter p a r =>
    show (st.getD j 0 + vlC cls st c r) % p < p
    exact Nat.mod_lt _ (by have := (pr_range k.1).1; omega)
  | const v => cases hf
  | letter => cases hf
  | wire r t => cases hf
  | join a b t => cases hf
def bgOf : CL → Nat
  | .latch _ a _ => a
  | .counter _ a _ => a
  | _ => 0
def beginC (cls : List CL) : List Nat := cls.map bgOf
theorem beginC_at {cls : List CL} {j : Nat} {f : CL} (e : cls[j]? = some f) : (beginC cls).getD j 0 = bgOf f := by
  unfold beginC
  rw [List.getD_eq_getElem?_getD, List.getElem?_map, e]
  rfl
theorem beginC_ok {L : Nat} {cls : List CL} (ok : COk L cls) : StOk L cls (beginC cls) := by
  refine ⟨by unfold beginC; simp, fun j f e hf => ?_⟩
  rw [beginC_at e]
  have k := ok j f e
  cases f with
  | latch s a r => exact k.2.2.1
  | counter p a r => exact k.2.1
  | const v => cases hf
  | letter => cases hf
  | wire r t => cases hf
  | join a b t => cases hf
/-- a word, by the indexes of its letters -/
def runC (cls : List CL) (ix : List Nat) : List Nat := ix.foldl (stepC cls) (beginC cls)
theorem runC_snoc (cls : List CL) (ix : List Nat) (c : Nat) : runC cls (ix ++ [c]) = stepC cls (runC cls ix) c := by
  unfold runC
  rw [List.foldl_append]
  rfl
theorem runC_ok {L : Nat} {cls : List CL} (ok : COk L cls) : ∀ {ix : List Nat}, (∀ c ∈ ix, c < L) → StOk L cls (runC cls ix) := by
  have h : ∀ (ix : List Nat) (st : List Nat), StOk L cls st → (∀ c ∈ ix, c < L) → StOk L cls (ix.foldl (stepC cls) st) := by
    intro ix
    induction ix with
    | nil => exact fun st h _ => h
    | cons c ix ih => exact fun st h g => ih _ (stepC_ok ok (g c (List.mem_cons_self ..)) h) fun x hx => g x (List.mem_cons_of_mem _ hx)
  exact fun {ix} g => h ix _ (beginC_ok ok) g
/-- lines that do not look have the same values at all letters -/
theorem vlC_still {L : Nat} {cls : List CL} {st : List Nat} {c d : Nat} (ok : COk L cls) : ∀ (j : Nat) (f : CL), cls[j]? = some f → lkC cls j = false → vlC cls st c j = vlC cls st d j := by
  intro j
  induction j using Nat.strongRecOn with
  | _ j ih =>
    intro f e lk
    have k := ok j f e
    have hj := (List.getElem?_eq_some_iff.mp e).1
    rw [vlC_eq e k, vlC_eq e k]
    rw [lkC_eq e k] at lk
    have hr := k.rf
    have ih2 : ∀ r, r < j → lkC cls r = false → vlC cls st c r = vlC cls st d r := fun r h h2 => ih r h _ (List.getElem?_eq_getElem (by omega)) h2
    cases f with
    | const v => rfl
    | letter => cases lk
    | wire r t =>
      have lk : ([r].any (lkC cls)) = false := lk
      show t.getD _ 0 = t.getD _ 0
      rw [ih2 r k.1 (by simpa using lk)]
    | join a b t =>
      have lk : ([a, b].any (lkC cls)) = false := lk
      have lk : lkC cls a = false ∧ lkC cls b = false := by simpa using lk
      show (t.getD _ []).getD _ 0 = (t.getD _ []).getD _ 0
      rw [ih2 a k.1 lk.1, ih2 b k.2.1 lk.2]
    | latch s a r => rfl
    | counter p a r => rfl
/-- the places of the cells -/
def clsCells (cls : List CL) : List Nat := (List.range cls.length).filter fun j => match cls[j]? with | some f => isCl f | none => false
theorem mem_cells {cls : List CL} {j : Nat} : j ∈ clsCells cls ↔ ∃ f, cls[j]? = some f ∧ isCl f = true := by
  unfold clsCells
  rw [List.mem_filter, List.mem_range]
  constructor
  · rintro ⟨hj, h⟩
    refine ⟨_, List.getElem?_eq_getElem hj, ?_⟩
    rw [List.getElem?_eq_getElem hj] at h
    exact h
  · rintro ⟨f, e, h⟩
    exact ⟨(List.getElem?_eq_some_iff.mp e).1, by rw [e]; exact h⟩

local macro_rules | `(tactic| walk_at "s2") => `(tactic| first
  | refine ⟨_, rfl, ?_⟩
  | refine ⟨_, _, rfl, rfl, ?_⟩
  | refine .inl ⟨_, rfl, ?_⟩
  | refine ⟨_, _, rfl, by assumption, ?_⟩
  | (refine And.intro ?_ ?_; focus (walk_at "side"))
  | refine iteT ?_
  | refine iteF ?_)
local macro_rules | `(tactic| walk_at "n2") => `(tactic| first
  | with_reducible refine MyP.seq_use (fun _ _ => ?_)
  | with_reducible refine MyP.SeqN.go (by assumption) ?_
  | with_reducible refine MyP.gname_use ?_
  | with_reducible refine MyP.next_use ?_
  | walk_at "s2")
local macro_rules | `(tactic| walk_at "nn2") => `(tactic| repeat walk_at "n2")

/-! ### values as data -/
mutual
theorem dp_mono {K : PySem.W.Frag} {H H' : Hp} (hs : ∀ a xs, SqL K H a xs → SqL K H' a xs) (ht : ∀ a xs, SqT K H a xs → SqT K H' a xs) : ∀ (d : PyData) (v : V), Dp K H v d → Dp K H' v d
  | .none, _, h => by cases h; exact .non
  | .bool b, _, h => by cases h; exact .bl b
  | .int i, _, h => by cases h; exact .int i
  | .str x, _, h => by cases h; exact .str x
  | .list ds, _, h => by
    cases h with
    | lst h1 h2 => exact .lst (hs _ _ h1) (dpa_mono hs ht ds _ h2)
  | .tuple ds, _, h => by
    cases h with
    | tup h1 h2 => exact .tup (ht _ _ h1) (dpa_mono hs ht ds _ h2)
  | .dict _, _, h => by cases h
theorem dpa_mono {K : PySem.W.Frag} {H H' : Hp} (hs : ∀ a xs, SqL K H a xs → SqL K H' a xs) (ht : ∀ a xs, SqT K H a xs → SqT K H' a xs) : ∀ (ds : List PyData) (vs : List V), DpAll K H vs ds → DpAll K H' vs ds
  | [], _, h => by cases h; exact .nil
  | d :: ds, _, h => by
    cases h with
    | cons a b => exact .cons (dp_mono hs ht d _ a) (dpa_mono hs ht ds _ b)
end
theorem dp_same {K : PySem.W.Frag} {H H' : Hp} {v : V} {d : PyData} (h : Dp K H v d) (s : Same H H') : Dp K H' v d := dp_mono (fun _ _ h => s.seq h) (fun _ _ h => same_tup s h) d v h
theorem dpa_same {K : PySem.W.Frag} {H H' : Hp} {vs : List V} {ds : List PyData} (h : DpAll K H vs ds) (s : Same H H') : DpAll K H' vs ds := dpa_mono (fun _ _ h => s.seq h) (fun _ _ h => same_tup s h) ds vs h
theorem dpa_len {K : PySem.W.Frag} {H : Hp} : ∀ {ds : List PyData} {vs : List V}, DpAll K H vs ds → vs.length = ds.length
  | [], _, h => by cases h; rfl
  | d :: ds, _, h => by
    cases h with
    | cons a b => rw [List.length_cons, List.length_cons, dpa_len b]
theorem dpa_app {K : PySem.W.Frag} {H : Hp} {us : List V} {es : List PyData} (h2 : DpAll K H us es) : ∀ {ds : List PyData} {vs : List V}, DpAll K H vs ds → DpAll K H (vs ++ us) (ds ++ es)
  | [], _, h => by cases h; exact h2
  | d :: ds, _, h => by
    cases h with
    | cons a b => exact .cons a (dpa_app h2 b)
theorem dpa_at {K : PySem.W.Frag} {H : Hp} : ∀ {ds : List PyData} {vs : List V} {i : Nat} {v : V}, DpAll K H vs ds → vs[i]? = some v → ∃ d, ds[i]? = some d ∧ Dp K H v d
  | [], _, _, _, h, e => by cases h; simp at e
  | d :: ds, _, 0, v, h, e => by
    cases h with
    | cons a b =>
      cases e
      exact ⟨d, rfl, a⟩
  | d :: ds, _, i + 1, v, h, e => by
    cases h with
    | cons a b =>
      have e : _ = some v := e
      exact dpa_at (ds := ds) (i := i) b e
mutual
/-- no list of five items -/
def no5 : PyData → Bool
  | .list ds => ds.length != 5 && no5All ds
  | .tuple ds => no5All ds
  | _ => true
def no5All : List PyData → Bool
  | [] => true
  | d :: ds => no5 d && no5All ds
end
mutual
theorem dp_kp {K : PySem.W.Frag} {b l : Addr} {H H' : Hp} (k : Kp b H H') (B : BagAt b l H) : ∀ (d : PyData) (v : V), no5 d = true → Dp K H v d → Dp K H' v d
  | .none, _, _, h => by cases h; exact .non
  | .bool b, _, _, h => by cases h; exact .bl b
  | .int i, _, _, h => by cases h; exact .int i
  | .str x, _, _, h => by cases h; exact .str x
  | .list ds, _, n, h => by
    cases h with
    | lst h1 h2 =>
      rename_i a xs
      have n : (ds.length != 5 && no5All ds) = true := n
      rw [Bool.and_eq_true] at n
      refine .lst ?_ (dpa_kp k B ds _ n.2 h2)
      by_cases e : a = b
      · obtain ⟨⟨i, r, m, c, ns, hb, _⟩, _⟩ := B
        have hl := dpa_len h2
        rcases h1 with (h1 | ⟨o, h1⟩) | h1
        · rw [e, hb] at h1
          cases h1
          have : ds.length = 5 := hl.symm
          rw [this] at n
          exact absurd n.1 (by decide)
        · rw [e, hb] at h1
          cases h1
        · exact .inr h1
      · exact k.seq e h1
  | .tuple ds, _, n, h => by
    cases h with
    | tup h1 h2 =>
      rename_i a xs
      refine .tup ?_ (dpa_kp k B ds _ n h2)
      obtain ⟨⟨i, r, m, c, ns, hb, _⟩, _⟩ := B
      rcases h1 with (h | ⟨o, h⟩) | h
      · exact .inl (.inl (k _ _ h fun z => by rw [z, hb] at h; cases h))
      · exact .inl (.inr ⟨o, k _ _ h fun z => by rw [z, hb] at h; cases h⟩)
      · exact .inr h
  | .dict _, _, _, h => by cases h
theorem dpa_kp {K : PySem.W.Frag} {b l : Addr} {H H' : Hp} (k : Kp b H H') (B : BagAt b l H) : ∀ (ds : List PyData) (vs : List V), no5All ds = true → DpAll K H vs ds → DpAll K H' vs ds
  | [], _, _, h => by cases h; exact .nil
  | d :: ds, _, n, h => by
    have n : (no5 d && no5All ds) = true := n
    rw [Bool.and_eq_true] at n
    cases h with
    | cons a b => exact .cons (dp_kp k B d _ n.1 a) (dpa_kp k B ds _ n.2 b)
end
def tyD : PyData → String
  | .none => "NoneType"
  | .bool _ => "bool"
  | .int _ => "int"
  | .str _ => "str"
  | .list _ => "list"
  | .tuple _ => "tuple"
  | .dict _ => "dict"
theorem dp_ty {K : PySem.W.Frag} {H : Hp} {v : V} {d : PyData} (h : Dp K H v d) : TyX K H v (.type (tyD d)) := by
  cases h with
  | non => exact .base .non
  | bl b => exact .base (.bl b)
  | int i => exact .base (.int i)
  | str x => exact .base (.str x)
  | lst h _ => exact tyx_list h
  | tup h _ => exact tyx_tup h
theorem cut_drop {xs : List V} {i : Nat} : cutV xs (some (i : Int)) none = xs.drop i := by
  unfold cutV
  rw [show HT.sIx xs.length 0 (some (i : Int)) = min i xs.length from HT.sIx_nat _ _ i, HT.sIx_none]
  rw [List.take_of_length_le (by rw [List.length_drop]; omega)]
  by_cases h : i ≤ xs.length
  · rw [Nat.min_eq_left h]
  · rw [List.drop_of_length_le (by omega), List.drop_of_length_le (by omega)]

def natD (ns : List Nat) : List PyData := ns.map fun n => .int (n : Nat)
theorem natD_dp {K : PySem.W.Frag} {H : Hp} : ∀ rs : List Nat, DpAll K H (natL rs) (natD rs)
  | [] => .nil
  | _ :: rs => .cons (.int _) (natD_dp rs)

/-! ### data: bounds, primes -/
def intD : PyData → Int
  | .int i => i
  | _ => 0
theorem inV_ints (i : Int) (l : List Int) : inV (.int i) (l.map V.int) = decide (i ∈ l) := by
  unfold inV
  rw [Bool.eq_iff_iff, List.any_map]
  simp only [List.any_eq_true, Function.comp, eqV, decide_eq_true_eq]
  constructor
  · rintro ⟨d, hd, e⟩
    have e2 : d = i := by simpa using e
    rw [← e2]
    exact hd
  · intro h
    exact ⟨i, h, by simp⟩
def belowD (n : Int) : PyData → Bool
  | .int i => decide (0 ≤ i ∧ i < n)
  | _ => false
def primeD : PyData → Bool
  | .int i => decide (i ∈ ([2, 3, 5, 7, 11, 13, 17, 19, 23, 29, 31, 37, 41, 43, 47, 53, 59, 61, 67, 71, 73, 79, 83, 89, 97] : List Int))
  | _ => false
theorem below_use {K : PySem.W.Frag} {H : Hp} {v : V} {d : PyData} {n : Int} {Q : VK} (h : Dp K H v d) (q : Q (.bl (belowD n d)) H) :
    (∃ i, v = .int i ∧ Q (.bl (decide (0 ≤ i ∧ i < n))) H) ∨ (∃ b, v = .bl b ∧ Q (.bl false) H) ∨ (NoInt K H v ∧ Q (.bl false) H) := by
  cases h with
  | non => exact .inr (.inr ⟨⟨"NoneType", .base .non, by decide +kernel⟩, q⟩)
  | bl b => exact .inr (.inl ⟨b, rfl, q⟩)
  | int i => exact .inl ⟨i, rfl, q⟩
  | str x => exact .inr (.inr ⟨⟨"str", .base (.str x), by decide +kernel⟩, q⟩)
  | lst h1 h2 => exact .inr (.inr ⟨⟨"list", tyx_list h1, by decide +kernel⟩, q⟩)
  | tup h1 h2 => exact .inr (.inr ⟨⟨"tuple", tyx_tup h1, by decide +kernel⟩, q⟩)
def spPrimeX (K : PySem.W.Frag) : Sp := fun vs H Q _ => ∃ (v : V) (d : PyData), vs = [v] ∧ Dp K H v d ∧ Q (.bl (primeD d)) H
section
variable {P : Program} {w : World} {K : PySem.W.Frag} {mg : Str → Option Value} {base : Heap}
theorem ok_is_prime (T : Env K mg) : FnOk P w K mg base CX0 2 T.f_is_prime T.fd_is_prime ["value"] (spPrimeX K) := by
  refine T.F_is_prime.ok sc_is_prime (fun vs H Q E h => ?_) (fun cdv A outer s H vs Q E hr h => ⟨_, ((pss_one (ps_ret (pe_and (pe_call (ok_is_number T) (hr.mono (by decide)) (by rfl) T.g_is_number T.F_is_number.kp T.b_is_number .nil pass0 (pa_cons (pv 0) pa_nil)) (pe_one (pe_cmpR op_in_seq (pv 0) (pe_glob (v := .ref T.r_PRIMES) (by rfl) T.gt_PRIMES rfl) (by rfl))))))), ?_⟩)
  · obtain ⟨v, d, rfl, _⟩ := h
    rfl
  · obtain ⟨v, d, rfl, hd, q⟩ := h
    walk_at "ss"
    cases hd with
    | int i =>
      refine .inl ⟨i, rfl, ?_⟩
      walk_at "ss"
      refine ite2 (fun e1 => ?_) (fun e1 => ?_)
      · walk_at "ss"
        refine ⟨_, _, rfl, .inr (T.st_PRIMES _), rfl, by decide, ?_⟩
        rw [inV_ints]
        exact q
      · have e2 : primeD (.int i) = false := decide_eq_false fun h => e1 (decide_eq_true (by
          simp only [List.mem_cons, List.not_mem_nil, or_false] at h
          omega))
        rw [e2] at q
        exact q
    | bl b =>
      refine .inr (.inl ⟨b, rfl, ?_⟩)
      walk_at "ss"
      exact q
    | non =>
      refine .inr (.inr ⟨⟨"NoneType", .base .non, by decide +kernel⟩, ?_⟩)
      walk_at "ss"
      exact q
    | str x =>
      refine .inr (.inr ⟨⟨"str", .base (.str x), by decide +kernel⟩, ?_⟩)
      walk_at "ss"
      exact q
    | lst h1 h2 =>
      refine .inr (.inr ⟨⟨"list", tyx_list h1, by decide +kernel⟩, ?_⟩)
      walk_at "ss"
      exact q
    | tup h1 h2 =>
      refine .inr (.inr ⟨⟨"tuple", tyx_tup h1, by decide +kernel⟩, ?_⟩)
      walk_at "ss"
      exact q
end
theorem pr_int {p : Nat} (h : p ∈ PR) : primeD (.int (p : Nat)) = true := by
  refine decide_eq_true ?_
  unfold PR at h
  simp only [List.mem_cons, List.not_mem_nil, or_false] at h ⊢
  omega
theorem below_nat {i n : Nat} (h : i < n) : belowD (n : Nat) (.int (i : Nat)) = true := decide_eq_true (by omega)

def spConstS : Sp := fun vs H Q _ => ∃ v : Nat, vs = [.int (v : Nat)] ∧ v < 1000 ∧ Q (.int ((v + 1 : Nat) : Int)) H
def spWireS : Sp := fun vs H Q _ => ∃ (s : Addr) (sz : List Nat) (r : Nat) (q : Addr) (t : List Nat), vs = [.ref s, .int (r : Nat), .ref q] ∧ H s = some (.lst (natL sz)) ∧ H q = some (.tup (natL t)) ∧ r < sz.length ∧ t.length = sz.getD r 0 ∧ 1 ≤ t.length ∧ t.length ≤ 1000 ∧ (∀ x ∈ t, x < 1000) ∧
  ∀ H', Same H H' → Q (.int ((mx t + 1 : Nat) : Int)) H'
def spJoinS : Sp := fun vs H Q _ => ∃ (s : Addr) (sz : List Nat) (a b : Nat) (q : Addr) (qs : List Addr) (t : List (List Nat)), vs = [.ref s, .int (a : Nat), .int (b : Nat), .ref q] ∧ H s = some (.lst (natL sz)) ∧ H q = some (.tup (qs.map V.ref)) ∧ RowsAt H qs t ∧ a < sz.length ∧ b < sz.length ∧
  t.length = sz.getD a 0 ∧ (∀ row ∈ t, row.length = sz.getD b 0 ∧ ∀ x ∈ row, x < 1000) ∧ 1 ≤ t.length ∧ t.length ≤ 1000 ∧ 1 ≤ sz.getD b 0 ∧ sz.getD b 0 ≤ 1000 ∧ ∀ H', Same H H' → Q (.int ((mx (t.map mx) + 1 : Nat) : Int)) H'
def spLatchS : Sp := fun vs H Q _ => ∃ (s : Addr) (sz : List Nat) (n a r : Nat), vs = [.ref s, .int (n : Nat), .int (a : Nat), .int (r : Nat)] ∧ H s = some (.lst (natL sz)) ∧ 2 ≤ n ∧ n ≤ 999 ∧ a < n ∧ r < sz.length ∧ sz.getD r 0 ≤ n + 1 ∧ Q (.int (n : Nat)) H
def spCounterS : Sp := fun vs H Q _ => ∃ (s : Addr) (sz : List Nat) (p a r : Nat), vs = [.ref s, .int (p : Nat), .int (a : Nat), .int (r : Nat)] ∧ H s = some (.lst (natL sz)) ∧ p ∈ PR ∧ a < p ∧ r < sz.length ∧ Q (.int (p : Nat)) H
/-- the size of a good line -/
def spSizeB : Sp := fun vs H Q _ => ∃ (s p : Addr) (sz : List Nat) (L : Nat) (f : CL), vs = [.ref s, .ref p, .int (L : Nat)] ∧ H s = some (.lst (natL sz)) ∧ CLAt H p f ∧ CLOk (fun i => sz.getD i 0) sz.length f ∧ (∀ i < sz.length, 1 ≤ sz.getD i 0 ∧ sz.getD i 0 ≤ 1000) ∧ ∀ H', Same H H' → Q (.int (szC L f : Nat)) H'
theorem natI_at {t : List Nat} {i : Nat} {x : V} (h : (natL t)[i]? = some x) : ∃ r, t[i]? = some r ∧ x = .int (r : Nat) := by
  unfold natL at h
  rw [List.getElem?_map] at h
  cases hr : t[i]? with
  | none => rw [hr] at h; cases h
  | some r =>
    rw [hr] at h
    exact ⟨r, rfl, (Option.some.inj h).symm⟩
theorem all_trueC {n : Nat} {ys : List V} (hl : ys.length = n) (h : ∀ (i : Nat) (y : V), ys[i]? = some y → y = .bl true) : ys = (List.replicate n true).map V.bl := by
  apply List.ext_getElem (by simp [hl])
  intro i h1 h2
  rw [h i _ (List.getElem?_eq_getElem h1)]
  simp
theorem natL_int (t : List Nat) : natL t = (t.map fun n : Nat => (n : Int)).map V.int := by unfold natL; rw [List.map_map]; rfl
/-- max of numbers, as mx -/
theorem mx_int {t : List Nat} {m : Int} (h : m ∈ t.map fun n : Nat => (n : Int)) (g : ∀ y ∈ t.map fun n : Nat => (n : Int), y ≤ m) : m = (mx t : Nat) := by
  obtain ⟨x, hx, rfl⟩ := List.mem_map.mp h
  rw [mx_of hx fun y hy => by have := g _ (List.mem_map.mpr ⟨y, hy, rfl⟩); omega]
/-! ### what cannot be a table, a line's size -/
theorem natD_len (t : List Nat) : (natD t).length = t.length := by unfold natD; rw [List.length_map]
def tableD (n : Int) : PyData → Bool
  | .tuple ds => decide ((ds.length : Int) = n) && ds.all (belowD 1000)
  | _ => false
def joinD (na nb : Int) : PyData → Bool
  | .tuple ds => decide ((ds.length : Int) = na) && ds.all (tableD nb)
  | _ => false
theorem table_nat {t : List Nat} (h : ∀ x ∈ t, x < 1000) : tableD (t.length : Nat) (.tuple (natD t)) = true := by
  show (decide _ && _) = true
  rw [natD_len, decide_eq_true rfl, Bool.true_and, List.all_eq_true]
  intro d hd
  obtain ⟨n, hn, rfl⟩ := List.mem_map.mp hd
  exact decide_eq_true (by have := h n hn; omega)
/-- one promise or the other -/
theorem fnok_or {P : Program} {w : World} {K : PySem.W.Frag} {mg : Str → Option Value} {base : Heap} {CX : CXT} {k : Nat} {f : Addr} {fd : FuncData} {ps : List Str} {sp1 sp2 : Sp} (F : FnOk P w K mg base CX k f fd ps sp1) (G : FnOk P w K mg base CX k f fd ps sp2) :
    FnOk P w K mg base CX k f fd ps (fun vs H Q E => sp1 vs H Q E ∨ sp2 vs H Q E) :=
  ⟨fun vs H Q E h => h.elim (F.len vs H Q E) (G.len vs H Q E), fun A outer s H args us vs Q E hr he hb hv h => h.elim (F.run A outer s H args us vs Q E hr he hb hv) (G.run A outer s H args us vs Q E hr he hb hv)⟩
def Small (d : PyData) : Prop := (∀ ds, d = .tuple ds → ds.length ≤ 1000)
def spTableX (K : PySem.W.Frag) : Sp := fun vs H Q _ => ∃ (v : V) (d : PyData) (n : Int), vs = [v, .int n] ∧ Dp K H v d ∧ Small d ∧ ∀ H', Same H H' → Q (.bl (tableD n d)) H'
def spConstB (K : PySem.W.Frag) : Sp := fun vs H Q _ => ∃ (v : V) (d : PyData), vs = [v] ∧ Dp K H v d ∧ belowD 1000 d = false ∧ Q .non H
def spWireB (K : PySem.W.Frag) : Sp := fun vs H Q _ => ∃ (s : Addr) (sz : List Nat) (v u : V) (d e : PyData), vs = [.ref s, v, u] ∧ H s = some (.lst (natL sz)) ∧ Dp K H v d ∧ Dp K H u e ∧ Small e ∧ (belowD (sz.length : Nat) d && tableD (sz.getD (intD d).toNat 0 : Nat) e) = false ∧ ∀ H', Same H H' → Q .non H'
def spJoinB (K : PySem.W.Frag) : Sp := fun vs H Q _ => ∃ (s : Addr) (sz : List Nat) (v1 v2 u : V) (d1 d2 e : PyData), vs = [.ref s, v1, v2, u] ∧ H s = some (.lst (natL sz)) ∧ Dp K H v1 d1 ∧ Dp K H v2 d2 ∧ Dp K H u e ∧ Small e ∧ (∀ ds, e = .tuple ds → ∀ d ∈ ds, Small d) ∧
  (belowD (sz.length : Nat) d1 && (belowD (sz.length : Nat) d2 && joinD (sz.getD (intD d1).toNat 0 : Nat) (sz.getD (intD d2).toNat 0 : Nat) e)) = false ∧ ∀ H', Same H H' → Q .non H'
def spLatchB (K : PySem.W.Frag) : Sp := fun vs H Q _ => ∃ (s : Addr) (sz : List Nat) (v1 v2 v3 : V) (d1 d2 d3 : PyData), vs = [.ref s, v1, v2, v3] ∧ H s = some (.lst (natL sz)) ∧ Dp K H v1 d1 ∧ Dp K H v2 d2 ∧ Dp K H v3 d3 ∧
  (belowD 1000 d1 && (decide (2 ≤ intD d1) && (belowD (intD d1) d2 && (belowD (sz.length : Nat) d3 && decide (((sz.getD (intD d3).toNat 0 : Nat) : Int) ≤ intD d1 + 1))))) = false ∧ Q .non H
def spCounterB (K : PySem.W.Frag) : Sp := fun vs H Q _ => ∃ (s : Addr) (sz : List Nat) (v1 v2 v3 : V) (d1 d2 d3 : PyData), vs = [.ref s, v1, v2, v3] ∧ H s = some (.lst (natL sz)) ∧ Dp K H v1 d1 ∧ Dp K H v2 d2 ∧ Dp K H v3 d3 ∧
  (primeD d1 && (belowD (intD d1) d2 && belowD (sz.length : Nat) d3)) = false ∧ Q .non H
theorem below_ways {K : PySem.W.Frag} {H : Hp} {v : V} {d : PyData} {n : Int} (h : Dp K H v d) : (∃ i, v = .int i ∧ d = .int i ∧ belowD n d = decide (0 ≤ i ∧ i < n)) ∨ (∃ b, v = .bl b ∧ belowD n d = false) ∨ (NoInt K H v ∧ belowD n d = false) := by
  cases h with
  | non => exact .inr (.inr ⟨⟨"NoneType", .base .non, by decide +kernel⟩, rfl⟩)
  | bl b => exact .inr (.inl ⟨b, rfl, rfl⟩)
  | int i => exact .inl ⟨i, rfl, rfl, rfl⟩
  | str x => exact .inr (.inr ⟨⟨"str", .base (.str x), by decide +kernel⟩, rfl⟩)
  | lst h1 h2 => exact .inr (.inr ⟨⟨"list", tyx_list h1, by decide +kernel⟩, rfl⟩)
  | tup h1 h2 => exact .inr (.inr ⟨⟨"tuple", tyx_tup h1, by decide +kernel⟩, rfl⟩)
theorem below_go {K : PySem.W.Frag} {H : Hp} {v : V} {d : PyData} (n : Int) (h : Dp K H v d) : (∃ j : Nat, v = .int (j : Nat) ∧ d = .int (j : Nat) ∧ (j : Int) < n ∧ belowD n d = true) ∨
    (belowD n d = false ∧ ((∃ i, v = .int i ∧ ¬ (0 ≤ i ∧ i < n)) ∨ (∃ b, v = .bl b) ∨ NoInt K H v)) := by
  rcases below_ways (n := n) h with ⟨i, rfl, rfl, e⟩ | ⟨b, rfl, e⟩ | ⟨hn, e⟩
  · by_cases hi : 0 ≤ i ∧ i < n
    · obtain ⟨j, rfl⟩ : ∃ j : Nat, i = (j : Int) := ⟨i.toNat, by omega⟩
      exact .inl ⟨j, rfl, rfl, hi.2, by rw [e, decide_eq_true hi]⟩
    · exact .inr ⟨by rw [e, decide_eq_false hi], .inl ⟨i, rfl, hi⟩⟩
  · exact .inr ⟨e, .inr (.inl ⟨b, rfl⟩)⟩
  · exact .inr ⟨e, .inr (.inr hn)⟩
theorem many_ix {m : Nat} (h : m ≤ 4) (h1 : 1 ≤ m) : ¬ (HT.sIx m 0 (some 1) = 0 ∧ HT.sIx m m none = m) := by
  have : m = 1 ∨ m = 2 ∨ m = 3 ∨ m = 4 := by omega
  rcases this with rfl | rfl | rfl | rfl <;> decide
theorem cut_one {x : V} {xr : List V} : cutV (x :: xr) (some 1) none = xr := by
  show cutV (x :: xr) (some ((1 : Nat) : Int)) none = _
  rw [cut_drop]
  rfl
/-- a line that cannot stand behind lines of the sizes sz -/
inductive BadD (sz : List Nat) : PyData → Prop
  | nt {d : PyData} (h : ∀ ds, d ≠ .tuple ds) : BadD sz d
  | nil : BadD sz (.tuple [])
  | kn {ps : List PyData} (hl : ps.length ≤ 3) : BadD sz (.tuple (.none :: ps))
  | ks {k : Str} {ps : List PyData} (hk : k = "Letter" ∨ k = "before") (hl : ps.length ≤ 3) : BadD sz (.tuple (.str k :: ps))
  | constL {ps : List PyData} (h : ps.length ≠ 1) (hl : ps.length ≤ 3) : BadD sz (.tuple (.str "const" :: ps))
  | const {d : PyData} (h : belowD 1000 d = false) : BadD sz (.tuple [.str "const", d])
  | letterL {ps : List PyData} (h : ps.length ≠ 0) (hl : ps.length ≤ 3) : BadD sz (.tuple (.str "letter" :: ps))
  | wireL {ps : List PyData} (h : ps.length ≠ 2) (hl : ps.length ≤ 3) : BadD sz (.tuple (.str "wire" :: ps))
  | wire {d e : PyData} (sm : Small e) (h : (belowD (sz.length : Nat) d && tableD (sz.getD (intD d).toNat 0 : Nat) e) = false) : BadD sz (.tuple [.str "wire", d, e])
  | joinL {ps : List PyData} (h : ps.length ≠ 3) (hl : ps.length ≤ 3) : BadD sz (.tuple (.str "join" :: ps))
  | join {d1 d2 e : PyData} (sm : Small e) (sms : ∀ ds, e = .tuple ds → ∀ d ∈ ds, Small d) (h : (belowD (sz.length : Nat) d1 && (belowD (sz.length : Nat) d2 && joinD (sz.getD (intD d1).toNat 0 : Nat) (sz.getD (intD d2).toNat 0 : Nat) e)) = false) : BadD sz (.tuple [.str "join", d1, d2, e])
  | latch {d1 d2 d3 : PyData} (h : (belowD 1000 d1 && (decide (2 ≤ intD d1) && (belowD (intD d1) d2 && (belowD (sz.length : Nat) d3 && decide (((sz.getD (intD d3).toNat 0 : Nat) : Int) ≤ intD d1 + 1))))) = false) : BadD sz (.tuple [.str "latch", d1, d2, d3])
  | counterL {ps : List PyData} (h : ps.length ≠ 3) (hl : ps.length ≤ 3) : BadD sz (.tuple (.str "counter" :: ps))
  | counter {d1 d2 d3 : PyData} (h : (primeD d1 && (belowD (intD d1) d2 && belowD (sz.length : Nat) d3)) = false) : BadD sz (.tuple [.str "counter", d1, d2, d3])
def spSizeBad (K : PySem.W.Frag) : Sp := fun vs H Q _ => ∃ (s : Addr) (v : V) (sz : List Nat) (L : Int) (d : PyData), vs = [.ref s, v, .int L] ∧ H s = some (.lst (natL sz)) ∧ Dp K H v d ∧ BadD sz d ∧ ∀ H', Same H H' → Q .non H'
section
variable {P : Program} {w : World} {K : PySem.W.Frag} {mg : Str → Option Value} {base : Heap}
theorem ok_is_table (T : Env K mg) : FnOk P w K mg base CX0 3 T.f_is_table T.fd_is_table ["value", "length"] (spTableX K) := by
  refine T.F_is_table.ok sc_is_table (fun vs H Q E h => ?_) (fun cdv A outer s H vs Q E hr h => ⟨_, ((pss_one (ps_ret (pe_and (pe_callB call_isi (by rfl) T.z_isinstance (by decide +kernel) (pa_cons (pv 0) (pa_cons (pe_bltn (v := .ty "tuple") (by rfl) T.z_tuple (by decide +kernel) rfl) pa_nil))) (pe_and (pe_cmpR op_eq (pe_callB call_len_seq (by rfl) T.z_len (by decide +kernel) (pa_cons (pv 0) pa_nil)) (pv 1) (nomark _)) (pe_one (pe_callB (cr_all rfl) (by rfl) T.z_all (by decide +kernel) (pa_cons (pe_lc (own := [("item", 2)]) (g := (gName 2)) (tt := tYes) rfl sc_is_table.nd (pi_tup (pv 0)) (blkOk_by (own := [("item", 2)]) (N := N_is_table) (sc := defScope s_is_table) (by decide +kernel)) (fun _ _ _ _ _ => (pg_name (i := 2) sc_is_table.nd rfl (.inl rfl))) (fun _ _ _ _ _ => pts_nil) (fun _ _ _ _ _ => (pe_call (ok_is_below T) (hr.mono (by decide)) (by rfl) T.g_is_below T.F_is_below.kp T.b_is_below .nil pass0 (pa_cons (pv 2) (pa_cons (pe_glob (v := .int 1000) (by rfl) T.c_VALUES ⟨_, rfl⟩) pa_nil))))) pa_nil)))))))), ?_⟩)
  · obtain ⟨v, d, n, rfl, _⟩ := h
    rfl
  · obtain ⟨v, d, n, rfl, hd, hl, q⟩ := h
    cases hd with
    | non =>
      walk_at "ssi"
      exact q _ (Same.refl _)
    | bl b =>
      walk_at "ssi"
      exact q _ (Same.refl _)
    | int i =>
      walk_at "ssi"
      exact q _ (Same.refl _)
    | str x =>
      walk_at "ssi"
      exact q _ (Same.refl _)
    | lst h1 h2 =>
      have ty := tyx_list h1
      walk_at "ssi"
      exact q _ (Same.refl _)
    | tup h1 h2 =>
      rename_i p xs ds
      have ty := tyx_tup h1
      have xl := dpa_len h2
      have d1 := hl ds rfl
      walk_at "ssi"
      refine ⟨p, _, rfl, .inr h1, ?_⟩
      rw [xl]
      walk_at "ss"
      refine ite2 (fun e => ?_) (fun e => ?_)
      · have e2 : decide ((ds.length : Int) = n) = true := by
          simpa using e
        have q : ∀ H', Same H H' → Q (.bl (ds.all (belowD 1000))) H' := fun H' s => by
          have this : Q (.bl (decide ((ds.length : Int) = n) && ds.all (belowD 1000))) H' := q H' s
          rw [e2, Bool.true_and] at this
          exact this
        walk_at "ss"
        refine ⟨⟨_, h1⟩, ?_⟩
        intro D hD
        refine lc_gen walk_tup (fun H' => Same H H') (fun i y => ∃ d, ds[i]? = some d ∧ y = V.bl (belowD 1000 d)) (by omega) (same_upd hD) (fun _ h => same_tup h h1) (fun _ _ h => same_mut h hD) ?_ ?_
        · rintro i x H1 H2 Q1 hlt2 hI ⟨rfl, hx⟩ - hQ
          obtain ⟨d, hd1, hd2⟩ := dpa_at h2 hx
          walk_at "ss"
          refine ⟨x, 1000, rfl, below_use (dp_same hd2 hI) ?_⟩
          exact hQ _ _ ⟨d, hd1, rfl⟩ hI fun _ h => h
        · intro H1 ys hI hy hl1 hr1
          have e : ys = (ds.map (belowD 1000)).map V.bl := by
            rw [List.map_map]
            exact ys_map (by omega) hr1
          subst e
          walk_at "ss"
          refine ⟨D, _, rfl, SqL.of hy, ?_⟩
          rw [show (ds.map (belowD 1000)).all id = ds.all (belowD 1000) by rw [List.all_map]; rfl]
          exact q _ hI
      · have e2 : decide ((ds.length : Int) = n) = false := by
          simpa using e
        have q : Q (.bl (decide ((ds.length : Int) = n) && ds.all (belowD 1000))) H := q H (Same.refl _)
        rw [e2, Bool.false_and] at q
        exact q
theorem good_const_size (T : Env K mg) : FnOk P w K mg base CX0 3 T.f_const_size T.fd_const_size ["worth"] spConstS := by
  refine T.F_const_size.ok sc_const_size (fun vs H Q E h => ?_) (fun cdv A outer s H vs Q E hr h => ⟨_, ((pss_one (ps_ret (pe_ifExp (pt_val (pe_call (ok_is_below T) (hr.mono (by decide)) (by rfl) T.g_is_below T.F_is_below.kp T.b_is_below .nil pass0 (pa_cons (pv 0) (pa_cons (pe_glob (v := .int 1000) (by rfl) T.c_VALUES ⟨_, rfl⟩) pa_nil)))) (pe_op op_add (pv 0) pe_int) pe_non)))), ?_⟩)
  · obtain ⟨v, rfl, _⟩ := h
    rfl
  · obtain ⟨v, rfl, hv, q⟩ := h
    walk_at "ss"
    refine ⟨_, 1000, rfl, .inl ⟨(v : Nat), rfl, ?_⟩⟩
    rw [decide_eq_true (by omega)]
    walk_at "ss"
    exact q
theorem good_wire_size (T : Env K mg) : FnOk P w K mg base CX0 4 T.f_wire_size T.fd_wire_size ["sizes", "ref", "table"] spWireS := by
  refine T.F_wire_size.ok sc_wire_size (fun vs H Q E h => ?_) (fun cdv A outer s H vs Q E hr h => ⟨_, ((pss_cons (ps_if (PW.pt (pw_or (pt_not (pt_val (pe_call (ok_is_below T) (hr.mono (by decide)) (by rfl) T.g_is_below T.F_is_below.kp T.b_is_below .nil pass0 (pa_cons (pv 1) (pa_cons (pe_callB call_len_seq (by rfl) T.z_len (by decide +kernel) (pa_cons (pv 0) pa_nil)) pa_nil))))) (pw_or1 (pt_not (pt_val (pe_call (ok_is_table T) (hr.mono (by decide)) (by rfl) T.g_is_table T.F_is_table.kp T.b_is_table .nil pass0 (pa_cons (pv 2) (pa_cons (pe_ix ix_list (pv 0) (pv 1) (fun _ _ => rfl)) pa_nil))))))))
      (pss_one (ps_ret pe_non))
      pss_nil)
      (pss_one (ps_ret (pe_op op_add (pe_callB (cr_maxT rfl) (by rfl) T.z_max (by decide +kernel) (pa_cons (pv 2) pa_nil)) pe_int))))), ?_⟩)
  · obtain ⟨s, sz, r, q0, t, rfl, _⟩ := h
    rfl
  · obtain ⟨s, sz, r, q0, t, rfl, hs, hq, hr1, ht, h1, h2, hx, q⟩ := h
    walk_at "ss"
    refine ⟨s, _, rfl, .inl (SqL.of hs), ?_⟩
    rw [natL_len]
    walk_at "ss"
    refine ⟨_, _, rfl, .inl ⟨_, rfl, ?_⟩⟩
    rw [decide_eq_true (by omega)]
    walk_at "ss"
    refine ⟨s, _, _, _, rfl, rfl, SqL.of hs, atI_nat (natL_at hr1), ?_⟩
    rw [← ht]
    refine ⟨_, .tuple (natD t), _, rfl, .tup (SqT.of hq) (natD_dp t), fun ds e => by cases e; rw [natD_len]; exact h2, fun H1 s1 => ?_⟩
    rw [table_nat hx]
    walk_at "ss"
    refine ⟨q0, t.map fun n : Nat => (n : Int), rfl, by rw [← natL_int]; exact SqT.of (s1 _ _ hq), by rw [List.length_map]; omega, fun m hm hg => ?_⟩
    rw [mx_int hm hg]
    walk_at "ss"
    exact q _ s1
theorem good_latch_size (T : Env K mg) : FnOk P w K mg base CX0 3 T.f_latch_size T.fd_latch_size ["sizes", "sides", "start", "ref"] spLatchS := by
  refine T.F_latch_size.ok sc_latch_size (fun vs H Q E h => ?_) (fun cdv A outer s H vs Q E hr h => ⟨_, ((pss_cons (ps_if (PW.pt (pw_or (pt_not (pt_val (pe_call (ok_is_below T) (hr.mono (by decide)) (by rfl) T.g_is_below T.F_is_below.kp T.b_is_below .nil pass0 (pa_cons (pv 1) (pa_cons (pe_op op_add (pe_glob (v := .int 999) (by rfl) T.c_MOST_SIDES ⟨_, rfl⟩) pe_int) pa_nil))))) (pw_or1 (pt_cmpR op_lt (pv 1) (pe_glob (v := .int 2) (by rfl) T.c_FEWEST_SIDES ⟨_, rfl⟩) (nomark _)))))
      (pss_one (ps_ret pe_non))
      pss_nil)
      (pss_cons (ps_if (PW.pt (pw_or (pt_not (pt_val (pe_call (ok_is_below T) (hr.mono (by decide)) (by rfl) T.g_is_below T.F_is_below.kp T.b_is_below .nil pass0 (pa_cons (pv 2) (pa_cons (pv 1) pa_nil))))) (pw_or1 (pt_not (pt_val (pe_call (ok_is_below T) (hr.mono (by decide)) (by rfl) T.g_is_below T.F_is_below.kp T.b_is_below .nil pass0 (pa_cons (pv 3) (pa_cons (pe_callB call_len_seq (by rfl) T.z_len (by decide +kernel) (pa_cons (pv 0) pa_nil)) pa_nil))))))))
      (pss_one (ps_ret pe_non))
      pss_nil)
      (pss_one (ps_ret (pe_ifExp (pt_cmpR op_le (pe_ix ix_list (pv 0) (pv 3) (fun _ _ => rfl)) (pe_op op_add (pv 1) pe_int) (nomark _)) (pv 1) pe_non)))))), ?_⟩)
  · obtain ⟨s, sz, n, a, r, rfl, _⟩ := h
    rfl
  · obtain ⟨s, sz, n, a, r, rfl, hs, n2, n9, han, hr1, hr2, q⟩ := h
    walk_at "ss"
    refine ⟨_, _, rfl, .inl ⟨_, rfl, ?_⟩⟩
    rw [decide_eq_true (by omega)]
    walk_at "ss"
    refine iteN (by simp only [decide_eq_true_eq]; omega) ?_
    walk_at "ss"
    refine ⟨_, _, rfl, .inl ⟨_, rfl, ?_⟩⟩
    rw [decide_eq_true (by omega)]
    walk_at "ss"
    refine ⟨s, _, rfl, .inl (SqL.of hs), ?_⟩
    rw [natL_len]
    walk_at "ss"
    refine ⟨_, _, rfl, .inl ⟨_, rfl, ?_⟩⟩
    rw [decide_eq_true (by omega)]
    walk_at "ss"
    refine ⟨s, _, _, _, rfl, rfl, SqL.of hs, atI_nat (natL_at hr1), ?_⟩
    walk_at "ss"
    refine iteP (by simp only [decide_eq_true_eq]; omega) ?_
    walk_at "ss"
    exact q
theorem good_counter_size (T : Env K mg) : FnOk P w K mg base CX0 3 T.f_counter_size T.fd_counter_size ["sizes", "prime", "start", "ref"] spCounterS := by
  refine T.F_counter_size.ok sc_counter_size (fun vs H Q E h => ?_) (fun cdv A outer s H vs Q E hr h => ⟨_, ((pss_cons (ps_if (PW.pt (pw_or (pt_not (pt_val (pe_call (ok_is_prime T) (hr.mono (by decide)) (by rfl) T.g_is_prime T.F_is_prime.kp T.b_is_prime .nil pass0 (pa_cons (pv 1) pa_nil)))) (pw_or (pt_not (pt_val (pe_call (ok_is_below T) (hr.mono (by decide)) (by rfl) T.g_is_below T.F_is_below.kp T.b_is_below .nil pass0 (pa_cons (pv 2) (pa_cons (pv 1) pa_nil))))) (pw_or1 (pt_not (pt_val (pe_call (ok_is_below T) (hr.mono (by decide)) (by rfl) T.g_is_below T.F_is_below.kp T.b_is_below .nil pass0 (pa_cons (pv 3) (pa_cons (pe_callB call_len_seq (by rfl) T.z_len (by decide +kernel) (pa_cons (pv 0) pa_nil)) pa_nil)))))))))
      (pss_one (ps_ret pe_non))
      pss_nil)
      (pss_one (ps_ret (pv 1))))), ?_⟩)
  · obtain ⟨s, sz, p, a, r, rfl, _⟩ := h
    rfl
  · obtain ⟨s, sz, p, a, r, rfl, hs, hp, hap, hr1, q⟩ := h
    walk_at "ss"
    refine ⟨_, .int (p : Nat), rfl, .int _, ?_⟩
    rw [pr_int hp]
    walk_at "ss"
    refine ⟨_, _, rfl, .inl ⟨_, rfl, ?_⟩⟩
    rw [decide_eq_true (by omega)]
    walk_at "ss"
    refine ⟨s, _, rfl, .inl (SqL.of hs), ?_⟩
    rw [natL_len]
    walk_at "ss"
    refine ⟨_, _, rfl, .inl ⟨_, rfl, ?_⟩⟩
    rw [decide_eq_true (by omega)]
    walk_at "ss"
    exact q
theorem good_join_size (T : Env K mg) : FnOk P w K mg base CX0 4 T.f_join_size T.fd_join_size ["sizes", "ref", "other", "table"] spJoinS := by
  refine T.F_join_size.ok sc_join_size (fun vs H Q E h => ?_) (fun cdv A outer s H vs Q E hr h => ⟨_, ((pss_cons (ps_if (PW.pt (pw_or (pt_not (pt_val (pe_call (ok_is_below T) (hr.mono (by decide)) (by rfl) T.g_is_below T.F_is_below.kp T.b_is_below .nil pass0 (pa_cons (pv 1) (pa_cons (pe_callB call_len_seq (by rfl) T.z_len (by decide +kernel) (pa_cons (pv 0) pa_nil)) pa_nil))))) (pw_or1 (pt_not (pt_val (pe_call (ok_is_below T) (hr.mono (by decide)) (by rfl) T.g_is_below T.F_is_below.kp T.b_is_below .nil pass0 (pa_cons (pv 2) (pa_cons (pe_callB call_len_seq (by rfl) T.z_len (by decide +kernel) (pa_cons (pv 0) pa_nil)) pa_nil))))))))
      (pss_one (ps_ret pe_non))
      pss_nil)
      (pss_cons (ps_if (PW.pt (pw_or (pt_not (pt_val (pe_callB call_isi (by rfl) T.z_isinstance (by decide +kernel) (pa_cons (pv 3) (pa_cons (pe_bltn (v := .ty "tuple") (by rfl) T.z_tuple (by decide +kernel) rfl) pa_nil))))) (pw_or1 (pt_cmpR op_ne (pe_callB call_len_seq (by rfl) T.z_len (by decide +kernel) (pa_cons (pv 3) pa_nil)) (pe_ix ix_list (pv 0) (pv 1) (fun _ _ => rfl)) (nomark _)))))
      (pss_one (ps_ret pe_non))
      pss_nil)
      (pss_cons (ps_if (pt_not (pt_val (pe_callB (cr_all rfl) (by rfl) T.z_all (by decide +kernel) (pa_cons (pe_lc (own := [("row", 4)]) (g := (gName 4)) (tt := tYes) (te := (tCall _ _ _ (tCons _ (tCons (tOp (rIxL K) _ _) tNil)))) rfl sc_join_size.nd (pi_tup (pv 3)) (blkOk_by (own := [("row", 4)]) (N := N_join_size) (sc := defScope s_join_size) (by decide +kernel)) (fun _ _ _ _ _ => (pg_name (i := 4) sc_join_size.nd rfl (.inl rfl))) (fun _ _ _ _ _ => pts_nil) (fun _ _ _ _ _ => (pe_call (ok_is_table T) (hr.mono (by decide)) (by rfl) T.g_is_table T.F_is_table.kp T.b_is_table .nil pass0 (pa_cons (pv 4) (pa_cons (pe_ix ix_list (pv 0) (pv 2) (fun _ _ => rfl)) pa_nil))))) pa_nil))))
      (pss_one (ps_ret pe_non))
      pss_nil)
      (pss_one (ps_ret (pe_op op_add (pe_callB (cr_max rfl) (by rfl) T.z_max (by decide +kernel) (pa_cons (pe_lc (own := [("row", 4)]) (g := (gName 4)) (tt := tYes) (te := (tCB (rMaxT K) _)) rfl sc_join_size.nd (pi_tup (pv 3)) (blkOk_by (own := [("row", 4)]) (N := N_join_size) (sc := defScope s_join_size) (by decide +kernel)) (fun _ _ _ _ _ => (pg_name (i := 4) sc_join_size.nd rfl (.inl rfl))) (fun _ _ _ _ _ => pts_nil) (fun _ _ _ _ _ => (pe_callB (cr_maxT rfl) (by rfl) T.z_max (by decide +kernel) (pa_cons (pv 4) pa_nil)))) pa_nil)) pe_int))))))), ?_⟩)
  · obtain ⟨s, sz, a, b, q0, qs, t, rfl, _⟩ := h
    rfl
  · obtain ⟨s, sz, a, b, q0, qs, t, rfl, hs, hq, hR, ha, hb, ht, hrow, t1, t2, b1, b2, q⟩ := h
    have ty := tyx_tup (K := K) (SqT.of hq)
    have ql : (qs.map V.ref).length = t.length := by rw [List.length_map, hR.1]
    have q_at : ∀ {i : Nat} {x : V}, (qs.map V.ref)[i]? = some x → ∃ p row, qs[i]? = some p ∧ x = .ref p ∧ t[i]? = some row := fun {i x} h => by
      rw [List.getElem?_map] at h
      cases hr : qs[i]? with
      | none => rw [hr] at h; cases h
      | some p =>
        rw [hr] at h
        have := (List.getElem?_eq_some_iff.mp hr).1
        exact ⟨p, _, rfl, (Option.some.inj h).symm, List.getElem?_eq_getElem (by rw [← hR.1]; exact this)⟩
    walk_at "ss"
    refine ⟨s, _, rfl, .inl (SqL.of hs), ?_⟩
    rw [natL_len]
    walk_at "ss"
    refine ⟨_, _, rfl, .inl ⟨_, rfl, ?_⟩⟩
    rw [decide_eq_true (by omega)]
    walk_at "ss"
    refine ⟨s, _, rfl, .inl (SqL.of hs), ?_⟩
    rw [natL_len]
    walk_at "ss"
    refine ⟨_, _, rfl, .inl ⟨_, rfl, ?_⟩⟩
    rw [decide_eq_true (by omega)]
    walk_at "ssi"
    refine ⟨q0, _, rfl, .inr (SqT.of hq), ?_⟩
    rw [ql]
    walk_at "ss"
    refine ⟨s, _, _, _, rfl, rfl, SqL.of hs, atI_nat (natL_at ha), ?_⟩
    rw [← ht]
    walk_at "ss"
    refine iteN (by simp) ?_
    walk_at "ss"
    refine ⟨⟨_, SqT.of hq⟩, ?_⟩
    intro D hD
    refine lc_gen walk_tup (fun H' => Same H H') (fun i y => y = V.bl true) (by rw [ql]; omega) (same_upd hD) (fun _ h => same_tup h (SqT.of hq)) (fun _ _ h => same_mut h hD) ?_ ?_
    · rintro i x H1 H2 Q1 hlt2 hI ⟨rfl, hx2⟩ - hQ
      obtain ⟨p, row, hp, rfl, hrw⟩ := q_at hx2
      have hm := hrow row (List.mem_of_getElem? hrw)
      walk_at "ss"
      refine ⟨s, _, _, _, rfl, rfl, SqL.of (hI _ _ hs), atI_nat (natL_at hb), ?_⟩
      rw [← hm.1]
      refine ⟨_, .tuple (natD row), _, rfl, .tup (SqT.of (hI _ _ (hR.2 i p row hp hrw))) (natD_dp row), fun ds e => by cases e; rw [natD_len]; omega, fun H3 s3 => ?_⟩
      rw [table_nat hm.2]
      exact hQ _ _ rfl (hI.trans s3) fun _ h => s3 _ _ h
    · intro H1 ys hI hy hl2 hr2
      have e := all_trueC hl2 hr2
      subst e
      walk_at "ss"
      refine ⟨D, _, rfl, SqL.of hy, ?_⟩
      rw [show (List.replicate (qs.map V.ref).length true).all id = true by simp]
      walk_at "ss"
      refine ⟨⟨_, SqT.of (hI _ _ hq)⟩, ?_⟩
      intro D2 hD2
      refine lc_gen walk_tup (fun H' => Same H1 H') (fun i y => ∃ row, t[i]? = some row ∧ y = V.int (mx row : Nat)) (by rw [ql]; omega) (same_upd hD2) (fun _ h => same_tup h (SqT.of (hI _ _ hq))) (fun _ _ h => same_mut h hD2) ?_ ?_
      · rintro i x H2 H3 Q1 hlt2 hI2 ⟨rfl, hx2⟩ - hQ
        obtain ⟨p, row, hp, rfl, hrw⟩ := q_at hx2
        have hm := hrow row (List.mem_of_getElem? hrw)
        walk_at "ss"
        refine ⟨p, row.map fun n : Nat => (n : Int), rfl, by rw [← natL_int]; exact SqT.of (hI2 _ _ (hI _ _ (hR.2 i p row hp hrw))), by rw [List.length_map]; omega, fun m hm2 hg => ?_⟩
        rw [mx_int hm2 hg]
        exact hQ _ _ ⟨row, hrw, rfl⟩ hI2 fun _ h => h
      · intro H2 ys hI2 hy2 hl3 hr3
        have e : ys = (t.map fun row => (mx row : Nat)).map fun n => V.int (n : Nat) := by
          rw [List.map_map]
          exact ys_map (by rw [hl3, ql]) hr3
        subst e
        walk_at "ss"
        refine ⟨D2, (t.map mx).map fun n : Nat => (n : Int), rfl, by rw [← natL_int]; exact SqL.of hy2, by rw [List.length_map, List.length_map]; omega, fun m hm2 hg => ?_⟩
        rw [mx_int hm2 hg]
        walk_at "ss"
        exact q _ (hI.trans hI2)
theorem bad_const_size (T : Env K mg) : FnOk P w K mg base CX0 3 T.f_const_size T.fd_const_size ["worth"] (spConstB K) := by
  refine T.F_const_size.ok sc_const_size (fun vs H Q E h => ?_) (fun cdv A outer s H vs Q E hr h => ⟨_, ((pss_one (ps_ret (pe_ifExp (pt_val (pe_call (ok_is_below T) (hr.mono (by decide)) (by rfl) T.g_is_below T.F_is_below.kp T.b_is_below .nil pass0 (pa_cons (pv 0) (pa_cons (pe_glob (v := .int 1000) (by rfl) T.c_VALUES ⟨_, rfl⟩) pa_nil)))) (pe_op op_add (pv 0) pe_int) pe_non)))), ?_⟩)
  · obtain ⟨v, d, rfl, _⟩ := h
    rfl
  · obtain ⟨v, d, rfl, hd, hb, q⟩ := h
    walk_at "ss"
    rcases below_go 1000 hd with ⟨j, -, -, -, b1⟩ | ⟨-, no⟩
    · rw [hb] at b1
      cases b1
    · rcases no with ⟨i, rfl, hi⟩ | ⟨b, rfl⟩ | hn
      · refine ⟨_, _, rfl, .inl ⟨i, rfl, ?_⟩⟩
        first | rw [decide_eq_false hi] | rw [decide_eq_false (by omega)]
        walk_at "ss"
        exact q
      · refine ⟨_, _, rfl, .inr (.inl ⟨b, rfl, ?_⟩)⟩
        walk_at "ss"
        exact q
      · refine ⟨_, _, rfl, .inr (.inr ⟨hn, ?_⟩)⟩
        walk_at "ss"
        exact q
theorem bad_wire_size (T : Env K mg) : FnOk P w K mg base CX0 4 T.f_wire_size T.fd_wire_size ["sizes", "ref", "table"] (spWireB K) := by
  refine T.F_wire_size.ok sc_wire_size (fun vs H Q E h => ?_) (fun cdv A outer s H vs Q E hr h => ⟨_, ((pss_cons (ps_if (PW.pt (pw_or (pt_not (pt_val (pe_call (ok_is_below T) (hr.mono (by decide)) (by rfl) T.g_is_below T.F_is_below.kp T.b_is_below .nil pass0 (pa_cons (pv 1) (pa_cons (pe_callB call_len_seq (by rfl) T.z_len (by decide +kernel) (pa_cons (pv 0) pa_nil)) pa_nil))))) (pw_or1 (pt_not (pt_val (pe_call (ok_is_table T) (hr.mono (by decide)) (by rfl) T.g_is_table T.F_is_table.kp T.b_is_table .nil pass0 (pa_cons (pv 2) (pa_cons (pe_ix ix_list (pv 0) (pv 1) (fun _ _ => rfl)) pa_nil))))))))
      (pss_one (ps_ret pe_non))
      pss_nil)
      (pss_one (ps_ret (pe_op op_add (pe_callB (cr_maxT rfl) (by rfl) T.z_max (by decide +kernel) (pa_cons (pv 2) pa_nil)) pe_int))))), ?_⟩)
  · obtain ⟨s, sz, v, u, d, e, rfl, _⟩ := h
    rfl
  · obtain ⟨s, sz, v, u, d, e, rfl, hs, hd, he, sm, hb, q⟩ := h
    walk_at "ss"
    refine ⟨s, _, rfl, .inl (SqL.of hs), ?_⟩
    rw [natL_len]
    walk_at "ss"
    rcases below_go (sz.length : Nat) hd with ⟨j, rfl, rfl, hj, b1⟩ | ⟨b1, no⟩
    · refine ⟨_, _, rfl, .inl ⟨_, rfl, ?_⟩⟩
      rw [decide_eq_true ⟨by omega, hj⟩]
      rw [b1, Bool.true_and] at hb
      have hb : tableD (sz.getD j 0 : Nat) e = false := hb
      walk_at "ss"
      refine ⟨s, _, _, _, rfl, rfl, SqL.of hs, atI_nat (natL_at (by omega)), ?_⟩
      refine ⟨u, e, _, rfl, he, sm, fun H1 s1 => ?_⟩
      rw [hb]
      walk_at "ss"
      exact q _ s1
    · rcases no with ⟨i, rfl, hi⟩ | ⟨b, rfl⟩ | hn
      · refine ⟨_, _, rfl, .inl ⟨i, rfl, ?_⟩⟩
        first | rw [decide_eq_false hi] | rw [decide_eq_false (by omega)]
        walk_at "ss"
        exact q _ (Same.refl _)
      · refine ⟨_, _, rfl, .inr (.inl ⟨b, rfl, ?_⟩)⟩
        walk_at "ss"
        exact q _ (Same.refl _)
      · refine ⟨_, _, rfl, .inr (.inr ⟨hn, ?_⟩)⟩
        walk_at "ss"
        exact q _ (Same.refl _)
theorem bad_join_size (T : Env K mg) : FnOk P w K mg base CX0 4 T.f_join_size T.fd_join_size ["sizes", "ref", "other", "table"] (spJoinB K) := by
  refine T.F_join_size.ok sc_join_size (fun vs H Q E h => ?_) (fun cdv A outer s H vs Q E hr h => ⟨_, ((pss_cons (ps_if (PW.pt (pw_or (pt_not (pt_val (pe_call (ok_is_below T) (hr.mono (by decide)) (by rfl) T.g_is_below T.F_is_below.kp T.b_is_below .nil pass0 (pa_cons (pv 1) (pa_cons (pe_callB call_len_seq (by rfl) T.z_len (by decide +kernel) (pa_cons (pv 0) pa_nil)) pa_nil))))) (pw_or1 (pt_not (pt_val (pe_call (ok_is_below T) (hr.mono (by decide)) (by rfl) T.g_is_below T.F_is_below.kp T.b_is_below .nil pass0 (pa_cons (pv 2) (pa_cons (pe_callB call_len_seq (by rfl) T.z_len (by decide +kernel) (pa_cons (pv 0) pa_nil)) pa_nil))))))))
      (pss_one (ps_ret pe_non))
      pss_nil)
      (pss_cons (ps_if (PW.pt (pw_or (pt_not (pt_val (pe_callB call_isi (by rfl) T.z_isinstance (by decide +kernel) (pa_cons (pv 3) (pa_cons (pe_bltn (v := .ty "tuple") (by rfl) T.z_tuple (by decide +kernel) rfl) pa_nil))))) (pw_or1 (pt_cmpR op_ne (pe_callB call_len_seq (by rfl) T.z_len (by decide +kernel) (pa_cons (pv 3) pa_nil)) (pe_ix ix_list (pv 0) (pv 1) (fun _ _ => rfl)) (nomark _)))))
      (pss_one (ps_ret pe_non))
      pss_nil)
      (pss_cons (ps_if (pt_not (pt_val (pe_callB (cr_all rfl) (by rfl) T.z_all (by decide +kernel) (pa_cons (pe_lc (own := [("row", 4)]) (g := (gName 4)) (tt := tYes) (te := (tCall _ _ _ (tCons _ (tCons (tOp (rIxL K) _ _) tNil)))) rfl sc_join_size.nd (pi_tup (pv 3)) (blkOk_by (own := [("row", 4)]) (N := N_join_size) (sc := defScope s_join_size) (by decide +kernel)) (fun _ _ _ _ _ => (pg_name (i := 4) sc_join_size.nd rfl (.inl rfl))) (fun _ _ _ _ _ => pts_nil) (fun _ _ _ _ _ => (pe_call (ok_is_table T) (hr.mono (by decide)) (by rfl) T.g_is_table T.F_is_table.kp T.b_is_table .nil pass0 (pa_cons (pv 4) (pa_cons (pe_ix ix_list (pv 0) (pv 2) (fun _ _ => rfl)) pa_nil))))) pa_nil))))
      (pss_one (ps_ret pe_non))
      pss_nil)
      (pss_one (ps_ret (pe_op op_add (pe_callB (cr_max rfl) (by rfl) T.z_max (by decide +kernel) (pa_cons (pe_lc (own := [("row", 4)]) (g := (gName 4)) (tt := tYes) (te := (tCB (rMaxT K) _)) rfl sc_join_size.nd (pi_tup (pv 3)) (blkOk_by (own := [("row", 4)]) (N := N_join_size) (sc := defScope s_join_size) (by decide +kernel)) (fun _ _ _ _ _ => (pg_name (i := 4) sc_join_size.nd rfl (.inl rfl))) (fun _ _ _ _ _ => pts_nil) (fun _ _ _ _ _ => (pe_callB (cr_maxT rfl) (by rfl) T.z_max (by decide +kernel) (pa_cons (pv 4) pa_nil)))) pa_nil)) pe_int))))))), ?_⟩)
  · obtain ⟨s, sz, v1, v2, u, d1, d2, e, rfl, _⟩ := h
    rfl
  · obtain ⟨s, sz, v1, v2, u, d1, d2, e, rfl, hs, h1, h2, he, sm, sms, hb, q⟩ := h
    walk_at "ss"
    refine ⟨s, _, rfl, .inl (SqL.of hs), ?_⟩
    rw [natL_len]
    walk_at "ss"
    rcases below_go (sz.length : Nat) h1 with ⟨a, rfl, rfl, ha, b1⟩ | ⟨b1, no⟩
    · refine ⟨_, _, rfl, .inl ⟨_, rfl, ?_⟩⟩
      rw [decide_eq_true ⟨by omega, ha⟩]
      rw [b1, Bool.true_and] at hb
      walk_at "ss"
      refine ⟨s, _, rfl, .inl (SqL.of hs), ?_⟩
      rw [natL_len]
      walk_at "ss"
      rcases below_go (sz.length : Nat) h2 with ⟨b, rfl, rfl, hb2, b1⟩ | ⟨b1, no⟩
      · refine ⟨_, _, rfl, .inl ⟨_, rfl, ?_⟩⟩
        rw [decide_eq_true ⟨by omega, hb2⟩]
        rw [b1, Bool.true_and] at hb
        replace hb : joinD (sz.getD a 0 : Nat) (sz.getD b 0 : Nat) e = false := hb
        cases he with
        | non =>
          walk_at "ssi"
          exact q _ (Same.refl _)
        | bl b =>
          walk_at "ssi"
          exact q _ (Same.refl _)
        | int i =>
          walk_at "ssi"
          exact q _ (Same.refl _)
        | str x =>
          walk_at "ssi"
          exact q _ (Same.refl _)
        | lst p1 p2 =>
          have ty := tyx_list p1
          walk_at "ssi"
          exact q _ (Same.refl _)
        | tup p1 p2 =>
          rename_i p xs ds
          have ty := tyx_tup p1
          have xl := dpa_len p2
          have dl := sm ds rfl
          walk_at "ssi"
          refine ⟨p, _, rfl, .inr p1, ?_⟩
          rw [xl]
          walk_at "ss"
          refine ⟨s, _, _, _, rfl, rfl, SqL.of hs, atI_nat (natL_at (by omega)), ?_⟩
          walk_at "ss"
          refine ite2 (fun e => ?_) (fun e => ?_)
          · walk_at "ss"
            exact q _ (Same.refl _)
          · have e2 : decide ((ds.length : Int) = ((sz.getD a 0 : Nat) : Int)) = true := by
              simpa using e
            have hb : (decide ((ds.length : Int) = ((sz.getD a 0 : Nat) : Int)) && ds.all (tableD (sz.getD b 0 : Nat))) = false := hb
            rw [e2, Bool.true_and] at hb
            walk_at "ss"
            refine ⟨⟨_, p1⟩, ?_⟩
            intro D hD
            refine lc_gen walk_tup (fun H' => Same H H') (fun i y => ∃ d, ds[i]? = some d ∧ y = V.bl (tableD (sz.getD b 0 : Nat) d)) (by omega) (same_upd hD) (fun _ h => same_tup h p1) (fun _ _ h => same_mut h hD) ?_ ?_
            · rintro i x H1 H2 Q1 hlt2 hI ⟨rfl, hx⟩ - hQ
              obtain ⟨d, hd1, hd2⟩ := dpa_at p2 hx
              walk_at "ss"
              refine ⟨s, _, _, _, rfl, rfl, SqL.of (hI _ _ hs), atI_nat (natL_at (by omega)), ?_⟩
              refine ⟨x, d, _, rfl, dp_same hd2 hI, sms ds rfl d (List.mem_of_getElem? hd1), fun H3 s3 => ?_⟩
              exact hQ _ _ ⟨d, hd1, rfl⟩ (hI.trans s3) fun o h => s3 _ _ h
            · intro H1 ys hI hy hl1 hr1
              have e : ys = (ds.map (tableD (sz.getD b 0 : Nat))).map V.bl := by
                rw [List.map_map]
                exact ys_map (by omega) hr1
              subst e
              walk_at "ss"
              refine ⟨D, _, rfl, SqL.of hy, ?_⟩
              rw [show (ds.map (tableD (sz.getD b 0 : Nat))).all id = ds.all (tableD (sz.getD b 0 : Nat)) by rw [List.all_map]; rfl, hb]
              walk_at "ss"
              exact q _ hI
      · rcases no with ⟨i, rfl, hi⟩ | ⟨b, rfl⟩ | hn
        · refine ⟨_, _, rfl, .inl ⟨i, rfl, ?_⟩⟩
          first | rw [decide_eq_false hi] | rw [decide_eq_false (by omega)]
          walk_at "ss"
          exact q _ (Same.refl _)
        · refine ⟨_, _, rfl, .inr (.inl ⟨b, rfl, ?_⟩)⟩
          walk_at "ss"
          exact q _ (Same.refl _)
        · refine ⟨_, _, rfl, .inr (.inr ⟨hn, ?_⟩)⟩
          walk_at "ss"
          exact q _ (Same.refl _)
    · rcases no with ⟨i, rfl, hi⟩ | ⟨b, rfl⟩ | hn
      · refine ⟨_, _, rfl, .inl ⟨i, rfl, ?_⟩⟩
        first | rw [decide_eq_false hi] | rw [decide_eq_false (by omega)]
        walk_at "ss"
        exact q _ (Same.refl _)
      · refine ⟨_, _, rfl, .inr (.inl ⟨b, rfl, ?_⟩)⟩
        walk_at "ss"
        exact q _ (Same.refl _)
      · refine ⟨_, _, rfl, .inr (.inr ⟨hn, ?_⟩)⟩
        walk_at "ss"
        exact q _ (Same.refl _)
theorem bad_latch_size (T : Env K mg) : FnOk P w K mg base CX0 3 T.f_latch_size T.fd_latch_size ["sizes", "sides", "start", "ref"] (spLatchB K) := by
  refine T.F_latch_size.ok sc_latch_size (fun vs H Q E h => ?_) (fun cdv A outer s H vs Q E hr h => ⟨_, ((pss_cons (ps_if (PW.pt (pw_or (pt_not (pt_val (pe_call (ok_is_below T) (hr.mono (by decide)) (by rfl) T.g_is_below T.F_is_below.kp T.b_is_below .nil pass0 (pa_cons (pv 1) (pa_cons (pe_op op_add (pe_glob (v := .int 999) (by rfl) T.c_MOST_SIDES ⟨_, rfl⟩) pe_int) pa_nil))))) (pw_or1 (pt_cmpR op_lt (pv 1) (pe_glob (v := .int 2) (by rfl) T.c_FEWEST_SIDES ⟨_, rfl⟩) (nomark _)))))
      (pss_one (ps_ret pe_non))
      pss_nil)
      (pss_cons (ps_if (PW.pt (pw_or (pt_not (pt_val (pe_call (ok_is_below T) (hr.mono (by decide)) (by rfl) T.g_is_below T.F_is_below.kp T.b_is_below .nil pass0 (pa_cons (pv 2) (pa_cons (pv 1) pa_nil))))) (pw_or1 (pt_not (pt_val (pe_call (ok_is_below T) (hr.mono (by decide)) (by rfl) T.g_is_below T.F_is_below.kp T.b_is_below .nil pass0 (pa_cons (pv 3) (pa_cons (pe_callB call_len_seq (by rfl) T.z_len (by decide +kernel) (pa_cons (pv 0) pa_nil)) pa_nil))))))))
      (pss_one (ps_ret pe_non))
      pss_nil)
      (pss_one (ps_ret (pe_ifExp (pt_cmpR op_le (pe_ix ix_list (pv 0) (pv 3) (fun _ _ => rfl)) (pe_op op_add (pv 1) pe_int) (nomark _)) (pv 1) pe_non)))))), ?_⟩)
  · obtain ⟨s, sz, v1, v2, v3, d1, d2, d3, rfl, _⟩ := h
    rfl
  · obtain ⟨s, sz, v1, v2, v3, d1, d2, d3, rfl, hs, h1, h2, h3, hb, q⟩ := h
    walk_at "ss"
    rcases below_go 1000 h1 with ⟨n, rfl, rfl, hn, b1⟩ | ⟨b1, no⟩
    · refine ⟨_, _, rfl, .inl ⟨_, rfl, ?_⟩⟩
      rw [decide_eq_true ⟨by omega, hn⟩]
      rw [b1, Bool.true_and] at hb
      walk_at "ss"
      refine ite2 (fun e => ?_) (fun e => ?_)
      · walk_at "ss"
        exact q
      · have e2 : decide (2 ≤ intD (.int (n : Nat))) = true := by
          have e : ¬ decide ((n : Int) < 2) = true := e
          rw [decide_eq_true_eq] at e
          exact decide_eq_true (by show 2 ≤ (n : Int); omega)
        rw [e2, Bool.true_and] at hb
        walk_at "ss"
        rcases below_go (n : Nat) h2 with ⟨a, rfl, rfl, ha, b1⟩ | ⟨b1, no⟩
        · refine ⟨_, _, rfl, .inl ⟨_, rfl, ?_⟩⟩
          rw [decide_eq_true ⟨by omega, ha⟩]
          rw [show belowD (intD (.int (n : Nat))) (.int (a : Nat)) = true from b1, Bool.true_and] at hb
          walk_at "ss"
          refine ⟨s, _, rfl, .inl (SqL.of hs), ?_⟩
          rw [natL_len]
          walk_at "ss"
          rcases below_go (sz.length : Nat) h3 with ⟨r, rfl, rfl, hr, b1⟩ | ⟨b1, no⟩
          · refine ⟨_, _, rfl, .inl ⟨_, rfl, ?_⟩⟩
            rw [decide_eq_true ⟨by omega, hr⟩]
            rw [b1, Bool.true_and] at hb
            walk_at "ss"
            refine ⟨s, _, _, _, rfl, rfl, SqL.of hs, atI_nat (natL_at (by omega)), ?_⟩
            walk_at "ss"
            have hb : decide (((sz.getD r 0 : Nat) : Int) ≤ (n : Int) + 1) = false := hb
            refine iteN (by rw [hb]; decide) ?_
            walk_at "ss"
            exact q
          · rcases no with ⟨i, rfl, hi⟩ | ⟨b, rfl⟩ | hn
            · refine ⟨_, _, rfl, .inl ⟨i, rfl, ?_⟩⟩
              first | rw [decide_eq_false hi] | rw [decide_eq_false (by omega)]
              walk_at "ss"
              exact q
            · refine ⟨_, _, rfl, .inr (.inl ⟨b, rfl, ?_⟩)⟩
              walk_at "ss"
              exact q
            · refine ⟨_, _, rfl, .inr (.inr ⟨hn, ?_⟩)⟩
              walk_at "ss"
              exact q
        · rcases no with ⟨i, rfl, hi⟩ | ⟨b, rfl⟩ | hn
          · refine ⟨_, _, rfl, .inl ⟨i, rfl, ?_⟩⟩
            first | rw [decide_eq_false hi] | rw [decide_eq_false (by omega)]
            walk_at "ss"
            exact q
          · refine ⟨_, _, rfl, .inr (.inl ⟨b, rfl, ?_⟩)⟩
            walk_at "ss"
            exact q
          · refine ⟨_, _, rfl, .inr (.inr ⟨hn, ?_⟩)⟩
            walk_at "ss"
            exact q
    · rcases no with ⟨i, rfl, hi⟩ | ⟨b, rfl⟩ | hn
      · refine ⟨_, _, rfl, .inl ⟨i, rfl, ?_⟩⟩
        first | rw [decide_eq_false hi] | rw [decide_eq_false (by omega)]
        walk_at "ss"
        exact q
      · refine ⟨_, _, rfl, .inr (.inl ⟨b, rfl, ?_⟩)⟩
        walk_at "ss"
        exact q
      · refine ⟨_, _, rfl, .inr (.inr ⟨hn, ?_⟩)⟩
        walk_at "ss"
        exact q
theorem bad_counter_size (T : Env K mg) : FnOk P w K mg base CX0 3 T.f_counter_size T.fd_counter_size ["sizes", "prime", "start", "ref"] (spCounterB K) := by
  refine T.F_counter_size.ok sc_counter_size (fun vs H Q E h => ?_) (fun cdv A outer s H vs Q E hr h => ⟨_, ((pss_cons (ps_if (PW.pt (pw_or (pt_not (pt_val (pe_call (ok_is_prime T) (hr.mono (by decide)) (by rfl) T.g_is_prime T.F_is_prime.kp T.b_is_prime .nil pass0 (pa_cons (pv 1) pa_nil)))) (pw_or (pt_not (pt_val (pe_call (ok_is_below T) (hr.mono (by decide)) (by rfl) T.g_is_below T.F_is_below.kp T.b_is_below .nil pass0 (pa_cons (pv 2) (pa_cons (pv 1) pa_nil))))) (pw_or1 (pt_not (pt_val (pe_call (ok_is_below T) (hr.mono (by decide)) (by rfl) T.g_is_below T.F_is_below.kp T.b_is_below .nil pass0 (pa_cons (pv 3) (pa_cons (pe_callB call_len_seq (by rfl) T.z_len (by decide +kernel) (pa_cons (pv 0) pa_nil)) pa_nil)))))))))
      (pss_one (ps_ret pe_non))
      pss_nil)
      (pss_one (ps_ret (pv 1))))), ?_⟩)
  · obtain ⟨s, sz, v1, v2, v3, d1, d2, d3, rfl, _⟩ := h
    rfl
  · obtain ⟨s, sz, v1, v2, v3, d1, d2, d3, rfl, hs, h1, h2, h3, hb, q⟩ := h
    replace h1 := And.intro h1 trivial
    walk_at "ss"
    refine ⟨_, d1, rfl, h1.1, ?_⟩
    replace h1 := h1.1
    cases hp : primeD d1 with
    | false =>
      walk_at "ss"
      exact q
    | true =>
      rw [hp, Bool.true_and] at hb
      cases h1 with
      | int i =>
        walk_at "ss"
        rcases below_go i h2 with ⟨a, rfl, rfl, ha, b1⟩ | ⟨b1, no⟩
        · refine ⟨_, _, rfl, .inl ⟨_, rfl, ?_⟩⟩
          rw [decide_eq_true ⟨by omega, ha⟩]
          rw [show belowD (intD (.int i)) (.int (a : Nat)) = true from b1, Bool.true_and] at hb
          walk_at "ss"
          refine ⟨s, _, rfl, .inl (SqL.of hs), ?_⟩
          rw [natL_len]
          walk_at "ss"
          rcases below_go (sz.length : Nat) h3 with ⟨r, rfl, rfl, hr, b1⟩ | ⟨b1, no⟩
          · refine ⟨_, _, rfl, .inl ⟨_, rfl, ?_⟩⟩
            rw [decide_eq_true ⟨by omega, hr⟩]
            rw [b1] at hb
            cases hb
          · rcases no with ⟨i, rfl, hi⟩ | ⟨b, rfl⟩ | hn
            · refine ⟨_, _, rfl, .inl ⟨i, rfl, ?_⟩⟩
              first | rw [decide_eq_false hi] | rw [decide_eq_false (by omega)]
              walk_at "ss"
              exact q
            · refine ⟨_, _, rfl, .inr (.inl ⟨b, rfl, ?_⟩)⟩
              walk_at "ss"
              exact q
            · refine ⟨_, _, rfl, .inr (.inr ⟨hn, ?_⟩)⟩
              walk_at "ss"
              exact q
        · rcases no with ⟨i, rfl, hi⟩ | ⟨b, rfl⟩ | hn
          · refine ⟨_, _, rfl, .inl ⟨i, rfl, ?_⟩⟩
            first | rw [decide_eq_false hi] | rw [decide_eq_false (by omega)]
            walk_at "ss"
            exact q
          · refine ⟨_, _, rfl, .inr (.inl ⟨b, rfl, ?_⟩)⟩
            walk_at "ss"
            exact q
          · refine ⟨_, _, rfl, .inr (.inr ⟨hn, ?_⟩)⟩
            walk_at "ss"
            exact q
      | non => cases hp
      | bl b => cases hp
      | str x => cases hp
      | lst h1 h2 => cases hp
      | tup h1 h2 => cases hp
theorem ok_const_size (T : Env K mg) : FnOk P w K mg base CX0 3 T.f_const_size T.fd_const_size ["worth"] (fun vs H Q E => spConstS vs H Q E ∨ spConstB K vs H Q E) := fnok_or (good_const_size T) (bad_const_size T)
theorem ok_wire_size (T : Env K mg) : FnOk P w K mg base CX0 4 T.f_wire_size T.fd_wire_size ["sizes", "ref", "table"] (fun vs H Q E => spWireS vs H Q E ∨ spWireB K vs H Q E) := fnok_or (good_wire_size T) (bad_wire_size T)
theorem ok_join_size (T : Env K mg) : FnOk P w K mg base CX0 4 T.f_join_size T.fd_join_size ["sizes", "ref", "other", "table"] (fun vs H Q E => spJoinS vs H Q E ∨ spJoinB K vs H Q E) := fnok_or (good_join_size T) (bad_join_size T)
theorem ok_latch_size (T : Env K mg) : FnOk P w K mg base CX0 3 T.f_latch_size T.fd_latch_size ["sizes", "sides", "start", "ref"] (fun vs H Q E => spLatchS vs H Q E ∨ spLatchB K vs H Q E) := fnok_or (good_latch_size T) (bad_latch_size T)
theorem ok_counter_size (T : Env K mg) : FnOk P w K mg base CX0 3 T.f_counter_size T.fd_counter_size ["sizes", "prime", "start", "ref"] (fun vs H Q E => spCounterS vs H Q E ∨ spCounterB K vs H Q E) := fnok_or (good_counter_size T) (bad_counter_size T)
end


section
variable {P : Program} {w : World} {K : PySem.W.Frag} {mg : Str → Option Value} {base : Heap}
theorem good_size_behind (T : Env K mg) : FnOk P w K mg base CX0 5 T.f_size_behind T.fd_size_behind ["sizes", "value", "letters"] spSizeB := by
  refine T.F_size_behind.ok sc_size_behind (fun vs H Q E h => ?_) (fun cdv A outer s H vs Q E hr h => ⟨_, ((pss_cons (ps_if (PW.pt (pw_or (pt_not (pt_val (pe_callB call_isi (by rfl) T.z_isinstance (by decide +kernel) (pa_cons (pv 1) (pa_cons (pe_bltn (v := .ty "tuple") (by rfl) T.z_tuple (by decide +kernel) rfl) pa_nil))))) (pw_or1 (pt_not (pt_truth (pv 1) (by intro _; rfl))))))
      (pss_one (ps_ret pe_non))
      pss_nil)
      (pss_cons (ps_set (i := 3) sc_size_behind.nd rfl (.inl rfl) (pe_ix ix_tup (pv 1) pe_int (fun _ _ => rfl)))
      (pss_cons (ps_set (i := 4) sc_size_behind.nd rfl (.inl rfl) (pe_slice sl_tup (pv 1) (po_some pe_int) po_none))
      (pss_cons (ps_if (PW.pt (pw_and (pt_cmpR op_eq (pv 3) pe_str (nomark _)) (pw_and1 (pt_cmpR op_eq (pe_callB call_len_seq (by rfl) T.z_len (by decide +kernel) (pa_cons (pv 4) pa_nil)) pe_int (nomark _)))))
      (pss_one (ps_ret (StX.pe_callS1 ((ok_const_size T).raw T.b_const_size .nil) (hr.mono (by decide)) T.F_const_size.kp (by rfl) T.g_const_size pass0 (pv 4))))
      pss_nil)
      (pss_cons (ps_if (PW.pt (pw_and (pt_cmpR op_eq (pv 3) pe_str (nomark _)) (pw_and1 (pt_not (pt_truth (pv 4) (by intro _; rfl))))))
      (pss_one (ps_ret (pv 2)))
      pss_nil)
      (pss_cons (ps_if (PW.pt (pw_and (pt_cmpR op_eq (pv 3) pe_str (nomark _)) (pw_and1 (pt_cmpR op_eq (pe_callB call_len_seq (by rfl) T.z_len (by decide +kernel) (pa_cons (pv 4) pa_nil)) pe_int (nomark _)))))
      (pss_one (ps_ret (StX.pe_callS2 ((ok_wire_size T).raw T.b_wire_size .nil) (hr.mono (by decide)) T.F_wire_size.kp (by rfl) T.g_wire_size pass0 (pa_cons (pv 0) (StX.pa_star (pv 4) pa_nil)))))
      pss_nil)
      (pss_cons (ps_if (PW.pt (pw_and (pt_cmpR op_eq (pv 3) pe_str (nomark _)) (pw_and1 (pt_cmpR op_eq (pe_callB call_len_seq (by rfl) T.z_len (by decide +kernel) (pa_cons (pv 4) pa_nil)) pe_int (nomark _)))))
      (pss_one (ps_ret (StX.pe_callS2 ((ok_join_size T).raw T.b_join_size .nil) (hr.mono (by decide)) T.F_join_size.kp (by rfl) T.g_join_size pass0 (pa_cons (pv 0) (StX.pa_star (pv 4) pa_nil)))))
      pss_nil)
      (pss_cons (ps_if (PW.pt (pw_and (pt_cmpR op_eq (pv 3) pe_str (nomark _)) (pw_and1 (pt_cmpR op_eq (pe_callB call_len_seq (by rfl) T.z_len (by decide +kernel) (pa_cons (pv 4) pa_nil)) pe_int (nomark _)))))
      (pss_one (ps_ret (StX.pe_callS2 ((ok_latch_size T).raw T.b_latch_size .nil) (hr.mono (by decide)) T.F_latch_size.kp (by rfl) T.g_latch_size pass0 (pa_cons (pv 0) (StX.pa_star (pv 4) pa_nil)))))
      pss_nil)
      (pss_cons (ps_if (PW.pt (pw_and (pt_cmpR op_eq (pv 3) pe_str (nomark _)) (pw_and1 (pt_cmpR op_eq (pe_callB call_len_seq (by rfl) T.z_len (by decide +kernel) (pa_cons (pv 4) pa_nil)) pe_int (nomark _)))))
      (pss_one (ps_ret (StX.pe_callS2 ((ok_counter_size T).raw T.b_counter_size .nil) (hr.mono (by decide)) T.F_counter_size.kp (by rfl) T.g_counter_size pass0 (pa_cons (pv 0) (StX.pa_star (pv 4) pa_nil)))))
      pss_nil)
      (pss_one (ps_ret pe_non)))))))))))), ?_⟩)
  · obtain ⟨s, p, sz, L, f, rfl, _⟩ := h
    rfl
  · obtain ⟨s, p, sz, L, f, rfl, hs, hf, ok, pos, q⟩ := h
    cases f with
    | const v =>
      have hf : H p = some (.tup [.str "const", .int (v : Nat)]) := hf
      have ty := tyx_tup (K := K) (SqT.of hf)
      walk_at "ssi"
      refine ⟨true, .inr (.inl ⟨_, SqT.of hf, rfl⟩), ?_⟩
      walk_at "ss"
      refine ⟨p, _, 0, _, rfl, rfl, SqT.of hf, rfl, ?_⟩
      walk_at "ss"
      refine ⟨p, _, rfl, SqT.of hf, (show ¬ (HT.sIx 2 0 (some 1) = 0 ∧ HT.sIx 2 2 none = 2) from by decide), fun t ht => ?_⟩
      have s1 := same_upd (o := .tup [.int (v : Nat)]) ht
      walk_at "ss"
      refine ⟨t, _, rfl, .inr (SqT.of upd_same), ?_⟩
      walk_at "ss"
      refine ⟨t, _, rfl, .inl (SqT.of upd_same), ?_⟩
      exact .inl ⟨v, rfl, ok, q _ s1⟩
    | letter =>
      have hf : H p = some (.tup [.str "letter"]) := hf
      have ty := tyx_tup (K := K) (SqT.of hf)
      walk_at "ssi"
      refine ⟨true, .inr (.inl ⟨_, SqT.of hf, rfl⟩), ?_⟩
      walk_at "ss"
      refine ⟨p, _, 0, _, rfl, rfl, SqT.of hf, rfl, ?_⟩
      walk_at "ss"
      refine ⟨p, _, rfl, SqT.of hf, (show ¬ (HT.sIx 1 0 (some 1) = 0 ∧ HT.sIx 1 1 none = 1) from by decide), fun t0 ht0 => ?_⟩
      have s1 := same_upd (o := .tup []) ht0
      walk_at "ss"
      refine ⟨false, .inr (.inl ⟨_, SqT.of upd_same, rfl⟩), ?_⟩
      walk_at "ss"
      exact q _ s1
    | wire r t =>
      obtain ⟨q0, hf, hq⟩ := hf
      have hf : H p = some (.tup [.str "wire", .int (r : Nat), .ref q0]) := hf
      have ty := tyx_tup (K := K) (SqT.of hf)
      walk_at "ssi"
      refine ⟨true, .inr (.inl ⟨_, SqT.of hf, rfl⟩), ?_⟩
      walk_at "ss"
      refine ⟨p, _, 0, _, rfl, rfl, SqT.of hf, rfl, ?_⟩
      walk_at "ss"
      refine ⟨p, _, rfl, SqT.of hf, (show ¬ (HT.sIx 3 0 (some 1) = 0 ∧ HT.sIx 3 3 none = 3) from by decide), fun t0 ht0 => ?_⟩
      have s1 := same_upd (o := .tup [.int (r : Nat), .ref q0]) ht0
      walk_at "ss"
      refine ⟨t0, _, rfl, .inr (SqT.of upd_same), ?_⟩
      walk_at "ss"
      refine ⟨t0, _, rfl, .inl (SqT.of upd_same), ?_⟩
      have ok : r < sz.length ∧ t.length = sz.getD r 0 ∧ ∀ x ∈ t, x < 1000 := ok
      have ps := pos r ok.1
      exact .inl ⟨s, sz, r, q0, t, rfl, s1 _ _ hs, s1 _ _ hq, ok.1, ok.2.1, by omega, by omega, ok.2.2, fun H' s' => q H' (s1.trans s')⟩
    | join a b t =>
      obtain ⟨q0, qs, hf, hq, hR⟩ := hf
      have hf : H p = some (.tup [.str "join", .int (a : Nat), .int (b : Nat), .ref q0]) := hf
      have ty := tyx_tup (K := K) (SqT.of hf)
      walk_at "ssi"
      refine ⟨true, .inr (.inl ⟨_, SqT.of hf, rfl⟩), ?_⟩
      walk_at "ss"
      refine ⟨p, _, 0, _, rfl, rfl, SqT.of hf, rfl, ?_⟩
      walk_at "ss"
      refine ⟨p, _, rfl, SqT.of hf, (show ¬ (HT.sIx 4 0 (some 1) = 0 ∧ HT.sIx 4 4 none = 4) from by decide), fun t0 ht0 => ?_⟩
      have s1 := same_upd (o := .tup [.int (a : Nat), .int (b : Nat), .ref q0]) ht0
      walk_at "ss"
      refine ⟨t0, _, rfl, .inr (SqT.of upd_same), ?_⟩
      walk_at "ss"
      refine ⟨t0, _, rfl, .inl (SqT.of upd_same), ?_⟩
      have ok : a < sz.length ∧ b < sz.length ∧ t.length = sz.getD a 0 ∧ ∀ row ∈ t, row.length = sz.getD b 0 ∧ ∀ x ∈ row, x < 1000 := ok
      have pa := pos a ok.1
      have pb := pos b ok.2.1
      exact .inl ⟨s, sz, a, b, q0, qs, t, rfl, s1 _ _ hs, s1 _ _ hq, hR.keep (.of s1), ok.1, ok.2.1, ok.2.2.1, ok.2.2.2, by omega, by omega, pb.1, pb.2, fun H' s' => q H' (s1.trans s')⟩
    | latch n a r =>
      have hf : H p = some (.tup [.str "latch", .int (n : Nat), .int (a : Nat), .int (r : Nat)]) := hf
      have ty := tyx_tup (K := K) (SqT.of hf)
      walk_at "ssi"
      refine ⟨true, .inr (.inl ⟨_, SqT.of hf, rfl⟩), ?_⟩
      walk_at "ss"
      refine ⟨p, _, 0, _, rfl, rfl, SqT.of hf, rfl, ?_⟩
      walk_at "ss"
      refine ⟨p, _, rfl, SqT.of hf, (show ¬ (HT.sIx 4 0 (some 1) = 0 ∧ HT.sIx 4 4 none = 4) from by decide), fun t0 ht0 => ?_⟩
      have s1 := same_upd (o := .tup [.int (n : Nat), .int (a : Nat), .int (r : Nat)]) ht0
      walk_at "ss"
      refine ⟨t0, _, rfl, .inr (SqT.of upd_same), ?_⟩
      walk_at "ss"
      refine ⟨t0, _, rfl, .inl (SqT.of upd_same), ?_⟩
      have ok : 2 ≤ n ∧ n ≤ 999 ∧ a < n ∧ r < sz.length ∧ sz.getD r 0 ≤ n + 1 := ok
      exact .inl ⟨s, sz, n, a, r, rfl, s1 _ _ hs, ok.1, ok.2.1, ok.2.2.1, ok.2.2.2.1, ok.2.2.2.2, q _ s1⟩
    | counter n a r =>
      have hf : H p = some (.tup [.str "counter", .int (n : Nat), .int (a : Nat), .int (r : Nat)]) := hf
      have ty := tyx_tup (K := K) (SqT.of hf)
      walk_at "ssi"
      refine ⟨true, .inr (.inl ⟨_, SqT.of hf, rfl⟩), ?_⟩
      walk_at "ss"
      refine ⟨p, _, 0, _, rfl, rfl, SqT.of hf, rfl, ?_⟩
      walk_at "ss"
      refine ⟨p, _, rfl, SqT.of hf, (show ¬ (HT.sIx 4 0 (some 1) = 0 ∧ HT.sIx 4 4 none = 4) from by decide), fun t0 ht0 => ?_⟩
      have s1 := same_upd (o := .tup [.int (n : Nat), .int (a : Nat), .int (r : Nat)]) ht0
      walk_at "ss"
      refine ⟨t0, _, rfl, .inr (SqT.of upd_same), ?_⟩
      walk_at "ss"
      refine ⟨t0, _, rfl, .inl (SqT.of upd_same), ?_⟩
      have ok : n ∈ PR ∧ a < n ∧ r < sz.length := ok
      exact .inl ⟨s, sz, n, a, r, rfl, s1 _ _ hs, ok.1, ok.2.1, ok.2.2, q _ s1⟩
theorem bad_size_behind (T : Env K mg) : FnOk P w K mg base CX0 5 T.f_size_behind T.fd_size_behind ["sizes", "value", "letters"] (spSizeBad K) := by
  refine T.F_size_behind.ok sc_size_behind (fun vs H Q E h => ?_) (fun cdv A outer s H vs Q E hr h => ⟨_, ((pss_cons (ps_if (PW.pt (pw_or (pt_not (pt_val (pe_callB call_isi (by rfl) T.z_isinstance (by decide +kernel) (pa_cons (pv 1) (pa_cons (pe_bltn (v := .ty "tuple") (by rfl) T.z_tuple (by decide +kernel) rfl) pa_nil))))) (pw_or1 (pt_not (pt_truth (pv 1) (by intro _; rfl))))))
      (pss_one (ps_ret pe_non))
      pss_nil)
      (pss_cons (ps_set (i := 3) sc_size_behind.nd rfl (.inl rfl) (pe_ix ix_tup (pv 1) pe_int (fun _ _ => rfl)))
      (pss_cons (ps_set (i := 4) sc_size_behind.nd rfl (.inl rfl) (pe_slice sl_tup (pv 1) (po_some pe_int) po_none))
      (pss_cons (ps_if (PW.pt (pw_and (pt_cmpR op_eq (pv 3) pe_str (nomark _)) (pw_and1 (pt_cmpR op_eq (pe_callB call_len_seq (by rfl) T.z_len (by decide +kernel) (pa_cons (pv 4) pa_nil)) pe_int (nomark _)))))
      (pss_one (ps_ret (StX.pe_callS1 ((ok_const_size T).raw T.b_const_size .nil) (hr.mono (by decide)) T.F_const_size.kp (by rfl) T.g_const_size pass0 (pv 4))))
      pss_nil)
      (pss_cons (ps_if (PW.pt (pw_and (pt_cmpR op_eq (pv 3) pe_str (nomark _)) (pw_and1 (pt_not (pt_truth (pv 4) (by intro _; rfl))))))
      (pss_one (ps_ret (pv 2)))
      pss_nil)
      (pss_cons (ps_if (PW.pt (pw_and (pt_cmpR op_eq (pv 3) pe_str (nomark _)) (pw_and1 (pt_cmpR op_eq (pe_callB call_len_seq (by rfl) T.z_len (by decide +kernel) (pa_cons (pv 4) pa_nil)) pe_int (nomark _)))))
      (pss_one (ps_ret (StX.pe_callS2 ((ok_wire_size T).raw T.b_wire_size .nil) (hr.mono (by decide)) T.F_wire_size.kp (by rfl) T.g_wire_size pass0 (pa_cons (pv 0) (StX.pa_star (pv 4) pa_nil)))))
      pss_nil)
      (pss_cons (ps_if (PW.pt (pw_and (pt_cmpR op_eq (pv 3) pe_str (nomark _)) (pw_and1 (pt_cmpR op_eq (pe_callB call_len_seq (by rfl) T.z_len (by decide +kernel) (pa_cons (pv 4) pa_nil)) pe_int (nomark _)))))
      (pss_one (ps_ret (StX.pe_callS2 ((ok_join_size T).raw T.b_join_size .nil) (hr.mono (by decide)) T.F_join_size.kp (by rfl) T.g_join_size pass0 (pa_cons (pv 0) (StX.pa_star (pv 4) pa_nil)))))
      pss_nil)
      (pss_cons (ps_if (PW.pt (pw_and (pt_cmpR op_eq (pv 3) pe_str (nomark _)) (pw_and1 (pt_cmpR op_eq (pe_callB call_len_seq (by rfl) T.z_len (by decide +kernel) (pa_cons (pv 4) pa_nil)) pe_int (nomark _)))))
      (pss_one (ps_ret (StX.pe_callS2 ((ok_latch_size T).raw T.b_latch_size .nil) (hr.mono (by decide)) T.F_latch_size.kp (by rfl) T.g_latch_size pass0 (pa_cons (pv 0) (StX.pa_star (pv 4) pa_nil)))))
      pss_nil)
      (pss_cons (ps_if (PW.pt (pw_and (pt_cmpR op_eq (pv 3) pe_str (nomark _)) (pw_and1 (pt_cmpR op_eq (pe_callB call_len_seq (by rfl) T.z_len (by decide +kernel) (pa_cons (pv 4) pa_nil)) pe_int (nomark _)))))
      (pss_one (ps_ret (StX.pe_callS2 ((ok_counter_size T).raw T.b_counter_size .nil) (hr.mono (by decide)) T.F_counter_size.kp (by rfl) T.g_counter_size pass0 (pa_cons (pv 0) (StX.pa_star (pv 4) pa_nil)))))
      pss_nil)
      (pss_one (ps_ret pe_non)))))))))))), ?_⟩)
  · obtain ⟨s, v, sz, L, d, rfl, _⟩ := h
    rfl
  · obtain ⟨s, v, sz, L, d, rfl, hs, hd, hb, q⟩ := h
    cases hb with
    | nt h =>
      cases hd with
      | non =>
        walk_at "ssi"
        exact q _ (Same.refl _)
      | bl b =>
        walk_at "ssi"
        exact q _ (Same.refl _)
      | int i =>
        walk_at "ssi"
        exact q _ (Same.refl _)
      | str x =>
        walk_at "ssi"
        exact q _ (Same.refl _)
      | lst p1 p2 =>
        have ty := tyx_list p1
        walk_at "ssi"
        exact q _ (Same.refl _)
      | tup p1 p2 => exact absurd rfl (h _)
    | nil =>
      cases hd with
      | tup h1 h2 =>
        cases h2
        have ty := tyx_tup h1
        walk_at "ssi"
        refine ⟨false, .inr (.inl ⟨_, h1, rfl⟩), ?_⟩
        walk_at "ss"
        exact q _ (Same.refl _)
    | kn hl =>
      cases hd with
      | tup h1 h2 =>
        rename_i p xs
        cases h2 with
        | cons hx h2 =>
          rename_i x xr
          cases hx
          have ty := tyx_tup h1
          have xl := dpa_len h2
          walk_at "ssi"
          refine ⟨true, .inr (.inl ⟨_, h1, rfl⟩), ?_⟩
          walk_at "ss"
          refine ⟨p, _, 0, _, rfl, rfl, h1, atI_nat (j := 0) rfl, ?_⟩
          walk_at "ss"
          refine ⟨many_ix (by rw [List.length_cons, xl]; omega) (by rw [List.length_cons]; omega), fun t ht => ?_⟩
          rw [cut_one]
          have s1 := same_upd (o := .tup xr) ht
          have ht1 : upd H t (.tup xr) t = some (.tup xr) := upd_same
          have h3 := dpa_same h2 s1
          have hs1 := s1 _ _ hs
          replace q := fun H' s => q H' (s1.trans s)
          clear h1 h2 hs s1 ht ty
          generalize upd H t (.tup xr) = G at *
          walk_at "ss"
          exact q _ (Same.refl _)
    | ks hk hl =>
      rcases hk with rfl | rfl
      · cases hd with
        | tup h1 h2 =>
          rename_i p xs
          cases h2 with
          | cons hx h2 =>
            rename_i x xr
            cases hx
            have ty := tyx_tup h1
            have xl := dpa_len h2
            walk_at "ssi"
            refine ⟨true, .inr (.inl ⟨_, h1, rfl⟩), ?_⟩
            walk_at "ss"
            refine ⟨p, _, 0, _, rfl, rfl, h1, atI_nat (j := 0) rfl, ?_⟩
            walk_at "ss"
            refine ⟨many_ix (by rw [List.length_cons, xl]; omega) (by rw [List.length_cons]; omega), fun t ht => ?_⟩
            rw [cut_one]
            have s1 := same_upd (o := .tup xr) ht
            have ht1 : upd H t (.tup xr) t = some (.tup xr) := upd_same
            have h3 := dpa_same h2 s1
            have hs1 := s1 _ _ hs
            replace q := fun H' s => q H' (s1.trans s)
            clear h1 h2 hs s1 ht ty
            generalize upd H t (.tup xr) = G at *
            walk_at "ss"
            exact q _ (Same.refl _)
      · cases hd with
        | tup h1 h2 =>
          rename_i p xs
          cases h2 with
          | cons hx h2 =>
            rename_i x xr
            cases hx
            have ty := tyx_tup h1
            have xl := dpa_len h2
            walk_at "ssi"
            refine ⟨true, .inr (.inl ⟨_, h1, rfl⟩), ?_⟩
            walk_at "ss"
            refine ⟨p, _, 0, _, rfl, rfl, h1, atI_nat (j := 0) rfl, ?_⟩
            walk_at "ss"
            refine ⟨many_ix (by rw [List.length_cons, xl]; omega) (by rw [List.length_cons]; omega), fun t ht => ?_⟩
            rw [cut_one]
            have s1 := same_upd (o := .tup xr) ht
            have ht1 : upd H t (.tup xr) t = some (.tup xr) := upd_same
            have h3 := dpa_same h2 s1
            have hs1 := s1 _ _ hs
            replace q := fun H' s => q H' (s1.trans s)
            clear h1 h2 hs s1 ht ty
            generalize upd H t (.tup xr) = G at *
            walk_at "ss"
            exact q _ (Same.refl _)
    | constL h hl =>
      cases hd with
      | tup h1 h2 =>
        rename_i p xs
        cases h2 with
        | cons hx h2 =>
          rename_i x xr
          cases hx
          have ty := tyx_tup h1
          have xl := dpa_len h2
          walk_at "ssi"
          refine ⟨true, .inr (.inl ⟨_, h1, rfl⟩), ?_⟩
          walk_at "ss"
          refine ⟨p, _, 0, _, rfl, rfl, h1, atI_nat (j := 0) rfl, ?_⟩
          walk_at "ss"
          refine ⟨many_ix (by rw [List.length_cons, xl]; omega) (by rw [List.length_cons]; omega), fun t ht => ?_⟩
          rw [cut_one]
          have s1 := same_upd (o := .tup xr) ht
          have ht1 : upd H t (.tup xr) t = some (.tup xr) := upd_same
          have h3 := dpa_same h2 s1
          have hs1 := s1 _ _ hs
          replace q := fun H' s => q H' (s1.trans s)
          clear h1 h2 hs s1 ht ty
          generalize upd H t (.tup xr) = G at *
          walk_at "ss"
          refine ⟨t, _, rfl, .inr (SqT.of ht1), ?_⟩
          have nl : xr.length ≠ 1 := by rw [xl]; exact h
          walk_at "ss"
          rw [show decide (V.int ((xr.length : Nat) : Int) = V.int 1) = false from decide_eq_false fun e => by injection e with e; omega]
          walk_at "ss"
          exact q _ (Same.refl _)
    | wireL h hl =>
      cases hd with
      | tup h1 h2 =>
        rename_i p xs
        cases h2 with
        | cons hx h2 =>
          rename_i x xr
          cases hx
          have ty := tyx_tup h1
          have xl := dpa_len h2
          walk_at "ssi"
          refine ⟨true, .inr (.inl ⟨_, h1, rfl⟩), ?_⟩
          walk_at "ss"
          refine ⟨p, _, 0, _, rfl, rfl, h1, atI_nat (j := 0) rfl, ?_⟩
          walk_at "ss"
          refine ⟨many_ix (by rw [List.length_cons, xl]; omega) (by rw [List.length_cons]; omega), fun t ht => ?_⟩
          rw [cut_one]
          have s1 := same_upd (o := .tup xr) ht
          have ht1 : upd H t (.tup xr) t = some (.tup xr) := upd_same
          have h3 := dpa_same h2 s1
          have hs1 := s1 _ _ hs
          replace q := fun H' s => q H' (s1.trans s)
          clear h1 h2 hs s1 ht ty
          generalize upd H t (.tup xr) = G at *
          walk_at "ss"
          refine ⟨t, _, rfl, .inr (SqT.of ht1), ?_⟩
          have nl : xr.length ≠ 2 := by rw [xl]; exact h
          walk_at "ss"
          rw [show decide (V.int ((xr.length : Nat) : Int) = V.int 2) = false from decide_eq_false fun e => by injection e with e; omega]
          walk_at "ss"
          exact q _ (Same.refl _)
    | joinL h hl =>
      cases hd with
      | tup h1 h2 =>
        rename_i p xs
        cases h2 with
        | cons hx h2 =>
          rename_i x xr
          cases hx
          have ty := tyx_tup h1
          have xl := dpa_len h2
          walk_at "ssi"
          refine ⟨true, .inr (.inl ⟨_, h1, rfl⟩), ?_⟩
          walk_at "ss"
          refine ⟨p, _, 0, _, rfl, rfl, h1, atI_nat (j := 0) rfl, ?_⟩
          walk_at "ss"
          refine ⟨many_ix (by rw [List.length_cons, xl]; omega) (by rw [List.length_cons]; omega), fun t ht => ?_⟩
          rw [cut_one]
          have s1 := same_upd (o := .tup xr) ht
          have ht1 : upd H t (.tup xr) t = some (.tup xr) := upd_same
          have h3 := dpa_same h2 s1
          have hs1 := s1 _ _ hs
          replace q := fun H' s => q H' (s1.trans s)
          clear h1 h2 hs s1 ht ty
          generalize upd H t (.tup xr) = G at *
          walk_at "ss"
          refine ⟨t, _, rfl, .inr (SqT.of ht1), ?_⟩
          have nl : xr.length ≠ 3 := by rw [xl]; exact h
          walk_at "ss"
          rw [show decide (V.int ((xr.length : Nat) : Int) = V.int 3) = false from decide_eq_false fun e => by injection e with e; omega]
          walk_at "ss"
          exact q _ (Same.refl _)
    | counterL h hl =>
      cases hd with
      | tup h1 h2 =>
        rename_i p xs
        cases h2 with
        | cons hx h2 =>
          rename_i x xr
          cases hx
          have ty := tyx_tup h1
          have xl := dpa_len h2
          walk_at "ssi"
          refine ⟨true, .inr (.inl ⟨_, h1, rfl⟩), ?_⟩
          walk_at "ss"
          refine ⟨p, _, 0, _, rfl, rfl, h1, atI_nat (j := 0) rfl, ?_⟩
          walk_at "ss"
          refine ⟨many_ix (by rw [List.length_cons, xl]; omega) (by rw [List.length_cons]; omega), fun t ht => ?_⟩
          rw [cut_one]
          have s1 := same_upd (o := .tup xr) ht
          have ht1 : upd H t (.tup xr) t = some (.tup xr) := upd_same
          have h3 := dpa_same h2 s1
          have hs1 := s1 _ _ hs
          replace q := fun H' s => q H' (s1.trans s)
          clear h1 h2 hs s1 ht ty
          generalize upd H t (.tup xr) = G at *
          walk_at "ss"
          refine ⟨t, _, rfl, .inr (SqT.of ht1), ?_⟩
          have nl : xr.length ≠ 3 := by rw [xl]; exact h
          walk_at "ss"
          rw [show decide (V.int ((xr.length : Nat) : Int) = V.int 3) = false from decide_eq_false fun e => by injection e with e; omega]
          walk_at "ss"
          exact q _ (Same.refl _)
    | letterL h hl =>
      cases hd with
      | tup h1 h2 =>
        rename_i p xs
        cases h2 with
        | cons hx h2 =>
          rename_i x xr
          cases hx
          have ty := tyx_tup h1
          have xl := dpa_len h2
          walk_at "ssi"
          refine ⟨true, .inr (.inl ⟨_, h1, rfl⟩), ?_⟩
          walk_at "ss"
          refine ⟨p, _, 0, _, rfl, rfl, h1, atI_nat (j := 0) rfl, ?_⟩
          walk_at "ss"
          refine ⟨many_ix (by rw [List.length_cons, xl]; omega) (by rw [List.length_cons]; omega), fun t ht => ?_⟩
          rw [cut_one]
          have s1 := same_upd (o := .tup xr) ht
          have ht1 : upd H t (.tup xr) t = some (.tup xr) := upd_same
          have h3 := dpa_same h2 s1
          have hs1 := s1 _ _ hs
          replace q := fun H' s => q H' (s1.trans s)
          clear h1 h2 hs s1 ht ty
          generalize upd H t (.tup xr) = G at *
          walk_at "ss"
          refine ⟨true, .inr (.inl ⟨_, SqT.of ht1, ?_⟩), ?_⟩
          · cases xr with
            | nil => rw [List.length_nil] at xl; omega
            | cons => rfl
          walk_at "ss"
          exact q _ (Same.refl _)
    | const h =>
      cases hd with
      | tup h1 h2 =>
        rename_i p xs
        cases h2 with
        | cons hx h2 =>
          rename_i x xr
          cases hx
          have ty := tyx_tup h1
          have xl := dpa_len h2
          walk_at "ssi"
          refine ⟨true, .inr (.inl ⟨_, h1, rfl⟩), ?_⟩
          walk_at "ss"
          refine ⟨p, _, 0, _, rfl, rfl, h1, atI_nat (j := 0) rfl, ?_⟩
          walk_at "ss"
          refine ⟨many_ix (by rw [List.length_cons, xl]; simp) (by rw [List.length_cons]; omega), fun t ht => ?_⟩
          rw [cut_one]
          have s1 := same_upd (o := .tup xr) ht
          have ht1 : upd H t (.tup xr) t = some (.tup xr) := upd_same
          have h3 := dpa_same h2 s1
          have hs1 := s1 _ _ hs
          replace q := fun H' s => q H' (s1.trans s)
          clear h1 h2 hs s1 ht ty
          generalize upd H t (.tup xr) = G at *
          walk_at "ss"
          cases h3 with
          | cons p1 h3 =>
            cases h3
            refine ⟨t, _, rfl, .inr (SqT.of ht1), ?_⟩
            walk_at "ss"
            refine ⟨t, _, rfl, .inl (SqT.of ht1), ?_⟩
            exact .inr ⟨_, _, rfl, p1, h, q _ (Same.refl _)⟩
    | wire sm h =>
      cases hd with
      | tup h1 h2 =>
        rename_i p xs
        cases h2 with
        | cons hx h2 =>
          rename_i x xr
          cases hx
          have ty := tyx_tup h1
          have xl := dpa_len h2
          walk_at "ssi"
          refine ⟨true, .inr (.inl ⟨_, h1, rfl⟩), ?_⟩
          walk_at "ss"
          refine ⟨p, _, 0, _, rfl, rfl, h1, atI_nat (j := 0) rfl, ?_⟩
          walk_at "ss"
          refine ⟨many_ix (by rw [List.length_cons, xl]; simp) (by rw [List.length_cons]; omega), fun t ht => ?_⟩
          rw [cut_one]
          have s1 := same_upd (o := .tup xr) ht
          have ht1 : upd H t (.tup xr) t = some (.tup xr) := upd_same
          have h3 := dpa_same h2 s1
          have hs1 := s1 _ _ hs
          replace q := fun H' s => q H' (s1.trans s)
          clear h1 h2 hs s1 ht ty
          generalize upd H t (.tup xr) = G at *
          walk_at "ss"
          cases h3 with
          | cons p1 h3 =>
            cases h3 with
            | cons p2 h3 =>
              cases h3
              refine ⟨t, _, rfl, .inr (SqT.of ht1), ?_⟩
              walk_at "ss"
              refine ⟨t, _, rfl, .inl (SqT.of ht1), ?_⟩
              exact .inr ⟨s, sz, _, _, _, _, rfl, hs1, p1, p2, sm, h, q⟩
    | join sm sms h =>
      cases hd with
      | tup h1 h2 =>
        rename_i p xs
        cases h2 with
        | cons hx h2 =>
          rename_i x xr
          cases hx
          have ty := tyx_tup h1
          have xl := dpa_len h2
          walk_at "ssi"
          refine ⟨true, .inr (.inl ⟨_, h1, rfl⟩), ?_⟩
          walk_at "ss"
          refine ⟨p, _, 0, _, rfl, rfl, h1, atI_nat (j := 0) rfl, ?_⟩
          walk_at "ss"
          refine ⟨many_ix (by rw [List.length_cons, xl]; simp) (by rw [List.length_cons]; omega), fun t ht => ?_⟩
          rw [cut_one]
          have s1 := same_upd (o := .tup xr) ht
          have ht1 : upd H t (.tup xr) t = some (.tup xr) := upd_same
          have h3 := dpa_same h2 s1
          have hs1 := s1 _ _ hs
          replace q := fun H' s => q H' (s1.trans s)
          clear h1 h2 hs s1 ht ty
          generalize upd H t (.tup xr) = G at *
          walk_at "ss"
          cases h3 with
          | cons p1 h3 =>
            cases h3 with
            | cons p2 h3 =>
              cases h3 with
              | cons p3 h3 =>
                cases h3
                refine ⟨t, _, rfl, .inr (SqT.of ht1), ?_⟩
                walk_at "ss"
                refine ⟨t, _, rfl, .inl (SqT.of ht1), ?_⟩
                exact .inr ⟨s, sz, _, _, _, _, _, _, rfl, hs1, p1, p2, p3, sm, sms, h, q⟩
    | latch h =>
      cases hd with
      | tup h1 h2 =>
        rename_i p xs
        cases h2 with
        | cons hx h2 =>
          rename_i x xr
          cases hx
          have ty := tyx_tup h1
          have xl := dpa_len h2
          walk_at "ssi"
          refine ⟨true, .inr (.inl ⟨_, h1, rfl⟩), ?_⟩
          walk_at "ss"
          refine ⟨p, _, 0, _, rfl, rfl, h1, atI_nat (j := 0) rfl, ?_⟩
          walk_at "ss"
          refine ⟨many_ix (by rw [List.length_cons, xl]; simp) (by rw [List.length_cons]; omega), fun t ht => ?_⟩
          rw [cut_one]
          have s1 := same_upd (o := .tup xr) ht
          have ht1 : upd H t (.tup xr) t = some (.tup xr) := upd_same
          have h3 := dpa_same h2 s1
          have hs1 := s1 _ _ hs
          replace q := fun H' s => q H' (s1.trans s)
          clear h1 h2 hs s1 ht ty
          generalize upd H t (.tup xr) = G at *
          walk_at "ss"
          cases h3 with
          | cons p1 h3 =>
            cases h3 with
            | cons p2 h3 =>
              cases h3 with
              | cons p3 h3 =>
                cases h3
                refine ⟨t, _, rfl, .inr (SqT.of ht1), ?_⟩
                walk_at "ss"
                refine ⟨t, _, rfl, .inl (SqT.of ht1), ?_⟩
                exact .inr ⟨s, sz, _, _, _, _, _, _, rfl, hs1, p1, p2, p3, h, q _ (Same.refl _)⟩
    | counter h =>
      cases hd with
      | tup h1 h2 =>
        rename_i p xs
        cases h2 with
        | cons hx h2 =>
          rename_i x xr
          cases hx
          have ty := tyx_tup h1
          have xl := dpa_len h2
          walk_at "ssi"
          refine ⟨true, .inr (.inl ⟨_, h1, rfl⟩), ?_⟩
          walk_at "ss"
          refine ⟨p, _, 0, _, rfl, rfl, h1, atI_nat (j := 0) rfl, ?_⟩
          walk_at "ss"
          refine ⟨many_ix (by rw [List.length_cons, xl]; simp) (by rw [List.length_cons]; omega), fun t ht => ?_⟩
          rw [cut_one]
          have s1 := same_upd (o := .tup xr) ht
          have ht1 : upd H t (.tup xr) t = some (.tup xr) := upd_same
          have h3 := dpa_same h2 s1
          have hs1 := s1 _ _ hs
          replace q := fun H' s => q H' (s1.trans s)
          clear h1 h2 hs s1 ht ty
          generalize upd H t (.tup xr) = G at *
          walk_at "ss"
          cases h3 with
          | cons p1 h3 =>
            cases h3 with
            | cons p2 h3 =>
              cases h3 with
              | cons p3 h3 =>
                cases h3
                refine ⟨t, _, rfl, .inr (SqT.of ht1), ?_⟩
                walk_at "ss"
                refine ⟨t, _, rfl, .inl (SqT.of ht1), ?_⟩
                exact .inr ⟨s, sz, _, _, _, _, _, _, rfl, hs1, p1, p2, p3, h, q _ (Same.refl _)⟩
theorem ok_size_behind (T : Env K mg) : FnOk P w K mg base CX0 5 T.f_size_behind T.fd_size_behind ["sizes", "value", "letters"] (fun vs H Q E => spSizeB vs H Q E ∨ spSizeBad K vs H Q E) := fnok_or (good_size_behind T) (bad_size_behind T)
end


/-! ### own errors -/
/-- what __init__ leaves of an error with one field f -/
def spErr (C : Addr) (f code : Str) : Sp := fun vs H Q _ => ∃ (a : Addr) (v : V), vs = [.ref a, v] ∧ H a = some (exo a C none) ∧
  ∀ dx H', H dx = none → dx ≠ a → H' a = some (exo a C (some dx)) → H' dx = some (exd dx [("code", .str code), (f, v)]) → (∀ c, c ≠ a → c ≠ dx → H' c = H c) → Q .non H'
theorem err_end {H : Hp} {a C dx : Addr} {f code : Str} {v : V} {Q : VK} (q : ∀ dx H', H dx = none → dx ≠ a → H' a = some (exo a C (some dx)) → H' dx = some (exd dx [("code", .str code), (f, v)]) → (∀ c, c ≠ a → c ≠ dx → H' c = H c) → Q .non H')
    (n : H dx = none) (ne : dx ≠ a) : Q .non (upd (upd (upd H dx (exd dx [(f, v)])) a (exo a C (some dx))) dx (exd dx [("code", .str code), (f, v)])) :=
  q dx _ n ne (by rw [upd_ne ne.symm, upd_same]) upd_same fun c h1 h2 => by rw [upd_ne h2, upd_ne h1, upd_ne h2]
/-- raise C(v): what stands behind it -/
theorem err_out {H : Hp} {C : Addr} {f code : Str} {v : V} {Q : XK} (q : ∀ d G, H d = none → Same H G → G d = some (.xd [("code", .str code), (f, v)]) → Q (.ref C) (some d) G) :
    ([v] : List V).length ≤ 1000 ∧ ∀ a, H a = none → spErr C f code (.ref a :: ([v] ++ [])) (upd H a (exo a C none))
      (fun u G => u = .non ∧ ∃ (d : Addr) (fs : List (Str × V)), G a = some (exo a C (some d)) ∧ G d = some (exd d fs) ∧ H d = none ∧ Q (.ref C) (some d) (upd (del G a) d (.xd fs))) (fun _ _ _ => False) := by
  refine ⟨by show 1 ≤ 1000; decide, fun a n => ⟨a, v, rfl, upd_same, fun dx G n1 ne g1 g2 g3 => ⟨rfl, dx, _, g1, g2, ?_, ?_⟩⟩⟩
  · rw [upd_ne ne] at n1
    exact n1
  · have n2 : H dx = none := by rw [upd_ne ne] at n1; exact n1
    refine q dx _ n2 (fun c o e => ?_) upd_same
    have c1 : c ≠ dx := ne_of_none e n2
    have c2 : c ≠ a := ne_of_none e n
    rw [upd_ne c1, del_ne c2, g3 c c2 c1, upd_ne c2]
    exact e
/-- what a call lets out goes on out of the def -/
theorem passE {X : Cx} {E : XK} (tk : Takes X (fun c d _ H => E c d H)) : Passes (L2.CX X.prog X.w) X E := fun pins σ H s e s' => passAt (W := fun c d _ H => E c d H) tk σ pins H s e s'
section
variable {P : Program} {w : World} {K : PySem.W.Frag} {mg : Str → Option Value} {base : Heap}
theorem ok_InvalidAlphabet___init (T : Env K mg) : FnOk P w K mg base CX0 1 T.f_InvalidAlphabet___init T.fd_InvalidAlphabet___init ["self", "given"] (spErr T.C_InvalidAlphabet "given" "InvalidAlphabet") := by
  refine T.F_InvalidAlphabet___init.ok sc_InvalidAlphabet___init (fun vs H Q E h => ?_) (fun cdv A outer s H vs Q E hr h => ⟨_, ((pss_cons (ps_ost (pv 0) (pv 1))
      (pss_one (ps_ost (pv 0) pe_str)))), ?_⟩)
  · obtain ⟨a, v, rfl, _⟩ := h
    rfl
  · obtain ⟨a, v, rfl, ha, q⟩ := h
    walk_at "ss"
    refine ⟨a, T.C_InvalidAlphabet, rfl, T.x_InvalidAlphabet, T.n_InvalidAlphabet_given, .inl ⟨ha, fun dx n ne => ?_⟩⟩
    walk_at "ss"
    exact ⟨a, T.C_InvalidAlphabet, rfl, T.x_InvalidAlphabet, T.n_InvalidAlphabet_code, .inr ⟨dx, _, upd_same, by rw [upd_ne ne]; exact upd_same, (by show 1 ≤ 900; decide), err_end q n ne⟩⟩
theorem ok_InvalidLine___init (T : Env K mg) : FnOk P w K mg base CX0 1 T.f_InvalidLine___init T.fd_InvalidLine___init ["self", "at"] (spErr T.C_InvalidLine "at" "InvalidLine") := by
  refine T.F_InvalidLine___init.ok sc_InvalidLine___init (fun vs H Q E h => ?_) (fun cdv A outer s H vs Q E hr h => ⟨_, ((pss_cons (ps_ost (pv 0) (pv 1))
      (pss_one (ps_ost (pv 0) pe_str)))), ?_⟩)
  · obtain ⟨a, v, rfl, _⟩ := h
    rfl
  · obtain ⟨a, v, rfl, ha, q⟩ := h
    walk_at "ss"
    refine ⟨a, T.C_InvalidLine, rfl, T.x_InvalidLine, T.n_InvalidLine_at, .inl ⟨ha, fun dx n ne => ?_⟩⟩
    walk_at "ss"
    exact ⟨a, T.C_InvalidLine, rfl, T.x_InvalidLine, T.n_InvalidLine_code, .inr ⟨dx, _, upd_same, by rw [upd_ne ne]; exact upd_same, (by show 1 ≤ 900; decide), err_end q n ne⟩⟩
end

/-- TooMany: what __init__ leaves -/
def spMany (C : Addr) : Sp := fun vs H Q _ => ∃ (a : Addr) (u v : V), vs = [.ref a, u, v] ∧ H a = some (exo a C none) ∧
  ∀ dx H', H dx = none → dx ≠ a → H' a = some (exo a C (some dx)) → H' dx = some (exd dx [("code", .str "TooMany"), ("most", v), ("subject", u)]) → (∀ c, c ≠ a → c ≠ dx → H' c = H c) → Q .non H'
theorem many_out {H : Hp} {C : Addr} {u v : V} {Q : XK} (q : ∀ d G, H d = none → Same H G → G d = some (.xd [("code", .str "TooMany"), ("most", v), ("subject", u)]) → Q (.ref C) (some d) G) :
    ([u, v] : List V).length ≤ 1000 ∧ ∀ a, H a = none → spMany C (.ref a :: ([u, v] ++ [])) (upd H a (exo a C none))
      (fun u G => u = .non ∧ ∃ (d : Addr) (fs : List (Str × V)), G a = some (exo a C (some d)) ∧ G d = some (exd d fs) ∧ H d = none ∧ Q (.ref C) (some d) (upd (del G a) d (.xd fs))) (fun _ _ _ => False) := by
  refine ⟨by show 2 ≤ 1000; decide, fun a n => ⟨a, u, v, rfl, upd_same, fun dx G n1 ne g1 g2 g3 => ⟨rfl, dx, _, g1, g2, ?_, ?_⟩⟩⟩
  · rw [upd_ne ne] at n1
    exact n1
  · have n2 : H dx = none := by rw [upd_ne ne] at n1; exact n1
    refine q dx _ n2 (fun c o e => ?_) upd_same
    have c1 : c ≠ dx := ne_of_none e n2
    have c2 : c ≠ a := ne_of_none e n
    rw [upd_ne c1, del_ne c2, g3 c c2 c1, upd_ne c2]
    exact e
section
variable {P : Program} {w : World} {K : PySem.W.Frag} {mg : Str → Option Value} {base : Heap}
theorem ok_TooMany___init (T : Env K mg) : FnOk P w K mg base CX0 1 T.f_TooMany___init T.fd_TooMany___init ["self", "subject", "most"] (spMany T.C_TooMany) := by
  refine T.F_TooMany___init.ok sc_TooMany___init (fun vs H Q E h => ?_) (fun cdv A outer s H vs Q E hr h => ⟨_, ((pss_cons (ps_ost (pv 0) (pv 1))
      (pss_cons (ps_ost (pv 0) (pv 2))
      (pss_one (ps_ost (pv 0) pe_str))))), ?_⟩)
  · obtain ⟨a, u, v, rfl, _⟩ := h
    rfl
  · obtain ⟨a, u, v, rfl, ha, q⟩ := h
    walk_at "ss"
    refine ⟨a, T.C_TooMany, rfl, T.x_TooMany, T.n_TooMany_subject, .inl ⟨ha, fun dx n ne => ?_⟩⟩
    walk_at "ss"
    refine ⟨a, T.C_TooMany, rfl, T.x_TooMany, T.n_TooMany_most, .inr ⟨dx, _, upd_same, by rw [upd_ne ne]; exact upd_same, (by show 1 ≤ 900; decide), ?_⟩⟩
    walk_at "ss"
    refine ⟨a, T.C_TooMany, rfl, T.x_TooMany, T.n_TooMany_code, .inr ⟨dx, _, by rw [upd_ne ne.symm]; exact upd_same, upd_same, (by show 2 ≤ 900; decide), ?_⟩⟩
    exact q dx _ n ne (by rw [upd_ne ne.symm, upd_ne ne.symm, upd_same]) upd_same fun c h1 h2 => by rw [upd_ne h2, upd_ne h2, upd_ne h1, upd_ne h2]
end

def SqA (K : PySem.W.Frag) (H : Hp) (a : Addr) (xs : List V) : Prop := SqL K H a xs ∨ SqT K H a xs
theorem SqA.same {K : PySem.W.Frag} {H H' : Hp} {a : Addr} {xs : List V} (h : SqA K H a xs) (s : Same H H') : SqA K H' a xs := h.elim (fun h => .inl (s.seq h)) fun h => .inr (same_tup s h)
theorem seq_ne {K : PySem.W.Frag} {H : Hp} {a x : Addr} {xs : List V} {o : HO} (h : SqL K H a xs) (n : a ≠ x) : SqL K (upd H x o) a xs := by
  rcases h with (h | ⟨u, h⟩) | h
  · exact .inl (.inl (by rw [upd_ne n]; exact h))
  · exact .inl (.inr ⟨u, by rw [upd_ne n]; exact h⟩)
  · exact .inr h
theorem SqA.ne {K : PySem.W.Frag} {H : Hp} {a x : Addr} {xs : List V} {o : HO} (h : SqA K H a xs) (n : a ≠ x) : SqA K (upd H x o) a xs := by
  rcases h with h | h
  · exact .inl (seq_ne h n)
  · rcases h with (h | ⟨u, h⟩) | h
    · exact .inr (.inl (.inl (by rw [upd_ne n]; exact h)))
    · exact .inr (.inl (.inr ⟨u, by rw [upd_ne n]; exact h⟩))
    · exact .inr (.inr h)
def NoAlpha (K : PySem.W.Frag) (H : Hp) (v : V) : Prop := (∃ z : Str, v = .str z ∧ z.length ≤ 100000 ∧ ¬ Alpha z.cps.toList) ∨ NoStr K H v
/-- no list and no tuple, or an empty one -/
def NoRows (K : PySem.W.Frag) (H : Hp) (v : V) : Prop := (∃ p, v = .ref p ∧ SqA K H p []) ∨ ∃ t, TyX K H v (.type t) ∧ kitB t "list" = some false ∧ kitB t "tuple" = some false
def ErrE (C : Addr) (code f : Str) (v : V) (H : Hp) (E : XK) : Prop := ∀ d H', Same H H' → H' d = some (.xd [("code", .str code), (f, v)]) → E (.ref C) (some d) H'
theorem tru_seq {K : PySem.W.Frag} {H : Hp} {a : Addr} {xs : List V} (h : SqA K H a xs) : TruV K (.ref a) H (!xs.isEmpty) := by
  rcases h with h | h
  · exact .inl ⟨xs, h, rfl⟩
  · exact .inr (.inl ⟨xs, h, rfl⟩)

def boolL (bs : List Bool) : List V := bs.map V.bl
theorem boolL_at {bs : List Bool} {i : Nat} (h : i < bs.length) : (boolL bs)[i]? = some (.bl (bs.getD i false)) := by
  unfold boolL
  rw [List.getElem?_map, List.getD_eq_getElem?_getD, List.getElem?_eq_getElem h]
  rfl
theorem boolL_len (bs : List Bool) : (boolL bs).length = bs.length := by unfold boolL; rw [List.length_map]
theorem boolL_snoc (bs : List Bool) (b : Bool) : boolL (bs ++ [b]) = boolL bs ++ [.bl b] := by unfold boolL; rw [List.map_append]; rfl
theorem at_zeroC {x : V} {r : List V} : atI (x :: r) 0 = some x := atI_nat (j := 0) rfl
def spRefs1 : Sp := fun vs H Q _ => ∃ (p : Addr) (f : CL), vs = [.ref p] ∧ CLAt H p f ∧ ∀ (t : Addr) (H' : Hp), H' t = some (.lst (natL (rf1 f))) → H t = none → Same H H' → Q (.ref t) H'
def spCell : Sp := fun vs H Q _ => ∃ (p : Addr) (f : CL), vs = [.ref p] ∧ CLAt H p f ∧ Q (.bl (isCl f)) H
def spLooksB : Sp := fun vs H Q _ => ∃ (k p : Addr) (lk : List Bool) (f : CL), vs = [.ref k, .ref p] ∧ H k = some (.lst (boolL lk)) ∧ CLAt H p f ∧ (∀ r ∈ rf1 f, r < lk.length) ∧ ∀ H', Same H H' → Q (.bl (lkOf f lk)) H'
theorem natL_snoc (ns : List Nat) (n : Nat) : natL (ns ++ [n]) = natL ns ++ [.int (n : Nat)] := by unfold natL; rw [List.map_append]; rfl
theorem at_last {α : Type} {xs : List α} {v : α} (h : xs.getLast? = some v) : atI xs (-1) = some v := by
  obtain ⟨ys, rfl⟩ := List.getLast?_eq_some_iff.mp h
  exact atI_last ys v
theorem any_getD {lk : List Bool} {rs : List Nat} {ys : List V} (hl : ys.length = rs.length) (h : ∀ (i : Nat) (y : V), ys[i]? = some y → ∃ r, rs[i]? = some r ∧ y = .bl (lk.getD r false)) : ys = boolL (rs.map fun r => lk.getD r false) := by
  unfold boolL
  rw [List.map_map]
  exact ys_map hl h
section
variable {P : Program} {w : World} {K : PySem.W.Frag} {mg : Str → Option Value} {base : Heap}
theorem ok_refs_at_once (T : Env K mg) : FnOk P w K mg base CX0 1 T.f_refs_at_once T.fd_refs_at_once ["line"] spRefs1 := by
  refine T.F_refs_at_once.ok sc_refs_at_once (fun vs H Q E h => ?_) (fun cdv A outer s H vs Q E hr h => ⟨_, ((pss_cons (ps_if (pt_cmpR op_eq (pe_ix ix_tup (pv 0) pe_int (fun _ _ => rfl)) pe_str (nomark _))
      (pss_one (ps_ret (pe_lst (pa_cons (pe_ix ix_tup (pv 0) pe_int (fun _ _ => rfl)) pa_nil))))
      pss_nil)
      (pss_cons (ps_if (pt_cmpR op_eq (pe_ix ix_tup (pv 0) pe_int (fun _ _ => rfl)) pe_str (nomark _))
      (pss_one (ps_ret (pe_lst (pa_cons (pe_ix ix_tup (pv 0) pe_int (fun _ _ => rfl)) (pa_cons (pe_ix ix_tup (pv 0) pe_int (fun _ _ => rfl)) pa_nil)))))
      pss_nil)
      (pss_one (ps_ret (pe_lst pa_nil)))))), ?_⟩)
  · obtain ⟨p, f, rfl, _⟩ := h
    rfl
  · obtain ⟨p, f, rfl, hf, q⟩ := h
    have fin : ∀ {f : CL} {l : Addr} {xs : List V}, H l = none → xs = natL (rf1 f) → (∀ (t : Addr) (H' : Hp), H' t = some (.lst (natL (rf1 f))) → H t = none → Same H H' → Q (.ref t) H') → Q (.ref l) (upd H l (.lst xs)) := fun {f l xs} n e q => q l _ (by rw [upd_same, e]) n (same_upd n)
    cases f with
    | const v =>
      have hf : H p = some (.tup [.str "const", .int (v : Nat)]) := hf
      walk_at "ss"
      refine ⟨p, _, 0, _, rfl, rfl, SqT.of hf, rfl, ?_⟩
      walk_at "ss"
      refine ⟨p, _, 0, _, rfl, rfl, SqT.of hf, rfl, ?_⟩
      walk_at "ss"
      intro l hl
      exact fin hl rfl q
    | letter =>
      have hf : H p = some (.tup [.str "letter"]) := hf
      walk_at "ss"
      refine ⟨p, _, 0, _, rfl, rfl, SqT.of hf, rfl, ?_⟩
      walk_at "ss"
      refine ⟨p, _, 0, _, rfl, rfl, SqT.of hf, rfl, ?_⟩
      walk_at "ss"
      intro l hl
      exact fin hl rfl q
    | wire r t =>
      obtain ⟨q0, hf, -⟩ := hf
      walk_at "ss"
      refine ⟨p, _, 0, _, rfl, rfl, SqT.of hf, rfl, ?_⟩
      walk_at "ss"
      refine ⟨p, _, 1, _, rfl, rfl, SqT.of hf, rfl, ?_⟩
      walk_at "ss"
      intro l hl
      exact fin hl rfl q
    | join a b t =>
      obtain ⟨q0, qs, hf, -⟩ := hf
      walk_at "ss"
      refine ⟨p, _, 0, _, rfl, rfl, SqT.of hf, rfl, ?_⟩
      walk_at "ss"
      refine ⟨p, _, 0, _, rfl, rfl, SqT.of hf, rfl, ?_⟩
      walk_at "ss"
      refine ⟨p, _, 1, _, rfl, rfl, SqT.of hf, rfl, ?_⟩
      walk_at "ss"
      refine ⟨p, _, 2, _, rfl, rfl, SqT.of hf, rfl, ?_⟩
      walk_at "ss"
      intro l hl
      exact fin hl rfl q
    | latch n a r =>
      have hf : H p = some (.tup [.str "latch", .int (n : Nat), .int (a : Nat), .int (r : Nat)]) := hf
      walk_at "ss"
      refine ⟨p, _, 0, _, rfl, rfl, SqT.of hf, rfl, ?_⟩
      walk_at "ss"
      refine ⟨p, _, 0, _, rfl, rfl, SqT.of hf, rfl, ?_⟩
      walk_at "ss"
      intro l hl
      exact fin hl rfl q
    | counter n a r =>
      have hf : H p = some (.tup [.str "counter", .int (n : Nat), .int (a : Nat), .int (r : Nat)]) := hf
      walk_at "ss"
      refine ⟨p, _, 0, _, rfl, rfl, SqT.of hf, rfl, ?_⟩
      walk_at "ss"
      refine ⟨p, _, 0, _, rfl, rfl, SqT.of hf, rfl, ?_⟩
      walk_at "ss"
      intro l hl
      exact fin hl rfl q
/-- the kind of a line -/
def kindC : CL → Str
  | .const _ => "const"
  | .letter => "letter"
  | .wire _ _ => "wire"
  | .join _ _ _ => "join"
  | .latch _ _ _ => "latch"
  | .counter _ _ _ => "counter"
theorem CLAt.kind {H : Hp} {p : Addr} : ∀ {f : CL}, CLAt H p f → ∃ xs, H p = some (.tup (.str (kindC f) :: xs))
  | .const _, h => ⟨_, h⟩
  | .letter, h => ⟨_, h⟩
  | .wire _ _, ⟨_, h, _⟩ => ⟨_, h⟩
  | .join _ _ _, ⟨_, _, h, _⟩ => ⟨_, h⟩
  | .latch _ _ _, h => ⟨_, h⟩
  | .counter _ _ _, h => ⟨_, h⟩
theorem ok_is_cell (T : Env K mg) : FnOk P w K mg base CX0 1 T.f_is_cell T.fd_is_cell ["line"] spCell := by
  refine T.F_is_cell.ok sc_is_cell (fun vs H Q E h => ?_) (fun cdv A outer s H vs Q E hr h => ⟨_, ((pss_one (ps_ret (pe_or (pe_cmpR op_eq (pe_ix ix_tup (pv 0) pe_int (fun _ _ => rfl)) pe_str (nomark _)) (pe_one (pe_cmpR op_eq (pe_ix ix_tup (pv 0) pe_int (fun _ _ => rfl)) pe_str (nomark _))))))), ?_⟩)
  · obtain ⟨p, f, rfl, _⟩ := h
    rfl
  · obtain ⟨p, f, rfl, hf, q⟩ := h
    obtain ⟨xs, hp⟩ := hf.kind
    walk_at "ss"
    refine ⟨p, _, 0, _, rfl, rfl, SqT.of hp, at_zeroC, ?_⟩
    walk_at "ss"
    cases f with
    | latch n a r =>
      walk_at "ss"
      exact q
    | counter n a r =>
      walk_at "ss"
      refine ⟨p, _, 0, _, rfl, rfl, SqT.of hp, at_zeroC, ?_⟩
      walk_at "ss"
      exact q
    | const v =>
      walk_at "ss"
      refine ⟨p, _, 0, _, rfl, rfl, SqT.of hp, at_zeroC, ?_⟩
      walk_at "ss"
      exact q
    | letter =>
      walk_at "ss"
      refine ⟨p, _, 0, _, rfl, rfl, SqT.of hp, at_zeroC, ?_⟩
      walk_at "ss"
      exact q
    | wire r t =>
      walk_at "ss"
      refine ⟨p, _, 0, _, rfl, rfl, SqT.of hp, at_zeroC, ?_⟩
      walk_at "ss"
      exact q
    | join a b t =>
      walk_at "ss"
      refine ⟨p, _, 0, _, rfl, rfl, SqT.of hp, at_zeroC, ?_⟩
      walk_at "ss"
      exact q
theorem ok_looks_behind (T : Env K mg) : FnOk P w K mg base CX0 2 T.f_looks_behind T.fd_looks_behind ["looks", "line"] spLooksB := by
  refine T.F_looks_behind.ok sc_looks_behind (fun vs H Q E h => ?_) (fun cdv A outer s H vs Q E hr h => ⟨_, ((pss_one (ps_ret (pe_or (pe_cmpR op_eq (pe_ix ix_tup (pv 1) pe_int (fun _ _ => rfl)) pe_str (nomark _)) (pe_one (pe_callB (cr_any rfl) (by rfl) T.z_any (by decide +kernel) (pa_cons (pe_lc (own := [("ref", 2)]) (g := (gName 2)) (tt := tYes) (te := (tOp (rIxL K) _ _)) rfl sc_looks_behind.nd (pi_list (pe_call (ok_refs_at_once T) (hr.mono (by decide)) (by rfl) T.g_refs_at_once T.F_refs_at_once.kp T.b_refs_at_once .nil pass0 (pa_cons (pv 1) pa_nil))) (blkOk_by (own := [("ref", 2)]) (N := N_looks_behind) (sc := defScope s_looks_behind) (by decide +kernel)) (fun _ _ _ _ _ => (pg_name (i := 2) sc_looks_behind.nd rfl (.inl rfl))) (fun _ _ _ _ _ => pts_nil) (fun _ _ _ _ _ => (pe_ix ix_list (pv 0) (pv 2) (fun _ _ => rfl)))) pa_nil))))))), ?_⟩)
  · obtain ⟨k, p, lk, f, rfl, _⟩ := h
    rfl
  · obtain ⟨k, p, lk, f, rfl, hk, hf, hlt, q⟩ := h
    obtain ⟨xs, hp⟩ := hf.kind
    walk_at "ss"
    refine ⟨p, _, 0, _, rfl, rfl, SqT.of hp, at_zeroC, ?_⟩
    walk_at "ss"
    by_cases hl : f = .letter
    · subst hl
      walk_at "ss"
      exact q _ (Same.refl _)
    · have e : decide (V.str (kindC f) = V.str "letter") = false := by
        have k : ∀ s : Str, s ∈ (["const", "wire", "join", "latch", "counter"] : List Str) → decide (V.str s = V.str "letter") = false := by decide +kernel
        cases f <;> first | exact absurd rfl hl | exact k _ (by simp [kindC])
      have lo : lkOf f lk = (rf1 f).any fun r => lk.getD r false := by
        cases f <;> first | exact absurd rfl hl | rfl
      rw [e]
      walk_at "ss"
      intro t H1 ht n s1
      walk_at "ss"
      refine ⟨⟨_, SqL.of ht⟩, ?_⟩
      intro D hD
      have r2 : (rf1 f).length ≤ 2 := by cases f <;> simp [rf1]
      refine lc_gen walk_list (fun H' => Same H1 H') (fun i y => ∃ r, (rf1 f)[i]? = some r ∧ y = V.bl (lk.getD r false)) (by rw [natL_len]; omega) (same_upd hD) (fun _ h => SqL.of (h _ _ ht)) (fun _ _ h => same_mut h hD) ?_ ?_
      · rintro i x H2 H3 Q1 hlt2 hI ⟨rfl, hx⟩ - hQ
        obtain ⟨r, er, rfl⟩ := natI_at hx
        have lt := hlt r (List.mem_of_getElem? er)
        walk_at "ss"
        refine ⟨k, _, _, _, rfl, rfl, SqL.of (hI _ _ (s1 _ _ hk)), atI_nat (boolL_at lt), ?_⟩
        exact hQ _ _ ⟨r, er, rfl⟩ hI fun _ h => h
      · intro H2 ys hI hy hl2 hr2
        have e : ys = boolL ((rf1 f).map fun r => lk.getD r false) := any_getD (by rw [hl2, natL_len]) hr2
        subst e
        walk_at "ss"
        refine ⟨D, _, rfl, SqL.of hy, ?_⟩
        rw [show ((rf1 f).map fun r => lk.getD r false).any id = (rf1 f).any (fun r => lk.getD r false) by rw [List.any_map]; rfl, ← lo]
        exact q _ (s1.trans hI)
end

def spMeas : Sp := fun vs H Q _ => ∃ (r : Addr) (L : Nat) (cls : List CL), vs = [.ref r, .int (L : Nat)] ∧ CLsA H r cls ∧ COk L cls ∧ 1 ≤ L ∧ L ≤ 1000 ∧ 1 ≤ cls.length ∧ cls.length ≤ 4000 ∧ lkC cls (cls.length - 1) = false ∧
  ∀ (t a b : Addr) (H' : Hp), H' t = some (.tup [.ref a, .ref b]) → H' a = some (.lst (natL (cls.map (szC L)))) → H' b = some (.lst (boolL (lkS cls cls.length))) → H a = none → H b = none → Same H H' → Q (.ref t) H'
section
variable {P : Program} {w : World} {K : PySem.W.Frag} {mg : Str → Option Value} {base : Heap}
theorem good_measured (T : Env K mg) : FnOk P w K mg base (L2.CX P w) 6 T.f_measured T.fd_measured ["lines", "letters"] spMeas := by
  refine T.F_measured.okX sc_measured (fun vs H Q E h => ?_) (fun cdv A outer s H vs Q E hr h => ⟨_, ((pss_cons (ps_set (i := 2) sc_measured.nd rfl (.inl rfl) (pe_lst pa_nil))
      (pss_cons (ps_set (i := 3) sc_measured.nd rfl (.inl rfl) (pe_lst pa_nil))
      (pss_cons (ps_for (passes_of rfl) rfl (pi_enumA (by rfl) T.z_enumerate (pa_cons (pv 0) pa_nil)) (pg_tup (by rfl) (pgs_cons (pg_name (i := 4) sc_measured.nd rfl (.inl rfl)) (pgs_cons (pg_name (i := 5) sc_measured.nd rfl (.inl rfl)) pgs_nil)))
      (pss_cons (ps_set (i := 6) sc_measured.nd rfl (.inl rfl) (pe_call (ok_size_behind T) (hr.mono (by decide)) (by rfl) T.g_size_behind T.F_size_behind.kp T.b_size_behind .nil pass0 (pa_cons (pv 2) (pa_cons (pv 5) (pa_cons (pv 1) pa_nil)))))
      (pss_cons (ps_if (pt_cmpR op_isN (pv 6) pe_non (nomark _))
      (pss_one (ps_raise rfl (takes_of rfl rfl rfl rfl) (pmk_oex T.x_InvalidLine T.i_InvalidLine___init T.t_InvalidLine___init (ok_InvalidLine___init T) (hr.mono (by decide)) T.b_InvalidLine___init .nil pass0 (by rfl) T.gC_InvalidLine (pa_cons (pv 4) pa_nil))))
      pss_nil)
      (pss_cons (ps_expr (pe_bm PySem.F.plainAttrs_list PySem.F.slot_list_append PySem.F.type_list_append mt_append (pv 2) (pa_cons (pv 6) pa_nil)))
      (pss_one (ps_expr (pe_bm PySem.F.plainAttrs_list PySem.F.slot_list_append PySem.F.type_list_append mt_append (pv 3) (pa_cons (pe_call (ok_looks_behind T) (hr.mono (by decide)) (by rfl) T.g_looks_behind T.F_looks_behind.kp T.b_looks_behind .nil pass0 (pa_cons (pv 3) (pa_cons (pv 5) pa_nil))) pa_nil))))))))
      (pss_cons (ps_if (pt_val (pe_ix ix_list (pv 3) (pe_un un_neg pe_int) (fun _ _ => rfl)))
      (pss_one (ps_raise rfl (takes_of rfl rfl rfl rfl) (pmk_oex T.x_InvalidLine T.i_InvalidLine___init T.t_InvalidLine___init (ok_InvalidLine___init T) (hr.mono (by decide)) T.b_InvalidLine___init .nil pass0 (by rfl) T.gC_InvalidLine (pa_cons (pe_op op_sub (pe_callB call_len_seq (by rfl) T.z_len (by decide +kernel) (pa_cons (pv 0) pa_nil)) pe_int) pa_nil))))
      pss_nil)
      (pss_one (ps_ret (pe_tup (pa_cons (pv 2) (pa_cons (pv 3) pa_nil)))))))))), ?_⟩)
  · obtain ⟨r, L, cls, rfl, _⟩ := h
    rfl
  · obtain ⟨r, L, cls, rfl, hf, ok, L1, L9, n1, n9, hlk, q⟩ := h
    obtain ⟨xs, hx, hl, hat⟩ := hf.seqs
    walk_at "ss"
    intro a ha
    have s1 := same_upd (o := .lst []) ha
    walk_at "ss"
    intro b hb
    have hb0 : H b = none := s1.free hb
    have ab : a ≠ b := (ne_none hb upd_same).symm
    have s2 := s1.trans (same_upd (o := .lst []) hb)
    walk_at "ss"
    refine ⟨r, xs, rfl, ?_⟩
    rcases hx with hx | hx
    all_goals first | refine .inl ⟨SqL.of (s2 _ _ hx), ?_⟩ | refine .inr ⟨SqT.of (s2 _ _ hx), ?_⟩
    all_goals first
      | refine for_it walk_enum (fun i σ H' => Stp (Same H H' ∧ H' a = some (.lst (natL ((cls.take i).map (szC L)))) ∧ H' b = some (.lst (boolL (lkS cls i))) ∧ ∃ y4 y5 y6 : Option V, σ = [some (.ref r), some (.int (L : Nat)), some (.ref a), some (.ref b), y4, y5, y6])) (.mk ⟨s2, by rw [upd_ne ab]; exact upd_same, upd_same, _, _, _, rfl⟩) (fun i σ H' _ h => h.of.1.seq (SqL.of hx)) ?_ ?_
      | refine for_it walk_enumT (fun i σ H' => Stp (Same H H' ∧ H' a = some (.lst (natL ((cls.take i).map (szC L)))) ∧ H' b = some (.lst (boolL (lkS cls i))) ∧ ∃ y4 y5 y6 : Option V, σ = [some (.ref r), some (.int (L : Nat)), some (.ref a), some (.ref b), y4, y5, y6])) (.mk ⟨s2, by rw [upd_ne ab]; exact upd_same, upd_same, _, _, _, rfl⟩) (fun i σ H' _ h => same_tup h.of.1 (SqT.of hx)) ?_ ?_
    iterate 2
      · rintro i y σ H3 H4 hi hP ⟨Tt, u, v, rfl, nT, rfl, eu, ev⟩
        obtain ⟨s3, ha3, hb3, y4, y5, y6, rfl⟩ := hP.of
        clear hP
        cases eu
        rw [hl] at hi
        obtain ⟨f, hfi⟩ : ∃ f, cls[i]? = some f := ⟨_, List.getElem?_eq_getElem hi⟩
        obtain ⟨p, g3, g4⟩ := hat i f hfi
        have ev : xs[i]? = some v := ev
        rw [g3] at ev
        cases ev
        have s4 : Same H3 (upd H3 Tt (.tup [.int (i : Nat), .ref p])) := same_upd nT
        refine ⟨Tt, _, rfl, .inl (.inl upd_same), rfl, _, _, rfl, _, _, rfl, rfl, ?_⟩
        have ha4 := s4 _ _ ha3
        have hb4 := s4 _ _ hb3
        have s04 := s3.trans s4
        have g4 := g4.same s04
        clear s4 ha3 hb3 s3 nT
        generalize upd H3 Tt (.tup [.int (i : Nat), .ref p]) = H4 at *
        have okf := ok i f hfi
        have tl : ((cls.take i).map (szC L)).length = i := by rw [List.length_map, List.length_take]; omega
        have tg : ∀ j < i, ((cls.take i).map (szC L)).getD j 0 = szAt L cls j := fun j hj => by
          unfold szAt
          rw [List.getD_eq_getElem?_getD, List.getD_eq_getElem?_getD, List.getElem?_map, List.getElem?_map, List.getElem?_take_of_lt hj]
        have tk1 : (cls.take (i + 1)).map (szC L) = (cls.take i).map (szC L) ++ [szC L f] := by
          rw [List.take_add_one, hfi, List.map_append]
          rfl
        walk_at "ss"
        refine .inl ⟨a, p, _, L, f, rfl, ha4, g4, by rw [tl]; exact okf.congr fun j hj => (tg j hj).symm, fun j hj => ?_, fun H5 s5 => ?_⟩
        · rw [tl] at hj
          rw [tg j hj]
          exact ⟨ok.posAt L1 (by omega), ok.leAt L9 j⟩
        walk_at "ss"
        refine ⟨.inl ⟨rfl, _, SqL.of (s5 _ _ ha4)⟩, ?_⟩
        walk_at "ss"
        refine ⟨a, _, _, rfl, rfl, (s5 _ _ ha4), szl (by rw [natL_len, tl]; omega), ?_⟩
        have sA := same_mut (o := .lst (natL ((cls.take i).map (szC L)) ++ [.int (szC L f : Nat)])) (s04.trans s5) ha
        have hb6 : upd H5 a (.lst (natL ((cls.take i).map (szC L)) ++ [.int (szC L f : Nat)])) b = some (.lst (boolL (lkS cls i))) := by
          rw [upd_ne ab.symm]
          exact s5 _ _ hb4
        have ha6 : upd H5 a (.lst (natL ((cls.take i).map (szC L)) ++ [.int (szC L f : Nat)])) a = some (.lst (natL ((cls.take (i + 1)).map (szC L)))) := by
          rw [upd_same, tk1, natL_snoc]
        have g6 : CLAt (upd H5 a (.lst (natL ((cls.take i).map (szC L)) ++ [.int (szC L f : Nat)]))) p f := (g4.same s5).keep (TupKeep.put (.refl _) (s5 _ _ ha4))
        clear g4 ha4 hb4
        generalize upd H5 a (.lst (natL ((cls.take i).map (szC L)) ++ [.int (szC L f : Nat)])) = H6 at *
        walk_at "ss"
        refine ⟨.inl ⟨rfl, _, SqL.of hb6⟩, ?_⟩
        walk_at "ss"
        have ll : (lkS cls i).length = i := lkS_len (by omega)
        refine ⟨b, p, _, f, rfl, hb6, g6, by rw [ll]; exact okf.rf, fun H7 s7 => ?_⟩
        refine ⟨b, _, _, rfl, rfl, (s7 _ _ hb6), szl (by rw [boolL_len, ll]; omega), ?_⟩
        refine .mk ⟨same_mut (sA.trans s7) hb0, by rw [upd_ne ab]; exact s7 _ _ ha6, ?_, _, _, _, rfl⟩
        rw [upd_same, lkS_succ hfi, boolL_snoc]
      · rintro σ H3 hP
        obtain ⟨s3, ha3, hb3, y4, y5, y6, rfl⟩ := hP.of
        rw [hl] at ha3 hb3
        rw [List.take_length] at ha3
        have ll : (lkS cls cls.length).length = cls.length := lkS_len (Nat.le_refl _)
        walk_at "ss"
        refine ⟨b, _, _, _, rfl, rfl, SqL.of hb3, (show atI (boolL (lkS cls cls.length)) (-1) = some (.bl false) from ?_), ?_⟩
        · refine at_last ?_
          rw [List.getLast?_eq_getElem?, boolL_len, ll, boolL_at (by omega)]
          exact congrArg (fun b => some (V.bl b)) hlk
        walk_at "ss"
        intro t ht
        have s5 := same_upd (o := .tup [.ref a, .ref b]) ht
        exact q t a b _ upd_same (s5 _ _ ha3) (s5 _ _ hb3) ha hb0 (s3.trans s5)
/-- a line is wrong, or the last one looks -/
def spMeasB (K : PySem.W.Frag) (T : Env K mg) : Sp := fun vs H Q E => ∃ (r : Addr) (L : Nat) (cls : List CL) (xs : List V), vs = [.ref r, .int (L : Nat)] ∧ (H r = some (.lst xs) ∨ H r = some (.tup xs)) ∧ (∀ (i : Nat) (f : CL), cls[i]? = some f → ∃ p, xs[i]? = some (.ref p) ∧ CLAt H p f) ∧ COk L cls ∧ 1 ≤ L ∧ L ≤ 1000 ∧ xs.length ≤ 4000 ∧
  ((cls.length = xs.length ∧ 1 ≤ cls.length ∧ lkC cls (cls.length - 1) = true ∧ ErrE T.C_InvalidLine "InvalidLine" "at" (.int ((cls.length : Int) - 1)) H E) ∨
   (∃ v d, xs[cls.length]? = some v ∧ Dp K H v d ∧ BadD (cls.map (szC L)) d ∧ ErrE T.C_InvalidLine "InvalidLine" "at" (.int (cls.length : Nat)) H E))
theorem bad_measured (T : Env K mg) : FnOk P w K mg base (L2.CX P w) 6 T.f_measured T.fd_measured ["lines", "letters"] (spMeasB K T) := by
  refine T.F_measured.okX sc_measured (fun vs H Q E h => ?_) (fun cdv A outer s H vs Q E hr h => ⟨_, ((pss_cons (ps_set (i := 2) sc_measured.nd rfl (.inl rfl) (pe_lst pa_nil))
      (pss_cons (ps_set (i := 3) sc_measured.nd rfl (.inl rfl) (pe_lst pa_nil))
      (pss_cons (ps_for (passes_of rfl) rfl (pi_enumA (by rfl) T.z_enumerate (pa_cons (pv 0) pa_nil)) (pg_tup (by rfl) (pgs_cons (pg_name (i := 4) sc_measured.nd rfl (.inl rfl)) (pgs_cons (pg_name (i := 5) sc_measured.nd rfl (.inl rfl)) pgs_nil)))
      (pss_cons (ps_set (i := 6) sc_measured.nd rfl (.inl rfl) (pe_call (ok_size_behind T) (hr.mono (by decide)) (by rfl) T.g_size_behind T.F_size_behind.kp T.b_size_behind .nil pass0 (pa_cons (pv 2) (pa_cons (pv 5) (pa_cons (pv 1) pa_nil)))))
      (pss_cons (ps_if (pt_cmpR op_isN (pv 6) pe_non (nomark _))
      (pss_one (ps_raise rfl (takes_of rfl rfl rfl rfl) (pmk_oex T.x_InvalidLine T.i_InvalidLine___init T.t_InvalidLine___init (ok_InvalidLine___init T) (hr.mono (by decide)) T.b_InvalidLine___init .nil pass0 (by rfl) T.gC_InvalidLine (pa_cons (pv 4) pa_nil))))
      pss_nil)
      (pss_cons (ps_expr (pe_bm PySem.F.plainAttrs_list PySem.F.slot_list_append PySem.F.type_list_append mt_append (pv 2) (pa_cons (pv 6) pa_nil)))
      (pss_one (ps_expr (pe_bm PySem.F.plainAttrs_list PySem.F.slot_list_append PySem.F.type_list_append mt_append (pv 3) (pa_cons (pe_call (ok_looks_behind T) (hr.mono (by decide)) (by rfl) T.g_looks_behind T.F_looks_behind.kp T.b_looks_behind .nil pass0 (pa_cons (pv 3) (pa_cons (pv 5) pa_nil))) pa_nil))))))))
      (pss_cons (ps_if (pt_val (pe_ix ix_list (pv 3) (pe_un un_neg pe_int) (fun _ _ => rfl)))
      (pss_one (ps_raise rfl (takes_of rfl rfl rfl rfl) (pmk_oex T.x_InvalidLine T.i_InvalidLine___init T.t_InvalidLine___init (ok_InvalidLine___init T) (hr.mono (by decide)) T.b_InvalidLine___init .nil pass0 (by rfl) T.gC_InvalidLine (pa_cons (pe_op op_sub (pe_callB call_len_seq (by rfl) T.z_len (by decide +kernel) (pa_cons (pv 0) pa_nil)) pe_int) pa_nil))))
      pss_nil)
      (pss_one (ps_ret (pe_tup (pa_cons (pv 2) (pa_cons (pv 3) pa_nil)))))))))), ?_⟩)
  · obtain ⟨r, L, cls, xs, rfl, _⟩ := h
    rfl
  · obtain ⟨r, L, cls, xs, rfl, hx, hat, ok, L1, L9, n9, hq⟩ := h
    have le : cls.length ≤ xs.length := by
      rcases hq with ⟨e, _⟩ | ⟨v, d, e, _⟩
      · omega
      · have := (List.getElem?_eq_some_iff.mp e).1
        omega
    walk_at "ss"
    intro a ha
    have s1 := same_upd (o := .lst []) ha
    walk_at "ss"
    intro b hb
    have hb0 : H b = none := s1.free hb
    have ab : a ≠ b := (ne_none hb upd_same).symm
    have s2 := s1.trans (same_upd (o := .lst []) hb)
    walk_at "ss"
    refine ⟨r, xs, rfl, ?_⟩
    rcases hx with hx | hx
    all_goals first | refine .inl ⟨SqL.of (s2 _ _ hx), ?_⟩ | refine .inr ⟨SqT.of (s2 _ _ hx), ?_⟩
    all_goals first
      | refine for_it walk_enum (fun i σ H' => Stp (i ≤ cls.length ∧ Same H H' ∧ H' a = some (.lst (natL ((cls.take i).map (szC L)))) ∧ H' b = some (.lst (boolL (lkS cls i))) ∧ ∃ y4 y5 y6 : Option V, σ = [some (.ref r), some (.int (L : Nat)), some (.ref a), some (.ref b), y4, y5, y6])) (.mk ⟨Nat.zero_le _, s2, by rw [upd_ne ab]; exact upd_same, upd_same, _, _, _, rfl⟩) (fun i σ H' _ h => h.of.2.1.seq (SqL.of hx)) ?_ ?_
      | refine for_it walk_enumT (fun i σ H' => Stp (i ≤ cls.length ∧ Same H H' ∧ H' a = some (.lst (natL ((cls.take i).map (szC L)))) ∧ H' b = some (.lst (boolL (lkS cls i))) ∧ ∃ y4 y5 y6 : Option V, σ = [some (.ref r), some (.int (L : Nat)), some (.ref a), some (.ref b), y4, y5, y6])) (.mk ⟨Nat.zero_le _, s2, by rw [upd_ne ab]; exact upd_same, upd_same, _, _, _, rfl⟩) (fun i σ H' _ h => same_tup h.of.2.1 (SqT.of hx)) ?_ ?_
    iterate 2
      · rintro i y σ H3 H4 hi hP ⟨Tt, u, v, rfl, nT, rfl, eu, ev⟩
        obtain ⟨ile, s3, ha3, hb3, y4, y5, y6, rfl⟩ := hP.of
        clear hP
        cases eu
        have ev : xs[i]? = some v := ev
        have s4 : Same H3 (upd H3 Tt (.tup [.int (i : Nat), v])) := same_upd nT
        refine ⟨Tt, _, rfl, .inl (.inl upd_same), rfl, _, _, rfl, _, _, rfl, rfl, ?_⟩
        have ha4 := s4 _ _ ha3
        have hb4 := s4 _ _ hb3
        have s04 := s3.trans s4
        clear s4 ha3 hb3 s3 nT
        generalize upd H3 Tt (.tup [.int (i : Nat), v]) = H4 at *
        walk_at "ss"
        by_cases hic : i < cls.length
        · obtain ⟨f, hfi⟩ : ∃ f, cls[i]? = some f := ⟨_, List.getElem?_eq_getElem hic⟩
          obtain ⟨p, g3, g4⟩ := hat i f hfi
          rw [g3] at ev
          cases ev
          have g4 := g4.same s04
          have okf := ok i f hfi
          have tl : ((cls.take i).map (szC L)).length = i := by rw [List.length_map, List.length_take]; omega
          have tg : ∀ j < i, ((cls.take i).map (szC L)).getD j 0 = szAt L cls j := fun j hj => by
            unfold szAt
            rw [List.getD_eq_getElem?_getD, List.getD_eq_getElem?_getD, List.getElem?_map, List.getElem?_map, List.getElem?_take_of_lt hj]
          have tk1 : (cls.take (i + 1)).map (szC L) = (cls.take i).map (szC L) ++ [szC L f] := by
            rw [List.take_add_one, hfi, List.map_append]
            rfl
          refine .inl ⟨a, p, _, L, f, rfl, ha4, g4, by rw [tl]; exact okf.congr fun j hj => (tg j hj).symm, fun j hj => ?_, fun H5 s5 => ?_⟩
          · rw [tl] at hj
            rw [tg j hj]
            exact ⟨ok.posAt L1 (by omega), ok.leAt L9 j⟩
          walk_at "ss"
          refine ⟨.inl ⟨rfl, _, SqL.of (s5 _ _ ha4)⟩, ?_⟩
          walk_at "ss"
          refine ⟨a, _, _, rfl, rfl, (s5 _ _ ha4), szl (by rw [natL_len, tl]; omega), ?_⟩
          have sA := same_mut (o := .lst (natL ((cls.take i).map (szC L)) ++ [.int (szC L f : Nat)])) (s04.trans s5) ha
          have hb6 : upd H5 a (.lst (natL ((cls.take i).map (szC L)) ++ [.int (szC L f : Nat)])) b = some (.lst (boolL (lkS cls i))) := by
            rw [upd_ne ab.symm]
            exact s5 _ _ hb4
          have ha6 : upd H5 a (.lst (natL ((cls.take i).map (szC L)) ++ [.int (szC L f : Nat)])) a = some (.lst (natL ((cls.take (i + 1)).map (szC L)))) := by
            rw [upd_same, tk1, natL_snoc]
          have g6 : CLAt (upd H5 a (.lst (natL ((cls.take i).map (szC L)) ++ [.int (szC L f : Nat)]))) p f := (g4.same s5).keep (TupKeep.put (.refl _) (s5 _ _ ha4))
          clear g4 ha4 hb4
          generalize upd H5 a (.lst (natL ((cls.take i).map (szC L)) ++ [.int (szC L f : Nat)])) = H6 at *
          walk_at "ss"
          refine ⟨.inl ⟨rfl, _, SqL.of hb6⟩, ?_⟩
          walk_at "ss"
          have ll : (lkS cls i).length = i := lkS_len (by omega)
          refine ⟨b, p, _, f, rfl, hb6, g6, by rw [ll]; exact okf.rf, fun H7 s7 => ?_⟩
          refine ⟨b, _, _, rfl, rfl, (s7 _ _ hb6), szl (by rw [boolL_len, ll]; omega), ?_⟩
          refine .mk ⟨hic, same_mut (sA.trans s7) hb0, by rw [upd_ne ab]; exact s7 _ _ ha6, ?_, _, _, _, rfl⟩
          rw [upd_same, lkS_succ hfi, boolL_snoc]
        · obtain rfl : i = cls.length := by omega
          rcases hq with ⟨e, _⟩ | ⟨v2, d, e2, hd, hbd, qE⟩
          · exact absurd e.symm (by omega)
          · rw [e2] at ev
            cases ev
            refine .inr ⟨a, _, _, (L : Nat), d, rfl, ha4, dp_same hd s04, by rw [List.take_length]; exact hbd, fun H5 s5 => ?_⟩
            walk_at "ss"
            first | exact err_out (fun d G _ s6 e => qE d G (s04.trans (s5.trans s6)) e) | exact (err_out (fun d G _ s6 e => qE d G (s04.trans (s5.trans s6)) e)).2
      · rintro σ H3 hP
        obtain ⟨ile, s3, ha3, hb3, y4, y5, y6, rfl⟩ := hP.of
        rcases hq with ⟨e, n1, hlk, qE⟩ | ⟨v2, d, e2, hd, hbd, qE⟩
        · have ll : (lkS cls cls.length).length = cls.length := lkS_len (Nat.le_refl _)
          rw [← e] at hb3
          walk_at "ss"
          refine ⟨b, _, _, _, rfl, rfl, SqL.of hb3, (show atI (boolL (lkS cls cls.length)) (-1) = some (.bl true) from ?_), ?_⟩
          · refine at_last ?_
            rw [List.getLast?_eq_getElem?, boolL_len, ll, boolL_at (by omega)]
            exact congrArg (fun b => some (V.bl b)) hlk
          walk_at "ss"
          refine ⟨r, xs, rfl, ?_, ?_⟩
          · first | exact .inl (SqL.of (s3 _ _ hx)) | exact .inr (SqT.of (s3 _ _ hx))
          rw [← e]
          walk_at "ss"
          first | exact err_out (fun d G _ s6 e => qE d G (s3.trans s6) e) | exact (err_out (fun d G _ s6 e => qE d G (s3.trans s6) e)).2
        · have := (List.getElem?_eq_some_iff.mp e2).1
          omega
theorem ok_measured (T : Env K mg) : FnOk P w K mg base (L2.CX P w) 6 T.f_measured T.fd_measured ["lines", "letters"] (fun vs H Q E => spMeas vs H Q E ∨ spMeasB K T vs H Q E) := fnok_or (good_measured T) (bad_measured T)
end


theorem nat_few : ∀ (n : Nat) (l : List Nat), l.Nodup → (∀ x ∈ l, x < n) → l.length ≤ n
  | 0, l, _, h => by
    cases l with
    | nil => simp
    | cons a l => exact absurd (h a (List.mem_cons_self ..)) (Nat.not_lt_zero _)
  | n + 1, l, nd, h => by
    have ih := nat_few n (l.erase n) (nd.erase n) fun x hx => by
      have h1 := h x (List.mem_of_mem_erase hx)
      have h2 : x ≠ n := fun z => by
        rw [z] at hx
        exact (List.Nodup.not_mem_erase nd) hx
      omega
    by_cases hn : n ∈ l
    · rw [List.length_erase_of_mem hn] at ih
      omega
    · rw [List.erase_of_not_mem hn] at ih
      omega
def filV {α β : Type} (l : List α) (p : α → Bool) (g : α → β) (i : Nat) : Option β := match l[i]? with | some a => if p a = true then some (g a) else none | none => none
theorem filV_at {α β : Type} {l : List α} {p : α → Bool} {g : α → β} {i : Nat} {a : α} (e : l[i]? = some a) : filV l p g i = if p a = true then some (g a) else none := by
  unfold filV
  rw [e]
theorem fil_list {α β : Type} (l : List α) (p : α → Bool) (g : α → β) : (List.range l.length).filterMap (filV l p g) = (l.filter p).map g := by
  have h : ∀ (m pre : List α), l = pre ++ m → (List.range' pre.length m.length).filterMap (filV l p g) = (m.filter p).map g := by
    intro m
    induction m with
    | nil => intro pre e; rfl
    | cons c m ih =>
      intro pre e
      have hc : l[pre.length]? = some c := by rw [e]; simp
      have ih2 := ih (pre ++ [c]) (by rw [e]; simp)
      rw [List.length_append] at ih2
      rw [List.length_cons, List.range'_succ, List.filterMap_cons, List.filter_cons, filV_at hc]
      by_cases hm : p c = true
      · rw [if_pos hm, if_pos hm]
        exact congrArg (g c :: ·) ih2
      · rw [if_neg hm, if_neg hm]
        exact ih2
  have := h l [] rfl
  rw [List.length_nil] at this
  rw [← this, List.range_eq_range']
/-- a dict whose keys are numbers -/
def NDict (H : Hp) (D : Addr) (N : List Nat) : Prop := ∃ kvs : List (Key × V), H D = some (.dK kvs) ∧ kvs.map Prod.fst = N.map (fun n : Nat => (Sum.inl (n : Int) : Key)) ∧ N.Nodup
theorem NDict.same {H H' : Hp} {D : Addr} {N : List Nat} (h : NDict H D N) (s : Same H H') : NDict H' D N := by
  obtain ⟨kvs, h1, h2, h3⟩ := h
  exact ⟨kvs, s _ _ h1, h2, h3⟩
theorem NDict.len {H : Hp} {D : Addr} {N : List Nat} {kvs : List (Key × V)} (h : NDict H D N) (e : H D = some (.dK kvs)) : kvs.length = N.length := by
  obtain ⟨k2, h1, h2, h3⟩ := h
  rw [h1] at e
  cases e
  have := congrArg List.length h2
  simpa using this
theorem NDict.get {H : Hp} {D : Addr} {N : List Nat} (h : NDict H D N) (n : Nat) : ∃ kvs, H D = some (.dK kvs) ∧ (valV kvs (Sum.inl (n : Int) : Key)).isSome = decide (n ∈ N) := by
  obtain ⟨kvs, h1, h2, h3⟩ := h
  refine ⟨kvs, h1, ?_⟩
  rw [Bool.eq_iff_iff]
  unfold valV
  rw [Option.isSome_map, List.find?_isSome]
  simp only [decide_eq_true_eq]
  constructor
  · rintro ⟨kv, hm, he⟩
    have hm2 : kv.1 ∈ kvs.map Prod.fst := List.mem_map.mpr ⟨kv, hm, rfl⟩
    rw [h2] at hm2
    obtain ⟨m, hmN, e⟩ := List.mem_map.mp hm2
    rw [he] at e
    injection e with e
    rw [← Int.ofNat.inj e]
    exact hmN
  · intro hm
    have : (Sum.inl (n : Int) : Key) ∈ kvs.map Prod.fst := by
      rw [h2]
      exact List.mem_map.mpr ⟨n, hm, rfl⟩
    obtain ⟨kv, hk, e⟩ := List.mem_map.mp this
    exact ⟨kv, hk, e⟩
theorem NDict.put {H : Hp} {D : Addr} {N : List Nat} {kvs : List (Key × V)} (h : NDict H D N) (e : H D = some (.dK kvs)) (n : Nat) (v : V) : ∃ N', NDict (upd H D (.dK (putK kvs (Sum.inl (n : Int) : Key) v))) D N' ∧ N'.length ≤ N.length + 1 ∧ ∀ x, x ∈ N' ↔ x ∈ N ∨ x = n := by
  obtain ⟨k2, h1, h2, h3⟩ := h
  rw [h1] at e
  cases e
  have any_iff : (kvs.any fun kv => decide (kv.1 = (Sum.inl (n : Int) : Key))) = true ↔ n ∈ N := by
    rw [List.any_eq_true]
    constructor
    · rintro ⟨kv, hm, he⟩
      have he := of_decide_eq_true he
      have hm2 : kv.1 ∈ kvs.map Prod.fst := List.mem_map.mpr ⟨kv, hm, rfl⟩
      rw [h2] at hm2
      obtain ⟨m, hmN, e⟩ := List.mem_map.mp hm2
      rw [he] at e
      injection e with e
      rw [← Int.ofNat.inj e]
      exact hmN
    · intro hm
      have : (Sum.inl (n : Int) : Key) ∈ kvs.map Prod.fst := by
        rw [h2]
        exact List.mem_map.mpr ⟨n, hm, rfl⟩
      obtain ⟨kv, hk, e⟩ := List.mem_map.mp this
      exact ⟨kv, hk, decide_eq_true e⟩
  by_cases hn : n ∈ N
  · refine ⟨N, ⟨_, upd_same, ?_, h3⟩, Nat.le_succ _, fun x => ⟨.inl, fun h => h.elim id fun h => h ▸ hn⟩⟩
    unfold putK
    rw [if_pos (any_iff.mpr hn), List.map_map, ← h2]
    refine List.map_congr_left fun kv _ => ?_
    show (if kv.1 = _ then _ else _ : Key × V).1 = kv.1
    split <;> rfl
  · refine ⟨N ++ [n], ⟨_, upd_same, ?_, ?_⟩, by simp, fun x => by simp⟩
    · unfold putK
      rw [if_neg (fun h => hn (any_iff.mp h)), List.map_append, List.map_append, h2]
      rfl
    · rw [List.nodup_append]
      exact ⟨h3, by simp, fun x hx y hy => by
        simp at hy
        rw [hy]
        exact fun e => hn (e ▸ hx)⟩
theorem NDict.keys {H : Hp} {D : Addr} {N : List Nat} {kvs : List (Key × V)} (h : NDict H D N) (e : H D = some (.dK kvs)) : (kvs.map fun kv => kV kv.1) = (N.map fun n : Nat => (n : Int)).map V.int := by
  obtain ⟨k2, h1, h2, h3⟩ := h
  rw [h1] at e
  cases e
  rw [show (kvs.map fun kv => kV kv.1) = (kvs.map Prod.fst).map kV by rw [List.map_map]; rfl, h2, List.map_map, List.map_map]
  rfl
theorem NDict.put2 {H : Hp} {D f : Addr} {N : List Nat} {xs : List V} {o : HO} (h : NDict H D N) (hf : H f = some (.lst xs)) : NDict (upd H f o) D N := by
  obtain ⟨kvs, h1, h2, h3⟩ := h
  exact ⟨kvs, by rw [upd_ne (fun z => by rw [z, hf] at h1; cases h1)]; exact h1, h2, h3⟩
def clAt (cls : List CL) (j : Nat) : Bool := match cls[j]? with | some f => isCl f | none => false
theorem clAt_of {cls : List CL} {j : Nat} {f : CL} (e : cls[j]? = some f) : clAt cls j = isCl f := by
  unfold clAt
  rw [e]
/-- a place whose value is at hand: a cell, or a place of the list -/
def InPl (cls : List CL) (ps : List Nat) (j : Nat) : Prop := (∃ f, cls[j]? = some f ∧ isCl f = true) ∨ j ∈ ps
def GoodPl (cls : List CL) (ps : List Nat) : Prop := ps.Pairwise (· < ·) ∧ ∀ j ∈ ps, ∃ f, cls[j]? = some f ∧ isCl f = false ∧ ∀ r ∈ rf1 f, InPl cls ps r
def spNeed : Sp := fun vs H Q _ => ∃ (r tl : Addr) (L : Nat) (cls : List CL) (ts : List Nat), vs = [.ref r, .ref tl, .non] ∧ CLs H r cls ∧ COk L cls ∧ cls.length ≤ 4000 ∧ H tl = some (.lst (natL ts)) ∧ ts.length ≤ 4000 ∧ (∀ t ∈ ts, t < cls.length) ∧
  ∀ (p : Addr) (ps : List Nat) (H' : Hp), H' p = some (.lst (natL ps)) → GoodPl cls ps → (∀ t ∈ ts, InPl cls ps t) → (∀ Pd : Nat → Prop, (∀ t ∈ ts, Pd t) → (∀ j f, cls[j]? = some f → Pd j → ∀ r ∈ rf1 f, Pd r) → ∀ j ∈ ps, Pd j) → H p = none → Same H H' → Q (.ref p) H'
/-- what is needed, as far as it is known when the lines from k on were looked at -/
structure NeedAt (cls : List CL) (ts : List Nat) (k : Nat) (N : List Nat) : Prop where
  lt : ∀ x ∈ N, x < cls.length
  tg : ∀ t ∈ ts, t ∈ N
  cl : ∀ j f, cls[j]? = some f → k ≤ j → j ∈ N → ∀ r ∈ rf1 f, r ∈ N
  mi : ∀ Pd : Nat → Prop, (∀ t ∈ ts, Pd t) → (∀ j f, cls[j]? = some f → Pd j → ∀ r ∈ rf1 f, Pd r) → ∀ j ∈ N, Pd j
theorem NeedAt.skip {cls : List CL} {ts : List Nat} {k : Nat} {N : List Nat} (h : NeedAt cls ts (k + 1) N) (hn : k ∉ N) : NeedAt cls ts k N := ⟨h.lt, h.tg, fun j f e hj hm r hr => by
    by_cases z : j = k
    · exact absurd (z ▸ hm) hn
    · exact h.cl j f e (by omega) hm r hr, h.mi⟩
theorem NeedAt.step {L : Nat} {cls : List CL} {ts : List Nat} {k : Nat} {N N' : List Nat} {f : CL} (h : NeedAt cls ts (k + 1) N) (ok : COk L cls) (e : cls[k]? = some f) (hk : k ∈ N) (hN : ∀ x, x ∈ N' ↔ x ∈ N ∨ x ∈ rf1 f) : NeedAt cls ts k N' := by
  have kl := (List.getElem?_eq_some_iff.mp e).1
  have rf := (ok k f e).rf
  refine ⟨fun x hx => ?_, fun t ht => (hN t).mpr (.inl (h.tg t ht)), fun j g eg hj hm r hr => (hN r).mpr ?_, fun Pd a b j hj => ?_⟩
  · rcases (hN x).mp hx with hx | hx
    · exact h.lt x hx
    · have := rf x hx
      omega
  · by_cases z : j = k
    · subst z
      rw [e] at eg
      cases eg
      exact .inr hr
    · have hm2 : j ∈ N := by
        rcases (hN j).mp hm with hm | hm
        · exact hm
        · have := rf j hm
          omega
      exact .inl (h.cl j g eg (by omega) hm2 r hr)
  · rcases (hN j).mp hj with hj | hj
    · exact h.mi Pd a b j hj
    · exact b k f e (h.mi Pd a b k hk) j hj
theorem sorted_nat {N : List Nat} {ns : List Int} (nd : N.Nodup) (pm : ns.Perm (N.map fun n : Nat => (n : Int))) (pw : ns.Pairwise (· ≤ ·)) : ∃ M : List Nat, ns = M.map (fun n : Nat => (n : Int)) ∧ M.Pairwise (· < ·) ∧ M.Perm N := by
  have e : ns = (ns.map Int.toNat).map fun n : Nat => (n : Int) := by
    rw [List.map_map]
    conv => lhs; rw [← List.map_id ns]
    refine List.map_congr_left fun x hx => ?_
    obtain ⟨n, -, rfl⟩ := List.mem_map.mp (pm.mem_iff.mp hx)
    rfl
  have pm2 : (ns.map Int.toNat).Perm N := by
    have := pm.map Int.toNat
    rw [List.map_map] at this
    have z : (Int.toNat ∘ fun n : Nat => (n : Int)) = id := rfl
    rw [z, List.map_id] at this
    exact this
  refine ⟨_, e, ?_, pm2⟩
  have nd2 : (ns.map Int.toNat).Nodup := pm2.nodup_iff.mpr nd
  have le : (ns.map Int.toNat).Pairwise (· ≤ ·) := by
    rw [List.pairwise_map]
    exact pw.imp fun h => by omega
  exact (List.pairwise_and_iff.mpr ⟨le, nd2⟩).imp fun ⟨a, b⟩ => Nat.lt_of_le_of_ne a b
theorem hr_dict {k : Nat} {A : Around} (r : Room k A) : A.units + 1 < cLine := by
  have := r.units
  omega
section
variable {P : Program} {w : World} {K : PySem.W.Frag} {mg : Str → Option Value} {base : Heap}
theorem ok_needed_places (T : Env K mg) : FnOk P w K mg base CX0 2 T.f_needed_places T.fd_needed_places ["lines", "targets", "known"] spNeed := by
  refine fund_ok0 T.F_needed_places sc_needed_places (fun vs H Q E h => ?_) (fun cdv A outer s H vs Q E hr h => ⟨_, ((pss_cons (ps_setDc (i := 3) (own := [("target", 6)]) (g := (gName 6)) (tt := tYes) sc_needed_places.nd rfl rfl (swD_true rfl rfl rfl (by decide +kernel)) rfl (pi_list (pv 1)) (blkOk_by (own := [("target", 6)]) (N := N_needed_places) (sc := defScope s_needed_places) (by decide +kernel)) (fun _ _ _ _ _ => (pg_name (i := 6) sc_needed_places.nd rfl (.inl rfl))) (fun _ _ _ _ _ => pts_nil) (fun _ _ _ _ _ => (pv 6)) (fun _ _ _ _ _ => pe_bl))
      (pss_cons (ps_for PassesOwn.never rfl (pi_revR (by rfl) T.z_reversed (prg_1 (by rfl) T.z_range (pe_callB call_len_seq (by rfl) T.z_len (by decide +kernel) (pa_cons (pv 0) pa_nil)))) (pg_name (i := 4) sc_needed_places.nd rfl (.inl rfl))
      (pss_one (ps_if (PW.pt (pw_and (pt_cmp (pc_din (hr_dict hr) (pv 4) (pv 3))) (pw_and1 (pt_cmpR op_ne (pv 4) (pv 2) (nomark _)))))
      (pss_one (ps_for PassesOwn.never rfl (pi_list (pe_call (ok_refs_at_once T) (hr.mono (by decide)) (by rfl) T.g_refs_at_once T.F_refs_at_once.kp T.b_refs_at_once .nil pass0 (pa_cons (pe_ix ix_list (pv 0) (pv 4) (fun _ _ => rfl)) pa_nil))) (pg_name (i := 5) sc_needed_places.nd rfl (.inl rfl))
      (pss_one (ps_dput (hr_dict hr) (pv 3) (pv 5) pe_bl (by rfl)))))
      pss_nil)))
      (pss_one (ps_ret (pe_lc (own := [("at", 4)]) (g := (gName 4)) (tt := (tAnd _ (tNot (tB (tCall _ _ _ (tCons (tOp (rIxL K) _ _) tNil)))))) rfl sc_needed_places.nd (pi_list (pe_callB cr_sortedI (by rfl) T.z_sorted (by decide +kernel) (pa_cons (pe_callTy (call_list_dK rfl) (by rfl) T.z_list (by decide +kernel) (pa_cons (pv 3) pa_nil)) pa_nil))) (blkOk_by (own := [("at", 4)]) (N := N_needed_places) (sc := defScope s_needed_places) (by decide +kernel)) (fun _ _ _ _ _ => (pg_name (i := 4) sc_needed_places.nd rfl (.inl rfl))) (fun _ _ _ _ _ => (pts_one (PW.pt (pw_and (pt_cmpR op_ne (pv 4) (pv 2) (nomark _)) (pw_and1 (pt_not (pt_val (pe_call (ok_is_cell T) (hr.mono (by decide)) (by rfl) T.g_is_cell T.F_is_cell.kp T.b_is_cell .nil pass0 (pa_cons (pe_ix ix_list (pv 0) (pv 4) (fun _ _ => rfl)) pa_nil))))))))) (fun _ _ _ _ _ => (pv 4)))))))), ?_⟩)
  · obtain ⟨r, tl, L, cls, ts, rfl, _⟩ := h
    rfl
  · obtain ⟨r, tl, L, cls, ts, rfl, hf, ok, n4, htl, t4, hts, q⟩ := h
    obtain ⟨xs, hx, hl⟩ := hf.len
    walk_at "ss"
    refine ⟨⟨_, SqL.of htl⟩, ?_⟩
    intro D hD
    refine dc_gen walk_list (fun i H' => Stp (Same H H' ∧ ∃ N, NDict H' D N ∧ N.length ≤ i ∧ ∀ x, x ∈ N ↔ x ∈ ts.take i))
      (.mk ⟨same_upd hD, [], ⟨[], upd_same, rfl, .nil⟩, Nat.le_refl _, fun x => by simp⟩) (fun i H' _ h => SqL.of (h.of.1 _ _ htl)) ?_ ?_
    · rintro i x H1 H2 hi hP ⟨rfl, hx2⟩
      obtain ⟨s1, N, hN, nl, mem⟩ := hP.of
      obtain ⟨t, ht, rfl⟩ := natI_at hx2
      rw [natL_len] at hi
      obtain ⟨kvs, hk, -⟩ := hN.get t
      obtain ⟨N', hN', nl', mem'⟩ := hN.put hk t (.bl true)
      have lk := hN.len hk
      walk_at "ss"
      refine ⟨kvs, Sum.inl (t : Int), rfl, hk, szl (by omega), .mk ⟨same_mut s1 hD, N', hN', by omega, fun x => ?_⟩⟩
      rw [mem', mem, List.take_add_one, ht]
      simp
    · intro H1 hP
      obtain ⟨s1, N, hN, nl, mem⟩ := hP.of
      rw [natL_len] at mem nl
      have mem : ∀ x, x ∈ N ↔ x ∈ ts := fun x => by rw [mem, List.take_length]
      have A0 : NeedAt cls ts cls.length N := ⟨fun x hx => hts x ((mem x).mp hx), fun t ht => (mem t).mpr ht, fun j f e hj _ => by have := (List.getElem?_eq_some_iff.mp e).1; omega, fun Pd a b j hj => a j ((mem j).mp hj)⟩
      clear hP mem nl
      walk_at "ss"
      refine ⟨r, _, rfl, .inl (SqL.of (s1 _ _ hx)), ?_⟩
      rw [hl]
      obtain ⟨nz, hnz⟩ : ∃ nz : Int, nz = (cls.length : Int) := ⟨_, rfl⟩
      rw [← hnz]
      walk_at "ss"
      refine for_it (walk_rangeC) (fun i σ H' => Stp (Same H H' ∧ ∃ N, NDict H' D N ∧ NeedAt cls ts (cls.length - i) N ∧ ∃ y4 y5 : Option V, σ = [some (.ref r), some (.ref tl), some .non, some (.ref D), y4, y5, none]))
        (.mk ⟨s1, N, hN, A0, _, _, rfl⟩) (fun _ _ _ _ _ => trivial) ?_ ?_
      · rintro i x σ H2 H3 hi hP ⟨rfl, rfl⟩
        obtain ⟨s2, N2, hN2, A2, y4, y5, rfl⟩ := hP.of
        clear hP
        have hi : i < cls.length := by omega
        obtain ⟨k, hk⟩ : ∃ k, k = cls.length - 1 - i := ⟨_, rfl⟩
        have e1 : 0 + (((nz - 0).toNat : Nat) : Int) - 1 + (i : Int) * -1 = (k : Nat) := by omega
        show gName 4 (V.int (0 + (((nz - 0).toNat : Nat) : Int) - 1 + (i : Int) * -1)) _ _ _
        rw [e1]
        rw [show cls.length - i = k + 1 by omega] at A2
        rw [show cls.length - (i + 1) = k by omega]
        obtain ⟨f, hfk⟩ : ∃ f, cls[k]? = some f := ⟨_, List.getElem?_eq_getElem (by omega)⟩
        obtain ⟨kvs, hkv, hsome⟩ := hN2.get k
        clear e1 hk hi hnz
        walk_at "ss"
        refine ⟨D, _, rfl, DGet.k (k := Sum.inl (k : Int)) hkv, ?_⟩
        rw [hsome]
        by_cases hm : k ∈ N2
        · rw [decide_eq_true hm]
          walk_at "ss"
          obtain ⟨xs2, p, g1, g2, g3, g4⟩ := (hf.same s2).at_ hfk
          refine ⟨r, _, _, _, rfl, rfl, SqL.of g1, atI_nat g3, ?_⟩
          walk_at "ss"
          intro t1 G1 ht1 nt1 sG
          have s3 := s2.trans sG
          have hN3 := hN2.same sG
          have nl2 : N2.length ≤ cls.length := nat_few _ _ hN2.choose_spec.2.2 A2.lt
          have r2 : (rf1 f).length ≤ 2 := by cases f <;> simp [rf1]
          have tD : t1 ≠ D := fun z => by rw [z, hkv] at nt1; cases nt1
          walk_at "ss"
          refine ⟨⟨_, SqL.of ht1⟩, ?_⟩
          refine for_it walk_list (fun j σ H' => Stp (Same H H' ∧ H' t1 = some (.lst (natL (rf1 f))) ∧ ∃ N', NDict H' D N' ∧ N'.length ≤ N2.length + j ∧ (∀ x, x ∈ N' ↔ x ∈ N2 ∨ x ∈ (rf1 f).take j) ∧ ∃ y5 : Option V, σ = [some (.ref r), some (.ref tl), some .non, some (.ref D), some (.int (k : Nat)), y5, none]))
            (.mk ⟨s3, ht1, N2, hN3, Nat.le_refl _, fun x => by simp, _, rfl⟩) (fun j σ H' _ h => SqL.of h.of.2.1) ?_ ?_
          · rintro j x σ G2 G3 hj hP ⟨rfl, hx2⟩
            obtain ⟨s5, ht5, N', hN', nl', mem', y6, rfl⟩ := hP.of
            clear hP
            obtain ⟨m, hm2, rfl⟩ := natI_at hx2
            rw [natL_len] at hj
            obtain ⟨kv2, hk2, -⟩ := hN'.get m
            have lk := hN'.len hk2
            obtain ⟨N3, hN3', nl3, mem3⟩ := hN'.put hk2 m (.bl true)
            walk_at "ss"
            refine ⟨D, _, rfl, DPut.k (k := Sum.inl (m : Int)) hk2 (szl (by omega)), ?_⟩
            refine .mk ⟨same_mut s5 hD, by rw [upd_ne tD]; exact ht5, N3, hN3', by omega, fun x => ?_, _, rfl⟩
            rw [mem3, mem', List.take_add_one, hm2]
            simp [or_assoc]
          · rintro σ G2 hP
            obtain ⟨s5, ht5, N', hN', nl', mem', y6, rfl⟩ := hP.of
            rw [natL_len, List.take_length] at mem'
            walk_at "ss"
            exact .mk ⟨s5, N', hN', A2.step ok hfk hm mem', _, _, rfl⟩
        · rw [decide_eq_false hm]
          walk_at "ss"
          exact .mk ⟨s2, N2, hN2, A2.skip hm, _, _, rfl⟩
      · rintro σ H2 hP
        obtain ⟨s2, N2, hN2, A2, y4, y5, rfl⟩ := hP.of
        clear hP
        rw [show cls.length - (nz - 0).toNat = 0 by omega] at A2
        obtain ⟨kvs, hkv, -⟩ := hN2.get 0
        have ky := hN2.keys hkv
        walk_at "ss"
        intro a ha
        have s3 := s2.trans (same_upd (o := .lst (kvs.map fun kv => kV kv.1)) ha)
        walk_at "ss"
        refine ⟨a, N2.map fun n : Nat => (n : Int), rfl, SqL.of (by rw [upd_same, ky]), fun ns p pm pw hp => ?_⟩
        obtain ⟨M, rfl, asc, mp⟩ := sorted_nat hN2.choose_spec.2.2 pm pw
        have s4 := s3.trans (same_upd (o := .lst ((M.map fun n : Nat => (n : Int)).map V.int)) hp)
        have hM := upd_same (H := upd H2 a (.lst (kvs.map fun kv => kV kv.1))) (a := p) (o := .lst ((M.map fun n : Nat => (n : Int)).map V.int))
        rw [← natL_int] at hM s4
        rw [← natL_int]
        generalize upd (upd H2 a (.lst (kvs.map fun kv => kV kv.1))) p (.lst (natL M)) = H3 at *
        walk_at "ss"
        refine ⟨⟨_, SqL.of hM⟩, fun D2 hD2 => ?_⟩
        have Ml : M.length ≤ cls.length := nat_few _ _ (mp.nodup_iff.mpr hN2.choose_spec.2.2) fun x hx => A2.lt x (mp.mem_iff.mp hx)
        refine lc_fil walk_list (fun H' => Same H3 H') (filV M (fun a => !clAt cls a) fun a => V.int (a : Nat)) (by rw [natL_len]; omega) (same_upd hD2) (fun _ h => SqL.of (h _ _ hM)) (fun _ _ h => same_mut h hD2) ?_ ?_
        · rintro i x H4 H5 Q1 Qn hlt hI ⟨rfl, hx2⟩ - hQ hNn
          obtain ⟨m, hm, rfl⟩ := natI_at hx2
          have ml : m < cls.length := A2.lt m (mp.mem_iff.mp (List.mem_of_getElem? hm))
          obtain ⟨f, hfm⟩ : ∃ f, cls[m]? = some f := ⟨_, List.getElem?_eq_getElem ml⟩
          obtain ⟨xs2, p2, g1, g2, g3, g4⟩ := (hf.same (s4.trans hI)).at_ hfm
          have cm : clAt cls m = isCl f := clAt_of hfm
          walk_at "ss"
          refine ⟨r, _, _, _, rfl, rfl, SqL.of g1, atI_nat g3, ?_⟩
          walk_at "ss"
          cases hc : isCl f with
          | true =>
            walk_at "ss"
            exact hNn _ (by rw [filV_at hm, cm, hc]; rfl) hI fun _ h => h
          | false =>
            walk_at "ss"
            exact hQ _ _ (by rw [filV_at hm, cm, hc]; rfl) hI fun _ h => h
        · intro H4 hI hy
          rw [natL_len] at hy
          rw [fil_list] at hy
          walk_at "ss"
          have memM : ∀ x, x ∈ M.filter (fun a => !clAt cls a) ↔ x ∈ N2 ∧ clAt cls x = false := fun x => by rw [List.mem_filter, mp.mem_iff]; simp
          have inpl : ∀ x ∈ N2, InPl cls (M.filter fun a => !clAt cls a) x := fun x hx => by
            obtain ⟨f, hfx⟩ : ∃ f, cls[x]? = some f := ⟨_, List.getElem?_eq_getElem (A2.lt x hx)⟩
            cases hc : isCl f with
            | true => exact .inl ⟨f, hfx, hc⟩
            | false => exact .inr ((memM x).mpr ⟨hx, by rw [clAt_of hfx, hc]⟩)
          refine q D2 (M.filter fun a => !clAt cls a) H4 hy ⟨asc.filter _, fun j hj => ?_⟩ (fun t ht => inpl t (A2.tg t ht)) (fun Pd a b j hj => A2.mi Pd a b j ((memM j).mp hj).1) (s4.free hD2) (s4.trans hI)
          obtain ⟨hj1, hj2⟩ := (memM j).mp hj
          obtain ⟨f, hfj⟩ : ∃ f, cls[j]? = some f := ⟨_, List.getElem?_eq_getElem (A2.lt j hj1)⟩
          exact ⟨f, hfj, by rw [← clAt_of hfj]; exact hj2, fun r hr => inpl r (A2.cl j f hfj (Nat.zero_le _) hj1 r hr)⟩
end


/-! ### Steps(..), Circuit(..) -/
/-- the ref of a cell -/
def crf : CL → Nat
  | .latch _ _ r => r
  | .counter _ _ r => r
  | _ => 0
def crfAt (cls : List CL) (j : Nat) : Nat := match cls[j]? with | some f => crf f | none => 0
theorem crfAt_of {cls : List CL} {j : Nat} {f : CL} (e : cls[j]? = some f) : crfAt cls j = crf f := by
  unfold crfAt
  rw [e]
theorem CLAt.cell {H : Hp} {p : Addr} : ∀ {f : CL}, isCl f = true → CLAt H p f → ∃ k s, H p = some (.tup [.str k, .int (s : Nat), .int (bgOf f : Nat), .int (crf f : Nat)])
  | .latch s _ _, _, h => ⟨_, s, h⟩
  | .counter s _ _, _, h => ⟨_, s, h⟩
structure StepsAt (C : Addr) (H : Hp) (x l : Addr) (cls : List CL) : Prop where
  at_ : ∃ (dx c a b : Addr) (pa pb : List Nat), H x = some (.ins C dx [("_lines", .ref l), ("_cells", .ref c), ("_ahead", .ref a), ("_behind", .ref b)]) ∧ H c = some (.lst (natL (clsCells cls))) ∧ H a = some (.lst (natL pa)) ∧ H b = some (.lst (natL pb)) ∧
    GoodPl cls pa ∧ GoodPl cls pb ∧ (∀ (j : Nat) (f : CL), cls[j]? = some f → isCl f = true → InPl cls pa (crf f)) ∧ InPl cls pb (cls.length - 1) ∧ ∀ j ∈ pb, lkC cls j = false
  ln : CLs H l cls
theorem StepsAt.same {C : Addr} {H H' : Hp} {x l : Addr} {cls : List CL} (h : StepsAt C H x l cls) (s : Same H H') : StepsAt C H' x l cls := by
  obtain ⟨⟨dx, c, a, b, pa, pb, h1, h2, h3, h4, h5⟩, h6⟩ := h
  exact ⟨⟨dx, c, a, b, pa, pb, s _ _ h1, s _ _ h2, s _ _ h3, s _ _ h4, h5⟩, h6.same s⟩
def spStepsI (C : Addr) : Sp := fun vs H Q _ => ∃ (x dx r : Addr) (L : Nat) (cls : List CL), vs = [.ref x, .ref r] ∧ H x = some (.ins C dx []) ∧ CLs H r cls ∧ COk L cls ∧ 1 ≤ cls.length ∧ cls.length ≤ 4000 ∧ lkC cls (cls.length - 1) = false ∧
  ∀ H', (∀ c o, c ≠ x → H c = some o → H' c = some o) → StepsAt C H' x r cls → (∀ H2, NewK H H' H2 (fun c => c = r ∨ c = x) → StepsAt C H2 x r cls) → Q .non H'
theorem cells_lt {cls : List CL} {j : Nat} (h : j ∈ clsCells cls) : j < cls.length := by
  obtain ⟨f, e, -⟩ := mem_cells.mp h
  exact (List.getElem?_eq_some_iff.mp e).1
theorem cells_len (cls : List CL) : (clsCells cls).length ≤ cls.length := by
  have := List.length_filter_le (fun j => match cls[j]? with | some f => isCl f | none => false) (List.range cls.length)
  rw [List.length_range] at this
  exact this
theorem CLOk.crf {sz : Nat → Nat} {n : Nat} : ∀ {f : CL}, isCl f = true → CLOk sz n f → crf f < n
  | .latch _ _ _, _, h => h.2.2.2.1
  | .counter _ _ _, _, h => h.2.2
theorem lkC_rf {L : Nat} {cls : List CL} (ok : COk L cls) {j : Nat} {f : CL} (e : cls[j]? = some f) (h : lkC cls j = false) : ∀ r ∈ rf1 f, lkC cls r = false := by
  rw [lkC_eq e (ok j f e)] at h
  intro r hr
  cases f with
  | wire a t => have h : ([a].any (lkC cls)) = false := h; rw [List.mem_singleton.mp hr]; simpa using h
  | join a b t =>
    have h : ([a, b].any (lkC cls)) = false := h
    simp only [rf1, List.mem_cons, List.not_mem_nil, or_false] at hr
    have h : lkC cls a = false ∧ lkC cls b = false := by simpa using h
    rcases hr with rfl | rfl
    · exact h.1
    · exact h.2
  | const v => cases hr
  | letter => cases hr
  | latch s a r => cases hr
  | counter s a r => cases hr
section
variable {P : Program} {w : World} {K : PySem.W.Frag} {mg : Str → Option Value} {base : Heap}
theorem ok_Steps___init (T : Env K mg) : FnOk P w K mg base CX0 3 T.f_Steps___init T.fd_Steps___init ["self", "lines"] (spStepsI T.C_Steps) := by
  refine T.F_Steps___init.ok sc_Steps___init (fun vs H Q E h => ?_) (fun cdv A outer s H vs Q E hr h => ⟨_, ((pss_cons (ps_fld (pv 0) (pv 1) rfl)
      (pss_cons (ps_fld (pv 0) (pe_lc (own := [("at", 2), ("line", 3)]) (g := (gTup K 2 (gCons (gName 2) (gCons (gName 3) gNil)))) rfl sc_Steps___init.nd (pi_enum (by rfl) T.z_enumerate (pa_cons (pv 1) pa_nil)) (blkOk_by (own := [("at", 2), ("line", 3)]) (N := N_Steps___init) (sc := defScope s_Steps___init) (by decide +kernel)) (fun _ _ _ _ _ => (pg_tup (by rfl) (pgs_cons (pg_name (i := 2) sc_Steps___init.nd rfl (.inl rfl)) (pgs_cons (pg_name (i := 3) sc_Steps___init.nd rfl (.inl rfl)) pgs_nil)))) (fun _ _ _ _ _ => (pts_one (pt_val (pe_call (ok_is_cell T) (hr.mono (by decide)) (by rfl) T.g_is_cell T.F_is_cell.kp T.b_is_cell .nil pass0 (pa_cons (pv 3) pa_nil))))) (fun _ _ _ _ _ => (pv 2))) rfl)
      (pss_cons (ps_fld (pv 0) (pe_call (ok_needed_places T) (hr.mono (by decide)) (by rfl) T.g_needed_places T.F_needed_places.kp T.b_needed_places T.vb_needed_places pass0 (pa_cons (pv 1) (pa_cons (pe_lc (own := [("at", 2)]) (g := (gName 2)) (tt := tYes) (te := (tOp (rIxT K) (tOp (rIxL K) _ _) _)) rfl sc_Steps___init.nd (pi_list (pe_fld (pv 0) rfl)) (blkOk_by (own := [("at", 2)]) (N := N_Steps___init) (sc := defScope s_Steps___init) (by decide +kernel)) (fun _ _ _ _ _ => (pg_name (i := 2) sc_Steps___init.nd rfl (.inl rfl))) (fun _ _ _ _ _ => pts_nil) (fun _ _ _ _ _ => (pe_ix ix_tup (pe_ix ix_list (pv 1) (pv 2) (fun _ _ => rfl)) pe_int (fun _ _ => rfl)))) pa_nil))) rfl)
      (pss_one (ps_fld (pv 0) (pe_call (ok_needed_places T) (hr.mono (by decide)) (by rfl) T.g_needed_places T.F_needed_places.kp T.b_needed_places T.vb_needed_places pass0 (pa_cons (pv 1) (pa_cons (pe_lst (pa_cons (pe_op op_sub (pe_callB call_len_seq (by rfl) T.z_len (by decide +kernel) (pa_cons (pv 1) pa_nil)) pe_int) pa_nil)) pa_nil))) rfl)))))), ?_⟩)
  · obtain ⟨x, dx, r, L, cls, rfl, _⟩ := h
    rfl
  · obtain ⟨x, dx, r, L, cls, rfl, hx, hf, ok, n1, n4, lk, q⟩ := h
    obtain ⟨xs, hxs, hl⟩ := hf.len
    have rx : r ≠ x := fun z => by rw [z, hx] at hxs; cases hxs
    have k0 : ∀ c o, c ≠ x → H c = some o → (upd H x (.ins T.C_Steps dx [("_lines", .ref r)])) c = some o := fun c o n h => by rw [upd_ne n]; exact h
    walk_at "ss"
    refine ⟨x, T.C_Steps, dx, [], rfl, hx, T.cl_Steps, T.n_Steps__lines, (by show 0 < 1000; decide), ?_⟩
    have hx1 := upd_same (H := H) (a := x) (o := .ins T.C_Steps dx [("_lines", .ref r)])
    have kk : ∀ c o, c ≠ x → H c = some o → (upd H x (.ins T.C_Steps dx [("_lines", .ref r)])) c = some o := k0
    show (_ : Hp → Prop) (upd H x (.ins T.C_Steps dx [("_lines", .ref r)]))
    generalize upd H x (.ins T.C_Steps dx [("_lines", .ref r)]) = H1 at *
    have hf1 : CLs H1 r cls := hf.keep (.ins hx kk) fun o h => kk _ _ rx h
    have hxs1 := kk _ _ rx hxs
    walk_at "ss"
    refine ⟨r, _, rfl, SqL.of hxs1, ?_⟩
    intro D hD
    have Dx : D ≠ x := ne_none hD hx1
    refine lc_fil walk_enum (fun H' => Same H1 H') (filV (List.range cls.length) (clAt cls) fun a => V.int (a : Nat)) (by rw [hl]; omega) (same_upd hD) (fun _ h => SqL.of (h _ _ hxs1)) (fun _ _ h => same_mut h hD) ?_ ?_
    · rintro i y H2 H3 Q1 Qn hi hI ⟨Tt, u, v, rfl, nT, rfl, eu, ev⟩ ⟨o, ho⟩ hQ hN
      cases eu
      rw [hl] at hi
      obtain ⟨f, hfi⟩ : ∃ f, cls[i]? = some f := ⟨_, List.getElem?_eq_getElem hi⟩
      obtain ⟨xs2, p, g1, g2, g3, g4⟩ := hf1.at_ hfi
      rw [hxs1] at g1
      cases g1
      have ev : xs[i]? = some v := ev
      rw [g3] at ev
      cases ev
      have s3 : Same H2 (upd H2 Tt (.tup [.int (i : Nat), .ref p])) := same_upd nT
      have ci : clAt cls i = isCl f := clAt_of hfi
      have g4 := g4.same (hI.trans s3)
      refine ⟨Tt, _, rfl, SqT.of upd_same, rfl, _, _, rfl, _, _, rfl, rfl, ?_⟩
      generalize upd H2 Tt (.tup [.int (i : Nat), .ref p]) = H3 at *
      walk_at "ss"
      cases hc : isCl f with
      | true =>
        walk_at "ss"
        exact hQ _ _ (by rw [filV_at (List.getElem?_range hi), ci, hc]; rfl) (hI.trans s3) fun o h => s3 _ _ h
      | false =>
        walk_at "ss"
        exact hN _ (by rw [filV_at (List.getElem?_range hi), ci, hc]; rfl) (hI.trans s3) fun o h => s3 _ _ h
    · intro H2 s2 hy
      have hy : H2 D = some (.lst (natL (clsCells cls))) := by
        rw [hy, hl]
        have := fil_list (List.range cls.length) (clAt cls) fun a => V.int (a : Nat)
        rw [List.length_range] at this
        rw [this]
        rfl
      have hx2 := s2 _ _ hx1
      walk_at "ss"
      refine ⟨x, T.C_Steps, dx, _, rfl, hx2, T.cl_Steps, T.n_Steps__cells, (by show 1 < 1000; decide), ?_⟩
      have nDx : H1 D = none := hD
      have kS : ∀ o, (∀ c u, c ≠ x → H1 c = some u → (upd H2 x o) c = some u) := fun o c u n h => by rw [upd_ne n]; exact s2 _ _ h
      have kD : (upd H2 x (.ins T.C_Steps dx [("_lines", .ref r), ("_cells", .ref D)])) D = some (.lst (natL (clsCells cls))) := by rw [upd_ne Dx]; exact hy
      have hx3 := upd_same (H := H2) (a := x) (o := .ins T.C_Steps dx [("_lines", .ref r), ("_cells", .ref D)])
      have k3 := kS (.ins T.C_Steps dx [("_lines", .ref r), ("_cells", .ref D)])
      show (_ : Hp → Prop) (upd H2 x (.ins T.C_Steps dx [("_lines", .ref r), ("_cells", .ref D)]))
      generalize upd H2 x (.ins T.C_Steps dx [("_lines", .ref r), ("_cells", .ref D)]) = H3 at *
      have hf3 : CLs H3 r cls := hf1.keep (.ins hx1 k3) fun o h => k3 _ _ rx h
      clear hy hx2 kS hf1 hxs1
      walk_at "ss"
      refine ⟨x, T.C_Steps, dx, _, _, rfl, hx3, T.cl_Steps, T.n_Steps__cells, rfl, ?_⟩
      walk_at "ss"
      refine ⟨⟨_, SqL.of kD⟩, fun D2 hD2 => ?_⟩
      have clen := cells_len cls
      refine lc_gen walk_list (fun H' => Same H3 H') (fun i y => ∃ j, (clsCells cls)[i]? = some j ∧ y = V.int (crfAt cls j : Nat)) (by rw [natL_len]; omega) (same_upd hD2) (fun _ h => SqL.of (h _ _ kD)) (fun _ _ h => same_mut h hD2) ?_ ?_
      · rintro i y H4 H5 Q1 hlt hI ⟨rfl, hx2⟩ - hQ
        obtain ⟨j, hj, rfl⟩ := natI_at hx2
        obtain ⟨f, hfj, hc⟩ := mem_cells.mp (List.mem_of_getElem? hj)
        obtain ⟨xs2, p, g1, g2, g3, g4⟩ := (hf3.same hI).at_ hfj
        obtain ⟨k, s9, hp⟩ := g4.cell hc
        walk_at "ss"
        refine ⟨r, _, _, _, rfl, rfl, SqL.of g1, atI_nat g3, ?_⟩
        walk_at "ss"
        refine ⟨p, _, 3, _, rfl, rfl, SqT.of hp, rfl, ?_⟩
        exact hQ _ _ ⟨j, hj, by rw [crfAt_of hfj]⟩ hI fun _ h => h
      · intro H4 ys sI hy hl2 hr2
        have e : ys = natL ((clsCells cls).map (crfAt cls)) := by
          unfold natL
          rw [List.map_map]
          exact ys_map (by rw [hl2, natL_len]) hr2
        subst e
        walk_at "ss"
        refine ⟨r, D2, L, cls, _, rfl, hf3.same sI, ok, n4, hy, by rw [List.length_map]; omega, fun t ht => ?_, fun a pa H5 ha5 gp cov mi na s5 => ?_⟩
        · obtain ⟨j, hj, rfl⟩ := List.mem_map.mp ht
          obtain ⟨f, hfj, hc⟩ := mem_cells.mp hj
          rw [crfAt_of hfj]
          have := (ok j f hfj).crf hc
          have := cells_lt hj
          omega
        have s35 := sI.trans s5
        have hx5 := s35 _ _ hx3
        have ax : a ≠ x := ne_none (sI.free na) hx3
        walk_at "ss"
        refine ⟨x, T.C_Steps, dx, _, rfl, hx5, T.cl_Steps, T.n_Steps__ahead, (by show 2 < 1000; decide), ?_⟩
        have k6 : ∀ c u, c ≠ x → H3 c = some u → (upd H5 x (.ins T.C_Steps dx [("_lines", .ref r), ("_cells", .ref D), ("_ahead", .ref a)])) c = some u := fun c u n h => by rw [upd_ne n]; exact s35 _ _ h
        have ha6 : (upd H5 x (.ins T.C_Steps dx [("_lines", .ref r), ("_cells", .ref D), ("_ahead", .ref a)])) a = some (.lst (natL pa)) := by rw [upd_ne ax]; exact ha5
        have hx6 := upd_same (H := H5) (a := x) (o := .ins T.C_Steps dx [("_lines", .ref r), ("_cells", .ref D), ("_ahead", .ref a)])
        show (_ : Hp → Prop) (upd H5 x (.ins T.C_Steps dx [("_lines", .ref r), ("_cells", .ref D), ("_ahead", .ref a)]))
        generalize upd H5 x (.ins T.C_Steps dx [("_lines", .ref r), ("_cells", .ref D), ("_ahead", .ref a)]) = H6 at *
        have hf6 : CLs H6 r cls := hf3.keep (.ins hx3 k6) fun o h => k6 _ _ rx h
        have kD6 := k6 _ _ Dx kD
        obtain ⟨xs6, hxs6, hl6⟩ := hf6.len
        walk_at "ss"
        refine ⟨r, _, rfl, .inl (SqL.of hxs6), ?_⟩
        rw [hl6]
        walk_at "ss"
        intro D3 hD3
        have s7 := same_upd (o := .lst [.int ((cls.length : Int) - 1)]) hD3
        have e1 : (cls.length : Int) - 1 = ((cls.length - 1 : Nat) : Int) := by omega
        have hD4 : (upd H6 D3 (.lst [.int ((cls.length : Int) - 1)])) D3 = some (.lst (natL [cls.length - 1])) := by rw [upd_same, e1]; rfl
        walk_at "ss"
        refine ⟨r, D3, L, cls, [cls.length - 1], rfl, hf6.same s7, ok, n4, hD4, by show 1 ≤ 4000; decide, fun t ht => ?_, fun b pb H8 hb8 gpb covb mib nb s8 => ?_⟩
        · rw [List.mem_singleton.mp ht]
          omega
        have s78 := s7.trans s8
        have hx8 := s78 _ _ hx6
        have bx : b ≠ x := ne_none (s7.free nb) hx6
        walk_at "ss"
        refine ⟨x, T.C_Steps, dx, _, rfl, hx8, T.cl_Steps, T.n_Steps__behind, (by show 3 < 1000; decide), ?_⟩
        have kA : ∀ c u, c ≠ x → H c = some u → (upd H8 x (.ins T.C_Steps dx [("_lines", .ref r), ("_cells", .ref D), ("_ahead", .ref a), ("_behind", .ref b)])) c = some u := fun c u n h => by rw [upd_ne n]; exact s78 _ _ (k6 _ _ n (k3 _ _ n (kk _ _ n h)))
        have D0 : H D = none := none_back (fun o h => kk _ _ Dx h) hD
        have a0 : H a = none := none_back (fun o h => sI _ _ (k3 _ _ ax (kk _ _ ax h))) na
        have b0 : H b = none := none_back (fun o h => k6 _ _ bx (k3 _ _ bx (kk _ _ bx h))) (s7.free nb)
        have S0 : ∀ H2, NewK H (upd H8 x (.ins T.C_Steps dx [("_lines", .ref r), ("_cells", .ref D), ("_ahead", .ref a), ("_behind", .ref b)])) H2 (fun c => c = r ∨ c = x) → StepsAt T.C_Steps H2 x r cls := by
          rintro H2 ⟨tk, nk⟩
          refine ⟨⟨dx, D, a, b, pa, pb, nk _ _ (.inr (.inr rfl)) upd_same, nk _ _ (.inl D0) (by rw [upd_ne Dx]; exact s78 _ _ kD6), nk _ _ (.inl a0) (by rw [upd_ne ax]; exact s78 _ _ ha6), nk _ _ (.inl b0) (by rw [upd_ne bx]; exact hb8), gp, gpb, fun j f e hc => ?_, covb _ (List.mem_singleton.mpr rfl), ?_⟩, hf.keep (TupKeep.trans (.ins hx kA) tk) fun o h => nk _ _ (.inr (.inl rfl)) (kA _ _ rx h)⟩
          · exact cov _ (List.mem_map.mpr ⟨j, mem_cells.mpr ⟨f, e, hc⟩, crfAt_of e⟩)
          · exact mib (fun j => lkC cls j = false) (fun t ht => by rw [List.mem_singleton.mp ht]; exact lk) fun j f e h => lkC_rf ok e h
        exact q _ kA (S0 _ .refl) S0
/-- a circuit -/
structure CircAt (C CS : Addr) (H : Hp) (m : Addr) (al : Str) (cls : List CL) : Prop where
  at_ : ∃ (dx l s k x : Addr), H m = some (.ins C dx [("_alphabet", .str al), ("_lines", .ref l), ("_sizes", .ref s), ("_looks", .ref k), ("_steps", .ref x)]) ∧ StepsAt CS H x l cls ∧ H s = some (.lst (natL (cls.map (szC al.length)))) ∧ H k = some (.lst (boolL (lkS cls cls.length)))
  alpha : Alpha al.cps.toList
  ok : COk al.length cls
  many : 1 ≤ cls.length ∧ cls.length ≤ 4000
  look : lkC cls (cls.length - 1) = false
theorem CircAt.same {C CS : Addr} {H H' : Hp} {m : Addr} {al : Str} {cls : List CL} (M : CircAt C CS H m al cls) (e : Same H H') : CircAt C CS H' m al cls := by
  obtain ⟨dx, l, s, k, x, h1, h2, h3, h4⟩ := M.at_
  exact ⟨⟨dx, l, s, k, x, e _ _ h1, h2.same e, e _ _ h3, e _ _ h4⟩, M.alpha, M.ok, M.many, M.look⟩
def spCInit (C CS : Addr) : Sp := fun vs H Q _ => ∃ (m dx r : Addr) (al : Str) (cls : List CL), vs = [.ref m, .str al, .ref r] ∧ H m = some (.ins C dx []) ∧ CLsA H r cls ∧ Alpha al.cps.toList ∧ COk al.length cls ∧ (1 ≤ cls.length ∧ cls.length ≤ 4000) ∧ lkC cls (cls.length - 1) = false ∧
  ∀ H', (∀ c o, c ≠ m → H c = some o → H' c = some o) → CircAt C CS H' m al cls → (∀ H2, NewK H H' H2 (fun c => c = m) → CircAt C CS H2 m al cls) → Q .non H'
theorem good_Circuit___init (T : Env K mg) : FnOk P w K mg base (L2.CX P w) 7 T.f_Circuit___init T.fd_Circuit___init ["self", "alphabet", "lines"] (spCInit T.C_Circuit T.C_Steps) := by
  refine T.F_Circuit___init.okX sc_Circuit___init (fun vs H Q E h => ?_) (fun cdv A outer s H vs Q E hr h => ⟨_, ((pss_cons (ps_if (pt_not (pt_val (pe_call (ok_is_alphabet T) (hr.mono (by decide)) (by rfl) T.g_is_alphabet T.F_is_alphabet.kp T.b_is_alphabet .nil pass0 (pa_cons (pv 1) pa_nil))))
      (pss_one (ps_raise rfl (takes_of rfl rfl rfl rfl) (pmk_oex T.x_InvalidAlphabet T.i_InvalidAlphabet___init T.t_InvalidAlphabet___init (ok_InvalidAlphabet___init T) (hr.mono (by decide)) T.b_InvalidAlphabet___init .nil pass0 (by rfl) T.gC_InvalidAlphabet (pa_cons (pv 1) pa_nil))))
      pss_nil)
      (pss_cons (ps_if (PW.pt (pw_or (pt_not (pt_val (pe_call (ok_is_listed T) (hr.mono (by decide)) (by rfl) T.g_is_listed T.F_is_listed.kp T.b_is_listed .nil pass0 (pa_cons (pv 2) pa_nil)))) (pw_or1 (pt_not (pt_truth (pv 2) (by intro _; rfl))))))
      (pss_one (ps_raise rfl (takes_of rfl rfl rfl rfl) (pmk_oex T.x_InvalidLine T.i_InvalidLine___init T.t_InvalidLine___init (ok_InvalidLine___init T) (hr.mono (by decide)) T.b_InvalidLine___init .nil pass0 (by rfl) T.gC_InvalidLine (pa_cons pe_int pa_nil))))
      pss_nil)
      (pss_cons (ps_if (pt_cmpR op_gt (pe_callB call_len_seq (by rfl) T.z_len (by decide +kernel) (pa_cons (pv 2) pa_nil)) (pe_con (pv 0) rfl) (nomark _))
      (pss_one (ps_raise rfl (takes_of rfl rfl rfl rfl) (pmk_oex T.x_TooMany T.i_TooMany___init T.t_TooMany___init (ok_TooMany___init T) (hr.mono (by decide)) T.b_TooMany___init .nil pass0 (by rfl) T.gC_TooMany (pa_cons pe_str (pa_cons (pe_con (pv 0) rfl) pa_nil)))))
      pss_nil)
      (pss_cons (ps_asg (pe_call (ok_measured T) (hr.mono (by decide)) (by rfl) T.g_measured T.F_measured.kp T.b_measured .nil (passE (takes_of rfl rfl rfl rfl)) (pa_cons (pv 2) (pa_cons (pe_callB call_len_str (by rfl) T.z_len (by decide +kernel) (pa_cons (pv 1) pa_nil)) pa_nil))) (pg_tup (by rfl) (pgs_cons (pg_name (i := 3) sc_Circuit___init.nd rfl (.inl rfl)) (pgs_cons (pg_name (i := 4) sc_Circuit___init.nd rfl (.inl rfl)) pgs_nil))))
      (pss_cons (ps_fld (pv 0) (pv 1) rfl)
      (pss_cons (ps_fld (pv 0) (pe_callTy call_list_of (by rfl) T.z_list (by decide +kernel) (pa_cons (pv 2) pa_nil)) rfl)
      (pss_cons (ps_fld (pv 0) (pv 3) rfl)
      (pss_cons (ps_fld (pv 0) (pv 4) rfl)
      (pss_one (ps_fld (pv 0) (pe_make T.k_Steps___init (ok_Steps___init T) (hr.mono (by decide)) (by rfl) T.gC_Steps T.b_Steps___init .nil pass0 (pa_cons (pe_fld (pv 0) rfl) pa_nil)) rfl))))))))))), ?_⟩)
  · obtain ⟨x, dx, r, al, cls, rfl, _⟩ := h
    rfl
  · obtain ⟨x, dx, r, al, cls, rfl, hx, hf, hA, ok, hm, lk, q⟩ := h
    have al4 : 1 ≤ al.length ∧ al.length ≤ 4 := by rw [len_tl]; exact ⟨hA.1, hA.2.1⟩
    obtain ⟨ps, hxs, hl, hat⟩ := id hf
    have rx : r ≠ x := fun z => by rcases hxs with hxs | hxs <;> (rw [z, hx] at hxs; cases hxs)
    walk_at "ss"
    intro H1 s1
    rw [decide_eq_true hA]
    walk_at "ss"
    refine .inl ⟨r, _, rfl, sqa_of (hxs.imp (s1 _ _) (s1 _ _)), fun H2 s2 => ?_⟩
    have s12 := s1.trans s2
    have hx2 := s12 _ _ hx
    have hxs2 := hxs.imp (s12 _ _) (s12 _ _)
    have hf2 := hf.same s12
    walk_at "ss"
    refine ⟨true, ?_, ?_⟩
    · have e : (!(ps.map V.ref).isEmpty) = true := by
        cases ps with
        | nil => simp at hl; omega
        | cons => rfl
      rcases hxs2 with h | h
      · exact .inl ⟨_, SqL.of h, e.symm⟩
      · exact .inr (.inl ⟨_, SqT.of h, e.symm⟩)
    walk_at "ss"
    refine ⟨r, _, rfl, sqa_of hxs2, ?_⟩
    rw [List.length_map, hl]
    walk_at "ss"
    refine ⟨x, T.C_Circuit, dx, _, _, _, rfl, hx2, T.cl_Circuit, T.o_Circuit_MOST, rfl, ?_⟩
    walk_at "ss"
    have d1 : decide ((4000 : Int) < (cls.length : Int)) = false := decide_eq_false (by omega)
    refine iteN (by rw [d1]; decide) ?_
    walk_at "ss"
    refine .inl ⟨r, al.length, cls, rfl, hf2, ok, al4.1, by omega, hm.1, hm.2, lk, fun t a b H3 ht ha hb na nb s3 => ?_⟩
    have hx3 := s3 _ _ hx2
    have hxs3 := hxs2.imp (s3 _ _) (s3 _ _)
    have hf3 := hf2.same s3
    have ax : a ≠ x := ne_none na hx2
    have bx : b ≠ x := ne_none nb hx2
    have s123 := s12.trans s3
    have a0 : H a = none := none_back (fun o h => s12 _ _ h) na
    have b0 : H b = none := none_back (fun o h => s12 _ _ h) nb
    clear na nb hx2 hxs2 hf2 s3 s12 s1 s2
    walk_at "ss"
    refine ⟨t, _, rfl, .inl (.inl ht), rfl, _, _, rfl, _, _, rfl, rfl, ?_⟩
    walk_at "ss"
    refine ⟨x, T.C_Circuit, dx, [], rfl, hx3, T.cl_Circuit, T.n_Circuit__alphabet, (by show 0 < 1000; decide), ?_⟩
    have k4 : ∀ c o, c ≠ x → H3 c = some o → (upd H3 x (.ins T.C_Circuit dx [("_alphabet", .str al)])) c = some o := fun c o n h => by rw [upd_ne n]; exact h
    have hx4 := upd_same (H := H3) (a := x) (o := .ins T.C_Circuit dx [("_alphabet", .str al)])
    show (_ : Hp → Prop) (upd H3 x (.ins T.C_Circuit dx [("_alphabet", .str al)]))
    generalize upd H3 x (.ins T.C_Circuit dx [("_alphabet", .str al)]) = H4 at *
    walk_at "ss"
    refine ⟨r, _, rfl, sqa_of (hxs3.imp (k4 _ _ rx) (k4 _ _ rx)), fun l nl => ?_⟩
    have lx : l ≠ x := ne_none nl hx4
    have s5 := same_upd (o := .lst (ps.map V.ref)) nl
    have hl5 := upd_same (H := H4) (a := l) (o := .lst (ps.map V.ref))
    generalize upd H4 l (.lst (ps.map V.ref)) = H5 at *
    have hx5 := s5 _ _ hx4
    first | refine ⟨x, T.C_Circuit, dx, _, rfl, hx5, T.cl_Circuit, T.n_Circuit__lines, (by show 1 < 1000; decide), ?_⟩ | refine ⟨_, rfl, x, T.C_Circuit, dx, _, rfl, hx5, T.cl_Circuit, T.n_Circuit__lines, (by show 1 < 1000; decide), ?_⟩
    have k6 : ∀ c o, c ≠ x → H5 c = some o → (upd H5 x (.ins T.C_Circuit dx [("_alphabet", .str al), ("_lines", .ref l)])) c = some o := fun c o n h => by rw [upd_ne n]; exact h
    have hx6 := upd_same (H := H5) (a := x) (o := .ins T.C_Circuit dx [("_alphabet", .str al), ("_lines", .ref l)])
    show (_ : Hp → Prop) (upd H5 x (.ins T.C_Circuit dx [("_alphabet", .str al), ("_lines", .ref l)]))
    generalize upd H5 x (.ins T.C_Circuit dx [("_alphabet", .str al), ("_lines", .ref l)]) = H6 at *
    walk_at "ss"
    refine ⟨x, T.C_Circuit, dx, _, rfl, hx6, T.cl_Circuit, T.n_Circuit__sizes, (by show 2 < 1000; decide), ?_⟩
    have k7 : ∀ c o, c ≠ x → H6 c = some o → (upd H6 x (.ins T.C_Circuit dx [("_alphabet", .str al), ("_lines", .ref l), ("_sizes", .ref a)])) c = some o := fun c o n h => by rw [upd_ne n]; exact h
    have hx7 := upd_same (H := H6) (a := x) (o := .ins T.C_Circuit dx [("_alphabet", .str al), ("_lines", .ref l), ("_sizes", .ref a)])
    show (_ : Hp → Prop) (upd H6 x (.ins T.C_Circuit dx [("_alphabet", .str al), ("_lines", .ref l), ("_sizes", .ref a)]))
    generalize upd H6 x (.ins T.C_Circuit dx [("_alphabet", .str al), ("_lines", .ref l), ("_sizes", .ref a)]) = H7 at *
    walk_at "ss"
    refine ⟨x, T.C_Circuit, dx, _, rfl, hx7, T.cl_Circuit, T.n_Circuit__looks, (by show 3 < 1000; decide), ?_⟩
    have k8 : ∀ c o, c ≠ x → H7 c = some o → (upd H7 x (.ins T.C_Circuit dx [("_alphabet", .str al), ("_lines", .ref l), ("_sizes", .ref a), ("_looks", .ref b)])) c = some o := fun c o n h => by rw [upd_ne n]; exact h
    have hx8 := upd_same (H := H7) (a := x) (o := .ins T.C_Circuit dx [("_alphabet", .str al), ("_lines", .ref l), ("_sizes", .ref a), ("_looks", .ref b)])
    show (_ : Hp → Prop) (upd H7 x (.ins T.C_Circuit dx [("_alphabet", .str al), ("_lines", .ref l), ("_sizes", .ref a), ("_looks", .ref b)]))
    generalize upd H7 x (.ins T.C_Circuit dx [("_alphabet", .str al), ("_lines", .ref l), ("_sizes", .ref a), ("_looks", .ref b)]) = H8 at *
    have k58 : ∀ c o, c ≠ x → H5 c = some o → H8 c = some o := fun c o n h => k8 _ _ n (k7 _ _ n (k6 _ _ n h))
    have k38 : ∀ c o, c ≠ x → H3 c = some o → H8 c = some o := fun c o n h => k58 _ _ n (s5 _ _ (k4 _ _ n h))
    have hl8 := k58 _ _ lx hl5
    have ha8 := k38 _ _ ax ha
    have hb8 := k38 _ _ bx hb
    have hf8 : CLs H8 l cls := ⟨ps, hl8, hl, fun i p f e1 e2 => ((hat i p f e1 e2).same s123).keep (.ins hx3 k38)⟩
    have l0 : H l = none := none_back (fun o h => k4 _ _ lx (s123 _ _ h)) nl
    clear k4 k6 k7 k8 hx4 hx5 hx6 hx7 hl5 s5 nl
    walk_at "ss"
    refine ⟨x, T.C_Circuit, dx, _, _, rfl, hx8, T.cl_Circuit, T.n_Circuit__lines, rfl, ?_⟩
    walk_at "ss"
    intro st dst nst ndst ne
    have sA : Same H8 (upd (upd H8 dst (.own st)) st (.ins T.C_Steps dst [])) := (same_upd ndst).trans (same_upd (by rw [upd_ne ne.symm]; exact nst))
    refine ⟨st, dst, l, al.length, cls, rfl, upd_same, hf8.same sA, ok, hm.1, hm.2, lk, fun H9 k9 SA SN => ⟨rfl, ?_⟩⟩
    have nn : ∀ c o, H8 c = some o → H9 c = some o := fun c o h => k9 _ _ (ne_of_none h nst) (sA _ _ h)
    have hx9 := nn _ _ hx8
    refine ⟨_, rfl, x, T.C_Circuit, dx, _, rfl, hx9, T.cl_Circuit, T.n_Circuit__steps, (by show 4 < 1000; decide), ?_⟩
    have stx : st ≠ x := ne_none nst hx8
    have kZ : ∀ c o, c ≠ x → H9 c = some o → (upd H9 x (.ins T.C_Circuit dx [("_alphabet", .str al), ("_lines", .ref l), ("_sizes", .ref a), ("_looks", .ref b), ("_steps", .ref st)])) c = some o := fun c o n h => by rw [upd_ne n]; exact h
    have st0 : H st = none := none_back (fun o h => k38 _ _ stx (s123 _ _ h)) nst
    have C0 : ∀ H2, NewK H (upd H9 x (.ins T.C_Circuit dx [("_alphabet", .str al), ("_lines", .ref l), ("_sizes", .ref a), ("_looks", .ref b), ("_steps", .ref st)])) H2 (fun c => c = x) → CircAt T.C_Circuit T.C_Steps H2 x al cls := by
      rintro H2 ⟨tk, nk⟩
      refine ⟨⟨dx, l, a, b, st, nk _ _ (.inr rfl) upd_same, SN H2 ⟨TupKeep.trans (.ins hx9 kZ) tk, fun c o h1 h2 => ?_⟩, nk _ _ (.inl a0) (kZ _ _ ax (nn _ _ ha8)), nk _ _ (.inl b0) (kZ _ _ bx (nn _ _ hb8))⟩, hA, ok, hm, lk⟩
      rcases h1 with h1 | rfl | rfl
      · have cx : c ≠ x := ne_none h1 (sA _ _ hx8)
        exact nk _ _ (.inl (none_back (fun o h => sA _ _ (k38 _ _ cx (s123 _ _ h))) h1)) (kZ _ _ cx h2)
      · exact nk _ _ (.inl l0) (kZ _ _ lx h2)
      · exact nk _ _ (.inl st0) (kZ _ _ stx h2)
    exact q _ (fun c o n h => kZ _ _ n (nn _ _ (k38 _ _ n (s123 _ _ h)))) (C0 _ .refl) C0
/-- an alphabet or lines that are no good -/
def spCInitB (K : PySem.W.Frag) (T : Env K mg) : Sp := fun vs H Q E => ∃ (m dx : Addr) (A R : V), vs = [.ref m, A, R] ∧ H m = some (.ins T.C_Circuit dx []) ∧
  ((NoAlpha K H A ∧ ErrE T.C_InvalidAlphabet "InvalidAlphabet" "given" A H E) ∨
   (∃ al : Str, A = .str al ∧ Alpha al.cps.toList ∧
    ((NoRows K H R ∧ ErrE T.C_InvalidLine "InvalidLine" "at" (.int 0) H E) ∨
     (∃ (r : Addr) (xs : List V), R = .ref r ∧ (H r = some (.lst xs) ∨ H r = some (.tup xs)) ∧ 1 ≤ xs.length ∧ xs.length ≤ 10000 ∧
      ((4000 < xs.length ∧ ∀ d H', Same H H' → H' d = some (.xd [("code", .str "TooMany"), ("most", .int 4000), ("subject", .str "lines")]) → E (.ref T.C_TooMany) (some d) H') ∨
       (xs.length ≤ 4000 ∧ ∃ cls : List CL, (∀ (i : Nat) (f : CL), cls[i]? = some f → ∃ p, xs[i]? = some (.ref p) ∧ CLAt H p f) ∧ COk al.length cls ∧
        ((cls.length = xs.length ∧ lkC cls (cls.length - 1) = true ∧ ErrE T.C_InvalidLine "InvalidLine" "at" (.int ((cls.length : Int) - 1)) H E) ∨
         (∃ v d, xs[cls.length]? = some v ∧ Dp K H v d ∧ BadD (cls.map (szC al.length)) d ∧ ErrE T.C_InvalidLine "InvalidLine" "at" (.int (cls.length : Nat)) H E))))))))
theorem bad_Circuit___init (T : Env K mg) : FnOk P w K mg base (L2.CX P w) 7 T.f_Circuit___init T.fd_Circuit___init ["self", "alphabet", "lines"] (spCInitB K T) := by
  refine T.F_Circuit___init.okX sc_Circuit___init (fun vs H Q E h => ?_) (fun cdv A outer s H vs Q E hr h => ⟨_, ((pss_cons (ps_if (pt_not (pt_val (pe_call (ok_is_alphabet T) (hr.mono (by decide)) (by rfl) T.g_is_alphabet T.F_is_alphabet.kp T.b_is_alphabet .nil pass0 (pa_cons (pv 1) pa_nil))))
      (pss_one (ps_raise rfl (takes_of rfl rfl rfl rfl) (pmk_oex T.x_InvalidAlphabet T.i_InvalidAlphabet___init T.t_InvalidAlphabet___init (ok_InvalidAlphabet___init T) (hr.mono (by decide)) T.b_InvalidAlphabet___init .nil pass0 (by rfl) T.gC_InvalidAlphabet (pa_cons (pv 1) pa_nil))))
      pss_nil)
      (pss_cons (ps_if (PW.pt (pw_or (pt_not (pt_val (pe_call (ok_is_listed T) (hr.mono (by decide)) (by rfl) T.g_is_listed T.F_is_listed.kp T.b_is_listed .nil pass0 (pa_cons (pv 2) pa_nil)))) (pw_or1 (pt_not (pt_truth (pv 2) (by intro _; rfl))))))
      (pss_one (ps_raise rfl (takes_of rfl rfl rfl rfl) (pmk_oex T.x_InvalidLine T.i_InvalidLine___init T.t_InvalidLine___init (ok_InvalidLine___init T) (hr.mono (by decide)) T.b_InvalidLine___init .nil pass0 (by rfl) T.gC_InvalidLine (pa_cons pe_int pa_nil))))
      pss_nil)
      (pss_cons (ps_if (pt_cmpR op_gt (pe_callB call_len_seq (by rfl) T.z_len (by decide +kernel) (pa_cons (pv 2) pa_nil)) (pe_con (pv 0) rfl) (nomark _))
      (pss_one (ps_raise rfl (takes_of rfl rfl rfl rfl) (pmk_oex T.x_TooMany T.i_TooMany___init T.t_TooMany___init (ok_TooMany___init T) (hr.mono (by decide)) T.b_TooMany___init .nil pass0 (by rfl) T.gC_TooMany (pa_cons pe_str (pa_cons (pe_con (pv 0) rfl) pa_nil)))))
      pss_nil)
      (pss_cons (ps_asg (pe_call (ok_measured T) (hr.mono (by decide)) (by rfl) T.g_measured T.F_measured.kp T.b_measured .nil (passE (takes_of rfl rfl rfl rfl)) (pa_cons (pv 2) (pa_cons (pe_callB call_len_str (by rfl) T.z_len (by decide +kernel) (pa_cons (pv 1) pa_nil)) pa_nil))) (pg_tup (by rfl) (pgs_cons (pg_name (i := 3) sc_Circuit___init.nd rfl (.inl rfl)) (pgs_cons (pg_name (i := 4) sc_Circuit___init.nd rfl (.inl rfl)) pgs_nil))))
      (pss_cons (ps_fld (pv 0) (pv 1) rfl)
      (pss_cons (ps_fld (pv 0) (pe_callTy call_list_of (by rfl) T.z_list (by decide +kernel) (pa_cons (pv 2) pa_nil)) rfl)
      (pss_cons (ps_fld (pv 0) (pv 3) rfl)
      (pss_cons (ps_fld (pv 0) (pv 4) rfl)
      (pss_one (ps_fld (pv 0) (pe_make T.k_Steps___init (ok_Steps___init T) (hr.mono (by decide)) (by rfl) T.gC_Steps T.b_Steps___init .nil pass0 (pa_cons (pe_fld (pv 0) rfl) pa_nil)) rfl))))))))))), ?_⟩)
  · obtain ⟨x, dx, A, R, rfl, _⟩ := h
    rfl
  · obtain ⟨x, dx, A, R, rfl, hx, q⟩ := h
    walk_at "ss"
    rcases q with ⟨hA, q⟩ | ⟨al, rfl, hA, q⟩
    · rcases hA with ⟨z, rfl, hz, hn⟩ | hn
      · refine .inl ⟨z, rfl, hz, fun H1 s1 => ?_⟩
        rw [decide_eq_false hn]
        walk_at "ss"
        first | exact err_out (fun d G _ s2 e => q d G (s1.trans s2) e) | exact (err_out (fun d G _ s2 e => q d G (s1.trans s2) e)).2
      · refine .inr ⟨hn, fun H1 s1 => ?_⟩
        walk_at "ss"
        first | exact err_out (fun d G _ s2 e => q d G (s1.trans s2) e) | exact (err_out (fun d G _ s2 e => q d G (s1.trans s2) e)).2
    have al4 : 1 ≤ al.length ∧ al.length ≤ 4 := by rw [len_tl]; exact ⟨hA.1, hA.2.1⟩
    refine .inl ⟨al, rfl, by omega, fun H1 s1 => ?_⟩
    rw [decide_eq_true hA]
    walk_at "ss"
    rcases q with ⟨hR, q⟩ | ⟨r, xs, rfl, hS, x1, x2, q⟩
    · rcases hR with ⟨p, rfl, hp⟩ | ⟨t, ht, k1, k2⟩
      · refine .inl ⟨p, [], rfl, hp.same s1, fun H2 s2 => ?_⟩
        walk_at "ss"
        refine ⟨false, tru_seq ((hp.same s1).same s2), ?_⟩
        walk_at "ss"
        first | exact err_out (fun d G _ s3 e => q d G ((s1.trans s2).trans s3) e) | exact (err_out (fun d G _ s3 e => q d G ((s1.trans s2).trans s3) e)).2
      · refine .inr ⟨t, tyx_same s1 ht, k1, k2, fun H2 s2 => ?_⟩
        walk_at "ss"
        first | exact err_out (fun d G _ s3 e => q d G ((s1.trans s2).trans s3) e) | exact (err_out (fun d G _ s3 e => q d G ((s1.trans s2).trans s3) e)).2
    refine .inl ⟨r, xs, rfl, sqa_of (hS.imp (s1 _ _) (s1 _ _)), fun H2 s2 => ?_⟩
    have s12 := s1.trans s2
    have hS2 := hS.imp (s12 _ _) (s12 _ _)
    have hx2 := s12 _ _ hx
    walk_at "ss"
    have ne0 : (!xs.isEmpty) = true := by cases xs with | nil => simp at x1 | cons => rfl
    refine ⟨true, ne0 ▸ tru_seq (sqa_of hS2), ?_⟩
    walk_at "ss"
    refine ⟨r, _, rfl, sqa_of hS2, ?_⟩
    walk_at "ss"
    refine ⟨x, T.C_Circuit, dx, _, _, _, rfl, hx2, T.cl_Circuit, T.o_Circuit_MOST, rfl, ?_⟩
    walk_at "ss"
    rcases q with ⟨hm, q⟩ | ⟨hm, cls, hat, ok, q⟩
    · refine iteP (decide_eq_true (by omega)) ?_
      walk_at "ss"
      refine ⟨x, T.C_Circuit, dx, _, _, _, rfl, hx2, T.cl_Circuit, T.o_Circuit_MOST, rfl, ?_⟩
      walk_at "ss"
      first | exact many_out (fun d G _ s3 e => q d G (s12.trans s3) e) | exact (many_out (fun d G _ s3 e => q d G (s12.trans s3) e)).2
    refine iteN (by rw [decide_eq_false (by omega)]; decide) ?_
    walk_at "ss"
    refine .inr ⟨r, al.length, cls, xs, rfl, hS2, fun i f e => ?_, ok, al4.1, by omega, hm, ?_⟩
    · obtain ⟨p, e1, e2⟩ := hat i f e
      exact ⟨p, e1, e2.same s12⟩
    rcases q with ⟨e, lk, q⟩ | ⟨v, d, e, hd, hb, q⟩
    · exact .inl ⟨e, by omega, lk, fun d G s3 e => q d G (s12.trans s3) e⟩
    · exact .inr ⟨v, d, e, dp_same hd s12, hb, fun d G s3 e => q d G (s12.trans s3) e⟩
theorem ok_Circuit___init (T : Env K mg) : FnOk P w K mg base (L2.CX P w) 7 T.f_Circuit___init T.fd_Circuit___init ["self", "alphabet", "lines"] (fun vs H Q E => spCInit T.C_Circuit T.C_Steps vs H Q E ∨ spCInitB K T vs H Q E) := fnok_or (good_Circuit___init T) (bad_Circuit___init T)
end


def ixs (al w : List Nat) : List Nat := w.map fun c => al.idxOf c
theorem ixs_lt {al w : List Nat} (h : ∀ c ∈ w, c ∈ al) : ∀ i ∈ ixs al w, i < al.length := fun i hi => by
  obtain ⟨c, hc, rfl⟩ := List.mem_map.mp hi
  exact List.idxOf_lt_length_iff.mpr (h c hc)
theorem idx_of : ∀ {l : List Nat} {i c : Nat}, l.Nodup → l[i]? = some c → l.idxOf c = i
  | [], i, c, _, h => by simp at h
  | a :: l, 0, c, _, h => by
    have e : a = c := by simpa using h
    rw [e, List.idxOf_cons_self]
  | a :: l, i + 1, c, nd, h => by
    have h2 : l[i]? = some c := by simpa using h
    obtain ⟨n1, n2⟩ := List.nodup_cons.mp nd
    have ne : (a == c) = false := by
      cases e : a == c with
      | false => rfl
      | true =>
        rw [beq_iff_eq] at e
        exact absurd (e ▸ List.mem_of_getElem? h2) n1
    rw [List.idxOf_cons, ne, idx_of n2 h2]
    rfl
theorem index_one {x : Str} {c : Nat} (nd : x.cps.toList.Nodup) (h : c ∈ x.cps.toList) : ∃ rest, Builtin.Str.occurrences x ⟨#[c]⟩ 0 x.length 1 = x.cps.toList.idxOf c :: rest := by
  have e := StrLaws.found_one x c
  rw [decide_eq_true h] at e
  cases o : Builtin.Str.occurrences x ⟨#[c]⟩ 0 x.length 1 with
  | nil => rw [o] at e; cases e
  | cons i rest =>
    have m : i ∈ Builtin.Str.occurrences x ⟨#[c]⟩ 0 x.length 1 := by rw [o]; exact List.mem_cons_self ..
    have g := (StrLaws.subAt_one x c i).mp (StrLaws.occ_spec x ⟨#[c]⟩ 0 x.length 1 i m)
    obtain ⟨hi, hc⟩ := List.getElem?_eq_some_iff.mp g
    exact ⟨rest, by rw [idx_of nd g]⟩

/-! ### the law's own circuits -/
/-- tables that are not empty, nor too long -/
def NonE : CL → Prop
  | .wire _ t => 1 ≤ t.length ∧ t.length ≤ 1000
  | .join _ _ t => 1 ≤ t.length ∧ t.length ≤ 1000 ∧ ∀ row ∈ t, 1 ≤ row.length
  | _ => True
theorem COk.nonE {L : Nat} {cls : List CL} (ok : COk L cls) (h1 : 1 ≤ L) (h9 : L ≤ 1000) {i : Nat} {f : CL} (e : cls[i]? = some f) : NonE f := by
  have k := ok i f e
  have hi := (List.getElem?_eq_some_iff.mp e).1
  cases f with
  | wire r t =>
    have := k.1
    have a := ok.posAt h1 (i := r) (by omega)
    have b := ok.leAt h9 r
    rw [← k.2.1] at a b
    exact ⟨a, b⟩
  | join x y t =>
    have := k.1
    have := k.2.1
    have a := ok.posAt h1 (i := x) (by omega)
    have b := ok.leAt h9 x
    have c := ok.posAt h1 (i := y) (by omega)
    rw [← k.2.2.1] at a b
    exact ⟨a, b, fun row hr => by rw [(k.2.2.2 row hr).1]; exact c⟩
  | const v => trivial
  | letter => trivial
  | latch s a r => trivial
  | counter s a r => trivial
def spLSize : Sp := fun vs H Q _ => ∃ (p : Addr) (u : V) (L : Nat) (f : CL), vs = [.ref p, u, .int (L : Nat)] ∧ CLAt H p f ∧ NonE f ∧ ∀ H', Same H H' → Q (.int (szC L f : Nat)) H'
def spLCells : Sp := fun vs H Q _ => ∃ (r : Addr) (cls : List CL), vs = [.ref r] ∧ CLs H r cls ∧ cls.length ≤ 4000 ∧ ∀ (p : Addr) (H' : Hp), H' p = some (.lst (natL (clsCells cls))) → H p = none → Same H H' → Q (.ref p) H'
def spLVals : Sp := fun vs H Q _ => ∃ (r sp : Addr) (L c : Nat) (cls : List CL) (st : List Nat), vs = [.ref r, .ref sp, .int (c : Nat)] ∧ CLs H r cls ∧ COk L cls ∧ cls.length ≤ 4000 ∧ H sp = some (.tup (natL st)) ∧ StOk L cls st ∧ c < L ∧
  ∀ (p : Addr) (H' : Hp), H' p = some (.lst (natL (vlS cls st c cls.length))) → H p = none → Same H H' → Q (.ref p) H'
def spLBegin : Sp := fun vs H Q _ => ∃ (r : Addr) (cls : List CL), vs = [.ref r] ∧ CLs H r cls ∧ cls.length ≤ 4000 ∧ ∀ (p : Addr) (H' : Hp), H' p = some (.tup (natL (beginC cls))) → Same H H' → Q (.ref p) H'
def spLStep : Sp := fun vs H Q _ => ∃ (r sp : Addr) (L c : Nat) (cls : List CL) (st : List Nat), vs = [.ref r, .ref sp, .int (c : Nat)] ∧ CLs H r cls ∧ COk L cls ∧ cls.length ≤ 4000 ∧ H sp = some (.tup (natL st)) ∧ StOk L cls st ∧ c < L ∧
  ∀ (p : Addr) (H' : Hp), H' p = some (.tup (natL (stepC cls st c))) → Same H H' → Q (.ref p) H'
def spLRun : Sp := fun vs H Q _ => ∃ (r : Addr) (al z : Str) (cls : List CL), vs = [.ref r, .str al, .str z] ∧ CLs H r cls ∧ COk al.length cls ∧ cls.length ≤ 4000 ∧ al.cps.toList.Nodup ∧ z.length ≤ 100000 ∧ (∀ c ∈ z.cps.toList, c ∈ al.cps.toList) ∧
  ∀ (p : Addr) (H' : Hp), H' p = some (.tup (natL (runC cls (ixs al.cps.toList z.cps.toList)))) → Same H H' → Q (.ref p) H'
def spLLast : Sp := fun vs H Q _ => ∃ (r sp : Addr) (L : Nat) (cls : List CL) (st : List Nat), vs = [.ref r, .ref sp] ∧ CLs H r cls ∧ COk L cls ∧ 1 ≤ L ∧ 1 ≤ cls.length ∧ cls.length ≤ 4000 ∧ H sp = some (.tup (natL st)) ∧ StOk L cls st ∧
  ∀ (H' : Hp), Same H H' → Q (.int (vlC cls st 0 (cls.length - 1) : Nat)) H'
theorem in_cells (f : CL) : inV (.str (kindC f)) [.str "latch", .str "counter"] = isCl f := by
  have k : ∀ s : Str, s ∈ (["const", "letter", "wire", "join"] : List Str) → inV (.str s) [.str "latch", .str "counter"] = false := by decide +kernel
  cases f with
  | const v => exact k _ (by simp [kindC])
  | letter => exact k _ (by simp [kindC])
  | wire r t => exact k _ (by simp [kindC])
  | join a b t => exact k _ (by simp [kindC])
  | latch s a r => show inV (.str "latch") _ = true; decide +kernel
  | counter s a r => show inV (.str "counter") _ = true; decide +kernel
theorem natL_ext {zs : List V} {ns : List Nat} (hl : zs.length = ns.length) (h : ∀ j < ns.length, zs[j]? = some (.int (ns.getD j 0 : Nat))) : zs = natL ns := by
  apply List.ext_getElem?
  intro j
  by_cases hj : j < ns.length
  · rw [h j hj, natL_at hj]
  · rw [List.getElem?_eq_none_iff.mpr (by omega), List.getElem?_eq_none_iff.mpr (by rw [natL_len]; omega)]

section
variable {P : Program} {w : World} {K : PySem.W.Frag} {mg : Str → Option Value} {base : Heap}
theorem ok_size (T : Env K mg) : FnOk P w K mg base CX0 1 T.f_size T.fd_size ["_law_line_here", "_law_sizes", "_law_width"] spLSize := by
  refine T.F_size.ok sc_size (fun vs H Q E h => ?_) (fun cdv A outer s H vs Q E hr h => ⟨_, ((pss_cons (ps_if (pt_cmpR op_eq (pe_ix ix_tup (pv 0) pe_int (fun _ _ => rfl)) pe_str (nomark _))
      (pss_one (ps_ret (pe_op op_add (pe_ix ix_tup (pv 0) pe_int (fun _ _ => rfl)) pe_int)))
      pss_nil)
      (pss_cons (ps_if (pt_cmpR op_eq (pe_ix ix_tup (pv 0) pe_int (fun _ _ => rfl)) pe_str (nomark _))
      (pss_one (ps_ret (pv 2)))
      pss_nil)
      (pss_cons (ps_if (pt_cmpR op_in_seq (pe_ix ix_tup (pv 0) pe_int (fun _ _ => rfl)) (pe_tup (pa_cons pe_str (pa_cons pe_str pa_nil))) (by rfl))
      (pss_one (ps_ret (pe_ix ix_tup (pv 0) pe_int (fun _ _ => rfl))))
      pss_nil)
      (pss_cons (ps_if (pt_cmpR op_eq (pe_ix ix_tup (pv 0) pe_int (fun _ _ => rfl)) pe_str (nomark _))
      (pss_one (ps_ret (pe_op op_add (pe_callB (cr_maxT rfl) (by rfl) T.z_max (by decide +kernel) (pa_cons (pe_ix ix_tup (pv 0) pe_int (fun _ _ => rfl)) pa_nil)) pe_int)))
      pss_nil)
      (pss_one (ps_ret (pe_op op_add (pe_callB (cr_max rfl) (by rfl) T.z_max (by decide +kernel) (pa_cons (pe_lc (own := [("_law_row", 3)]) (g := (gName 3)) (tt := tYes) (te := (tCB (rMaxT K) _)) rfl sc_size.nd (pi_tup (pe_ix ix_tup (pv 0) pe_int (fun _ _ => rfl))) (blkOk_by (own := [("_law_row", 3)]) (N := N_size) (sc := defScope s_size) (by decide +kernel)) (fun _ _ _ _ _ => (pg_name (i := 3) sc_size.nd rfl (.inl rfl))) (fun _ _ _ _ _ => pts_nil) (fun _ _ _ _ _ => (pe_callB (cr_maxT rfl) (by rfl) T.z_max (by decide +kernel) (pa_cons (pv 3) pa_nil)))) pa_nil)) pe_int)))))))), ?_⟩)
  · obtain ⟨p, u, L, f, rfl, _⟩ := h
    rfl
  · obtain ⟨p, u, L, f, rfl, hf, ne, q⟩ := h
    cases f with
    | const v =>
      have hf : H p = some (.tup [.str "const", .int (v : Nat)]) := hf
      walk_at "ss"
      refine ⟨p, _, 0, _, rfl, rfl, SqT.of hf, rfl, ?_⟩
      walk_at "ss"
      refine ⟨p, _, 1, _, rfl, rfl, SqT.of hf, rfl, ?_⟩
      walk_at "ss"
      exact q _ (Same.refl _)
    | letter =>
      have hf : H p = some (.tup [.str "letter"]) := hf
      walk_at "ss"
      refine ⟨p, _, 0, _, rfl, rfl, SqT.of hf, rfl, ?_⟩
      walk_at "ss"
      refine ⟨p, _, 0, _, rfl, rfl, SqT.of hf, rfl, ?_⟩
      walk_at "ss"
      exact q _ (Same.refl _)
    | latch n a r =>
      have hf : H p = some (.tup [.str "latch", .int (n : Nat), .int (a : Nat), .int (r : Nat)]) := hf
      walk_at "ss"
      refine ⟨p, _, 0, _, rfl, rfl, SqT.of hf, rfl, ?_⟩
      walk_at "ss"
      refine ⟨p, _, 0, _, rfl, rfl, SqT.of hf, rfl, ?_⟩
      walk_at "ss"
      refine ⟨p, _, 0, _, rfl, rfl, SqT.of hf, rfl, ?_⟩
      walk_at "ss"
      intro pt hpt
      have sp := same_upd (o := .tup [.str "latch", .str "counter"]) hpt
      walk_at "ss"
      refine ⟨pt, _, rfl, .inr (SqT.of upd_same), rfl, rfl, ?_⟩
      rw [show inV (V.str "latch") [V.str "latch", V.str "counter"] = true from by decide +kernel]
      walk_at "ss"
      refine ⟨p, _, 1, _, rfl, rfl, SqT.of (sp _ _ hf), rfl, ?_⟩
      exact q _ sp
    | counter n a r =>
      have hf : H p = some (.tup [.str "counter", .int (n : Nat), .int (a : Nat), .int (r : Nat)]) := hf
      walk_at "ss"
      refine ⟨p, _, 0, _, rfl, rfl, SqT.of hf, rfl, ?_⟩
      walk_at "ss"
      refine ⟨p, _, 0, _, rfl, rfl, SqT.of hf, rfl, ?_⟩
      walk_at "ss"
      refine ⟨p, _, 0, _, rfl, rfl, SqT.of hf, rfl, ?_⟩
      walk_at "ss"
      intro pt hpt
      have sp := same_upd (o := .tup [.str "latch", .str "counter"]) hpt
      walk_at "ss"
      refine ⟨pt, _, rfl, .inr (SqT.of upd_same), rfl, rfl, ?_⟩
      rw [show inV (V.str "counter") [V.str "latch", V.str "counter"] = true from by decide +kernel]
      walk_at "ss"
      refine ⟨p, _, 1, _, rfl, rfl, SqT.of (sp _ _ hf), rfl, ?_⟩
      exact q _ sp
    | wire r t =>
      obtain ⟨q0, hf, hq⟩ := hf
      walk_at "ss"
      refine ⟨p, _, 0, _, rfl, rfl, SqT.of hf, rfl, ?_⟩
      walk_at "ss"
      refine ⟨p, _, 0, _, rfl, rfl, SqT.of hf, rfl, ?_⟩
      walk_at "ss"
      refine ⟨p, _, 0, _, rfl, rfl, SqT.of hf, rfl, ?_⟩
      walk_at "ss"
      intro pt hpt
      have sp := same_upd (o := .tup [.str "latch", .str "counter"]) hpt
      walk_at "ss"
      refine ⟨pt, _, rfl, .inr (SqT.of upd_same), rfl, rfl, ?_⟩
      rw [show inV (V.str "wire") [V.str "latch", V.str "counter"] = false from by decide +kernel]
      have hf := sp _ _ hf
      have hq := sp _ _ hq
      generalize upd H pt (.tup [.str "latch", .str "counter"]) = H1 at *
      walk_at "ss"
      refine ⟨p, _, 0, _, rfl, rfl, SqT.of hf, rfl, ?_⟩
      walk_at "ss"
      refine ⟨p, _, 2, _, rfl, rfl, SqT.of hf, rfl, ?_⟩
      walk_at "ss"
      refine ⟨q0, t.map fun n : Nat => (n : Int), rfl, by rw [← natL_int]; exact SqT.of hq, by rw [List.length_map]; exact ne.1, fun m hm hg => ?_⟩
      rw [mx_int hm hg]
      walk_at "ss"
      exact q _ sp
    | join a b t =>
      obtain ⟨q0, qs, hf, hq, hR⟩ := hf
      have ql : (qs.map V.ref).length = t.length := by rw [List.length_map, hR.1]
      walk_at "ss"
      refine ⟨p, _, 0, _, rfl, rfl, SqT.of hf, rfl, ?_⟩
      walk_at "ss"
      refine ⟨p, _, 0, _, rfl, rfl, SqT.of hf, rfl, ?_⟩
      walk_at "ss"
      refine ⟨p, _, 0, _, rfl, rfl, SqT.of hf, rfl, ?_⟩
      walk_at "ss"
      intro pt hpt
      have sp := same_upd (o := .tup [.str "latch", .str "counter"]) hpt
      walk_at "ss"
      refine ⟨pt, _, rfl, .inr (SqT.of upd_same), rfl, rfl, ?_⟩
      rw [show inV (V.str "join") [V.str "latch", V.str "counter"] = false from by decide +kernel]
      have hf := sp _ _ hf
      have hq := sp _ _ hq
      have hR := hR.keep (.of sp)
      generalize upd H pt (.tup [.str "latch", .str "counter"]) = H1 at *
      walk_at "ss"
      refine ⟨p, _, 0, _, rfl, rfl, SqT.of hf, rfl, ?_⟩
      walk_at "ss"
      refine ⟨p, _, 3, _, rfl, rfl, SqT.of hf, rfl, ?_⟩
      walk_at "ss"
      refine ⟨⟨_, SqT.of hq⟩, ?_⟩
      intro D2 hD2
      refine lc_gen walk_tup (fun H' => Same H1 H') (fun i y => ∃ row, t[i]? = some row ∧ y = V.int (mx row : Nat)) (by rw [ql]; have := ne.2.1; omega) (same_upd hD2) (fun _ h => same_tup h (SqT.of hq)) (fun _ _ h => same_mut h hD2) ?_ ?_
      · rintro i x H2 H3 Q1 hlt2 hI2 ⟨rfl, hx2⟩ - hQ
        rw [ql] at hlt2
        obtain ⟨row, hrw⟩ : ∃ row, t[i]? = some row := ⟨_, List.getElem?_eq_getElem hlt2⟩
        obtain ⟨qa, hqa⟩ : ∃ qa, qs[i]? = some qa := ⟨_, List.getElem?_eq_getElem (by rw [hR.1]; exact hlt2)⟩
        rw [List.getElem?_map, hqa] at hx2
        cases hx2
        walk_at "ss"
        refine ⟨qa, row.map fun n : Nat => (n : Int), rfl, by rw [← natL_int]; exact SqT.of (hI2 _ _ (hR.2 i qa row hqa hrw)), by rw [List.length_map]; exact ne.2.2 row (List.mem_of_getElem? hrw), fun m hm2 hg => ?_⟩
        rw [mx_int hm2 hg]
        exact hQ _ _ ⟨row, hrw, rfl⟩ hI2 fun _ h => h
      · intro H2 ys hI2 hy2 hl3 hr3
        have e : ys = (t.map fun row => (mx row : Nat)).map fun n => V.int (n : Nat) := by
          rw [List.map_map]
          exact ys_map (by rw [hl3, ql]) hr3
        subst e
        walk_at "ss"
        refine ⟨D2, (t.map mx).map fun n : Nat => (n : Int), rfl, by rw [← natL_int]; exact SqL.of hy2, by rw [List.length_map, List.length_map]; exact ne.1, fun m hm2 hg => ?_⟩
        rw [mx_int hm2 hg]
        walk_at "ss"
        exact q _ (sp.trans hI2)
end


/-! ### the law's own looks -/
def spLLook : Sp := fun vs H Q _ => ∃ (r : Addr) (L : Nat) (cls : List CL), vs = [.ref r] ∧ CLs H r cls ∧ COk L cls ∧ cls.length ≤ 4000 ∧ ∀ (p : Addr) (H' : Hp), H' p = some (.lst (boolL (lkS cls cls.length))) → H p = none → Same H H' → Q (.ref p) H'
def lkL : CL → Bool
  | .letter => true
  | _ => false
def lkW : CL → Bool
  | .wire _ _ => true
  | .join _ _ _ => true
  | _ => false
theorem lkL_eq (f : CL) : decide (V.str (kindC f) = V.str "letter") = lkL f := by
  have k : ∀ s : Str, s ∈ (["const", "wire", "join", "latch", "counter"] : List Str) → decide (V.str s = V.str "letter") = false := by decide +kernel
  cases f with
  | letter => exact decide_eq_true rfl
  | const v => exact k _ (by simp [kindC])
  | wire r t => exact k _ (by simp [kindC])
  | join a b t => exact k _ (by simp [kindC])
  | latch a b t => exact k _ (by simp [kindC])
  | counter a b t => exact k _ (by simp [kindC])
theorem lkW_eq (f : CL) : inV (.str (kindC f)) [.str "wire", .str "join"] = lkW f := by
  have k : ∀ s : Str, s ∈ (["const", "letter", "latch", "counter"] : List Str) → inV (.str s) [.str "wire", .str "join"] = false := by decide +kernel
  have k2 : ∀ s : Str, s ∈ (["wire", "join"] : List Str) → inV (.str s) [.str "wire", .str "join"] = true := by decide +kernel
  cases f with
  | letter => exact k _ (by simp [kindC])
  | const v => exact k _ (by simp [kindC])
  | wire r t => exact k2 _ (by simp [kindC])
  | join a b t => exact k2 _ (by simp [kindC])
  | latch a b t => exact k _ (by simp [kindC])
  | counter a b t => exact k _ (by simp [kindC])
section
variable {P : Program} {w : World} {K : PySem.W.Frag} {mg : Str → Option Value} {base : Heap}
theorem ok_looking (T : Env K mg) : FnOk P w K mg base CX0 1 T.f_looking T.fd_looking ["_law_lines_here"] spLLook := by
  refine T.F_looking.ok sc_looking (fun vs H Q E h => ?_) (fun cdv A outer s H vs Q E hr h => ⟨_, ((pss_cons (ps_set (i := 1) sc_looking.nd rfl (.inl rfl) (pe_lst pa_nil))
      (pss_cons (ps_for PassesOwn.never rfl (pi_list (pv 0)) (pg_name (i := 2) sc_looking.nd rfl (.inl rfl))
      (pss_cons (ps_set (i := 3) sc_looking.nd rfl (.inl rfl) (pe_cmpR op_eq (pe_ix ix_tup (pv 2) pe_int (fun _ _ => rfl)) pe_str (nomark _)))
      (pss_cons (ps_if (pt_cmpR op_in_seq (pe_ix ix_tup (pv 2) pe_int (fun _ _ => rfl)) (pe_tup (pa_cons pe_str (pa_cons pe_str pa_nil))) (by rfl))
      (pss_one (ps_set (i := 3) sc_looking.nd rfl (.inl rfl) (pe_or (pe_ix ix_list (pv 1) (pe_ix ix_tup (pv 2) pe_int (fun _ _ => rfl)) (fun _ _ => rfl)) (pe_one (pe_and (pe_cmpR op_eq (pe_ix ix_tup (pv 2) pe_int (fun _ _ => rfl)) pe_str (nomark _)) (pe_one (pe_ix ix_list (pv 1) (pe_ix ix_tup (pv 2) pe_int (fun _ _ => rfl)) (fun _ _ => rfl))))))))
      pss_nil)
      (pss_one (ps_expr (pe_bm PySem.F.plainAttrs_list PySem.F.slot_list_append PySem.F.type_list_append mt_append (pv 1) (pa_cons (pv 3) pa_nil)))))))
      (pss_one (ps_ret (pv 1)))))), ?_⟩)
  · obtain ⟨r, L, cls, rfl, _⟩ := h
    rfl
  · obtain ⟨r, L, cls, rfl, hf, ok, n4, q⟩ := h
    obtain ⟨xs, hxs, hl⟩ := hf.len
    walk_at "ss"
    intro a ha
    have s1 := same_upd (o := .lst []) ha
    walk_at "ss"
    refine ⟨⟨_, SqL.of (s1 _ _ hxs)⟩, ?_⟩
    refine for_it walk_list (fun i σ H' => Stp (Same H H' ∧ H' a = some (.lst (boolL (lkS cls i))) ∧ ∃ y2 y3 : Option V, σ = [some (.ref r), some (.ref a), y2, y3]))
      (.mk ⟨s1, upd_same, _, _, rfl⟩) (fun i σ H' _ h => h.of.1.seq (SqL.of hxs)) ?_ ?_
    · rintro i y σ H3 H4 hi hP ⟨rfl, ey⟩
      obtain ⟨s3, ha3, y2, y3, rfl⟩ := hP.of
      clear hP
      rw [hl] at hi
      obtain ⟨f, hfi⟩ : ∃ f, cls[i]? = some f := ⟨_, List.getElem?_eq_getElem hi⟩
      obtain ⟨xs2, p, g1, g2, g3, g4⟩ := hf.at_ hfi
      rw [hxs] at g1
      cases g1
      rw [g3] at ey
      cases ey
      have g4 := g4.same s3
      have okf := ok i f hfi
      have ll : (lkS cls i).length = i := lkS_len (by omega)
      obtain ⟨rest, hp⟩ := g4.kind
      have e1 : decide (V.str (kindC f) = V.str "letter") = lkL f := lkL_eq f
      have e2 : inV (.str (kindC f)) [.str "wire", .str "join"] = lkW f := lkW_eq f
      show gName 2 _ _ _ _
      walk_at "ss"
      refine ⟨p, _, 0, _, rfl, rfl, SqT.of hp, at_zeroC, ?_⟩
      walk_at "ss"
      rw [e1]
      walk_at "ss"
      refine ⟨p, _, 0, _, rfl, rfl, SqT.of hp, at_zeroC, ?_⟩
      walk_at "ss"
      intro pt hpt
      have sp := same_upd (o := .tup [.str "wire", .str "join"]) hpt
      walk_at "ss"
      refine ⟨pt, _, rfl, .inr (SqT.of upd_same), rfl, rfl, ?_⟩
      rw [e2]
      have g5 := g4.same sp
      have hp5 := sp _ _ hp
      have ha5 := sp _ _ ha3
      have s5 := s3.trans sp
      clear e1 e2 ha3 g4 hp s3 hpt sp
      generalize upd _ pt (.tup [.str "wire", .str "join"]) = H5 at *
      have fin : ∀ b : Bool, b = lkOf f (lkS cls i) → Stp (Same H (upd H5 a (.lst (boolL (lkS cls i) ++ [.bl b]))) ∧ (upd H5 a (.lst (boolL (lkS cls i) ++ [.bl b]))) a = some (.lst (boolL (lkS cls (i + 1)))) ∧ ∃ y2 y3 : Option V, [some (V.ref r), some (V.ref a), some (V.ref p), some (V.bl b)] = [some (.ref r), some (.ref a), y2, y3]) := fun b e =>
        .mk ⟨same_mut s5 ha, by rw [upd_same, lkS_succ hfi, boolL_snoc, e], _, _, rfl⟩
      have go : ∀ {b : Bool} {Qd : L2.St → Hp → Prop}, b = lkOf f (lkS cls i) → True := fun _ => trivial
      have n4 : (boolL (lkS cls i)).length + 1 ≤ 100000 := by rw [boolL_len, ll]; omega
      cases f with
      | wire rr t =>
        obtain ⟨q0, hf5, -⟩ := g5
        have rl : rr < (lkS cls i).length := by rw [ll]; exact okf.1
        have er : lkOf (.wire rr t) (lkS cls i) = (lkS cls i).getD rr false := by
          show ([rr].any fun r => (lkS cls i).getD r false) = _
          simp
        walk_at "ss"
        refine ⟨p, _, 1, _, rfl, rfl, SqT.of hf5, rfl, ?_⟩
        walk_at "ss"
        refine ⟨a, _, _, _, rfl, rfl, SqL.of ha5, atI_nat (boolL_at rl), ?_⟩
        refine ⟨_, rfl, ?_⟩
        cases hb : (lkS cls i).getD rr false with
        | true =>
          walk_at "ss"
          refine ⟨.inl ⟨rfl, _, SqL.of ha5⟩, ?_⟩
          walk_at "ss"
          refine ⟨a, _, _, rfl, rfl, ha5, szl (by omega), ?_⟩
          exact fin _ (by rw [er, hb])
        | false =>
          walk_at "ss"
          refine ⟨p, _, 0, _, rfl, rfl, SqT.of hf5, rfl, ?_⟩
          walk_at "ss"
          refine ⟨.inl ⟨rfl, _, SqL.of ha5⟩, ?_⟩
          walk_at "ss"
          refine ⟨a, _, _, rfl, rfl, ha5, szl (by omega), ?_⟩
          exact fin _ (by rw [er, hb])
      | join x y t =>
        obtain ⟨q0, qs, hf5, -⟩ := g5
        have xl : x < (lkS cls i).length := by rw [ll]; exact okf.1
        have yl : y < (lkS cls i).length := by rw [ll]; exact okf.2.1
        have er : lkOf (.join x y t) (lkS cls i) = ((lkS cls i).getD x false || (lkS cls i).getD y false) := by
          show ([x, y].any fun r => (lkS cls i).getD r false) = _
          simp
        walk_at "ss"
        refine ⟨p, _, 1, _, rfl, rfl, SqT.of hf5, rfl, ?_⟩
        walk_at "ss"
        refine ⟨a, _, _, _, rfl, rfl, SqL.of ha5, atI_nat (boolL_at xl), ?_⟩
        refine ⟨_, rfl, ?_⟩
        cases hb : (lkS cls i).getD x false with
        | true =>
          walk_at "ss"
          refine ⟨.inl ⟨rfl, _, SqL.of ha5⟩, ?_⟩
          walk_at "ss"
          refine ⟨a, _, _, rfl, rfl, ha5, szl (by omega), ?_⟩
          exact fin _ (by rw [er, hb]; rfl)
        | false =>
          walk_at "ss"
          refine ⟨p, _, 0, _, rfl, rfl, SqT.of hf5, rfl, ?_⟩
          walk_at "ss"
          refine ⟨p, _, 2, _, rfl, rfl, SqT.of hf5, rfl, ?_⟩
          walk_at "ss"
          refine ⟨a, _, _, _, rfl, rfl, SqL.of ha5, atI_nat (boolL_at yl), ?_⟩
          walk_at "ss"
          refine ⟨.inl ⟨rfl, _, SqL.of ha5⟩, ?_⟩
          walk_at "ss"
          refine ⟨a, _, _, rfl, rfl, ha5, szl (by omega), ?_⟩
          exact fin _ (by rw [er, hb]; rfl)
      | const v =>
        walk_at "ss"
        refine ⟨.inl ⟨rfl, _, SqL.of ha5⟩, ?_⟩
        walk_at "ss"
        refine ⟨a, _, _, rfl, rfl, ha5, szl (by omega), ?_⟩
        exact fin _ rfl
      | letter =>
        walk_at "ss"
        refine ⟨.inl ⟨rfl, _, SqL.of ha5⟩, ?_⟩
        walk_at "ss"
        refine ⟨a, _, _, rfl, rfl, ha5, szl (by omega), ?_⟩
        exact fin _ rfl
      | latch n x rr =>
        walk_at "ss"
        refine ⟨.inl ⟨rfl, _, SqL.of ha5⟩, ?_⟩
        walk_at "ss"
        refine ⟨a, _, _, rfl, rfl, ha5, szl (by omega), ?_⟩
        exact fin _ rfl
      | counter n x rr =>
        walk_at "ss"
        refine ⟨.inl ⟨rfl, _, SqL.of ha5⟩, ?_⟩
        walk_at "ss"
        refine ⟨a, _, _, rfl, rfl, ha5, szl (by omega), ?_⟩
        exact fin _ rfl
    · rintro σ H3 hP
      obtain ⟨s3, ha3, y2, y3, rfl⟩ := hP.of
      rw [hl] at ha3
      walk_at "ss"
      exact q a H3 ha3 ha s3
end

def spCLen (C CS : Addr) : Sp := fun vs H Q _ => ∃ (m : Addr) (al : Str) (cls : List CL), vs = [.ref m] ∧ CircAt C CS H m al cls ∧ Q (.int (cls.length : Nat)) H
section
variable {P : Program} {w : World} {K : PySem.W.Frag} {mg : Str → Option Value} {base : Heap}
theorem ok_Circuit___len (T : Env K mg) : FnOk P w K mg base CX0 1 T.f_Circuit___len T.fd_Circuit___len ["self"] (spCLen T.C_Circuit T.C_Steps) := by
  refine T.F_Circuit___len.ok sc_Circuit___len (fun vs H Q E h => ?_) (fun cdv A outer s H vs Q E hr h => ⟨_, ((pss_one (ps_ret (pe_callB call_len_seq (by rfl) T.z_len (by decide +kernel) (pa_cons (pe_fld (pv 0) rfl) pa_nil))))), ?_⟩)
  · obtain ⟨m, al, cls, rfl, _⟩ := h
    rfl
  · obtain ⟨m, al, cls, rfl, M, q⟩ := h
    obtain ⟨dx, l, sa, ka, x, hm, S, hsz, hlk⟩ := M.at_
    obtain ⟨ps, h1, h2, h3⟩ := id S.ln
    walk_at "ss"
    refine ⟨m, T.C_Circuit, dx, _, _, rfl, hm, T.cl_Circuit, T.n_Circuit__lines, rfl, ?_⟩
    walk_at "ss"
    refine ⟨l, _, rfl, .inl (SqL.of h1), ?_⟩
    rw [List.length_map, h2]
    exact q
end


/-! ### drawn circuits -/
def spLine : Sp := fun vs H Q _ => ∃ (b l s : Addr) (sz : List Nat), vs = [.ref b, .ref s] ∧ BagAt b l H ∧ H s = some (.lst (natL sz)) ∧ s ≠ b ∧ 1 ≤ sz.length ∧ sz.length ≤ 100 ∧ (∀ i < sz.length, 1 ≤ sz.getD i 0 ∧ sz.getD i 0 ≤ 6) ∧
  ∀ (p : Addr) (f : CL) (H' : Hp), CLAt H' p f → CLOk (fun i => sz.getD i 0) sz.length f → (∀ L, szC L f ≤ 6) → f ≠ .letter → BagAt b l H' → Kp b H H' → Q (.ref p) H'
theorem int_nat {i : Int} (h : 0 ≤ i) : ∃ n : Nat, i = (n : Nat) := ⟨i.toNat, by omega⟩
theorem pr_in {v : V} (h : v ∈ ([.int 2, .int 2, .int 3, .int 5] : List V)) : ∃ p : Nat, v = .int (p : Nat) ∧ p ∈ PR ∧ p ≤ 6 := by
  simp only [List.mem_cons, List.not_mem_nil, or_false] at h
  rcases h with rfl | rfl | rfl | rfl
  · exact ⟨2, rfl, by decide, by decide⟩
  · exact ⟨2, rfl, by decide, by decide⟩
  · exact ⟨3, rfl, by decide, by decide⟩
  · exact ⟨5, rfl, by decide, by decide⟩
/-- drawn numbers of a table -/
theorem pick_nat {m : Nat} {ys : List V} (h : ∀ (i : Nat) (y : V), ys[i]? = some y → ∃ c : Nat, c < m ∧ y = .int (c : Nat)) : ∃ t : List Nat, ys = natL t ∧ t.length = ys.length ∧ ∀ x ∈ t, x < m := by
  obtain ⟨cs, h1, h2, h3⟩ := pick_map (P := fun c : Nat => c < m) (f := fun c : Nat => V.int (c : Nat)) h
  exact ⟨cs, h1, h2, h3⟩
theorem mx4 {t : List Nat} (h : ∀ x ∈ t, x < 4) : mx t + 1 ≤ 6 := by
  have := mx_lt h (by decide)
  omega
theorem mxmx4 {t : List (List Nat)} (h : ∀ row ∈ t, ∀ x ∈ row, x < 4) : mx (t.map mx) + 1 ≤ 6 := mx4 fun x hx => by
  obtain ⟨row, hr, rfl⟩ := List.mem_map.mp hx
  exact mx_lt (h row hr) (by decide)
section
variable {P : Program} {w : World} {K : PySem.W.Frag} {mg : Str → Option Value} {base : Heap}
theorem ok_line (T : Env K mg) : FnOk P w K mg base CX0 3 T.f_line T.fd_line ["_law_bag_here", "_law_sizes"] spLine := by
  refine T.F_line.ok sc_line (fun vs H Q E h => ?_) (fun cdv A outer s H vs Q E hr h => ⟨_, ((pss_cons (ps_par (i := 2) (j := 3) (by rfl) sc_line.nd rfl rfl (by decide) rfl rfl (pa_cons (pe_callB call_len_seq (by rfl) T.z_len (by decide +kernel) (pa_cons (pv 1) pa_nil)) (pa_cons (pe_call (ok_pull T) (hr.mono (by decide)) (by rfl) T.g_pull T.F_pull.kp T.b_pull .nil pass0 (pa_cons (pv 0) (pa_cons pe_int pa_nil))) pa_nil)) (by rfl))
      (pss_cons (ps_asg (pe_tup (pa_cons (pe_call (ok_pull T) (hr.mono (by decide)) (by rfl) T.g_pull T.F_pull.kp T.b_pull .nil pass0 (pa_cons (pv 0) (pa_cons (pv 2) pa_nil))) (pa_cons (pe_op op_sub (pe_op op_sub (pv 2) pe_int) (pe_call (ok_of T) (hr.mono (by decide)) (by rfl) T.g_of T.F_of.kp T.b_of .nil pass0 (pa_cons (pv 0) (pa_cons (pe_lst (pa_cons pe_int (pa_cons pe_int (pa_cons (pe_call (ok_pull T) (hr.mono (by decide)) (by rfl) T.g_pull T.F_pull.kp T.b_pull .nil pass0 (pa_cons (pv 0) (pa_cons (pv 2) pa_nil))) pa_nil)))) pa_nil)))) pa_nil))) (pg_tup (by rfl) (pgs_cons (pg_name (i := 4) sc_line.nd rfl (.inl rfl)) (pgs_cons (pg_name (i := 5) sc_line.nd rfl (.inr rfl)) pgs_nil))))
      (pss_cons (ps_if (pt_cmpR op_eq (pv 3) pe_int (nomark _))
      (pss_one (ps_ret (pe_tup (pa_cons pe_str (pa_cons (pe_call (ok_of T) (hr.mono (by decide)) (by rfl) T.g_of T.F_of.kp T.b_of .nil pass0 (pa_cons (pv 0) (pa_cons (pe_lst (pa_cons pe_int (pa_cons pe_int (pa_cons pe_int (pa_cons (pe_call (ok_pull T) (hr.mono (by decide)) (by rfl) T.g_pull T.F_pull.kp T.b_pull .nil pass0 (pa_cons (pv 0) (pa_cons pe_int pa_nil))) pa_nil))))) pa_nil))) pa_nil)))))
      pss_nil)
      (pss_cons (ps_if (pt_cmpR op_eq (pv 3) pe_int (nomark _))
      (pss_one (ps_ret (pe_tup (pa_cons pe_str (pa_cons (pv 5) (pa_cons (pe_callTy call_tuple_of (by rfl) T.z_tuple (by decide +kernel) (pa_cons (pe_lc (own := [("_law_k", 8)]) (g := (gName 8)) (tt := tYes) rfl sc_line.nd (pi_range1 (by rfl) T.z_range (pa_cons (pe_ix ix_list (pv 1) (pv 5) (fun _ _ => rfl)) pa_nil)) (blkOk_by (own := [("_law_k", 8)]) (N := N_line) (sc := defScope s_line) (by decide +kernel)) (fun _ _ _ _ _ => (pg_name (i := 8) sc_line.nd rfl (.inl rfl))) (fun _ _ _ _ _ => pts_nil) (fun _ _ _ _ _ => (pe_call (ok_pull T) (hr.mono (by decide)) (by rfl) T.g_pull T.F_pull.kp T.b_pull .nil pass0 (pa_cons (pv 0) (pa_cons pe_int pa_nil))))) pa_nil)) pa_nil))))))
      pss_nil)
      (pss_cons (ps_if (PW.pt (pw_and (pt_cmpR op_lt (pv 3) pe_int (nomark _)) (pw_and1 (pt_cmpR op_le (pe_op op_mul (pe_ix ix_list (pv 1) (pv 4) (fun _ _ => rfl)) (pe_ix ix_list (pv 1) (pv 5) (fun _ _ => rfl))) pe_int (nomark _)))))
      (pss_one (ps_ret (pe_tup (pa_cons pe_str (pa_cons (pv 4) (pa_cons (pv 5) (pa_cons (pe_callTy call_tuple_of (by rfl) T.z_tuple (by decide +kernel) (pa_cons (pe_lc (own := [("_law_j", 9)]) (g := (gName 9)) (tt := tYes) (te := (tCB (fun xs H Q => ∃ p ys, xs = [V.ref p] ∧ ((SqL K H p ys ∧ ∀ l, H l = none → Q (V.ref l) (upd H l (HO.tup ys))) ∨ (SqT K H p ys ∧ Q (V.ref p) H))) (tCons (tLc (iRng1 (tCons (tOp (rIxL K) _ _) tNil)) (gName 8) _ _ _) tNil))) rfl sc_line.nd (pi_range1 (by rfl) T.z_range (pa_cons (pe_ix ix_list (pv 1) (pv 4) (fun _ _ => rfl)) pa_nil)) (blkOk_by (own := [("_law_j", 9)]) (N := N_line) (sc := defScope s_line) (by decide +kernel)) (fun _ _ _ _ _ => (pg_name (i := 9) sc_line.nd rfl (.inl rfl))) (fun _ _ _ _ _ => pts_nil) (fun _ _ _ _ _ => (pe_callTy call_tuple_of (by rfl) T.z_tuple (by decide +kernel) (pa_cons (pe_lc (own := [("_law_k", 8)]) (g := (gName 8)) (tt := tYes) rfl sc_line.nd (pi_range1 (by rfl) T.z_range (pa_cons (pe_ix ix_list (pv 1) (pv 5) (fun _ _ => rfl)) pa_nil)) (by exact blkOk_by (own := [("_law_k", 8)]) (by kernel_rfl)) (fun _ _ _ _ _ => (pg_name (i := 8) sc_line.nd rfl (.inl rfl))) (fun _ _ _ _ _ => pts_nil) (fun _ _ _ _ _ => (pe_call (ok_pull T) (hr.mono (by decide)) (by rfl) T.g_pull T.F_pull.kp T.b_pull .nil pass0 (pa_cons (pv 0) (pa_cons pe_int pa_nil))))) pa_nil)))) pa_nil)) pa_nil)))))))
      pss_nil)
      (pss_cons (ps_if (pt_cmpR op_lt (pv 3) pe_int (nomark _))
      (pss_cons (ps_set (i := 6) sc_line.nd rfl (.inl rfl) (pe_call (ok_of T) (hr.mono (by decide)) (by rfl) T.g_of T.F_of.kp T.b_of .nil pass0 (pa_cons (pv 0) (pa_cons (pe_lst (pa_cons pe_int (pa_cons pe_int (pa_cons pe_int (pa_cons pe_int pa_nil))))) pa_nil))))
      (pss_cons (ps_set (i := 6) sc_line.nd rfl (.inl rfl) (pe_callB (call_max2 rfl) (by rfl) T.z_max (by decide +kernel) (pa_cons (pv 6) (pa_cons (pe_op op_sub (pe_ix ix_list (pv 1) (pv 5) (fun _ _ => rfl)) pe_int) pa_nil))))
      (pss_one (ps_ret (pe_tup (pa_cons pe_str (pa_cons (pv 6) (pa_cons (pe_call (ok_pull T) (hr.mono (by decide)) (by rfl) T.g_pull T.F_pull.kp T.b_pull .nil pass0 (pa_cons (pv 0) (pa_cons (pv 6) pa_nil))) (pa_cons (pv 5) pa_nil)))))))))
      pss_nil)
      (pss_cons (ps_set (i := 7) sc_line.nd rfl (.inl rfl) (pe_call (ok_of T) (hr.mono (by decide)) (by rfl) T.g_of T.F_of.kp T.b_of .nil pass0 (pa_cons (pv 0) (pa_cons (pe_lst (pa_cons pe_int (pa_cons pe_int (pa_cons pe_int (pa_cons pe_int pa_nil))))) pa_nil))))
      (pss_one (ps_ret (pe_tup (pa_cons pe_str (pa_cons (pv 7) (pa_cons (pe_call (ok_pull T) (hr.mono (by decide)) (by rfl) T.g_pull T.F_pull.kp T.b_pull .nil pass0 (pa_cons (pv 0) (pa_cons (pv 7) pa_nil))) (pa_cons (pv 5) pa_nil))))))))))))))), ?_⟩)
  · obtain ⟨b, l, s, sz, rfl, _⟩ := h
    rfl
  · obtain ⟨b, l, sl, sz, rfl, B, hs, sb, n1, n9, bnd, q⟩ := h
    obtain ⟨nz, hnz⟩ : ∃ nz : Int, nz = (sz.length : Int) := ⟨_, rfl⟩
    walk_at "ss"
    refine ⟨sl, _, rfl, .inl (SqL.of hs), ?_⟩
    rw [natL_len, ← hnz]
    walk_at "ss"
    refine ⟨b, l, _, rfl, B, by decide, by decide, fun kd H1 kd0 kd1 B1 k1 => ?_⟩
    have hs1 := k1 _ _ hs sb
    walk_at "ss"
    refine ⟨_, _, rfl, ?_⟩
    walk_at "ss"
    refine ⟨b, l, _, rfl, B1, by omega, by omega, fun one H2 one0 one1 B2 k2 => ?_⟩
    have k12 := k1.trans k2
    have hs2 := k2 _ _ hs1 sb
    clear B B1 k1 k2 hs hs1
    walk_at "ss"
    refine ⟨b, l, _, rfl, B2, by omega, by omega, fun kk H3 kk0 kk1 B3 k3 => ?_⟩
    have k13 := k12.trans k3
    have hs3 := k3 _ _ hs2 sb
    clear B2 k12 k3 hs2
    walk_at "ss"
    intro D hD
    have s8 := same_upd (o := .lst [.int 0, .int 0, .int kk]) hD
    walk_at "ss"
    refine ⟨b, l, _, rfl, B3.same s8, .inl ⟨D, _, rfl, B3.nb hD, .inl (SqL.of upd_same), (by intro z; cases z), (by show 3 ≤ 100000; decide), fun u H9 hu B9 k9 => ?_⟩⟩
    obtain ⟨m, rfl, m0, m1⟩ : ∃ m : Int, u = .int m ∧ 0 ≤ m ∧ m < nz := by
      simp only [List.mem_cons, List.not_mem_nil, or_false] at hu
      rcases hu with rfl | rfl | rfl <;> exact ⟨_, rfl, by omega, by omega⟩
    have k09 := (k13.trans (Kp.same s8)).trans k9
    have hs9 := k9 _ _ (s8 _ _ hs3) sb
    clear B3 k13 hs3 hD s8 k9 hu
    obtain ⟨on, hon⟩ := int_nat one0
    obtain ⟨ot, hot⟩ : ∃ ot : Nat, nz - 1 - m = (ot : Nat) := int_nat (by omega)
    have onl : on < sz.length := by omega
    have otl : ot < sz.length := by omega
    subst hon
    walk_at "ss"
    intro tt htt
    have s10 := same_upd (o := .tup [.int (on : Nat), .int (nz - 1 - m)]) htt
    have B10 := B9.same s10
    have k010 := k09.trans (Kp.same s10)
    have hs10 := s10 _ _ hs9
    refine ⟨tt, _, rfl, .inl (.inl upd_same), rfl, _, _, rfl, _, _, rfl, rfl, ?_⟩
    clear B9 k09 htt hs9
    show (_ : L2.St → Hp → Prop) [some (.ref b), some (.ref sl), some (.int nz), some (.int kd), some (.int (on : Nat)), some (.int (nz - 1 - m)), none, none, none, none] (upd H9 tt (.tup [.int (on : Nat), .int (nz - 1 - m)]))
    rw [hot] at *
    generalize upd H9 tt (.tup [.int (on : Nat), .int (ot : Nat)]) = G at *
    clear s10
    walk_at "ss"
    clear hnz m0 m1 hot kk0 kk1 one0 one1
    refine ite2 (fun e0 => ?_) (fun e0 => ?_)
    · walk_at "ss"
      refine ⟨b, l, _, rfl, B10, by decide, by decide, fun k6 G1 k60 k61 B11 k11 => ?_⟩
      walk_at "ss"
      intro D2 hD2
      have s12 := same_upd (o := .lst [.int 0, .int 1, .int 2, .int k6]) hD2
      walk_at "ss"
      refine ⟨b, l, _, rfl, B11.same s12, .inl ⟨D2, _, rfl, B11.nb hD2, .inl (SqL.of upd_same), (by intro z; cases z), (by show 4 ≤ 100000; decide), fun u G2 hu B13 k13 => ?_⟩⟩
      obtain ⟨v, rfl, v5⟩ : ∃ v : Nat, u = .int (v : Nat) ∧ v ≤ 5 := by
        simp only [List.mem_cons, List.not_mem_nil, or_false] at hu
        obtain ⟨k6n, rfl⟩ := int_nat k60
        rcases hu with rfl | rfl | rfl | rfl
        · exact ⟨0, rfl, by decide⟩
        · exact ⟨1, rfl, by decide⟩
        · exact ⟨2, rfl, by decide⟩
        · exact ⟨k6n, rfl, by omega⟩
      walk_at "ss"
      intro tp htp
      have s14 := same_upd (o := .tup [.str "const", .int (v : Nat)]) htp
      exact q tp (.const v) _ upd_same (show v < 1000 by omega) (fun L => show v + 1 ≤ 6 by omega) (by intro z; cases z) (B13.same s14) (k010.trans (k11.trans ((Kp.same s12).trans (k13.trans (Kp.same s14)))))
    walk_at "ss"
    refine ite2 (fun e1 => ?_) (fun e1 => ?_)
    · walk_at "ss"
      refine ⟨sl, _, _, _, rfl, rfl, SqL.of hs10, atI_nat (natL_at otl), ?_⟩
      obtain ⟨b1, b6⟩ := bnd ot otl
      obtain ⟨wz, hwz⟩ : ∃ wz : Int, wz = ((sz.getD ot 0 : Nat) : Int) := ⟨_, rfl⟩
      rw [← hwz]
      walk_at "ss"
      intro D2 hD2
      have n2b := B10.nb hD2
      have n2l := B10.nl hD2
      refine lc_gen walk_range (fun H' => BagAt b l H' ∧ Kp b G H') (fun i y => ∃ c : Nat, c < 4 ∧ y = V.int (c : Nat)) (by omega) ⟨B10.mut n2b n2l, Kp.same (same_upd hD2)⟩ (fun _ _ => trivial) (fun _ _ h => ⟨h.1.mut n2b n2l, h.2.mut hD2⟩) ?_ ?_
      · rintro i x H3 H4 Q2 hlt hI2 ⟨rfl, rfl⟩ - hQ2
        walk_at "ss"
        refine ⟨b, l, _, rfl, hI2.1, by omega, by omega, fun k H5 k0 k1 B5 k5 => ?_⟩
        obtain ⟨kn, rfl⟩ := int_nat k0
        exact hQ2 _ _ ⟨kn, by omega, rfl⟩ ⟨B5, hI2.2.trans k5⟩ fun o ho => k5 _ _ ho n2b
      · rintro H3 ys ⟨B3, k3⟩ hy hl hr
        obtain ⟨t, rfl, tl, tlt⟩ := pick_nat hr
        walk_at "ss"
        refine ⟨D2, _, rfl, .inl ⟨SqL.of hy, fun q0 hq0 => ?_⟩⟩
        have s5 := same_upd (o := .tup (natL t)) hq0
        have hq1 := upd_same (H := H3) (a := q0) (o := .tup (natL t))
        walk_at "ss"
        intro tp htp
        have s6 := same_upd (o := .tup [.str "wire", .int (ot : Nat), .ref q0]) htp
        refine q tp (.wire ot t) _ ⟨q0, upd_same, s6 _ _ hq1⟩ ⟨otl, by show t.length = sz.getD ot 0; omega, fun x hx => by have := tlt x hx; omega⟩ (fun L => mx4 tlt) (by intro z; cases z) (B3.same (s5.trans s6)) (k010.trans (k3.trans (Kp.same (s5.trans s6))))
    walk_at "ss"
    refine ite2 (fun e2 => ?_) (fun e2 => ?_)
    · walk_at "ss"
      refine ⟨sl, _, _, _, rfl, rfl, SqL.of hs10, atI_nat (natL_at onl), ?_⟩
      walk_at "ss"
      refine ⟨sl, _, _, _, rfl, rfl, SqL.of hs10, atI_nat (natL_at otl), ?_⟩
      obtain ⟨a1, a6⟩ := bnd on onl
      obtain ⟨b1, b6⟩ := bnd ot otl
      have ab : sz.getD on 0 * sz.getD ot 0 ≤ 36 := Nat.mul_le_mul a6 b6
      have ab2 : ((sz.getD on 0 : Nat) : Int) * ((sz.getD ot 0 : Nat) : Int) ≤ 36 := by exact_mod_cast ab
      obtain ⟨az, haz⟩ : ∃ az : Int, az = ((sz.getD on 0 : Nat) : Int) := ⟨_, rfl⟩
      obtain ⟨bz, hbz⟩ : ∃ bz : Int, bz = ((sz.getD ot 0 : Nat) : Int) := ⟨_, rfl⟩
      rw [← haz, ← hbz] at ab2
      rw [← haz, ← hbz]
      walk_at "ss"
      refine iteP (decide_eq_true (by omega)) ?_
      walk_at "ss"
      refine ⟨sl, _, _, _, rfl, rfl, SqL.of hs10, atI_nat (natL_at onl), ?_⟩
      rw [← haz]
      walk_at "ss"
      intro D hD
      have nDb := B10.nb hD
      have nDl := B10.nl hD
      refine lc_genH walk_range (fun H' => BagAt b l H' ∧ Kp b G H') (fun i y H' => ∃ (p : Addr) (g : List Nat), y = .ref p ∧ H' p = some (.tup (natL g)) ∧ g.length = sz.getD ot 0 ∧ ∀ x ∈ g, x < 4) (by omega) ⟨B10.mut nDb nDl, Kp.same (same_upd hD)⟩ (fun _ _ => trivial) (fun _ _ h => ⟨h.1.mut nDb nDl, h.2.mut hD⟩)
        (fun i y H1 H2 tk ⟨p, g, x1, x2, x3⟩ => ⟨p, g, x1, tk _ _ x2, x3⟩) ?_ ?_
      · rintro i x H3 H4 Q1 hlt hI ⟨rfl, rfl⟩ ⟨xs, hxs⟩ hQ
        walk_at "ss"
        refine ⟨sl, _, _, _, rfl, rfl, SqL.of (hI.2 _ _ hs10 sb), atI_nat (natL_at otl), ?_⟩
        rw [← hbz]
        walk_at "ss"
        intro D2 hD2
        have n2b : D2 ≠ b := hI.1.nb hD2
        have n2l : D2 ≠ l := hI.1.nl hD2
        refine lc_gen walk_range (fun H' => BagAt b l H' ∧ Kp b H4 H') (fun i y => ∃ c : Nat, c < 4 ∧ y = V.int (c : Nat)) (by omega) ⟨hI.1.mut n2b n2l, Kp.same (same_upd hD2)⟩ (fun _ _ => trivial) (fun _ _ h => ⟨h.1.mut n2b n2l, h.2.mut hD2⟩) ?_ ?_
        · rintro i x H5 H6 Q2 hlt hI2 ⟨rfl, rfl⟩ - hQ2
          walk_at "ss"
          refine ⟨b, l, _, rfl, hI2.1, by omega, by omega, fun k H7 k0 k1 B5 k5 => ?_⟩
          obtain ⟨kn, rfl⟩ := int_nat k0
          exact hQ2 _ _ ⟨kn, by omega, rfl⟩ ⟨B5, hI2.2.trans k5⟩ fun o ho => k5 _ _ ho n2b
        · rintro H5 ys ⟨B5, k5⟩ hy hl hr
          obtain ⟨g, rfl, gl, glt⟩ := pick_nat hr
          walk_at "ss"
          refine ⟨D2, _, rfl, .inl ⟨SqL.of hy, fun p hp => ?_⟩⟩
          have s3 := same_upd (o := .tup (natL g)) hp
          have nDD : ∀ o, H4 D = some o → H5 D = some o := fun o h => k5 _ _ h nDb
          exact hQ _ _ ⟨p, g, rfl, upd_same, by omega, glt⟩ ⟨B5.same s3, hI.2.trans (k5.trans (Kp.same s3))⟩ (fun c zs h => s3 _ _ (TupKeep.kp k5 hI.1 c zs h)) fun o ho => s3 _ _ (nDD _ ho)
      · rintro H5 ys ⟨B5, k5⟩ hy hl hr
        obtain ⟨cs, rfl, hl2, hm⟩ := pick_map (P := fun c : Addr × List Nat => H5 c.1 = some (.tup (natL c.2)) ∧ c.2.length = sz.getD ot 0 ∧ ∀ x ∈ c.2, x < 4) (f := fun c => V.ref c.1) (fun i y e => by
          obtain ⟨p, g, x1, x2⟩ := hr i y e
          exact ⟨(p, g), x2, x1⟩)
        walk_at "ss"
        refine ⟨D, _, rfl, .inl ⟨SqL.of hy, fun q0 hq0 => ?_⟩⟩
        have s5 := same_upd (o := .tup (cs.map fun c => V.ref c.1)) hq0
        have hq1 := upd_same (H := H5) (a := q0) (o := .tup (cs.map fun c => V.ref c.1))
        walk_at "ss"
        intro tp htp
        have s6 := same_upd (o := .tup [.str "join", .int (on : Nat), .int (ot : Nat), .ref q0]) htp
        have s56 := s5.trans s6
        refine q tp (.join on ot (cs.map Prod.snd)) _ ⟨q0, cs.map Prod.fst, upd_same, by rw [List.map_map]; exact s6 _ _ hq1, by rw [List.length_map, List.length_map], fun i p g x1 x2 => ?_⟩ ⟨onl, otl, by show (cs.map Prod.snd).length = sz.getD on 0; rw [List.length_map]; omega, fun row hrow => ?_⟩ (fun L => mxmx4 fun row hrow => ?_) (by intro z; cases z) (B5.same s56) (k010.trans (k5.trans (Kp.same s56)))
        · rw [List.getElem?_map] at x1 x2
          cases hc : cs[i]? with
          | none => rw [hc] at x1; cases x1
          | some c =>
            rw [hc] at x1 x2
            cases x1
            cases x2
            exact s56 _ _ (hm c (List.mem_of_getElem? hc)).1
        · obtain ⟨c, hc, rfl⟩ := List.mem_map.mp hrow
          exact ⟨(hm c hc).2.1, fun x hx => by have := (hm c hc).2.2 x hx; omega⟩
        · obtain ⟨c, hc, rfl⟩ := List.mem_map.mp hrow
          exact (hm c hc).2.2
    walk_at "ss"
    refine ite2 (fun e3 => ?_) (fun e3 => ?_)
    · walk_at "ss"
      intro D2 hD2
      have s12 := same_upd (o := .lst [.int 2, .int 2, .int 3, .int 4]) hD2
      walk_at "ss"
      refine ⟨b, l, _, rfl, B10.same s12, .inl ⟨D2, _, rfl, B10.nb hD2, .inl (SqL.of upd_same), (by intro z; cases z), (by show 4 ≤ 100000; decide), fun u G2 hu B13 k13 => ?_⟩⟩
      obtain ⟨v, rfl, v2, v4⟩ : ∃ v : Nat, u = .int (v : Nat) ∧ 2 ≤ v ∧ v ≤ 4 := by
        simp only [List.mem_cons, List.not_mem_nil, or_false] at hu
        rcases hu with rfl | rfl | rfl | rfl
        · exact ⟨2, rfl, by decide, by decide⟩
        · exact ⟨2, rfl, by decide, by decide⟩
        · exact ⟨3, rfl, by decide, by decide⟩
        · exact ⟨4, rfl, by decide, by decide⟩
      have hs13 := k13 _ _ (s12 _ _ hs10) sb
      have k013 := k010.trans ((Kp.same s12).trans k13)
      obtain ⟨b1, b6⟩ := bnd ot otl
      walk_at "ss"
      refine ⟨sl, _, _, _, rfl, rfl, SqL.of hs13, atI_nat (natL_at otl), ?_⟩
      walk_at "ss"
      refine ⟨_, _, rfl, ?_⟩
      obtain ⟨sd, hsd, d2, dv, ds, d6⟩ : ∃ sd : Nat, (if ((sz.getD ot 0 : Nat) : Int) - 1 > (v : Int) then ((sz.getD ot 0 : Nat) : Int) - 1 else (v : Int)) = (sd : Int) ∧ 2 ≤ sd ∧ v ≤ sd ∧ sz.getD ot 0 ≤ sd + 1 ∧ sd ≤ 6 := by
        split
        · exact ⟨sz.getD ot 0 - 1, by omega, by omega, by omega, by omega, by omega⟩
        · exact ⟨v, rfl, by omega, by omega, by omega, by omega⟩
      show gName 6 (V.int (if ((sz.getD ot 0 : Nat) : Int) - 1 > (v : Int) then ((sz.getD ot 0 : Nat) : Int) - 1 else (v : Int))) _ _ _
      rw [hsd]
      walk_at "ss"
      refine ⟨b, l, _, rfl, B13, by omega, by omega, fun k H7 k0 k1 B14 k14 => ?_⟩
      obtain ⟨kn, rfl⟩ := int_nat k0
      walk_at "ss"
      intro tp htp
      have s6 := same_upd (o := .tup [.str "latch", .int (sd : Nat), .int (kn : Nat), .int (ot : Nat)]) htp
      exact q tp (.latch sd kn ot) _ upd_same ⟨d2, by omega, by omega, otl, ds⟩ (fun L => d6) (by intro z; cases z) (B14.same s6) (k013.trans (k14.trans (Kp.same s6)))
    · walk_at "ss"
      intro D2 hD2
      have s12 := same_upd (o := .lst [.int 2, .int 2, .int 3, .int 5]) hD2
      walk_at "ss"
      refine ⟨b, l, _, rfl, B10.same s12, .inl ⟨D2, _, rfl, B10.nb hD2, .inl (SqL.of upd_same), (by intro z; cases z), (by show 4 ≤ 100000; decide), fun u G2 hu B13 k13 => ?_⟩⟩
      obtain ⟨pn, rfl, pp, p6⟩ := pr_in hu
      have p2 := (pr_range pp).1
      have k013 := k010.trans ((Kp.same s12).trans k13)
      walk_at "ss"
      refine ⟨b, l, _, rfl, B13, by omega, by omega, fun k H7 k0 k1 B14 k14 => ?_⟩
      obtain ⟨kn, rfl⟩ := int_nat k0
      walk_at "ss"
      intro tp htp
      have s6 := same_upd (o := .tup [.str "counter", .int (pn : Nat), .int (kn : Nat), .int (ot : Nat)]) htp
      exact q tp (.counter pn kn ot) _ upd_same ⟨pp, by omega, otl⟩ (fun L => p6) (by intro z; cases z) (B14.same s6) (k013.trans (k14.trans (Kp.same s6)))
end


/-! ### lists and tuples of ints as data -/
theorem dpa_ints {K : PySem.W.Frag} {H : Hp} : ∀ ns : List Int, DpAll K H (ns.map V.int) (ns.map PyData.int)
  | [] => .nil
  | i :: ns => .cons (.int i) (dpa_ints ns)
theorem lay_ints : ∀ ns : List Int, PyData.canLayAll0 (ns.map PyData.int) = true ∧ PyData.depthAll (ns.map PyData.int) = 0
  | [] => ⟨rfl, rfl⟩
  | i :: ns => by
    obtain ⟨a, b⟩ := lay_ints ns
    refine ⟨?_, ?_⟩
    · show (true && PyData.canLayAll0 (ns.map PyData.int)) = true
      rw [a]
      rfl
    · show max 0 (PyData.depthAll (ns.map PyData.int)) = 0
      rw [b]
      rfl
theorem shaped_intL (ns : List Int) : SeqAt.shaped (.list (ns.map PyData.int)) = true := by
  show (PyData.canLayAll0 _ && decide (PyData.depthAll _ + 1 ≤ 64)) = true
  rw [(lay_ints ns).1, (lay_ints ns).2]
  rfl
theorem shaped_intT (ns : List Int) : SeqAt.shaped (.tuple (ns.map PyData.int)) = true := by
  show (PyData.canLayAll0 _ && decide (PyData.depthAll _ + 1 ≤ 64)) = true
  rw [(lay_ints ns).1, (lay_ints ns).2]
  rfl
theorem eqvAll_ints : ∀ xs ys : List Int, PyData.eqvAll (xs.map PyData.int) (ys.map PyData.int) = decide (xs = ys)
  | [], [] => rfl
  | [], _ :: _ => rfl
  | _ :: _, [] => rfl
  | x :: xs, y :: ys => by
    show (PyData.eqv (.int x) (.int y) && PyData.eqvAll (xs.map PyData.int) (ys.map PyData.int)) = _
    rw [eqvAll_ints xs ys, show PyData.eqv (.int x) (.int y) = decide (x = y) from by rw [Bool.eq_iff_iff]; simp [PyData.eqv]]
    rw [Bool.eq_iff_iff]
    simp
theorem eqv_intL (xs ys : List Int) : PyData.eqv (.list (xs.map PyData.int)) (.list (ys.map PyData.int)) = decide (xs = ys) := eqvAll_ints xs ys
theorem eqv_intT (xs ys : List Int) : PyData.eqv (.tuple (xs.map PyData.int)) (.tuple (ys.map PyData.int)) = decide (xs = ys) := eqvAll_ints xs ys

/-- a drawn circuit -/
def spLines : Sp := fun vs H Q _ => ∃ (b l : Addr) (al : Str) (many : Int), vs = [.ref b, .str al, .int many] ∧ BagAt b l H ∧ 1 ≤ al.length ∧ al.length ≤ 4 ∧ 0 ≤ many ∧ many ≤ 50 ∧
  ∀ (t r s : Addr) (cls : List CL) (H' : Hp), H' t = some (.tup [.ref r, .ref s]) → CLs H' r cls → H' s = some (.lst (natL (cls.map (szC al.length)))) → COk al.length cls → (cls.length : Int) = many + 2 → lkC cls (cls.length - 1) = false → ((∀ f ∈ cls, szC al.length f ≤ 6) ∧ cls[0]? = some .letter) → H r = none → H s = none → BagAt b l H' → Kp b H H' → Q (.ref t) H'
theorem lk_snoc {L : Nat} {cls : List CL} {f : CL} (ok : COk L (cls ++ [f])) (h : f = .const (cls.length) ∨ (∃ v, f = .const v) ∨ ∃ r t g, f = .wire r t ∧ cls[r]? = some g ∧ isCl g = true) : lkC (cls ++ [f]) ((cls ++ [f]).length - 1) = false := by
  have e : (cls ++ [f])[(cls ++ [f]).length - 1]? = some f := by simp
  rw [lkC_eq e (ok _ _ e)]
  rcases h with rfl | ⟨v, rfl⟩ | ⟨r, t, g, rfl, hg, hc⟩
  · rfl
  · rfl
  · have hr := (List.getElem?_eq_some_iff.mp hg).1
    have e2 : (cls ++ [.wire r t])[r]? = some g := by rw [List.getElem?_append_left hr]; exact hg
    show ([r].any (lkC (cls ++ [.wire r t]))) = false
    have := lkC_eq e2 (ok _ _ e2)
    rw [List.any_cons, this]
    cases g <;> first | rfl | cases hc
theorem szL {L : Nat} {cls : List CL} {i : Nat} (hi : i < cls.length) : (cls.map (szC L)).getD i 0 = szAt L cls i := rfl
theorem COk.snoc2 {L : Nat} {cls : List CL} {f : CL} (h : COk L cls) (hf : CLOk (fun i => (cls.map (szC L)).getD i 0) (cls.map (szC L)).length f) : COk L (cls ++ [f]) := h.snoc (by rw [List.length_map] at hf; exact hf)
section
variable {P : Program} {w : World} {K : PySem.W.Frag} {mg : Str → Option Value} {base : Heap}
theorem ok_lines (T : Env K mg) : FnOk P w K mg base CX0 4 T.f_lines T.fd_lines ["_law_bag_here", "_law_signs_here", "_law_many"] spLines := by
  refine T.F_lines.ok sc_lines (fun vs H Q E h => ?_) (fun cdv A outer s H vs Q E hr h => ⟨_, ((pss_cons (ps_asg (pe_tup (pa_cons (pe_lst (pa_cons (pe_tup (pa_cons pe_str pa_nil)) pa_nil)) (pa_cons (pe_lst (pa_cons (pe_callB call_len_str (by rfl) T.z_len (by decide +kernel) (pa_cons (pv 1) pa_nil)) pa_nil)) pa_nil))) (pg_tup (by rfl) (pgs_cons (pg_name (i := 3) sc_lines.nd rfl (.inr rfl)) (pgs_cons (pg_name (i := 4) sc_lines.nd rfl (.inl rfl)) pgs_nil))))
      (pss_cons (ps_for PassesOwn.never rfl (pi_range1 (by rfl) T.z_range (pa_cons (pv 2) pa_nil)) (pg_name (i := 5) sc_lines.nd rfl (.inl rfl))
      (pss_cons (ps_set (i := 6) sc_lines.nd rfl (.inl rfl) (pe_call (ok_line T) (hr.mono (by decide)) (by rfl) T.g_line T.F_line.kp T.b_line .nil pass0 (pa_cons (pv 0) (pa_cons (pv 4) pa_nil))))
      (pss_cons (ps_expr (pe_bm PySem.F.plainAttrs_list PySem.F.slot_list_append PySem.F.type_list_append mt_append (pv 3) (pa_cons (pv 6) pa_nil)))
      (pss_one (ps_expr (pe_bm PySem.F.plainAttrs_list PySem.F.slot_list_append PySem.F.type_list_append mt_append (pv 4) (pa_cons (pe_call (ok_size T) (hr.mono (by decide)) (by rfl) T.g_size T.F_size.kp T.b_size .nil pass0 (pa_cons (pv 6) (pa_cons (pv 4) (pa_cons (pe_callB call_len_str (by rfl) T.z_len (by decide +kernel) (pa_cons (pv 1) pa_nil)) pa_nil)))) pa_nil)))))))
      (pss_cons (ps_setLc (i := 7) (own := [("_law_at", 9)]) (g := (gName 9)) (tt := (tTest (tOp (rIn K false) (tOp (rIxT K) (tOp (rIxL K) _ _) _) _))) rfl sc_lines.nd rfl rfl (sw_true rfl rfl rfl (by decide +kernel)) (pi_range1 (by rfl) T.z_range (pa_cons (pe_callB call_len_seq (by rfl) T.z_len (by decide +kernel) (pa_cons (pv 3) pa_nil)) pa_nil)) (blkOk_by (own := [("_law_at", 9)]) (N := N_lines) (sc := defScope s_lines) (by decide +kernel)) (fun _ _ _ _ _ => (pg_name (i := 9) sc_lines.nd rfl (.inl rfl))) (fun _ _ _ _ _ => (pts_one (pt_cmpR op_in_seq (pe_ix ix_tup (pe_ix ix_list (pv 3) (pv 9) (fun _ _ => rfl)) pe_int (fun _ _ => rfl)) (pe_tup (pa_cons pe_str (pa_cons pe_str pa_nil))) (by rfl)))) (fun _ _ _ _ _ => (pv 9)))
      (C8.pss_cut (ps_if (pt_cmpR (op_eqD hr.units) (pv 7) (pe_lst pa_nil) (nomark _))
      (pss_one (ps_expr (pe_bm PySem.F.plainAttrs_list PySem.F.slot_list_append PySem.F.type_list_append mt_append (pv 3) (pa_cons (pe_tup (pa_cons pe_str (pa_cons (pe_op op_add pe_int (pe_call (ok_pull T) (hr.mono (by decide)) (by rfl) T.g_pull T.F_pull.kp T.b_pull .nil pass0 (pa_cons (pv 0) (pa_cons pe_int pa_nil)))) pa_nil))) pa_nil))))
      (pss_cons (ps_set (i := 8) sc_lines.nd rfl (.inl rfl) (pe_call (ok_of T) (hr.mono (by decide)) (by rfl) T.g_of T.F_of.kp T.b_of .nil pass0 (pa_cons (pv 0) (pa_cons (pv 7) pa_nil))))
      (pss_one (ps_expr (pe_bm PySem.F.plainAttrs_list PySem.F.slot_list_append PySem.F.type_list_append mt_append (pv 3) (pa_cons (pe_tup (pa_cons pe_str (pa_cons (pv 8) (pa_cons (pe_callTy call_tuple_of (by rfl) T.z_tuple (by decide +kernel) (pa_cons (pe_lc (own := [("_law_k", 5)]) (g := (gName 5)) (tt := tYes) rfl sc_lines.nd (pi_range1 (by rfl) T.z_range (pa_cons (pe_ix ix_list (pv 4) (pv 8) (fun _ _ => rfl)) pa_nil)) (blkOk_by (own := [("_law_k", 5)]) (N := N_lines) (sc := defScope s_lines) (by decide +kernel)) (fun _ _ _ _ _ => (pg_name (i := 5) sc_lines.nd rfl (.inl rfl))) (fun _ _ _ _ _ => pts_nil) (fun _ _ _ _ _ => (pe_call (ok_pull T) (hr.mono (by decide)) (by rfl) T.g_pull T.F_pull.kp T.b_pull .nil pass0 (pa_cons (pv 0) (pa_cons pe_int pa_nil))))) pa_nil)) pa_nil)))) pa_nil))))))
      (pss_cons (ps_expr (pe_bm PySem.F.plainAttrs_list PySem.F.slot_list_append PySem.F.type_list_append mt_append (pv 4) (pa_cons (pe_call (ok_size T) (hr.mono (by decide)) (by rfl) T.g_size T.F_size.kp T.b_size .nil pass0 (pa_cons (pe_ix ix_list (pv 3) (pe_un un_neg pe_int) (fun _ _ => rfl)) (pa_cons (pv 4) (pa_cons (pe_callB call_len_str (by rfl) T.z_len (by decide +kernel) (pa_cons (pv 1) pa_nil)) pa_nil)))) pa_nil)))
      (pss_one (ps_ret (pe_tup (pa_cons (pv 3) (pa_cons (pv 4) pa_nil))))))))))), ?_⟩)
  · obtain ⟨b, l, al, many, rfl, _⟩ := h
    rfl
  · obtain ⟨b, l, al, many, rfl, B, a1, a4, m0, m9, q⟩ := h
    walk_at "ss"
    intro p0 np0
    have u0 := same_upd (o := .tup [.str "letter"]) np0
    have hp0 := upd_same (H := H) (a := p0) (o := .tup [.str "letter"])
    walk_at "ss"
    intro r0 nr0
    have u1 := same_upd (o := .lst [.ref p0]) nr0
    have hp1 := u1 _ _ hp0
    have hr1 := upd_same (H := upd H p0 (.tup [.str "letter"])) (a := r0) (o := .lst [.ref p0])
    have S1 := u0.trans u1
    have nr0 : H r0 = none := u0.free nr0
    clear hp0 u0 u1 np0
    generalize upd (upd H p0 (.tup [.str "letter"])) r0 (.lst [.ref p0]) = G1 at *
    walk_at "ss"
    intro s0 ns0
    have u2 := same_upd (o := .lst [.int (al.length : Nat)]) ns0
    have hp2 := u2 _ _ hp1
    have hr2 := u2 _ _ hr1
    have hs2 := upd_same (H := G1) (a := s0) (o := .lst [.int (al.length : Nat)])
    have rs : r0 ≠ s0 := ne_of_none hr1 ns0
    have ns0 : H s0 = none := S1.free ns0
    have S2 := S1.trans u2
    clear hp1 hr1 S1 u2
    generalize upd G1 s0 (.lst [.int (al.length : Nat)]) = G2 at *
    walk_at "ss"
    intro t0 nt0
    have u3 := same_upd (o := .tup [.ref r0, .ref s0]) nt0
    have hp3 := u3 _ _ hp2
    have hr3 := u3 _ _ hr2
    have hs3 := u3 _ _ hs2
    have S3 := S2.trans u3
    refine ⟨t0, _, rfl, .inl (.inl upd_same), rfl, _, _, rfl, _, _, rfl, rfl, ?_⟩
    have B3 := B.same S3
    have k3 : Kp b H (upd G2 t0 (.tup [.ref r0, .ref s0])) := Kp.same S3
    clear hp2 hr2 hs2 S2 u3 nt0
    show (_ : Hp → Prop) (upd G2 t0 (.tup [.ref r0, .ref s0]))
    generalize upd G2 t0 (.tup [.ref r0, .ref s0]) = G3 at *
    clear S3
    have rb : r0 ≠ b := B.nb nr0
    have rl : r0 ≠ l := B.nl nr0
    have sb : s0 ≠ b := B.nb ns0
    have sl : s0 ≠ l := B.nl ns0
    have C3 : CLs G3 r0 [.letter] := ⟨[p0], hr3, rfl, fun i p f a b => by
      match i, a, b with
      | 0, a, b =>
        cases a
        cases b
        exact hp3
      | i + 1, a, b => simp at a⟩
    have O3 : COk al.length [.letter] := fun i f e => by
      match i, e with
      | 0, e =>
        cases e
        trivial
      | i + 1, e => simp at e
    walk_at "ss"
    refine for_it walk_range (fun i σ H' => Stp (∃ (cls : List CL) (y5 y6 : Option V), σ = [some (.ref b), some (.str al), some (.int many), some (.ref r0), some (.ref s0), y5, y6, none, none, none] ∧ CLs H' r0 cls ∧ COk al.length cls ∧ cls.length = i + 1 ∧ ((∀ f ∈ cls, szC al.length f ≤ 6) ∧ cls[0]? = some .letter) ∧ H' s0 = some (.lst (natL (cls.map (szC al.length)))) ∧ BagAt b l H' ∧ Kp b H H'))
      (.mk ⟨_, _, _, rfl, C3, O3, rfl, ⟨fun f hf => by rw [List.mem_singleton.mp hf]; show al.length ≤ 6; omega, rfl⟩, hs3, B3, k3⟩) (fun _ _ _ _ _ => trivial) ?_ ?_
    · clear C3 O3 B3 k3 hs3 hr3 hp3
      rintro i x σ H4 H5 hi hP ⟨rfl, rfl⟩
      obtain ⟨cls, y5, y6, rfl, C5, O5, cl5, ⟨z5, h0⟩, hs5, B5, k5⟩ := hP.of
      clear hP
      have lm : (cls.map (szC al.length)).length = cls.length := List.length_map ..
      walk_at "ss"
      refine ⟨b, l, s0, cls.map (szC al.length), rfl, B5, hs5, sb, by omega, by omega, fun j hj => ?_, fun p f G hpf okf zf nf B6 k6 => ?_⟩
      · rw [lm] at hj
        have ej : cls[j]? = some cls[j] := List.getElem?_eq_getElem hj
        rw [szL hj]
        refine ⟨O5.posAt a1 hj, ?_⟩
        rw [szAt_of ej]
        exact z5 _ (List.getElem_mem hj)
      have C6 : CLs G r0 cls := C5.keep (TupKeep.kp k6 B5) (fun o h => k6 _ _ h rb)
      obtain ⟨xs, x1, x2, C7⟩ := C6.add hpf
      have O7 := O5.snoc2 okf
      have e7 : (cls ++ [f])[cls.length]? = some f := by simp
      have hs6 := k6 _ _ hs5 sb
      have k06 := k5.trans k6
      walk_at "ss"
      refine ⟨.inl ⟨rfl, _, SqL.of x1⟩, ?_⟩
      walk_at "ss"
      refine ⟨r0, xs, _, rfl, rfl, x1, szl (by omega), ?_⟩
      have hs7 : (upd G r0 (.lst (xs ++ [.ref p]))) s0 = some (.lst (natL (cls.map (szC al.length)))) := by rw [upd_ne rs.symm]; exact hs6
      have hp7 : CLAt (upd G r0 (.lst (xs ++ [.ref p]))) p f := hpf.keep (TupKeep.put (.refl G) x1)
      have B7 : BagAt b l (upd G r0 (.lst (xs ++ [.ref p]))) := B6.mut rb rl
      have k7 : Kp b H (upd G r0 (.lst (xs ++ [.ref p]))) := k06.mut nr0
      clear C6 x1 hs6 hpf B6 k06 k6 k5 B5 C5 hs5
      generalize upd G r0 (.lst (xs ++ [.ref p])) = G7 at *
      walk_at "ss"
      refine ⟨.inl ⟨rfl, _, SqL.of hs7⟩, ?_⟩
      walk_at "ss"
      refine ⟨p, _, al.length, f, rfl, hp7, O7.nonE a1 (by omega) e7, fun G8 s8 => ?_⟩
      refine ⟨s0, _, _, rfl, rfl, s8 _ _ hs7, szl (by rw [natL_len, lm]; omega), ?_⟩
      refine .mk ⟨cls ++ [f], _, _, rfl, ?_, O7, by simp [cl5], ⟨fun g hg => ?_, by rw [List.getElem?_append_left (by omega)]; exact h0⟩, ?_, (B7.same s8).mut sb sl, (k7.trans (Kp.same s8)).mut ns0⟩
      · exact (C7.same s8).keep (TupKeep.put (.refl _) (s8 _ _ hs7)) fun o h => by rw [upd_ne rs]; exact h
      · rcases List.mem_append.mp hg with hg | hg
        · exact z5 g hg
        · rw [List.mem_singleton.mp hg]
          exact zf _
      · rw [upd_same, List.map_append]
        show _ = some (HO.lst (natL (_ ++ [szC al.length f])))
        rw [natL_snoc]
    · rintro σ H4 hP
      obtain ⟨cls, y5, y6, rfl, C5, O5, cl5, ⟨z5, h0⟩, hs5, B5, k5⟩ := hP.of
      clear hP
      obtain ⟨xs, x1, x2⟩ := C5.len
      have lm : (cls.map (szC al.length)).length = cls.length := List.length_map ..
      have cl6 : (cls.length : Int) = many + 1 := by omega
      walk_at "ss"
      refine ⟨r0, _, rfl, .inl (SqL.of x1), ?_⟩
      rw [x2]
      obtain ⟨nz, hnz⟩ : ∃ nz : Int, nz = (cls.length : Int) := ⟨_, rfl⟩
      rw [← hnz]
      walk_at "ss"
      intro D hD
      refine lc_fil walk_range (fun H' => Same H4 H') (filV (List.range cls.length) (clAt cls) fun a => V.int (a : Nat)) (by omega) (same_upd hD) (fun _ _ => trivial) (fun _ _ h => same_mut h hD) ?_ ?_
      · rintro i x H1 H2 Q1 Qn hi hI ⟨rfl, rfl⟩ ⟨o, ho⟩ hQ hN
        have hi2 : i < cls.length := by omega
        obtain ⟨f, hfi⟩ : ∃ f, cls[i]? = some f := ⟨_, List.getElem?_eq_getElem hi2⟩
        obtain ⟨xs2, p, g1, g2, g3, g4⟩ := (C5.same hI).at_ hfi
        obtain ⟨rest, hp⟩ := g4.kind
        have ci : clAt cls i = isCl f := clAt_of hfi
        have e0 : (0 : Int) + (i : Int) = ((i : Nat) : Int) := by omega
        show gName 9 (V.int (0 + (i : Int))) _ _ _
        rw [e0]
        walk_at "ss"
        refine ⟨r0, _, _, _, rfl, rfl, SqL.of g1, atI_nat g3, ?_⟩
        walk_at "ss"
        refine ⟨p, _, 0, _, rfl, rfl, SqT.of hp, at_zeroC, ?_⟩
        walk_at "ss"
        intro pt hpt
        have sp := same_upd (o := .tup [.str "latch", .str "counter"]) hpt
        walk_at "ss"
        refine ⟨pt, _, rfl, .inr (SqT.of upd_same), rfl, rfl, ?_⟩
        rw [in_cells]
        cases hc : isCl f with
        | true =>
          walk_at "ss"
          exact hQ _ _ (by rw [filV_at (List.getElem?_range (by omega)), ci, hc]; rfl) (hI.trans sp) fun o h => sp _ _ h
        | false =>
          walk_at "ss"
          exact hN _ (by rw [filV_at (List.getElem?_range (by omega)), ci, hc]; rfl) (hI.trans sp) fun o h => sp _ _ h
      · intro H5 s5 hy
        have hy : H5 D = some (.lst (natL (clsCells cls))) := by
          rw [hy, show nz.toNat = cls.length by omega]
          have := fil_list (List.range cls.length) (clAt cls) fun a => V.int (a : Nat)
          rw [List.length_range] at this
          rw [this]
          rfl
        have C6 := C5.same s5
        have hs6 := s5 _ _ hs5
        have B6 := B5.same s5
        have k6 := k5.trans (Kp.same s5)
        have Db : D ≠ b := B5.nb hD
        clear C5 hs5 B5 k5 s5 hD x1
        walk_at "ss"
        refine ⟨fun σ' G => Stp (∃ (f : CL) (y5 y6 y7 y8 : Option V), σ' = [some (.ref b), some (.str al), some (.int many), some (.ref r0), some (.ref s0), y5, y6, y7, y8, none] ∧ CLs G r0 (cls ++ [f]) ∧ COk al.length (cls ++ [f]) ∧ lkC (cls ++ [f]) ((cls ++ [f]).length - 1) = false ∧ szC al.length f ≤ 6 ∧ G s0 = some (.lst (natL (cls.map (szC al.length)))) ∧ BagAt b l G ∧ Kp b H G), ?_, fun σ' G hM => ?_⟩
        · walk_at "ss"
          intro e0 ne0
          have s6 := same_upd (o := .lst []) ne0
          have he0 := upd_same (H := H5) (a := e0) (o := .lst [])
          have hy7 := s6 _ _ hy
          refine ⟨_, _, .lst (SqL.of (by rw [natL_int] at hy7; exact hy7)) (dpa_ints _), .lst (SqL.of he0) .nil, shaped_intL _, shaped_intL [], ?_⟩
          rw [show PyData.eqv (.list (((clsCells cls).map fun n : Nat => (n : Int)).map PyData.int)) (.list []) = decide (((clsCells cls).map fun n : Nat => (n : Int)) = []) from eqv_intL _ []]
          have C7 := C6.same s6
          have hs7 := s6 _ _ hs6
          have B7 := B6.same s6
          have k7 := k6.trans (Kp.same s6)
          clear C6 hs6 B6 k6 s6 he0 hy ne0
          generalize upd H5 e0 (.lst []) = H6 at *
          obtain ⟨xs7, x71, x72⟩ := C7.len
          refine ⟨_, rfl, ?_⟩
          refine ite2 (fun e => ?_) (fun e => ?_)
          · walk_at "ss"
            refine ⟨.inl ⟨rfl, _, SqL.of x71⟩, ?_⟩
            walk_at "ss"
            refine ⟨b, l, _, rfl, B7, by decide, by decide, fun k H8 k0 k1 B8 k8 => ?_⟩
            have C8 : CLs H8 r0 cls := C7.keep (TupKeep.kp k8 B7) (fun o h => k8 _ _ h rb)
            have hs8 := k8 _ _ hs7 sb
            obtain ⟨kn, rfl⟩ := int_nat k0
            have e1 : (1 : Int) + (kn : Int) = ((1 + kn : Nat) : Int) := by omega
            walk_at "ss"
            intro tp htp
            have s9 := same_upd (o := .tup [.str "const", .int (1 + (kn : Int))]) htp
            have ft : CLAt (upd H8 tp (.tup [.str "const", .int (1 + (kn : Int))])) tp (.const (1 + kn)) := by
              show _ = some (HO.tup [.str "const", .int ((1 + kn : Nat) : Int)])
              rw [← e1]
              exact upd_same
            obtain ⟨xs9, x91, x92, C9⟩ := (C8.same s9).add ft
            have O9 : COk al.length (cls ++ [.const (1 + kn)]) := O5.snoc (show 1 + kn < 1000 by omega)
            refine ⟨r0, xs9, _, rfl, rfl, x91, szl (by omega), ?_⟩
            exact .mk ⟨.const (1 + kn), _, _, _, _, rfl, C9, O9, lk_snoc O9 (.inr (.inl ⟨_, rfl⟩)), (show 1 + kn + 1 ≤ 6 by omega), by rw [upd_ne rs.symm]; exact s9 _ _ hs8, (B8.same s9).mut rb rl, (k7.trans (k8.trans (Kp.same s9))).mut nr0⟩
          · have ne : clsCells cls ≠ [] := fun z => by rw [z] at e; exact e rfl
            have clen := cells_len cls
            walk_at "ss"
            refine ⟨b, l, _, rfl, B7, .inl ⟨D, _, rfl, Db, .inl (SqL.of hy7), (fun z => ne (List.map_eq_nil_iff.mp z)), (by rw [natL_len]; omega), fun u H8 hu B8 k8 => ?_⟩⟩
            obtain ⟨rn, hrn, rfl⟩ := List.mem_map.mp (show u ∈ (clsCells cls).map fun n => V.int (n : Nat) from hu)
            obtain ⟨g, hg, hgc⟩ := mem_cells.mp hrn
            have rl8 := cells_lt hrn
            have C8 : CLs H8 r0 cls := C7.keep (TupKeep.kp k8 B7) (fun o h => k8 _ _ h rb)
            have hs8 := k8 _ _ hs7 sb
            have k78 := k7.trans k8
            obtain ⟨xs8, x81, x82⟩ := C8.len
            walk_at "ss"
            refine ⟨.inl ⟨rfl, _, SqL.of x81⟩, ?_⟩
            walk_at "ss"
            refine ⟨s0, _, _, _, rfl, rfl, SqL.of hs8, atI_nat (natL_at (by rw [lm]; exact rl8)), ?_⟩
            have b1 := O5.posAt a1 rl8
            have b6 : szAt al.length cls rn ≤ 6 := by rw [szAt_of hg]; exact z5 g (List.mem_of_getElem? hg)
            obtain ⟨wz, hwz⟩ : ∃ wz : Int, wz = (((cls.map (szC al.length)).getD rn 0 : Nat) : Int) := ⟨_, rfl⟩
            rw [← hwz]
            rw [szL rl8] at hwz
            walk_at "ss"
            intro D2 hD2
            have n2b := B8.nb hD2
            have n2l := B8.nl hD2
            refine lc_gen walk_range (fun H' => BagAt b l H' ∧ Kp b H8 H') (fun i y => ∃ c : Nat, c < 4 ∧ y = V.int (c : Nat)) (by omega) ⟨B8.mut n2b n2l, Kp.same (same_upd hD2)⟩ (fun _ _ => trivial) (fun _ _ h => ⟨h.1.mut n2b n2l, h.2.mut hD2⟩) ?_ ?_
            · rintro i x H9 H10 Q2 hlt hI2 ⟨rfl, rfl⟩ - hQ2
              walk_at "ss"
              refine ⟨b, l, _, rfl, hI2.1, by omega, by omega, fun k H11 k0 k1 B11 k11 => ?_⟩
              obtain ⟨kn, rfl⟩ := int_nat k0
              exact hQ2 _ _ ⟨kn, by omega, rfl⟩ ⟨B11, hI2.2.trans k11⟩ fun o ho => k11 _ _ ho n2b
            · rintro H9 ys ⟨B9, k9⟩ hy9 hl9 hr9
              obtain ⟨t, rfl, tl, tlt⟩ := pick_nat hr9
              have C9 : CLs H9 r0 cls := C8.keep (TupKeep.kp k9 B8) (fun o h => k9 _ _ h rb)
              have hs9 := k9 _ _ hs8 sb
              walk_at "ss"
              refine ⟨D2, _, rfl, .inl ⟨SqL.of hy9, fun q0 hq0 => ?_⟩⟩
              have s10 := same_upd (o := .tup (natL t)) hq0
              have hq1 := upd_same (H := H9) (a := q0) (o := .tup (natL t))
              walk_at "ss"
              intro tp htp
              have s11 := same_upd (o := .tup [.str "wire", .int (rn : Nat), .ref q0]) htp
              have s12 := s10.trans s11
              have ft : CLAt (upd (upd H9 q0 (.tup (natL t))) tp (.tup [.str "wire", .int (rn : Nat), .ref q0])) tp (.wire rn t) := ⟨q0, upd_same, s11 _ _ hq1⟩
              obtain ⟨xs9, x91, x92, C10⟩ := (C9.same s12).add ft
              have O9 : COk al.length (cls ++ [.wire rn t]) := O5.snoc ⟨rl8, by omega, fun x hx => by have := tlt x hx; omega⟩
              refine ⟨r0, xs9, _, rfl, rfl, x91, szl (by omega), ?_⟩
              exact .mk ⟨.wire rn t, _, _, _, _, rfl, C10, O9, lk_snoc O9 (.inr (.inr ⟨rn, t, g, rfl, hg, hgc⟩)), mx4 tlt, by rw [upd_ne rs.symm]; exact s12 _ _ hs9, (B9.same s12).mut rb rl, (k78.trans (k9.trans (Kp.same s12))).mut nr0⟩
        · obtain ⟨f, z5', z6, z7, z8, rfl, C8, O8, lk, zf, hs8, B8, k8⟩ := hM.of
          obtain ⟨xs8, x81, x82⟩ := C8.len
          have x83 : xs8.length = cls.length + 1 := by rw [x82]; simp
          have e8 : (cls ++ [f])[cls.length]? = some f := by simp
          obtain ⟨xs9, p, g1, g2, g3, g4⟩ := C8.at_ e8
          rw [x81] at g1
          cases g1
          walk_at "ss"
          refine ⟨.inl ⟨rfl, _, SqL.of hs8⟩, ?_⟩
          walk_at "ss"
          refine ⟨r0, _, _, _, rfl, rfl, SqL.of x81, (show atI xs8 (-1) = some (.ref p) from at_last (by rw [List.getLast?_eq_getElem?, x83]; exact g3)), ?_⟩
          walk_at "ss"
          refine ⟨p, _, al.length, f, rfl, g4, O8.nonE a1 (by omega) e8, fun G8 s8 => ?_⟩
          refine ⟨s0, _, _, rfl, rfl, s8 _ _ hs8, szl (by rw [natL_len, lm]; omega), ?_⟩
          have C10 : CLs (upd G8 s0 (.lst (natL (cls.map (szC al.length)) ++ [.int (szC al.length f : Nat)]))) r0 (cls ++ [f]) := (C8.same s8).keep (TupKeep.put (.refl _) (s8 _ _ hs8)) fun o h => by rw [upd_ne rs]; exact h
          have hs10 : (upd G8 s0 (.lst (natL (cls.map (szC al.length)) ++ [.int (szC al.length f : Nat)]))) s0 = some (.lst (natL ((cls ++ [f]).map (szC al.length)))) := by
            rw [upd_same, List.map_append]
            show _ = some (HO.lst (natL (_ ++ [szC al.length f])))
            rw [natL_snoc]
          have B10 := (B8.same s8).mut (o := .lst (natL (cls.map (szC al.length)) ++ [.int (szC al.length f : Nat)])) sb sl
          have k10 := (k8.trans (Kp.same s8)).mut (o := .lst (natL (cls.map (szC al.length)) ++ [.int (szC al.length f : Nat)])) ns0
          generalize upd G8 s0 (.lst (natL (cls.map (szC al.length)) ++ [.int (szC al.length f : Nat)])) = G10 at *
          walk_at "ss"
          intro t1 nt1
          have s11 := same_upd (o := .tup [.ref r0, .ref s0]) nt1
          refine q t1 r0 s0 (cls ++ [f]) _ upd_same (C10.same s11) (s11 _ _ hs10) O8 (by rw [List.length_append]; show ((cls.length + 1 : Nat) : Int) = _; omega) lk ⟨fun g hg => ?_, by rw [List.getElem?_append_left (by omega)]; exact h0⟩ nr0 ns0 (B10.same s11) (k10.trans (Kp.same s11))
          rcases List.mem_append.mp hg with hg | hg
          · exact z5 g hg
          · rw [List.mem_singleton.mp hg]
            exact zf
end

variable {K : PySem.W.Frag} {mg : Str → Option Value}
/-! ### what is got -/
open L2H (RoomH)
/-- an error's code and the name of its field -/
def CodeF (code f : Str) : Prop := (code ∈ ([Str.ofString "InvalidAlphabet", "InvalidWord", "InvalidLetter", "InvalidState", "InvalidPrime", "InvalidSet"] : List Str) ∧ f = "given") ∨ (code ∈ ([Str.ofString "InvalidRows", "InvalidLine"] : List Str) ∧ f = "at") ∨ (code ∈ ([Str.ofString "InvalidText", "InvalidPage"] : List Str) ∧ f = "row")
/-- what the caught error is: its class, its fields -/
def ErrIs (K : PySem.W.Frag) (cls : Value) (d : Option Addr) (H : Hp) (code f : Str) (v : V) : Prop := CodeF code f ∧ ∃ C dd, cls = .ref C ∧ XfC K C ∧ PySem.W.findIn K (.ref C) "code" = some none ∧ PySem.W.findIn K (.ref C) f = some none ∧ d = some dd ∧ H dd = some (.xd [("code", .str code), (f, v)])
/-- what the caught error is: its code, the values of its fields -/
def ErrL (K : PySem.W.Frag) (cls : Value) (d : Option Addr) (H : Hp) (code : Str) (us : List V) : Prop := (∃ f v, us = [v] ∧ ErrIs K cls d H code f v) ∨
  (∃ s m, us = [s, m] ∧ code = "TooMany" ∧ ∃ C dd, cls = .ref C ∧ XfC K C ∧ PySem.W.findIn K (.ref C) "code" = some none ∧ PySem.W.findIn K (.ref C) "subject" = some none ∧ PySem.W.findIn K (.ref C) "most" = some none ∧ d = some dd ∧ H dd = some (.xd [("code", .str "TooMany"), ("most", m), ("subject", s)])) ∨
  (us = [] ∧ code = "AlphabetsDiffer" ∧ ∃ C dd, cls = .ref C ∧ XfC K C ∧ PySem.W.findIn K (.ref C) "code" = some none ∧ d = some dd ∧ H dd = some (.xd [("code", .str "AlphabetsDiffer")]))
theorem in_tup {K : PySem.W.Frag} {H : Hp} {x : V} {ys : List V} {Q : VK} (hx : flatV x = true) (hab : ys.all flatV = true) (q : ∀ H', Same H H' → Q (.bl (inV x ys)) H') (p : Addr) (hp : H p = none) : rIn K false x (.ref p) (upd H p (.tup ys)) Q :=
  ⟨p, ys, rfl, .inr (SqT.of upd_same), hx, hab, q _ (same_upd hp)⟩
def spFieldL (K : PySem.W.Frag) : Addr → Value → Option Addr → Sp := fun a cls d vs H Q _ => ∃ (code : Str) (us : List V), vs = [.ref a] ∧ ErrL K cls d H code us ∧ ∀ p H', H' p = some (.tup us) → Same H H' → Q (.ref p) H'
section
variable {P : Program} {w : World} {base : Heap}
theorem ok_fieldL (T : Env K mg) : FnP P w K mg base CX0 1 T.f_field T.fd_field ["_law_e"] (spFieldL K) := by
  obtain ⟨oc, od, kV, doc, pm, an, cdv, ct, osl, e, lk, hcd⟩ := T.F_field.ex
  rw [e]
  rw [e] at lk
  refine fnp_of lk hcd sc_field (fun a cls d vs H Q E h => ?_) (fun A outer s H vs Q E p cls d hz hf hr h => ⟨_, ((pss_cons (ps_if (pt_cmpR op_in_seq (pe_xfA ⟨List.mem_cons_self .., hz, hf⟩ (pv 0)) (pe_tup (pa_cons pe_str (pa_cons pe_str (pa_cons pe_str (pa_cons pe_str (pa_cons pe_str (pa_cons pe_str pa_nil))))))) (by rfl))
      (pss_one (ps_ret (pe_tup (pa_cons (pe_xfA ⟨List.mem_cons_self .., hz, hf⟩ (pv 0)) pa_nil))))
      pss_nil)
      (pss_cons (ps_if (pt_cmpR op_in_seq (pe_xfA ⟨List.mem_cons_self .., hz, hf⟩ (pv 0)) (pe_tup (pa_cons pe_str (pa_cons pe_str pa_nil))) (by rfl))
      (pss_one (ps_ret (pe_tup (pa_cons (pe_xfA ⟨List.mem_cons_self .., hz, hf⟩ (pv 0)) pa_nil))))
      pss_nil)
      (pss_cons (ps_if (pt_cmpR op_in_seq (pe_xfA ⟨List.mem_cons_self .., hz, hf⟩ (pv 0)) (pe_tup (pa_cons pe_str (pa_cons pe_str pa_nil))) (by rfl))
      (pss_one (ps_ret (pe_tup (pa_cons (pe_xfA ⟨List.mem_cons_self .., hz, hf⟩ (pv 0)) pa_nil))))
      pss_nil)
      (pss_cons (ps_if (pt_cmpR op_in_seq (pe_xfA ⟨List.mem_cons_self .., hz, hf⟩ (pv 0)) (pe_tup (pa_cons pe_str (pa_cons pe_str pa_nil))) (by rfl))
      (pss_one (ps_ret (pe_tup (pa_cons (pe_xfA ⟨List.mem_cons_self .., hz, hf⟩ (pv 0)) pa_nil))))
      pss_nil)
      (pss_cons (ps_if (pt_cmpR op_in_seq (pe_xfA ⟨List.mem_cons_self .., hz, hf⟩ (pv 0)) (pe_tup (pa_cons pe_str (pa_cons pe_str pa_nil))) (by rfl))
      (pss_one (ps_ret (pe_tup (pa_cons (pe_xfA ⟨List.mem_cons_self .., hz, hf⟩ (pv 0)) pa_nil))))
      pss_nil)
      (pss_one (ps_ret (pe_ifExp (pt_cmpR op_eq (pe_xfA ⟨List.mem_cons_self .., hz, hf⟩ (pv 0)) pe_str (nomark _)) (pe_tup (pa_cons (pe_xfA ⟨List.mem_cons_self .., hz, hf⟩ (pv 0)) (pa_cons (pe_xfA ⟨List.mem_cons_self .., hz, hf⟩ (pv 0)) pa_nil))) (pe_tup pa_nil)))))))))), ?_⟩)
  · obtain ⟨code, us, rfl, _⟩ := h
    rfl
  · obtain ⟨code, us, rfl, er, q⟩ := h
    rcases er with ⟨f, v, rfl, cf, C, dd, rfl, xf, n1, n2, rfl, hd⟩ | ⟨sv, mv, rfl, rfl, C, dd, rfl, xf, n1, n2, n3, rfl, hd⟩ | ⟨rfl, rfl, C, dd, rfl, xf, n1, rfl, hd⟩
    · walk_at "ss"
      refine ⟨C, dd, _, _, rfl, xf, n1, rfl, hd, rfl, ?_⟩
      walk_at "ss"
      intro p1 hp1
      have s1 := same_upd (o := .tup [.str "InvalidAlphabet", .str "InvalidWord", .str "InvalidLetter", .str "InvalidState", .str "InvalidPrime", .str "InvalidSet"]) hp1
      walk_at "ss"
      refine ⟨p1, _, rfl, .inr (.inl (.inl upd_same)), rfl, rfl, ?_⟩
      rcases cf with ⟨cf, rfl⟩ | ⟨cf, rfl⟩ | ⟨cf, rfl⟩
      · rw [show inV (V.str code) [V.str "InvalidAlphabet", .str "InvalidWord", .str "InvalidLetter", .str "InvalidState", .str "InvalidPrime", .str "InvalidSet"] = true by
          simp only [List.mem_cons, List.not_mem_nil, or_false] at cf
          rcases cf with e | e | e | e | e | e <;> rw [e] <;> decide +kernel]
        walk_at "ss"
        refine ⟨C, dd, _, _, rfl, xf, n2, rfl, s1 _ _ hd, rfl, ?_⟩
        walk_at "ss"
        intro p2 hp2
        exact q p2 _ upd_same (s1.trans (same_upd hp2))
      · rw [show inV (V.str code) [V.str "InvalidAlphabet", .str "InvalidWord", .str "InvalidLetter", .str "InvalidState", .str "InvalidPrime", .str "InvalidSet"] = false by
          simp only [List.mem_cons, List.not_mem_nil, or_false] at cf
          rcases cf with e | e <;> rw [e] <;> decide +kernel]
        walk_at "ss"
        refine ⟨C, dd, _, _, rfl, xf, n1, rfl, s1 _ _ hd, rfl, ?_⟩
        walk_at "ss"
        intro p2 hp2
        have s2 := s1.trans (same_upd (o := .tup [.str "InvalidName", .str "InvalidLimit"]) hp2)
        walk_at "ss"
        refine ⟨p2, _, rfl, .inr (.inl (.inl upd_same)), rfl, rfl, ?_⟩
        rw [show inV (V.str code) [V.str "InvalidName", .str "InvalidLimit"] = false by
          simp only [List.mem_cons, List.not_mem_nil, or_false] at cf
          rcases cf with e | e <;> rw [e] <;> decide +kernel]
        walk_at "ss"
        refine ⟨C, dd, _, _, rfl, xf, n1, rfl, s2 _ _ hd, rfl, ?_⟩
        walk_at "ss"
        intro p3 hp3
        have s3 := s2.trans (same_upd (o := .tup [.str "InvalidRows", .str "InvalidLine"]) hp3)
        walk_at "ss"
        refine ⟨p3, _, rfl, .inr (.inl (.inl upd_same)), rfl, rfl, ?_⟩
        rw [show inV (V.str code) [V.str "InvalidRows", .str "InvalidLine"] = true by
          simp only [List.mem_cons, List.not_mem_nil, or_false] at cf
          rcases cf with e | e <;> rw [e] <;> decide +kernel]
        walk_at "ss"
        refine ⟨C, dd, _, _, rfl, xf, n2, rfl, s3 _ _ hd, rfl, ?_⟩
        walk_at "ss"
        intro p4 hp4
        exact q p4 _ upd_same (s3.trans (same_upd hp4))
      · rw [show inV (V.str code) [V.str "InvalidAlphabet", .str "InvalidWord", .str "InvalidLetter", .str "InvalidState", .str "InvalidPrime", .str "InvalidSet"] = false by
          simp only [List.mem_cons, List.not_mem_nil, or_false] at cf
          rcases cf with e | e <;> rw [e] <;> decide +kernel]
        walk_at "ss"
        refine ⟨C, dd, _, _, rfl, xf, n1, rfl, s1 _ _ hd, rfl, ?_⟩
        walk_at "ss"
        intro p2 hp2
        have s2 := s1.trans (same_upd (o := .tup [.str "InvalidName", .str "InvalidLimit"]) hp2)
        walk_at "ss"
        refine ⟨p2, _, rfl, .inr (.inl (.inl upd_same)), rfl, rfl, ?_⟩
        rw [show inV (V.str code) [V.str "InvalidName", .str "InvalidLimit"] = false by
          simp only [List.mem_cons, List.not_mem_nil, or_false] at cf
          rcases cf with e | e <;> rw [e] <;> decide +kernel]
        walk_at "ss"
        refine ⟨C, dd, _, _, rfl, xf, n1, rfl, s2 _ _ hd, rfl, ?_⟩
        walk_at "ss"
        intro p3 hp3
        have s3 := s2.trans (same_upd (o := .tup [.str "InvalidRows", .str "InvalidLine"]) hp3)
        walk_at "ss"
        refine ⟨p3, _, rfl, .inr (.inl (.inl upd_same)), rfl, rfl, ?_⟩
        rw [show inV (V.str code) [V.str "InvalidRows", .str "InvalidLine"] = false by
          simp only [List.mem_cons, List.not_mem_nil, or_false] at cf
          rcases cf with e | e <;> rw [e] <;> decide +kernel]
        walk_at "ss"
        refine ⟨C, dd, _, _, rfl, xf, n1, rfl, s3 _ _ hd, rfl, ?_⟩
        walk_at "ss"
        intro p4 hp4
        have s4 := s3.trans (same_upd (o := .tup [.str "InvalidText", .str "InvalidPage"]) hp4)
        walk_at "ss"
        refine ⟨p4, _, rfl, .inr (.inl (.inl upd_same)), rfl, rfl, ?_⟩
        rw [show inV (V.str code) [V.str "InvalidText", .str "InvalidPage"] = true by
          simp only [List.mem_cons, List.not_mem_nil, or_false] at cf
          rcases cf with e | e <;> rw [e] <;> decide +kernel]
        walk_at "ss"
        refine ⟨C, dd, _, _, rfl, xf, n2, rfl, s4 _ _ hd, rfl, ?_⟩
        walk_at "ss"
        intro p5 hp5
        exact q p5 _ upd_same (s4.trans (same_upd hp5))
    · walk_at "ss"
      refine ⟨C, dd, _, _, rfl, xf, n1, rfl, hd, rfl, ?_⟩
      walk_at "ss"
      refine in_tup rfl rfl fun G1 s1 => ?_
      rw [show inV (V.str "TooMany") [V.str "InvalidAlphabet", .str "InvalidWord", .str "InvalidLetter", .str "InvalidState", .str "InvalidPrime", .str "InvalidSet"] = false by decide +kernel]
      walk_at "ss"
      refine ⟨C, dd, _, _, rfl, xf, n1, rfl, s1 _ _ hd, rfl, ?_⟩
      walk_at "ss"
      refine in_tup rfl rfl fun G2 s2 => ?_
      rw [show inV (V.str "TooMany") [V.str "InvalidName", .str "InvalidLimit"] = false by decide +kernel]
      have s2 := s1.trans s2
      walk_at "ss"
      refine ⟨C, dd, _, _, rfl, xf, n1, rfl, s2 _ _ hd, rfl, ?_⟩
      walk_at "ss"
      refine in_tup rfl rfl fun G3 s3 => ?_
      rw [show inV (V.str "TooMany") [V.str "InvalidRows", .str "InvalidLine"] = false by decide +kernel]
      have s3 := s2.trans s3
      walk_at "ss"
      refine ⟨C, dd, _, _, rfl, xf, n1, rfl, s3 _ _ hd, rfl, ?_⟩
      walk_at "ss"
      refine in_tup rfl rfl fun G4 s4 => ?_
      rw [show inV (V.str "TooMany") [V.str "InvalidText", .str "InvalidPage"] = false by decide +kernel]
      have s4 := s3.trans s4
      walk_at "ss"
      refine ⟨C, dd, _, _, rfl, xf, n1, rfl, s4 _ _ hd, rfl, ?_⟩
      walk_at "ss"
      refine in_tup rfl rfl fun G5 s5 => ?_
      rw [show inV (V.str "TooMany") [V.str "WrongKind", .str "UnknownName"] = false by decide +kernel]
      have s5 := s4.trans s5
      walk_at "ss"
      refine ⟨C, dd, _, _, rfl, xf, n1, rfl, s5 _ _ hd, rfl, ?_⟩
      walk_at "ss"
      refine ⟨C, dd, _, _, rfl, xf, n2, rfl, s5 _ _ hd, rfl, ?_⟩
      walk_at "ss"
      refine ⟨C, dd, _, _, rfl, xf, n3, rfl, s5 _ _ hd, rfl, ?_⟩
      walk_at "ss"
      intro p6 hp6
      exact q p6 _ upd_same (s5.trans (same_upd hp6))
    · walk_at "ss"
      refine ⟨C, dd, _, _, rfl, xf, n1, rfl, hd, rfl, ?_⟩
      walk_at "ss"
      refine in_tup rfl rfl fun G1 s1 => ?_
      rw [show inV (V.str "AlphabetsDiffer") [V.str "InvalidAlphabet", .str "InvalidWord", .str "InvalidLetter", .str "InvalidState", .str "InvalidPrime", .str "InvalidSet"] = false by decide +kernel]
      walk_at "ss"
      refine ⟨C, dd, _, _, rfl, xf, n1, rfl, s1 _ _ hd, rfl, ?_⟩
      walk_at "ss"
      refine in_tup rfl rfl fun G2 s2 => ?_
      rw [show inV (V.str "AlphabetsDiffer") [V.str "InvalidName", .str "InvalidLimit"] = false by decide +kernel]
      have s2 := s1.trans s2
      walk_at "ss"
      refine ⟨C, dd, _, _, rfl, xf, n1, rfl, s2 _ _ hd, rfl, ?_⟩
      walk_at "ss"
      refine in_tup rfl rfl fun G3 s3 => ?_
      rw [show inV (V.str "AlphabetsDiffer") [V.str "InvalidRows", .str "InvalidLine"] = false by decide +kernel]
      have s3 := s2.trans s3
      walk_at "ss"
      refine ⟨C, dd, _, _, rfl, xf, n1, rfl, s3 _ _ hd, rfl, ?_⟩
      walk_at "ss"
      refine in_tup rfl rfl fun G4 s4 => ?_
      rw [show inV (V.str "AlphabetsDiffer") [V.str "InvalidText", .str "InvalidPage"] = false by decide +kernel]
      have s4 := s3.trans s4
      walk_at "ss"
      refine ⟨C, dd, _, _, rfl, xf, n1, rfl, s4 _ _ hd, rfl, ?_⟩
      walk_at "ss"
      refine in_tup rfl rfl fun G5 s5 => ?_
      rw [show inV (V.str "AlphabetsDiffer") [V.str "WrongKind", .str "UnknownName"] = false by decide +kernel]
      have s5 := s4.trans s5
      walk_at "ss"
      refine ⟨C, dd, _, _, rfl, xf, n1, rfl, s5 _ _ hd, rfl, ?_⟩
      walk_at "ss"
      intro p6 hp6
      exact q p6 _ upd_same (s5.trans (same_upd hp6))
end
section
variable {P : Program} {w : World} {base : Heap}
/-- what is got of f -/
def spGotL (P : Program) (w : World) (K : PySem.W.Frag) (mg : Str → Option Value) (base : Heap) (cs : List Value) (k : Nat) : Sp := fun vs H Q _ => ∃ (f : Addr) (g : Hp → Prop) (sp : Hp → VK → XK → Prop), vs = [.ref f] ∧ Held0 P w K mg base (L2.CX P w) k f g sp ∧ ∀ H1, Same H H1 → g H1 ∧
  ∀ (Q2 : VK) (E2 : XK), (∀ v H2, (∀ p H3, H3 p = some (.tup [.str "", v]) → Same H2 H3 → Q (.ref p) H3) → Q2 v H2) →
    (∀ cls d H2, (PySem.W.exmAny K cls cs = some true ∧ ∃ code us, ErrL K cls d H2 code us ∧ ∀ p t H3, H3 p = some (.tup [.str code, .ref t]) → H3 t = some (.tup us) → Same H2 H3 → Q (.ref p) H3) → E2 cls d H2) → sp H1 Q2 E2
theorem ok_gotL (T : Env K mg) (k : Nat) : FnOk P w K mg base CX0 (k + 2) T.f_got T.fd_got ["_law_ask"] (spGotL P w K mg base [.ref T.C_AheadError, .ref T.C_Missing, .ref T.C_NothingLeft] k) := by
  refine T.F_got.ok sc_got (fun vs H Q E h => ?_) (fun cdv A outer s H vs Q E hr h => ⟨_, pss_cons (ps_set (i := 1) sc_got.nd rfl (.inl rfl) (pe_tup (pa_cons pe_str (pa_cons pe_non pa_nil))))
    (pss_cons (ps_tryA3 (i := 2) (tb := fun W => tAsg (tTup (tCons (tC (.str "")) (tCons (tAsk P w K mg base (L2.CX P w) k 0 (WE W)) tNil))) (gName 1))
      (ts := fun q cls d => tAsg (tTup (tCons (tXfA K q cls d "code" (tVar 2)) (tCons (tCallP q cls d (spFieldL K) (tCons (tVar 2) tNil)) tNil))) (gName 1))
      rfl rfl sc_got.nd rfl rfl ⟨by rfl, by decide, .inl T.gC_AheadError⟩ ⟨by rfl, by decide, .inl T.gC_Missing⟩ ⟨by rfl, by decide, .inl T.gC_NothingLeft⟩
      (fun W pn xe tk po => pss_one (ps_set (i := 1) sc_got.nd rfl (.inl rfl) (pe_tup (pa_cons pe_str (pa_cons (pe_ask (hr.mono (by omega)) rfl (by first | exact .inl rfl | exact .inr (.inl rfl)) (fun σ => passAt tk σ)) pa_nil)))))
      (fun q oe cls d pn hz hf => pss_one (ps_set (i := 1) sc_got.nd rfl (.inl rfl) (pe_tup (pa_cons (pe_xfA ⟨List.mem_cons_self .., hz, hf⟩ (pv 2)) (pa_cons (pe_callP (ok_fieldL T) (RoomH.mono ⟨hr.dp, hr.un⟩ (by omega)) ⟨List.mem_cons_self .., hz, hf⟩ (by rfl) T.g_field T.F_field.kp T.b_field (fun σ pins H s e s' I c => c.elim) (pa_cons (pv 2) pa_nil)) pa_nil))))))
    (pss_one (ps_ret (pv 1)))), ?_⟩)
  · obtain ⟨f, g, sp, rfl, _⟩ := h
    rfl
  · obtain ⟨f, g, sp, rfl, hH, q⟩ := h
    walk_at "ss"
    intro p0 hp0
    obtain ⟨hg, q⟩ := q _ (same_upd (o := .tup [.str "", .non]) hp0)
    walk_at "ss"
    refine ⟨f, g, sp, rfl, hH, hg, q _ _ (fun v H2 z => ?_) (fun cls d H2 z => ?_)⟩
    · walk_at "ss"
      intro p1 hp1
      walk_at "ss"
      exact z p1 _ upd_same (same_upd hp1)
    · obtain ⟨em, code, us, er, z⟩ := z
      refine ⟨em, fun x hx => ?_⟩
      obtain ⟨C, dd, fs, rfl, xf, n1, rfl, hd, hc⟩ : ∃ C dd fs, cls = .ref C ∧ XfC K C ∧ PySem.W.findIn K (.ref C) "code" = some none ∧ d = some dd ∧ H2 dd = some (.xd fs) ∧ List.lookup ("code" : Str) fs = some (V.str code) := by
        rcases er with ⟨f, v, rfl, cf, C, dd, rfl, xf, n1, n2, rfl, hd⟩ | ⟨sv, mv, rfl, rfl, C, dd, rfl, xf, n1, n2, n3, rfl, hd⟩ | ⟨rfl, rfl, C, dd, rfl, xf, n1, rfl, hd⟩
        · exact ⟨C, dd, _, rfl, xf, n1, rfl, hd, rfl⟩
        · exact ⟨C, dd, _, rfl, xf, n1, rfl, hd, rfl⟩
        · exact ⟨C, dd, _, rfl, xf, n1, rfl, hd, rfl⟩
      walk_at "ss"
      refine ⟨C, dd, _, _, rfl, xf, n1, rfl, hd, hc, ?_⟩
      walk_at "ss"
      first | intro p1 H3 e1 s1 | refine ⟨code, us, rfl, er, fun p1 H3 e1 s1 => ?_⟩
      walk_at "ss"
      intro p2 hp2
      walk_at "ss"
      exact z p2 p1 _ upd_same (by rw [upd_ne (ne_of_none e1 hp2)]; exact e1) (s1.trans (same_upd hp2))
end

/-! ### all that is got of asks: values, errors -/
inductive Due where
  | val (R : V → Hp → Prop)
  | err (code : Str) (us : List V)
def AskL (P : Program) (w : World) (K : PySem.W.Frag) (mg : Str → Option Value) (base : Heap) (cs : List Value) (k : Nat) (H : Hp) (f : Addr) : Due → Prop
  | .val R => ∃ g sp, Held0 P w K mg base (L2.CX P w) k f g sp ∧ ∀ H1, Same H H1 → g H1 ∧ ∀ (Q2 : VK) (E2 : XK), (∀ v H2, R v H2 → Same H1 H2 → Q2 v H2) → sp H1 Q2 E2
  | .err code us => ∃ g sp, Held0 P w K mg base (L2.CX P w) k f g sp ∧ ∀ H1, Same H H1 → g H1 ∧ ∀ (Q2 : VK) (E2 : XK), (∀ cls d H2, PySem.W.exmAny K cls cs = some true → ErrL K cls d H2 code us → Same H1 H2 → E2 cls d H2) → sp H1 Q2 E2
def GotL (H : Hp) (y : V) : Due → Prop
  | .val R => ∃ q v, y = .ref q ∧ H q = some (.tup [.str "", v]) ∧ R v H
  | .err code us => ∃ q t, y = .ref q ∧ H q = some (.tup [.str code, .ref t]) ∧ H t = some (.tup us)
def Due.Keeps : Due → Prop
  | .val R => ∀ v H H', TupKeep H H' → R v H → R v H'
  | .err _ _ => True
theorem GotL.keep {H H' : Hp} {y : V} (k : TupKeep H H') : ∀ {d : Due}, d.Keeps → GotL H y d → GotL H' y d
  | .val R, kk, ⟨q, v, a, b, c⟩ => ⟨q, v, a, k _ _ b, kk _ _ _ k c⟩
  | .err _ _, _, ⟨q, t, a, b, c⟩ => ⟨q, t, a, k _ _ b, k _ _ c⟩

section
variable {P : Program} {w : World} {base : Heap}
def spAllGotL (P : Program) (w : World) (K : PySem.W.Frag) (mg : Str → Option Value) (base : Heap) (cs : List Value) (k : Nat) : Sp := fun vs H Q _ => ∃ (l : Addr) (ps : List Addr) (dues : List Due), vs = [.ref l] ∧ SqL K H l (ps.map V.ref) ∧ ps.length ≤ 100 ∧ dues.length = ps.length ∧ (∀ d ∈ dues, d.Keeps) ∧
  (∀ (i : Nat) (f : Addr), ps[i]? = some f → ∃ d, dues[i]? = some d ∧ AskL P w K mg base cs k H f d) ∧
  ∀ p ys H', H' p = some (.lst ys) → ys.length = dues.length → (∀ (i : Nat) (y : V), ys[i]? = some y → ∃ d, dues[i]? = some d ∧ GotL H' y d) → Same H H' → Q (.ref p) H'
theorem ok_all_gotL (T : Env K mg) (k : Nat) : FnOk P w K mg base CX0 (k + 3) T.f_all_got T.fd_all_got ["_law_asks"] (spAllGotL P w K mg base [.ref T.C_AheadError, .ref T.C_Missing, .ref T.C_NothingLeft] k) := by
  refine T.F_all_got.ok sc_all_got (fun vs H Q E h => ?_) (fun cdv A outer s H vs Q E hr h => ⟨_, ((pss_one (ps_ret (pe_lc (own := [("_law_ask", 1)]) (g := (gName 1)) (tt := tYes) rfl sc_all_got.nd (pi_list (pv 0)) (blkOk_by (own := [("_law_ask", 1)]) (N := N_all_got) (sc := defScope s_all_got) (by decide +kernel)) (fun _ _ _ _ _ => (pg_name (i := 1) sc_all_got.nd rfl (.inl rfl))) (fun _ _ _ _ _ => pts_nil) (fun _ _ _ _ _ => (pe_call (ok_gotL (P := P) (w := w) (base := base) T k) hr (by rfl) T.g_got T.F_got.kp T.b_got .nil pass0 (pa_cons (pv 1) pa_nil))))))), ?_⟩)
  · obtain ⟨l, ps, dues, rfl, _⟩ := h
    rfl
  · obtain ⟨l, ps, dues, rfl, hl, hn, hd, kk, ha, q⟩ := h
    walk_at "ss"
    try refine ⟨⟨_, hl⟩, ?_⟩
    intro D hD
    refine lc_genH walk_list (fun H' => Same H H') (fun i y H' => ∃ d, dues[i]? = some d ∧ GotL H' y d) (by rw [List.length_map]; omega) (same_upd hD) (fun _ h => h.seq hl) (fun _ _ h => same_mut h hD)
      (fun i y H1 H2 tk ⟨d, e1, e2⟩ => ⟨d, e1, e2.keep tk (kk d (List.mem_of_getElem? e1))⟩) ?_ ?_
    · rintro i x H1 H2 Q1 hlt hI ⟨rfl, hx⟩ - hQ
      rw [List.getElem?_map] at hx
      cases hf : ps[i]? with
      | none => rw [hf] at hx; cases hx
      | some f =>
        rw [hf] at hx
        cases hx
        obtain ⟨d, hdu, as⟩ := ha i f hf
        walk_at "ss"
        cases d with
        | val R =>
          obtain ⟨g, sp, hH, z⟩ := as
          refine ⟨f, g, sp, rfl, hH, fun H3 s3 => ⟨(z H3 (hI.trans s3)).1, fun Q2 E2 hQ2 _ => (z H3 (hI.trans s3)).2 Q2 E2 fun v H4 hR s4 => hQ2 v H4 fun p H5 e1 s5 => ?_⟩⟩
          have s35 := s3.trans (s4.trans s5)
          exact hQ _ _ ⟨_, hdu, p, v, rfl, e1, kk _ (List.mem_of_getElem? hdu) _ _ _ (TupKeep.of s5) hR⟩ (hI.trans s35) (TupKeep.of s35) fun o ho => s35 _ _ ho
        | err code us =>
          obtain ⟨g, sp, hH, z⟩ := as
          refine ⟨f, g, sp, rfl, hH, fun H3 s3 => ⟨(z H3 (hI.trans s3)).1, fun Q2 E2 _ hE => (z H3 (hI.trans s3)).2 Q2 E2 fun cls d H4 em er s4 => hE cls d H4 ⟨em, code, us, er, fun p t H5 e1 e2 s5 => ?_⟩⟩⟩
          have s35 := s3.trans (s4.trans s5)
          exact hQ _ _ ⟨_, hdu, p, t, rfl, e1, e2⟩ (hI.trans s35) (TupKeep.of s35) fun o ho => s35 _ _ ho
    · intro H1 ys hI hy hl2 hr2
      walk_at "ss"
      exact q D ys _ hy (by rw [hl2, List.length_map, hd]) hr2 hI
end

section
variable {P : Program} {w : World} {K : PySem.W.Frag} {mg : Str → Option Value} {base : Heap}
/-- the letters that are left -/
def restOf (cs : List Nat) (i : Nat) : Option V := if 97 + i ∈ cs then none else some (.str (sg (97 + i)))
theorem rest_mem {cs : List Nat} {v : V} (h : v ∈ (List.range 26).filterMap (restOf cs)) : ∃ c, v = .str (sg c) ∧ c ∉ cs ∧ 97 ≤ c ∧ c ≤ 122 := by
  obtain ⟨i, hi, e⟩ := List.mem_filterMap.mp h
  have := List.mem_range.mp hi
  unfold restOf at e
  split at e
  · cases e
  · rename_i hn
    exact ⟨97 + i, (Option.some.inj e).symm, hn, by omega, by omega⟩
theorem rest_len {cs : List Nat} (hl : cs.length ≤ 3) : 0 < ((List.range 26).filterMap (restOf cs)).length ∧ ((List.range 26).filterMap (restOf cs)).length ≤ 26 := by
  have h2 := List.length_filterMap_le (restOf cs) (List.range 26)
  rw [List.length_range] at h2
  refine ⟨?_, h2⟩
  rw [List.length_pos_iff]
  intro e
  have h3 : ∀ i < 26, 97 + i ∈ cs := fun i hi => by
    by_cases hm : 97 + i ∈ cs
    · exact hm
    · have : V.str (sg (97 + i)) ∈ (List.range 26).filterMap (restOf cs) := List.mem_filterMap.mpr ⟨i, List.mem_range.mpr hi, by unfold restOf; rw [if_neg hm]⟩
      rw [e] at this
      cases this
  have m0 := h3 0 (by decide)
  have m1 := h3 1 (by decide)
  have m2 := h3 2 (by decide)
  have m3 := h3 3 (by decide)
  clear h3 e h2
  match cs, hl, m0, m1, m2, m3 with
  | [], _, m0, _, _, _ => simp at m0
  | [a], _, m0, m1, _, _ =>
    simp at m0 m1
    omega
  | [a, b], _, m0, m1, m2, _ =>
    simp at m0 m1 m2
    omega
  | [a, b, c], _, m0, m1, m2, m3 =>
    simp at m0 m1 m2 m3
    omega
  | _ :: _ :: _ :: _ :: _, h, _, _, _, _ =>
    simp at h
def spSigns : Sp := fun vs H Q _ => ∃ (b l : Addr), vs = [.ref b] ∧ BagAt b l H ∧ ∀ z H', Alpha z.cps.toList → BagAt b l H' → Kp b H H' → Q (.str z) H'
theorem ok_signs (T : Env K mg) : FnOk P w K mg base CX0 3 T.f_signs T.fd_signs ["_law_bag_here"] spSigns := by
  refine T.F_signs.ok sc_signs (fun vs H Q E h => ?_) (fun cdv A outer s H vs Q E hr h => ⟨_, ((pss_cons (ps_set (i := 1) sc_signs.nd rfl (.inl rfl) (pe_op op_add pe_int (pe_call (ok_of T) (hr.mono (by decide)) (by rfl) T.g_of T.F_of.kp T.b_of .nil pass0 (pa_cons (pv 0) (pa_cons (pe_lst (pa_cons pe_int (pa_cons pe_int (pa_cons pe_int (pa_cons pe_int (pa_cons pe_int (pa_cons pe_int pa_nil))))))) pa_nil)))))
      (pss_cons (ps_set (i := 2) sc_signs.nd rfl (.inr rfl) (pe_lst pa_nil))
      (pss_cons (ps_for PassesOwn.never rfl (pi_range1 (by rfl) T.z_range (pa_cons (pv 1) pa_nil)) (pg_name (i := 3) sc_signs.nd rfl (.inl rfl))
      (pss_cons (ps_setLc (i := 4) (own := [("_law_sign", 5)]) (g := (gName 5)) (tt := (tTest (tOp (rIn K true) _ _))) rfl sc_signs.nd rfl rfl (sw_true rfl rfl rfl (by decide +kernel)) (pi_str pe_str) (blkOk_by (own := [("_law_sign", 5)]) (N := N_signs) (sc := defScope s_signs) (by decide +kernel)) (fun _ _ _ _ _ => (pg_name (i := 5) sc_signs.nd rfl (.inl rfl))) (fun _ _ _ _ _ => (pts_one (pt_cmpR op_notIn_seq (pv 5) (pv 2) (by rfl)))) (fun _ _ _ _ _ => (pv 5)))
      (pss_one (ps_expr (pe_bm PySem.F.plainAttrs_list PySem.F.slot_list_append PySem.F.type_list_append mt_append (pv 2) (pa_cons (pe_ix ix_list (pv 4) (pe_call (ok_of T) (hr.mono (by decide)) (by rfl) T.g_of T.F_of.kp T.b_of .nil pass0 (pa_cons (pv 0) (pa_cons (pe_lst (pa_cons pe_int (pa_cons pe_int (pa_cons pe_int (pa_cons (pe_call (ok_pull T) (hr.mono (by decide)) (by rfl) T.g_pull T.F_pull.kp T.b_pull .nil pass0 (pa_cons (pv 0) (pa_cons (pe_callB call_len_seq (by rfl) T.z_len (by decide +kernel) (pa_cons (pv 4) pa_nil)) pa_nil))) pa_nil))))) pa_nil))) (fun _ _ => rfl)) pa_nil))))))
      (pss_one (ps_ret (pe_join pe_str (pe_callB cr_sortedS (by rfl) T.z_sorted (by decide +kernel) (pa_cons (pv 2) pa_nil))))))))), ?_⟩)
  · obtain ⟨b, l, rfl, _⟩ := h
    rfl
  · obtain ⟨b, l, rfl, B, q⟩ := h
    walk_at "ss"
    intro p hp
    have s0 : Same H (upd H p (.lst [.int 0, .int 1, .int 1, .int 1, .int 2, .int 3])) := same_upd hp
    refine ⟨b, l, _, rfl, B.same s0, .inl ⟨p, _, rfl, B.nb hp, .inl (SqL.of upd_same), by simp, by simp, fun v H1 hv B1 k1 => ?_⟩⟩
    obtain ⟨n, rfl, n0, n3⟩ : ∃ n : Int, v = .int n ∧ 0 ≤ n ∧ n ≤ 3 := by
      simp at hv
      rcases hv with rfl | rfl | rfl | rfl | rfl | rfl <;> exact ⟨_, rfl, by decide, by decide⟩
    have k2 : Kp b H H1 := (Kp.same s0).trans k1
    walk_at "ss"
    intro F hF
    have hFH : H F = none := k2.free B1 hF
    have nFb : F ≠ b := B1.nb hF
    have nFl : F ≠ l := B1.nl hF
    have k3 : Kp b H (upd H1 F (.lst [])) := k2.mut hFH
    refine ⟨_, rfl, _, rfl, by omega, by omega, ?_⟩
    refine for_it walk_range (fun i σ H' => Stp (∃ (y3 y4 y5 : Option V) (cs : List Nat), σ = [some (.ref b), some (.int (1 + n)), some (.ref F), y3, y4, y5] ∧ BagAt b l H' ∧ Kp b H H' ∧
      H' F = some (.lst (cs.map fun c => V.str (sg c))) ∧ cs.length = i ∧ cs.Nodup ∧ ∀ c ∈ cs, 97 ≤ c ∧ c ≤ 122))
      (.mk ⟨none, none, none, [], rfl, (B1.mut nFb nFl), k3, upd_same, rfl, List.nodup_nil, fun _ h => nomatch h⟩) (fun _ _ _ _ _ => trivial) ?_ ?_
    · rintro i x σ H2 H3 hi hP ⟨rfl, rfl⟩
      obtain ⟨y3, y4, y5, cs, rfl, B2, k4, hcs, hlen, hnd, hc⟩ := hP.of
      walk_at "ss"
      intro D hD
      refine lc_fil walk_str (fun H' => Same H3 H') (restOf cs) (by rw [az_size]; decide) (same_upd hD) (fun _ _ => trivial) (fun _ _ h => same_mut h hD) ?_ ?_
      · rintro i2 x H4 H5 Q1 Qn hlt hI ⟨rfl, c, hcz, rfl⟩ - hQ hN
        obtain ⟨hi26, rfl⟩ := az_at hcz
        walk_at "ss"
        refine ⟨F, _, rfl, .inl (SqL.of (hI _ _ hcs)), rfl, by simp [flatV], ?_⟩
        rw [in_sg]
        walk_at "ss"
        refine ite2 (fun e => ?_) (fun e => ?_)
        · have e2 : 97 + i2 ∉ cs := by simpa using e
          walk_at "ss"
          exact hQ _ _ (by unfold restOf; rw [if_neg e2]) hI (fun _ h => h)
        · have e2 : 97 + i2 ∈ cs := by simpa using e
          exact hN _ (by unfold restOf; rw [if_pos e2]) hI (fun _ h => h)
      · intro H4 hI hy
        rw [az_size] at hy
        obtain ⟨r0, r1⟩ := rest_len (cs := cs) (by omega)
        have B4 := B2.same hI
        walk_at "ss"
        refine ⟨.inl ⟨rfl, _, SqL.of (hI _ _ hcs)⟩, ?_⟩
        walk_at "ss"
        refine ⟨D, _, rfl, .inl (SqL.of hy), ?_⟩
        refine ⟨b, l, _, rfl, B4, by omega, by omega, fun k H5 k0 k1 B5 kp5 => ?_⟩
        walk_at "ss"
        intro p2 hp2
        have s6 : Same H5 (upd H5 p2 (.lst [.int 0, .int 0, .int 0, .int k])) := same_upd hp2
        refine ⟨b, l, _, rfl, B5.same s6, .inl ⟨p2, _, rfl, B5.nb hp2, .inl (SqL.of upd_same), by simp, by simp, fun v H7 hv B7 k7 => ?_⟩⟩
        obtain ⟨j, rfl, j0, j1⟩ : ∃ j : Int, v = .int j ∧ 0 ≤ j ∧ j < ((List.range 26).filterMap (restOf cs)).length := by
          simp at hv
          rcases hv with rfl | rfl
          · exact ⟨_, rfl, by omega, by omega⟩
          · exact ⟨_, rfl, k0, k1⟩
        have k47 : Kp b H4 H7 := kp5.trans ((Kp.same s6).trans k7)
        have nD : D ≠ b := B2.nb hD
        obtain ⟨u, hu, hm⟩ := at_in j0 j1
        obtain ⟨c, rfl, hcn, hc1, hc2⟩ := rest_mem hm
        refine ⟨D, _, j, _, rfl, rfl, SqL.of (k47 _ _ hy nD), hu, ?_⟩
        have hF7 : H7 F = some (.lst (cs.map fun c => V.str (sg c))) := k47 _ _ (hI _ _ hcs) nFb
        refine ⟨F, _, _, rfl, rfl, hF7, szl (by rw [List.length_map]; omega), ?_⟩
        refine .mk ⟨_, _, _, cs ++ [c], rfl, B7.mut nFb nFl, ((k4.trans (.same hI)).trans k47).mut hFH, ?_, by simp [hlen], ?_, ?_⟩
        · rw [upd_same, List.map_append]
          rfl
        · rw [List.nodup_append]
          refine ⟨hnd, by simp, fun x hx y hy => ?_⟩
          simp at hy
          rw [hy]
          intro e
          exact hcn (e ▸ hx)
        · intro x hx
          rcases List.mem_append.mp hx with hx | hx
          · exact hc x hx
          · simp at hx
            rw [hx]
            exact ⟨hc1, hc2⟩
    · intro σ H2 hP
      obtain ⟨y3, y4, y5, cs, rfl, B2, k4, hcs, hlen, hnd, hc⟩ := hP.of
      walk_at "ss"
      refine ⟨F, cs.map sg, rfl, SqL.of (by rw [List.map_map]; exact hcs), by rw [List.length_map]; omega, fun ys p2 perm srt hp2 => ?_⟩
      obtain ⟨ds, hd, rfl⟩ := perm_sg perm
      have hr := rise_lt (sorted_sg ds srt) (hd.nodup_iff.mpr hnd)
      have hln : ds.length = cs.length := hd.length_eq
      refine ⟨_, p2, ds.map sg, rfl, rfl, .inl (SqL.of upd_same), ?_, ?_⟩
      · rw [sum_sg, List.length_map]
        have : (Str.ofString "").length = 0 := rfl
        rw [this]
        omega
      · rw [join_sg]
        refine q _ _ ⟨?_, ?_, ?_, ?_⟩ (B2.same (same_upd hp2)) (k4.trans (.same (same_upd hp2)))
        · simp
          omega
        · simp
          omega
        · intro c hm
          simp at hm
          exact hc c (hd.mem_iff.mp hm)
        · simpa using hr
end

theorem catA_all {K : PySem.W.Frag} {H : Hp} {a b : Addr} {xs ys : List V} {Q : VK} (ha : SqT K H a xs) (hb : SqT K H b ys) (hz : xs.length + ys.length ≤ 100000) (q : ∀ p H', Same H H' → SqT K H' p (xs ++ ys) → Q (.ref p) H') : rCatA K (.ref a) (.ref b) H Q :=
  ⟨a, b, xs, ys, rfl, rfl, ha, hb, sz hz, fun e => q b H (Same.refl H) (by rw [e]; exact hb), fun _ e => q a H (Same.refl H) (by rw [e, List.append_nil]; exact ha), fun _ _ p hp => q p _ (same_upd hp) (.inl (.inl upd_same))⟩
theorem slA_all {K : PySem.W.Frag} {H : Hp} {a : Addr} {xs : List V} {lo hi : Option Int} {Q : VK} (ha : SqT K H a xs) (q : ∀ p H', Same H H' → SqT K H' p (cutV xs lo hi) → Q (.ref p) H') : rSlA K (.ref a) lo hi H Q := by
  refine ⟨a, xs, rfl, ha, fun e => q a H (Same.refl H) ?_, fun _ p hp => q p _ (same_upd hp) (.inl (.inl upd_same))⟩
  have : cutV xs lo hi = xs := by
    unfold cutV
    rw [e.1, e.2]
    simp
  rw [this]
  exact ha
theorem no_sl {K : PySem.W.Frag} {x : V} {lo : Option Int} {σ : L2.St} {H : Hp} {Q : VK} (h : rSlA K x lo none H Q) : tNoPart σ H (fun u H3 => rSlA K x lo u H3 Q) := h

/-! ### values beside the bag -/
mutual
/-- v is the data d; no list in it is the bag at b -/
inductive Dq (K : PySem.W.Frag) (b : Addr) (H : Hp) : V → PyData → Prop
  | non : Dq K b H .non .none
  | bl (c : Bool) : Dq K b H (.bl c) (.bool c)
  | int (i : Int) : Dq K b H (.int i) (.int i)
  | str (x : Str) : Dq K b H (.str x) (.str x)
  | lst {a : Addr} {xs : List V} {ds : List PyData} : H a = some (.lst xs) → a ≠ b → DqAll K b H xs ds → Dq K b H (.ref a) (.list ds)
  | tup {a : Addr} {xs : List V} {ds : List PyData} : SqT K H a xs → DqAll K b H xs ds → Dq K b H (.ref a) (.tuple ds)
inductive DqAll (K : PySem.W.Frag) (b : Addr) (H : Hp) : List V → List PyData → Prop
  | nil : DqAll K b H [] []
  | cons {v : V} {vs : List V} {d : PyData} {ds : List PyData} : Dq K b H v d → DqAll K b H vs ds → DqAll K b H (v :: vs) (d :: ds)
end
mutual
theorem dq_mono {K : PySem.W.Frag} {b : Addr} {H H' : Hp} (hs : ∀ a xs, a ≠ b → H a = some (.lst xs) → H' a = some (.lst xs)) (ht : ∀ a xs, SqT K H a xs → SqT K H' a xs) : ∀ (d : PyData) (v : V), Dq K b H v d → Dq K b H' v d
  | .none, _, h => by cases h; exact .non
  | .bool b, _, h => by cases h; exact .bl b
  | .int i, _, h => by cases h; exact .int i
  | .str x, _, h => by cases h; exact .str x
  | .list ds, _, h => by
    cases h with
    | lst h1 n h2 => exact .lst (hs _ _ n h1) n (dqa_mono hs ht ds _ h2)
  | .tuple ds, _, h => by
    cases h with
    | tup h1 h2 => exact .tup (ht _ _ h1) (dqa_mono hs ht ds _ h2)
  | .dict _, _, h => by cases h
theorem dqa_mono {K : PySem.W.Frag} {b : Addr} {H H' : Hp} (hs : ∀ a xs, a ≠ b → H a = some (.lst xs) → H' a = some (.lst xs)) (ht : ∀ a xs, SqT K H a xs → SqT K H' a xs) : ∀ (ds : List PyData) (vs : List V), DqAll K b H vs ds → DqAll K b H' vs ds
  | [], _, h => by cases h; exact .nil
  | d :: ds, _, h => by
    cases h with
    | cons a b => exact .cons (dq_mono hs ht d _ a) (dqa_mono hs ht ds _ b)
end
mutual
theorem dq_dp {K : PySem.W.Frag} {b : Addr} {H : Hp} : ∀ (d : PyData) (v : V), Dq K b H v d → Dp K H v d
  | .none, _, h => by cases h; exact .non
  | .bool b, _, h => by cases h; exact .bl b
  | .int i, _, h => by cases h; exact .int i
  | .str x, _, h => by cases h; exact .str x
  | .list ds, _, h => by
    cases h with
    | lst h1 n h2 => exact .lst (SqL.of h1) (dqa_dp ds _ h2)
  | .tuple ds, _, h => by
    cases h with
    | tup h1 h2 => exact .tup h1 (dqa_dp ds _ h2)
  | .dict _, _, h => by cases h
theorem dqa_dp {K : PySem.W.Frag} {b : Addr} {H : Hp} : ∀ (ds : List PyData) (vs : List V), DqAll K b H vs ds → DpAll K H vs ds
  | [], _, h => by cases h; exact .nil
  | d :: ds, _, h => by
    cases h with
    | cons a b => exact .cons (dq_dp d _ a) (dqa_dp ds _ b)
end
theorem tup_kp {K : PySem.W.Frag} {b l : Addr} {H H' : Hp} (k : Kp b H H') (B : BagAt b l H) {a : Addr} {xs : List V} (h1 : SqT K H a xs) : SqT K H' a xs := by
  obtain ⟨⟨i, r, m, c, ns, hb, _⟩, _⟩ := B
  rcases h1 with (h | ⟨o, h⟩) | h
  · exact .inl (.inl (k _ _ h fun z => by rw [z, hb] at h; cases h))
  · exact .inl (.inr ⟨o, k _ _ h fun z => by rw [z, hb] at h; cases h⟩)
  · exact .inr h
theorem Dq.kp {K : PySem.W.Frag} {b l : Addr} {H H' : Hp} {v : V} {d : PyData} (h : Dq K b H v d) (k : Kp b H H') (B : BagAt b l H) : Dq K b H' v d := dq_mono (fun _ _ n h => k _ _ h n) (fun _ _ h => tup_kp k B h) d v h
theorem DqAll.kp {K : PySem.W.Frag} {b l : Addr} {H H' : Hp} {vs : List V} {ds : List PyData} (h : DqAll K b H vs ds) (k : Kp b H H') (B : BagAt b l H) : DqAll K b H' vs ds := dqa_mono (fun _ _ n h => k _ _ h n) (fun _ _ h => tup_kp k B h) ds vs h
theorem Dq.same {K : PySem.W.Frag} {b : Addr} {H H' : Hp} {v : V} {d : PyData} (h : Dq K b H v d) (s : Same H H') : Dq K b H' v d := dq_mono (fun _ _ _ h => s _ _ h) (fun _ _ h => same_tup s h) d v h
theorem DqAll.same {K : PySem.W.Frag} {b : Addr} {H H' : Hp} {vs : List V} {ds : List PyData} (h : DqAll K b H vs ds) (s : Same H H') : DqAll K b H' vs ds := dqa_mono (fun _ _ _ h => s _ _ h) (fun _ _ h => same_tup s h) ds vs h
theorem dqa_app {K : PySem.W.Frag} {b : Addr} {H : Hp} {us : List V} {es : List PyData} (h2 : DqAll K b H us es) : ∀ {ds : List PyData} {vs : List V}, DqAll K b H vs ds → DqAll K b H (vs ++ us) (ds ++ es)
  | [], _, h => by cases h; exact h2
  | d :: ds, _, h => by
    cases h with
    | cons a b => exact .cons a (dqa_app h2 b)
theorem dqa_at {K : PySem.W.Frag} {b : Addr} {H : Hp} : ∀ {ds : List PyData} {vs : List V} {i : Nat} {v : V}, DqAll K b H vs ds → vs[i]? = some v → ∃ d, ds[i]? = some d ∧ Dq K b H v d
  | [], _, _, _, h, e => by cases h; simp at e
  | d :: ds, _, 0, v, h, e => by
    cases h with
    | cons a b =>
      cases e
      exact ⟨d, rfl, a⟩
  | d :: ds, _, i + 1, v, h, e => by
    cases h with
    | cons a b =>
      have e : _ = some v := e
      exact dqa_at (ds := ds) (i := i) b e
theorem natD_dq {K : PySem.W.Frag} {b : Addr} {H : Hp} : ∀ rs : List Nat, DqAll K b H (natL rs) (natD rs)
  | [] => .nil
  | _ :: rs => .cons (.int _) (natD_dq rs)
theorem rep_dq {K : PySem.W.Frag} {b : Addr} {H : Hp} {v : V} {d : PyData} (h : Dq K b H v d) : ∀ n : Nat, DqAll K b H (List.replicate n v) (List.replicate n d)
  | 0 => .nil
  | n + 1 => by rw [List.replicate_succ, List.replicate_succ]; exact .cons h (rep_dq h n)
theorem cut_nat {t : List Nat} : cutV (natL t) (some 1) none = natL (t.drop 1) := by
  show cutV (natL t) (some ((1 : Nat) : Int)) none = _
  rw [cut_drop]
  unfold natL
  rw [List.map_drop]
theorem cut_rep {n : Nat} {v : V} : cutV (List.replicate n v) (some 1) none = List.replicate (n - 1) v := by
  show cutV (List.replicate n v) (some ((1 : Nat) : Int)) none = _
  rw [cut_drop, List.drop_replicate]
/-! ### lines that cannot stand -/
structure Wp (szs : List Nat) (r : Nat) (t : List Nat) (fd : PyData) : Prop where
  rl : r < szs.length
  tl : t.length = szs.getD r 0
  t1 : 1 ≤ t.length ∧ t.length ≤ 7
  tb : ∀ x ∈ t, x < 1000
  bf : belowD (szs.length : Nat) fd = false
def wideD (t : List Nat) : List PyData := List.replicate t.length (.tuple (natD t))
theorem table_len {n : Int} {ds : List PyData} (h : (ds.length : Int) ≠ n) : tableD n (.tuple ds) = false := by
  show (decide _ && _) = false
  rw [decide_eq_false h]
  rfl
theorem table_item {n : Int} {ds : List PyData} {d : PyData} (hd : d ∈ ds) (h : belowD 1000 d = false) : tableD n (.tuple ds) = false := by
  show (decide _ && ds.all (belowD 1000)) = false
  have hn : ds.all (belowD 1000) = false := by
    cases e : ds.all (belowD 1000) with
    | false => rfl
    | true =>
      rw [List.all_eq_true.mp e d hd] at h
      cases h
  rw [hn, Bool.and_false]
theorem join_len {a b : Int} {ds : List PyData} (h : (ds.length : Int) ≠ a) : joinD a b (.tuple ds) = false := by
  show (decide _ && _) = false
  rw [decide_eq_false h]
  rfl
theorem join_item {a b : Int} {ds : List PyData} {d : PyData} (hd : d ∈ ds) (h : tableD b d = false) : joinD a b (.tuple ds) = false := by
  show (decide _ && ds.all (tableD b)) = false
  have hn : ds.all (tableD b) = false := by
    cases e : ds.all (tableD b) with
    | false => rfl
    | true =>
      rw [List.all_eq_true.mp e d hd] at h
      cases h
  rw [hn, Bool.and_false]
theorem small_tup {ds : List PyData} (h : ds.length ≤ 1000) : Small (.tuple ds) := fun es e => by cases e; exact h
theorem small_lst {ds : List PyData} : Small (.list ds) := fun es e => by cases e
theorem Wp.wire {szs : List Nat} {r : Nat} {t : List Nat} {fd e : PyData} (_ : Wp szs r t fd) (sm : Small e) (h : tableD (szs.getD r 0 : Nat) e = false) : BadD szs (.tuple [.str "wire", .int (r : Nat), e]) :=
  .wire sm (by show (_ && tableD (szs.getD r 0 : Nat) e) = false; rw [h, Bool.and_false])
theorem Wp.join {szs : List Nat} {r : Nat} {t : List Nat} {fd e : PyData} (_ : Wp szs r t fd) (sm : Small e) (sms : ∀ ds, e = .tuple ds → ∀ d ∈ ds, Small d) (h : joinD (szs.getD r 0 : Nat) (szs.getD r 0 : Nat) e = false) : BadD szs (.tuple [.str "join", .int (r : Nat), .int (r : Nat), e]) :=
  .join sm sms (by show (_ && (_ && joinD (szs.getD r 0 : Nat) (szs.getD r 0 : Nat) e)) = false; rw [h, Bool.and_false, Bool.and_false])
def wl6 (r : Nat) (t : List Nat) (fd : PyData) : List PyData := [.tuple [.str "wire", fd, .tuple (natD t)], .tuple [.str "wire", .int (r : Nat), .tuple (natD t ++ [.int 0])], .tuple [.str "wire", .int (r : Nat), .tuple (natD (t.drop 1))], .tuple [.str "wire", .int (r : Nat), .list (natD t)],
  .tuple [.str "wire", .int (r : Nat), .tuple ([.int 1000] ++ natD (t.drop 1))], .tuple [.str "wire", .int (r : Nat), .tuple ([.none] ++ natD (t.drop 1))], .tuple [.str "wire", .int (r : Nat)], .tuple [.str "wire"]]
theorem wl6_bad {szs : List Nat} {r : Nat} {t : List Nat} {fd : PyData} (w : Wp szs r t fd) : ∀ d ∈ wl6 r t fd, BadD szs d := by
  have tl := w.tl
  have t1 := w.t1
  have dl : (natD (t.drop 1)).length = t.length - 1 := by rw [natD_len, List.length_drop]
  intro d hd
  simp only [wl6, List.mem_cons, List.not_mem_nil, or_false] at hd
  rcases hd with rfl | rfl | rfl | rfl | rfl | rfl | rfl | rfl
  · exact .wire (small_tup (by rw [natD_len]; omega)) (by rw [w.bf, Bool.false_and])
  · exact w.wire (small_tup (by rw [List.length_append, natD_len]; show t.length + 1 ≤ 1000; omega)) (table_len (by rw [List.length_append, natD_len, ← tl]; show ((t.length + 1 : Nat) : Int) ≠ _; omega))
  · exact w.wire (small_tup (by omega)) (table_len (by rw [dl, ← tl]; omega))
  · exact w.wire small_lst rfl
  · exact w.wire (small_tup (by rw [List.length_append, dl]; show 1 + (t.length - 1) ≤ 1000; omega)) (table_item (List.mem_append_left _ (List.mem_singleton.mpr rfl)) (by decide))
  · exact w.wire (small_tup (by rw [List.length_append, dl]; show 1 + (t.length - 1) ≤ 1000; omega)) (table_item (List.mem_append_left _ (List.mem_singleton.mpr rfl)) rfl)
  · exact .wireL (by simp) (by simp)
  · exact .wireL (by decide) (by decide)
def wl7 (r : Nat) (t : List Nat) (fd : PyData) : List PyData := [.tuple [.str "join", .int (r : Nat), fd, .tuple (wideD t)], .tuple [.str "join", fd, .int (r : Nat), .tuple (wideD t)], .tuple [.str "join", .int (r : Nat), .int (r : Nat), .tuple (wideD t ++ [.tuple (natD t)])],
  .tuple [.str "join", .int (r : Nat), .int (r : Nat), .tuple (List.replicate (t.length - 1) (.tuple (natD t)) ++ [.tuple (natD (t.drop 1))])], .tuple [.str "join", .int (r : Nat), .int (r : Nat), .list (wideD t)], .tuple [.str "join", .int (r : Nat), .tuple (wideD t)]]
theorem wl7_bad {szs : List Nat} {r : Nat} {t : List Nat} {fd : PyData} (w : Wp szs r t fd) : ∀ d ∈ wl7 r t fd, BadD szs d := by
  have tl := w.tl
  have t1 := w.t1
  have dl : (natD (t.drop 1)).length = t.length - 1 := by rw [natD_len, List.length_drop]
  have wl : (wideD t).length = t.length := by unfold wideD; rw [List.length_replicate]
  have sw : ∀ ds, PyData.tuple (wideD t) = .tuple ds → ∀ d ∈ ds, Small d := fun ds e d hd => by
    cases e
    rw [List.eq_of_mem_replicate hd]
    exact small_tup (by rw [natD_len]; omega)
  intro d hd
  simp only [wl7, List.mem_cons, List.not_mem_nil, or_false] at hd
  rcases hd with rfl | rfl | rfl | rfl | rfl | rfl
  · exact .join (small_tup (by omega)) sw (by rw [w.bf, Bool.false_and, Bool.and_false])
  · exact .join (small_tup (by omega)) sw (by rw [w.bf, Bool.false_and])
  · refine w.join (small_tup (by rw [List.length_append, wl]; show t.length + 1 ≤ 1000; omega)) (fun ds e d hd => ?_) (join_len (by rw [List.length_append, wl, ← tl]; show ((t.length + 1 : Nat) : Int) ≠ _; omega))
    cases e
    rcases List.mem_append.mp hd with hd | hd
    · exact sw _ rfl d hd
    · rw [List.mem_singleton.mp hd]
      exact small_tup (by rw [natD_len]; omega)
  · refine w.join (small_tup (by rw [List.length_append, List.length_replicate]; show t.length - 1 + 1 ≤ 1000; omega)) (fun ds e d hd => ?_) (join_item (List.mem_append_right _ (List.mem_singleton.mpr rfl)) (table_len (by rw [dl, ← tl]; omega)))
    cases e
    rcases List.mem_append.mp hd with hd | hd
    · rw [List.eq_of_mem_replicate hd]
      exact small_tup (by rw [natD_len]; omega)
    · rw [List.mem_singleton.mp hd]
      exact small_tup (by omega)
  · exact w.join small_lst (fun ds e => by cases e) rfl
  · exact .joinL (by simp) (by simp)
theorem and5 {a b c d e : Bool} (h : a = false ∨ b = false ∨ c = false ∨ d = false ∨ e = false) : (a && (b && (c && (d && e)))) = false := by
  rcases h with rfl | rfl | rfl | rfl | rfl <;> simp
theorem and3 {a b c : Bool} (h : a = false ∨ b = false ∨ c = false) : (a && (b && c)) = false := by
  rcases h with rfl | rfl | rfl <;> simp
def wl8 (r : Nat) (zz mz : Int) (fd : PyData) : List PyData := [.tuple [.str "latch", .int mz, .int 0, .int (r : Nat)], .tuple [.str "latch", .int 1, .int 0, .int (r : Nat)], .tuple [.str "latch", .int (zz + 1), .int (zz + 1), .int (r : Nat)], .tuple [.str "latch", .int (zz + 1), .int (-1), .int (r : Nat)],
  .tuple [.str "latch", .int (zz + 1), .int 0, fd], .tuple [.str "latch", .int 1000, .int 0, .int (r : Nat)], .tuple [.str "latch", .bool true, .int 0, .int (r : Nat)]]
theorem wl8_bad {szs : List Nat} {r : Nat} {t : List Nat} {fd : PyData} (w : Wp szs r t fd) {zz mz : Int} (hz : zz = (t.length : Nat)) (hm : mz = if zz - 2 > 1 then zz - 2 else 1) : ∀ d ∈ wl8 r zz mz fd, BadD szs d := by
  have tl := w.tl
  have t1 := w.t1
  intro d hd
  simp only [wl8, List.mem_cons, List.not_mem_nil, or_false] at hd
  rcases hd with rfl | rfl | rfl | rfl | rfl | rfl | rfl
  · refine .latch (and5 ?_)
    show _ ∨ decide (2 ≤ mz) = false ∨ _ ∨ _ ∨ decide (((szs.getD r 0 : Nat) : Int) ≤ mz + 1) = false
    by_cases h : zz - 2 > 1
    · rw [if_pos h] at hm
      exact .inr (.inr (.inr (.inr (decide_eq_false (by rw [← tl]; omega)))))
    · rw [if_neg h] at hm
      exact .inr (.inl (decide_eq_false (by omega)))
  · exact .latch (and5 (.inr (.inl (by decide))))
  · exact .latch (and5 (.inr (.inr (.inl (decide_eq_false (by show ¬ (0 ≤ zz + 1 ∧ zz + 1 < zz + 1); omega))))))
  · exact .latch (and5 (.inr (.inr (.inl (by show decide (0 ≤ (-1 : Int) ∧ (-1 : Int) < zz + 1) = false; exact decide_eq_false (by omega))))))
  · exact .latch (and5 (.inr (.inr (.inr (.inl w.bf)))))
  · exact .latch (and5 (.inl (by decide)))
  · exact .latch (and5 (.inl rfl))
def wl9 (r : Nat) (xd fd : PyData) : List PyData := [.tuple [.str "counter", xd, .int 0, .int (r : Nat)], .tuple [.str "counter", .int 3, .int 3, .int (r : Nat)], .tuple [.str "counter", .int 2, .int 0, fd], .tuple [.str "counter", .int 2, .int 0], .tuple [.str "const", .int (-1)],
  .tuple [.str "const", .int 1000], .tuple [.str "const", .none], .tuple [.str "const"]]
theorem wl9_bad {szs : List Nat} {r : Nat} {t : List Nat} {fd : PyData} (w : Wp szs r t fd) {xd : PyData} (hx : primeD xd = false) : ∀ d ∈ wl9 r xd fd, BadD szs d := by
  intro d hd
  simp only [wl9, List.mem_cons, List.not_mem_nil, or_false] at hd
  rcases hd with rfl | rfl | rfl | rfl | rfl | rfl | rfl | rfl
  · exact .counter (and3 (.inl hx))
  · exact .counter (and3 (.inr (.inl (by decide))))
  · exact .counter (and3 (.inr (.inr w.bf)))
  · exact .counterL (by decide) (by decide)
  · exact .const (by decide)
  · exact .const (by decide)
  · exact .const rfl
  · exact .constL (by decide) (by decide)
def wl10 (r : Nat) : List PyData := [.tuple [.str "letter", .int 0], .list [.str "letter"], .tuple [.str "Letter"], .tuple [], .none, .int 3, .str "letter", .tuple [.none], .tuple [.str "before", .int (r : Nat)], .tuple [.str "const", .bool true]]
theorem wl10_bad {szs : List Nat} (r : Nat) : ∀ d ∈ wl10 r, BadD szs d := by
  intro d hd
  simp only [wl10, List.mem_cons, List.not_mem_nil, or_false] at hd
  rcases hd with rfl | rfl | rfl | rfl | rfl | rfl | rfl | rfl | rfl | rfl
  · exact .letterL (by decide) (by decide)
  · exact .nt (fun _ e => by cases e)
  · exact .ks (.inl rfl) (by decide)
  · exact .nil
  · exact .nt (fun _ e => by cases e)
  · exact .nt (fun _ e => by cases e)
  · exact .nt (fun _ e => by cases e)
  · exact .kn (by decide)
  · exact .ks (.inr rfl) (by simp)
  · exact .const rfl
/-- what stands while wrong lines are made -/
structure Wr (b l s tp wp : Addr) (G : Hp) (szs t : List Nat) : Prop where
  bag : BagAt b l G
  sz : G s = some (.lst (natL szs))
  tab : G tp = some (.tup (natL t))
  wid : G wp = some (.tup (List.replicate t.length (.ref tp)))
theorem Wr.same {b l s tp wp : Addr} {G G' : Hp} {szs t : List Nat} (h : Wr b l s tp wp G szs t) (e : Same G G') : Wr b l s tp wp G' szs t := ⟨h.bag.same e, e _ _ h.sz, e _ _ h.tab, e _ _ h.wid⟩
theorem nnatB {b l : Addr} {H : Hp} (B : BagAt b l H) {ns : List Nat} (h : H b = some (.lst (natL ns))) : False := by
  obtain ⟨⟨i, r, m, c, zs, hb, _⟩, _⟩ := B
  rw [hb] at h
  have e := Option.some.inj h
  injection e with e
  match ns, e with
  | [], e => simp [natL] at e
  | n :: ns, e => simp [natL] at e
theorem Wr.kp {b l s tp wp : Addr} {G G' : Hp} {szs t : List Nat} (h : Wr b l s tp wp G szs t) (k : Kp b G G') (B : BagAt b l G') : Wr b l s tp wp G' szs t := by
  have tk := TupKeep.kp k h.bag
  exact ⟨B, k _ _ h.sz fun z => nnatB h.bag (by rw [← z]; exact h.sz), tk _ _ h.tab, tk _ _ h.wid⟩


/-! ### a drawn line that cannot stand -/
theorem bag_five {b l : Addr} {H : Hp} (B : BagAt b l H) {xs : List V} (h : H b = some (.lst xs)) : xs.length = 5 := by
  obtain ⟨⟨i, r, m, c, zs, hb, _⟩, _⟩ := B
  rw [hb] at h
  cases h
  rfl
def spWrong (K : PySem.W.Frag) : Sp := fun vs H Q _ => ∃ (b l s : Addr) (szs : List Nat), vs = [.ref b, .ref s] ∧ BagAt b l H ∧ H s = some (.lst (natL szs)) ∧ 1 ≤ szs.length ∧ szs.length ≤ 60 ∧ (∀ i < szs.length, 1 ≤ szs.getD i 0 ∧ szs.getD i 0 ≤ 7) ∧
  ∀ (u : V) (d : PyData) (H' : Hp), Dq K b H' u d → BadD szs d → BagAt b l H' → Kp b H H' → Q u H'
section
variable {P : Program} {w : World} {K : PySem.W.Frag} {mg : Str → Option Value} {base : Heap}
theorem wl10t (T : Env K mg) (cdv : Value) (A : Around) (outer : List PySem.Env) (s₀ : Shared) (H₀ : Hp) (E₀ : XK) (hr : Room 2 (A.deeper (envOfC "_law_wrong_line" (defScope s_wrong_line) s₀.heap.objs.size T.f_wrong_line cdv))) : ∃ tt, PSs (cxOf CX0 P w K mg base N_wrong_line "_law_wrong_line" (defScope s_wrong_line) T.f_wrong_line cdv A outer s₀ H₀ E₀).nox ((defBody s_wrong_line).drop 9) tt ∧
    ∀ (D : Ends) (G : Hp) (b l s tp wp EE : Addr) (szs : List Nat) (r : Nat) (t : List Nat) (zz : Int) (far : V) (fd : PyData) (xs : List V) (ds : List PyData) (y2 y9 : Option V), Wr b l s tp wp G szs t → Wp szs r t fd → (∀ H, Dq K b H far fd) → zz = (t.length : Nat) → G EE = some (.lst xs) → xs.length = 29 → DqAll K b G xs ds → (∀ d ∈ ds, BadD szs d) →
      (∀ (u : V) (d : PyData) (H' : Hp), Dq K b H' u d → BadD szs d → BagAt b l H' → Kp b G H' → D.rt u H') → tt D [some (.ref b), some (.ref s), y2, some (.int (r : Nat)), some (.int zz), some (.ref tp), some (.ref wp), some far, some (.ref EE), y9] G := by
  refine ⟨_, ((pss_cons (ps_set (i := 8) sc_wrong_line.nd rfl (.inl rfl) (pe_op op_cat (pv 8) (pe_lst (pa_cons (pe_tup (pa_cons pe_str (pa_cons pe_int pa_nil))) (pa_cons (pe_lst (pa_cons pe_str pa_nil)) (pa_cons (pe_tup (pa_cons pe_str pa_nil)) (pa_cons (pe_tup pa_nil) (pa_cons pe_non (pa_cons pe_int (pa_cons pe_str (pa_cons (pe_tup (pa_cons pe_non pa_nil)) (pa_cons (pe_tup (pa_cons pe_str (pa_cons (pv 3) pa_nil))) (pa_cons (pe_tup (pa_cons pe_str (pa_cons pe_bl pa_nil))) pa_nil)))))))))))))
      (pss_one (ps_ret (pe_call (ok_of T) (hr.mono (by decide)) (by rfl) T.g_of T.F_of.kp T.b_of .nil pass0 (pa_cons (pv 0) (pa_cons (pv 8) pa_nil))))))), ?_⟩
  rintro ⟨dn, dr, db, dc⟩ G b l s tp wp EE szs r t zz far fd xs ds y2 y9 W w hf hz eE lx dx bx q
  have t7 := w.t1
  walk_at "nn2"
  intro p1 np1
  have e1 : upd G p1 (.tup [.str "letter", .int 0]) p1 = some (.tup [.str "letter", .int 0]) := upd_same
  have s1 : Same G (upd G p1 (.tup [.str "letter", .int 0])) := same_upd np1
  generalize upd G p1 (.tup [.str "letter", .int 0]) = G1 at e1 s1 ⊢
  clear np1
  walk_at "nn2"
  intro p2 np2
  have e2 : upd G1 p2 (.lst [.str "letter"]) p2 = some (.lst [.str "letter"]) := upd_same
  have s2 : Same G1 (upd G1 p2 (.lst [.str "letter"])) := same_upd np2
  have b2 : p2 ≠ b := (W.bag.same s1).nb np2
  generalize upd G1 p2 (.lst [.str "letter"]) = G2 at e2 s2 ⊢
  clear np2
  walk_at "nn2"
  intro p3 np3
  have e3 : upd G2 p3 (.tup [.str "Letter"]) p3 = some (.tup [.str "Letter"]) := upd_same
  have s3 : Same G2 (upd G2 p3 (.tup [.str "Letter"])) := same_upd np3
  generalize upd G2 p3 (.tup [.str "Letter"]) = G3 at e3 s3 ⊢
  clear np3
  walk_at "nn2"
  intro p4 np4
  have e4 : upd G3 p4 (.tup []) p4 = some (.tup []) := upd_same
  have s4 : Same G3 (upd G3 p4 (.tup [])) := same_upd np4
  generalize upd G3 p4 (.tup []) = G4 at e4 s4 ⊢
  clear np4
  walk_at "nn2"
  intro p5 np5
  have e5 : upd G4 p5 (.tup [.non]) p5 = some (.tup [.non]) := upd_same
  have s5 : Same G4 (upd G4 p5 (.tup [.non])) := same_upd np5
  generalize upd G4 p5 (.tup [.non]) = G5 at e5 s5 ⊢
  clear np5
  walk_at "nn2"
  intro p6 np6
  have e6 : upd G5 p6 (.tup [.str "before", .int (r : Nat)]) p6 = some (.tup [.str "before", .int (r : Nat)]) := upd_same
  have s6 : Same G5 (upd G5 p6 (.tup [.str "before", .int (r : Nat)])) := same_upd np6
  generalize upd G5 p6 (.tup [.str "before", .int (r : Nat)]) = G6 at e6 s6 ⊢
  clear np6
  walk_at "nn2"
  intro p7 np7
  have e7 : upd G6 p7 (.tup [.str "const", .bl true]) p7 = some (.tup [.str "const", .bl true]) := upd_same
  have s7 : Same G6 (upd G6 p7 (.tup [.str "const", .bl true])) := same_upd np7
  generalize upd G6 p7 (.tup [.str "const", .bl true]) = G7 at e7 s7 ⊢
  clear np7
  walk_at "nn2"
  intro Da nDa
  have e8 : upd G7 Da (.lst [.ref p1, .ref p2, .ref p3, .ref p4, .non, .int 3, .str "letter", .ref p5, .ref p6, .ref p7]) Da = some (.lst [.ref p1, .ref p2, .ref p3, .ref p4, .non, .int 3, .str "letter", .ref p5, .ref p6, .ref p7]) := upd_same
  have s8 : Same G7 (upd G7 Da (.lst [.ref p1, .ref p2, .ref p3, .ref p4, .non, .int 3, .str "letter", .ref p5, .ref p6, .ref p7])) := same_upd nDa
  generalize upd G7 Da (.lst [.ref p1, .ref p2, .ref p3, .ref p4, .non, .int 3, .str "letter", .ref p5, .ref p6, .ref p7]) = G8 at e8 s8 ⊢
  clear nDa
  have t8 : Same G8 G8 := Same.refl _
  have t7 := s8.trans t8
  have t6 := s7.trans t7
  have t5 := s6.trans t6
  have t4 := s5.trans t5
  have t3 := s4.trans t4
  have t2 := s3.trans t3
  have t1 := s2.trans t2
  have tF := s1.trans t1
  have wD : DqAll K b G8 [.ref p1, .ref p2, .ref p3, .ref p4, .non, .int 3, .str "letter", .ref p5, .ref p6, .ref p7] (wl10 r) := (.cons (.tup (SqT.of (t1 _ _ e1)) (.cons (.str _) (.cons (.int _) .nil))) (.cons (.lst (t2 _ _ e2) b2 (.cons (.str _) .nil)) (.cons (.tup (SqT.of (t3 _ _ e3)) (.cons (.str _) .nil)) (.cons (.tup (SqT.of (t4 _ _ e4)) .nil) (.cons .non (.cons (.int _) (.cons (.str _) (.cons (.tup (SqT.of (t5 _ _ e5)) (.cons .non .nil)) (.cons (.tup (SqT.of (t6 _ _ e6)) (.cons (.str _) (.cons (.int _) .nil))) (.cons (.tup (SqT.of (t7 _ _ e7)) (.cons (.str _) (.cons (.bl _) .nil))) .nil))))))))))
  walk_at "nn2"
  refine ⟨EE, Da, _, _, rfl, rfl, tF _ _ eE, e8, sz (by rw [lx]; show 29 + 10 ≤ 100000; decide), fun E2 nE2 => ?_⟩
  have sE : Same G8 (upd G8 E2 (.lst (xs ++ [.ref p1, .ref p2, .ref p3, .ref p4, .non, .int 3, .str "letter", .ref p5, .ref p6, .ref p7]))) := same_upd nE2
  have SF := tF.trans sE
  have eE2 : upd G8 E2 (.lst (xs ++ [.ref p1, .ref p2, .ref p3, .ref p4, .non, .int 3, .str "letter", .ref p5, .ref p6, .ref p7])) E2 = some (.lst (xs ++ [.ref p1, .ref p2, .ref p3, .ref p4, .non, .int 3, .str "letter", .ref p5, .ref p6, .ref p7])) := upd_same
  have dE := dqa_app (wD.same sE) (dx.same SF)
  have bE : ∀ d ∈ ds ++ wl10 r, BadD szs d := fun d hd => (List.mem_append.mp hd).elim (bx d) (wl10_bad r d)
  have lE : (xs ++ [.ref p1, .ref p2, .ref p3, .ref p4, .non, .int 3, .str "letter", .ref p5, .ref p6, .ref p7] : List V).length = 39 := by rw [List.length_append, lx]; rfl
  have n2 : E2 ≠ b := (W.bag.same tF).nb nE2
  have BE := W.bag.same SF
  clear sE wD dx bx
  generalize (xs ++ [.ref p1, .ref p2, .ref p3, .ref p4, .non, .int 3, .str "letter", .ref p5, .ref p6, .ref p7] : List V) = xE at *
  generalize upd G8 E2 (.lst xE) = GE at *
  walk_at "nn2"
  refine ⟨b, l, _, rfl, BE, .inl ⟨E2, _, rfl, n2, .inl (SqL.of eE2), (by intro z; rw [z] at lE; cases lE), by omega, fun u H1 hu B1 k1 => ?_⟩⟩
  obtain ⟨i, hi⟩ := List.mem_iff_getElem?.mp hu
  obtain ⟨d, hd, dd⟩ := dqa_at dE hi
  exact q u d H1 (dd.kp k1 BE) (bE d (List.mem_of_getElem? hd)) B1 ((Kp.same SF).trans k1)
theorem wl9t (T : Env K mg) (cdv : Value) (A : Around) (outer : List PySem.Env) (s₀ : Shared) (H₀ : Hp) (E₀ : XK) (hr : Room 2 (A.deeper (envOfC "_law_wrong_line" (defScope s_wrong_line) s₀.heap.objs.size T.f_wrong_line cdv))) : ∃ tt, PSs (cxOf CX0 P w K mg base N_wrong_line "_law_wrong_line" (defScope s_wrong_line) T.f_wrong_line cdv A outer s₀ H₀ E₀).nox ((defBody s_wrong_line).drop 8) tt ∧
    ∀ (D : Ends) (G : Hp) (b l s tp wp EE : Addr) (szs : List Nat) (r : Nat) (t : List Nat) (zz : Int) (far : V) (fd : PyData) (xs : List V) (ds : List PyData) (y2 y9 : Option V), Wr b l s tp wp G szs t → Wp szs r t fd → (∀ H, Dq K b H far fd) → zz = (t.length : Nat) → G EE = some (.lst xs) → xs.length = 21 → DqAll K b G xs ds → (∀ d ∈ ds, BadD szs d) →
      (∀ (u : V) (d : PyData) (H' : Hp), Dq K b H' u d → BadD szs d → BagAt b l H' → Kp b G H' → D.rt u H') → tt D [some (.ref b), some (.ref s), y2, some (.int (r : Nat)), some (.int zz), some (.ref tp), some (.ref wp), some far, some (.ref EE), y9] G := by
  obtain ⟨tN, h10, qN⟩ := wl10t (P := P) (w := w) (base := base) T cdv A outer s₀ H₀ E₀ hr
  refine ⟨_, ((pss_cons (ps_set (i := 8) sc_wrong_line.nd rfl (.inl rfl) (pe_op op_cat (pv 8) (pe_lst (pa_cons (pe_tup (pa_cons pe_str (pa_cons (pe_call (ok_of T) (hr.mono (by decide)) (by rfl) T.g_of T.F_of.kp T.b_of .nil pass0 (pa_cons (pv 0) (pa_cons (pe_lst (pa_cons pe_int (pa_cons pe_int (pa_cons pe_int (pa_cons pe_int (pa_cons pe_int (pa_cons pe_int (pa_cons pe_non (pa_cons pe_bl pa_nil))))))))) pa_nil))) (pa_cons pe_int (pa_cons (pv 3) pa_nil))))) (pa_cons (pe_tup (pa_cons pe_str (pa_cons pe_int (pa_cons pe_int (pa_cons (pv 3) pa_nil))))) (pa_cons (pe_tup (pa_cons pe_str (pa_cons pe_int (pa_cons pe_int (pa_cons (pv 7) pa_nil))))) (pa_cons (pe_tup (pa_cons pe_str (pa_cons pe_int (pa_cons pe_int pa_nil)))) (pa_cons (pe_tup (pa_cons pe_str (pa_cons (pe_un un_neg pe_int) pa_nil))) (pa_cons (pe_tup (pa_cons pe_str (pa_cons pe_int pa_nil))) (pa_cons (pe_tup (pa_cons pe_str (pa_cons pe_non pa_nil))) (pa_cons (pe_tup (pa_cons pe_str pa_nil)) pa_nil)))))))))))
      h10)), ?_⟩
  rintro ⟨dn, dr, db, dc⟩ G b l s tp wp EE szs r t zz far fd xs ds y2 y9 W w hf hz eE lx dx bx q
  have t7 := w.t1
  walk_at "nn2"
  intro Dx nDx
  have sX : Same G (upd G Dx (.lst [.int 1, .int 4, .int 9, .int 0, .int 101, .int 91, .non, .bl true])) := same_upd nDx
  refine ⟨b, l, _, rfl, W.bag.same sX, .inl ⟨Dx, _, rfl, W.bag.nb nDx, .inl (SqL.of upd_same), (by intro z; cases z), (by show 8 ≤ 100000; decide), fun xv H7 hv B7 k7 => ?_⟩⟩
  obtain ⟨xd, hxd, bxd⟩ : ∃ xd : PyData, (∀ G, Dq K b G xv xd) ∧ primeD xd = false := by
    simp only [List.mem_cons, List.not_mem_nil, or_false] at hv
    rcases hv with rfl | rfl | rfl | rfl | rfl | rfl | rfl | rfl
    · exact ⟨.int 1, fun _ => .int _, by decide⟩
    · exact ⟨.int 4, fun _ => .int _, by decide⟩
    · exact ⟨.int 9, fun _ => .int _, by decide⟩
    · exact ⟨.int 0, fun _ => .int _, by decide⟩
    · exact ⟨.int 101, fun _ => .int _, by decide⟩
    · exact ⟨.int 91, fun _ => .int _, by decide⟩
    · exact ⟨.none, fun _ => .non, rfl⟩
    · exact ⟨.bool true, fun _ => .bl _, rfl⟩
  have eb : EE ≠ b := fun z => by
    rw [z] at eE
    have := bag_five W.bag eE
    omega
  have k0 := (Kp.same (b := b) sX).trans k7
  have W7 := W.kp k0 B7
  have eE7 := k0 _ _ eE eb
  have dx7 := dx.kp k0 W.bag
  replace q := fun u d H' h1 h2 h3 h4 => q u d H' h1 h2 h3 (k0.trans h4)
  clear W eE dx sX k7 hv nDx k0
  rename Wr b l s tp wp H7 szs t => W
  rename H7 EE = some (.lst xs) => eE
  rename DqAll K b H7 xs ds => dx
  walk_at "nn2"
  intro p1 np1
  have e1 : upd H7 p1 (.tup [.str "counter", xv, .int 0, .int (r : Nat)]) p1 = some (.tup [.str "counter", xv, .int 0, .int (r : Nat)]) := upd_same
  have s1 : Same H7 (upd H7 p1 (.tup [.str "counter", xv, .int 0, .int (r : Nat)])) := same_upd np1
  generalize upd H7 p1 (.tup [.str "counter", xv, .int 0, .int (r : Nat)]) = G1 at e1 s1 ⊢
  clear np1
  walk_at "nn2"
  intro p2 np2
  have e2 : upd G1 p2 (.tup [.str "counter", .int 3, .int 3, .int (r : Nat)]) p2 = some (.tup [.str "counter", .int 3, .int 3, .int (r : Nat)]) := upd_same
  have s2 : Same G1 (upd G1 p2 (.tup [.str "counter", .int 3, .int 3, .int (r : Nat)])) := same_upd np2
  generalize upd G1 p2 (.tup [.str "counter", .int 3, .int 3, .int (r : Nat)]) = G2 at e2 s2 ⊢
  clear np2
  walk_at "nn2"
  intro p3 np3
  have e3 : upd G2 p3 (.tup [.str "counter", .int 2, .int 0, far]) p3 = some (.tup [.str "counter", .int 2, .int 0, far]) := upd_same
  have s3 : Same G2 (upd G2 p3 (.tup [.str "counter", .int 2, .int 0, far])) := same_upd np3
  generalize upd G2 p3 (.tup [.str "counter", .int 2, .int 0, far]) = G3 at e3 s3 ⊢
  clear np3
  walk_at "nn2"
  intro p4 np4
  have e4 : upd G3 p4 (.tup [.str "counter", .int 2, .int 0]) p4 = some (.tup [.str "counter", .int 2, .int 0]) := upd_same
  have s4 : Same G3 (upd G3 p4 (.tup [.str "counter", .int 2, .int 0])) := same_upd np4
  generalize upd G3 p4 (.tup [.str "counter", .int 2, .int 0]) = G4 at e4 s4 ⊢
  clear np4
  walk_at "nn2"
  intro p5 np5
  have e5 : upd G4 p5 (.tup [.str "const", .int (-1)]) p5 = some (.tup [.str "const", .int (-1)]) := upd_same
  have s5 : Same G4 (upd G4 p5 (.tup [.str "const", .int (-1)])) := same_upd np5
  generalize upd G4 p5 (.tup [.str "const", .int (-1)]) = G5 at e5 s5 ⊢
  clear np5
  walk_at "nn2"
  intro p6 np6
  have e6 : upd G5 p6 (.tup [.str "const", .int 1000]) p6 = some (.tup [.str "const", .int 1000]) := upd_same
  have s6 : Same G5 (upd G5 p6 (.tup [.str "const", .int 1000])) := same_upd np6
  generalize upd G5 p6 (.tup [.str "const", .int 1000]) = G6 at e6 s6 ⊢
  clear np6
  walk_at "nn2"
  intro p7 np7
  have e7 : upd G6 p7 (.tup [.str "const", .non]) p7 = some (.tup [.str "const", .non]) := upd_same
  have s7 : Same G6 (upd G6 p7 (.tup [.str "const", .non])) := same_upd np7
  generalize upd G6 p7 (.tup [.str "const", .non]) = G7 at e7 s7 ⊢
  clear np7
  walk_at "nn2"
  intro p8 np8
  have e8 : upd G7 p8 (.tup [.str "const"]) p8 = some (.tup [.str "const"]) := upd_same
  have s8 : Same G7 (upd G7 p8 (.tup [.str "const"])) := same_upd np8
  generalize upd G7 p8 (.tup [.str "const"]) = G8 at e8 s8 ⊢
  clear np8
  walk_at "nn2"
  intro Da nDa
  have e9 : upd G8 Da (.lst [.ref p1, .ref p2, .ref p3, .ref p4, .ref p5, .ref p6, .ref p7, .ref p8]) Da = some (.lst [.ref p1, .ref p2, .ref p3, .ref p4, .ref p5, .ref p6, .ref p7, .ref p8]) := upd_same
  have s9 : Same G8 (upd G8 Da (.lst [.ref p1, .ref p2, .ref p3, .ref p4, .ref p5, .ref p6, .ref p7, .ref p8])) := same_upd nDa
  generalize upd G8 Da (.lst [.ref p1, .ref p2, .ref p3, .ref p4, .ref p5, .ref p6, .ref p7, .ref p8]) = G9 at e9 s9 ⊢
  clear nDa
  have t9 : Same G9 G9 := Same.refl _
  have t8 := s9.trans t9
  have t7 := s8.trans t8
  have t6 := s7.trans t7
  have t5 := s6.trans t6
  have t4 := s5.trans t5
  have t3 := s4.trans t4
  have t2 := s3.trans t3
  have t1 := s2.trans t2
  have tF := s1.trans t1
  have wD : DqAll K b G9 [.ref p1, .ref p2, .ref p3, .ref p4, .ref p5, .ref p6, .ref p7, .ref p8] (wl9 r xd fd) := (.cons (.tup (SqT.of (t1 _ _ e1)) (.cons (.str _) (.cons (hxd _) (.cons (.int _) (.cons (.int _) .nil))))) (.cons (.tup (SqT.of (t2 _ _ e2)) (.cons (.str _) (.cons (.int _) (.cons (.int _) (.cons (.int _) .nil))))) (.cons (.tup (SqT.of (t3 _ _ e3)) (.cons (.str _) (.cons (.int _) (.cons (.int _) (.cons (hf _) .nil))))) (.cons (.tup (SqT.of (t4 _ _ e4)) (.cons (.str _) (.cons (.int _) (.cons (.int _) .nil)))) (.cons (.tup (SqT.of (t5 _ _ e5)) (.cons (.str _) (.cons (.int _) .nil))) (.cons (.tup (SqT.of (t6 _ _ e6)) (.cons (.str _) (.cons (.int _) .nil))) (.cons (.tup (SqT.of (t7 _ _ e7)) (.cons (.str _) (.cons .non .nil))) (.cons (.tup (SqT.of (t8 _ _ e8)) (.cons (.str _) .nil)) .nil))))))))
  walk_at "nn2"
  refine ⟨EE, Da, _, _, rfl, rfl, tF _ _ eE, e9, sz (by rw [lx]; show 21 + 8 ≤ 100000; decide), fun E2 nE2 => ?_⟩
  have sE : Same G9 (upd G9 E2 (.lst (xs ++ [.ref p1, .ref p2, .ref p3, .ref p4, .ref p5, .ref p6, .ref p7, .ref p8]))) := same_upd nE2
  have SF := tF.trans sE
  walk_at "nn2"
  exact qN _ _ b l s tp wp E2 szs r t zz far fd _ _ _ _ (W.same SF) w hf hz upd_same (by rw [List.length_append, lx]; rfl) (dqa_app (wD.same sE) (dx.same SF)) (fun d hd => (List.mem_append.mp hd).elim (bx d) (wl9_bad w bxd d)) fun u d H' h1 h2 h3 h4 => q u d H' h1 h2 h3 ((Kp.same SF).trans h4)
theorem wl8t (T : Env K mg) (cdv : Value) (A : Around) (outer : List PySem.Env) (s₀ : Shared) (H₀ : Hp) (E₀ : XK) (hr : Room 2 (A.deeper (envOfC "_law_wrong_line" (defScope s_wrong_line) s₀.heap.objs.size T.f_wrong_line cdv))) : ∃ tt, PSs (cxOf CX0 P w K mg base N_wrong_line "_law_wrong_line" (defScope s_wrong_line) T.f_wrong_line cdv A outer s₀ H₀ E₀).nox ((defBody s_wrong_line).drop 7) tt ∧
    ∀ (D : Ends) (G : Hp) (b l s tp wp EE : Addr) (szs : List Nat) (r : Nat) (t : List Nat) (zz : Int) (far : V) (fd : PyData) (xs : List V) (ds : List PyData) (y2 y9 : Option V), Wr b l s tp wp G szs t → Wp szs r t fd → (∀ H, Dq K b H far fd) → zz = (t.length : Nat) → G EE = some (.lst xs) → xs.length = 14 → DqAll K b G xs ds → (∀ d ∈ ds, BadD szs d) →
      (∀ (u : V) (d : PyData) (H' : Hp), Dq K b H' u d → BadD szs d → BagAt b l H' → Kp b G H' → D.rt u H') → tt D [some (.ref b), some (.ref s), y2, some (.int (r : Nat)), some (.int zz), some (.ref tp), some (.ref wp), some far, some (.ref EE), y9] G := by
  obtain ⟨tN, h9, qN⟩ := wl9t (P := P) (w := w) (base := base) T cdv A outer s₀ H₀ E₀ hr
  refine ⟨_, ((pss_cons (ps_set (i := 8) sc_wrong_line.nd rfl (.inl rfl) (pe_op op_cat (pv 8) (pe_lst (pa_cons (pe_tup (pa_cons pe_str (pa_cons (pe_callB (call_max2 rfl) (by rfl) T.z_max (by decide +kernel) (pa_cons pe_int (pa_cons (pe_op op_sub (pv 4) pe_int) pa_nil))) (pa_cons pe_int (pa_cons (pv 3) pa_nil))))) (pa_cons (pe_tup (pa_cons pe_str (pa_cons pe_int (pa_cons pe_int (pa_cons (pv 3) pa_nil))))) (pa_cons (pe_tup (pa_cons pe_str (pa_cons (pe_op op_add (pv 4) pe_int) (pa_cons (pe_op op_add (pv 4) pe_int) (pa_cons (pv 3) pa_nil))))) (pa_cons (pe_tup (pa_cons pe_str (pa_cons (pe_op op_add (pv 4) pe_int) (pa_cons (pe_un un_neg pe_int) (pa_cons (pv 3) pa_nil))))) (pa_cons (pe_tup (pa_cons pe_str (pa_cons (pe_op op_add (pv 4) pe_int) (pa_cons pe_int (pa_cons (pv 7) pa_nil))))) (pa_cons (pe_tup (pa_cons pe_str (pa_cons pe_int (pa_cons pe_int (pa_cons (pv 3) pa_nil))))) (pa_cons (pe_tup (pa_cons pe_str (pa_cons pe_bl (pa_cons pe_int (pa_cons (pv 3) pa_nil))))) pa_nil))))))))))
      h9)), ?_⟩
  rintro ⟨dn, dr, db, dc⟩ G b l s tp wp EE szs r t zz far fd xs ds y2 y9 W w hf hz eE lx dx bx q
  have t7 := w.t1
  repeat (first | refine ⟨_, _, (rfl : [V.int _, V.int _] = [V.int _, V.int _]), ?_⟩ | walk_at "n2")
  obtain ⟨mz, hmz⟩ : ∃ mz : Int, mz = if zz - 2 > 1 then zz - 2 else 1 := ⟨_, rfl⟩
  have m1 : 1 ≤ mz := by rw [hmz]; split <;> omega
  rw [← hmz]
  walk_at "nn2"
  intro p1 np1
  have e1 : upd G p1 (.tup [.str "latch", .int (mz), .int 0, .int (r : Nat)]) p1 = some (.tup [.str "latch", .int (mz), .int 0, .int (r : Nat)]) := upd_same
  have s1 : Same G (upd G p1 (.tup [.str "latch", .int (mz), .int 0, .int (r : Nat)])) := same_upd np1
  generalize upd G p1 (.tup [.str "latch", .int (mz), .int 0, .int (r : Nat)]) = G1 at e1 s1 ⊢
  clear np1
  walk_at "nn2"
  intro p2 np2
  have e2 : upd G1 p2 (.tup [.str "latch", .int 1, .int 0, .int (r : Nat)]) p2 = some (.tup [.str "latch", .int 1, .int 0, .int (r : Nat)]) := upd_same
  have s2 : Same G1 (upd G1 p2 (.tup [.str "latch", .int 1, .int 0, .int (r : Nat)])) := same_upd np2
  generalize upd G1 p2 (.tup [.str "latch", .int 1, .int 0, .int (r : Nat)]) = G2 at e2 s2 ⊢
  clear np2
  walk_at "nn2"
  intro p3 np3
  have e3 : upd G2 p3 (.tup [.str "latch", .int (zz + 1), .int (zz + 1), .int (r : Nat)]) p3 = some (.tup [.str "latch", .int (zz + 1), .int (zz + 1), .int (r : Nat)]) := upd_same
  have s3 : Same G2 (upd G2 p3 (.tup [.str "latch", .int (zz + 1), .int (zz + 1), .int (r : Nat)])) := same_upd np3
  generalize upd G2 p3 (.tup [.str "latch", .int (zz + 1), .int (zz + 1), .int (r : Nat)]) = G3 at e3 s3 ⊢
  clear np3
  walk_at "nn2"
  intro p4 np4
  have e4 : upd G3 p4 (.tup [.str "latch", .int (zz + 1), .int (-1), .int (r : Nat)]) p4 = some (.tup [.str "latch", .int (zz + 1), .int (-1), .int (r : Nat)]) := upd_same
  have s4 : Same G3 (upd G3 p4 (.tup [.str "latch", .int (zz + 1), .int (-1), .int (r : Nat)])) := same_upd np4
  generalize upd G3 p4 (.tup [.str "latch", .int (zz + 1), .int (-1), .int (r : Nat)]) = G4 at e4 s4 ⊢
  clear np4
  walk_at "nn2"
  intro p5 np5
  have e5 : upd G4 p5 (.tup [.str "latch", .int (zz + 1), .int 0, far]) p5 = some (.tup [.str "latch", .int (zz + 1), .int 0, far]) := upd_same
  have s5 : Same G4 (upd G4 p5 (.tup [.str "latch", .int (zz + 1), .int 0, far])) := same_upd np5
  generalize upd G4 p5 (.tup [.str "latch", .int (zz + 1), .int 0, far]) = G5 at e5 s5 ⊢
  clear np5
  walk_at "nn2"
  intro p6 np6
  have e6 : upd G5 p6 (.tup [.str "latch", .int 1000, .int 0, .int (r : Nat)]) p6 = some (.tup [.str "latch", .int 1000, .int 0, .int (r : Nat)]) := upd_same
  have s6 : Same G5 (upd G5 p6 (.tup [.str "latch", .int 1000, .int 0, .int (r : Nat)])) := same_upd np6
  generalize upd G5 p6 (.tup [.str "latch", .int 1000, .int 0, .int (r : Nat)]) = G6 at e6 s6 ⊢
  clear np6
  walk_at "nn2"
  intro p7 np7
  have e7 : upd G6 p7 (.tup [.str "latch", .bl true, .int 0, .int (r : Nat)]) p7 = some (.tup [.str "latch", .bl true, .int 0, .int (r : Nat)]) := upd_same
  have s7 : Same G6 (upd G6 p7 (.tup [.str "latch", .bl true, .int 0, .int (r : Nat)])) := same_upd np7
  generalize upd G6 p7 (.tup [.str "latch", .bl true, .int 0, .int (r : Nat)]) = G7 at e7 s7 ⊢
  clear np7
  walk_at "nn2"
  intro Da nDa
  have e8 : upd G7 Da (.lst [.ref p1, .ref p2, .ref p3, .ref p4, .ref p5, .ref p6, .ref p7]) Da = some (.lst [.ref p1, .ref p2, .ref p3, .ref p4, .ref p5, .ref p6, .ref p7]) := upd_same
  have s8 : Same G7 (upd G7 Da (.lst [.ref p1, .ref p2, .ref p3, .ref p4, .ref p5, .ref p6, .ref p7])) := same_upd nDa
  generalize upd G7 Da (.lst [.ref p1, .ref p2, .ref p3, .ref p4, .ref p5, .ref p6, .ref p7]) = G8 at e8 s8 ⊢
  clear nDa
  have t8 : Same G8 G8 := Same.refl _
  have t7 := s8.trans t8
  have t6 := s7.trans t7
  have t5 := s6.trans t6
  have t4 := s5.trans t5
  have t3 := s4.trans t4
  have t2 := s3.trans t3
  have t1 := s2.trans t2
  have tF := s1.trans t1
  have wD : DqAll K b G8 [.ref p1, .ref p2, .ref p3, .ref p4, .ref p5, .ref p6, .ref p7] (wl8 r zz mz fd) := (.cons (.tup (SqT.of (t1 _ _ e1)) (.cons (.str _) (.cons (.int _) (.cons (.int _) (.cons (.int _) .nil))))) (.cons (.tup (SqT.of (t2 _ _ e2)) (.cons (.str _) (.cons (.int _) (.cons (.int _) (.cons (.int _) .nil))))) (.cons (.tup (SqT.of (t3 _ _ e3)) (.cons (.str _) (.cons (.int _) (.cons (.int _) (.cons (.int _) .nil))))) (.cons (.tup (SqT.of (t4 _ _ e4)) (.cons (.str _) (.cons (.int _) (.cons (.int _) (.cons (.int _) .nil))))) (.cons (.tup (SqT.of (t5 _ _ e5)) (.cons (.str _) (.cons (.int _) (.cons (.int _) (.cons (hf _) .nil))))) (.cons (.tup (SqT.of (t6 _ _ e6)) (.cons (.str _) (.cons (.int _) (.cons (.int _) (.cons (.int _) .nil))))) (.cons (.tup (SqT.of (t7 _ _ e7)) (.cons (.str _) (.cons (.bl _) (.cons (.int _) (.cons (.int _) .nil))))) .nil)))))))
  walk_at "nn2"
  refine ⟨EE, Da, _, _, rfl, rfl, tF _ _ eE, e8, sz (by rw [lx]; show 14 + 7 ≤ 100000; decide), fun E2 nE2 => ?_⟩
  have sE : Same G8 (upd G8 E2 (.lst (xs ++ [.ref p1, .ref p2, .ref p3, .ref p4, .ref p5, .ref p6, .ref p7]))) := same_upd nE2
  have SF := tF.trans sE
  walk_at "nn2"
  exact qN _ _ b l s tp wp E2 szs r t zz far fd _ _ _ _ (W.same SF) w hf hz upd_same (by rw [List.length_append, lx]; rfl) (dqa_app (wD.same sE) (dx.same SF)) (fun d hd => (List.mem_append.mp hd).elim (bx d) (wl8_bad w hz hmz d)) fun u d H' h1 h2 h3 h4 => q u d H' h1 h2 h3 ((Kp.same SF).trans h4)
theorem wl7t (T : Env K mg) (cdv : Value) (A : Around) (outer : List PySem.Env) (s₀ : Shared) (H₀ : Hp) (E₀ : XK) (hr : Room 2 (A.deeper (envOfC "_law_wrong_line" (defScope s_wrong_line) s₀.heap.objs.size T.f_wrong_line cdv))) : ∃ tt, PSs (cxOf CX0 P w K mg base N_wrong_line "_law_wrong_line" (defScope s_wrong_line) T.f_wrong_line cdv A outer s₀ H₀ E₀).nox ((defBody s_wrong_line).drop 6) tt ∧
    ∀ (D : Ends) (G : Hp) (b l s tp wp EE : Addr) (szs : List Nat) (r : Nat) (t : List Nat) (zz : Int) (far : V) (fd : PyData) (xs : List V) (ds : List PyData) (y2 y9 : Option V), Wr b l s tp wp G szs t → Wp szs r t fd → (∀ H, Dq K b H far fd) → zz = (t.length : Nat) → G EE = some (.lst xs) → xs.length = 8 → DqAll K b G xs ds → (∀ d ∈ ds, BadD szs d) →
      (∀ (u : V) (d : PyData) (H' : Hp), Dq K b H' u d → BadD szs d → BagAt b l H' → Kp b G H' → D.rt u H') → tt D [some (.ref b), some (.ref s), y2, some (.int (r : Nat)), some (.int zz), some (.ref tp), some (.ref wp), some far, some (.ref EE), y9] G := by
  obtain ⟨tN, h8, qN⟩ := wl8t (P := P) (w := w) (base := base) T cdv A outer s₀ H₀ E₀ hr
  refine ⟨_, ((pss_cons (ps_set (i := 8) sc_wrong_line.nd rfl (.inl rfl) (pe_op op_cat (pv 8) (pe_lst (pa_cons (pe_tup (pa_cons pe_str (pa_cons (pv 3) (pa_cons (pv 7) (pa_cons (pv 6) pa_nil))))) (pa_cons (pe_tup (pa_cons pe_str (pa_cons (pv 7) (pa_cons (pv 3) (pa_cons (pv 6) pa_nil))))) (pa_cons (pe_tup (pa_cons pe_str (pa_cons (pv 3) (pa_cons (pv 3) (pa_cons (pe_op op_catA (pv 6) (pe_tup (pa_cons (pv 5) pa_nil))) pa_nil))))) (pa_cons (pe_tup (pa_cons pe_str (pa_cons (pv 3) (pa_cons (pv 3) (pa_cons (pe_op op_catA (pe_slice sl_tupA (pv 6) (po_some pe_int) po_none) (pe_tup (pa_cons (pe_slice sl_tupA (pv 5) (po_some pe_int) po_none) pa_nil))) pa_nil))))) (pa_cons (pe_tup (pa_cons pe_str (pa_cons (pv 3) (pa_cons (pv 3) (pa_cons (pe_callTy call_list_of (by rfl) T.z_list (by decide +kernel) (pa_cons (pv 6) pa_nil)) pa_nil))))) (pa_cons (pe_tup (pa_cons pe_str (pa_cons (pv 3) (pa_cons (pv 6) pa_nil)))) pa_nil)))))))))
      h8)), ?_⟩
  rintro ⟨dn, dr, db, dc⟩ G b l s tp wp EE szs r t zz far fd xs ds y2 y9 W w hf hz eE lx dx bx q
  have t7 := w.t1
  walk_at "nn2"
  intro p1 np1
  have e1 : upd G p1 (.tup [.str "join", .int (r : Nat), far, .ref wp]) p1 = some (.tup [.str "join", .int (r : Nat), far, .ref wp]) := upd_same
  have s1 : Same G (upd G p1 (.tup [.str "join", .int (r : Nat), far, .ref wp])) := same_upd np1
  generalize upd G p1 (.tup [.str "join", .int (r : Nat), far, .ref wp]) = G1 at e1 s1 ⊢
  clear np1
  walk_at "nn2"
  intro p2 np2
  have e2 : upd G1 p2 (.tup [.str "join", far, .int (r : Nat), .ref wp]) p2 = some (.tup [.str "join", far, .int (r : Nat), .ref wp]) := upd_same
  have s2 : Same G1 (upd G1 p2 (.tup [.str "join", far, .int (r : Nat), .ref wp])) := same_upd np2
  generalize upd G1 p2 (.tup [.str "join", far, .int (r : Nat), .ref wp]) = G2 at e2 s2 ⊢
  clear np2
  walk_at "nn2"
  intro p3 np3
  have e3 : upd G2 p3 (.tup [.ref tp]) p3 = some (.tup [.ref tp]) := upd_same
  have s3 : Same G2 (upd G2 p3 (.tup [.ref tp])) := same_upd np3
  generalize upd G2 p3 (.tup [.ref tp]) = G3 at e3 s3 ⊢
  clear np3
  walk_at "nn2"
  refine catA_all (SqT.of ((s1.trans (s2.trans s3)) _ _ W.wid)) (SqT.of ((Same.refl _) _ _ e3)) (by simp [natL_len]; omega) fun p4 G4 s4 e4 => ?_
  walk_at "nn2"
  intro p5 np5
  have e5 : upd G4 p5 (.tup [.str "join", .int (r : Nat), .int (r : Nat), .ref p4]) p5 = some (.tup [.str "join", .int (r : Nat), .int (r : Nat), .ref p4]) := upd_same
  have s5 : Same G4 (upd G4 p5 (.tup [.str "join", .int (r : Nat), .int (r : Nat), .ref p4])) := same_upd np5
  generalize upd G4 p5 (.tup [.str "join", .int (r : Nat), .int (r : Nat), .ref p4]) = G5 at e5 s5 ⊢
  clear np5
  walk_at "nn2"
  refine no_sl (slA_all (SqT.of ((s1.trans (s2.trans (s3.trans (s4.trans s5)))) _ _ W.wid)) fun p6 G6 s6 e6 => ?_)
  rw [cut_rep] at e6
  walk_at "nn2"
  refine no_sl (slA_all (SqT.of ((s1.trans (s2.trans (s3.trans (s4.trans (s5.trans s6))))) _ _ W.tab)) fun p7 G7 s7 e7 => ?_)
  rw [cut_nat] at e7
  walk_at "nn2"
  intro p8 np8
  have e8 : upd G7 p8 (.tup [.ref p7]) p8 = some (.tup [.ref p7]) := upd_same
  have s8 : Same G7 (upd G7 p8 (.tup [.ref p7])) := same_upd np8
  generalize upd G7 p8 (.tup [.ref p7]) = G8 at e8 s8 ⊢
  clear np8
  walk_at "nn2"
  refine catA_all (same_tup (s7.trans s8) e6) (SqT.of ((Same.refl _) _ _ e8)) (by simp [natL_len]; omega) fun p9 G9 s9 e9 => ?_
  walk_at "nn2"
  intro p10 np10
  have e10 : upd G9 p10 (.tup [.str "join", .int (r : Nat), .int (r : Nat), .ref p9]) p10 = some (.tup [.str "join", .int (r : Nat), .int (r : Nat), .ref p9]) := upd_same
  have s10 : Same G9 (upd G9 p10 (.tup [.str "join", .int (r : Nat), .int (r : Nat), .ref p9])) := same_upd np10
  generalize upd G9 p10 (.tup [.str "join", .int (r : Nat), .int (r : Nat), .ref p9]) = G10 at e10 s10 ⊢
  clear np10
  walk_at "nn2"
  refine ⟨wp, _, rfl, .inr (SqT.of ((s1.trans (s2.trans (s3.trans (s4.trans (s5.trans (s6.trans (s7.trans (s8.trans (s9.trans s10))))))))) _ _ W.wid)), fun p11 np11 => ?_⟩
  have e11 : upd G10 p11 (.lst (List.replicate t.length (.ref tp))) p11 = some (.lst (List.replicate t.length (.ref tp))) := upd_same
  have s11 : Same G10 (upd G10 p11 (.lst (List.replicate t.length (.ref tp)))) := same_upd np11
  have b11 : p11 ≠ b := (W.bag.same (s1.trans (s2.trans (s3.trans (s4.trans (s5.trans (s6.trans (s7.trans (s8.trans (s9.trans s10)))))))))).nb np11
  generalize upd G10 p11 (.lst (List.replicate t.length (.ref tp))) = G11 at e11 s11 ⊢
  clear np11
  walk_at "nn2"
  intro p12 np12
  have e12 : upd G11 p12 (.tup [.str "join", .int (r : Nat), .int (r : Nat), .ref p11]) p12 = some (.tup [.str "join", .int (r : Nat), .int (r : Nat), .ref p11]) := upd_same
  have s12 : Same G11 (upd G11 p12 (.tup [.str "join", .int (r : Nat), .int (r : Nat), .ref p11])) := same_upd np12
  generalize upd G11 p12 (.tup [.str "join", .int (r : Nat), .int (r : Nat), .ref p11]) = G12 at e12 s12 ⊢
  clear np12
  walk_at "nn2"
  intro p13 np13
  have e13 : upd G12 p13 (.tup [.str "join", .int (r : Nat), .ref wp]) p13 = some (.tup [.str "join", .int (r : Nat), .ref wp]) := upd_same
  have s13 : Same G12 (upd G12 p13 (.tup [.str "join", .int (r : Nat), .ref wp])) := same_upd np13
  generalize upd G12 p13 (.tup [.str "join", .int (r : Nat), .ref wp]) = G13 at e13 s13 ⊢
  clear np13
  walk_at "nn2"
  intro Da nDa
  have e14 : upd G13 Da (.lst [.ref p1, .ref p2, .ref p5, .ref p10, .ref p12, .ref p13]) Da = some (.lst [.ref p1, .ref p2, .ref p5, .ref p10, .ref p12, .ref p13]) := upd_same
  have s14 : Same G13 (upd G13 Da (.lst [.ref p1, .ref p2, .ref p5, .ref p10, .ref p12, .ref p13])) := same_upd nDa
  generalize upd G13 Da (.lst [.ref p1, .ref p2, .ref p5, .ref p10, .ref p12, .ref p13]) = G14 at e14 s14 ⊢
  clear nDa
  have t14 : Same G14 G14 := Same.refl _
  have t13 := s14.trans t14
  have t12 := s13.trans t13
  have t11 := s12.trans t12
  have t10 := s11.trans t11
  have t9 := s10.trans t10
  have t8 := s9.trans t9
  have t7 := s8.trans t8
  have t6 := s7.trans t7
  have t5 := s6.trans t6
  have t4 := s5.trans t5
  have t3 := s4.trans t4
  have t2 := s3.trans t3
  have t1 := s2.trans t2
  have tF := s1.trans t1
  have wD : DqAll K b G14 [.ref p1, .ref p2, .ref p5, .ref p10, .ref p12, .ref p13] (wl7 r t fd) := (.cons (.tup (SqT.of (t1 _ _ e1)) (.cons (.str _) (.cons (.int _) (.cons (hf _) (.cons (.tup (SqT.of (tF _ _ W.wid)) (rep_dq (.tup (SqT.of (tF _ _ W.tab)) (natD_dq t)) _)) .nil))))) (.cons (.tup (SqT.of (t2 _ _ e2)) (.cons (.str _) (.cons (hf _) (.cons (.int _) (.cons (.tup (SqT.of (tF _ _ W.wid)) (rep_dq (.tup (SqT.of (tF _ _ W.tab)) (natD_dq t)) _)) .nil))))) (.cons (.tup (SqT.of (t5 _ _ e5)) (.cons (.str _) (.cons (.int _) (.cons (.int _) (.cons (.tup (same_tup t4 e4) (dqa_app (.cons (.tup (SqT.of (tF _ _ W.tab)) (natD_dq t)) .nil) (rep_dq (.tup (SqT.of (tF _ _ W.tab)) (natD_dq t)) _))) .nil))))) (.cons (.tup (SqT.of (t10 _ _ e10)) (.cons (.str _) (.cons (.int _) (.cons (.int _) (.cons (.tup (same_tup t9 e9) (dqa_app (.cons (.tup (same_tup t7 e7) (natD_dq (t.drop 1))) .nil) (rep_dq (.tup (SqT.of (tF _ _ W.tab)) (natD_dq t)) _))) .nil))))) (.cons (.tup (SqT.of (t12 _ _ e12)) (.cons (.str _) (.cons (.int _) (.cons (.int _) (.cons (.lst (t11 _ _ e11) b11 (rep_dq (.tup (SqT.of (tF _ _ W.tab)) (natD_dq t)) _)) .nil))))) (.cons (.tup (SqT.of (t13 _ _ e13)) (.cons (.str _) (.cons (.int _) (.cons (.tup (SqT.of (tF _ _ W.wid)) (rep_dq (.tup (SqT.of (tF _ _ W.tab)) (natD_dq t)) _)) .nil)))) .nil))))))
  walk_at "nn2"
  refine ⟨EE, Da, _, _, rfl, rfl, tF _ _ eE, e14, sz (by rw [lx]; show 8 + 6 ≤ 100000; decide), fun E2 nE2 => ?_⟩
  have sE : Same G14 (upd G14 E2 (.lst (xs ++ [.ref p1, .ref p2, .ref p5, .ref p10, .ref p12, .ref p13]))) := same_upd nE2
  have SF := tF.trans sE
  walk_at "nn2"
  exact qN _ _ b l s tp wp E2 szs r t zz far fd _ _ _ _ (W.same SF) w hf hz upd_same (by rw [List.length_append, lx]; rfl) (dqa_app (wD.same sE) (dx.same SF)) (fun d hd => (List.mem_append.mp hd).elim (bx d) (wl7_bad w d)) fun u d H' h1 h2 h3 h4 => q u d H' h1 h2 h3 ((Kp.same SF).trans h4)
theorem wl6t (T : Env K mg) (cdv : Value) (A : Around) (outer : List PySem.Env) (s₀ : Shared) (H₀ : Hp) (E₀ : XK) (hr : Room 2 (A.deeper (envOfC "_law_wrong_line" (defScope s_wrong_line) s₀.heap.objs.size T.f_wrong_line cdv))) : ∃ tt, PSs (cxOf CX0 P w K mg base N_wrong_line "_law_wrong_line" (defScope s_wrong_line) T.f_wrong_line cdv A outer s₀ H₀ E₀).nox ((defBody s_wrong_line).drop 5) tt ∧
    ∀ (D : Ends) (G : Hp) (b l s tp wp : Addr) (szs : List Nat) (r : Nat) (t : List Nat) (zz : Int) (far : V) (fd : PyData) (y2 y8 y9 : Option V), Wr b l s tp wp G szs t → Wp szs r t fd → (∀ H, Dq K b H far fd) → zz = (t.length : Nat) →
      (∀ (u : V) (d : PyData) (H' : Hp), Dq K b H' u d → BadD szs d → BagAt b l H' → Kp b G H' → D.rt u H') → tt D [some (.ref b), some (.ref s), y2, some (.int (r : Nat)), some (.int zz), some (.ref tp), some (.ref wp), some far, y8, y9] G := by
  obtain ⟨tN, h7, qN⟩ := wl7t (P := P) (w := w) (base := base) T cdv A outer s₀ H₀ E₀ hr
  refine ⟨_, ((pss_cons (ps_set (i := 8) sc_wrong_line.nd rfl (.inl rfl) (pe_lst (pa_cons (pe_tup (pa_cons pe_str (pa_cons (pv 7) (pa_cons (pv 5) pa_nil)))) (pa_cons (pe_tup (pa_cons pe_str (pa_cons (pv 3) (pa_cons (pe_op op_catA (pv 5) (pe_tup (pa_cons pe_int pa_nil))) pa_nil)))) (pa_cons (pe_tup (pa_cons pe_str (pa_cons (pv 3) (pa_cons (pe_slice sl_tupA (pv 5) (po_some pe_int) po_none) pa_nil)))) (pa_cons (pe_tup (pa_cons pe_str (pa_cons (pv 3) (pa_cons (pe_callTy call_list_of (by rfl) T.z_list (by decide +kernel) (pa_cons (pv 5) pa_nil)) pa_nil)))) (pa_cons (pe_tup (pa_cons pe_str (pa_cons (pv 3) (pa_cons (pe_op op_catA (pe_tup (pa_cons pe_int pa_nil)) (pe_slice sl_tupA (pv 5) (po_some pe_int) po_none)) pa_nil)))) (pa_cons (pe_tup (pa_cons pe_str (pa_cons (pv 3) (pa_cons (pe_op op_catA (pe_tup (pa_cons pe_non pa_nil)) (pe_slice sl_tupA (pv 5) (po_some pe_int) po_none)) pa_nil)))) (pa_cons (pe_tup (pa_cons pe_str (pa_cons (pv 3) pa_nil))) (pa_cons (pe_tup (pa_cons pe_str pa_nil)) pa_nil))))))))))
      h7)), ?_⟩
  rintro ⟨dn, dr, db, dc⟩ G b l s tp wp szs r t zz far fd y2 y8 y9 W w hf hz q
  have t7 := w.t1
  walk_at "nn2"
  intro p1 np1
  have e1 : upd G p1 (.tup [.str "wire", far, .ref tp]) p1 = some (.tup [.str "wire", far, .ref tp]) := upd_same
  have s1 : Same G (upd G p1 (.tup [.str "wire", far, .ref tp])) := same_upd np1
  generalize upd G p1 (.tup [.str "wire", far, .ref tp]) = G1 at e1 s1 ⊢
  clear np1
  walk_at "nn2"
  intro p2 np2
  have e2 : upd G1 p2 (.tup [.int 0]) p2 = some (.tup [.int 0]) := upd_same
  have s2 : Same G1 (upd G1 p2 (.tup [.int 0])) := same_upd np2
  generalize upd G1 p2 (.tup [.int 0]) = G2 at e2 s2 ⊢
  clear np2
  walk_at "nn2"
  refine catA_all (SqT.of ((s1.trans s2) _ _ W.tab)) (SqT.of ((Same.refl _) _ _ e2)) (by simp [natL_len]; omega) fun p3 G3 s3 e3 => ?_
  walk_at "nn2"
  intro p4 np4
  have e4 : upd G3 p4 (.tup [.str "wire", .int (r : Nat), .ref p3]) p4 = some (.tup [.str "wire", .int (r : Nat), .ref p3]) := upd_same
  have s4 : Same G3 (upd G3 p4 (.tup [.str "wire", .int (r : Nat), .ref p3])) := same_upd np4
  generalize upd G3 p4 (.tup [.str "wire", .int (r : Nat), .ref p3]) = G4 at e4 s4 ⊢
  clear np4
  walk_at "nn2"
  refine no_sl (slA_all (SqT.of ((s1.trans (s2.trans (s3.trans s4))) _ _ W.tab)) fun p5 G5 s5 e5 => ?_)
  rw [cut_nat] at e5
  walk_at "nn2"
  intro p6 np6
  have e6 : upd G5 p6 (.tup [.str "wire", .int (r : Nat), .ref p5]) p6 = some (.tup [.str "wire", .int (r : Nat), .ref p5]) := upd_same
  have s6 : Same G5 (upd G5 p6 (.tup [.str "wire", .int (r : Nat), .ref p5])) := same_upd np6
  generalize upd G5 p6 (.tup [.str "wire", .int (r : Nat), .ref p5]) = G6 at e6 s6 ⊢
  clear np6
  walk_at "nn2"
  refine ⟨tp, _, rfl, .inr (SqT.of ((s1.trans (s2.trans (s3.trans (s4.trans (s5.trans s6))))) _ _ W.tab)), fun p7 np7 => ?_⟩
  have e7 : upd G6 p7 (.lst (natL t)) p7 = some (.lst (natL t)) := upd_same
  have s7 : Same G6 (upd G6 p7 (.lst (natL t))) := same_upd np7
  have b7 : p7 ≠ b := (W.bag.same (s1.trans (s2.trans (s3.trans (s4.trans (s5.trans s6)))))).nb np7
  generalize upd G6 p7 (.lst (natL t)) = G7 at e7 s7 ⊢
  clear np7
  walk_at "nn2"
  intro p8 np8
  have e8 : upd G7 p8 (.tup [.str "wire", .int (r : Nat), .ref p7]) p8 = some (.tup [.str "wire", .int (r : Nat), .ref p7]) := upd_same
  have s8 : Same G7 (upd G7 p8 (.tup [.str "wire", .int (r : Nat), .ref p7])) := same_upd np8
  generalize upd G7 p8 (.tup [.str "wire", .int (r : Nat), .ref p7]) = G8 at e8 s8 ⊢
  clear np8
  walk_at "nn2"
  intro p9 np9
  have e9 : upd G8 p9 (.tup [.int 1000]) p9 = some (.tup [.int 1000]) := upd_same
  have s9 : Same G8 (upd G8 p9 (.tup [.int 1000])) := same_upd np9
  generalize upd G8 p9 (.tup [.int 1000]) = G9 at e9 s9 ⊢
  clear np9
  walk_at "nn2"
  refine no_sl (slA_all (SqT.of ((s1.trans (s2.trans (s3.trans (s4.trans (s5.trans (s6.trans (s7.trans (s8.trans s9)))))))) _ _ W.tab)) fun p10 G10 s10 e10 => ?_)
  rw [cut_nat] at e10
  walk_at "nn2"
  refine catA_all (SqT.of (s10 _ _ e9)) (same_tup (Same.refl _) e10) (by simp [natL_len]; omega) fun p11 G11 s11 e11 => ?_
  walk_at "nn2"
  intro p12 np12
  have e12 : upd G11 p12 (.tup [.str "wire", .int (r : Nat), .ref p11]) p12 = some (.tup [.str "wire", .int (r : Nat), .ref p11]) := upd_same
  have s12 : Same G11 (upd G11 p12 (.tup [.str "wire", .int (r : Nat), .ref p11])) := same_upd np12
  generalize upd G11 p12 (.tup [.str "wire", .int (r : Nat), .ref p11]) = G12 at e12 s12 ⊢
  clear np12
  walk_at "nn2"
  intro p13 np13
  have e13 : upd G12 p13 (.tup [.non]) p13 = some (.tup [.non]) := upd_same
  have s13 : Same G12 (upd G12 p13 (.tup [.non])) := same_upd np13
  generalize upd G12 p13 (.tup [.non]) = G13 at e13 s13 ⊢
  clear np13
  walk_at "nn2"
  refine no_sl (slA_all (SqT.of ((s1.trans (s2.trans (s3.trans (s4.trans (s5.trans (s6.trans (s7.trans (s8.trans (s9.trans (s10.trans (s11.trans (s12.trans s13)))))))))))) _ _ W.tab)) fun p14 G14 s14 e14 => ?_)
  rw [cut_nat] at e14
  walk_at "nn2"
  refine catA_all (SqT.of (s14 _ _ e13)) (same_tup (Same.refl _) e14) (by simp [natL_len]; omega) fun p15 G15 s15 e15 => ?_
  walk_at "nn2"
  intro p16 np16
  have e16 : upd G15 p16 (.tup [.str "wire", .int (r : Nat), .ref p15]) p16 = some (.tup [.str "wire", .int (r : Nat), .ref p15]) := upd_same
  have s16 : Same G15 (upd G15 p16 (.tup [.str "wire", .int (r : Nat), .ref p15])) := same_upd np16
  generalize upd G15 p16 (.tup [.str "wire", .int (r : Nat), .ref p15]) = G16 at e16 s16 ⊢
  clear np16
  walk_at "nn2"
  intro p17 np17
  have e17 : upd G16 p17 (.tup [.str "wire", .int (r : Nat)]) p17 = some (.tup [.str "wire", .int (r : Nat)]) := upd_same
  have s17 : Same G16 (upd G16 p17 (.tup [.str "wire", .int (r : Nat)])) := same_upd np17
  generalize upd G16 p17 (.tup [.str "wire", .int (r : Nat)]) = G17 at e17 s17 ⊢
  clear np17
  walk_at "nn2"
  intro p18 np18
  have e18 : upd G17 p18 (.tup [.str "wire"]) p18 = some (.tup [.str "wire"]) := upd_same
  have s18 : Same G17 (upd G17 p18 (.tup [.str "wire"])) := same_upd np18
  generalize upd G17 p18 (.tup [.str "wire"]) = G18 at e18 s18 ⊢
  clear np18
  walk_at "nn2"
  intro Da nDa
  have e19 : upd G18 Da (.lst [.ref p1, .ref p4, .ref p6, .ref p8, .ref p12, .ref p16, .ref p17, .ref p18]) Da = some (.lst [.ref p1, .ref p4, .ref p6, .ref p8, .ref p12, .ref p16, .ref p17, .ref p18]) := upd_same
  have s19 : Same G18 (upd G18 Da (.lst [.ref p1, .ref p4, .ref p6, .ref p8, .ref p12, .ref p16, .ref p17, .ref p18])) := same_upd nDa
  generalize upd G18 Da (.lst [.ref p1, .ref p4, .ref p6, .ref p8, .ref p12, .ref p16, .ref p17, .ref p18]) = G19 at e19 s19 ⊢
  clear nDa
  have t19 : Same G19 G19 := Same.refl _
  have t18 := s19.trans t19
  have t17 := s18.trans t18
  have t16 := s17.trans t17
  have t15 := s16.trans t16
  have t14 := s15.trans t15
  have t13 := s14.trans t14
  have t12 := s13.trans t13
  have t11 := s12.trans t12
  have t10 := s11.trans t11
  have t9 := s10.trans t10
  have t8 := s9.trans t9
  have t7 := s8.trans t8
  have t6 := s7.trans t7
  have t5 := s6.trans t6
  have t4 := s5.trans t5
  have t3 := s4.trans t4
  have t2 := s3.trans t3
  have t1 := s2.trans t2
  have tF := s1.trans t1
  have wD : DqAll K b G19 [.ref p1, .ref p4, .ref p6, .ref p8, .ref p12, .ref p16, .ref p17, .ref p18] (wl6 r t fd) := (.cons (.tup (SqT.of (t1 _ _ e1)) (.cons (.str _) (.cons (hf _) (.cons (.tup (SqT.of (tF _ _ W.tab)) (natD_dq t)) .nil)))) (.cons (.tup (SqT.of (t4 _ _ e4)) (.cons (.str _) (.cons (.int _) (.cons (.tup (same_tup t3 e3) (dqa_app (.cons (.int _) .nil) (natD_dq t))) .nil)))) (.cons (.tup (SqT.of (t6 _ _ e6)) (.cons (.str _) (.cons (.int _) (.cons (.tup (same_tup t5 e5) (natD_dq (t.drop 1))) .nil)))) (.cons (.tup (SqT.of (t8 _ _ e8)) (.cons (.str _) (.cons (.int _) (.cons (.lst (t7 _ _ e7) b7 (natD_dq t)) .nil)))) (.cons (.tup (SqT.of (t12 _ _ e12)) (.cons (.str _) (.cons (.int _) (.cons (.tup (same_tup t11 e11) (dqa_app (natD_dq (t.drop 1)) (.cons (.int _) .nil))) .nil)))) (.cons (.tup (SqT.of (t16 _ _ e16)) (.cons (.str _) (.cons (.int _) (.cons (.tup (same_tup t15 e15) (dqa_app (natD_dq (t.drop 1)) (.cons .non .nil))) .nil)))) (.cons (.tup (SqT.of (t17 _ _ e17)) (.cons (.str _) (.cons (.int _) .nil))) (.cons (.tup (SqT.of (t18 _ _ e18)) (.cons (.str _) .nil)) .nil))))))))
  walk_at "nn2"
  exact qN _ _ b l s tp wp Da szs r t zz far fd _ _ _ _ (W.same tF) w hf hz e19 rfl wD (wl6_bad w) fun u d H' h1 h2 h3 h4 => q u d H' h1 h2 h3 ((Kp.same tF).trans h4)
theorem ok_wrong_line (T : Env K mg) : FnOk P w K mg base CX0 3 T.f_wrong_line T.fd_wrong_line ["_law_bag_here", "_law_sizes"] (spWrong K) := by
  refine T.F_wrong_line.ok sc_wrong_line (fun vs H Q E h => ?_) (fun cdv A outer s H vs Q E hr h => ?_)
  · obtain ⟨b, l, s, szs, rfl, _⟩ := h
    rfl
  · obtain ⟨t6, h6, q6⟩ := wl6t (P := P) (w := w) (base := base) T cdv A outer s H E hr
    refine ⟨_, ((pss_cons (ps_par (i := 2) (j := 3) (by rfl) sc_wrong_line.nd rfl rfl (by decide) rfl rfl (pa_cons (pe_callB call_len_seq (by rfl) T.z_len (by decide +kernel) (pa_cons (pv 1) pa_nil)) (pa_cons (pe_call (ok_pull T) (hr.mono (by decide)) (by rfl) T.g_pull T.F_pull.kp T.b_pull .nil pass0 (pa_cons (pv 0) (pa_cons (pe_callB call_len_seq (by rfl) T.z_len (by decide +kernel) (pa_cons (pv 1) pa_nil)) pa_nil))) pa_nil)) (by rfl))
      (pss_cons (ps_set (i := 4) sc_wrong_line.nd rfl (.inl rfl) (pe_ix ix_list (pv 1) (pv 3) (fun _ _ => rfl)))
      (pss_cons (ps_set (i := 5) sc_wrong_line.nd rfl (.inr rfl) (pe_callTy call_tuple_of (by rfl) T.z_tuple (by decide +kernel) (pa_cons (pe_lc (own := [("_law_k", 9)]) (g := (gName 9)) (tt := tYes) rfl sc_wrong_line.nd (pi_range1 (by rfl) T.z_range (pa_cons (pv 4) pa_nil)) (blkOk_by (own := [("_law_k", 9)]) (N := N_wrong_line) (sc := defScope s_wrong_line) (by decide +kernel)) (fun _ _ _ _ _ => (pg_name (i := 9) sc_wrong_line.nd rfl (.inl rfl))) (fun _ _ _ _ _ => pts_nil) (fun _ _ _ _ _ => (pe_call (ok_pull T) (hr.mono (by decide)) (by rfl) T.g_pull T.F_pull.kp T.b_pull .nil pass0 (pa_cons (pv 0) (pa_cons pe_int pa_nil))))) pa_nil)))
      (pss_cons (ps_set (i := 6) sc_wrong_line.nd rfl (.inl rfl) (pe_callTy call_tuple_of (by rfl) T.z_tuple (by decide +kernel) (pa_cons (pe_lc (own := [("_law_k", 9)]) (g := (gName 9)) (tt := tYes) rfl sc_wrong_line.nd (pi_range1 (by rfl) T.z_range (pa_cons (pv 4) pa_nil)) (blkOk_by (own := [("_law_k", 9)]) (N := N_wrong_line) (sc := defScope s_wrong_line) (by decide +kernel)) (fun _ _ _ _ _ => (pg_name (i := 9) sc_wrong_line.nd rfl (.inl rfl))) (fun _ _ _ _ _ => pts_nil) (fun _ _ _ _ _ => (pv 5))) pa_nil)))
      (pss_cons (ps_set (i := 7) sc_wrong_line.nd rfl (.inl rfl) (pe_call (ok_of T) (hr.mono (by decide)) (by rfl) T.g_of T.F_of.kp T.b_of .nil pass0 (pa_cons (pv 0) (pa_cons (pe_lst (pa_cons (pv 2) (pa_cons (pe_un un_neg pe_int) (pa_cons pe_non (pa_cons pe_bl (pa_cons pe_str (pa_cons (pe_op op_add (pv 2) pe_int) pa_nil))))))) pa_nil))))
      h6)))))), ?_⟩
    obtain ⟨b, l, s, szs, rfl, B, hs, n1, n60, bnd, q⟩ := h
    obtain ⟨nz, hnz⟩ : ∃ nz : Int, nz = ((szs.length : Nat) : Int) := ⟨_, rfl⟩
    walk_at "nn2"
    refine ⟨s, _, rfl, .inl (SqL.of hs), ?_⟩
    rw [natL_len, ← hnz]
    walk_at "nn2"
    refine ⟨s, _, rfl, .inl (SqL.of hs), ?_⟩
    rw [natL_len, ← hnz]
    walk_at "nn2"
    refine ⟨b, l, _, rfl, B, by omega, by omega, fun k H1 k0 k1 B1 kp1 => ?_⟩
    obtain ⟨r, rfl⟩ := int_nat k0
    have sb : s ≠ b := fun z => nnatB B (by rw [← z]; exact hs)
    have hs1 := kp1 _ _ hs sb
    have rl : r < szs.length := by omega
    have sz7 := bnd r rl
    clear B hs
    walk_at "nn2"
    refine ⟨_, _, rfl, ?_⟩
    have B2 := B1
    have hs2 := hs1
    have K2 := kp1
    clear B1 hs1 kp1
    walk_at "nn2"
    refine ⟨s, _, _, _, rfl, rfl, SqL.of hs2, atI_nat (natL_at rl), ?_⟩
    obtain ⟨zz, hzz⟩ : ∃ zz : Int, zz = ((szs.getD r 0 : Nat) : Int) := ⟨_, rfl⟩
    rw [← hzz]
    walk_at "nn2"
    intro D2 hD2
    have n2b := B2.nb hD2
    have n2l := B2.nl hD2
    refine lc_gen walk_range (fun H' => BagAt b l H' ∧ Kp b H1 H') (fun i y => ∃ c : Nat, c < 3 ∧ y = V.int (c : Nat)) (by omega) ⟨B2.mut n2b n2l, Kp.same (same_upd hD2)⟩ (fun _ _ => trivial) (fun _ _ h => ⟨h.1.mut n2b n2l, h.2.mut hD2⟩) ?_ ?_
    · rintro i x H3 H4 Q2 hlt hI2 ⟨rfl, rfl⟩ - hQ2
      walk_at "nn2"
      refine ⟨b, l, _, rfl, hI2.1, by omega, by omega, fun k H5 k0 k1 B5 k5 => ?_⟩
      obtain ⟨kn, rfl⟩ := int_nat k0
      exact hQ2 _ _ ⟨kn, by omega, rfl⟩ ⟨B5, hI2.2.trans k5⟩ fun o ho => k5 _ _ ho n2b
    · rintro H3 ys ⟨B3, k3⟩ hy hl hr
      obtain ⟨t, rfl, tl, tlt⟩ := pick_nat hr
      have K3 := K2.trans k3
      have hs3 := k3 _ _ hs2 sb
      clear B2 hs2 K2 k3 hD2 n2l hr
      have tl2 : t.length = szs.getD r 0 := by omega
      walk_at "nn2"
      refine ⟨D2, _, rfl, .inl ⟨SqL.of hy, fun tp ntp => ?_⟩⟩
      have s4 := same_upd (o := .tup (natL t)) ntp
      have htp := upd_same (H := H3) (a := tp) (o := .tup (natL t))
      have B4 := B3.same s4
      have K4 := K3.trans (Kp.same s4)
      have hs4 := s4 _ _ hs3
      clear s4 ntp B3 K3 hs3 hy
      show gName 5 _ _ (upd H3 tp (.tup (natL t))) _
      generalize upd H3 tp (.tup (natL t)) = H4 at *
      walk_at "nn2"
      intro D3 hD3
      refine lc_gen walk_range (fun H' => Same H4 H') (fun i y => y = V.ref tp) (by omega) (same_upd hD3) (fun _ _ => trivial) (fun _ _ h => same_mut h hD3) ?_ ?_
      · rintro i x H5 H6 Q2 hlt hI2 ⟨rfl, rfl⟩ - hQ2
        walk_at "nn2"
        exact hQ2 _ _ rfl hI2 fun o ho => ho
      · rintro H5 ys s5 hy hl3 hr3
        have e : ys = List.replicate t.length (.ref tp) := by
          refine List.eq_replicate_iff.mpr ⟨by omega, fun y hy => ?_⟩
          obtain ⟨i, hi⟩ := List.mem_iff_getElem?.mp hy
          exact hr3 i y hi
        subst e
        have B5 := B4.same s5
        have K5 := K4.trans (Kp.same s5)
        have hs5 := s5 _ _ hs4
        have htp5 := s5 _ _ htp
        clear B4 K4 hs4 htp s5 hr3 hD3
        walk_at "nn2"
        refine ⟨D3, _, rfl, .inl ⟨SqL.of hy, fun wp nwp => ?_⟩⟩
        have s6 := same_upd (o := .tup (List.replicate t.length (.ref tp))) nwp
        have hwp := upd_same (H := H5) (a := wp) (o := .tup (List.replicate t.length (.ref tp)))
        have K6 := K5.trans (Kp.same s6)
        have W6 : Wr b l s tp wp (upd H5 wp (.tup (List.replicate t.length (.ref tp)))) szs t := ⟨B5.same s6, s6 _ _ hs5, s6 _ _ htp5, hwp⟩
        clear B5 K5 hs5 htp5 s6 nwp hwp hy
        show gName 6 _ _ (upd H5 wp (.tup (List.replicate t.length (.ref tp)))) _
        generalize upd H5 wp (.tup (List.replicate t.length (.ref tp))) = H6 at *
        walk_at "nn2"
        intro D0 nD0
        have s7 := same_upd (o := .lst [.int nz, .int (-1), .non, .bl true, .str "0", .int (nz + 3)]) nD0
        refine ⟨b, l, _, rfl, W6.bag.same s7, .inl ⟨D0, _, rfl, W6.bag.nb nD0, .inl (SqL.of upd_same), (by intro z; cases z), (by show 6 ≤ 100000; decide), fun far H7 hv B7 k7 => ?_⟩⟩
        obtain ⟨fd, hfd, bfd⟩ : ∃ fd : PyData, (∀ G, Dq K b G far fd) ∧ belowD ((szs.length : Nat) : Int) fd = false := by
          simp only [List.mem_cons, List.not_mem_nil, or_false] at hv
          rcases hv with rfl | rfl | rfl | rfl | rfl | rfl
          · exact ⟨.int nz, fun _ => .int _, decide_eq_false (by omega)⟩
          · exact ⟨.int (-1), fun _ => .int _, by unfold belowD; exact decide_eq_false (by omega)⟩
          · exact ⟨.none, fun _ => .non, rfl⟩
          · exact ⟨.bool true, fun _ => .bl _, rfl⟩
          · exact ⟨.str "0", fun _ => .str _, rfl⟩
          · exact ⟨.int (nz + 3), fun _ => .int _, decide_eq_false (by omega)⟩
        have k07 := (Kp.same (b := b) s7).trans k7
        have W7 := W6.kp k07 B7
        have K7 := K6.trans k07
        clear W6 K6 k07 s7 k7 hv nD0
        walk_at "nn2"
        exact q6 _ _ b l s tp wp szs r t zz far fd _ _ _ W7 ⟨rl, tl2, by omega, fun x hx => by have := tlt x hx; omega, bfd⟩ hfd (by omega) fun u d H8 h1 h2 h3 h4 => q u d H8 h1 h2 h3 (K7.trans h4)
end

/-! ### tuple * int, from one time on -/
theorem tuple_mul1 (l : Addr) (items : Array Value) (n : Nat) (dd : Option Addr) (sl : Array (Option Value)) (u : Tok) :
    Meets (Builtin.«tuple.__mul__» ⟨[.ref l, .int 1 u], []⟩) (fun _ R s => s.heap.get? l = some { cls := .type "tuple", dict := dd, data := .seq items n, slots := sl } ∧ R (.ok (.ret (Value.ref l))) s) :=
  .of_wp fun prog w A R s h => by
    obtain ⟨hp, g, d, tk, os⟩ := s
    obtain ⟨hl, h⟩ := h
    have f1 := AutoSeq1.idx_int
    have c1 : (items.isEmpty || (1 : Int) == 1) = true := by simp
    wp_walk using AutoSeq1.wpAny_loadPart' hl
    exact ⟨_, rfl, h⟩
def rRepA : R2 := fun x y H Q => ∃ l k xs, x = .ref l ∧ y = .int k ∧ H l = some (.tup xs) ∧ xs ≠ [] ∧ 1 ≤ k ∧ k ≤ 1000 ∧ xs.length ≤ 1000 ∧ ∀ p H', H' p = some (.tup (List.replicate k.toNat xs).flatten) → Same H H' → Q (.ref p) H'
section
variable {X : Cx}
theorem op_repA : OpR X (binaryOp .Mult) rRepA := by
  intro pins s σ H x y v u Q I rx ry h
  obtain ⟨l, k, xs, rfl, rfl, hT, hne, h1, h2, hz, q⟩ := h
  have hT2 : SqT X.K H l xs := .inl (.inl hT)
  by_cases hk : k = 1
  · subst hk
    cases rx
    obtain ⟨t, rfl⟩ := ry
    have q1 : Q (.ref l) H := q l H (by rw [show (List.replicate (Int.toNat 1) xs).flatten = xs by simp]; exact hT) (Same.refl _)
    obtain ⟨its, r, ⟨⟨cls, dd, data, sl⟩, ho, hc, n, hd⟩, hs⟩ := I.tuple hT2
    simp only at hc hd
    subst hc hd
    refine wpAny_binaryOp_repeat_ref (T := "tuple") (U := "int") (by decide) ⟨_, ho, rfl⟩ (fun s' => typeIs_int s' 1 t) noFill_tuple_mul F.fills_int_mul F.slot_int_rmul repeat_tuple F.slot_int_index.lookup
      (call_meets F.slot_int_rmul (typeIs_int s 1 t) F.entry_int_rmul (F.args_int_rmul_2 _ _) (int_rmul_tuple 1 t l its.toArray n dd sl)
        ⟨ho, rfl, ⟨_, ho, rfl⟩, call_meets F.slot_tuple_mul ⟨_, ho, rfl⟩ F.entry_tuple_mul (F.args_tuple_mul_2 _ _) (tuple_mul1 l its.toArray n dd sl t) ⟨ho, ?_⟩⟩)
    exact ⟨.ref l, H, I, rfl, q1⟩
  · exact op_repT pins s σ H _ _ v u Q I rx ry ⟨l, k, xs, rfl, rfl, hT2, hne, by omega, h2, hz, fun p hp => q p _ upd_same (same_upd hp)⟩
end

variable {K : PySem.W.Frag} {mg : Str → Option Value}
/-! ### a value of which the bag has no part -/
def Own (b : Addr) (H : Hp) (v : V) : Prop := scalV v = true ∨ ∃ p xs, v = .ref p ∧ p ≠ b ∧ xs.all scalV = true ∧ (xs : List V).length ≤ 1 ∧ (H p = some (.lst xs) ∨ H p = some (.tup xs))
theorem Own.kp {b : Addr} {H H' : Hp} {v : V} (o : Own b H v) (k : Kp b H H') : Own b H' v := by
  rcases o with o | ⟨p, xs, e, n, h1, h2, h3 | h3⟩
  · exact .inl o
  · exact .inr ⟨p, xs, e, n, h1, h2, .inl (k _ _ h3 n)⟩
  · exact .inr ⟨p, xs, e, n, h1, h2, .inr (k _ _ h3 n)⟩
theorem Own.sm {K : PySem.W.Frag} {b : Addr} {H : Hp} {v : V} (o : Own b H v) : Sm K H 2 v v := by
  rcases o with o | ⟨p, xs, e, n, h1, h2, h3⟩
  · exact .inl ⟨rfl, o⟩
  · refine .inr ⟨p, p, xs, xs, e, e, by omega, rfl, fun i u v a1 a2 => ?_, ?_⟩
    · rw [a1] at a2
      cases a2
      exact .inl ⟨rfl, List.all_eq_true.mp h1 _ (List.mem_of_getElem? a1)⟩
    · rcases h3 with h3 | h3
      · exact .inl ⟨SqL.of h3, SqL.of h3⟩
      · exact .inr ⟨.inl (.inl h3), .inl (.inl h3)⟩

/-! ### what stays beside the bag, beside new code objects -/
theorem BagAt.nlist {b l : Addr} {H : Hp} (B : BagAt b l H) {ps : List Addr} (h : H b = some (.lst (ps.map V.ref))) : False := by
  obtain ⟨⟨i, r, m, c, ns, hb, _⟩, _⟩ := B
  rw [hb] at h
  have e := Option.some.inj h
  injection e with e
  match ps, e with
  | [], e => simp at e
  | [_], e => simp at e
  | _ :: _ :: _, e => simp at e
theorem tabs_kp {T : List (Addr × Str)} {H H' : Hp} {b l : Addr} (t : LamX.Tabs T H) (k : Kp b H H') (B : BagAt b l H) : LamX.Tabs T H' := fun p hp => by
  obtain ⟨⟨i, r, m, c, ns, hb, _⟩, _⟩ := B
  obtain ⟨ps, a1, a2, a3⟩ := t p hp
  refine ⟨ps, k _ _ a1 (fun z => by rw [z, hb] at a1; cases a1), a2, fun q v hq => ?_⟩
  obtain ⟨c0, e1, e3⟩ := a3 q v hq
  exact ⟨c0, e1, k _ _ e3 (fun z => by rw [z, hb] at e3; cases e3)⟩
open LamX (ExtN)
theorem seq_ext {K : PySem.W.Frag} {H H' : Hp} {a : Addr} {xs : List V} (e : ExtN H H') (h : SqL K H a xs) : SqL K H' a xs := by
  rcases h with (h | ⟨o, h⟩) | h
  · exact .inl (.inl (e _ _ h (by intro ps z; cases z)))
  · exact .inl (.inr ⟨o, e _ _ h (by intro ps z; cases z)⟩)
  · exact .inr h
theorem tup_ext {K : PySem.W.Frag} {H H' : Hp} {a : Addr} {xs : List V} (e : ExtN H H') (h : SqT K H a xs) : SqT K H' a xs := by
  rcases h with (h | ⟨o, h⟩) | h
  · exact .inl (.inl (e _ _ h (by intro ps z; cases z)))
  · exact .inl (.inr ⟨o, e _ _ h (by intro ps z; cases z)⟩)
  · exact .inr h
theorem BagAt.ext {b l : Addr} {H H' : Hp} (x : BagAt b l H) (e : ExtN H H') : BagAt b l H' := by
  obtain ⟨⟨i, r, m, c, ns, h1, h2, h3⟩, n⟩ := x
  exact ⟨⟨i, r, m, c, ns, e _ _ h1 (by intro ps z; cases z), e _ _ h2 (by intro ps z; cases z), h3⟩, n⟩
theorem free_by {scope sc : Scope} (h : (scope.names.all fun y => !decide (y.2 = .free) || (decide (sc.names.lookup y.1 = some .cell) || decide (sc.names.lookup y.1 = some .free))) = true) :
    ∀ y ∈ scope.names, y.2 = .free → sc.names.lookup y.1 = some .cell ∨ sc.names.lookup y.1 = some .free := fun y hy e => by
  have z := List.all_eq_true.mp h y hy
  rw [e] at z
  simpa using z

open NdefX (NScope)
section
variable {P : Program} {w : World} {base : Heap}
theorem bind0 {F : LF} {H : Hp} {s : Shared} (h : ∀ doc pm ctv, bindArgs (F.fd doc pm ctv) ⟨[], []⟩ = pure []) (doc pm ctv : Value) : ∃ us : List Value, Vals [] us ∧ BindsTo s (F.fd doc pm ctv) ⟨[], []⟩ ((([] : List Str)).zip us) :=
  ⟨[], .nil, .of_eq (h doc pm ctv)⟩
theorem bind1 {F : LF} {H : Hp} {s : Shared} {i : Int} {x : Str} (ok : HOk P w H s.heap) (hD : DefAt F [.int i] H)
    (h : ∀ (T : Addr) (doc pm ctv : Value) (its : List Value), F.dV = .ref T → its.length = 1 → ∃ k, bindArgs (F.fd doc pm ctv) ⟨[], []⟩ = seqItems? (.ref T) >>= k ∧ k (some its.toArray) = pure (([x] : List Str).zip its)) (doc pm ctv : Value) :
    ∃ us : List Value, Vals [.int i] us ∧ BindsTo s (F.fd doc pm ctv) ⟨[], []⟩ (([x] : List Str).zip us) := by
  rcases hD with ⟨e, _⟩ | ⟨T0, j, e, dv, ht⟩
  · cases e
  · cases e
    have z : ObjOk P w H s.heap T0 (.tup [.int i]) := ok T0 _ ht
    obtain ⟨_, its, r, tp⟩ := z
    obtain ⟨k, e1, e2⟩ := h T0 doc pm ctv its dv (by rw [← r.length]; rfl)
    refine ⟨its, r, BindsTo.of_looks fun M => ?_⟩
    rw [e1]
    have g : ∃ (o : Obj) (n : Nat), s.heap.get? T0 = some o ∧ o.data = .seq its.toArray n := by
      have tp : s.heap.IsTuple T0 its.toArray := tp
      obtain ⟨o, h1, _, n, h3⟩ := tp
      exact ⟨o, n, h1, h3⟩
    obtain ⟨o, n, g1, g2⟩ := g
    refine looks_items (K := [(T0, o)]) (o := o) (n := n) (fun a u e => ?_) (by simp) g2 (.of_pure e2)
    have e : List.lookup a [(T0, o)] = some u := e
    by_cases hz : a = T0
    · rw [hz] at e ⊢
      rw [show List.lookup T0 [(T0, o)] = some o by simp] at e
      cases e
      exact g1
    · have hb : (a == T0) = false := by simpa using hz
      simp [List.lookup, hb] at e
end

open LamX NdefX in
/-! ### lambdas, by their readings -/
open NdefX (NScope)
section
variable {P : Program} {w : World} {base : Heap}
theorem lok_g0 {k : Nat} {N fr : List Str} {F : LF} {f : Addr} {t : XK → TE} (S : NScope N [] fr F.scope) (hb : ∀ doc pm ctv, bindArgs (F.fd doc pm ctv) ⟨[], []⟩ = pure [])
    (hpe : ∀ (A : Around) (outer : List PySem.Env) (s : Shared) (H : Hp) (E : XK), Room k (A.deeper (NdefX.envF F.nf f s.heap.objs.size)) → PE (NdefX.ncx (L2.CX P w) P w K mg base N F.nf f A outer s H E) F.body (t E)) :
    LOk P w K mg base (L2.CX P w) (k + 1) f F [] fr (fun ws H Q E => t E (NdefX.startF N [] ws) H Q) :=
  lok_of S rfl (fun s H us doc pm ctv ok hD => bind0 (H := H) hb doc pm ctv) (fun A outer s H ws Q E hr hl h => ⟨t E, hpe A outer s H E hr, h⟩)
theorem lok_g1 {k : Nat} {N fr : List Str} {x : Str} {F : LF} {f : Addr} {i : Int} {t : XK → TE} (S : NScope N [x] fr F.scope)
    (hb : ∀ (T : Addr) (doc pm ctv : Value) (its : List Value), F.dV = .ref T → its.length = 1 → ∃ k, bindArgs (F.fd doc pm ctv) ⟨[], []⟩ = seqItems? (.ref T) >>= k ∧ k (some its.toArray) = pure (([x] : List Str).zip its))
    (hpe : ∀ (A : Around) (outer : List PySem.Env) (s : Shared) (H : Hp) (E : XK), Room k (A.deeper (NdefX.envF F.nf f s.heap.objs.size)) → PE (NdefX.ncx (L2.CX P w) P w K mg base N F.nf f A outer s H E) F.body (t E)) :
    LOk P w K mg base (L2.CX P w) (k + 1) f F [.int i] fr (fun ws H Q E => t E (NdefX.startF N [.int i] ws) H Q) :=
  lok_of S rfl (fun s H us doc pm ctv ok hD => bind1 ok hD hb doc pm ctv) (fun A outer s H ws Q E hr hl h => ⟨t E, hpe A outer s H E hr, h⟩)
theorem gotl_x {X : Cx} {σ : L2.St} (T : Env X.K X.mg) (k : Nat) {vs : List V} {H : Hp} {Q : VK} {E : XK} (h : ∀ bs, Ground X σ bs → spGotL X.prog X.w X.K X.mg bs [.ref T.C_AheadError, .ref T.C_Missing, .ref T.C_NothingLeft] k vs H Q E) :
    ∃ sp : Sp, (∀ base, Ground X σ base → FnOk X.prog X.w X.K X.mg base CX0 (k + 2) T.f_got T.fd_got ["_law_ask"] sp) ∧ sp vs H Q E :=
  ⟨fun vs H Q E => ∀ bs, Ground X σ bs → spGotL X.prog X.w X.K X.mg bs [.ref T.C_AheadError, .ref T.C_Missing, .ref T.C_NothingLeft] k vs H Q E,
    fun bs g => ⟨fun vs H Q E h => (ok_gotL (P := X.prog) (w := X.w) (base := bs) T k).len vs H Q E (h bs g), fun A outer s H args us vs Q E hr e0 hb r h => (ok_gotL (P := X.prog) (w := X.w) (base := bs) T k).run A outer s H args us vs Q E hr e0 hb r (h bs g)⟩, h⟩
end

section
variable {P : Program} {w : World} {base : Heap}
theorem allgotl_x {X : Cx} {σ : L2.St} (T : Env X.K X.mg) (k : Nat) {vs : List V} {H : Hp} {Q : VK} {E : XK} (h : ∀ bs, Ground X σ bs → spAllGotL X.prog X.w X.K X.mg bs [.ref T.C_AheadError, .ref T.C_Missing, .ref T.C_NothingLeft] k vs H Q E) :
    ∃ sp : Sp, (∀ base, Ground X σ base → FnOk X.prog X.w X.K X.mg base CX0 (k + 3) T.f_all_got T.fd_all_got ["_law_asks"] sp) ∧ sp vs H Q E :=
  ⟨fun vs H Q E => ∀ bs, Ground X σ bs → spAllGotL X.prog X.w X.K X.mg bs [.ref T.C_AheadError, .ref T.C_Missing, .ref T.C_NothingLeft] k vs H Q E,
    fun bs g => ⟨fun vs H Q E h => (ok_all_gotL (P := X.prog) (w := X.w) (base := bs) T k).len vs H Q E (h bs g), fun A outer s H args us vs Q E hr e0 hb r h => (ok_all_gotL (P := X.prog) (w := X.w) (base := bs) T k).run A outer s H args us vs Q E hr e0 hb r (h bs g)⟩, h⟩
end
/-! ### asks of lambdas: the lambda's object first, so that its body is known to the rest -/
open NdefX (NScope)
theorem DefAt.same {F : LF} {ds : List V} {H H' : Hp} (h : DefAt F ds H) (s : Same H H') : DefAt F ds H' := by
  rcases h with h | ⟨T0, i, e1, e2, e3⟩
  · exact .inl h
  · exact .inr ⟨T0, i, e1, e2, s _ _ e3⟩
theorem ask_err0 {P : Program} {w : World} {K : PySem.W.Frag} {mg : Str → Option Value} {base : Heap} {cs : List Value} {k : Nat} {N fr : List Str} {F : LF} {f : Addr} {H : Hp} {ws : List (Option V)} {code : Str} {us : List V} {t : XK → TE}
    (lf : H f = some (LmO f F)) (lc : H F.c = some (LamX.CodeO F.c F.qual)) (dv : F.dV = .none) (S : NScope N [] fr F.scope) (hb : ∀ doc pm ctv, bindArgs (F.fd doc pm ctv) ⟨[], []⟩ = pure [])
    (C : NdefX.CellsAt F.cl fr ws base (fun _ => none)) (hpe : ∀ (A : Around) (outer : List PySem.Env) (s : Shared) (H : Hp) (E : XK), Room k (A.deeper (NdefX.envF F.nf f s.heap.objs.size)) → PE (NdefX.ncx (L2.CX P w) P w K mg base N F.nf f A outer s H E) F.body (t E))
    (q : ∀ H1, Same H H1 → ∀ (Q2 : VK) (E2 : XK), (∀ cls d H2, PySem.W.exmAny K cls cs = some true → ErrL K cls d H2 code us → Same H1 H2 → E2 cls d H2) → t E2 (NdefX.startF N [] ws) H1 Q2) : AskL P w K mg base cs (k + 1) H f (.err code us) :=
  ⟨_, _, LOk.held (lok_g0 S hb hpe) C, fun H1 s1 => ⟨⟨s1 _ _ lf, s1 _ _ lc, .inl ⟨rfl, dv⟩⟩, q H1 s1⟩⟩
theorem ask_val0 {P : Program} {w : World} {K : PySem.W.Frag} {mg : Str → Option Value} {base : Heap} {cs : List Value} {k : Nat} {N fr : List Str} {F : LF} {f : Addr} {H : Hp} {ws : List (Option V)} {R : V → Hp → Prop} {t : XK → TE}
    (lf : H f = some (LmO f F)) (lc : H F.c = some (LamX.CodeO F.c F.qual)) (dv : F.dV = .none) (S : NScope N [] fr F.scope) (hb : ∀ doc pm ctv, bindArgs (F.fd doc pm ctv) ⟨[], []⟩ = pure [])
    (C : NdefX.CellsAt F.cl fr ws base (fun _ => none)) (hpe : ∀ (A : Around) (outer : List PySem.Env) (s : Shared) (H : Hp) (E : XK), Room k (A.deeper (NdefX.envF F.nf f s.heap.objs.size)) → PE (NdefX.ncx (L2.CX P w) P w K mg base N F.nf f A outer s H E) F.body (t E))
    (q : ∀ H1, Same H H1 → ∀ (Q2 : VK) (E2 : XK), (∀ v H2, R v H2 → Same H1 H2 → Q2 v H2) → t E2 (NdefX.startF N [] ws) H1 Q2) : AskL P w K mg base cs (k + 1) H f (.val R) :=
  ⟨_, _, LOk.held (lok_g0 S hb hpe) C, fun H1 s1 => ⟨⟨s1 _ _ lf, s1 _ _ lc, .inl ⟨rfl, dv⟩⟩, q H1 s1⟩⟩
theorem ask_err1 {P : Program} {w : World} {K : PySem.W.Frag} {mg : Str → Option Value} {base : Heap} {cs : List Value} {k : Nat} {N fr : List Str} {x : Str} {F : LF} {f : Addr} {H : Hp} {ws : List (Option V)} {i : Int} {code : Str} {us : List V} {t : XK → TE}
    (lf : H f = some (LmO f F)) (lc : H F.c = some (LamX.CodeO F.c F.qual)) (dv : DefAt F [.int i] H) (S : NScope N [x] fr F.scope) (hb : ∀ (T : Addr) (doc pm ctv : Value) (its : List Value), F.dV = .ref T → its.length = 1 → ∃ k, bindArgs (F.fd doc pm ctv) ⟨[], []⟩ = seqItems? (.ref T) >>= k ∧ k (some its.toArray) = pure (([x] : List Str).zip its))
    (C : NdefX.CellsAt F.cl fr ws base (fun _ => none)) (hpe : ∀ (A : Around) (outer : List PySem.Env) (s : Shared) (H : Hp) (E : XK), Room k (A.deeper (NdefX.envF F.nf f s.heap.objs.size)) → PE (NdefX.ncx (L2.CX P w) P w K mg base N F.nf f A outer s H E) F.body (t E))
    (q : ∀ H1, Same H H1 → ∀ (Q2 : VK) (E2 : XK), (∀ cls d H2, PySem.W.exmAny K cls cs = some true → ErrL K cls d H2 code us → Same H1 H2 → E2 cls d H2) → t E2 (NdefX.startF N [.int i] ws) H1 Q2) : AskL P w K mg base cs (k + 1) H f (.err code us) :=
  ⟨_, _, LOk.held (lok_g1 S hb hpe) C, fun H1 s1 => ⟨⟨s1 _ _ lf, s1 _ _ lc, dv.same s1⟩, q H1 s1⟩⟩
theorem ask_val1 {P : Program} {w : World} {K : PySem.W.Frag} {mg : Str → Option Value} {base : Heap} {cs : List Value} {k : Nat} {N fr : List Str} {x : Str} {F : LF} {f : Addr} {H : Hp} {ws : List (Option V)} {i : Int} {R : V → Hp → Prop} {t : XK → TE}
    (lf : H f = some (LmO f F)) (lc : H F.c = some (LamX.CodeO F.c F.qual)) (dv : DefAt F [.int i] H) (S : NScope N [x] fr F.scope) (hb : ∀ (T : Addr) (doc pm ctv : Value) (its : List Value), F.dV = .ref T → its.length = 1 → ∃ k, bindArgs (F.fd doc pm ctv) ⟨[], []⟩ = seqItems? (.ref T) >>= k ∧ k (some its.toArray) = pure (([x] : List Str).zip its))
    (C : NdefX.CellsAt F.cl fr ws base (fun _ => none)) (hpe : ∀ (A : Around) (outer : List PySem.Env) (s : Shared) (H : Hp) (E : XK), Room k (A.deeper (NdefX.envF F.nf f s.heap.objs.size)) → PE (NdefX.ncx (L2.CX P w) P w K mg base N F.nf f A outer s H E) F.body (t E))
    (q : ∀ H1, Same H H1 → ∀ (Q2 : VK) (E2 : XK), (∀ v H2, R v H2 → Same H1 H2 → Q2 v H2) → t E2 (NdefX.startF N [.int i] ws) H1 Q2) : AskL P w K mg base cs (k + 1) H f (.val R) :=
  ⟨_, _, LOk.held (lok_g1 S hb hpe) C, fun H1 s1 => ⟨⟨s1 _ _ lf, s1 _ _ lc, dv.same s1⟩, q H1 s1⟩⟩
theorem sl_listN {CX : CXT} {P : Program} {w : World} {K : PySem.W.Frag} {mg : Str → Option Value} {base : Heap} {N : List Str} {F : _} {f : Addr} {A : Around} {outer : List PySem.Env} {s : Shared} {H : Hp} {E : XK} : SlR (NdefX.ncx CX P w K mg base N F f A outer s H E) (rSlL K) := sl_list


theorem sm_list {K : PySem.W.Frag} {H : Hp} {d : Nat} {a b : Addr} {xs ys : List V} (ha : SqL K H a xs) (hb : SqL K H b ys) (hl : xs.length = ys.length) (h1 : xs.length ≤ 1000) (h : ∀ p ∈ xs.zip ys, Sm K H d p.1 p.2) : Sm K H (d + 1) (.ref a) (.ref b) := by
  refine .inr ⟨a, b, xs, ys, rfl, rfl, by omega, hl, fun i u v e1 e2 => ?_, .inl ⟨ha, hb⟩⟩
  refine h (u, v) (List.mem_of_getElem? (i := i) ?_)
  rw [List.getElem?_zip_eq_some]
  exact ⟨e1, e2⟩
theorem if_join {c : Bool} {A B : TE} {σ : L2.St} {H : Hp} {Q2 : VK} (R : V → Hp → Prop) (hA : c = true → ∀ Q : VK, (∀ v H', R v H' → Q v H') → A σ H Q) (hB : ¬ c = true → ∀ Q : VK, (∀ v H', R v H' → Q v H') → B σ H Q) (q : ∀ v H', R v H' → Q2 v H') : if c = true then A σ H Q2 else B σ H Q2 := by
  by_cases h : c = true
  · rw [if_pos h]
    exact hA h Q2 q
  · rw [if_neg h]
    exact hB h Q2 q
theorem sm_tup2 {K : PySem.W.Frag} {H : Hp} {d : Nat} {a b : Addr} {x1 x2 y1 y2 : V} (ha : SqT K H a [x1, x2]) (hb : SqT K H b [y1, y2]) (h1 : Sm K H d x1 y1) (h2 : Sm K H d x2 y2) : Sm K H (d + 1) (.ref a) (.ref b) :=
  .inr ⟨a, b, [x1, x2], [y1, y2], rfl, rfl, by show 2 ≤ 100000; decide, rfl, fun i u v e1 e2 => by
    match i with
    | 0 => cases e1; cases e2; exact h1
    | 1 => cases e1; cases e2; exact h2
    | i + 2 => (cases e1), .inr ⟨ha, hb⟩⟩
/-- a tuple of small values and another of the same -/
theorem sm_scals {K : PySem.W.Frag} {H : Hp} {d : Nat} {a b : Addr} {us : List V} (ha : SqT K H a us) (hb : SqT K H b us) (hs : ∀ x ∈ us, scalV x = true) (hl : us.length ≤ 1000) : Sm K H (d + 2) (.ref a) (.ref b) :=
  .inr ⟨a, b, us, us, rfl, rfl, by omega, rfl, fun i u v e1 e2 => by
    rw [e1] at e2
    cases e2
    exact .inl ⟨rfl, hs _ (List.mem_of_getElem? e1)⟩, .inr ⟨ha, hb⟩⟩
/-- an error got, and the pair that is due -/
theorem gotl_err {K : PySem.W.Frag} {H H' : Hp} {y : V} {r q : Addr} {code : Str} {us : List V} {d : Nat} (g : GotL H y (.err code us)) (s : Same H H') (h3 : H' r = some (.tup [.str code, .ref q])) (h4 : H' q = some (.tup us)) (hs : ∀ x ∈ us, scalV x = true) (hl : us.length ≤ 1000) : Sm K H' (d + 3) y (.ref r) := by
  obtain ⟨p, t, rfl, h1, h2⟩ := g
  exact sm_tup2 (SqT.of (s _ _ h1)) (SqT.of h3) (.inl ⟨rfl, rfl⟩) (sm_scals (SqT.of (s _ _ h2)) (SqT.of h4) hs hl)


/-- an error got, and the pair that is due; the fields are the same -/
theorem gotl_errS {K : PySem.W.Frag} {H H' : Hp} {y : V} {r q : Addr} {code : Str} {u : V} {d : Nat} (g : GotL H y (.err code [u])) (s : Same H H') (h3 : H' r = some (.tup [.str code, .ref q])) (h4 : H' q = some (.tup [u])) (hs : Sm K H' d u u) : Sm K H' (d + 2) y (.ref r) := by
  obtain ⟨p, t, rfl, h1, h2⟩ := g
  refine sm_tup2 (SqT.of (s _ _ h1)) (SqT.of h3) (.inl ⟨rfl, rfl⟩) (.inr ⟨t, q, [u], [u], rfl, rfl, by show 1 ≤ 100000; decide, rfl, fun i x v e1 e2 => ?_, .inr ⟨SqT.of (s _ _ h2), SqT.of h4⟩⟩)
  match i with
  | 0 =>
    cases e1
    cases e2
    exact hs
  | i + 1 => cases e1
theorem sm_pairL {K : PySem.W.Frag} {H : Hp} {d : Nat} {a b : Addr} {x1 x2 y1 y2 : V} (ha : SqL K H a [x1, x2]) (hb : SqL K H b [y1, y2]) (h1 : Sm K H d x1 y1) (h2 : Sm K H d x2 y2) : Sm K H (d + 1) (.ref a) (.ref b) := by
  refine .inr ⟨a, b, [x1, x2], [y1, y2], rfl, rfl, (by show 2 ≤ 100000; decide), rfl, fun i u v e1 e2 => ?_, .inl ⟨ha, hb⟩⟩
  match i, e1, e2 with
  | 0, e1, e2 => cases e1; cases e2; exact h1
  | 1, e1, e2 => cases e1; cases e2; exact h2
  | i + 2, e1, e2 => simp at e1
theorem natL_scal (ns : List Nat) : (natL ns).all scalV = true := by
  rw [List.all_eq_true]
  intro v hv
  obtain ⟨b, _, rfl⟩ := List.mem_map.mp hv
  rfl

/-- Circuit(al, r) of good lines -/
theorem mkC_use (T : Env K mg) {H : Hp} {x dx r : Addr} {al : Str} {cls : List CL} {Q : VK} {E : XK} (hx : H x = none) (hd : H dx = none) (ne : dx ≠ x) (hC : CLsA H r cls) (hA : Alpha al.cps.toList) (O : COk al.length cls) (h1 : 1 ≤ cls.length) (h2 : cls.length ≤ 4000) (lk : lkC cls (cls.length - 1) = false)
    (q : ∀ H', Same H H' → CircAt T.C_Circuit T.C_Steps H' x al cls → Q .non H') : spCInit T.C_Circuit T.C_Steps [.ref x, .str al, .ref r] (upd (upd H dx (.own x)) x (.ins T.C_Circuit dx [])) Q E := by
  have sA : Same H (upd (upd H dx (.own x)) x (.ins T.C_Circuit dx [])) := (same_upd hd).trans (same_upd (by rw [upd_ne ne.symm]; exact hx))
  exact ⟨x, dx, r, al, cls, rfl, upd_same, hC.same sA, hA, O, ⟨h1, h2⟩, lk, fun H' k M _ => q H' (fun c o h => k c o (ne_of_none h hx) (sA c o h)) M⟩

theorem cut_take {xs : List V} {i : Nat} : cutV xs none (some (i : Int)) = xs.take i := by
  unfold cutV
  rw [show HT.sIx xs.length xs.length (some (i : Int)) = min i xs.length from HT.sIx_nat _ _ i, HT.sIx_none]
  show xs.take (min i xs.length - 0) = _
  rw [Nat.sub_zero, List.take_eq_take_iff]
  omega

theorem lkS_at {cls : List CL} {i : Nat} (h : i < cls.length) : (boolL (lkS cls cls.length))[i]? = some (.bl (lkC cls i)) := by
  have hl := lkS_len (cls := cls) (Nat.le_refl cls.length)
  unfold boolL lkC
  rw [List.getElem?_map, List.getD_eq_getElem?_getD, List.getElem?_eq_getElem (by omega)]
  rfl

def spLaw (K : PySem.W.Frag) (tb : Addr) : Sp := fun vs H Q _ => ∃ (a : Addr) (ns : List Int), vs = [.ref a] ∧ SqL K H a (ns.map V.int) ∧ ns.length ≤ 63 ∧ H tb = some (.tbl #[]) ∧ ∀ H', Q (.bl true) H'
def CodeIs (fd : FuncData) (c : Addr) : Prop := fd.code = .ref c
def qLam : Str := ("law" : Str) ++ ".<locals>." ++ "<lambda>"
def forBody : Stmt → List Stmt
  | .For _ _ b _ _ => b
  | _ => []
abbrev bodyTail (k : Nat) : List Stmt := (forBody ((defBody s_law).getD 1 (.Pass ⟨0, 0, 0, 0⟩))).drop k
abbrev endTail : List Stmt := (defBody s_law).drop 2
/-- what stands within a turn of the law -/
structure Md (PL b l : Addr) (G : Hp) (r sl : Addr) (al : Str) (cls : List CL) : Prop where
  bag : BagAt b l G
  tab : LamX.Tabs [(PL, qLam)] G
  ln : CLs G r cls
  sz : G sl = some (.lst (natL (cls.map (szC al.length))))
  alp : Alpha al.cps.toList
  ok : COk al.length cls
  few : 3 ≤ cls.length ∧ cls.length ≤ 60
  six : ∀ f ∈ cls, szC al.length f ≤ 6
  fst : cls[0]? = some .letter
theorem Md.same {PL b l : Addr} {G G' : Hp} {r sl : Addr} {al : Str} {cls : List CL} (h : Md PL b l G r sl al cls) (s : Same G G') : Md PL b l G' r sl al cls := ⟨h.bag.same s, h.tab.ext s, h.ln.same s, s _ _ h.sz, h.alp, h.ok, h.few, h.six, h.fst⟩
theorem Md.kp {PL b l : Addr} {G G' : Hp} {r sl : Addr} {al : Str} {cls : List CL} (h : Md PL b l G r sl al cls) (k : Kp b G G') (B : BagAt b l G') : Md PL b l G' r sl al cls := ⟨B, tabs_kp h.tab k h.bag, h.ln.keep (.kp k h.bag) (fun o e => k _ _ e fun z => by
  obtain ⟨ps, h1, h2, h3⟩ := h.ln
  rw [z] at h1
  exact h.bag.nlist h1), k _ _ h.sz (fun z => nnatB h.bag (by rw [← z]; exact h.sz)), h.alp, h.ok, h.few, h.six, h.fst⟩
theorem Md.ext {PL b l : Addr} {G G' : Hp} {r sl : Addr} {al : Str} {cls : List CL} (h : Md PL b l G r sl al cls) (e : LamX.ExtN G G') (t : LamX.Tabs [(PL, qLam)] G') : Md PL b l G' r sl al cls := ⟨h.bag.ext e, t, h.ln.keep (fun c xs h => e _ _ h (by intro ps z; cases z)) (fun o ho => by
  obtain ⟨ps, h1, h2, h3⟩ := h.ln
  rw [h1] at ho
  cases ho
  exact e _ _ h1 (by intro ps z; cases z)), e _ _ h.sz (by intro ps z; cases z), h.alp, h.ok, h.few, h.six, h.fst⟩
/-- between two turns of the law -/
def LawSt (PL a b l : Addr) (σ : L2.St) (G : Hp) : Prop := (∃ y2 y3 y4 y5 y6 y7 y8 y9 y10 y11 y12 y13 y14 y15 y16 : Option V, σ = [some (.ref a), some (.ref b), y2, y3, y4, y5, y6, y7, y8, y9, y10, y11, y12, y13, y14, y15, y16]) ∧ BagAt b l G ∧ LamX.Tabs [(PL, qLam)] G
/-- no lines: what is drawn -/
def NoL (b : Addr) (H : Hp) (v : V) : Prop := (∃ p, v = .ref p ∧ p ≠ b ∧ (H p = some (.lst []) ∨ H p = some (.tup []))) ∨ v = .non ∨ v = .int 3 ∨ v = .str "letter"
theorem NoL.kp {b : Addr} {H H' : Hp} {v : V} (h : NoL b H v) (k : Kp b H H') : NoL b H' v := by
  rcases h with ⟨p, e, n, h⟩ | h
  · exact .inl ⟨p, e, n, h.imp (fun h => k _ _ h n) fun h => k _ _ h n⟩
  · exact .inr h
theorem NoL.ext {b : Addr} {H H' : Hp} {v : V} (h : NoL b H v) (e : LamX.ExtN H H') : NoL b H' v := by
  rcases h with ⟨p, e1, n, h⟩ | h
  · exact .inl ⟨p, e1, n, h.imp (fun h => e _ _ h (by intro ps z; cases z)) fun h => e _ _ h (by intro ps z; cases z)⟩
  · exact .inr h
theorem NoL.no {K : PySem.W.Frag} {b : Addr} {H : Hp} {v : V} (h : NoL b H v) : NoRows K H v := by
  rcases h with ⟨p, e, n, h | h⟩ | rfl | rfl | rfl
  · exact .inl ⟨p, e, .inl (SqL.of h)⟩
  · exact .inl ⟨p, e, .inr (SqT.of h)⟩
  · exact .inr ⟨"NoneType", .base .non, by decide +kernel, by decide +kernel⟩
  · exact .inr ⟨"int", .base (.int _), by decide +kernel, by decide +kernel⟩
  · exact .inr ⟨"str", .base (.str _), by decide +kernel, by decide +kernel⟩
theorem COk.take {L : Nat} {cls : List CL} (ok : COk L cls) (n : Nat) : COk L (cls.take n) := fun i f e => by
  have hi := (List.getElem?_eq_some_iff.mp e).1
  rw [List.length_take] at hi
  rw [List.getElem?_take_of_lt (by omega)] at e
  refine (ok i f e).congr fun j hj => ?_
  unfold szAt
  rw [List.getD_eq_getElem?_getD, List.getD_eq_getElem?_getD, List.getElem?_map, List.getElem?_map, List.getElem?_take_of_lt (by omega)]
theorem flat_one {v : V} : ∀ {n : Nat}, (List.replicate n [v]).flatten = List.replicate n v
  | 0 => rfl
  | n + 1 => by rw [List.replicate_succ, List.flatten_cons, flat_one, List.replicate_succ]; rfl
theorem lkS_app {cls c2 : List CL} : ∀ {k : Nat}, k ≤ cls.length → lkS (cls ++ c2) k = lkS cls k
  | 0, _ => rfl
  | k + 1, h => by
    have e : cls[k]? = some (cls[k]'(by omega)) := List.getElem?_eq_getElem _
    have e2 : (cls ++ c2)[k]? = some (cls[k]'(by omega)) := by rw [List.getElem?_append_left (by omega)]; exact e
    rw [lkS_succ e, lkS_succ e2, lkS_app (by omega)]
theorem lkC_app {cls c2 : List CL} {j : Nat} (h : j < cls.length) : lkC (cls ++ c2) j = lkC cls j := by
  unfold lkC
  rw [lkS_getD (k := j + 1) (by omega) (by rw [List.length_append]; omega) (Nat.le_refl _), lkS_app (by omega), lkS_getD (k := j + 1) (m := cls.length) (by omega) (by omega) (Nat.le_refl _)]

variable {K : PySem.W.Frag} {mg : Str → Option Value}

section
variable {P : Program} {w : World} {base : Heap}
theorem law_wrong {cL PL : Addr} (T : Env K mg) (TB : LamX.TabB base mg cL PL) (A : Around) (outer : List PySem.Env) (s : Shared) (H : Hp) (E : XK) (hr : Room 16 (A.deeper (envOfC "law" (defScope s_law) s.heap.objs.size T.f_law (.ref cL))))
    (nd : CellsNd (cxOf CX0 P w K mg base N_law "law" (defScope s_law) T.f_law (.ref cL) A outer s H E).nox.env) (hfn : (cxOf CX0 P w K mg base N_law "law" (defScope s_law) T.f_law (.ref cL) A outer s H E).nox.Ok → ∀ y c, (cxOf CX0 P w K mg base N_law "law" (defScope s_law) T.f_law (.ref cL) A outer s H E).nox.env.cells.lookup y = some c → (cxOf CX0 P w K mg base N_law "law" (defScope s_law) T.f_law (.ref cL) A outer s H E).nox.s_0.heap.objs.size ≤ c) {tN : TS}
    (hN : PSs (cxOf CX0 P w K mg base N_law "law" (defScope s_law) T.f_law (.ref cL) A outer s H E).nox (bodyTail 5) tN) :
    ∃ t, PSs (cxOf CX0 P w K mg base N_law "law" (defScope s_law) T.f_law (.ref cL) A outer s H E).nox (bodyTail 2) t ∧ ∀ (D : Ends) (G : Hp) (a b l r sl : Addr) (al : Str) (cls : List CL) (y2 y6 y7 y8 y9 y10 y11 y12 y13 y14 y15 y16 : Option V),
      (∀ (G' : Hp) (y6 y7 y16 : Option V), Md PL b l G' r sl al cls → tN D [some (.ref a), some (.ref b), y2, some (.str al), some (.ref r), some (.ref sl), y6, y7, y8, y9, y10, y11, y12, y13, y14, y15, y16] G') →
      Md PL b l G r sl al cls → t D [some (.ref a), some (.ref b), y2, some (.str al), some (.ref r), some (.ref sl), y6, y7, y8, y9, y10, y11, y12, y13, y14, y15, y16] G := by
  refine ⟨_, ((pss_cons (ps_set (i := 6) sc_law.nd rfl (.inl rfl) (pe_op op_add pe_int (pe_call (ok_pull T) (hr.mono (by decide)) (by rfl) T.g_pull T.F_pull.kp T.b_pull .nil pass0 (pa_cons (pv 1) (pa_cons (pe_op op_sub (pe_callB call_len_seq (by rfl) T.z_len (by decide +kernel) (pa_cons (pv 4) pa_nil)) pe_int) pa_nil)))))
      (pss_cons (ps_set (i := 7) sc_law.nd rfl (.inr rfl) (pe_op op_cat (pe_op op_cat (pe_slice sl_list (pv 4) po_none (po_some (pv 6))) (pe_lst (pa_cons (pe_call (ok_wrong_line T) (hr.mono (by decide)) (by rfl) T.g_wrong_line T.F_wrong_line.kp T.b_wrong_line .nil pass0 (pa_cons (pv 1) (pa_cons (pe_slice sl_list (pv 5) po_none (po_some (pv 6))) pa_nil))) pa_nil))) (pe_slice sl_list (pv 4) (po_some (pe_op op_add (pv 6) pe_int)) po_none)))
      (pss_cons (ps_if (pt_not (pt_val (pe_call (ok_same T 5) (hr.mono (by decide)) (by rfl) T.g_same T.F_same.kp T.b_same .nil pass0 (pa_cons (pe_callX (k := 11) (hr.mono (by decide)) (by rfl) T.g_got T.F_got.kp T.b_got pass0 nd hfn (pa_cons (pe_lm (T := [(PL, qLam)]) TB rfl (List.mem_singleton.mpr rfl) (fun _ h _ => congrArg Prod.snd (List.mem_singleton.mp h)) (free_by (sc := defScope s_law) (by decide +kernel)) rfl) pa_nil)) (pa_cons (pe_tup (pa_cons pe_str (pa_cons (pe_tup (pa_cons (pv 6) pa_nil)) pa_nil))) pa_nil)))))
      (pss_one (ps_ret pe_bl))
      pss_nil)
      hN)))), ?_⟩
  rintro ⟨dn, dr, db, dc⟩ G a b l r sl al cls y2 y6 y7 y8 y9 y10 y11 y12 y13 y14 y15 y16 go M
  have few := M.few
  obtain ⟨ps0, h1, h2, -⟩ := id M.ln
  walk_at "nn2"
  refine ⟨r, _, rfl, .inl (SqL.of h1), ?_⟩
  rw [List.length_map, h2]
  clear h1 h2
  walk_at "nn2"
  refine ⟨b, l, _, rfl, M.bag, by omega, by omega, fun k G1 k0 k1 B1 kp1 => ?_⟩
  replace M := M.kp kp1 B1
  clear kp1 B1
  obtain ⟨an, han⟩ : ∃ an : Nat, 1 + k = (an : Int) := ⟨(1 + k).toNat, by omega⟩
  have a1 : 1 ≤ an ∧ an + 1 ≤ cls.length := by omega
  refine ⟨_, _, rfl, rfl, ?_⟩
  show gName 6 (V.int (1 + k)) _ _ _
  rw [han]
  clear k0 k1 han
  obtain ⟨ps, h1, h2, h3⟩ := id M.ln
  walk_at "nn2"
  refine ⟨r, _, rfl, SqL.of h1, fun D1 nD1 => ?_⟩
  rw [cut_take, ← List.map_take]
  have s1 := same_upd (o := .lst ((ps.take an).map V.ref)) nD1
  have d1b : D1 ≠ b := M.bag.nb nD1
  have e1 := upd_same (H := G1) (a := D1) (o := .lst ((ps.take an).map V.ref))
  replace M := M.same s1
  replace h1 := s1 _ _ h1
  replace h3 : ∀ (i : Nat) (p : Addr) (f : CL), ps[i]? = some p → cls[i]? = some f → CLAt (upd G1 D1 (.lst ((ps.take an).map V.ref))) p f := fun i p f x y => (h3 i p f x y).same s1
  clear s1 nD1
  generalize upd G1 D1 (.lst ((ps.take an).map V.ref)) = G2 at *
  walk_at "nn2"
  refine ⟨sl, _, rfl, SqL.of M.sz, fun D2 nD2 => ?_⟩
  rw [cut_take, show (natL (cls.map (szC al.length))).take an = natL ((cls.take an).map (szC al.length)) by unfold natL; rw [← List.map_take, ← List.map_take]]
  have s2 := same_upd (o := .lst (natL ((cls.take an).map (szC al.length)))) nD2
  have e2 := upd_same (H := G2) (a := D2) (o := .lst (natL ((cls.take an).map (szC al.length))))
  replace M := M.same s2
  replace h1 := s2 _ _ h1
  replace e1 := s2 _ _ e1
  replace h3 : ∀ (i : Nat) (p : Addr) (f : CL), ps[i]? = some p → cls[i]? = some f → CLAt (upd G2 D2 (.lst (natL ((cls.take an).map (szC al.length))))) p f := fun i p f x y => (h3 i p f x y).same s2
  clear s2 nD2
  generalize upd G2 D2 (.lst (natL ((cls.take an).map (szC al.length)))) = G3 at *
  have okt := M.ok.take an
  have tl : ((cls.take an).map (szC al.length)).length = an := by rw [List.length_map, List.length_take]; omega
  have al4 : al.length ≤ 4 := by rw [len_tl]; exact M.alp.2.1
  have al1 : 1 ≤ al.length := by rw [len_tl]; exact M.alp.1
  walk_at "nn2"
  refine ⟨b, l, D2, _, rfl, M.bag, e2, by omega, by omega, fun j hj => ?_, fun u d G4 hu bu B4 k4 => ?_⟩
  · rw [tl] at hj
    have ej : (cls.take an)[j]? = some ((cls.take an)[j]'(by rw [List.length_take]; omega)) := List.getElem?_eq_getElem _
    show 1 ≤ szAt al.length (cls.take an) j ∧ szAt al.length (cls.take an) j ≤ 7
    refine ⟨okt.posAt al1 (by rw [List.length_take]; omega), ?_⟩
    rw [szAt_of ej]
    have := M.six _ (List.mem_of_mem_take (List.getElem_mem (by rw [List.length_take]; omega : j < (cls.take an).length)))
    omega
  have rb : r ≠ b := fun z => M.bag.nlist (by rw [← z]; exact h1)
  have tk := TupKeep.kp k4 M.bag
  replace h1 := k4 _ _ h1 rb
  replace e1 := k4 _ _ e1 d1b
  replace h3 : ∀ (i : Nat) (p : Addr) (f : CL), ps[i]? = some p → cls[i]? = some f → CLAt G4 p f := fun i p f x y => (h3 i p f x y).keep tk
  replace M := M.kp k4 B4
  clear k4 B4 tk e2
  walk_at "nn2"
  intro D3 nD3
  have s3 := same_upd (o := .lst [u]) nD3
  have e3 := upd_same (H := G4) (a := D3) (o := .lst [u])
  replace M := M.same s3
  replace h1 := s3 _ _ h1
  replace e1 := s3 _ _ e1
  replace h3 : ∀ (i : Nat) (p : Addr) (f : CL), ps[i]? = some p → cls[i]? = some f → CLAt (upd G4 D3 (.lst [u])) p f := fun i p f x y => (h3 i p f x y).same s3
  replace hu := hu.same s3
  clear s3 nD3
  generalize upd G4 D3 (.lst [u]) = G5 at *
  walk_at "nn2"
  have pt : ((ps.take an).map V.ref).length = an := by rw [List.length_map, List.length_take]; omega
  refine ⟨D1, D3, _, _, rfl, rfl, e1, e3, sz (by rw [pt]; show an + 1 ≤ 100000; omega), fun D4 nD4 => ?_⟩
  have s4 := same_upd (o := .lst ((ps.take an).map V.ref ++ [u])) nD4
  have e4 := upd_same (H := G5) (a := D4) (o := .lst ((ps.take an).map V.ref ++ [u]))
  replace M := M.same s4
  replace h1 := s4 _ _ h1
  replace h3 : ∀ (i : Nat) (p : Addr) (f : CL), ps[i]? = some p → cls[i]? = some f → CLAt (upd G5 D4 (.lst ((ps.take an).map V.ref ++ [u]))) p f := fun i p f x y => (h3 i p f x y).same s4
  replace hu := hu.same s4
  clear s4 nD4 e1 e3
  generalize upd G5 D4 (.lst ((ps.take an).map V.ref ++ [u])) = G6 at *
  walk_at "nn2"
  refine ⟨r, _, rfl, SqL.of h1, fun D5 nD5 => ?_⟩
  rw [show ((an : Int) + 1) = ((an + 1 : Nat) : Int) from rfl, cut_drop, ← List.map_drop]
  have s5 := same_upd (o := .lst ((ps.drop (an + 1)).map V.ref)) nD5
  have e5 := upd_same (H := G6) (a := D5) (o := .lst ((ps.drop (an + 1)).map V.ref))
  replace M := M.same s5
  replace e4 := s5 _ _ e4
  replace h3 : ∀ (i : Nat) (p : Addr) (f : CL), ps[i]? = some p → cls[i]? = some f → CLAt (upd G6 D5 (.lst ((ps.drop (an + 1)).map V.ref))) p f := fun i p f x y => (h3 i p f x y).same s5
  replace hu := hu.same s5
  clear s5 nD5 h1
  generalize upd G6 D5 (.lst ((ps.drop (an + 1)).map V.ref)) = G7 at *
  refine ⟨D4, D5, _, _, rfl, rfl, e4, e5, sz (by rw [List.length_append, pt, List.length_map, List.length_drop]; show an + 1 + (ps.length - (an + 1)) ≤ 100000; omega), fun D6 nD6 => ?_⟩
  obtain ⟨xs, hxs⟩ : ∃ xs, xs = (ps.take an).map V.ref ++ [u] ++ (ps.drop (an + 1)).map V.ref := ⟨_, rfl⟩
  have xl : xs.length = cls.length := by
    rw [hxs, List.length_append, List.length_append, pt, List.length_map, List.length_drop]
    show an + 1 + (ps.length - (an + 1)) = _
    omega
  have xu : xs[an]? = some u := by
    rw [hxs, List.append_assoc, List.getElem?_append_right (by omega), pt, Nat.sub_self]
    rfl
  rw [← hxs]
  have s6 := same_upd (o := .lst xs) nD6
  have e6 := upd_same (H := G7) (a := D6) (o := .lst xs)
  replace M := M.same s6
  have xg : ∀ (i : Nat) (f : CL), (cls.take an)[i]? = some f → ∃ p, xs[i]? = some (.ref p) ∧ CLAt (upd G7 D6 (.lst xs)) p f := fun i f e => by
    have hi := (List.getElem?_eq_some_iff.mp e).1
    rw [List.length_take] at hi
    rw [List.getElem?_take_of_lt (by omega)] at e
    obtain ⟨qi, ep⟩ : ∃ qi, ps[i]? = some qi := ⟨_, List.getElem?_eq_getElem (by omega)⟩
    refine ⟨qi, ?_, (h3 i _ f ep e).same s6⟩
    rw [hxs, List.append_assoc, List.getElem?_append_left (by omega), List.getElem?_map, List.getElem?_take_of_lt (by omega), ep]
    rfl
  replace hu := hu.same s6
  clear s6 nD6 e4 e5 h3 hxs
  show gName 7 _ _ (upd G7 D6 (.lst xs)) _
  generalize upd G7 D6 (.lst xs) = G8 at *
  have tb8 := M.tab
  walk_at "nn2"
  intro f1 c1 G9 x1 _ tb1 _ lf1 lc1
  clear tb8
  replace M := M.ext x1 tb1
  have e9 := x1 _ _ e6 (by intro ps z; cases z)
  have du := dq_dp _ _ hu
  have du9 : Dp K G9 u d := dp_mono (fun _ _ h => seq_ext x1 h) (fun _ _ h => tup_ext x1 h) d u du
  have xg9 : ∀ (i : Nat) (f : CL), (cls.take an)[i]? = some f → ∃ p, xs[i]? = some (.ref p) ∧ CLAt G9 p f := fun i f e => by
    obtain ⟨p, e1, e2⟩ := xg i f e
    exact ⟨p, e1, e2.keep fun c ys h => x1 _ _ h (by intro ps z; cases z)⟩
  clear x1 tb1 e6 hu du xg
  walk_at "nn2"
  refine gotl_x (X := (cxOf CX0 P w K mg base N_law "law" (defScope s_law) T.f_law (.ref cL) A outer s H E).nox) T 9 fun bs g => ?_
  refine ⟨f1, _, _, rfl, LOk.held (lok_g0 (P := P) (w := w) (N := ["_law_signs_here", "_law_wrong"]) (fr := ["_law_signs_here", "_law_wrong"]) (NdefX.nscope_by (by kernel_rfl)) (fun _ _ _ => rfl) (fun A outer s H E hr => (pe_make T.k_Circuit___init (ok_Circuit___init T) (hr.mono (by decide)) (by rfl) T.gC_Circuit T.b_Circuit___init .nil (passE (takes_of rfl rfl rfl rfl)) (pa_cons (pv 0) (pa_cons (pv 1) pa_nil))))) (g.cells _ _ [3, 7] (NdefX.Caps.made g.ok (free_by (sc := defScope s_law) (by decide +kernel)) (by decide +kernel) rfl)), fun H7 s7 => ⟨⟨s7 _ _ lf1, s7 _ _ lc1, .inl ⟨rfl, rfl⟩⟩, fun Q2 E2 hQ hE => ?_⟩⟩
  walk_at "nn2"
  intro m dx nm ndx nem
  have sA : Same H7 (upd (upd H7 dx (.own m)) m (.ins T.C_Circuit dx [])) := (same_upd ndx).trans (same_upd (by rw [upd_ne nem.symm]; exact nm))
  have s7A := s7.trans sA
  refine .inr ⟨m, dx, .str al, .ref D6, rfl, upd_same, .inr ⟨al, rfl, M.alp, .inr ⟨D6, xs, rfl, .inl (s7A _ _ e9), by omega, by omega, .inr ⟨by omega, cls.take an, fun i f e => ?_, okt, .inr ⟨u, d, ?_, dp_same du9 s7A, bu, fun dd H8 s8 e8 => ?_⟩⟩⟩⟩⟩
  · obtain ⟨p, x1, x2⟩ := xg9 i f e
    exact ⟨p, x1, x2.same s7A⟩
  · rw [List.length_take, Nat.min_eq_left (by omega)]
    exact xu
  have lt : (cls.take an).length = an := by rw [List.length_take]; omega
  rw [lt] at e8
  refine hE _ _ _ ⟨T.e_InvalidLine, "InvalidLine", [.int (an : Nat)], .inl ⟨"at", _, rfl, .inr (.inl ⟨by decide +kernel, rfl⟩), T.C_InvalidLine, dd, rfl, T.y_InvalidLine, T.n_InvalidLine_code, T.n_InvalidLine_at, rfl, e8⟩, fun p3 t3 H9 e3 e4 s9 => ?_⟩
  have S9 := s7A.trans (s8.trans s9)
  have M9 := M.same S9
  clear M S9 lf1 lc1 hE hQ g s7A sA s8 s9 nm ndx nem e8 e9 du9 xg9
  walk_at "nn2"
  intro q1 nq1
  have v1 := same_upd (o := .tup [.int (an : Nat)]) nq1
  have hq1 := upd_same (H := H9) (a := q1) (o := .tup [.int (an : Nat)])
  walk_at "nn2"
  intro r1 nr1
  have v2 := same_upd (o := .tup [.str "InvalidLine", .ref q1]) nr1
  have hr1 := upd_same (H := upd H9 q1 (.tup [.int (an : Nat)])) (a := r1) (o := .tup [.str "InvalidLine", .ref q1])
  have hq2 := v2 _ _ hq1
  have S := v1.trans v2
  clear v1 v2 hq1 nq1 nr1
  generalize upd (upd H9 q1 (.tup [.int (an : Nat)])) r1 (.tup [.str "InvalidLine", .ref q1]) = G7 at *
  walk_at "nn2"
  refine ⟨.ref p3, .ref r1, rfl, gotl_errS (d := 3) ⟨p3, t3, rfl, e3, e4⟩ S hr1 hq2 (.inl ⟨rfl, rfl⟩), fun H11 s11 => ?_⟩
  have M11 := M9.same (S.trans s11)
  clear M9 S s11 e3 e4 hr1 hq2
  walk_at "nn2"
  exact go _ _ _ _ M11
end

variable {K : PySem.W.Frag} {mg : Str → Option Value}

section
variable {P : Program} {w : World} {base : Heap}
theorem law_more {cL PL : Addr} (T : Env K mg) (A : Around) (outer : List PySem.Env) (s : Shared) (H : Hp) (E : XK) (hr : Room 16 (A.deeper (envOfC "law" (defScope s_law) s.heap.objs.size T.f_law (.ref cL))))
    {tN : TS}
    (hM : PSs (cxOf CX0 P w K mg base N_law "law" (defScope s_law) T.f_law (.ref cL) A outer s H E).nox (bodyTail 9) tN) :
    ∃ t, PSs (cxOf CX0 P w K mg base N_law "law" (defScope s_law) T.f_law (.ref cL) A outer s H E).nox (bodyTail 5) t ∧ ∀ (D : Ends) (G : Hp) (a b l r sl : Addr) (al : Str) (cls : List CL) (y2 y6 y7 y8 y9 y10 y11 y12 y13 y14 y15 y16 : Option V),
      (∀ (G' : Hp) (mr : Addr) (f : CL) (u : V) (y8 y9 y16 : Option V), Md PL b l G' r sl al cls → CLs G' mr (cls ++ [f]) → COk al.length (cls ++ [f]) → lkC (cls ++ [f]) cls.length = true → NoL b G' u → tN D [some (.ref a), some (.ref b), y2, some (.str al), some (.ref r), some (.ref sl), y6, y7, y8, y9, some (.ref mr), some u, y12, y13, y14, y15, y16] G') →
      Md PL b l G r sl al cls → t D [some (.ref a), some (.ref b), y2, some (.str al), some (.ref r), some (.ref sl), y6, y7, y8, y9, y10, y11, y12, y13, y14, y15, y16] G := by
  refine ⟨_, ((pss_cons (ps_setLc (i := 8) (own := [("_law_k", 16)]) (g := (gName 16)) (tt := (tB (tOp (rIxL K) _ _))) rfl sc_law.nd rfl rfl (sw_true rfl rfl rfl (by decide +kernel)) (pi_range1 (by rfl) T.z_range (pa_cons (pe_callB call_len_seq (by rfl) T.z_len (by decide +kernel) (pa_cons (pv 4) pa_nil)) pa_nil)) (blkOk_by (own := [("_law_k", 16)]) (N := N_law) (sc := defScope s_law) (by decide +kernel)) (fun _ _ _ _ _ => (pg_name (i := 16) sc_law.nd rfl (.inl rfl))) (fun _ _ _ _ _ => (pts_one (pt_val (pe_ix ix_list (pe_call (ok_looking T) (hr.mono (by decide)) (by rfl) T.g_looking T.F_looking.kp T.b_looking .nil pass0 (pa_cons (pv 4) pa_nil)) (pv 16) (fun _ _ => rfl))))) (fun _ _ _ _ _ => (pv 16)))
      (pss_cons (ps_set (i := 9) sc_law.nd rfl (.inl rfl) (pe_call (ok_of T) (hr.mono (by decide)) (by rfl) T.g_of T.F_of.kp T.b_of .nil pass0 (pa_cons (pv 1) (pa_cons (pv 8) pa_nil))))
      (pss_cons (ps_set (i := 10) sc_law.nd rfl (.inr rfl) (pe_op op_cat (pv 4) (pe_lst (pa_cons (pe_call (ok_of T) (hr.mono (by decide)) (by rfl) T.g_of T.F_of.kp T.b_of .nil pass0 (pa_cons (pv 1) (pa_cons (pe_lst (pa_cons (pe_tup (pa_cons pe_str pa_nil)) (pa_cons (pe_tup (pa_cons pe_str (pa_cons (pv 9) (pa_cons (pe_op op_repA (pe_tup (pa_cons pe_int pa_nil)) (pe_ix ix_list (pv 5) (pv 9) (fun _ _ => rfl))) pa_nil)))) (pa_cons (pe_tup (pa_cons pe_str (pa_cons (pv 9) (pa_cons pe_int (pa_cons (pe_op op_repA (pe_tup (pa_cons (pe_op op_repA (pe_tup (pa_cons pe_int pa_nil)) (pe_ix ix_list (pv 5) pe_int (fun _ _ => rfl))) pa_nil)) (pe_ix ix_list (pv 5) (pv 9) (fun _ _ => rfl))) pa_nil))))) pa_nil)))) pa_nil))) pa_nil))))
      (pss_cons (ps_set (i := 11) sc_law.nd rfl (.inr rfl) (pe_call (ok_of T) (hr.mono (by decide)) (by rfl) T.g_of T.F_of.kp T.b_of .nil pass0 (pa_cons (pv 1) (pa_cons (pe_lst (pa_cons (pe_lst pa_nil) (pa_cons (pe_tup pa_nil) (pa_cons pe_non (pa_cons pe_int (pa_cons pe_str pa_nil)))))) pa_nil))))
      hM))))), ?_⟩
  rintro ⟨dn, dr, db, dc⟩ G a b l r sl al cls y2 y6 y7 y8 y9 y10 y11 y12 y13 y14 y15 y16 go M
  have few := M.few
  obtain ⟨ps0, h1, h2, -⟩ := id M.ln
  walk_at "nn2"
  refine ⟨r, _, rfl, .inl (SqL.of h1), ?_⟩
  rw [List.length_map, h2]
  clear h1 h2
  obtain ⟨nz, hnz⟩ : ∃ nz : Int, nz = (cls.length : Int) := ⟨_, rfl⟩
  rw [← hnz]
  walk_at "nn2"
  intro D hD
  have ll := lkS_len (cls := cls) (Nat.le_refl cls.length)
  refine lc_fil walk_range (fun H' => Same G H') (filV (List.range cls.length) (lkC cls) fun a => V.int (a : Nat)) (by omega) (same_upd hD) (fun _ _ => trivial) (fun _ _ h => same_mut h hD) ?_ ?_
  · rintro i x H1 H2 Q1 Qn hi hI ⟨rfl, rfl⟩ ⟨o, ho⟩ hQ hN
    have hi2 : i < cls.length := by omega
    have e0 : (0 : Int) + (i : Int) = ((i : Nat) : Int) := by omega
    show gName 16 (V.int (0 + (i : Int))) _ _ _
    rw [e0]
    walk_at "nn2"
    refine ⟨r, _, cls, rfl, M.ln.same hI, M.ok, by omega, fun p H3 hp np s3 => ?_⟩
    walk_at "nn2"
    refine ⟨p, _, _, _, rfl, rfl, SqL.of hp, atI_nat (lkS_at hi2), ?_⟩
    cases hc : lkC cls i with
    | true =>
      walk_at "nn2"
      exact hQ _ _ (by rw [filV_at (List.getElem?_range hi2), hc]; rfl) (hI.trans s3) fun o h => s3 _ _ h
    | false =>
      walk_at "nn2"
      exact hN _ (by rw [filV_at (List.getElem?_range hi2), hc]; rfl) (hI.trans s3) fun o h => s3 _ _ h
  · intro H2 s2 hy
    have hy : H2 D = some (.lst (natL ((List.range cls.length).filter (lkC cls)))) := by
      rw [hy, show nz.toNat = cls.length by omega]
      have := fil_list (List.range cls.length) (lkC cls) fun a => V.int (a : Nat)
      rw [List.length_range] at this
      rw [this]
      rfl
    have M2 := M.same s2
    have Db : D ≠ b := M.bag.nb hD
    have e0 : cls[0]? = some .letter := M.fst
    have l0 : lkC cls 0 = true := by rw [lkC_eq e0 (M.ok 0 _ e0)]
    have m0 : 0 ∈ (List.range cls.length).filter (lkC cls) := List.mem_filter.mpr ⟨List.mem_range.mpr (by omega), l0⟩
    have fl : ((List.range cls.length).filter (lkC cls)).length ≤ cls.length := by
      have := List.length_filter_le (lkC cls) (List.range cls.length)
      rw [List.length_range] at this
      exact this
    clear M hD s2
    walk_at "nn2"
    refine ⟨b, l, _, rfl, M2.bag, .inl ⟨D, _, rfl, Db, .inl (SqL.of hy), (by
      intro z
      have z2 := congrArg List.length z
      rw [natL_len] at z2
      have := List.length_pos_of_mem m0
      simp at z2
      rw [List.length_eq_zero_iff.mpr (by simpa using z2)] at this
      omega), by rw [natL_len]; omega, fun u H3 hu B3 k3 => ?_⟩⟩
    obtain ⟨j, hj, rfl⟩ := List.mem_map.mp hu
    obtain ⟨j1, lj⟩ := List.mem_filter.mp hj
    have jl := List.mem_range.mp j1
    have M3 := M2.kp k3 B3
    clear M2 k3 B3 hu hj j1 m0 hy Db fl
    have al4 : al.length ≤ 4 := by rw [len_tl]; exact M3.alp.2.1
    have al1 : 1 ≤ al.length := by rw [len_tl]; exact M3.alp.1
    have szb : ∀ i < cls.length, 1 ≤ szAt al.length cls i ∧ szAt al.length cls i ≤ 6 := fun i hi => by
      have ei : cls[i]? = some (cls[i]'hi) := List.getElem?_eq_getElem _
      refine ⟨M3.ok.posAt al1 hi, ?_⟩
      rw [szAt_of ei]
      exact M3.six _ (List.getElem_mem hi)
    obtain ⟨sj, hsj⟩ : ∃ sj, sj = szAt al.length cls j := ⟨_, rfl⟩
    obtain ⟨sz0, hs0⟩ : ∃ sz0, sz0 = szAt al.length cls 0 := ⟨_, rfl⟩
    have bj := szb j jl
    have b0 := szb 0 (by omega)
    rw [← hsj] at bj
    rw [← hs0] at b0
    have mj : (natL (cls.map (szC al.length)))[j]? = some (.int (sj : Nat)) := by rw [natL_at (by rw [List.length_map]; exact jl), hsj]; rfl
    have mz : (natL (cls.map (szC al.length)))[0]? = some (.int (sz0 : Nat)) := by rw [natL_at (by rw [List.length_map]; omega), hs0]; rfl
    walk_at "nn2"
    intro p1 np1
    have u1 := same_upd (o := .tup [.str "letter"]) np1
    have hp1 := upd_same (H := H3) (a := p1) (o := .tup [.str "letter"])
    have M4 := M3.same u1
    clear M3 u1 np1
    generalize upd H3 p1 (.tup [.str "letter"]) = H4 at *
    walk_at "nn2"
    intro q0 nq0
    have u2 := same_upd (o := .tup [.int 1]) nq0
    have hq0 := upd_same (H := H4) (a := q0) (o := .tup [.int 1])
    have M5 := M4.same u2
    replace hp1 := u2 _ _ hp1
    clear M4 u2 nq0
    generalize upd H4 q0 (.tup [.int 1]) = H5 at *
    walk_at "nn2"
    refine ⟨sl, _, _, _, rfl, rfl, SqL.of M5.sz, atI_nat mj, ?_⟩
    refine ⟨q0, _, _, rfl, rfl, hq0, by simp, by omega, by omega, by show 1 ≤ 1000; decide, fun q1 H6 hq1 u3 => ?_⟩
    rw [flat_one, show ((sj : Nat) : Int).toNat = sj from rfl] at hq1
    have M6 := M5.same u3
    replace hp1 := u3 _ _ hp1
    clear M5 u3 hq0
    walk_at "nn2"
    intro p2 np2
    have u4 := same_upd (o := .tup [.str "wire", .int (j : Nat), .ref q1]) np2
    have hp2 := upd_same (H := H6) (a := p2) (o := .tup [.str "wire", .int (j : Nat), .ref q1])
    have M7 := M6.same u4
    replace hp1 := u4 _ _ hp1
    replace hq1 := u4 _ _ hq1
    clear M6 u4 np2
    generalize upd H6 p2 (.tup [.str "wire", .int (j : Nat), .ref q1]) = H7 at *
    walk_at "nn2"
    intro z0 nz0
    have u5 := same_upd (o := .tup [.int 0]) nz0
    have hz0 := upd_same (H := H7) (a := z0) (o := .tup [.int 0])
    have M8 := M7.same u5
    replace hp1 := u5 _ _ hp1
    replace hp2 := u5 _ _ hp2
    replace hq1 := u5 _ _ hq1
    clear M7 u5 nz0
    generalize upd H7 z0 (.tup [.int 0]) = H8 at *
    walk_at "nn2"
    refine ⟨sl, _, 0, _, rfl, rfl, SqL.of M8.sz, (show atI _ ((0 : Nat) : Int) = _ from atI_nat mz), ?_⟩
    refine ⟨z0, _, _, rfl, rfl, hz0, by simp, by omega, by omega, by show 1 ≤ 1000; decide, fun z1 H9 hz1 u6 => ?_⟩
    rw [flat_one, show ((sz0 : Nat) : Int).toNat = sz0 from rfl] at hz1
    have M9 := M8.same u6
    replace hp1 := u6 _ _ hp1
    replace hp2 := u6 _ _ hp2
    replace hq1 := u6 _ _ hq1
    clear M8 u6 hz0
    walk_at "nn2"
    intro z2 nz2
    have u7 := same_upd (o := .tup [.ref z1]) nz2
    have hz2 := upd_same (H := H9) (a := z2) (o := .tup [.ref z1])
    have M10 := M9.same u7
    replace hp1 := u7 _ _ hp1
    replace hp2 := u7 _ _ hp2
    replace hq1 := u7 _ _ hq1
    replace hz1 := u7 _ _ hz1
    clear M9 u7 nz2
    generalize upd H9 z2 (.tup [.ref z1]) = H10 at *
    walk_at "nn2"
    refine ⟨sl, _, _, _, rfl, rfl, SqL.of M10.sz, atI_nat mj, ?_⟩
    refine ⟨z2, _, _, rfl, rfl, hz2, by simp, by omega, by omega, by show 1 ≤ 1000; decide, fun z3 H11 hz3 u8 => ?_⟩
    rw [flat_one, show ((sj : Nat) : Int).toNat = sj from rfl] at hz3
    have M11 := M10.same u8
    replace hp1 := u8 _ _ hp1
    replace hp2 := u8 _ _ hp2
    replace hq1 := u8 _ _ hq1
    replace hz1 := u8 _ _ hz1
    clear M10 u8 hz2
    walk_at "nn2"
    intro p3 np3
    have u9 := same_upd (o := .tup [.str "join", .int (j : Nat), .int 0, .ref z3]) np3
    have hp3 := upd_same (H := H11) (a := p3) (o := .tup [.str "join", .int (j : Nat), .int 0, .ref z3])
    have M12 := M11.same u9
    replace hp1 := u9 _ _ hp1
    replace hp2 := u9 _ _ hp2
    replace hq1 := u9 _ _ hq1
    replace hz1 := u9 _ _ hz1
    replace hz3 := u9 _ _ hz3
    clear M11 u9 np3
    generalize upd H11 p3 (.tup [.str "join", .int (j : Nat), .int 0, .ref z3]) = H12 at *
    walk_at "nn2"
    intro D5 nD5
    have u10 := same_upd (o := .lst [.ref p1, .ref p2, .ref p3]) nD5
    have hD5 := upd_same (H := H12) (a := D5) (o := .lst [.ref p1, .ref p2, .ref p3])
    have D5b : D5 ≠ b := M12.bag.nb nD5
    have M13 := M12.same u10
    replace hp1 := u10 _ _ hp1
    replace hp2 := u10 _ _ hp2
    replace hp3 := u10 _ _ hp3
    replace hq1 := u10 _ _ hq1
    replace hz1 := u10 _ _ hz1
    replace hz3 := u10 _ _ hz3
    clear M12 u10 nD5
    generalize upd H12 D5 (.lst [.ref p1, .ref p2, .ref p3]) = H13 at *
    walk_at "nn2"
    refine ⟨b, l, _, rfl, M13.bag, .inl ⟨D5, _, rfl, D5b, .inl (SqL.of hD5), (by intro z; cases z), (by show 3 ≤ 100000; decide), fun u5 H14 hu5 B14 k14 => ?_⟩⟩
    obtain ⟨pf, f, rfl, hf, okf, lkf⟩ : ∃ pf f, u5 = .ref pf ∧ CLAt H13 pf f ∧ COk al.length (cls ++ [f]) ∧ lkC (cls ++ [f]) cls.length = true := by
      have lkA : ∀ f : CL, COk al.length (cls ++ [f]) → (f = .letter ∨ j ∈ rf1 f) → lkC (cls ++ [f]) cls.length = true := fun f okf h => by
        have e : (cls ++ [f])[cls.length]? = some f := by simp
        rw [lkC_eq e (okf _ _ e)]
        have hA : j ∈ rf1 f → ((rf1 f).any (lkC (cls ++ [f]))) = true := fun h => List.any_eq_true.mpr ⟨j, h, by rw [lkC_app jl]; exact lj⟩
        rcases h with rfl | h
        · rfl
        · cases f <;> first | rfl | exact hA h
      simp only [List.mem_cons, List.not_mem_nil, or_false] at hu5
      rcases hu5 with rfl | rfl | rfl
      · have ok := M13.ok.snoc (f := .letter) trivial
        exact ⟨p1, .letter, rfl, hp1, ok, lkA _ ok (.inl rfl)⟩
      · have ok := M13.ok.snoc (f := .wire j (List.replicate sj 1)) ⟨jl, by rw [List.length_replicate, hsj], fun x hx => by rw [List.eq_of_mem_replicate hx]; decide⟩
        exact ⟨p2, .wire j (List.replicate sj 1), rfl, ⟨q1, hp2, by rw [hq1]; unfold natL; rw [List.map_replicate]; rfl⟩, ok, lkA _ ok (.inr (List.mem_singleton.mpr rfl))⟩
      · have ok := M13.ok.snoc (f := .join j 0 (List.replicate sj (List.replicate sz0 0))) ⟨jl, by omega, by rw [List.length_replicate, hsj], fun row hr => by rw [List.eq_of_mem_replicate hr]; exact ⟨by rw [List.length_replicate, hs0], fun x hx => by rw [List.eq_of_mem_replicate hx]; decide⟩⟩
        refine ⟨p3, .join j 0 (List.replicate sj (List.replicate sz0 0)), rfl, ⟨z3, List.replicate sj z1, hp3, by rw [hz3, List.map_replicate], by rw [List.length_replicate, List.length_replicate], fun i q row e1 e2 => ?_⟩, ok, lkA _ ok (.inr (List.mem_cons_self ..))⟩
        rw [List.eq_of_mem_replicate (List.mem_of_getElem? e1), List.eq_of_mem_replicate (List.mem_of_getElem? e2), hz1]
        unfold natL
        rw [List.map_replicate]
        rfl
    have M14 := M13.kp k14 B14
    replace hf := hf.keep (TupKeep.kp k14 M13.bag)
    clear M13 k14 B14 hp1 hp2 hp3 hq1 hz1 hz3 hD5 hu5 D5b
    walk_at "nn2"
    intro D6 nD6
    have v1 := same_upd (o := .lst [.ref pf]) nD6
    have hD6 := upd_same (H := H14) (a := D6) (o := .lst [.ref pf])
    have M15 := M14.same v1
    replace hf := hf.same v1
    clear M14 v1 nD6
    generalize upd H14 D6 (.lst [.ref pf]) = H15 at *
    walk_at "nn2"
    obtain ⟨ps, g1, g2, g3⟩ := id M15.ln
    refine ⟨r, D6, _, _, rfl, rfl, g1, hD6, sz (by rw [List.length_map]; show ps.length + 1 ≤ 100000; omega), fun mr nmr => ?_⟩
    have v2 := same_upd (o := .lst (ps.map V.ref ++ [.ref pf])) nmr
    have hmr : upd H15 mr (.lst (ps.map V.ref ++ [.ref pf])) mr = some (.lst ((ps ++ [pf]).map V.ref)) := by rw [upd_same, List.map_append]; rfl
    have mrb : mr ≠ b := M15.bag.nb nmr
    have M16 := M15.same v2
    replace hf := hf.same v2
    have CM : CLs (upd H15 mr (.lst (ps.map V.ref ++ [.ref pf]))) mr (cls ++ [f]) := by
      refine ⟨ps ++ [pf], hmr, by simp [g2], fun i q g a b => ?_⟩
      by_cases hi : i < ps.length
      · rw [List.getElem?_append_left hi] at a
        rw [List.getElem?_append_left (by omega)] at b
        exact (g3 i q g a b).same v2
      · have hi2 : i = ps.length := by
          have := (List.getElem?_eq_some_iff.mp a).1
          simp at this
          omega
        subst hi2
        simp at a
        subst a
        rw [g2] at b
        simp at b
        subst b
        exact hf
    clear M15 v2 nmr hmr hf hD6 g1 g2 g3
    show gName 10 _ _ (upd H15 mr (.lst (ps.map V.ref ++ [.ref pf]))) _
    generalize upd H15 mr (.lst (ps.map V.ref ++ [.ref pf])) = H16 at *
    walk_at "nn2"
    intro x1 nx1
    have w1 := same_upd (o := .lst []) nx1
    have hx1 := upd_same (H := H16) (a := x1) (o := .lst [])
    have x1b : x1 ≠ b := M16.bag.nb nx1
    have M17 := M16.same w1
    replace CM := CM.same w1
    clear M16 w1 nx1
    generalize upd H16 x1 (.lst []) = H17 at *
    walk_at "nn2"
    intro x2 nx2
    have w2 := same_upd (o := .tup []) nx2
    have hx2 := upd_same (H := H17) (a := x2) (o := .tup [])
    have x2b : x2 ≠ b := M17.bag.nb nx2
    have M18 := M17.same w2
    replace CM := CM.same w2
    replace hx1 := w2 _ _ hx1
    clear M17 w2 nx2
    generalize upd H17 x2 (.tup []) = H18 at *
    walk_at "nn2"
    intro D7 nD7
    have w3 := same_upd (o := .lst [.ref x1, .ref x2, .non, .int 3, .str "letter"]) nD7
    have hD7 := upd_same (H := H18) (a := D7) (o := .lst [.ref x1, .ref x2, .non, .int 3, .str "letter"])
    have D7b : D7 ≠ b := M18.bag.nb nD7
    have M19 := M18.same w3
    replace CM := CM.same w3
    replace hx1 := w3 _ _ hx1
    replace hx2 := w3 _ _ hx2
    clear M18 w3 nD7
    generalize upd H18 D7 (.lst [.ref x1, .ref x2, .non, .int 3, .str "letter"]) = H19 at *
    walk_at "nn2"
    refine ⟨b, l, _, rfl, M19.bag, .inl ⟨D7, _, rfl, D7b, .inl (SqL.of hD7), (by intro z; cases z), (by show 5 ≤ 100000; decide), fun un H20 hun B20 k20 => ?_⟩⟩
    have nu : NoL b H19 un := by
      simp only [List.mem_cons, List.not_mem_nil, or_false] at hun
      rcases hun with rfl | rfl | rfl | rfl | rfl
      · exact .inl ⟨x1, rfl, x1b, .inl hx1⟩
      · exact .inl ⟨x2, rfl, x2b, .inr hx2⟩
      · exact .inr (.inl rfl)
      · exact .inr (.inr (.inl rfl))
      · exact .inr (.inr (.inr rfl))
    have CM20 : CLs H20 mr (cls ++ [f]) := CM.keep (TupKeep.kp k20 M19.bag) fun o h => k20 _ _ h mrb
    walk_at "nn2"
    exact go _ mr f un _ _ _ (M19.kp k20 B20) CM20 okf lkf (nu.kp k20)
end

variable {K : PySem.W.Frag} {mg : Str → Option Value}

section
variable {P : Program} {w : World} {base : Heap}
theorem law_refused {cL PL : Addr} (T : Env K mg) (TB : LamX.TabB base mg cL PL) (A : Around) (outer : List PySem.Env) (s : Shared) (H : Hp) (E : XK) (hr : Room 16 (A.deeper (envOfC "law" (defScope s_law) s.heap.objs.size T.f_law (.ref cL))))
    (nd : CellsNd (cxOf CX0 P w K mg base N_law "law" (defScope s_law) T.f_law (.ref cL) A outer s H E).nox.env) (hfn : (cxOf CX0 P w K mg base N_law "law" (defScope s_law) T.f_law (.ref cL) A outer s H E).nox.Ok → ∀ y c, (cxOf CX0 P w K mg base N_law "law" (defScope s_law) T.f_law (.ref cL) A outer s H E).nox.env.cells.lookup y = some c → (cxOf CX0 P w K mg base N_law "law" (defScope s_law) T.f_law (.ref cL) A outer s H E).nox.s_0.heap.objs.size ≤ c) :
    ∃ t, PSs (cxOf CX0 P w K mg base N_law "law" (defScope s_law) T.f_law (.ref cL) A outer s H E).nox (bodyTail 9) t ∧ ∀ (D : Ends) (G : Hp) (a b l r sl mr : Addr) (al : Str) (cls : List CL) (f : CL) (u : V) (y2 y6 y7 y8 y9 y12 y13 y14 y15 y16 : Option V),
      (∀ (G' : Hp) (y12 y13 y16 : Option V), BagAt b l G' → LamX.Tabs [(PL, qLam)] G' → D.nx [some (.ref a), some (.ref b), y2, some (.str al), some (.ref r), some (.ref sl), y6, y7, y8, y9, some (.ref mr), some u, y12, y13, y14, y15, y16] G') →
      Md PL b l G r sl al cls → CLs G mr (cls ++ [f]) → COk al.length (cls ++ [f]) → lkC (cls ++ [f]) cls.length = true → NoL b G u → t D [some (.ref a), some (.ref b), y2, some (.str al), some (.ref r), some (.ref sl), y6, y7, y8, y9, some (.ref mr), some u, y12, y13, y14, y15, y16] G := by
  refine ⟨_, ((pss_cons (ps_set (i := 12) sc_law.nd rfl (.inl rfl) (pe_lst (pa_cons (pe_lm (T := [(PL, qLam)]) TB rfl (List.mem_singleton.mpr rfl) (fun _ h _ => congrArg Prod.snd (List.mem_singleton.mp h)) (free_by (sc := defScope s_law) (by decide +kernel)) rfl) (pa_cons (pe_lm1 (T := [(PL, qLam)]) (i := 0) TB rfl (List.mem_singleton.mpr rfl) (fun _ h _ => congrArg Prod.snd (List.mem_singleton.mp h)) (free_by (sc := defScope s_law) (by decide +kernel)) rfl rfl) (pa_cons (pe_lm1 (T := [(PL, qLam)]) (i := 0) TB rfl (List.mem_singleton.mpr rfl) (fun _ h _ => congrArg Prod.snd (List.mem_singleton.mp h)) (free_by (sc := defScope s_law) (by decide +kernel)) rfl rfl) pa_nil)))))
      (pss_cons (ps_set (i := 13) sc_law.nd rfl (.inl rfl) (pe_lst (pa_cons (pe_tup (pa_cons pe_str (pa_cons (pe_tup (pa_cons (pe_callB call_len_seq (by rfl) T.z_len (by decide +kernel) (pa_cons (pv 4) pa_nil)) pa_nil)) pa_nil))) (pa_cons (pe_tup (pa_cons pe_str (pa_cons (pe_tup (pa_cons pe_int pa_nil)) pa_nil))) (pa_cons (pe_tup (pa_cons pe_str (pa_cons (pe_tup (pa_cons pe_str pa_nil)) pa_nil))) pa_nil)))))
      (pss_one (ps_if (pt_not (pt_val (pe_call (ok_same T 5) (hr.mono (by decide)) (by rfl) T.g_same T.F_same.kp T.b_same .nil pass0 (pa_cons (pe_callX (k := 12) (hr.mono (by decide)) (by rfl) T.g_all_got T.F_all_got.kp T.b_all_got pass0 nd hfn (pa_cons (pv 12) pa_nil)) (pa_cons (pv 13) pa_nil)))))
      (pss_one (ps_ret pe_bl))
      pss_nil))))), ?_⟩
  rintro ⟨dn, dr, db, dc⟩ G a b l r sl mr al cls f u y2 y6 y7 y8 y9 y12 y13 y14 y15 y16 go M CM okM lkM nu
  have few := M.few
  have tb0 := M.tab
  walk_at "nn2"
  intro f1 c1 G1 x1 _ tb1 _ lf1 lc1
  walk_at "nn2"
  intro f2 c2 T2 G2 x2 _ tb2 _ dt2 lf2 lc2
  walk_at "nn2"
  intro f3 c3 T3 G3 x3 _ tb3 _ dt3 lf3 lc3
  have x23 := x2.trans x3
  have x123 := x1.trans x23
  replace M := M.ext x123 tb3
  replace CM : CLs G3 mr (cls ++ [f]) := CM.keep (fun c ys h => x123 _ _ h (by intro ps z; cases z)) fun o ho => by
    obtain ⟨ps, h1, -, -⟩ := CM
    rw [h1] at ho
    cases ho
    exact x123 _ _ h1 (by intro ps z; cases z)
  replace nu := nu.ext x123
  replace lf1 := x23 _ _ lf1 (by intro ps z; cases z)
  replace lc1 := x23 _ _ lc1 LamX.codeO_ne
  replace lf2 := x3 _ _ lf2 (by intro ps z; cases z)
  replace lc2 := x3 _ _ lc2 LamX.codeO_ne
  replace dt2 := x3 _ _ dt2 (by intro ps z; cases z)
  clear tb0 tb1 tb2 tb3 x1 x2 x3 x23 x123
  walk_at "nn2"
  intro lb hlb
  have S0 := same_upd (o := .lst [.ref f1, .ref f2, .ref f3]) hlb
  have elb := upd_same (H := G3) (a := lb) (o := .lst [.ref f1, .ref f2, .ref f3])
  replace M := M.same S0
  replace CM := CM.same S0
  replace nu := nu.kp (Kp.same S0)
  replace lf1 := S0 _ _ lf1
  replace lc1 := S0 _ _ lc1
  replace lf2 := S0 _ _ lf2
  replace lc2 := S0 _ _ lc2
  replace dt2 := S0 _ _ dt2
  replace lf3 := S0 _ _ lf3
  replace lc3 := S0 _ _ lc3
  replace dt3 := S0 _ _ dt3
  clear S0 hlb
  show gName 12 _ _ (upd G3 lb (.lst [.ref f1, .ref f2, .ref f3])) _
  generalize upd G3 lb (.lst [.ref f1, .ref f2, .ref f3]) = J0 at *
  obtain ⟨ps0, g1, g2, -⟩ := id M.ln
  walk_at "nn2"
  refine ⟨r, _, rfl, .inl (SqL.of g1), ?_⟩
  rw [List.length_map, g2]
  clear g1 g2
  walk_at "nn2"
  intro q1 nq1
  have v0 := same_upd (o := .tup [.int (cls.length : Nat)]) nq1
  have hq1 := upd_same (H := J0) (a := q1) (o := .tup [.int (cls.length : Nat)])
  clear nq1
  generalize upd J0 q1 (.tup [.int (cls.length : Nat)]) = J1 at *
  walk_at "nn2"
  intro r1 nr1
  have v1 := same_upd (o := .tup [.str "InvalidLine", .ref q1]) nr1
  have hr1 := upd_same (H := J1) (a := r1) (o := .tup [.str "InvalidLine", .ref q1])
  replace hq1 := v1 _ _ hq1
  clear nr1
  generalize upd J1 r1 (.tup [.str "InvalidLine", .ref q1]) = J2 at *
  walk_at "nn2"
  intro q2 nq2
  have v2 := same_upd (o := .tup [.int 0]) nq2
  have hq2 := upd_same (H := J2) (a := q2) (o := .tup [.int 0])
  replace hq1 := v2 _ _ hq1
  replace hr1 := v2 _ _ hr1
  clear nq2
  generalize upd J2 q2 (.tup [.int 0]) = J3 at *
  walk_at "nn2"
  intro r2 nr2
  have v3 := same_upd (o := .tup [.str "InvalidLine", .ref q2]) nr2
  have hr2 := upd_same (H := J3) (a := r2) (o := .tup [.str "InvalidLine", .ref q2])
  replace hq1 := v3 _ _ hq1
  replace hr1 := v3 _ _ hr1
  replace hq2 := v3 _ _ hq2
  clear nr2
  generalize upd J3 r2 (.tup [.str "InvalidLine", .ref q2]) = J4 at *
  walk_at "nn2"
  intro q3 nq3
  have v4 := same_upd (o := .tup [.str "ba"]) nq3
  have hq3 := upd_same (H := J4) (a := q3) (o := .tup [.str "ba"])
  replace hq1 := v4 _ _ hq1
  replace hr1 := v4 _ _ hr1
  replace hq2 := v4 _ _ hq2
  replace hr2 := v4 _ _ hr2
  clear nq3
  generalize upd J4 q3 (.tup [.str "ba"]) = J5 at *
  walk_at "nn2"
  intro r3 nr3
  have v5 := same_upd (o := .tup [.str "InvalidAlphabet", .ref q3]) nr3
  have hr3 := upd_same (H := J5) (a := r3) (o := .tup [.str "InvalidAlphabet", .ref q3])
  replace hq1 := v5 _ _ hq1
  replace hr1 := v5 _ _ hr1
  replace hq2 := v5 _ _ hq2
  replace hr2 := v5 _ _ hr2
  replace hq3 := v5 _ _ hq3
  clear nr3
  generalize upd J5 r3 (.tup [.str "InvalidAlphabet", .ref q3]) = J6 at *
  walk_at "nn2"
  intro du ndu
  have v6 := same_upd (o := .lst [.ref r1, .ref r2, .ref r3]) ndu
  have hdu := upd_same (H := J6) (a := du) (o := .lst [.ref r1, .ref r2, .ref r3])
  replace hq1 := v6 _ _ hq1
  replace hr1 := v6 _ _ hr1
  replace hq2 := v6 _ _ hq2
  replace hr2 := v6 _ _ hr2
  replace hq3 := v6 _ _ hq3
  replace hr3 := v6 _ _ hr3
  show gName 13 _ _ (upd J6 du (.lst [.ref r1, .ref r2, .ref r3])) _
  clear ndu
  generalize upd J6 du (.lst [.ref r1, .ref r2, .ref r3]) = J7 at *
  walk_at "nn2"
  have SD := ((((((v0).trans v1).trans v2).trans v3).trans v4).trans v5).trans v6
  replace M := M.same SD
  replace CM := CM.same SD
  replace nu := nu.kp (Kp.same SD)
  replace elb := SD _ _ elb
  replace lf1 := SD _ _ lf1
  replace lc1 := SD _ _ lc1
  replace lf2 := SD _ _ lf2
  replace lc2 := SD _ _ lc2
  replace dt2 := SD _ _ dt2
  replace lf3 := SD _ _ lf3
  replace lc3 := SD _ _ lc3
  replace dt3 := SD _ _ dt3
  clear SD v0 v1 v2 v3 v4 v5 v6
  obtain ⟨ps, m1, m2, m3⟩ := id CM
  have cl1 : (cls ++ [f]).length = cls.length + 1 := by simp
  refine allgotl_x (X := (cxOf CX0 P w K mg base N_law "law" (defScope s_law) T.f_law (.ref cL) A outer s H E).nox) T 9 fun bs g => ?_
  refine ⟨lb, [f1, f2, f3], [.err "InvalidLine" [.int (cls.length : Nat)], .err "InvalidLine" [.int 0], .err "InvalidAlphabet" [.str "ba"]], rfl, SqL.of elb, (by show 3 ≤ 100; decide), rfl, fun d hd => ?_, fun i fa hf => ?_, fun pr ys G6 e1 e2 e3 s1 => ?_⟩
  · simp only [List.mem_cons, List.not_mem_nil, or_false] at hd
    rcases hd with rfl | rfl | rfl <;> trivial
  · match i, hf with
    | 0, hf =>
      cases hf
      refine ⟨_, rfl, ?_⟩
      refine ask_err0 (P := P) (w := w) (N := ["_law_more", "_law_signs_here"]) (fr := ["_law_more", "_law_signs_here"]) lf1 lc1 rfl (NdefX.nscope_by (by kernel_rfl)) (fun _ _ _ => rfl) (g.cells _ _ [10, 3] (NdefX.Caps.made g.ok (free_by (sc := defScope s_law) (by decide +kernel)) (by decide +kernel) rfl)) (fun A outer s H E hr => (pe_make T.k_Circuit___init (ok_Circuit___init T) (hr.mono (by decide)) (by rfl) T.gC_Circuit T.b_Circuit___init .nil (passE (takes_of rfl rfl rfl rfl)) (pa_cons (pv 1) (pa_cons (pv 0) pa_nil)))) fun H5 s5 Q2 E2 hE => ?_
      walk_at "nn2"
      intro m dx nm ndx nem
      have sA : Same H5 (upd (upd H5 dx (.own m)) m (.ins T.C_Circuit dx [])) := (same_upd ndx).trans (same_upd (by rw [upd_ne nem.symm]; exact nm))
      have s5A := s5.trans sA
      refine .inr ⟨m, dx, .str al, .ref mr, rfl, upd_same, .inr ⟨al, rfl, M.alp, .inr ⟨mr, ps.map V.ref, rfl, .inl (s5A _ _ m1), by rw [List.length_map, m2]; omega, by rw [List.length_map, m2]; omega, .inr ⟨by rw [List.length_map, m2]; omega, cls ++ [f], fun i f e => ?_, okM, .inl ⟨by rw [List.length_map, m2], by rw [cl1]; exact lkM, fun dd H8 s8 e8 => ?_⟩⟩⟩⟩⟩
      · have hi := (List.getElem?_eq_some_iff.mp e).1
        obtain ⟨qi, ep⟩ : ∃ qi, ps[i]? = some qi := ⟨_, List.getElem?_eq_getElem (by omega)⟩
        exact ⟨qi, by rw [List.getElem?_map, ep]; rfl, (m3 i qi f ep e).same s5A⟩
      · rw [show (((cls ++ [f]).length : Nat) : Int) - 1 = (cls.length : Nat) by omega] at e8
        exact hE _ _ _ T.e_InvalidLine (.inl ⟨"at", _, rfl, .inr (.inl ⟨by decide +kernel, rfl⟩), T.C_InvalidLine, dd, rfl, T.y_InvalidLine, T.n_InvalidLine_code, T.n_InvalidLine_at, rfl, e8⟩) (sA.trans s8)
    | 1, hf =>
      cases hf
      refine ⟨_, rfl, ?_⟩
      refine ask_err1 (P := P) (w := w) (N := ["_law_a", "_law_none", "_law_signs_here"]) (fr := ["_law_none", "_law_signs_here"]) lf2 lc2 (.inr ⟨T2, 0, rfl, rfl, dt2⟩) (NdefX.nscope_by (by kernel_rfl)) (fun Tt doc pm ctv its e h => by
        have e : Value.ref T2 = Value.ref Tt := e
        cases e
        match its, h with
        | [_], _ => exact ⟨_, rfl, rfl⟩) (g.cells _ _ [11, 3] (NdefX.Caps.made g.ok (free_by (sc := defScope s_law) (by decide +kernel)) (by decide +kernel) rfl)) (fun A outer s H E hr => (pe_make T.k_Circuit___init (ok_Circuit___init T) (hr.mono (by decide)) (by rfl) T.gC_Circuit T.b_Circuit___init .nil (passE (takes_of rfl rfl rfl rfl)) (pa_cons (pv 2) (pa_cons (pv 1) pa_nil)))) fun H5 s5 Q2 E2 hE => ?_
      walk_at "nn2"
      intro m dx nm ndx nem
      have sA : Same H5 (upd (upd H5 dx (.own m)) m (.ins T.C_Circuit dx [])) := (same_upd ndx).trans (same_upd (by rw [upd_ne nem.symm]; exact nm))
      have s5A := s5.trans sA
      refine .inr ⟨m, dx, .str al, u, rfl, upd_same, .inr ⟨al, rfl, M.alp, .inl ⟨(nu.kp (Kp.same s5A)).no, fun dd H8 s8 e8 => ?_⟩⟩⟩
      exact hE _ _ _ T.e_InvalidLine (.inl ⟨"at", _, rfl, .inr (.inl ⟨by decide +kernel, rfl⟩), T.C_InvalidLine, dd, rfl, T.y_InvalidLine, T.n_InvalidLine_code, T.n_InvalidLine_at, rfl, e8⟩) (sA.trans s8)
    | 2, hf =>
      cases hf
      refine ⟨_, rfl, ?_⟩
      refine ask_err1 (P := P) (w := w) (N := ["_law_b", "_law_none"]) (fr := ["_law_none"]) lf3 lc3 (.inr ⟨T3, 0, rfl, rfl, dt3⟩) (NdefX.nscope_by (by kernel_rfl)) (fun Tt doc pm ctv its e h => by
        have e : Value.ref T3 = Value.ref Tt := e
        cases e
        match its, h with
        | [_], _ => exact ⟨_, rfl, rfl⟩) (g.cells _ _ [11] (NdefX.Caps.made g.ok (free_by (sc := defScope s_law) (by decide +kernel)) (by decide +kernel) rfl)) (fun A outer s H E hr => (pe_make T.k_Circuit___init (ok_Circuit___init T) (hr.mono (by decide)) (by rfl) T.gC_Circuit T.b_Circuit___init .nil (passE (takes_of rfl rfl rfl rfl)) (pa_cons pe_str (pa_cons (pv 1) pa_nil)))) fun H5 s5 Q2 E2 hE => ?_
      walk_at "nn2"
      intro m dx nm ndx nem
      have sA : Same H5 (upd (upd H5 dx (.own m)) m (.ins T.C_Circuit dx [])) := (same_upd ndx).trans (same_upd (by rw [upd_ne nem.symm]; exact nm))
      have s5A := s5.trans sA
      refine .inr ⟨m, dx, .str "ba", u, rfl, upd_same, .inl ⟨.inl ⟨"ba", rfl, by decide +kernel, by decide +kernel⟩, fun dd H8 s8 e8 => ?_⟩⟩
      exact hE _ _ _ T.e_InvalidAlphabet (.inl ⟨"given", _, rfl, .inl ⟨by decide +kernel, rfl⟩, T.C_InvalidAlphabet, dd, rfl, T.y_InvalidAlphabet, T.n_InvalidAlphabet_code, T.n_InvalidAlphabet_given, rfl, e8⟩) (sA.trans s8)
    | i + 3, hf => simp at hf
  · match ys, e2 with
    | [y0, y1, y2'], _ =>
    obtain ⟨_, w0, w0'⟩ := e3 0 y0 rfl
    cases w0
    obtain ⟨_, w1, w1'⟩ := e3 1 y1 rfl
    cases w1
    obtain ⟨_, w2, w2'⟩ := e3 2 y2' rfl
    cases w2
    have M6 := M.same s1
    have B6 := M6.bag
    have t6 := M6.tab
    replace hq1 := s1 _ _ hq1
    replace hr1 := s1 _ _ hr1
    replace hq2 := s1 _ _ hq2
    replace hr2 := s1 _ _ hr2
    replace hq3 := s1 _ _ hq3
    replace hr3 := s1 _ _ hr3
    replace hdu := s1 _ _ hdu
    clear M CM nu lf1 lc1 lf2 lc2 lf3 lc3 dt2 dt3 elb m1 m2 m3 e3 s1 M6
    walk_at "nn2"
    refine ⟨.ref pr, .ref du, rfl, sm_list (d := 4) (SqL.of e1) (SqL.of hdu) rfl (by show 3 ≤ 1000; decide) fun p hp => ?_, fun H8 s8 => ?_⟩
    · simp only [List.zip_cons_cons, List.zip_nil_right, List.mem_cons, List.not_mem_nil, or_false] at hp
      rcases hp with rfl | rfl | rfl
      · exact gotl_errS (d := 2) w0' (Same.refl _) hr1 hq1 (.inl ⟨rfl, rfl⟩)
      · exact gotl_errS (d := 2) w1' (Same.refl _) hr2 hq2 (.inl ⟨rfl, rfl⟩)
      · exact gotl_errS (d := 2) w2' (Same.refl _) hr3 hq3 (.inl ⟨rfl, rfl⟩)
    walk_at "nn2"
    exact go _ _ _ _ (B6.same s8) (t6.ext s8)
end

variable {K : PySem.W.Frag} {mg : Str → Option Value}

section
variable {P : Program} {w : World} {base : Heap}
theorem law_last {cL PL : Addr} (T : Env K mg) (TB : LamX.TabB base mg cL PL) (A : Around) (outer : List PySem.Env) (s : Shared) (H : Hp) (E : XK) (hr : Room 16 (A.deeper (envOfC "law" (defScope s_law) s.heap.objs.size T.f_law (.ref cL))))
    (nd : CellsNd (cxOf CX0 P w K mg base N_law "law" (defScope s_law) T.f_law (.ref cL) A outer s H E).nox.env) (hfn : (cxOf CX0 P w K mg base N_law "law" (defScope s_law) T.f_law (.ref cL) A outer s H E).nox.Ok → ∀ y c, (cxOf CX0 P w K mg base N_law "law" (defScope s_law) T.f_law (.ref cL) A outer s H E).nox.env.cells.lookup y = some c → (cxOf CX0 P w K mg base N_law "law" (defScope s_law) T.f_law (.ref cL) A outer s H E).nox.s_0.heap.objs.size ≤ c) :
    ∃ t, PSs (cxOf CX0 P w K mg base N_law "law" (defScope s_law) T.f_law (.ref cL) A outer s H E).nox ((defBody s_law).drop 5) t ∧ ∀ (D : Ends) (G : Hp) (a b : Addr) (y2 y3 y4 y5 y6 y7 y8 y9 y10 y11 y12 y13 y14 y15 y16 : Option V),
      (∀ G', D.rt (.bl true) G') → LamX.Tabs [(PL, qLam)] G → t D [some (.ref a), some (.ref b), y2, y3, y4, y5, y6, y7, y8, y9, y10, y11, y12, y13, y14, y15, y16] G := by
  refine ⟨_, ((pss_one (ps_ret (pe_and (pe_cmpR op_eq (ClX.pe_cval (pe_glob (v := .ref T.C_Circuit) (by rfl) T.gC_Circuit rfl)) pe_int (nomark _)) (pe_one (pe_call (ok_same T 5) (hr.mono (by decide)) (by rfl) T.g_same T.F_same.kp T.b_same .nil pass0 (pa_cons (pe_callX (k := 11) (hr.mono (by decide)) (by rfl) T.g_got T.F_got.kp T.b_got pass0 nd hfn (pa_cons (pe_lm (T := [(PL, qLam)]) TB rfl (List.mem_singleton.mpr rfl) (fun _ h _ => congrArg Prod.snd (List.mem_singleton.mp h)) (free_by (sc := defScope s_law) (by decide +kernel)) rfl) pa_nil)) (pa_cons (pe_tup (pa_cons pe_str (pa_cons (pe_tup (pa_cons pe_str (pa_cons pe_int pa_nil))) pa_nil))) pa_nil)))))))), ?_⟩
  rintro ⟨dn, dr, db, dc⟩ G a b y2 y3 y4 y5 y6 y7 y8 y9 y10 y11 y12 y13 y14 y15 y16 fin t
  walk_at "nn2"
  refine ⟨T.C_Circuit, T.mc_Circuit, .int 4000, T.cu_Circuit_MOST, rfl, T.cr_Circuit, T.cv_Circuit_MOST, ?_⟩
  walk_at "nn2"
  intro f1 c1 G1 x1 _ tb1 _ lf1 lc1
  walk_at "nn2"
  refine gotl_x (X := (cxOf CX0 P w K mg base N_law "law" (defScope s_law) T.f_law (.ref cL) A outer s H E).nox) T 9 fun bs g => ?_
  refine ⟨f1, _, _, rfl, LOk.held (lok_g0 (P := P) (w := w) (N := []) (fr := []) (NdefX.nscope_by (by kernel_rfl)) (fun _ _ _ => rfl) (fun A outer s H E hr => (pe_make T.k_Circuit___init (ok_Circuit___init T) (hr.mono (by decide)) (by rfl) T.gC_Circuit T.b_Circuit___init .nil (passE (takes_of rfl rfl rfl rfl)) (pa_cons pe_str (pa_cons (pe_op op_rep (pe_lst (pa_cons pe_non pa_nil)) pe_int) pa_nil))))) (g.cells _ _ [] (NdefX.Caps.made g.ok (free_by (sc := defScope s_law) (by decide +kernel)) (by decide +kernel) rfl)), fun H5 s5 => ⟨⟨s5 _ _ lf1, s5 _ _ lc1, .inl ⟨rfl, rfl⟩⟩, fun Q2 E2 hQ hE => ?_⟩⟩
  walk_at "nn2"
  intro D1 nD1
  have u1 := same_upd (o := .lst [.non]) nD1
  have hD1 := upd_same (H := H5) (a := D1) (o := .lst [.non])
  clear nD1
  generalize upd H5 D1 (.lst [.non]) = G3 at *
  walk_at "nn2"
  refine ⟨D1, _, _, rfl, rfl, hD1, by decide, by decide, sz (by show 1 * _ ≤ _; decide), fun L nL => ?_⟩
  rw [show (List.replicate (Int.toNat 4001) [V.non]).flatten = List.replicate 4001 .non from flat_one]
  have u2 := same_upd (o := .lst (List.replicate 4001 .non)) nL
  have hL := upd_same (H := G3) (a := L) (o := .lst (List.replicate 4001 .non))
  clear nL
  generalize hxs : List.replicate 4001 V.non = xs at *
  have lL : xs.length = 4001 := by rw [← hxs, List.length_replicate]
  clear hxs
  generalize upd G3 L (.lst xs) = G4 at *
  walk_at "nn2"
  intro x5 d5 x50 d50 ne5
  have sA : Same G4 (upd (upd G4 d5 (.own x5)) x5 (.ins T.C_Circuit d5 [])) := (same_upd d50).trans (same_upd (by rw [upd_ne ne5.symm]; exact x50))
  have aA : Alpha (Str.ofString "a").cps.toList := by decide +kernel
  refine .inr ⟨x5, d5, .str "a", .ref L, rfl, upd_same, .inr ⟨"a", rfl, aA, .inr ⟨L, _, rfl, .inl (sA _ _ hL), by rw [lL]; omega, by rw [lL]; omega, .inl ⟨by rw [lL]; omega, fun d H6 s6 e6 => ?_⟩⟩⟩⟩
  refine hE _ _ _ ⟨T.e_TooMany, "TooMany", [.str "lines", .int 4000], .inr (.inl ⟨_, _, rfl, rfl, T.C_TooMany, d, rfl, T.y_TooMany, T.n_TooMany_code, T.n_TooMany_subject, T.n_TooMany_most, rfl, e6⟩), fun pr tp H7 e7 e8 s7 => ?_⟩
  walk_at "nn2"
  intro q6 nq6
  have u6 := same_upd (o := .tup [.str "lines", .int 4000]) nq6
  walk_at "nn2"
  intro q7 nq7
  have u7 := same_upd (o := .tup [.str "TooMany", .ref q6]) nq7
  walk_at "nn2"
  have S8 := u6.trans u7
  refine ⟨.ref pr, .ref q7, rfl, sm_tup2 (d := 4) (SqT.of (S8 _ _ e7)) (SqT.of upd_same) (.inl ⟨rfl, rfl⟩) (sm_tup2 (d := 3) (SqT.of (S8 _ _ e8)) (SqT.of (u7 _ _ upd_same)) (.inl ⟨rfl, rfl⟩) (.inl ⟨rfl, rfl⟩)), fun H8 s8 => ?_⟩
  exact fin _
end

variable {K : PySem.W.Frag} {mg : Str → Option Value}

section
variable {P : Program} {w : World} {base : Heap}
theorem law_end {cL PL : Addr} (T : Env K mg) (TB : LamX.TabB base mg cL PL) (A : Around) (outer : List PySem.Env) (s : Shared) (H : Hp) (E : XK) (hr : Room 16 (A.deeper (envOfC "law" (defScope s_law) s.heap.objs.size T.f_law (.ref cL))))
    (nd : CellsNd (cxOf CX0 P w K mg base N_law "law" (defScope s_law) T.f_law (.ref cL) A outer s H E).nox.env) (hfn : (cxOf CX0 P w K mg base N_law "law" (defScope s_law) T.f_law (.ref cL) A outer s H E).nox.Ok → ∀ y c, (cxOf CX0 P w K mg base N_law "law" (defScope s_law) T.f_law (.ref cL) A outer s H E).nox.env.cells.lookup y = some c → (cxOf CX0 P w K mg base N_law "law" (defScope s_law) T.f_law (.ref cL) A outer s H E).nox.s_0.heap.objs.size ≤ c) {tL : TS}
    (hL : PSs (cxOf CX0 P w K mg base N_law "law" (defScope s_law) T.f_law (.ref cL) A outer s H E).nox ((defBody s_law).drop 5) tL) :
    ∃ t, PSs (cxOf CX0 P w K mg base N_law "law" (defScope s_law) T.f_law (.ref cL) A outer s H E).nox endTail t ∧ ∀ (D : Ends) (G : Hp) (a b l : Addr) (y2 y3 y4 y5 y6 y7 y8 y9 y10 y11 y12 y13 y14 y15 y16 : Option V),
      (∀ (G' : Hp) (y14 y15 : Option V), LamX.Tabs [(PL, qLam)] G' → tL D [some (.ref a), some (.ref b), y2, y3, y4, y5, y6, y7, y8, y9, y10, y11, y12, y13, y14, y15, y16] G') → BagAt b l G → LamX.Tabs [(PL, qLam)] G → t D [some (.ref a), some (.ref b), y2, y3, y4, y5, y6, y7, y8, y9, y10, y11, y12, y13, y14, y15, y16] G := by
  refine ⟨_, ((pss_cons (ps_set (i := 14) sc_law.nd rfl (.inr rfl) (pe_op op_add pe_int (pe_call (ok_pull T) (hr.mono (by decide)) (by rfl) T.g_pull T.F_pull.kp T.b_pull .nil pass0 (pa_cons (pv 1) (pa_cons pe_int pa_nil)))))
      (pss_cons (ps_set (i := 15) sc_law.nd rfl (.inl rfl) (pe_callX (k := 11) (hr.mono (by decide)) (by rfl) T.g_got T.F_got.kp T.b_got pass0 nd hfn (pa_cons (pe_lm (T := [(PL, qLam)]) TB rfl (List.mem_singleton.mpr rfl) (fun _ h _ => congrArg Prod.snd (List.mem_singleton.mp h)) (free_by (sc := defScope s_law) (by decide +kernel)) rfl) pa_nil)))
      (pss_cons (ps_if (pt_not (pt_val (pe_call (ok_same T 5) (hr.mono (by decide)) (by rfl) T.g_same T.F_same.kp T.b_same .nil pass0 (pa_cons (pv 15) (pa_cons (pe_ifExp (pt_cmpR op_eq (pv 14) pe_int (nomark _)) (pe_tup (pa_cons pe_str (pa_cons pe_int pa_nil))) (pe_tup (pa_cons pe_str (pa_cons (pe_tup (pa_cons pe_str (pa_cons pe_int pa_nil))) pa_nil)))) pa_nil)))))
      (pss_one (ps_ret pe_bl))
      pss_nil)
      hL)))), ?_⟩
  rintro ⟨dn, dr, db, dc⟩ G a b l y2 y3 y4 y5 y6 y7 y8 y9 y10 y11 y12 y13 y14 y15 y16 go B t
  walk_at "nn2"
  refine ⟨b, l, _, rfl, B, by decide, by decide, fun wz G1 w0 w1 B1 k1 => ?_⟩
  have t1 := tabs_kp t k1 B
  clear B t k1 B1
  refine ⟨_, _, rfl, rfl, ?_⟩
  show gName 14 (V.int (4000 + wz)) _ _ _
  obtain ⟨wn, hwn⟩ : ∃ wn : Nat, (4000 : Int) + wz = (wn : Int) := ⟨(4000 + wz).toNat, by omega⟩
  rw [hwn]
  have w01 : wn = 4000 ∨ wn = 4001 := by omega
  clear hwn w0 w1
  walk_at "nn2"
  intro f1 c1 G2 x1 _ tb1 _ lf1 lc1
  clear t1 x1
  walk_at "nn2"
  refine gotl_x (X := (cxOf CX0 P w K mg base N_law "law" (defScope s_law) T.f_law (.ref cL) A outer s H E).nox) T 9 fun bs g => ?_
  refine ⟨f1, _, _, rfl, LOk.held (lok_g0 (P := P) (w := w) (N := ["_law_wide"]) (fr := ["_law_wide"]) (NdefX.nscope_by (by kernel_rfl)) (fun _ _ _ => rfl) (fun A outer s H E hr => (pe_callB (call_ownlen (ok_Circuit___len T) (hr.mono (by decide)) ⟨T.m_Circuit___len.1, T.m_Circuit___len.2⟩ T.b_Circuit___len pass0) (by rfl) T.z_len (by decide +kernel) (pa_cons (pe_make T.k_Circuit___init (ok_Circuit___init T) (hr.mono (by decide)) (by rfl) T.gC_Circuit T.b_Circuit___init .nil (passE (takes_of rfl rfl rfl rfl)) (pa_cons pe_str (pa_cons (pe_op op_rep (pe_lst (pa_cons (pe_tup (pa_cons pe_str (pa_cons pe_int pa_nil))) pa_nil)) (pv 0)) pa_nil))) pa_nil)))) (g.cells _ _ [14] (NdefX.Caps.made g.ok (free_by (sc := defScope s_law) (by decide +kernel)) (by decide +kernel) rfl)), fun H5 s5 => ⟨⟨s5 _ _ lf1, s5 _ _ lc1, .inl ⟨rfl, rfl⟩⟩, fun Q2 E2 hQ hE => ?_⟩⟩
  walk_at "nn2"
  intro p1 np1
  have u1 := same_upd (o := .tup [.str "const", .int 0]) np1
  have hp1 := upd_same (H := H5) (a := p1) (o := .tup [.str "const", .int 0])
  clear np1
  generalize upd H5 p1 (.tup [.str "const", .int 0]) = G3 at *
  walk_at "nn2"
  intro D1 nD1
  have u2 := same_upd (o := .lst [.ref p1]) nD1
  have hD1 := upd_same (H := G3) (a := D1) (o := .lst [.ref p1])
  replace hp1 := u2 _ _ hp1
  clear nD1
  generalize upd G3 D1 (.lst [.ref p1]) = G4 at *
  walk_at "nn2"
  refine ⟨D1, _, _, rfl, rfl, hD1, by omega, by omega, sz (by show 1 * _ ≤ _; omega), fun L nL => ?_⟩
  rw [show ((wn : Nat) : Int).toNat = wn from rfl, flat_one]
  have u3 := same_upd (o := .lst (List.replicate wn (.ref p1))) nL
  have hL3 := upd_same (H := G4) (a := L) (o := .lst (List.replicate wn (.ref p1)))
  replace hp1 := u3 _ _ hp1
  clear nL hD1
  generalize upd G4 L (.lst (List.replicate wn (.ref p1))) = G5 at *
  have S5 := s5.trans (u1.trans (u2.trans u3))
  clear s5 u1 u2 u3
  walk_at "nn2"
  intro x5 d5 x50 d50 ne5
  have aA : Alpha (Str.ofString "a").cps.toList := by decide +kernel
  rcases w01 with e | e
  · have CC : CLs G5 L (List.replicate wn (.const 0)) := ⟨List.replicate wn p1, by rw [List.map_replicate]; exact hL3, by rw [List.length_replicate, List.length_replicate], fun i q f e1 e2 => by
      rw [List.eq_of_mem_replicate (List.mem_of_getElem? e1), List.eq_of_mem_replicate (List.mem_of_getElem? e2)]
      exact hp1⟩
    have OO : COk (Str.ofString "a").length (List.replicate wn (.const 0)) := fun i f e => by
      rw [List.eq_of_mem_replicate (List.mem_of_getElem? e)]
      show 0 < 1000
      decide
    have LL : (List.replicate wn (CL.const 0)).length = wn := List.length_replicate ..
    have lk : lkC (List.replicate wn (.const 0)) ((List.replicate wn (CL.const 0)).length - 1) = false := by
      have e2 : (List.replicate wn (CL.const 0))[(List.replicate wn (CL.const 0)).length - 1]? = some (.const 0) := by
        rw [LL, List.getElem?_replicate, if_pos (by omega)]
      rw [lkC_eq e2 (OO _ _ e2)]
      rfl
    refine .inl (mkC_use T x50 d50 ne5 CC.any aA OO (by rw [LL]; omega) (by rw [LL]; omega) lk fun H6 s6 M6 => ⟨rfl, ?_⟩)
    obtain ⟨dx6, _, _, _, _, hx6, -⟩ := id M6.at_
    walk_at "nn2"
    refine ⟨x5, dx6, _, rfl, hx6, x5, _, _, rfl, M6, _, rfl, by omega, by rw [LL]; omega, ?_⟩
    rw [LL, e]
    refine hQ _ _ fun pr H7 e7 s7 => ?_
    have t7 := tb1.ext (S5.trans (s6.trans s7))
    rw [e]
    clear hQ hE lf1 lc1 g M6 CC OO lk
    walk_at "nn2"
    intro q7 nq7
    have u7 := same_upd (o := .tup [.str "", .int 4000]) nq7
    walk_at "nn2"
    refine ⟨.ref pr, .ref q7, rfl, sm_tup2 (SqT.of (u7 _ _ e7)) (SqT.of upd_same) (.inl ⟨rfl, rfl⟩) (.inl ⟨rfl, rfl⟩), fun H8 s8 => ?_⟩
    walk_at "nn2"
    exact go _ _ _ (t7.ext (u7.trans s8))
  · have sA : Same G5 (upd (upd G5 d5 (.own x5)) x5 (.ins T.C_Circuit d5 [])) := (same_upd d50).trans (same_upd (by rw [upd_ne ne5.symm]; exact x50))
    have hL := hL3
    have lL : (List.replicate wn (V.ref p1)).length = wn := List.length_replicate ..
    refine .inr ⟨x5, d5, .str "a", .ref L, rfl, upd_same, .inr ⟨"a", rfl, aA, .inr ⟨L, _, rfl, .inl (sA _ _ hL), by rw [lL]; omega, by rw [lL]; omega, .inl ⟨by rw [lL]; omega, fun d H6 s6 e6 => ?_⟩⟩⟩⟩
    refine hE _ _ _ ⟨T.e_TooMany, "TooMany", [.str "lines", .int 4000], .inr (.inl ⟨_, _, rfl, rfl, T.C_TooMany, d, rfl, T.y_TooMany, T.n_TooMany_code, T.n_TooMany_subject, T.n_TooMany_most, rfl, e6⟩), fun pr tp H7 e7 e8 s7 => ?_⟩
    have t7 := tb1.ext (S5.trans (sA.trans (s6.trans s7)))
    rw [e]
    clear hQ hE lf1 lc1 g hL hL3
    walk_at "nn2"
    intro q6 nq6
    have u6 := same_upd (o := .tup [.str "lines", .int 4000]) nq6
    walk_at "nn2"
    intro q7 nq7
    have u7 := same_upd (o := .tup [.str "TooMany", .ref q6]) nq7
    walk_at "nn2"
    have S8 := u6.trans u7
    refine ⟨.ref pr, .ref q7, rfl, sm_tup2 (d := 4) (SqT.of (S8 _ _ e7)) (SqT.of upd_same) (.inl ⟨rfl, rfl⟩) (sm_tup2 (d := 3) (SqT.of (S8 _ _ e8)) (SqT.of (u7 _ _ upd_same)) (.inl ⟨rfl, rfl⟩) (.inl ⟨rfl, rfl⟩)), fun H8 s8 => ?_⟩
    walk_at "nn2"
    exact go _ _ _ (t7.ext (S8.trans s8))
end

variable {K : PySem.W.Frag} {mg : Str → Option Value}

section
variable {P : Program} {w : World} {base : Heap}
theorem ok_law {cL PL : Addr} (T : Env K mg) (cd : CodeIs T.fd_law cL) (TB : LamX.TabB base mg cL PL) : FnOk P w K mg base CX0 17 T.f_law T.fd_law ["_law_script"] (spLaw K PL) := by
  obtain ⟨oc, od, kV, doc, pm, an, cdv, ct, osl, e, lk, hcd⟩ := T.F_law.ex
  rw [e] at lk cd ⊢
  obtain rfl : cdv = .ref cL := cd
  refine fn_of lk hcd sc_law (fun vs H Q E h => ?_) (fun A outer s H vs Q E hr h => ?_)
  · obtain ⟨a, ns, rfl, _⟩ := h
    rfl
  · suffices z : ∃ t, PSs (cxOf CX0 P w K mg base N_law "law" (defScope s_law) T.f_law (.ref cL) A outer s H E).nox (defBody s_law) t ∧ t { nx := fun _ G => Q .non G, rt := Q } (L2.start N_law vs) H by
      obtain ⟨t, h1, h2⟩ := z
      exact ⟨t, h1.nox, h2⟩
    have nd : CellsNd (cxOf CX0 P w K mg base N_law "law" (defScope s_law) T.f_law (.ref cL) A outer s H E).nox.env := by
      intro y c hm
      have hm : (y, c) ∈ ([("_law_wrong", s.heap.objs.size + 1 + 1 + 1 + 1 + 1 + 1), ("_law_wide", s.heap.objs.size + 1 + 1 + 1 + 1 + 1), ("_law_signs_here", s.heap.objs.size + 1 + 1 + 1 + 1), ("_law_none", s.heap.objs.size + 1 + 1 + 1), ("_law_more", s.heap.objs.size + 1 + 1), ("_law_lines_here", s.heap.objs.size + 1)] : List (Str × Addr)) := hm
      simp only [List.mem_cons, Prod.mk.injEq, List.not_mem_nil, or_false] at hm
      rcases hm with ⟨rfl, rfl⟩ | ⟨rfl, rfl⟩ | ⟨rfl, rfl⟩ | ⟨rfl, rfl⟩ | ⟨rfl, rfl⟩ | ⟨rfl, rfl⟩ <;> rfl
    have hfn : (cxOf CX0 P w K mg base N_law "law" (defScope s_law) T.f_law (.ref cL) A outer s H E).nox.Ok → ∀ y c, (cxOf CX0 P w K mg base N_law "law" (defScope s_law) T.f_law (.ref cL) A outer s H E).nox.env.cells.lookup y = some c → (cxOf CX0 P w K mg base N_law "law" (defScope s_law) T.f_law (.ref cL) A outer s H E).nox.s_0.heap.objs.size ≤ c := by
      intro _ y c hm
      have hm : (y, c) ∈ ([("_law_wrong", s.heap.objs.size + 1 + 1 + 1 + 1 + 1 + 1), ("_law_wide", s.heap.objs.size + 1 + 1 + 1 + 1 + 1), ("_law_signs_here", s.heap.objs.size + 1 + 1 + 1 + 1), ("_law_none", s.heap.objs.size + 1 + 1 + 1), ("_law_more", s.heap.objs.size + 1 + 1), ("_law_lines_here", s.heap.objs.size + 1)] : List (Str × Addr)) := PySem.mem_of_lookup hm
      show s.heap.objs.size ≤ c
      simp only [List.mem_cons, Prod.mk.injEq, List.not_mem_nil, or_false] at hm
      rcases hm with ⟨_, rfl⟩ | ⟨_, rfl⟩ | ⟨_, rfl⟩ | ⟨_, rfl⟩ | ⟨_, rfl⟩ | ⟨_, rfl⟩ <;> omega
    obtain ⟨tR, hR, qR⟩ := law_refused (P := P) (w := w) (base := base) T TB A outer s H E hr nd hfn
    obtain ⟨tM, hM, qM⟩ := law_more (P := P) (w := w) (base := base) (PL := PL) T A outer s H E hr hR
    obtain ⟨tW, hW, qW⟩ := law_wrong (P := P) (w := w) (base := base) T TB A outer s H E hr nd hfn hM
    obtain ⟨tL, hL, qL⟩ := law_last (P := P) (w := w) (base := base) T TB A outer s H E hr nd hfn
    obtain ⟨tE, hE, qE⟩ := law_end (P := P) (w := w) (base := base) T TB A outer s H E hr nd hfn hL
    refine ⟨_, ((pss_cons (ps_set (i := 1) sc_law.nd rfl (.inl rfl) (pe_call (ok_bag T) (hr.mono (by decide)) (by rfl) T.g_bag T.F_bag.kp T.b_bag .nil pass0 (pa_cons (pv 0) pa_nil)))
      (pss_cons (ps_for PassesOwn.never rfl (pi_range1 (by rfl) T.z_range (pa_cons pe_int pa_nil)) (pg_name (i := 2) sc_law.nd rfl (.inl rfl))
      (pss_cons (ps_set (i := 3) sc_law.nd rfl (.inr rfl) (pe_call (ok_signs T) (hr.mono (by decide)) (by rfl) T.g_signs T.F_signs.kp T.b_signs .nil pass0 (pa_cons (pv 1) pa_nil)))
      (pss_cons (ps_asg (pe_call (ok_lines T) (hr.mono (by decide)) (by rfl) T.g_lines T.F_lines.kp T.b_lines .nil pass0 (pa_cons (pv 1) (pa_cons (pv 3) (pa_cons (pe_op op_add pe_int (pe_call (ok_pull T) (hr.mono (by decide)) (by rfl) T.g_pull T.F_pull.kp T.b_pull .nil pass0 (pa_cons (pv 1) (pa_cons pe_int pa_nil)))) pa_nil)))) (pg_tup (by rfl) (pgs_cons (pg_name (i := 4) sc_law.nd rfl (.inr rfl)) (pgs_cons (pg_name (i := 5) sc_law.nd rfl (.inl rfl)) pgs_nil))))
      hW)))
      hE))), ?_⟩
    obtain ⟨a, ns, rfl, hX, hlen, hTb, q⟩ := h
    walk_at "ss"
    intro b l H1 hb0 hl0 B1 s1
    have t1 : LamX.Tabs [(PL, qLam)] H1 := fun p hp => by
      cases List.mem_singleton.mp hp
      exact ⟨#[], s1 _ _ hTb, trivial, fun q v z => by cases z⟩
    walk_at "ss"
    refine for_it walk_range (fun i σ H' => Stp (LawSt PL a b l σ H')) (.mk ⟨⟨_, _, _, _, _, _, _, _, _, _, _, _, _, _, _, rfl⟩, B1, t1⟩) (fun _ _ _ _ _ => trivial) ?_ ?_
    · clear B1 t1 s1
      rintro i x σ H2 H3 hi hP ⟨rfl, rfl⟩
      obtain ⟨⟨y2, y3, y4, y5, y6, y7, y8, y9, y10, y11, y12, y13, y14, y15, y16, rfl⟩, B3, t3⟩ := hP.of
      clear hP
      show gName 2 (V.int (0 + (i : Int))) _ _ _
      obtain ⟨iz, hiz⟩ : ∃ iz : Int, iz = 0 + (i : Int) := ⟨_, rfl⟩
      rw [← hiz]
      walk_at "nn2"
      intro al H4 hA B4 k4
      have t4 := tabs_kp t3 k4 B3
      have al4 : al.length ≤ 4 := by rw [len_tl]; exact hA.2.1
      have al1 : 1 ≤ al.length := by rw [len_tl]; exact hA.1
      clear t3 k4 B3
      walk_at "nn2"
      refine ⟨b, l, _, rfl, B4, by decide, by decide, fun n H5 n0 n1 B5 k5 => ?_⟩
      have t5 := tabs_kp t4 k5 B4
      clear t4 k5 B4
      refine ⟨_, _, rfl, rfl, ?_⟩
      refine ⟨b, l, al, 1 + n, rfl, B5, al1, al4, by omega, by omega, fun tt r sl cls H6 htt C6 hs6 O6 l6 lk6 z6 nr ns0 B6 k6 => ?_⟩
      have t6 := tabs_kp t5 k6 B5
      clear t5 k6 B5 ns0
      walk_at "nn2"
      refine ⟨tt, _, rfl, SqT.of htt, rfl, ?_⟩
      refine ⟨_, _, rfl, _, _, rfl, rfl, ?_⟩
      have M : Md PL b l H6 r sl al cls := ⟨B6, t6, C6, hs6, hA, O6, ⟨by omega, by omega⟩, z6.1, z6.2⟩
      clear B6 t6 C6 hs6 O6 z6 htt nr
      walk_at "nn2"
      refine qW _ _ a b l r sl al cls _ _ _ _ _ _ _ _ _ _ _ _ (fun _ _ _ _ M => ?_) M
      refine qM _ _ a b l r sl al cls _ _ _ _ _ _ _ _ _ _ _ _ (fun _ mr f u _ _ _ M CM okM lkM nu => ?_) M
      refine qR _ _ a b l r sl mr al cls f u _ _ _ _ _ _ _ _ _ _ (fun _ _ _ _ B t => ?_) M CM okM lkM nu
      exact .mk ⟨⟨_, _, _, _, _, _, _, _, _, _, _, _, _, _, _, rfl⟩, B, t⟩
    · rintro σ H2 hP
      obtain ⟨⟨y2, y3, y4, y5, y6, y7, y8, y9, y10, y11, y12, y13, y14, y15, y16, rfl⟩, B3, t3⟩ := hP.of
      walk_at "nn2"
      refine qE _ _ a b l _ _ _ _ _ _ _ _ _ _ _ _ _ _ _ (fun _ _ _ t => ?_) B3 t3
      exact qL _ _ a b _ _ _ _ _ _ _ _ _ _ _ _ _ _ _ (fun _ => q _) t
end

open PySem.W PySem.Calls PySem.HandSPX in
theorem all_mk {l : PySem.W.OpenLaw} {w : World} {K : PySem.W.Frag} {h : Heap} {mg : Str → Option Value} {fa : Addr} (X : K.In h) (G : h.Ns mainGlobals mg) (hfa : mg "law" = some (.ref fa))
    {C_AheadError : Addr}
    {C_Missing : Addr}
    {C_NothingLeft : Addr}
    {C_Circuit : Addr}
    {tk_Circuit_MOST : Tok}
    {C_InvalidAlphabet : Addr}
    {nm_InvalidAlphabet q_InvalidAlphabet : Str} {N_InvalidAlphabet : Addr} {bs_InvalidAlphabet : List Value} {sn_InvalidAlphabet : List Str} {sub_InvalidAlphabet : List Value} {ab_InvalidAlphabet : Bool} {col_InvalidAlphabet : Option Bool} {dd_InvalidAlphabet : Option Addr} {m0_InvalidAlphabet m1_InvalidAlphabet m2_InvalidAlphabet m3_InvalidAlphabet m5_InvalidAlphabet : Option Value} {o1_InvalidAlphabet : Addr}
    {C_InvalidLine : Addr}
    {nm_InvalidLine q_InvalidLine : Str} {N_InvalidLine : Addr} {bs_InvalidLine : List Value} {sn_InvalidLine : List Str} {sub_InvalidLine : List Value} {ab_InvalidLine : Bool} {col_InvalidLine : Option Bool} {dd_InvalidLine : Option Addr} {m0_InvalidLine m1_InvalidLine m2_InvalidLine m3_InvalidLine m5_InvalidLine : Option Value} {o1_InvalidLine : Addr}
    {C_Steps : Addr}
    {C_TooMany : Addr}
    {nm_TooMany q_TooMany : Str} {N_TooMany : Addr} {bs_TooMany : List Value} {sn_TooMany : List Str} {sub_TooMany : List Value} {ab_TooMany : Bool} {col_TooMany : Option Bool} {dd_TooMany : Option Addr} {m0_TooMany m1_TooMany m2_TooMany m3_TooMany m5_TooMany : Option Value} {o1_TooMany : Addr}
    {tv_Circuit_MOST : Tok}
    {od_Circuit___init an_Circuit___init : Option Addr} {sl_Circuit___init : Array (Option Value)} {oc_Circuit___init kV_Circuit___init dc_Circuit___init pm_Circuit___init cd_Circuit___init ct_Circuit___init : Value} {f_Circuit___init : Addr}
    {od_Circuit___len an_Circuit___len : Option Addr} {sl_Circuit___len : Array (Option Value)} {oc_Circuit___len kV_Circuit___len dc_Circuit___len pm_Circuit___len cd_Circuit___len ct_Circuit___len : Value} {f_Circuit___len : Addr}
    {od_InvalidAlphabet___init an_InvalidAlphabet___init : Option Addr} {sl_InvalidAlphabet___init : Array (Option Value)} {oc_InvalidAlphabet___init kV_InvalidAlphabet___init dc_InvalidAlphabet___init pm_InvalidAlphabet___init cd_InvalidAlphabet___init ct_InvalidAlphabet___init : Value} {f_InvalidAlphabet___init : Addr}
    {od_InvalidLine___init an_InvalidLine___init : Option Addr} {sl_InvalidLine___init : Array (Option Value)} {oc_InvalidLine___init kV_InvalidLine___init dc_InvalidLine___init pm_InvalidLine___init cd_InvalidLine___init ct_InvalidLine___init : Value} {f_InvalidLine___init : Addr}
    {od_Steps___init an_Steps___init : Option Addr} {sl_Steps___init : Array (Option Value)} {oc_Steps___init kV_Steps___init dc_Steps___init pm_Steps___init cd_Steps___init ct_Steps___init : Value} {f_Steps___init : Addr}
    {od_TooMany___init an_TooMany___init : Option Addr} {sl_TooMany___init : Array (Option Value)} {oc_TooMany___init kV_TooMany___init dc_TooMany___init pm_TooMany___init cd_TooMany___init ct_TooMany___init : Value} {f_TooMany___init : Addr}
    {od_all_got an_all_got : Option Addr} {sl_all_got : Array (Option Value)} {oc_all_got kV_all_got dc_all_got pm_all_got cd_all_got ct_all_got : Value} {f_all_got : Addr}
    {od_bag an_bag : Option Addr} {sl_bag : Array (Option Value)} {oc_bag kV_bag dc_bag pm_bag cd_bag ct_bag : Value} {f_bag : Addr}
    {od_field an_field : Option Addr} {sl_field : Array (Option Value)} {oc_field kV_field dc_field pm_field cd_field ct_field : Value} {f_field : Addr}
    {od_got an_got : Option Addr} {sl_got : Array (Option Value)} {oc_got kV_got dc_got pm_got cd_got ct_got : Value} {f_got : Addr}
    {od_line an_line : Option Addr} {sl_line : Array (Option Value)} {oc_line kV_line dc_line pm_line cd_line ct_line : Value} {f_line : Addr}
    {od_lines an_lines : Option Addr} {sl_lines : Array (Option Value)} {oc_lines kV_lines dc_lines pm_lines cd_lines ct_lines : Value} {f_lines : Addr}
    {od_looking an_looking : Option Addr} {sl_looking : Array (Option Value)} {oc_looking kV_looking dc_looking pm_looking cd_looking ct_looking : Value} {f_looking : Addr}
    {od_of an_of : Option Addr} {sl_of : Array (Option Value)} {oc_of kV_of dc_of pm_of cd_of ct_of : Value} {f_of : Addr}
    {od_pull an_pull : Option Addr} {sl_pull : Array (Option Value)} {oc_pull kV_pull dc_pull pm_pull cd_pull ct_pull : Value} {f_pull : Addr}
    {od_same an_same : Option Addr} {sl_same : Array (Option Value)} {oc_same kV_same dc_same pm_same cd_same ct_same : Value} {f_same : Addr}
    {od_signs an_signs : Option Addr} {sl_signs : Array (Option Value)} {oc_signs kV_signs dc_signs pm_signs cd_signs ct_signs : Value} {f_signs : Addr}
    {od_size an_size : Option Addr} {sl_size : Array (Option Value)} {oc_size kV_size dc_size pm_size cd_size ct_size : Value} {f_size : Addr}
    {od_wrong_line an_wrong_line : Option Addr} {sl_wrong_line : Array (Option Value)} {oc_wrong_line kV_wrong_line dc_wrong_line pm_wrong_line cd_wrong_line ct_wrong_line : Value} {f_wrong_line : Addr}
    {od_const_size an_const_size : Option Addr} {sl_const_size : Array (Option Value)} {oc_const_size kV_const_size dc_const_size pm_const_size cd_const_size ct_const_size : Value} {f_const_size : Addr}
    {od_counter_size an_counter_size : Option Addr} {sl_counter_size : Array (Option Value)} {oc_counter_size kV_counter_size dc_counter_size pm_counter_size cd_counter_size ct_counter_size : Value} {f_counter_size : Addr}
    {od_is_alphabet an_is_alphabet : Option Addr} {sl_is_alphabet : Array (Option Value)} {oc_is_alphabet kV_is_alphabet dc_is_alphabet pm_is_alphabet cd_is_alphabet ct_is_alphabet : Value} {f_is_alphabet : Addr}
    {od_is_below an_is_below : Option Addr} {sl_is_below : Array (Option Value)} {oc_is_below kV_is_below dc_is_below pm_is_below cd_is_below ct_is_below : Value} {f_is_below : Addr}
    {od_is_cell an_is_cell : Option Addr} {sl_is_cell : Array (Option Value)} {oc_is_cell kV_is_cell dc_is_cell pm_is_cell cd_is_cell ct_is_cell : Value} {f_is_cell : Addr}
    {od_is_listed an_is_listed : Option Addr} {sl_is_listed : Array (Option Value)} {oc_is_listed kV_is_listed dc_is_listed pm_is_listed cd_is_listed ct_is_listed : Value} {f_is_listed : Addr}
    {od_is_number an_is_number : Option Addr} {sl_is_number : Array (Option Value)} {oc_is_number kV_is_number dc_is_number pm_is_number cd_is_number ct_is_number : Value} {f_is_number : Addr}
    {od_is_prime an_is_prime : Option Addr} {sl_is_prime : Array (Option Value)} {oc_is_prime kV_is_prime dc_is_prime pm_is_prime cd_is_prime ct_is_prime : Value} {f_is_prime : Addr}
    {od_is_table an_is_table : Option Addr} {sl_is_table : Array (Option Value)} {oc_is_table kV_is_table dc_is_table pm_is_table cd_is_table ct_is_table : Value} {f_is_table : Addr}
    {od_is_word an_is_word : Option Addr} {sl_is_word : Array (Option Value)} {oc_is_word kV_is_word dc_is_word pm_is_word cd_is_word ct_is_word : Value} {f_is_word : Addr}
    {od_join_size an_join_size : Option Addr} {sl_join_size : Array (Option Value)} {oc_join_size kV_join_size dc_join_size pm_join_size cd_join_size ct_join_size : Value} {f_join_size : Addr}
    {od_latch_size an_latch_size : Option Addr} {sl_latch_size : Array (Option Value)} {oc_latch_size kV_latch_size dc_latch_size pm_latch_size cd_latch_size ct_latch_size : Value} {f_latch_size : Addr}
    {od_law an_law : Option Addr} {sl_law : Array (Option Value)} {oc_law kV_law dc_law pm_law cd_law ct_law : Value} {f_law : Addr}
    {od_looks_behind an_looks_behind : Option Addr} {sl_looks_behind : Array (Option Value)} {oc_looks_behind kV_looks_behind dc_looks_behind pm_looks_behind cd_looks_behind ct_looks_behind : Value} {f_looks_behind : Addr}
    {od_measured an_measured : Option Addr} {sl_measured : Array (Option Value)} {oc_measured kV_measured dc_measured pm_measured cd_measured ct_measured : Value} {f_measured : Addr}
    {od_needed_places an_needed_places : Option Addr} {sl_needed_places : Array (Option Value)} {oc_needed_places kV_needed_places dc_needed_places pm_needed_places cd_needed_places ct_needed_places : Value} {f_needed_places : Addr}
    {DT_needed_places : Addr} {ot_needed_places : Value} {og_needed_places : Option Addr} {tn_needed_places : Nat} {st_needed_places : Array (Option Value)}
    {od_refs_at_once an_refs_at_once : Option Addr} {sl_refs_at_once : Array (Option Value)} {oc_refs_at_once kV_refs_at_once dc_refs_at_once pm_refs_at_once cd_refs_at_once ct_refs_at_once : Value} {f_refs_at_once : Addr}
    {od_size_behind an_size_behind : Option Addr} {sl_size_behind : Array (Option Value)} {oc_size_behind kV_size_behind dc_size_behind pm_size_behind cd_size_behind ct_size_behind : Value} {f_size_behind : Addr}
    {od_wire_size an_wire_size : Option Addr} {sl_wire_size : Array (Option Value)} {oc_wire_size kV_wire_size dc_wire_size pm_wire_size cd_wire_size ct_wire_size : Value} {f_wire_size : Addr}
    {t_FEWEST_SIDES : Tok}
    {t_MOST_LETTERS : Tok}
    {t_MOST_SIDES : Tok}
    {t_VALUES : Tok}
    {r_PRIMES : Addr} {ot_PRIMES : Option Addr} {tn_PRIMES : Nat} {sl_PRIMES : Array (Option Value)} {q_PRIMES_0 q_PRIMES_1 q_PRIMES_2 q_PRIMES_3 q_PRIMES_4 q_PRIMES_5 q_PRIMES_6 q_PRIMES_7 q_PRIMES_8 q_PRIMES_9 q_PRIMES_10 q_PRIMES_11 q_PRIMES_12 q_PRIMES_13 q_PRIMES_14 q_PRIMES_15 q_PRIMES_16 q_PRIMES_17 q_PRIMES_18 q_PRIMES_19 q_PRIMES_20 q_PRIMES_21 q_PRIMES_22 q_PRIMES_23 q_PRIMES_24 : Tok}
    {cL PL : Addr} {ocL : Value} {odL : Option Addr} {slL : Array (Option Value)} {vsL : Array Value}
    (aC_AheadError : PySem.W.nsIn K mainGlobals "AheadError" = some (some (.ref C_AheadError)))
    (bx_AheadError : PySem.W.subIn K (.ref C_AheadError) (.type "BaseException") = some true)
    (is_AheadError : PySem.W.isClsIn K C_AheadError = true)
    (ty_AheadError : PySem.W.typeIn K (.ref C_AheadError) = some (.type "type"))
    (aC_Missing : PySem.W.nsIn K mainGlobals "Missing" = some (some (.ref C_Missing)))
    (bx_Missing : PySem.W.subIn K (.ref C_Missing) (.type "BaseException") = some true)
    (is_Missing : PySem.W.isClsIn K C_Missing = true)
    (ty_Missing : PySem.W.typeIn K (.ref C_Missing) = some (.type "type"))
    (aC_NothingLeft : PySem.W.nsIn K mainGlobals "NothingLeft" = some (some (.ref C_NothingLeft)))
    (bx_NothingLeft : PySem.W.subIn K (.ref C_NothingLeft) (.type "BaseException") = some true)
    (is_NothingLeft : PySem.W.isClsIn K C_NothingLeft = true)
    (ty_NothingLeft : PySem.W.typeIn K (.ref C_NothingLeft) = some (.type "type"))
    (aC_Circuit : PySem.W.nsIn K mainGlobals "Circuit" = some (some (.ref C_Circuit)))
    (pg_Circuit : PySem.W.plainGet K C_Circuit Str.empty = true)
    (hd_Circuit : PySem.W.hasDictIn K C_Circuit = true)
    (po_Circuit : PySem.W.plainOver K C_Circuit = true)
    (sa_Circuit : PySem.W.findIn K (.ref C_Circuit) "__setattr__" = some (some (.builtin "object.__setattr__")))
    (mk_Circuit : PySem.W.makesIn K C_Circuit = true)
    (kc_Circuit : PySem.W.keepIn K (.ref C_Circuit) = true)
    (n_Circuit__alphabet : PySem.W.findIn K (.ref C_Circuit) "_alphabet" = some none)
    (n_Circuit__lines : PySem.W.findIn K (.ref C_Circuit) "_lines" = some none)
    (n_Circuit__sizes : PySem.W.findIn K (.ref C_Circuit) "_sizes" = some none)
    (n_Circuit__looks : PySem.W.findIn K (.ref C_Circuit) "_looks" = some none)
    (n_Circuit__steps : PySem.W.findIn K (.ref C_Circuit) "_steps" = some none)
    (o_Circuit_MOST : PySem.W.findIn K (.ref C_Circuit) "MOST" = some (some (.int 4000 tk_Circuit_MOST)))
    (og_Circuit_MOST : PySem.W.specialIn K (.int 4000 tk_Circuit_MOST) "__get__" = some none)
    (aC_InvalidAlphabet : PySem.W.nsIn K mainGlobals "InvalidAlphabet" = some (some (.ref C_InvalidAlphabet)))
    (xL_InvalidAlphabet : K.lookup C_InvalidAlphabet = some (excClassObj nm_InvalidAlphabet q_InvalidAlphabet C_InvalidAlphabet N_InvalidAlphabet bs_InvalidAlphabet [.ref o1_InvalidAlphabet, .type "ValueError", .type "Exception", .type "BaseException", .type "object"] true sn_InvalidAlphabet sub_InvalidAlphabet ab_InvalidAlphabet col_InvalidAlphabet dd_InvalidAlphabet m0_InvalidAlphabet m1_InvalidAlphabet m2_InvalidAlphabet m3_InvalidAlphabet m5_InvalidAlphabet "ValueError.__new__"))
    (sa_InvalidAlphabet : PySem.W.findIn K (.ref C_InvalidAlphabet) "__setattr__" = some (some (.builtin "object.__setattr__")))
    (ga_InvalidAlphabet : PySem.W.findIn K (.ref C_InvalidAlphabet) "__getattribute__" = some (some (.builtin "BaseException.__getattribute__")))
    (gg_InvalidAlphabet : PySem.W.findIn K (.ref C_InvalidAlphabet) "__getattr__" = some none)
    (kC_InvalidAlphabet : PySem.W.keepIn K (.ref C_InvalidAlphabet) = true)
    (eC_InvalidAlphabet : PySem.W.subIn K (.ref C_InvalidAlphabet) (.type "BaseException") = some true)
    (tC_InvalidAlphabet : PySem.W.typeIn K (.ref C_InvalidAlphabet) = some (.type "type"))
    (hC_InvalidAlphabet : PySem.W.hasDictIn K C_InvalidAlphabet = true)
    (n_InvalidAlphabet_given : PySem.W.findIn K (.ref C_InvalidAlphabet) "given" = some none)
    (n_InvalidAlphabet_code : PySem.W.findIn K (.ref C_InvalidAlphabet) "code" = some none)
    (s_InvalidAlphabet_AheadError : PySem.W.subIn K (.ref C_InvalidAlphabet) (.ref C_AheadError) = some true)
    (s_InvalidAlphabet_Missing : PySem.W.subIn K (.ref C_InvalidAlphabet) (.ref C_Missing) = some false)
    (s_InvalidAlphabet_NothingLeft : PySem.W.subIn K (.ref C_InvalidAlphabet) (.ref C_NothingLeft) = some false)
    (aC_InvalidLine : PySem.W.nsIn K mainGlobals "InvalidLine" = some (some (.ref C_InvalidLine)))
    (xL_InvalidLine : K.lookup C_InvalidLine = some (excClassObj nm_InvalidLine q_InvalidLine C_InvalidLine N_InvalidLine bs_InvalidLine [.ref o1_InvalidLine, .type "ValueError", .type "Exception", .type "BaseException", .type "object"] true sn_InvalidLine sub_InvalidLine ab_InvalidLine col_InvalidLine dd_InvalidLine m0_InvalidLine m1_InvalidLine m2_InvalidLine m3_InvalidLine m5_InvalidLine "ValueError.__new__"))
    (sa_InvalidLine : PySem.W.findIn K (.ref C_InvalidLine) "__setattr__" = some (some (.builtin "object.__setattr__")))
    (ga_InvalidLine : PySem.W.findIn K (.ref C_InvalidLine) "__getattribute__" = some (some (.builtin "BaseException.__getattribute__")))
    (gg_InvalidLine : PySem.W.findIn K (.ref C_InvalidLine) "__getattr__" = some none)
    (kC_InvalidLine : PySem.W.keepIn K (.ref C_InvalidLine) = true)
    (eC_InvalidLine : PySem.W.subIn K (.ref C_InvalidLine) (.type "BaseException") = some true)
    (tC_InvalidLine : PySem.W.typeIn K (.ref C_InvalidLine) = some (.type "type"))
    (hC_InvalidLine : PySem.W.hasDictIn K C_InvalidLine = true)
    (n_InvalidLine_at : PySem.W.findIn K (.ref C_InvalidLine) "at" = some none)
    (n_InvalidLine_code : PySem.W.findIn K (.ref C_InvalidLine) "code" = some none)
    (s_InvalidLine_AheadError : PySem.W.subIn K (.ref C_InvalidLine) (.ref C_AheadError) = some true)
    (s_InvalidLine_Missing : PySem.W.subIn K (.ref C_InvalidLine) (.ref C_Missing) = some false)
    (s_InvalidLine_NothingLeft : PySem.W.subIn K (.ref C_InvalidLine) (.ref C_NothingLeft) = some false)
    (aC_Steps : PySem.W.nsIn K mainGlobals "Steps" = some (some (.ref C_Steps)))
    (pg_Steps : PySem.W.plainGet K C_Steps Str.empty = true)
    (hd_Steps : PySem.W.hasDictIn K C_Steps = true)
    (po_Steps : PySem.W.plainOver K C_Steps = true)
    (sa_Steps : PySem.W.findIn K (.ref C_Steps) "__setattr__" = some (some (.builtin "object.__setattr__")))
    (mk_Steps : PySem.W.makesIn K C_Steps = true)
    (kc_Steps : PySem.W.keepIn K (.ref C_Steps) = true)
    (n_Steps__lines : PySem.W.findIn K (.ref C_Steps) "_lines" = some none)
    (n_Steps__cells : PySem.W.findIn K (.ref C_Steps) "_cells" = some none)
    (n_Steps__ahead : PySem.W.findIn K (.ref C_Steps) "_ahead" = some none)
    (n_Steps__behind : PySem.W.findIn K (.ref C_Steps) "_behind" = some none)
    (aC_TooMany : PySem.W.nsIn K mainGlobals "TooMany" = some (some (.ref C_TooMany)))
    (xL_TooMany : K.lookup C_TooMany = some (excClassObj nm_TooMany q_TooMany C_TooMany N_TooMany bs_TooMany [.ref o1_TooMany, .type "ValueError", .type "Exception", .type "BaseException", .type "object"] true sn_TooMany sub_TooMany ab_TooMany col_TooMany dd_TooMany m0_TooMany m1_TooMany m2_TooMany m3_TooMany m5_TooMany "ValueError.__new__"))
    (sa_TooMany : PySem.W.findIn K (.ref C_TooMany) "__setattr__" = some (some (.builtin "object.__setattr__")))
    (ga_TooMany : PySem.W.findIn K (.ref C_TooMany) "__getattribute__" = some (some (.builtin "BaseException.__getattribute__")))
    (gg_TooMany : PySem.W.findIn K (.ref C_TooMany) "__getattr__" = some none)
    (kC_TooMany : PySem.W.keepIn K (.ref C_TooMany) = true)
    (eC_TooMany : PySem.W.subIn K (.ref C_TooMany) (.type "BaseException") = some true)
    (tC_TooMany : PySem.W.typeIn K (.ref C_TooMany) = some (.type "type"))
    (hC_TooMany : PySem.W.hasDictIn K C_TooMany = true)
    (n_TooMany_subject : PySem.W.findIn K (.ref C_TooMany) "subject" = some none)
    (n_TooMany_most : PySem.W.findIn K (.ref C_TooMany) "most" = some none)
    (n_TooMany_code : PySem.W.findIn K (.ref C_TooMany) "code" = some none)
    (s_TooMany_AheadError : PySem.W.subIn K (.ref C_TooMany) (.ref C_AheadError) = some true)
    (s_TooMany_Missing : PySem.W.subIn K (.ref C_TooMany) (.ref C_Missing) = some false)
    (s_TooMany_NothingLeft : PySem.W.subIn K (.ref C_TooMany) (.ref C_NothingLeft) = some false)
    (ra_Circuit : PySem.W.readsIn K C_Circuit (.type "type") = true)
    (rb_Circuit : PySem.W.specialIn K (.ref C_Circuit) "__getattribute__" = some (some (.builtin "type.__getattribute__")))
    (rv_Circuit_MOST : PySem.W.findCls K (.ref C_Circuit) (.type "type") "MOST" = some (.val (.int 4000 tv_Circuit_MOST)))
    (a_Circuit___init : PySem.W.findIn K (.ref C_Circuit) "__init__" = some (some (.ref f_Circuit___init)))
    (i_Circuit___init : PySem.W.isFn K (.ref f_Circuit___init) = true)
    (l_Circuit___init : K.lookup f_Circuit___init = some ⟨oc_Circuit___init, od_Circuit___init, .func (PySem.W.fnOf "__init__" "Circuit.__init__" (defArgs s_Circuit___init) (defBody s_Circuit___init) (defScope s_Circuit___init) .none kV_Circuit___init dc_Circuit___init pm_Circuit___init an_Circuit___init cd_Circuit___init ct_Circuit___init), sl_Circuit___init⟩) (c_Circuit___init : PySem.W.codeIn K cd_Circuit___init "Circuit.__init__" = true) (k_Circuit___init : PySem.W.keepIn K (.ref f_Circuit___init) = true)
    (a_Circuit___len : PySem.W.findIn K (.ref C_Circuit) "__len__" = some (some (.ref f_Circuit___len)))
    (i_Circuit___len : PySem.W.isFn K (.ref f_Circuit___len) = true)
    (l_Circuit___len : K.lookup f_Circuit___len = some ⟨oc_Circuit___len, od_Circuit___len, .func (PySem.W.fnOf "__len__" "Circuit.__len__" (defArgs s_Circuit___len) (defBody s_Circuit___len) (defScope s_Circuit___len) .none kV_Circuit___len dc_Circuit___len pm_Circuit___len an_Circuit___len cd_Circuit___len ct_Circuit___len), sl_Circuit___len⟩) (c_Circuit___len : PySem.W.codeIn K cd_Circuit___len "Circuit.__len__" = true) (k_Circuit___len : PySem.W.keepIn K (.ref f_Circuit___len) = true)
    (a_InvalidAlphabet___init : PySem.W.findIn K (.ref C_InvalidAlphabet) "__init__" = some (some (.ref f_InvalidAlphabet___init)))
    (t_InvalidAlphabet___init : PySem.W.typeIn K (.ref f_InvalidAlphabet___init) = some (.type "function"))
    (l_InvalidAlphabet___init : K.lookup f_InvalidAlphabet___init = some ⟨oc_InvalidAlphabet___init, od_InvalidAlphabet___init, .func (PySem.W.fnOf "__init__" "InvalidAlphabet.__init__" (defArgs s_InvalidAlphabet___init) (defBody s_InvalidAlphabet___init) (defScope s_InvalidAlphabet___init) .none kV_InvalidAlphabet___init dc_InvalidAlphabet___init pm_InvalidAlphabet___init an_InvalidAlphabet___init cd_InvalidAlphabet___init ct_InvalidAlphabet___init), sl_InvalidAlphabet___init⟩) (c_InvalidAlphabet___init : PySem.W.codeIn K cd_InvalidAlphabet___init "InvalidAlphabet.__init__" = true) (k_InvalidAlphabet___init : PySem.W.keepIn K (.ref f_InvalidAlphabet___init) = true)
    (a_InvalidLine___init : PySem.W.findIn K (.ref C_InvalidLine) "__init__" = some (some (.ref f_InvalidLine___init)))
    (t_InvalidLine___init : PySem.W.typeIn K (.ref f_InvalidLine___init) = some (.type "function"))
    (l_InvalidLine___init : K.lookup f_InvalidLine___init = some ⟨oc_InvalidLine___init, od_InvalidLine___init, .func (PySem.W.fnOf "__init__" "InvalidLine.__init__" (defArgs s_InvalidLine___init) (defBody s_InvalidLine___init) (defScope s_InvalidLine___init) .none kV_InvalidLine___init dc_InvalidLine___init pm_InvalidLine___init an_InvalidLine___init cd_InvalidLine___init ct_InvalidLine___init), sl_InvalidLine___init⟩) (c_InvalidLine___init : PySem.W.codeIn K cd_InvalidLine___init "InvalidLine.__init__" = true) (k_InvalidLine___init : PySem.W.keepIn K (.ref f_InvalidLine___init) = true)
    (a_Steps___init : PySem.W.findIn K (.ref C_Steps) "__init__" = some (some (.ref f_Steps___init)))
    (i_Steps___init : PySem.W.isFn K (.ref f_Steps___init) = true)
    (l_Steps___init : K.lookup f_Steps___init = some ⟨oc_Steps___init, od_Steps___init, .func (PySem.W.fnOf "__init__" "Steps.__init__" (defArgs s_Steps___init) (defBody s_Steps___init) (defScope s_Steps___init) .none kV_Steps___init dc_Steps___init pm_Steps___init an_Steps___init cd_Steps___init ct_Steps___init), sl_Steps___init⟩) (c_Steps___init : PySem.W.codeIn K cd_Steps___init "Steps.__init__" = true) (k_Steps___init : PySem.W.keepIn K (.ref f_Steps___init) = true)
    (a_TooMany___init : PySem.W.findIn K (.ref C_TooMany) "__init__" = some (some (.ref f_TooMany___init)))
    (t_TooMany___init : PySem.W.typeIn K (.ref f_TooMany___init) = some (.type "function"))
    (l_TooMany___init : K.lookup f_TooMany___init = some ⟨oc_TooMany___init, od_TooMany___init, .func (PySem.W.fnOf "__init__" "TooMany.__init__" (defArgs s_TooMany___init) (defBody s_TooMany___init) (defScope s_TooMany___init) .none kV_TooMany___init dc_TooMany___init pm_TooMany___init an_TooMany___init cd_TooMany___init ct_TooMany___init), sl_TooMany___init⟩) (c_TooMany___init : PySem.W.codeIn K cd_TooMany___init "TooMany.__init__" = true) (k_TooMany___init : PySem.W.keepIn K (.ref f_TooMany___init) = true)
    (a_all_got : PySem.W.nsIn K mainGlobals "_law_all_got" = some (some (.ref f_all_got)))
    (l_all_got : K.lookup f_all_got = some ⟨oc_all_got, od_all_got, .func (PySem.W.fnOf "_law_all_got" "_law_all_got" (defArgs s_all_got) (defBody s_all_got) (defScope s_all_got) .none kV_all_got dc_all_got pm_all_got an_all_got cd_all_got ct_all_got), sl_all_got⟩) (c_all_got : PySem.W.codeIn K cd_all_got "_law_all_got" = true) (k_all_got : PySem.W.keepIn K (.ref f_all_got) = true)
    (a_bag : PySem.W.nsIn K mainGlobals "_law_bag" = some (some (.ref f_bag)))
    (l_bag : K.lookup f_bag = some ⟨oc_bag, od_bag, .func (PySem.W.fnOf "_law_bag" "_law_bag" (defArgs s_bag) (defBody s_bag) (defScope s_bag) .none kV_bag dc_bag pm_bag an_bag cd_bag ct_bag), sl_bag⟩) (c_bag : PySem.W.codeIn K cd_bag "_law_bag" = true) (k_bag : PySem.W.keepIn K (.ref f_bag) = true)
    (a_field : PySem.W.nsIn K mainGlobals "_law_field" = some (some (.ref f_field)))
    (l_field : K.lookup f_field = some ⟨oc_field, od_field, .func (PySem.W.fnOf "_law_field" "_law_field" (defArgs s_field) (defBody s_field) (defScope s_field) .none kV_field dc_field pm_field an_field cd_field ct_field), sl_field⟩) (c_field : PySem.W.codeIn K cd_field "_law_field" = true) (k_field : PySem.W.keepIn K (.ref f_field) = true)
    (a_got : PySem.W.nsIn K mainGlobals "_law_got" = some (some (.ref f_got)))
    (l_got : K.lookup f_got = some ⟨oc_got, od_got, .func (PySem.W.fnOf "_law_got" "_law_got" (defArgs s_got) (defBody s_got) (defScope s_got) .none kV_got dc_got pm_got an_got cd_got ct_got), sl_got⟩) (c_got : PySem.W.codeIn K cd_got "_law_got" = true) (k_got : PySem.W.keepIn K (.ref f_got) = true)
    (a_line : PySem.W.nsIn K mainGlobals "_law_line" = some (some (.ref f_line)))
    (l_line : K.lookup f_line = some ⟨oc_line, od_line, .func (PySem.W.fnOf "_law_line" "_law_line" (defArgs s_line) (defBody s_line) (defScope s_line) .none kV_line dc_line pm_line an_line cd_line ct_line), sl_line⟩) (c_line : PySem.W.codeIn K cd_line "_law_line" = true) (k_line : PySem.W.keepIn K (.ref f_line) = true)
    (a_lines : PySem.W.nsIn K mainGlobals "_law_lines" = some (some (.ref f_lines)))
    (l_lines : K.lookup f_lines = some ⟨oc_lines, od_lines, .func (PySem.W.fnOf "_law_lines" "_law_lines" (defArgs s_lines) (defBody s_lines) (defScope s_lines) .none kV_lines dc_lines pm_lines an_lines cd_lines ct_lines), sl_lines⟩) (c_lines : PySem.W.codeIn K cd_lines "_law_lines" = true) (k_lines : PySem.W.keepIn K (.ref f_lines) = true)
    (a_looking : PySem.W.nsIn K mainGlobals "_law_looking" = some (some (.ref f_looking)))
    (l_looking : K.lookup f_looking = some ⟨oc_looking, od_looking, .func (PySem.W.fnOf "_law_looking" "_law_looking" (defArgs s_looking) (defBody s_looking) (defScope s_looking) .none kV_looking dc_looking pm_looking an_looking cd_looking ct_looking), sl_looking⟩) (c_looking : PySem.W.codeIn K cd_looking "_law_looking" = true) (k_looking : PySem.W.keepIn K (.ref f_looking) = true)
    (a_of : PySem.W.nsIn K mainGlobals "_law_of" = some (some (.ref f_of)))
    (l_of : K.lookup f_of = some ⟨oc_of, od_of, .func (PySem.W.fnOf "_law_of" "_law_of" (defArgs s_of) (defBody s_of) (defScope s_of) .none kV_of dc_of pm_of an_of cd_of ct_of), sl_of⟩) (c_of : PySem.W.codeIn K cd_of "_law_of" = true) (k_of : PySem.W.keepIn K (.ref f_of) = true)
    (a_pull : PySem.W.nsIn K mainGlobals "_law_pull" = some (some (.ref f_pull)))
    (l_pull : K.lookup f_pull = some ⟨oc_pull, od_pull, .func (PySem.W.fnOf "_law_pull" "_law_pull" (defArgs s_pull) (defBody s_pull) (defScope s_pull) .none kV_pull dc_pull pm_pull an_pull cd_pull ct_pull), sl_pull⟩) (c_pull : PySem.W.codeIn K cd_pull "_law_pull" = true) (k_pull : PySem.W.keepIn K (.ref f_pull) = true)
    (a_same : PySem.W.nsIn K mainGlobals "_law_same" = some (some (.ref f_same)))
    (l_same : K.lookup f_same = some ⟨oc_same, od_same, .func (PySem.W.fnOf "_law_same" "_law_same" (defArgs s_same) (defBody s_same) (defScope s_same) .none kV_same dc_same pm_same an_same cd_same ct_same), sl_same⟩) (c_same : PySem.W.codeIn K cd_same "_law_same" = true) (k_same : PySem.W.keepIn K (.ref f_same) = true)
    (a_signs : PySem.W.nsIn K mainGlobals "_law_signs" = some (some (.ref f_signs)))
    (l_signs : K.lookup f_signs = some ⟨oc_signs, od_signs, .func (PySem.W.fnOf "_law_signs" "_law_signs" (defArgs s_signs) (defBody s_signs) (defScope s_signs) .none kV_signs dc_signs pm_signs an_signs cd_signs ct_signs), sl_signs⟩) (c_signs : PySem.W.codeIn K cd_signs "_law_signs" = true) (k_signs : PySem.W.keepIn K (.ref f_signs) = true)
    (a_size : PySem.W.nsIn K mainGlobals "_law_size" = some (some (.ref f_size)))
    (l_size : K.lookup f_size = some ⟨oc_size, od_size, .func (PySem.W.fnOf "_law_size" "_law_size" (defArgs s_size) (defBody s_size) (defScope s_size) .none kV_size dc_size pm_size an_size cd_size ct_size), sl_size⟩) (c_size : PySem.W.codeIn K cd_size "_law_size" = true) (k_size : PySem.W.keepIn K (.ref f_size) = true)
    (a_wrong_line : PySem.W.nsIn K mainGlobals "_law_wrong_line" = some (some (.ref f_wrong_line)))
    (l_wrong_line : K.lookup f_wrong_line = some ⟨oc_wrong_line, od_wrong_line, .func (PySem.W.fnOf "_law_wrong_line" "_law_wrong_line" (defArgs s_wrong_line) (defBody s_wrong_line) (defScope s_wrong_line) .none kV_wrong_line dc_wrong_line pm_wrong_line an_wrong_line cd_wrong_line ct_wrong_line), sl_wrong_line⟩) (c_wrong_line : PySem.W.codeIn K cd_wrong_line "_law_wrong_line" = true) (k_wrong_line : PySem.W.keepIn K (.ref f_wrong_line) = true)
    (a_const_size : PySem.W.nsIn K mainGlobals "const_size" = some (some (.ref f_const_size)))
    (l_const_size : K.lookup f_const_size = some ⟨oc_const_size, od_const_size, .func (PySem.W.fnOf "const_size" "const_size" (defArgs s_const_size) (defBody s_const_size) (defScope s_const_size) .none kV_const_size dc_const_size pm_const_size an_const_size cd_const_size ct_const_size), sl_const_size⟩) (c_const_size : PySem.W.codeIn K cd_const_size "const_size" = true) (k_const_size : PySem.W.keepIn K (.ref f_const_size) = true)
    (a_counter_size : PySem.W.nsIn K mainGlobals "counter_size" = some (some (.ref f_counter_size)))
    (l_counter_size : K.lookup f_counter_size = some ⟨oc_counter_size, od_counter_size, .func (PySem.W.fnOf "counter_size" "counter_size" (defArgs s_counter_size) (defBody s_counter_size) (defScope s_counter_size) .none kV_counter_size dc_counter_size pm_counter_size an_counter_size cd_counter_size ct_counter_size), sl_counter_size⟩) (c_counter_size : PySem.W.codeIn K cd_counter_size "counter_size" = true) (k_counter_size : PySem.W.keepIn K (.ref f_counter_size) = true)
    (a_is_alphabet : PySem.W.nsIn K mainGlobals "is_alphabet" = some (some (.ref f_is_alphabet)))
    (l_is_alphabet : K.lookup f_is_alphabet = some ⟨oc_is_alphabet, od_is_alphabet, .func (PySem.W.fnOf "is_alphabet" "is_alphabet" (defArgs s_is_alphabet) (defBody s_is_alphabet) (defScope s_is_alphabet) .none kV_is_alphabet dc_is_alphabet pm_is_alphabet an_is_alphabet cd_is_alphabet ct_is_alphabet), sl_is_alphabet⟩) (c_is_alphabet : PySem.W.codeIn K cd_is_alphabet "is_alphabet" = true) (k_is_alphabet : PySem.W.keepIn K (.ref f_is_alphabet) = true)
    (a_is_below : PySem.W.nsIn K mainGlobals "is_below" = some (some (.ref f_is_below)))
    (l_is_below : K.lookup f_is_below = some ⟨oc_is_below, od_is_below, .func (PySem.W.fnOf "is_below" "is_below" (defArgs s_is_below) (defBody s_is_below) (defScope s_is_below) .none kV_is_below dc_is_below pm_is_below an_is_below cd_is_below ct_is_below), sl_is_below⟩) (c_is_below : PySem.W.codeIn K cd_is_below "is_below" = true) (k_is_below : PySem.W.keepIn K (.ref f_is_below) = true)
    (a_is_cell : PySem.W.nsIn K mainGlobals "is_cell" = some (some (.ref f_is_cell)))
    (l_is_cell : K.lookup f_is_cell = some ⟨oc_is_cell, od_is_cell, .func (PySem.W.fnOf "is_cell" "is_cell" (defArgs s_is_cell) (defBody s_is_cell) (defScope s_is_cell) .none kV_is_cell dc_is_cell pm_is_cell an_is_cell cd_is_cell ct_is_cell), sl_is_cell⟩) (c_is_cell : PySem.W.codeIn K cd_is_cell "is_cell" = true) (k_is_cell : PySem.W.keepIn K (.ref f_is_cell) = true)
    (a_is_listed : PySem.W.nsIn K mainGlobals "is_listed" = some (some (.ref f_is_listed)))
    (l_is_listed : K.lookup f_is_listed = some ⟨oc_is_listed, od_is_listed, .func (PySem.W.fnOf "is_listed" "is_listed" (defArgs s_is_listed) (defBody s_is_listed) (defScope s_is_listed) .none kV_is_listed dc_is_listed pm_is_listed an_is_listed cd_is_listed ct_is_listed), sl_is_listed⟩) (c_is_listed : PySem.W.codeIn K cd_is_listed "is_listed" = true) (k_is_listed : PySem.W.keepIn K (.ref f_is_listed) = true)
    (a_is_number : PySem.W.nsIn K mainGlobals "is_number" = some (some (.ref f_is_number)))
    (l_is_number : K.lookup f_is_number = some ⟨oc_is_number, od_is_number, .func (PySem.W.fnOf "is_number" "is_number" (defArgs s_is_number) (defBody s_is_number) (defScope s_is_number) .none kV_is_number dc_is_number pm_is_number an_is_number cd_is_number ct_is_number), sl_is_number⟩) (c_is_number : PySem.W.codeIn K cd_is_number "is_number" = true) (k_is_number : PySem.W.keepIn K (.ref f_is_number) = true)
    (a_is_prime : PySem.W.nsIn K mainGlobals "is_prime" = some (some (.ref f_is_prime)))
    (l_is_prime : K.lookup f_is_prime = some ⟨oc_is_prime, od_is_prime, .func (PySem.W.fnOf "is_prime" "is_prime" (defArgs s_is_prime) (defBody s_is_prime) (defScope s_is_prime) .none kV_is_prime dc_is_prime pm_is_prime an_is_prime cd_is_prime ct_is_prime), sl_is_prime⟩) (c_is_prime : PySem.W.codeIn K cd_is_prime "is_prime" = true) (k_is_prime : PySem.W.keepIn K (.ref f_is_prime) = true)
    (a_is_table : PySem.W.nsIn K mainGlobals "is_table" = some (some (.ref f_is_table)))
    (l_is_table : K.lookup f_is_table = some ⟨oc_is_table, od_is_table, .func (PySem.W.fnOf "is_table" "is_table" (defArgs s_is_table) (defBody s_is_table) (defScope s_is_table) .none kV_is_table dc_is_table pm_is_table an_is_table cd_is_table ct_is_table), sl_is_table⟩) (c_is_table : PySem.W.codeIn K cd_is_table "is_table" = true) (k_is_table : PySem.W.keepIn K (.ref f_is_table) = true)
    (a_is_word : PySem.W.nsIn K mainGlobals "is_word" = some (some (.ref f_is_word)))
    (l_is_word : K.lookup f_is_word = some ⟨oc_is_word, od_is_word, .func (PySem.W.fnOf "is_word" "is_word" (defArgs s_is_word) (defBody s_is_word) (defScope s_is_word) .none kV_is_word dc_is_word pm_is_word an_is_word cd_is_word ct_is_word), sl_is_word⟩) (c_is_word : PySem.W.codeIn K cd_is_word "is_word" = true) (k_is_word : PySem.W.keepIn K (.ref f_is_word) = true)
    (a_join_size : PySem.W.nsIn K mainGlobals "join_size" = some (some (.ref f_join_size)))
    (l_join_size : K.lookup f_join_size = some ⟨oc_join_size, od_join_size, .func (PySem.W.fnOf "join_size" "join_size" (defArgs s_join_size) (defBody s_join_size) (defScope s_join_size) .none kV_join_size dc_join_size pm_join_size an_join_size cd_join_size ct_join_size), sl_join_size⟩) (c_join_size : PySem.W.codeIn K cd_join_size "join_size" = true) (k_join_size : PySem.W.keepIn K (.ref f_join_size) = true)
    (a_latch_size : PySem.W.nsIn K mainGlobals "latch_size" = some (some (.ref f_latch_size)))
    (l_latch_size : K.lookup f_latch_size = some ⟨oc_latch_size, od_latch_size, .func (PySem.W.fnOf "latch_size" "latch_size" (defArgs s_latch_size) (defBody s_latch_size) (defScope s_latch_size) .none kV_latch_size dc_latch_size pm_latch_size an_latch_size cd_latch_size ct_latch_size), sl_latch_size⟩) (c_latch_size : PySem.W.codeIn K cd_latch_size "latch_size" = true) (k_latch_size : PySem.W.keepIn K (.ref f_latch_size) = true)
    (a_law : PySem.W.nsIn K mainGlobals "law" = some (some (.ref f_law)))
    (l_law : K.lookup f_law = some ⟨oc_law, od_law, .func (PySem.W.fnOf "law" "law" (defArgs s_law) (defBody s_law) (defScope s_law) .none kV_law dc_law pm_law an_law cd_law ct_law), sl_law⟩) (c_law : PySem.W.codeIn K cd_law "law" = true) (k_law : PySem.W.keepIn K (.ref f_law) = true)
    (a_looks_behind : PySem.W.nsIn K mainGlobals "looks_behind" = some (some (.ref f_looks_behind)))
    (l_looks_behind : K.lookup f_looks_behind = some ⟨oc_looks_behind, od_looks_behind, .func (PySem.W.fnOf "looks_behind" "looks_behind" (defArgs s_looks_behind) (defBody s_looks_behind) (defScope s_looks_behind) .none kV_looks_behind dc_looks_behind pm_looks_behind an_looks_behind cd_looks_behind ct_looks_behind), sl_looks_behind⟩) (c_looks_behind : PySem.W.codeIn K cd_looks_behind "looks_behind" = true) (k_looks_behind : PySem.W.keepIn K (.ref f_looks_behind) = true)
    (a_measured : PySem.W.nsIn K mainGlobals "measured" = some (some (.ref f_measured)))
    (l_measured : K.lookup f_measured = some ⟨oc_measured, od_measured, .func (PySem.W.fnOf "measured" "measured" (defArgs s_measured) (defBody s_measured) (defScope s_measured) .none kV_measured dc_measured pm_measured an_measured cd_measured ct_measured), sl_measured⟩) (c_measured : PySem.W.codeIn K cd_measured "measured" = true) (k_measured : PySem.W.keepIn K (.ref f_measured) = true)
    (a_needed_places : PySem.W.nsIn K mainGlobals "needed_places" = some (some (.ref f_needed_places)))
    (l_needed_places : K.lookup f_needed_places = some ⟨oc_needed_places, od_needed_places, .func (PySem.W.fnOf "needed_places" "needed_places" (defArgs s_needed_places) (defBody s_needed_places) (defScope s_needed_places) (.ref DT_needed_places) kV_needed_places dc_needed_places pm_needed_places an_needed_places cd_needed_places ct_needed_places), sl_needed_places⟩) (c_needed_places : PySem.W.codeIn K cd_needed_places "needed_places" = true) (k_needed_places : PySem.W.keepIn K (.ref f_needed_places) = true)
    (dt_needed_places : K.lookup DT_needed_places = some ⟨ot_needed_places, og_needed_places, .seq #[Value.none] tn_needed_places, st_needed_places⟩)
    (a_refs_at_once : PySem.W.nsIn K mainGlobals "refs_at_once" = some (some (.ref f_refs_at_once)))
    (l_refs_at_once : K.lookup f_refs_at_once = some ⟨oc_refs_at_once, od_refs_at_once, .func (PySem.W.fnOf "refs_at_once" "refs_at_once" (defArgs s_refs_at_once) (defBody s_refs_at_once) (defScope s_refs_at_once) .none kV_refs_at_once dc_refs_at_once pm_refs_at_once an_refs_at_once cd_refs_at_once ct_refs_at_once), sl_refs_at_once⟩) (c_refs_at_once : PySem.W.codeIn K cd_refs_at_once "refs_at_once" = true) (k_refs_at_once : PySem.W.keepIn K (.ref f_refs_at_once) = true)
    (a_size_behind : PySem.W.nsIn K mainGlobals "size_behind" = some (some (.ref f_size_behind)))
    (l_size_behind : K.lookup f_size_behind = some ⟨oc_size_behind, od_size_behind, .func (PySem.W.fnOf "size_behind" "size_behind" (defArgs s_size_behind) (defBody s_size_behind) (defScope s_size_behind) .none kV_size_behind dc_size_behind pm_size_behind an_size_behind cd_size_behind ct_size_behind), sl_size_behind⟩) (c_size_behind : PySem.W.codeIn K cd_size_behind "size_behind" = true) (k_size_behind : PySem.W.keepIn K (.ref f_size_behind) = true)
    (a_wire_size : PySem.W.nsIn K mainGlobals "wire_size" = some (some (.ref f_wire_size)))
    (l_wire_size : K.lookup f_wire_size = some ⟨oc_wire_size, od_wire_size, .func (PySem.W.fnOf "wire_size" "wire_size" (defArgs s_wire_size) (defBody s_wire_size) (defScope s_wire_size) .none kV_wire_size dc_wire_size pm_wire_size an_wire_size cd_wire_size ct_wire_size), sl_wire_size⟩) (c_wire_size : PySem.W.codeIn K cd_wire_size "wire_size" = true) (k_wire_size : PySem.W.keepIn K (.ref f_wire_size) = true)
    (z_abs : PySem.W.nsIn K mainGlobals "abs" = some none)
    (z_all : PySem.W.nsIn K mainGlobals "all" = some none)
    (z_any : PySem.W.nsIn K mainGlobals "any" = some none)
    (z_bool : PySem.W.nsIn K mainGlobals "bool" = some none)
    (z_dict : PySem.W.nsIn K mainGlobals "dict" = some none)
    (z_enumerate : PySem.W.nsIn K mainGlobals "enumerate" = some none)
    (z_int : PySem.W.nsIn K mainGlobals "int" = some none)
    (z_isinstance : PySem.W.nsIn K mainGlobals "isinstance" = some none)
    (z_len : PySem.W.nsIn K mainGlobals "len" = some none)
    (z_list : PySem.W.nsIn K mainGlobals "list" = some none)
    (z_max : PySem.W.nsIn K mainGlobals "max" = some none)
    (z_min : PySem.W.nsIn K mainGlobals "min" = some none)
    (z_range : PySem.W.nsIn K mainGlobals "range" = some none)
    (z_reversed : PySem.W.nsIn K mainGlobals "reversed" = some none)
    (z_set : PySem.W.nsIn K mainGlobals "set" = some none)
    (z_sorted : PySem.W.nsIn K mainGlobals "sorted" = some none)
    (z_str : PySem.W.nsIn K mainGlobals "str" = some none)
    (z_tuple : PySem.W.nsIn K mainGlobals "tuple" = some none)
    (z_zip : PySem.W.nsIn K mainGlobals "zip" = some none)
    (c_FEWEST_SIDES : PySem.W.nsIn K mainGlobals "FEWEST_SIDES" = some (some (.int 2 t_FEWEST_SIDES)))
    (c_MOST_LETTERS : PySem.W.nsIn K mainGlobals "MOST_LETTERS" = some (some (.int 4 t_MOST_LETTERS)))
    (c_MOST_SIDES : PySem.W.nsIn K mainGlobals "MOST_SIDES" = some (some (.int 999 t_MOST_SIDES)))
    (c_VALUES : PySem.W.nsIn K mainGlobals "VALUES" = some (some (.int 1000 t_VALUES)))
    (a_PRIMES : PySem.W.nsIn K mainGlobals "PRIMES" = some (some (.ref r_PRIMES))) (l_PRIMES : K.lookup r_PRIMES = some ⟨.type "tuple", ot_PRIMES, .seq #[.int 2 q_PRIMES_0, .int 3 q_PRIMES_1, .int 5 q_PRIMES_2, .int 7 q_PRIMES_3, .int 11 q_PRIMES_4, .int 13 q_PRIMES_5, .int 17 q_PRIMES_6, .int 19 q_PRIMES_7, .int 23 q_PRIMES_8, .int 29 q_PRIMES_9, .int 31 q_PRIMES_10, .int 37 q_PRIMES_11, .int 41 q_PRIMES_12, .int 43 q_PRIMES_13, .int 47 q_PRIMES_14, .int 53 q_PRIMES_15, .int 59 q_PRIMES_16, .int 61 q_PRIMES_17, .int 67 q_PRIMES_18, .int 71 q_PRIMES_19, .int 73 q_PRIMES_20, .int 79 q_PRIMES_21, .int 83 q_PRIMES_22, .int 89 q_PRIMES_23, .int 97 q_PRIMES_24] tn_PRIMES, sl_PRIMES⟩)
    (ecL : cd_law = .ref cL) (lcL : K.lookup cL = some ⟨ocL, odL, .fields vsL, slL⟩) (epL : vsL[11]? = some (.ref PL)) (hcL : PySem.W.codeHdIn K cL PL = true) (npL : K.lookup PL = none) (tbL : h.get? PL = some (PySem.W.tabObj #[])) :
    LamX.LawAtS l w K CX0 17 63 "_law_script" mg fa h := by
  have e := hfa.symm.trans (PySem.W.mg_of X G a_law)
  cases e
  have FD_needed_places : FunD K "needed_places" "needed_places" (defArgs s_needed_places) (defBody s_needed_places) (defScope s_needed_places) [.non] [] f_needed_places (PySem.W.fnOf "needed_places" "needed_places" (defArgs s_needed_places) (defBody s_needed_places) (defScope s_needed_places) (.ref DT_needed_places) kV_needed_places dc_needed_places pm_needed_places an_needed_places cd_needed_places ct_needed_places) := ⟨⟨_, _, .ref DT_needed_places, _, _, _, _, _, _, _, rfl, l_needed_places, c_needed_places, .inr ⟨(by intro z; cases z), DT_needed_places, _, [Value.none], _, rfl, dt_needed_places, rfl, (.cons rfl .nil)⟩, .inl rfl⟩, k_needed_places⟩
  obtain ⟨bd_needed_places, vb_needed_places, b_needed_places⟩ := FD_needed_places.binds1 (ps := ["lines", "targets", "known"]) 2 0 (by intro z; cases z) rfl (fun _ _ _ _ _ _ _ us its h1 h2 => match us, its, h1, h2 with | [_, _], [_], _, _ => ⟨_, rfl, rfl⟩)
  let T : Env K mg := {
    C_AheadError := _, gC_AheadError := PySem.W.mg_of X G aC_AheadError,
    C_Missing := _, gC_Missing := PySem.W.mg_of X G aC_Missing,
    C_NothingLeft := _, gC_NothingLeft := PySem.W.mg_of X G aC_NothingLeft,
    C_Circuit := _, gC_Circuit := PySem.W.mg_of X G aC_Circuit, n_Circuit__alphabet := n_Circuit__alphabet, n_Circuit__lines := n_Circuit__lines, n_Circuit__sizes := n_Circuit__sizes, n_Circuit__looks := n_Circuit__looks, n_Circuit__steps := n_Circuit__steps, u_Circuit_MOST := _, o_Circuit_MOST := ⟨o_Circuit_MOST, ⟨_, rfl⟩, og_Circuit_MOST, rfl⟩, cl_Circuit := ⟨pg_Circuit, hd_Circuit, po_Circuit, sa_Circuit⟩,
    C_InvalidAlphabet := _, gC_InvalidAlphabet := PySem.W.mg_of X G aC_InvalidAlphabet, n_InvalidAlphabet_given := n_InvalidAlphabet_given, n_InvalidAlphabet_code := n_InvalidAlphabet_code, x_InvalidAlphabet := ⟨⟨_, _, _, _, _, _, _, _, _, _, _, _, _, _, _, xL_InvalidAlphabet, (show refsVE [.type "ValueError", .type "Exception", .type "BaseException", .type "object"] = true by decide +kernel)⟩, sa_InvalidAlphabet, eC_InvalidAlphabet, tC_InvalidAlphabet, kC_InvalidAlphabet⟩, y_InvalidAlphabet := ⟨ga_InvalidAlphabet, gg_InvalidAlphabet, eC_InvalidAlphabet, hC_InvalidAlphabet⟩, e_InvalidAlphabet := exm3 bx_AheadError is_AheadError ty_AheadError s_InvalidAlphabet_AheadError bx_Missing is_Missing ty_Missing s_InvalidAlphabet_Missing bx_NothingLeft is_NothingLeft ty_NothingLeft s_InvalidAlphabet_NothingLeft,
    C_InvalidLine := _, gC_InvalidLine := PySem.W.mg_of X G aC_InvalidLine, n_InvalidLine_at := n_InvalidLine_at, n_InvalidLine_code := n_InvalidLine_code, x_InvalidLine := ⟨⟨_, _, _, _, _, _, _, _, _, _, _, _, _, _, _, xL_InvalidLine, (show refsVE [.type "ValueError", .type "Exception", .type "BaseException", .type "object"] = true by decide +kernel)⟩, sa_InvalidLine, eC_InvalidLine, tC_InvalidLine, kC_InvalidLine⟩, y_InvalidLine := ⟨ga_InvalidLine, gg_InvalidLine, eC_InvalidLine, hC_InvalidLine⟩, e_InvalidLine := exm3 bx_AheadError is_AheadError ty_AheadError s_InvalidLine_AheadError bx_Missing is_Missing ty_Missing s_InvalidLine_Missing bx_NothingLeft is_NothingLeft ty_NothingLeft s_InvalidLine_NothingLeft,
    C_Steps := _, gC_Steps := PySem.W.mg_of X G aC_Steps, n_Steps__lines := n_Steps__lines, n_Steps__cells := n_Steps__cells, n_Steps__ahead := n_Steps__ahead, n_Steps__behind := n_Steps__behind, cl_Steps := ⟨pg_Steps, hd_Steps, po_Steps, sa_Steps⟩,
    C_TooMany := _, gC_TooMany := PySem.W.mg_of X G aC_TooMany, n_TooMany_subject := n_TooMany_subject, n_TooMany_most := n_TooMany_most, n_TooMany_code := n_TooMany_code, x_TooMany := ⟨⟨_, _, _, _, _, _, _, _, _, _, _, _, _, _, _, xL_TooMany, (show refsVE [.type "ValueError", .type "Exception", .type "BaseException", .type "object"] = true by decide +kernel)⟩, sa_TooMany, eC_TooMany, tC_TooMany, kC_TooMany⟩, y_TooMany := ⟨ga_TooMany, gg_TooMany, eC_TooMany, hC_TooMany⟩, e_TooMany := exm3 bx_AheadError is_AheadError ty_AheadError s_TooMany_AheadError bx_Missing is_Missing ty_Missing s_TooMany_Missing bx_NothingLeft is_NothingLeft ty_NothingLeft s_TooMany_NothingLeft,
    mc_Circuit := .type "type", cr_Circuit := ⟨ra_Circuit, rb_Circuit⟩,
    cu_Circuit_MOST := _, cv_Circuit_MOST := ⟨rv_Circuit_MOST, ⟨_, rfl⟩⟩,
    f_Circuit___init := _, fd_Circuit___init := _, F_Circuit___init := fun_mk (st := s_Circuit___init) l_Circuit___init c_Circuit___init k_Circuit___init, b_Circuit___init := ((fun_mk (st := s_Circuit___init) l_Circuit___init c_Circuit___init k_Circuit___init).binds (ps := ["self", "alphabet", "lines"]) (fun _ _ _ _ _ _ us hl => match us, hl with | [_, _, _], _ => rfl)), k_Circuit___init := ⟨mk_Circuit, a_Circuit___init, i_Circuit___init, kc_Circuit⟩,
    f_Circuit___len := _, fd_Circuit___len := _, F_Circuit___len := fun_mk (st := s_Circuit___len) l_Circuit___len c_Circuit___len k_Circuit___len, b_Circuit___len := ((fun_mk (st := s_Circuit___len) l_Circuit___len c_Circuit___len k_Circuit___len).binds (ps := ["self"]) (fun _ _ _ _ _ _ us hl => match us, hl with | [_], _ => rfl)), m_Circuit___len := ⟨a_Circuit___len, i_Circuit___len, k_Circuit___len⟩,
    f_InvalidAlphabet___init := _, fd_InvalidAlphabet___init := _, F_InvalidAlphabet___init := fun_mk (st := s_InvalidAlphabet___init) l_InvalidAlphabet___init c_InvalidAlphabet___init k_InvalidAlphabet___init, b_InvalidAlphabet___init := ((fun_mk (st := s_InvalidAlphabet___init) l_InvalidAlphabet___init c_InvalidAlphabet___init k_InvalidAlphabet___init).binds (ps := ["self", "given"]) (fun _ _ _ _ _ _ us hl => match us, hl with | [_, _], _ => rfl)), i_InvalidAlphabet___init := a_InvalidAlphabet___init, t_InvalidAlphabet___init := t_InvalidAlphabet___init,
    f_InvalidLine___init := _, fd_InvalidLine___init := _, F_InvalidLine___init := fun_mk (st := s_InvalidLine___init) l_InvalidLine___init c_InvalidLine___init k_InvalidLine___init, b_InvalidLine___init := ((fun_mk (st := s_InvalidLine___init) l_InvalidLine___init c_InvalidLine___init k_InvalidLine___init).binds (ps := ["self", "at"]) (fun _ _ _ _ _ _ us hl => match us, hl with | [_, _], _ => rfl)), i_InvalidLine___init := a_InvalidLine___init, t_InvalidLine___init := t_InvalidLine___init,
    f_Steps___init := _, fd_Steps___init := _, F_Steps___init := fun_mk (st := s_Steps___init) l_Steps___init c_Steps___init k_Steps___init, b_Steps___init := ((fun_mk (st := s_Steps___init) l_Steps___init c_Steps___init k_Steps___init).binds (ps := ["self", "lines"]) (fun _ _ _ _ _ _ us hl => match us, hl with | [_, _], _ => rfl)), k_Steps___init := ⟨mk_Steps, a_Steps___init, i_Steps___init, kc_Steps⟩,
    f_TooMany___init := _, fd_TooMany___init := _, F_TooMany___init := fun_mk (st := s_TooMany___init) l_TooMany___init c_TooMany___init k_TooMany___init, b_TooMany___init := ((fun_mk (st := s_TooMany___init) l_TooMany___init c_TooMany___init k_TooMany___init).binds (ps := ["self", "subject", "most"]) (fun _ _ _ _ _ _ us hl => match us, hl with | [_, _, _], _ => rfl)), i_TooMany___init := a_TooMany___init, t_TooMany___init := t_TooMany___init,
    f_all_got := _, fd_all_got := _, F_all_got := fun_mk (st := s_all_got) l_all_got c_all_got k_all_got, b_all_got := ((fun_mk (st := s_all_got) l_all_got c_all_got k_all_got).binds (ps := ["_law_asks"]) (fun _ _ _ _ _ _ us hl => match us, hl with | [_], _ => rfl)), g_all_got := PySem.W.mg_of X G a_all_got,
    f_bag := _, fd_bag := _, F_bag := fun_mk (st := s_bag) l_bag c_bag k_bag, b_bag := ((fun_mk (st := s_bag) l_bag c_bag k_bag).binds (ps := ["_law_script"]) (fun _ _ _ _ _ _ us hl => match us, hl with | [_], _ => rfl)), g_bag := PySem.W.mg_of X G a_bag,
    f_field := _, fd_field := _, F_field := fun_mk (st := s_field) l_field c_field k_field, b_field := ((fun_mk (st := s_field) l_field c_field k_field).binds (ps := ["_law_e"]) (fun _ _ _ _ _ _ us hl => match us, hl with | [_], _ => rfl)), g_field := PySem.W.mg_of X G a_field,
    f_got := _, fd_got := _, F_got := fun_mk (st := s_got) l_got c_got k_got, b_got := ((fun_mk (st := s_got) l_got c_got k_got).binds (ps := ["_law_ask"]) (fun _ _ _ _ _ _ us hl => match us, hl with | [_], _ => rfl)), g_got := PySem.W.mg_of X G a_got,
    f_line := _, fd_line := _, F_line := fun_mk (st := s_line) l_line c_line k_line, b_line := ((fun_mk (st := s_line) l_line c_line k_line).binds (ps := ["_law_bag_here", "_law_sizes"]) (fun _ _ _ _ _ _ us hl => match us, hl with | [_, _], _ => rfl)), g_line := PySem.W.mg_of X G a_line,
    f_lines := _, fd_lines := _, F_lines := fun_mk (st := s_lines) l_lines c_lines k_lines, b_lines := ((fun_mk (st := s_lines) l_lines c_lines k_lines).binds (ps := ["_law_bag_here", "_law_signs_here", "_law_many"]) (fun _ _ _ _ _ _ us hl => match us, hl with | [_, _, _], _ => rfl)), g_lines := PySem.W.mg_of X G a_lines,
    f_looking := _, fd_looking := _, F_looking := fun_mk (st := s_looking) l_looking c_looking k_looking, b_looking := ((fun_mk (st := s_looking) l_looking c_looking k_looking).binds (ps := ["_law_lines_here"]) (fun _ _ _ _ _ _ us hl => match us, hl with | [_], _ => rfl)), g_looking := PySem.W.mg_of X G a_looking,
    f_of := _, fd_of := _, F_of := fun_mk (st := s_of) l_of c_of k_of, b_of := ((fun_mk (st := s_of) l_of c_of k_of).binds (ps := ["_law_bag_here", "_law_some"]) (fun _ _ _ _ _ _ us hl => match us, hl with | [_, _], _ => rfl)), g_of := PySem.W.mg_of X G a_of,
    f_pull := _, fd_pull := _, F_pull := fun_mk (st := s_pull) l_pull c_pull k_pull, b_pull := ((fun_mk (st := s_pull) l_pull c_pull k_pull).binds (ps := ["_law_bag_here", "_law_sides"]) (fun _ _ _ _ _ _ us hl => match us, hl with | [_, _], _ => rfl)), g_pull := PySem.W.mg_of X G a_pull,
    f_same := _, fd_same := _, F_same := fun_mk (st := s_same) l_same c_same k_same, b_same := ((fun_mk (st := s_same) l_same c_same k_same).binds (ps := ["_law_found", "_law_due"]) (fun _ _ _ _ _ _ us hl => match us, hl with | [_, _], _ => rfl)), g_same := PySem.W.mg_of X G a_same,
    f_signs := _, fd_signs := _, F_signs := fun_mk (st := s_signs) l_signs c_signs k_signs, b_signs := ((fun_mk (st := s_signs) l_signs c_signs k_signs).binds (ps := ["_law_bag_here"]) (fun _ _ _ _ _ _ us hl => match us, hl with | [_], _ => rfl)), g_signs := PySem.W.mg_of X G a_signs,
    f_size := _, fd_size := _, F_size := fun_mk (st := s_size) l_size c_size k_size, b_size := ((fun_mk (st := s_size) l_size c_size k_size).binds (ps := ["_law_line_here", "_law_sizes", "_law_width"]) (fun _ _ _ _ _ _ us hl => match us, hl with | [_, _, _], _ => rfl)), g_size := PySem.W.mg_of X G a_size,
    f_wrong_line := _, fd_wrong_line := _, F_wrong_line := fun_mk (st := s_wrong_line) l_wrong_line c_wrong_line k_wrong_line, b_wrong_line := ((fun_mk (st := s_wrong_line) l_wrong_line c_wrong_line k_wrong_line).binds (ps := ["_law_bag_here", "_law_sizes"]) (fun _ _ _ _ _ _ us hl => match us, hl with | [_, _], _ => rfl)), g_wrong_line := PySem.W.mg_of X G a_wrong_line,
    f_const_size := _, fd_const_size := _, F_const_size := fun_mk (st := s_const_size) l_const_size c_const_size k_const_size, b_const_size := ((fun_mk (st := s_const_size) l_const_size c_const_size k_const_size).binds (ps := ["worth"]) (fun _ _ _ _ _ _ us hl => match us, hl with | [_], _ => rfl)), g_const_size := PySem.W.mg_of X G a_const_size,
    f_counter_size := _, fd_counter_size := _, F_counter_size := fun_mk (st := s_counter_size) l_counter_size c_counter_size k_counter_size, b_counter_size := ((fun_mk (st := s_counter_size) l_counter_size c_counter_size k_counter_size).binds (ps := ["sizes", "prime", "start", "ref"]) (fun _ _ _ _ _ _ us hl => match us, hl with | [_, _, _, _], _ => rfl)), g_counter_size := PySem.W.mg_of X G a_counter_size,
    f_is_alphabet := _, fd_is_alphabet := _, F_is_alphabet := fun_mk (st := s_is_alphabet) l_is_alphabet c_is_alphabet k_is_alphabet, b_is_alphabet := ((fun_mk (st := s_is_alphabet) l_is_alphabet c_is_alphabet k_is_alphabet).binds (ps := ["value"]) (fun _ _ _ _ _ _ us hl => match us, hl with | [_], _ => rfl)), g_is_alphabet := PySem.W.mg_of X G a_is_alphabet,
    f_is_below := _, fd_is_below := _, F_is_below := fun_mk (st := s_is_below) l_is_below c_is_below k_is_below, b_is_below := ((fun_mk (st := s_is_below) l_is_below c_is_below k_is_below).binds (ps := ["value", "bound"]) (fun _ _ _ _ _ _ us hl => match us, hl with | [_, _], _ => rfl)), g_is_below := PySem.W.mg_of X G a_is_below,
    f_is_cell := _, fd_is_cell := _, F_is_cell := fun_mk (st := s_is_cell) l_is_cell c_is_cell k_is_cell, b_is_cell := ((fun_mk (st := s_is_cell) l_is_cell c_is_cell k_is_cell).binds (ps := ["line"]) (fun _ _ _ _ _ _ us hl => match us, hl with | [_], _ => rfl)), g_is_cell := PySem.W.mg_of X G a_is_cell,
    f_is_listed := _, fd_is_listed := _, F_is_listed := fun_mk (st := s_is_listed) l_is_listed c_is_listed k_is_listed, b_is_listed := ((fun_mk (st := s_is_listed) l_is_listed c_is_listed k_is_listed).binds (ps := ["value"]) (fun _ _ _ _ _ _ us hl => match us, hl with | [_], _ => rfl)), g_is_listed := PySem.W.mg_of X G a_is_listed,
    f_is_number := _, fd_is_number := _, F_is_number := fun_mk (st := s_is_number) l_is_number c_is_number k_is_number, b_is_number := ((fun_mk (st := s_is_number) l_is_number c_is_number k_is_number).binds (ps := ["value"]) (fun _ _ _ _ _ _ us hl => match us, hl with | [_], _ => rfl)), g_is_number := PySem.W.mg_of X G a_is_number,
    f_is_prime := _, fd_is_prime := _, F_is_prime := fun_mk (st := s_is_prime) l_is_prime c_is_prime k_is_prime, b_is_prime := ((fun_mk (st := s_is_prime) l_is_prime c_is_prime k_is_prime).binds (ps := ["value"]) (fun _ _ _ _ _ _ us hl => match us, hl with | [_], _ => rfl)), g_is_prime := PySem.W.mg_of X G a_is_prime,
    f_is_table := _, fd_is_table := _, F_is_table := fun_mk (st := s_is_table) l_is_table c_is_table k_is_table, b_is_table := ((fun_mk (st := s_is_table) l_is_table c_is_table k_is_table).binds (ps := ["value", "length"]) (fun _ _ _ _ _ _ us hl => match us, hl with | [_, _], _ => rfl)), g_is_table := PySem.W.mg_of X G a_is_table,
    f_is_word := _, fd_is_word := _, F_is_word := fun_mk (st := s_is_word) l_is_word c_is_word k_is_word, b_is_word := ((fun_mk (st := s_is_word) l_is_word c_is_word k_is_word).binds (ps := ["alphabet", "value"]) (fun _ _ _ _ _ _ us hl => match us, hl with | [_, _], _ => rfl)), g_is_word := PySem.W.mg_of X G a_is_word,
    f_join_size := _, fd_join_size := _, F_join_size := fun_mk (st := s_join_size) l_join_size c_join_size k_join_size, b_join_size := ((fun_mk (st := s_join_size) l_join_size c_join_size k_join_size).binds (ps := ["sizes", "ref", "other", "table"]) (fun _ _ _ _ _ _ us hl => match us, hl with | [_, _, _, _], _ => rfl)), g_join_size := PySem.W.mg_of X G a_join_size,
    f_latch_size := _, fd_latch_size := _, F_latch_size := fun_mk (st := s_latch_size) l_latch_size c_latch_size k_latch_size, b_latch_size := ((fun_mk (st := s_latch_size) l_latch_size c_latch_size k_latch_size).binds (ps := ["sizes", "sides", "start", "ref"]) (fun _ _ _ _ _ _ us hl => match us, hl with | [_, _, _, _], _ => rfl)), g_latch_size := PySem.W.mg_of X G a_latch_size,
    f_law := _, fd_law := _, F_law := fun_mk (st := s_law) l_law c_law k_law, b_law := ((fun_mk (st := s_law) l_law c_law k_law).binds (ps := ["_law_script"]) (fun _ _ _ _ _ _ us hl => match us, hl with | [_], _ => rfl)), g_law := PySem.W.mg_of X G a_law,
    f_looks_behind := _, fd_looks_behind := _, F_looks_behind := fun_mk (st := s_looks_behind) l_looks_behind c_looks_behind k_looks_behind, b_looks_behind := ((fun_mk (st := s_looks_behind) l_looks_behind c_looks_behind k_looks_behind).binds (ps := ["looks", "line"]) (fun _ _ _ _ _ _ us hl => match us, hl with | [_, _], _ => rfl)), g_looks_behind := PySem.W.mg_of X G a_looks_behind,
    f_measured := _, fd_measured := _, F_measured := fun_mk (st := s_measured) l_measured c_measured k_measured, b_measured := ((fun_mk (st := s_measured) l_measured c_measured k_measured).binds (ps := ["lines", "letters"]) (fun _ _ _ _ _ _ us hl => match us, hl with | [_, _], _ => rfl)), g_measured := PySem.W.mg_of X G a_measured,
    f_needed_places := _, fd_needed_places := _, F_needed_places := FD_needed_places, bd_needed_places := bd_needed_places, vb_needed_places := vb_needed_places, b_needed_places := b_needed_places, g_needed_places := PySem.W.mg_of X G a_needed_places,
    f_refs_at_once := _, fd_refs_at_once := _, F_refs_at_once := fun_mk (st := s_refs_at_once) l_refs_at_once c_refs_at_once k_refs_at_once, b_refs_at_once := ((fun_mk (st := s_refs_at_once) l_refs_at_once c_refs_at_once k_refs_at_once).binds (ps := ["line"]) (fun _ _ _ _ _ _ us hl => match us, hl with | [_], _ => rfl)), g_refs_at_once := PySem.W.mg_of X G a_refs_at_once,
    f_size_behind := _, fd_size_behind := _, F_size_behind := fun_mk (st := s_size_behind) l_size_behind c_size_behind k_size_behind, b_size_behind := ((fun_mk (st := s_size_behind) l_size_behind c_size_behind k_size_behind).binds (ps := ["sizes", "value", "letters"]) (fun _ _ _ _ _ _ us hl => match us, hl with | [_, _, _], _ => rfl)), g_size_behind := PySem.W.mg_of X G a_size_behind,
    f_wire_size := _, fd_wire_size := _, F_wire_size := fun_mk (st := s_wire_size) l_wire_size c_wire_size k_wire_size, b_wire_size := ((fun_mk (st := s_wire_size) l_wire_size c_wire_size k_wire_size).binds (ps := ["sizes", "ref", "table"]) (fun _ _ _ _ _ _ us hl => match us, hl with | [_, _, _], _ => rfl)), g_wire_size := PySem.W.mg_of X G a_wire_size,
    z_abs := PySem.W.mg_none_of X G z_abs,
    z_all := PySem.W.mg_none_of X G z_all,
    z_any := PySem.W.mg_none_of X G z_any,
    z_bool := PySem.W.mg_none_of X G z_bool,
    z_dict := PySem.W.mg_none_of X G z_dict,
    z_enumerate := PySem.W.mg_none_of X G z_enumerate,
    z_int := PySem.W.mg_none_of X G z_int,
    z_isinstance := PySem.W.mg_none_of X G z_isinstance,
    z_len := PySem.W.mg_none_of X G z_len,
    z_list := PySem.W.mg_none_of X G z_list,
    z_max := PySem.W.mg_none_of X G z_max,
    z_min := PySem.W.mg_none_of X G z_min,
    z_range := PySem.W.mg_none_of X G z_range,
    z_reversed := PySem.W.mg_none_of X G z_reversed,
    z_set := PySem.W.mg_none_of X G z_set,
    z_sorted := PySem.W.mg_none_of X G z_sorted,
    z_str := PySem.W.mg_none_of X G z_str,
    z_tuple := PySem.W.mg_none_of X G z_tuple,
    z_zip := PySem.W.mg_none_of X G z_zip,
    t_FEWEST_SIDES := t_FEWEST_SIDES, c_FEWEST_SIDES := PySem.W.mg_of X G c_FEWEST_SIDES,
    t_MOST_LETTERS := t_MOST_LETTERS, c_MOST_LETTERS := PySem.W.mg_of X G c_MOST_LETTERS,
    t_MOST_SIDES := t_MOST_SIDES, c_MOST_SIDES := PySem.W.mg_of X G c_MOST_SIDES,
    t_VALUES := t_VALUES, c_VALUES := PySem.W.mg_of X G c_VALUES,
    r_PRIMES := _, gt_PRIMES := PySem.W.mg_of X G a_PRIMES, st_PRIMES := fun _ => .inr ⟨_, _, _, l_PRIMES, rfl, rfl, (by show 25 ≤ sizeLine; decide), (.cons ⟨_, rfl⟩ (.cons ⟨_, rfl⟩ (.cons ⟨_, rfl⟩ (.cons ⟨_, rfl⟩ (.cons ⟨_, rfl⟩ (.cons ⟨_, rfl⟩ (.cons ⟨_, rfl⟩ (.cons ⟨_, rfl⟩ (.cons ⟨_, rfl⟩ (.cons ⟨_, rfl⟩ (.cons ⟨_, rfl⟩ (.cons ⟨_, rfl⟩ (.cons ⟨_, rfl⟩ (.cons ⟨_, rfl⟩ (.cons ⟨_, rfl⟩ (.cons ⟨_, rfl⟩ (.cons ⟨_, rfl⟩ (.cons ⟨_, rfl⟩ (.cons ⟨_, rfl⟩ (.cons ⟨_, rfl⟩ (.cons ⟨_, rfl⟩ (.cons ⟨_, rfl⟩ (.cons ⟨_, rfl⟩ (.cons ⟨_, rfl⟩ (.cons ⟨_, rfl⟩ .nil)))))))))))))))))))))))))⟩ }
  subst ecL
  exact ⟨_, [(cL, PL)], spLaw K PL, (fun p hp => by cases List.mem_singleton.mp hp; exact tbL), (fun p hp => by cases List.mem_singleton.mp hp; exact npL), (fun p hp => by cases List.mem_singleton.mp hp; exact PySem.W.codeHd_of_K X hcL), fun s v => .of_eq rfl,
    fun H a ns h1 _ h2 h3 => ⟨a, ns, rfl, h3, h1, h2 _ (List.mem_singleton.mpr rfl), fun _ => rfl⟩, fun base _ _ TB => ok_law T rfl (TB _ (List.mem_singleton.mpr rfl))⟩
end MyP
open PySem PySem.W PyProof.Rows
set_option maxHeartbeats 0 in
theorem PySem.Challenge.cw_onlyahead_k20_circuits_refused_holds : PySem.Challenge.rw_onlyahead_k20_circuits_refused.Holds := by
  w_on; o_law; k_head; (case hw => w_witness2)
  k_fill
  refine LamX.walk_ofTs (l := PySem.Challenge.rw_onlyahead_k20_circuits_refused) (n := 63) (k := 17) (x := "_law_script") (CX := fun _ => L2.CX0) rfl (by decide) rfl ⟨rfl, by decide, by decide⟩ (fun w h Y => PySem.W.km_in_of Y) ?F (fun _ _ _ _ _ h => h)
  case F =>
    intro w mg fa h Y KX G hmg
    refine' MyP.all_mk KX G hmg ?aC_AheadError ?bx_AheadError ?is_AheadError ?ty_AheadError ?aC_Missing ?bx_Missing ?is_Missing ?ty_Missing ?aC_NothingLeft ?bx_NothingLeft ?is_NothingLeft ?ty_NothingLeft ?aC_Circuit ?pg_Circuit ?hd_Circuit ?po_Circuit ?sa_Circuit ?mk_Circuit ?kc_Circuit ?n_Circuit__alphabet ?n_Circuit__lines ?n_Circuit__sizes ?n_Circuit__looks ?n_Circuit__steps ?o_Circuit_MOST ?og_Circuit_MOST ?aC_InvalidAlphabet ?xL_InvalidAlphabet ?sa_InvalidAlphabet ?ga_InvalidAlphabet ?gg_InvalidAlphabet ?kC_InvalidAlphabet ?eC_InvalidAlphabet ?tC_InvalidAlphabet ?hC_InvalidAlphabet ?n_InvalidAlphabet_given ?n_InvalidAlphabet_code ?s_InvalidAlphabet_AheadError ?s_InvalidAlphabet_Missing ?s_InvalidAlphabet_NothingLeft ?aC_InvalidLine ?xL_InvalidLine ?sa_InvalidLine ?ga_InvalidLine ?gg_InvalidLine ?kC_InvalidLine ?eC_InvalidLine ?tC_InvalidLine ?hC_InvalidLine ?n_InvalidLine_at ?n_InvalidLine_code ?s_InvalidLine_AheadError ?s_InvalidLine_Missing ?s_InvalidLine_NothingLeft ?aC_Steps ?pg_Steps ?hd_Steps ?po_Steps ?sa_Steps ?mk_Steps ?kc_Steps ?n_Steps__lines ?n_Steps__cells ?n_Steps__ahead ?n_Steps__behind ?aC_TooMany ?xL_TooMany ?sa_TooMany ?ga_TooMany ?gg_TooMany ?kC_TooMany ?eC_TooMany ?tC_TooMany ?hC_TooMany ?n_TooMany_subject ?n_TooMany_most ?n_TooMany_code ?s_TooMany_AheadError ?s_TooMany_Missing ?s_TooMany_NothingLeft ?ra_Circuit ?rb_Circuit ?rv_Circuit_MOST ?a_Circuit___init ?i_Circuit___init ?l_Circuit___init ?c_Circuit___init ?k_Circuit___init ?a_Circuit___len ?i_Circuit___len ?l_Circuit___len ?c_Circuit___len ?k_Circuit___len ?a_InvalidAlphabet___init ?t_InvalidAlphabet___init ?l_InvalidAlphabet___init ?c_InvalidAlphabet___init ?k_InvalidAlphabet___init ?a_InvalidLine___init ?t_InvalidLine___init ?l_InvalidLine___init ?c_InvalidLine___init ?k_InvalidLine___init ?a_Steps___init ?i_Steps___init ?l_Steps___init ?c_Steps___init ?k_Steps___init ?a_TooMany___init ?t_TooMany___init ?l_TooMany___init ?c_TooMany___init ?k_TooMany___init ?a_all_got ?l_all_got ?c_all_got ?k_all_got ?a_bag ?l_bag ?c_bag ?k_bag ?a_field ?l_field ?c_field ?k_field ?a_got ?l_got ?c_got ?k_got ?a_line ?l_line ?c_line ?k_line ?a_lines ?l_lines ?c_lines ?k_lines ?a_looking ?l_looking ?c_looking ?k_looking ?a_of ?l_of ?c_of ?k_of ?a_pull ?l_pull ?c_pull ?k_pull ?a_same ?l_same ?c_same ?k_same ?a_signs ?l_signs ?c_signs ?k_signs ?a_size ?l_size ?c_size ?k_size ?a_wrong_line ?l_wrong_line ?c_wrong_line ?k_wrong_line ?a_const_size ?l_const_size ?c_const_size ?k_const_size ?a_counter_size ?l_counter_size ?c_counter_size ?k_counter_size ?a_is_alphabet ?l_is_alphabet ?c_is_alphabet ?k_is_alphabet ?a_is_below ?l_is_below ?c_is_below ?k_is_below ?a_is_cell ?l_is_cell ?c_is_cell ?k_is_cell ?a_is_listed ?l_is_listed ?c_is_listed ?k_is_listed ?a_is_number ?l_is_number ?c_is_number ?k_is_number ?a_is_prime ?l_is_prime ?c_is_prime ?k_is_prime ?a_is_table ?l_is_table ?c_is_table ?k_is_table ?a_is_word ?l_is_word ?c_is_word ?k_is_word ?a_join_size ?l_join_size ?c_join_size ?k_join_size ?a_latch_size ?l_latch_size ?c_latch_size ?k_latch_size ?a_law ?l_law ?c_law ?k_law ?a_looks_behind ?l_looks_behind ?c_looks_behind ?k_looks_behind ?a_measured ?l_measured ?c_measured ?k_measured ?a_needed_places ?l_needed_places ?c_needed_places ?k_needed_places ?dt_needed_places ?a_refs_at_once ?l_refs_at_once ?c_refs_at_once ?k_refs_at_once ?a_size_behind ?l_size_behind ?c_size_behind ?k_size_behind ?a_wire_size ?l_wire_size ?c_wire_size ?k_wire_size ?z_abs ?z_all ?z_any ?z_bool ?z_dict ?z_enumerate ?z_int ?z_isinstance ?z_len ?z_list ?z_max ?z_min ?z_range ?z_reversed ?z_set ?z_sorted ?z_str ?z_tuple ?z_zip ?c_FEWEST_SIDES ?c_MOST_LETTERS ?c_MOST_SIDES ?c_VALUES ?a_PRIMES ?l_PRIMES ?ecL ?lcL ?epL ?hcL ?npL ?tbL
    (case aC_AheadError => k_is)
    (case bx_AheadError => k_is)
    (case is_AheadError => k_is)
    (case ty_AheadError => k_is)
    (case aC_Missing => k_is)
    (case bx_Missing => k_is)
    (case is_Missing => k_is)
    (case ty_Missing => k_is)
    (case aC_NothingLeft => k_is)
    (case bx_NothingLeft => k_is)
    (case is_NothingLeft => k_is)
    (case ty_NothingLeft => k_is)
    (case aC_Circuit => k_is)
    (case pg_Circuit => k_is)
    (case hd_Circuit => k_is)
    (case po_Circuit => k_is)
    (case sa_Circuit => k_is)
    (case mk_Circuit => k_is)
    (case kc_Circuit => k_is)
    (case n_Circuit__alphabet => k_is)
    (case n_Circuit__lines => k_is)
    (case n_Circuit__sizes => k_is)
    (case n_Circuit__looks => k_is)
    (case n_Circuit__steps => k_is)
    (case o_Circuit_MOST => k_is)
    (case og_Circuit_MOST => k_is)
    (case aC_InvalidAlphabet => k_is)
    (case xL_InvalidAlphabet => k_is)
    (case sa_InvalidAlphabet => k_is)
    (case ga_InvalidAlphabet => k_is)
    (case gg_InvalidAlphabet => k_is)
    (case kC_InvalidAlphabet => k_is)
    (case eC_InvalidAlphabet => k_is)
    (case tC_InvalidAlphabet => k_is)
    (case hC_InvalidAlphabet => k_is)
    (case n_InvalidAlphabet_given => k_is)
    (case n_InvalidAlphabet_code => k_is)
    (case s_InvalidAlphabet_AheadError => k_is)
    (case s_InvalidAlphabet_Missing => k_is)
    (case s_InvalidAlphabet_NothingLeft => k_is)
    (case aC_InvalidLine => k_is)
    (case xL_InvalidLine => k_is)
    (case sa_InvalidLine => k_is)
    (case ga_InvalidLine => k_is)
    (case gg_InvalidLine => k_is)
    (case kC_InvalidLine => k_is)
    (case eC_InvalidLine => k_is)
    (case tC_InvalidLine => k_is)
    (case hC_InvalidLine => k_is)
    (case n_InvalidLine_at => k_is)
    (case n_InvalidLine_code => k_is)
    (case s_InvalidLine_AheadError => k_is)
    (case s_InvalidLine_Missing => k_is)
    (case s_InvalidLine_NothingLeft => k_is)
    (case aC_Steps => k_is)
    (case pg_Steps => k_is)
    (case hd_Steps => k_is)
    (case po_Steps => k_is)
    (case sa_Steps => k_is)
    (case mk_Steps => k_is)
    (case kc_Steps => k_is)
    (case n_Steps__lines => k_is)
    (case n_Steps__cells => k_is)
    (case n_Steps__ahead => k_is)
    (case n_Steps__behind => k_is)
    (case aC_TooMany => k_is)
    (case xL_TooMany => k_is)
    (case sa_TooMany => k_is)
    (case ga_TooMany => k_is)
    (case gg_TooMany => k_is)
    (case kC_TooMany => k_is)
    (case eC_TooMany => k_is)
    (case tC_TooMany => k_is)
    (case hC_TooMany => k_is)
    (case n_TooMany_subject => k_is)
    (case n_TooMany_most => k_is)
    (case n_TooMany_code => k_is)
    (case s_TooMany_AheadError => k_is)
    (case s_TooMany_Missing => k_is)
    (case s_TooMany_NothingLeft => k_is)
    (case ra_Circuit => k_is)
    (case rb_Circuit => k_is)
    (case rv_Circuit_MOST => k_is)
    (case a_Circuit___init => k_is)
    (case i_Circuit___init => k_is)
    (case l_Circuit___init => k_is)
    (case c_Circuit___init => k_is)
    (case k_Circuit___init => k_is)
    (case a_Circuit___len => k_is)
    (case i_Circuit___len => k_is)
    (case l_Circuit___len => k_is)
    (case c_Circuit___len => k_is)
    (case k_Circuit___len => k_is)
    (case a_InvalidAlphabet___init => k_is)
    (case t_InvalidAlphabet___init => k_is)
    (case l_InvalidAlphabet___init => k_is)
    (case c_InvalidAlphabet___init => k_is)
    (case k_InvalidAlphabet___init => k_is)
    (case a_InvalidLine___init => k_is)
    (case t_InvalidLine___init => k_is)
    (case l_InvalidLine___init => k_is)
    (case c_InvalidLine___init => k_is)
    (case k_InvalidLine___init => k_is)
    (case a_Steps___init => k_is)
    (case i_Steps___init => k_is)
    (case l_Steps___init => k_is)
    (case c_Steps___init => k_is)
    (case k_Steps___init => k_is)
    (case a_TooMany___init => k_is)
    (case t_TooMany___init => k_is)
    (case l_TooMany___init => k_is)
    (case c_TooMany___init => k_is)
    (case k_TooMany___init => k_is)
    (case a_all_got => k_is)
    (case l_all_got => k_is)
    (case c_all_got => k_is)
    (case k_all_got => k_is)
    (case a_bag => k_is)
    (case l_bag => k_is)
    (case c_bag => k_is)
    (case k_bag => k_is)
    (case a_field => k_is)
    (case l_field => k_is)
    (case c_field => k_is)
    (case k_field => k_is)
    (case a_got => k_is)
    (case l_got => k_is)
    (case c_got => k_is)
    (case k_got => k_is)
    (case a_line => k_is)
    (case l_line => k_is)
    (case c_line => k_is)
    (case k_line => k_is)
    (case a_lines => k_is)
    (case l_lines => k_is)
    (case c_lines => k_is)
    (case k_lines => k_is)
    (case a_looking => k_is)
    (case l_looking => k_is)
    (case c_looking => k_is)
    (case k_looking => k_is)
    (case a_of => k_is)
    (case l_of => k_is)
    (case c_of => k_is)
    (case k_of => k_is)
    (case a_pull => k_is)
    (case l_pull => k_is)
    (case c_pull => k_is)
    (case k_pull => k_is)
    (case a_same => k_is)
    (case l_same => k_is)
    (case c_same => k_is)
    (case k_same => k_is)
    (case a_signs => k_is)
    (case l_signs => k_is)
    (case c_signs => k_is)
    (case k_signs => k_is)
    (case a_size => k_is)
    (case l_size => k_is)
    (case c_size => k_is)
    (case k_size => k_is)
    (case a_wrong_line => k_is)
    (case l_wrong_line => k_is)
    (case c_wrong_line => k_is)
    (case k_wrong_line => k_is)
    (case a_const_size => k_is)
    (case l_const_size => k_is)
    (case c_const_size => k_is)
    (case k_const_size => k_is)
    (case a_counter_size => k_is)
    (case l_counter_size => k_is)
    (case c_counter_size => k_is)
    (case k_counter_size => k_is)
    (case a_is_alphabet => k_is)
    (case l_is_alphabet => k_is)
    (case c_is_alphabet => k_is)
    (case k_is_alphabet => k_is)
    (case a_is_below => k_is)
    (case l_is_below => k_is)
    (case c_is_below => k_is)
    (case k_is_below => k_is)
    (case a_is_cell => k_is)
    (case l_is_cell => k_is)
    (case c_is_cell => k_is)
    (case k_is_cell => k_is)
    (case a_is_listed => k_is)
    (case l_is_listed => k_is)
    (case c_is_listed => k_is)
    (case k_is_listed => k_is)
    (case a_is_number => k_is)
    (case l_is_number => k_is)
    (case c_is_number => k_is)
    (case k_is_number => k_is)
    (case a_is_prime => k_is)
    (case l_is_prime => k_is)
    (case c_is_prime => k_is)
    (case k_is_prime => k_is)
    (case a_is_table => k_is)
    (case l_is_table => k_is)
    (case c_is_table => k_is)
    (case k_is_table => k_is)
    (case a_is_word => k_is)
    (case l_is_word => k_is)
    (case c_is_word => k_is)
    (case k_is_word => k_is)
    (case a_join_size => k_is)
    (case l_join_size => k_is)
    (case c_join_size => k_is)
    (case k_join_size => k_is)
    (case a_latch_size => k_is)
    (case l_latch_size => k_is)
    (case c_latch_size => k_is)
    (case k_latch_size => k_is)
    (case a_law => k_is)
    (case l_law => k_is)
    (case c_law => k_is)
    (case k_law => k_is)
    (case a_looks_behind => k_is)
    (case l_looks_behind => k_is)
    (case c_looks_behind => k_is)
    (case k_looks_behind => k_is)
    (case a_measured => k_is)
    (case l_measured => k_is)
    (case c_measured => k_is)
    (case k_measured => k_is)
    (case a_needed_places => k_is)
    (case l_needed_places => k_is)
    (case c_needed_places => k_is)
    (case k_needed_places => k_is)
    (case dt_needed_places => k_is)
    (case a_refs_at_once => k_is)
    (case l_refs_at_once => k_is)
    (case c_refs_at_once => k_is)
    (case k_refs_at_once => k_is)
    (case a_size_behind => k_is)
    (case l_size_behind => k_is)
    (case c_size_behind => k_is)
    (case k_size_behind => k_is)
    (case a_wire_size => k_is)
    (case l_wire_size => k_is)
    (case c_wire_size => k_is)
    (case k_wire_size => k_is)
    (case z_abs => k_is)
    (case z_all => k_is)
    (case z_any => k_is)
    (case z_bool => k_is)
    (case z_dict => k_is)
    (case z_enumerate => k_is)
    (case z_int => k_is)
    (case z_isinstance => k_is)
    (case z_len => k_is)
    (case z_list => k_is)
    (case z_max => k_is)
    (case z_min => k_is)
    (case z_range => k_is)
    (case z_reversed => k_is)
    (case z_set => k_is)
    (case z_sorted => k_is)
    (case z_str => k_is)
    (case z_tuple => k_is)
    (case z_zip => k_is)
    (case c_FEWEST_SIDES => k_is)
    (case c_MOST_LETTERS => k_is)
    (case c_MOST_SIDES => k_is)
    (case c_VALUES => k_is)
    (case a_PRIMES => k_is)
    (case l_PRIMES => k_is)
    (case ecL => rfl)
    (case lcL => k_is)
    (case epL => rfl)
    (case hcL => kernel_rfl)
    (case npL => kernel_rfl)
    (case tbL => exact PySem.W.km_tabs_of Y _ (by k_mem))

