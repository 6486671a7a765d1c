import PyProof.Rows.All
import Wide.All
import OpenK.AllK
import Wide.FinOn
import HandS.ForMost
import HandS.IsInst
import HandS.Flow
import HandS.Zip
import HandS.Walk
import HandS.StrMore
import HandS.Codes
import PySem.Challenge.RW_onlyahead_k01_alphabets_and_words_judged
set_option Elab.async false
set_option linter.all false
set_option maxRecDepth 100000
set_option maxHeartbeats 4000000
namespace MyP
open PySem PySem.Spec PyProof.Rows L2
/-! ### the text -/
def top (i : Nat) : Stmt := PySem.Challenge.pw_onlyahead_k01_alphabets_and_words_judged.main.body.getD i (.Pass ⟨0, 0, 0, 0⟩)
abbrev s_bag : Stmt := top 5
abbrev N_bag : List Str := ["_law_script", "_law_mixed", "_law_cell"]
theorem sc_bag : FnScope N_bag ["_law_script"] (defScope s_bag) := ⟨rfl, rfl, rfl, by decide +kernel, rfl, by decide +kernel, by decide +kernel⟩
abbrev s_pull : Stmt := top 6
abbrev N_pull : List Str := ["_law_bag_here", "_law_sides", "_law_cell", "_law_digit", "_law_twice"]
theorem sc_pull : FnScope N_pull ["_law_bag_here", "_law_sides"] (defScope s_pull) := ⟨rfl, rfl, rfl, by decide +kernel, rfl, by decide +kernel, by decide +kernel⟩
abbrev s_of : Stmt := top 7
abbrev N_of : List Str := ["_law_bag_here", "_law_some"]
theorem sc_of : FnScope N_of ["_law_bag_here", "_law_some"] (defScope s_of) := ⟨rfl, rfl, rfl, by decide +kernel, rfl, by decide +kernel, by decide +kernel⟩
abbrev s_same : Stmt := top 8
abbrev N_same : List Str := ["_law_found", "_law_due", "_law_a", "_law_b"]
theorem sc_same : FnScope N_same ["_law_found", "_law_due"] (defScope s_same) := ⟨rfl, rfl, rfl, by decide +kernel, rfl, by decide +kernel, by decide +kernel⟩
abbrev s_is_alphabet : Stmt := top 2
abbrev N_is_alphabet : List Str := ["value", "at", "sign"]
theorem sc_is_alphabet : FnScope N_is_alphabet ["value"] (defScope s_is_alphabet) := ⟨rfl, rfl, rfl, by decide +kernel, rfl, by decide +kernel, by decide +kernel⟩
abbrev s_is_word : Stmt := top 3
abbrev N_is_word : List Str := ["alphabet", "value", "sign"]
theorem sc_is_word : FnScope N_is_word ["alphabet", "value"] (defScope s_is_word) := ⟨rfl, rfl, rfl, by decide +kernel, rfl, by decide +kernel, by decide +kernel⟩
abbrev s_signs : Stmt := top 9
abbrev N_signs : List Str := ["_law_bag_here", "_law_many", "_law_found", "_law_k", "_law_rest", "_law_sign"]
theorem sc_signs : FnScope N_signs ["_law_bag_here"] (defScope s_signs) := ⟨rfl, rfl, rfl, by decide +kernel, rfl, by decide +kernel, by decide +kernel⟩
abbrev s_text : Stmt := top 10
abbrev N_text : List Str := ["_law_bag_here", "_law_signs_here", "_law_size", "_law_k"]
theorem sc_text : FnScope N_text ["_law_bag_here", "_law_signs_here", "_law_size"] (defScope s_text) := ⟨rfl, rfl, rfl, by decide +kernel, rfl, by decide +kernel, by decide +kernel⟩
abbrev s_law : Stmt := top 11
abbrev N_law : List Str := ["_law_script", "_law_bag_here", "_law_turn_z", "_law_signs_here", "_law_found", "_law_text_here", "_law_due", "_law_late", "_law_inside", "_law_odd", "_law_k", "_law_sign"]
theorem sc_law : FnScope N_law ["_law_script"] (defScope s_law) := ⟨rfl, rfl, rfl, by decide +kernel, rfl, by decide +kernel, by decide +kernel⟩
/-! ### heaps, the bag -/
/-- all that was tracked stays as it was, but for b -/
def Kp (b : Addr) (H H' : Hp) : Prop := ∀ c o, H c = some o → c ≠ b → H' c = some o
theorem Kp.refl (b : Addr) (H : Hp) : Kp b H H := fun _ _ h _ => h
theorem Kp.trans {b : Addr} {H H1 H2 : Hp} (x : Kp b H H1) (y : Kp b H1 H2) : Kp b H H2 := fun c o h n => y c o (x c o h n) n
theorem Kp.same {b : Addr} {H H1 : Hp} (x : Same H H1) : Kp b H H1 := fun c o h _ => x c o h
theorem Kp.seq {K : PySem.W.Frag} {b a : Addr} {H H' : Hp} {xs : List V} (e : Kp b H H') (n : a ≠ b) (h : SqL K H a xs) : SqL K H' a xs := by
  rcases h with (h | ⟨o, h⟩) | h
  · exact .inl (.inl (e _ _ h n))
  · exact .inl (.inr ⟨o, e _ _ h n⟩)
  · exact .inr h
theorem Kp.tup {K : PySem.W.Frag} {b a : Addr} {H H' : Hp} {xs : List V} (e : Kp b H H') (n : a ≠ b) (h : SqT K H a xs) : SqT K H' a xs := by
  rcases h with (h | ⟨o, h⟩) | h
  · exact .inl (.inl (e _ _ h n))
  · exact .inl (.inr ⟨o, e _ _ h n⟩)
  · exact .inr h
theorem same_tup {K : PySem.W.Frag} {a : Addr} {H H' : Hp} {xs : List V} (e : Same H H') (h : SqT K H a xs) : SqT K H' a xs := by
  rcases h with (h | ⟨o, h⟩) | h
  · exact .inl (.inl (e _ _ h))
  · exact .inl (.inr ⟨o, e _ _ h⟩)
  · exact .inr h
theorem same_upd {H : Hp} {p : Addr} {o : HO} (h : H p = none) : Same H (upd H p o) := fun b x e => by
  rw [upd_ne (ne_of_none e h)]
  exact e
theorem Kp.put {b : Addr} {H H1 : Hp} {o : HO} (x : Kp b H H1) : Kp b H (upd H1 b o) := fun c u h n => by
  rw [upd_ne n]
  exact x c u h n
/-- an object that is new since H may change -/
theorem Kp.mut {b p : Addr} {H H1 : Hp} {o : HO} (x : Kp b H H1) (n : H p = none) : Kp b H (upd H1 p o) := fun c u h k => by
  rw [upd_ne (ne_of_none h n)]
  exact x c u h k
theorem same_mut {p : Addr} {H H1 : Hp} {o : HO} (x : Same H H1) (n : H p = none) : Same H (upd H1 p o) := fun c u h => by
  rw [upd_ne (ne_of_none h n)]
  exact x c u h
theorem ne_none {H : Hp} {a b : Addr} {o : HO} (h : H b = none) (h' : H a = some o) : b ≠ a := (ne_of_none h' h).symm
theorem sz {n : Nat} (h : n ≤ 100000) : n ≤ sizeLine := Nat.le_trans h (by decide)
theorem szl {n : Nat} (h : n < 100000) : n < sizeLine := Nat.lt_of_lt_of_le h (by decide)
structure BagAt (b l : Addr) (H : Hp) : Prop where
  at_ : ∃ (i r m c : Int) (ns : List Int), H b = some (.lst [.ref l, .int i, .int r, .int m, .int c]) ∧ H l = some (.lst (ns.map V.int)) ∧ ns.length ≤ 63 ∧ 0 ≤ i ∧ i ≤ ns.length ∧ 0 ≤ r ∧ 0 ≤ m ∧ m < 2147483629
  ne : l ≠ b
theorem BagAt.there {b l : Addr} {H : Hp} (x : BagAt b l H) : ∃ o, H b = some o := by
  obtain ⟨⟨i, r, m, c, ns, h, _⟩, _⟩ := x
  exact ⟨_, h⟩
/-- an object new in H is not the bag -/
theorem BagAt.nb {b l p : Addr} {H : Hp} (x : BagAt b l H) (h : H p = none) : p ≠ b := by
  obtain ⟨o, e⟩ := x.there
  exact ne_none h e
theorem BagAt.nl {b l p : Addr} {H : Hp} (x : BagAt b l H) (h : H p = none) : p ≠ l := by
  obtain ⟨⟨i, r, m, c, ns, _, e, _⟩, _⟩ := x
  exact ne_none h e
theorem BagAt.same {b l : Addr} {H H' : Hp} (x : BagAt b l H) (s : Same H H') : BagAt b l H' := by
  obtain ⟨⟨i, r, m, c, ns, h1, h2, h3⟩, n⟩ := x
  exact ⟨⟨i, r, m, c, ns, s _ _ h1, s _ _ h2, h3⟩, n⟩
/-- a store into another list keeps the bag -/
theorem BagAt.mut {b l p : Addr} {H : Hp} {o : HO} (x : BagAt b l H) (n1 : p ≠ b) (n2 : p ≠ l) : BagAt b l (upd H p o) := by
  obtain ⟨⟨i, r, m, c, ns, h1, h2, h3⟩, n⟩ := x
  exact ⟨⟨i, r, m, c, ns, by rw [upd_ne n1.symm]; exact h1, by rw [upd_ne n2.symm]; exact h2, h3⟩, n⟩
/-- what is new behind a draw was new ahead of it -/
theorem Kp.free {b l p : Addr} {H H1 : Hp} (k : Kp b H H1) (B : BagAt b l H1) (h : H1 p = none) : H p = none := by
  cases e : H p with
  | none => rfl
  | some o =>
    by_cases hb : p = b
    · obtain ⟨u, e2⟩ := B.there
      rw [hb, e2] at h
      cases h
    · rw [k _ _ e hb] at h
      cases h
/-! ### steps of a reading -/
/-- a word that the steps below do not open -/
def Stp (p : Prop) : Prop := True → p
theorem Stp.of {p : Prop} (h : Stp p) : p := h True.intro
theorem Stp.mk {p : Prop} (h : p) : Stp p := fun _ => h
local macro_rules | `(tactic| walk_at "side") => `(tactic| first
  | rfl
  | (show (0 : Int) < _; first | decide | omega)
  | exact Or.inr (And.intro (by decide) (by decide))
  | exact And.intro (by decide) (by decide)
  | exact And.intro (by omega) (by omega)
  | exact Or.inl (And.intro (by omega) (by omega))
  | decide
  | omega
  | exact sz (by first | decide | omega | (simp; done))
  | exact szl (by first | decide | omega | (simp; done)))
local macro_rules | `(tactic| walk_at "s") => `(tactic| first
  | refine ⟨_, rfl, ?_⟩
  | refine ⟨_, _, rfl, rfl, ?_⟩
  | refine .inl ⟨_, rfl, ?_⟩
  | refine ⟨_, _, rfl, by assumption, ?_⟩
  | refine ⟨_, _, _, _, rfl, rfl, SqL.of upd_same, rfl, ?_⟩
  | refine ⟨_, _, _, _, rfl, rfl, SqL.of (by assumption), (by rfl), ?_⟩
  | refine ⟨_, _, _, _, rfl, rfl, upd_same, rfl, ?_⟩
  | refine ⟨_, _, _, _, rfl, rfl, (by assumption), (by rfl), ?_⟩
  | refine And.intro ⟨_, rfl⟩ ?_
  | refine And.intro (by walk_at "side") ?_
  | refine iteT ?_
  | refine iteF ?_)
local macro_rules | `(tactic| walk_at "ss") => `(tactic| repeat walk_at "s")
theorem iteP {c A B : Prop} [Decidable c] (h : c) (x : A) : if c then A else B := by
  rw [if_pos h]
  exact x
theorem iteN {c A B : Prop} [Decidable c] (h : ¬ c) (x : B) : if c then A else B := by
  rw [if_neg h]
  exact x
theorem at_inN {α : Type} {xs : List α} {i : Int} (h0 : 0 ≤ i) (h1 : i < xs.length) : ∃ v, atI xs i = some v ∧ v ∈ xs := by
  have h2 : i.toNat < xs.length := by omega
  refine ⟨xs[i.toNat], ?_, List.getElem_mem h2⟩
  have e : ((i.toNat : Nat) : Int) = i := by omega
  have e2 : atI xs ((i.toNat : Nat) : Int) = some xs[i.toNat] := atI_nat (List.getElem?_eq_getElem h2)
  rw [e] at e2
  exact e2
theorem ixN_in {n : Nat} {k : Int} (h0 : 0 ≤ k) (h1 : k < n) : ixN n k = some k.toNat := by
  unfold ixN
  rw [if_pos h0, if_pos h1]
theorem at_in {xs : List V} {i : Int} (h0 : 0 ≤ i) (h1 : i < xs.length) : ∃ v, atI xs i = some v ∧ v ∈ xs := at_inN h0 h1
theorem any2 {K : PySem.W.Frag} {t a b : String} {r1 r2 : Bool} (h1 : kitB t a = some r1) (h2 : kitB t b = some r2) : PySem.W.kitAny K (.type t) [.type a, .type b] = some (r1 || r2) := by
  refine kitAny_cons (kit_ty h1) (fun e => kitAny_cons (kit_ty h2) (fun e2 => ?_) (fun e2 => ?_)) (fun e => ?_)
  · rw [e, e2]
    rfl
  · rw [e2, Bool.or_true]
  · rw [e, Bool.true_or]
local macro_rules | `(tactic| walk_at "ty") => `(tactic| first | exact .base .non | exact .base (.bl _) | exact .base (.int _) | exact .base (.str _) | assumption)
local macro_rules | `(tactic| walk_at "si") => `(tactic| first
  | walk_at "s"
  | refine ⟨_, _, _, _, false, rfl, ClsV.ty _, (by assumption), kit_ty (by assumption), ?_⟩
  | refine ⟨_, _, _, _, true, rfl, ClsV.ty _, (by walk_at "ty"), kit_ty (by decide +kernel), ?_⟩
  | refine ⟨_, _, _, _, false, rfl, ClsV.ty _, (by walk_at "ty"), kit_ty (by decide +kernel), ?_⟩
  | refine ⟨_, _, _, _, _, true, rfl, upd_same, .cons (.ty _) (.cons (.ty _) .nil), (by walk_at "ty"), any2 (r1 := true) (r2 := false) (by decide +kernel) (by decide +kernel), ?_⟩
  | refine ⟨_, _, _, _, _, true, rfl, upd_same, .cons (.ty _) (.cons (.ty _) .nil), (by walk_at "ty"), any2 (r1 := false) (r2 := true) (by decide +kernel) (by decide +kernel), ?_⟩
  | refine ⟨_, _, _, _, _, false, rfl, upd_same, .cons (.ty _) (.cons (.ty _) .nil), (by walk_at "ty"), any2 (r1 := false) (r2 := false) (by decide +kernel) (by decide +kernel), ?_⟩
  | intro p hp)
local macro_rules | `(tactic| walk_at "ssi") => `(tactic| repeat walk_at "si")

/-! ### what the top holds -/
structure Env (K : PySem.W.Frag) (mg : Str → Option Value) where
  f_bag : Addr
  fd_bag : FuncData
  F_bag : Fun K "_law_bag" "_law_bag" s_bag f_bag fd_bag
  b_bag : Binds K fd_bag ["_law_script"] []
  g_bag : mg "_law_bag" = some (.ref f_bag)
  f_pull : Addr
  fd_pull : FuncData
  F_pull : Fun K "_law_pull" "_law_pull" s_pull f_pull fd_pull
  b_pull : Binds K fd_pull ["_law_bag_here", "_law_sides"] []
  g_pull : mg "_law_pull" = some (.ref f_pull)
  f_of : Addr
  fd_of : FuncData
  F_of : Fun K "_law_of" "_law_of" s_of f_of fd_of
  b_of : Binds K fd_of ["_law_bag_here", "_law_some"] []
  g_of : mg "_law_of" = some (.ref f_of)
  f_same : Addr
  fd_same : FuncData
  F_same : Fun K "_law_same" "_law_same" s_same f_same fd_same
  b_same : Binds K fd_same ["_law_found", "_law_due"] []
  g_same : mg "_law_same" = some (.ref f_same)
  f_is_alphabet : Addr
  fd_is_alphabet : FuncData
  F_is_alphabet : Fun K "is_alphabet" "is_alphabet" s_is_alphabet f_is_alphabet fd_is_alphabet
  b_is_alphabet : Binds K fd_is_alphabet ["value"] []
  g_is_alphabet : mg "is_alphabet" = some (.ref f_is_alphabet)
  f_is_word : Addr
  fd_is_word : FuncData
  F_is_word : Fun K "is_word" "is_word" s_is_word f_is_word fd_is_word
  b_is_word : Binds K fd_is_word ["alphabet", "value"] []
  g_is_word : mg "is_word" = some (.ref f_is_word)
  f_signs : Addr
  fd_signs : FuncData
  F_signs : Fun K "_law_signs" "_law_signs" s_signs f_signs fd_signs
  b_signs : Binds K fd_signs ["_law_bag_here"] []
  g_signs : mg "_law_signs" = some (.ref f_signs)
  f_text : Addr
  fd_text : FuncData
  F_text : Fun K "_law_text" "_law_text" s_text f_text fd_text
  b_text : Binds K fd_text ["_law_bag_here", "_law_signs_here", "_law_size"] []
  g_text : mg "_law_text" = some (.ref f_text)
  f_law : Addr
  fd_law : FuncData
  F_law : Fun K "law" "law" s_law f_law fd_law
  b_law : Binds K fd_law ["_law_script"] []
  g_law : mg "law" = some (.ref f_law)
  z_int : mg "int" = none
  z_list : mg "list" = none
  z_len : mg "len" = none
  z_abs : mg "abs" = none
  z_isinstance : mg "isinstance" = none
  z_tuple : mg "tuple" = none
  z_all : mg "all" = none
  z_zip : mg "zip" = none
  z_bool : mg "bool" = none
  z_str : mg "str" = none
  z_range : mg "range" = none
  z_sorted : mg "sorted" = none
  t_MOST_LETTERS : Tok
  c_MOST_LETTERS : mg "MOST_LETTERS" = some (.int 4 t_MOST_LETTERS)

/-! ### the draws -/
def spBag (K : PySem.W.Frag) : Sp := fun vs H Q _ => ∃ (a : Addr) (ns : List Int), vs = [.ref a] ∧ SqL K H a (ns.map V.int) ∧ ns.length ≤ 63 ∧
  ∀ b l H', H b = none → H l = none → BagAt b l H' → Same H H' → Q (.ref b) H'
def spPull : Sp := fun vs H Q _ => ∃ (b l : Addr) (n : Int), vs = [.ref b, .int n] ∧ BagAt b l H ∧ 0 < n ∧ n < 1000000000 ∧
  ∀ k H', 0 ≤ k → k < n → BagAt b l H' → Kp b H H' → Q (.int k) H'
def spOf (K : PySem.W.Frag) : Sp := fun vs H Q _ => ∃ (b l : Addr) (x : V), vs = [.ref b, x] ∧ BagAt b l H ∧
  ((∃ p xs, x = .ref p ∧ p ≠ b ∧ (SqL K H p xs ∨ SqT K H p xs) ∧ xs ≠ [] ∧ xs.length ≤ 100000 ∧ ∀ v H', v ∈ xs → BagAt b l H' → Kp b H H' → Q v H') ∨
   (∃ z : Str, x = .str z ∧ z.length ≠ 0 ∧ z.length ≤ 100000 ∧ ∀ c H', c ∈ z.cps.toList → BagAt b l H' → Kp b H H' → Q (.str ⟨#[c]⟩) H'))
section
variable {P : Program} {w : World} {K : PySem.W.Frag} {mg : Str → Option Value} {base : Heap}
theorem modlt (a : Int) : 0 ≤ a % 2147483629 ∧ a % 2147483629 < 2147483629 := ⟨Int.emod_nonneg _ (by decide), Int.emod_lt_of_pos _ (by decide)⟩
theorem cut63 {xs : List V} (h : xs.length ≤ 63) : cutV xs none (some 63) = xs := by
  unfold cutV
  rw [show HT.sIx xs.length xs.length (some 63) = min 63 xs.length from HT.sIx_nat _ _ 63, HT.sIx_none, Nat.min_eq_right h]
  show xs.take (xs.length - 0) = xs
  exact List.take_length
theorem int_of {ns : List Int} {i : Nat} {y : V} (h : (ns.map V.int)[i]? = some y) : ∃ n, y = .int n := by
  rw [List.getElem?_map] at h
  cases e : ns[i]? with
  | none => rw [e] at h; cases h
  | some n => rw [e] at h; exact ⟨n, (Option.some.inj h).symm⟩
theorem ok_bag (T : Env K mg) : FnOk P w K mg base CX0 1 T.f_bag T.fd_bag ["_law_script"] (spBag K) := by
  refine T.F_bag.ok sc_bag (fun vs H Q E h => ?_) (fun cdv A outer s H vs Q E hr h => ⟨_, ((pss_cons (ps_set (i := 1) sc_bag.nd rfl (.inl rfl) pe_int)
      (pss_cons (ps_for PassesOwn.never rfl (pi_list (pe_slice sl_list (pv 0) po_none (po_some pe_int))) (pg_name (i := 2) sc_bag.nd rfl (.inl rfl))
      (pss_one (ps_set (i := 1) sc_bag.nd rfl (.inl rfl) (pe_op op_mod (pe_callTy call_int1 (by rfl) T.z_int (by decide +kernel) (pa_cons (pe_op op_add (pe_op op_add (pe_op op_mul (pv 1) pe_int) (pe_op op_mul (pe_op op_mod (pe_callTy call_int1 (by rfl) T.z_int (by decide +kernel) (pa_cons (pv 2) pa_nil)) pe_int) pe_int)) pe_int) pa_nil)) pe_int))))
      (pss_one (ps_ret (pe_lst (pa_cons (pe_callTy call_list_of (by rfl) T.z_list (by decide +kernel) (pa_cons (pe_slice sl_list (pv 0) po_none (po_some pe_int)) pa_nil)) (pa_cons pe_int (pa_cons pe_int (pa_cons (pv 1) (pa_cons pe_int pa_nil))))))))))), ?_⟩)
  · obtain ⟨a, ns, rfl, _⟩ := h
    rfl
  · obtain ⟨a, ns, rfl, hS, hlen, q⟩ := h
    have ec : cutV (ns.map V.int) none (some 63) = ns.map V.int := cut63 (by rw [List.length_map]; exact hlen)
    walk_at "ss"
    intro p hp
    rw [ec]
    have s1 : Same H (upd H p (.lst (ns.map V.int))) := same_upd hp
    refine ⟨_, rfl, ⟨_, SqL.of upd_same⟩, for_list (xs := ns.map V.int) (fun i σ H' => Stp (H' = upd H p (.lst (ns.map V.int)) ∧ ∃ (m : Int) (y : Option V), σ = [some (.ref a), some (.int m), y] ∧ 0 ≤ m ∧ m < 2147483629))
      (.mk ⟨rfl, 5632, none, rfl, by decide, by decide⟩) (fun i σ H' _ h => by rw [h.of.1]; exact SqL.of upd_same) ?_ ?_⟩
    · rintro i x σ H' hx hP
      obtain ⟨rfl, m, y, rfl, h0, h1⟩ := hP.of
      obtain ⟨n, rfl⟩ := int_of hx
      walk_at "ss"
      exact .mk ⟨rfl, _, _, rfl, (modlt _).1, (modlt _).2⟩
    · rintro σ H' hP
      obtain ⟨rfl, m, y, rfl, h0, h1⟩ := hP.of
      walk_at "ss"
      refine ⟨_, _, rfl, s1.seq hS, ?_⟩
      intro p2 hp2
      rw [ec]
      refine ⟨_, _, rfl, .inl (SqL.of upd_same), ?_⟩
      intro l hl
      walk_at "ss"
      intro b hb
      have s2 := s1.trans (same_upd (o := .lst (ns.map V.int)) hp2)
      have s3 := s2.trans (same_upd (o := .lst (ns.map V.int)) hl)
      have s4 := s3.trans (same_upd (o := .lst [V.ref l, V.int 0, V.int 0, V.int m, V.int 0]) hb)
      have nl : l ≠ b := (ne_none hb upd_same).symm
      exact q b l _ (s3.free hb) (s2.free hl) ⟨⟨0, 0, m, 0, ns, upd_same, by rw [upd_ne nl]; exact upd_same, hlen, by decide, by omega, by decide, h0, h1⟩, nl⟩ s4
theorem ok_pull (T : Env K mg) : FnOk P w K mg base CX0 1 T.f_pull T.fd_pull ["_law_bag_here", "_law_sides"] spPull := by
  refine T.F_pull.ok sc_pull (fun vs H Q E h => ?_) (fun cdv A outer s H vs Q E hr h => ⟨_, ((pss_cons (ps_asg (pe_op op_add (pe_ix ix_list (pv 0) pe_int (fun _ _ => rfl)) pe_int) (pg_sub (pv 0) pe_int set_list))
      (C8.pss_cut (ps_if (PW.pt (pw_and (pt_cmpR op_eq (pe_ix ix_list (pv 0) pe_int (fun _ _ => rfl)) pe_int (nomark _)) (pw_and1 (pt_cmpR op_lt (pe_ix ix_list (pv 0) pe_int (fun _ _ => rfl)) (pe_callB call_len_seq (by rfl) T.z_len (by decide +kernel) (pa_cons (pe_ix ix_list (pv 0) pe_int (fun _ _ => rfl)) pa_nil)) (nomark _)))))
      (pss_cons (ps_set (i := 2) sc_pull.nd rfl (.inl rfl) (pe_ix ix_list (pe_ix ix_list (pv 0) pe_int (fun _ _ => rfl)) (pe_ix ix_list (pv 0) pe_int (fun _ _ => rfl)) (fun _ _ => rfl)))
      (pss_cons (ps_asg (pe_op op_add (pe_ix ix_list (pv 0) pe_int (fun _ _ => rfl)) pe_int) (pg_sub (pv 0) pe_int set_list))
      (pss_one (ps_if (pt_cmpR op_ge (pe_callB call_abs (by rfl) T.z_abs (by decide +kernel) (pa_cons (pv 2) pa_nil)) (pe_op op_pow pe_int pe_int) (nomark _))
      (pss_one (ps_asg (pe_callB call_abs (by rfl) T.z_abs (by decide +kernel) (pa_cons (pv 2) pa_nil)) (pg_sub (pv 0) pe_int set_list)))
      (pss_one (ps_asg (pe_op op_mod (pe_callTy call_int1 (by rfl) T.z_int (by decide +kernel) (pa_cons (pe_op op_add (pe_op op_add (pe_op op_mul (pe_ix ix_list (pv 0) pe_int (fun _ _ => rfl)) pe_int) (pe_op op_mul (pe_op op_mod (pe_callTy call_int1 (by rfl) T.z_int (by decide +kernel) (pa_cons (pv 2) pa_nil)) pe_int) pe_int)) pe_int) pa_nil)) pe_int) (pg_sub (pv 0) pe_int set_list)))))))
      pss_nil)
      (pss_cons (ps_if (pt_cmpR op_gt (pe_ix ix_list (pv 0) pe_int (fun _ _ => rfl)) pe_int (nomark _))
      (pss_cons (ps_set (i := 3) sc_pull.nd rfl (.inl rfl) (pe_op op_mod (pe_callTy call_int1 (by rfl) T.z_int (by decide +kernel) (pa_cons (pe_ix ix_list (pv 0) pe_int (fun _ _ => rfl)) pa_nil)) (pv 1)))
      (pss_cons (ps_asg (pe_op op_fdiv (pe_ix ix_list (pv 0) pe_int (fun _ _ => rfl)) (pv 1)) (pg_sub (pv 0) pe_int set_list))
      (pss_one (ps_ret (pv 3)))))
      pss_nil)
      (pss_cons (ps_set (i := 4) sc_pull.nd rfl (.inl rfl) (pe_op op_mod (pe_callTy call_int1 (by rfl) T.z_int (by decide +kernel) (pa_cons (pe_op op_add (pe_op op_mul (pe_ix ix_list (pv 0) pe_int (fun _ _ => rfl)) (pe_ix ix_list (pv 0) pe_int (fun _ _ => rfl))) (pe_op op_mul (pe_ix ix_list (pv 0) pe_int (fun _ _ => rfl)) pe_int)) pa_nil)) pe_int))
      (pss_cons (ps_asg (pe_op op_mod (pe_callTy call_int1 (by rfl) T.z_int (by decide +kernel) (pa_cons (pe_op op_add (pe_op op_add (pe_op op_mul (pv 4) pe_int) (pe_op op_mul (pe_ix ix_list (pv 0) pe_int (fun _ _ => rfl)) pe_int)) pe_int) pa_nil)) pe_int) (pg_sub (pv 0) pe_int set_list))
      (pss_one (ps_ret (pe_op op_mod (pe_callTy call_int1 (by rfl) T.z_int (by decide +kernel) (pa_cons (pe_op op_fdiv (pe_ix ix_list (pv 0) pe_int (fun _ _ => rfl)) pe_int) pa_nil)) (pv 1)))))))))), ?_⟩)
  · obtain ⟨b, l, n, rfl, _⟩ := h
    rfl
  · obtain ⟨b, l, n, rfl, ⟨⟨i, r, m, c, ns, hb, hl, h63, i0, i1, r0, m0, m1⟩, nlb⟩, n0, n1, q⟩ := h
    walk_at "ss"
    refine ⟨fun σ' H' => Stp (∃ (i r m c : Int) (y2 : Option V), σ' = [some (.ref b), some (.int n), y2, none, none] ∧ H' b = some (.lst [.ref l, .int i, .int r, .int m, .int c]) ∧ H' l = some (.lst (ns.map V.int)) ∧
      0 ≤ i ∧ i ≤ ns.length ∧ 0 ≤ r ∧ 0 ≤ m ∧ m < 2147483629 ∧ Kp b H H'), ?_, fun σ' H' hM => ?_⟩
    · walk_at "ss"
      have hl1 : ∀ o, (upd H b o) l = some (.lst (ns.map V.int)) := fun o => by rw [upd_ne nlb]; exact hl
      have hl2 : ∀ o u, (upd (upd H b o) b u) l = some (.lst (ns.map V.int)) := fun o u => by rw [upd_ne nlb, upd_ne nlb]; exact hl
      have hl3 : ∀ o u v, (upd (upd (upd H b o) b u) b v) l = some (.lst (ns.map V.int)) := fun o u v => by rw [upd_ne nlb, upd_ne nlb, upd_ne nlb]; exact hl
      have k1 : ∀ o, Kp b H (upd H b o) := fun o => (Kp.refl b H).put
      refine ite2 (fun e => ?_) (fun e => ?_)
      · walk_at "ss"
        refine ⟨_, _, rfl, .inl (SqL.of (hl1 _)), ?_⟩
        walk_at "ss"
        refine ite2 (fun e2 => ?_) (fun e2 => ?_)
        · have e2 : i < (ns.map V.int).length := of_decide_eq_true e2
          obtain ⟨v, hv, hm⟩ := at_in i0 e2
          obtain ⟨z, -, rfl⟩ := List.mem_map.mp hm
          rw [List.length_map] at e2
          walk_at "ss"
          refine ⟨_, _, _, _, rfl, rfl, SqL.of (hl1 _), hv, ?_⟩
          walk_at "ss"
          refine ite2 (fun e3 => ?_) (fun e3 => ?_)
          · walk_at "ss"
            exact .mk ⟨i + 1, _, m, _, _, rfl, upd_same, hl3 _ _ _, by omega, by omega, by split <;> omega, m0, m1, (k1 _).put.put⟩
          · walk_at "ss"
            exact .mk ⟨i + 1, r, _, _, _, rfl, upd_same, hl3 _ _ _, by omega, by omega, r0, (modlt _).1, (modlt _).2, (k1 _).put.put⟩
        · exact .mk ⟨i, r, m, _, _, rfl, upd_same, hl1 _, i0, i1, r0, m0, m1, k1 _⟩
      · refine iteF ?_
        exact .mk ⟨i, r, m, _, _, rfl, upd_same, hl1 _, i0, i1, r0, m0, m1, k1 _⟩
    · obtain ⟨i, r, m, c, y2, rfl, hb, hl, i0, i1, r0, m0, m1, kp⟩ := hM.of
      walk_at "ss"
      refine ite2 (fun e => ?_) (fun e => ?_)
      · walk_at "ss"
        refine q _ _ (Int.emod_nonneg _ (by omega)) (Int.emod_lt_of_pos _ n0) ⟨⟨i, _, m, c, ns, upd_same, ?_, h63, i0, i1, ?_, m0, m1⟩, nlb⟩ kp.put
        · rw [upd_ne nlb]
          exact hl
        · exact Int.ediv_nonneg r0 (by omega)
      · walk_at "ss"
        refine q _ _ (Int.emod_nonneg _ (by omega)) (Int.emod_lt_of_pos _ n0) ⟨⟨i, r, _, c, ns, upd_same, ?_, h63, i0, i1, r0, (modlt _).1, (modlt _).2⟩, nlb⟩ kp.put
        rw [upd_ne nlb]
        exact hl
theorem ok_of (T : Env K mg) : FnOk P w K mg base CX0 2 T.f_of T.fd_of ["_law_bag_here", "_law_some"] (spOf K) := by
  refine T.F_of.ok sc_of (fun vs H Q E h => ?_) (fun cdv A outer s H vs Q E hr h => ⟨_, ((pss_one (ps_ret (pe_ix ix_seq (pv 1) (pe_call (ok_pull T) (hr.mono (by decide)) (by rfl) T.g_pull T.F_pull.kp T.b_pull .nil pass0 (pa_cons (pv 0) (pa_cons (pe_callB call_len (by rfl) T.z_len (by decide +kernel) (pa_cons (pv 1) pa_nil)) pa_nil))) (fun _ _ => rfl))))), ?_⟩)
  · obtain ⟨b, l, x, rfl, _⟩ := h
    rfl
  · obtain ⟨b, l, x, rfl, B, h⟩ := h
    rcases h with ⟨p, xs, rfl, np, hS, hne, hl, q⟩ | ⟨z, rfl, hne, hl, q⟩
    · have hx : 0 < xs.length := List.length_pos_iff.mpr hne
      walk_at "ss"
      refine ⟨_, xs.length, rfl, ?_, b, l, _, rfl, B, by omega, by omega, fun k H1 k0 k1 B1 kp1 => ?_⟩
      · rcases hS with hS | hS
        · exact .inl ⟨xs, hS, rfl⟩
        · exact .inr ⟨xs, hS, rfl⟩
      obtain ⟨v, hv, hm⟩ := at_in k0 k1
      rcases hS with hS | hS
      · exact .inl ⟨p, xs, k, v, rfl, rfl, kp1.seq np hS, hv, q v H1 hm B1 kp1⟩
      · exact .inr (.inl ⟨p, xs, k, v, rfl, rfl, kp1.tup np hS, hv, q v H1 hm B1 kp1⟩)
    · walk_at "ss"
      refine ⟨_, z.length, rfl, ⟨sz hl, rfl⟩, b, l, _, rfl, B, by omega, by omega, fun k H1 k0 k1 B1 kp1 => ?_⟩
      have e : z.cps.toList.length = z.length := by simp [Str.length]
      obtain ⟨c, hc, hm⟩ := at_inN (xs := z.cps.toList) k0 (by rw [e]; exact k1)
      exact .inr (.inr ⟨z, k, c, rfl, rfl, sz hl, hc, q c H1 hm B1 kp1⟩)
end

/-! ### comprehensions -/
/-- the new list's items one by one: I holds of the heap all the way, R i tells the i-th item -/
theorem lc_gen {J : It} {n : Nat} {G : Hp → Prop} {Y : Nat → Hp → V → Hp → Prop} (w : Walk J n G Y) {g : TG} {te : TE} {vs : List Nat} {σ : L2.St} {H1 : Hp} {D : Addr} {Qd : Hp → Prop}
    (I : Hp → Prop) (R : Nat → V → Prop) (hn : n ≤ 100000) (h0 : I (upd H1 D (.lst []))) (hG : ∀ H, I H → G H) (hU : ∀ H o, I H → I (upd H D o))
    (hs : ∀ i x H H' (Q : VK), i < n → I H → Y i H x H' → (∃ o, H D = some o) → (∀ y H4, R i y → I H4 → (∀ o, H D = some o → H4 D = some o) → Q y H4) → g x (wipe σ vs) H' fun σ2 H2 => wipe σ2 vs = wipe σ vs ∧ te σ2 H2 Q)
    (hd : ∀ H ys, I H → H D = some (.lst ys) → ys.length = n → (∀ i y, ys[i]? = some y → R i y) → Qd H) :
    ∃ W : Nat → Nat → Hp → Prop, (∃ m, W 0 m (upd H1 D (.lst []))) ∧ ∀ i m H, W i m H →
      (J.stop i H ∧ Qd H) ∨ (J.go i H ∧ ∃ Nx : Hp → Prop, (∀ H', Nx H' → ∃ m', m' < m ∧ W (i + 1) m' H') ∧ ∀ x H', J.yld i H x H' → g x (wipe σ vs) H' fun σ2 H2 => wipe σ2 vs = wipe σ vs ∧ tYes σ2 H2 fun b H3 =>
        if b = true then te σ2 H3 fun y H4 => ∃ acc, H4 D = some (.lst acc) ∧ acc.length < sizeLine ∧ Nx (upd H4 D (.lst (acc ++ [y]))) else Nx H3) := by
  refine lc_it w (fun i H => I H ∧ ∃ ys : List V, H D = some (.lst ys) ∧ ys.length = i ∧ ∀ j y, ys[j]? = some y → R j y) ⟨h0, [], upd_same, rfl, fun j y e => by simp at e⟩ (fun i H _ h => hG H h.1) ?_ ?_
  · rintro i x H H' hi ⟨hI, ys, hy, hl, hr⟩ hY
    refine hs i x H H' _ hi hI hY ⟨_, hy⟩ fun y H4 ry hI4 hk => ⟨ys, hk _ hy, szl (by omega), hU _ _ hI4, ys ++ [y], upd_same, by simp [hl], fun j z e => ?_⟩
    by_cases hj : j < ys.length
    · rw [List.getElem?_append_left hj] at e
      exact hr j z e
    · have hj2 : j = ys.length := by
        have := (List.getElem?_eq_some_iff.mp e).1
        simp at this
        omega
      subst hj2
      simp at e
      rw [← e, hl]
      exact ry
  · rintro H ⟨hI, ys, hy, hl, hr⟩
    exact hd H ys hI hy hl hr
/-- with a test: the items of the turns that are kept, by f -/
theorem lc_fil {J : It} {n : Nat} {G : Hp → Prop} {Y : Nat → Hp → V → Hp → Prop} (w : Walk J n G Y) {g : TG} {tt : TT} {te : TE} {vs : List Nat} {σ : L2.St} {H1 : Hp} {D : Addr} {Qd : Hp → Prop}
    (I : Hp → Prop) (f : Nat → Option V) (hn : n ≤ 100000) (h0 : I (upd H1 D (.lst []))) (hG : ∀ H, I H → G H) (hU : ∀ H o, I H → I (upd H D o))
    (hs : ∀ i x H H' (Q : VK) (Qn : Hp → Prop), i < n → I H → Y i H x H' → (∃ o, H D = some o) → (∀ y H4, f i = some y → I H4 → (∀ o, H D = some o → H4 D = some o) → Q y H4) → (∀ H4, f i = none → I H4 → (∀ o, H D = some o → H4 D = some o) → Qn H4) →
      g x (wipe σ vs) H' fun σ2 H2 => wipe σ2 vs = wipe σ vs ∧ tt σ2 H2 fun b H3 => if b = true then te σ2 H3 Q else Qn H3)
    (hd : ∀ H, I H → H D = some (.lst ((List.range n).filterMap f)) → Qd H) :
    ∃ W : Nat → Nat → Hp → Prop, (∃ m, W 0 m (upd H1 D (.lst []))) ∧ ∀ i m H, W i m H →
      (J.stop i H ∧ Qd H) ∨ (J.go i H ∧ ∃ Nx : Hp → Prop, (∀ H', Nx H' → ∃ m', m' < m ∧ W (i + 1) m' H') ∧ ∀ x H', J.yld i H x H' → g x (wipe σ vs) H' fun σ2 H2 => wipe σ2 vs = wipe σ vs ∧ tt σ2 H2 fun b H3 =>
        if b = true then te σ2 H3 fun y H4 => ∃ acc, H4 D = some (.lst acc) ∧ acc.length < sizeLine ∧ Nx (upd H4 D (.lst (acc ++ [y]))) else Nx H3) := by
  refine lc_it w (fun i H => I H ∧ H D = some (.lst ((List.range i).filterMap f))) ⟨h0, upd_same⟩ (fun i H _ h => hG H h.1) ?_ ?_
  · rintro i x H H' hi ⟨hI, hy⟩ hY
    have e : (List.range (i + 1)).filterMap f = (List.range i).filterMap f ++ (match f i with | some y => [y] | none => []) := by
      rw [List.range_succ, List.filterMap_append]
      cases h : f i <;> simp [h]
    have hl : ((List.range i).filterMap f).length ≤ i := by
      have := List.length_filterMap_le f (List.range i)
      rw [List.length_range] at this
      exact this
    refine hs i x H H' _ _ hi hI hY ⟨_, hy⟩ (fun y H4 ry hI4 hk => ⟨_, hk _ hy, szl (by omega), hU _ _ hI4, ?_⟩) (fun H4 ry hI4 hk => ⟨hI4, ?_⟩)
    · rw [upd_same, e, ry]
    · rw [hk _ hy, e, ry, List.append_nil]
  · rintro H ⟨hI, hy⟩
    exact hd H hI hy
theorem ys_map {α : Type} {l : List α} {f : α → V} {ys : List V} (hl : ys.length = l.length) (hr : ∀ (i : Nat) (y : V), ys[i]? = some y → ∃ c, l[i]? = some c ∧ y = f c) : ys = l.map f := by
  apply List.ext_getElem?
  intro i
  rw [List.getElem?_map]
  cases h : ys[i]? with
  | none =>
    have h1 := List.getElem?_eq_none_iff.mp h
    rw [List.getElem?_eq_none_iff.mpr (by omega)]
    rfl
  | some y =>
    obtain ⟨c, h1, h2⟩ := hr i y h
    rw [h1, h2]
    rfl
theorem all_dec {α : Type} {l : List α} {p : α → Prop} [DecidablePred p] : (l.map fun c => decide (p c)).all id = decide (∀ c ∈ l, p c) := by
  rw [Bool.eq_iff_iff]
  simp
theorem size_tl (z : Str) : z.cps.size = z.cps.toList.length := by simp
theorem len_tl (z : Str) : z.length = z.cps.toList.length := by simp [Str.length]
theorem get_tl (z : Str) (i : Nat) : z.cps[i]? = z.cps.toList[i]? := by simp
theorem pick_map {α : Type} {P : α → Prop} {f : α → V} : ∀ {ys : List V}, (∀ (i : Nat) (y : V), ys[i]? = some y → ∃ c, P c ∧ y = f c) → ∃ cs : List α, ys = cs.map f ∧ cs.length = ys.length ∧ ∀ c ∈ cs, P c
  | [], _ => ⟨[], rfl, rfl, fun _ h => nomatch h⟩
  | y :: r, h => by
    obtain ⟨c, hc, e⟩ := h 0 y rfl
    obtain ⟨cs, h1, h2, h3⟩ := pick_map (P := P) (f := f) (ys := r) fun i z hz => h (i + 1) z hz
    refine ⟨c :: cs, by rw [e, h1]; rfl, by simp [h2], fun x hx => ?_⟩
    rcases List.mem_cons.mp hx with rfl | hx
    · exact hc
    · exact h3 x hx
theorem fil_empty {f : Nat → Option V} {n : Nat} : (!(!((List.range n).filterMap f).isEmpty)) = decide (∀ i < n, f i = none) := by
  rw [Bool.eq_iff_iff]
  simp

/-! ### what is found and what is due are the same -/
def scalV : V → Bool
  | .non => true
  | .bl _ => true
  | .int _ => true
  | .str _ => true
  | _ => false
/-- of depth below d: the same data -/
def Sm (K : PySem.W.Frag) (H : Hp) : Nat → V → V → Prop
  | 0, _, _ => False
  | d + 1, x, y => (x = y ∧ scalV x = true) ∨ (∃ a b xs ys, x = .ref a ∧ y = .ref b ∧ xs.length ≤ 100000 ∧ xs.length = ys.length ∧ (∀ (i : Nat) (u v : V), xs[i]? = some u → ys[i]? = some v → Sm K H d u v) ∧
      ((SqL K H a xs ∧ SqL K H b ys) ∨ (SqT K H a xs ∧ SqT K H b ys)))
theorem Sm.same {K : PySem.W.Frag} {H H' : Hp} (s : Same H H') : ∀ {d : Nat} {x y : V}, Sm K H d x y → Sm K H' d x y
  | 0, _, _, h => h
  | d + 1, x, y, h => by
    rcases h with h | ⟨a, b, xs, ys, e1, e2, hz, hl, hi, h⟩
    · exact .inl h
    · refine .inr ⟨a, b, xs, ys, e1, e2, hz, hl, fun i u v h1 h2 => Sm.same s (hi i u v h1 h2), ?_⟩
      rcases h with ⟨h1, h2⟩ | ⟨h1, h2⟩
      · exact .inl ⟨s.seq h1, s.seq h2⟩
      · exact .inr ⟨same_tup s h1, same_tup s h2⟩
theorem Sm.up {K : PySem.W.Frag} {H : Hp} : ∀ {d : Nat} {x y : V}, Sm K H d x y → Sm K H (d + 1) x y
  | 0, _, _, h => h.elim
  | d + 1, x, y, h => by
    rcases h with h | ⟨a, b, xs, ys, e1, e2, hz, hl, hi, h⟩
    · exact .inl h
    · exact .inr ⟨a, b, xs, ys, e1, e2, hz, hl, fun i u v h1 h2 => Sm.up (hi i u v h1 h2), h⟩
theorem tyx_list {K : PySem.W.Frag} {H : Hp} {a : Addr} {xs : List V} (h : SqL K H a xs) : TyX K H (.ref a) (.type "list") := by
  rcases h with (h | ⟨o, h⟩) | ⟨o, its, n, h1, h2, _⟩
  · exact .base (.lst h)
  · exact .base (.frz h)
  · exact .kList h1 h2
theorem tyx_tup {K : PySem.W.Frag} {H : Hp} {a : Addr} {xs : List V} (h : SqT K H a xs) : TyX K H (.ref a) (.type "tuple") := by
  rcases h with (h | ⟨o, h⟩) | ⟨o, its, n, h1, h2, _⟩
  · exact .base (.tup h)
  · exact .fTuple h
  · exact .kTuple h1 h2
theorem walk_zipT {K : PySem.W.Frag} {a b : Addr} {xs ys : List V} {n : Nat} (hn : n = min xs.length ys.length) : Walk (RZ.ItzT K a b) n (fun H => SqT K H a xs ∧ SqT K H b ys) (YPair (fun i => xs[i]?) (fun i => ys[i]?)) := by
  subst hn
  refine ⟨fun i _ hi q => ?_, fun _ q => ⟨xs, ys, q.1, q.2, by omega⟩, fun i H v H' _ q y => ?_⟩
  · have h1 : i < xs.length := by omega
    have h2 : i < ys.length := by omega
    exact ⟨xs, ys, xs[i], ys[i], q.1, q.2, by simp [h1], by simp [h2]⟩
  · obtain ⟨T, x, z, h1, h2, h3, h4, h5⟩ := y
    exact ⟨T, x, z, h1, h2, h3, h4 xs q.1, h5 ys q.2⟩
theorem sm_lst {K : PySem.W.Frag} {H : Hp} {d : Nat} {p q : Addr} {xs : List V} (h1 : SqL K H p xs) (h2 : SqL K H q xs) (hl : xs.length ≤ 100000) (hs : xs.all scalV = true) : Sm K H (d + 2) (.ref p) (.ref q) := by
  refine .inr ⟨p, q, xs, xs, rfl, rfl, hl, rfl, fun i u v e1 e2 => ?_, .inl ⟨h1, h2⟩⟩
  rw [e1] at e2
  cases e2
  exact .inl ⟨rfl, List.all_eq_true.mp hs u (List.mem_of_getElem? e1)⟩
def spSame (K : PySem.W.Frag) (d : Nat) : Sp := fun vs H Q _ => ∃ (x y : V), vs = [x, y] ∧ Sm K H d x y ∧ ∀ H', Same H H' → Q (.bl true) H'
section
variable {P : Program} {w : World} {K : PySem.W.Frag} {mg : Str → Option Value} {base : Heap}
theorem ok_same (T : Env K mg) : ∀ d : Nat, FnOk P w K mg base CX0 (d + 1) T.f_same T.fd_same ["_law_found", "_law_due"] (spSame K d)
  | 0 => by
    refine T.F_same.ok sc_same (fun vs H Q E h => ?_) (fun cdv A outer s H vs Q E hr h => ?_)
    · obtain ⟨x, y, rfl, _⟩ := h
      rfl
    · obtain ⟨x, y, rfl, h, _⟩ := h
      exact h.elim
  | d + 1 => by
    have ih : FnOk P w K mg base CX0 (d + 1) T.f_same T.fd_same ["_law_found", "_law_due"] (spSame K d) := ok_same T d
    refine T.F_same.ok sc_same (fun vs H Q E h => ?_) (fun cdv A outer s H vs Q E hr h => ⟨_, ((pss_cons (ps_if (pt_val (pe_callB call_isiT (by rfl) T.z_isinstance (by decide +kernel) (pa_cons (pv 1) (pa_cons (pe_tup (pa_cons (pe_bltn (v := .ty "list") (by rfl) T.z_list (by decide +kernel) rfl) (pa_cons (pe_bltn (v := .ty "tuple") (by rfl) T.z_tuple (by decide +kernel) rfl) pa_nil))) pa_nil))))
      (pss_cons (ps_if (PW.pt (pw_or (pt_cmpR op_ne (pe_callB call_isi (by rfl) T.z_isinstance (by decide +kernel) (pa_cons (pv 0) (pa_cons (pe_bltn (v := .ty "list") (by rfl) T.z_list (by decide +kernel) rfl) pa_nil))) (pe_callB call_isi (by rfl) T.z_isinstance (by decide +kernel) (pa_cons (pv 1) (pa_cons (pe_bltn (v := .ty "list") (by rfl) T.z_list (by decide +kernel) rfl) pa_nil))) (nomark _)) (pw_or1 (pt_cmpR op_ne (pe_callB call_isi (by rfl) T.z_isinstance (by decide +kernel) (pa_cons (pv 0) (pa_cons (pe_bltn (v := .ty "tuple") (by rfl) T.z_tuple (by decide +kernel) rfl) pa_nil))) (pe_callB call_isi (by rfl) T.z_isinstance (by decide +kernel) (pa_cons (pv 1) (pa_cons (pe_bltn (v := .ty "tuple") (by rfl) T.z_tuple (by decide +kernel) rfl) pa_nil))) (nomark _)))))
      (pss_one (ps_ret pe_bl))
      pss_nil)
      (pss_one (ps_ret (pe_and (pe_cmpR op_eq (pe_callB call_len (by rfl) T.z_len (by decide +kernel) (pa_cons (pv 0) pa_nil)) (pe_callB call_len (by rfl) T.z_len (by decide +kernel) (pa_cons (pv 1) pa_nil)) (nomark _)) (pe_one (pe_callB (cr_all rfl) (by rfl) T.z_all (by decide +kernel) (pa_cons (pe_lc (own := [("_law_a", 2), ("_law_b", 3)]) (g := (gTup K 2 (gCons (gName 2) (gCons (gName 3) gNil)))) (tt := tYes) rfl sc_same.nd (RZ.pi_zipA (by rfl) T.z_zip (pa_cons (pv 0) (pa_cons (pv 1) pa_nil))) (blkOk_by (own := [("_law_a", 2), ("_law_b", 3)]) (N := N_same) (sc := defScope s_same) (by decide +kernel)) (fun _ _ _ _ _ => (pg_tup (by rfl) (pgs_cons (pg_name (i := 2) sc_same.nd rfl (.inl rfl)) (pgs_cons (pg_name (i := 3) sc_same.nd rfl (.inl rfl)) pgs_nil)))) (fun _ _ _ _ _ => pts_nil) (fun _ _ _ _ _ => (pe_call ih hr (by rfl) T.g_same T.F_same.kp T.b_same .nil pass0 (pa_cons (pv 2) (pa_cons (pv 3) pa_nil))))) pa_nil)))))))
      pss_nil)
      (pss_cons (ps_if (PW.pt (pw_or (pt_cmpR op_isN (pv 1) pe_non (nomark _)) (pw_or1 (pt_cmpR op_isN (pv 0) pe_non (nomark _)))))
      (pss_one (ps_ret (pe_and (pe_cmpR op_isN (pv 1) pe_non (nomark _)) (pe_one (pe_cmpR op_isN (pv 0) pe_non (nomark _))))))
      pss_nil)
      (pss_cons (ps_if (PW.pt (pw_or (pt_cmpR op_ne (pe_callB call_isi (by rfl) T.z_isinstance (by decide +kernel) (pa_cons (pv 1) (pa_cons (pe_bltn (v := .ty "bool") (by rfl) T.z_bool (by decide +kernel) rfl) pa_nil))) (pe_callB call_isi (by rfl) T.z_isinstance (by decide +kernel) (pa_cons (pv 0) (pa_cons (pe_bltn (v := .ty "bool") (by rfl) T.z_bool (by decide +kernel) rfl) pa_nil))) (nomark _)) (pw_or1 (pt_cmpR op_ne (pe_callB call_isi (by rfl) T.z_isinstance (by decide +kernel) (pa_cons (pv 1) (pa_cons (pe_bltn (v := .ty "int") (by rfl) T.z_int (by decide +kernel) rfl) pa_nil))) (pe_callB call_isi (by rfl) T.z_isinstance (by decide +kernel) (pa_cons (pv 0) (pa_cons (pe_bltn (v := .ty "int") (by rfl) T.z_int (by decide +kernel) rfl) pa_nil))) (nomark _)))))
      (pss_one (ps_ret pe_bl))
      pss_nil)
      (pss_one (ps_ret (pe_and (pe_cmpR op_eq (pe_callB call_isi (by rfl) T.z_isinstance (by decide +kernel) (pa_cons (pv 1) (pa_cons (pe_bltn (v := .ty "str") (by rfl) T.z_str (by decide +kernel) rfl) pa_nil))) (pe_callB call_isi (by rfl) T.z_isinstance (by decide +kernel) (pa_cons (pv 0) (pa_cons (pe_bltn (v := .ty "str") (by rfl) T.z_str (by decide +kernel) rfl) pa_nil))) (nomark _)) (pe_one (pe_cmpR op_eq (pv 0) (pv 1) (nomark _)))))))))), ?_⟩)
    · obtain ⟨x, y, rfl, _⟩ := h
      rfl
    · obtain ⟨x, y, rfl, h, q⟩ := h
      rcases h with ⟨rfl, hsc⟩ | ⟨a, b, xs, ys, rfl, rfl, hz, hl, hi, h⟩
      · cases x with
        | non =>
          walk_at "ssi"
          exact q _ (same_upd (by assumption))
        | bl b =>
          walk_at "ssi"
          show Q (V.bl (decide (V.bl b = V.bl b))) _
          rw [decide_eq_true rfl]
          exact q _ (same_upd (by assumption))
        | int i =>
          walk_at "ssi"
          show Q (V.bl (decide (V.int i = V.int i))) _
          rw [decide_eq_true rfl]
          exact q _ (same_upd (by assumption))
        | str z =>
          walk_at "ssi"
          show Q (V.bl (decide (V.str z = V.str z))) _
          rw [decide_eq_true rfl]
          exact q _ (same_upd (by assumption))
        | byt z => cases hsc
        | flt z => cases hsc
        | ref z => cases hsc
        | ty z => cases hsc
      · rcases h with ⟨h1, h2⟩ | ⟨h1, h2⟩
        · walk_at "ss"
          intro p hp
          have s1 : Same H (upd H p (.tup [.ty "list", .ty "tuple"])) := same_upd hp
          have t1 := tyx_list (s1.seq h1)
          have t2 := tyx_list (s1.seq h2)
          walk_at "ssi"
          refine ⟨_, xs.length, rfl, .inl ⟨xs, s1.seq h1, rfl⟩, ?_⟩
          walk_at "ss"
          refine ⟨_, ys.length, rfl, .inl ⟨ys, s1.seq h2, rfl⟩, ?_⟩
          walk_at "ss"
          refine iteP (decide_eq_true (by rw [hl])) ?_
          walk_at "ss"
          refine ⟨a, b, xs, ys, rfl, .inl ⟨s1.seq h1, s1.seq h2, ?_⟩⟩
          intro D hD
          have hD0 : H D = none := s1.free hD
          refine lc_it (walk_zip (xs := xs) (ys := ys) (n := xs.length) (by omega)) (fun i H' => Stp (Same H H' ∧ H' D = some (.lst ((List.replicate i true).map V.bl))))
            (.mk ⟨same_mut s1 hD0, upd_same⟩) (fun i H' _ h => ⟨h.of.1.seq h1, h.of.1.seq h2⟩) ?_ ?_
          · rintro i x H1 H2 hlt hP ⟨Tp, u, v, rfl, hT, rfl, e1, e2⟩
            obtain ⟨s2, hDl⟩ := hP.of
            have s3 : Same H1 (upd H1 Tp (.tup [u, v])) := same_upd hT
            refine ⟨Tp, _, rfl, SqT.of upd_same, rfl, ?_⟩
            walk_at "ss"
            refine ⟨u, v, rfl, (hi i u v e1 e2).same (s2.trans s3), fun H3 s4 => ⟨_, s4 _ _ (s3 _ _ hDl), ?_, ?_⟩⟩
            · rw [List.length_map, List.length_replicate]
              exact szl (by omega)
            · refine .mk ⟨same_mut ((s2.trans s3).trans s4) hD0, ?_⟩
              rw [upd_same, List.replicate_succ', List.map_append]
              rfl
          · intro H1 hP
            obtain ⟨s2, hDl⟩ := hP.of
            walk_at "ss"
            refine ⟨D, _, rfl, SqL.of hDl, ?_⟩
            rw [show (List.replicate xs.length true).all id = true by simp]
            exact q _ s2
        · walk_at "ss"
          intro p hp
          have s1 : Same H (upd H p (.tup [.ty "list", .ty "tuple"])) := same_upd hp
          have t1 := tyx_tup (same_tup s1 h1)
          have t2 := tyx_tup (same_tup s1 h2)
          walk_at "ssi"
          refine ⟨_, xs.length, rfl, .inr ⟨xs, same_tup s1 h1, rfl⟩, ?_⟩
          walk_at "ss"
          refine ⟨_, ys.length, rfl, .inr ⟨ys, same_tup s1 h2, rfl⟩, ?_⟩
          walk_at "ss"
          refine iteP (decide_eq_true (by rw [hl])) ?_
          walk_at "ss"
          refine ⟨a, b, xs, ys, rfl, .inr ⟨same_tup s1 h1, same_tup s1 h2, ?_⟩⟩
          intro D hD
          have hD0 : H D = none := s1.free hD
          refine lc_it (walk_zipT (xs := xs) (ys := ys) (n := xs.length) (by omega)) (fun i H' => Stp (Same H H' ∧ H' D = some (.lst ((List.replicate i true).map V.bl))))
            (.mk ⟨same_mut s1 hD0, upd_same⟩) (fun i H' _ h => ⟨same_tup h.of.1 h1, same_tup h.of.1 h2⟩) ?_ ?_
          · rintro i x H1 H2 hlt hP ⟨Tp, u, v, rfl, hT, rfl, e1, e2⟩
            obtain ⟨s2, hDl⟩ := hP.of
            have s3 : Same H1 (upd H1 Tp (.tup [u, v])) := same_upd hT
            refine ⟨Tp, _, rfl, SqT.of upd_same, rfl, ?_⟩
            walk_at "ss"
            refine ⟨u, v, rfl, (hi i u v e1 e2).same (s2.trans s3), fun H3 s4 => ⟨_, s4 _ _ (s3 _ _ hDl), ?_, ?_⟩⟩
            · rw [List.length_map, List.length_replicate]
              exact szl (by omega)
            · refine .mk ⟨same_mut ((s2.trans s3).trans s4) hD0, ?_⟩
              rw [upd_same, List.replicate_succ', List.map_append]
              rfl
          · intro H1 hP
            obtain ⟨s2, hDl⟩ := hP.of
            walk_at "ss"
            refine ⟨D, _, rfl, SqL.of hDl, ?_⟩
            rw [show (List.replicate xs.length true).all id = true by simp]
            exact q _ s2
end

/-! ### alphabets and words -/
def Alpha (l : List Nat) : Prop := 1 ≤ l.length ∧ l.length ≤ 4 ∧ (∀ c ∈ l, 97 ≤ c ∧ c ≤ 122) ∧ l.Pairwise (· < ·)
instance (l : List Nat) : Decidable (Alpha l) := by
  unfold Alpha
  exact inferInstance
theorem lt1 (a b : Nat) : (([a] : List Nat) < [b]) ↔ a < b := by
  simp [List.cons_lt_cons_iff]
theorem asc_pair (l : List Nat) (h : l.length ≤ 4) : ((List.range (l.length - 1)).map fun i => decide (l.getD i 0 < l.getD (i + 1) 0)).all id = decide (l.Pairwise (· < ·)) := by
  rw [all_dec, Bool.eq_iff_iff]
  simp only [decide_eq_true_eq]
  match l, h with
  | [], _ => simp
  | [a], _ => simp
  | [a, b], _ => simp [List.range_succ]
  | [a, b, c], _ => simp [List.range_succ]; try omega
  | [a, b, c, d], _ => simp [List.range_succ]; try omega
  | _ :: _ :: _ :: _ :: _ :: _, h => simp at h; try omega
theorem asc_none (l : List Nat) (h : l.length ≤ 4) : (∀ i < l.length - 1, ¬ l.getD (i + 1) 0 ≤ l.getD i 0) ↔ l.Pairwise (· < ·) := by
  have e := asc_pair l h
  rw [all_dec, Bool.eq_iff_iff] at e
  simp only [decide_eq_true_eq, List.mem_range] at e
  rw [← e]
  constructor
  · intro h i hi
    have := h i hi
    omega
  · intro h i hi
    have := h i hi
    omega
def NoStr (K : PySem.W.Frag) (H : Hp) (v : V) : Prop := ∃ t, TyX K H v (.type t) ∧ kitB t "str" = some false
theorem tyx_same {K : PySem.W.Frag} {H H' : Hp} (s : Same H H') {v : V} {t : Value} (h : TyX K H v t) : TyX K H' v t := by
  cases h with
  | base b =>
    cases b with
    | non => exact .base .non
    | bl x => exact .base (.bl x)
    | int i => exact .base (.int i)
    | str x => exact .base (.str x)
    | flt x => exact .base (.flt x)
    | lst e => exact .base (.lst (s _ _ e))
    | frz e => exact .base (.frz (s _ _ e))
    | tup e => exact .base (.tup (s _ _ e))
    | dK e => exact .base (.dK (s _ _ e))
    | dT e => exact .base (.dT (s _ _ e))
    | ins e cl ha hn htk hm => exact .base (.ins (s _ _ e) cl ha hn htk hm)
  | byt b => exact .byt b
  | set e => exact .set (s _ _ e)
  | kList e c => exact .kList e c
  | kTuple e c => exact .kTuple e c
  | kDict e c => exact .kDict e c
  | fTuple e => exact .fTuple (s _ _ e)
  | fDict e => exact .fDict (s _ _ e)
theorem NoStr.same {K : PySem.W.Frag} {H H' : Hp} {v : V} (h : NoStr K H v) (s : Same H H') : NoStr K H' v := by
  obtain ⟨t, h1, h2⟩ := h
  exact ⟨t, tyx_same s h1, h2⟩
theorem nostr_lst {K : PySem.W.Frag} {H : Hp} {p : Addr} {xs : List V} (h : H p = some (.lst xs)) : NoStr K H (.ref p) := ⟨"list", .base (.lst h), by decide +kernel⟩
theorem nostr_tup {K : PySem.W.Frag} {H : Hp} {p : Addr} {xs : List V} (h : H p = some (.tup xs)) : NoStr K H (.ref p) := ⟨"tuple", .base (.tup h), by decide +kernel⟩
theorem nostr_non {K : PySem.W.Frag} {H : Hp} : NoStr K H .non := ⟨"NoneType", .base .non, by decide +kernel⟩
theorem nostr_bl {K : PySem.W.Frag} {H : Hp} {x : Bool} : NoStr K H (.bl x) := ⟨"bool", .base (.bl x), by decide +kernel⟩
theorem nostr_int {K : PySem.W.Frag} {H : Hp} {x : Int} : NoStr K H (.int x) := ⟨"int", .base (.int x), by decide +kernel⟩
def spIsAlpha (K : PySem.W.Frag) : Sp := fun vs H Q _ => ∃ v, vs = [v] ∧ ((∃ z : Str, v = .str z ∧ z.length ≤ 100000 ∧ ∀ H', Same H H' → Q (.bl (decide (Alpha z.cps.toList))) H') ∨ (NoStr K H v ∧ ∀ H', Same H H' → Q (.bl false) H'))
def spIsWord (K : PySem.W.Frag) : Sp := fun vs H Q _ => ∃ (a : Str) (v : V), vs = [.str a, v] ∧ ((∃ z : Str, v = .str z ∧ z.length ≤ 100000 ∧ ∀ H', Same H H' → Q (.bl (decide (∀ c ∈ z.cps.toList, c ∈ a.cps.toList))) H') ∨ (NoStr K H v ∧ ∀ H', Same H H' → Q (.bl false) H'))
section
variable {P : Program} {w : World} {K : PySem.W.Frag} {mg : Str → Option Value} {base : Heap}
theorem ok_is_alphabet (T : Env K mg) : FnOk P w K mg base CX0 1 T.f_is_alphabet T.fd_is_alphabet ["value"] (spIsAlpha K) := by
  refine T.F_is_alphabet.ok sc_is_alphabet (fun vs H Q E h => ?_) (fun cdv A outer s H vs Q E hr h => ⟨_, ((pss_cons (ps_if (PW.pt (pw_or (pt_not (pt_val (pe_callB call_isi (by rfl) T.z_isinstance (by decide +kernel) (pa_cons (pv 0) (pa_cons (pe_bltn (v := .ty "str") (by rfl) T.z_str (by decide +kernel) rfl) pa_nil))))) (pw_or1 (pt_not (pt_chain op_le op_le pe_int (pe_callB call_len_str (by rfl) T.z_len (by decide +kernel) (pa_cons (pv 0) pa_nil)) (pe_glob (v := .int 4) (by rfl) T.c_MOST_LETTERS ⟨_, rfl⟩))))))
      (pss_one (ps_ret pe_bl))
      pss_nil)
      (pss_cons (ps_if (pt_not (pt_val (pe_callB (cr_all rfl) (by rfl) T.z_all (by decide +kernel) (pa_cons (pe_lc (own := [("sign", 2)]) (g := (gName 2)) (tt := tYes) rfl sc_is_alphabet.nd (pi_str (pv 0)) (blkOk_by (own := [("sign", 2)]) (N := N_is_alphabet) (sc := defScope s_is_alphabet) (by decide +kernel)) (fun _ _ _ _ _ => (pg_name (i := 2) sc_is_alphabet.nd rfl (.inl rfl))) (fun _ _ _ _ _ => pts_nil) (fun _ _ _ _ _ => (pe_chain op_le_str op_le_str pe_str (pv 2) pe_str))) pa_nil))))
      (pss_one (ps_ret pe_bl))
      pss_nil)
      (pss_one (ps_ret (pe_callB (cr_all rfl) (by rfl) T.z_all (by decide +kernel) (pa_cons (pe_lc (own := [("at", 1)]) (g := (gName 1)) (tt := tYes) rfl sc_is_alphabet.nd (pi_range2 (by rfl) T.z_range (pa_cons pe_int (pa_cons (pe_callB call_len_str (by rfl) T.z_len (by decide +kernel) (pa_cons (pv 0) pa_nil)) pa_nil))) (blkOk_by (own := [("at", 1)]) (N := N_is_alphabet) (sc := defScope s_is_alphabet) (by decide +kernel)) (fun _ _ _ _ _ => (pg_name (i := 1) sc_is_alphabet.nd rfl (.inl rfl))) (fun _ _ _ _ _ => pts_nil) (fun _ _ _ _ _ => (pe_cmpR op_lt_str (pe_ix ix_str (pv 0) (pe_op op_sub (pv 1) pe_int) (fun _ _ => rfl)) (pe_ix ix_str (pv 0) (pv 1) (fun _ _ => rfl)) (nomark _)))) pa_nil))))))), ?_⟩)
  · obtain ⟨v, rfl, _⟩ := h
    rfl
  · obtain ⟨v, rfl, ⟨z, rfl, hz, q⟩ | ⟨⟨t, ht, hk⟩, q⟩⟩ := h
    · have L := len_tl z
      have hF : ∀ H', Same H H' → ¬ Alpha z.cps.toList → Q (.bl false) H' := fun H' sm hn => by
        have := q H' sm
        rw [decide_eq_false hn] at this
        exact this
      walk_at "ssi"
      refine ite2 (fun e1 => ?_) (fun e1 => ?_)
      · have e1 : (1 : Int) ≤ z.length := of_decide_eq_true e1
        walk_at "ss"
        refine ite2 (fun e2 => ?_) (fun e2 => ?_)
        · refine hF _ (Same.refl H) fun hA => ?_
          have e3 : ¬ ((z.length : Int) ≤ 4) := by simpa using e2
          have := hA.2.1
          omega
        · have e3 : (z.length : Int) ≤ 4 := by simpa using e2
          walk_at "ss"
          intro D hD
          refine lc_gen walk_str (fun H' => Same H H') (fun i y => ∃ c, z.cps.toList[i]? = some c ∧ y = V.bl (decide (97 ≤ c ∧ c ≤ 122))) (by rw [size_tl, ← len_tl]; exact hz) (same_upd hD) (fun _ _ => trivial) (fun _ _ h => same_mut h hD) ?_ ?_
          · rintro i x H1 H2 Q1 hlt hI ⟨rfl, c, hc, rfl⟩ - hQ
            rw [get_tl] at hc
            walk_at "ss"
            refine ite2 (fun e5 => ?_) (fun e5 => ?_)
            · have e6 : (!decide (([c] : List Nat) < [97])) = true := e5
              have e7 : 97 ≤ c := by simpa [lt1] using e6
              walk_at "ss"
              refine hQ _ _ ⟨c, hc, congrArg V.bl ?_⟩ hI fun _ h => h
              show (!decide (([122] : List Nat) < [c])) = decide (97 ≤ c ∧ c ≤ 122)
              rw [Bool.eq_iff_iff]
              simp [lt1, e7]
            · have e6 : ¬ (!decide (([c] : List Nat) < [97])) = true := e5
              have e7 : ¬ 97 ≤ c := by simpa [lt1] using e6
              refine hQ _ _ ⟨c, hc, congrArg V.bl ?_⟩ hI fun _ h => h
              simp [e7]
          · intro H1 ys hI hy hl hr
            have e : ys = (z.cps.toList.map fun c => decide (97 ≤ c ∧ c ≤ 122)).map V.bl := by
              rw [List.map_map]
              exact ys_map (by rw [hl, size_tl]) hr
            subst e
            walk_at "ss"
            refine ⟨D, _, rfl, SqL.of hy, ?_⟩
            rw [all_dec]
            walk_at "ss"
            refine ite2 (fun e4 => ?_) (fun e4 => ?_)
            · refine hF _ hI fun hA => ?_
              have e5 := hA.2.2.1
              rw [decide_eq_true e5] at e4
              cases e4
            · have e5 : ∀ c ∈ z.cps.toList, 97 ≤ c ∧ c ≤ 122 := by simpa using e4
              walk_at "ss"
              refine ⟨_, _, rfl, ⟨by decide, by decide, by omega, by omega⟩, ?_⟩
              intro D2 hD2
              refine lc_gen walk_range (fun H' => Same H1 H') (fun i y => ∃ a b, z.cps.toList[i]? = some a ∧ z.cps.toList[i + 1]? = some b ∧ y = V.bl (decide (a < b))) (by omega) (same_upd hD2) (fun _ _ => trivial) (fun _ _ h => same_mut h hD2) ?_ ?_
              · rintro i x H2 H3 Q1 hlt hI2 ⟨rfl, rfl⟩ - hQ
                have h1 : i + 1 < z.cps.toList.length := by omega
                have h0 : i < z.cps.toList.length := by omega
                have g0 := List.getElem?_eq_getElem h0
                have g1 := List.getElem?_eq_getElem h1
                walk_at "ss"
                refine ⟨z, _, _, rfl, rfl, sz hz, (show atI z.cps.toList (1 + (i : Int) - 1) = some z.cps.toList[i] by rw [show 1 + (i : Int) - 1 = ((i : Nat) : Int) by omega]; exact atI_nat g0), ?_⟩
                walk_at "ss"
                refine ⟨z, _, _, rfl, rfl, sz hz, (show atI z.cps.toList (1 + (i : Int)) = some z.cps.toList[i + 1] by rw [show 1 + (i : Int) = ((i + 1 : Nat) : Int) by omega]; exact atI_nat g1), ?_⟩
                walk_at "ss"
                refine hQ _ _ ⟨_, _, g0, g1, congrArg V.bl ?_⟩ hI2 fun _ h => h
                show decide (([z.cps.toList[i]] : List Nat) < [z.cps.toList[i + 1]]) = _
                rw [Bool.eq_iff_iff]
                simp [lt1]
              · intro H2 ys2 hI2 hy2 hl2 hr2
                have e : ys2 = ((List.range (z.cps.toList.length - 1)).map fun i => decide (z.cps.toList.getD i 0 < z.cps.toList.getD (i + 1) 0)).map V.bl := by
                  rw [List.map_map]
                  refine ys_map (by rw [hl2, List.length_range]; omega) fun i y h => ?_
                  obtain ⟨a, b, h1, h2, h3⟩ := hr2 i y h
                  have hi := (List.getElem?_eq_some_iff.mp h).1
                  refine ⟨i, List.getElem?_range (by omega), ?_⟩
                  rw [h3]
                  simp only [Function.comp, List.getD_eq_getElem?_getD, h1, h2, Option.getD_some]
                subst e
                walk_at "ss"
                refine ⟨D2, _, rfl, SqL.of hy2, ?_⟩
                rw [asc_pair z.cps.toList (by omega)]
                have := q H2 (hI.trans hI2)
                rw [show decide (Alpha z.cps.toList) = decide (z.cps.toList.Pairwise (· < ·)) from ?_] at this
                · exact this
                · rw [Bool.eq_iff_iff]
                  simp only [decide_eq_true_eq]
                  exact ⟨fun h => h.2.2.2, fun h => ⟨by omega, by omega, e5, h⟩⟩
      · walk_at "ss"
        refine hF _ (Same.refl H) fun hA => ?_
        have e3 : ¬ ((1 : Int) ≤ z.length) := by simpa using e1
        have := hA.1
        omega
    · walk_at "ssi"
      exact q _ (Same.refl H)
theorem ok_is_word (T : Env K mg) : FnOk P w K mg base CX0 1 T.f_is_word T.fd_is_word ["alphabet", "value"] (spIsWord K) := by
  refine T.F_is_word.ok sc_is_word (fun vs H Q E h => ?_) (fun cdv A outer s H vs Q E hr h => ⟨_, ((pss_one (ps_ret (pe_and (pe_callB call_isi (by rfl) T.z_isinstance (by decide +kernel) (pa_cons (pv 1) (pa_cons (pe_bltn (v := .ty "str") (by rfl) T.z_str (by decide +kernel) rfl) pa_nil))) (pe_one (pe_callB (cr_all rfl) (by rfl) T.z_all (by decide +kernel) (pa_cons (pe_lc (own := [("sign", 2)]) (g := (gName 2)) (tt := tYes) rfl sc_is_word.nd (pi_str (pv 1)) (blkOk_by (own := [("sign", 2)]) (N := N_is_word) (sc := defScope s_is_word) (by decide +kernel)) (fun _ _ _ _ _ => (pg_name (i := 2) sc_is_word.nd rfl (.inl rfl))) (fun _ _ _ _ _ => pts_nil) (fun _ _ _ _ _ => (pe_cmpR op_in_sign (pv 2) (pv 0) (by rfl)))) pa_nil))))))), ?_⟩)
  · obtain ⟨a, v, rfl, _⟩ := h
    rfl
  · obtain ⟨a, v, rfl, ⟨z, rfl, hz, q⟩ | ⟨⟨t, ht, hk⟩, q⟩⟩ := h
    · walk_at "ss"
      refine ⟨_, _, _, _, true, rfl, ClsV.ty _, .base (.str _), kit_ty (by decide +kernel), ?_⟩
      walk_at "ss"
      intro D hD
      refine lc_gen walk_str (fun H' => Same H H') (fun i y => ∃ c, z.cps.toList[i]? = some c ∧ y = V.bl (decide (c ∈ a.cps.toList))) (by rw [size_tl, ← len_tl]; exact hz) (same_upd hD) (fun _ _ => trivial) (fun _ _ h => same_mut h hD) ?_ ?_
      · rintro i x H1 H2 Q1 hlt hI ⟨rfl, c, hc, rfl⟩ - hQ
        walk_at "ss"
        rw [get_tl] at hc
        exact hQ _ _ ⟨c, hc, rfl⟩ hI fun _ h => h
      · intro H1 ys hI hy hl hr
        have e : ys = (z.cps.toList.map fun c => decide (c ∈ a.cps.toList)).map V.bl := by
          rw [List.map_map]
          exact ys_map (by rw [hl, size_tl]) hr
        subst e
        walk_at "ss"
        refine ⟨D, _, rfl, SqL.of hy, ?_⟩
        rw [all_dec]
        exact q _ hI
    · walk_at "ssi"
      exact q _ (Same.refl H)
end

/-! ### texts of single signs -/
abbrev sg (c : Nat) : Str := ⟨#[c]⟩
theorem rising_sg : ∀ (cs : List Nat) (p : Nat), risingS (sg p) (cs.map sg) = true → cs.Pairwise (· ≤ ·) ∧ ∀ c ∈ cs, p ≤ c
  | [], _, _ => ⟨.nil, fun _ h => nomatch h⟩
  | c :: r, p, h => by
    have h' : (!PySem.Spec.ltCps [c] [p] && risingS (sg c) (r.map sg)) = true := h
    rw [Bool.and_eq_true] at h'
    obtain ⟨h1, h2⟩ := h'
    have h3 : ¬ c < p := by
      intro hc
      simp [PySem.Spec.ltCps, hc] at h1
    obtain ⟨h4, h5⟩ := rising_sg r c h2
    refine ⟨List.pairwise_cons.mpr ⟨h5, h4⟩, fun x hx => ?_⟩
    rcases List.mem_cons.mp hx with rfl | hx
    · omega
    · have := h5 x hx
      omega
theorem sorted_sg : ∀ (cs : List Nat), sortedS (cs.map sg) = true → cs.Pairwise (· ≤ ·)
  | [], _ => .nil
  | c :: r, h => by
    obtain ⟨h4, h5⟩ := rising_sg r c h
    exact List.pairwise_cons.mpr ⟨h5, h4⟩
theorem perm_sg {ys : List Str} {cs : List Nat} (h : ys.Perm (cs.map sg)) : ∃ ds : List Nat, ds.Perm cs ∧ ys = ds.map sg := by
  refine ⟨ys.map fun y => y.cps.toList.headD 0, ?_, ?_⟩
  · have h2 := h.map fun y => y.cps.toList.headD 0
    rw [List.map_map] at h2
    have e : ((fun y : Str => y.cps.toList.headD 0) ∘ sg) = id := rfl
    rw [e, List.map_id] at h2
    exact h2
  · rw [List.map_map]
    have : ∀ y ∈ ys, (sg ∘ fun y : Str => y.cps.toList.headD 0) y = y := fun y hy => by
      obtain ⟨c, -, rfl⟩ := List.mem_map.mp (h.mem_iff.mp hy)
      rfl
    conv => lhs; rw [← List.map_id ys]
    exact (List.map_congr_left fun y hy => (this y hy)).symm
theorem joinL_sg : ∀ cs : List Nat, TL.joinL [] (cs.map fun c => [c]) = cs
  | [] => rfl
  | [c] => rfl
  | c :: d :: r => by
    show [c] ++ ([] ++ TL.joinL [] ((d :: r).map fun c => [c])) = c :: d :: r
    rw [joinL_sg (d :: r)]
    rfl
theorem join_sg (cs : List Nat) : Txt.join (Str.ofString "") (cs.map sg) = ⟨cs.toArray⟩ := by
  apply TL.ext_tl
  rw [TL.join_eq, TL.tl_join, List.map_map]
  show TL.joinL [] (cs.map fun c => [c]) = _
  rw [joinL_sg]
theorem sum_sg : ∀ cs : List Nat, ((cs.map sg).map (·.length)).sum = cs.length
  | [] => rfl
  | c :: r => by
    show 1 + ((r.map sg).map (·.length)).sum = r.length + 1
    rw [sum_sg r]
    omega
theorem rise_lt {cs : List Nat} (h : cs.Pairwise (· ≤ ·)) (n : cs.Nodup) : cs.Pairwise (· < ·) := by
  have h2 := List.pairwise_and_iff.mpr ⟨h, n⟩
  exact h2.imp fun ⟨a, b⟩ => Nat.lt_of_le_of_ne a b
theorem in_sg (c : Nat) (cs : List Nat) : inV (.str (sg c)) (cs.map fun c => V.str (sg c)) = decide (c ∈ cs) := by
  unfold inV
  rw [Bool.eq_iff_iff, List.any_map]
  simp only [List.any_eq_true, Function.comp, eqV, decide_eq_true_eq]
  constructor
  · rintro ⟨d, hd, e⟩
    have e2 : sg d = sg c := by simpa using e
    have e3 : d = c := by
      have := congrArg (fun z : Str => z.cps.toList) e2
      simpa using this
    rw [← e3]
    exact hd
  · intro h
    exact ⟨c, h, by simp⟩
theorem az_text : (Str.ofString "abcdefghijklmnopqrstuvwxyz").cps.toList = (List.range 26).map (97 + ·) := by decide +kernel
theorem az_at {i c : Nat} (h : (Str.ofString "abcdefghijklmnopqrstuvwxyz").cps[i]? = some c) : i < 26 ∧ c = 97 + i := by
  rw [get_tl, az_text, List.getElem?_map] at h
  by_cases hi : i < 26
  · rw [List.getElem?_range hi] at h
    exact ⟨hi, (Option.some.inj h).symm⟩
  · rw [List.getElem?_eq_none_iff.mpr (by simp; omega)] at h
    cases h
theorem az_size : (Str.ofString "abcdefghijklmnopqrstuvwxyz").cps.size = 26 := by decide +kernel
theorem az_len : (Str.ofString "abcdefghijklmnopqrstuvwxyz").length = 26 := by decide +kernel
theorem az_mem {c : Nat} (h : c ∈ (Str.ofString "abcdefghijklmnopqrstuvwxyz").cps.toList) : 97 ≤ c ∧ c ≤ 122 := by
  rw [az_text] at h
  obtain ⟨i, hi, rfl⟩ := List.mem_map.mp h
  have := List.mem_range.mp hi
  omega

section
variable {P : Program} {w : World} {K : PySem.W.Frag} {mg : Str → Option Value} {base : Heap}
/-- the letters that are left -/
def restOf (cs : List Nat) (i : Nat) : Option V := if 97 + i ∈ cs then none else some (.str (sg (97 + i)))
theorem rest_mem {cs : List Nat} {v : V} (h : v ∈ (List.range 26).filterMap (restOf cs)) : ∃ c, v = .str (sg c) ∧ c ∉ cs ∧ 97 ≤ c ∧ c ≤ 122 := by
  obtain ⟨i, hi, e⟩ := List.mem_filterMap.mp h
  have := List.mem_range.mp hi
  unfold restOf at e
  split at e
  · cases e
  · rename_i hn
    exact ⟨97 + i, (Option.some.inj e).symm, hn, by omega, by omega⟩
theorem rest_len {cs : List Nat} (hl : cs.length ≤ 3) : 0 < ((List.range 26).filterMap (restOf cs)).length ∧ ((List.range 26).filterMap (restOf cs)).length ≤ 26 := by
  have h2 := List.length_filterMap_le (restOf cs) (List.range 26)
  rw [List.length_range] at h2
  refine ⟨?_, h2⟩
  rw [List.length_pos_iff]
  intro e
  have h3 : ∀ i < 26, 97 + i ∈ cs := fun i hi => by
    by_cases hm : 97 + i ∈ cs
    · exact hm
    · have : V.str (sg (97 + i)) ∈ (List.range 26).filterMap (restOf cs) := List.mem_filterMap.mpr ⟨i, List.mem_range.mpr hi, by unfold restOf; rw [if_neg hm]⟩
      rw [e] at this
      cases this
  have m0 := h3 0 (by decide)
  have m1 := h3 1 (by decide)
  have m2 := h3 2 (by decide)
  have m3 := h3 3 (by decide)
  clear h3 e h2
  match cs, hl, m0, m1, m2, m3 with
  | [], _, m0, _, _, _ => simp at m0
  | [a], _, m0, m1, _, _ =>
    simp at m0 m1
    omega
  | [a, b], _, m0, m1, m2, _ =>
    simp at m0 m1 m2
    omega
  | [a, b, c], _, m0, m1, m2, m3 =>
    simp at m0 m1 m2 m3
    omega
  | _ :: _ :: _ :: _ :: _, h, _, _, _, _ =>
    simp at h
def spSigns : Sp := fun vs H Q _ => ∃ (b l : Addr), vs = [.ref b] ∧ BagAt b l H ∧ ∀ z H', Alpha z.cps.toList → BagAt b l H' → Kp b H H' → Q (.str z) H'
theorem ok_signs (T : Env K mg) : FnOk P w K mg base CX0 3 T.f_signs T.fd_signs ["_law_bag_here"] spSigns := by
  refine T.F_signs.ok sc_signs (fun vs H Q E h => ?_) (fun cdv A outer s H vs Q E hr h => ⟨_, ((pss_cons (ps_set (i := 1) sc_signs.nd rfl (.inl rfl) (pe_op op_add pe_int (pe_call (ok_of T) (hr.mono (by decide)) (by rfl) T.g_of T.F_of.kp T.b_of .nil pass0 (pa_cons (pv 0) (pa_cons (pe_lst (pa_cons pe_int (pa_cons pe_int (pa_cons pe_int (pa_cons pe_int (pa_cons pe_int (pa_cons pe_int pa_nil))))))) pa_nil)))))
      (pss_cons (ps_set (i := 2) sc_signs.nd rfl (.inr rfl) (pe_lst pa_nil))
      (pss_cons (ps_for PassesOwn.never rfl (pi_range1 (by rfl) T.z_range (pa_cons (pv 1) pa_nil)) (pg_name (i := 3) sc_signs.nd rfl (.inl rfl))
      (pss_cons (ps_setLc (i := 4) (own := [("_law_sign", 5)]) (g := (gName 5)) (tt := (tTest (tOp (rIn K true) _ _))) rfl sc_signs.nd rfl rfl (sw_true rfl rfl rfl (by decide +kernel)) (pi_str pe_str) (blkOk_by (own := [("_law_sign", 5)]) (N := N_signs) (sc := defScope s_signs) (by decide +kernel)) (fun _ _ _ _ _ => (pg_name (i := 5) sc_signs.nd rfl (.inl rfl))) (fun _ _ _ _ _ => (pts_one (pt_cmpR op_notIn_seq (pv 5) (pv 2) (by rfl)))) (fun _ _ _ _ _ => (pv 5)))
      (pss_one (ps_expr (pe_bm PySem.F.plainAttrs_list PySem.F.slot_list_append PySem.F.type_list_append mt_append (pv 2) (pa_cons (pe_ix ix_list (pv 4) (pe_call (ok_of T) (hr.mono (by decide)) (by rfl) T.g_of T.F_of.kp T.b_of .nil pass0 (pa_cons (pv 0) (pa_cons (pe_lst (pa_cons pe_int (pa_cons pe_int (pa_cons pe_int (pa_cons (pe_call (ok_pull T) (hr.mono (by decide)) (by rfl) T.g_pull T.F_pull.kp T.b_pull .nil pass0 (pa_cons (pv 0) (pa_cons (pe_callB call_len_seq (by rfl) T.z_len (by decide +kernel) (pa_cons (pv 4) pa_nil)) pa_nil))) pa_nil))))) pa_nil))) (fun _ _ => rfl)) pa_nil))))))
      (pss_one (ps_ret (pe_join pe_str (pe_callB cr_sortedS (by rfl) T.z_sorted (by decide +kernel) (pa_cons (pv 2) pa_nil))))))))), ?_⟩)
  · obtain ⟨b, l, rfl, _⟩ := h
    rfl
  · obtain ⟨b, l, rfl, B, q⟩ := h
    walk_at "ss"
    intro p hp
    have s0 : Same H (upd H p (.lst [.int 0, .int 1, .int 1, .int 1, .int 2, .int 3])) := same_upd hp
    refine ⟨b, l, _, rfl, B.same s0, .inl ⟨p, _, rfl, B.nb hp, .inl (SqL.of upd_same), by simp, by simp, fun v H1 hv B1 k1 => ?_⟩⟩
    obtain ⟨n, rfl, n0, n3⟩ : ∃ n : Int, v = .int n ∧ 0 ≤ n ∧ n ≤ 3 := by
      simp at hv
      rcases hv with rfl | rfl | rfl | rfl | rfl | rfl <;> exact ⟨_, rfl, by decide, by decide⟩
    have k2 : Kp b H H1 := (Kp.same s0).trans k1
    walk_at "ss"
    intro F hF
    have hFH : H F = none := k2.free B1 hF
    have nFb : F ≠ b := B1.nb hF
    have nFl : F ≠ l := B1.nl hF
    have k3 : Kp b H (upd H1 F (.lst [])) := k2.mut hFH
    refine ⟨_, rfl, _, rfl, by omega, by omega, ?_⟩
    refine for_it walk_range (fun i σ H' => Stp (∃ (y3 y4 y5 : Option V) (cs : List Nat), σ = [some (.ref b), some (.int (1 + n)), some (.ref F), y3, y4, y5] ∧ BagAt b l H' ∧ Kp b H H' ∧
      H' F = some (.lst (cs.map fun c => V.str (sg c))) ∧ cs.length = i ∧ cs.Nodup ∧ ∀ c ∈ cs, 97 ≤ c ∧ c ≤ 122))
      (.mk ⟨none, none, none, [], rfl, (B1.mut nFb nFl), k3, upd_same, rfl, List.nodup_nil, fun _ h => nomatch h⟩) (fun _ _ _ _ _ => trivial) ?_ ?_
    · rintro i x σ H2 H3 hi hP ⟨rfl, rfl⟩
      obtain ⟨y3, y4, y5, cs, rfl, B2, k4, hcs, hlen, hnd, hc⟩ := hP.of
      walk_at "ss"
      intro D hD
      refine lc_fil walk_str (fun H' => Same H3 H') (restOf cs) (by rw [az_size]; decide) (same_upd hD) (fun _ _ => trivial) (fun _ _ h => same_mut h hD) ?_ ?_
      · rintro i2 x H4 H5 Q1 Qn hlt hI ⟨rfl, c, hcz, rfl⟩ - hQ hN
        obtain ⟨hi26, rfl⟩ := az_at hcz
        walk_at "ss"
        refine ⟨F, _, rfl, .inl (SqL.of (hI _ _ hcs)), rfl, by simp [flatV], ?_⟩
        rw [in_sg]
        walk_at "ss"
        refine ite2 (fun e => ?_) (fun e => ?_)
        · have e2 : 97 + i2 ∉ cs := by simpa using e
          walk_at "ss"
          exact hQ _ _ (by unfold restOf; rw [if_neg e2]) hI (fun _ h => h)
        · have e2 : 97 + i2 ∈ cs := by simpa using e
          exact hN _ (by unfold restOf; rw [if_pos e2]) hI (fun _ h => h)
      · intro H4 hI hy
        rw [az_size] at hy
        obtain ⟨r0, r1⟩ := rest_len (cs := cs) (by omega)
        have B4 := B2.same hI
        walk_at "ss"
        refine ⟨.inl ⟨rfl, _, SqL.of (hI _ _ hcs)⟩, ?_⟩
        walk_at "ss"
        refine ⟨D, _, rfl, .inl (SqL.of hy), ?_⟩
        refine ⟨b, l, _, rfl, B4, by omega, by omega, fun k H5 k0 k1 B5 kp5 => ?_⟩
        walk_at "ss"
        intro p2 hp2
        have s6 : Same H5 (upd H5 p2 (.lst [.int 0, .int 0, .int 0, .int k])) := same_upd hp2
        refine ⟨b, l, _, rfl, B5.same s6, .inl ⟨p2, _, rfl, B5.nb hp2, .inl (SqL.of upd_same), by simp, by simp, fun v H7 hv B7 k7 => ?_⟩⟩
        obtain ⟨j, rfl, j0, j1⟩ : ∃ j : Int, v = .int j ∧ 0 ≤ j ∧ j < ((List.range 26).filterMap (restOf cs)).length := by
          simp at hv
          rcases hv with rfl | rfl
          · exact ⟨_, rfl, by omega, by omega⟩
          · exact ⟨_, rfl, k0, k1⟩
        have k47 : Kp b H4 H7 := kp5.trans ((Kp.same s6).trans k7)
        have nD : D ≠ b := B2.nb hD
        obtain ⟨u, hu, hm⟩ := at_in j0 j1
        obtain ⟨c, rfl, hcn, hc1, hc2⟩ := rest_mem hm
        refine ⟨D, _, j, _, rfl, rfl, SqL.of (k47 _ _ hy nD), hu, ?_⟩
        have hF7 : H7 F = some (.lst (cs.map fun c => V.str (sg c))) := k47 _ _ (hI _ _ hcs) nFb
        refine ⟨F, _, _, rfl, rfl, hF7, szl (by rw [List.length_map]; omega), ?_⟩
        refine .mk ⟨_, _, _, cs ++ [c], rfl, B7.mut nFb nFl, ((k4.trans (.same hI)).trans k47).mut hFH, ?_, by simp [hlen], ?_, ?_⟩
        · rw [upd_same, List.map_append]
          rfl
        · rw [List.nodup_append]
          refine ⟨hnd, by simp, fun x hx y hy => ?_⟩
          simp at hy
          rw [hy]
          intro e
          exact hcn (e ▸ hx)
        · intro x hx
          rcases List.mem_append.mp hx with hx | hx
          · exact hc x hx
          · simp at hx
            rw [hx]
            exact ⟨hc1, hc2⟩
    · intro σ H2 hP
      obtain ⟨y3, y4, y5, cs, rfl, B2, k4, hcs, hlen, hnd, hc⟩ := hP.of
      walk_at "ss"
      refine ⟨F, cs.map sg, rfl, SqL.of (by rw [List.map_map]; exact hcs), by rw [List.length_map]; omega, fun ys p2 perm srt hp2 => ?_⟩
      obtain ⟨ds, hd, rfl⟩ := perm_sg perm
      have hr := rise_lt (sorted_sg ds srt) (hd.nodup_iff.mpr hnd)
      have hln : ds.length = cs.length := hd.length_eq
      refine ⟨_, p2, ds.map sg, rfl, rfl, .inl (SqL.of upd_same), ?_, ?_⟩
      · rw [sum_sg, List.length_map]
        have : (Str.ofString "").length = 0 := rfl
        rw [this]
        omega
      · rw [join_sg]
        refine q _ _ ⟨?_, ?_, ?_, ?_⟩ (B2.same (same_upd hp2)) (k4.trans (.same (same_upd hp2)))
        · simp
          omega
        · simp
          omega
        · intro c hm
          simp at hm
          exact hc c (hd.mem_iff.mp hm)
        · simpa using hr
end

section
variable {P : Program} {w : World} {K : PySem.W.Frag} {mg : Str → Option Value} {base : Heap}
def spText : Sp := fun vs H Q _ => ∃ (b l : Addr) (z : Str) (n : Int), vs = [.ref b, .str z, .int n] ∧ BagAt b l H ∧ z.length ≠ 0 ∧ z.length ≤ 100000 ∧ 0 ≤ n ∧ n ≤ 100000 ∧
  ∀ (cs : List Nat) H', (cs.length : Int) = n → (∀ c ∈ cs, c ∈ z.cps.toList) → BagAt b l H' → Kp b H H' → Q (.str ⟨cs.toArray⟩) H'
theorem ok_text (T : Env K mg) : FnOk P w K mg base CX0 3 T.f_text T.fd_text ["_law_bag_here", "_law_signs_here", "_law_size"] spText := by
  refine T.F_text.ok sc_text (fun vs H Q E h => ?_) (fun cdv A outer s H vs Q E hr h => ⟨_, ((pss_one (ps_ret (pe_join pe_str (pe_lc (own := [("_law_k", 3)]) (g := (gName 3)) (tt := tYes) rfl sc_text.nd (pi_range1 (by rfl) T.z_range (pa_cons (pv 2) pa_nil)) (blkOk_by (own := [("_law_k", 3)]) (N := N_text) (sc := defScope s_text) (by decide +kernel)) (fun _ _ _ _ _ => (pg_name (i := 3) sc_text.nd rfl (.inl rfl))) (fun _ _ _ _ _ => pts_nil) (fun _ _ _ _ _ => (pe_call (ok_of T) (hr.mono (by decide)) (by rfl) T.g_of T.F_of.kp T.b_of .nil pass0 (pa_cons (pv 0) (pa_cons (pv 1) pa_nil))))))))), ?_⟩)
  · obtain ⟨b, l, z, n, rfl, _⟩ := h
    rfl
  · obtain ⟨b, l, z, n, rfl, B, z0, hz, n0, n1, q⟩ := h
    walk_at "ss"
    intro D hD
    have nDb : D ≠ b := B.nb hD
    have nDl : D ≠ l := B.nl hD
    refine lc_gen walk_range (fun H' => BagAt b l H' ∧ Kp b H H') (fun i y => ∃ c, c ∈ z.cps.toList ∧ y = V.str (sg c)) (by omega) ⟨B.mut nDb nDl, Kp.same (same_upd hD)⟩ (fun _ _ => trivial) (fun _ _ h => ⟨h.1.mut nDb nDl, h.2.mut hD⟩) ?_ ?_
    · rintro i x H1 H2 Q1 hlt hI ⟨rfl, rfl⟩ - hQ
      walk_at "ss"
      exact ⟨b, l, _, rfl, hI.1, .inr ⟨z, rfl, z0, hz, fun c H4 hc B4 k4 => hQ _ _ ⟨c, hc, rfl⟩ ⟨B4, hI.2.trans k4⟩ fun o ho => k4 _ _ ho nDb⟩⟩
    · intro H1 ys hI hy hl hr
      obtain ⟨cs, rfl, hl2, hm⟩ := pick_map (P := fun c => c ∈ z.cps.toList) (f := fun c => V.str (sg c)) hr
      walk_at "ss"
      refine ⟨_, D, cs.map sg, rfl, rfl, .inl (SqL.of (by rw [List.map_map]; exact hy)), ?_, ?_⟩
      · rw [sum_sg, List.length_map]
        have : (Str.ofString "").length = 0 := rfl
        rw [this]
        omega
      · rw [join_sg]
        exact q cs _ (by omega) hm hI.1 hI.2
end

theorem depth_all : ∀ cs : List Nat, PyData.depthAll (cs.map fun c => PyData.str (sg c)) = 0
  | [] => rfl
  | c :: r => by
    show max 0 (PyData.depthAll (r.map fun c => PyData.str (sg c))) = 0
    rw [depth_all r]
    rfl
theorem strok : ∀ c < 123, PyData.strOk (sg c) = true := by decide +kernel
theorem lay_all : ∀ cs : List Nat, (∀ c ∈ cs, c < 123) → PyData.canLayAll0 (cs.map fun c => PyData.str (sg c)) = true
  | [], _ => rfl
  | c :: r, h => by
    show (PyData.strOk (sg c) && PyData.canLayAll0 (r.map fun c => PyData.str (sg c))) = true
    rw [strok c (h c (List.mem_cons_self ..)), lay_all r fun d hd => h d (List.mem_cons_of_mem _ hd)]
    rfl
theorem dp_all {K : PySem.W.Frag} {H : Hp} : ∀ cs : List Nat, DpAll K H (cs.map fun c => V.str (sg c)) (cs.map fun c => PyData.str (sg c))
  | [] => .nil
  | c :: r => .cons (.str _) (dp_all r)
section
variable {P : Program} {w : World} {K : PySem.W.Frag} {mg : Str → Option Value} {base : Heap}
def spLaw (K : PySem.W.Frag) : Sp := fun vs H Q _ => ∃ (a : Addr) (ns : List Int), vs = [.ref a] ∧ SqL K H a (ns.map V.int) ∧ ns.length ≤ 63 ∧ ∀ H', Q (.bl true) H'
theorem ok_law (T : Env K mg) : FnOk P w K mg base CX0 5 T.f_law T.fd_law ["_law_script"] (spLaw K) := by
  refine T.F_law.ok sc_law (fun vs H Q E h => ?_) (fun cdv A outer s H vs Q E hr h => ⟨_, ((pss_cons (ps_set (i := 1) sc_law.nd rfl (.inr rfl) (pe_call (ok_bag T) (hr.mono (by decide)) (by rfl) T.g_bag T.F_bag.kp T.b_bag .nil pass0 (pa_cons (pv 0) pa_nil)))
      (pss_cons (ps_for PassesOwn.never rfl (pi_range1 (by rfl) T.z_range (pa_cons pe_int pa_nil)) (pg_name (i := 2) sc_law.nd rfl (.inl rfl))
      (pss_cons (ps_set (i := 3) sc_law.nd rfl (.inr rfl) (pe_call (ok_signs T) (hr.mono (by decide)) (by rfl) T.g_signs T.F_signs.kp T.b_signs .nil pass0 (pa_cons (pv 1) pa_nil)))
      (pss_cons (ps_setLc (i := 4) (own := [("_law_k", 10)]) (g := (gName 10)) (tt := tYes) rfl sc_law.nd rfl rfl (sw_true rfl rfl rfl (by decide +kernel)) (pi_range1 (by rfl) T.z_range (pa_cons (pe_call (ok_pull T) (hr.mono (by decide)) (by rfl) T.g_pull T.F_pull.kp T.b_pull .nil pass0 (pa_cons (pv 1) (pa_cons pe_int pa_nil))) pa_nil)) (blkOk_by (own := [("_law_k", 10)]) (N := N_law) (sc := defScope s_law) (by decide +kernel)) (fun _ _ _ _ _ => (pg_name (i := 10) sc_law.nd rfl (.inl rfl))) (fun _ _ _ _ _ => pts_nil) (fun _ _ _ _ _ => (pe_call (ok_of T) (hr.mono (by decide)) (by rfl) T.g_of T.F_of.kp T.b_of .nil pass0 (pa_cons (pv 1) (pa_cons pe_str pa_nil)))))
      (C8.pss_cut (ps_if (pt_cmpR op_gt (pe_call (ok_pull T) (hr.mono (by decide)) (by rfl) T.g_pull T.F_pull.kp T.b_pull .nil pass0 (pa_cons (pv 1) (pa_cons pe_int pa_nil))) pe_int (nomark _))
      (pss_one (ps_set (i := 4) sc_law.nd rfl (.inl rfl) (pe_callB cr_sortedS (by rfl) T.z_sorted (by decide +kernel) (pa_cons (pv 4) pa_nil))))
      pss_nil)
      (C8.pss_cut (ps_if (PW.pt (pw_and (pt_cmpR (op_neD hr.units) (pv 4) (pe_lst pa_nil) (nomark _)) (pw_and1 (pt_cmpR op_eq (pe_call (ok_pull T) (hr.mono (by decide)) (by rfl) T.g_pull T.F_pull.kp T.b_pull .nil pass0 (pa_cons (pv 1) (pa_cons pe_int pa_nil))) pe_int (nomark _)))))
      (pss_one (ps_asg (pe_call (ok_of T) (hr.mono (by decide)) (by rfl) T.g_of T.F_of.kp T.b_of .nil pass0 (pa_cons (pv 1) (pa_cons (pe_lst (pa_cons pe_str (pa_cons pe_str (pa_cons pe_str (pa_cons pe_str (pa_cons pe_str (pa_cons (pe_ix ix_list (pv 4) pe_int (fun _ _ => rfl)) pa_nil))))))) pa_nil))) (pg_sub (pv 4) (pe_call (ok_pull T) (hr.mono (by decide)) (by rfl) T.g_pull T.F_pull.kp T.b_pull .nil pass0 (pa_cons (pv 1) (pa_cons (pe_callB call_len_seq (by rfl) T.z_len (by decide +kernel) (pa_cons (pv 4) pa_nil)) pa_nil))) set_list)))
      pss_nil)
      (C8.pss_cut (ps_set (i := 5) sc_law.nd rfl (.inr rfl) (pe_join pe_str (pv 4)))
      (C8.pss_cut (ps_set (i := 6) sc_law.nd rfl (.inl rfl) (pe_and (pe_chain op_le op_le pe_int (pe_callB call_len_str (by rfl) T.z_len (by decide +kernel) (pa_cons (pv 5) pa_nil)) pe_int) (pe_one (pe_notT (pe_lc (own := [("_law_k", 10)]) (g := (gName 10)) rfl sc_law.nd (pi_range2 (by rfl) T.z_range (pa_cons pe_int (pa_cons (pe_callB call_len_str (by rfl) T.z_len (by decide +kernel) (pa_cons (pv 5) pa_nil)) pa_nil))) (blkOk_by (own := [("_law_k", 10)]) (N := N_law) (sc := defScope s_law) (by decide +kernel)) (fun _ _ _ _ _ => (pg_name (i := 10) sc_law.nd rfl (.inl rfl))) (fun _ _ _ _ _ => (pts_one (pt_cmpR op_le_str (pe_ix ix_str (pv 5) (pv 10) (fun _ _ => rfl)) (pe_ix ix_str (pv 5) (pe_op op_sub (pv 10) pe_int) (fun _ _ => rfl)) (nomark _)))) (fun _ _ _ _ _ => (pv 10)))))))
      (C8.pss_cut (ps_set (i := 6) sc_law.nd rfl (.inl rfl) (pe_and (pv 6) (pe_one (pe_notT (pe_lc (own := [("_law_sign", 11)]) (g := (gName 11)) rfl sc_law.nd (pi_str (pv 5)) (blkOk_by (own := [("_law_sign", 11)]) (N := N_law) (sc := defScope s_law) (by decide +kernel)) (fun _ _ _ _ _ => (pg_name (i := 11) sc_law.nd rfl (.inl rfl))) (fun _ _ _ _ _ => (pts_one (pt_not (pt_chain op_le_str op_le_str pe_str (pv 11) pe_str)))) (fun _ _ _ _ _ => (pv 11)))))))
      (C8.pss_cut (ps_if (pt_not (pt_val (pe_call (ok_same T 2) (hr.mono (by decide)) (by rfl) T.g_same T.F_same.kp T.b_same .nil pass0 (pa_cons (pe_lst (pa_cons (pe_call (ok_is_alphabet T) (hr.mono (by decide)) (by rfl) T.g_is_alphabet T.F_is_alphabet.kp T.b_is_alphabet .nil pass0 (pa_cons (pv 5) pa_nil)) (pa_cons (pe_call (ok_is_alphabet T) (hr.mono (by decide)) (by rfl) T.g_is_alphabet T.F_is_alphabet.kp T.b_is_alphabet .nil pass0 (pa_cons (pv 3) pa_nil)) pa_nil))) (pa_cons (pe_lst (pa_cons (pv 6) (pa_cons pe_bl pa_nil))) pa_nil)))))
      (pss_one (ps_ret pe_bl))
      pss_nil)
      (C8.pss_cut (ps_set (i := 7) sc_law.nd rfl (.inl rfl) (pe_op op_add_str (pe_call (ok_text T) (hr.mono (by decide)) (by rfl) T.g_text T.F_text.kp T.b_text .nil pass0 (pa_cons (pv 1) (pa_cons (pv 3) (pa_cons (pe_call (ok_pull T) (hr.mono (by decide)) (by rfl) T.g_pull T.F_pull.kp T.b_pull .nil pass0 (pa_cons (pv 1) (pa_cons pe_int pa_nil))) pa_nil)))) (pe_call (ok_of T) (hr.mono (by decide)) (by rfl) T.g_of T.F_of.kp T.b_of .nil pass0 (pa_cons (pv 1) (pa_cons (pe_lst (pa_cons pe_str (pa_cons pe_str (pa_cons pe_str (pa_cons (pv 5) (pa_cons pe_str (pa_cons (pe_ix ix_str (pv 3) pe_int (fun _ _ => rfl)) pa_nil))))))) pa_nil)))))
      (C8.pss_cut (ps_set (i := 8) sc_law.nd rfl (.inl rfl) (pe_notT (pe_lc (own := [("_law_sign", 11)]) (g := (gName 11)) rfl sc_law.nd (pi_str (pv 7)) (blkOk_by (own := [("_law_sign", 11)]) (N := N_law) (sc := defScope s_law) (by decide +kernel)) (fun _ _ _ _ _ => (pg_name (i := 11) sc_law.nd rfl (.inl rfl))) (fun _ _ _ _ _ => (pts_one (pt_cmpR op_notIn_sign (pv 11) (pv 3) (by rfl)))) (fun _ _ _ _ _ => (pv 11)))))
      (C8.pss_cut (ps_if (pt_not (pt_val (pe_call (ok_same T 2) (hr.mono (by decide)) (by rfl) T.g_same T.F_same.kp T.b_same .nil pass0 (pa_cons (pe_lst (pa_cons (pe_call (ok_is_word T) (hr.mono (by decide)) (by rfl) T.g_is_word T.F_is_word.kp T.b_is_word .nil pass0 (pa_cons (pv 3) (pa_cons (pv 7) pa_nil))) (pa_cons (pe_call (ok_is_word T) (hr.mono (by decide)) (by rfl) T.g_is_word T.F_is_word.kp T.b_is_word .nil pass0 (pa_cons (pv 3) (pa_cons pe_str pa_nil))) (pa_cons (pe_call (ok_is_word T) (hr.mono (by decide)) (by rfl) T.g_is_word T.F_is_word.kp T.b_is_word .nil pass0 (pa_cons (pv 3) (pa_cons (pv 3) pa_nil))) pa_nil)))) (pa_cons (pe_lst (pa_cons (pv 8) (pa_cons pe_bl (pa_cons pe_bl pa_nil)))) pa_nil)))))
      (pss_one (ps_ret pe_bl))
      pss_nil)
      (C8.pss_cut (ps_set (i := 9) sc_law.nd rfl (.inl rfl) (pe_call (ok_of T) (hr.mono (by decide)) (by rfl) T.g_of T.F_of.kp T.b_of .nil pass0 (pa_cons (pv 1) (pa_cons (pe_lst (pa_cons pe_non (pa_cons pe_bl (pa_cons pe_int (pa_cons (pe_un un_neg pe_int) (pa_cons (pe_lst (pa_cons (pe_ix ix_str (pv 3) pe_int (fun _ _ => rfl)) pa_nil)) (pa_cons (pe_tup (pa_cons (pe_ix ix_str (pv 3) pe_int (fun _ _ => rfl)) pa_nil)) (pa_cons (pe_lst (pa_cons pe_str pa_nil)) (pa_cons (pe_lst pa_nil) (pa_cons (pe_tup pa_nil) pa_nil)))))))))) pa_nil))))
      (pss_one (ps_if (pt_not (pt_val (pe_call (ok_same T 2) (hr.mono (by decide)) (by rfl) T.g_same T.F_same.kp T.b_same .nil pass0 (pa_cons (pe_lst (pa_cons (pe_call (ok_is_alphabet T) (hr.mono (by decide)) (by rfl) T.g_is_alphabet T.F_is_alphabet.kp T.b_is_alphabet .nil pass0 (pa_cons (pv 9) pa_nil)) (pa_cons (pe_call (ok_is_word T) (hr.mono (by decide)) (by rfl) T.g_is_word T.F_is_word.kp T.b_is_word .nil pass0 (pa_cons (pv 3) (pa_cons (pv 9) pa_nil))) (pa_cons (pe_call (ok_is_alphabet T) (hr.mono (by decide)) (by rfl) T.g_is_alphabet T.F_is_alphabet.kp T.b_is_alphabet .nil pass0 (pa_cons pe_str pa_nil)) pa_nil)))) (pa_cons (pe_lst (pa_cons pe_bl (pa_cons pe_bl (pa_cons pe_bl pa_nil)))) pa_nil)))))
      (pss_one (ps_ret pe_bl))
      pss_nil)))))))))))))))
      (pss_one (ps_ret pe_bl))))), ?_⟩)
  · obtain ⟨a, ns, rfl, _⟩ := h
    rfl
  · obtain ⟨a, ns, rfl, hS, hlen, q⟩ := h
    walk_at "ss"
    intro b l H1 hb0 hl0 B1 s1
    walk_at "ss"
    refine for_it walk_range (fun i σ H' => Stp (∃ y2 y3 y4 y5 y6 y7 y8 y9 y10 y11 : Option V, σ = [some (.ref a), some (.ref b), y2, y3, y4, y5, y6, y7, y8, y9, y10, y11] ∧ BagAt b l H'))
      (.mk ⟨_, _, _, _, _, _, _, _, _, _, rfl, B1⟩) (fun _ _ _ _ _ => trivial) ?_ ?_
    · rintro i x σ H2 H3 hi hP ⟨rfl, rfl⟩
      obtain ⟨y2, y3, y4, y5, y6, y7, y8, y9, y10, y11, rfl, B3⟩ := hP.of
      clear hP B1 s1 hS
      walk_at "ss"
      intro z H4 hA B4 k4
      have zl : z.length ≤ 4 ∧ 1 ≤ z.length := ⟨by rw [len_tl]; exact hA.2.1, by rw [len_tl]; exact hA.1⟩
      walk_at "ss"
      refine ⟨b, l, _, rfl, B4, by decide, by decide, fun n H5 n0 n1 B5 k5 => ?_⟩
      walk_at "ss"
      intro F hF
      have nFb : F ≠ b := B5.nb hF
      have nFl : F ≠ l := B5.nl hF
      refine lc_gen walk_range (fun H' => BagAt b l H' ∧ Kp b H5 H') (fun i y => ∃ c, (97 ≤ c ∧ c ≤ 122) ∧ y = V.str (sg c)) (by omega) ⟨B5.mut nFb nFl, Kp.same (same_upd hF)⟩ (fun _ _ => trivial) (fun _ _ h => ⟨h.1.mut nFb nFl, h.2.mut hF⟩) ?_ ?_
      · rintro i x H1 H2 Q1 hlt hI ⟨rfl, rfl⟩ - hQ
        walk_at "ss"
        exact ⟨b, l, _, rfl, hI.1, .inr ⟨_, rfl, by rw [az_len]; decide, by rw [az_len]; decide, fun c H4 hc B4 k4 => hQ _ _ ⟨c, az_mem hc, rfl⟩ ⟨B4, hI.2.trans k4⟩ fun o ho => k4 _ _ ho nFb⟩⟩
      · rintro H6 ys ⟨B6, k6⟩ hy hl hr
        obtain ⟨cs, rfl, hl2, hm⟩ := pick_map (P := fun c => 97 ≤ c ∧ c ≤ 122) (f := fun c => V.str (sg c)) hr
        have hcs : cs.length ≤ 6 := by omega
        -- if pull(3) > 0: found = sorted(found)
        refine ⟨fun σ' H' => Stp (∃ (F : Addr) (cs : List Nat), σ' = [some (.ref a), some (.ref b), some (.int (0 + (i : Nat))), some (.str z), some (.ref F), y5, y6, y7, y8, y9, y10, y11] ∧ BagAt b l H' ∧ F ≠ b ∧ F ≠ l ∧
          H' F = some (.lst (cs.map fun c => V.str (sg c))) ∧ cs.length ≤ 6 ∧ ∀ c ∈ cs, 97 ≤ c ∧ c ≤ 122), ?_, fun σ' H' hM => ?_⟩
        · have B6' := B6
          walk_at "ss"
          refine ⟨b, l, _, rfl, B6, by decide, by decide, fun n2 H7 m0 m1 B7 k7 => ?_⟩
          have hy7 := k7 _ _ hy nFb
          walk_at "ss"
          refine ite2 (fun _ => ?_) (fun _ => ?_)
          · walk_at "ss"
            refine ⟨F, cs.map sg, rfl, SqL.of (by rw [List.map_map]; exact hy7), by rw [List.length_map]; omega, fun ys p2 perm srt hp2 => ?_⟩
            obtain ⟨ds, hd, rfl⟩ := perm_sg perm
            refine .mk ⟨p2, ds, rfl, B7.same (same_upd hp2), B7.nb hp2, B7.nl hp2, ?_, by rw [hd.length_eq]; exact hcs, fun c h => hm c (hd.mem_iff.mp h)⟩
            rw [upd_same, List.map_map]
            rfl
          · exact .mk ⟨F, cs, rfl, B7, nFb, nFl, hy7, hcs, hm⟩
        · obtain ⟨F, cs, rfl, B7, nFb, nFl, hF7, hcs, hm⟩ := hM.of
          clear hM
          refine ⟨fun σ' H' => Stp (∃ (cs : List Nat), σ' = [some (.ref a), some (.ref b), some (.int (0 + (i : Nat))), some (.str z), some (.ref F), y5, y6, y7, y8, y9, y10, y11] ∧ BagAt b l H' ∧
            H' F = some (.lst (cs.map fun c => V.str (sg c))) ∧ cs.length ≤ 6), ?_, fun σ' H' hM => ?_⟩
          · walk_at "ss"
            intro p hp
            have s8 : Same H' (upd H' p (.lst [])) := same_upd hp
            refine ⟨.list (cs.map fun c => PyData.str (sg c)), .list [], .lst (SqL.of (s8 _ _ hF7)) (dp_all cs), .lst (SqL.of upd_same) .nil, ?_, by decide, ?_⟩
            · show (PyData.canLayAll0 (cs.map fun c => PyData.str (sg c)) && decide (PyData.depthAll (cs.map fun c => PyData.str (sg c)) + 1 ≤ 64)) = true
              rw [lay_all cs fun c h => by have := hm c h; omega, depth_all]
              rfl
            walk_at "ss"
            refine ite2 (fun e => ?_) (fun e => ?_)
            · have hne : cs ≠ [] := by
                rintro rfl
                exact absurd e (by decide)
              walk_at "ss"
              refine ⟨b, l, _, rfl, B7.same s8, by decide, by decide, fun n2 H8 m0 m1 B8 k8 => ?_⟩
              have hF8 := k8 _ _ (s8 _ _ hF7) nFb
              walk_at "ss"
              refine ite2 (fun _ => ?_) (fun _ => ?_)
              · walk_at "ss"
                obtain ⟨c0, r0, rfl⟩ : ∃ c0 r0, cs = c0 :: r0 := by
                  cases cs with
                  | nil => exact absurd rfl hne
                  | cons c0 r0 => exact ⟨c0, r0, rfl⟩
                refine ⟨_, _, _, _, rfl, rfl, SqL.of hF8, atI_nat (j := 0) rfl, ?_⟩
                walk_at "ss"
                intro p2 hp2
                have s9 : Same H8 _ := same_upd (o := .lst [.str (sg 65), .str (sg 49), .str (sg 32), .str (sg 95), .str (sg 10), .str (sg c0)]) hp2
                refine ⟨b, l, _, rfl, B8.same s9, .inl ⟨p2, _, rfl, B8.nb hp2, .inl (SqL.of upd_same), by simp, by simp, fun v H9 hv B9 k9 => ?_⟩⟩
                obtain ⟨c, rfl⟩ : ∃ c, v = V.str (sg c) := by
                  simp only [List.mem_cons, List.not_mem_nil, or_false] at hv
                  rcases hv with rfl | rfl | rfl | rfl | rfl | rfl <;> exact ⟨_, rfl⟩
                have hF9 := k9 _ _ (s9 _ _ hF8) nFb
                walk_at "ss"
                refine ⟨F, _, rfl, .inl (SqL.of hF9), b, l, _, rfl, B9, by simp, by simp at hcs ⊢; omega, fun k H10 p0 p1 B10 k10 => ?_⟩
                have hF10 := k10 _ _ hF9 nFb
                refine ⟨F, _, k, _, rfl, rfl, hF10, ixN_in p0 p1, ?_⟩
                refine .mk ⟨(c0 :: r0).set k.toNat c, rfl, B10.mut nFb nFl, ?_, by rw [List.length_set]; exact hcs⟩
                rw [upd_same, List.map_set]
              · exact .mk ⟨cs, rfl, B8, hF8, hcs⟩
            · walk_at "ss"
              exact .mk ⟨cs, rfl, B7.same s8, s8 _ _ hF7, hcs⟩
          · obtain ⟨cs, rfl, B8, hF8, hcs⟩ := hM.of
            clear hM
            have tl_ : (⟨cs.toArray⟩ : Str).length = cs.length := by simp [Str.length]
            refine ⟨fun σ' H' => Stp (σ' = [some (.ref a), some (.ref b), some (.int (0 + (i : Nat))), some (.str z), some (.ref F), some (.str ⟨cs.toArray⟩), y6, y7, y8, y9, y10, y11] ∧ BagAt b l H'), ?_, fun σ' H' hM => ?_⟩
            · walk_at "ss"
              refine ⟨_, F, cs.map sg, rfl, rfl, .inl (SqL.of (by rw [List.map_map]; exact hF8)), ?_, ?_⟩
              · rw [sum_sg, List.length_map]
                have : (Str.ofString "").length = 0 := rfl
                rw [this]
                omega
              rw [join_sg]
              exact .mk ⟨rfl, B8⟩
            obtain ⟨rfl, B9⟩ := hM.of
            clear hM hF8 B8
            refine ⟨fun σ' H' => Stp (σ' = [some (.ref a), some (.ref b), some (.int (0 + (i : Nat))), some (.str z), some (.ref F), some (.str ⟨cs.toArray⟩), some (.bl (decide (1 ≤ cs.length ∧ cs.length ≤ 4 ∧ cs.Pairwise (· < ·)))), y7, y8, y9, y10, y11] ∧ BagAt b l H'), ?_, fun σ' H' hM => ?_⟩
            · have fin : ∀ (v : Bool) H', (v = true ↔ (1 ≤ cs.length ∧ cs.length ≤ 4 ∧ cs.Pairwise (· < ·))) → BagAt b l H' →
                  Stp ([some (V.ref a), some (.ref b), some (.int (0 + (i : Nat))), some (.str z), some (.ref F), some (.str ⟨cs.toArray⟩), some (.bl v), y7, y8, y9, y10, y11] = [some (.ref a), some (.ref b), some (.int (0 + (i : Nat))), some (.str z), some (.ref F), some (.str ⟨cs.toArray⟩), some (.bl (decide (1 ≤ cs.length ∧ cs.length ≤ 4 ∧ cs.Pairwise (· < ·)))), y7, y8, y9, y10, y11] ∧ BagAt b l H') := fun v H' hv B => by
                have e : v = decide (1 ≤ cs.length ∧ cs.length ≤ 4 ∧ cs.Pairwise (· < ·)) := by
                  rw [Bool.eq_iff_iff, hv]
                  simp
                rw [e]
                exact .mk ⟨rfl, B⟩
              walk_at "ss"
              refine ite2 (fun e => ?_) (fun e => ?_)
              · have e1 : (1 : Int) ≤ (⟨cs.toArray⟩ : Str).length := of_decide_eq_true e
                walk_at "ss"
                refine ite2 (fun e => ?_) (fun e => ?_)
                · have e2 : ((⟨cs.toArray⟩ : Str).length : Int) ≤ 4 := of_decide_eq_true e
                  walk_at "ss"
                  refine ⟨_, _, rfl, ⟨by decide, by decide, by omega, by omega⟩, ?_⟩
                  intro D hD
                  refine lc_fil walk_range (fun H2 => Same H' H2) (fun i => if cs.getD (i + 1) 0 ≤ cs.getD i 0 then some (V.int (1 + (i : Nat))) else none) (by omega) (same_upd hD) (fun _ _ => trivial) (fun _ _ h => same_mut h hD) ?_ ?_
                  · rintro i2 x H4 H5 Q1 Qn hlt hI ⟨rfl, rfl⟩ - hQ hN
                    have h1 : i2 + 1 < cs.length := by omega
                    have h0 : i2 < cs.length := by omega
                    have g0 := List.getElem?_eq_getElem h0
                    have g1 := List.getElem?_eq_getElem h1
                    walk_at "ss"
                    refine ⟨⟨cs.toArray⟩, _, _, rfl, rfl, sz (by omega), (show atI cs (1 + (i2 : Int)) = some cs[i2 + 1] by rw [show 1 + (i2 : Int) = ((i2 + 1 : Nat) : Int) by omega]; exact atI_nat g1), ?_⟩
                    walk_at "ss"
                    refine ⟨⟨cs.toArray⟩, _, _, rfl, rfl, sz (by omega), (show atI cs (1 + (i2 : Int) - 1) = some cs[i2] by rw [show 1 + (i2 : Int) - 1 = ((i2 : Nat) : Int) by omega]; exact atI_nat g0), ?_⟩
                    have d0 : cs.getD i2 0 = cs[i2] := by rw [List.getD_eq_getElem?_getD, g0]; rfl
                    have d1 : cs.getD (i2 + 1) 0 = cs[i2 + 1] := by rw [List.getD_eq_getElem?_getD, g1]; rfl
                    walk_at "ss"
                    refine ite2 (fun e => ?_) (fun e => ?_)
                    · have e3 : (!decide (([cs[i2]] : List Nat) < [cs[i2 + 1]])) = true := e
                      have e4 : cs[i2 + 1] ≤ cs[i2] := by simpa [lt1] using e3
                      walk_at "ss"
                      exact hQ _ _ (by rw [d0, d1, if_pos e4]) hI (fun _ h => h)
                    · have e3 : ¬ (!decide (([cs[i2]] : List Nat) < [cs[i2 + 1]])) = true := e
                      have e4 : ¬ cs[i2 + 1] ≤ cs[i2] := by simpa [lt1] using e3
                      exact hN _ (by rw [d0, d1, if_neg e4]) hI (fun _ h => h)
                  · intro H4 hI hy
                    refine ⟨_, .inl ⟨_, SqL.of hy, rfl⟩, ?_⟩
                    rw [fil_empty]
                    refine fin _ _ ?_ (B9.same hI)
                    have en : ((((⟨cs.toArray⟩ : Str).length : Nat) : Int) - 1).toNat = cs.length - 1 := by omega
                    rw [en, decide_eq_true_eq]
                    have e5 := asc_none cs (by omega)
                    constructor
                    · intro h
                      refine ⟨by omega, by omega, e5.mp fun j hj hh => ?_⟩
                      have := h j hj
                      rw [if_pos hh] at this
                      cases this
                    · intro h j hj
                      rw [if_neg (e5.mpr h.2.2 j hj)]
                · have e2 : ¬ ((⟨cs.toArray⟩ : Str).length : Int) ≤ 4 := fun h => e (decide_eq_true h)
                  refine fin _ _ ?_ B9
                  constructor
                  · intro h
                    exact absurd h (by simp)
                  · intro h
                    omega
              · have e1 : ¬ (1 : Int) ≤ (⟨cs.toArray⟩ : Str).length := fun h => e (decide_eq_true h)
                walk_at "ss"
                refine fin _ _ ?_ B9
                constructor
                · intro h
                  exact absurd h (by simp)
                · intro h
                  omega
            obtain ⟨rfl, B10⟩ := hM.of
            clear hM B9
            refine ⟨fun σ' H' => Stp (σ' = [some (.ref a), some (.ref b), some (.int (0 + (i : Nat))), some (.str z), some (.ref F), some (.str ⟨cs.toArray⟩), some (.bl (decide (Alpha cs))), y7, y8, y9, y10, y11] ∧ BagAt b l H'), ?_, fun σ' H' hM => ?_⟩
            · have fin : ∀ (v : Bool) H', (v = true ↔ Alpha cs) → BagAt b l H' →
                  Stp ([some (V.ref a), some (.ref b), some (.int (0 + (i : Nat))), some (.str z), some (.ref F), some (.str ⟨cs.toArray⟩), some (.bl v), y7, y8, y9, y10, y11] = [some (.ref a), some (.ref b), some (.int (0 + (i : Nat))), some (.str z), some (.ref F), some (.str ⟨cs.toArray⟩), some (.bl (decide (Alpha cs))), y7, y8, y9, y10, y11] ∧ BagAt b l H') := fun v H' hv B => by
                have e : v = decide (Alpha cs) := by
                  rw [Bool.eq_iff_iff, hv]
                  simp
                rw [e]
                exact .mk ⟨rfl, B⟩
              walk_at "ss"
              refine ite2 (fun e => ?_) (fun e => ?_)
              · have e1 := of_decide_eq_true e
                walk_at "ss"
                intro D hD
                refine lc_fil walk_str (fun H2 => Same _ H2) (fun i => if 97 ≤ cs.getD i 0 ∧ cs.getD i 0 ≤ 122 then none else some (V.str (sg (cs.getD i 0)))) (by rw [size_tl, ← len_tl]; omega) (same_upd hD) (fun _ _ => trivial) (fun _ _ h => same_mut h hD) ?_ ?_
                · rintro i2 x H4 H5 Q1 Qn hlt hI ⟨rfl, c, hc, rfl⟩ - hQ hN
                  rw [get_tl] at hc
                  have d0 : cs.getD i2 0 = c := by
                    rw [List.getD_eq_getElem?_getD]
                    have hc2 : cs[i2]? = some c := hc
                    rw [hc2]
                    rfl
                  walk_at "ss"
                  refine ite2 (fun e5 => ?_) (fun e5 => ?_)
                  · have e6 : (!decide (([c] : List Nat) < [97])) = true := e5
                    have e7 : 97 ≤ c := by simpa [lt1] using e6
                    walk_at "ss"
                    refine ite2 (fun e8 => ?_) (fun e8 => ?_)
                    · have e9 : (!(!decide (([122] : List Nat) < [c]))) = true := e8
                      have e10 : ¬ c ≤ 122 := by simpa [lt1] using e9
                      walk_at "ss"
                      exact hQ _ _ (by rw [d0, if_neg (fun h => e10 h.2)]) hI fun _ h => h
                    · have e9 : ¬ (!(!decide (([122] : List Nat) < [c]))) = true := e8
                      have e10 : c ≤ 122 := by simpa [lt1] using e9
                      exact hN _ (by rw [d0, if_pos ⟨e7, e10⟩]) hI fun _ h => h
                  · have e6 : ¬ (!decide (([c] : List Nat) < [97])) = true := e5
                    have e7 : ¬ 97 ≤ c := by simpa [lt1] using e6
                    walk_at "ss"
                    exact hQ _ _ (by rw [d0, if_neg (fun h => e7 h.1)]) hI fun _ h => h
                · intro H4 hI hy
                  refine ⟨_, .inl ⟨_, SqL.of hy, rfl⟩, ?_⟩
                  rw [fil_empty]
                  refine fin _ _ ?_ (BagAt.same (by assumption) hI)
                  rw [decide_eq_true_eq, size_tl]
                  constructor
                  · intro h
                    refine ⟨e1.1, e1.2.1, fun c hc => ?_, e1.2.2⟩
                    obtain ⟨j, hj, rfl⟩ := List.getElem_of_mem hc
                    have h2 := h j hj
                    rw [List.getD_eq_getElem?_getD, List.getElem?_eq_getElem hj, Option.getD_some] at h2
                    by_cases hh : 97 ≤ cs[j] ∧ cs[j] ≤ 122
                    · exact hh
                    · rw [if_neg hh] at h2
                      cases h2
                  · intro h j hj
                    have hj2 : j < cs.length := hj
                    rw [List.getD_eq_getElem?_getD, List.getElem?_eq_getElem hj2, Option.getD_some, if_pos (h.2.2.1 _ (List.getElem_mem hj2))]
              · refine fin _ _ ?_ (by assumption)
                constructor
                · intro h
                  exact absurd h (by simp)
                · intro h
                  exact absurd (decide_eq_true ⟨h.1, h.2.1, h.2.2.2⟩) e
            obtain ⟨rfl, B11⟩ := hM.of
            clear hM B10
            -- if not same([is_alphabet(text), is_alphabet(signs)], [due, True]): return False
            refine ⟨fun σ' H' => Stp (σ' = [some (.ref a), some (.ref b), some (.int (0 + (i : Nat))), some (.str z), some (.ref F), some (.str ⟨cs.toArray⟩), some (.bl (decide (Alpha cs))), y7, y8, y9, y10, y11] ∧ BagAt b l H'), ?_, fun σ' H' hM => ?_⟩
            · walk_at "ss"
              intro H12 s12
              walk_at "ss"
              intro H13 s13
              walk_at "ss"
              intro p hp
              walk_at "ss"
              intro p2 hp2
              have s14 := same_upd (o := .lst [.bl (decide (Alpha cs)), .bl true]) hp2
              refine ⟨_, _, rfl, sm_lst (SqL.of (s14 _ _ upd_same)) (SqL.of ?_) (by simp) rfl, fun H15 s15 => ?_⟩
              · rw [upd_same, decide_eq_true hA]
              walk_at "ss"
              exact .mk ⟨rfl, (((B11.same s12).same s13).same (same_upd hp)).same s14 |>.same s15⟩
            obtain ⟨rfl, B12⟩ := hM.of
            clear hM B11
            obtain ⟨c0, hc0⟩ : ∃ c0, z.cps.toList[0]? = some c0 := ⟨_, List.getElem?_eq_getElem (by rw [← len_tl]; omega)⟩
            refine ⟨fun σ' H' => Stp (∃ u : Str, u.length ≤ 100 ∧ σ' = [some (.ref a), some (.ref b), some (.int (0 + (i : Nat))), some (.str z), some (.ref F), some (.str ⟨cs.toArray⟩), some (.bl (decide (Alpha cs))), some (.str u), y8, y9, y10, y11] ∧ BagAt b l H'), ?_, fun σ' H' hM => ?_⟩
            · walk_at "ss"
              refine ⟨b, l, _, rfl, B12, by decide, by decide, fun k H13 k0 k1 B13 k13 => ?_⟩
              walk_at "ss"
              refine ⟨b, l, z, k, rfl, B13, by omega, by omega, k0, by omega, fun ts H14 ht hm B14 k14 => ?_⟩
              walk_at "ss"
              refine ⟨z, 0, c0, rfl, rfl, sz (by omega), atI_nat (j := 0) hc0, ?_⟩
              walk_at "ss"
              intro p hp
              have s15 := same_upd (o := .lst [.str (Str.ofString ""), .str (Str.ofString ""), .str (Str.ofString "?"), .str ⟨cs.toArray⟩, .str (Str.ofString "A"), .str (sg c0)]) hp
              refine ⟨b, l, _, rfl, B14.same s15, .inl ⟨p, _, rfl, B14.nb hp, .inl (SqL.of upd_same), by simp, by simp, fun v H16 hv B16 k16 => ?_⟩⟩
              obtain ⟨u, rfl, hu⟩ : ∃ u : Str, v = .str u ∧ u.length ≤ 6 := by
                simp only [List.mem_cons, List.not_mem_nil, or_false] at hv
                rcases hv with rfl | rfl | rfl | rfl | rfl | rfl
                · exact ⟨_, rfl, by decide⟩
                · exact ⟨_, rfl, by decide⟩
                · exact ⟨_, rfl, by decide⟩
                · exact ⟨_, rfl, by omega⟩
                · exact ⟨_, rfl, by decide⟩
                · exact ⟨_, rfl, (by show 1 ≤ 6; decide)⟩
              have tk : (⟨ts.toArray⟩ : Str).length = ts.length := by simp [Str.length]
              refine ⟨_, _, rfl, rfl, sz (by omega), ?_⟩
              refine .mk ⟨_, ?_, rfl, B16⟩
              rw [len_tl, show ((⟨ts.toArray⟩ : Str) ++ u).cps.toList = ts ++ u.cps.toList from TL.tl_append _ _, List.length_append, ← len_tl u]
              omega
            obtain ⟨u, hu, rfl, B13⟩ := hM.of
            clear hM B12
            refine ⟨fun σ' H' => Stp (σ' = [some (.ref a), some (.ref b), some (.int (0 + (i : Nat))), some (.str z), some (.ref F), some (.str ⟨cs.toArray⟩), some (.bl (decide (Alpha cs))), some (.str u), some (.bl (decide (∀ c ∈ u.cps.toList, c ∈ z.cps.toList))), y9, y10, y11] ∧ BagAt b l H'), ?_, fun σ' H' hM => ?_⟩
            · walk_at "ss"
              intro D hD
              refine lc_fil walk_str (fun H2 => Same _ H2) (fun i => if u.cps.toList.getD i 0 ∈ z.cps.toList then none else some (V.str (sg (u.cps.toList.getD i 0)))) (by rw [size_tl, ← len_tl]; omega) (same_upd hD) (fun _ _ => trivial) (fun _ _ h => same_mut h hD) ?_ ?_
              · rintro i2 x H4 H5 Q1 Qn hlt hI ⟨rfl, c, hc, rfl⟩ - hQ hN
                rw [get_tl] at hc
                have d0 : u.cps.toList.getD i2 0 = c := by
                  rw [List.getD_eq_getElem?_getD, hc]
                  rfl
                walk_at "ss"
                refine ite2 (fun e => ?_) (fun e => ?_)
                · have e2 : c ∉ z.cps.toList := by simpa using e
                  walk_at "ss"
                  exact hQ _ _ (by rw [d0, if_neg e2]) hI fun _ h => h
                · have e2 : c ∈ z.cps.toList := by simpa using e
                  exact hN _ (by rw [d0, if_pos e2]) hI fun _ h => h
              · intro H4 hI hy
                refine ⟨_, .inl ⟨_, SqL.of hy, rfl⟩, ?_⟩
                rw [fil_empty]
                have ev : (decide (∀ j < u.cps.size, (if u.cps.toList.getD j 0 ∈ z.cps.toList then none else some (V.str (sg (u.cps.toList.getD j 0)))) = none)) = decide (∀ c ∈ u.cps.toList, c ∈ z.cps.toList) := by
                  rw [Bool.eq_iff_iff, decide_eq_true_eq, decide_eq_true_eq, size_tl]
                  constructor
                  · intro h c hc
                    obtain ⟨j, hj, rfl⟩ := List.getElem_of_mem hc
                    have h2 := h j hj
                    rw [List.getD_eq_getElem?_getD, List.getElem?_eq_getElem hj, Option.getD_some] at h2
                    by_cases hh : u.cps.toList[j] ∈ z.cps.toList
                    · exact hh
                    · rw [if_neg hh] at h2
                      cases h2
                  · intro h j hj
                    rw [List.getD_eq_getElem?_getD, List.getElem?_eq_getElem hj, Option.getD_some, if_pos (h _ (List.getElem_mem hj))]
                rw [ev]
                exact .mk ⟨rfl, B13.same hI⟩
            obtain ⟨rfl, B14⟩ := hM.of
            clear hM B13
            -- if not same([is_word(signs, late), is_word(signs, ''), is_word(signs, signs)], [inside, True, True]): return False
            refine ⟨fun σ' H' => Stp (σ' = [some (.ref a), some (.ref b), some (.int (0 + (i : Nat))), some (.str z), some (.ref F), some (.str ⟨cs.toArray⟩), some (.bl (decide (Alpha cs))), some (.str u), some (.bl (decide (∀ c ∈ u.cps.toList, c ∈ z.cps.toList))), y9, y10, y11] ∧ BagAt b l H'), ?_, fun σ' H' hM => ?_⟩
            · walk_at "ss"
              refine ⟨z, _, rfl, .inl ⟨u, rfl, by omega, fun H15 s15 => ?_⟩⟩
              walk_at "ss"
              refine ⟨z, _, rfl, .inl ⟨_, rfl, by decide, fun H16 s16 => ?_⟩⟩
              walk_at "ss"
              refine ⟨z, _, rfl, .inl ⟨_, rfl, by omega, fun H17 s17 => ?_⟩⟩
              walk_at "ss"
              rw [show decide (∀ c ∈ (Str.ofString "").cps.toList, c ∈ z.cps.toList) = true from decide_eq_true (fun c h => nomatch (show c ∈ ([] : List Nat) from h)), show decide (∀ c ∈ z.cps.toList, c ∈ z.cps.toList) = true from decide_eq_true (fun c h => h)]
              intro p hp
              walk_at "ss"
              intro p2 hp2
              have s14 := same_upd (o := .lst [.bl (decide (∀ c ∈ u.cps.toList, c ∈ z.cps.toList)), .bl true, .bl true]) hp2
              refine ⟨_, _, rfl, sm_lst (SqL.of (s14 _ _ upd_same)) (SqL.of upd_same) (by simp) rfl, fun H18 s18 => ?_⟩
              walk_at "ss"
              exact .mk ⟨rfl, ((((B14.same s15).same s16).same s17).same (same_upd hp)).same s14 |>.same s18⟩
            obtain ⟨rfl, B15⟩ := hM.of
            clear hM B14
            refine ⟨fun σ' H' => Stp (∃ v, NoStr K H' v ∧ σ' = [some (.ref a), some (.ref b), some (.int (0 + (i : Nat))), some (.str z), some (.ref F), some (.str ⟨cs.toArray⟩), some (.bl (decide (Alpha cs))), some (.str u), some (.bl (decide (∀ c ∈ u.cps.toList, c ∈ z.cps.toList))), some v, y10, y11] ∧ BagAt b l H'), ?_, fun σ' H' hM => ?_⟩
            · walk_at "ss"
              refine ⟨z, 0, c0, rfl, rfl, sz (by omega), atI_nat (j := 0) hc0, ?_⟩
              walk_at "ss"
              intro p1 h1
              walk_at "ss"
              refine ⟨z, 0, c0, rfl, rfl, sz (by omega), atI_nat (j := 0) hc0, ?_⟩
              walk_at "ss"
              intro p2 h2
              walk_at "ss"
              intro p3 h3
              walk_at "ss"
              intro p4 h4
              walk_at "ss"
              intro p5 h5
              walk_at "ss"
              intro p6 h6
              have S1 := same_upd (o := .lst [.str (sg c0)]) h1
              have S2 := same_upd (o := .tup [.str (sg c0)]) h2
              have S3 := same_upd (o := .lst [.str (Str.ofString "ab")]) h3
              have S4 := same_upd (o := .lst []) h4
              have S5 := same_upd (o := .tup []) h5
              have S6 := same_upd (o := .lst [.non, .bl true, .int 3, .int (-1), .ref p1, .ref p2, .ref p3, .ref p4, .ref p5]) h6
              have C1 := B15.same S1
              have C2 := C1.same S2
              have C3 := C2.same S3
              have C4 := C3.same S4
              have C5 := C4.same S5
              have C6 := C5.same S6
              refine ⟨b, l, _, rfl, C6, .inl ⟨p6, _, rfl, C5.nb h6, .inl (SqL.of upd_same), by simp, by simp, fun v H9 hv B9 k9 => ?_⟩⟩
              have g1 := k9 _ _ (S6 _ _ (S5 _ _ (S4 _ _ (S3 _ _ (S2 _ _ upd_same))))) (B15.nb h1)
              have g2 := k9 _ _ (S6 _ _ (S5 _ _ (S4 _ _ (S3 _ _ upd_same)))) (C1.nb h2)
              have g3 := k9 _ _ (S6 _ _ (S5 _ _ (S4 _ _ upd_same))) (C2.nb h3)
              have g4 := k9 _ _ (S6 _ _ (S5 _ _ upd_same)) (C3.nb h4)
              have g5 := k9 _ _ (S6 _ _ upd_same) (C4.nb h5)
              refine .mk ⟨v, ?_, rfl, B9⟩
              simp only [List.mem_cons, List.not_mem_nil, or_false] at hv
              rcases hv with rfl | rfl | rfl | rfl | rfl | rfl | rfl | rfl | rfl
              · exact nostr_non
              · exact nostr_bl
              · exact nostr_int
              · exact nostr_int
              · exact nostr_lst g1
              · exact nostr_tup g2
              · exact nostr_lst g3
              · exact nostr_lst g4
              · exact nostr_tup g5
            obtain ⟨v, hv, rfl, B16⟩ := hM.of
            clear hM B15
            walk_at "ss"
            refine .inr ⟨hv, fun H17 s17 => ?_⟩
            walk_at "ss"
            refine ⟨z, _, rfl, .inr ⟨hv.same s17, fun H18 s18 => ?_⟩⟩
            walk_at "ss"
            intro H19 s19
            rw [show decide (Alpha (Str.ofString "").cps.toList) = false from decide_eq_false (fun h => absurd h.1 (by decide))]
            walk_at "ss"
            intro p hp
            walk_at "ss"
            intro p2 hp2
            have s14 := same_upd (o := .lst [.bl false, .bl false, .bl false]) hp2
            refine ⟨_, _, rfl, sm_lst (SqL.of (s14 _ _ upd_same)) (SqL.of upd_same) (by simp) rfl, fun H20 s20 => ?_⟩
            walk_at "ss"
            exact .mk ⟨_, _, _, _, _, _, _, _, _, _, rfl, ((((B16.same s17).same s18).same s19).same (same_upd hp)).same s14 |>.same s20⟩
    · intro σ H2 hP
      exact q _
end

theorem all_mk {l : PySem.W.OpenLaw} {w : World} {K : PySem.W.Frag} {h : Heap} {mg : Str → Option Value} {fa : Addr} (X : K.In h) (G : h.Ns mainGlobals mg) (hfa : mg "law" = some (.ref fa))
    {od_bag an_bag : Option Addr} {sl_bag : Array (Option Value)} {oc_bag kV_bag dc_bag pm_bag cd_bag ct_bag : Value} {f_bag : Addr}
    {od_pull an_pull : Option Addr} {sl_pull : Array (Option Value)} {oc_pull kV_pull dc_pull pm_pull cd_pull ct_pull : Value} {f_pull : Addr}
    {od_of an_of : Option Addr} {sl_of : Array (Option Value)} {oc_of kV_of dc_of pm_of cd_of ct_of : Value} {f_of : Addr}
    {od_same an_same : Option Addr} {sl_same : Array (Option Value)} {oc_same kV_same dc_same pm_same cd_same ct_same : Value} {f_same : Addr}
    {od_is_alphabet an_is_alphabet : Option Addr} {sl_is_alphabet : Array (Option Value)} {oc_is_alphabet kV_is_alphabet dc_is_alphabet pm_is_alphabet cd_is_alphabet ct_is_alphabet : Value} {f_is_alphabet : Addr}
    {od_is_word an_is_word : Option Addr} {sl_is_word : Array (Option Value)} {oc_is_word kV_is_word dc_is_word pm_is_word cd_is_word ct_is_word : Value} {f_is_word : Addr}
    {od_signs an_signs : Option Addr} {sl_signs : Array (Option Value)} {oc_signs kV_signs dc_signs pm_signs cd_signs ct_signs : Value} {f_signs : Addr}
    {od_text an_text : Option Addr} {sl_text : Array (Option Value)} {oc_text kV_text dc_text pm_text cd_text ct_text : Value} {f_text : Addr}
    {od_law an_law : Option Addr} {sl_law : Array (Option Value)} {oc_law kV_law dc_law pm_law cd_law ct_law : Value} {f_law : Addr}
    {t_MOST_LETTERS : Tok}
    (a_bag : PySem.W.nsIn K mainGlobals "_law_bag" = some (some (.ref f_bag))) (l_bag : K.lookup f_bag = some ⟨oc_bag, od_bag, .func (PySem.W.fnOf "_law_bag" "_law_bag" (defArgs s_bag) (defBody s_bag) (defScope s_bag) .none kV_bag dc_bag pm_bag an_bag cd_bag ct_bag), sl_bag⟩) (c_bag : PySem.W.codeIn K cd_bag "_law_bag" = true) (k_bag : PySem.W.keepIn K (.ref f_bag) = true)
    (a_pull : PySem.W.nsIn K mainGlobals "_law_pull" = some (some (.ref f_pull))) (l_pull : K.lookup f_pull = some ⟨oc_pull, od_pull, .func (PySem.W.fnOf "_law_pull" "_law_pull" (defArgs s_pull) (defBody s_pull) (defScope s_pull) .none kV_pull dc_pull pm_pull an_pull cd_pull ct_pull), sl_pull⟩) (c_pull : PySem.W.codeIn K cd_pull "_law_pull" = true) (k_pull : PySem.W.keepIn K (.ref f_pull) = true)
    (a_of : PySem.W.nsIn K mainGlobals "_law_of" = some (some (.ref f_of))) (l_of : K.lookup f_of = some ⟨oc_of, od_of, .func (PySem.W.fnOf "_law_of" "_law_of" (defArgs s_of) (defBody s_of) (defScope s_of) .none kV_of dc_of pm_of an_of cd_of ct_of), sl_of⟩) (c_of : PySem.W.codeIn K cd_of "_law_of" = true) (k_of : PySem.W.keepIn K (.ref f_of) = true)
    (a_same : PySem.W.nsIn K mainGlobals "_law_same" = some (some (.ref f_same))) (l_same : K.lookup f_same = some ⟨oc_same, od_same, .func (PySem.W.fnOf "_law_same" "_law_same" (defArgs s_same) (defBody s_same) (defScope s_same) .none kV_same dc_same pm_same an_same cd_same ct_same), sl_same⟩) (c_same : PySem.W.codeIn K cd_same "_law_same" = true) (k_same : PySem.W.keepIn K (.ref f_same) = true)
    (a_is_alphabet : PySem.W.nsIn K mainGlobals "is_alphabet" = some (some (.ref f_is_alphabet))) (l_is_alphabet : K.lookup f_is_alphabet = some ⟨oc_is_alphabet, od_is_alphabet, .func (PySem.W.fnOf "is_alphabet" "is_alphabet" (defArgs s_is_alphabet) (defBody s_is_alphabet) (defScope s_is_alphabet) .none kV_is_alphabet dc_is_alphabet pm_is_alphabet an_is_alphabet cd_is_alphabet ct_is_alphabet), sl_is_alphabet⟩) (c_is_alphabet : PySem.W.codeIn K cd_is_alphabet "is_alphabet" = true) (k_is_alphabet : PySem.W.keepIn K (.ref f_is_alphabet) = true)
    (a_is_word : PySem.W.nsIn K mainGlobals "is_word" = some (some (.ref f_is_word))) (l_is_word : K.lookup f_is_word = some ⟨oc_is_word, od_is_word, .func (PySem.W.fnOf "is_word" "is_word" (defArgs s_is_word) (defBody s_is_word) (defScope s_is_word) .none kV_is_word dc_is_word pm_is_word an_is_word cd_is_word ct_is_word), sl_is_word⟩) (c_is_word : PySem.W.codeIn K cd_is_word "is_word" = true) (k_is_word : PySem.W.keepIn K (.ref f_is_word) = true)
    (a_signs : PySem.W.nsIn K mainGlobals "_law_signs" = some (some (.ref f_signs))) (l_signs : K.lookup f_signs = some ⟨oc_signs, od_signs, .func (PySem.W.fnOf "_law_signs" "_law_signs" (defArgs s_signs) (defBody s_signs) (defScope s_signs) .none kV_signs dc_signs pm_signs an_signs cd_signs ct_signs), sl_signs⟩) (c_signs : PySem.W.codeIn K cd_signs "_law_signs" = true) (k_signs : PySem.W.keepIn K (.ref f_signs) = true)
    (a_text : PySem.W.nsIn K mainGlobals "_law_text" = some (some (.ref f_text))) (l_text : K.lookup f_text = some ⟨oc_text, od_text, .func (PySem.W.fnOf "_law_text" "_law_text" (defArgs s_text) (defBody s_text) (defScope s_text) .none kV_text dc_text pm_text an_text cd_text ct_text), sl_text⟩) (c_text : PySem.W.codeIn K cd_text "_law_text" = true) (k_text : PySem.W.keepIn K (.ref f_text) = true)
    (a_law : PySem.W.nsIn K mainGlobals "law" = some (some (.ref f_law))) (l_law : K.lookup f_law = some ⟨oc_law, od_law, .func (PySem.W.fnOf "law" "law" (defArgs s_law) (defBody s_law) (defScope s_law) .none kV_law dc_law pm_law an_law cd_law ct_law), sl_law⟩) (c_law : PySem.W.codeIn K cd_law "law" = true) (k_law : PySem.W.keepIn K (.ref f_law) = true)
    (z_int : PySem.W.nsIn K mainGlobals "int" = some none)
    (z_list : PySem.W.nsIn K mainGlobals "list" = some none)
    (z_len : PySem.W.nsIn K mainGlobals "len" = some none)
    (z_abs : PySem.W.nsIn K mainGlobals "abs" = some none)
    (z_isinstance : PySem.W.nsIn K mainGlobals "isinstance" = some none)
    (z_tuple : PySem.W.nsIn K mainGlobals "tuple" = some none)
    (z_all : PySem.W.nsIn K mainGlobals "all" = some none)
    (z_zip : PySem.W.nsIn K mainGlobals "zip" = some none)
    (z_bool : PySem.W.nsIn K mainGlobals "bool" = some none)
    (z_str : PySem.W.nsIn K mainGlobals "str" = some none)
    (z_range : PySem.W.nsIn K mainGlobals "range" = some none)
    (z_sorted : PySem.W.nsIn K mainGlobals "sorted" = some none)
    (c_MOST_LETTERS : PySem.W.nsIn K mainGlobals "MOST_LETTERS" = some (some (.int 4 t_MOST_LETTERS))) :
    ∃ fd : FuncData, (∀ (s : Shared) (v : Value), BindsTo s fd ⟨[v], []⟩ [("_law_script", v)]) ∧ ∀ base : Heap, K.In base → base.Ns mainGlobals mg → FnOk l.prog w K mg base CX0 5 fa fd ["_law_script"] (spLaw K) := by
  have e := hfa.symm.trans (PySem.W.mg_of X G a_law)
  cases e
  let T : Env K mg := {
    f_bag := _, fd_bag := _, F_bag := fun_mk (st := s_bag) l_bag c_bag k_bag, b_bag := ((fun_mk (st := s_bag) l_bag c_bag k_bag).binds (ps := ["_law_script"]) (fun _ _ _ _ _ _ us hl => match us, hl with | [_], _ => rfl)), g_bag := PySem.W.mg_of X G a_bag,
    f_pull := _, fd_pull := _, F_pull := fun_mk (st := s_pull) l_pull c_pull k_pull, b_pull := ((fun_mk (st := s_pull) l_pull c_pull k_pull).binds (ps := ["_law_bag_here", "_law_sides"]) (fun _ _ _ _ _ _ us hl => match us, hl with | [_, _], _ => rfl)), g_pull := PySem.W.mg_of X G a_pull,
    f_of := _, fd_of := _, F_of := fun_mk (st := s_of) l_of c_of k_of, b_of := ((fun_mk (st := s_of) l_of c_of k_of).binds (ps := ["_law_bag_here", "_law_some"]) (fun _ _ _ _ _ _ us hl => match us, hl with | [_, _], _ => rfl)), g_of := PySem.W.mg_of X G a_of,
    f_same := _, fd_same := _, F_same := fun_mk (st := s_same) l_same c_same k_same, b_same := ((fun_mk (st := s_same) l_same c_same k_same).binds (ps := ["_law_found", "_law_due"]) (fun _ _ _ _ _ _ us hl => match us, hl with | [_, _], _ => rfl)), g_same := PySem.W.mg_of X G a_same,
    f_is_alphabet := _, fd_is_alphabet := _, F_is_alphabet := fun_mk (st := s_is_alphabet) l_is_alphabet c_is_alphabet k_is_alphabet, b_is_alphabet := ((fun_mk (st := s_is_alphabet) l_is_alphabet c_is_alphabet k_is_alphabet).binds (ps := ["value"]) (fun _ _ _ _ _ _ us hl => match us, hl with | [_], _ => rfl)), g_is_alphabet := PySem.W.mg_of X G a_is_alphabet,
    f_is_word := _, fd_is_word := _, F_is_word := fun_mk (st := s_is_word) l_is_word c_is_word k_is_word, b_is_word := ((fun_mk (st := s_is_word) l_is_word c_is_word k_is_word).binds (ps := ["alphabet", "value"]) (fun _ _ _ _ _ _ us hl => match us, hl with | [_, _], _ => rfl)), g_is_word := PySem.W.mg_of X G a_is_word,
    f_signs := _, fd_signs := _, F_signs := fun_mk (st := s_signs) l_signs c_signs k_signs, b_signs := ((fun_mk (st := s_signs) l_signs c_signs k_signs).binds (ps := ["_law_bag_here"]) (fun _ _ _ _ _ _ us hl => match us, hl with | [_], _ => rfl)), g_signs := PySem.W.mg_of X G a_signs,
    f_text := _, fd_text := _, F_text := fun_mk (st := s_text) l_text c_text k_text, b_text := ((fun_mk (st := s_text) l_text c_text k_text).binds (ps := ["_law_bag_here", "_law_signs_here", "_law_size"]) (fun _ _ _ _ _ _ us hl => match us, hl with | [_, _, _], _ => rfl)), g_text := PySem.W.mg_of X G a_text,
    f_law := _, fd_law := _, F_law := fun_mk (st := s_law) l_law c_law k_law, b_law := ((fun_mk (st := s_law) l_law c_law k_law).binds (ps := ["_law_script"]) (fun _ _ _ _ _ _ us hl => match us, hl with | [_], _ => rfl)), g_law := PySem.W.mg_of X G a_law,
    z_int := PySem.W.mg_none_of X G z_int,
    z_list := PySem.W.mg_none_of X G z_list,
    z_len := PySem.W.mg_none_of X G z_len,
    z_abs := PySem.W.mg_none_of X G z_abs,
    z_isinstance := PySem.W.mg_none_of X G z_isinstance,
    z_tuple := PySem.W.mg_none_of X G z_tuple,
    z_all := PySem.W.mg_none_of X G z_all,
    z_zip := PySem.W.mg_none_of X G z_zip,
    z_bool := PySem.W.mg_none_of X G z_bool,
    z_str := PySem.W.mg_none_of X G z_str,
    z_range := PySem.W.mg_none_of X G z_range,
    z_sorted := PySem.W.mg_none_of X G z_sorted,
    t_MOST_LETTERS := t_MOST_LETTERS, c_MOST_LETTERS := PySem.W.mg_of X G c_MOST_LETTERS }
  exact ⟨_, fun s v => .of_eq rfl, fun base _ _ => ok_law T⟩
end MyP
open PySem PySem.W PyProof.Rows
set_option maxHeartbeats 0 in
theorem PySem.Challenge.cw_onlyahead_k01_alphabets_and_words_judged_holds : PySem.Challenge.rw_onlyahead_k01_alphabets_and_words_judged.Holds := by
  w_on; o_law; k_head; (case hw => w_witness2)
  k_fill
  refine L2.walk_of (l := PySem.Challenge.rw_onlyahead_k01_alphabets_and_words_judged) (n := 63) (k := 5) (x := "_law_script") (CX := fun _ => L2.CX0) (sp := fun w => MyP.spLaw _) rfl (by decide) rfl ⟨rfl, by decide, by decide⟩ (fun w h Y => PySem.W.kIn_of Y) ?F (fun _ _ a ns hl _ hS => ⟨a, ns, rfl, hS, hl, fun _ => rfl⟩) (fun _ _ _ _ _ h => h)
  case F =>
    intro w mg fa h KX G hmg
    refine' MyP.all_mk KX G hmg ?a_bag ?l_bag ?c_bag ?k_bag ?a_pull ?l_pull ?c_pull ?k_pull ?a_of ?l_of ?c_of ?k_of ?a_same ?l_same ?c_same ?k_same ?a_is_alphabet ?l_is_alphabet ?c_is_alphabet ?k_is_alphabet ?a_is_word ?l_is_word ?c_is_word ?k_is_word ?a_signs ?l_signs ?c_signs ?k_signs ?a_text ?l_text ?c_text ?k_text ?a_law ?l_law ?c_law ?k_law ?z_int ?z_list ?z_len ?z_abs ?z_isinstance ?z_tuple ?z_all ?z_zip ?z_bool ?z_str ?z_range ?z_sorted ?c_MOST_LETTERS
    (case a_bag => k_is)
    (case l_bag => k_is)
    (case c_bag => k_is)
    (case k_bag => k_is)
    (case a_pull => k_is)
    (case l_pull => k_is)
    (case c_pull => k_is)
    (case k_pull => k_is)
    (case a_of => k_is)
    (case l_of => k_is)
    (case c_of => k_is)
    (case k_of => k_is)
    (case a_same => k_is)
    (case l_same => k_is)
    (case c_same => k_is)
    (case k_same => k_is)
    (case a_is_alphabet => k_is)
    (case l_is_alphabet => k_is)
    (case c_is_alphabet => k_is)
    (case k_is_alphabet => k_is)
    (case a_is_word => k_is)
    (case l_is_word => k_is)
    (case c_is_word => k_is)
    (case k_is_word => k_is)
    (case a_signs => k_is)
    (case l_signs => k_is)
    (case c_signs => k_is)
    (case k_signs => k_is)
    (case a_text => k_is)
    (case l_text => k_is)
    (case c_text => k_is)
    (case k_text => k_is)
    (case a_law => k_is)
    (case l_law => k_is)
    (case c_law => k_is)
    (case k_law => k_is)
    (case z_int => k_is)
    (case z_list => k_is)
    (case z_len => k_is)
    (case z_abs => k_is)
    (case z_isinstance => k_is)
    (case z_tuple => k_is)
    (case z_all => k_is)
    (case z_zip => k_is)
    (case z_bool => k_is)
    (case z_str => k_is)
    (case z_range => k_is)
    (case z_sorted => k_is)
    (case c_MOST_LETTERS => k_is)

