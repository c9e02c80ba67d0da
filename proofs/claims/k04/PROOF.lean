import PyProof.Rows.All
import Wide.All
import OpenK.AllK
import Wide.FinOn
import HandS.ForMost
import HandS.WideBits
import HandS.TupAny
import KE.KUnpackStar
import HandS.ForExc
import HandS.ExcInit
import HandS.ExcField
import HandS.ExcIs
import HandS.Defaults
import KE.KExcInit
import HandS.SortInts
import PyProof.TupleOfSeq
import KE.KExcIs
import HandS.MakeKwOnly
import HandS.Dict
import HandS.Words
import PyProof.ReprRoads
import KE.KxIndex
import HandS.ExcValue
import HandS.OwnEq
import HandS.IsInst
import HandS.Property
import KE.KFmtOwn
import KE.KCallOwn
import OpenK.KOps
import HandS.MakeKw
import HandS.Small
import HandS.ClsMeth
import HandS.Walk
import PyProof.Draws
import HandS.Zip
import HandS.DictComp
import HandS.FStr
import HandS.Star
import HandS.RaiseMore
import HandS.StrMore
import KE.KIntText
import HandS.TupLe
import PySem.Challenge.RW_spansieve_k04_whole_plans_written_and_re
set_option Elab.async false
set_option linter.all false
set_option maxRecDepth 100000
set_option maxHeartbeats 4000000
namespace Sp
open PySem PySem.Spec PyProof.Rows L2
/-! ### heaps -/
/-- all that was tracked but p is as it was -/
def But (p : Addr) (H H' : Hp) : Prop := ∀ b o, b ≠ p → H b = some o → H' b = some o
theorem But.refl (p : Addr) (H : Hp) : But p H H := fun _ _ _ h => h
theorem But.trans {p : Addr} {H H1 H2 : Hp} (a : But p H H1) (b : But p H1 H2) : But p H H2 := fun c o n h => b c o n (a c o n h)
theorem But.put {p : Addr} {H H1 : Hp} {o : HO} (a : But p H H1) : But p H (upd H1 p o) := fun c u n h => by
  rw [upd_ne n]
  exact a c u n h
theorem But.new {p q : Addr} {H H1 : Hp} {o : HO} (a : But p H H1) (h : H1 q = none) : But p H (upd H1 q o) := fun c u n e => by
  rw [upd_ne (ne_of_none (a c u n e) h)]
  exact a c u n e
theorem But.same {p : Addr} {H H1 : Hp} (s : Same H H1) : But p H H1 := fun c u _ e => s c u e
theorem But.seq {K : PySem.W.Frag} {p a : Addr} {H H' : Hp} {xs : List V} (e : But p H H') (n : a ≠ p) (h : SqL K H a xs) : SqL K H' a xs := by
  rcases h with (h | ⟨o, h⟩) | h
  · exact .inl (.inl (e _ _ n h))
  · exact .inl (.inr ⟨o, e _ _ n h⟩)
  · exact .inr h
theorem Same.new {q : Addr} {H H1 : Hp} {o : HO} (a : Same H H1) (h : H1 q = none) : Same H (upd H1 q o) := fun c u e => by
  rw [upd_ne (ne_of_none (a c u e) h)]
  exact a c u e

theorem Same.put {H H1 : Hp} {q : Addr} {o : HO} (a : Same H H1) (h : H q = none) : Same H (upd H1 q o) := fun c u e => by
  rw [upd_ne (ne_of_none e h)]
  exact a c u e
theorem Same.tup {K : PySem.W.Frag} {H H' : Hp} {a : Addr} {xs : List V} (s : Same H H') (h : SqT K H a xs) : SqT K H' a xs := by
  rcases h with h | h
  · rcases h with h | ⟨o, h⟩
    · exact .inl (.inl (s _ _ h))
    · exact .inl (.inr ⟨o, s _ _ h⟩)
  · exact .inr h
theorem But.of {p : Addr} {H H1 : Hp} (h : H p = none) (b : But p H H1) : Same H H1 := fun c u e => b c u (ne_of_none e h) e
/-- the heap without p -/
def hid (p : Addr) (H : Hp) : Hp := fun b => if b = p then none else H b
theorem hid_at {p b : Addr} {H : Hp} {o : HO} (n : b ≠ p) (h : H b = some o) : hid p H b = some o := by
  unfold hid
  rw [if_neg n]
  exact h
theorem hid_same {p : Addr} {H H' : Hp} (b : But p H H') : Same (hid p H) H' := fun c o e => by
  by_cases n : c = p
  · unfold hid at e
    rw [if_pos n] at e
    cases e
  · unfold hid at e
    rw [if_neg n] at e
    exact b c o n e
theorem hid_but {p : Addr} {H H' : Hp} (b : But p H H') : Same (hid p H) (hid p H') := fun c o e => by
  by_cases n : c = p
  · unfold hid at e
    rw [if_pos n] at e
    cases e
  · have e2 := hid_same b c o e
    exact hid_at n e2

/-! ### what is new is told by what stands there, the heap behind it a letter -/
def New (o : HO) (Q : VK) (H : Hp) : Prop := ∀ (p : Addr) (H' : Hp), H p = none → Same H H' → H' p = some o → Q (.ref p) H'
theorem New.all {o : HO} {Q : VK} {H : Hp} (h : New o Q H) : ∀ p, H p = none → Q (.ref p) (upd H p o) := fun p n => h p _ n (Same.new (Same.refl H) n) upd_same
theorem fits {n : Nat} (h : Nat.ble n 1000 = true) : n ≤ sizeLine := Nat.le_trans (Nat.le_of_ble_eq_true h) (by decide)
section
variable {X : Cx} {e : Expr} {es : List Expr} {t : TA} {te ta tb : TE} {pos : Pos}
theorem PE.imp {t u : TE} (h : PE X e t) (i : ∀ σ H Q, u σ H Q → t σ H Q) : PE X e u := ⟨fun pins s σ H Q I q => h.run pins s σ H Q I (i σ H Q q)⟩
theorem OpR.imp {f : Value → Value → Sem Value} {r u : R2} (h : OpR X f r) (i : ∀ x y H Q, u x y H Q → r x y H Q) : OpR X f u := fun pins s σ H x y v w Q I rx ry q => h pins s σ H x y v w Q I rx ry (i _ _ _ _ q)
theorem CallR.imp {f : Value} {r u : List V → Hp → VK → Prop} (h : CallR X f r) (i : ∀ xs H Q, u xs H Q → r xs H Q) : CallR X f u := fun pins s σ H xs us Q I rs q => h pins s σ H xs us Q I rs (i _ _ _ q)
def tLstN (t : TA) : TE := fun σ H Q => t σ H fun xs H1 => xs.length ≤ sizeLine ∧ New (.lst xs) Q H1
def tTupN (t : TA) : TE := fun σ H Q => t σ H fun xs H1 => xs.length ≤ sizeLine ∧ New (.tup xs) Q H1
theorem pe_lstN (h : PA X es t) : PE X (.List es pos) (tLstN t) := ⟨fun pins s σ H Q I q => by
  refine wpAny_List_spliced (thn (h.run pos pins s σ H _ I q) fun us s1 hh => ?_)
  obtain ⟨xs, H1, I1, r, z, q1⟩ := hh
  refine ⟨by rw [← r.length]; exact z, ?_⟩
  have free : H1 s1.heap.objs.size = none := I1.hok.fresh (Nat.le_refl _)
  refine ⟨.ref s1.heap.objs.size, upd H1 s1.heap.objs.size (.lst xs), I1.laid (t' := s1.toks) (fun b u e => Heap.get?_push_of_some _ e) (Nat.le_refl _) ?_, rfl, New.all q1 _ free⟩
  exact ⟨z, us, 0, r, Heap.get?_push_size _ rfl⟩⟩
theorem pe_tupN {x1} (h : PA X es t) : PE X (.Tuple es x1 pos) (tTupN t) := ⟨fun pins s σ H Q I q => by
  refine wpAny_Tuple_spliced (thn (h.run pos pins s σ H _ I q) fun us s1 hh => ?_)
  obtain ⟨xs, H1, I1, r, z, q1⟩ := hh
  refine ⟨by rw [← r.length]; exact z, ?_⟩
  have free : H1 s1.heap.objs.size = none := I1.hok.fresh (Nat.le_refl _)
  refine ⟨.ref s1.heap.objs.size, upd H1 s1.heap.objs.size (.tup xs), I1.laid (t' := s1.toks) (fun b u e => Heap.get?_push_of_some _ e) (Nat.le_refl _) ?_, rfl, New.all q1 _ free⟩
  exact ⟨z, us, r, ⟨_, Heap.get?_push_size _ rfl, rfl, _, rfl⟩⟩⟩
theorem pe_dnewN : PE X (.Dict [] [] pos) (fun _ H Q => New (.dK []) Q H) := PE.imp pe_dnewK fun _ _ _ q => New.all q
theorem op_catN : OpR X (binaryOp .Add) (fun x y H Q => ∃ l b xs zs, x = .ref l ∧ y = .ref b ∧ H l = some (.lst xs) ∧ H b = some (.lst zs) ∧ xs.length + zs.length ≤ sizeLine ∧ New (.lst (xs ++ zs)) Q H) :=
  OpR.imp op_cat fun x y H Q h => by
    obtain ⟨l, b, xs, zs, e1, e2, h1, h2, h3, q⟩ := h
    exact ⟨l, b, xs, zs, e1, e2, h1, h2, h3, New.all q⟩
theorem op_repN : OpR X (binaryOp .Mult) (fun x y H Q => ∃ l k xs, x = .ref l ∧ y = .int k ∧ H l = some (.lst xs) ∧ -(2 ^ 63) ≤ k ∧ k < 2 ^ 63 ∧ xs.length * k.toNat ≤ sizeLine ∧ New (.lst (List.replicate k.toNat xs).flatten) Q H) :=
  OpR.imp op_rep fun x y H Q h => by
    obtain ⟨l, k, xs, e1, e2, h1, h2, h3, h4, q⟩ := h
    exact ⟨l, k, xs, e1, e2, h1, h2, h3, h4, New.all q⟩
theorem sl_listN : L2.SlR X (fun x lo hi H Q => ∃ a xs, x = .ref a ∧ SqL X.K H a xs ∧ New (.lst (cutV xs lo hi)) Q H) := fun pins s σ H x v vl vu lo hi sl Q I rx hs pl pu h => by
  obtain ⟨a, xs, e1, h1, q⟩ := h
  exact sl_list pins s σ H x v vl vu lo hi sl Q I rx hs pl pu ⟨a, xs, e1, h1, New.all q⟩
end
set_option Elab.async false
set_option linter.all false
set_option maxRecDepth 100000
set_option maxHeartbeats 4000000
open PySem PySem.Spec PyProof.Rows L2
def top (i : Nat) : Stmt := PySem.Challenge.pw_spansieve_k04_whole_plans_written_and_re.main.body.getD i (.Pass ⟨0, 0, 0, 0⟩)

/-! ### reading a straight piece: rd goes on while one of the usual answers fits -/
local macro_rules | `(tactic| walk_at "rd1") => `(tactic| first
  | refine ⟨_, rfl, ?_⟩
  | refine ⟨_, _, rfl, rfl, (show CMul _ _ from .inl ⟨by first | decide | omega, by first | decide | omega⟩), ?_⟩
  | refine ⟨_, _, rfl, rfl, (show CMul _ _ from .inr ⟨by first | decide | omega, by first | decide | omega⟩), ?_⟩
  | refine ⟨_, _, rfl, rfl, (show CPow _ _ from ⟨by decide, by decide, by decide⟩), ?_⟩
  | refine ⟨_, _, rfl, rfl, (show CDiv _ _ from ⟨by decide, by decide⟩), ?_⟩
  | refine ⟨_, _, rfl, rfl, (show (0 : Int) < _ from by first | decide | omega), ?_⟩
  | refine ⟨_, _, rfl, rfl, ?_⟩
  | refine Or.inl ⟨_, rfl, ?_⟩)
local macro_rules | `(tactic| walk_at "rd") => `(tactic| repeat (walk_at "rd1"))

theorem cut_int {ns : List Int} {lo hi : Option Int} {i : Nat} {x : V} (h : (cutV (ns.map V.int) lo hi)[i]? = some x) : ∃ z, x = V.int z := by
  have h1 : x ∈ cutV (ns.map V.int) lo hi := List.mem_of_getElem? h
  have h2 : x ∈ ns.map V.int := List.mem_of_mem_drop (List.mem_of_mem_take h1)
  obtain ⟨z, _, e⟩ := List.mem_map.mp h2
  exact ⟨z, e.symm⟩

/-! ### the purse -/
/-- at p stands a purse: what is left of the great number, the state, the draws made -/
def Purse (H : Hp) (p : Addr) : Prop := ∃ g s n : Int, H p = some (.lst [.int g, .int s, .int n]) ∧ 0 ≤ g ∧ 0 ≤ s ∧ s < 1000000007

/-- a divisor below 2 ^ 40 is no long one -/
theorem dgp {g m : Int} (hm : m < 2 ^ 40) (h0 : 0 < m := by omega) : Builtin.divisionGoesByPylong g m = false := by
  have h1 : m.natAbs.log2 < 40 := (Nat.log2_lt (by omega)).mpr (by omega)
  have h2 : ¬ (m == 0) = true := by simpa using (show m ≠ 0 by omega)
  show (decide ((if m == 0 then 0 else m.natAbs.log2 / 30 + 1) > 300) && decide ((if g == 0 then 0 else g.natAbs.log2 / 30 + 1) > (if m == 0 then 0 else m.natAbs.log2 / 30 + 1) + 150)) = false
  rw [if_neg h2, decide_eq_false (show ¬ (m.natAbs.log2 / 30 + 1 > 300) by omega), Bool.false_and]
/-- _law_cell(script, at) -/
def spCell (K : PySem.W.Frag) : Sp := fun vs H Q _ => ∃ (l : Addr) (ns : List Int) (j : Nat), vs = [.ref l, .int (j : Int)] ∧ SqL K H l (ns.map V.int) ∧ j < 100 ∧ ns.length ≤ 63 ∧
  ∀ (z : Int) (H' : Hp), Same H H' → Q (.int z) H'
/-- _law_purse(cell) -/
def spPurse : Sp := fun vs H Q _ => ∃ z : Int, vs = [.int z] ∧ ∀ (p : Addr) (H' : Hp), H p = none → Same H H' → Purse H' p → Q (.ref p) H'
/-- _law_roll(purse, many) -/
def spRoll : Sp := fun vs H Q _ => ∃ (p : Addr) (m : Int), vs = [.ref p, .int m] ∧ Purse H p ∧ 0 < m ∧ m < 2 ^ 40 ∧
  ∀ (r : Int) (H' : Hp), 0 ≤ r → r < m → But p H H' → Purse H' p → Q (.int r) H'

structure TxtD (K : PySem.W.Frag) (mg : Str → Option Value) : Prop where
  n_len : mg "len" = none
  n_int : mg "int" = none
  n_abs : mg "abs" = none
  n_divmod : mg "divmod" = none

section
variable {P : Program} {w : World} {K : PySem.W.Frag} {mg : Str → Option Value} {base : Heap}
abbrev s__law_cell : Stmt := top 20
theorem sc_cell : FnScope ["_law_script", "_law_at", "_law_mixed", "_law_cell_here"] ["_law_script", "_law_at"] (defScope s__law_cell) :=
  ⟨rfl, rfl, rfl, by decide +kernel, rfl, by decide +kernel, by decide +kernel⟩
theorem ok_cell {f : Addr} {fd : FuncData} (F : Fun K "_law_cell" "_law_cell" s__law_cell f fd) (T : TxtD K mg) : FnOk P w K mg base CX0 1 f fd ["_law_script", "_law_at"] (spCell K) := by
  refine F.ok sc_cell (fun vs H Q E h => ?_) (fun cdv A outer s H vs Q E hr h => ?_)
  · obtain ⟨l, ns, j, rfl, _⟩ := h
    rfl
  · obtain ⟨l, ns, j, rfl, hS, hj, hn, k⟩ := h
    refine ⟨_, (pss_cons (ps_if (pt_cmpR op_lt (pv 1) (pe_callB call_len_seq (by rfl) T.n_len PySem.boot_len (pa_cons (pv 0) pa_nil)) (nomark _)) (pss_one (ps_ret (pe_ix ix_list (pv 0) (pv 1) (fun _ _ => rfl)))) pss_nil)
    (pss_cons (ps_set (i := 2) sc_cell.nd rfl (Or.inl rfl) (pe_op op_add (pe_op op_add (pe_op op_mul (pe_op op_mul pe_int (pv 1)) (pv 1)) (pe_op op_mul pe_int (pv 1))) pe_int))
    (pss_cons (ps_for PassesOwn.never rfl (pi_list (pe_slice sl_list (pv 0) po_none (po_some pe_int))) (pg_name (i := 3) sc_cell.nd rfl (Or.inl rfl))
    (pss_one (ps_set (i := 2) sc_cell.nd rfl (Or.inl rfl) (pe_op op_mod (pe_callTy call_int1 (by rfl) T.n_int (by decide +kernel) (pa_cons (pe_op op_add (pe_op op_mul (pv 2) pe_int) (pv 3)) pa_nil)) pe_int))))
    (pss_one (ps_ret (pv 2)))))), ?_⟩
    refine ⟨_, rfl, _, rfl, _, _, rfl, .inl hS, _, _, rfl, rfl, _, rfl, ?_⟩
    refine ite2 (fun c => ?_) (fun c => ?_)
    · have hlt : j < ns.length := by
        have z := of_decide_eq_true c
        rw [List.length_map] at z
        omega
      refine ⟨_, rfl, _, rfl, l, _, _, .int ns[j], rfl, rfl, hS, ?_, k _ _ (Same.refl H)⟩
      rw [atI_nat] <;> simp [hlt]
    · walk_at "rd"
      refine ⟨l, _, rfl, hS, fun p hp => ?_⟩
      have s0 : Same H (upd H p (.lst (cutV (ns.map V.int) none (some 3)))) := Same.new (Same.refl H) hp
      refine ⟨p, rfl, ⟨_, SqL.of upd_same⟩, for_list (K := K) (a := p) (xs := cutV (ns.map V.int) none (some 3)) (fun i σ H' => ∃ (m : Int) (v : Option V), -(2 ^ 40) < m ∧ m < 2 ^ 40 ∧ σ = [some (.ref l), some (.int (j : Int)), some (.int m), v] ∧ Same (upd H p (.lst (cutV (ns.map V.int) none (some 3)))) H')
        ⟨_, none, ?_, ?_, rfl, Same.refl _⟩ (fun i σ H' _ ⟨_, _, _, _, _, s5⟩ => s5.seq (SqL.of upd_same)) ?_ ?_⟩
      · have h1 : (0 : Int) ≤ 7741 * (j : Int) * (j : Int) := Int.mul_nonneg (by omega) (by omega)
        show -(2 ^ 40) < 7741 * (j : Int) * (j : Int) + 15013 * (j : Int) + 911
        omega
      · have h1 : 7741 * (j : Int) * (j : Int) ≤ 7741 * 100 * 100 := Int.mul_le_mul (by omega) (by omega) (by omega) (by omega)
        show 7741 * (j : Int) * (j : Int) + 15013 * (j : Int) + 911 < 2 ^ 40
        omega
      · rintro i y σ H' hi ⟨m, v, h1, h2, rfl, s5⟩
        obtain ⟨z, rfl⟩ := cut_int hi
        walk_at "rd"
        have a1 := Int.emod_nonneg (m * 31237 + z) (show (1000000007 : Int) ≠ 0 by decide)
        have a2 := Int.emod_lt_of_pos (m * 31237 + z) (show (0 : Int) < 1000000007 by decide)
        refine ⟨(m * 31237 + z) % 1000000007, some (.int z), by omega, by omega, rfl, s5⟩
      · rintro σ H' ⟨m, v, h1, h2, rfl, s5⟩
        walk_at "rd"
        exact k _ _ (s0.trans s5)
abbrev s__law_purse : Stmt := top 21
theorem sc_purse : FnScope ["_law_cell_here", "_law_great_here"] ["_law_cell_here"] (defScope s__law_purse) :=
  ⟨rfl, rfl, rfl, by decide +kernel, rfl, by decide +kernel, by decide +kernel⟩
theorem ok_purse {f : Addr} {fd : FuncData} (F : Fun K "_law_purse" "_law_purse" s__law_purse f fd) (T : TxtD K mg) : FnOk P w K mg base CX0 1 f fd ["_law_cell_here"] spPurse := by
  refine F.ok sc_purse (fun vs H Q E h => ?_) (fun cdv A outer s H vs Q E hr h => ?_)
  · obtain ⟨z, rfl, _⟩ := h
    rfl
  · obtain ⟨z, rfl, k⟩ := h
    refine ⟨_, (pss_cons (ps_set (i := 1) sc_purse.nd rfl (Or.inl rfl) (pe_ifExp (PW.pt (pw_or (pt_cmpR op_lt (pv 0) pe_int (nomark _)) (pw_or1 (pt_cmpR op_ge (pv 0) (pe_op op_pow pe_int pe_int) (nomark _))))) (pe_callB call_abs (by rfl) T.n_abs (by decide +kernel) (pa_cons (pv 0) pa_nil)) pe_int))
    (pss_one (ps_ret (pe_lst (pa_cons (pv 1) (pa_cons (pe_op op_mod (pe_callTy call_int1 (by rfl) T.n_int (by decide +kernel) (pa_cons (pe_op op_add (pe_op op_mul (pe_op op_mod (pe_callTy call_int1 (by rfl) T.n_int (by decide +kernel) (pa_cons (pv 0) pa_nil)) pe_int) pe_int) pe_int) pa_nil)) pe_int) (pa_cons pe_int pa_nil))))))), ?_⟩
    have b1 := Int.emod_nonneg z (show (1000000007 : Int) ≠ 0 by decide)
    have b2 := Int.emod_lt_of_pos z (show (0 : Int) < 1000000007 by decide)
    have fin : ∀ g st : Int, 0 ≤ g → (3 ≤ sizeLine ∧ ∀ p : Addr, H p = none → Q (.ref p) (upd H p (.lst [.int g, .int (st % 1000000007), .int 0]))) := fun g st hg =>
      ⟨by decide, fun p hp => k p _ hp (Same.new (Same.refl H) hp) ⟨_, _, _, upd_same, hg, Int.emod_nonneg _ (by decide), Int.emod_lt_of_pos _ (by decide)⟩⟩
    walk_at "rd"
    refine ite2 (fun c => ?_) (fun c => ?_)
    · walk_at "rd"
      refine fin _ _ ?_
      split <;> omega
    · walk_at "rd"
      refine ite2 (fun c => ?_) (fun c => ?_)
      · walk_at "rd"
        refine fin _ _ ?_
        split <;> omega
      · walk_at "rd"
        exact fin _ _ (by decide)
abbrev s__law_roll : Stmt := top 22
theorem sc_roll : FnScope ["_law_purse_here", "_law_many", "_law_state", "_law_digit"] ["_law_purse_here", "_law_many"] (defScope s__law_roll) :=
  ⟨rfl, rfl, rfl, by decide +kernel, rfl, by decide +kernel, by decide +kernel⟩
theorem ok_roll {f : Addr} {fd : FuncData} (F : Fun K "_law_roll" "_law_roll" s__law_roll f fd) (T : TxtD K mg) : FnOk P w K mg base CX0 1 f fd ["_law_purse_here", "_law_many"] spRoll := by
  refine F.ok sc_roll (fun vs H Q E h => ?_) (fun cdv A outer s H vs Q E hr h => ?_)
  · obtain ⟨p, m, rfl, _⟩ := h
    rfl
  · obtain ⟨p, m, rfl, ⟨g, st, n, hp, hg, hs0, hs1⟩, hm0, hm1, k⟩ := h
    refine ⟨_, (pss_cons (ps_asg (pe_op op_add (pe_ix ix_list (pv 0) pe_int (fun _ _ => rfl)) pe_int) (pg_sub (pv 0) pe_int set_list))
    (pss_cons (ps_set (i := 2) sc_roll.nd rfl (Or.inl rfl) (pe_callTy call_int1 (by rfl) T.n_int (by decide +kernel) (pa_cons (pe_ix ix_list (pv 0) pe_int (fun _ _ => rfl)) pa_nil)))
    (pss_cons (ps_asg (pe_op op_mod (pe_callTy call_int1 (by rfl) T.n_int (by decide +kernel) (pa_cons (pe_op op_add (pe_op op_mul (pe_op op_add (pv 2) (pe_ix ix_list (pv 0) pe_int (fun _ _ => rfl))) (pe_op op_add (pe_op op_mod (pe_callTy call_int1 (by rfl) T.n_int (by decide +kernel) (pa_cons (pv 2) pa_nil)) pe_int) pe_int)) pe_int) pa_nil)) pe_int) (pg_sub (pv 0) pe_int set_list))
    (pss_cons (ps_if (pt_cmpR op_gt (pe_ix ix_list (pv 0) pe_int (fun _ _ => rfl)) pe_int (nomark _)) (pss_cons (ps_asg (pe_callB call_divmodW (by rfl) T.n_divmod (by decide +kernel) (pa_cons (pe_ix ix_list (pv 0) pe_int (fun _ _ => rfl)) (pa_cons (pv 1) pa_nil))) (pg_tup rfl (pgs_cons (pg_sub (pv 0) pe_int set_list) (pgs_cons (pg_name (i := 3) sc_roll.nd rfl (Or.inl rfl)) pgs_nil))))
    (pss_one (ps_ret (pv 3)))) pss_nil)
    (pss_one (ps_ret (pe_op op_mod (pe_callTy call_int1 (by rfl) T.n_int (by decide +kernel) (pa_cons (pe_op op_fdiv (pe_ix ix_list (pv 0) pe_int (fun _ _ => rfl)) pe_int) pa_nil)) (pv 1)))))))), ?_⟩
    walk_at "rd"
    refine ⟨p, _, _, _, rfl, rfl, SqL.of hp, rfl, ?_⟩
    walk_at "rd"
    refine ⟨p, _, _, _, rfl, rfl, hp, rfl, ?_⟩
    walk_at "rd"
    refine ⟨p, _, _, _, rfl, rfl, SqL.of upd_same, rfl, ?_⟩
    walk_at "rd"
    refine ⟨p, _, _, _, rfl, rfl, SqL.of upd_same, rfl, ?_⟩
    have b1 := Int.emod_nonneg st (show (46337 : Int) ≠ 0 by decide)
    have b2 := Int.emod_lt_of_pos st (show (0 : Int) < 46337 by decide)
    walk_at "rd"
    refine ⟨p, _, _, _, rfl, rfl, upd_same, rfl, ?_⟩
    have c1 := Int.emod_nonneg ((st + (n + 1)) * (st % 46337 + 30011) + 90001) (show (1000000007 : Int) ≠ 0 by decide)
    have c2 := Int.emod_lt_of_pos ((st + (n + 1)) * (st % 46337 + 30011) + 90001) (show (0 : Int) < 1000000007 by decide)
    walk_at "rd"
    refine ⟨p, _, _, _, rfl, rfl, SqL.of upd_same, rfl, ?_⟩
    walk_at "rd"
    refine ite2 (fun c => ?_) (fun c => ?_)
    · walk_at "rd"
      refine ⟨p, _, _, _, rfl, rfl, SqL.of upd_same, rfl, ?_⟩
      walk_at "rd"
      refine ⟨_, _, rfl, ⟨hm0, dgp hm1⟩, fun q hq => ?_⟩
      have nq : p ≠ q := ne_of_none upd_same hq
      refine ⟨q, _, rfl, SqT.of upd_same, rfl, _, _, rfl, ?_⟩
      walk_at "rd"
      refine ⟨p, _, _, _, rfl, rfl, by rw [upd_ne nq]; exact upd_same, rfl, ?_⟩
      refine ⟨_, _, rfl, ?_⟩
      refine ⟨rfl, ?_⟩
      walk_at "rd"
      refine k (g % m) _ (Int.emod_nonneg _ (by omega)) (Int.emod_lt_of_pos _ hm0) ?_ ?_
      · exact ((But.refl p H).put.put.new hq).put
      · exact ⟨g / m, _, n + 1, upd_same, Int.ediv_nonneg hg (by omega), c1, c2⟩
    · walk_at "rd"
      refine ⟨p, _, _, _, rfl, rfl, SqL.of upd_same, rfl, ?_⟩
      walk_at "rd"
      exact k _ _ (Int.emod_nonneg _ (by omega)) (Int.emod_lt_of_pos _ hm0) (((But.refl p H).put.put)) ⟨_, _, _, upd_same, hg, c1, c2⟩
end
set_option Elab.async false
set_option linter.all false
set_option maxRecDepth 100000
set_option maxHeartbeats 4000000
open PySem PySem.Spec PyProof.Rows L2 PySem.W
section
variable {prog : Program} {w : World} {A : Around} {E : Value → Shared → Prop} {s : Shared}
/-- the items of a list for targets one of which is starred -/
theorem star_list {l : Addr} {items : Array Value} {n i : Nat} {Q : List Value → Shared → Prop} (hl : s.heap.IsList l items) (hh : A.handled = none) (hi : i < n) (hn : n ≤ items.size + 1) (hz : items.size ≤ 16384)
    (h : ∀ (h' : Heap) (tk : Nat), (∀ b o, s.heap.get? b = some o → h'.get? b = some o) → Q (items.toList.take i ++ [.ref h'.objs.size] ++ (items.toList.drop i).drop (items.size + 1 - n)) { s with heap := h'.push { cls := .type "list", data := .seq ((items.toList.drop i).take (items.size + 1 - n)).toArray }, toks := tk }) :
    wpAny (model prog w) A (unpackItems (.ref l) n (some i)) Q E s := by
  have hll : l < s.heap.objs.size := by obtain ⟨o, ho, _⟩ := hl; exact Heap.lt_size ho
  have hlt : l ≠ s.heap.objs.size := Nat.ne_of_lt hll
  unfold unpackItems
  refine wpAny_bind ?_
  unfold notIterableAtAll
  refine wpAny_bind (wpAny_specialOf hl.typeIs slot_list_iter.lookup ?_)
  refine wpAny_pure ?_
  simp only [Bool.false_eq_true, if_false]
  refine wpAny_bind (wpAny_holding (wpAny_pyIter_list hl ?_))
  refine wpAny_bind (wpAny_holding (kun_draw hlt i 0 _ _ ⟨_, Heap.get?_push_size _ rfl, rfl, rfl⟩ (hl.push _) (by omega) fun h₁ hit₁ hs₁ => ?_))
  have hl₁ : h₁.IsList l items := (hl.push _).extBut hs₁.extBut hlt
  rw [Nat.zero_add] at hit₁
  obtain ⟨oi, hoi, _⟩ := id hit₁
  obtain ⟨ol, hol, _⟩ := id hl₁
  rw [List.drop_zero]
  have hfl : (items.toList.take i).length = i := by rw [List.length_take, Array.length_toList]; omega
  rw [if_neg (show ¬ ((items.toList.take i).length < i) by rw [hfl]; omega)]
  refine wpAny_bind (wpAny_holding (kun_collect (s := { s with heap := h₁ }) (T := "list_iterator") (.inr (.inr (.inl rfl))) (Walks.list (A := A.in1) hh s.heap.objs.size l hlt items) (fun j u st => st.1.typeIs) (k := i) (by omega) ⟨hit₁, hl₁⟩ (Heap.lt_size hoi) (Heap.lt_size hol) (fun h₂ tk hk => ?_) (by rw [sizeLine_eq]; omega)))
  have hrl : (items.toList.drop i).length = items.size - i := by rw [List.length_drop, Array.length_toList]
  have hmid : (items.toList.drop i).length - (n - 1 - i) = items.size + 1 - n := by rw [hrl]; omega
  show wpAny _ _ (if (items.toList.drop i).length < n - 1 - i then _ else _) _ _ _
  rw [if_neg (by rw [hrl]; omega)]
  show wpAny _ _ (newList ((items.toList.drop i).take ((items.toList.drop i).length - (n - 1 - i))) >>= fun d => pure (items.toList.take i ++ [d] ++ (items.toList.drop i).drop ((items.toList.drop i).length - (n - 1 - i)))) _ _ _
  rw [hmid]
  refine wpAny_bind (wpAny_newList (wpAny_pure ?_) (by rw [List.length_take, hrl, sizeLine_eq]; omega))
  refine h h₂ tk fun b o e => ?_
  have hb : b ≠ s.heap.objs.size := Nat.ne_of_lt (Heap.lt_size e)
  exact hk b o hb (hs₁.extBut b o hb (Heap.get?_push_of_some _ e))
end
section
variable {X : Cx}
/-- a, *b = e, e a list of one value or more -/
def gStar (K : PySem.W.Frag) (t : TGs) : TG := fun v σ H Q => ∃ (a : Addr) (x : V) (xs : List V), v = .ref a ∧ SqL K H a (x :: xs) ∧ xs.length < 16384 ∧ ∀ (D : Addr) (H' : Hp), H D = none → Same H H' → H' D = some (.lst xs) → t [x, .ref D] σ H' Q
theorem pg_star {es : List Expr} {k : Nat} {pos : Pos} {t : TGs} (hc : X.calm = true) (h : PGs X es t)
    (hn : (assignEach es X.env).length = 2 := by rfl) (hst : (assignEach es X.env).findIdx? (·.1) = some 1 := by rfl) : PG X (.Tuple es k pos) (gStar X.K t) := by
  refine ⟨fun pins s σ H v u Q I r hw => ?_⟩
  obtain ⟨a, x, xs, rfl, hq, hl, hw⟩ := hw
  cases r
  obtain ⟨its, rv, ht, hz⟩ := I.list hq
  cases rv with
  | cons rx rxs =>
    rename_i y ys
    have hlen := rxs.length
    rw [assign_Tuple]
    refine wpAny_bind (wpAny_standAt ?_)
    unfold unpack
    rw [hn, hst]
    refine wpAny_bind (wpAny_holding (star_list ht.isList (I.ok.hd hc) (by decide) (by simp) (by simp; omega) fun h' tk hk => ?_))
    have e1 : (y :: ys).toArray.toList.take 1 = [y] := by simp
    have e2 : ((y :: ys).toArray.toList.drop 1).take ((y :: ys).toArray.size + 1 - 2) = ys := by simp
    have e3 : ((y :: ys).toArray.toList.drop 1).drop ((y :: ys).toArray.size + 1 - 2) = [] := by simp
    rw [e1, e2, e3, List.append_nil]
    have I1 : L2.Inv X pins σ H { s with heap := h', toks := tk } := I.kept (t' := tk) hk
    have free : H h'.objs.size = none := I1.hok.fresh (Nat.le_refl _)
    have I2 : L2.Inv X pins σ (upd H h'.objs.size (.lst xs)) { s with heap := h'.push { cls := .type "list", data := .seq ys.toArray }, toks := tk } :=
      I1.laid (t' := tk) (fun b u e => Heap.get?_push_of_some _ e) (Nat.le_refl _) ⟨by rw [sizeLine_eq]; omega, ys, 0, rxs, Heap.get?_push_size _ rfl⟩
    exact h.run pins _ σ _ _ _ Q I2 (.cons rx (.cons (show L2.RelV (.ref h'.objs.size) (.ref h'.objs.size) from rfl) .nil)) (hw _ _ free (Same.new (Same.refl H) free) upd_same)
end
end Sp
set_option Elab.async false
set_option linter.all false
set_option maxRecDepth 100000
set_option maxHeartbeats 4000000
namespace PySem
namespace SpX
open PySem.W PySem.Calls PyProof.Rows PySem.HandSPX
/-! ### an own error class over any built-in one, called with keywords too -/
section
variable {prog : Program} {w : World} {A : Around} {E : Value → Shared → Prop} {R : Result → Shared → Prop} {h : Heap} {g : Array GenState} {d : Drawn} {t : Nat} {os : OsState}
variable {nm q : Str} {C N : Addr} {bs bm bmB : List Value} {hdct : Bool} {sn : List Str} {sub : List Value} {ab : Bool} {col : Option Bool} {dd : Option Addr} {k0 k1 k2 k3 k5 : Option Value} {B newId initId : String}
theorem chk_new {M : Model} {us : List Value} {kw : List (Str × Value)} {Q : Unit → Shared → Prop} (F : ExcBaseFacts B newId initId bmB) (tl : ∀ T : String, bm.contains (.type T) = bmB.contains (.type T))
    (at_ : h.get? C = some (excClassObj nm q C N bs bm hdct sn sub ab col dd k0 k1 k2 k3 k5 newId)) (hq : Q () ⟨h, g, d, t, os⟩) : wpAny M A (checkBuiltinCall newId ⟨.ref C :: us, kw⟩) Q E ⟨h, g, d, t, os⟩ := by
  have c1 : (Value.ref C :: bm).contains (.type B) = true := by
    rw [List.contains_cons, tl, F.hasB, Bool.or_true]
  have c2 := F.noStar
  simp only [checkBuiltinCall, F.newKind, F.newSplit, F.newRow]
  repeat (first
    | refine wpAny_loadPart_at at_ ?_
    | (refine wpAny_isSubtype_exc at_ ?_; rw [c1])
    | refine wpAny_staticBase_exc at_ ?_
    | refine wpAny_madeBy_exc at_ ?_
    | simp only [bne_self_eq_false, Bool.false_eq_true, if_false]
    | wp_step)
  exact hq
theorem new_of {us : List Value} {kw : List (Str × Value)} (F : ExcBaseFacts B newId initId bmB) (tl : ∀ T : String, bm.contains (.type T) = bmB.contains (.type T))
    (at_ : h.get? C = some (excClassObj nm q C N bs bm hdct sn sub ab col dd k0 k1 k2 k3 k5 newId)) (room : us.length ≤ sizeLine)
    (hq : R (.ok (.ret (.ref (h.objs.size + 1)))) ⟨(h.push (W.kdv_tup us)).push (excO C h.objs.size), g, d, t, os⟩) :
    codeAny (model prog w) A (.builtin newId ⟨.ref C :: us, kw⟩) R ⟨h, g, d, t, os⟩ := by
  have e0 := F.ends
  have c1 : (Value.ref C :: bm).contains (.type B) = true := by
    rw [List.contains_cons, tl, F.hasB, Bool.or_true]
  have c2 : (Value.ref C :: bm).contains (.type "AttributeError") = false := by
    rw [List.contains_cons, tl, F.noAttr]
    rfl
  have c3 : (Value.ref C :: bm).contains (.type "NameError") = false := by
    rw [List.contains_cons, tl, F.noName]
    rfl
  refine codeAny_builtinAt F.entry ?_
  unfold Builtin.«BaseException.__new__»
  refine wpAt_bind ?_
  show wpAt _ _ _ (stack >>= _) _ _ _
  refine wpAt_bind (wpAt_stack fun _ _ => wpAt_of_wpAny ?_)
  wp_walk
  refine wpAt_of_wpAny ?_
  rw [F.owner]
  repeat (first
    | with_reducible refine wpAny_madeHere_exc F.canon at_ ?_
    | with_reducible refine wpAny_loadPart_at at_ ?_
    | (with_reducible refine wpAny_isSubtype_exc at_ ?_; first | rw [c1] | rw [c2] | rw [c3])
    | wp_step)
  show R _ _
  rw [Heap.size_push]
  exact hq
theorem tcall_of {us : List Value} {kw : List (Str × Value)} {fI : Addr} {Q : Fin → Shared → Prop} (F : ExcBaseFacts B newId initId bmB) (tl : ∀ T : String, bm.contains (.type T) = bmB.contains (.type T))
    (at_ : h.get? C = some (excClassObj nm q C N bs bm hdct sn sub ab col dd k0 k1 k2 k3 k5 newId))
    (hi : W.Looks (model prog w) h (typeLookup (.ref C) "__init__") (some (.ref fI))) (hb : ∀ self, W.Looks (model prog w) h (bindSpecial (.ref fI) self) (.ref fI, [self])) (room : us.length ≤ sizeLine)
    (hq : codeAny (model prog w) A (.call (.ref fI) ⟨.ref (h.objs.size + 1) :: us, kw⟩)
      (fun r s' => match r with | .ok (.ret v) => v = .none ∧ Q (.done (.ret (.ref (h.objs.size + 1)))) s' | .ok _ => False | .error e => E e s')
      ⟨(h.push (W.kdv_tup us)).push (excO C h.objs.size), g, d, t, os⟩) :
    wpAny (model prog w) A (Builtin.«type.__call__» ⟨.ref C :: us, kw⟩) Q E ⟨h, g, d, t, os⟩ := by
  repeat (first
    | with_reducible refine wpAny_loadPart_at at_ ?_
    | with_reducible refine wpAny_madeBy_exc at_ ?_
    | wp_step)
  refine codeAny_call_builtin_code (Code.quiet_builtin _ F.quiet) (chk_new F tl at_ ?_)
  refine new_of F tl at_ room ?_
  show wpAny _ _ _ _ _ _
  have kept : ∀ b o, h.get? b = some o → ((h.push (W.kdv_tup us)).push (excO C h.objs.size)).get? b = some o := fun b o e => Heap.get?_push_of_some _ (Heap.get?_push_of_some _ e)
  have at1 := kept _ _ at_
  have got : ((h.push (W.kdv_tup us)).push (excO C h.objs.size)).get? (h.objs.size + 1) = some (excO C h.objs.size) := by
    heap_get
  have c4 : (Value.ref C :: bm).contains (.ref C) = true := by
    simp
  have i1 := hi.keeps kept
  have b1 := (hb (.ref (h.objs.size + 1))).keeps kept
  unfold isInstance
  repeat (first
    | with_reducible refine wpAny_loadPart_at got ?_
    | (with_reducible refine wpAny_isSubtype_exc at1 ?_; rw [c4])
    | wp_step)
  show wpAny _ _ (typeLookup (.ref C) _) _ _ _
  refine i1.at ?_
  refine wpAny_holding (wpAny_bind (b1.at ?_))
  refine wpAny_bind (wpAny_call (codeAny_mono hq fun r s' z => ?_))
  rcases r with e | (v | _ | _ | _) <;> first | exact z | exact z.elim | skip
  obtain ⟨rfl, z⟩ := z
  first
    | exact wpAny_pure (wpAny_pure z)
    | (wp_walk; exact z)
theorem call_of {us : List Value} {kw : List (Str × Value)} {fI : Addr} (F : ExcBaseFacts B newId initId bmB) (tl : ∀ T : String, bm.contains (.type T) = bmB.contains (.type T))
    (at_ : h.get? C = some (excClassObj nm q C N bs bm hdct sn sub ab col dd k0 k1 k2 k3 k5 newId))
    (hi : W.Looks (model prog w) h (typeLookup (.ref C) "__init__") (some (.ref fI))) (hb : ∀ self, W.Looks (model prog w) h (bindSpecial (.ref fI) self) (.ref fI, [self])) (room : us.length ≤ sizeLine)
    (hq : codeAny (model prog w) (A.under (.builtin "type.__call__" ⟨.ref C :: us, kw⟩)) (.call (.ref fI) ⟨.ref (h.objs.size + 1) :: us, kw⟩) (W.InitBack (h.objs.size + 1) R)
      ⟨(h.push (W.kdv_tup us)).push (excO C h.objs.size), g, d, t, os⟩) :
    codeAny (model prog w) A (.call (.ref C) ⟨us, kw⟩) R ⟨h, g, d, t, os⟩ := by
  have f1 := tc_lookup
  have f2 := tc_bind (.ref C)
  have ty : (⟨h, g, d, t, os⟩ : Shared).TypeIs (.ref C) "type" := ⟨_, at_, rfl⟩
  refine codeAny_of_tree ?_
  show wpAny _ _ (callAny (.ref C) _) _ _ _
  repeat (any_goals (first | assumption | with_reducible refine wpAny_loadPart_at at_ ?_ | wp_step))
  refine ⟨rfl, ?_⟩
  refine codeAny_call_builtin_at (Code.quiet_builtin _ (by decide +kernel)) entry_typeCall (wpAny_check_type_call_sub at_ (tcall_of F tl at_ hi hb room ?_))
  refine codeAny_mono hq fun r s' z => ?_
  rcases r with e | (v | _ | _ | _) <;> exact z
end
end SpX
end PySem
set_option Elab.async false
set_option linter.all false
set_option maxRecDepth 100000
set_option maxHeartbeats 4000000
namespace PySem
namespace SpX
open PySem.W PySem.Calls PyProof.Rows PySem.HandSPX
/-! ### storing into such an error -/
section
open Builtin Builtin.ObjectAttr
variable {prog : Program} {w : World} {A : Around} {R : Result → Shared → Prop} {hp : Heap} {g : Array GenState} {d : Drawn} {t : Nat} {os : OsState} {bmB : List Value} {B : String}
theorem tail_ne {bmB : List Value} (nb : bmB.isEmpty = false) : ∀ l : List Value, W.excTail bmB l = true → l.isEmpty = false := fun l e => by
  rcases W.excTail_cases l e with ⟨c, r, q, _⟩ | q
  · rw [q]
    rfl
  · rw [q]
    exact nb
/-- the first field -/
theorem osa_one {K : W.Frag} {f : Str} {tk : Tok} {v : Value} {x C : Addr} {fv : Array Value} {cd : ClassData} (S0 : StoreFacts B bmB "object.__setattr__" "object") (hobj : bmB.contains (.type "object") = true) (hnb : bmB.isEmpty = false)
    (X : K.In hp) (at_ : hp.get? x = some { cls := .ref C, data := .fields fv }) (ec : W.clsIn K C = some cd) (em : W.excTail bmB cd.mro = true) (ed : cd.hasDict = true) (ea : W.findIn K (.ref C) f = some none)
    (hq : ∀ h' tk' dx, (∀ b o, b ≠ x → hp.get? b = some o → h'.get? b = some o) → hp.objs.size ≤ dx → dx ≠ x → h'.get? x = some { cls := .ref C, dict := some dx, data := .fields fv } →
      h'.Ns1 dx (fun y => if y = f then some v else none) → R (.ok (.ret .none)) ⟨h', g, d, tk', os⟩) :
    codeAny (model prog w) A (.call (.builtin "object.__setattr__") ⟨[.ref x, .str f tk, v], []⟩) R ⟨hp, g, d, t, os⟩ := by
  have J : W.InstAt hp x { cls := .ref C, data := .fields fv } C none := ⟨at_, rfl, rfl, trivial⟩
  have SF := F.store_object
  have ne := tail_ne hnb _ em
  have ob : cd.mro.contains (.type "object") = true := (W.excTail_contains "object" _ em).trans hobj
  have xs : x ≠ hp.objs.size := Nat.ne_of_lt (Heap.lt_size at_)
  have isobj : W.Looks (model prog w) hp (isInstance (.ref x) (.type "object")) true := J.type.andThen (W.looks_mroIn X (by unfold W.mroIn; rw [ec, Option.bind_some, if_neg (by rw [ne]; decide), ob]))
  refine codeAny_call_builtin SF.slot.plain SF.entry (@W.check_slot (model prog w) _ _ ⟨hp, g, d, t, os⟩ "object.__setattr__" "object" "__setattr__" (.ref x) [.str f tk, v] [] _ SF.kind SF.split isobj (SF.args (.ref x) (.str f tk) v) ?_)
  have l1 : W.Looks (model prog w) hp (mroOf (.ref C)) cd.mro := (W.looks_clsIn X ec).andThen .now
  have l2 : W.Looks (model prog w) hp (storeTaker? none) none := .now
  have l3 : W.Looks (model prog w) hp (classData C) cd := W.looks_clsIn X ec
  rw [W.osa_eq, refuse_eq]
  refine wpAny_bind (wpAny_bind (J.type.at (wpAny_bind (l1.at ?_))))
  rw [W.excTail_pass _ (S0.passes _) _ em]
  refine wpAny_pure (wpAny_bind (J.type.at (wpAny_bind ((W.looks_findIn X ea).at (wpAny_bind (l2.at ?_))))))
  show wpAny _ _ (storeInOwnDict (.ref x) (.ref C) (.str f tk) f v false) _ _ _
  obtain ⟨c1, c2, c3, c4, c5, c6, c7, c8, c9, c10, c11⟩ := cd
  dsimp only at ed
  subst ed
  unfold storeInOwnDict ownDictForStores
  repeat (first
    | with_reducible refine store_in_new ?_ ?_
    | with_reducible refine wpAny_loadPart_at at_ ?_
    | with_reducible refine l3.at ?_
    | wp_step)
  · exact ⟨_, #[], _, (Heap.get?_update_ne _ _ _ _ xs.symm).trans (Heap.get?_push_at rfl rfl), rfl, fun e he => absurd he (by simp), fun _ => rfl⟩
  · intro h' tk' hn' hs
    have at1 : (hp.push { cls := .type "dict", data := .dict #[] }).get? x = some { cls := .ref C, data := .fields fv } := Heap.get?_push_of_some _ at_
    refine hq h' tk' hp.objs.size (fun b o hb ho => ?_) (Nat.le_refl _) xs.symm ?_ hn'
    · exact (hs.2 b (Nat.ne_of_lt (Heap.lt_size ho))).trans ((Heap.get?_update_ne _ _ _ _ hb).trans (Heap.get?_push_of_some _ ho))
    · exact (hs.2 x xs).trans (Heap.get?_update_self _ at1 rfl)
/-- a further one -/
theorem osa_two {K : W.Frag} {f : Str} {tk : Tok} {v : Value} {x C dx : Addr} {fv : Array Value} {cd : ClassData} {m0 : Str → Option Value} {nl : List Str} (S0 : StoreFacts B bmB "object.__setattr__" "object") (hobj : bmB.contains (.type "object") = true) (hnb : bmB.isEmpty = false)
    (X : K.In hp) (at_ : hp.get? x = some { cls := .ref C, dict := some dx, data := .fields fv }) (hns : hp.Ns1 dx m0) (hw : Within m0 nl) (hz : nl.length ≤ 1000) (ec : W.clsIn K C = some cd) (em : W.excTail bmB cd.mro = true) (ed : cd.hasDict = true)
    (ea : W.findIn K (.ref C) f = some none)
    (hq : ∀ h' tk', (∀ b o, b ≠ dx → hp.get? b = some o → h'.get? b = some o) → h'.Ns1 dx (fun y => if y = f then some v else m0 y) → R (.ok (.ret .none)) ⟨h', g, d, tk', os⟩) :
    codeAny (model prog w) A (.call (.builtin "object.__setattr__") ⟨[.ref x, .str f tk, v], []⟩) R ⟨hp, g, d, t, os⟩ := by
  obtain ⟨oD, _, _, hoD, _, _⟩ := hns.count hw
  have J : W.InstAt hp x { cls := .ref C, dict := some dx, data := .fields fv } C (some oD) := ⟨at_, rfl, rfl, hoD⟩
  have SF := F.store_object
  have ne := tail_ne hnb _ em
  have ob : cd.mro.contains (.type "object") = true := (W.excTail_contains "object" _ em).trans hobj
  have isobj : W.Looks (model prog w) hp (isInstance (.ref x) (.type "object")) true := J.type.andThen (W.looks_mroIn X (by unfold W.mroIn; rw [ec, Option.bind_some, if_neg (by rw [ne]; decide), ob]))
  refine codeAny_call_builtin SF.slot.plain SF.entry (@W.check_slot (model prog w) _ _ ⟨hp, g, d, t, os⟩ "object.__setattr__" "object" "__setattr__" (.ref x) [.str f tk, v] [] _ SF.kind SF.split isobj (SF.args (.ref x) (.str f tk) v) ?_)
  have l1 : W.Looks (model prog w) hp (mroOf (.ref C)) cd.mro := (W.looks_clsIn X ec).andThen .now
  have l2 : W.Looks (model prog w) hp (storeTaker? none) none := .now
  have l3 : W.Looks (model prog w) hp (classData C) cd := W.looks_clsIn X ec
  rw [W.osa_eq, refuse_eq]
  refine wpAny_bind (wpAny_bind (J.type.at (wpAny_bind (l1.at ?_))))
  rw [W.excTail_pass _ (S0.passes _) _ em]
  refine wpAny_pure (wpAny_bind (J.type.at (wpAny_bind ((W.looks_findIn X ea).at (wpAny_bind (l2.at ?_))))))
  show wpAny _ _ (storeInOwnDict (.ref x) (.ref C) (.str f tk) f v false) _ _ _
  obtain ⟨c1, c2, c3, c4, c5, c6, c7, c8, c9, c10, c11⟩ := cd
  dsimp only at ed
  subst ed
  unfold storeInOwnDict ownDictForStores
  repeat (first
    | with_reducible refine PySem.OEX.store_in_old hns hw hz ?_
    | with_reducible refine wpAny_loadPart_at at_ ?_
    | with_reducible refine l3.at ?_
    | wp_step)
  intro h' tk' hn' hs
  exact hq h' tk' (fun b o hb ho => (hs.2 b hb).trans ho) hn'
end
end SpX
end PySem
set_option Elab.async false
set_option linter.all false
set_option maxRecDepth 100000
set_option maxHeartbeats 4000000
namespace SrtO
open PySem PyProof.Rows Srt
section
variable {prog : Program} {w : World} {A : Around} {E : Value → Shared → Prop} {s : Shared}
/-- sorted(t), t a tuple -/
theorem sorted_tup {l : Addr} {vs : List Value} {ltv : Value → Value → Bool} {Q : Value → Shared → Prop} (O : Swo ltv) (hl : s.heap.IsTuple l vs.toArray) (hz : vs.length ≤ sizeLine)
    (hS : 2 ≤ vs.length → ∀ (h₁ : Heap) (a : Addr), h₁.get? a = some (seqObj "list" vs.toArray 0) → SortableO prog w A.in1.in1 { s with heap := h₁ } a vs ltv)
    (h : ∀ (h1 h' : Heap) (out : List Value), Srtd ltv out → Stb ltv out vs → (∀ b o, s.heap.get? b = some o → h1.get? b = some o) → (∀ b o, h1.get? b = some o → h'.get? b = some o) → (∃ n, h'.get? h1.objs.size = some (seqObj "list" out.toArray n)) → Q (.ref h1.objs.size) { s with heap := h' }) :
    wpAny (model prog w) A (call (.builtin "sorted") [.ref l]) Q E s := by
  obtain ⟨o, ho, hc, n, hd⟩ := hl
  refine Calls.call_function_entry kind_sorted plain_sorted entry_sorted (args_sorted1 _) ?_
  unfold Builtin.«sorted»
  refine wpAny_bind (m := checkCount "sorted" 1 1 _) (wpAny_pure ?_)
  refine wpAny_bind (wpAny_collect_seq l (.inr rfl) ho hc hd (fun h1 hk => ?_) (by rw [List.size_toArray]; exact hz))
  have e : vs.toArray.toList = vs := by simp
  rw [e]
  refine wpAny_bind (wpAny_newList ?_ hz)
  have hoL : (h1.push (seqObj "list" vs.toArray 0)).get? h1.objs.size = some (seqObj "list" vs.toArray 0) := Heap.get?_push_size _ rfl
  show wpAny _ _ _ _ _ { s with heap := h1.push (seqObj "list" vs.toArray 0) }
  refine wpAny_bind (wpAny_holding (wpAny_call_entry slot_list_sort ⟨_, hoL, rfl⟩ entry_list_sort (list_sort_ord O hoL hz (fun h2 => hS h2 _ _ hoL) fun out hs hb => ⟨_, rfl, ?_⟩) (args_list_sort _)))
  refine wpAny_pure ⟨_, rfl, ?_⟩
  refine h h1 _ out hs hb hk (fun b o q => ?_) (sortedHeap_at hoL)
  have hlt : b < h1.objs.size := Heap.lt_size q
  rw [sortedHeap_old (Nat.ne_of_lt hlt) (by rw [size_push']; exact Nat.lt_succ_of_lt hlt)]
  exact Heap.get?_push_of_some _ q
end
end SrtO
namespace Sp
open PySem PySem.Spec PyProof.Rows L2
/-- sorted(t), t a tuple of ints -/
def rSortedTup (K : PySem.W.Frag) : List V → Hp → VK → Prop := fun vs H Q => ∃ (a : Addr) (ns : List Int), vs = [V.ref a] ∧ SqT K H a (ns.map V.int) ∧
  ∀ (ns' : List Int) (p : Addr), ns'.Perm ns → ns'.Pairwise (· ≤ ·) → H p = none → Q (.ref p) (upd H p (.lst (ns'.map V.int)))
theorem cr_sortedTup {X : Cx} : CallR X (.builtin "sorted") (rSortedTup X.K) := by
  intro pins s σ H vs us Q I r h
  obtain ⟨a, ns, rfl, hs, q⟩ := h
  obtain ⟨its, rv, ht, hz⟩ := I.tuple hs
  rw [Vals.ref1 r]
  have hi := rv.ints
  refine SrtO.sorted_tup SrtO.swo_int ht (by rw [← rv.length]; exact hz) (fun h2 h₁ a' _ => SrtO.ints_sortable hi h2) fun h1 h' out k1 k2 k3 k4 k5 => ?_
  obtain ⟨m1, m2, m3⟩ := SrtO.ints_out hi k1 k2
  obtain ⟨n, he⟩ := k5
  have I1 : Inv X pins σ H { s with heap := h1 } := I.kept (t' := s.toks) k3
  have hlen : ((out.map SrtO.iv).map V.int).length ≤ sizeLine := by
    rw [List.length_map, m2.length_eq]
    rw [List.length_map] at hz
    exact hz
  exact ⟨.ref h1.objs.size, upd H h1.objs.size (.lst ((out.map SrtO.iv).map V.int)), I1.laid (t' := s.toks) (h' := h') (fun b o e => k4 b o e) (Nat.le_refl _) ⟨hlen, out, n, vals_of_ints m1, he⟩, rfl, q _ _ m2 m3 (I1.hok.fresh (Nat.le_refl _))⟩
set_option Elab.async false
set_option linter.all false
set_option maxRecDepth 100000
set_option maxHeartbeats 4000000
open PySem PySem.Spec PyProof.Rows L2
/-- a family of errors: what Python's own class B over them gives -/
structure Fam (B newId initId : String) (bmB : List Value) : Prop where
  base : ExcBaseFacts B newId initId bmB
  store : StoreFacts B bmB "object.__setattr__" "object"
  obj : bmB.contains (.type "object") = true
  ne : bmB.isEmpty = false
abbrev veM : List Value := [.type "ValueError", .type "Exception", .type "BaseException", .type "object"]
abbrev leM : List Value := [.type "LookupError", .type "Exception", .type "BaseException", .type "object"]
theorem famV : Fam "ValueError" "ValueError.__new__" "ValueError.__init__" veM := ⟨F.excBase_ValueError, F.store_ValueError, by decide +kernel, rfl⟩
theorem famL : Fam "LookupError" "LookupError.__new__" "LookupError.__init__" leM := ⟨F.excBase_LookupError, F.store_LookupError, by decide +kernel, rfl⟩
/-- what the written part says of an own error class at C -/
structure XC (K : PySem.W.Frag) (C : Addr) (B newId initId : String) (bmB : List Value) : Prop where
  fam : Fam B newId initId bmB
  cls : ∃ nm q N bs bm sn sub ab col dd k0 k1 k2 k3 k5, K.lookup C = some (excClassObj nm q C N bs bm true sn sub ab col dd k0 k1 k2 k3 k5 newId) ∧ PySem.W.excTail bmB bm = true
  sa : PySem.W.findIn K (.ref C) "__setattr__" = some (some (.builtin "object.__setattr__"))
  kC : PySem.W.keepIn K (.ref C) = true
  ga : PySem.W.findIn K (.ref C) "__getattribute__" = some (some (.builtin "BaseException.__getattribute__"))
  gg : PySem.W.findIn K (.ref C) "__getattr__" = some none
  exC : PySem.W.subIn K (.ref C) (.type "BaseException") = some true
  tyC : PySem.W.typeIn K (.ref C) = some (.type "type")
  hdC : PySem.W.hasDictIn K C = true
  ha : PySem.W.findIn K (.ref C) "__class__" = some (some (.builtin "object.__class__"))
  hn : PySem.W.specialIn K (.builtin "object.__class__") "__get__" = some (some (.builtin "getset_descriptor.__get__"))
  ht : PySem.W.takesIn K (.builtin "object.__class__") = some true
  hm : PySem.W.mroIn K C (.type "object") = some true

section
variable {X : Cx} {pins : List (Addr × Obj)} {σ : L2.St} {H : Hp} {s : Shared} {a C dx : Addr} {f : Str} {y : V} {u : Value} {fs : List (Str × V)} {Q : Unit → Shared → Prop} {E : Value → Shared → Prop} {A : Around} {B newId initId : String} {bmB : List Value}
theorem XC.own {K : PySem.W.Frag} (T : XC K C B newId initId bmB) : ∃ cd, PySem.W.clsIn K C = some cd ∧ PySem.W.excTail bmB cd.mro = true ∧ cd.hasDict = true := by
  obtain ⟨nm, q, N, bs, bm, sn, sub, ab, col, dd, k0, k1, k2, k3, k5, eC, em⟩ := T.cls
  refine ⟨{ name := nm, bases := bs, mro := .ref C :: bm, ns := N, qualname := q, hasDict := true, slotNames := sn, subclasses := sub, abstract := ab, collection := col, hasDel := false }, ?_, em, rfl⟩
  unfold PySem.W.clsIn
  rw [eC]
  all_goals rfl
/-- self.f = y, the first one -/
theorem xst_new (T : XC X.K C B newId initId bmB) (I : Inv X pins σ H s) (e : H a = some (exo a C none)) (no : PySem.W.findIn X.K (.ref C) f = some none) (ry : RelV y u)
    (h : ∀ dx s', H dx = none → dx ≠ a → Inv X pins σ (upd (upd H dx (exd dx [(f, y)])) a (exo a C (some dx))) s' → Q () s') : wpAny (model X.prog X.w) A (setAttr (.ref a) f u) Q E s := by
  obtain ⟨cd, ec, em, ed⟩ := T.own
  obtain ⟨t1, ho⟩ := exo_at I.hok e
  obtain ⟨hp, g, d, t, os⟩ := s
  refine PySem.W.set_plain I.kIn (ox := { cls := .ref C, dict := none, data := .fields #[.ref t1, .none, .none, .none, .bool false, .none] }) (od := none) ⟨ho, rfl, rfl, trivial⟩ T.sa ?_
  refine PySem.SpX.osa_one T.fam.store T.fam.obj T.fam.ne I.kIn ho ec em ed no (fun h' tk' dx k dn dne hx hn => ?_)
  have fresh : H dx = none := I.hok.fresh dn
  have nd : ∀ {b : Addr} {o : Obj}, hp.get? b = some o → b ≠ dx := fun {b o} q => Nat.ne_of_lt (Nat.lt_of_lt_of_le (Heap.lt_size q) dn)
  have na : ∀ {b : Addr}, H b = none → b ≠ a := fun {b} n z => by
    rw [z, e] at n
    cases n
  have U : Un X.fs [] H (upd (upd H dx (exd dx [(f, y)])) a (exo a C (some dx))) hp h' := {
    keep := fun b o q n _ _ => k b o (na n) q
    slot := fun b o q n _ _ => ⟨o.slots, k b o (na n) q⟩
    free := fun b o q n _ => by
      rw [upd_ne (na n), upd_ne (nd q)]
      exact n
    there := fun b o q _ => by
      by_cases hb : b = a
      · exact ⟨_, by rw [hb]; exact hx⟩
      · exact ⟨o, k b o hb q⟩
    tups := fun b xs q => by
      rw [upd_ne (at_ne e q exo_tup), upd_ne (ne_of_none q fresh)]
      exact q
    frzs := fun b o v q => by
      rw [upd_ne (at_ne e q exo_frz), upd_ne (ne_of_none q fresh)]
      exact q
    tbls := fun b ps q => ⟨#[], by
      rw [upd_ne (at_ne e q exo_tbl), upd_ne (ne_of_none q fresh), q]
      simp⟩ }
  refine h dx _ fresh dne (I.un (t' := tk') U fun b o q => ?_)
  by_cases hb : b = a
  · subst hb
    rw [upd_same] at q
    cases q
    exact exo_ok hx
  · rw [upd_ne hb] at q
    by_cases hd : b = dx
    · subst hd
      rw [upd_same] at q
      cases q
      exact exd_ok hn (relO_put (fs := []) ry fun g => True.intro)
    · rw [upd_ne hd] at q
      refine (I.hok b o q).stay (fun c v hc z => k c v ?_ z) (fun c hc => ?_) (fun c xs hc => ?_)
      · rcases hc with hc | hc
        · rw [hc]
          exact hb
        · exact at_ne e hc exo_own
      · rw [upd_ne (at_ne e hc exo_own), upd_ne (ne_of_none hc fresh)]
        exact hc
      · rw [upd_ne (at_ne e hc exo_tup), upd_ne (ne_of_none hc fresh)]
        exact hc
/-- self.f = y, a further one -/
theorem xst_old (T : XC X.K C B newId initId bmB) (I : Inv X pins σ H s) (e : H a = some (exo a C (some dx))) (ed : H dx = some (exd dx fs)) (hl : fs.length ≤ 900) (no : PySem.W.findIn X.K (.ref C) f = some none) (ry : RelV y u)
    (h : ∀ s', Inv X pins σ (upd H dx (exd dx ((f, y) :: fs))) s' → Q () s') : wpAny (model X.prog X.w) A (setAttr (.ref a) f u) Q E s := by
  obtain ⟨cd, ec, em, ec2⟩ := T.own
  obtain ⟨t1, ho⟩ := exo_at I.hok e
  obtain ⟨mA, hns, rel⟩ := exd_at I.hok ed
  have hw := within_of rel
  obtain ⟨hp, g, d, t, os⟩ := s
  obtain ⟨oD, _, _, hoD, _, _⟩ := hns.count hw
  refine PySem.W.set_plain I.kIn (ox := { cls := .ref C, dict := some dx, data := .fields #[.ref t1, .none, .none, .none, .bool false, .none] }) (od := some oD) ⟨ho, rfl, rfl, hoD⟩ T.sa ?_
  refine PySem.SpX.osa_two T.fam.store T.fam.obj T.fam.ne I.kIn ho hns hw (by rw [List.length_map]; omega) ec em ec2 no (fun h' tk' k hn => ?_)
  have hd : ∃ o, h'.get? dx = some o := by
    obtain ⟨o, _, _, e', _⟩ := hn
    exact ⟨o, e'⟩
  exact h _ (I.write (t' := tk') (x := dx) (e := dx) (o := exd dx ((f, y) :: fs)) (by rw [ed]; exact True.intro) (.inl rfl) k hd (exd_ok hn (relO_put ry rel)))
end

/-! ### readings and rules -/
/-- self.f = e in an error's __init__ -/
def tXst (K : PySem.W.Frag) (f : Str) (to te : TE) : TS := fun D σ H => te σ H fun y H1 => to σ H1 fun x H2 => ∃ (a C : Addr) (B newId initId : String) (bmB : List Value), x = .ref a ∧ XC K C B newId initId bmB ∧ PySem.W.findIn K (.ref C) f = some none ∧
  ((H2 a = some (exo a C none) ∧ ∀ dx, H2 dx = none → dx ≠ a → D.nx σ (upd (upd H2 dx (exd dx [(f, y)])) a (exo a C (some dx)))) ∨
    ∃ (dx : Addr) (fs : List (Str × V)), H2 a = some (exo a C (some dx)) ∧ H2 dx = some (exd dx fs) ∧ fs.length ≤ 900 ∧ D.nx σ (upd H2 dx (exd dx ((f, y) :: fs))))
/-- C(.., k = v ..) of an error class with an own __init__, kept as a value -/
def tMkX (C : Addr) (n m : Nat) (sp : Sp) (gV : List V → List V → List V) (t tk : TA) : TE := fun σ H Q => t σ H fun vs H1 => tk σ H1 fun zs H2 => vs.length = n ∧ zs.length = m ∧
  ∀ a, H2 a = none → sp (gV (.ref a :: vs) zs) (upd H2 a (exo a C none)) (fun v H3 => v = .non ∧ Q (.ref a) H3) (fun _ _ _ => False)
/-- x.f of such an error -/
def tXget (K : PySem.W.Frag) (f : Str) (te : TE) : TE := fun σ H Q => te σ H fun x H1 => ∃ (a C d : Addr) (fs : List (Str × V)) (v : V) (B newId initId : String) (bmB : List Value), x = .ref a ∧ XC K C B newId initId bmB ∧ PySem.W.findIn K (.ref C) f = some none ∧
  H1 a = some (exo a C (some d)) ∧ H1 d = some (exd d fs) ∧ fs.lookup f = some v ∧ Q v H1
/-- isinstance(x, c) of such an error -/
def rIsX (K : PySem.W.Frag) : List V → Hp → VK → Prop := fun xs H Q => ∃ (a C : Addr) (d : Option Addr) (c : V) (cv : Value) (b : Bool) (B newId initId : String) (bmB : List Value), xs = [.ref a, c] ∧ XC K C B newId initId bmB ∧ H a = some (exo a C d) ∧
  (∀ dx, d = some dx → ∃ fs, H dx = some (exd dx fs)) ∧ (∀ u, RelV c u → u = cv) ∧ PySem.W.kitOne K (.ref C) cv = some b ∧ Q (.bl b) H
section
variable {X : Cx} {o e : Expr} {es : List Expr} {to te : TE} {t tk : TA} {f : Str} {p p' p1 p2 pos : Pos} {CX : CXT} {k n : Nat} {C fI : Addr} {fd : FuncData} {ps ks : List Str} {sp : Sp} {x : Str} {kws : List Keyword} {g : List Value → List Value → List Value} {gV : List V → List V → List V} {B newId initId : String} {bmB : List Value}
theorem ps_xst (ho : PE X o to) (he : PE X e te) (hs : swapsWith e (some (.Attribute o f p')) pos.line X.env = pure false := by rfl) : PS X (.Assign [.Attribute o f p'] e pos) (tXst X.K f to te) := by
  refine ⟨fun pins s σ H D I h => ?_⟩
  refine plainObj_wpAny_Assign_Attribute (thn (he.run pins s σ H _ I h) fun v s1 ⟨y, H1, I1, r1, q1⟩ => thn (ho.run pins s1 σ H1 _ I1 q1) fun u s2 ⟨x, H2, I2, r2, a, C, B, newId, initId, bmB, ex, T, no, q⟩ => ?_) hs
  subst ex
  obtain rfl : u = Value.ref a := r2
  rcases q with ⟨ea, q⟩ | ⟨dx, fs, ea, ed, hl, q⟩
  · exact xst_new T I2 ea no r1 fun dx s' n ne J => ⟨σ, _, J, q dx n ne⟩
  · exact xst_old T I2 ea ed hl no r1 fun s' J => ⟨σ, _, J, q⟩
theorem run_mkX {pins : List (Addr × Obj)} {σ : L2.St} {H : Hp} {s : Shared} {Q : VK} {us ws : List Value} {vs zs : List V} (T : XC X.K C B newId initId bmB) (iC : PySem.W.findIn X.K (.ref C) "__init__" = some (some (.ref fI)))
    (tI : PySem.W.typeIn X.K (.ref fI) = some (.type "function")) (G : FnOk X.prog X.w X.K X.mg X.base CX k fI fd ps sp) (hr : Room (k + 1) X.A) (hb : KBn X.K fd ps (n + 1) ks g gV) (hx : Passes CX X (fun _ _ _ => False))
    (I : Inv X pins σ H s) (r : Vals vs us) (rz : Vals zs ws) (l1 : vs.length = n) (l2 : zs.length = ks.length) (small : n ≤ 1000)
    (h : ∀ a, H a = none → sp (gV (.ref a :: vs) zs) (upd H a (exo a C none)) (fun v H2 => v = .non ∧ Q (.ref a) H2) (fun _ _ _ => False)) :
    wpAny (model X.prog X.w) X.A (call (.ref C) us (ks.zip ws)) (EP X pins σ Q) X.xe s := by
  obtain ⟨nm, q, N, bs, bm, sn, sub, ab, col, dd, k0, k1, k2, k3, k5, eC, em⟩ := T.cls
  obtain ⟨hp, gs, dr, tk, os⟩ := s
  have up : hp.objs.size ≤ hp.objs.size + 1 := Nat.le_succ _
  have fresh : H (hp.objs.size + 1) = none := I.hok.fresh up
  have hq := h (hp.objs.size + 1) fresh
  have kk : ∀ b o, hp.get? b = some o → ((hp.push (PySem.W.kdv_tup us)).push (PySem.HandSPX.excO C hp.objs.size)).get? b = some o := fun b o e => Heap.get?_push_of_some _ (Heap.get?_push_of_some _ e)
  have got : ((hp.push (PySem.W.kdv_tup us)).push (PySem.HandSPX.excO C hp.objs.size)).get? (hp.objs.size + 1) = some (PySem.HandSPX.excO C hp.objs.size) := by
    heap_get
  have I2 : Inv X pins σ (upd H (hp.objs.size + 1) (exo (hp.objs.size + 1) C none)) ⟨(hp.push (PySem.W.kdv_tup us)).push (PySem.HandSPX.excO C hp.objs.size), gs, dr, tk, os⟩ :=
    I.laid (t' := tk) (a := hp.objs.size + 1) (o := exo (hp.objs.size + 1) C none) (h' := (hp.push (PySem.W.kdv_tup us)).push (PySem.HandSPX.excO C hp.objs.size)) kk up (exo_ok got)
  have r1 : Vals (V.ref (hp.objs.size + 1) :: vs) (Value.ref (hp.objs.size + 1) :: us) := .cons rfl r
  have r2 := hb.rel r1 rz
  have e1 : (Value.ref (hp.objs.size + 1) :: us).length = n + 1 := r1.length.symm.trans (congrArg Nat.succ l1)
  have e2 : ws.length = ks.length := rz.length.symm.trans l2
  have hus : us.length ≤ sizeLine := by
    rw [← Paired.length r, sizeLine_eq]
    omega
  refine wpAny_call (PySem.SpX.call_of T.fam.base (fun Y => PySem.W.excTail_contains Y bm em) (I.kIn _ _ eC) (PySem.W.looks_findIn I.kIn iC) (fun self => PySem.W.bind_fn I.kIn self tI) hus
    (codeAny_mono (G.run _ X.stack _ _ ⟨Value.ref (hp.objs.size + 1) :: us, ks.zip ws⟩ (g (Value.ref (hp.objs.size + 1) :: us) ws) _ _ (fun _ _ _ => False) (hr.make C us (ks.zip ws)) (I2.env0.make C us (ks.zip ws))
      (hb.to _ (Value.ref (hp.objs.size + 1) :: us) ws I2.kIn e1 e2) r2 hq) fun r s' hq' => ?_))
  cases r with
  | error er => exact hx pins σ _ _ er s' I2 hq'
  | ok fl =>
    cases fl with
    | ret u =>
      obtain ⟨v, H', I3, rv, ev, q3⟩ := I2.after hq'
      subst ev
      exact ⟨rv, ⟨V.ref (hp.objs.size + 1), H', I3, rfl, q3⟩⟩
    | next => exact False.elim hq'
    | brk => exact False.elim hq'
    | cont => exact False.elim hq'
/-- C(e ..) -/
theorem pe_mkX (T : XC X.K C B newId initId bmB) (iC : PySem.W.findIn X.K (.ref C) "__init__" = some (some (.ref fI))) (tI : PySem.W.typeIn X.K (.ref fI) = some (.type "function"))
    (G : FnOk X.prog X.w X.K X.mg X.base CX k fI fd ps sp) (hr : Room (k + 1) X.A) (hb : KBn X.K fd ps (n + 1) [] g gV) (hx : Passes CX X (fun _ _ _ => False)) (hg : Gl X x) (hm : X.mg x = some (.ref C)) (ha : PA X (e :: es) t) (small : n ≤ 1000)
    (hdb : (x == ("__debug__" : Str)) = false := by decide) (he : starEach (e :: es) X.env = (false, eval e X.env) :: starEach es X.env := by rfl) (hpl : (backTo pos (starEach es X.env)).any (·.1) = false := by rfl) :
    PE X (.Call (.Name x p) (e :: es) [] pos) (tMkX C n 0 sp gV t tNil) := by
  refine ⟨fun pins s σ H Q I h => ?_⟩
  refine wpAny_Call_Name_kw (ld_glob I hg hm ?_ hdb)
  refine PySem.W.callWith_K (h₀ := X.base) I.ok.mod.kin T.kC (thn (ha.run pos pins s σ H _ I h) fun us s1 ⟨vs, H1, I1, r1, q1⟩ => ⟨I1.kIn, ?_⟩) he hpl
  obtain ⟨l1, l2, q2⟩ := q1
  have z := run_mkX (ks := []) (ws := []) (zs := []) T iC tI G hr hb hx I1 r1 .nil l1 rfl small q2
  exact z
/-- C(k = v ..) -/
theorem pe_mkXK (T : XC X.K C B newId initId bmB) (iC : PySem.W.findIn X.K (.ref C) "__init__" = some (some (.ref fI))) (tI : PySem.W.typeIn X.K (.ref fI) = some (.type "function"))
    (G : FnOk X.prog X.w X.K X.mg X.base CX k fI fd ps sp) (hr : Room (k + 1) X.A) (hb : KBn X.K fd ps 1 ks g gV) (hx : Passes CX X (fun _ _ _ => False)) (hg : Gl X x) (hm : X.mg x = some (.ref C)) (hkw : PK X kws tk)
    (hall : (backToKw pos (keywordEach kws X.env)).all (·.1.isSome) = true := by rfl) (hks : (backToKw pos (keywordEach kws X.env)).filterMap (·.1) = ks := by rfl) (hdb : (x == ("__debug__" : Str)) = false := by decide)
    (hpl : ((backTo pos (starEach [] X.env)).any (·.1) || (backToKw pos (keywordEach kws X.env)).any (·.1.isNone)) = false := by rfl) :
    PE X (.Call (.Name x p) [] kws pos) (tMkX C 0 ks.length sp gV tNil tk) := by
  refine ⟨fun pins s σ H Q I h => ?_⟩
  refine wpAny_Call_Name_kw (ld_glob I hg hm ?_ hdb)
  refine PySem.W.callWith_KW0 (h₀ := X.base) I.ok.mod.kin T.kC hall (thn (hkw.run pos pins s σ H _ I h) fun ws s2 ⟨zs, H2, I2, rz, l1, l2, q2⟩ => ⟨I2.kIn, ?_⟩) hpl
  rw [hks]
  exact run_mkX (us := []) (vs := []) T iC tI G hr hb hx I2 .nil rz rfl l2 (by decide) q2
/-- x.f -/
theorem pe_xget (he : PE X e te) (hb : attributeBase e f X.env (eval e X.env) = eval e X.env := by rfl) : PE X (.Attribute e f pos) (tXget X.K f te) := by
  refine ⟨fun pins s σ H Q I h => ?_⟩
  refine attr_of hb (thn (he.run pins s σ H _ I h) fun u s1 hh => ?_)
  obtain ⟨x, H1, I1, rx, a, C, d, fs, v, B, newId, initId, bmB, ex, T, no, ea, ed, l, q⟩ := hh
  subst ex
  obtain rfl : u = Value.ref a := rx
  obtain ⟨t1, ho⟩ := exo_at I1.hok ea
  obtain ⟨mA, hns, rel⟩ := exd_at I1.hok ed
  obtain ⟨od, ho2, hl⟩ := lookIn_ns hns
  obtain ⟨u, hu, ru⟩ := RelO.some_of (v := v) (o := mA f) (by rw [← l]; exact rel f)
  have J : PySem.W.InstAt s1.heap a { cls := .ref C, dict := some d, data := .fields #[.ref t1, .none, .none, .none, .bool false, .none] } C (some od) := ⟨ho, rfl, rfl, ho2⟩
  exact HandSPX.exc_get I1.kIn J T.ga T.gg T.exC (PySem.W.findObj_own T.hdC no rfl (by rw [hl, hu])) (handed_of ru) ⟨v, H1, I1.tok _, ru, q⟩
/-- isinstance(x, c) -/
theorem call_isX : CallR X (.builtin "isinstance") (rIsX X.K) := by
  intro pins s σ H xs us Q I r h
  obtain ⟨a, C, d, c, cv, b, B, newId, initId, bmB, rfl, T, ea, ed, hcv, e, q⟩ := h
  cases r with
  | cons rx rr =>
    cases rr with
    | cons rt rr =>
      cases rr
      cases rx
      have ec := hcv _ rt
      subst ec
      obtain ⟨t1, ho⟩ := exo_at I.hok ea
      obtain ⟨cd, ec, _, _⟩ := T.own
      have J : ∃ od, PySem.W.InstAt s.heap a { cls := .ref C, dict := d, data := .fields #[.ref t1, .none, .none, .none, .bool false, .none] } C od := by
        cases d with
        | none => exact ⟨none, ho, rfl, rfl, trivial⟩
        | some dx =>
          obtain ⟨fs, hd⟩ := ed dx rfl
          obtain ⟨mA, hns, _⟩ := exd_at I.hok hd
          obtain ⟨od, ho2, _⟩ := lookIn_ns hns
          exact ⟨some od, ho, rfl, rfl, ho2⟩
      obtain ⟨od, J⟩ := J
      exact PySem.W.kia_one (PySem.W.kitx_exc (by rw [ec]; rfl) T.ga T.gg T.exC T.ha T.hn T.ht T.hm) I.kIn J e (fun z => nomatch z) fun tk => ⟨.bl b, H, I.kept (t' := tk) fun _ _ z => z, rfl, q⟩
end
set_option Elab.async false
set_option linter.all false
set_option maxRecDepth 100000
set_option maxHeartbeats 4000000
open PySem PySem.Spec PyProof.Rows L2
/-! ### an error class without an __init__ of its own, made without arguments -/
section
variable {X : Cx}
theorem pe_mk0X {C : Addr} {bmB : List Value} {B newId initId : String} {x : Str} {p pos : Pos} (F : Fam B newId initId bmB) (q : PySem.W.excIn X.K C bmB newId = true) (gC : X.mg x = some (.ref C)) (kC : PySem.W.keepIn X.K (.ref C) = true) (hg : Gl X x)
    (hdb : (x == ("__debug__" : Str)) = false := by decide) :
    PE X (.Call (.Name x p) [] [] pos) (fun _ H Q => ∀ a, H a = none → Q (.ref a) (upd H a (exo a C none))) := by
  refine ⟨fun pins s σ H Q I h => ?_⟩
  refine wpAny_Call_Name_kw (ld_glob I hg gC ?_ hdb)
  refine PySem.W.callWith_K0 I.kIn kC ?_
  obtain ⟨bm, N, nm, qn, bs, hdct, sn, sub, ab, col, dd, k0, k1, k2, k3, k5, mN, hC, hN, hni, T⟩ := exc_obj I.kIn q
  refine wpAny_call_exc_subT F.base T hC hN hni (fun h' a hm => ?_) (by show 0 ≤ sizeLine; exact Nat.zero_le _)
  have hn : H a = none := I.hok.gone hm.new
  obtain ⟨t, ht, _, _⟩ := hm.there
  exact ⟨.ref a, upd H a (exo a C none), I.laidN hm.keeps hm.new hn (exo_ok ht), rfl, h a hn⟩
/-- a text, so many times -/
theorem op_mulS : OpR X (binaryOp .Mult) (fun x y H Q => ∃ (z : Str) (i : Int), x = .str z ∧ y = .int i ∧ z.length ≤ 16 ∧ 0 ≤ i ∧ i ≤ 1048576 ∧ (((Txt.mul z i).length : Int) = (z.length : Int) * i → Q (.str (Txt.mul z i)) H)) := by
  intro pins s σ H x y v u Q I rx ry h
  obtain ⟨z, i, rfl, rfl, h1, h2, h3, q⟩ := h
  obtain ⟨t, rfl⟩ := _root_.id rx
  obtain ⟨t', rfl⟩ := _root_.id ry
  exact PySem.W.KXi.mul rfl h1 (by omega) (by omega) fun t' k _ e => ⟨.str _, H, I.tok _, ⟨_, rfl⟩, q (e h2)⟩
end

/-! ### what repr is asked of -/
mutual
theorem noDict_of {K : PySem.W.Frag} {H : Hp} : ∀ {v : V} {d : PyData}, Dp K H v d → d.hasDict = false
  | _, _, .non => by simp only [PyData.hasDict]
  | _, _, .bl _ => by simp only [PyData.hasDict]
  | _, _, .int _ => by simp only [PyData.hasDict]
  | _, _, .str _ => by simp only [PyData.hasDict]
  | _, _, .lst _ h => by
    simp only [PyData.hasDict]
    exact noDicts_of h
  | _, _, .tup _ h => by
    simp only [PyData.hasDict]
    exact noDicts_of h
theorem noDicts_of {K : PySem.W.Frag} {H : Hp} : ∀ {vs : List V} {ds : List PyData}, DpAll K H vs ds → PyData.hasDictAll ds = false
  | _, _, .nil => by simp only [PyData.hasDictAll]
  | _, _, .cons a b => by
    simp only [PyData.hasDictAll, noDict_of a, noDicts_of b, Bool.or_false]
end
/-- a value that shows as the data d: no dict within, or one of the two dicts that the texts write -/
inductive Gd (K : PySem.W.Frag) (H : Hp) : V → PyData → Prop
  | dp {v : V} {d : PyData} : Dp K H v d → Gd K H v d
  | dk0 {a : Addr} : H a = some (.dK []) → Gd K H (.ref a) (.dict [])
  | dk1 {a t : Addr} {k : Str} {i : Int} : H a = some (.dK [(.inr k, .ref t)]) → H t = some (.tup [.int i]) → Gd K H (.ref a) (.dict [(.str k, .tuple [.int i])])
theorem one_int {h : Heap} {i : Int} : ∀ {l : List Value} {as : List Addr}, ReadsAll h l [.int i] as → as = [] := fun r => by
  cases r with
  | cons a b =>
    cases a
    cases b
    rfl
section
variable {X : Cx} {pins : List (Addr × Obj)} {σ : L2.St} {H : Hp} {s : Shared}
theorem Gd.reads (I : L2.Inv X pins σ H s) {v : V} {d : PyData} {u : Value} (g : Gd X.K H v d) (r : L2.RelV v u) : ∃ as, Reads s.heap u d as ∧ (d.hasDict = true → sysModules ∉ as) := by
  cases g with
  | dp h =>
    obtain ⟨as, q⟩ := Dp.reads I d v u h r
    exact ⟨as, q, fun z => by rw [noDict_of h] at z; cases z⟩
  | dk0 h =>
    rename_i a
    obtain rfl : u = Value.ref a := r
    obtain ⟨_, low, vs, kv, o, es, ep, ho, ⟨hc, _, _⟩, hd, _, pr, _⟩ := dk_of I.hok h
    cases kv
    have e0 : es.toList = [] := by
      cases hh : es.toList with
      | nil => rfl
      | cons x l =>
        rw [hh] at pr
        cases pr
    refine ⟨a :: [] ++ [], Reads.dict (kvs := []) (as := []) (bs := []) ho hc hd ?_ ?_, fun _ hm => ?_⟩
    · rw [e0]
      exact .nil
    · rw [e0]
      exact .nil
    · have e1 : sysModules = a := by simpa using hm
      rw [← e1] at low
      simp at low
  | dk1 h ht =>
    rename_i a t k i
    obtain rfl : u = Value.ref a := r
    obtain ⟨_, low, vs, kv, o, es, ep, ho, ⟨hc, _, _⟩, hd, _, pr, _⟩ := dk_of I.hok h
    cases kv with
    | @cons p1 q1 l1 l2 e1 rest =>
      cases rest
      obtain ⟨k1, u1⟩ := q1
      obtain ⟨e2, e3⟩ := e1
      have e2' : (Sum.inr k : Key) = k1 := e2
      subst e2'
      have e3' : u1 = Value.ref t := e3
      subst e3'
      obtain ⟨en, l0, ek, ev⟩ : ∃ en : DictEntry, es.toList = [en] ∧ keyIs (.inr k) en.key = true ∧ en.val = Value.ref t := by
        cases hh : es.toList with
        | nil =>
          rw [hh] at pr
          cases pr
        | cons x l =>
          rw [hh] at pr
          cases pr with
          | cons a1 a2 a3 =>
            cases a3
            exact ⟨x, rfl, a1, a2⟩
      obtain ⟨tk, ek2⟩ := Value.isStrOf_shape (x := k) (v := en.key) ek
      obtain ⟨bs, rt⟩ := Dp.reads I (.tuple [.int i]) (.ref t) (.ref t) (.tup (SqT.of ht) (.cons (.int i) .nil)) rfl
      have eb : bs = [] := by
        cases rt with
        | tuple _ _ _ r4 => exact one_int r4
      subst eb
      refine ⟨a :: ([] ++ []) ++ ([] ++ []), Reads.dict (kvs := [(.str k, .tuple [.int i])]) ho hc hd ?_ ?_, fun _ hm => ?_⟩
      · rw [l0]
        show ReadsAll s.heap [en.key] [.str k] _
        rw [ek2]
        exact .cons (.str k tk) .nil
      · rw [l0]
        show ReadsAll s.heap [en.val] [.tuple [.int i]] _
        rw [ev]
        exact .cons rt .nil
      · have e1 : sysModules = a := by simpa using hm
        rw [← e1] at low
        simp at low
/-- the items of a list, each by itself -/
theorem Gd.items (I : L2.Inv X pins σ H s) : ∀ {vs : List V} {ds : List PyData} {us : List Value}, Paired (Gd X.K H) vs ds → L2.Vals vs us → PyData.showableAll ds = true → (∀ t ∈ PyData.shownAll ds, t.length ≤ sizeLine) →
    ∃ as bs, ReadsAll s.heap us ds as ∧ ReadAtMost s.heap (PyData.depthAll ds) bs ∧ ReprAllK X.prog X.w bs s.heap (PyData.depthAll ds) us (PyData.shownAll ds)
  | _, _, _, .nil, .nil, _, _ => ⟨[], [], .nil, (fun _ h => nomatch h), by simp only [PyData.shownAll]; exact .nil⟩
  | _, _, _, .cons (a := v) (b := d) g gs, .cons r rs, hs, hz => by
    rename_i ds u us
    have hs' : d.showable = true ∧ PyData.showableAll ds = true := by
      simpa [PyData.showableAll] using hs
    obtain ⟨as1, q1, n1⟩ := g.reads I r
    obtain ⟨b1, h1, k1⟩ := ReprK.of_reads (prog := X.prog) (w := X.w) q1 hs'.1 n1 (hz _ (by simp only [PyData.shownAll]; exact List.mem_cons_self ..))
    obtain ⟨as2, b2, q2, h2, k2⟩ := Gd.items I gs rs hs'.2 (fun t ht => hz t (by simp only [PyData.shownAll]; exact List.mem_cons_of_mem _ ht))
    refine ⟨as1 ++ as2, b1 ++ b2, .cons q1 q2, ?_, ?_⟩
    · simp only [PyData.depthAll]
      exact (h1.mono (by omega)).append (h2.mono (by omega))
    · simp only [PyData.shownAll, PyData.depthAll]
      have k3 := ReprAllK.more_le (as' := b1 ++ b2) (d' := max d.depth (PyData.depthAll ds)) (fun b hb => List.mem_append_left _ hb) (by omega) (.cons k1 .nil)
      cases k3 with
      | cons k4 _ => exact .cons k4 (k2.more_le (fun b hb => List.mem_append_right _ hb) (by omega))
/-- repr of a list of such -/
def rReprL (K : PySem.W.Frag) : List V → Hp → VK → Prop := fun xs H Q => ∃ (a : Addr) (vs : List V) (ds : List PyData), xs = [.ref a] ∧ H a = some (.lst vs) ∧ Paired (Gd K H) vs ds ∧ vs ≠ [] ∧ PyData.showableAll ds = true ∧ PyData.depthAll ds ≤ 60 ∧
  (listText (PyData.shownAll ds)).length ≤ sizeLine ∧ Q (.str (listText (PyData.shownAll ds))) H
theorem call_reprL (hu : X.A.units + 100 < cLine) (hg : X.A.guards = some []) : CallR X (.builtin "repr") (rReprL X.K) := by
  intro pins s σ H xs us Q I r h
  obtain ⟨a, vs, ds, rfl, ha, gs, ne, hs, hd, hz, q⟩ := h
  cases r with
  | cons rx rr =>
    cases rr
    cases rx
    obtain ⟨its, rv, ⟨o, n, ho, hc, _, hdt⟩, _⟩ := I.list (SqL.of ha)
    have hz2 : ∀ t ∈ PyData.shownAll ds, t.length ≤ sizeLine := fun t ht => Nat.le_trans (listText_mem_le ht) hz
    obtain ⟨as, bs, q1, q2, q3⟩ := Gd.items I gs rv hs hz2
    have rd : Reads s.heap (.ref a) (.list ds) (a :: as) := .list ho hc hdt q1
    have na : a ∉ bs := not_mem_of_deeper rd (by simp only [PyData.depth]; omega) q2
    cases its with
    | nil =>
      cases rv
      exact absurd rfl ne
    | cons x l =>
      refine call_repr_slot (by omega) ⟨o, ho, hc⟩ PySem.F.slot_list_repr.toG ?_
      exact call_list_reprK ho hc hdt na (by simpa using q3.length_eq) (fun i y e => q3.item i y (by simpa using e)) hg (fun b _ => Clear.nil b) (by show X.A.units + 1 + (PyData.depthAll ds + 1) < cLine; omega) (fun _ _ e => e)
        (fun h' u tk hk => ⟨_, _, rfl, ⟨.str _, H, I.kept hk, ⟨_, rfl⟩, q⟩⟩) hz
end
set_option Elab.async false
set_option linter.all false
set_option maxRecDepth 100000
set_option maxHeartbeats 4000000
open PySem PySem.Spec PyProof.Rows L2
/-! ### a def that is called where no repr runs -/
structure FnG (P : Program) (w : World) (K : PySem.W.Frag) (mg : Str → Option Value) (base : Heap) (CX : CXT) (k : Nat) (f : Addr) (fd : FuncData) (ps : List Str) (sp : Sp) : Prop where
  len : ∀ vs H Q E, sp vs H Q E → vs.length = ps.length
  run : ∀ (A : Around) (outer : List Env) (s : Shared) (H : Hp) (args : Args) (us : List Value) (vs : List V) (Q : VK) (E : XK), Room k A → A.guards = some [] → Env0 P w K mg base A outer s H → BindsTo s fd args (ps.zip us) → L2.Vals vs us → sp vs H Q E →
    codeAny (model P w) A (.call (.ref f) args) (CR CX outer P w H s Q E) s
section
variable {P : Program} {w : World} {K : PySem.W.Frag} {mg : Str → Option Value} {base : Heap}
theorem okG {CX : CXT} {x qual : Str} {st : Stmt} {f : Addr} {fd : FuncData} {N ps : List Str} {k : Nat} {sp : Sp} (F : Fun K x qual st f fd) (S : FnScope N ps (defScope st)) (len : ∀ vs H Q E, sp vs H Q E → vs.length = ps.length)
    (hbody : ∀ (cdv : Value) (A : Around) (outer : List Env) (s : Shared) (H : Hp) (vs : List V) (Q : VK) (E : XK), Room k (A.deeper (envOfC qual (defScope st) s.heap.objs.size f cdv)) → A.guards = some [] → sp vs H Q E →
      ∃ t, PSs (cxOf CX P w K mg base N qual (defScope st) f cdv A outer s H E).nox (defBody st) t ∧ t { nx := fun _ H' => Q .non H', rt := Q } (start N vs) H) : FnG P w K mg base CX (k + 1) f fd ps sp := by
  obtain ⟨oc, od, kV, doc, pm, an, cdv, ct, osl, rfl, lk, hcd⟩ := F.ex
  refine ⟨len, fun A outer s H args us vs Q E hr hg e0 hb r hsp => ?_⟩
  have many := len _ _ _ _ hsp
  have inK : K.In s.heap := e0.mod.kin.keeps fun b o e => (e0.bs b o e).1
  have lim : s.heap.NoLimit := e0.mod.nolimit.keeps fun b o e => (e0.bs b o e).1
  have kinds : ∀ y ∈ ps.zip us, (defScope st).names.lookup y.1 = some .local ∨ ((defScope st).names.lookup y.1 = some .cell ∧ ((cellsFrom (s.heap.objs.size + 1) (defScope st).names []).lookup y.1).isSome = true) := fun y hy => by
    obtain ⟨n, v⟩ := y
    rcases S.par n (List.of_mem_zip hy).1 with q | q
    · exact .inl q
    · exact .inr ⟨q, PySem.W.cellsFrom_some _ _ _ (.inl q)⟩
  refine codeAny_call_function hr.depth (inK _ _ lk) rfl S.co S.gen rfl (PySem.W.codeRec_of inK hcd) (hb _ _ _ _ ?_)
  refine wpAny_newFunctionEnv_cells S.kind kinds fun env he s1 x => ?_
  subst he
  refine ⟨lim.keeps x.toInCall.keep, codeAny_func ?_⟩
  obtain ⟨t, ht, hq⟩ := hbody cdv A outer s H vs Q E (hr.deeper _) hg hsp
  have I : L2.Inv (cxOf CX P w K mg base N qual (defScope st) f cdv A outer s H E) [] (start N vs) H s1 := inv_start S hr.hd e0 many r x
  refine wpAny_mono (ht.nox.run [] s1 (start N vs) H _ I hq) (fun fl s' hs => ?_) fun e s' hs => hs
  have fin : ∀ {σ' : L2.St} {H' : Hp} {v : V} {u : Value}, L2.Inv (cxOf CX P w K mg base N qual (defScope st) f cdv A outer s H E) [] σ' H' s' → L2.RelV v u → Q v H' → CE outer P w H s Q u s' := fun {σ' H' v u} J rv q => ⟨v, H', J.os, J.bare, J.base, J.hok, rv, q⟩
  cases fl with
  | ret u =>
    obtain ⟨v, σ', H', J, rv, q⟩ := hs
    exact fin J rv q
  | next =>
    obtain ⟨σ', H', J, q⟩ := hs
    exact fin (v := V.non) (u := Value.none) J rfl q
  | brk =>
    obtain ⟨_, _, _, q⟩ := hs
    exact q.elim
  | cont =>
    obtain ⟨_, _, _, q⟩ := hs
    exact q.elim
theorem FnG.of {CX : CXT} {k : Nat} {f : Addr} {fd : FuncData} {ps : List Str} {sp : Sp} (G : FnOk P w K mg base CX k f fd ps sp) : FnG P w K mg base CX k f fd ps sp :=
  ⟨G.len, fun A outer s H args us vs Q E hr _ e0 hb r hsp => G.run A outer s H args us vs Q E hr e0 hb r hsp⟩
end
section
variable {X : Cx} {CX : CXT} {k : Nat} {f : Addr} {fd : FuncData} {ps : List Str} {sp : Sp} {dvs : List V} {ds : List Value} {E : XK} {x : Str} {p pos : Pos} {e : Expr} {es : List Expr} {t : TA}
theorem pe_callG (G : FnG X.prog X.w X.K X.mg X.base CX k f fd ps sp) (hgd : X.A.guards = some []) (hr : Room k X.A) (hg : Gl X x) (hm : X.mg x = some (.ref f)) (hk : PySem.W.keepIn X.K (.ref f) = true) (hb : Binds X.K fd ps ds) (hd : L2.Vals dvs ds) (hx : Passes CX X E)
    (ha : PA X (e :: es) t) (hdb : (x == ("__debug__" : Str)) = false := by decide) (he : starEach (e :: es) X.env = (false, eval e X.env) :: starEach es X.env := by rfl) (hpl : (backTo pos (starEach es X.env)).any (·.1) = false := by rfl) :
    PE X (.Call (.Name x p) (e :: es) [] pos) (tCall sp dvs E t) := by
  refine ⟨fun pins s σ H Q I h => ?_⟩
  refine wpAny_Call_Name_kw (ld_glob I hg hm ?_ hdb)
  refine PySem.W.callWith_K (h₀ := X.base) I.ok.mod.kin hk (thn (ha.run pos pins s σ H _ I h) fun us s1 ⟨vs, H1, I1, r, q⟩ => ⟨I1.kIn, ?_⟩) he hpl
  have r2 : L2.Vals (vs ++ dvs) (us ++ ds) := r.append hd
  have many : (us ++ ds).length = ps.length := by
    rw [← r2.length]
    exact G.len _ _ _ _ q
  refine wpAny_call (codeAny_mono (G.run X.A X.stack s1 H1 ⟨us, []⟩ (us ++ ds) (vs ++ dvs) Q E hr hgd I1.env0 (hb s1 us I1.kIn many) r2 q) fun r s' hq => ?_)
  cases r with
  | error e => exact hx pins σ H1 s1 e s' I1 hq
  | ok fl =>
    cases fl with
    | ret u => exact I1.after hq
    | next => exact hq.elim
    | brk => exact hq.elim
    | cont => exact hq.elim
end

/-! ### the end, where the law's def is such a one -/
theorem law_endG {P : Program} {w : World} {K : PySem.W.Frag} {mg mb : Str → Option Value} {k : Nat} {fa a : Addr} {fd : FuncData} {x : Str} {sp : Sp} {s₁ : Shared} {vs : List Value} {ns : List Int}
    (inK : K.In s₁.heap) (hns : s₁.heap.Ns mainGlobals mg) (hb : s₁.heap.Ns builtinsNs mb) (hbb : ∀ x : Str, x ≠ "__name__" → mb x = bootBuiltins x) (hlim : s₁.heap.NoLimit) (hg : s₁.gens = #[])
    (ha : s₁.heap.get? a = some { cls := .type "list", data := .seq vs.toArray }) (hi : IntsAre vs ns) (hl : ns.length ≤ sizeLine) (hr : Room k callerA)
    (F : ∀ base : Heap, K.In base → base.Ns mainGlobals mg → FnG P w K mg base CX0 k fa fd [x] sp) (hbind : ∀ (s : Shared) (u : Value), BindsTo s fd ⟨[u], []⟩ [(x, u)])
    (hsp : ∀ H : Hp, Only H → SqL K H a (ns.map V.int) → sp [.ref a] H (fun v _ => v = .bl true) fun _ _ _ => False) :
    codeAny (model P w) callerA (.call (.ref fa) ⟨[.ref a], []⟩) (fun r s' => r = .ok (.ret (.bool true)) ∧ OldK s₁.heap s'.heap ∧ s'.os = s₁.os ∧ AllBare s'.gens) s₁ := by
  have rv := vals_ints hi
  have many := hi.length
  have core : ∀ H : Hp, Only H → SqL K H a (ns.map V.int) → HOk P w H s₁.heap → (∀ b, H b ≠ none → b = a) → (H a ≠ none → K.lookup a = none) →
      codeAny (model P w) callerA (.call (.ref fa) ⟨[.ref a], []⟩) (fun r s' => r = .ok (.ret (.bool true)) ∧ OldK s₁.heap s'.heap ∧ s'.os = s₁.os ∧ AllBare s'.gens) s₁ := by
    intro H hO hS ok one out
    have low : ∀ {b : Addr} {o : Obj} {es : Array DictEntry} {ep : Nat}, s₁.heap.get? b = some o → o.data = .dict es ep → H b = none := fun {b o es ep} e d => by
      cases q : H b with
      | none => rfl
      | some u =>
        have e2 : b = a := one b (by rw [q]; simp)
        rw [e2, ha] at e
        cases e
        have z : Data.seq vs.toArray _ = Data.dict es ep := d
        cases z
    have ns_ : ∀ {b : Addr} {m : Str → Option Value}, s₁.heap.Ns b m → (hidT s₁.heap H).Ns b m := fun {b m} x => by
      obtain ⟨o, es, ep, e, d, r⟩ := x
      exact ⟨o, es, ep, hidT_get e (low e d), d, r⟩
    have inB : K.In (hidT s₁.heap H) := fun b o e => hidT_get (inK b o e) (by
      cases q : H b with
      | none => rfl
      | some u =>
        have e2 : b = a := one b (by rw [q]; simp)
        have n2 := out (by rw [← e2, q]; simp)
        rw [e2, n2] at e
        cases e)
    obtain ⟨mc, m1, m2⟩ := hlim
    have e0 : Env0 P w K mg (hidT s₁.heap H) callerA [] s₁ H :=
      ⟨rfl, ⟨inB, ns_ hns, ⟨mb, ns_ hb, hbb⟩, mc, ns_ m1, m2⟩, fun b o e => of_hidT e, Nat.le_of_eq (hidT_size _ _), trivial, fun b hb => absurd (show b ∈ ([] : List Addr) from hb) (by simp), ok, .of_eq hg⟩
    refine codeAny_mono ((F _ inB (ns_ hns)).run callerA [] s₁ H ⟨[.ref a], []⟩ [.ref a] [.ref a] _ _ hr rfl e0 (hbind s₁ (.ref a)) (.cons rfl .nil) (hsp H hO hS)) fun r s' h => ?_
    cases r with
    | error e => exact (show False from h).elim
    | ok fl =>
      cases fl with
      | ret u =>
        obtain ⟨v, H', os, bare, un, ok2, rel, q⟩ := h
        have q2 : v = .bl true := q
        rw [q2] at rel
        obtain rfl : u = Value.bool true := rel
        refine ⟨rfl, OldK.of_keep fun b o e => ?_, os, bare⟩
        rcases hO b with z | ⟨ob, xs, z⟩
        · exact un.keep b o e z (by intro y; exact absurd (show b ∈ ([] : List Addr) from y) (by simp)) (by simp)
        · obtain ⟨e1, _⟩ := ok b _ z
          obtain ⟨e2, _⟩ := ok2 b _ (un.frzs b ob _ z)
          rw [e] at e1
          cases e1
          exact e2
      | next => exact (show False from h).elim
      | brk => exact (show False from h).elim
      | cont => exact (show False from h).elim
  cases hk : K.lookup a with
  | some o =>
    have e := inK a o hk
    rw [ha] at e
    cases e
    exact core (fun _ => none) (fun _ => .inl rfl) (.inr ⟨_, vs.toArray, _, hk, rfl, rfl, rfl, by rw [List.size_toArray, many]; exact hl, by simpa using rv⟩) (fun b u z => by have z2 : (none : Option HO) = some u := z; cases z2) (fun b z => absurd rfl z) fun z => absurd rfl z
  | none =>
    refine core (fun b => if b = a then some (.frz { cls := .type "list", data := .seq vs.toArray } (.lst (ns.map V.int))) else none) (fun b => ?_) (.inl (.inr ⟨_, if_pos rfl⟩)) (fun b u z => ?_) (fun b z => ?_) fun _ => hk
    · by_cases hb : b = a
      · exact .inr ⟨_, _, if_pos hb⟩
      · exact .inl (if_neg hb)
    · by_cases hb : b = a
      · subst hb
        have z2 := (if_pos rfl).symm.trans z
        cases z2
        exact ⟨ha, by rw [List.length_map]; exact hl, vs, _, rv, ha⟩
      · have z2 := (if_neg hb).symm.trans z
        cases z2
    · by_cases hb : b = a
      · exact hb
      · exact absurd (if_neg hb) z
theorem walk_G {l : PySem.W.OpenLaw} {n k : Nat} {q : Program} {loose : List Str} {XP : (Str → Option Value) → Heap → Prop} {YP : World → Heap → Prop} {d : DefRec} {K : Params → PySem.W.Frag} {sp : PySem.W.Frag → Sp} {x : Str}
    (hn : l.most = some n) (hn2 : n ≤ sizeLine) (hdf : d.params.defaults = []) (hr : Room k callerA)
    (hY : ∀ (w : World) (h : Heap), YP w h → (K w.params).In h)
    (F : ∀ (w : World) (mg : Str → Option Value) (fa : Addr) (h : Heap), (K w.params).In h → h.Ns mainGlobals mg → mg d.name = some (.ref fa) →
      ∃ fd : FuncData, (∀ (s : Shared) (u : Value), BindsTo s fd ⟨[u], []⟩ [(x, u)]) ∧
        ∀ base : Heap, (K w.params).In base → base.Ns mainGlobals mg → FnG l.prog w (K w.params) mg base CX0 k fa fd [x] (sp (K w.params)))
    (hsp : ∀ (K : PySem.W.Frag) (H : Hp) (a : Addr) (ns : List Int), ns.length ≤ n → Only H → SqL K H a (ns.map V.int) → sp K [.ref a] H (fun v _ => v = .bl true) fun _ _ _ => False) :
    PySem.W.WalkO q loose XP YP l.row.toRowW d [] (fun f vs => PySem.call f vs) := by
  refine Att.attach_call hn hdf fun w s₀ s₁ mg mb fa o pm cd doc a vs ns G Y ho hd hcd hmg hobj hints hlen hg => ?_
  have inK := hY w _ Y
  obtain ⟨fd, hb, hF⟩ := F w mg fa _ inK G.T.g hmg
  exact law_endG inK G.T.g G.T.b G.T.builtins G.T.nolimit hg hobj hints (Nat.le_trans hlen hn2) hr hF hb (fun H hO hS => hsp (K w.params) H a ns hlen hO hS)
set_option Elab.async false
set_option linter.all false
set_option maxRecDepth 100000
set_option maxHeartbeats 4000000
open PySem PySem.Spec PyProof.Rows L2
section
variable {X : Cx} {CX : CXT} {n : Nat} {C f a dx : Addr} {fd : FuncData} {ps : List Str} {sp : Sp} {E : XK} {pins : List (Addr × Obj)} {σ : L2.St} {H : Hp} {s : Shared} {A : Around} {fs : List (Str × V)} {Q : VK}
/-- a def called as it stands, at a deeper place of the same frames -/
theorem run_own {vs : List V} {us : List Value} {Q' : VK} (sb : L2.Sub X n A) (F : FnOk X.prog X.w X.K X.mg X.base CX n f fd ps sp) (hb : L2.Binds X.K fd ps []) (hx : Passes CX X E) (I : Inv X pins σ H s) (r : Vals vs us) (h : sp vs H Q' E) :
    wpAny (model X.prog X.w) A (call (.ref f) us) (fun v s' => ∃ x H', Inv X pins σ H' s' ∧ RelV x v ∧ Q' x H') X.xe s := by
  have e0 : Env0 X.prog X.w X.K X.mg X.base A X.stack s H := by
    have e := I.env0
    exact ⟨by rw [sb.fr]; exact e.frames, e.mod, e.bs, e.bsz, e.funs, e.frf, e.hok, e.bare⟩
  have hl := F.len _ _ _ _ h
  refine wpAny_call (codeAny_mono (F.run A X.stack s H ⟨us, []⟩ us vs Q' E sb.room e0 (by
    have := hb s us I.kIn (by rw [List.append_nil, ← r.length]; exact hl)
    simpa using this) r h) fun r s' hq => ?_)
  cases r with
  | error e => exact hx pins σ H s e s' I hq
  | ok fl =>
    cases fl with
    | ret w =>
      obtain ⟨z, H', I', rz, q⟩ := I.after hq
      exact ⟨z, H', I', rz, q⟩
    | next => exact False.elim hq
    | brk => exact False.elim hq
    | cont => exact False.elim hq
/-- the own == of the class at C -/
structure EqC (K : PySem.W.Frag) (C f : Addr) : Prop where
  eq : PySem.W.findIn K (.ref C) "__eq__" = some (some (.ref f))
  fn : PySem.W.isFn K (.ref f) = true
  ne : PySem.W.findIn K (.ref C) "__ne__" = some (some (.builtin "object.__ne__"))
  ob : PySem.W.mroIn K C (.type "object") = some true
/-- x == y by the def of x's class -/
def rEqI (K : PySem.W.Frag) (C : Addr) (sp : Sp) (E : XK) : R2 := fun x y H Q => ∃ (a dx : Addr) (fs : List (Str × V)) (t : Value), x = .ref a ∧ H a = some (.ins C dx fs) ∧ TyX K H y t ∧ PySem.W.notFirst K C t = true ∧ sp [.ref a, y] H (fun v H' => ∃ b, v = .bl b ∧ Q (.bl b) H') E
def rNeI (K : PySem.W.Frag) (C : Addr) (sp : Sp) (E : XK) : R2 := fun x y H Q => ∃ (a dx : Addr) (fs : List (Str × V)) (t : Value), x = .ref a ∧ H a = some (.ins C dx fs) ∧ TyX K H y t ∧ PySem.W.notFirst K C t = true ∧ sp [.ref a, y] H (fun v H' => ∃ b, v = .bl b ∧ Q (.bl (!b)) H') E
theorem op_eqI (T : EqC X.K C f) (F : FnOk X.prog X.w X.K X.mg X.base CX n f fd ps sp) (hr : Room n X.A) (hb : L2.Binds X.K fd ps []) (hx : Passes CX X E) : OpR X (compareOp .Eq) (rEqI X.K C sp E) := by
  intro pins s σ H x y v u Q I rx ry h
  obtain ⟨a, dx, fs, t, rfl, ea, ty, nf, h⟩ := h
  cases rx
  obtain ⟨mA, J, _⟩ := ins_get I.hok ea
  obtain ⟨od, J, _⟩ := J.look
  obtain ⟨m, hF⟩ := I.fr
  obtain ⟨P, Z, p, hn⟩ := kit_of I ry ty
  show wpAny (model X.prog X.w) X.A (richCompare .Eq (.ref a) u) (EP X pins σ Q) X.xe s
  refine PySem.W.cmp_K (op := .Eq) hr.units0 hF I.ok.mod.kin J (Z.ty _ _ I.kIn p) nf T.eq T.fn (wpAny_mono (run_own ⟨hr, rfl⟩ F hb hx I (.cons (show L2.RelV (.ref a) (.ref a) from rfl) (.cons ry .nil)) h) (fun w s' q => ?_) fun _ _ e => e)
  obtain ⟨z, H', I', rz, b, rfl, q⟩ := q
  cases rz
  exact ⟨.bl b, H', I', rfl, q⟩
open Builtin in
theorem objNe_K {K : PySem.W.Frag} {prog : Program} {w : World} {od : Option Obj} {ox : Obj} {b : Value} {Q : Value → Shared → Prop} {E : Value → Shared → Prop} (hu : A.in1.units < cLine) (X : K.In s.heap) (I : PySem.W.InstAt s.heap a ox C od) (T : EqC K C f)
    (h : wpAny (model prog w) A.in1 (call (.ref f) [.ref a, b]) (fun v s' => ∃ b, v = .bool b ∧ Q (.bool (!b)) s') E s) : wpAny (model prog w) A (call (.builtin "object.__ne__") [.ref a, b]) Q E s := by
  refine wpAny_call (codeAny_call_builtin PySem.F.slot_object_ne.plain PySem.F.entry_object_ne (PySem.W.check_slot (i := "object.__ne__") (owner := "object") (n := "__ne__") (by decide +kernel) (by decide +kernel) (I.type.andThen (PySem.W.looks_mroIn X T.ob)) (PySem.F.args_object_ne_2 _ _) ?_))
  unfold Builtin.«object.__ne__»
  refine wpAny_bind (m := slotArgs "__ne__" 1 _) (wpAny_pure ?_)
  refine wpAny_bind (m := cRoomFor _ _) (wpAny_cRoomFor hu ?_)
  refine wpAny_bind (m := callSpecialIfBound? (.ref a) (Str.ofString "__eq__") _) (PySem.W.ifBound_K X I T.eq T.fn (wpAny_mono h (fun r s' hq => ?_) fun _ _ y => y))
  obtain ⟨c, rfl, hq⟩ := hq
  show wpAny _ _ (truthy (.bool c) >>= fun x => ret (.bool (!x))) _ _ _
  refine wpAny_bind (wpAny_truthy_bool ?_)
  exact wpAny_pure hq
theorem ifBoundB {K : PySem.W.Frag} {M : Model} {od : Option Obj} {ox : Obj} {name : Str} {id : String} {args : List Value} {Q : Option Value → Shared → Prop} {E : Value → Shared → Prop} (X : K.In s.heap) (I : PySem.W.InstAt s.heap a ox C od) (hs : PySem.W.findIn K (.ref C) name = some (some (.builtin id)))
    (hb : ∀ self, bindSpecial (.builtin id) self = pure (.builtin id, [self])) (h : wpAny M A (call (.builtin id) (.ref a :: args)) (fun v => Q (some v)) E s) : wpAny M A (callSpecialIfBound? (.ref a) name args) Q E s := by
  simp only [callSpecialIfBound?, bindSpecialIfBound?]
  refine wpAny_holding (wpAny_bind (wpAny_bind (wpAny_bind (I.type.here ((PySem.W.looks_findIn X hs).here ?_)))))
  simp only [hb]
  refine wpAny_bind (wpAny_askSetting (wpAny_ite ?_))
  have fin : wpAny M A (call (.builtin id) ([.ref a] ++ args) >>= fun v => pure (some v)) Q E s := wpAny_bind (wpAny_mono h (fun v s' h' => wpAny_pure h') fun _ _ h' => h')
  split
  · exact wpAny_bind (wpAny_pure (wpAny_pure fin))
  · exact wpAny_tryCatch (wpAny_bind (wpAny_pure (wpAny_pure fin)))
theorem ne_K {K : PySem.W.Frag} {prog : Program} {w : World} {od : Option Obj} {ox : Obj} {b tb : Value} {Q : Value → Shared → Prop} {E : Value → Shared → Prop} (hu : A.units < cLine) (hu2 : A.in1.units < cLine) (X : K.In s.heap) (I : PySem.W.InstAt s.heap a ox C od)
    (hb : PySem.W.Looks (model prog w) s.heap (typeOf b) tb) (hn : PySem.W.notFirst K C tb = true) (T : EqC K C f)
    (h : wpAny (model prog w) A.in1 (call (.ref f) [.ref a, b]) (fun v s' => ∃ b, v = .bool b ∧ Q (.bool (!b)) s') E s) : wpAny (model prog w) A (richCompare .NotEq (.ref a) b) Q E s := by
  have one : wpAny (model prog w) A (tryCompare (.ref a) (cmpInfo .NotEq).2.1 b) (fun r s' => ∃ v, r = some v ∧ Q v s') E s := by
    unfold tryCompare
    refine wpAny_bind (ifBoundB X I T.ne PySem.F.slot_object_ne.bind (objNe_K (A := A) hu2 X I T (wpAny_mono h (fun v s' hv => ?_) fun _ _ e => e)))
    obtain ⟨c, rfl, hq⟩ := hv
    exact ⟨c, rfl, wpAny_pure ⟨_, rfl, hq⟩⟩
  unfold richCompare
  simp only [oneThing_ref]
  refine wpAny_holding (wpAny_bind (wpAny_cRoomFor hu ?_))
  refine wpAny_bind (I.type.here (wpAny_bind (hb.here ?_)))
  split
  · rename_i q
    have e : PySem.W.subIn K tb (.ref C) = some false := by
      rcases Bool.or_eq_true_iff.mp hn with e | e
      · rw [beq_iff_eq.mp e] at q; simp at q
      · exact beq_iff_eq.mp e
    refine wpAny_bind ((PySem.W.looks_subIn X e).here ?_)
    simp only [Bool.false_eq_true, if_false]
    refine wpAny_bind (wpAny_mono one (fun r s' z => ?_) fun _ _ e => e)
    obtain ⟨v, rfl, hq⟩ := z
    exact wpAny_pure hq
  · refine wpAny_bind (wpAny_pure ?_)
    simp only [Bool.false_eq_true, if_false]
    refine wpAny_bind (wpAny_mono one (fun r s' z => ?_) fun _ _ e => e)
    obtain ⟨v, rfl, hq⟩ := z
    exact wpAny_pure hq
theorem op_neI (T : EqC X.K C f) (F : FnOk X.prog X.w X.K X.mg X.base CX n f fd ps sp) (hr : Room (n + 1) X.A) (hb : L2.Binds X.K fd ps []) (hx : Passes CX X E) : OpR X (compareOp .NotEq) (rNeI X.K C sp E) := by
  intro pins s σ H x y v u Q I rx ry h
  obtain ⟨a, dx, fs, t, rfl, ea, ty, nf, h⟩ := h
  cases rx
  obtain ⟨mA, J, _⟩ := ins_get I.hok ea
  obtain ⟨od, J, _⟩ := J.look
  obtain ⟨P, Z, p, hn⟩ := kit_of I ry ty
  show wpAny (model X.prog X.w) X.A (richCompare .NotEq (.ref a) u) (EP X pins σ Q) X.xe s
  refine ne_K hr.units0 hr.in1.units0 I.kIn J (Z.ty _ _ I.kIn p) nf T (wpAny_mono (run_own ⟨hr.in1, rfl⟩ F hb hx I (.cons (show L2.RelV (.ref a) (.ref a) from rfl) (.cons ry .nil)) h) (fun w s' q => ?_) fun _ _ e => e)
  obtain ⟨z, H', I', rz, b, rfl, q⟩ := q
  cases rz
  exact ⟨b, rfl, .bl (!b), H', I', rfl, q⟩
/-- str(x) by the def of x's class -/
def rStrI (C : Addr) (sp : Sp) (E : XK) : List V → Hp → VK → Prop := fun xs H Q => ∃ (a dx : Addr) (fs : List (Str × V)), xs = [.ref a] ∧ H a = some (.ins C dx fs) ∧ sp [.ref a] H (fun v H' => ∃ z, v = .str z ∧ Q (.str z) H') E
theorem call_strI (hs : PySem.W.findIn X.K (.ref C) "__str__" = some (some (.ref f))) (hf : PySem.W.isFn X.K (.ref f) = true) (F : FnOk X.prog X.w X.K X.mg X.base CX n f fd ps sp) (hr : Room (n + 2) X.A) (hb : L2.Binds X.K fd ps []) (hx : Passes CX X E) :
    CallR X (.type "str") (rStrI C sp E) := by
  intro pins s σ H xs us Q I r h
  obtain ⟨a, dx, fs, rfl, ea, h⟩ := h
  obtain ⟨mA, J, _⟩ := ins_get I.hok ea
  obtain ⟨od, J, _⟩ := J.look
  rw [Vals.ref1 r]
  refine PySem.W.kso_call hr.in1.in1.units0 I.kIn J hs hf (wpAny_mono (run_own ⟨hr.in1.in1, rfl⟩ F hb hx I (.cons (show L2.RelV (.ref a) (.ref a) from rfl) .nil) h) (fun w s' q => ?_) fun _ _ e => e)
  obtain ⟨z, H', I', rz, y, rfl, q⟩ := q
  obtain ⟨t, rfl⟩ := rz
  exact ⟨.str y, H', I', ⟨t, rfl⟩, q⟩
theorem call_reprI (hs : PySem.W.findIn X.K (.ref C) "__repr__" = some (some (.ref f))) (hf : PySem.W.isFn X.K (.ref f) = true) (F : FnOk X.prog X.w X.K X.mg X.base CX n f fd ps sp) (hr : Room (n + 1) X.A) (hb : L2.Binds X.K fd ps []) (hx : Passes CX X E) :
    CallR X (.builtin "repr") (rStrI C sp E) := by
  intro pins s σ H xs us Q I r h
  obtain ⟨a, dx, fs, rfl, ea, h⟩ := h
  obtain ⟨mA, J, _⟩ := ins_get I.hok ea
  obtain ⟨od, J, _⟩ := J.look
  obtain ⟨m, hF⟩ := I.fr
  rw [Vals.ref1 r]
  refine PySem.W.repr_K hr.in1.units0 hF I.ok.mod.kin J hs hf (wpAny_mono (run_own ⟨hr.in1, rfl⟩ F hb hx I (.cons (show L2.RelV (.ref a) (.ref a) from rfl) .nil) h) (fun w s' q => ?_) fun _ _ e => e)
  obtain ⟨z, H', I', rz, y, rfl, q⟩ := q
  obtain ⟨t, rfl⟩ := rz
  exact ⟨.str y, H', I', ⟨t, rfl⟩, q⟩
end
set_option Elab.async false
set_option linter.all false
set_option maxRecDepth 100000
set_option maxHeartbeats 4000000
open PySem PySem.Spec PyProof.Rows L2
/-- o.m(k = v, ..), o an instance of the class at C -/
def tMethK (C : Addr) (m : Str) (j : Nat) (sp : Sp) (gV : List V → List V → List V) (E : XK) (ta : TE) (tk : TA) : TE := fun σ H Q => ta σ H fun x H1 => ∃ a dx fs, x = .ref a ∧ H1 a = some (.ins C dx fs) ∧ fs.lookup m = none ∧
  tk σ H1 fun zs H2 => zs.length = j ∧ sp (gV [.ref a] zs) H2 Q E
section
variable {X : Cx} {CX : CXT} {k : Nat} {f C : Addr} {fd : FuncData} {ps ks : List Str} {sp : Sp} {E : XK} {m : Str} {pos apos : Pos} {o : Expr} {kws : List Keyword} {ta : TE} {tk : TA} {g : List Value → List Value → List Value} {gV : List V → List V → List V}
theorem pe_methK0 {pl : Sem Bool} (he : PE X o ta) (c : Cls X.K C) (hm : Meth X.K C m f) (F : FnOk X.prog X.w X.K X.mg X.base CX k f fd ps sp) (hr : Room k X.A) (hb : KBn X.K fd ps 1 ks g gV) (hx : Passes CX X E) (hkw : PK X kws tk)
    (hall : (backToKw pos (keywordEach kws X.env)).all (·.1.isSome) = true := by rfl) (hks : (backToKw pos (keywordEach kws X.env)).filterMap (·.1) = ks := by rfl)
    (hpl : ((backTo pos (starEach [] X.env)).any (·.1) || (backToKw pos (keywordEach kws X.env)).any (·.1.isNone)) = false := by rfl)
    (ht : eval (.Call (.Attribute o m apos) [] kws pos) X.env = (do
      let ov ← eval o X.env
      standAt apos.atName
      let (f, first) ← holding [ov] (getMethod ov m pl)
      callWith pos f first (backTo pos (starEach [] X.env)) (backToKw pos (keywordEach kws X.env))) := by rfl) :
    PE X (.Call (.Attribute o m apos) [] kws pos) (tMethK C m ks.length sp gV E ta tk) := by
  refine ⟨fun pins s σ H Q I h => ?_⟩
  refine PySem.W.methodCall_KW (pl := pl) (thn (he.run pins s σ H _ I h) fun u s1 ⟨x, H1, I1, rx, a, dx, fs, ex, ea, l, q⟩ => ?_) ht
  subst ex
  obtain rfl : u = Value.ref a := rx
  refine getmeth_ok I1 ea c hm l ?_
  refine PySem.W.callWith_KW0 (first := [.ref a]) (h₀ := X.base) I1.ok.mod.kin hm.kp hall ?_ hpl
  refine thn (hkw.run pos pins s1 σ H1 _ I1 q) fun ws s2 ⟨zs, H2, I2, rz, l1, q2⟩ => ⟨I2.kIn, ?_⟩
  rw [hks]
  exact run_fnN (us := [.ref a]) (vs := [.ref a]) F hr hb hx I2 (.cons (show L2.RelV (.ref a) (.ref a) from rfl) .nil) rz rfl l1 q2
/-- def m(self, name), called with the name by its name -/
theorem Fun.kbn {K : PySem.W.Frag} {x qual : Str} {st : Stmt} {p1 p2 : Str} (F : Fun K x qual st f fd)
    (h : ∀ (kV doc pm : Value) (an : Option Addr) (cdv ct u w : Value), bindArgs (PySem.W.fnOf x qual (defArgs st) (defBody st) (defScope st) .none kV doc pm an cdv ct) ⟨[u], [(p2, w)]⟩ = pure [(p1, u), (p2, w)]) :
    KBn K fd [p1, p2] 1 [p2] (fun us ws => us ++ ws) (fun vs zs => vs ++ zs) := by
  obtain ⟨oc, od, kV, doc, pm, an, cdv, ct, osl, rfl, lk, hcd⟩ := F.ex
  refine ⟨fun s us ws _ l1 l2 => ?_, fun r1 r2 => r1.append r2⟩
  match us, l1, ws, l2 with
  | [u], _, [w], _ => exact .of_eq (h kV doc pm an cdv ct u w)
end
set_option Elab.async false
set_option maxRecDepth 100000
set_option maxHeartbeats 4000000
open PySem PySem.Spec PyProof.Rows L2
/-- what has no own truth and no length -/
structure TruC (K : PySem.W.Frag) (C : Addr) : Prop where
  nb : PySem.W.findIn K (.ref C) "__bool__" = some none
  nl : PySem.W.findIn K (.ref C) "__len__" = some none
theorem meets_bool_inst {K : PySem.W.Frag} {a C : Addr} {ox : Obj} {od : Option Obj} (T : TruC K C) :
    Meets (Builtin.«bool.__new__» ⟨[.type "bool", .ref a], []⟩) (fun _ R s => K.In s.heap ∧ PySem.W.InstAt s.heap a ox C od ∧ R (.ok (.ret (.bool true))) s) :=
  .of_wp fun prog w A R s h => by
    obtain ⟨X, I, hs⟩ := h
    obtain ⟨hp, g, d, tk, os⟩ := s
    have f1 := F.conv_sub_bool
    have tr : ∀ {M : Model} {A : Around} {Q : Bool → Shared → Prop} {E : Value → Shared → Prop}, Q true ⟨hp, g, d, tk, os⟩ → wpAny M A (truthy (.ref a)) Q E ⟨hp, g, d, tk, os⟩ := fun h => by
      unfold truthy
      refine wpAny_bind (m := callSpecial? (.ref a) (Str.ofString "__bool__")) (wpAny_bind (wpAny_bind (I.type.here ((PySem.W.looks_findIn X T.nb).here (wpAny_pure ?_)))))
      refine wpAny_bind (wpAny_bind (I.type.here ((PySem.W.looks_findIn X T.nl).here ?_)))
      exact wpAny_pure h
    repeat (any_goals (first | assumption | (with_reducible refine tr ?_) | wp_step))
    all_goals first | exact ⟨_, rfl, hs⟩ | exact hs | skip
theorem call_boolI {X : Cx} {C : Addr} (T : TruC X.K C) : CallR X (.type "bool") (fun xs H Q => ∃ (a dx : Addr) (fs : List (Str × V)), xs = [.ref a] ∧ H a = some (.ins C dx fs) ∧ Q (.bl true) H) := by
  intro pins s σ H xs us Q I r h
  obtain ⟨a, dx, fs, rfl, ea, q⟩ := h
  obtain ⟨mA, J, _⟩ := ins_get I.hok ea
  obtain ⟨od, J, _⟩ := J.look
  rw [Vals.ref1 r]
  refine PySem.call_bool_1 (meets_bool_inst T) ⟨I.kIn, J, ?_⟩
  exact ⟨rfl, .bl true, H, I, rfl, q⟩
set_option Elab.async false
set_option linter.all false
set_option maxRecDepth 100000
set_option maxHeartbeats 4000000
open PySem PySem.Spec PyProof.Rows L2
/-- C.m is a staticmethod: its record at p, its def at g -/
structure SMet (K : PySem.W.Frag) (C : Addr) (mc : Value) (m : Str) (p g : Addr) : Prop where
  at_ : PySem.W.findCls K (.ref C) mc m = some (.get (.builtin "staticmethod.__get__") (.ref p) .none (.ref C))
  rc : ∃ rest, PySem.W.recIn K p "staticmethod" = some (.ref g :: rest)
  kp : PySem.W.keepIn K (.ref g) = true
def tSMeth (C : Addr) (sp : Sp) (dvs : List V) (E : XK) (ta : TE) (t : TA) : TE := fun σ H Q => ta σ H fun x H1 => x = .ref C ∧ t σ H1 fun vs H2 => sp (vs ++ dvs) H2 Q E
def tSMethK (C : Addr) (j : Nat) (sp : Sp) (gV : List V → List V → List V) (E : XK) (ta : TE) (tk : TA) : TE := fun σ H Q => ta σ H fun x H1 => x = .ref C ∧ tk σ H1 fun zs H2 => zs.length = j ∧ sp (gV [] zs) H2 Q E
section
variable {X : Cx} {CX : CXT} {k : Nat} {C p f : Addr} {mc : Value} {fd : FuncData} {ps ks : List Str} {sp : Sp} {dvs : List V} {ds : List Value} {E : XK} {m : Str} {pos apos : Pos} {o e : Expr} {es : List Expr} {kws : List Keyword} {ta : TE} {t tk : TA} {g : List Value → List Value → List Value} {gV : List V → List V → List V} {pins : List (Addr × Obj)} {σ : L2.St} {H : Hp} {s : Shared} {A : Around}
theorem getmethsm_ok {pl : Sem Bool} {Q : Value × List Value → Shared → Prop} {E : Value → Shared → Prop} (I : L2.Inv X pins σ H s) (r : ClX.CRead X.K C mc) (c : SMet X.K C mc m p f) (h : ∀ s', L2.Inv X pins σ H s' → Q (.ref f, []) s') : wpAny (model X.prog X.w) A (getMethod (.ref C) m pl) Q E s := by
  obtain ⟨rest, hp⟩ := c.rc
  refine PySem.W.method_cls I.kIn r.ga ?_
  refine PySem.W.cls_bind I.kIn r.rd c.at_ ?_
  exact wpAny_call (PySem.W.sm_get (s := { s with toks := s.toks + 1 }) I.kIn hp (PySem.W.handed_on rfl (h _ (I.tok _))))
theorem pe_smeth {pl : Sem Bool} (he : PE X o ta) (r : ClX.CRead X.K C mc) (c : SMet X.K C mc m p f) (F : FnOk X.prog X.w X.K X.mg X.base CX k f fd ps sp) (hr : Room k X.A) (hb : L2.Binds X.K fd ps ds) (hd : L2.Vals dvs ds) (hx : Passes CX X E) (ha : PA X (e :: es) t)
    (hst : starEach (e :: es) X.env = (false, eval e X.env) :: starEach es X.env := by rfl) (hpl : (backTo pos (starEach es X.env)).any (·.1) = false := by rfl)
    (ht : eval (.Call (.Attribute o m apos) (e :: es) [] pos) X.env = (do
      let ov ← eval o X.env
      standAt apos.atName
      let (f, first) ← holding [ov] (getMethod ov m pl)
      callWith pos f first (backTo pos (starEach (e :: es) X.env)) (backToKw pos (keywordEach [] X.env))) := by rfl) :
    PE X (.Call (.Attribute o m apos) (e :: es) [] pos) (tSMeth C sp dvs E ta t) := by
  refine ⟨fun pins s σ H Q I h => ?_⟩
  refine PySem.W.methodCall_KW (pl := pl) (thn (he.run pins s σ H _ I h) fun u s1 ⟨x, H1, I1, rx, ex, q⟩ => ?_) ht
  subst ex
  obtain rfl : u = Value.ref C := rx
  refine getmethsm_ok I1 r c fun s2 I2 => ?_
  refine PySem.W.callWith_K (first := []) (h₀ := X.base) I2.ok.mod.kin c.kp (thn (ha.run pos pins s2 σ H1 _ I2 q) fun us s3 ⟨vs, H2, I3, rr, q2⟩ => ⟨I3.kIn, ?_⟩) hst hpl
  exact run_fn F hr hb hd hx I3 rr q2
theorem pe_smethK0 {pl : Sem Bool} (he : PE X o ta) (r : ClX.CRead X.K C mc) (c : SMet X.K C mc m p f) (F : FnOk X.prog X.w X.K X.mg X.base CX k f fd ps sp) (hr : Room k X.A) (hb : KBn X.K fd ps 0 ks g gV) (hx : Passes CX X E) (hkw : PK X kws tk)
    (hall : (backToKw pos (keywordEach kws X.env)).all (·.1.isSome) = true := by rfl) (hks : (backToKw pos (keywordEach kws X.env)).filterMap (·.1) = ks := by rfl)
    (hpl : ((backTo pos (starEach [] X.env)).any (·.1) || (backToKw pos (keywordEach kws X.env)).any (·.1.isNone)) = false := by rfl)
    (ht : eval (.Call (.Attribute o m apos) [] kws pos) X.env = (do
      let ov ← eval o X.env
      standAt apos.atName
      let (f, first) ← holding [ov] (getMethod ov m pl)
      callWith pos f first (backTo pos (starEach [] X.env)) (backToKw pos (keywordEach kws X.env))) := by rfl) :
    PE X (.Call (.Attribute o m apos) [] kws pos) (tSMethK C ks.length sp gV E ta tk) := by
  refine ⟨fun pins s σ H Q I h => ?_⟩
  refine PySem.W.methodCall_KW (pl := pl) (thn (he.run pins s σ H _ I h) fun u s1 ⟨x, H1, I1, rx, ex, q⟩ => ?_) ht
  subst ex
  obtain rfl : u = Value.ref C := rx
  refine getmethsm_ok I1 r c fun s2 I2 => ?_
  refine PySem.W.callWith_KW0 (first := []) (h₀ := X.base) I2.ok.mod.kin c.kp hall ?_ hpl
  refine thn (hkw.run pos pins s2 σ H1 _ I2 q) fun ws s3 ⟨zs, H2, I3, rz, l1, q2⟩ => ⟨I3.kIn, ?_⟩
  rw [hks]
  exact run_fnN (us := []) (vs := []) F hr hb hx I3 .nil rz rfl l1 q2
/-- def m(text) alone, called by its name -/
theorem Fun.kbn1 {K : PySem.W.Frag} {x qual : Str} {st : Stmt} {p1 : Str} (F : Fun K x qual st f fd)
    (h : ∀ (kV doc pm : Value) (an : Option Addr) (cdv ct w : Value), bindArgs (PySem.W.fnOf x qual (defArgs st) (defBody st) (defScope st) .none kV doc pm an cdv ct) ⟨[], [(p1, w)]⟩ = pure [(p1, w)]) :
    KBn K fd [p1] 0 [p1] (fun us ws => us ++ ws) (fun vs zs => vs ++ zs) := by
  obtain ⟨oc, od, kV, doc, pm, an, cdv, ct, osl, rfl, lk, hcd⟩ := F.ex
  refine ⟨fun s us ws _ l1 l2 => ?_, fun r1 r2 => r1.append r2⟩
  match us, l1, ws, l2 with
  | [], _, [w], _ => exact .of_eq (h kV doc pm an cdv ct w)
end
set_option Elab.async false
set_option linter.all false
set_option maxRecDepth 100000
set_option maxHeartbeats 4000000
open PySem PySem.Spec PyProof.Rows L2
/-! ### enumerate(text) -/
def Ies (x : Str) : It := ⟨fun i _ => i < x.cps.size, fun i H v H' => ∃ T c, v = .ref T ∧ H T = none ∧ H' = upd H T (.tup [.int (i : Nat), .str ⟨#[c]⟩]) ∧ x.cps[i]? = some c, fun i _ => i = x.cps.size⟩
theorem turn_enumS {P : Program} {w : World} {K : PySem.W.Frag} {elts : List Expr} {kk : Nat} {tpos : Pos} (e it : Addr) (x : Str) (t : Tok) (ty : String) (hty : ty = "str_ascii_iterator" ∨ ty = "str_iterator") :
    Turn P w K (.Tuple elts kk tpos) (Ies x) [e, it] e (fun i h => (∃ old, IsEnum h e it ((i : Nat) : Int) old) ∧ h.IsStrIter it ty x t i ∧ e ≠ it) where
  mem := by simp
  obj := fun i h st b hb => by
    obtain ⟨⟨old, he⟩, ⟨o, ho, hc, hd⟩, _⟩ := st
    have e' : b = e ∨ b = it := by simpa using hb
    rcases e' with z | z
    · rw [z]; exact ⟨_, he, fun v q => nomatch q⟩
    · rw [z]; exact ⟨o, ho, fun v q => by rw [hd] at q; cases q⟩
  keep := fun i h h' st k => let ⟨⟨old, he⟩, ⟨o, ho, r⟩, hne⟩ := st; ⟨⟨old, k e (by simp) _ he⟩, ⟨o, k it (by simp) o ho, r⟩, hne⟩
  item := by
    intro X hP hw hK hc i pins s σ H E I hf st hg
    subst hP hw hK
    obtain ⟨⟨old, he⟩, hit, hne⟩ := st
    have D : Draws X.prog X.w X.A.in1 it [it] x.cps.size (SignAt x) (fun i h => h.IsStrIter it ty x t i) := by
      rcases hty with e | e
      · rw [e]; exact Draws.strAscii (A := X.A.in1) (I.ok.hd hc) it x t
      · rw [e]; exact Draws.strWide (A := X.A.in1) (I.ok.hd hc) it x t
    have hel : e < s.heap.objs.size := Heap.lt_size he
    have hil : it < s.heap.objs.size := by obtain ⟨_, q, _⟩ := hit; exact Heap.lt_size q
    refine wpAny_pyNext_enum_itemD D he hit hg hne (by simpa using hne) fun u h' tk hu ho hit' hT hsz hk => ?_
    obtain ⟨c, tc, hcx, rfl⟩ := hu
    refine ⟨_, rfl, wpAny_letOwnedTupleGo_enum (s := { s with heap := h', toks := tk + 1 }) ho fun h'' he' sb => ?_⟩
    have hT2 : h''.get? s.heap.objs.size = some { cls := .type "tuple", data := .seq #[.int i tk, .str ⟨#[c]⟩ tc] } := (sb.2 _ (Nat.ne_of_gt hel)).trans hT
    have new : ObjOk X.prog X.w (upd H s.heap.objs.size (.tup [.int (i : Nat), .str ⟨#[c]⟩])) h'' s.heap.objs.size (.tup [.int (i : Nat), .str ⟨#[c]⟩]) :=
      ⟨by show 2 ≤ sizeLine; decide, [.int i tk, .str ⟨#[c]⟩ tc], .cons ⟨_, rfl⟩ (.cons ⟨_, rfl⟩ .nil), ⟨_, hT2, rfl, _, rfl⟩⟩
    have I1 : L2.Inv X pins σ (upd H s.heap.objs.size (.tup [.int (i : Nat), .str ⟨#[c]⟩])) { s with heap := h'', toks := tk + 1 } :=
      I.turnedNew (ch := [e, it]) (fun b ob hb q => (sb.2 b (fun z => hb (by simp [z]))).trans (hk b ob (fun z => hb (by simp [z])) (fun z => hb (by simp [z])) q)) hf (Nat.le_refl _) new
    obtain ⟨oi, h1, h2, h3⟩ := hit'
    refine ⟨.ref s.heap.objs.size, _, I1, rfl, ⟨_, c, rfl, I.hok.fresh (Nat.le_refl _), rfl, hcx⟩, ⟨⟨.str ⟨#[c]⟩ tc, ?_⟩, ⟨oi, (sb.2 it (Ne.symm hne)).trans h1, h2, h3⟩, hne⟩, fun b hb => ?_⟩
    · have e1 : ((i + 1 : Nat) : Int) = (i : Int) + 1 := by omega
      rw [e1]; exact he'
    · have hb' : b < s.heap.objs.size := by
        have e' : b = e ∨ b = it := by simpa using hb
        rcases e' with z | z
        · rw [z]; exact hel
        · rw [z]; exact hil
      rw [upd_ne (Nat.ne_of_lt hb')]
      exact (hf b hb).1
  done := by
    intro X hP hw hK hc i pins s σ H E I hf st hg
    subst hP hw hK
    obtain ⟨⟨old, he⟩, hit, hne⟩ := st
    have hg2 : i = x.cps.size := hg
    subst hg2
    have D : Draws X.prog X.w X.A.in1 it [it] x.cps.size (SignAt x) (fun i h => h.IsStrIter it ty x t i) := by
      rcases hty with e | e
      · rw [e]; exact Draws.strAscii (A := X.A.in1) (I.ok.hd hc) it x t
      · rw [e]; exact Draws.strWide (A := X.A.in1) (I.ok.hd hc) it x t
    obtain ⟨f0, f1, f2, f3, f4, f5⟩ := hf it (by simp)
    exact wpAny_pyNext_enum_endD D he hit fun h' eb => ⟨rfl, I.turned (t' := s.toks) (fun b o hb q => eb b o hb q) f0 f1 f3 f4 f5⟩
  self := fun A i s Q E st h => let ⟨⟨_, he⟩, _⟩ := st; wpAny_pyIter_enum he h
def iEnumS (ta : TA) : TI := fun σ H R => ta σ H fun vs H1 => ∃ x : Str, vs = [.str x] ∧ R (Ies x) H1
theorem pi_enumS {X : Cx} {e : Expr} {ta : TA} {p pos tpos : Pos} {elts : List Expr} {kk : Nat} (hg : Gl X "enumerate") (hm : X.mg "enumerate" = none) (ha : PA X [e] ta) (hs : starEach [e] X.env = [(false, eval e X.env)] := by rfl) :
    PI X (.Tuple elts kk tpos) (.Call (.Name "enumerate" p) [e] [] pos) (iEnumS ta) := by
  refine ⟨fun pins s σ H R I h => ?_⟩
  refine Call_ (ld_blt I hg hm boot_enumerate (PyProof.Rows.callWith_type1 (thn (ha.run pos pins s σ H _ I h) fun us s1 ⟨vs, H1, I1, r1, q1⟩ => ?_) hs rfl))
  obtain ⟨x, ex, q⟩ := q1
  subst ex
  cases r1 with
  | cons r rr =>
    cases rr
    obtain ⟨t, rfl⟩ := r
    refine call_enumerate_str fun h' he hit hsz hk => wpAny_pyIter_enum he ?_
    have I2 : L2.Inv X pins σ H1 { s1 with heap := h' } := I1.kept (t' := s1.toks) hk
    have hty : strIterType x = "str_ascii_iterator" ∨ strIterType x = "str_iterator" := by
      unfold strIterType
      split
      · exact .inl rfl
      · exact .inr rfl
    refine ⟨s1.heap.objs.size + 1, [s1.heap.objs.size + 1, s1.heap.objs.size], _, _, H1, rfl, I2, turn_enumS (s1.heap.objs.size + 1) s1.heap.objs.size x t _ hty, ⟨⟨.none, he⟩, hit, Nat.succ_ne_self _⟩, fun b hb => ?_, q⟩
    have e' : b = s1.heap.objs.size + 1 ∨ b = s1.heap.objs.size := by simpa using hb
    have hle : s1.heap.objs.size ≤ b := by
      rcases e' with z | z
      · rw [z]; exact Nat.le_add_right _ _
      · rw [z]; exact Nat.le_refl _
    exact I1.fpOk hle (I1.hok.fresh hle)
theorem walk_enumS {x : Str} : Walk (Ies x) x.cps.size (fun _ => True) (fun i H v H' => ∃ T c, v = .ref T ∧ H T = none ∧ H' = upd H T (.tup [.int (i : Nat), .str ⟨#[c]⟩]) ∧ x.cps[i]? = some c) :=
  ⟨fun _ _ hi _ => hi, fun _ _ => rfl, fun _ _ _ _ _ _ y => y⟩
set_option Elab.async false
set_option linter.all false
set_option maxRecDepth 100000
set_option maxHeartbeats 4000000
open PySem PySem.Spec PyProof.Rows L2 RZ
/-! ### kinds -/
theorem tyX_tup {K : PySem.W.Frag} {H : Hp} {a : Addr} {xs : List V} (h : SqT K H a xs) : TyX K H (.ref a) (.type "tuple") := by
  rcases h with h | ⟨o, its, n, hk, hc, _⟩
  · rcases h with h | ⟨o, h⟩
    · exact .base (.tup h)
    · exact .fTuple h
  · exact .kTuple hk hc
/-- isinstance(x, T), T built in -/
def rIsB (K : PySem.W.Frag) : List V → Hp → VK → Prop := fun xs H Q => ∃ (x : V) (t T : String) (b : Bool), xs = [x, .ty T] ∧ TyX K H x (.type t) ∧ kitB t T = some b ∧ Q (.bl b) H
theorem call_isB {X : Cx} : CallR X (.builtin "isinstance") (rIsB X.K) := CallR.imp call_isi fun xs H Q h => by
  obtain ⟨x, t, T, b, rfl, ty, k, q⟩ := h
  exact ⟨x, .ty T, .type t, .type T, b, rfl, .ty T, ty, kit_ty k, q⟩
theorem kb_ii : kitB "int" "int" = some true := by decide +kernel
theorem kb_ib : kitB "int" "bool" = some false := by decide +kernel
theorem kb_bi : kitB "bool" "int" = some true := by decide +kernel
theorem kb_bb : kitB "bool" "bool" = some true := by decide +kernel
theorem kb_ss : kitB "str" "str" = some true := by decide +kernel
theorem kb_tt : kitB "tuple" "tuple" = some true := by decide +kernel
/-- is_integer_from(value, least, most) -/
def spInt (K : PySem.W.Frag) : Sp := fun vs H Q _ => ∃ (x : V) (lo hi : Int), vs = [x, .int lo, .int hi] ∧
  ((∃ n, x = .int n ∧ Q (.bl (decide (lo ≤ n) && decide (n ≤ hi))) H) ∨ (∃ b, x = .bl b ∧ Q (.bl false) H) ∨ ∃ t, TyX K H x (.type t) ∧ kitB t "int" = some false ∧ Q (.bl false) H)
def isNm (z : Str) : Bool := decide (z.length = 1) && (!decide (z.cps.toList < ("A" : Str).cps.toList) && !decide (("Z" : Str).cps.toList < z.cps.toList))
/-- is_name(value) -/
def spName (K : PySem.W.Frag) : Sp := fun vs H Q _ => ∃ x : V, vs = [x] ∧ ((∃ z, x = .str z ∧ z.length ≤ sizeLine ∧ Q (.bl (isNm z)) H) ∨ ∃ t, TyX K H x (.type t) ∧ kitB t "str" = some false ∧ Q (.bl false) H)
/-- one value below another of its kind -/
def LtV : V → V → Bool
  | .int i, .int j => decide (i < j)
  | .str i, .str j => decide (i.cps.toList < j.cps.toList)
  | _, _ => false
def Kin (xs : List V) : Prop := (∃ ns : List Int, xs = ns.map V.int) ∨ ∃ zs : List Str, xs = zs.map V.str
def upV (xs : List V) : List Bool := (xs.zip (xs.drop 1)).map fun p => LtV p.1 p.2
/-- is_rising(row) -/
def spRising (K : PySem.W.Frag) : Sp := fun vs H Q _ => ∃ (a : Addr) (xs : List V), vs = [.ref a] ∧ (SqT K H a xs ∨ SqL K H a xs) ∧ xs.length ≤ sizeLine ∧ Kin xs ∧ ∀ H', Same H H' → Q (.bl ((upV xs).all id)) H'
structure TxtB (K : PySem.W.Frag) (mg : Str → Option Value) : Prop where
  n_isinstance : mg "isinstance" = none
  n_int : mg "int" = none
  n_bool : mg "bool" = none
  n_str : mg "str" = none
  n_tuple : mg "tuple" = none
  n_len : mg "len" = none
  n_all : mg "all" = none
  n_zip : mg "zip" = none
  n_range : mg "range" = none
theorem op_ltV {X : Cx} : OpR X (compareOp .Lt) (fun x y H Q => Kin [x, y] ∧ Q (.bl (LtV x y)) H) := OpR.imp (op_lt.or op_lt_str) fun x y H Q h => by
  obtain ⟨k, q⟩ := h
  rcases k with ⟨ns, e⟩ | ⟨zs, e⟩
  · match ns, e with
    | [i, j], e =>
      simp only [List.map_cons, List.map_nil, List.cons.injEq, and_true] at e
      obtain ⟨rfl, rfl⟩ := e
      exact .inl ⟨i, j, rfl, rfl, q⟩
    | [], e => cases e
    | [i], e => simp at e
    | i :: j :: l :: r, e => simp at e
  · match zs, e with
    | [i, j], e =>
      simp only [List.map_cons, List.map_nil, List.cons.injEq, and_true] at e
      obtain ⟨rfl, rfl⟩ := e
      exact .inr ⟨i, j, rfl, rfl, q⟩
    | [], e => cases e
    | [i], e => simp at e
    | i :: j :: l :: r, e => simp at e
theorem walk_zipT {K : PySem.W.Frag} {a b : Addr} {xs ys : List V} {n : Nat} (hn : n = min xs.length ys.length) : Walk (ItzT K a b) n (fun H => SqT K H a xs ∧ SqT K H b ys) (YPair (fun i => xs[i]?) (fun i => ys[i]?)) := by
  subst hn
  refine ⟨fun i _ hi q => ?_, fun _ q => ⟨xs, ys, q.1, q.2, by omega⟩, fun i H v H' _ q y => ?_⟩
  · have h1 : i < xs.length := by omega
    have h2 : i < ys.length := by omega
    refine ⟨xs, ys, xs[i], ys[i], q.1, q.2, ?_, ?_⟩ <;> simp [h1, h2]
  · obtain ⟨T, x, z, h1, h2, h3, h4, h5⟩ := y
    exact ⟨T, x, z, h1, h2, h3, h4 xs q.1, h5 ys q.2⟩
theorem kin_two {xs : List V} (k : Kin xs) {i j : Nat} {x y : V} (hx : xs[i]? = some x) (hy : xs[j]? = some y) : Kin [x, y] := by
  rcases k with ⟨ns, rfl⟩ | ⟨zs, rfl⟩
  · rw [List.getElem?_map] at hx hy
    obtain ⟨n, _, rfl⟩ := Option.map_eq_some_iff.mp hx
    obtain ⟨m, _, rfl⟩ := Option.map_eq_some_iff.mp hy
    exact .inl ⟨[n, m], rfl⟩
  · rw [List.getElem?_map] at hx hy
    obtain ⟨n, _, rfl⟩ := Option.map_eq_some_iff.mp hx
    obtain ⟨m, _, rfl⟩ := Option.map_eq_some_iff.mp hy
    exact .inr ⟨[n, m], rfl⟩
theorem cut_one (xs : List V) : cutV xs (some 1) none = xs.drop 1 := by
  unfold cutV HT.sIx
  cases xs with
  | nil => rfl
  | cons x xs =>
    simp
theorem upV_len (xs : List V) : (upV xs).length = xs.length - 1 := by
  simp only [upV, List.length_map, List.length_zip, List.length_drop]
  omega
theorem upV_at {xs : List V} {i : Nat} {x y : V} (hx : xs[i]? = some x) (hy : (xs.drop 1)[i]? = some y) : (upV xs)[i]? = some (LtV x y) := by
  unfold upV
  rw [List.getElem?_map, (List.getElem?_zip_eq_some (z := (x, y))).mpr ⟨hx, hy⟩]
  rfl
theorem cut_whole {xs : List V} {lo hi : Option Int} (h : HT.sIx xs.length 0 lo = 0 ∧ HT.sIx xs.length xs.length hi = xs.length) : cutV xs lo hi = xs := by
  unfold cutV
  rw [h.1, h.2]
  simp
/-- a slice of a list or of a tuple -/
def rCut (K : PySem.W.Frag) : V → Option Int → Option Int → Hp → VK → Prop := fun x lo hi H Q => ∃ a xs, x = .ref a ∧
  ((SqL K H a xs ∧ ∀ b H', Same H H' → SqL K H' b (cutV xs lo hi) → Q (.ref b) H') ∨ (SqT K H a xs ∧ ∀ b H', Same H H' → SqT K H' b (cutV xs lo hi) → Q (.ref b) H'))
theorem sl_cut {X : Cx} : L2.SlR X (rCut X.K) := fun pins s σ H x v vl vu lo hi sl Q I rx hs pl pu h => by
  obtain ⟨a, xs, rfl, h⟩ := h
  rcases h with ⟨h1, q⟩ | ⟨h1, q⟩
  · exact sl_list pins s σ H _ v vl vu lo hi sl Q I rx hs pl pu ⟨a, xs, rfl, h1, fun p n => q p _ (Same.new (Same.refl H) n) (SqL.of upd_same)⟩
  · exact sl_tupA pins s σ H _ v vl vu lo hi sl Q I rx hs pl pu ⟨a, xs, rfl, h1, fun w => q a H (Same.refl H) (by rw [cut_whole w]; exact h1), fun _ p n => q p _ (Same.new (Same.refl H) n) (SqT.of upd_same)⟩
theorem rise_core {K : PySem.W.Frag} {J : It} {n : Nat} {G : Hp → Prop} {xs : List V} {H1 : Hp} {D : Addr} {Qd : Hp → Prop} {σ : L2.St} (w : Walk J n G (YPair (fun i => xs[i]?) (fun i => (xs.drop 1)[i]?))) (hn : n = xs.length - 1) (hz : xs.length ≤ sizeLine) (kx : Kin xs)
    (hD : H1 D = none) (hG : ∀ H', Same H1 H' → G H') (hd : ∀ H', Same H1 H' → H' D = some (.lst ((upV xs).map V.bl)) → Qd H') (hl : 2 < σ.length) :
    ∃ W : Nat → Nat → Hp → Prop, (∃ m, W 0 m (upd H1 D (.lst []))) ∧ ∀ i m H, W i m H →
      (J.stop i H ∧ Qd H) ∨ (J.go i H ∧ ∃ Nx : Hp → Prop, (∀ H', Nx H' → ∃ m', m' < m ∧ W (i + 1) m' H') ∧ ∀ x H', J.yld i H x H' → (gTup K 2 (gCons (gName 1) (gCons (gName 2) gNil))) x (wipe σ [1, 2]) H' fun σ2 H2 => wipe σ2 [1, 2] = wipe σ [1, 2] ∧ tYes σ2 H2 fun b H3 =>
        if b = true then (tOp (fun x y H Q => Kin [x, y] ∧ Q (V.bl (LtV x y)) H) (tVar 1) (tVar 2)) σ2 H3 fun y H4 => ∃ acc, H4 D = some (.lst acc) ∧ acc.length < sizeLine ∧ Nx (upd H4 D (.lst (acc ++ [y]))) else Nx H3) := by
  have hu := upV_len xs
  refine lc_it w (fun i H' => Same H1 H' ∧ H' D = some (.lst (((upV xs).take i).map V.bl))) ⟨Same.new (Same.refl H1) hD, upd_same⟩ (fun i H' _ hh => hG H' hh.1) (fun i x H' H2 hi hh y => ?_) (fun H' hh => hd H' hh.1 (by rw [hh.2, hn, ← hu, List.take_length]))
  obtain ⟨s1, d1⟩ := hh
  obtain ⟨T, x1, y1, rfl, hT, rfl, hx, hy⟩ := y
  have hDT : D ≠ T := ne_of_none d1 hT
  refine ⟨T, [x1, y1], rfl, SqT.of upd_same, rfl, x1, [y1], rfl, y1, [], rfl, rfl, ?_, ?_⟩
  · rcases σ with _ | ⟨a, _ | ⟨b, _ | ⟨c, σ⟩⟩⟩ <;> simp at hl
    rfl
  unfold tYes
  simp only [↓reduceIte]
  have hy2 : xs[i + 1]? = some y1 := by
    have := hy
    simp only [List.getElem?_drop] at this
    rw [Nat.add_comm]
    exact this
  rcases σ with _ | ⟨a, _ | ⟨b, _ | ⟨c, σ⟩⟩⟩ <;> simp at hl
  refine ⟨_, rfl, _, rfl, kin_two kx hx hy2, _, (by rw [upd_ne hDT]; exact d1), ?_, Same.put (Same.new s1 hT) hD, ?_⟩
  · rw [List.length_map, List.length_take]
    omega
  · rw [upd_same, List.take_add_one, upV_at hx hy]
    simp
section
variable {P : Program} {w : World} {K : PySem.W.Frag} {mg : Str → Option Value} {base : Heap}
abbrev s_is_integer_from : Stmt := top 9
theorem sc_int : FnScope ["value", "least", "most"] ["value", "least", "most"] (defScope s_is_integer_from) := ⟨rfl, rfl, rfl, by decide +kernel, rfl, by decide +kernel, by decide +kernel⟩
theorem ok_int {f : Addr} {fd : FuncData} (F : Fun K "is_integer_from" "is_integer_from" s_is_integer_from f fd) (T : TxtB K mg) : FnOk P w K mg base CX0 1 f fd ["value", "least", "most"] (spInt K) := by
  refine F.ok sc_int (fun vs H Q E h => ?_) (fun cdv A outer s H vs Q E hr h => ?_)
  · obtain ⟨x, lo, hi, rfl, _⟩ := h
    rfl
  · obtain ⟨x, lo, hi, rfl, h⟩ := h
    refine ⟨_, (pss_one (ps_ret (pe_and (pe_callB call_isB (by rfl) T.n_isinstance (by decide +kernel) (pa_cons (pv 0) (pa_cons (pe_bltn (v := .ty "int") (by rfl) T.n_int (by decide +kernel) rfl) pa_nil))) (pe_and (pe_not (pe_callB call_isB (by rfl) T.n_isinstance (by decide +kernel) (pa_cons (pv 0) (pa_cons (pe_bltn (v := .ty "bool") (by rfl) T.n_bool (by decide +kernel) rfl) pa_nil)))) (pe_one (pe_chain op_le op_le (pv 1) (pv 0) (pv 2))))))), ?_⟩
    rcases h with ⟨n, rfl, q⟩ | ⟨b, rfl, q⟩ | ⟨t, ty, kt, q⟩
    · refine ⟨_, rfl, .int n, "int", "int", true, rfl, .base (.int n), kb_ii, _, rfl, ?_⟩
      refine ⟨_, rfl, .int n, "int", "bool", false, rfl, .base (.int n), kb_ib, _, rfl, ?_⟩
      refine ⟨_, rfl, ?_⟩
      refine ⟨_, rfl, _, rfl, _, _, rfl, rfl, _, rfl, ?_⟩
      by_cases c : lo ≤ n
      · rw [if_pos (decide_eq_true c)]
        rw [decide_eq_true c, Bool.true_and] at q
        exact ⟨_, rfl, _, _, rfl, rfl, q⟩
      · rw [if_neg (by simpa using c)]
        rw [decide_eq_false c, Bool.false_and] at q
        exact q
    · refine ⟨_, rfl, .bl b, "bool", "int", true, rfl, .base (.bl b), kb_bi, _, rfl, ?_⟩
      refine ⟨_, rfl, .bl b, "bool", "bool", true, rfl, .base (.bl b), kb_bb, _, rfl, ?_⟩
      exact ⟨_, rfl, q⟩
    · exact ⟨_, rfl, x, t, "int", false, rfl, ty, kt, _, rfl, q⟩
abbrev s_is_name : Stmt := top 10
theorem sc_name : FnScope ["value"] ["value"] (defScope s_is_name) := ⟨rfl, rfl, rfl, by decide +kernel, rfl, by decide +kernel, by decide +kernel⟩
theorem ok_name {f : Addr} {fd : FuncData} (F : Fun K "is_name" "is_name" s_is_name f fd) (T : TxtB K mg) : FnOk P w K mg base CX0 1 f fd ["value"] (spName K) := by
  refine F.ok sc_name (fun vs H Q E h => ?_) (fun cdv A outer s H vs Q E hr h => ?_)
  · obtain ⟨x, rfl, _⟩ := h
    rfl
  · obtain ⟨x, rfl, h⟩ := h
    refine ⟨_, (pss_one (ps_ret (pe_and (pe_callB call_isB (by rfl) T.n_isinstance (by decide +kernel) (pa_cons (pv 0) (pa_cons (pe_bltn (v := .ty "str") (by rfl) T.n_str (by decide +kernel) rfl) pa_nil))) (pe_and (pe_cmpR op_eq (pe_callB call_len_str (by rfl) T.n_len PySem.boot_len (pa_cons (pv 0) pa_nil)) pe_int (nomark _)) (pe_one (pe_chain op_le_str op_le_str pe_str (pv 0) pe_str)))))), ?_⟩
    rcases h with ⟨z, rfl, hz, q⟩ | ⟨t, ty, kt, q⟩
    · refine ⟨_, rfl, .str z, "str", "str", true, rfl, .base (.str z), kb_ss, _, rfl, ?_⟩
      refine ⟨_, rfl, z, rfl, hz, rfl, _, rfl, ?_⟩
      unfold isNm at q
      rw [dec_int]
      by_cases c : z.length = 1
      · have e1 : (((z.length : Nat) : Int) == (1 : Int)) = true := by simp [c]
        rw [if_pos e1]
        rw [decide_eq_true c, Bool.true_and] at q
        refine ⟨_, rfl, _, _, rfl, rfl, _, rfl, ?_⟩
        by_cases d : z.cps.toList < ("A" : Str).cps.toList
        · rw [decide_eq_true d] at q
          rw [if_neg (by rw [decide_eq_true d]; decide)]
          exact q
        · rw [decide_eq_false d] at q
          rw [if_pos (by rw [decide_eq_false d]; rfl)]
          exact ⟨_, _, rfl, rfl, q⟩
      · have e1 : (((z.length : Nat) : Int) == (1 : Int)) = false := beq_eq_false_iff_ne.mpr (by omega)
        rw [decide_eq_false c, Bool.false_and] at q
        rw [if_neg (by rw [e1]; decide)]
        exact q
    · exact ⟨_, rfl, x, t, "str", false, rfl, ty, kt, _, rfl, q⟩
abbrev s_is_rising : Stmt := top 11
theorem sc_rising : FnScope ["row", "left", "right"] ["row"] (defScope s_is_rising) := ⟨rfl, rfl, rfl, by decide +kernel, rfl, by decide +kernel, by decide +kernel⟩
theorem ok_rising {f : Addr} {fd : FuncData} (F : Fun K "is_rising" "is_rising" s_is_rising f fd) (T : TxtB K mg) : FnOk P w K mg base CX0 1 f fd ["row"] (spRising K) := by
  refine F.ok sc_rising (fun vs H Q E h => ?_) (fun cdv A outer s H vs Q E hr h => ?_)
  · obtain ⟨a, xs, rfl, _⟩ := h
    rfl
  · obtain ⟨a, xs, rfl, hx, hz, kx, k⟩ := h
    refine ⟨_, (pss_one (ps_ret (pe_callB (cr_all rfl) (by rfl) T.n_all (by decide +kernel) (pa_cons (pe_lc (own := [("left", 1), ("right", 2)]) (g := gTup K 2 (gCons (gName 1) (gCons (gName 2) gNil))) (tt := tYes) rfl sc_rising.nd (pi_zipA rfl T.n_zip (pa_cons (pv 0) (pa_cons (pe_slice sl_cut (pv 0) (po_some pe_int) po_none) pa_nil))) (blkOk_by (N := ["row", "left", "right"]) (sc := defScope s_is_rising) (by decide +kernel)) (fun _ _ _ _ _ => (pg_tup rfl (pgs_cons (pg_name (i := 1) sc_rising.nd rfl (Or.inl rfl)) (pgs_cons (pg_name (i := 2) sc_rising.nd rfl (Or.inl rfl)) pgs_nil)))) (fun _ _ _ _ _ => pts_nil) (fun _ _ _ _ _ => (pe_cmpR op_ltV (pv 1) (pv 2) (nomark _)))) pa_nil)))), ?_⟩
    refine ⟨_, rfl, _, rfl, 1, rfl, a, xs, rfl, ?_⟩
    rcases hx with hx | hx
    · refine .inr ⟨hx, fun b H1 s1 hb => ?_⟩
      refine ⟨a, b, xs, _, rfl, .inr ⟨Same.tup s1 hx, hb, fun D hD => ?_⟩⟩
      rw [cut_one] at hb
      refine rise_core (walk_zipT (n := xs.length - 1) (by rw [List.length_drop]; omega)) rfl hz kx hD (fun H' s2 => ⟨Same.tup (s1.trans s2) hx, Same.tup s2 hb⟩) (fun H2 s2 d2 => ?_) (by show 2 < 3; decide)
      exact ⟨D, _, rfl, SqL.of d2, k H2 (s1.trans s2)⟩
    · refine .inl ⟨hx, fun b H1 s1 hb => ?_⟩
      refine ⟨a, b, xs, _, rfl, .inl ⟨s1.seq hx, hb, fun D hD => ?_⟩⟩
      rw [cut_one] at hb
      refine rise_core (walk_zip (n := xs.length - 1) (by rw [List.length_drop]; omega)) rfl hz kx hD (fun H' s2 => ⟨(s1.trans s2).seq hx, s2.seq hb⟩) (fun H2 s2 d2 => ?_) (by show 2 < 3; decide)
      exact ⟨D, _, rfl, SqL.of d2, k H2 (s1.trans s2)⟩
end
set_option Elab.async false
set_option linter.all false
set_option maxRecDepth 100000
set_option maxHeartbeats 4000000
open PySem PySem.Spec PyProof.Rows L2 RZ
/-! ### rows of a plan -/
abbrev Row := Str × List Int
def ticksD (ns : List Int) : PyData := .tuple (ns.map PyData.int)
def rowD (r : Row) : PyData := .tuple [.str r.1, ticksD r.2]
def rowsD (rows : List Row) : PyData := .tuple (rows.map rowD)
mutual
theorem Dp.same {K : PySem.W.Frag} {H H' : Hp} (s : Same H H') : ∀ {v : V} {d : PyData}, Dp K H v d → Dp K H' v d
  | _, _, .non => .non
  | _, _, .bl b => .bl b
  | _, _, .int i => .int i
  | _, _, .str x => .str x
  | _, _, .lst h hs => .lst (s.seq h) (DpAll.same s hs)
  | _, _, .tup h hs => .tup (Same.tup s h) (DpAll.same s hs)
theorem DpAll.same {K : PySem.W.Frag} {H H' : Hp} (s : Same H H') : ∀ {vs : List V} {ds : List PyData}, DpAll K H vs ds → DpAll K H' vs ds
  | _, _, .nil => .nil
  | _, _, .cons a b => .cons (Dp.same s a) (DpAll.same s b)
end
theorem dpInts {K : PySem.W.Frag} {H : Hp} : ∀ {ns : List Int} {xs : List V}, DpAll K H xs (ns.map PyData.int) → xs = ns.map V.int
  | [], xs, h => by
    cases h
    rfl
  | n :: ns, xs, h => by
    cases h with
    | cons h1 h2 =>
      cases h1
      rw [dpInts h2]
      rfl
theorem Dp.tupI {K : PySem.W.Frag} {H : Hp} {v : V} {ds : List PyData} (h : Dp K H v (.tuple ds)) : ∃ a xs, v = .ref a ∧ SqT K H a xs ∧ DpAll K H xs ds := by
  cases h with
  | tup h1 h2 => exact ⟨_, _, rfl, h1, h2⟩
theorem Dp.ticksI {K : PySem.W.Frag} {H : Hp} {v : V} {ns : List Int} (h : Dp K H v (ticksD ns)) : ∃ a, v = .ref a ∧ SqT K H a (ns.map V.int) := by
  obtain ⟨a, xs, rfl, h1, h2⟩ := Dp.tupI h
  rw [dpInts h2] at h1
  exact ⟨a, rfl, h1⟩
theorem Dp.rowI {K : PySem.W.Frag} {H : Hp} {v : V} {r : Row} (h : Dp K H v (rowD r)) : ∃ a x, v = .ref a ∧ SqT K H a [.str r.1, x] ∧ Dp K H x (ticksD r.2) := by
  obtain ⟨a, xs, rfl, h1, h2⟩ := Dp.tupI h
  cases h2 with
  | cons h3 h4 =>
    cases h3
    cases h4 with
    | cons h5 h6 =>
      cases h6
      exact ⟨a, _, rfl, h1, h5⟩
theorem DpAll.rowsI {K : PySem.W.Frag} {H : Hp} : ∀ {rows : List Row} {xs : List V}, DpAll K H xs (rows.map rowD) → xs.length = rows.length ∧ ∀ (i : Nat) (x : V), xs[i]? = some x → ∃ r, rows[i]? = some r ∧ Dp K H x (rowD r)
  | [], xs, h => by
    cases h
    exact ⟨rfl, fun i x e => by simp at e⟩
  | r :: rows, xs, h => by
    cases h with
    | cons h1 h2 =>
      obtain ⟨l, f⟩ := DpAll.rowsI h2
      refine ⟨by simp [l], fun i x e => ?_⟩
      cases i with
      | zero =>
        simp at e
        subst e
        exact ⟨r, rfl, h1⟩
      | succ i =>
        simp at e
        obtain ⟨r2, e2, d2⟩ := f i x e
        exact ⟨r2, by simpa using e2, d2⟩
theorem Dp.rowsI {K : PySem.W.Frag} {H : Hp} {v : V} {rows : List Row} (h : Dp K H v (rowsD rows)) : ∃ a xs, v = .ref a ∧ SqT K H a xs ∧ xs.length = rows.length ∧ ∀ (i : Nat) (x : V), xs[i]? = some x → ∃ r, rows[i]? = some r ∧ Dp K H x (rowD r) := by
  obtain ⟨a, xs, rfl, h1, h2⟩ := Dp.tupI h
  exact ⟨a, xs, rfl, h1, DpAll.rowsI h2⟩
def okTick (size n : Int) : Bool := decide (0 ≤ n) && decide (n ≤ size - 1)
def upR (ns : List Int) : Bool := (upV (ns.map V.int)).all id
structure Ticks (size : Int) (ns : List Int) : Prop where
  ok : ∀ n ∈ ns, okTick size n = true
  up : upR ns = true
  fit : ns.length ≤ 10000
/-- rows of a plan of so many ticks -/
structure Rows (size : Int) (rows : List Row) : Prop where
  nm : ∀ r ∈ rows, isNm r.1 = true
  ticks : ∀ r ∈ rows, Ticks size r.2
  up : (upV (rows.map fun r => V.str r.1)).all id = true
  fit : rows.length ≤ 100
theorem isNm_len {z : Str} (h : isNm z = true) : z.length = 1 := by
  unfold isNm at h
  rw [Bool.and_eq_true, decide_eq_true_eq] at h
  exact h.1
/-- are_ticks(value, size), the ticks right -/
def spTicks (K : PySem.W.Frag) : Sp := fun vs H Q _ => ∃ (v : V) (size : Int) (ns : List Int), vs = [v, .int size] ∧ Dp K H v (ticksD ns) ∧ Ticks size ns ∧ ∀ H', Same H H' → Q (.bl true) H'
/-- are_rows(value, size), the rows right -/
def spRows (K : PySem.W.Frag) : Sp := fun vs H Q _ => ∃ (v : V) (size : Int) (rows : List Row), vs = [v, .int size] ∧ Dp K H v (rowsD rows) ∧ Rows size rows ∧ ∀ H', Same H H' → Q (.bl true) H'
structure TxtT (K : PySem.W.Frag) (mg : Str → Option Value) (fI fN fU fT : Addr) : Prop where
  b : TxtB K mg
  g_is_integer_from : mg "is_integer_from" = some (.ref fI)
  k_is_integer_from : PySem.W.keepIn K (.ref fI) = true
  g_is_name : mg "is_name" = some (.ref fN)
  k_is_name : PySem.W.keepIn K (.ref fN) = true
  g_is_rising : mg "is_rising" = some (.ref fU)
  k_is_rising : PySem.W.keepIn K (.ref fU) = true
  g_are_ticks : mg "are_ticks" = some (.ref fT)
  k_are_ticks : PySem.W.keepIn K (.ref fT) = true
theorem ixT {X : Cx} (K : PySem.W.Frag) (e : X.K = K := by rfl) : IxR X (rIxT K) := by
  subst e
  exact ix_tup
section
variable {P : Program} {w : World} {K : PySem.W.Frag} {mg : Str → Option Value} {base : Heap}
abbrev s_are_ticks : Stmt := top 12
theorem sc_ticks : FnScope ["value", "size", "tick"] ["value", "size"] (defScope s_are_ticks) := ⟨rfl, rfl, rfl, by decide +kernel, rfl, by decide +kernel, by decide +kernel⟩
theorem ok_ticks {f fI fN fU fT : Addr} {fd dI dU : FuncData} (F : Fun K "are_ticks" "are_ticks" s_are_ticks f fd) (T : TxtT K mg fI fN fU fT)
    (GI : FnOk P w K mg base CX0 1 fI dI ["value", "least", "most"] (spInt K)) (bI : Binds K dI ["value", "least", "most"] []) (GU : FnOk P w K mg base CX0 1 fU dU ["row"] (spRising K)) (bU : Binds K dU ["row"] []) :
    FnOk P w K mg base CX0 2 f fd ["value", "size"] (spTicks K) := by
  refine F.ok sc_ticks (fun vs H Q E h => ?_) (fun cdv A outer s H vs Q E hr h => ?_)
  · obtain ⟨v, size, ns, rfl, _⟩ := h
    rfl
  · obtain ⟨v, size, ns, rfl, dv, ht, k⟩ := h
    have hr1 : Room 1 _ := hr.mono (by decide)
    refine ⟨_, (pss_cons (ps_if (pt_not (pt_val (pe_callB call_isB (by rfl) T.b.n_isinstance (by decide +kernel) (pa_cons (pv 0) (pa_cons (pe_bltn (v := .ty "tuple") (by rfl) T.b.n_tuple (by decide +kernel) rfl) pa_nil))))) (pss_one (ps_ret pe_bl)) pss_nil)
    (pss_one (ps_ret (pe_and (pe_callB (cr_all rfl) (by rfl) T.b.n_all (by decide +kernel) (pa_cons (pe_lc (own := [("tick", 2)]) (g := gName 2) (tt := tYes) rfl sc_ticks.nd (pi_tup (pv 0)) (blkOk_by (N := ["value", "size", "tick"]) (sc := defScope s_are_ticks) (by decide +kernel)) (fun _ _ _ _ _ => (pg_name (i := 2) sc_ticks.nd rfl (Or.inl rfl))) (fun _ _ _ _ _ => pts_nil) (fun _ _ _ _ _ => (pe_call GI hr1 rfl T.g_is_integer_from T.k_is_integer_from bI .nil pass0 (pa_cons (pv 2) (pa_cons pe_int (pa_cons (pe_op op_sub (pv 1) pe_int) pa_nil)))))) pa_nil)) (pe_one (pe_call GU hr1 rfl T.g_is_rising T.k_is_rising bU .nil pass0 (pa_cons (pv 0) pa_nil))))))), ?_⟩
    obtain ⟨a, rfl, ha⟩ := Dp.ticksI dv
    refine ⟨_, rfl, .ref a, "tuple", "tuple", true, rfl, tyX_tup ha, kb_tt, ?_⟩
    refine ⟨_, rfl, ?_⟩
    refine ⟨_, rfl, a, rfl, ⟨_, ha⟩, fun D hD => lc_tup (xs := ns.map V.int) (fun i H' => Same H H' ∧ H' D = some (.lst (List.replicate i (V.bl true)))) ⟨Same.new (Same.refl H) hD, upd_same⟩ (fun i H' _ hh => Same.tup hh.1 ha) (fun i x H' hx hh => ?_) (fun H2 hh => ?_)⟩
    · obtain ⟨s1, d1⟩ := hh
      rw [List.getElem?_map] at hx
      obtain ⟨n, hn, rfl⟩ := Option.map_eq_some_iff.mp hx
      have hil : i < ns.length := (List.getElem?_eq_some_iff.mp hn).1
      have hok := ht.ok n (List.mem_of_getElem? hn)
      refine ⟨rfl, ?_⟩
      refine ⟨_, rfl, _, rfl, _, _, rfl, rfl, .int n, 0, size - 1, rfl, .inl ⟨n, rfl, ?_⟩⟩
      unfold okTick at hok
      rw [hok]
      refine ⟨_, d1, by rw [List.length_replicate]; have := ht.fit; exact Nat.lt_of_lt_of_le (Nat.lt_of_lt_of_le hil this) (by decide), Same.put s1 hD, ?_⟩
      rw [upd_same, List.replicate_succ']
    · obtain ⟨s1, d1⟩ := hh
      refine ⟨D, List.replicate ns.length true, rfl, SqL.of (by rw [d1]; simp), ?_⟩
      rw [show (List.replicate ns.length true).all id = true from by simp]
      refine ⟨_, rfl, _, rfl, a, _, rfl, .inl (Same.tup s1 ha), by rw [List.length_map]; exact Nat.le_trans ht.fit (by decide), .inl ⟨ns, rfl⟩, fun H3 s3 => ?_⟩
      have := ht.up
      unfold upR at this
      rw [this]
      exact k H3 (s1.trans s3)
abbrev s_are_rows : Stmt := top 13
theorem sc_rows : FnScope ["value", "size", "pair"] ["value", "size"] (defScope s_are_rows) := ⟨rfl, rfl, rfl, by decide +kernel, rfl, by decide +kernel, by decide +kernel⟩
theorem ok_rows {f fI fN fU fT : Addr} {fd dN dU dT : FuncData} (F : Fun K "are_rows" "are_rows" s_are_rows f fd) (T : TxtT K mg fI fN fU fT)
    (GN : FnOk P w K mg base CX0 1 fN dN ["value"] (spName K)) (bN : Binds K dN ["value"] []) (GU : FnOk P w K mg base CX0 1 fU dU ["row"] (spRising K)) (bU : Binds K dU ["row"] [])
    (GT : FnOk P w K mg base CX0 2 fT dT ["value", "size"] (spTicks K)) (bT : Binds K dT ["value", "size"] []) :
    FnOk P w K mg base CX0 3 f fd ["value", "size"] (spRows K) := by
  refine F.ok sc_rows (fun vs H Q E h => ?_) (fun cdv A outer s H vs Q E hr h => ?_)
  · obtain ⟨v, size, rows, rfl, _⟩ := h
    rfl
  · obtain ⟨v, size, rows, rfl, dv, hR, k⟩ := h
    have hr2 : Room 2 _ := hr.mono (by decide)
    have hr1 : Room 1 _ := hr.mono (by decide)
    refine ⟨_, (pss_cons (ps_if (pt_not (pt_val (pe_callB call_isB (by rfl) T.b.n_isinstance (by decide +kernel) (pa_cons (pv 0) (pa_cons (pe_bltn (v := .ty "tuple") (by rfl) T.b.n_tuple (by decide +kernel) rfl) pa_nil))))) (pss_one (ps_ret pe_bl)) pss_nil)
    (pss_cons (ps_for PassesOwn.never rfl (pi_tup (pv 0)) (pg_name (i := 2) sc_rows.nd rfl (Or.inl rfl))
    (pss_cons (ps_if (PW.pt (pw_or (pt_not (pt_val (pe_callB call_isB (by rfl) T.b.n_isinstance (by decide +kernel) (pa_cons (pv 2) (pa_cons (pe_bltn (v := .ty "tuple") (by rfl) T.b.n_tuple (by decide +kernel) rfl) pa_nil))))) (pw_or1 (pt_cmpR op_ne (pe_callB call_len_seq (by rfl) T.b.n_len PySem.boot_len (pa_cons (pv 2) pa_nil)) pe_int (nomark _))))) (pss_one (ps_ret pe_bl)) pss_nil)
    (pss_one (ps_if (PW.pt (pw_or (pt_not (pt_val (pe_call GN hr1 rfl T.g_is_name T.k_is_name bN .nil pass0 (pa_cons (pe_ix ix_tup (pv 2) pe_int (fun _ _ => rfl)) pa_nil)))) (pw_or1 (pt_not (pt_val (pe_call GT hr2 rfl T.g_are_ticks T.k_are_ticks bT .nil pass0 (pa_cons (pe_ix ix_tup (pv 2) pe_int (fun _ _ => rfl)) (pa_cons (pv 1) pa_nil)))))))) (pss_one (ps_ret pe_bl)) pss_nil))))
    (pss_one (ps_ret (pe_call GU hr1 rfl T.g_is_rising T.k_is_rising bU .nil pass0 (pa_cons (pe_lc (own := [("pair", 2)]) (g := gName 2) (tt := tYes) rfl sc_rows.nd (pi_tup (pv 0)) (blkOk_by (N := ["value", "size", "pair"]) (sc := defScope s_are_rows) (by decide +kernel)) (fun _ _ _ _ _ => (pg_name (i := 2) sc_rows.nd rfl (Or.inl rfl))) (fun _ _ _ _ _ => pts_nil) (fun _ _ _ _ _ => (pe_ix (ixT K) (pv 2) pe_int (fun _ _ => rfl)))) pa_nil)))))), ?_⟩
    obtain ⟨a, xs, rfl, ha, hl, hx⟩ := Dp.rowsI dv
    refine ⟨_, rfl, .ref a, "tuple", "tuple", true, rfl, tyX_tup ha, kb_tt, ?_⟩
    refine ⟨_, rfl, ?_⟩
    refine ⟨_, rfl, a, rfl, ⟨_, ha⟩, for_tup (xs := xs) (fun i σ H' => Same H H' ∧ ∃ v, σ = [some (.ref a), some (.int size), v]) ⟨Same.refl H, _, rfl⟩ (fun i σ H' _ hh => Same.tup hh.1 ha) (fun i x σ H' hxi hh => ?_) (fun σ H' hh => ?_)⟩
    · obtain ⟨s1, v2, rfl⟩ := hh
      obtain ⟨r, hri, dr⟩ := hx i x hxi
      have hrm := List.mem_of_getElem? hri
      obtain ⟨p, y, rfl, hp, dy⟩ := Dp.rowI (Dp.same s1 dr)
      refine ⟨_, rfl, .ref p, "tuple", "tuple", true, rfl, tyX_tup hp, kb_tt, ?_⟩
      refine ⟨_, rfl, ?_⟩
      refine ⟨_, rfl, p, _, rfl, .inr hp, rfl, _, rfl, ?_⟩
      refine ⟨_, rfl, p, _, 0, _, rfl, rfl, hp, rfl, ?_⟩
      refine ⟨.str r.1, rfl, .inl ⟨r.1, rfl, by rw [isNm_len (hR.nm r hrm)]; exact fits rfl, ?_⟩⟩
      rw [hR.nm r hrm]
      refine ⟨_, rfl, ?_⟩
      refine ⟨_, rfl, p, _, 1, _, rfl, rfl, hp, rfl, ?_⟩
      refine ⟨_, rfl, y, size, r.2, rfl, dy, hR.ticks r hrm, fun H2 s2 => ?_⟩
      refine ⟨_, rfl, ?_⟩
      exact ⟨s1.trans s2, _, rfl⟩
    · obtain ⟨s1, v2, rfl⟩ := hh
      have fit := hR.fit
      refine ⟨_, rfl, a, rfl, ⟨_, Same.tup s1 ha⟩, fun D hD => lc_tup (xs := xs) (fun i H2 => Same H' H2 ∧ H2 D = some (.lst ((rows.take i).map fun r => V.str r.1))) ⟨Same.new (Same.refl H') hD, upd_same⟩ (fun i H2 _ hh => Same.tup (s1.trans hh.1) ha) (fun i x H2 hxi hh => ?_) (fun H2 hh => ?_)⟩
      · obtain ⟨s2, d2⟩ := hh
        obtain ⟨r, hri, dr⟩ := hx i x hxi
        obtain ⟨p, y, rfl, hp, dy⟩ := Dp.rowI (Dp.same (s1.trans s2) dr)
        refine ⟨rfl, ?_⟩
        refine ⟨_, rfl, p, _, 0, _, rfl, rfl, hp, rfl, _, d2, ?_, Same.put s2 hD, ?_⟩
        · rw [List.length_map, List.length_take]
          exact Nat.lt_of_le_of_lt (Nat.le_trans (Nat.min_le_right _ _) fit) (by decide)
        · rw [upd_same, List.take_add_one, hri]
          simp
      · obtain ⟨s2, d2⟩ := hh
        refine ⟨D, _, rfl, .inr (SqL.of d2), ?_, .inr ⟨rows.map (·.1), ?_⟩, fun H3 s3 => ?_⟩
        · rw [List.length_map, List.length_take]
          exact Nat.le_trans (Nat.le_trans (Nat.min_le_right _ _) fit) (by decide)
        · rw [hl, List.take_length]
          simp
        · rw [hl, List.take_length, hR.up]
          exact k H3 ((s1.trans s2).trans s3)
end
set_option Elab.async false
set_option linter.all false
set_option maxRecDepth 100000
set_option maxHeartbeats 4000000
open PySem PySem.Spec PyProof.Rows L2 RZ
/-! ### plans -/
theorem ps_never {X : Cx} {st : Stmt} : PS X st (fun _ _ _ => False) := ⟨fun _ _ _ _ _ _ h => h.elim⟩
/-- a def with defaults, no exception leaves it -/
theorem FunD.okN {P : Program} {w : World} {K : PySem.W.Frag} {mg : Str → Option Value} {base : Heap} {x qual : Str} {st : Stmt} {dvs : List V} {kws : List (Str × V)} {f : Addr} {fd : FuncData} {N ps : List Str} {k : Nat} {sp : Sp}
    (F : FunD K x qual (defArgs st) (defBody st) (defScope st) dvs kws f fd) (S : FnScope N ps (defScope st)) (len : ∀ vs H Q E, sp vs H Q E → vs.length = ps.length)
    (hbody : ∀ (cdv : Value) (A : Around) (outer : List Env) (s : Shared) (H : Hp) (vs : List V) (Q : VK) (E : XK), Room k (A.deeper (envOfC qual (defScope st) s.heap.objs.size f cdv)) → sp vs H Q E →
      ∃ t, PSs (cxOf CX0 P w K mg base N qual (defScope st) f cdv A outer s H E).nox (defBody st) t ∧ t { nx := fun _ H' => Q .non H', rt := Q } (start N vs) H) : FnOk P w K mg base CX0 (k + 1) f fd ps sp :=
  F.ok S len fun cdv A outer s H vs Q E hr hsp => by
    obtain ⟨t, h, q⟩ := hbody cdv A outer s H vs Q E hr hsp
    exact ⟨t, h.nox, q⟩
theorem But.ofNew {p : Addr} {H2 H H' : Hp} (s : Same H2 H) (n : H2 p = none) (b : But p H H') : Same H2 H' := fun c o e => b c o (ne_of_none e n) (s c o e)
/-- at p stands a plan -/
def PlanAt (K : PySem.W.Frag) (C : Addr) (H : Hp) (p : Addr) (size : Int) (rows : List Row) : Prop := ∃ dx v, H p = some (.ins C dx [("_size", .int size), ("_rows", v)]) ∧ Dp K H v (rowsD rows)
theorem PlanAt.same {K : PySem.W.Frag} {C : Addr} {H H' : Hp} {p : Addr} {size : Int} {rows : List Row} (s : Same H H') (h : PlanAt K C H p size rows) : PlanAt K C H' p size rows := by
  obtain ⟨dx, v, h1, h2⟩ := h
  exact ⟨dx, v, s _ _ h1, Dp.same s h2⟩
/-- Plan.__init__, all right -/
def spInit (K : PySem.W.Frag) (C : Addr) : Sp := fun vs H Q _ => ∃ (a dx : Addr) (size : Int) (v : V) (rows : List Row), vs = [.ref a, .int size, v] ∧ H a = some (.ins C dx []) ∧ Dp K H v (rowsD rows) ∧ Rows size rows ∧ 0 ≤ size ∧ size ≤ 10000 ∧
  ∀ H', But a H H' → H' a = some (.ins C dx [("_size", .int size), ("_rows", v)]) → Q .non H'
def spSize (K : PySem.W.Frag) (C : Addr) : Sp := fun vs H Q _ => ∃ (p : Addr) (size : Int) (rows : List Row), vs = [.ref p] ∧ PlanAt K C H p size rows ∧ Q (.int size) H
def spRowsP (K : PySem.W.Frag) (C : Addr) : Sp := fun vs H Q _ => ∃ (p : Addr) (size : Int) (rows : List Row), vs = [.ref p] ∧ PlanAt K C H p size rows ∧ ∀ v, Dp K H v (rowsD rows) → Q v H
def namesD (rows : List Row) : PyData := .tuple (rows.map fun r => PyData.str r.1)
def spNames (K : PySem.W.Frag) (C : Addr) : Sp := fun vs H Q _ => ∃ (p : Addr) (size : Int) (rows : List Row), vs = [.ref p] ∧ PlanAt K C H p size rows ∧ rows.length ≤ 100 ∧
  ∀ (b : Addr) H', Same H H' → SqT K H' b (rows.map fun r => V.str r.1) → Q (.ref b) H'
def spTicksP (K : PySem.W.Frag) (C : Addr) : Sp := fun vs H Q _ => ∃ (p : Addr) (size : Int) (rows : List Row) (z : Str) (r : Row), vs = [.ref p, .str z] ∧ PlanAt K C H p size rows ∧ rows.find? (fun r => decide (r.1 = z)) = some r ∧
  ∀ v, Dp K H v (ticksD r.2) → Q v H
/-- what the written part says of the class -/
structure PlanC (K : PySem.W.Frag) (C : Addr) : Prop where
  cls : Cls K C
  no_size : NoAttr K C "_size"
  no_rows : NoAttr K C "_rows"
structure TxtP (K : PySem.W.Frag) (mg : Str → Option Value) (fI fN fU fT fR : Addr) : Prop where
  t : TxtT K mg fI fN fU fT
  g_are_rows : mg "are_rows" = some (.ref fR)
  k_are_rows : PySem.W.keepIn K (.ref fR) = true
  g_most : ∃ t, mg "MOST_TICKS" = some (.int 10000 t)
section
variable {P : Program} {w : World} {K : PySem.W.Frag} {mg : Str → Option Value} {base : Heap} {C : Addr}
abbrev s_init : Stmt := inClass (top 16) 0
theorem sc_init : FnScope ["self", "size", "rows"] ["self", "size", "rows"] (defScope s_init) := ⟨rfl, rfl, rfl, by decide +kernel, rfl, by decide +kernel, by decide +kernel⟩
abbrev FunI (K : PySem.W.Frag) (dvs : List V) (f : Addr) (fd : FuncData) : Prop := FunD K "__init__" "Plan.__init__" (defArgs s_init) (defBody s_init) (defScope s_init) dvs [] f fd
theorem ok_init {dvs : List V} {f fI fN fU fT fR : Addr} {fd dI dR : FuncData} (F : FunI K dvs f fd) (PC : PlanC K C) (T : TxtP K mg fI fN fU fT fR)
    (GI : FnOk P w K mg base CX0 1 fI dI ["value", "least", "most"] (spInt K)) (bI : L2.Binds K dI ["value", "least", "most"] []) (GR : FnOk P w K mg base CX0 3 fR dR ["value", "size"] (spRows K)) (bR : L2.Binds K dR ["value", "size"] []) :
    FnOk P w K mg base CX0 4 f fd ["self", "size", "rows"] (spInit K C) := by
  refine FunD.okN F sc_init (fun vs H Q E h => ?_) (fun cdv A outer s H vs Q E hr h => ?_)
  · obtain ⟨a, dx, size, v, rows, rfl, _⟩ := h
    rfl
  · obtain ⟨a, dx, size, v, rows, rfl, ha, dv, hR, h0, h1, k⟩ := h
    have hr3 : Room 3 _ := hr.mono (by decide)
    have hr1 : Room 1 _ := hr.mono (by decide)
    obtain ⟨tk, gM⟩ := T.g_most
    refine ⟨_, (pss_cons (ps_if (pt_not (pt_val (pe_call GI hr1 rfl T.t.g_is_integer_from T.t.k_is_integer_from bI .nil pass0 (pa_cons (pv 1) (pa_cons pe_int (pa_cons (pe_glob (v := .int 10000) rfl gM ⟨tk, rfl⟩) pa_nil)))))) (pss_one ps_never) pss_nil)
    (pss_cons (ps_if (pt_not (pt_val (pe_call GR hr3 rfl T.g_are_rows T.k_are_rows bR .nil pass0 (pa_cons (pv 2) (pa_cons (pv 1) pa_nil))))) (pss_one ps_never) pss_nil)
    (pss_cons (ps_fld (pv 0) (pv 1) rfl)
    (pss_one (ps_fld (pv 0) (pv 2) rfl))))), ?_⟩
    refine ⟨_, rfl, .int size, 0, 10000, rfl, .inl ⟨size, rfl, ?_⟩⟩
    rw [decide_eq_true h0, decide_eq_true h1]
    refine ⟨_, rfl, ?_⟩
    refine ⟨_, rfl, _, rfl, v, size, rows, rfl, dv, hR, fun H1 s1 => ?_⟩
    refine ⟨_, rfl, ?_⟩
    refine ⟨_, rfl, _, rfl, a, C, dx, _, rfl, s1 _ _ ha, PC.cls, PC.no_size, by decide, ?_⟩
    refine ⟨_, rfl, _, rfl, a, C, dx, _, rfl, upd_same, PC.cls, PC.no_rows, by show 1 < 1000; decide, ?_⟩
    exact k _ (But.put (But.put (But.same s1))) upd_same
abbrev s_size : Stmt := inClass (top 16) 1
theorem sc_size : FnScope ["self"] ["self"] (defScope s_size) := ⟨rfl, rfl, rfl, by decide +kernel, rfl, by decide +kernel, by decide +kernel⟩
theorem ok_size {f : Addr} {fd : FuncData} (F : Fun K "size" "Plan.size" s_size f fd) (PC : PlanC K C) : FnOk P w K mg base CX0 1 f fd ["self"] (spSize K C) := by
  refine F.ok sc_size (fun vs H Q E h => ?_) (fun cdv A outer s H vs Q E hr h => ?_)
  · obtain ⟨p, size, rows, rfl, _⟩ := h
    rfl
  · obtain ⟨p, size, rows, rfl, ⟨dx, v, hp, dv⟩, k⟩ := h
    refine ⟨_, (pss_one (ps_ret (pe_fld (pv 0) rfl))), ?_⟩
    exact ⟨_, rfl, p, C, dx, _, _, rfl, hp, PC.cls, PC.no_size, rfl, k⟩
abbrev s_rows : Stmt := inClass (top 16) 2
theorem sc_rowsP : FnScope ["self"] ["self"] (defScope s_rows) := ⟨rfl, rfl, rfl, by decide +kernel, rfl, by decide +kernel, by decide +kernel⟩
theorem ok_rowsP {f : Addr} {fd : FuncData} (F : Fun K "rows" "Plan.rows" s_rows f fd) (PC : PlanC K C) : FnOk P w K mg base CX0 1 f fd ["self"] (spRowsP K C) := by
  refine F.ok sc_rowsP (fun vs H Q E h => ?_) (fun cdv A outer s H vs Q E hr h => ?_)
  · obtain ⟨p, size, rows, rfl, _⟩ := h
    rfl
  · obtain ⟨p, size, rows, rfl, ⟨dx, v, hp, dv⟩, k⟩ := h
    refine ⟨_, (pss_one (ps_ret (pe_fld (pv 0) rfl))), ?_⟩
    exact ⟨_, rfl, p, C, dx, _, _, rfl, hp, PC.cls, PC.no_rows, rfl, k v dv⟩
abbrev s_names : Stmt := inClass (top 16) 3
theorem sc_names : FnScope ["self", "pair"] ["self"] (defScope s_names) := ⟨rfl, rfl, rfl, by decide +kernel, rfl, by decide +kernel, by decide +kernel⟩
theorem ok_names {f : Addr} {fd : FuncData} (F : Fun K "names" "Plan.names" s_names f fd) (PC : PlanC K C) (n_tuple : mg "tuple" = none) : FnOk P w K mg base CX0 1 f fd ["self"] (spNames K C) := by
  refine F.ok sc_names (fun vs H Q E h => ?_) (fun cdv A outer s H vs Q E hr h => ?_)
  · obtain ⟨p, size, rows, rfl, _⟩ := h
    rfl
  · obtain ⟨p, size, rows, rfl, ⟨dx, v, hp, dv⟩, fit, k⟩ := h
    refine ⟨_, (pss_one (ps_ret (pe_callTy call_tuple_of (by rfl) n_tuple (by decide +kernel) (pa_cons (pe_lc (own := [("pair", 1)]) (g := gName 1) (tt := tYes) rfl sc_names.nd (pi_tup (pe_fld (pv 0) rfl)) (blkOk_by (N := ["self", "pair"]) (sc := defScope s_names) (by decide +kernel)) (fun _ _ _ _ _ => (pg_name (i := 1) sc_names.nd rfl (Or.inl rfl))) (fun _ _ _ _ _ => pts_nil) (fun _ _ _ _ _ => (pe_ix (ixT K) (pv 1) pe_int (fun _ _ => rfl)))) pa_nil)))), ?_⟩
    obtain ⟨a, xs, rfl, ha, hl, hx⟩ := Dp.rowsI dv
    refine ⟨_, rfl, p, C, dx, _, _, rfl, hp, PC.cls, PC.no_rows, rfl, a, rfl, ⟨_, ha⟩, fun D hD => lc_tup (xs := xs) (fun i H2 => Same H H2 ∧ H2 D = some (.lst ((rows.take i).map fun r => V.str r.1))) ⟨Same.new (Same.refl H) hD, upd_same⟩ (fun i H2 _ hh => Same.tup hh.1 ha) (fun i x H2 hxi hh => ?_) (fun H2 hh => ?_)⟩
    · obtain ⟨s2, d2⟩ := hh
      obtain ⟨r, hri, dr⟩ := hx i x hxi
      obtain ⟨p, y, rfl, hp, dy⟩ := Dp.rowI (Dp.same s2 dr)
      refine ⟨rfl, ?_⟩
      refine ⟨_, rfl, p, _, 0, _, rfl, rfl, hp, rfl, _, d2, ?_, Same.put s2 hD, ?_⟩
      · rw [List.length_map, List.length_take]
        exact Nat.lt_of_le_of_lt (Nat.le_trans (Nat.min_le_right _ _) fit) (by decide)
      · rw [upd_same, List.take_add_one, hri]
        simp
    · obtain ⟨s2, d2⟩ := hh
      refine ⟨D, _, rfl, .inl ⟨SqL.of d2, fun l hl2 => k l _ (Same.new s2 hl2) (SqT.of ?_)⟩⟩
      rw [upd_same, hl, List.take_length]
abbrev s_ticks : Stmt := inClass (top 16) 5
theorem sc_ticksP : FnScope ["self", "name", "pair"] ["self", "name"] (defScope s_ticks) := ⟨rfl, rfl, rfl, by decide +kernel, rfl, by decide +kernel, by decide +kernel⟩
theorem ok_ticksP {f : Addr} {fd : FuncData} (F : Fun K "ticks" "Plan.ticks" s_ticks f fd) (PC : PlanC K C) (B : TxtB K mg) : FnOk P w K mg base CX0 1 f fd ["self", "name"] (spTicksP K C) := by
  refine F.ok sc_ticksP (fun vs H Q E h => ?_) (fun cdv A outer s H vs Q E hr h => ?_)
  · obtain ⟨p, size, rows, z, r, rfl, _⟩ := h
    rfl
  · obtain ⟨p, size, rows, z, r, rfl, ⟨dx, v, hp, dv⟩, hf, k⟩ := h
    refine ⟨_, (pss_cons (ps_if (pt_val (pe_callB call_isB (by rfl) B.n_isinstance (by decide +kernel) (pa_cons (pv 1) (pa_cons (pe_bltn (v := .ty "str") (by rfl) B.n_str (by decide +kernel) rfl) pa_nil)))) (pss_one (ps_for PassesOwn.never rfl (pi_tup (pe_fld (pv 0) rfl)) (pg_name (i := 2) sc_ticksP.nd rfl (Or.inl rfl))
    (pss_one (ps_if (pt_cmpR op_eq (pe_ix ix_tup (pv 2) pe_int (fun _ _ => rfl)) (pv 1) (nomark _)) (pss_one (ps_ret (pe_ix ix_tup (pv 2) pe_int (fun _ _ => rfl)))) pss_nil)))) pss_nil)
    (pss_one ps_never)), ?_⟩
    obtain ⟨a, xs, rfl, ha, hl, hx⟩ := Dp.rowsI dv
    refine ⟨_, rfl, .str z, "str", "str", true, rfl, .base (.str z), kb_ss, _, rfl, ?_⟩
    refine ⟨_, rfl, p, C, dx, _, _, rfl, hp, PC.cls, PC.no_rows, rfl, a, rfl, ⟨_, ha⟩, for_tup (xs := xs) (fun i σ H' => H' = H ∧ (rows.take i).find? (fun r => decide (r.1 = z)) = none ∧ ∃ v, σ = [some (.ref p), some (.str z), v]) ⟨rfl, rfl, _, rfl⟩ (fun i σ H' _ hh => by rw [hh.1]; exact ha) (fun i x σ H' hxi hh => ?_) (fun σ H' hh => ?_)⟩
    · obtain ⟨rfl, hno, v2, rfl⟩ := hh
      obtain ⟨r2, hri, dr⟩ := hx i x hxi
      obtain ⟨q, y, rfl, hq, dy⟩ := Dp.rowI dr
      refine ⟨_, rfl, q, _, 0, _, rfl, rfl, hq, rfl, _, rfl, rfl, _, rfl, ?_⟩
      by_cases c : r2.1 = z
      · rw [decide_eq_true (show V.str r2.1 = V.str z by rw [c])]
        refine ⟨_, rfl, q, _, 1, _, rfl, rfl, hq, rfl, k y ?_⟩
        have hr2 : rows.find? (fun r => decide (r.1 = z)) = some r2 := by
          rw [show rows = rows.take i ++ (r2 :: rows.drop (i + 1)) from ?_, List.find?_append, hno, Option.none_or, List.find?_cons, decide_eq_true c]
          have hi : i < rows.length := (List.getElem?_eq_some_iff.mp hri).1
          rw [← (List.getElem?_eq_some_iff.mp hri).2, List.getElem_cons_drop, List.take_append_drop]
        rw [hr2] at hf
        rw [← Option.some.inj hf]
        exact dy
      · rw [decide_eq_false (show ¬ V.str r2.1 = V.str z from fun e => c (V.str.inj e))]
        refine ⟨rfl, ?_, _, rfl⟩
        rw [List.take_add_one, hri, List.find?_append, hno, Option.none_or]
        show List.find? _ [r2] = none
        rw [List.find?_cons, decide_eq_false c]
        rfl
    · obtain ⟨rfl, hno, _⟩ := hh
      rw [hl, List.take_length, hf] at hno
      cases hno
end
set_option Elab.async false
set_option linter.all false
set_option maxRecDepth 100000
set_option maxHeartbeats 4000000
open PySem PySem.Spec PyProof.Rows L2 RZ
/-! ### a dict of the ticks -/
/-- the ints that are keys of it -/
def DHas (kvs : List (Key × V)) (ns : List Int) : Prop := ∀ t : Int, (valV kvs (.inl t)).isSome = ns.contains t
theorem DHas.put {kvs : List (Key × V)} {ns : List Int} {n : Int} {y : V} (h : DHas kvs ns) : DHas (putK kvs (.inl n) y) (ns ++ [n]) := fun t => by
  rw [valV_put]
  by_cases c : (Sum.inl t : Key) = .inl n
  · rw [if_pos c]
    have : t = n := Sum.inl.inj c
    simp [this]
  · rw [if_neg c, h t]
    have : t ≠ n := fun e => c (by rw [e])
    simp [this]
/-- the marks of a row -/
def markC (b : Bool) : Str := if b = true then "#" else "."
def marksL (w : Nat) (ns : List Int) : List Str := (List.range w).map fun (t : Nat) => markC (ns.contains (t : Int))
def marksS (size : Int) (ns : List Int) : Str := Txt.join "" (marksL size.toNat ns)
theorem marksL_sum (w : Nat) (ns : List Int) : ((marksL w ns).map (·.length)).sum = w := by
  unfold marksL
  rw [List.map_map]
  have : ((fun (x : Str) => x.length) ∘ fun (t : Nat) => markC (ns.contains (t : Int))) = fun _ => 1 := by
    funext t
    simp only [Function.comp]
    cases ns.contains (t : Int) <;> rfl
  rw [this]
  clear this
  induction w with
  | zero => rfl
  | succ w ih => rw [List.range_succ, List.map_append, List.sum_append, ih]; rfl
theorem marksL_succ (w : Nat) (ns : List Int) : marksL (w + 1) ns = marksL w ns ++ [markC (ns.contains (w : Int))] := by
  unfold marksL
  rw [List.range_succ, List.map_append]
  rfl
theorem marksL_len (w : Nat) (ns : List Int) : (marksL w ns).length = w := by
  unfold marksL
  rw [List.length_map, List.length_range]
theorem marksL_fit {w : Nat} {ns : List Int} (h : w ≤ 10000) : ((marksL w ns).map (·.length)).sum + (marksL w ns).length * ("" : Str).length ≤ 16777216 := by
  rw [marksL_sum, show ("" : Str).length = 0 from rfl]
  omega
def spMarksP (K : PySem.W.Frag) (C : Addr) : Sp := fun vs H Q _ => ∃ (p : Addr) (size : Int) (rows : List Row) (z : Str) (r : Row), vs = [.ref p, .str z] ∧ PlanAt K C H p size rows ∧ rows.find? (fun r => decide (r.1 = z)) = some r ∧ 0 ≤ size ∧ size ≤ 10000 ∧ r.2.length ≤ 10000 ∧
  ∀ H', Same H H' → Q (.str (marksS size r.2)) H'
section
variable {P : Program} {w : World} {K : PySem.W.Frag} {mg : Str → Option Value} {base : Heap} {C : Addr}
abbrev s_marks : Stmt := inClass (top 16) 6
theorem sc_marksP : FnScope ["self", "name", "marked", "tick"] ["self", "name"] (defScope s_marks) := ⟨rfl, rfl, rfl, by decide +kernel, rfl, by decide +kernel, by decide +kernel⟩
theorem ok_marksP {f fK : Addr} {fd dK : FuncData} (F : Fun K "marks" "Plan.marks" s_marks f fd) (PC : PlanC K C) (B : TxtB K mg) (GK : FnOk P w K mg base CX0 1 fK dK ["self", "name"] (spTicksP K C)) (bK : L2.Binds K dK ["self", "name"] []) (hK : Meth K C "ticks" fK) :
    FnOk P w K mg base CX0 2 f fd ["self", "name"] (spMarksP K C) := by
  refine F.ok sc_marksP (fun vs H Q E h => ?_) (fun cdv A outer s H vs Q E hr h => ?_)
  · obtain ⟨p, size, rows, z, r, rfl, _⟩ := h
    rfl
  · obtain ⟨p, size, rows, z, r, rfl, ⟨dx, v, hp, dv⟩, hf, h0, h1, hz, k⟩ := h
    have hr1 : Room 1 _ := hr.mono (by decide)
    have hu := hu_of hr
    refine ⟨_, (pss_cons (ps_set (i := 2) sc_marksP.nd rfl (Or.inr rfl) (pe_dc (own := [("tick", 3)]) (g := gName 3) (tt := tYes) rfl sc_marksP.nd (pi_tup (pe_meth (pv 0) PC.cls hK GK hr1 bK .nil pass0 (pa_cons (pv 1) pa_nil))) (blkOk_by (N := ["self", "name", "marked", "tick"]) (sc := defScope s_marks) (by decide +kernel)) (fun _ _ _ _ _ => (pg_name (i := 3) sc_marksP.nd rfl (Or.inl rfl))) (fun _ _ _ _ _ => pts_nil) (fun _ _ _ _ _ => pv 3) (fun _ _ _ _ _ => pe_bl)))
    (pss_one (ps_ret (pe_join pe_str (pe_lc (own := [("tick", 3)]) (g := gName 3) (tt := tYes) rfl sc_marksP.nd (pi_range1 rfl B.n_range (pa_cons (pe_fld (pv 0) rfl) pa_nil)) (blkOk_by (N := ["self", "name", "marked", "tick"]) (sc := defScope s_marks) (by decide +kernel)) (fun _ _ _ _ _ => (pg_name (i := 3) sc_marksP.nd rfl (Or.inl rfl))) (fun _ _ _ _ _ => pts_nil) (fun _ _ _ _ _ => (pe_ifExp (pt_cmp (pc_din hu (pv 3) (pv 2))) pe_str pe_str))))))), ?_⟩
    refine ⟨_, rfl, p, dx, _, rfl, hp, rfl, _, rfl, p, size, rows, z, r, rfl, ⟨dx, v, hp, dv⟩, hf, fun v2 d2 => ?_⟩
    obtain ⟨a, rfl, ha⟩ := Dp.ticksI d2
    refine ⟨a, rfl, ⟨_, ha⟩, fun D hD => dc_tup (xs := r.2.map V.int) (fun i H2 => Same H H2 ∧ ∃ kvs, H2 D = some (.dK kvs) ∧ kvs.length ≤ i ∧ DHas kvs (r.2.take i)) ⟨Same.new (Same.refl H) hD, [], upd_same, Nat.le_refl _, fun t => rfl⟩ (fun i H2 _ hh => Same.tup hh.1 ha) (fun i x H2 hxi hh => ?_) (fun H2 hh => ?_)⟩
    · obtain ⟨s2, kvs, e2, l2, hd⟩ := hh
      rw [List.getElem?_map] at hxi
      obtain ⟨n, hn, rfl⟩ := Option.map_eq_some_iff.mp hxi
      have hil : i < r.2.length := (List.getElem?_eq_some_iff.mp hn).1
      refine ⟨rfl, ?_⟩
      refine ⟨_, rfl, kvs, .inl n, rfl, e2, ?_, Same.put s2 hD, _, upd_same, ?_, ?_⟩
      · exact Nat.lt_of_le_of_lt (Nat.le_trans l2 (Nat.le_trans (Nat.le_of_lt hil) hz)) (by decide)
      · have := length_putK kvs (.inl n) (.bl true)
        omega
      · rw [List.take_add_one, hn]
        exact hd.put
    · obtain ⟨s2, kvs, e2, l2, hd⟩ := hh
      rw [List.length_map, List.take_length] at hd
      refine ⟨⟨_, rfl⟩, ?_⟩
      refine ⟨_, rfl, p, C, dx, _, _, rfl, s2 _ _ hp, PC.cls, PC.no_size, rfl, size, rfl, by omega, by omega, fun D2 hD2 => lc_range (lo := 0) (n := size.toNat) (fun j H3 => Same H2 H3 ∧ H3 D2 = some (.lst ((marksL j r.2).map V.str))) ⟨Same.new (Same.refl H2) hD2, upd_same⟩ (fun j H3 hj hh => ?_) (fun H3 hh => ?_)⟩
      · obtain ⟨s3, d3⟩ := hh
        refine ⟨rfl, ?_⟩
        refine ⟨_, rfl, _, rfl, D, _, rfl, .inl ⟨kvs, .inl (0 + (j : Int)), .inl (s3 _ _ e2), rfl, rfl⟩, _, rfl, ?_⟩
        have hfit : ((marksL j r.2).map V.str).length < sizeLine := by
          rw [List.length_map, marksL_len]
          exact Nat.lt_of_lt_of_le (show j < 10000 by omega) (by decide)
        have hz2 : valV kvs (.inl (0 + (j : Int))) = valV kvs (.inl (j : Int)) := by rw [Int.zero_add]
        rw [hz2, hd (j : Int)]
        have fin : ∀ b : Bool, b = r.2.contains (j : Int) → Same H2 (upd H3 D2 (.lst ((marksL j r.2).map V.str ++ [V.str (markC b)]))) ∧ upd H3 D2 (.lst ((marksL j r.2).map V.str ++ [V.str (markC b)])) D2 = some (.lst ((marksL (j + 1) r.2).map V.str)) := fun b e => by
          subst e
          refine ⟨Same.put s3 hD2, ?_⟩
          rw [upd_same, marksL_succ, List.map_append]
          rfl
        cases c : r.2.contains (j : Int) with
        | true => exact ⟨_, d3, hfit, fin true c.symm⟩
        | false => exact ⟨_, d3, hfit, fin false c.symm⟩
      · obtain ⟨s3, d3⟩ := hh
        exact ⟨_, D2, marksL size.toNat r.2, rfl, rfl, .inl (SqL.of d3), marksL_fit (by omega), k H3 (s2.trans s3)⟩
end
set_option Elab.async false
set_option linter.all false
set_option maxRecDepth 100000
set_option maxHeartbeats 4000000
open PySem PySem.Spec PyProof.Rows L2 RZ
/-! ### names stand once -/
theorem up_pair : ∀ (zs : List Str), (upV (zs.map V.str)).all id = true → zs.Pairwise (fun a b => a.cps.toList < b.cps.toList)
  | [], _ => List.Pairwise.nil
  | [a], _ => List.pairwise_singleton _ _
  | a :: b :: r, h => by
    have h1 : decide (a.cps.toList < b.cps.toList) = true ∧ (upV ((b :: r).map V.str)).all id = true := by
      have : upV ((a :: b :: r).map V.str) = decide (a.cps.toList < b.cps.toList) :: upV ((b :: r).map V.str) := rfl
      rw [this, List.all_cons, Bool.and_eq_true] at h
      exact h
    have ih := up_pair (b :: r) h1.2
    have ab := of_decide_eq_true h1.1
    refine List.pairwise_cons.mpr ⟨fun c hc => ?_, ih⟩
    rcases List.mem_cons.mp hc with rfl | hc
    · exact ab
    · exact List.lt_trans ab ((List.pairwise_cons.mp ih).1 c hc)
theorem find_at : ∀ {rows : List Row} {i : Nat} {r : Row}, (rows.map (·.1)).Pairwise (fun a b => a ≠ b) → rows[i]? = some r → rows.find? (fun q => decide (q.1 = r.1)) = some r
  | [], i, r, _, e => by simp at e
  | q :: rows, 0, r, _, e => by
    simp at e
    subst e
    rw [List.find?_cons, decide_eq_true rfl]
  | q :: rows, i + 1, r, h, e => by
    rw [List.getElem?_cons_succ] at e
    rw [List.map_cons, List.pairwise_cons] at h
    have hne : q.1 ≠ r.1 := h.1 r.1 (List.mem_map.mpr ⟨r, List.mem_of_getElem? e, rfl⟩)
    rw [List.find?_cons, decide_eq_false hne]
    exact find_at h.2 e
theorem Rows.find {size : Int} {rows : List Row} {i : Nat} {r : Row} (h : Rows size rows) (e : rows[i]? = some r) : rows.find? (fun q => decide (q.1 = r.1)) = some r := by
  refine find_at ?_ e
  have hu := h.up
  have : (rows.map fun r => V.str r.1) = (rows.map (·.1)).map V.str := by rw [List.map_map]; rfl
  rw [this] at hu
  refine (up_pair _ hu).imp fun {a b} hab hne => ?_
  subst hne
  exact List.lt_irrefl _ hab
theorem str_nil (z : Str) : Str.empty ++ z = z := by
  cases z
  show Str.mk _ = Str.mk _
  congr 1
  simp [Str.empty]
def lineS (size : Int) (r : Row) : Str := r.1 ++ " " ++ marksS size r.2
def planL (size : Int) (rows : List Row) : List Str := (toString size : Str) :: rows.map (lineS size)
def planS (size : Int) (rows : List Row) : Str := Txt.join "\n" (planL size rows)
def spTextP (K : PySem.W.Frag) (C : Addr) : Sp := fun vs H Q _ => ∃ (p : Addr) (size : Int) (rows : List Row), vs = [.ref p] ∧ PlanAt K C H p size rows ∧ Rows size rows ∧ 0 ≤ size ∧ size ≤ 10000 ∧ ∀ H', Same H H' → Q (.str (planS size rows)) H'
theorem ts_fit {size : Int} (h0 : 0 ≤ size) (h1 : size ≤ 10000) : (toString size : Str).length ≤ 6 := by
  have e := int_text_length_le10 (a := size) (k := 5) (by decide) (by omega)
  rw [show (toString size : Str) = Str.ofString (toString size) from rfl, PySem.ofString_length]
  omega
theorem marksS_len {size : Int} {ns : List Int} : (marksS size ns).length ≤ size.toNat := by
  unfold marksS Txt.join
  rw [StrLaws.glued_eq_join]
  refine Nat.le_trans (StrLaws.join_length_le _ _) ?_
  rw [marksL_sum, show ("" : Str).length = 0 from rfl]
  omega
theorem lineS_len {size : Int} {r : Row} (h : r.1.length = 1) : (lineS size r).length ≤ size.toNat + 2 := by
  unfold lineS
  rw [PySem.Str.length_append, PySem.Str.length_append, h, show (" " : Str).length = 1 from rfl]
  have := marksS_len (size := size) (ns := r.2)
  omega
theorem sum_le {α : Type} {f : α → Nat} {m : Nat} : ∀ {xs : List α}, (∀ x ∈ xs, f x ≤ m) → (xs.map f).sum ≤ xs.length * m
  | [], _ => by simp
  | x :: xs, h => by
    have h1 := h x (List.mem_cons_self ..)
    have h2 := sum_le (xs := xs) fun y hy => h y (List.mem_cons_of_mem _ hy)
    rw [List.map_cons, List.sum_cons, List.length_cons, Nat.succ_mul]
    omega
theorem planL_fit {size : Int} {rows : List Row} (h : Rows size rows) (h0 : 0 ≤ size) (h1 : size ≤ 10000) : ((planL size rows).map (·.length)).sum + (planL size rows).length * ("\n" : Str).length ≤ 16777216 := by
  have f := h.fit
  have a := ts_fit h0 h1
  have b := sum_le (f := fun r : Row => (lineS size r).length) (m := 10002) (xs := rows) fun r hr => by
    have := lineS_len (size := size) (isNm_len (h.nm r hr))
    omega
  have e : ((planL size rows).map (·.length)).sum = (toString size : Str).length + (rows.map fun r => (lineS size r).length).sum := by
    unfold planL
    rw [List.map_cons, List.sum_cons, List.map_map]
    rfl
  have l : (planL size rows).length = rows.length + 1 := by
    unfold planL
    simp
  rw [e, l, show ("\n" : Str).length = 1 from rfl]
  omega
/-- f'..', its parts named -/
def tJoined (ts : List TE) : TE := fun σ H Q => tJs ts Str.empty σ H fun out H1 => Q (.str out) H1
theorem pe_joinedN {X : Cx} {v1 v2 : Expr} {rest : List Expr} {ts : List TE} {pos : Pos} (h : PJ X (v1 :: v2 :: rest) ts) : PE X (.JoinedStr (v1 :: v2 :: rest) pos) (tJoined ts) := pe_joined h
theorem log_fit {size : Int} (h0 : 0 ≤ size) (h1 : size ≤ 10000) : size.natAbs.log2 < 1920 := by
  by_cases z : size.natAbs = 0
  · rw [z]
    decide
  · exact Nat.lt_of_lt_of_le ((Nat.log2_lt z).mpr (show size.natAbs < 2 ^ 14 by omega)) (by decide)
theorem fit2 {n : Nat} (h : n ≤ 20000) : n ≤ sizeLine := Nat.le_trans h (by decide)
section
variable {P : Program} {w : World} {K : PySem.W.Frag} {mg : Str → Option Value} {base : Heap} {C : Addr}
abbrev s_text : Stmt := inClass (top 16) 4
theorem sc_textP : FnScope ["self", "lines", "name"] ["self"] (defScope s_text) := ⟨rfl, rfl, rfl, by decide +kernel, rfl, by decide +kernel, by decide +kernel⟩
theorem ok_textP {f fN pN fM : Addr} {fd dN dM : FuncData} (F : Fun K "text" "Plan.text" s_text f fd) (PC : PlanC K C) (B : TxtB K mg) (GN : FnOk P w K mg base CX0 1 fN dN ["self"] (spNames K C)) (bN : L2.Binds K dN ["self"] []) (hN : PropOf K C "names" pN fN)
    (GM : FnOk P w K mg base CX0 2 fM dM ["self", "name"] (spMarksP K C)) (bM : L2.Binds K dM ["self", "name"] []) (hM : Meth K C "marks" fM) :
    FnOk P w K mg base CX0 3 f fd ["self"] (spTextP K C) := by
  refine F.ok sc_textP (fun vs H Q E h => ?_) (fun cdv A outer s H vs Q E hr h => ?_)
  · obtain ⟨p, size, rows, rfl, _⟩ := h
    rfl
  · obtain ⟨p, size, rows, rfl, hp, hR, h0, h1, k⟩ := h
    refine ⟨_, (pss_cons (ps_setLc (i := 1) (own := [("name", 2)]) (g := gName 2) (tt := tYes) rfl sc_textP.nd rfl rfl (sw_true rfl rfl rfl (by decide +kernel)) (pi_tup (pe_prop (pv 0) PC.cls hN GN hr bN .nil pass0 rfl)) (blkOk_by (N := ["self", "lines", "name"]) (sc := defScope s_text) (by decide +kernel)) (fun _ _ _ _ _ => (pg_name (i := 2) sc_textP.nd rfl (Or.inl rfl))) (fun _ _ _ _ _ => pts_nil) (fun _ _ _ _ _ => (pe_joinedN (PJ.cons (pe_fmt (pv 2)) (PJ.cons pe_str (PJ.cons (pe_fmt (pe_meth (pv 0) PC.cls hM GM hr bM .nil pass0 (pa_cons (pv 2) pa_nil))) PJ.nil))))))
    (pss_one (ps_ret (pe_join pe_str (pe_lstN (pa_cons (pe_callTy call_str_int (by rfl) B.n_str (by decide +kernel) (pa_cons (pe_fld (pv 0) rfl) pa_nil)) (StX.pa_star (pv 1) pa_nil))))))), ?_⟩
    have hp2 := hp
    obtain ⟨dx, v, e1, dv⟩ := hp
    refine ⟨_, rfl, p, dx, _, rfl, e1, p, size, rows, rfl, hp2, hR.fit, fun b H1 s1 hb => ?_⟩
    refine ⟨b, rfl, ⟨_, hb⟩, fun D hD => lc_tup (xs := rows.map fun r : Row => V.str r.1) (fun i H2 => Same H1 H2 ∧ H2 D = some (.lst (((rows.take i).map (lineS size)).map V.str))) ⟨Same.new (Same.refl H1) hD, upd_same⟩ (fun i H2 _ hh => Same.tup hh.1 hb) (fun i x H2 hxi hh => ?_) (fun H2 hh => ?_)⟩
    · obtain ⟨s2, d2⟩ := hh
      rw [List.getElem?_map] at hxi
      obtain ⟨r, hri, rfl⟩ := Option.map_eq_some_iff.mp hxi
      have hrm := List.mem_of_getElem? hri
      have hz := isNm_len (hR.nm r hrm)
      have hm := marksS_len (size := size) (ns := r.2)
      have s12 := s1.trans s2
      have l0 : (Str.empty ++ r.1).length = 1 := by rw [PySem.Str.length_append, hz]; rfl
      have l1 : (Str.empty ++ r.1 ++ " ").length = 2 := by rw [PySem.Str.length_append, l0]; rfl
      refine ⟨rfl, ?_⟩
      refine ⟨_, rfl, .inl ⟨r.1, rfl, by rw [hz]; exact fits rfl, r.1, rfl, by rw [l0]; exact fits rfl, ?_⟩⟩
      refine ⟨" ", rfl, by rw [l1]; exact fits rfl, ?_⟩
      refine ⟨_, rfl, p, dx, _, rfl, s12 _ _ e1, rfl, _, rfl, p, size, rows, r.1, r, rfl, PlanAt.same s12 hp2, hR.find hri, h0, h1, (hR.ticks r hrm).fit, fun H3 s3 => ?_⟩
      refine .inl ⟨_, rfl, fit2 (by omega), _, rfl, ?_, ?_⟩
      · rw [PySem.Str.length_append, l1]
        exact fit2 (by omega)
      · have s23 := s2.trans s3
        refine ⟨_, s3 _ _ d2, ?_, Same.put s23 hD, ?_⟩
        · have fit := hR.fit
          rw [List.length_map, List.length_map, List.length_take]
          exact Nat.lt_of_le_of_lt (Nat.le_trans (Nat.min_le_right _ _) fit) (by decide)
        · rw [upd_same, List.take_add_one, hri, str_nil]
          simp [lineS]
    · obtain ⟨s2, d2⟩ := hh
      rw [List.length_map, List.take_length] at d2
      have fit := hR.fit
      have s12 := s1.trans s2
      refine ⟨⟨_, rfl⟩, _, rfl, p, C, dx, _, _, rfl, s12 _ _ e1, PC.cls, PC.no_size, rfl, size, rfl, ?_, _, rfl, D, _, rfl, .inr (SqL.of d2), ?_⟩
      · exact log_fit h0 h1
      · refine ⟨?_, fun l H3 n3 s3 e3 => ?_⟩
        · simp
          exact fit2 (by omega)
        · refine ⟨_, l, planL size rows, rfl, rfl, .inl (SqL.of ?_), planL_fit hR h0 h1, k H3 (s12.trans s3)⟩
          rw [e3]
          simp [planL]
end
set_option Elab.async false
set_option linter.all false
set_option maxRecDepth 100000
set_option maxHeartbeats 4000000
open PySem PySem.Spec PyProof.Rows L2 RZ
/-! ### rows compared -/
theorem eqv_ints : ∀ ns ms : List Int, PyData.eqvAll (ns.map PyData.int) (ms.map PyData.int) = decide (ns = ms)
  | [], [] => by simp [PyData.eqvAll]
  | [], c :: cs => by simp [PyData.eqvAll]
  | b :: bs, [] => by simp [PyData.eqvAll]
  | b :: bs, c :: cs => by
    simp only [List.map_cons, PyData.eqvAll, PyData.eqv, eqv_ints bs cs]
    by_cases h : b = c <;> by_cases k : bs = cs <;> simp [h, k]
theorem eqv_row (a b : Row) : PyData.eqv (rowD a) (rowD b) = decide (a = b) := by
  obtain ⟨z, ns⟩ := a
  obtain ⟨y, ms⟩ := b
  simp only [rowD, ticksD, PyData.eqv, PyData.eqvAll, eqv_ints, Bool.and_true]
  by_cases h : z = y <;> by_cases k : ns = ms <;> simp [h, k]
theorem eqv_rowl : ∀ a b : List Row, PyData.eqvAll (a.map rowD) (b.map rowD) = decide (a = b)
  | [], [] => by simp [PyData.eqvAll]
  | [], c :: cs => by simp [PyData.eqvAll]
  | b :: bs, [] => by simp [PyData.eqvAll]
  | b :: bs, c :: cs => by
    simp only [List.map_cons, PyData.eqvAll, eqv_row, eqv_rowl bs cs]
    by_cases h : b = c <;> by_cases k : bs = cs <;> simp [h, k]
theorem eqv_rows (a b : List Row) : PyData.eqv (rowsD a) (rowsD b) = decide (a = b) := by
  simp only [rowsD, PyData.eqv, eqv_rowl]
theorem lay_ints : ∀ ns : List Int, PyData.canLayAll0 (ns.map PyData.int) = true
  | [] => by simp [PyData.canLayAll0]
  | b :: bs => by simp [PyData.canLayAll0, PyData.canLay0, lay_ints bs]
theorem deep_ints : ∀ ns : List Int, PyData.depthAll (ns.map PyData.int) = 0
  | [] => by simp [PyData.depthAll]
  | b :: bs => by simp [PyData.depthAll, PyData.depth, deep_ints bs]
theorem isNm_ok {z : Str} (h : isNm z = true) : PyData.strOk z = true := by
  have hl := isNm_len h
  unfold isNm at h
  rw [Bool.and_eq_true, Bool.and_eq_true] at h
  obtain ⟨_, _, h2⟩ := h
  obtain ⟨⟨l⟩⟩ := z
  have hl2 : l.length = 1 := hl
  match l, hl2 with
  | [c], _ =>
    have e : ("Z" : Str).cps.toList = [90] := by decide +kernel
    simp only [e] at h2
    have h3 : ¬ ([90] : List Nat) < [c] := by simpa using h2
    have h4 : ¬ 90 < c := fun q => h3 (List.cons_lt_cons_iff.mpr (.inl q))
    show (#[c] : Array Nat).all (· < 0x110000) = true
    simp
    omega
theorem lay_row (a : Row) (h : PyData.strOk a.1 = true) : (rowD a).canLay0 = true := by simp [rowD, ticksD, PyData.canLay0, PyData.canLayAll0, lay_ints, h]
theorem deep_row (a : Row) : (rowD a).depth = 2 := by simp [rowD, ticksD, PyData.depth, PyData.depthAll, deep_ints]
theorem lay_rowl : ∀ a : List Row, (∀ r ∈ a, PyData.strOk r.1 = true) → PyData.canLayAll0 (a.map rowD) = true
  | [], _ => by simp [PyData.canLayAll0]
  | b :: bs, h => by simp [PyData.canLayAll0, lay_row b (h b (List.mem_cons_self ..)), lay_rowl bs fun r hr => h r (List.mem_cons_of_mem _ hr)]
theorem deep_rowl : ∀ a : List Row, PyData.depthAll (a.map rowD) ≤ 2
  | [] => by simp [PyData.depthAll]
  | b :: bs => by
    have := deep_rowl bs
    simp only [List.map_cons, PyData.depthAll, deep_row]
    omega
theorem shaped_rows {size : Int} {a : List Row} (h : Rows size a) : SeqAt.shaped (rowsD a) = true := by
  have h1 := lay_rowl a fun r hr => isNm_ok (h.nm r hr)
  have h2 := deep_rowl a
  show (PyData.canLay0 (rowsD a) && decide (PyData.depth (rowsD a) ≤ 64)) = true
  rw [Bool.and_eq_true, decide_eq_true_eq]
  refine ⟨?_, ?_⟩
  · simp only [rowsD, PyData.canLay0, h1]
  · simp only [rowsD, PyData.depth]
    omega
/-- what isinstance asks of the class -/
structure PlanI (K : PySem.W.Frag) (C : Addr) : Prop where
  c : PlanC K C
  ha : PySem.W.findIn K (.ref C) "__class__" = some (some (.builtin "object.__class__"))
  hn : PySem.W.specialIn K (.builtin "object.__class__") "__get__" = some (some (.builtin "getset_descriptor.__get__"))
  ht : PySem.W.takesIn K (.builtin "object.__class__") = some true
  hm : PySem.W.mroIn K C (.type "object") = some true
  kc : PySem.W.kitOne K (.ref C) (.ref C) = some true
theorem PlanI.ty {K : PySem.W.Frag} {C : Addr} {H : Hp} {p : Addr} {size : Int} {rows : List Row} (T : PlanI K C) (h : PlanAt K C H p size rows) : TyX K H (.ref p) (.ref C) := by
  obtain ⟨dx, v, h1, _⟩ := h
  exact .base (.ins h1 T.c.cls T.ha T.hn T.ht T.hm)
/-- what stands beside a plan: another plan, or what is none -/
def Beside (K : PySem.W.Frag) (C : Addr) (H : Hp) (size : Int) (rows : List Row) (y : V) (b : Bool) : Prop :=
  (∃ q s2 r2, y = .ref q ∧ PlanAt K C H q s2 r2 ∧ Rows s2 r2 ∧ b = (decide (size = s2) && decide (rows = r2))) ∨ (b = false ∧ ∃ t, TyX K H y t ∧ PySem.W.kitOne K t (.ref C) = some false)
def spEqP (K : PySem.W.Frag) (C : Addr) : Sp := fun vs H Q _ => ∃ (p : Addr) (size : Int) (rows : List Row) (y : V) (b : Bool), vs = [.ref p, y] ∧ PlanAt K C H p size rows ∧ Rows size rows ∧ Beside K C H size rows y b ∧ Q (.bl b) H
def reprS (size : Int) : Str := "Plan(" ++ (toString size : Str) ++ " ticks)"
def spReprP (K : PySem.W.Frag) (C : Addr) : Sp := fun vs H Q _ => ∃ (p : Addr) (size : Int) (rows : List Row), vs = [.ref p] ∧ PlanAt K C H p size rows ∧ 0 ≤ size ∧ size ≤ 10000 ∧ Q (.str (reprS size)) H
section
variable {P : Program} {w : World} {K : PySem.W.Frag} {mg : Str → Option Value} {base : Heap} {C : Addr}
abbrev s_eq : Stmt := inClass (top 16) 9
theorem sc_eqP : FnScope ["self", "other"] ["self", "other"] (defScope s_eq) := ⟨rfl, rfl, rfl, by decide +kernel, rfl, by decide +kernel, by decide +kernel⟩
theorem ok_eqP {f : Addr} {fd : FuncData} (F : Fun K "__eq__" "Plan.__eq__" s_eq f fd) (T : PlanI K C) (B : TxtB K mg) (gC : mg "Plan" = some (.ref C)) : FnOk P w K mg base CX0 1 f fd ["self", "other"] (spEqP K C) := by
  refine F.ok sc_eqP (fun vs H Q E h => ?_) (fun cdv A outer s H vs Q E hr h => ?_)
  · obtain ⟨p, size, rows, y, b, rfl, _⟩ := h
    rfl
  · obtain ⟨p, size, rows, y, b, rfl, hp, hR, hb, k⟩ := h
    have hu : (A.deeper (envOfC "Plan.__eq__" (defScope s_eq) s.heap.objs.size f cdv)).units + 64 < cLine := by
      have := hr.un
      omega
    have hp2 := hp
    obtain ⟨dx, v, e1, dv⟩ := hp
    refine ⟨_, (pss_one (ps_ret (pe_and (pe_callB call_isi (by rfl) B.n_isinstance (by decide +kernel) (pa_cons (pv 1) (pa_cons (pe_glob (v := .ref C) rfl gC rfl) pa_nil))) (pe_and (pe_cmpR op_eq (pe_fld (pv 0) rfl) (pe_fld (pv 1) rfl) (nomark _)) (pe_one (pe_cmpR (op_eqD hu) (pe_fld (pv 0) rfl) (pe_fld (pv 1) rfl) (nomark _))))))), ?_⟩
    rcases hb with ⟨q, s2, r2, rfl, hq, hR2, rfl⟩ | ⟨rfl, t, ty, kt⟩
    · have hq2 := hq
      obtain ⟨dy, v2, e2, dv2⟩ := hq
      refine ⟨_, rfl, .ref q, .ref C, .ref C, .ref C, true, rfl, .own C, T.ty hq2, T.kc, _, rfl, ?_⟩
      refine ⟨_, rfl, p, C, dx, _, _, rfl, e1, T.c.cls, T.c.no_size, rfl, _, rfl, q, C, dy, _, _, rfl, e2, T.c.cls, T.c.no_size, rfl, rfl, _, rfl, ?_⟩
      by_cases c : size = s2
      · subst c
        rw [if_pos (by simp)]
        rw [decide_eq_true rfl, Bool.true_and] at k
        refine ⟨_, rfl, p, C, dx, _, _, rfl, e1, T.c.cls, T.c.no_rows, rfl, _, rfl, q, C, dy, _, _, rfl, e2, T.c.cls, T.c.no_rows, rfl, _, _, dv, dv2, shaped_rows hR, shaped_rows hR2, ?_⟩
        rw [eqv_rows]
        exact k
      · rw [if_neg (by simpa using c)]
        rw [decide_eq_false c, Bool.false_and] at k
        exact k
    · exact ⟨_, rfl, y, .ref C, t, .ref C, false, rfl, .own C, ty, kt, _, rfl, k⟩
abbrev s_str : Stmt := inClass (top 16) 10
theorem sc_strP : FnScope ["self"] ["self"] (defScope s_str) := ⟨rfl, rfl, rfl, by decide +kernel, rfl, by decide +kernel, by decide +kernel⟩
theorem ok_strP {f fT pT : Addr} {fd dT : FuncData} (F : Fun K "__str__" "Plan.__str__" s_str f fd) (PC : PlanC K C) (B : TxtB K mg) (GT : FnOk P w K mg base CX0 3 fT dT ["self"] (spTextP K C)) (bT : L2.Binds K dT ["self"] []) (hT : PropOf K C "text" pT fT) :
    FnOk P w K mg base CX0 5 f fd ["self"] (spTextP K C) := by
  refine F.ok sc_strP (fun vs H Q E h => ?_) (fun cdv A outer s H vs Q E hr h => ?_)
  · obtain ⟨p, size, rows, rfl, _⟩ := h
    rfl
  · obtain ⟨p, size, rows, rfl, hp, hR, h0, h1, k⟩ := h
    have hp2 := hp
    obtain ⟨dx, v, e1, dv⟩ := hp
    refine ⟨_, (pss_one (ps_ret (pe_callTy SkE.call_str_str (by rfl) B.n_str (by decide +kernel) (pa_cons (pe_prop (pv 0) PC.cls hT GT hr bT .nil pass0 rfl) pa_nil)))), ?_⟩
    exact ⟨_, rfl, p, dx, _, rfl, e1, p, size, rows, rfl, hp2, hR, h0, h1, fun H' s' => ⟨_, rfl, k H' s'⟩⟩
abbrev s_repr : Stmt := inClass (top 16) 11
theorem sc_reprP : FnScope ["self"] ["self"] (defScope s_repr) := ⟨rfl, rfl, rfl, by decide +kernel, rfl, by decide +kernel, by decide +kernel⟩
theorem ok_reprP {f : Addr} {fd : FuncData} (F : Fun K "__repr__" "Plan.__repr__" s_repr f fd) (PC : PlanC K C) : FnOk P w K mg base CX0 1 f fd ["self"] (spReprP K C) := by
  refine F.ok sc_reprP (fun vs H Q E h => ?_) (fun cdv A outer s H vs Q E hr h => ?_)
  · obtain ⟨p, size, rows, rfl, _⟩ := h
    rfl
  · obtain ⟨p, size, rows, rfl, ⟨dx, v, e1, dv⟩, h0, h1, k⟩ := h
    refine ⟨_, (pss_one (ps_ret (pe_joinedN (PJ.cons pe_str (PJ.cons (pe_fmt (pe_fld (pv 0) rfl)) (PJ.cons pe_str PJ.nil)))))), ?_⟩
    have l1 := ts_fit h0 h1
    refine ⟨"Plan(", rfl, fits rfl, ?_⟩
    refine ⟨_, rfl, p, C, dx, _, _, rfl, e1, PC.cls, PC.no_size, rfl, .inr ⟨size, rfl, log_fit h0 h1, _, rfl, ?_, ?_⟩⟩
    · rw [PySem.Str.length_append]
      exact fit2 (Nat.le_trans (Nat.add_le_add_left l1 _) (by decide))
    · refine ⟨" ticks)", rfl, ?_, ?_⟩
      · rw [PySem.Str.length_append, PySem.Str.length_append]
        exact fit2 (Nat.le_trans (Nat.add_le_add_right (Nat.add_le_add_left l1 _) _) (by decide))
      · rw [str_nil]
        exact k
end
set_option Elab.async false
set_option linter.all false
set_option maxRecDepth 100000
set_option maxHeartbeats 4000000
open PySem PySem.Spec PyProof.Rows L2 RZ
theorem But.put2 {p q : Addr} {H H1 : Hp} {o : HO} (a : But p H H1) (h : H q = none) : But p H (upd H1 q o) := fun c u n e => by
  rw [upd_ne (ne_of_none e h)]
  exact a c u n e
theorem Purse.same {H H' : Hp} {p : Addr} (s : Same H H') (h : Purse H p) : Purse H' p := by
  obtain ⟨g, t, n, h1, h2⟩ := h
  exact ⟨g, t, n, s _ _ h1, h2⟩
theorem Purse.upd {H : Hp} {p q : Addr} {o : HO} (n : p ≠ q) (h : Purse H p) : Purse (upd H q o) p := by
  obtain ⟨g, t, n2, h1, h2⟩ := h
  exact ⟨g, t, n2, by rw [upd_ne n]; exact h1, h2⟩
theorem Purse.some {H : Hp} {p : Addr} (h : Purse H p) : ∃ o, H p = .some o := by
  obtain ⟨g, t, n2, h1, h2⟩ := h
  exact ⟨_, h1⟩
/-! ### letters -/
abbrev letter (c : Nat) : Str := ⟨#[c]⟩
abbrev alphS : Str := "ABCDEFGHIJKLMNOPQRSTUVWXYZ"
def alph : List Str := alphS.cps.toList.map letter
theorem alph_len : alph.length = 26 := by decide +kernel
theorem alph_nd : alph.Nodup := by decide +kernel
theorem alph_nm : ∀ z ∈ alph, isNm z = true := by decide +kernel
theorem nd_len {α : Type} [DecidableEq α] : ∀ {l cs : List α}, l.Nodup → (∀ x ∈ l, x ∈ cs) → l.length ≤ cs.length
  | [], _, _, _ => Nat.zero_le _
  | x :: l, cs, nd, sub => by
    have hx := sub x (List.mem_cons_self ..)
    have nd2 := List.nodup_cons.mp nd
    have ih := nd_len (l := l) (cs := cs.erase x) nd2.2 fun y hy => (List.mem_erase_of_ne (show y ≠ x from fun e => nd2.1 (by rw [← e]; exact hy))).mpr (sub y (List.mem_cons_of_mem _ hy))
    rw [List.length_erase_of_mem hx] at ih
    have : 0 < cs.length := List.length_pos_of_mem hx
    rw [List.length_cons]
    omega
def leftL (zs l : List Str) : List Str := l.filter fun z => !zs.contains z
theorem leftL_pos {zs : List Str} (h : zs.length < 26) : 0 < (leftL zs alph).length := by
  rcases Nat.eq_zero_or_pos (leftL zs alph).length with e | e
  · have e2 : leftL zs alph = [] := List.length_eq_zero_iff.mp e
    have := nd_len (l := alph) (cs := zs) alph_nd fun x hx => by
      rcases hc : zs.contains x with _ | _
      · have : x ∈ leftL zs alph := List.mem_filter.mpr ⟨hx, by simpa using hc⟩
        rw [e2] at this
        cases this
      · simpa using hc
    rw [alph_len] at this
    omega
  · exact e
theorem lt_of_nlt {a b : Str} (h : (!ltCps b.cps.toList a.cps.toList) = true) (n : a ≠ b) : a.cps.toList < b.cps.toList := by
  rw [ltCps_eq] at h
  have h2 : ¬ b.cps.toList < a.cps.toList := by simpa using h
  rcases List.le_iff_lt_or_eq.mp (List.not_lt.mp h2) with h3 | h3
  · exact h3
  · refine absurd ?_ n
    obtain ⟨⟨x⟩⟩ := a
    obtain ⟨⟨y⟩⟩ := b
    simp only at h3
    subst h3
    rfl
theorem up_of_sorted : ∀ {p : Str} {ys : List Str}, risingS p ys = true → (p :: ys).Nodup → (upV ((p :: ys).map V.str)).all id = true
  | p, [], _, _ => rfl
  | p, y :: ys, h, nd => by
    unfold risingS at h
    rw [Bool.and_eq_true] at h
    have nd2 := List.nodup_cons.mp nd
    have ih := up_of_sorted h.2 nd2.2
    have e : upV ((p :: y :: ys).map V.str) = decide (p.cps.toList < y.cps.toList) :: upV ((y :: ys).map V.str) := rfl
    rw [e, List.all_cons, Bool.and_eq_true]
    exact ⟨decide_eq_true (lt_of_nlt h.1 fun q => nd2.1 (q ▸ List.mem_cons_self ..)), ih⟩
theorem up_sorted {ys : List Str} (h : sortedS ys = true) (nd : ys.Nodup) : (upV (ys.map V.str)).all id = true := by
  cases ys with
  | nil => rfl
  | cons y ys => exact up_of_sorted h nd
theorem inV_str (z : Str) (zs : List Str) : inV (.str z) (zs.map V.str) = zs.contains z := by
  unfold inV
  rw [List.any_map]
  induction zs with
  | nil => rfl
  | cons y zs ih =>
    rw [List.any_cons, List.contains_cons, ih]
    congr 1
    show (y == z) = (z == y)
    exact Bool.beq_comm ..
theorem flat_strs (zs : List Str) : (zs.map V.str).all flatV = true := by
  rw [List.all_map]
  exact List.all_eq_true.mpr fun _ _ => rfl
structure Letters (ys : List Str) : Prop where
  up : (upV (ys.map V.str)).all id = true
  nm : ∀ y ∈ ys, isNm y = true
  fit : ys.length ≤ 26
/-- _law_letters(purse, many) -/
def spLetters : Sp := fun vs H Q _ => ∃ (p : Addr) (many : Int), vs = [.ref p, .int many] ∧ Purse H p ∧ 0 ≤ many ∧ many ≤ 26 ∧
  ∀ (l : Addr) (ys : List Str) (H' : Hp), But p H H' → Purse H' p → l ≠ p → H' l = some (.lst (ys.map V.str)) → Letters ys → Q (.ref l) H'
theorem opNotIn {X : Cx} (K : PySem.W.Frag) (e : X.K = K := by rfl) : OpR X (compareOp .NotIn) (rIn K true) := by
  subst e
  exact op_notIn_seq
structure TxtL (K : PySem.W.Frag) (mg : Str → Option Value) (fR : Addr) : Prop where
  b : TxtB K mg
  g_roll : mg "_law_roll" = some (.ref fR)
  k_roll : PySem.W.keepIn K (.ref fR) = true
  n_sorted : mg "sorted" = none
  n_dict : mg "dict" = none
section
variable {P : Program} {w : World} {K : PySem.W.Frag} {mg : Str → Option Value} {base : Heap}
abbrev s_letters : Stmt := top 23
theorem sc_letters : FnScope ["_law_purse_here", "_law_many", "_law_found", "_law_turn", "_law_left", "_law_letter"] ["_law_purse_here", "_law_many"] (defScope s_letters) := ⟨rfl, rfl, rfl, by decide +kernel, rfl, by decide +kernel, by decide +kernel⟩
theorem ok_letters {f fR : Addr} {fd dR : FuncData} (F : Fun K "_law_letters" "_law_letters" s_letters f fd) (T : TxtL K mg fR) (GR : FnOk P w K mg base CX0 1 fR dR ["_law_purse_here", "_law_many"] spRoll) (bR : L2.Binds K dR ["_law_purse_here", "_law_many"] []) :
    FnOk P w K mg base CX0 2 f fd ["_law_purse_here", "_law_many"] spLetters := by
  refine F.ok sc_letters (fun vs H Q E h => ?_) (fun cdv A outer s H vs Q E hr h => ?_)
  · obtain ⟨p, many, rfl, _⟩ := h
    rfl
  · obtain ⟨p, many, rfl, hp, m0, m1, k⟩ := h
    refine ⟨_, (pss_cons (ps_set (i := 2) sc_letters.nd rfl (Or.inr rfl) (pe_lstN pa_nil))
    (pss_cons (ps_for PassesOwn.never rfl (pi_range1 rfl T.b.n_range (pa_cons (pv 1) pa_nil)) (pg_name (i := 3) sc_letters.nd rfl (Or.inl rfl))
    (pss_cons (ps_setLc (i := 4) (own := [("_law_letter", 5)]) (g := gName 5) rfl sc_letters.nd rfl rfl (sw_true rfl rfl rfl (by decide +kernel)) (pi_str pe_str) (blkOk_by (N := ["_law_purse_here", "_law_many", "_law_found", "_law_turn", "_law_left", "_law_letter"]) (sc := defScope s_letters) (by decide +kernel)) (fun _ _ _ _ _ => (pg_name (i := 5) sc_letters.nd rfl (Or.inl rfl))) (fun _ _ _ _ _ => (pts_one (pt_cmpR (opNotIn K) (pv 5) (pv 2) rfl))) (fun _ _ _ _ _ => (pv 5)))
    (pss_one (ps_expr (pe_bm PySem.F.plainAttrs_list PySem.F.slot_list_append PySem.F.type_list_append mt_append (pv 2) (pa_cons (pe_ix ix_list (pv 4) (pe_call GR hr rfl T.g_roll T.k_roll bR .nil pass0 (pa_cons (pv 0) (pa_cons (pe_callB call_len_seq (by rfl) T.b.n_len PySem.boot_len (pa_cons (pv 4) pa_nil)) pa_nil))) (fun _ _ => rfl)) pa_nil))))))
    (pss_one (ps_ret (pe_callB cr_sortedS (by rfl) T.n_sorted (by decide +kernel) (pa_cons (pv 2) pa_nil)))))), ?_⟩
    refine ⟨fits rfl, fun FL H0 n0 s0 e0 => ?_⟩
    have hnp : FL ≠ p := by
      obtain ⟨o, ho⟩ := hp.some
      exact fun e => by rw [e, ho] at n0; cases n0
    refine ⟨_, rfl, many, rfl, by omega, by omega, for_range (lo := 0) (n := many.toNat) (fun j σ H' => ∃ zs : List Str, zs.length = j ∧ zs.Nodup ∧ (∀ z ∈ zs, z ∈ alph) ∧ But p H H' ∧ Purse H' p ∧ H' FL = some (.lst (zs.map V.str)) ∧ ∃ v3 v4 v5, σ = [some (.ref p), some (.int many), some (.ref FL), v3, v4, v5])
      ⟨[], rfl, List.nodup_nil, (by intro z hz; simp at hz), But.same s0, hp.same s0, e0, _, _, _, rfl⟩ (fun j σ H' hj hh => ?_) (fun σ H' hh => ?_)⟩
    · obtain ⟨zs, hl, nd, ha, b1, p1, e1, v3, v4, v5, rfl⟩ := hh
      have hz26 : zs.length < 26 := by omega
      refine ⟨alphS, rfl, fun D hD => lc_it walk_str (fun i H2 => Same H' H2 ∧ H2 D = some (.lst ((leftL zs (alph.take i)).map V.str))) ⟨Same.new (Same.refl H') hD, upd_same⟩ (fun _ _ _ _ => trivial) (fun i x H2 H3 hi hh y => ?_) (fun H2 hh => ?_)⟩
      · obtain ⟨s2, d2⟩ := hh
        obtain ⟨rfl, c, hc, rfl⟩ := y
        have hai : alph[i]? = some (letter c) := by
          unfold alph
          rw [List.getElem?_map, Array.getElem?_toList, hc]
          rfl
        refine ⟨rfl, ?_⟩
        refine ⟨_, rfl, _, rfl, FL, zs.map V.str, rfl, .inl (SqL.of (s2 _ _ e1)), rfl, flat_strs zs, _, rfl, ?_⟩
        rw [inV_str]
        have hsz : ((leftL zs (alph.take i)).map V.str).length < sizeLine := by
          rw [List.length_map]
          refine Nat.lt_of_le_of_lt (List.length_filter_le _ _) (Nat.lt_of_le_of_lt (List.length_take_le _ _) ?_)
          exact Nat.lt_of_le_of_lt (show i ≤ 26 from Nat.le_of_lt hi) (by decide)
        cases hc2 : zs.contains (letter c) with
        | true =>
          refine ⟨s2, ?_⟩
          rw [d2, List.take_add_one, hai]
          simp only [leftL, Option.toList, List.filter_append, List.filter_cons, hc2]
          simp
        | false =>
          refine ⟨_, rfl, _, d2, hsz, Same.put s2 hD, ?_⟩
          rw [upd_same, List.take_add_one, hai]
          simp only [leftL, Option.toList, List.filter_append, List.filter_cons, hc2]
          simp
      · obtain ⟨s2, d2⟩ := hh
        rw [show alph.take alphS.cps.size = alph from List.take_of_length_le (Nat.le_of_eq (by rw [alph_len]; decide +kernel))] at d2
        have hDp : D ≠ p := by
          obtain ⟨o, ho⟩ := p1.some
          exact fun e => by rw [e, ho] at hD; cases hD
        have hpos := leftL_pos hz26
        have h26 : (leftL zs alph).length ≤ 26 := Nat.le_trans (List.length_filter_le _ _) (Nat.le_of_eq alph_len)
        refine ⟨_, rfl, .inl ⟨rfl, _, SqL.of (s2 _ _ e1)⟩, ?_⟩
        refine ⟨_, rfl, _, rfl, _, rfl, D, _, rfl, .inl (SqL.of d2), ?_⟩
        refine ⟨p, _, rfl, p1.same s2, by rw [List.length_map]; omega, by rw [List.length_map]; omega, fun r H3 r0 r1 b3 p3 => ?_⟩
        rw [List.length_map] at r1
        obtain ⟨q, rfl⟩ := Int.eq_ofNat_of_zero_le r0
        have hq : q < (leftL zs alph).length := by omega
        have hmem : (leftL zs alph)[q] ∈ leftL zs alph := List.getElem_mem hq
        obtain ⟨hm1, hm2⟩ := List.mem_filter.mp hmem
        refine ⟨D, _, (q : Int), .str (leftL zs alph)[q], rfl, rfl, SqL.of (b3 D _ hDp d2), atI_nat (by rw [List.getElem?_map, List.getElem?_eq_getElem hq]; rfl), ?_⟩
        refine ⟨FL, _, _, rfl, rfl, b3 FL _ hnp (s2 _ _ e1), by rw [List.length_map]; exact Nat.lt_trans hz26 (by decide), ?_⟩
        refine ⟨zs ++ [(leftL zs alph)[q]], by simp [hl], ?_, ?_, But.put2 (b1.trans ((But.same s2).trans b3)) n0, p3.upd (Ne.symm hnp), ?_, _, _, _, rfl⟩
        · refine List.nodup_append.mpr ⟨nd, by simp, fun x hx y hy => ?_⟩
          rw [List.mem_singleton] at hy
          subst hy
          intro e
          subst e
          have : zs.contains (leftL zs alph)[q] = true := by simpa using hx
          rw [this] at hm2
          cases hm2
        · intro z hz
          rcases List.mem_append.mp hz with hz | hz
          · exact ha z hz
          · rw [List.mem_singleton] at hz
            rw [hz]
            exact hm1
        · rw [upd_same, List.map_append]
          rfl
    · obtain ⟨zs, hl, nd, ha, b1, p1, e1, v3, v4, v5, rfl⟩ := hh
      refine ⟨_, rfl, FL, zs, rfl, SqL.of e1, by omega, fun ys l perm srt hl2 => ?_⟩
      have hlp : l ≠ p := by
        obtain ⟨o, ho⟩ := p1.some
        exact fun e => by rw [e, ho] at hl2; cases hl2
      refine k l ys _ (But.new b1 hl2) (p1.upd (Ne.symm hlp)) hlp upd_same ⟨up_sorted srt (perm.nodup_iff.mpr nd), fun y hy => alph_nm y (ha y (perm.mem_iff.mp hy)), ?_⟩
      rw [perm.length_eq]
      omega
end
set_option Elab.async false
set_option linter.all false
set_option maxRecDepth 100000
set_option maxHeartbeats 4000000
open PySem PySem.Spec PyProof.Rows L2 RZ
theorem up_snoc : ∀ {ns : List Int} {m : Int}, upR ns = true → (∀ n ∈ ns, n < m) → upR (ns ++ [m]) = true
  | [], _, _, _ => rfl
  | [a], m, _, h => by
    have := h a (List.mem_cons_self ..)
    show (decide (a < m) && true) = true
    rw [decide_eq_true this]
    rfl
  | a :: b :: r, m, h, g => by
    have e : ∀ r : List Int, upR (a :: b :: r) = (decide (a < b) && upR (b :: r)) := fun r => rfl
    rw [e, Bool.and_eq_true] at h
    rw [List.cons_append, List.cons_append, e, Bool.and_eq_true]
    exact ⟨h.1, up_snoc (ns := b :: r) h.2 fun n hn => g n (List.mem_cons_of_mem _ hn)⟩
theorem int_at {ns : List Int} {k : Nat} (h : k < ns.length) : (ns.map V.int)[k]? = some (.int ns[k]) := by
  rw [List.getElem?_map, List.getElem?_eq_getElem h]
  rfl
theorem off {H : Hp} {p q : Addr} {o : HO} (n : H q = none) (h : H p = some o) : q ≠ p := fun e => by rw [e, h] at n; cases n
theorem Purse.off {H : Hp} {p q : Addr} (h : Purse H p) (n : H q = none) : q ≠ p := by
  obtain ⟨o, ho⟩ := h.some
  exact Sp.off n ho
/-- _law_set(purse, wide) -/
def spSet : Sp := fun vs H Q _ => ∃ (p : Addr) (wide : Int), vs = [.ref p, .int wide] ∧ Purse H p ∧ 0 ≤ wide ∧ wide ≤ 10000 ∧
  ∀ (b : Addr) (ns : List Int) (H' : Hp), But p H H' → Purse H' p → H' b = some (.tup (ns.map V.int)) → Ticks wide ns → Q (.ref b) H'
section
variable {P : Program} {w : World} {K : PySem.W.Frag} {mg : Str → Option Value} {base : Heap}
abbrev s_set : Stmt := top 24
theorem sc_set : FnScope ["_law_purse_here", "_law_wide", "_law_way", "_law_level", "_law_found", "_law_inside", "_law_t"] ["_law_purse_here", "_law_wide"] (defScope s_set) := ⟨rfl, rfl, rfl, by decide +kernel, rfl, by decide +kernel, by decide +kernel⟩
theorem ok_set {f fR : Addr} {fd dR : FuncData} (F : Fun K "_law_set" "_law_set" s_set f fd) (T : TxtL K mg fR) (GR : FnOk P w K mg base CX0 1 fR dR ["_law_purse_here", "_law_many"] spRoll) (bR : L2.Binds K dR ["_law_purse_here", "_law_many"] []) :
    FnOk P w K mg base CX0 2 f fd ["_law_purse_here", "_law_wide"] spSet := by
  refine F.ok sc_set (fun vs H Q E h => ?_) (fun cdv A outer s H vs Q E hr h => ?_)
  · obtain ⟨p, wide, rfl, _⟩ := h
    rfl
  · obtain ⟨p, wide, rfl, hp, m0, m1, k⟩ := h
    refine ⟨_, (pss_cons (ps_par (i := 2) (j := 3) rfl sc_set.nd rfl rfl (by decide) rfl rfl (pa_cons (pe_call GR hr rfl T.g_roll T.k_roll bR .nil pass0 (pa_cons (pv 0) (pa_cons pe_int pa_nil))) (pa_cons (pe_ix ix_list (pe_lstN (pa_cons pe_int (pa_cons pe_int (pa_cons pe_int (pa_cons pe_int (pa_cons pe_int pa_nil)))))) (pe_call GR hr rfl T.g_roll T.k_roll bR .nil pass0 (pa_cons (pv 0) (pa_cons pe_int pa_nil))) (fun _ _ => rfl)) pa_nil)) (by rfl))
    (pss_cons (ps_par (i := 4) (j := 5) rfl sc_set.nd rfl rfl (by decide) rfl rfl (pa_cons (pe_lstN pa_nil) (pa_cons pe_bl pa_nil)) (by rfl))
    (pss_cons (ps_for PassesOwn.never rfl (pi_range1 rfl T.b.n_range (pa_cons (pv 1) pa_nil)) (pg_name (i := 6) sc_set.nd rfl (Or.inl rfl))
    (pss_cons (ps_if (pt_cmpR op_eq (pv 2) pe_int (nomark _)) (pss_one (ps_set (i := 5) sc_set.nd rfl (Or.inl rfl) (pe_cmpR op_lt (pe_call GR hr rfl T.g_roll T.k_roll bR .nil pass0 (pa_cons (pv 0) (pa_cons pe_int pa_nil))) (pv 3) (nomark _)))) (pss_one (ps_if (pt_cmpR op_eq (pe_call GR hr rfl T.g_roll T.k_roll bR .nil pass0 (pa_cons (pv 0) (pa_cons pe_int pa_nil))) pe_int (nomark _)) (pss_one (ps_set (i := 5) sc_set.nd rfl (Or.inl rfl) (pe_not (pv 5)))) pss_nil)))
    (pss_one (ps_if (pt_val (pv 5)) (pss_one (ps_expr (pe_bm PySem.F.plainAttrs_list PySem.F.slot_list_append PySem.F.type_list_append mt_append (pv 4) (pa_cons (pv 6) pa_nil)))) pss_nil))))
    (pss_one (ps_ret (pe_callTy call_tuple_of (by rfl) T.b.n_tuple (by decide +kernel) (pa_cons (pv 4) pa_nil))))))), ?_⟩
    refine ⟨_, rfl, p, 3, rfl, hp, by decide, by decide, fun r1 H1 a0 a1 b1 p1 => ?_⟩
    refine ⟨fits rfl, fun L H2 n2 s2 e2 => ?_⟩
    refine ⟨_, rfl, p, 5, rfl, p1.same s2, by decide, by decide, fun r2 H3 c0 c1 b3 p3 => ?_⟩
    obtain ⟨q, rfl⟩ := Int.eq_ofNat_of_zero_le c0
    have hq : q < ([2, 1, 3, 0, 4] : List Int).length := by show q < 5; omega
    refine ⟨L, ([2, 1, 3, 0, 4] : List Int).map V.int, (q : Int), .int (([2, 1, 3, 0, 4] : List Int)[q]), rfl, rfl, SqL.of (b3 L _ (p1.off n2) e2), atI_nat (int_at hq), ?_⟩
    generalize ([2, 1, 3, 0, 4] : List Int)[q] = lev
    refine ⟨_, _, rfl, ?_⟩
    refine ⟨fits rfl, fun FL H4 n4 s4 e4 => ⟨_, _, rfl, ?_⟩⟩
    have hFp : FL ≠ p := p3.off n4
    have b4 : But p H H4 := b1.trans ((But.same s2).trans (b3.trans (But.same s4)))
    have nF : ∀ b o, b ≠ p → H b = some o → b ≠ FL := fun b o hb ho => ne_of_none (b3 b o hb (s2 b o (b1 b o hb ho))) n4
    refine ⟨_, rfl, wide, rfl, by omega, by omega, for_range (lo := 0) (n := wide.toNat) (fun j σ H' => ∃ (ns : List Int) (c : Bool), upR ns = true ∧ (∀ n ∈ ns, 0 ≤ n ∧ n < j) ∧ ns.length ≤ j ∧ But p H H' ∧ Purse H' p ∧ H' FL = some (.lst (ns.map V.int)) ∧ ∃ v6, σ = [some (.ref p), some (.int wide), some (.int r1), some (.int lev), some (.ref FL), some (.bl c), v6])
      ⟨[], false, rfl, (by intro n hn; simp at hn), Nat.zero_le _, b4, p3.same s4, e4, _, rfl⟩ (fun j σ H' hj hh => ?_) (fun σ H' hh => ?_)⟩
    · obtain ⟨ns, c, hu, hn, hl, b5, p5, e5, v6, rfl⟩ := hh
      have fin : ∀ D : Ends, (∀ σ H', (∃ (ns : List Int) (c : Bool), upR ns = true ∧ (∀ n ∈ ns, 0 ≤ n ∧ n < ((j + 1 : Nat) : Int)) ∧ ns.length ≤ j + 1 ∧ But p H H' ∧ Purse H' p ∧ H' FL = some (.lst (ns.map V.int)) ∧ ∃ v6, σ = [some (.ref p), some (.int wide), some (.int r1), some (.int lev), some (.ref FL), some (.bl c), v6]) → D.nx σ H') →
          ∀ (b : Bool) (H6 : Hp), But p H' H6 → Purse H6 p → tIfS (tB (tVar 5)) (tDrop (tBM K "list" rAppend (tVar 4) (tCons (tVar 6) tNil))) tNext D [some (.ref p), some (.int wide), some (.int r1), some (.int lev), some (.ref FL), some (.bl b), some (.int (0 + (j : Int)))] H6 := fun D hD b H6 b6 p6 => by
        have e6 := b6 FL _ hFp e5
        cases b with
        | false => exact ⟨_, rfl, _, rfl, hD _ _ ⟨ns, false, hu, fun n h => ⟨(hn n h).1, by have := (hn n h).2; omega⟩, by omega, b5.trans b6, p6, e6, _, rfl⟩⟩
        | true =>
          refine ⟨_, rfl, _, rfl, ?_⟩
          refine ⟨_, rfl, .inl ⟨rfl, _, SqL.of e6⟩, _, rfl, FL, _, _, rfl, rfl, e6, ?_, ?_⟩
          · rw [List.length_map]
            exact Nat.lt_of_le_of_lt hl (Nat.lt_of_lt_of_le (show j < 10000 by omega) (by decide))
          · refine hD _ _ ⟨ns ++ [0 + (j : Int)], true, up_snoc hu fun n h => by have := (hn n h).2; omega, fun n h => ?_, by simp; exact hl, ?_, p6.upd (Ne.symm hFp), ?_, _, rfl⟩
            · rcases List.mem_append.mp h with h | h
              · have := hn n h
                omega
              · rw [List.mem_singleton] at h
                omega
            · intro x o hx ho
              rw [upd_ne (nF x o hx ho)]
              exact b6 x o hx (b5 x o hx ho)
            · rw [upd_same, List.map_append]
              rfl
      refine ⟨_, rfl, rfl, _, rfl, ite2 (fun c2 => ?_) (fun c2 => ?_)⟩
      · refine ⟨_, rfl, p, 4, rfl, p5, by decide, by decide, fun r H6 d0 d1 b6 p6 => ⟨_, rfl, _, _, rfl, rfl, ?_⟩⟩
        exact fin _ (fun _ _ h => h) _ H6 b6 p6
      · refine ⟨_, rfl, p, 4, rfl, p5, by decide, by decide, fun r H6 d0 d1 b6 p6 => ⟨rfl, _, rfl, ite2 (fun c3 => ?_) (fun c3 => ?_)⟩⟩
        · refine ⟨_, rfl, _, rfl, ?_⟩
          exact fin _ (fun _ _ h => h) _ H6 b6 p6
        · exact fin _ (fun _ _ h => h) _ H6 b6 p6
    · obtain ⟨ns, c, hu, hn, hl, b5, p5, e5, v6, rfl⟩ := hh
      refine ⟨_, rfl, FL, _, rfl, .inl ⟨SqL.of e5, fun l hl2 => ?_⟩⟩
      have hlp := p5.off hl2
      refine k l ns _ (But.new b5 hl2) (p5.upd (Ne.symm hlp)) upd_same ⟨fun n h => ?_, hu, by omega⟩
      have := hn n h
      unfold okTick
      rw [Bool.and_eq_true, decide_eq_true_eq, decide_eq_true_eq]
      omega
end
set_option Elab.async false
set_option linter.all false
set_option maxRecDepth 100000
set_option maxHeartbeats 4000000
open PySem PySem.Spec PyProof.Rows L2 RZ
theorem DpAll.snoc {K : PySem.W.Frag} {H : Hp} {v : V} {d : PyData} (h2 : Dp K H v d) : ∀ {xs : List V} {ds : List PyData}, DpAll K H xs ds → DpAll K H (xs ++ [v]) (ds ++ [d])
  | [], [], .nil => .cons h2 .nil
  | x :: xs, e :: ds, .cons a b => .cons a (DpAll.snoc h2 b)
theorem DpAll.len {K : PySem.W.Frag} {H : Hp} : ∀ {xs : List V} {ds : List PyData}, DpAll K H xs ds → xs.length = ds.length
  | [], [], .nil => rfl
  | x :: xs, e :: ds, .cons a b => by simp [DpAll.len b]
/-- data that stands apart from p and q -/
def Apart (K : PySem.W.Frag) (H : Hp) (p q : Addr) (xs : List V) (ds : List PyData) : Prop := ∃ G, Same G H ∧ G p = none ∧ G q = none ∧ DpAll K G xs ds
theorem Apart.all {K : PySem.W.Frag} {H : Hp} {p q : Addr} {xs : List V} {ds : List PyData} (h : Apart K H p q xs ds) : DpAll K H xs ds := by
  obtain ⟨G, s, _, _, d⟩ := h
  exact DpAll.same s d
theorem Apart.but {K : PySem.W.Frag} {H H' : Hp} {p q : Addr} {xs : List V} {ds : List PyData} (h : Apart K H p q xs ds) (b : But p H H') : Apart K H' p q xs ds := by
  obtain ⟨G, s, n1, n2, d⟩ := h
  exact ⟨G, But.ofNew s n1 b, n1, n2, d⟩
theorem Apart.put {K : PySem.W.Frag} {H : Hp} {p q : Addr} {xs : List V} {ds : List PyData} {o : HO} (h : Apart K H p q xs ds) : Apart K (upd H q o) p q xs ds := by
  obtain ⟨G, s, n1, n2, d⟩ := h
  exact ⟨G, Same.put s n2, n1, n2, d⟩
theorem dp_ints {K : PySem.W.Frag} {H : Hp} : ∀ ns : List Int, DpAll K H (ns.map V.int) (ns.map PyData.int)
  | [] => .nil
  | n :: ns => .cons (.int n) (dp_ints ns)
theorem hid_none {p : Addr} {H : Hp} : hid p H p = none := by
  unfold hid
  rw [if_pos rfl]
/-- _law_drawn_rows(purse, letters, wide) -/
def spDrawnRows (K : PySem.W.Frag) : Sp := fun vs H Q _ => ∃ (p l : Addr) (ys : List Str) (wide : Int), vs = [.ref p, .ref l, .int wide] ∧ Purse H p ∧ l ≠ p ∧ H l = some (.lst (ys.map V.str)) ∧ Letters ys ∧ 0 ≤ wide ∧ wide ≤ 10000 ∧
  ∀ (v : V) (rows : List Row) (H' : Hp), But p H H' → Purse H' p → Dp K H' v (rowsD rows) → Rows wide rows → Q v H'
structure TxtM (K : PySem.W.Frag) (mg : Str → Option Value) (fR fS : Addr) : Prop where
  l : TxtL K mg fR
  g_set : mg "_law_set" = some (.ref fS)
  k_set : PySem.W.keepIn K (.ref fS) = true
section
variable {P : Program} {w : World} {K : PySem.W.Frag} {mg : Str → Option Value} {base : Heap}
abbrev s_drows : Stmt := top 25
theorem sc_drows : FnScope ["_law_purse_here", "_law_letters_here", "_law_wide", "_law_found", "_law_letter"] ["_law_purse_here", "_law_letters_here", "_law_wide"] (defScope s_drows) := ⟨rfl, rfl, rfl, by decide +kernel, rfl, by decide +kernel, by decide +kernel⟩
theorem ok_drows {f fR fS : Addr} {fd dS : FuncData} (F : Fun K "_law_drawn_rows" "_law_drawn_rows" s_drows f fd) (T : TxtM K mg fR fS) (GS : FnOk P w K mg base CX0 2 fS dS ["_law_purse_here", "_law_wide"] spSet) (bS : L2.Binds K dS ["_law_purse_here", "_law_wide"] []) :
    FnOk P w K mg base CX0 3 f fd ["_law_purse_here", "_law_letters_here", "_law_wide"] (spDrawnRows K) := by
  refine F.ok sc_drows (fun vs H Q E h => ?_) (fun cdv A outer s H vs Q E hr h => ?_)
  · obtain ⟨p, l, ys, wide, rfl, _⟩ := h
    rfl
  · obtain ⟨p, l, ys, wide, rfl, hp, hlp, el, hY, m0, m1, k⟩ := h
    refine ⟨_, (pss_cons (ps_set (i := 3) sc_drows.nd rfl (Or.inl rfl) (pe_lstN pa_nil))
    (pss_cons (ps_for PassesOwn.never rfl (pi_list (pv 1)) (pg_name (i := 4) sc_drows.nd rfl (Or.inl rfl))
    (pss_one (ps_expr (pe_bm PySem.F.plainAttrs_list PySem.F.slot_list_append PySem.F.type_list_append mt_append (pv 3) (pa_cons (pe_tupN (pa_cons (pv 4) (pa_cons (pe_call GS hr rfl T.g_set T.k_set bS .nil pass0 (pa_cons (pv 0) (pa_cons (pv 2) pa_nil))) pa_nil))) pa_nil)))))
    (pss_one (ps_ret (pe_callTy call_tuple_of (by rfl) T.l.b.n_tuple (by decide +kernel) (pa_cons (pv 3) pa_nil)))))), ?_⟩
    refine ⟨fits rfl, fun FL H0 n0 s0 e0 => ?_⟩
    have hFp : FL ≠ p := hp.off n0
    have hFl : FL ≠ l := off n0 el
    refine ⟨_, rfl, l, rfl, ⟨_, SqL.of (s0 _ _ el)⟩, for_list (xs := ys.map V.str) (fun j σ H' => ∃ (rows : List Row) (xs : List V), rows.map (·.1) = ys.take j ∧ (∀ r ∈ rows, Ticks wide r.2) ∧ But p H H' ∧ Purse H' p ∧ H' FL = some (.lst xs) ∧ Apart K H' p FL xs (rows.map rowD) ∧ ∃ v4, σ = [some (.ref p), some (.ref l), some (.int wide), some (.ref FL), v4])
      ⟨[], [], rfl, (by intro n hn; simp at hn), But.same s0, hp.same s0, e0, ⟨fun _ => none, (fun b o h => by cases h), rfl, rfl, .nil⟩, _, rfl⟩ (fun j σ H' _ hh => ?_) (fun j x σ H' hxj hh => ?_) (fun σ H' hh => ?_)⟩
    · obtain ⟨rows, xs, h1, h2, b1, _⟩ := hh
      exact SqL.of (b1 l _ hlp el)
    · obtain ⟨rows, xs, h1, h2, b1, p1, e1, ap, v4, rfl⟩ := hh
      rw [List.getElem?_map] at hxj
      obtain ⟨y, hy, rfl⟩ := Option.map_eq_some_iff.mp hxj
      have hj26 : xs.length ≤ 26 := by
        obtain ⟨G, _, _, _, d⟩ := ap
        have := DpAll.len d
        rw [List.length_map] at this
        have h3 := congrArg List.length h1
        rw [List.length_map, List.length_take] at h3
        have := hY.fit
        omega
      refine ⟨_, rfl, .inl ⟨rfl, _, SqL.of e1⟩, ?_⟩
      refine ⟨_, rfl, _, rfl, _, rfl, p, wide, rfl, p1, m0, m1, fun b ns H2 b2 p2 eb hT => ?_⟩
      refine ⟨fits rfl, fun t H3 n3 s3 e3 => ?_⟩
      have e1' := s3 _ _ (b2 FL _ hFp e1)
      refine ⟨FL, _, _, rfl, rfl, e1', Nat.lt_of_le_of_lt hj26 (by decide), ?_⟩
      have p3 := p2.same s3
      have hbp : b ≠ p := by
        obtain ⟨g, t2, n2, h4, _⟩ := p2
        exact fun e => by rw [e, h4] at eb; cases eb
      have hbF : b ≠ FL := fun e => by rw [e, b2 FL _ hFp e1] at eb; cases eb
      have htp : t ≠ p := p2.off n3
      have htF : t ≠ FL := off n3 (b2 FL _ hFp e1)
      have apN : Apart K H3 p FL (xs ++ [.ref t]) ((rows ++ [(y, ns)]).map rowD) := by
        obtain ⟨G, sG, g1, g2, d⟩ := (ap.but b2).but (But.same s3)
        refine ⟨hid FL (hid p H3), fun c o h => ?_, ?_, hid_none, ?_⟩
        · unfold hid at h
          split at h
          · cases h
          · split at h
            · cases h
            · exact h
        · unfold hid
          split
          · rfl
          · rw [if_pos rfl]
        · rw [List.map_append]
          refine DpAll.snoc ?_ (DpAll.same (fun c o h => ?_) d)
          · exact .tup (SqT.of (hid_at htF (hid_at htp e3))) (.cons (.str y) (.cons (.tup (SqT.of (hid_at hbF (hid_at hbp (s3 _ _ eb)))) (dp_ints ns)) .nil))
          · exact hid_at (ne_of_none h g2) (hid_at (ne_of_none h g1) (sG c o h))
      refine ⟨rows ++ [(y, ns)], xs ++ [.ref t], ?_, fun r hr => ?_, ?_, p3.upd (Ne.symm hFp), upd_same, apN.put, _, rfl⟩
      · rw [List.map_append, h1, List.take_add_one, hy]
        rfl
      · rcases List.mem_append.mp hr with hr | hr
        · exact h2 r hr
        · rw [List.mem_singleton] at hr
          rw [hr]
          exact hT
      · exact But.put2 (b1.trans (b2.trans (But.same s3))) n0
    · obtain ⟨rows, xs, h1, h2, b1, p1, e1, ap, v4, rfl⟩ := hh
      rw [List.length_map, List.take_length] at h1
      refine ⟨_, rfl, FL, _, rfl, .inl ⟨SqL.of e1, fun t ht => ?_⟩⟩
      have htp := p1.off ht
      refine k _ rows _ (But.new b1 ht) (p1.upd (Ne.symm htp)) (.tup (SqT.of upd_same) (DpAll.same (Same.new (Same.refl H') ht) ap.all)) ⟨fun r hr => ?_, h2, ?_, ?_⟩
      · exact hY.nm _ (by rw [← h1]; exact List.mem_map.mpr ⟨r, hr, rfl⟩)
      · have := hY.up
        rw [← h1, List.map_map] at this
        exact this
      · have h3 := congrArg List.length h1
        rw [List.length_map] at h3
        have := hY.fit
        omega
end
set_option Elab.async false
set_option linter.all false
set_option maxRecDepth 100000
set_option maxHeartbeats 4000000
open PySem PySem.Spec PyProof.Rows L2 RZ
def kvsOf (ns : List Int) : List (Key × V) := ns.map fun n => (Sum.inl n, V.bl true)
theorem has_merge : ∀ (ns : List Int) {kvs : List (Key × V)} {ms : List Int}, DHas kvs ms → DHas (mergeK kvs (kvsOf ns)) (ms ++ ns)
  | [], kvs, ms, h => by
    rw [List.append_nil]
    exact h
  | n :: ns, kvs, ms, h => by
    have := has_merge ns (h.put (n := n) (y := .bl true))
    rw [List.append_assoc] at this
    exact this
theorem Paired.snoc {α β : Type} {R : α → β → Prop} {a : α} {b : β} (h : R a b) : ∀ {xs : List α} {ys : List β}, Paired R xs ys → Paired R (xs ++ [a]) (ys ++ [b])
  | _, _, .nil => .cons h .nil
  | _, _, .cons r t => .cons r (Paired.snoc h t)
theorem Paired.imp2 {α β : Type} {R S : α → β → Prop} (h : ∀ a b, R a b → S a b) : ∀ {xs : List α} {ys : List β}, Paired R xs ys → Paired S xs ys
  | _, _, .nil => .nil
  | _, _, .cons r t => .cons (h _ _ r) (Paired.imp2 h t)
/-- _law_marks(row, wide) -/
def spMarksL (K : PySem.W.Frag) : Sp := fun vs H Q _ => ∃ (v : V) (wide : Int) (ns : List Int), vs = [v, .int wide] ∧ Dp K H v (ticksD ns) ∧ ns.length ≤ 10000 ∧ 0 ≤ wide ∧ wide ≤ 10000 ∧ ∀ H', Same H H' → Q (.str (marksS wide ns)) H'
section
variable {P : Program} {w : World} {K : PySem.W.Frag} {mg : Str → Option Value} {base : Heap}
abbrev s_lmarks : Stmt := top 26
theorem sc_lmarks : FnScope ["_law_row", "_law_wide", "_law_inside", "_law_t"] ["_law_row", "_law_wide"] (defScope s_lmarks) := ⟨rfl, rfl, rfl, by decide +kernel, rfl, by decide +kernel, by decide +kernel⟩
theorem ok_lmarks {f fR : Addr} {fd : FuncData} (F : Fun K "_law_marks" "_law_marks" s_lmarks f fd) (T : TxtL K mg fR) : FnOk P w K mg base CX0 1 f fd ["_law_row", "_law_wide"] (spMarksL K) := by
  refine F.ok sc_lmarks (fun vs H Q E h => ?_) (fun cdv A outer s H vs Q E hr h => ?_)
  · obtain ⟨v, wide, ns, rfl, _⟩ := h
    rfl
  · obtain ⟨v, wide, ns, rfl, dv, hz, m0, m1, k⟩ := h
    have hu := hu_of hr
    refine ⟨_, (pss_cons (ps_set (i := 2) sc_lmarks.nd rfl (Or.inr rfl) (pe_callTy (call_dictP rfl) (by rfl) T.n_dict (by decide +kernel) (pa_cons (pe_lc (own := [("_law_t", 3)]) (g := gName 3) (tt := tYes) rfl sc_lmarks.nd (pi_tup (pv 0)) (blkOk_by (N := ["_law_row", "_law_wide", "_law_inside", "_law_t"]) (sc := defScope s_lmarks) (by decide +kernel)) (fun _ _ _ _ _ => (pg_name (i := 3) sc_lmarks.nd rfl (Or.inl rfl))) (fun _ _ _ _ _ => pts_nil) (fun _ _ _ _ _ => (pe_tupN (pa_cons (pv 3) (pa_cons pe_bl pa_nil))))) pa_nil)))
    (pss_one (ps_ret (pe_join pe_str (pe_lc (own := [("_law_t", 3)]) (g := gName 3) (tt := tYes) rfl sc_lmarks.nd (pi_range1 rfl T.b.n_range (pa_cons (pv 1) pa_nil)) (blkOk_by (N := ["_law_row", "_law_wide", "_law_inside", "_law_t"]) (sc := defScope s_lmarks) (by decide +kernel)) (fun _ _ _ _ _ => (pg_name (i := 3) sc_lmarks.nd rfl (Or.inl rfl))) (fun _ _ _ _ _ => pts_nil) (fun _ _ _ _ _ => (pe_ifExp (pt_cmp (pc_din hu (pv 3) (pv 2))) pe_str pe_str))))))), ?_⟩
    obtain ⟨a, rfl, ha⟩ := Dp.ticksI dv
    refine ⟨_, rfl, a, rfl, ⟨_, ha⟩, fun D hD => lc_tup (xs := ns.map V.int) (fun i H2 => Same H H2 ∧ ∃ ps : List Addr, H2 D = some (.lst (ps.map V.ref)) ∧ ps.length = (ns.take i).length ∧ Paired (fun p kv => p ≠ D ∧ H2 p = some (.tup [kV kv.1, kv.2])) ps (kvsOf (ns.take i))) ⟨Same.new (Same.refl H) hD, [], upd_same, rfl, .nil⟩ (fun i H2 _ hh => Same.tup hh.1 ha) (fun i x H2 hxi hh => ?_) (fun H2 hh => ?_)⟩
    · obtain ⟨s2, ps, e2, l2, hps⟩ := hh
      rw [List.getElem?_map] at hxi
      obtain ⟨n, hn, rfl⟩ := Option.map_eq_some_iff.mp hxi
      have hil : i < ns.length := (List.getElem?_eq_some_iff.mp hn).1
      refine ⟨rfl, ?_⟩
      refine ⟨_, rfl, fits rfl, fun t H3 n3 s3 e3 => ?_⟩
      have htD := off n3 e2
      refine ⟨_, s3 _ _ e2, ?_, Same.put (s2.trans s3) hD, ps ++ [t], ?_, ?_, ?_⟩
      · rw [List.length_map, l2, List.length_take]
        exact Nat.lt_of_le_of_lt (show min i ns.length ≤ 10000 by omega) (by decide)
      · rw [upd_same, List.map_append]
        rfl
      · rw [List.length_append, l2, List.take_add_one, hn, List.length_append]
        rfl
      · rw [List.take_add_one, hn]
        unfold kvsOf
        rw [List.map_append]
        refine Paired.snoc ⟨htD, ?_⟩ (Paired.imp2 (fun p kv h => ⟨h.1, ?_⟩) hps)
        · rw [upd_ne htD]
          exact e3
        · rw [upd_ne h.1]
          exact s3 _ _ h.2
    · obtain ⟨s2, ps, e2, l2, hps⟩ := hh
      rw [List.length_map, List.take_length] at hps
      refine ⟨D, ps, kvsOf ns, rfl, SqL.of e2, Paired.imp2 (fun p kv h => SqT.of h.2) hps, fun DD hDD => ?_⟩
      have hd : DHas (mergeK [] (kvsOf ns)) ns := by
        have := has_merge ns (kvs := []) (ms := []) (fun t => rfl)
        exact this
      refine ⟨⟨_, rfl⟩, ?_⟩
      have s3 : Same H (upd H2 DD (.dK (mergeK [] (kvsOf ns)))) := Same.new s2 hDD
      generalize hH3 : upd H2 DD (.dK (mergeK [] (kvsOf ns))) = H3 at s3
      have e3 : H3 DD = some (.dK (mergeK [] (kvsOf ns))) := by rw [← hH3, upd_same]
      refine ⟨_, rfl, wide, rfl, by omega, by omega, fun D2 hD2 => lc_range (lo := 0) (n := wide.toNat) (fun j H4 => Same H3 H4 ∧ H4 D2 = some (.lst ((marksL j ns).map V.str))) ⟨Same.new (Same.refl H3) hD2, upd_same⟩ (fun j H4 hj hh => ?_) (fun H4 hh => ?_)⟩
      · obtain ⟨s4, d4⟩ := hh
        refine ⟨rfl, ?_⟩
        refine ⟨_, rfl, _, rfl, DD, _, rfl, .inl ⟨_, .inl (0 + (j : Int)), .inl (s4 _ _ e3), rfl, rfl⟩, _, rfl, ?_⟩
        have hfit : ((marksL j ns).map V.str).length < sizeLine := by
          rw [List.length_map, marksL_len]
          exact Nat.lt_of_lt_of_le (show j < 10000 by omega) (by decide)
        have hz2 : valV (mergeK [] (kvsOf ns)) (.inl (0 + (j : Int))) = valV (mergeK [] (kvsOf ns)) (.inl (j : Int)) := by rw [Int.zero_add]
        rw [hz2, hd (j : Int)]
        have fin : ∀ b : Bool, b = ns.contains (j : Int) → Same H3 (upd H4 D2 (.lst ((marksL j ns).map V.str ++ [V.str (markC b)]))) ∧ upd H4 D2 (.lst ((marksL j ns).map V.str ++ [V.str (markC b)])) D2 = some (.lst ((marksL (j + 1) ns).map V.str)) := fun b e => by
          subst e
          refine ⟨Same.put s4 hD2, ?_⟩
          rw [upd_same, marksL_succ, List.map_append]
          rfl
        cases c : ns.contains (j : Int) with
        | true => exact ⟨_, d4, hfit, fin true c.symm⟩
        | false => exact ⟨_, d4, hfit, fin false c.symm⟩
      · obtain ⟨s4, d4⟩ := hh
        exact ⟨_, D2, marksL wide.toNat ns, rfl, rfl, .inl (SqL.of d4), marksL_fit (by omega), k H4 (s3.trans s4)⟩
end
set_option Elab.async false
set_option linter.all false
set_option maxRecDepth 100000
set_option maxHeartbeats 4000000
open PySem PySem.Spec PyProof.Rows L2 RZ
/-- _law_plan_text(wide, drawn) -/
def spPlanText (K : PySem.W.Frag) : Sp := fun vs H Q _ => ∃ (v : V) (wide : Int) (rows : List Row), vs = [.int wide, v] ∧ Dp K H v (rowsD rows) ∧ Rows wide rows ∧ 0 ≤ wide ∧ wide ≤ 10000 ∧ ∀ H', Same H H' → Q (.str (planS wide rows)) H'
def szs : List Int := [7, 0, 1, 2, 30, 61, 120, 300]
/-- _law_drawn(purse) -/
def spDrawn (K : PySem.W.Frag) : Sp := fun vs H Q _ => ∃ (p : Addr), vs = [.ref p] ∧ Purse H p ∧
  ∀ (t : Addr) (wide : Int) (v : V) (rows : List Row) (H' : Hp), But p H H' → Purse H' p → H' t = some (.tup [.int wide, v]) → Dp K H' v (rowsD rows) → Rows wide rows → wide ∈ szs → 0 ≤ wide → wide ≤ 300 → Q (.ref t) H'
structure TxtN (K : PySem.W.Frag) (mg : Str → Option Value) (fR fS fM fL fD : Addr) : Prop where
  m : TxtM K mg fR fS
  g_marks : mg "_law_marks" = some (.ref fM)
  k_marks : PySem.W.keepIn K (.ref fM) = true
  g_letters : mg "_law_letters" = some (.ref fL)
  k_letters : PySem.W.keepIn K (.ref fL) = true
  g_drows : mg "_law_drawn_rows" = some (.ref fD)
  k_drows : PySem.W.keepIn K (.ref fD) = true
section
variable {P : Program} {w : World} {K : PySem.W.Frag} {mg : Str → Option Value} {base : Heap}
abbrev s_ptext : Stmt := top 27
theorem sc_ptext : FnScope ["_law_wide", "_law_drawn_here", "_law_lines", "_law_letter", "_law_row"] ["_law_wide", "_law_drawn_here"] (defScope s_ptext) := ⟨rfl, rfl, rfl, by decide +kernel, rfl, by decide +kernel, by decide +kernel⟩
theorem ok_ptext {f fR fS fM fL fD : Addr} {fd dM : FuncData} (F : Fun K "_law_plan_text" "_law_plan_text" s_ptext f fd) (T : TxtN K mg fR fS fM fL fD) (GM : FnOk P w K mg base CX0 1 fM dM ["_law_row", "_law_wide"] (spMarksL K)) (bM : L2.Binds K dM ["_law_row", "_law_wide"] []) :
    FnOk P w K mg base CX0 2 f fd ["_law_wide", "_law_drawn_here"] (spPlanText K) := by
  refine F.ok sc_ptext (fun vs H Q E h => ?_) (fun cdv A outer s H vs Q E hr h => ?_)
  · obtain ⟨v, wide, rows, rfl, _⟩ := h
    rfl
  · obtain ⟨v, wide, rows, rfl, dv, hR, m0, m1, k⟩ := h
    refine ⟨_, (pss_cons (ps_setLc (i := 2) (own := [("_law_letter", 3), ("_law_row", 4)]) (g := gTup K 2 (gCons (gName 3) (gCons (gName 4) gNil))) (tt := tYes) rfl sc_ptext.nd rfl rfl (sw_true rfl rfl rfl (by decide +kernel)) (pi_tup (pv 1)) (blkOk_by (N := ["_law_wide", "_law_drawn_here", "_law_lines", "_law_letter", "_law_row"]) (sc := defScope s_ptext) (by decide +kernel)) (fun _ _ _ _ _ => (pg_tup rfl (pgs_cons (pg_name (i := 3) sc_ptext.nd rfl (Or.inl rfl)) (pgs_cons (pg_name (i := 4) sc_ptext.nd rfl (Or.inl rfl)) pgs_nil)))) (fun _ _ _ _ _ => pts_nil) (fun _ _ _ _ _ => (pe_op op_add_str (pe_op op_add_str (pv 3) pe_str) (pe_call GM hr rfl T.g_marks T.k_marks bM .nil pass0 (pa_cons (pv 4) (pa_cons (pv 0) pa_nil))))))
    (pss_one (ps_ret (pe_join pe_str (pe_op op_catN (pe_lstN (pa_cons (pe_callTy call_str_int (by rfl) T.m.l.b.n_str (by decide +kernel) (pa_cons (pv 0) pa_nil)) pa_nil)) (pv 2)))))), ?_⟩
    obtain ⟨a, xs, rfl, ha, hl, hx⟩ := Dp.rowsI dv
    refine ⟨_, rfl, a, rfl, ⟨_, ha⟩, fun D hD => lc_tup (xs := xs) (fun i H2 => Same H H2 ∧ H2 D = some (.lst (((rows.take i).map (lineS wide)).map V.str))) ⟨Same.new (Same.refl H) hD, upd_same⟩ (fun i H2 _ hh => Same.tup hh.1 ha) (fun i x H2 hxi hh => ?_) (fun H2 hh => ?_)⟩
    · obtain ⟨s2, d2⟩ := hh
      obtain ⟨r, hri, dr⟩ := hx i x hxi
      have hrm := List.mem_of_getElem? hri
      have hz := isNm_len (hR.nm r hrm)
      have hm := marksS_len (size := wide) (ns := r.2)
      obtain ⟨q, y, rfl, hq, dy⟩ := Dp.rowI (Dp.same s2 dr)
      refine ⟨q, _, rfl, hq, rfl, .str r.1, [y], rfl, y, [], rfl, rfl, rfl, ?_⟩
      have l1 : (r.1 ++ " ").length = 2 := by rw [PySem.Str.length_append, hz]; rfl
      refine ⟨_, rfl, r.1, " ", rfl, rfl, by rw [hz]; exact fits rfl, ?_⟩
      refine ⟨_, rfl, _, rfl, y, wide, r.2, rfl, dy, (hR.ticks r hrm).fit, m0, m1, fun H3 s3 => ?_⟩
      refine ⟨_, _, rfl, rfl, by rw [l1]; exact fit2 (by omega), _, s3 _ _ d2, ?_, Same.put (s2.trans s3) hD, ?_⟩
      · have fit := hR.fit
        rw [List.length_map, List.length_map, List.length_take]
        exact Nat.lt_of_le_of_lt (Nat.le_trans (Nat.min_le_right _ _) fit) (by decide)
      · rw [upd_same, List.take_add_one, hri]
        simp [lineS]
    · obtain ⟨s2, d2⟩ := hh
      rw [hl, List.take_length] at d2
      have fit := hR.fit
      refine ⟨⟨_, rfl⟩, _, rfl, wide, rfl, log_fit m0 m1, fits rfl, fun l H3 n3 s3 e3 => ?_⟩
      refine ⟨_, rfl, l, D, _, _, rfl, rfl, e3, s3 _ _ d2, ?_, fun l4 H4 n4 s4 e4 => ?_⟩
      · simp
        exact fit2 (by omega)
      · refine ⟨_, l4, planL wide rows, rfl, rfl, .inl (SqL.of ?_), planL_fit hR m0 m1, k H4 ((s2.trans s3).trans s4)⟩
        rw [e4]
        simp [planL]
abbrev s_drawn : Stmt := top 28
theorem sc_drawn : FnScope ["_law_purse_here", "_law_wide", "_law_letters_here"] ["_law_purse_here"] (defScope s_drawn) := ⟨rfl, rfl, rfl, by decide +kernel, rfl, by decide +kernel, by decide +kernel⟩
theorem ok_drawn {f fR fS fM fL fD : Addr} {fd dR dL dD : FuncData} (F : Fun K "_law_drawn" "_law_drawn" s_drawn f fd) (T : TxtN K mg fR fS fM fL fD) (GR : FnOk P w K mg base CX0 1 fR dR ["_law_purse_here", "_law_many"] spRoll) (bR : L2.Binds K dR ["_law_purse_here", "_law_many"] [])
    (GL : FnOk P w K mg base CX0 2 fL dL ["_law_purse_here", "_law_many"] spLetters) (bL : L2.Binds K dL ["_law_purse_here", "_law_many"] []) (GD : FnOk P w K mg base CX0 3 fD dD ["_law_purse_here", "_law_letters_here", "_law_wide"] (spDrawnRows K)) (bD : L2.Binds K dD ["_law_purse_here", "_law_letters_here", "_law_wide"] []) :
    FnOk P w K mg base CX0 4 f fd ["_law_purse_here"] (spDrawn K) := by
  refine F.ok sc_drawn (fun vs H Q E h => ?_) (fun cdv A outer s H vs Q E hr h => ?_)
  · obtain ⟨p, rfl, _⟩ := h
    rfl
  · obtain ⟨p, rfl, hp, k⟩ := h
    have hr1 : Room 1 _ := hr.mono (by decide)
    have hr2 : Room 2 _ := hr.mono (by decide)
    refine ⟨_, (pss_cons (ps_set (i := 1) sc_drawn.nd rfl (Or.inl rfl) (pe_ix ix_list (pe_lstN (pa_cons pe_int (pa_cons pe_int (pa_cons pe_int (pa_cons pe_int (pa_cons pe_int (pa_cons pe_int (pa_cons pe_int (pa_cons pe_int pa_nil))))))))) (pe_call GR hr1 rfl T.m.l.g_roll T.m.l.k_roll bR .nil pass0 (pa_cons (pv 0) (pa_cons pe_int pa_nil))) (fun _ _ => rfl)))
    (pss_cons (ps_set (i := 2) sc_drawn.nd rfl (Or.inl rfl) (pe_call GL hr2 rfl T.g_letters T.k_letters bL .nil pass0 (pa_cons (pv 0) (pa_cons (pe_ix ix_list (pe_lstN (pa_cons pe_int (pa_cons pe_int (pa_cons pe_int (pa_cons pe_int (pa_cons pe_int (pa_cons pe_int pa_nil))))))) (pe_call GR hr1 rfl T.m.l.g_roll T.m.l.k_roll bR .nil pass0 (pa_cons (pv 0) (pa_cons pe_int pa_nil))) (fun _ _ => rfl)) pa_nil))))
    (pss_one (ps_ret (pe_tupN (pa_cons (pv 1) (pa_cons (pe_call GD hr rfl T.g_drows T.k_drows bD .nil pass0 (pa_cons (pv 0) (pa_cons (pv 2) (pa_cons (pv 1) pa_nil)))) pa_nil))))))), ?_⟩
    refine ⟨fits rfl, fun L1 H1 n1 s1 e1 => ?_⟩
    refine ⟨_, rfl, p, 8, rfl, hp.same s1, by decide, by decide, fun r1 H2 a0 a1 b2 p2 => ?_⟩
    obtain ⟨q1, rfl⟩ := Int.eq_ofNat_of_zero_le a0
    have hq1 : q1 < ([7, 0, 1, 2, 30, 61, 120, 300] : List Int).length := by show q1 < 8; omega
    refine ⟨L1, ([7, 0, 1, 2, 30, 61, 120, 300] : List Int).map V.int, (q1 : Int), .int (([7, 0, 1, 2, 30, 61, 120, 300] : List Int)[q1]), rfl, rfl, SqL.of (b2 L1 _ (hp.off n1) e1), atI_nat (int_at hq1), ?_⟩
    have hw : 0 ≤ ([7, 0, 1, 2, 30, 61, 120, 300] : List Int)[q1] ∧ ([7, 0, 1, 2, 30, 61, 120, 300] : List Int)[q1] ≤ 300 := (by decide : ∀ x ∈ ([7, 0, 1, 2, 30, 61, 120, 300] : List Int), 0 ≤ x ∧ x ≤ 300) _ (List.getElem_mem hq1)
    have hmem : ([7, 0, 1, 2, 30, 61, 120, 300] : List Int)[q1] ∈ szs := List.getElem_mem hq1
    generalize ([7, 0, 1, 2, 30, 61, 120, 300] : List Int)[q1] = wide at hw hmem
    refine ⟨_, rfl, fits rfl, fun L2 H3 n3 s3 e3 => ?_⟩
    refine ⟨_, rfl, p, 6, rfl, p2.same s3, by decide, by decide, fun r2 H4 c0 c1 b4 p4 => ?_⟩
    obtain ⟨q2, rfl⟩ := Int.eq_ofNat_of_zero_le c0
    have hq2 : q2 < ([2, 1, 0, 3, 5, 26] : List Int).length := by show q2 < 6; omega
    refine ⟨L2, ([2, 1, 0, 3, 5, 26] : List Int).map V.int, (q2 : Int), .int (([2, 1, 0, 3, 5, 26] : List Int)[q2]), rfl, rfl, SqL.of (b4 L2 _ (p2.off n3) e3), atI_nat (int_at hq2), ?_⟩
    have hm : 0 ≤ ([2, 1, 0, 3, 5, 26] : List Int)[q2] ∧ ([2, 1, 0, 3, 5, 26] : List Int)[q2] ≤ 26 := (by decide : ∀ x ∈ ([2, 1, 0, 3, 5, 26] : List Int), 0 ≤ x ∧ x ≤ 26) _ (List.getElem_mem hq2)
    generalize ([2, 1, 0, 3, 5, 26] : List Int)[q2] = many at hm
    refine ⟨p, many, rfl, p4, hm.1, hm.2, fun l ys H5 b5 p5 hlp el hY => ?_⟩
    refine ⟨_, rfl, _, rfl, _, rfl, _, rfl, p, l, ys, wide, rfl, p5, hlp, el, hY, hw.1, by omega, fun v rows H6 b6 p6 dv hR => ?_⟩
    refine ⟨fits rfl, fun t H7 n7 s7 e7 => ?_⟩
    have b : But p H H7 := (But.same s1).trans (b2.trans ((But.same s3).trans (b4.trans (b5.trans (b6.trans (But.same s7))))))
    exact k t wide v rows H7 b (p6.same s7) e7 (Dp.same s7 dv) hR hmem hw.1 hw.2
end
set_option Elab.async false
set_option linter.all false
set_option maxRecDepth 100000
set_option maxHeartbeats 4000000
open PySem PySem.Spec PyProof.Rows L2 RZ
theorem upR_pair : ∀ {ns : List Int}, upR ns = true → ns.Pairwise (· < ·)
  | [], _ => .nil
  | [a], _ => List.pairwise_singleton _ _
  | a :: b :: r, h => by
    have e : upR (a :: b :: r) = (decide (a < b) && upR (b :: r)) := rfl
    rw [e, Bool.and_eq_true] at h
    have ih := upR_pair h.2
    have ab := of_decide_eq_true h.1
    refine List.pairwise_cons.mpr ⟨fun c hc => ?_, ih⟩
    rcases List.mem_cons.mp hc with rfl | hc
    · exact ab
    · exact Int.lt_trans ab ((List.pairwise_cons.mp ih).1 c hc)
theorem upR_of : ∀ {ns : List Int}, ns.Pairwise (· < ·) → upR ns = true
  | [], _ => rfl
  | [a], _ => rfl
  | a :: b :: r, h => by
    have e : upR (a :: b :: r) = (decide (a < b) && upR (b :: r)) := rfl
    rw [e, Bool.and_eq_true]
    have h2 := List.pairwise_cons.mp h
    exact ⟨decide_eq_true (h2.1 b (List.mem_cons_self ..)), upR_of h2.2⟩
theorem inV_int (t : Int) (ns : List Int) : inV (.int t) (ns.map V.int) = ns.contains t := by
  unfold inV
  rw [List.any_map]
  induction ns with
  | nil => rfl
  | cons y ns ih =>
    rw [List.any_cons, List.contains_cons, ih]
    congr 1
    show (y == t) = (t == y)
    exact Bool.beq_comm ..
theorem flat_ints (ns : List Int) : (ns.map V.int).all flatV = true := by
  rw [List.all_map]
  exact List.all_eq_true.mpr fun _ _ => rfl
def rCat2 (K : PySem.W.Frag) : R2 := fun x y H Q => ∃ a b xs ys, x = .ref a ∧ y = .ref b ∧ SqT K H a xs ∧ SqT K H b ys ∧ xs.length + ys.length ≤ sizeLine ∧ ∀ c H', Same H H' → SqT K H' c (xs ++ ys) → Q (.ref c) H'
theorem op_cat2 {X : Cx} : OpR X (binaryOp .Add) (rCat2 X.K) := OpR.imp op_catA fun x y H Q h => by
  obtain ⟨a, b, xs, ys, rfl, rfl, h1, h2, h3, q⟩ := h
  refine ⟨a, b, xs, ys, rfl, rfl, h1, h2, h3, fun e => q b H (Same.refl H) (by rw [e]; exact h2), fun _ e => q a H (Same.refl H) (by rw [e, List.append_nil]; exact h1), fun _ _ p n => q p _ (Same.new (Same.refl H) n) (SqT.of upd_same)⟩
set_option Elab.async false
set_option linter.all false
set_option maxRecDepth 100000
set_option maxHeartbeats 4000000
open PySem PySem.Spec PyProof.Rows L2 RZ
/-! ### what repr is asked of: it fits -/
theorem ok_iff {z : Str} : PyData.strOk z = true ↔ ∀ c ∈ z.cps.toList, c < 0x110000 := by
  unfold PyData.strOk
  rw [Array.all_eq_true_iff_forall_mem]
  constructor
  · intro h c hc
    simpa using h c (Array.mem_toList_iff.mp hc)
  · intro h c hc
    simpa using h c (Array.mem_toList_iff.mpr hc)
theorem ok_app {a b : Str} (h1 : PyData.strOk a = true) (h2 : PyData.strOk b = true) : PyData.strOk (a ++ b) = true := by
  rw [ok_iff] at h1 h2 ⊢
  intro c hc
  rw [PySem.Str.cps_append, Array.toList_append, List.mem_append] at hc
  exact hc.elim (h1 c) (h2 c)
theorem ok_of (s : String) : PyData.strOk (Str.ofString s) = true := by
  rw [ok_iff, PySem.Str.ofString_eq_toList]
  intro c hc
  have h2 : c ∈ s.toList.map Char.toNat := hc
  obtain ⟨d, _, rfl⟩ := List.mem_map.mp h2
  have := d.valid
  rcases this with h | h
  · exact Nat.lt_trans h (by decide)
  · exact h.2
theorem ok_join {sep : Str} (hs : PyData.strOk sep = true) : ∀ {ts : List Str}, (∀ t ∈ ts, PyData.strOk t = true) → PyData.strOk (Str.join sep ts) = true
  | [], _ => by
    show PyData.strOk Str.empty = true
    decide +kernel
  | [x], h => h x (List.mem_cons_self ..)
  | x :: y :: r, h => ok_app (ok_app (h x (List.mem_cons_self ..)) hs) (ok_join hs (ts := y :: r) fun t ht => h t (List.mem_cons_of_mem _ ht))
theorem ok_marks (size : Int) (ns : List Int) : PyData.strOk (marksS size ns) = true := by
  unfold marksS Txt.join
  rw [StrLaws.glued_eq_join]
  refine ok_join (by decide +kernel) fun t ht => ?_
  unfold marksL at ht
  obtain ⟨n, _, rfl⟩ := List.mem_map.mp ht
  cases ns.contains (n : Int) <;> decide +kernel
theorem ok_plan {size : Int} {rows : List Row} (h : ∀ r ∈ rows, PyData.strOk r.1 = true) : PyData.strOk (planS size rows) = true := by
  unfold planS Txt.join
  rw [StrLaws.glued_eq_join]
  refine ok_join (by decide +kernel) fun t ht => ?_
  unfold planL at ht
  rcases List.mem_cons.mp ht with rfl | ht
  · exact ok_of _
  · obtain ⟨r, hr, rfl⟩ := List.mem_map.mp ht
    exact ok_app (ok_app (h r hr) (by decide +kernel)) (ok_marks _ _)
theorem ok_repr (size : Int) : PyData.strOk (reprS size) = true := ok_app (ok_app (ok_of _) (ok_of _)) (ok_of _)
theorem planS_len {size : Int} {rows : List Row} (h : Rows size rows) (h0 : 0 ≤ size) (h1 : size ≤ 10000) : (planS size rows).length ≤ 7 + rows.length * (size.toNat + 3) := by
  have a := ts_fit h0 h1
  have b := sum_le (f := fun r : Row => (lineS size r).length) (m := size.toNat + 2) (xs := rows) fun r hr => lineS_len (size := size) (isNm_len (h.nm r hr))
  have e : ((planL size rows).map (·.length)).sum = (toString size : Str).length + (rows.map fun r => (lineS size r).length).sum := by
    unfold planL
    rw [List.map_cons, List.sum_cons, List.map_map]
    rfl
  have l : (planL size rows).length = rows.length + 1 := by
    unfold planL
    simp
  unfold planS Txt.join
  rw [StrLaws.glued_eq_join]
  refine Nat.le_trans (StrLaws.join_length_le _ _) ?_
  rw [e, l, show ("\n" : Str).length = 1 from rfl]
  have : rows.length * (size.toNat + 3) = rows.length * (size.toNat + 2) + rows.length := by rw [← Nat.mul_succ]
  omega
theorem reprS_len {size : Int} (h0 : 0 ≤ size) (h1 : size ≤ 10000) : (reprS size).length ≤ 20 := by
  have a := ts_fit h0 h1
  unfold reprS
  rw [PySem.Str.length_append, PySem.Str.length_append, show ("Plan(" : Str).length = 5 from rfl, show (" ticks)" : Str).length = 7 from rfl]
  omega
theorem w_int {n : Int} (h0 : 0 ≤ n) (h1 : n ≤ 10000) : PyData.weight (.int n) ≤ 14 := by
  simp only [PyData.weight]
  split
  · omega
  · rename_i h
    have hz : n.natAbs ≠ 0 := by
      intro e
      apply h
      simp
      omega
    have := (Nat.log2_lt hz).mpr (show n.natAbs < 2 ^ 14 by omega)
    omega
theorem s_int {n : Int} (h0 : 0 ≤ n) (h1 : n ≤ 10000) : PyData.showable (.int n) = true ∧ PyData.intsShort 13 (.int n) = true := by
  refine ⟨?_, ?_⟩
  · simp only [PyData.showable, decide_eq_true_eq]
    exact log_fit h0 h1
  · simp only [PyData.intsShort, PyData.shown, decide_eq_true_eq]
    exact decide_eq_true (Nat.le_trans (ts_fit h0 h1) (show 6 ≤ 13 by decide))
/-- data that repr shows -/
structure Shw (d : PyData) (m : Nat) : Prop where
  lay : d.canLay0 = true
  show_ : d.showable = true
  deep : d.depth ≤ 5
  wei : d.weight ≤ m
  sint : d.intsShort 13 = true
structure ShwAll (ds : List PyData) (m : Nat) : Prop where
  lay : PyData.canLayAll0 ds = true
  show_ : PyData.showableAll ds = true
  deep : PyData.depthAll ds ≤ 5
  wei : PyData.weightAll ds ≤ m
  sint : PyData.intsShortAll 13 ds = true
theorem ShwAll.nil {m : Nat} : ShwAll [] m := ⟨by simp [PyData.canLayAll0], by simp [PyData.showableAll], by simp [PyData.depthAll], by simp [PyData.weightAll], by simp [PyData.intsShortAll]⟩
theorem ShwAll.cons {d : PyData} {ds : List PyData} {a b m : Nat} (h : Shw d a) (g : ShwAll ds b) (e : a + 1 + b ≤ m) : ShwAll (d :: ds) m := by
  refine ⟨?_, ?_, ?_, ?_, ?_⟩
  · simp [PyData.canLayAll0, h.lay, g.lay]
  · simp [PyData.showableAll, h.show_, g.show_]
  · have := h.deep
    have := g.deep
    simp only [PyData.depthAll]
    omega
  · have := h.wei
    have := g.wei
    simp only [PyData.weightAll]
    omega
  · simp [PyData.intsShortAll, h.sint, g.sint]
theorem ShwAll.map {α : Type} {f : α → PyData} {m : Nat} : ∀ {xs : List α}, (∀ x ∈ xs, Shw (f x) m) → ShwAll (xs.map f) (xs.length * (m + 1))
  | [], _ => .nil
  | x :: xs, h => .cons (h x (List.mem_cons_self ..)) (ShwAll.map fun y hy => h y (List.mem_cons_of_mem _ hy)) (by rw [List.length_cons, Nat.succ_mul]; omega)
theorem ShwAll.tup {ds : List PyData} {m : Nat} (h : ShwAll ds m) (hd : PyData.depthAll ds ≤ 4) : Shw (.tuple ds) m := by
  refine ⟨by simp only [PyData.canLay0, h.lay], by simp only [PyData.showable, h.show_], ?_, by simp only [PyData.weight]; exact h.wei, by simp only [PyData.intsShort, h.sint]⟩
  simp only [PyData.depth]
  omega
theorem Shw.int {n : Int} (h0 : 0 ≤ n) (h1 : n ≤ 10000) : Shw (.int n) 14 := ⟨by simp only [PyData.canLay0], (s_int h0 h1).1, by simp only [PyData.depth]; omega, w_int h0 h1, (s_int h0 h1).2⟩
theorem Shw.str {z : Str} {m : Nat} (h : PyData.strOk z = true) (l : z.length ≤ m) : Shw (.str z) m := ⟨by simp only [PyData.canLay0, h], by simp only [PyData.showable], by simp only [PyData.depth]; omega, by simp only [PyData.weight]; exact l, by simp only [PyData.intsShort]⟩
theorem ShwAll.fit {ds : List PyData} {m : Nat} (h : ShwAll ds m) (hm : m ≤ 1000000) : PyData.showableAll ds = true ∧ PyData.depthAll ds ≤ 60 ∧ (listText (PyData.shownAll ds)).length ≤ sizeLine := by
  refine ⟨h.show_, by have := h.deep; omega, ?_⟩
  have e : listText (PyData.shownAll ds) = PyData.shown (.list ds) := by simp only [PyData.shown]
  rw [e]
  refine Nat.le_trans (shown_le13 ?_ (by simp only [PyData.intsShort, h.sint])) (by decide)
  have h1 := h.lay
  have h2 := h.deep
  have h3 := h.wei
  show (PyData.canLay0 (.list ds) && decide (PyData.depth (.list ds) ≤ 64) && decide (PyData.weight (.list ds) ≤ 2 ^ 20)) = true
  simp only [PyData.canLay0, PyData.depth, PyData.weight, Bool.and_eq_true, decide_eq_true_eq]
  refine ⟨⟨h1, ?_⟩, ?_⟩
  · exact decide_eq_true (Nat.le_trans (Nat.succ_le_succ h2) (show 6 ≤ 64 by decide))
  · exact decide_eq_true (Nat.le_trans h3 (Nat.le_trans hm (show 1000000 ≤ 2 ^ 20 by decide)))
theorem Ticks.len {size : Int} {ns : List Int} (h : Ticks size ns) : ns.length ≤ size.toNat := by
  have nd : ns.Nodup := (upR_pair h.up).imp fun h => Int.ne_of_lt h
  have := nd_len (l := ns) (cs := (List.range size.toNat).map fun (k : Nat) => (k : Int)) nd fun x hx => by
    have := h.ok x hx
    unfold okTick at this
    rw [Bool.and_eq_true, decide_eq_true_eq, decide_eq_true_eq] at this
    exact List.mem_map.mpr ⟨x.toNat, List.mem_range.mpr (by omega), by omega⟩
  rw [List.length_map, List.length_range] at this
  exact this
theorem Ticks.shw {size : Int} {ns : List Int} (h : Ticks size ns) (h1 : size ≤ 300) : Shw (ticksD ns) 4600 := by
  have hl := h.len
  have a := ShwAll.map (f := PyData.int) (m := 14) (xs := ns) fun n hn => by
    have := h.ok n hn
    unfold okTick at this
    rw [Bool.and_eq_true, decide_eq_true_eq, decide_eq_true_eq] at this
    exact Shw.int this.1 (by omega)
  have b := a.tup (by rw [deep_ints]; omega)
  exact ⟨b.lay, b.show_, b.deep, Nat.le_trans b.wei (by omega), b.sint⟩
theorem Rows.shw {size : Int} {rows : List Row} (h : Rows size rows) (h1 : size ≤ 300) : Shw (rowsD rows) 460600 ∧ Shw (namesD rows) 200 := by
  have fit := h.fit
  refine ⟨?_, ?_⟩
  · have a := ShwAll.map (f := rowD) (m := 4604) (xs := rows) fun r hr => by
      have t := (h.ticks r hr).shw h1
      have c : ShwAll [.str r.1, ticksD r.2] 4604 := .cons (Shw.str (m := 1) (isNm_ok (h.nm r hr)) (Nat.le_of_eq (isNm_len (h.nm r hr)))) (.cons t (ShwAll.nil (m := 0)) (Nat.le_refl _)) (by omega)
      exact c.tup (by have := t.deep; simp only [PyData.depthAll, PyData.depth, ticksD, deep_ints]; omega)
    have b := a.tup (by have := deep_rowl rows; omega)
    exact ⟨b.lay, b.show_, b.deep, Nat.le_trans b.wei (by omega), b.sint⟩
  · have a := ShwAll.map (f := fun r : Row => PyData.str r.1) (m := 1) (xs := rows) fun r hr => Shw.str (isNm_ok (h.nm r hr)) (Nat.le_of_eq (isNm_len (h.nm r hr)))
    have d0 : ∀ xs : List Row, PyData.depthAll (xs.map fun r => PyData.str r.1) = 0 := fun xs => by
      induction xs with
      | nil => simp [PyData.depthAll]
      | cons x xs ih => simp only [List.map_cons, PyData.depthAll, PyData.depth, ih]; omega
    have b := a.tup (by rw [d0]; omega)
    exact ⟨b.lay, b.show_, b.deep, Nat.le_trans b.wei (by omega), b.sint⟩
theorem two_fit {size : Int} {rows : List Row} (h : Rows size rows) (h0 : 0 ≤ size) (h1 : size ≤ 300) : PyData.showableAll [.int size, rowsD rows] = true ∧ PyData.depthAll [.int size, rowsD rows] ≤ 60 ∧ (listText (PyData.shownAll [.int size, rowsD rows])).length ≤ sizeLine :=
  ShwAll.fit (m := 470000) (.cons (Shw.int h0 (by omega)) (.cons (h.shw h1).1 (ShwAll.nil (m := 0)) (Nat.le_refl _)) (by omega)) (by omega)
set_option Elab.async false
set_option linter.all false
set_option maxRecDepth 100000
set_option maxHeartbeats 4000000
open PySem PySem.Spec PyProof.Rows L2 RZ
/-! ### rows with one taken out, one exchanged -/
theorem up_of_pair : ∀ {zs : List Str}, zs.Pairwise (fun a b => a.cps.toList < b.cps.toList) → (upV (zs.map V.str)).all id = true
  | [], _ => rfl
  | [a], _ => rfl
  | a :: b :: r, h => by
    have e : upV ((a :: b :: r).map V.str) = decide (a.cps.toList < b.cps.toList) :: upV ((b :: r).map V.str) := rfl
    have h2 := List.pairwise_cons.mp h
    rw [e, List.all_cons, Bool.and_eq_true]
    exact ⟨decide_eq_true (h2.1 b (List.mem_cons_self ..)), up_of_pair h2.2⟩
theorem Rows.pair {size : Int} {rows : List Row} (h : Rows size rows) : (rows.map (·.1)).Pairwise (fun a b => a.cps.toList < b.cps.toList) := by
  have hu := h.up
  have : (rows.map fun r => V.str r.1) = (rows.map (·.1)).map V.str := by rw [List.map_map]; rfl
  rw [this] at hu
  exact up_pair _ hu
theorem Rows.of {size : Int} {rows : List Row} (h1 : ∀ r ∈ rows, isNm r.1 = true) (h2 : ∀ r ∈ rows, Ticks size r.2) (h3 : (rows.map (·.1)).Pairwise (fun a b => a.cps.toList < b.cps.toList)) (h4 : rows.length ≤ 100) : Rows size rows := by
  refine ⟨h1, h2, ?_, h4⟩
  have : (rows.map fun r => V.str r.1) = (rows.map (·.1)).map V.str := by rw [List.map_map]; rfl
  rw [this]
  exact up_of_pair h3
theorem Rows.nil {size : Int} : Rows size [] := by
  refine ⟨fun r h => ?_, fun r h => ?_, rfl, by decide⟩
  · simp at h
  · simp at h
theorem Rows.more {size : Int} {rows : List Row} (h : Rows size rows) : Rows (size + 1) rows := by
  refine ⟨h.nm, fun r hr => ⟨fun n hn => ?_, (h.ticks r hr).up, (h.ticks r hr).fit⟩, h.up, h.fit⟩
  have := (h.ticks r hr).ok n hn
  unfold okTick at this ⊢
  rw [Bool.and_eq_true, decide_eq_true_eq, decide_eq_true_eq] at this ⊢
  omega
def outR (rows : List Row) (k : Nat) : List Row := rows.take k ++ rows.drop (k + 1)
def newR (rows : List Row) (k : Nat) (r : Row) : List Row := (rows.take k ++ [r]) ++ rows.drop (k + 1)
theorem out_rows {size : Int} {rows : List Row} {k : Nat} (h : Rows size rows) (hk : k < rows.length) : Rows size (outR rows k) ∧ outR rows k ≠ rows := by
  have e : outR rows k = rows.eraseIdx k := (List.eraseIdx_eq_take_drop_succ rows k).symm
  have sub : (outR rows k).Sublist rows := by rw [e]; exact List.eraseIdx_sublist ..
  refine ⟨Rows.of (fun r hr => h.nm r (sub.subset hr)) (fun r hr => h.ticks r (sub.subset hr)) (h.pair.sublist (sub.map _)) (Nat.le_trans sub.length_le h.fit), fun q => ?_⟩
  have := congrArg List.length q
  rw [e, List.length_eraseIdx_of_lt hk] at this
  omega
theorem new_rows {size : Int} {rows : List Row} {k : Nat} {ms : List Int} (h : Rows size rows) (hk : k < rows.length) (hm : Ticks size ms) (hn : ms ≠ rows[k].2) : Rows size (newR rows k (rows[k].1, ms)) ∧ newR rows k (rows[k].1, ms) ≠ rows := by
  have e : newR rows k (rows[k].1, ms) = rows.set k (rows[k].1, ms) := by
    unfold newR
    rw [List.set_eq_take_append_cons_drop, if_pos hk, List.append_assoc]
    rfl
  have hmem : ∀ r ∈ newR rows k (rows[k].1, ms), r = (rows[k].1, ms) ∨ r ∈ rows := fun r hr => by
    rw [e] at hr
    exact (List.mem_or_eq_of_mem_set hr).symm
  have hr : rows[k] ∈ rows := List.getElem_mem hk
  refine ⟨Rows.of (fun r hr2 => ?_) (fun r hr2 => ?_) ?_ ?_, fun q => ?_⟩
  · rcases hmem r hr2 with rfl | h2
    · exact h.nm rows[k] hr
    · exact h.nm r h2
  · rcases hmem r hr2 with rfl | h2
    · exact hm
    · exact h.ticks r h2
  · have : (newR rows k (rows[k].1, ms)).map (·.1) = rows.map (·.1) := by
      rw [e, List.map_set]
      have : (rows.map (·.1))[k]'(by rw [List.length_map]; exact hk) = rows[k].1 := List.getElem_map ..
      rw [← this]
      exact List.set_getElem_self ..
    rw [this]
    exact h.pair
  · rw [e, List.length_set]
    exact h.fit
  · have h2 := congrArg (fun l => l[k]?) q
    simp only [e, List.getElem?_set_self hk, List.getElem?_eq_getElem hk] at h2
    have := Option.some.inj h2
    exact hn (congrArg Prod.snd this)
theorem DpAll.app {K : PySem.W.Frag} {H : Hp} {ys : List V} {es : List PyData} (h2 : DpAll K H ys es) : ∀ {xs : List V} {ds : List PyData}, DpAll K H xs ds → DpAll K H (xs ++ ys) (ds ++ es)
  | [], [], .nil => h2
  | x :: xs, e :: ds, .cons a b => .cons a (DpAll.app h2 b)
theorem DpAll.tk {K : PySem.W.Frag} {H : Hp} : ∀ {xs : List V} {ds : List PyData} (k : Nat), DpAll K H xs ds → DpAll K H (xs.take k) (ds.take k)
  | [], [], 0, .nil => .nil
  | [], [], _ + 1, .nil => .nil
  | x :: xs, e :: ds, 0, .cons a b => .nil
  | x :: xs, e :: ds, k + 1, .cons a b => .cons a (DpAll.tk k b)
theorem DpAll.dr {K : PySem.W.Frag} {H : Hp} : ∀ {xs : List V} {ds : List PyData} (k : Nat), DpAll K H xs ds → DpAll K H (xs.drop k) (ds.drop k)
  | [], [], 0, .nil => .nil
  | [], [], _ + 1, .nil => .nil
  | x :: xs, e :: ds, 0, .cons a b => .cons a b
  | x :: xs, e :: ds, k + 1, .cons a b => DpAll.dr k b
theorem cut_to {xs : List V} {k : Nat} (h : k ≤ xs.length) : cutV xs none (some (k : Int)) = xs.take k := by
  unfold cutV
  rw [show HT.sIx xs.length xs.length (some (k : Int)) = k from by
    show (if (k : Int) < 0 then ((k : Int) + (xs.length : Int)).toNat else min (k : Int).toNat xs.length) = k
    rw [if_neg (by omega), Int.toNat_natCast]
    omega]
  show (xs.drop 0).take (k - 0) = _
  rw [List.drop_zero, Nat.sub_zero]
theorem cut_from {xs : List V} {k : Nat} (h : k ≤ xs.length) : cutV xs (some (k : Int)) none = xs.drop k := by
  unfold cutV
  rw [show HT.sIx xs.length 0 (some (k : Int)) = k from by
    show (if (k : Int) < 0 then ((k : Int) + (xs.length : Int)).toNat else min (k : Int).toNat xs.length) = k
    rw [if_neg (by omega), Int.toNat_natCast]
    omega]
  show (xs.drop k).take (xs.length - k) = _
  rw [← List.length_drop, List.take_length]
/-! ### what is no list stands apart from a purse -/
mutual
def noLst : PyData → Bool
  | .list _ => false
  | .dict _ => false
  | .tuple ds => noLsts ds
  | .none => true
  | .bool _ => true
  | .int _ => true
  | .str _ => true
def noLsts : List PyData → Bool
  | [] => true
  | d :: ds => noLst d && noLsts ds
end
theorem SqT.off {K : PySem.W.Frag} {H H' : Hp} {p a : Addr} {xs ys : List V} (hp : H p = some (.lst ys)) (b : But p H H') (h : SqT K H a xs) : SqT K H' a xs := by
  rcases h with h | h
  · rcases h with h | ⟨o, h⟩
    · exact .inl (.inl (b a _ (fun e => by rw [e, hp] at h; cases h) h))
    · exact .inl (.inr ⟨o, b a _ (fun e => by rw [e, hp] at h; cases h) h⟩)
  · exact .inr h
mutual
theorem Dp.off {K : PySem.W.Frag} {H H' : Hp} {p : Addr} {ys : List V} (hp : H p = some (.lst ys)) (b : But p H H') : ∀ {v : V} {d : PyData}, noLst d = true → Dp K H v d → Dp K H' v d
  | _, _, _, .non => .non
  | _, _, _, .bl b => .bl b
  | _, _, _, .int i => .int i
  | _, _, _, .str z => .str z
  | _, _, n, .lst _ _ => by simp [noLst] at n
  | _, _, n, .tup h1 h2 => .tup (SqT.off hp b h1) (DpAll.off hp b (by simpa only [noLst] using n) h2)
theorem DpAll.off {K : PySem.W.Frag} {H H' : Hp} {p : Addr} {ys : List V} (hp : H p = some (.lst ys)) (b : But p H H') : ∀ {vs : List V} {ds : List PyData}, noLsts ds = true → DpAll K H vs ds → DpAll K H' vs ds
  | _, _, _, .nil => .nil
  | _, _, n, .cons h1 h2 => by
    simp only [noLsts, Bool.and_eq_true] at n
    exact .cons (Dp.off hp b n.1 h1) (DpAll.off hp b n.2 h2)
end
theorem nl_ints : ∀ ns : List Int, noLsts (ns.map PyData.int) = true
  | [] => by simp [noLsts]
  | n :: ns => by simp [noLsts, noLst, nl_ints ns]
theorem nl_rows : ∀ rows : List Row, noLst (rowsD rows) = true := by
  intro rows
  simp only [rowsD, noLst]
  induction rows with
  | nil => simp [noLsts]
  | cons r rows ih =>
    simp only [List.map_cons, noLsts, ih, Bool.and_true]
    simp [rowD, ticksD, noLst, noLsts, nl_ints]
theorem Dp.rowsOff {K : PySem.W.Frag} {H H' : Hp} {p : Addr} {v : V} {rows : List Row} (hp : Purse H p) (b : But p H H') (h : Dp K H v (rowsD rows)) : Dp K H' v (rowsD rows) := by
  obtain ⟨g, t, n, h1, _⟩ := hp
  exact Dp.off h1 b (nl_rows rows) h
theorem PlanAt.off {K : PySem.W.Frag} {C : Addr} {H H' : Hp} {p q : Addr} {size : Int} {rows : List Row} (hp : Purse H p) (b : But p H H') (h : PlanAt K C H q size rows) : PlanAt K C H' q size rows := by
  obtain ⟨dx, v, h1, h2⟩ := h
  refine ⟨dx, v, b q _ (fun e => ?_) h1, Dp.rowsOff hp b h2⟩
  obtain ⟨g, t, n, h3, _⟩ := hp
  rw [e, h3] at h1
  cases h1
/-- no plan like it -/
inductive Thing (K : PySem.W.Frag) (C : Addr) (H : Hp) (size : Int) (rows : List Row) : V → Prop
  | non : Thing K C H size rows .non
  | int (i : Int) : Thing K C H size rows (.int i)
  | str (z : Str) : Thing K C H size rows (.str z)
  | tup {v : V} {ds : List PyData} (h : Dp K H v (.tuple ds)) (n : noLsts ds = true) : Thing K C H size rows v
  | plan {q : Addr} {s2 : Int} {r2 : List Row} (h : PlanAt K C H q s2 r2) (g : Rows s2 r2) (n : (decide (size = s2) && decide (rows = r2)) = false) : Thing K C H size rows (.ref q)
theorem Thing.same {K : PySem.W.Frag} {C : Addr} {H H' : Hp} {size : Int} {rows : List Row} {v : V} (s : Same H H') : Thing K C H size rows v → Thing K C H' size rows v
  | .non => .non
  | .int i => .int i
  | .str z => .str z
  | .tup h n => .tup (Dp.same s h) n
  | .plan h g n => .plan (h.same s) g n
theorem Thing.off {K : PySem.W.Frag} {C : Addr} {H H' : Hp} {p : Addr} {size : Int} {rows : List Row} {v : V} (hp : Purse H p) (b : But p H H') : Thing K C H size rows v → Thing K C H' size rows v
  | .non => .non
  | .int i => .int i
  | .str z => .str z
  | .tup (ds := ds) h n => by
    obtain ⟨g, t, m, h1, _⟩ := id hp
    exact .tup (Dp.off h1 b (by simp only [noLst]; exact n) h) n
  | .plan h g n => .plan (h.off hp b) g n
theorem plan_made {K : PySem.W.Frag} {C : Addr} {H : Hp} {R : Addr → Hp → Prop} {E : XK} {size : Int} {v : V} {rows : List Row} (dv : Dp K H v (rowsD rows)) (hR : Rows size rows) (m0 : 0 ≤ size) (m1 : size ≤ 10000) (k : ∀ q H', Same H H' → PlanAt K C H' q size rows → R q H') :
    ∀ x dx, H x = none → H dx = none → dx ≠ x → spInit K C [.ref x, .int size, v] (upd (upd H dx (.own x)) x (.ins C dx [])) (fun v H2 => v = .non ∧ R x H2) E := by
  intro x dx nx nd ne
  have s : Same H (upd (upd H dx (.own x)) x (.ins C dx [])) := Same.put (Same.put (Same.refl H) nd) nx
  refine ⟨x, dx, size, v, rows, rfl, upd_same, Dp.same s dv, hR, m0, m1, fun H' b e => ⟨rfl, ?_⟩⟩
  have s2 := But.ofNew s nx b
  exact k x H' s2 ⟨dx, v, e, Dp.same s2 dv⟩
set_option Elab.async false
set_option linter.all false
set_option maxRecDepth 100000
set_option maxHeartbeats 4000000
open PySem PySem.Spec PyProof.Rows L2 RZ
/-- all of the class Plan -/
structure PlanG (P : Program) (w : World) (K : PySem.W.Frag) (mg : Str → Option Value) (base : Heap) (C : Addr) where
  T : PlanI K C
  gC : mg "Plan" = some (.ref C)
  fI : Addr
  dI : FuncData
  uA : Addr
  M : Mk K C fI
  GI : FnOk P w K mg base CX0 4 fI dI ["self", "size", "rows"] (spInit K C)
  b3 : L2.Binds K dI ["self", "size", "rows"] []
  unit : ∀ H, SqT K H uA []
  us : List Value
  uV : L2.Vals [V.ref uA] us
  b2 : L2.Binds K dI ["self", "size", "rows"] us
  kRS : KBn K dI ["self", "size", "rows"] 1 ["rows", "size"] (fun us ws => us ++ (ws.drop 1 ++ ws.take 1)) (fun vs zs => vs ++ (zs.drop 1 ++ zs.take 1))
  us2 : List Value
  kS : KBn K dI ["self", "size", "rows"] 1 ["size"] (fun vs ws => vs ++ (ws ++ us2)) (fun vs zs => vs ++ (zs ++ [V.ref uA]))
  pS : Addr
  fS : Addr
  dS : FuncData
  hS : PropOf K C "size" pS fS
  GS : FnOk P w K mg base CX0 1 fS dS ["self"] (spSize K C)
  bS : L2.Binds K dS ["self"] []
  pR : Addr
  fR : Addr
  dR : FuncData
  hR : PropOf K C "rows" pR fR
  GR : FnOk P w K mg base CX0 1 fR dR ["self"] (spRowsP K C)
  bR : L2.Binds K dR ["self"] []
  pN : Addr
  fN : Addr
  dN : FuncData
  hN : PropOf K C "names" pN fN
  GN : FnOk P w K mg base CX0 1 fN dN ["self"] (spNames K C)
  bN : L2.Binds K dN ["self"] []
  pT : Addr
  fT : Addr
  dT : FuncData
  hT : PropOf K C "text" pT fT
  GT : FnOk P w K mg base CX0 3 fT dT ["self"] (spTextP K C)
  bT : L2.Binds K dT ["self"] []
  fK : Addr
  dK : FuncData
  hK : Meth K C "ticks" fK
  GK : FnOk P w K mg base CX0 1 fK dK ["self", "name"] (spTicksP K C)
  bK : L2.Binds K dK ["self", "name"] []
  kK : KBn K dK ["self", "name"] 1 ["name"] (fun us ws => us ++ ws) (fun vs zs => vs ++ zs)
  fM : Addr
  dM : FuncData
  hM : Meth K C "marks" fM
  GM : FnOk P w K mg base CX0 2 fM dM ["self", "name"] (spMarksP K C)
  bM : L2.Binds K dM ["self", "name"] []
  kM : KBn K dM ["self", "name"] 1 ["name"] (fun us ws => us ++ ws) (fun vs zs => vs ++ zs)
  fE : Addr
  dE : FuncData
  hE : EqC K C fE
  GE : FnOk P w K mg base CX0 1 fE dE ["self", "other"] (spEqP K C)
  bE : L2.Binds K dE ["self", "other"] []
  fStr : Addr
  dStr : FuncData
  sStr : PySem.W.findIn K (.ref C) "__str__" = some (some (.ref fStr))
  nStr : PySem.W.isFn K (.ref fStr) = true
  GStr : FnOk P w K mg base CX0 5 fStr dStr ["self"] (spTextP K C)
  bStr : L2.Binds K dStr ["self"] []
  fRep : Addr
  dRep : FuncData
  sRep : PySem.W.findIn K (.ref C) "__repr__" = some (some (.ref fRep))
  nRep : PySem.W.isFn K (.ref fRep) = true
  GRep : FnOk P w K mg base CX0 1 fRep dRep ["self"] (spReprP K C)
  bRep : L2.Binds K dRep ["self"] []
theorem notFirst_self {K : PySem.W.Frag} {C : Addr} : PySem.W.notFirst K C (.ref C) = true := by
  unfold PySem.W.notFirst
  rw [show ((Value.ref C) == .ref C) = true by simp]
  rfl
theorem noNe {x : V} : (!decide (x = x)) = false := by simp
theorem op_eqIK {X : Cx} {CX : CXT} {n : Nat} {C f : Addr} {fd : FuncData} {ps : List Str} {sp : Sp} {E : XK} {K : PySem.W.Frag} (e : X.K = K) (T : EqC K C f) (F : FnOk X.prog X.w K X.mg X.base CX n f fd ps sp) (hr : Room n X.A) (hb : L2.Binds K fd ps []) (hx : Passes CX X E) : OpR X (compareOp .Eq) (rEqI K C sp E) := by
  subst e
  exact op_eqI T F hr hb hx
theorem op_neIK {X : Cx} {CX : CXT} {n : Nat} {C f : Addr} {fd : FuncData} {ps : List Str} {sp : Sp} {E : XK} {K : PySem.W.Frag} (e : X.K = K) (T : EqC K C f) (F : FnOk X.prog X.w K X.mg X.base CX n f fd ps sp) (hr : Room (n + 1) X.A) (hb : L2.Binds K fd ps []) (hx : Passes CX X E) : OpR X (compareOp .NotEq) (rNeI K C sp E) := by
  subst e
  exact op_neI T F hr hb hx
set_option Elab.async false
set_option linter.all false
set_option maxRecDepth 100000
set_option maxHeartbeats 4000000
open PySem PySem.Spec PyProof.Rows L2 RZ
theorem pgs_star1 {X : Cx} {e : Expr} {p : Pos} {t : TG} (h1 : PG X e t) (hs : (assignEach [.Starred e p] X.env).map (·.2) = [assign e X.env] := by rfl) : PGs X [.Starred e p] (gCons t gNil) := by
  refine ⟨fun pins s σ H vs us Q I r h => ?_⟩
  obtain ⟨v, vr, e1, h⟩ := h
  subst e1
  cases r with
  | cons r rr =>
    rw [hs]
    refine assignInOrder_cons (thn (h1.run pins s σ H _ _ _ I r h) fun _ s1 ⟨σ1, H1, I1, q1⟩ => ?_)
    exact pgs_nil.run pins s1 σ1 H1 _ _ Q I1 rr q1
/-! ### the signs of a plan's text -/
theorem isNm_cp {z : Str} (h : isNm z = true) : ∃ c, z = ⟨#[c]⟩ ∧ 65 ≤ c ∧ c ≤ 90 := by
  have hl := isNm_len h
  unfold isNm at h
  rw [Bool.and_eq_true, Bool.and_eq_true] at h
  obtain ⟨_, h1, h2⟩ := h
  obtain ⟨⟨l⟩⟩ := z
  have hl2 : l.length = 1 := hl
  match l, hl2 with
  | [c], _ =>
    have e : ("Z" : Str).cps.toList = [90] := by decide +kernel
    have e0 : ("A" : Str).cps.toList = [65] := by decide +kernel
    simp only [e] at h2
    simp only [e0] at h1
    have h3 : ¬ ([90] : List Nat) < [c] := by simpa using h2
    have h4 : ¬ ([c] : List Nat) < [65] := by simpa using h1
    have h5 : ¬ 90 < c := fun q => h3 (List.cons_lt_cons_iff.mpr (.inl q))
    have h6 : ¬ c < 65 := fun q => h4 (List.cons_lt_cons_iff.mpr (.inl q))
    exact ⟨c, rfl, by omega, by omega⟩
theorem join_nil : ∀ L : List Str, (Str.join "" L).cps.toList = L.flatMap (·.cps.toList)
  | [] => rfl
  | [x] => by
    show x.cps.toList = _
    simp
  | x :: y :: r => by
    show ((x ++ "" ++ Str.join "" (y :: r)) : Str).cps.toList = _
    rw [PySem.Str.cps_append, PySem.Str.cps_append, Array.toList_append, Array.toList_append, join_nil (y :: r)]
    rw [show ("" : Str).cps.toList = [] from rfl, List.append_nil]
    rfl
def signOf (ns : List Int) (t : Nat) : Nat := if ns.contains (t : Int) = true then 35 else 46
theorem marks_cps (size : Int) (ns : List Int) : (marksS size ns).cps.toList = (List.range size.toNat).map (signOf ns) := by
  unfold marksS Txt.join
  rw [StrLaws.glued_eq_join, join_nil]
  unfold marksL
  rw [List.flatMap_map]
  have : (fun a : Nat => (markC (ns.contains (a : Int))).cps.toList) = fun a => [signOf ns a] := by
    funext a
    unfold signOf markC
    cases ns.contains (a : Int) <;> rfl
  rw [this]
  exact List.map_eq_flatMap.symm
def numB (z : Int) : Bool := Txt.isascii (toString z : Str) && (Txt.isdigit (toString z : Str) && (!(toString z : Str).cps.toList.contains 10 && decide ((toString z : Str).length ≤ 5)))
theorem line_cps {size : Int} {r : Row} {c : Nat} (h : r.1 = ⟨#[c]⟩) : (lineS size r).cps.toList = c :: 32 :: (marksS size r.2).cps.toList := by
  unfold lineS
  rw [PySem.Str.cps_append, PySem.Str.cps_append, Array.toList_append, Array.toList_append, h]
  rfl
theorem cutS_to1 {z : Str} {c : Nat} {l : List Nat} (h : z.cps.toList = c :: l) : cutS z none (some 1) = ⟨#[c]⟩ := by
  have hl : z.length = l.length + 1 := by
    have := congrArg List.length h
    simpa [Str.length] using this
  unfold cutS
  rw [h, show HT.sIx z.length 0 none = 0 from rfl, show HT.sIx z.length z.length (some 1) = 1 from by
    show (if (1 : Int) < 0 then ((1 : Int) + (z.length : Int)).toNat else min (1 : Int).toNat z.length) = 1
    rw [if_neg (by decide), hl]
    show min 1 (l.length + 1) = 1
    omega]
  rfl
theorem cutS_from2 {z : Str} {c d : Nat} {l : List Nat} (h : z.cps.toList = c :: d :: l) : cutS z (some 2) none = ⟨l.toArray⟩ := by
  have hl : z.length = l.length + 2 := by
    have := congrArg List.length h
    simpa [Str.length] using this
  unfold cutS
  rw [h, show HT.sIx z.length z.length none = z.length from rfl, show HT.sIx z.length 0 (some 2) = 2 from by
    show (if (2 : Int) < 0 then ((2 : Int) + (z.length : Int)).toNat else min (2 : Int).toNat z.length) = 2
    rw [if_neg (by decide), hl]
    show min 2 (l.length + 2) = 2
    omega, hl]
  show (⟨(List.take (l.length + 2 - 2) l).toArray⟩ : Str) = _
  rw [Nat.add_sub_cancel, List.take_length]
theorem str_of {z y : Str} (h : z.cps.toList = y.cps.toList) : z = y := by
  obtain ⟨⟨a⟩⟩ := z
  obtain ⟨⟨b⟩⟩ := y
  simp only at h
  subst h
  rfl
theorem plan_split {size : Int} {rows : List Row} (h : Rows size rows) (hn : numB size = true) : Txt.split (planS size rows) "\n" = planL size rows := by
  unfold planS
  refine TL.split_join (s := 10) (S := []) (by decide +kernel) (by decide +kernel) (by unfold planL; simp) fun p hp => ?_
  unfold planL at hp
  rcases List.mem_cons.mp hp with rfl | hp
  · unfold numB at hn
    simp only [Bool.and_eq_true] at hn
    have := hn.2.2.1
    simpa using this
  · obtain ⟨r, hr, rfl⟩ := List.mem_map.mp hp
    obtain ⟨c, hc, c1, c2⟩ := isNm_cp (h.nm r hr)
    show 10 ∉ (lineS size r).cps.toList
    rw [line_cps hc, marks_cps]
    intro hm
    rcases List.mem_cons.mp hm with e | hm
    · omega
    · rcases List.mem_cons.mp hm with e | hm
      · cases e
      · obtain ⟨t, _, e⟩ := List.mem_map.mp hm
        unfold signOf at e
        split at e <;> cases e
theorem sorted_eq : ∀ {l1 l2 : List Int}, l1.Pairwise (· < ·) → l2.Pairwise (· < ·) → (∀ x, x ∈ l1 ↔ x ∈ l2) → l1 = l2
  | [], [], _, _, _ => rfl
  | [], b :: r, _, _, h => by
    have := (h b).mpr (List.mem_cons_self ..)
    cases this
  | a :: r, [], _, _, h => by
    have := (h a).mp (List.mem_cons_self ..)
    cases this
  | a :: r1, b :: r2, h1, h2, h => by
    have p1 := List.pairwise_cons.mp h1
    have p2 := List.pairwise_cons.mp h2
    have e : a = b := by
      rcases List.mem_cons.mp ((h a).mp (List.mem_cons_self ..)) with e | e
      · exact e
      · rcases List.mem_cons.mp ((h b).mpr (List.mem_cons_self ..)) with e2 | e2
        · exact e2.symm
        · have := p2.1 a e
          have := p1.1 b e2
          omega
    subst e
    congr 1
    refine sorted_eq p1.2 p2.2 fun x => ⟨fun hx => ?_, fun hx => ?_⟩
    · rcases List.mem_cons.mp ((h x).mp (List.mem_cons_of_mem _ hx)) with e | e
      · have := p1.1 x hx
        omega
      · exact e
    · rcases List.mem_cons.mp ((h x).mpr (List.mem_cons_of_mem _ hx)) with e | e
      · have := p2.1 x hx
        omega
      · exact e
/-- the places of the sign # -/
def marked (z : Str) (i : Nat) : List Int := ((List.range i).filter fun t => decide (z.cps[t]? = some 35)).map fun (t : Nat) => (t : Int)
theorem marked_marks {size : Int} {ns : List Int} (h : Ticks size ns) (h0 : 0 ≤ size) : marked (marksS size ns) (marksS size ns).cps.size = ns := by
  have hsz : (marksS size ns).cps.size = size.toNat := by
    rw [← Array.length_toList, marks_cps]
    simp
  refine sorted_eq ?_ (upR_pair h.up) fun x => ?_
  · unfold marked
    refine List.Pairwise.map (fun (t : Nat) => (t : Int)) (R := (· < ·)) (fun a b h => by omega) ?_
    exact (List.pairwise_lt_range).filter _
  · unfold marked
    rw [List.mem_map]
    constructor
    · rintro ⟨t, ht, rfl⟩
      obtain ⟨h1, h2⟩ := List.mem_filter.mp ht
      have h3 : (marksS size ns).cps[t]? = some 35 := by simpa using h2
      rw [← Array.getElem?_toList, marks_cps, List.getElem?_map] at h3
      obtain ⟨u, hu, e⟩ := Option.map_eq_some_iff.mp h3
      rw [List.mem_range, hsz] at h1
      rw [List.getElem?_range h1] at hu
      cases hu
      unfold signOf at e
      split at e
      · rename_i c
        simpa using c
      · cases e
    · intro hx
      have hok := h.ok x hx
      unfold okTick at hok
      rw [Bool.and_eq_true, decide_eq_true_eq, decide_eq_true_eq] at hok
      refine ⟨x.toNat, List.mem_filter.mpr ⟨?_, ?_⟩, by omega⟩
      · rw [List.mem_range, hsz]
        omega
      · have e : (marksS size ns).cps[x.toNat]? = some 35 := by
          rw [← Array.getElem?_toList, marks_cps, List.getElem?_map, List.getElem?_range (by omega)]
          show some (signOf ns x.toNat) = some 35
          unfold signOf
          rw [show ((x.toNat : Nat) : Int) = x by omega, if_pos (by simpa using hx)]
        rw [e]
        simp
set_option Elab.async false
set_option linter.all false
set_option maxRecDepth 100000
set_option maxHeartbeats 4000000
open PySem PySem.Spec PyProof.Rows L2 RZ
structure TxtE (K : PySem.W.Frag) (mg : Str → Option Value) (fS fM : Addr) : Prop where
  n_enumerate : mg "enumerate" = none
  g_read : mg "_read_size" = some (.ref fS)
  k_read : PySem.W.keepIn K (.ref fS) = true
  g_marked : mg "_marked_ticks" = some (.ref fM)
  k_marked : PySem.W.keepIn K (.ref fM) = true
def spReadSize : Sp := fun vs H Q _ => ∃ (n : Int), vs = [.str (toString n)] ∧ 0 ≤ n ∧ n ≤ 10000 ∧ numB n = true ∧ Q (.int n) H
def spMarked (K : PySem.W.Frag) : Sp := fun vs H Q _ => ∃ (z : Str), vs = [.str z] ∧ z.cps.size ≤ 10000 ∧ ∀ (b : Addr) H', Same H H' → SqT K H' b ((marked z z.cps.size).map V.int) → Q (.ref b) H'
def spRead (K : PySem.W.Frag) (C : Addr) : Sp := fun vs H Q _ => ∃ (size : Int) (rows : List Row), vs = [.str (planS size rows)] ∧ Rows size rows ∧ 0 ≤ size ∧ size ≤ 10000 ∧ numB size = true ∧ ∀ q H', Same H H' → PlanAt K C H' q size rows → Q (.ref q) H'
theorem numB_len {n : Int} (h : numB n = true) : (toString n : Str).length ≤ 5 := by
  unfold numB at h
  simp only [Bool.and_eq_true, decide_eq_true_eq] at h
  exact h.2.2.2
theorem marked_succ (z : Str) (i : Nat) : marked z (i + 1) = marked z i ++ (if z.cps[i]? = some 35 then [(i : Int)] else []) := by
  unfold marked
  rw [List.range_succ, List.filter_append, List.map_append]
  congr 1
  by_cases c : z.cps[i]? = some 35 <;> simp [c]
theorem marked_len (z : Str) (i : Nat) : (marked z i).length ≤ i := by
  unfold marked
  rw [List.length_map]
  exact Nat.le_trans (List.length_filter_le _ _) (Nat.le_of_eq List.length_range)
section
variable {P : Program} {w : World} {K : PySem.W.Frag} {mg : Str → Option Value} {base : Heap} {C : Addr}
abbrev s_rsize : Stmt := top 17
theorem sc_rsize : FnScope ["word"] ["word"] (defScope s_rsize) := ⟨rfl, rfl, rfl, by decide +kernel, rfl, by decide +kernel, by decide +kernel⟩
theorem ok_rsize {f : Addr} {fd : FuncData} (F : Fun K "_read_size" "_read_size" s_rsize f fd) (B : TxtB K mg) (gM : ∃ t, mg "MOST_TICKS" = some (.int 10000 t)) : FnOk P w K mg base CX0 1 f fd ["word"] spReadSize := by
  refine F.ok sc_rsize (fun vs H Q E h => ?_) (fun cdv A outer s H vs Q E hr h => ?_)
  · obtain ⟨n, rfl, _⟩ := h
    rfl
  · obtain ⟨n, rfl, n0, n1, nb, k⟩ := h
    obtain ⟨tk, gM⟩ := gM
    refine ⟨_, (pss_cons (ps_if (PW.pt (pw_or (pt_cmpR op_gt (pe_callB call_len_str (by rfl) B.n_len PySem.boot_len (pa_cons (pv 0) pa_nil)) (pe_callB call_len_str (by rfl) B.n_len PySem.boot_len (pa_cons (pe_callTy call_str_int (by rfl) B.n_str (by decide +kernel) (pa_cons (pe_glob (v := .int 10000) rfl gM ⟨tk, rfl⟩) pa_nil)) pa_nil)) (nomark _)) (pw_or (pt_not (pt_val (pe_m0 PySem.F.slot_str_isascii PySem.F.type_str_isascii mt_isascii (pv 0)))) (pw_or1 (pt_not (pt_val (pe_m0 PySem.F.slot_str_isdigit PySem.F.type_str_isdigit mt_isdigit (pv 0)))))))) (pss_one (ps_ret pe_non)) pss_nil)
    (pss_one (ps_ret (pe_callTy call_int_str (by rfl) B.n_int (by decide +kernel) (pa_cons (pv 0) pa_nil))))), ?_⟩
    have hl := numB_len nb
    have hd := nb
    unfold numB at hd
    simp only [Bool.and_eq_true] at hd
    refine ⟨_, rfl, _, rfl, fits (Nat.ble_eq_true_of_le (Nat.le_trans hl (by decide))), 10000, rfl, by decide, _, rfl, fits rfl, _, _, rfl, rfl, _, rfl, ?_⟩
    have h5 : ((toString (10000 : Int) : Str)).length = 5 := by decide +kernel
    rw [decide_eq_false (by rw [h5]; omega)]
    refine ⟨_, rfl, ⟨_, rfl⟩, _, rfl, rfl, trivial, _, rfl, ?_⟩
    rw [hd.1]
    refine ⟨_, rfl, ⟨_, rfl⟩, _, rfl, rfl, trivial, _, rfl, ?_⟩
    rw [hd.2.1]
    refine ⟨_, rfl, _, n, rfl, PySem.W.KIN.num_reads n0 (by omega), by omega, ?_⟩
    exact k
abbrev s_mticks : Stmt := top 18
theorem sc_mticks : FnScope ["marks", "tick", "mark"] ["marks"] (defScope s_mticks) := ⟨rfl, rfl, rfl, by decide +kernel, rfl, by decide +kernel, by decide +kernel⟩
theorem ok_mticks {f fS fM : Addr} {fd : FuncData} (F : Fun K "_marked_ticks" "_marked_ticks" s_mticks f fd) (B : TxtB K mg) (T : TxtE K mg fS fM) : FnOk P w K mg base CX0 1 f fd ["marks"] (spMarked K) := by
  refine F.ok sc_mticks (fun vs H Q E h => ?_) (fun cdv A outer s H vs Q E hr h => ?_)
  · obtain ⟨z, rfl, _⟩ := h
    rfl
  · obtain ⟨z, rfl, hz, k⟩ := h
    refine ⟨_, (pss_one (ps_ret (pe_callTy call_tuple_of (by rfl) B.n_tuple (by decide +kernel) (pa_cons (pe_lc (own := [("tick", 1), ("mark", 2)]) (g := gTup K 2 (gCons (gName 1) (gCons (gName 2) gNil))) rfl sc_mticks.nd (pi_enumS rfl T.n_enumerate (pa_cons (pv 0) pa_nil)) (blkOk_by (N := ["marks", "tick", "mark"]) (sc := defScope s_mticks) (by decide +kernel)) (fun _ _ _ _ _ => (pg_tup rfl (pgs_cons (pg_name (i := 1) sc_mticks.nd rfl (Or.inl rfl)) (pgs_cons (pg_name (i := 2) sc_mticks.nd rfl (Or.inl rfl)) pgs_nil)))) (fun _ _ _ _ _ => (pts_one (pt_cmpR op_eq (pv 2) pe_str (nomark _)))) (fun _ _ _ _ _ => (pv 1))) pa_nil)))), ?_⟩
    refine ⟨_, rfl, z, rfl, fun D hD => lc_it walk_enumS (fun i H2 => Same H H2 ∧ H2 D = some (.lst ((marked z i).map V.int))) ⟨Same.new (Same.refl H) hD, upd_same⟩ (fun _ _ _ _ => trivial) (fun i x H2 H3 hi hh y => ?_) (fun H2 hh => ?_)⟩
    · obtain ⟨s2, d2⟩ := hh
      obtain ⟨T2, c, rfl, nT, rfl, hc⟩ := y
      have hDT := ne_of_none d2 nT
      refine ⟨T2, _, rfl, SqT.of upd_same, rfl, .int (i : Nat), [.str ⟨#[c]⟩], rfl, .str ⟨#[c]⟩, [], rfl, rfl, rfl, ?_⟩
      refine ⟨_, rfl, rfl, _, rfl, ?_⟩
      have s3 := Same.new s2 nT (o := .tup [.int (i : Nat), .str ⟨#[c]⟩])
      have d3 : upd H2 T2 (.tup [.int (i : Nat), .str ⟨#[c]⟩]) D = some (.lst ((marked z i).map V.int)) := by rw [upd_ne hDT]; exact d2
      by_cases e : c = 35
      · subst e
        rw [decide_eq_true (show V.str ⟨#[35]⟩ = V.str "#" by decide +kernel)]
        refine ⟨_, rfl, _, d3, ?_, Same.put s3 hD, ?_⟩
        · rw [List.length_map]
          have := marked_len z i
          exact Nat.lt_of_le_of_lt this (Nat.lt_of_lt_of_le (show i < 10000 by omega) (by decide))
        · rw [upd_same, marked_succ, if_pos hc, List.map_append]
          rfl
      · rw [decide_eq_false (show ¬ V.str ⟨#[c]⟩ = V.str "#" from fun q => e (by
          have h1 := V.str.inj q
          have h2 := congrArg (fun z : Str => z.cps.toList) h1
          have h3 : ("#" : Str).cps.toList = [35] := by decide +kernel
          rw [h3] at h2
          simpa using h2))]
        refine ⟨s3, ?_⟩
        rw [d3, marked_succ, if_neg (by rw [hc]; simpa using e), List.append_nil]
    · obtain ⟨s2, d2⟩ := hh
      exact ⟨D, _, rfl, .inl ⟨SqL.of d2, fun l hl => k l _ (Same.new s2 hl) (SqT.of upd_same)⟩⟩
abbrev s_read : Stmt := inClass (top 16) 8
abbrev n_read : List Str := ["text", "first", "rest", "size", "rows", "line", "plan"]
theorem sc_read : FnScope n_read ["text"] (defScope s_read) := ⟨rfl, rfl, rfl, by decide +kernel, rfl, by decide +kernel, by decide +kernel⟩
theorem ok_read {f fS fM fI fN fU fT fR : Addr} {fd dS dM dI dR : FuncData} (F : Fun K "read" "Plan.read" s_read f fd) (G : PlanG P w K mg base C) (T : TxtP K mg fI fN fU fT fR) (TE : TxtE K mg fS fM) (GS : FnOk P w K mg base CX0 1 fS dS ["word"] spReadSize) (bS : L2.Binds K dS ["word"] [])
    (GM : FnOk P w K mg base CX0 1 fM dM ["marks"] (spMarked K)) (bM : L2.Binds K dM ["marks"] []) (GI : FnOk P w K mg base CX0 1 fI dI ["value", "least", "most"] (spInt K)) (bI : L2.Binds K dI ["value", "least", "most"] []) (GR : FnOk P w K mg base CX0 3 fR dR ["value", "size"] (spRows K)) (bR : L2.Binds K dR ["value", "size"] []) :
    FnOk P w K mg base CX0 6 f fd ["text"] (spRead K C) := by
  refine F.ok sc_read (fun vs H Q E h => ?_) (fun cdv A outer s H vs Q E hr h => ?_)
  · obtain ⟨size, rows, rfl, _⟩ := h
    rfl
  · obtain ⟨size, rows, rfl, hR, h0, h1, nb, k⟩ := h
    have hr1 : Room 1 _ := hr.mono (by decide)
    have hr3 : Room 3 _ := hr.mono (by decide)
    have hr4 : Room 4 _ := hr.mono (by decide)
    obtain ⟨tk, gM⟩ := T.g_most
    refine ⟨_, (pss_cons (ps_if (pt_not (pt_val (pe_callB call_isB (by rfl) T.t.b.n_isinstance (by decide +kernel) (pa_cons (pv 0) (pa_cons (pe_bltn (v := .ty "str") (by rfl) T.t.b.n_str (by decide +kernel) rfl) pa_nil))))) (pss_one ps_never) pss_nil)
    (pss_cons (ps_asg (pe_split (pv 0) pe_str) (pg_star rfl (pgs_cons (pg_name (i := 1) sc_read.nd rfl (Or.inl rfl)) (pgs_star1 (pg_name (i := 2) sc_read.nd rfl (Or.inl rfl))))))
    (pss_cons (ps_set (i := 3) sc_read.nd rfl (Or.inl rfl) (pe_call GS hr1 rfl TE.g_read TE.k_read bS .nil pass0 (pa_cons (pv 1) pa_nil)))
    (pss_cons (ps_set (i := 4) sc_read.nd rfl (Or.inl rfl) (pe_callTy call_tuple_of (by rfl) T.t.b.n_tuple (by decide +kernel) (pa_cons (pe_lc (own := [("line", 5)]) (g := gName 5) (tt := tYes) rfl sc_read.nd (pi_list (pv 2)) (blkOk_by (N := n_read) (sc := defScope s_read) (by decide +kernel)) (fun _ _ _ _ _ => (pg_name (i := 5) sc_read.nd rfl (Or.inl rfl))) (fun _ _ _ _ _ => pts_nil) (fun _ _ _ _ _ => (pe_tupN (pa_cons (pe_slice sl_str (pv 5) po_none (po_some pe_int)) (pa_cons (pe_call GM hr1 rfl TE.g_marked TE.k_marked bM .nil pass0 (pa_cons (pe_slice sl_str (pv 5) (po_some pe_int) po_none) pa_nil)) pa_nil))))) pa_nil)))
    (pss_cons (ps_if (PW.pt (pw_or (pt_not (pt_val (pe_call GI hr1 rfl T.t.g_is_integer_from T.t.k_is_integer_from bI .nil pass0 (pa_cons (pv 3) (pa_cons pe_int (pa_cons (pe_glob (v := .int 10000) rfl gM ⟨tk, rfl⟩) pa_nil)))))) (pw_or1 (pt_not (pt_val (pe_call GR hr3 rfl T.g_are_rows T.k_are_rows bR .nil pass0 (pa_cons (pv 4) (pa_cons (pv 3) pa_nil)))))))) (pss_one ps_never) pss_nil)
    (pss_cons (ps_set (i := 6) sc_read.nd rfl (Or.inl rfl) (pe_make G.M G.GI hr rfl G.gC G.b3 .nil pass0 (pa_cons (pv 3) (pa_cons (pv 4) pa_nil))))
    (pss_cons (ps_if (pt_cmpR op_ne (pe_prop (pv 6) G.T.c.cls G.hT G.GT hr4 G.bT .nil pass0 rfl) (pv 0) (nomark _)) (pss_one ps_never) pss_nil)
    (pss_one (ps_ret (pv 6)))))))))), ?_⟩
    have fit := hR.fit
    have plen := planS_len hR h0 h1
    have plen2 : (planS size rows).length ≤ 1100000 := Nat.le_trans plen (Nat.le_trans (Nat.add_le_add_left (Nat.mul_le_mul fit (show size.toNat + 3 ≤ 10003 by omega)) _) (by omega))
    refine ⟨_, rfl, .str (planS size rows), "str", "str", true, rfl, .base (.str _), kb_ss, ?_⟩
    refine ⟨_, rfl, ?_⟩
    refine ⟨_, rfl, ⟨_, rfl⟩, _, "\n", rfl, rfl, rfl, Nat.le_trans (Nat.add_le_add_right plen2 2) (by decide), fun p np => ?_⟩
    rw [plan_split hR nb]
    have s1 : Same H (upd H p (.lst ((planL size rows).map V.str))) := Same.new (Same.refl H) np
    have e1 : upd H p (.lst ((planL size rows).map V.str)) p = some (.lst ((planL size rows).map V.str)) := upd_same
    generalize upd H p (.lst ((planL size rows).map V.str)) = H1 at s1 e1
    refine ⟨p, .str (toString size), (rows.map (lineS size)).map V.str, rfl, SqL.of (by rw [e1]; rfl), by rw [List.length_map, List.length_map]; omega, fun D H2 nD sD eD => ?_⟩
    refine ⟨_, _, rfl, _, _, rfl, rfl, ?_⟩
    have s2 := s1.trans sD
    refine ⟨_, rfl, size, rfl, h0, h1, nb, ?_⟩
    refine ⟨_, rfl, D, rfl, ⟨_, SqL.of eD⟩, fun DD hDD => lc_list (K := K) (a := D) (xs := (rows.map (lineS size)).map V.str) (fun i H3 => Same H2 H3 ∧ ∃ xs, H3 DD = some (.lst xs) ∧ xs.length = (rows.take i).length ∧ Apart K H3 DD DD xs ((rows.take i).map rowD)) ⟨Same.new (Same.refl H2) hDD, [], upd_same, rfl, ⟨fun _ => none, (fun b o h => by cases h), rfl, rfl, .nil⟩⟩ (fun i H3 _ hh => SqL.of (hh.1 _ _ eD)) (fun i x H3 hxi hh => ?_) (fun H3 hh => ?_)⟩
    · obtain ⟨s3, xs, e3, l3, ap⟩ := hh
      rw [List.getElem?_map, List.getElem?_map] at hxi
      obtain ⟨ln, hln, rfl⟩ := Option.map_eq_some_iff.mp hxi
      obtain ⟨r, hri, rfl⟩ := Option.map_eq_some_iff.mp hln
      have hrm := List.mem_of_getElem? hri
      obtain ⟨c, hc, _, _⟩ := isNm_cp (hR.nm r hrm)
      have hT := hR.ticks r hrm
      have lc := line_cps (size := size) hc
      have hll := lineS_len (size := size) (isNm_len (hR.nm r hrm))
      have lfit : (lineS size r).length ≤ sizeLine := fit2 (by omega)
      have c1 : cutS (lineS size r) none (some 1) = r.1 := by rw [cutS_to1 lc, hc]
      have c2 : cutS (lineS size r) (some 2) none = marksS size r.2 := by
        rw [cutS_from2 lc]
      have msz : (marksS size r.2).cps.size = size.toNat := by
        rw [← Array.length_toList, marks_cps]
        simp
      refine ⟨rfl, ?_⟩
      refine ⟨_, rfl, 1, rfl, _, rfl, lfit, ?_⟩
      rw [c1]
      refine ⟨_, rfl, 2, rfl, _, rfl, lfit, ?_⟩
      rw [c2]
      refine ⟨_, rfl, by rw [msz]; omega, fun b H4 s4 hb => ?_⟩
      rw [marked_marks hT h0] at hb
      refine ⟨fits rfl, fun t H5 n5 s5 e5 => ?_⟩
      have s35 := s4.trans s5
      have e35 := s35 _ _ e3
      have htD : t ≠ DD := off n5 (s4 _ _ e3)
      refine ⟨xs, e35, ?_, Same.put (s3.trans s35) hDD, xs ++ [.ref t], upd_same, ?_, ?_⟩
      · rw [l3, List.length_take]
        exact Nat.lt_of_le_of_lt (Nat.le_trans (Nat.min_le_right _ _) fit) (by decide)
      · rw [List.length_append, l3, List.take_add_one, hri, List.length_append]
        rfl
      · obtain ⟨G0, sG, g1, g2, d⟩ := ap.but (But.same s35)
        have hb5 := Same.tup s5 hb
        have hbD : SqT K (hid DD H5) b (r.2.map V.int) := by
          rcases hb5 with h | h
          · rcases h with h | ⟨o, h⟩
            · exact .inl (.inl (hid_at (fun e => by rw [e, e35] at h; cases h) h))
            · exact .inl (.inr ⟨o, hid_at (fun e => by rw [e, e35] at h; cases h) h⟩)
          · exact .inr h
        refine Apart.put ⟨hid DD H5, fun c o h => ?_, hid_none, hid_none, ?_⟩
        · unfold hid at h
          split at h
          · cases h
          · exact h
        · rw [List.take_add_one, hri, List.map_append]
          refine DpAll.snoc ?_ (DpAll.same (fun c o h => hid_at (ne_of_none h g1) (sG c o h)) d)
          exact .tup (SqT.of (hid_at htD e5)) (.cons (.str r.1) (.cons (.tup hbD (dp_ints r.2)) .nil))
    · obtain ⟨s3, xs, e3, l3, ap⟩ := hh
      rw [List.length_map, List.length_map, List.take_length] at ap
      refine ⟨DD, _, rfl, .inl ⟨SqL.of e3, fun l hl => ?_⟩⟩
      have s4 : Same H3 (upd H3 l (.tup xs)) := Same.new (Same.refl H3) hl
      have dv : Dp K (upd H3 l (.tup xs)) (.ref l) (rowsD rows) := .tup (SqT.of upd_same) (DpAll.same s4 ap.all)
      generalize upd H3 l (.tup xs) = H4 at s4 dv
      have s14 := s2.trans (s3.trans s4)
      refine ⟨_, rfl, .int size, 0, 10000, rfl, .inl ⟨size, rfl, ?_⟩⟩
      rw [decide_eq_true h0, decide_eq_true h1]
      refine ⟨_, rfl, ?_⟩
      refine ⟨_, rfl, _, rfl, .ref l, size, rows, rfl, dv, hR, fun H5 s5 => ?_⟩
      refine ⟨_, rfl, ?_⟩
      refine ⟨_, rfl, _, rfl, plan_made (Dp.same s5 dv) hR h0 h1 fun q H6 s6 PM => ?_⟩
      obtain ⟨dm, vm, em, _⟩ := id PM
      refine ⟨_, rfl, q, dm, _, rfl, em, q, size, rows, rfl, PM, hR, h0, h1, fun H7 s7 => ?_⟩
      refine ⟨_, rfl, rfl, _, rfl, iteNS rfl ?_⟩
      refine ⟨_, rfl, ?_⟩
      exact k q H7 (s14.trans (s5.trans (s6.trans s7))) (PM.same s7)
end
set_option Elab.async false
set_option linter.all false
set_option maxRecDepth 100000
set_option maxHeartbeats 4000000
open PySem PySem.Spec PyProof.Rows L2 RZ
theorem numB_szs : ∀ z ∈ szs, numB z = true := by decide +kernel
/-- Plan.read -/
structure ReadG (P : Program) (w : World) (K : PySem.W.Frag) (mg : Str → Option Value) (base : Heap) (C : Addr) where
  mc : Value
  r : ClX.CRead K C mc
  p : Addr
  f : Addr
  d : FuncData
  c : SMet K C mc "read" p f
  G : FnOk P w K mg base CX0 6 f d ["text"] (spRead K C)
  b : L2.Binds K d ["text"] []
  k : KBn K d ["text"] 0 ["text"] (fun us ws => us ++ ws) (fun vs zs => vs ++ zs)
theorem op_eqDK {X : Cx} {K : PySem.W.Frag} (e : X.K = K) (hu : X.A.units + 64 < cLine) : OpR X (compareOp .Eq) (rEqD K) := by
  subst e
  exact op_eqD hu
theorem shaped_ticks (ns : List Int) : SeqAt.shaped (ticksD ns) = true := by
  show (PyData.canLay0 (ticksD ns) && decide (PyData.depth (ticksD ns) ≤ 64)) = true
  rw [Bool.and_eq_true, decide_eq_true_eq]
  refine ⟨?_, ?_⟩
  · simp only [ticksD, PyData.canLay0, lay_ints]
  · simp only [ticksD, PyData.depth, deep_ints]
    omega
theorem eqv_ticks (ns : List Int) : PyData.eqv (ticksD ns) (ticksD ns) = true := by
  simp only [ticksD, PyData.eqv, eqv_ints]
  simp
def spBoth (K : PySem.W.Frag) : Sp := fun vs H Q _ => ∃ (wide : Int) (v : V) (rows : List Row), vs = [.int wide, v] ∧ Dp K H v (rowsD rows) ∧ Rows wide rows ∧ 0 ≤ wide ∧ wide ≤ 300 ∧ numB wide = true ∧ ∀ H', Same H H' → Q (.bl true) H'
structure TxtB4 (K : PySem.W.Frag) (mg : Str → Option Value) (fP : Addr) : Prop where
  b : TxtB K mg
  g_ptext : mg "_law_plan_text" = some (.ref fP)
  k_ptext : PySem.W.keepIn K (.ref fP) = true
  n_repr : mg "repr" = none
section
variable {P : Program} {w : World} {K : PySem.W.Frag} {mg : Str → Option Value} {base : Heap} {C : Addr}
abbrev s_both : Stmt := top 29
abbrev n_both : List Str := ["_law_wide", "_law_drawn_here", "_law_due", "_law_mine", "_law_mate", "_law_letter", "_law_row"]
theorem sc_both : FnScope n_both ["_law_wide", "_law_drawn_here"] (defScope s_both) := ⟨rfl, rfl, rfl, by decide +kernel, rfl, by decide +kernel, by decide +kernel⟩
theorem ok_both {f fP : Addr} {fd dP : FuncData} (F : Fun K "_law_both_ways" "_law_both_ways" s_both f fd) (G : PlanG P w K mg base C) (R : ReadG P w K mg base C) (T : TxtB4 K mg fP)
    (GP : FnOk P w K mg base CX0 2 fP dP ["_law_wide", "_law_drawn_here"] (spPlanText K)) (bP : L2.Binds K dP ["_law_wide", "_law_drawn_here"] []) : FnG P w K mg base CX0 8 f fd ["_law_wide", "_law_drawn_here"] (spBoth K) := by
  refine okG F sc_both (fun vs H Q E h => ?_) (fun cdv A outer s H vs Q E hr hg h => ?_)
  · obtain ⟨wide, v, rows, rfl, _⟩ := h
    rfl
  · obtain ⟨wide, v, rows, rfl, dv, hR, m0, m1, nb, k⟩ := h
    have hr1 : Room 1 _ := hr.mono (by decide)
    have hr2 : Room 2 _ := hr.mono (by decide)
    have hr4 : Room 4 _ := hr.mono (by decide)
    have hr5 : Room 5 _ := hr.mono (by decide)
    have hr6 : Room 6 _ := hr.mono (by decide)
    have m2 : wide ≤ 10000 := by omega
    have hu : (A.deeper (envOfC "_law_both_ways" (defScope s_both) s.heap.objs.size f cdv)).units + 100 < cLine := by
      have := hr.un
      omega
    have hu64 : (A.deeper (envOfC "_law_both_ways" (defScope s_both) s.heap.objs.size f cdv)).units + 64 < cLine := by omega
    refine ⟨_, (pss_cons (ps_asg (pe_tupN (pa_cons (pe_call GP hr2 rfl T.g_ptext T.k_ptext bP .nil pass0 (pa_cons (pv 0) (pa_cons (pv 1) pa_nil))) (pa_cons (pe_make G.M G.GI hr5 rfl G.gC G.b3 .nil pass0 (pa_cons (pv 0) (pa_cons (pv 1) pa_nil))) pa_nil))) (pg_tup rfl (pgs_cons (pg_name (i := 2) sc_both.nd rfl (Or.inl rfl)) (pgs_cons (pg_name (i := 3) sc_both.nd rfl (Or.inr rfl)) pgs_nil))))
    (pss_cons (ps_set (i := 4) sc_both.nd rfl (Or.inr rfl) (pe_smeth (pe_glob (v := .ref C) rfl G.gC rfl) R.r R.c R.G hr6 R.b .nil pass0 (pa_cons (pv 2) pa_nil)))
    (pss_cons (ps_if (PW.pt (pw_or (pt_cmpR op_ne (pe_prop (pv 3) G.T.c.cls G.hT G.GT hr4 G.bT .nil pass0 rfl) (pv 2) (nomark _)) (pw_or (pt_cmpR op_ne (pe_prop (pv 4) G.T.c.cls G.hT G.GT hr4 G.bT .nil pass0 rfl) (pv 2) (nomark _)) (pw_or1 (pt_cmpR op_ne (pe_callTy (call_strI G.sStr G.nStr G.GStr hr G.bStr pass0) (by rfl) T.b.n_str (by decide +kernel) (pa_cons (pv 4) pa_nil)) (pv 2) (nomark _)))))) (pss_one (ps_ret pe_bl)) pss_nil)
    (pss_cons (ps_if (PW.pt (pw_or (pt_cmpR op_ne (pe_callB (call_reprL hu hg) (by rfl) T.n_repr (by decide +kernel) (pa_cons (pe_lstN (pa_cons (pe_prop (pv 4) G.T.c.cls G.hS G.GS hr2 G.bS .nil pass0 rfl) (pa_cons (pe_prop (pv 4) G.T.c.cls G.hR G.GR hr2 G.bR .nil pass0 rfl) pa_nil))) pa_nil)) (pe_callB (call_reprL hu hg) (by rfl) T.n_repr (by decide +kernel) (pa_cons (pe_lstN (pa_cons (pv 0) (pa_cons (pv 1) pa_nil))) pa_nil)) (nomark _)) (pw_or1 (pt_cmpR (op_neIK (K := K) rfl G.hE G.GE hr2 G.bE pass0) (pv 4) (pv 3) (nomark _))))) (pss_one (ps_ret pe_bl)) pss_nil)
    (pss_cons (ps_if (PW.pt (pw_or (pt_not (pt_val (pe_callB call_isi (by rfl) T.b.n_isinstance (by decide +kernel) (pa_cons (pv 4) (pa_cons (pe_glob (v := .ref C) rfl G.gC rfl) pa_nil))))) (pw_or (pt_cmpR (op_neIK (K := K) rfl G.hE G.GE hr2 G.bE pass0) (pe_smethK0 (pe_glob (v := .ref C) rfl G.gC rfl) R.r R.c R.G hr6 R.k pass0 (pk_cons (pe_prop (pv 3) G.T.c.cls G.hT G.GT hr4 G.bT .nil pass0 rfl) pk_nil)) (pv 3) (nomark _)) (pw_or1 (pt_cmpR (op_neIK (K := K) rfl G.hE G.GE hr2 G.bE pass0) (pe_smeth (pe_glob (v := .ref C) rfl G.gC rfl) R.r R.c R.G hr6 R.b .nil pass0 (pa_cons (pe_callTy (call_strI G.sStr G.nStr G.GStr hr G.bStr pass0) (by rfl) T.b.n_str (by decide +kernel) (pa_cons (pv 4) pa_nil)) pa_nil)) (pv 4) (nomark _)))))) (pss_one (ps_ret pe_bl)) pss_nil)
    (pss_one (ps_ret (pe_callB (cr_all rfl) (by rfl) T.b.n_all (by decide +kernel) (pa_cons (pe_lc (own := [("_law_letter", 5), ("_law_row", 6)]) (g := gTup K 2 (gCons (gName 5) (gCons (gName 6) gNil))) (tt := tYes) rfl sc_both.nd (pi_tup (pv 1)) (blkOk_by (N := n_both) (sc := defScope s_both) (by decide +kernel)) (fun _ _ _ _ _ => (pg_tup rfl (pgs_cons (pg_name (i := 5) sc_both.nd rfl (Or.inl rfl)) (pgs_cons (pg_name (i := 6) sc_both.nd rfl (Or.inl rfl)) pgs_nil)))) (fun _ _ _ _ _ => pts_nil) (fun _ _ _ _ _ => (pe_and (pe_cmpR (op_eqDK (K := K) rfl hu64) (pe_meth (pv 4) G.T.c.cls G.hK G.GK hr1 G.bK .nil pass0 (pa_cons (pv 5) pa_nil)) (pv 6) (nomark _)) (pe_one (pe_cmpR op_eq (pe_meth (pv 4) G.T.c.cls G.hM G.GM hr2 G.bM .nil pass0 (pa_cons (pv 5) pa_nil)) (pe_meth (pv 3) G.T.c.cls G.hM G.GM hr2 G.bM .nil pass0 (pa_cons (pv 5) pa_nil)) (nomark _)))))) pa_nil))))))))), ?_⟩
    refine ⟨_, rfl, _, rfl, v, wide, rows, rfl, dv, hR, m0, m2, fun H1 s1 => ?_⟩
    refine ⟨_, rfl, _, rfl, plan_made (Dp.same s1 dv) hR m0 m2 fun q1 H2 s2 P1 => ?_⟩
    refine ⟨fits rfl, fun t H3 n3 s3 e3 => ?_⟩
    refine ⟨t, _, rfl, SqT.of e3, rfl, .str (planS wide rows), [.ref q1], rfl, .ref q1, [], rfl, rfl, ?_⟩
    have P1c := P1.same s3
    have s13 := s1.trans (s2.trans s3)
    refine ⟨rfl, _, rfl, wide, rows, rfl, hR, m0, m2, nb, fun q2 H4 s4 P2 => ?_⟩
    have P14 := P1c.same s4
    obtain ⟨dx1, v1, ee1', _⟩ := id P14
    obtain ⟨dx2, v2, ee2, _⟩ := id P2
    refine ⟨_, rfl, q1, dx1, _, rfl, ee1', q1, wide, rows, rfl, P14, hR, m0, m2, fun H5 s5 => ?_⟩
    refine ⟨_, rfl, rfl, _, rfl, iteNS rfl ?_⟩
    have P25 := P2.same s5
    refine ⟨_, rfl, q2, dx2, _, rfl, s5 _ _ ee2, q2, wide, rows, rfl, P25, hR, m0, m2, fun H6 s6 => ?_⟩
    refine ⟨_, rfl, rfl, _, rfl, iteNS rfl ?_⟩
    have P26 := P25.same s6
    refine ⟨_, rfl, q2, dx2, _, rfl, (s5.trans s6) _ _ ee2, q2, wide, rows, rfl, P26, hR, m0, m2, fun H7 s7 => ⟨_, rfl, ?_⟩⟩
    refine ⟨_, rfl, rfl, _, rfl, iteNS rfl ?_⟩
    have s47 := (s5.trans s6).trans s7
    have P27 := P2.same s47
    have e7 := s47 _ _ ee2
    obtain ⟨f1, f2, f3⟩ := two_fit hR m0 m1
    refine ⟨_, rfl, q2, dx2, _, rfl, e7, q2, wide, rows, rfl, P27, ?_⟩
    refine ⟨_, rfl, q2, dx2, _, rfl, e7, q2, wide, rows, rfl, P27, fun vr dr => ?_⟩
    refine ⟨fits rfl, fun L8 H8 n8 s8 e8 => ?_⟩
    refine ⟨L8, _, [.int wide, rowsD rows], rfl, e8, .cons (.dp (.int wide)) (.cons (.dp (Dp.same s8 dr)) .nil), by simp, f1, f2, f3, ?_⟩
    refine ⟨_, rfl, _, rfl, fits rfl, fun L9 H9 n9 s9 e9 => ?_⟩
    have s49 := (s47.trans s8).trans s9
    have s19 := (s13.trans s4).trans s49
    refine ⟨L9, _, [.int wide, rowsD rows], rfl, e9, .cons (.dp (.int wide)) (.cons (.dp (Dp.same s19 dv)) .nil), by simp, f1, f2, f3, ?_⟩
    refine ⟨rfl, _, rfl, iteNS rfl ?_⟩
    have P29 := P2.same s49
    have P19 := P14.same s49
    have b1 : ∀ {Hx : Hp}, PlanAt K C Hx q1 wide rows → Beside K C Hx wide rows (.ref q1) true := fun h => .inl ⟨q1, wide, rows, rfl, h, hR, by simp⟩
    have b2 : ∀ {Hx : Hp}, PlanAt K C Hx q2 wide rows → Beside K C Hx wide rows (.ref q2) true := fun h => .inl ⟨q2, wide, rows, rfl, h, hR, by simp⟩
    refine ⟨_, rfl, _, rfl, q2, dx2, _, _, rfl, s49 _ _ ee2, G.T.ty P19, notFirst_self, q2, wide, rows, _, true, rfl, P29, hR, b1 P19, true, rfl, _, rfl, ?_⟩
    refine ⟨_, rfl, .ref q2, .ref C, .ref C, .ref C, true, rfl, .own C, G.T.ty P29, G.T.kc, _, rfl, ?_⟩
    refine ⟨rfl, _, rfl, q1, dx1, _, rfl, s49 _ _ ee1', q1, wide, rows, rfl, P19, hR, m0, m2, fun Ha sa => ⟨rfl, wide, rows, rfl, hR, m0, m2, nb, fun q3 Hb sb P3 => ?_⟩⟩
    have s9b := sa.trans sb
    obtain ⟨dx3, v3, ee3, _⟩ := id P3
    have P1b := P19.same s9b
    have P2b := P29.same s9b
    refine ⟨_, rfl, q3, dx3, _, _, rfl, ee3, G.T.ty P1b, notFirst_self, q3, wide, rows, _, true, rfl, P3, hR, b1 P1b, true, rfl, _, rfl, ?_⟩
    refine ⟨rfl, _, rfl, q2, dx2, _, rfl, (s49.trans s9b) _ _ ee2, q2, wide, rows, rfl, P2b, hR, m0, m2, fun Hc sc => ⟨_, rfl, wide, rows, rfl, hR, m0, m2, nb, fun q4 Hd sd P4 => ?_⟩⟩
    have s9d := s9b.trans (sc.trans sd)
    obtain ⟨dx4, v4, ee4, _⟩ := id P4
    have P1d := P19.same s9d
    have P2d := P29.same s9d
    refine ⟨_, rfl, q4, dx4, _, _, rfl, ee4, G.T.ty P2d, notFirst_self, q4, wide, rows, _, true, rfl, P4, hR, b2 P2d, true, rfl, _, rfl, ?_⟩
    have s1d := s19.trans s9d
    have ed1 := (s49.trans s9d) _ _ ee1'
    have ed2 := (s49.trans s9d) _ _ ee2
    clear b1 b2 P3 P4 P1b P2b P1 P2 P1c P14 P25 P26 P27 P19 P29 e7 e8 e9 f1 f2 f3 dr
    generalize Hd = Hz at *
    obtain ⟨a, xs, rfl, ha, hl, hx⟩ := Dp.rowsI dv
    refine ⟨_, rfl, a, rfl, ⟨_, Same.tup s1d ha⟩, fun D hD => lc_tup (xs := xs) (fun i H' => Same Hz H' ∧ H' D = some (.lst ((List.replicate i true).map V.bl))) ⟨Same.new (Same.refl Hz) hD, upd_same⟩ (fun i H' _ hh => Same.tup (s1d.trans hh.1) ha) (fun i x H' hxi hh => ?_) (fun H' hh => ?_)⟩
    · obtain ⟨sz, dz⟩ := hh
      obtain ⟨r, hri, dr⟩ := hx i x hxi
      have hrm := List.mem_of_getElem? hri
      have hf := hR.find hri
      have hz := (hR.ticks r hrm).fit
      have p1 := P1d.same sz
      have p2 := P2d.same sz
      have g1 := sz _ _ ed1
      have g2 := sz _ _ ed2
      obtain ⟨q, y, rfl, hq, dy⟩ := Dp.rowI (Dp.same (s1d.trans sz) dr)
      refine ⟨q, _, rfl, hq, rfl, .str r.1, [y], rfl, y, [], rfl, rfl, rfl, ?_⟩
      refine ⟨_, rfl, q2, dx2, _, rfl, g2, rfl, _, rfl, q2, wide, rows, r.1, r, rfl, p2, hf, fun t1 d1 => ?_⟩
      refine ⟨_, rfl, _, _, d1, dy, shaped_ticks r.2, shaped_ticks r.2, ?_⟩
      rw [eqv_ticks]
      refine ⟨_, rfl, ?_⟩
      refine ⟨_, rfl, q2, dx2, _, rfl, g2, rfl, _, rfl, q2, wide, rows, r.1, r, rfl, p2, hf, m0, m2, hz, fun Ha sa => ?_⟩
      refine ⟨_, rfl, q1, dx1, _, rfl, sa _ _ g1, rfl, _, rfl, q1, wide, rows, r.1, r, rfl, p1.same sa, hf, m0, m2, hz, fun Hb sb => ?_⟩
      have sab := sa.trans sb
      refine ⟨rfl, _, sab _ _ dz, ?_, Same.put (sz.trans sab) hD, ?_⟩
      · have fit := hR.fit
        have il : i < xs.length := (List.getElem?_eq_some_iff.mp hxi).1
        rw [List.length_map, List.length_replicate]
        rw [hl] at il
        exact Nat.lt_of_lt_of_le il (Nat.le_trans fit (show 100 ≤ sizeLine by decide))
      · rw [upd_same, List.replicate_succ', List.map_append, List.map_singleton]
        first | rfl | simp
    · obtain ⟨sz, dz⟩ := hh
      refine ⟨D, List.replicate xs.length true, rfl, SqL.of dz, ?_⟩
      have e : (List.replicate xs.length true).all id = true := by simp
      show Q (V.bl ((List.replicate xs.length true).all id)) H'
      rw [e]
      exact k H' (s1d.trans sz)
end
set_option Elab.async false
set_option linter.all false
set_option maxRecDepth 100000
set_option maxHeartbeats 4000000
open PySem PySem.Spec PyProof.Rows L2 RZ
theorem dall_drop1 {K : PySem.W.Frag} {H : Hp} : ∀ {vs : List V} {ds : List PyData}, DpAll K H vs ds → DpAll K H (vs.drop 1) (ds.drop 1)
  | _, _, .nil => .nil
  | _, _, .cons _ h => h
theorem rows_drop1 {size : Int} {rows : List Row} (h : Rows size rows) : Rows size (rows.drop 1) := by
  have sub : (rows.drop 1).Sublist rows := List.drop_sublist ..
  exact Rows.of (fun r hr => h.nm r (sub.subset hr)) (fun r hr => h.ticks r (sub.subset hr)) (h.pair.sublist (sub.map _)) (Nat.le_trans sub.length_le h.fit)
theorem dp_drop1 {K : PySem.W.Frag} {H : Hp} {v : V} {rows : List Row} (h : Dp K H v (rowsD rows)) : ∃ a xs, v = .ref a ∧ SqT K H a xs ∧ ∀ b H', Same H H' → SqT K H' b (xs.drop 1) → Dp K H' (.ref b) (rowsD (rows.drop 1)) := by
  unfold rowsD at h
  cases h with
  | tup hs ha =>
    refine ⟨_, _, rfl, hs, fun b H' s hb => ?_⟩
    unfold rowsD
    rw [List.map_drop]
    exact .tup hb (dall_drop1 (DpAll.same s ha))
/-- _law_right(purse), _law_great(purse) -/
def spRight : Sp := fun vs H Q _ => ∃ (p : Addr), vs = [.ref p] ∧ Purse H p ∧ ∀ H', But p H H' → Q (.bl true) H'
structure TxtR (K : PySem.W.Frag) (mg : Str → Option Value) (fR fP fD fB : Addr) : Prop where
  g_roll : mg "_law_roll" = some (.ref fR)
  k_roll : PySem.W.keepIn K (.ref fR) = true
  g_ptext : mg "_law_plan_text" = some (.ref fP)
  k_ptext : PySem.W.keepIn K (.ref fP) = true
  g_drawn : mg "_law_drawn" = some (.ref fD)
  k_drawn : PySem.W.keepIn K (.ref fD) = true
  g_both : mg "_law_both_ways" = some (.ref fB)
  k_both : PySem.W.keepIn K (.ref fB) = true
def RG (r : Int) : List Row := [("C", []), ("Q", [0, 1 + r, 9999])]
theorem rowsG {r : Int} (h0 : 0 ≤ r) (h1 : r < 9998) : Rows 10000 (RG r) := by
  refine ⟨fun q hq => ?_, fun q hq => ?_, by show (upV [V.str "C", V.str "Q"]).all id = true; decide +kernel, by show 2 ≤ 100; decide⟩
  · simp only [RG, List.mem_cons, List.not_mem_nil, or_false] at hq
    rcases hq with rfl | rfl
    · show isNm "C" = true
      decide +kernel
    · show isNm "Q" = true
      decide +kernel
  simp only [RG, List.mem_cons, List.not_mem_nil, or_false] at hq
  rcases hq with rfl | rfl
  · exact ⟨by decide, by decide, by decide⟩
  · refine ⟨?_, ?_, by show 3 ≤ 10000; decide⟩
    · intro n hn
      simp only [List.mem_cons, List.not_mem_nil, or_false] at hn
      unfold okTick
      rcases hn with rfl | rfl | rfl <;> simp <;> omega
    · show (decide ((0 : Int) < 1 + r) && (decide ((1 + r : Int) < 9999) && true)) = true
      rw [decide_eq_true (show (0 : Int) < 1 + r by omega), decide_eq_true (show (1 + r : Int) < 9999 by omega)]
      rfl
section
variable {P : Program} {w : World} {K : PySem.W.Frag} {mg : Str → Option Value} {base : Heap} {C : Addr}
abbrev s_right : Stmt := top 30
abbrev n_right : List Str := ["_law_purse_here", "_law_wide", "_law_drawn_here"]
theorem sc_right : FnScope n_right ["_law_purse_here"] (defScope s_right) := ⟨rfl, rfl, rfl, by decide +kernel, rfl, by decide +kernel, by decide +kernel⟩
theorem ok_right {f fR fP fD fB : Addr} {fd dD dB : FuncData} (F : Fun K "_law_right" "_law_right" s_right f fd) (T : TxtR K mg fR fP fD fB) (GD : FnOk P w K mg base CX0 4 fD dD ["_law_purse_here"] (spDrawn K)) (bD : L2.Binds K dD ["_law_purse_here"] [])
    (GB : FnG P w K mg base CX0 8 fB dB ["_law_wide", "_law_drawn_here"] (spBoth K)) (bB : L2.Binds K dB ["_law_wide", "_law_drawn_here"] []) :
    FnG P w K mg base CX0 9 f fd ["_law_purse_here"] spRight := by
  refine okG F sc_right (fun vs H Q E h => ?_) (fun cdv A outer s H vs Q E hr hg h => ?_)
  · obtain ⟨p, rfl, _⟩ := h
    rfl
  · obtain ⟨p, rfl, hp, k⟩ := h
    have hr4 : Room 4 _ := hr.mono (by decide)
    refine ⟨_, (pss_cons (ps_asg (pe_call GD hr4 rfl T.g_drawn T.k_drawn bD .nil pass0 (pa_cons (pv 0) pa_nil)) (pg_tup rfl (pgs_cons (pg_name (i := 1) sc_right.nd rfl (Or.inl rfl)) (pgs_cons (pg_name (i := 2) sc_right.nd rfl (Or.inl rfl)) pgs_nil))))
    (pss_one (ps_ret (pe_and (pe_callG GB hg hr rfl T.g_both T.k_both bB .nil pass0 (pa_cons (pv 1) (pa_cons (pv 2) pa_nil))) (pe_one (pe_callG GB hg hr rfl T.g_both T.k_both bB .nil pass0 (pa_cons (pv 1) (pa_cons (pe_slice sl_cut (pv 2) (po_some pe_int) po_none) pa_nil)))))))), ?_⟩
    refine ⟨_, rfl, p, rfl, hp, fun t wide v rows H1 b1 p1 e1 dv hR mem m0 m1 => ?_⟩
    have nb := numB_szs _ mem
    refine ⟨t, _, rfl, SqT.of e1, rfl, .int wide, [v], rfl, v, [], rfl, rfl, ?_⟩
    refine ⟨_, rfl, _, rfl, wide, v, rows, rfl, dv, hR, m0, m1, nb, fun H2 s2 => ?_⟩
    obtain ⟨a, xs, rfl, ha, hd⟩ := dp_drop1 (Dp.same s2 dv)
    refine ⟨_, rfl, _, rfl, _, rfl, 1, rfl, a, xs, rfl, .inr ⟨ha, fun b H3 s3 hb => ?_⟩⟩
    rw [cut_one] at hb
    refine ⟨wide, .ref b, rows.drop 1, rfl, hd b H3 s3 hb, rows_drop1 hR, m0, m1, nb, fun H4 s4 => ?_⟩
    exact k H4 (b1.trans (But.same (s2.trans (s3.trans s4))))
theorem numB_great : numB 10000 = true := by decide +kernel
abbrev s_great : Stmt := top 31
abbrev n_great : List Str := ["_law_purse_here", "_law_drawn_here", "_law_due"]
theorem sc_great : FnScope n_great ["_law_purse_here"] (defScope s_great) := ⟨rfl, rfl, rfl, by decide +kernel, rfl, by decide +kernel, by decide +kernel⟩
theorem ok_great {f fR fP fD fB : Addr} {fd dR dP : FuncData} (F : Fun K "_law_great" "_law_great" s_great f fd) (G : PlanG P w K mg base C) (R : ReadG P w K mg base C) (T : TxtR K mg fR fP fD fB) (GR : FnOk P w K mg base CX0 1 fR dR ["_law_purse_here", "_law_many"] spRoll) (bR : L2.Binds K dR ["_law_purse_here", "_law_many"] [])
    (GP : FnOk P w K mg base CX0 2 fP dP ["_law_wide", "_law_drawn_here"] (spPlanText K)) (bP : L2.Binds K dP ["_law_wide", "_law_drawn_here"] []) :
    FnOk P w K mg base CX0 7 f fd ["_law_purse_here"] spRight := by
  refine F.ok sc_great (fun vs H Q E h => ?_) (fun cdv A outer s H vs Q E hr h => ?_)
  · obtain ⟨p, rfl, _⟩ := h
    rfl
  · obtain ⟨p, rfl, hp, k⟩ := h
    have hr1 : Room 1 _ := hr.mono (by decide)
    have hr2 : Room 2 _ := hr.mono (by decide)
    have hr4 : Room 4 _ := hr.mono (by decide)
    have hr5 : Room 5 _ := hr.mono (by decide)
    have hu : (A.deeper (envOfC "_law_great" (defScope s_great) s.heap.objs.size f cdv)).units + 64 < cLine := by
      have := hr.un
      omega
    refine ⟨_, (pss_cons (ps_set (i := 1) sc_great.nd rfl (Or.inl rfl) (pe_tupN (pa_cons (pe_tupN (pa_cons pe_str (pa_cons (pe_tupN pa_nil) pa_nil))) (pa_cons (pe_tupN (pa_cons pe_str (pa_cons (pe_tupN (pa_cons pe_int (pa_cons (pe_op op_add pe_int (pe_call GR hr1 rfl T.g_roll T.k_roll bR .nil pass0 (pa_cons (pv 0) (pa_cons pe_int pa_nil)))) (pa_cons pe_int pa_nil)))) pa_nil))) pa_nil))))
    (pss_cons (ps_set (i := 2) sc_great.nd rfl (Or.inl rfl) (pe_call GP hr2 rfl T.g_ptext T.k_ptext bP .nil pass0 (pa_cons pe_int (pa_cons (pv 1) pa_nil))))
    (pss_one (ps_ret (pe_and (pe_cmpR op_eq (pe_prop (pe_make G.M G.GI hr5 rfl G.gC G.b3 .nil pass0 (pa_cons pe_int (pa_cons (pv 1) pa_nil))) G.T.c.cls G.hT G.GT hr4 G.bT .nil pass0 rfl) (pv 2) (nomark _)) (pe_one (pe_cmpR (op_eqD hu) (pe_prop (pe_smeth (pe_glob (v := .ref C) rfl G.gC rfl) R.r R.c R.G hr R.b .nil pass0 (pa_cons (pv 2) pa_nil)) G.T.c.cls G.hR G.GR hr2 G.bR .nil pass0 rfl) (pv 1) (nomark _)))))))), ?_⟩
    refine ⟨fits rfl, fun u1 H1 n1 s1 e1 => ⟨fits rfl, fun u2 H2 n2 s2 e2 => ?_⟩⟩
    refine ⟨_, rfl, p, 9998, rfl, (hp.same s1).same s2, by decide, by decide, fun r H3 r0 r1 b3 p3 => ?_⟩
    have rG := rowsG r0 r1
    have e13 := b3 _ _ (hp.off n1) (s2 _ _ e1)
    have e23 := b3 _ _ ((hp.same s1).off n2) e2
    refine ⟨_, _, rfl, rfl, ?_⟩
    refine ⟨fits rfl, fun u3 H4 n4 s4 e4 => ⟨fits rfl, fun u4 H5 n5 s5 e5 => ⟨fits rfl, fun u5 H6 n6 s6 e6 => ?_⟩⟩⟩
    have s46 := s4.trans (s5.trans s6)
    have d0 : Dp K H6 (.ref u5) (rowsD (RG r)) := by
      refine .tup (SqT.of e6) (.cons (.tup (SqT.of (s46 _ _ e23)) (.cons (.str _) (.cons (.tup (SqT.of (s46 _ _ e13)) .nil) .nil))) (.cons (.tup (SqT.of (s6 _ _ e5)) (.cons (.str _) (.cons (.tup (SqT.of ((s5.trans s6) _ _ e4)) (.cons (.int 0) (.cons (.int (1 + r)) (.cons (.int 9999) .nil)))) .nil))) .nil))
    refine ⟨_, rfl, .ref u5, 10000, RG r, rfl, d0, rG, by decide, by decide, fun H7 s7 => ?_⟩
    refine ⟨_, rfl, plan_made (Dp.same s7 d0) rG (by decide) (by decide) fun q1 H8 s8 P1 => ?_⟩
    obtain ⟨dx1, v1, ee1, _⟩ := id P1
    refine ⟨q1, dx1, _, rfl, ee1, q1, 10000, RG r, rfl, P1, rG, by decide, by decide, fun H9 s9 => ?_⟩
    refine ⟨_, rfl, rfl, _, rfl, ?_⟩
    rw [if_pos (by simp)]
    refine ⟨rfl, _, rfl, 10000, RG r, rfl, rG, by decide, by decide, numB_great, fun q2 Ha sa P2 => ?_⟩
    obtain ⟨dx2, v2, ee2, _⟩ := id P2
    refine ⟨q2, dx2, _, rfl, ee2, q2, 10000, RG r, rfl, P2, fun vr dr => ?_⟩
    have s6a := s7.trans (s8.trans (s9.trans sa))
    refine ⟨_, rfl, _, _, dr, Dp.same s6a d0, shaped_rows rG, shaped_rows rG, ?_⟩
    rw [eqv_rows, decide_eq_true rfl]
    exact k Ha ((But.same (s1.trans s2)).trans (b3.trans (But.same (s46.trans s6a))))
end
set_option Elab.async false
set_option linter.all false
set_option maxRecDepth 100000
set_option maxHeartbeats 4000000
open PySem PySem.Spec PyProof.Rows L2 RZ
def spLaw (K : PySem.W.Frag) : Sp := fun vs H Q _ => ∃ (a : Addr) (ns : List Int), vs = [.ref a] ∧ SqL K H a (ns.map V.int) ∧ ns.length ≤ 63 ∧ ∀ H', Q (.bl true) H'
structure TxtW (K : PySem.W.Frag) (mg : Str → Option Value) (fC fP fR fG : Addr) : Prop where
  g_cell : mg "_law_cell" = some (.ref fC)
  k_cell : PySem.W.keepIn K (.ref fC) = true
  g_purse : mg "_law_purse" = some (.ref fP)
  k_purse : PySem.W.keepIn K (.ref fP) = true
  g_right : mg "_law_right" = some (.ref fR)
  k_right : PySem.W.keepIn K (.ref fR) = true
  g_great : mg "_law_great" = some (.ref fG)
  k_great : PySem.W.keepIn K (.ref fG) = true
  n_range : mg "range" = none
  n_max : mg "max" = none
  n_min : mg "min" = none
  n_len : mg "len" = none
  n_all : mg "all" = none
theorem many_cells (n : Nat) : ∃ m : Nat, (if (if (6 : Int) < (n : Int) then (6 : Int) else (n : Int)) > 2 then (if (6 : Int) < (n : Int) then (6 : Int) else (n : Int)) else 2) = (m : Int) ∧ m ≤ 6 := by
  by_cases c : (6 : Int) < (n : Int)
  · refine ⟨6, ?_, by decide⟩
    rw [if_pos c]
    rfl
  · rw [if_neg c]
    by_cases d : (n : Int) > 2
    · exact ⟨n, by rw [if_pos d], by omega⟩
    · refine ⟨2, ?_, by decide⟩
      rw [if_neg d]
      rfl
def R3s : List Row := [("A", [0, 2]), ("C", [])]
theorem rows3 : Rows 3 R3s := by
  refine ⟨by decide +kernel, fun r hr => ?_, by decide +kernel, by decide⟩
  simp only [R3s, List.mem_cons, List.not_mem_nil, or_false] at hr
  rcases hr with rfl | rfl
  · exact ⟨by decide, by decide, by decide⟩
  · exact ⟨by decide, by decide, by decide⟩
theorem t3 : ("3\nA #.#\nC ..." : Str) = planS 3 R3s := by decide +kernel
theorem t0 : ("0" : Str) = planS 0 [] := by decide +kernel
theorem nb3 : numB 3 = true := by decide +kernel
theorem nb0 : numB 0 = true := by decide +kernel
section
variable {P : Program} {w : World} {K : PySem.W.Frag} {mg : Str → Option Value} {base : Heap} {C : Addr}
abbrev s_law : Stmt := top 32
abbrev n_law : List Str := ["_law_script", "_law_cells", "_law_at", "_law_cell_here"]
theorem sc_law : FnScope n_law ["_law_script"] (defScope s_law) := ⟨rfl, rfl, rfl, by decide +kernel, rfl, by decide +kernel, by decide +kernel⟩
theorem ok_law {f fC fP fR fG : Addr} {fd fdC fdP fdR fdG : FuncData} (F : Fun K "law" "law" s_law f fd) (G : PlanG P w K mg base C) (R : ReadG P w K mg base C) (T : TxtW K mg fC fP fR fG) (GC : FnOk P w K mg base CX0 1 fC fdC ["_law_script", "_law_at"] (spCell K)) (bC : L2.Binds K fdC ["_law_script", "_law_at"] [])
    (GP : FnOk P w K mg base CX0 1 fP fdP ["_law_cell_here"] spPurse) (bP : L2.Binds K fdP ["_law_cell_here"] []) (GR : FnG P w K mg base CX0 9 fR fdR ["_law_purse_here"] spRight) (bR : L2.Binds K fdR ["_law_purse_here"] [])
    (GGt : FnOk P w K mg base CX0 7 fG fdG ["_law_purse_here"] spRight) (bG : L2.Binds K fdG ["_law_purse_here"] []) : FnG P w K mg base CX0 10 f fd ["_law_script"] (spLaw K) := by
  refine okG F sc_law (fun vs H Q E h => ?_) (fun cdv A outer s H vs Q E hr hg h => ?_)
  · obtain ⟨a, ns, rfl, _⟩ := h
    rfl
  · obtain ⟨a, ns, rfl, hS, hlen, k⟩ := h
    have hr1 : Room 1 _ := hr.mono (by decide)
    have hr2 : Room 2 _ := hr.mono (by decide)
    have hr4 : Room 4 _ := hr.mono (by decide)
    have hr5 : Room 5 _ := hr.mono (by decide)
    have hr6 : Room 6 _ := hr.mono (by decide)
    have hr7 : Room 7 _ := hr.mono (by decide)
    have hu : (A.deeper (envOfC "law" (defScope s_law) s.heap.objs.size f cdv)).units + 64 < cLine := by
      have := hr.un
      omega
    refine ⟨_, (pss_cons (ps_if (PW.pt (pw_or (pt_cmpR (op_neIK (K := K) rfl G.hE G.GE hr2 G.bE pass0) (pe_smeth (pe_glob (v := .ref C) rfl G.gC rfl) R.r R.c R.G hr6 R.b .nil pass0 (pa_cons pe_str pa_nil)) (pe_make G.M G.GI hr5 rfl G.gC G.b3 .nil pass0 (pa_cons pe_int (pa_cons (pe_tupN (pa_cons (pe_tupN (pa_cons pe_str (pa_cons (pe_tupN (pa_cons pe_int (pa_cons pe_int pa_nil))) pa_nil))) (pa_cons (pe_tupN (pa_cons pe_str (pa_cons (pe_tupN pa_nil) pa_nil))) pa_nil))) pa_nil))) (nomark _)) (pw_or1 (pt_cmpR (op_neD hu) (pe_prop (pe_smeth (pe_glob (v := .ref C) rfl G.gC rfl) R.r R.c R.G hr6 R.b .nil pass0 (pa_cons pe_str pa_nil)) G.T.c.cls G.hR G.GR hr2 G.bR .nil pass0 rfl) (pe_tupN pa_nil) (nomark _))))) (pss_one (ps_ret pe_bl)) pss_nil)
    (pss_cons (ps_if (pt_not (pt_val (pe_call GGt hr7 rfl T.g_great T.k_great bG .nil pass0 (pa_cons (pe_call GP hr1 rfl T.g_purse T.k_purse bP .nil pass0 (pa_cons (pe_call GC hr1 rfl T.g_cell T.k_cell bC .nil pass0 (pa_cons (pv 0) (pa_cons pe_int pa_nil))) pa_nil)) pa_nil)))) (pss_one (ps_ret pe_bl)) pss_nil)
    (pss_cons (ps_setLc (i := 1) (own := [("_law_at", 2)]) (g := gName 2) (tt := tYes) rfl sc_law.nd rfl rfl (sw_true rfl rfl rfl (by decide +kernel)) (pi_range1 rfl T.n_range (pa_cons (pe_callB (call_max2 rfl) (by rfl) T.n_max (by decide +kernel) (pa_cons pe_int (pa_cons (pe_callB (call_min2 rfl) (by rfl) T.n_min (by decide +kernel) (pa_cons (pe_callB call_len_seq (by rfl) T.n_len PySem.boot_len (pa_cons (pv 0) pa_nil)) (pa_cons pe_int pa_nil))) pa_nil))) pa_nil)) (blkOk_by (N := n_law) (sc := defScope s_law) (by decide +kernel)) (fun _ _ _ _ _ => (pg_name (i := 2) sc_law.nd rfl (Or.inl rfl))) (fun _ _ _ _ _ => pts_nil) (fun _ _ _ _ _ => (pe_call GC hr1 rfl T.g_cell T.k_cell bC .nil pass0 (pa_cons (pv 0) (pa_cons (pv 2) pa_nil)))))
    (pss_one (ps_ret (pe_callB (cr_all rfl) (by rfl) T.n_all (by decide +kernel) (pa_cons (pe_lc (own := [("_law_cell_here", 3)]) (g := gName 3) (tt := tYes) rfl sc_law.nd (pi_list (pv 1)) (blkOk_by (N := n_law) (sc := defScope s_law) (by decide +kernel)) (fun _ _ _ _ _ => (pg_name (i := 3) sc_law.nd rfl (Or.inl rfl))) (fun _ _ _ _ _ => pts_nil) (fun _ _ _ _ _ => (pe_callG GR hg hr rfl T.g_right T.k_right bR .nil pass0 (pa_cons (pe_call GP hr1 rfl T.g_purse T.k_purse bP .nil pass0 (pa_cons (pv 3) pa_nil)) pa_nil)))) pa_nil))))))), ?_⟩
    refine ⟨rfl, 3, R3s, congrArg (fun z => [V.str z]) t3, rows3, by decide, by decide, nb3, fun q1 A0 sa0 P1 => ?_⟩
    obtain ⟨dx1, v1, ee1, _⟩ := id P1
    refine ⟨fits rfl, fun x1 A1 _ sa1 ea1 => ⟨fits rfl, fun x2 A2 _ sa2 ea2 => ⟨fits rfl, fun x3 A3 _ sa3 ea3 => ⟨fits rfl, fun x4 A4 _ sa4 ea4 => ⟨fits rfl, fun x5 A5 _ sa5 ea5 => ?_⟩⟩⟩⟩⟩
    have d0 : Dp K A5 (.ref x5) (rowsD R3s) := by
      refine .tup (SqT.of ea5) (.cons (.tup (SqT.of ((sa3.trans (sa4.trans sa5)) _ _ ea2)) (.cons (.str _) (.cons (.tup (SqT.of ((sa2.trans (sa3.trans (sa4.trans sa5))) _ _ ea1)) (.cons (.int 0) (.cons (.int 2) .nil))) .nil))) (.cons (.tup (SqT.of (sa5 _ _ ea4)) (.cons (.str _) (.cons (.tup (SqT.of ((sa4.trans sa5) _ _ ea3)) .nil) .nil))) .nil))
    refine plan_made d0 rows3 (by decide) (by decide) fun q2 B1 sb1 P2 => ?_
    have s01 : Same A0 B1 := sa1.trans (sa2.trans (sa3.trans (sa4.trans (sa5.trans sb1))))
    have P1b := P1.same s01
    refine ⟨q1, dx1, _, _, rfl, s01 _ _ ee1, G.T.ty P2, notFirst_self, q1, 3, R3s, _, true, rfl, P1b, rows3, .inl ⟨q2, 3, R3s, rfl, P2, rows3, by simp⟩, true, rfl, _, rfl, ?_⟩
    refine ⟨rfl, 0, [], congrArg (fun z => [V.str z]) t0, Rows.nil, by decide, by decide, nb0, fun q3 B2 sb2 P3 => ?_⟩
    obtain ⟨dx3, v3, ee3, _⟩ := id P3
    refine ⟨q3, dx3, _, rfl, ee3, q3, 0, [], rfl, P3, fun vr dr => ?_⟩
    refine ⟨fits rfl, fun y1 B3 _ sb3 eb3 => ?_⟩
    refine ⟨rowsD [], rowsD [], Dp.same sb3 dr, .tup (SqT.of eb3) .nil, shaped_rows (size := 0) Rows.nil, shaped_rows (size := 0) Rows.nil, _, rfl, ?_⟩
    show if (!PyData.eqv _ _) = true then _ else _
    rw [eqv_rows, decide_eq_true rfl]
    have s03 : Same H B3 := sa0.trans (s01.trans (sb2.trans sb3))
    refine ⟨_, rfl, a, ns, 0, rfl, s03.seq hS, by decide, hlen, fun z B4 sb4 => ?_⟩
    refine ⟨z, rfl, fun p B5 n5 sb5 pu => ?_⟩
    refine ⟨p, rfl, pu, fun B6 b6 => ?_⟩
    have s56 : Same B4 B6 := fun c o e => b6 c o (ne_of_none e n5) (sb5 c o e)
    refine ⟨_, rfl, ?_⟩
    have s1 : Same H B6 := s03.trans (sb4.trans s56)
    generalize B6 = H1 at s1
    refine ⟨_, rfl, a, _, rfl, .inl (s1.seq hS), ?_⟩
    refine ⟨_, _, rfl, ?_⟩
    refine ⟨_, _, rfl, ?_⟩
    obtain ⟨mm, eM, hmm⟩ : ∃ m : Nat, (if (if (6 : Int) < ((ns.map V.int).length : Int) then (6 : Int) else ((ns.map V.int).length : Int)) > 2 then (if (6 : Int) < ((ns.map V.int).length : Int) then (6 : Int) else ((ns.map V.int).length : Int)) else 2) = (m : Int) ∧ m ≤ 6 := by
      rw [List.length_map]
      exact many_cells ns.length
    refine ⟨_, rfl, ?_, ?_, ?_⟩
    · rw [eM]
      omega
    · rw [eM]
      omega
    rw [eM, Int.toNat_natCast]
    refine fun D hD => lc_range (lo := 0) (n := mm) (fun j H' => ∃ zs : List Int, zs.length = j ∧ Same H1 H' ∧ H' D = some (.lst (zs.map V.int))) ⟨[], rfl, Same.new (Same.refl H1) hD, upd_same⟩ (fun j H' hj hh => ?_) (fun H2 hh => ?_)
    · obtain ⟨zs, ez, s5, d5⟩ := hh
      refine ⟨rfl, ?_⟩
      refine ⟨_, rfl, _, rfl, a, ns, j, by rw [Int.zero_add]; rfl, (s1.trans s5).seq hS, by omega, hlen, fun z H6 s6 => ?_⟩
      refine ⟨_, s6 _ _ d5, ?_, zs ++ [z], by simp [ez], Same.put (s5.trans s6) hD, ?_⟩
      · rw [List.length_map, ez]
        exact Nat.lt_trans hj (Nat.lt_of_le_of_lt hmm (by decide))
      · rw [upd_same, List.map_append]
        rfl
    · obtain ⟨zs, ez, s2, d2⟩ := hh
      refine ⟨_, rfl, D, rfl, ⟨_, SqL.of d2⟩, fun D2 hD2 => lc_list (K := K) (a := D) (xs := zs.map V.int) (fun j H' => Same H2 H' ∧ H' D2 = some (.lst ((List.replicate j true).map V.bl))) ⟨Same.new (Same.refl H2) hD2, upd_same⟩
        (fun j H' _ hh => hh.1.seq (SqL.of d2)) (fun j x H' hx hh => ?_) (fun H3 hh => ?_)⟩
      · obtain ⟨s5, d5⟩ := hh
        obtain ⟨z, rfl⟩ : ∃ z, x = V.int z := by
          have h1 : x ∈ zs.map V.int := List.mem_of_getElem? hx
          obtain ⟨z, _, e⟩ := List.mem_map.mp h1
          exact ⟨z, e.symm⟩
        have hj : j < 9 := by
          have := (List.getElem?_eq_some_iff.mp hx).1
          rw [List.length_map] at this
          omega
        refine ⟨rfl, ?_⟩
        refine ⟨_, rfl, z, rfl, fun p H6 n6 s6 pu => ?_⟩
        refine ⟨p, rfl, pu, fun H7 b7 => ?_⟩
        have s7 : Same H' H7 := fun c o e => b7 c o (ne_of_none e n6) (s6 c o e)
        refine ⟨_, s7 _ _ d5, by rw [List.length_map, List.length_replicate]; exact Nat.lt_trans hj (by decide), Same.put (s5.trans s7) hD2, ?_⟩
        rw [upd_same, List.replicate_succ', List.map_append]
        rfl
      · obtain ⟨s3, d3⟩ := hh
        refine ⟨D2, _, rfl, SqL.of d3, ?_⟩
        have e : (List.replicate (zs.map V.int).length true).all id = true := by
          simp
        rw [e]
        exact k _
end
set_option Elab.async false
set_option linter.all false
set_option maxRecDepth 100000
set_option maxHeartbeats 4000000
open PySem PySem.Spec PyProof.Rows L2 RZ
section
variable {K : PySem.W.Frag} {uA f : Addr} {fd : FuncData}
theorem tk_rel {vs : List V} {us : List Value} (n : Nat) (r : L2.Vals vs us) : L2.Vals (vs.take n) (us.take n) := by
  induction r generalizing n with
  | nil => simp; exact .nil
  | cons a t ih =>
    cases n with
    | zero => exact .nil
    | succ n => exact .cons a (ih n)
theorem dr_rel {vs : List V} {us : List Value} (n : Nat) (r : L2.Vals vs us) : L2.Vals (vs.drop n) (us.drop n) := by
  induction r generalizing n with
  | nil => simp; exact .nil
  | cons a t ih =>
    cases n with
    | zero => exact .cons a t
    | succ n => exact ih n
theorem init_b3 (F : FunI K [V.ref uA] f fd) : L2.Binds K fd ["self", "size", "rows"] [] := by
  obtain ⟨ds, r, b⟩ := FunD.binds1 F (ps := ["self", "size", "rows"]) 3 1 (by simp) rfl fun T kV doc pm an cdv ct us its l1 l2 => match us, its, l1, l2 with
    | [_, _, _], [_], _, _ => ⟨_, rfl, rfl⟩
  have r2 : L2.Vals [] ds := r
  cases r2
  exact b
theorem init_b2 (F : FunI K [V.ref uA] f fd) : ∃ ds, L2.Vals [V.ref uA] ds ∧ L2.Binds K fd ["self", "size", "rows"] ds :=
  FunD.binds1 F (ps := ["self", "size", "rows"]) 2 0 (by simp) rfl fun T kV doc pm an cdv ct us its l1 l2 => match us, its, l1, l2 with
    | [_, _], [_], _, _ => ⟨_, rfl, rfl⟩
theorem init_kRS (F : FunI K [V.ref uA] f fd) : KBn K fd ["self", "size", "rows"] 1 ["rows", "size"] (fun us ws => us ++ (ws.drop 1 ++ ws.take 1)) (fun vs zs => vs ++ (zs.drop 1 ++ zs.take 1)) := by
  obtain ⟨_, b⟩ := FunD.kbindsD F (ps := ["self", "size", "rows"]) 1 ["rows", "size"] (fun us its ws => us ++ (ws.drop 1 ++ ws.take 1)) (by simp) (fun r1 _ r3 => r1.append ((dr_rel 1 r3).append (tk_rel 1 r3))) fun T kV doc pm an cdv ct us its ws l1 l2 l3 => match us, its, ws, l1, l2, l3 with
    | [_], [_], [_, _], _, _, _ => ⟨_, rfl, rfl⟩
  exact b
theorem init_kS (F : FunI K [V.ref uA] f fd) : ∃ its : List Value, KBn K fd ["self", "size", "rows"] 1 ["size"] (fun us ws => us ++ (ws ++ its)) (fun vs zs => vs ++ (zs ++ [V.ref uA])) :=
  FunD.kbindsD F (ps := ["self", "size", "rows"]) 1 ["size"] (fun us its ws => us ++ (ws ++ its)) (by simp) (fun r1 r2 r3 => r1.append (r3.append r2)) fun T kV doc pm an cdv ct us its ws l1 l2 l3 => match us, its, ws, l1, l2, l3 with
    | [_], [_], [_], _, _, _ => ⟨_, rfl, rfl⟩
end
set_option Elab.async false
set_option linter.all false
set_option maxRecDepth 100000
set_option maxHeartbeats 4000000
open PySem PySem.Spec PyProof.Rows L2 RZ
theorem find_cls {K : PySem.W.Frag} {C p : Addr} (h1 : PySem.W.findIn K (.type "type") "read" = some none) (h2 : PySem.W.findIn K (.ref C) "read" = some (some (.ref p))) (h3 : PySem.W.typeIn K (.ref p) = some (.type "staticmethod")) (h4 : PySem.W.specialIn K (.ref p) "__get__" = some (some (.builtin "staticmethod.__get__"))) :
    PySem.W.findCls K (.ref C) (.type "type") "read" = some (.get (.builtin "staticmethod.__get__") (.ref p) .none (.ref C)) := by
  unfold PySem.W.findCls
  rw [h1]
  show (PySem.W.findIn K (.ref C) "read").bind _ = _
  rw [h2]
  show (if Builtin.heldUnderItsOwnName "read" (.ref p) = true then none else _) = _
  rw [show Builtin.heldUnderItsOwnName "read" (Value.ref p) = false from rfl, if_neg (by decide), h3]
  show (if PySem.W.bareKinds.contains (.type "staticmethod") = true then _ else _) = _
  rw [if_neg (by decide +kernel), h4]
  rfl
theorem reads_cls {K : PySem.W.Frag} {C : Addr} (h1 : PySem.W.nsIn K cStatics "thirdparty.any" = some none) (h2 : PySem.W.typeIn K (.ref C) = some (.type "type")) (h3 : PySem.W.findIn K (.type "type") "__getattribute__" = some (some (.builtin "type.__getattribute__"))) (h4 : PySem.W.subIn K (.type "type") (.type "type") = some true) : PySem.W.readsIn K C (.type "type") = true := by
  unfold PySem.W.readsIn
  rw [h1, h2, h3, h4]
  rfl
theorem all_mk {P : Program} {w : World} {K : PySem.W.Frag} {h : Heap} {mg : Str → Option Value} {fa C fI tD uA f_int f_name f_rising f_ticks f_rows f_cell f_purse f_roll f_letters f_set f_drows f_marks f_ptext f_drawn f_both f_great f_rsize f_mticks f_right f_law f_pS f_pR f_pN f_pT f_mK f_mM f_mE f_mStr f_mRep f_sRd q_pS q_pR q_pN q_pT q_sRd : Addr} (X : K.In h) (G : h.Ns mainGlobals mg) (hfa : mg "law" = some (.ref fa))
    {od_fI an_fI : Option Addr} {sl_fI : Array (Option Value)} {oc_fI kV_fI dc_fI pm_fI cd_fI ct_fI : Value}
    {cT : Value} {ddT ddU : Option Addr} {nT nU : Nat} {slT slU : Array (Option Value)}
    {rest_pS : List Value}
    {od_f_pS an_f_pS : Option Addr} {sl_f_pS : Array (Option Value)} {oc_f_pS kV_f_pS dc_f_pS pm_f_pS cd_f_pS ct_f_pS : Value}
    {rest_pR : List Value}
    {od_f_pR an_f_pR : Option Addr} {sl_f_pR : Array (Option Value)} {oc_f_pR kV_f_pR dc_f_pR pm_f_pR cd_f_pR ct_f_pR : Value}
    {rest_pN : List Value}
    {od_f_pN an_f_pN : Option Addr} {sl_f_pN : Array (Option Value)} {oc_f_pN kV_f_pN dc_f_pN pm_f_pN cd_f_pN ct_f_pN : Value}
    {rest_pT : List Value}
    {od_f_pT an_f_pT : Option Addr} {sl_f_pT : Array (Option Value)} {oc_f_pT kV_f_pT dc_f_pT pm_f_pT cd_f_pT ct_f_pT : Value}
    {od_f_mK an_f_mK : Option Addr} {sl_f_mK : Array (Option Value)} {oc_f_mK kV_f_mK dc_f_mK pm_f_mK cd_f_mK ct_f_mK : Value}
    {od_f_mM an_f_mM : Option Addr} {sl_f_mM : Array (Option Value)} {oc_f_mM kV_f_mM dc_f_mM pm_f_mM cd_f_mM ct_f_mM : Value}
    {od_f_mE an_f_mE : Option Addr} {sl_f_mE : Array (Option Value)} {oc_f_mE kV_f_mE dc_f_mE pm_f_mE cd_f_mE ct_f_mE : Value}
    {od_f_mStr an_f_mStr : Option Addr} {sl_f_mStr : Array (Option Value)} {oc_f_mStr kV_f_mStr dc_f_mStr pm_f_mStr cd_f_mStr ct_f_mStr : Value}
    {od_f_mRep an_f_mRep : Option Addr} {sl_f_mRep : Array (Option Value)} {oc_f_mRep kV_f_mRep dc_f_mRep pm_f_mRep cd_f_mRep ct_f_mRep : Value}
    {rest_sRd : List Value}
    {od_f_sRd an_f_sRd : Option Addr} {sl_f_sRd : Array (Option Value)} {oc_f_sRd kV_f_sRd dc_f_sRd pm_f_sRd cd_f_sRd ct_f_sRd : Value}
    {od_f_int an_f_int : Option Addr} {sl_f_int : Array (Option Value)} {oc_f_int kV_f_int dc_f_int pm_f_int cd_f_int ct_f_int : Value}
    {od_f_name an_f_name : Option Addr} {sl_f_name : Array (Option Value)} {oc_f_name kV_f_name dc_f_name pm_f_name cd_f_name ct_f_name : Value}
    {od_f_rising an_f_rising : Option Addr} {sl_f_rising : Array (Option Value)} {oc_f_rising kV_f_rising dc_f_rising pm_f_rising cd_f_rising ct_f_rising : Value}
    {od_f_ticks an_f_ticks : Option Addr} {sl_f_ticks : Array (Option Value)} {oc_f_ticks kV_f_ticks dc_f_ticks pm_f_ticks cd_f_ticks ct_f_ticks : Value}
    {od_f_rows an_f_rows : Option Addr} {sl_f_rows : Array (Option Value)} {oc_f_rows kV_f_rows dc_f_rows pm_f_rows cd_f_rows ct_f_rows : Value}
    {od_f_cell an_f_cell : Option Addr} {sl_f_cell : Array (Option Value)} {oc_f_cell kV_f_cell dc_f_cell pm_f_cell cd_f_cell ct_f_cell : Value}
    {od_f_purse an_f_purse : Option Addr} {sl_f_purse : Array (Option Value)} {oc_f_purse kV_f_purse dc_f_purse pm_f_purse cd_f_purse ct_f_purse : Value}
    {od_f_roll an_f_roll : Option Addr} {sl_f_roll : Array (Option Value)} {oc_f_roll kV_f_roll dc_f_roll pm_f_roll cd_f_roll ct_f_roll : Value}
    {od_f_letters an_f_letters : Option Addr} {sl_f_letters : Array (Option Value)} {oc_f_letters kV_f_letters dc_f_letters pm_f_letters cd_f_letters ct_f_letters : Value}
    {od_f_set an_f_set : Option Addr} {sl_f_set : Array (Option Value)} {oc_f_set kV_f_set dc_f_set pm_f_set cd_f_set ct_f_set : Value}
    {od_f_drows an_f_drows : Option Addr} {sl_f_drows : Array (Option Value)} {oc_f_drows kV_f_drows dc_f_drows pm_f_drows cd_f_drows ct_f_drows : Value}
    {od_f_marks an_f_marks : Option Addr} {sl_f_marks : Array (Option Value)} {oc_f_marks kV_f_marks dc_f_marks pm_f_marks cd_f_marks ct_f_marks : Value}
    {od_f_ptext an_f_ptext : Option Addr} {sl_f_ptext : Array (Option Value)} {oc_f_ptext kV_f_ptext dc_f_ptext pm_f_ptext cd_f_ptext ct_f_ptext : Value}
    {od_f_drawn an_f_drawn : Option Addr} {sl_f_drawn : Array (Option Value)} {oc_f_drawn kV_f_drawn dc_f_drawn pm_f_drawn cd_f_drawn ct_f_drawn : Value}
    {od_f_both an_f_both : Option Addr} {sl_f_both : Array (Option Value)} {oc_f_both kV_f_both dc_f_both pm_f_both cd_f_both ct_f_both : Value}
    {od_f_great an_f_great : Option Addr} {sl_f_great : Array (Option Value)} {oc_f_great kV_f_great dc_f_great pm_f_great cd_f_great ct_f_great : Value}
    {od_f_rsize an_f_rsize : Option Addr} {sl_f_rsize : Array (Option Value)} {oc_f_rsize kV_f_rsize dc_f_rsize pm_f_rsize cd_f_rsize ct_f_rsize : Value}
    {od_f_mticks an_f_mticks : Option Addr} {sl_f_mticks : Array (Option Value)} {oc_f_mticks kV_f_mticks dc_f_mticks pm_f_mticks cd_f_mticks ct_f_mticks : Value}
    {od_f_right an_f_right : Option Addr} {sl_f_right : Array (Option Value)} {oc_f_right kV_f_right dc_f_right pm_f_right cd_f_right ct_f_right : Value}
    {od_f_law an_f_law : Option Addr} {sl_f_law : Array (Option Value)} {oc_f_law kV_f_law dc_f_law pm_f_law cd_f_law ct_f_law : Value}
    {tk_most : Tok}
    (aC : PySem.W.nsIn K mainGlobals "Plan" = some (some (.ref C)))
    (pg : PySem.W.plainGet K C Str.empty = true)
    (hd : PySem.W.hasDictIn K C = true)
    (po : PySem.W.plainOver K C = true)
    (sa : PySem.W.findIn K (.ref C) "__setattr__" = some (some (.builtin "object.__setattr__")))
    (mk : PySem.W.makesIn K C = true)
    (kc : PySem.W.keepIn K (.ref C) = true)
    (n_size : PySem.W.findIn K (.ref C) "_size" = some none)
    (n_rows : PySem.W.findIn K (.ref C) "_rows" = some none)
    (n_bool : PySem.W.findIn K (.ref C) "__bool__" = some none)
    (n_len : PySem.W.findIn K (.ref C) "__len__" = some none)
    (ha : PySem.W.findIn K (.ref C) "__class__" = some (some (.builtin "object.__class__")))
    (hn : PySem.W.specialIn K (.builtin "object.__class__") "__get__" = some (some (.builtin "getset_descriptor.__get__")))
    (ht : PySem.W.takesIn K (.builtin "object.__class__") = some true)
    (hm : PySem.W.mroIn K C (.type "object") = some true)
    (ic : PySem.W.isClsIn K C = true)
    (ty : PySem.W.typeIn K (.ref C) = some (.type "type"))
    (ne : PySem.W.findIn K (.ref C) "__ne__" = some (some (.builtin "object.__ne__")))
    (aI : PySem.W.findIn K (.ref C) "__init__" = some (some (.ref fI)))
    (iI : PySem.W.isFn K (.ref fI) = true)
    (l_fI : K.lookup fI = some ⟨oc_fI, od_fI, .func (PySem.W.fnOf "__init__" "Plan.__init__" (defArgs s_init) (defBody s_init) (defScope s_init) (.ref tD) kV_fI dc_fI pm_fI an_fI cd_fI ct_fI), sl_fI⟩)
    (c_fI : PySem.W.codeIn K cd_fI "Plan.__init__" = true)
    (k_fI : PySem.W.keepIn K (.ref fI) = true)
    (lT : K.lookup tD = some ⟨cT, ddT, .seq ([Value.ref uA] : List Value).toArray nT, slT⟩)
    (lU : K.lookup uA = some ⟨.type "tuple", ddU, .seq #[] nU, slU⟩)
    (a_pS : PySem.W.findIn K (.ref C) "size" = some (some (.ref q_pS)))
    (g_pS : PySem.W.specialIn K (.ref q_pS) "__get__" = some (some (.builtin "property.__get__")))
    (t_pS : PySem.W.takesIn K (.ref q_pS) = some true)
    (r_pS : PySem.W.recIn K q_pS "property" = some (.ref f_pS :: rest_pS))
    (l_f_pS : K.lookup f_pS = some ⟨oc_f_pS, od_f_pS, .func (PySem.W.fnOf "size" "Plan.size" (defArgs s_size) (defBody s_size) (defScope s_size) .none kV_f_pS dc_f_pS pm_f_pS an_f_pS cd_f_pS ct_f_pS), sl_f_pS⟩)
    (c_f_pS : PySem.W.codeIn K cd_f_pS "Plan.size" = true)
    (k_f_pS : PySem.W.keepIn K (.ref f_pS) = true)
    (a_pR : PySem.W.findIn K (.ref C) "rows" = some (some (.ref q_pR)))
    (g_pR : PySem.W.specialIn K (.ref q_pR) "__get__" = some (some (.builtin "property.__get__")))
    (t_pR : PySem.W.takesIn K (.ref q_pR) = some true)
    (r_pR : PySem.W.recIn K q_pR "property" = some (.ref f_pR :: rest_pR))
    (l_f_pR : K.lookup f_pR = some ⟨oc_f_pR, od_f_pR, .func (PySem.W.fnOf "rows" "Plan.rows" (defArgs s_rows) (defBody s_rows) (defScope s_rows) .none kV_f_pR dc_f_pR pm_f_pR an_f_pR cd_f_pR ct_f_pR), sl_f_pR⟩)
    (c_f_pR : PySem.W.codeIn K cd_f_pR "Plan.rows" = true)
    (k_f_pR : PySem.W.keepIn K (.ref f_pR) = true)
    (a_pN : PySem.W.findIn K (.ref C) "names" = some (some (.ref q_pN)))
    (g_pN : PySem.W.specialIn K (.ref q_pN) "__get__" = some (some (.builtin "property.__get__")))
    (t_pN : PySem.W.takesIn K (.ref q_pN) = some true)
    (r_pN : PySem.W.recIn K q_pN "property" = some (.ref f_pN :: rest_pN))
    (l_f_pN : K.lookup f_pN = some ⟨oc_f_pN, od_f_pN, .func (PySem.W.fnOf "names" "Plan.names" (defArgs s_names) (defBody s_names) (defScope s_names) .none kV_f_pN dc_f_pN pm_f_pN an_f_pN cd_f_pN ct_f_pN), sl_f_pN⟩)
    (c_f_pN : PySem.W.codeIn K cd_f_pN "Plan.names" = true)
    (k_f_pN : PySem.W.keepIn K (.ref f_pN) = true)
    (a_pT : PySem.W.findIn K (.ref C) "text" = some (some (.ref q_pT)))
    (g_pT : PySem.W.specialIn K (.ref q_pT) "__get__" = some (some (.builtin "property.__get__")))
    (t_pT : PySem.W.takesIn K (.ref q_pT) = some true)
    (r_pT : PySem.W.recIn K q_pT "property" = some (.ref f_pT :: rest_pT))
    (l_f_pT : K.lookup f_pT = some ⟨oc_f_pT, od_f_pT, .func (PySem.W.fnOf "text" "Plan.text" (defArgs s_text) (defBody s_text) (defScope s_text) .none kV_f_pT dc_f_pT pm_f_pT an_f_pT cd_f_pT ct_f_pT), sl_f_pT⟩)
    (c_f_pT : PySem.W.codeIn K cd_f_pT "Plan.text" = true)
    (k_f_pT : PySem.W.keepIn K (.ref f_pT) = true)
    (a_mK : PySem.W.findIn K (.ref C) "ticks" = some (some (.ref f_mK)))
    (i_mK : PySem.W.isFn K (.ref f_mK) = true)
    (l_f_mK : K.lookup f_mK = some ⟨oc_f_mK, od_f_mK, .func (PySem.W.fnOf "ticks" "Plan.ticks" (defArgs s_ticks) (defBody s_ticks) (defScope s_ticks) .none kV_f_mK dc_f_mK pm_f_mK an_f_mK cd_f_mK ct_f_mK), sl_f_mK⟩)
    (c_f_mK : PySem.W.codeIn K cd_f_mK "Plan.ticks" = true)
    (k_f_mK : PySem.W.keepIn K (.ref f_mK) = true)
    (a_mM : PySem.W.findIn K (.ref C) "marks" = some (some (.ref f_mM)))
    (i_mM : PySem.W.isFn K (.ref f_mM) = true)
    (l_f_mM : K.lookup f_mM = some ⟨oc_f_mM, od_f_mM, .func (PySem.W.fnOf "marks" "Plan.marks" (defArgs s_marks) (defBody s_marks) (defScope s_marks) .none kV_f_mM dc_f_mM pm_f_mM an_f_mM cd_f_mM ct_f_mM), sl_f_mM⟩)
    (c_f_mM : PySem.W.codeIn K cd_f_mM "Plan.marks" = true)
    (k_f_mM : PySem.W.keepIn K (.ref f_mM) = true)
    (a_mE : PySem.W.findIn K (.ref C) "__eq__" = some (some (.ref f_mE)))
    (i_mE : PySem.W.isFn K (.ref f_mE) = true)
    (l_f_mE : K.lookup f_mE = some ⟨oc_f_mE, od_f_mE, .func (PySem.W.fnOf "__eq__" "Plan.__eq__" (defArgs s_eq) (defBody s_eq) (defScope s_eq) .none kV_f_mE dc_f_mE pm_f_mE an_f_mE cd_f_mE ct_f_mE), sl_f_mE⟩)
    (c_f_mE : PySem.W.codeIn K cd_f_mE "Plan.__eq__" = true)
    (k_f_mE : PySem.W.keepIn K (.ref f_mE) = true)
    (a_mStr : PySem.W.findIn K (.ref C) "__str__" = some (some (.ref f_mStr)))
    (i_mStr : PySem.W.isFn K (.ref f_mStr) = true)
    (l_f_mStr : K.lookup f_mStr = some ⟨oc_f_mStr, od_f_mStr, .func (PySem.W.fnOf "__str__" "Plan.__str__" (defArgs s_str) (defBody s_str) (defScope s_str) .none kV_f_mStr dc_f_mStr pm_f_mStr an_f_mStr cd_f_mStr ct_f_mStr), sl_f_mStr⟩)
    (c_f_mStr : PySem.W.codeIn K cd_f_mStr "Plan.__str__" = true)
    (k_f_mStr : PySem.W.keepIn K (.ref f_mStr) = true)
    (a_mRep : PySem.W.findIn K (.ref C) "__repr__" = some (some (.ref f_mRep)))
    (i_mRep : PySem.W.isFn K (.ref f_mRep) = true)
    (l_f_mRep : K.lookup f_mRep = some ⟨oc_f_mRep, od_f_mRep, .func (PySem.W.fnOf "__repr__" "Plan.__repr__" (defArgs s_repr) (defBody s_repr) (defScope s_repr) .none kV_f_mRep dc_f_mRep pm_f_mRep an_f_mRep cd_f_mRep ct_f_mRep), sl_f_mRep⟩)
    (c_f_mRep : PySem.W.codeIn K cd_f_mRep "Plan.__repr__" = true)
    (k_f_mRep : PySem.W.keepIn K (.ref f_mRep) = true)
    (a_sRd : PySem.W.findIn K (.ref C) "read" = some (some (.ref q_sRd)))
    (w_sRd : PySem.W.findIn K (.type "type") "read" = some none)
    (y_sRd : PySem.W.typeIn K (.ref q_sRd) = some (.type "staticmethod"))
    (g_sRd : PySem.W.specialIn K (.ref q_sRd) "__get__" = some (some (.builtin "staticmethod.__get__")))
    (r_sRd : PySem.W.recIn K q_sRd "staticmethod" = some (.ref f_sRd :: rest_sRd))
    (cg : PySem.W.specialIn K (.ref C) "__getattribute__" = some (some (.builtin "type.__getattribute__")))
    (cf : PySem.W.findIn K (.type "type") "__getattribute__" = some (some (.builtin "type.__getattribute__")))
    (cs : PySem.W.subIn K (.type "type") (.type "type") = some true)
    (ca : PySem.W.nsIn K cStatics "thirdparty.any" = some none)
    (l_f_sRd : K.lookup f_sRd = some ⟨oc_f_sRd, od_f_sRd, .func (PySem.W.fnOf "read" "Plan.read" (defArgs s_read) (defBody s_read) (defScope s_read) .none kV_f_sRd dc_f_sRd pm_f_sRd an_f_sRd cd_f_sRd ct_f_sRd), sl_f_sRd⟩)
    (c_f_sRd : PySem.W.codeIn K cd_f_sRd "Plan.read" = true)
    (k_f_sRd : PySem.W.keepIn K (.ref f_sRd) = true)
    (a_int : PySem.W.nsIn K mainGlobals "is_integer_from" = some (some (.ref f_int)))
    (l_f_int : K.lookup f_int = some ⟨oc_f_int, od_f_int, .func (PySem.W.fnOf "is_integer_from" "is_integer_from" (defArgs s_is_integer_from) (defBody s_is_integer_from) (defScope s_is_integer_from) .none kV_f_int dc_f_int pm_f_int an_f_int cd_f_int ct_f_int), sl_f_int⟩)
    (c_f_int : PySem.W.codeIn K cd_f_int "is_integer_from" = true)
    (k_f_int : PySem.W.keepIn K (.ref f_int) = true)
    (a_name : PySem.W.nsIn K mainGlobals "is_name" = some (some (.ref f_name)))
    (l_f_name : K.lookup f_name = some ⟨oc_f_name, od_f_name, .func (PySem.W.fnOf "is_name" "is_name" (defArgs s_is_name) (defBody s_is_name) (defScope s_is_name) .none kV_f_name dc_f_name pm_f_name an_f_name cd_f_name ct_f_name), sl_f_name⟩)
    (c_f_name : PySem.W.codeIn K cd_f_name "is_name" = true)
    (k_f_name : PySem.W.keepIn K (.ref f_name) = true)
    (a_rising : PySem.W.nsIn K mainGlobals "is_rising" = some (some (.ref f_rising)))
    (l_f_rising : K.lookup f_rising = some ⟨oc_f_rising, od_f_rising, .func (PySem.W.fnOf "is_rising" "is_rising" (defArgs s_is_rising) (defBody s_is_rising) (defScope s_is_rising) .none kV_f_rising dc_f_rising pm_f_rising an_f_rising cd_f_rising ct_f_rising), sl_f_rising⟩)
    (c_f_rising : PySem.W.codeIn K cd_f_rising "is_rising" = true)
    (k_f_rising : PySem.W.keepIn K (.ref f_rising) = true)
    (a_ticks : PySem.W.nsIn K mainGlobals "are_ticks" = some (some (.ref f_ticks)))
    (l_f_ticks : K.lookup f_ticks = some ⟨oc_f_ticks, od_f_ticks, .func (PySem.W.fnOf "are_ticks" "are_ticks" (defArgs s_are_ticks) (defBody s_are_ticks) (defScope s_are_ticks) .none kV_f_ticks dc_f_ticks pm_f_ticks an_f_ticks cd_f_ticks ct_f_ticks), sl_f_ticks⟩)
    (c_f_ticks : PySem.W.codeIn K cd_f_ticks "are_ticks" = true)
    (k_f_ticks : PySem.W.keepIn K (.ref f_ticks) = true)
    (a_rows : PySem.W.nsIn K mainGlobals "are_rows" = some (some (.ref f_rows)))
    (l_f_rows : K.lookup f_rows = some ⟨oc_f_rows, od_f_rows, .func (PySem.W.fnOf "are_rows" "are_rows" (defArgs s_are_rows) (defBody s_are_rows) (defScope s_are_rows) .none kV_f_rows dc_f_rows pm_f_rows an_f_rows cd_f_rows ct_f_rows), sl_f_rows⟩)
    (c_f_rows : PySem.W.codeIn K cd_f_rows "are_rows" = true)
    (k_f_rows : PySem.W.keepIn K (.ref f_rows) = true)
    (a_cell : PySem.W.nsIn K mainGlobals "_law_cell" = some (some (.ref f_cell)))
    (l_f_cell : K.lookup f_cell = some ⟨oc_f_cell, od_f_cell, .func (PySem.W.fnOf "_law_cell" "_law_cell" (defArgs s__law_cell) (defBody s__law_cell) (defScope s__law_cell) .none kV_f_cell dc_f_cell pm_f_cell an_f_cell cd_f_cell ct_f_cell), sl_f_cell⟩)
    (c_f_cell : PySem.W.codeIn K cd_f_cell "_law_cell" = true)
    (k_f_cell : PySem.W.keepIn K (.ref f_cell) = true)
    (a_purse : PySem.W.nsIn K mainGlobals "_law_purse" = some (some (.ref f_purse)))
    (l_f_purse : K.lookup f_purse = some ⟨oc_f_purse, od_f_purse, .func (PySem.W.fnOf "_law_purse" "_law_purse" (defArgs s__law_purse) (defBody s__law_purse) (defScope s__law_purse) .none kV_f_purse dc_f_purse pm_f_purse an_f_purse cd_f_purse ct_f_purse), sl_f_purse⟩)
    (c_f_purse : PySem.W.codeIn K cd_f_purse "_law_purse" = true)
    (k_f_purse : PySem.W.keepIn K (.ref f_purse) = true)
    (a_roll : PySem.W.nsIn K mainGlobals "_law_roll" = some (some (.ref f_roll)))
    (l_f_roll : K.lookup f_roll = some ⟨oc_f_roll, od_f_roll, .func (PySem.W.fnOf "_law_roll" "_law_roll" (defArgs s__law_roll) (defBody s__law_roll) (defScope s__law_roll) .none kV_f_roll dc_f_roll pm_f_roll an_f_roll cd_f_roll ct_f_roll), sl_f_roll⟩)
    (c_f_roll : PySem.W.codeIn K cd_f_roll "_law_roll" = true)
    (k_f_roll : PySem.W.keepIn K (.ref f_roll) = true)
    (a_letters : PySem.W.nsIn K mainGlobals "_law_letters" = some (some (.ref f_letters)))
    (l_f_letters : K.lookup f_letters = some ⟨oc_f_letters, od_f_letters, .func (PySem.W.fnOf "_law_letters" "_law_letters" (defArgs s_letters) (defBody s_letters) (defScope s_letters) .none kV_f_letters dc_f_letters pm_f_letters an_f_letters cd_f_letters ct_f_letters), sl_f_letters⟩)
    (c_f_letters : PySem.W.codeIn K cd_f_letters "_law_letters" = true)
    (k_f_letters : PySem.W.keepIn K (.ref f_letters) = true)
    (a_set : PySem.W.nsIn K mainGlobals "_law_set" = some (some (.ref f_set)))
    (l_f_set : K.lookup f_set = some ⟨oc_f_set, od_f_set, .func (PySem.W.fnOf "_law_set" "_law_set" (defArgs s_set) (defBody s_set) (defScope s_set) .none kV_f_set dc_f_set pm_f_set an_f_set cd_f_set ct_f_set), sl_f_set⟩)
    (c_f_set : PySem.W.codeIn K cd_f_set "_law_set" = true)
    (k_f_set : PySem.W.keepIn K (.ref f_set) = true)
    (a_drows : PySem.W.nsIn K mainGlobals "_law_drawn_rows" = some (some (.ref f_drows)))
    (l_f_drows : K.lookup f_drows = some ⟨oc_f_drows, od_f_drows, .func (PySem.W.fnOf "_law_drawn_rows" "_law_drawn_rows" (defArgs s_drows) (defBody s_drows) (defScope s_drows) .none kV_f_drows dc_f_drows pm_f_drows an_f_drows cd_f_drows ct_f_drows), sl_f_drows⟩)
    (c_f_drows : PySem.W.codeIn K cd_f_drows "_law_drawn_rows" = true)
    (k_f_drows : PySem.W.keepIn K (.ref f_drows) = true)
    (a_marks : PySem.W.nsIn K mainGlobals "_law_marks" = some (some (.ref f_marks)))
    (l_f_marks : K.lookup f_marks = some ⟨oc_f_marks, od_f_marks, .func (PySem.W.fnOf "_law_marks" "_law_marks" (defArgs s_lmarks) (defBody s_lmarks) (defScope s_lmarks) .none kV_f_marks dc_f_marks pm_f_marks an_f_marks cd_f_marks ct_f_marks), sl_f_marks⟩)
    (c_f_marks : PySem.W.codeIn K cd_f_marks "_law_marks" = true)
    (k_f_marks : PySem.W.keepIn K (.ref f_marks) = true)
    (a_ptext : PySem.W.nsIn K mainGlobals "_law_plan_text" = some (some (.ref f_ptext)))
    (l_f_ptext : K.lookup f_ptext = some ⟨oc_f_ptext, od_f_ptext, .func (PySem.W.fnOf "_law_plan_text" "_law_plan_text" (defArgs s_ptext) (defBody s_ptext) (defScope s_ptext) .none kV_f_ptext dc_f_ptext pm_f_ptext an_f_ptext cd_f_ptext ct_f_ptext), sl_f_ptext⟩)
    (c_f_ptext : PySem.W.codeIn K cd_f_ptext "_law_plan_text" = true)
    (k_f_ptext : PySem.W.keepIn K (.ref f_ptext) = true)
    (a_drawn : PySem.W.nsIn K mainGlobals "_law_drawn" = some (some (.ref f_drawn)))
    (l_f_drawn : K.lookup f_drawn = some ⟨oc_f_drawn, od_f_drawn, .func (PySem.W.fnOf "_law_drawn" "_law_drawn" (defArgs s_drawn) (defBody s_drawn) (defScope s_drawn) .none kV_f_drawn dc_f_drawn pm_f_drawn an_f_drawn cd_f_drawn ct_f_drawn), sl_f_drawn⟩)
    (c_f_drawn : PySem.W.codeIn K cd_f_drawn "_law_drawn" = true)
    (k_f_drawn : PySem.W.keepIn K (.ref f_drawn) = true)
    (a_both : PySem.W.nsIn K mainGlobals "_law_both_ways" = some (some (.ref f_both)))
    (l_f_both : K.lookup f_both = some ⟨oc_f_both, od_f_both, .func (PySem.W.fnOf "_law_both_ways" "_law_both_ways" (defArgs s_both) (defBody s_both) (defScope s_both) .none kV_f_both dc_f_both pm_f_both an_f_both cd_f_both ct_f_both), sl_f_both⟩)
    (c_f_both : PySem.W.codeIn K cd_f_both "_law_both_ways" = true)
    (k_f_both : PySem.W.keepIn K (.ref f_both) = true)
    (a_great : PySem.W.nsIn K mainGlobals "_law_great" = some (some (.ref f_great)))
    (l_f_great : K.lookup f_great = some ⟨oc_f_great, od_f_great, .func (PySem.W.fnOf "_law_great" "_law_great" (defArgs s_great) (defBody s_great) (defScope s_great) .none kV_f_great dc_f_great pm_f_great an_f_great cd_f_great ct_f_great), sl_f_great⟩)
    (c_f_great : PySem.W.codeIn K cd_f_great "_law_great" = true)
    (k_f_great : PySem.W.keepIn K (.ref f_great) = true)
    (a_rsize : PySem.W.nsIn K mainGlobals "_read_size" = some (some (.ref f_rsize)))
    (l_f_rsize : K.lookup f_rsize = some ⟨oc_f_rsize, od_f_rsize, .func (PySem.W.fnOf "_read_size" "_read_size" (defArgs s_rsize) (defBody s_rsize) (defScope s_rsize) .none kV_f_rsize dc_f_rsize pm_f_rsize an_f_rsize cd_f_rsize ct_f_rsize), sl_f_rsize⟩)
    (c_f_rsize : PySem.W.codeIn K cd_f_rsize "_read_size" = true)
    (k_f_rsize : PySem.W.keepIn K (.ref f_rsize) = true)
    (a_mticks : PySem.W.nsIn K mainGlobals "_marked_ticks" = some (some (.ref f_mticks)))
    (l_f_mticks : K.lookup f_mticks = some ⟨oc_f_mticks, od_f_mticks, .func (PySem.W.fnOf "_marked_ticks" "_marked_ticks" (defArgs s_mticks) (defBody s_mticks) (defScope s_mticks) .none kV_f_mticks dc_f_mticks pm_f_mticks an_f_mticks cd_f_mticks ct_f_mticks), sl_f_mticks⟩)
    (c_f_mticks : PySem.W.codeIn K cd_f_mticks "_marked_ticks" = true)
    (k_f_mticks : PySem.W.keepIn K (.ref f_mticks) = true)
    (a_right : PySem.W.nsIn K mainGlobals "_law_right" = some (some (.ref f_right)))
    (l_f_right : K.lookup f_right = some ⟨oc_f_right, od_f_right, .func (PySem.W.fnOf "_law_right" "_law_right" (defArgs s_right) (defBody s_right) (defScope s_right) .none kV_f_right dc_f_right pm_f_right an_f_right cd_f_right ct_f_right), sl_f_right⟩)
    (c_f_right : PySem.W.codeIn K cd_f_right "_law_right" = true)
    (k_f_right : PySem.W.keepIn K (.ref f_right) = true)
    (a_law : PySem.W.nsIn K mainGlobals "law" = some (some (.ref f_law)))
    (l_f_law : K.lookup f_law = some ⟨oc_f_law, od_f_law, .func (PySem.W.fnOf "law" "law" (defArgs s_law) (defBody s_law) (defScope s_law) .none kV_f_law dc_f_law pm_f_law an_f_law cd_f_law ct_f_law), sl_f_law⟩)
    (c_f_law : PySem.W.codeIn K cd_f_law "law" = true)
    (k_f_law : PySem.W.keepIn K (.ref f_law) = true)
    (m_most : PySem.W.nsIn K mainGlobals "MOST_TICKS" = some (some (.int 10000 tk_most)))
    (z_isinstance : PySem.W.nsIn K mainGlobals "isinstance" = some none)
    (z_int : PySem.W.nsIn K mainGlobals "int" = some none)
    (z_bool : PySem.W.nsIn K mainGlobals "bool" = some none)
    (z_str : PySem.W.nsIn K mainGlobals "str" = some none)
    (z_tuple : PySem.W.nsIn K mainGlobals "tuple" = some none)
    (z_len : PySem.W.nsIn K mainGlobals "len" = some none)
    (z_all : PySem.W.nsIn K mainGlobals "all" = some none)
    (z_zip : PySem.W.nsIn K mainGlobals "zip" = some none)
    (z_range : PySem.W.nsIn K mainGlobals "range" = some none)
    (z_sorted : PySem.W.nsIn K mainGlobals "sorted" = some none)
    (z_dict : PySem.W.nsIn K mainGlobals "dict" = some none)
    (z_any : PySem.W.nsIn K mainGlobals "any" = some none)
    (z_repr : PySem.W.nsIn K mainGlobals "repr" = some none)
    (z_max : PySem.W.nsIn K mainGlobals "max" = some none)
    (z_min : PySem.W.nsIn K mainGlobals "min" = some none)
    (z_abs : PySem.W.nsIn K mainGlobals "abs" = some none)
    (z_divmod : PySem.W.nsIn K mainGlobals "divmod" = some none)
    (z_enumerate : PySem.W.nsIn K mainGlobals "enumerate" = some none) :
    ∃ fd : FuncData, (∀ (s : Shared) (v : Value), BindsTo s fd ⟨[v], []⟩ [("_law_script", v)]) ∧ ∀ base : Heap, K.In base → base.Ns mainGlobals mg → FnG P w K mg base CX0 10 fa fd ["_law_script"] (spLaw K) := by
  have e := hfa.symm.trans (PySem.W.mg_of X G a_law)
  cases e
  have mgs := @PySem.W.mg_of K h mg
  have mgn := @PySem.W.mg_none_of K h mg
  have F_int := fun_mk (st := s_is_integer_from) l_f_int c_f_int k_f_int
  have F_name := fun_mk (st := s_is_name) l_f_name c_f_name k_f_name
  have F_rising := fun_mk (st := s_is_rising) l_f_rising c_f_rising k_f_rising
  have F_ticks := fun_mk (st := s_are_ticks) l_f_ticks c_f_ticks k_f_ticks
  have F_rows := fun_mk (st := s_are_rows) l_f_rows c_f_rows k_f_rows
  have F_cell := fun_mk (st := s__law_cell) l_f_cell c_f_cell k_f_cell
  have F_purse := fun_mk (st := s__law_purse) l_f_purse c_f_purse k_f_purse
  have F_roll := fun_mk (st := s__law_roll) l_f_roll c_f_roll k_f_roll
  have F_letters := fun_mk (st := s_letters) l_f_letters c_f_letters k_f_letters
  have F_set := fun_mk (st := s_set) l_f_set c_f_set k_f_set
  have F_drows := fun_mk (st := s_drows) l_f_drows c_f_drows k_f_drows
  have F_marks := fun_mk (st := s_lmarks) l_f_marks c_f_marks k_f_marks
  have F_ptext := fun_mk (st := s_ptext) l_f_ptext c_f_ptext k_f_ptext
  have F_drawn := fun_mk (st := s_drawn) l_f_drawn c_f_drawn k_f_drawn
  have F_both := fun_mk (st := s_both) l_f_both c_f_both k_f_both
  have F_great := fun_mk (st := s_great) l_f_great c_f_great k_f_great
  have F_rsize := fun_mk (st := s_rsize) l_f_rsize c_f_rsize k_f_rsize
  have F_mticks := fun_mk (st := s_mticks) l_f_mticks c_f_mticks k_f_mticks
  have F_right := fun_mk (st := s_right) l_f_right c_f_right k_f_right
  have F_law := fun_mk (st := s_law) l_f_law c_f_law k_f_law
  have b_int := F_int.binds (ps := ["value", "least", "most"]) fun _ _ _ _ _ _ us hl => match us, hl with | [_, _, _], _ => rfl
  have b_name := F_name.binds (ps := ["value"]) fun _ _ _ _ _ _ us hl => match us, hl with | [_], _ => rfl
  have b_rising := F_rising.binds (ps := ["row"]) fun _ _ _ _ _ _ us hl => match us, hl with | [_], _ => rfl
  have b_ticks := F_ticks.binds (ps := ["value", "size"]) fun _ _ _ _ _ _ us hl => match us, hl with | [_, _], _ => rfl
  have b_rows := F_rows.binds (ps := ["value", "size"]) fun _ _ _ _ _ _ us hl => match us, hl with | [_, _], _ => rfl
  have b_cell := F_cell.binds (ps := ["_law_script", "_law_at"]) fun _ _ _ _ _ _ us hl => match us, hl with | [_, _], _ => rfl
  have b_purse := F_purse.binds (ps := ["_law_cell_here"]) fun _ _ _ _ _ _ us hl => match us, hl with | [_], _ => rfl
  have b_roll := F_roll.binds (ps := ["_law_purse_here", "_law_many"]) fun _ _ _ _ _ _ us hl => match us, hl with | [_, _], _ => rfl
  have b_letters := F_letters.binds (ps := ["_law_purse_here", "_law_many"]) fun _ _ _ _ _ _ us hl => match us, hl with | [_, _], _ => rfl
  have b_set := F_set.binds (ps := ["_law_purse_here", "_law_wide"]) fun _ _ _ _ _ _ us hl => match us, hl with | [_, _], _ => rfl
  have b_drows := F_drows.binds (ps := ["_law_purse_here", "_law_letters_here", "_law_wide"]) fun _ _ _ _ _ _ us hl => match us, hl with | [_, _, _], _ => rfl
  have b_marks := F_marks.binds (ps := ["_law_row", "_law_wide"]) fun _ _ _ _ _ _ us hl => match us, hl with | [_, _], _ => rfl
  have b_ptext := F_ptext.binds (ps := ["_law_wide", "_law_drawn_here"]) fun _ _ _ _ _ _ us hl => match us, hl with | [_, _], _ => rfl
  have b_drawn := F_drawn.binds (ps := ["_law_purse_here"]) fun _ _ _ _ _ _ us hl => match us, hl with | [_], _ => rfl
  have b_both := F_both.binds (ps := ["_law_wide", "_law_drawn_here"]) fun _ _ _ _ _ _ us hl => match us, hl with | [_, _], _ => rfl
  have b_great := F_great.binds (ps := ["_law_purse_here"]) fun _ _ _ _ _ _ us hl => match us, hl with | [_], _ => rfl
  have b_rsize := F_rsize.binds (ps := ["word"]) fun _ _ _ _ _ _ us hl => match us, hl with | [_], _ => rfl
  have b_mticks := F_mticks.binds (ps := ["marks"]) fun _ _ _ _ _ _ us hl => match us, hl with | [_], _ => rfl
  have b_right := F_right.binds (ps := ["_law_purse_here"]) fun _ _ _ _ _ _ us hl => match us, hl with | [_], _ => rfl
  have F_pS := fun_mk (st := s_size) l_f_pS c_f_pS k_f_pS
  have b_pS := F_pS.binds (ps := ["self"]) fun _ _ _ _ _ _ us hl => match us, hl with | [_], _ => rfl
  have F_pR := fun_mk (st := s_rows) l_f_pR c_f_pR k_f_pR
  have b_pR := F_pR.binds (ps := ["self"]) fun _ _ _ _ _ _ us hl => match us, hl with | [_], _ => rfl
  have F_pN := fun_mk (st := s_names) l_f_pN c_f_pN k_f_pN
  have b_pN := F_pN.binds (ps := ["self"]) fun _ _ _ _ _ _ us hl => match us, hl with | [_], _ => rfl
  have F_pT := fun_mk (st := s_text) l_f_pT c_f_pT k_f_pT
  have b_pT := F_pT.binds (ps := ["self"]) fun _ _ _ _ _ _ us hl => match us, hl with | [_], _ => rfl
  have F_mK := fun_mk (st := s_ticks) l_f_mK c_f_mK k_f_mK
  have b_mK := F_mK.binds (ps := ["self", "name"]) fun _ _ _ _ _ _ us hl => match us, hl with | [_, _], _ => rfl
  have F_mM := fun_mk (st := s_marks) l_f_mM c_f_mM k_f_mM
  have b_mM := F_mM.binds (ps := ["self", "name"]) fun _ _ _ _ _ _ us hl => match us, hl with | [_, _], _ => rfl
  have F_mE := fun_mk (st := s_eq) l_f_mE c_f_mE k_f_mE
  have b_mE := F_mE.binds (ps := ["self", "other"]) fun _ _ _ _ _ _ us hl => match us, hl with | [_, _], _ => rfl
  have F_mStr := fun_mk (st := s_str) l_f_mStr c_f_mStr k_f_mStr
  have b_mStr := F_mStr.binds (ps := ["self"]) fun _ _ _ _ _ _ us hl => match us, hl with | [_], _ => rfl
  have F_mRep := fun_mk (st := s_repr) l_f_mRep c_f_mRep k_f_mRep
  have b_mRep := F_mRep.binds (ps := ["self"]) fun _ _ _ _ _ _ us hl => match us, hl with | [_], _ => rfl
  have F_sRd := fun_mk (st := s_read) l_f_sRd c_f_sRd k_f_sRd
  have b_sRd := F_sRd.binds (ps := ["text"]) fun _ _ _ _ _ _ us hl => match us, hl with | [_], _ => rfl
  have FI : FunI K [V.ref uA] fI _ := ⟨⟨_, _, _, _, _, _, _, _, _, _, rfl, l_fI, c_fI, .inr ⟨by simp, tD, _, [.ref uA], nT, rfl, lT, rfl, .cons (show L2.RelV (.ref uA) (.ref uA) from rfl) .nil⟩, .inl rfl⟩, k_fI⟩
  have PC : PlanC K C := ⟨⟨pg, hd, po, sa⟩, n_size, n_rows⟩
  have PI : PlanI K C := ⟨PC, ha, hn, ht, hm, by unfold PySem.W.kitOne; rw [if_pos (by simp)]⟩
  have gC := mgs X G aC
  have TD : TxtD K mg := ⟨mgn X G z_len, mgn X G z_int, mgn X G z_abs, mgn X G z_divmod⟩
  have TB : TxtB K mg := ⟨mgn X G z_isinstance, mgn X G z_int, mgn X G z_bool, mgn X G z_str, mgn X G z_tuple, mgn X G z_len, mgn X G z_all, mgn X G z_zip, mgn X G z_range⟩
  have TT : TxtT K mg f_int f_name f_rising f_ticks := ⟨TB, mgs X G a_int, k_f_int, mgs X G a_name, k_f_name, mgs X G a_rising, k_f_rising, mgs X G a_ticks, k_f_ticks⟩
  have TP : TxtP K mg f_int f_name f_rising f_ticks f_rows := ⟨TT, mgs X G a_rows, k_f_rows, ⟨tk_most, mgs X G m_most⟩⟩
  have TL : TxtL K mg f_roll := ⟨TB, mgs X G a_roll, k_f_roll, mgn X G z_sorted, mgn X G z_dict⟩
  have TM : TxtM K mg f_roll f_set := ⟨TL, mgs X G a_set, k_f_set⟩
  have TN : TxtN K mg f_roll f_set f_marks f_letters f_drows := ⟨TM, mgs X G a_marks, k_f_marks, mgs X G a_letters, k_f_letters, mgs X G a_drows, k_f_drows⟩
  have TE : TxtE K mg f_rsize f_mticks := ⟨mgn X G z_enumerate, mgs X G a_rsize, k_f_rsize, mgs X G a_mticks, k_f_mticks⟩
  have TB4 : TxtB4 K mg f_ptext := ⟨TB, mgs X G a_ptext, k_f_ptext, mgn X G z_repr⟩
  have TR : TxtR K mg f_roll f_ptext f_drawn f_both := ⟨mgs X G a_roll, k_f_roll, mgs X G a_ptext, k_f_ptext, mgs X G a_drawn, k_f_drawn, mgs X G a_both, k_f_both⟩
  have TW : TxtW K mg f_cell f_purse f_right f_great := ⟨mgs X G a_cell, k_f_cell, mgs X G a_purse, k_f_purse, mgs X G a_right, k_f_right, mgs X G a_great, k_f_great, mgn X G z_range, mgn X G z_max, mgn X G z_min, mgn X G z_len, mgn X G z_all⟩
  obtain ⟨us, uV, b2⟩ := init_b2 FI
  obtain ⟨us2, kS⟩ := init_kS FI
  have unit : ∀ H, SqT K H uA [] := fun H => .inr ⟨_, #[], nU, lU, rfl, rfl, Nat.zero_le _, .nil⟩
  refine ⟨PySem.W.fnOf "law" "law" (defArgs s_law) (defBody s_law) (defScope s_law) .none kV_f_law dc_f_law pm_f_law an_f_law cd_f_law ct_f_law, fun s v => .of_eq rfl, fun base _ _ => ?_⟩
  have GC : FnOk P w K mg base CX0 1 f_cell _ ["_law_script", "_law_at"] (spCell K) := ok_cell F_cell TD
  have GPu : FnOk P w K mg base CX0 1 f_purse _ ["_law_cell_here"] spPurse := ok_purse F_purse TD
  have GRo : FnOk P w K mg base CX0 1 f_roll _ ["_law_purse_here", "_law_many"] spRoll := ok_roll F_roll TD
  have GIn : FnOk P w K mg base CX0 1 f_int _ ["value", "least", "most"] (spInt K) := ok_int F_int TB
  have GNa : FnOk P w K mg base CX0 1 f_name _ ["value"] (spName K) := ok_name F_name TB
  have GUp : FnOk P w K mg base CX0 1 f_rising _ ["row"] (spRising K) := ok_rising F_rising TB
  have GTi : FnOk P w K mg base CX0 2 f_ticks _ ["value", "size"] (spTicks K) := ok_ticks F_ticks TT GIn b_int GUp b_rising
  have GRw : FnOk P w K mg base CX0 3 f_rows _ ["value", "size"] (spRows K) := ok_rows F_rows TT GNa b_name GUp b_rising GTi b_ticks
  have GI : FnOk P w K mg base CX0 4 fI _ ["self", "size", "rows"] (spInit K C) := ok_init FI PC TP GIn b_int GRw b_rows
  have GS : FnOk P w K mg base CX0 1 f_pS _ ["self"] (spSize K C) := ok_size F_pS PC
  have GR : FnOk P w K mg base CX0 1 f_pR _ ["self"] (spRowsP K C) := ok_rowsP F_pR PC
  have GN : FnOk P w K mg base CX0 1 f_pN _ ["self"] (spNames K C) := ok_names F_pN PC (mgn X G z_tuple)
  have GK : FnOk P w K mg base CX0 1 f_mK _ ["self", "name"] (spTicksP K C) := ok_ticksP F_mK PC TB
  have hK : Meth K C "ticks" f_mK := ⟨a_mK, i_mK, k_f_mK⟩
  have hM : Meth K C "marks" f_mM := ⟨a_mM, i_mM, k_f_mM⟩
  have h_pS : PropOf K C "size" q_pS f_pS := ⟨a_pS, g_pS, t_pS, ⟨_, r_pS⟩⟩
  have h_pR : PropOf K C "rows" q_pR f_pR := ⟨a_pR, g_pR, t_pR, ⟨_, r_pR⟩⟩
  have h_pN : PropOf K C "names" q_pN f_pN := ⟨a_pN, g_pN, t_pN, ⟨_, r_pN⟩⟩
  have h_pT : PropOf K C "text" q_pT f_pT := ⟨a_pT, g_pT, t_pT, ⟨_, r_pT⟩⟩
  have GM : FnOk P w K mg base CX0 2 f_mM _ ["self", "name"] (spMarksP K C) := ok_marksP F_mM PC TB GK b_mK hK
  have GT : FnOk P w K mg base CX0 3 f_pT _ ["self"] (spTextP K C) := ok_textP F_pT PC TB GN b_pN h_pN GM b_mM hM
  have GE : FnOk P w K mg base CX0 1 f_mE _ ["self", "other"] (spEqP K C) := ok_eqP F_mE PI TB gC
  have GStr : FnOk P w K mg base CX0 5 f_mStr _ ["self"] (spTextP K C) := ok_strP F_mStr PC TB GT b_pT h_pT
  have GRep : FnOk P w K mg base CX0 1 f_mRep _ ["self"] (spReprP K C) := ok_reprP F_mRep PC
  let GG : PlanG P w K mg base C := {
    T := PI, gC := gC, fI := fI, dI := _, uA := uA, M := ⟨mk, aI, iI, kc⟩, GI := GI, b3 := init_b3 FI, unit := unit, us := us, uV := uV, b2 := b2, kRS := init_kRS FI, us2 := us2, kS := kS
    pS := q_pS, fS := f_pS, dS := _, hS := h_pS, GS := GS, bS := b_pS, pR := q_pR, fR := f_pR, dR := _, hR := h_pR, GR := GR, bR := b_pR, pN := q_pN, fN := f_pN, dN := _, hN := h_pN, GN := GN, bN := b_pN, pT := q_pT, fT := f_pT, dT := _, hT := h_pT, GT := GT, bT := b_pT
    fK := f_mK, dK := _, hK := hK, GK := GK, bK := b_mK, kK := Fun.kbn F_mK fun _ _ _ _ _ _ _ _ => rfl, fM := f_mM, dM := _, hM := hM, GM := GM, bM := b_mM, kM := Fun.kbn F_mM fun _ _ _ _ _ _ _ _ => rfl
    fE := f_mE, dE := _, hE := ⟨a_mE, i_mE, ne, hm⟩, GE := GE, bE := b_mE, fStr := f_mStr, dStr := _, sStr := a_mStr, nStr := i_mStr, GStr := GStr, bStr := b_mStr, fRep := f_mRep, dRep := _, sRep := a_mRep, nRep := i_mRep, GRep := GRep, bRep := b_mRep }
  have GLe : FnOk P w K mg base CX0 2 f_letters _ ["_law_purse_here", "_law_many"] spLetters := ok_letters F_letters TL GRo b_roll
  have GSe : FnOk P w K mg base CX0 2 f_set _ ["_law_purse_here", "_law_wide"] spSet := ok_set F_set TL GRo b_roll
  have GDr : FnOk P w K mg base CX0 3 f_drows _ ["_law_purse_here", "_law_letters_here", "_law_wide"] (spDrawnRows K) := ok_drows F_drows TM GSe b_set
  have GLm : FnOk P w K mg base CX0 1 f_marks _ ["_law_row", "_law_wide"] (spMarksL K) := ok_lmarks F_marks TL
  have GPt : FnOk P w K mg base CX0 2 f_ptext _ ["_law_wide", "_law_drawn_here"] (spPlanText K) := ok_ptext F_ptext TN GLm b_marks
  have GDn : FnOk P w K mg base CX0 4 f_drawn _ ["_law_purse_here"] (spDrawn K) := ok_drawn F_drawn TN GRo b_roll GLe b_letters GDr b_drows
  have GRs : FnOk P w K mg base CX0 1 f_rsize _ ["word"] spReadSize := ok_rsize F_rsize TB ⟨tk_most, mgs X G m_most⟩
  have GMt : FnOk P w K mg base CX0 1 f_mticks _ ["marks"] (spMarked K) := ok_mticks F_mticks TB TE
  have GRd : FnOk P w K mg base CX0 6 f_sRd _ ["text"] (spRead K C) := ok_read F_sRd GG TP TE GRs b_rsize GMt b_mticks GIn b_int GRw b_rows
  let RG : ReadG P w K mg base C := { mc := .type "type", r := ⟨reads_cls ca ty cf cs, cg⟩, p := q_sRd, f := f_sRd, d := _, c := ⟨find_cls w_sRd a_sRd y_sRd g_sRd, ⟨_, r_sRd⟩, k_f_sRd⟩, G := GRd, b := b_sRd, k := Fun.kbn1 F_sRd fun _ _ _ _ _ _ _ => rfl }
  have GBo : FnG P w K mg base CX0 8 f_both _ ["_law_wide", "_law_drawn_here"] (spBoth K) := ok_both F_both GG RG TB4 GPt b_ptext
  have GRi : FnG P w K mg base CX0 9 f_right _ ["_law_purse_here"] spRight := ok_right F_right TR GDn b_drawn GBo b_both
  have GGt : FnOk P w K mg base CX0 7 f_great _ ["_law_purse_here"] spRight := ok_great F_great GG RG TR GRo b_roll GPt b_ptext
  exact ok_law F_law GG RG TW GC b_cell GPu b_purse GRi b_right GGt b_great
end Sp
open PySem PySem.W PyProof.Rows
set_option Elab.async false
set_option maxRecDepth 100000 in
set_option maxHeartbeats 0 in
theorem PySem.Challenge.cw_spansieve_k04_whole_plans_written_and_re_holds : PySem.Challenge.rw_spansieve_k04_whole_plans_written_and_re.Holds := by
  w_on; o_law; k_head; (case hw => w_witness2)
  k_fill
  refine Sp.walk_G (l := PySem.Challenge.rw_spansieve_k04_whole_plans_written_and_re) (n := 63) (k := 10) (x := "_law_script") (sp := Sp.spLaw) rfl (by decide) rfl ⟨rfl, by decide, by decide⟩ (fun w h Y => PySem.W.kIn_of Y) ?F (fun K H a ns hl _ hS => ⟨a, ns, rfl, hS, hl, fun _ => rfl⟩)
  case F =>
    intro w mg fa h KX G hmg
    refine' Sp.all_mk KX G hmg ?aC ?pg ?hd ?po ?sa ?mk ?kc ?n_size ?n_rows ?n_bool ?n_len ?ha ?hn ?ht ?hm ?ic ?ty ?ne ?aI ?iI ?l_fI ?c_fI ?k_fI ?lT ?lU ?a_pS ?g_pS ?t_pS ?r_pS ?l_f_pS ?c_f_pS ?k_f_pS ?a_pR ?g_pR ?t_pR ?r_pR ?l_f_pR ?c_f_pR ?k_f_pR ?a_pN ?g_pN ?t_pN ?r_pN ?l_f_pN ?c_f_pN ?k_f_pN ?a_pT ?g_pT ?t_pT ?r_pT ?l_f_pT ?c_f_pT ?k_f_pT ?a_mK ?i_mK ?l_f_mK ?c_f_mK ?k_f_mK ?a_mM ?i_mM ?l_f_mM ?c_f_mM ?k_f_mM ?a_mE ?i_mE ?l_f_mE ?c_f_mE ?k_f_mE ?a_mStr ?i_mStr ?l_f_mStr ?c_f_mStr ?k_f_mStr ?a_mRep ?i_mRep ?l_f_mRep ?c_f_mRep ?k_f_mRep ?a_sRd ?w_sRd ?y_sRd ?g_sRd ?r_sRd ?cg ?cf ?cs ?ca ?l_f_sRd ?c_f_sRd ?k_f_sRd ?a_int ?l_f_int ?c_f_int ?k_f_int ?a_name ?l_f_name ?c_f_name ?k_f_name ?a_rising ?l_f_rising ?c_f_rising ?k_f_rising ?a_ticks ?l_f_ticks ?c_f_ticks ?k_f_ticks ?a_rows ?l_f_rows ?c_f_rows ?k_f_rows ?a_cell ?l_f_cell ?c_f_cell ?k_f_cell ?a_purse ?l_f_purse ?c_f_purse ?k_f_purse ?a_roll ?l_f_roll ?c_f_roll ?k_f_roll ?a_letters ?l_f_letters ?c_f_letters ?k_f_letters ?a_set ?l_f_set ?c_f_set ?k_f_set ?a_drows ?l_f_drows ?c_f_drows ?k_f_drows ?a_marks ?l_f_marks ?c_f_marks ?k_f_marks ?a_ptext ?l_f_ptext ?c_f_ptext ?k_f_ptext ?a_drawn ?l_f_drawn ?c_f_drawn ?k_f_drawn ?a_both ?l_f_both ?c_f_both ?k_f_both ?a_great ?l_f_great ?c_f_great ?k_f_great ?a_rsize ?l_f_rsize ?c_f_rsize ?k_f_rsize ?a_mticks ?l_f_mticks ?c_f_mticks ?k_f_mticks ?a_right ?l_f_right ?c_f_right ?k_f_right ?a_law ?l_f_law ?c_f_law ?k_f_law ?m_most ?z_isinstance ?z_int ?z_bool ?z_str ?z_tuple ?z_len ?z_all ?z_zip ?z_range ?z_sorted ?z_dict ?z_any ?z_repr ?z_max ?z_min ?z_abs ?z_divmod ?z_enumerate
    (case aC => k_is)
    (case pg => k_is)
    (case hd => k_is)
    (case po => k_is)
    (case sa => k_is)
    (case mk => k_is)
    (case kc => k_is)
    (case n_size => k_is)
    (case n_rows => k_is)
    (case n_bool => k_is)
    (case n_len => k_is)
    (case ha => k_is)
    (case hn => k_is)
    (case ht => k_is)
    (case hm => k_is)
    (case ic => k_is)
    (case ty => k_is)
    (case ne => k_is)
    (case aI => k_is)
    (case iI => k_is)
    (case l_fI => k_is)
    (case c_fI => k_is)
    (case k_fI => k_is)
    (case lT => k_is)
    (case lU => k_is)
    (case a_pS => k_is)
    (case g_pS => k_is)
    (case t_pS => k_is)
    (case r_pS => k_is)
    (case l_f_pS => k_is)
    (case c_f_pS => k_is)
    (case k_f_pS => k_is)
    (case a_pR => k_is)
    (case g_pR => k_is)
    (case t_pR => k_is)
    (case r_pR => k_is)
    (case l_f_pR => k_is)
    (case c_f_pR => k_is)
    (case k_f_pR => k_is)
    (case a_pN => k_is)
    (case g_pN => k_is)
    (case t_pN => k_is)
    (case r_pN => k_is)
    (case l_f_pN => k_is)
    (case c_f_pN => k_is)
    (case k_f_pN => k_is)
    (case a_pT => k_is)
    (case g_pT => k_is)
    (case t_pT => k_is)
    (case r_pT => k_is)
    (case l_f_pT => k_is)
    (case c_f_pT => k_is)
    (case k_f_pT => k_is)
    (case a_mK => k_is)
    (case i_mK => k_is)
    (case l_f_mK => k_is)
    (case c_f_mK => k_is)
    (case k_f_mK => k_is)
    (case a_mM => k_is)
    (case i_mM => k_is)
    (case l_f_mM => k_is)
    (case c_f_mM => k_is)
    (case k_f_mM => k_is)
    (case a_mE => k_is)
    (case i_mE => k_is)
    (case l_f_mE => k_is)
    (case c_f_mE => k_is)
    (case k_f_mE => k_is)
    (case a_mStr => k_is)
    (case i_mStr => k_is)
    (case l_f_mStr => k_is)
    (case c_f_mStr => k_is)
    (case k_f_mStr => k_is)
    (case a_mRep => k_is)
    (case i_mRep => k_is)
    (case l_f_mRep => k_is)
    (case c_f_mRep => k_is)
    (case k_f_mRep => k_is)
    (case a_sRd => k_is)
    (case w_sRd => k_is)
    (case y_sRd => k_is)
    (case g_sRd => k_is)
    (case r_sRd => k_is)
    (case cg => k_is)
    (case cf => k_is)
    (case cs => k_is)
    (case ca => k_is)
    (case l_f_sRd => k_is)
    (case c_f_sRd => k_is)
    (case k_f_sRd => k_is)
    (case a_int => k_is)
    (case l_f_int => k_is)
    (case c_f_int => k_is)
    (case k_f_int => k_is)
    (case a_name => k_is)
    (case l_f_name => k_is)
    (case c_f_name => k_is)
    (case k_f_name => k_is)
    (case a_rising => k_is)
    (case l_f_rising => k_is)
    (case c_f_rising => k_is)
    (case k_f_rising => k_is)
    (case a_ticks => k_is)
    (case l_f_ticks => k_is)
    (case c_f_ticks => k_is)
    (case k_f_ticks => k_is)
    (case a_rows => k_is)
    (case l_f_rows => k_is)
    (case c_f_rows => k_is)
    (case k_f_rows => k_is)
    (case a_cell => k_is)
    (case l_f_cell => k_is)
    (case c_f_cell => k_is)
    (case k_f_cell => k_is)
    (case a_purse => k_is)
    (case l_f_purse => k_is)
    (case c_f_purse => k_is)
    (case k_f_purse => k_is)
    (case a_roll => k_is)
    (case l_f_roll => k_is)
    (case c_f_roll => k_is)
    (case k_f_roll => k_is)
    (case a_letters => k_is)
    (case l_f_letters => k_is)
    (case c_f_letters => k_is)
    (case k_f_letters => k_is)
    (case a_set => k_is)
    (case l_f_set => k_is)
    (case c_f_set => k_is)
    (case k_f_set => k_is)
    (case a_drows => k_is)
    (case l_f_drows => k_is)
    (case c_f_drows => k_is)
    (case k_f_drows => k_is)
    (case a_marks => k_is)
    (case l_f_marks => k_is)
    (case c_f_marks => k_is)
    (case k_f_marks => k_is)
    (case a_ptext => k_is)
    (case l_f_ptext => k_is)
    (case c_f_ptext => k_is)
    (case k_f_ptext => k_is)
    (case a_drawn => k_is)
    (case l_f_drawn => k_is)
    (case c_f_drawn => k_is)
    (case k_f_drawn => k_is)
    (case a_both => k_is)
    (case l_f_both => k_is)
    (case c_f_both => k_is)
    (case k_f_both => k_is)
    (case a_great => k_is)
    (case l_f_great => k_is)
    (case c_f_great => k_is)
    (case k_f_great => k_is)
    (case a_rsize => k_is)
    (case l_f_rsize => k_is)
    (case c_f_rsize => k_is)
    (case k_f_rsize => k_is)
    (case a_mticks => k_is)
    (case l_f_mticks => k_is)
    (case c_f_mticks => k_is)
    (case k_f_mticks => k_is)
    (case a_right => k_is)
    (case l_f_right => k_is)
    (case c_f_right => k_is)
    (case k_f_right => k_is)
    (case a_law => k_is)
    (case l_f_law => k_is)
    (case c_f_law => k_is)
    (case k_f_law => k_is)
    (case m_most => k_is)
    (case z_isinstance => k_is)
    (case z_int => k_is)
    (case z_bool => k_is)
    (case z_str => k_is)
    (case z_tuple => k_is)
    (case z_len => k_is)
    (case z_all => k_is)
    (case z_zip => k_is)
    (case z_range => k_is)
    (case z_sorted => k_is)
    (case z_dict => k_is)
    (case z_any => k_is)
    (case z_repr => k_is)
    (case z_max => k_is)
    (case z_min => k_is)
    (case z_abs => k_is)
    (case z_divmod => k_is)
    (case z_enumerate => k_is)
#print axioms PySem.Challenge.cw_spansieve_k04_whole_plans_written_and_re_holds
