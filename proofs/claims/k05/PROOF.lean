import PyProof.Rows.All
import Wide.All
import OpenK.AllK
import Wide.FinOn
import HandS.ForMost
import HandS.WideBits
import HandS.TupAny
import KE.KUnpackStar
import HandS.Walk
import PyProof.Draws
import HandS.Zip
import HandS.Comp
import HandS.IsInst
import HandS.Text
import HandS.SortInts
import HandS.FStr
import HandS.Lambda
import HandS.Iter
import HandS.Words
import PyProof.ListStr
import HandS.HotCalls
import HandS.ExcIs
import HandS.ExcField
import HandS.TryMany
import HandS.ExcInit
import KE.KTryMore
import HandS.ForExc
import HandS.Defaults
import KE.KExcInit
import KE.KExcIs
import HandS.MakeKwOnly
import PyProof.ReprRoads
import PyProof.CallFns
import HandS.SetFor
import HandS.MakeKw
import HandS.Property
import HandS.WordsExc
import PyProof.ReprLen
import PyProof.ReprText
import HandS.Dict
import HandS.OwnEq
import KE.KFmtOwn
import KE.KCallOwn
import OpenK.KOps
import HandS.Small
import HandS.ClsMeth
import PySem.Challenge.RW_spansieve_k05_texts_that_are_no_plans
import HandS.DictComp
import HandS.Star
import HandS.RaiseMore
import HandS.StrMore
import KE.KIntText
import PyProof.StrOps2
import HandS.Style
import HandS.EndTab
import HandS.LawCells
import KE.KNestM
set_option Elab.async false
set_option linter.all false
set_option maxRecDepth 100000
set_option maxHeartbeats 4000000
namespace Sp
open PySem PySem.Spec PyProof.Rows L2
/-! ### heaps -/
/-- all that was tracked but p is as it was -/
def But (p : Addr) (H H' : Hp) : Prop := ∀ b o, b ≠ p → H b = some o → H' b = some o
theorem But.refl (p : Addr) (H : Hp) : But p H H := fun _ _ _ h => h
theorem But.trans {p : Addr} {H H1 H2 : Hp} (a : But p H H1) (b : But p H1 H2) : But p H H2 := fun c o n h => b c o n (a c o n h)
theorem But.put {p : Addr} {H H1 : Hp} {o : HO} (a : But p H H1) : But p H (upd H1 p o) := fun c u n h => by
  rw [upd_ne n]
  exact a c u n h
theorem But.new {p q : Addr} {H H1 : Hp} {o : HO} (a : But p H H1) (h : H1 q = none) : But p H (upd H1 q o) := fun c u n e => by
  rw [upd_ne (ne_of_none (a c u n e) h)]
  exact a c u n e
theorem But.same {p : Addr} {H H1 : Hp} (s : Same H H1) : But p H H1 := fun c u _ e => s c u e
theorem But.seq {K : PySem.W.Frag} {p a : Addr} {H H' : Hp} {xs : List V} (e : But p H H') (n : a ≠ p) (h : SqL K H a xs) : SqL K H' a xs := by
  rcases h with (h | ⟨o, h⟩) | h
  · exact .inl (.inl (e _ _ n h))
  · exact .inl (.inr ⟨o, e _ _ n h⟩)
  · exact .inr h
theorem Same.new {q : Addr} {H H1 : Hp} {o : HO} (a : Same H H1) (h : H1 q = none) : Same H (upd H1 q o) := fun c u e => by
  rw [upd_ne (ne_of_none (a c u e) h)]
  exact a c u e

theorem Same.put {H H1 : Hp} {q : Addr} {o : HO} (a : Same H H1) (h : H q = none) : Same H (upd H1 q o) := fun c u e => by
  rw [upd_ne (ne_of_none e h)]
  exact a c u e
theorem Same.tup {K : PySem.W.Frag} {H H' : Hp} {a : Addr} {xs : List V} (s : Same H H') (h : SqT K H a xs) : SqT K H' a xs := by
  rcases h with h | h
  · rcases h with h | ⟨o, h⟩
    · exact .inl (.inl (s _ _ h))
    · exact .inl (.inr ⟨o, s _ _ h⟩)
  · exact .inr h
theorem But.of {p : Addr} {H H1 : Hp} (h : H p = none) (b : But p H H1) : Same H H1 := fun c u e => b c u (ne_of_none e h) e
/-- the heap without p -/
def hid (p : Addr) (H : Hp) : Hp := fun b => if b = p then none else H b
theorem hid_at {p b : Addr} {H : Hp} {o : HO} (n : b ≠ p) (h : H b = some o) : hid p H b = some o := by
  unfold hid
  rw [if_neg n]
  exact h
theorem hid_same {p : Addr} {H H' : Hp} (b : But p H H') : Same (hid p H) H' := fun c o e => by
  by_cases n : c = p
  · unfold hid at e
    rw [if_pos n] at e
    cases e
  · unfold hid at e
    rw [if_neg n] at e
    exact b c o n e
theorem hid_but {p : Addr} {H H' : Hp} (b : But p H H') : Same (hid p H) (hid p H') := fun c o e => by
  by_cases n : c = p
  · unfold hid at e
    rw [if_pos n] at e
    cases e
  · have e2 := hid_same b c o e
    exact hid_at n e2

/-! ### what is new is told by what stands there, the heap behind it a letter -/
def New (o : HO) (Q : VK) (H : Hp) : Prop := ∀ (p : Addr) (H' : Hp), H p = none → Same H H' → H' p = some o → Q (.ref p) H'
theorem New.all {o : HO} {Q : VK} {H : Hp} (h : New o Q H) : ∀ p, H p = none → Q (.ref p) (upd H p o) := fun p n => h p _ n (Same.new (Same.refl H) n) upd_same
theorem fits {n : Nat} (h : Nat.ble n 1000 = true) : n ≤ sizeLine := Nat.le_trans (Nat.le_of_ble_eq_true h) (by decide)
section
variable {X : Cx} {e : Expr} {es : List Expr} {t : TA} {te ta tb : TE} {pos : Pos}
theorem PE.imp {t u : TE} (h : PE X e t) (i : ∀ σ H Q, u σ H Q → t σ H Q) : PE X e u := ⟨fun pins s σ H Q I q => h.run pins s σ H Q I (i σ H Q q)⟩
theorem OpR.imp {f : Value → Value → Sem Value} {r u : R2} (h : OpR X f r) (i : ∀ x y H Q, u x y H Q → r x y H Q) : OpR X f u := fun pins s σ H x y v w Q I rx ry q => h pins s σ H x y v w Q I rx ry (i _ _ _ _ q)
theorem CallR.imp {f : Value} {r u : List V → Hp → VK → Prop} (h : CallR X f r) (i : ∀ xs H Q, u xs H Q → r xs H Q) : CallR X f u := fun pins s σ H xs us Q I rs q => h pins s σ H xs us Q I rs (i _ _ _ q)
def tLstN (t : TA) : TE := fun σ H Q => t σ H fun xs H1 => xs.length ≤ sizeLine ∧ New (.lst xs) Q H1
def tTupN (t : TA) : TE := fun σ H Q => t σ H fun xs H1 => xs.length ≤ sizeLine ∧ New (.tup xs) Q H1
theorem pe_lstN (h : PA X es t) : PE X (.List es pos) (tLstN t) := ⟨fun pins s σ H Q I q => by
  refine wpAny_List_spliced (thn (h.run pos pins s σ H _ I q) fun us s1 hh => ?_)
  obtain ⟨xs, H1, I1, r, z, q1⟩ := hh
  refine ⟨by rw [← r.length]; exact z, ?_⟩
  have free : H1 s1.heap.objs.size = none := I1.hok.fresh (Nat.le_refl _)
  refine ⟨.ref s1.heap.objs.size, upd H1 s1.heap.objs.size (.lst xs), I1.laid (t' := s1.toks) (fun b u e => Heap.get?_push_of_some _ e) (Nat.le_refl _) ?_, rfl, New.all q1 _ free⟩
  exact ⟨z, us, 0, r, Heap.get?_push_size _ rfl⟩⟩
theorem pe_tupN {x1} (h : PA X es t) : PE X (.Tuple es x1 pos) (tTupN t) := ⟨fun pins s σ H Q I q => by
  refine wpAny_Tuple_spliced (thn (h.run pos pins s σ H _ I q) fun us s1 hh => ?_)
  obtain ⟨xs, H1, I1, r, z, q1⟩ := hh
  refine ⟨by rw [← r.length]; exact z, ?_⟩
  have free : H1 s1.heap.objs.size = none := I1.hok.fresh (Nat.le_refl _)
  refine ⟨.ref s1.heap.objs.size, upd H1 s1.heap.objs.size (.tup xs), I1.laid (t' := s1.toks) (fun b u e => Heap.get?_push_of_some _ e) (Nat.le_refl _) ?_, rfl, New.all q1 _ free⟩
  exact ⟨z, us, r, ⟨_, Heap.get?_push_size _ rfl, rfl, _, rfl⟩⟩⟩
theorem pe_dnewN : PE X (.Dict [] [] pos) (fun _ H Q => New (.dK []) Q H) := PE.imp pe_dnewK fun _ _ _ q => New.all q
theorem op_catN : OpR X (binaryOp .Add) (fun x y H Q => ∃ l b xs zs, x = .ref l ∧ y = .ref b ∧ H l = some (.lst xs) ∧ H b = some (.lst zs) ∧ xs.length + zs.length ≤ sizeLine ∧ New (.lst (xs ++ zs)) Q H) :=
  OpR.imp op_cat fun x y H Q h => by
    obtain ⟨l, b, xs, zs, e1, e2, h1, h2, h3, q⟩ := h
    exact ⟨l, b, xs, zs, e1, e2, h1, h2, h3, New.all q⟩
theorem op_repN : OpR X (binaryOp .Mult) (fun x y H Q => ∃ l k xs, x = .ref l ∧ y = .int k ∧ H l = some (.lst xs) ∧ -(2 ^ 63) ≤ k ∧ k < 2 ^ 63 ∧ xs.length * k.toNat ≤ sizeLine ∧ New (.lst (List.replicate k.toNat xs).flatten) Q H) :=
  OpR.imp op_rep fun x y H Q h => by
    obtain ⟨l, k, xs, e1, e2, h1, h2, h3, h4, q⟩ := h
    exact ⟨l, k, xs, e1, e2, h1, h2, h3, h4, New.all q⟩
theorem sl_listN : L2.SlR X (fun x lo hi H Q => ∃ a xs, x = .ref a ∧ SqL X.K H a xs ∧ New (.lst (cutV xs lo hi)) Q H) := fun pins s σ H x v vl vu lo hi sl Q I rx hs pl pu h => by
  obtain ⟨a, xs, e1, h1, q⟩ := h
  exact sl_list pins s σ H x v vl vu lo hi sl Q I rx hs pl pu ⟨a, xs, e1, h1, New.all q⟩
end
end Sp
set_option Elab.async false
set_option linter.all false
set_option maxRecDepth 100000
set_option maxHeartbeats 4000000
namespace Sp
open PySem PySem.Spec PyProof.Rows L2 PySem.W
section
variable {prog : Program} {w : World} {A : Around} {E : Value → Shared → Prop} {s : Shared}
/-- the items of a list for targets one of which is starred -/
theorem star_list {l : Addr} {items : Array Value} {n i : Nat} {Q : List Value → Shared → Prop} (hl : s.heap.IsList l items) (hh : A.handled = none) (hi : i < n) (hn : n ≤ items.size + 1) (hz : items.size ≤ 16384)
    (h : ∀ (h' : Heap) (tk : Nat), (∀ b o, s.heap.get? b = some o → h'.get? b = some o) → Q (items.toList.take i ++ [.ref h'.objs.size] ++ (items.toList.drop i).drop (items.size + 1 - n)) { s with heap := h'.push { cls := .type "list", data := .seq ((items.toList.drop i).take (items.size + 1 - n)).toArray }, toks := tk }) :
    wpAny (model prog w) A (unpackItems (.ref l) n (some i)) Q E s := by
  have hll : l < s.heap.objs.size := by obtain ⟨o, ho, _⟩ := hl; exact Heap.lt_size ho
  have hlt : l ≠ s.heap.objs.size := Nat.ne_of_lt hll
  unfold unpackItems
  refine wpAny_bind ?_
  unfold notIterableAtAll
  refine wpAny_bind (wpAny_specialOf hl.typeIs slot_list_iter.lookup ?_)
  refine wpAny_pure ?_
  simp only [Bool.false_eq_true, if_false]
  refine wpAny_bind (wpAny_holding (wpAny_pyIter_list hl ?_))
  refine wpAny_bind (wpAny_holding (kun_draw hlt i 0 _ _ ⟨_, Heap.get?_push_size _ rfl, rfl, rfl⟩ (hl.push _) (by omega) fun h₁ hit₁ hs₁ => ?_))
  have hl₁ : h₁.IsList l items := (hl.push _).extBut hs₁.extBut hlt
  rw [Nat.zero_add] at hit₁
  obtain ⟨oi, hoi, _⟩ := id hit₁
  obtain ⟨ol, hol, _⟩ := id hl₁
  rw [List.drop_zero]
  have hfl : (items.toList.take i).length = i := by rw [List.length_take, Array.length_toList]; omega
  rw [if_neg (show ¬ ((items.toList.take i).length < i) by rw [hfl]; omega)]
  refine wpAny_bind (wpAny_holding (kun_collect (s := { s with heap := h₁ }) (T := "list_iterator") (.inr (.inr (.inl rfl))) (Walks.list (A := A.in1) hh s.heap.objs.size l hlt items) (fun j u st => st.1.typeIs) (k := i) (by omega) ⟨hit₁, hl₁⟩ (Heap.lt_size hoi) (Heap.lt_size hol) (fun h₂ tk hk => ?_) (by rw [sizeLine_eq]; omega)))
  have hrl : (items.toList.drop i).length = items.size - i := by rw [List.length_drop, Array.length_toList]
  have hmid : (items.toList.drop i).length - (n - 1 - i) = items.size + 1 - n := by rw [hrl]; omega
  show wpAny _ _ (if (items.toList.drop i).length < n - 1 - i then _ else _) _ _ _
  rw [if_neg (by rw [hrl]; omega)]
  show wpAny _ _ (newList ((items.toList.drop i).take ((items.toList.drop i).length - (n - 1 - i))) >>= fun d => pure (items.toList.take i ++ [d] ++ (items.toList.drop i).drop ((items.toList.drop i).length - (n - 1 - i)))) _ _ _
  rw [hmid]
  refine wpAny_bind (wpAny_newList (wpAny_pure ?_) (by rw [List.length_take, hrl, sizeLine_eq]; omega))
  refine h h₂ tk fun b o e => ?_
  have hb : b ≠ s.heap.objs.size := Nat.ne_of_lt (Heap.lt_size e)
  exact hk b o hb (hs₁.extBut b o hb (Heap.get?_push_of_some _ e))
end
section
variable {X : Cx}
/-- a, *b = e, e a list of one value or more -/
def gStar (K : PySem.W.Frag) (t : TGs) : TG := fun v σ H Q => ∃ (a : Addr) (x : V) (xs : List V), v = .ref a ∧ SqL K H a (x :: xs) ∧ xs.length < 16384 ∧ ∀ (D : Addr) (H' : Hp), H D = none → Same H H' → H' D = some (.lst xs) → t [x, .ref D] σ H' Q
theorem pg_star {es : List Expr} {k : Nat} {pos : Pos} {t : TGs} (hc : X.calm = true) (h : PGs X es t)
    (hn : (assignEach es X.env).length = 2 := by rfl) (hst : (assignEach es X.env).findIdx? (·.1) = some 1 := by rfl) : PG X (.Tuple es k pos) (gStar X.K t) := by
  refine ⟨fun pins s σ H v u Q I r hw => ?_⟩
  obtain ⟨a, x, xs, rfl, hq, hl, hw⟩ := hw
  cases r
  obtain ⟨its, rv, ht, hz⟩ := I.list hq
  cases rv with
  | cons rx rxs =>
    rename_i y ys
    have hlen := rxs.length
    rw [assign_Tuple]
    refine wpAny_bind (wpAny_standAt ?_)
    unfold unpack
    rw [hn, hst]
    refine wpAny_bind (wpAny_holding (star_list ht.isList (I.ok.hd hc) (by decide) (by simp) (by simp; omega) fun h' tk hk => ?_))
    have e1 : (y :: ys).toArray.toList.take 1 = [y] := by simp
    have e2 : ((y :: ys).toArray.toList.drop 1).take ((y :: ys).toArray.size + 1 - 2) = ys := by simp
    have e3 : ((y :: ys).toArray.toList.drop 1).drop ((y :: ys).toArray.size + 1 - 2) = [] := by simp
    rw [e1, e2, e3, List.append_nil]
    have I1 : L2.Inv X pins σ H { s with heap := h', toks := tk } := I.kept (t' := tk) hk
    have free : H h'.objs.size = none := I1.hok.fresh (Nat.le_refl _)
    have I2 : L2.Inv X pins σ (upd H h'.objs.size (.lst xs)) { s with heap := h'.push { cls := .type "list", data := .seq ys.toArray }, toks := tk } :=
      I1.laid (t' := tk) (fun b u e => Heap.get?_push_of_some _ e) (Nat.le_refl _) ⟨by rw [sizeLine_eq]; omega, ys, 0, rxs, Heap.get?_push_size _ rfl⟩
    exact h.run pins _ σ _ _ _ Q I2 (.cons rx (.cons (show L2.RelV (.ref h'.objs.size) (.ref h'.objs.size) from rfl) .nil)) (hw _ _ free (Same.new (Same.refl H) free) upd_same)
end
end Sp
set_option Elab.async false
set_option linter.all false
set_option maxRecDepth 100000
set_option maxHeartbeats 4000000
namespace Sp
open PySem PySem.Spec PyProof.Rows L2
/-! ### enumerate(text) -/
def Ies (x : Str) : It := ⟨fun i _ => i < x.cps.size, fun i H v H' => ∃ T c, v = .ref T ∧ H T = none ∧ H' = upd H T (.tup [.int (i : Nat), .str ⟨#[c]⟩]) ∧ x.cps[i]? = some c, fun i _ => i = x.cps.size⟩
theorem turn_enumS {P : Program} {w : World} {K : PySem.W.Frag} {elts : List Expr} {kk : Nat} {tpos : Pos} (e it : Addr) (x : Str) (t : Tok) (ty : String) (hty : ty = "str_ascii_iterator" ∨ ty = "str_iterator") :
    Turn P w K (.Tuple elts kk tpos) (Ies x) [e, it] e (fun i h => (∃ old, IsEnum h e it ((i : Nat) : Int) old) ∧ h.IsStrIter it ty x t i ∧ e ≠ it) where
  mem := by simp
  obj := fun i h st b hb => by
    obtain ⟨⟨old, he⟩, ⟨o, ho, hc, hd⟩, _⟩ := st
    have e' : b = e ∨ b = it := by simpa using hb
    rcases e' with z | z
    · rw [z]; exact ⟨_, he, fun v q => nomatch q⟩
    · rw [z]; exact ⟨o, ho, fun v q => by rw [hd] at q; cases q⟩
  keep := fun i h h' st k => let ⟨⟨old, he⟩, ⟨o, ho, r⟩, hne⟩ := st; ⟨⟨old, k e (by simp) _ he⟩, ⟨o, k it (by simp) o ho, r⟩, hne⟩
  item := by
    intro X hP hw hK hc i pins s σ H E I hf st hg
    subst hP hw hK
    obtain ⟨⟨old, he⟩, hit, hne⟩ := st
    have D : Draws X.prog X.w X.A.in1 it [it] x.cps.size (SignAt x) (fun i h => h.IsStrIter it ty x t i) := by
      rcases hty with e | e
      · rw [e]; exact Draws.strAscii (A := X.A.in1) (I.ok.hd hc) it x t
      · rw [e]; exact Draws.strWide (A := X.A.in1) (I.ok.hd hc) it x t
    have hel : e < s.heap.objs.size := Heap.lt_size he
    have hil : it < s.heap.objs.size := by obtain ⟨_, q, _⟩ := hit; exact Heap.lt_size q
    refine wpAny_pyNext_enum_itemD D he hit hg hne (by simpa using hne) fun u h' tk hu ho hit' hT hsz hk => ?_
    obtain ⟨c, tc, hcx, rfl⟩ := hu
    refine ⟨_, rfl, wpAny_letOwnedTupleGo_enum (s := { s with heap := h', toks := tk + 1 }) ho fun h'' he' sb => ?_⟩
    have hT2 : h''.get? s.heap.objs.size = some { cls := .type "tuple", data := .seq #[.int i tk, .str ⟨#[c]⟩ tc] } := (sb.2 _ (Nat.ne_of_gt hel)).trans hT
    have new : ObjOk X.prog X.w (upd H s.heap.objs.size (.tup [.int (i : Nat), .str ⟨#[c]⟩])) h'' s.heap.objs.size (.tup [.int (i : Nat), .str ⟨#[c]⟩]) :=
      ⟨by show 2 ≤ sizeLine; decide, [.int i tk, .str ⟨#[c]⟩ tc], .cons ⟨_, rfl⟩ (.cons ⟨_, rfl⟩ .nil), ⟨_, hT2, rfl, _, rfl⟩⟩
    have I1 : L2.Inv X pins σ (upd H s.heap.objs.size (.tup [.int (i : Nat), .str ⟨#[c]⟩])) { s with heap := h'', toks := tk + 1 } :=
      I.turnedNew (ch := [e, it]) (fun b ob hb q => (sb.2 b (fun z => hb (by simp [z]))).trans (hk b ob (fun z => hb (by simp [z])) (fun z => hb (by simp [z])) q)) hf (Nat.le_refl _) new
    obtain ⟨oi, h1, h2, h3⟩ := hit'
    refine ⟨.ref s.heap.objs.size, _, I1, rfl, ⟨_, c, rfl, I.hok.fresh (Nat.le_refl _), rfl, hcx⟩, ⟨⟨.str ⟨#[c]⟩ tc, ?_⟩, ⟨oi, (sb.2 it (Ne.symm hne)).trans h1, h2, h3⟩, hne⟩, fun b hb => ?_⟩
    · have e1 : ((i + 1 : Nat) : Int) = (i : Int) + 1 := by omega
      rw [e1]; exact he'
    · have hb' : b < s.heap.objs.size := by
        have e' : b = e ∨ b = it := by simpa using hb
        rcases e' with z | z
        · rw [z]; exact hel
        · rw [z]; exact hil
      rw [upd_ne (Nat.ne_of_lt hb')]
      exact (hf b hb).1
  done := by
    intro X hP hw hK hc i pins s σ H E I hf st hg
    subst hP hw hK
    obtain ⟨⟨old, he⟩, hit, hne⟩ := st
    have hg2 : i = x.cps.size := hg
    subst hg2
    have D : Draws X.prog X.w X.A.in1 it [it] x.cps.size (SignAt x) (fun i h => h.IsStrIter it ty x t i) := by
      rcases hty with e | e
      · rw [e]; exact Draws.strAscii (A := X.A.in1) (I.ok.hd hc) it x t
      · rw [e]; exact Draws.strWide (A := X.A.in1) (I.ok.hd hc) it x t
    obtain ⟨f0, f1, f2, f3, f4, f5⟩ := hf it (by simp)
    exact wpAny_pyNext_enum_endD D he hit fun h' eb => ⟨rfl, I.turned (t' := s.toks) (fun b o hb q => eb b o hb q) f0 f1 f3 f4 f5⟩
  self := fun A i s Q E st h => let ⟨⟨_, he⟩, _⟩ := st; wpAny_pyIter_enum he h
def iEnumS (ta : TA) : TI := fun σ H R => ta σ H fun vs H1 => ∃ x : Str, vs = [.str x] ∧ R (Ies x) H1
theorem pi_enumS {X : Cx} {e : Expr} {ta : TA} {p pos tpos : Pos} {elts : List Expr} {kk : Nat} (hg : Gl X "enumerate") (hm : X.mg "enumerate" = none) (ha : PA X [e] ta) (hs : starEach [e] X.env = [(false, eval e X.env)] := by rfl) :
    PI X (.Tuple elts kk tpos) (.Call (.Name "enumerate" p) [e] [] pos) (iEnumS ta) := by
  refine ⟨fun pins s σ H R I h => ?_⟩
  refine Call_ (ld_blt I hg hm boot_enumerate (PyProof.Rows.callWith_type1 (thn (ha.run pos pins s σ H _ I h) fun us s1 ⟨vs, H1, I1, r1, q1⟩ => ?_) hs rfl))
  obtain ⟨x, ex, q⟩ := q1
  subst ex
  cases r1 with
  | cons r rr =>
    cases rr
    obtain ⟨t, rfl⟩ := r
    refine call_enumerate_str fun h' he hit hsz hk => wpAny_pyIter_enum he ?_
    have I2 : L2.Inv X pins σ H1 { s1 with heap := h' } := I1.kept (t' := s1.toks) hk
    have hty : strIterType x = "str_ascii_iterator" ∨ strIterType x = "str_iterator" := by
      unfold strIterType
      split
      · exact .inl rfl
      · exact .inr rfl
    refine ⟨s1.heap.objs.size + 1, [s1.heap.objs.size + 1, s1.heap.objs.size], _, _, H1, rfl, I2, turn_enumS (s1.heap.objs.size + 1) s1.heap.objs.size x t _ hty, ⟨⟨.none, he⟩, hit, Nat.succ_ne_self _⟩, fun b hb => ?_, q⟩
    have e' : b = s1.heap.objs.size + 1 ∨ b = s1.heap.objs.size := by simpa using hb
    have hle : s1.heap.objs.size ≤ b := by
      rcases e' with z | z
      · rw [z]; exact Nat.le_add_right _ _
      · rw [z]; exact Nat.le_refl _
    exact I1.fpOk hle (I1.hok.fresh hle)
theorem walk_enumS {x : Str} : Walk (Ies x) x.cps.size (fun _ => True) (fun i H v H' => ∃ T c, v = .ref T ∧ H T = none ∧ H' = upd H T (.tup [.int (i : Nat), .str ⟨#[c]⟩]) ∧ x.cps[i]? = some c) :=
  ⟨fun _ _ hi _ => hi, fun _ _ => rfl, fun _ _ _ _ _ _ y => y⟩
end Sp
set_option Elab.async false
set_option linter.all false
set_option maxRecDepth 100000
set_option maxHeartbeats 4000000
/-! what stands in the heap, as data; readings over data -/
namespace Dl
open PySem PySem.Spec PyProof.Rows L2 Sp

inductive D where
  | non | bl (b : Bool) | int (i : Int) | str (z : Str)
  | tup (ds : List D) | lst (ds : List D)
  | dic (ks : List Key) (ds : List D)
  | obj (C : Addr) (ns : List Str) (ds : List D)
  | ty (n : String) | raw (a : Addr)
  | pur | cell (i : Nat) (ds : List D)

mutual
inductive Dt (K : PySem.W.Frag) (H : Hp) : V → D → Prop
  | non : Dt K H .non .non
  | bl (b : Bool) : Dt K H (.bl b) (.bl b)
  | int (i : Int) : Dt K H (.int i) (.int i)
  | str (x : Str) : Dt K H (.str x) (.str x)
  | ty (n : String) : Dt K H (.ty n) (.ty n)
  | raw (a : Addr) : Dt K H (.ref a) (.raw a)
  | tup {a : Addr} {xs : List V} {ds : List D} : SqT K H a xs → DtA K H xs ds → Dt K H (.ref a) (.tup ds)
  | lst {a : Addr} {xs : List V} {ds : List D} : H a = some (.lst xs) → DtA K H xs ds → Dt K H (.ref a) (.lst ds)
  | dic {a : Addr} {kvs : List (Key × V)} {ds : List D} : H a = some (.dK kvs) → DtA K H (kvs.map (·.2)) ds → Dt K H (.ref a) (.dic (kvs.map (·.1)) ds)
  | obj {a C dx : Addr} {fs : List (Str × V)} {ds : List D} : H a = some (.ins C dx fs) → DtA K H (fs.map (·.2)) ds → Dt K H (.ref a) (.obj C (fs.map (·.1)) ds)
inductive DtA (K : PySem.W.Frag) (H : Hp) : List V → List D → Prop
  | nil : DtA K H [] []
  | cons {v : V} {vs : List V} {d : D} {ds : List D} : Dt K H v d → DtA K H vs ds → DtA K H (v :: vs) (d :: ds)
end
section
variable {K : PySem.W.Frag} {H H' : Hp}
mutual
theorem Dt.same (s : Same H H') : ∀ {v : V} {d : D}, Dt K H v d → Dt K H' v d
  | _, _, .non => .non
  | _, _, .bl b => .bl b
  | _, _, .int i => .int i
  | _, _, .str x => .str x
  | _, _, .ty x => .ty x
  | _, _, .raw x => .raw x
  | _, _, .tup h hs => .tup (Same.tup s h) (DtA.same s hs)
  | _, _, .lst h hs => .lst (s _ _ h) (DtA.same s hs)
  | _, _, .dic h hs => .dic (s _ _ h) (DtA.same s hs)
  | _, _, .obj h hs => .obj (s _ _ h) (DtA.same s hs)
theorem DtA.same (s : Same H H') : ∀ {vs : List V} {ds : List D}, DtA K H vs ds → DtA K H' vs ds
  | _, _, .nil => .nil
  | _, _, .cons a b => .cons (Dt.same s a) (DtA.same s b)
end
theorem DtA.len : ∀ {vs : List V} {ds : List D}, DtA K H vs ds → vs.length = ds.length
  | _, _, .nil => rfl
  | _, _, .cons _ b => by rw [List.length_cons, List.length_cons, b.len]
theorem DtA.get : ∀ {vs : List V} {ds : List D} {i : Nat} {d : D}, DtA K H vs ds → ds[i]? = some d → ∃ v, vs[i]? = some v ∧ Dt K H v d
  | _, _, _, _, .nil, e => by simp at e
  | _, _, 0, _, .cons a _, e => by
    simp only [List.getElem?_cons_zero, Option.some.injEq] at e
    subst e
    exact ⟨_, rfl, a⟩
  | _, _, i + 1, _, .cons _ b, e => by
    obtain ⟨v, h1, h2⟩ := b.get (i := i) (by simpa using e)
    exact ⟨v, by simpa using h1, h2⟩
theorem DtA.getV : ∀ {vs : List V} {ds : List D} {i : Nat} {v : V}, DtA K H vs ds → vs[i]? = some v → ∃ d, ds[i]? = some d ∧ Dt K H v d
  | _, _, _, _, .nil, e => by simp at e
  | _, _, 0, _, .cons a _, e => by
    simp only [List.getElem?_cons_zero, Option.some.injEq] at e
    subst e
    exact ⟨_, rfl, a⟩
  | _, _, i + 1, _, .cons _ b, e => by
    obtain ⟨v, h1, h2⟩ := b.getV (i := i) (by simpa using e)
    exact ⟨v, by simpa using h1, h2⟩
theorem DtA.app : ∀ {vs us : List V} {ds es : List D}, DtA K H vs ds → DtA K H us es → DtA K H (vs ++ us) (ds ++ es)
  | _, _, _, _, .nil, b => b
  | _, _, _, _, .cons a r, b => .cons a (r.app b)
theorem DtA.drop : ∀ (n : Nat) {vs : List V} {ds : List D}, DtA K H vs ds → DtA K H (vs.drop n) (ds.drop n)
  | 0, _, _, h => h
  | _ + 1, _, _, .nil => .nil
  | n + 1, _, _, .cons _ b => b.drop n
theorem DtA.take : ∀ (n : Nat) {vs : List V} {ds : List D}, DtA K H vs ds → DtA K H (vs.take n) (ds.take n)
  | 0, _, _, _ => .nil
  | _ + 1, _, _, .nil => .nil
  | n + 1, _, _, .cons a b => .cons a (b.take n)
theorem DtA.ints : ∀ {vs : List V} {ns : List Int}, DtA K H vs (ns.map D.int) → vs = ns.map V.int
  | _, [], .nil => rfl
  | _, n :: ns, .cons a b => by
    cases a
    rw [b.ints]
    rfl
theorem DtA.strs : ∀ {vs : List V} {ns : List Str}, DtA K H vs (ns.map D.str) → vs = ns.map V.str
  | _, [], .nil => rfl
  | _, n :: ns, .cons a b => by
    cases a
    rw [b.strs]
    rfl
theorem DtA.bls : ∀ {vs : List V} {ns : List Bool}, DtA K H vs (ns.map D.bl) → vs = ns.map V.bl
  | _, [], .nil => rfl
  | _, n :: ns, .cons a b => by
    cases a
    rw [b.bls]
    rfl
theorem DtA.mkInts : ∀ ns : List Int, DtA K H (ns.map V.int) (ns.map D.int)
  | [] => .nil
  | n :: ns => .cons (.int n) (mkInts ns)
theorem DtA.mkStrs : ∀ ns : List Str, DtA K H (ns.map V.str) (ns.map D.str)
  | [] => .nil
  | n :: ns => .cons (.str n) (mkStrs ns)
theorem DtA.mkBls : ∀ ns : List Bool, DtA K H (ns.map V.bl) (ns.map D.bl)
  | [] => .nil
  | n :: ns => .cons (.bl n) (mkBls ns)
end

/-- the heap without what stands at these places, and without the tables of code objects -/
def isTbl : HO → Bool
  | .tbl _ => true
  | _ => false
def hid (A : List Addr) (H : Hp) : Hp := fun b => if b ∈ A then none else (H b).filter fun o => !isTbl o
section
variable {A B : List Addr} {H H' : Hp} {a : Addr} {o : HO}
theorem hid_in (h : hid A H a = some o) : a ∉ A ∧ H a = some o := by
  unfold hid at h
  by_cases q : a ∈ A
  · rw [if_pos q] at h
    cases h
  · rw [if_neg q] at h
    exact ⟨q, (Option.filter_eq_some_iff.mp h).1⟩
theorem hid_tbl (h : hid A H a = some o) : isTbl o = false := by
  unfold hid at h
  by_cases q : a ∈ A
  · rw [if_pos q] at h
    cases h
  · rw [if_neg q] at h
    simpa using (Option.filter_eq_some_iff.mp h).2
theorem hid_of (n : a ∉ A) (h : H a = some o) (t : isTbl o = false := by rfl) : hid A H a = some o := by
  unfold hid
  rw [if_neg n, h]
  simp [Option.filter, t]
theorem hid_sub (A : List Addr) (H : Hp) : Same (hid A H) H := fun _ _ h => (hid_in h).2
theorem hid_less (s : ∀ x ∈ B, x ∈ A) : Same (hid A H) (hid B H) := fun _ _ h => hid_of (fun q => (hid_in h).1 (s _ q)) (hid_in h).2 (hid_tbl h)
theorem hid_step (s : ∀ b o, b ∉ A → isTbl o = false → H b = some o → H' b = some o) : Same (hid A H) (hid A H') := fun b o h => hid_of (hid_in h).1 (s b o (hid_in h).1 (hid_tbl h) (hid_in h).2) (hid_tbl h)
theorem hid_same (s : Same H H') : Same (hid A H) (hid A H') := hid_step fun b o _ _ h => s b o h
end

/-- what may change while a def runs: the thing at p; where tb holds, the tables of code objects; inv is true all the time -/
structure Md where
  p : Option Addr
  tb : Bool
  inv : Hp → Prop
  same : ∀ H H', inv H → Same H H' → inv H'
  stay : ∀ H H', inv H → (∀ b o, H b = some o → some b = p ∨ (∀ xs, o ≠ .lst xs) → H' b = some o) → inv H'
  occ : ∀ H q, inv H → p = some q → ∃ xs, H q = some (.lst xs)
def Md.keep (m : Md) (H H' : Hp) : Prop := ∀ b o, some b ≠ m.p → (m.tb = true → isTbl o = false) → H b = some o → H' b = some o
def Md.ok (m : Md) (H : Hp) : Prop := m.inv H
def pureM : Md := ⟨none, false, fun _ => True, fun _ _ _ _ => trivial, fun _ _ _ _ => trivial, fun _ _ _ e => nomatch e⟩
section
variable {m : Md} {H H1 H2 : Hp}
theorem Md.keep.refl : m.keep H H := fun _ _ _ _ h => h
theorem Md.keep.trans (a : m.keep H H1) (b : m.keep H1 H2) : m.keep H H2 := fun c o n t h => b c o n t (a c o n t h)
theorem Md.keep.same (s : Same H H1) : m.keep H H1 := fun c o _ _ h => s c o h
theorem Md.ok.same (h : m.ok H) (s : Same H H1) : m.ok H1 := m.same _ _ h s
theorem keep_pure : pureM.keep H H1 ↔ Same H H1 := ⟨fun h b o e => h b o (fun q => nomatch q) (fun q => nomatch q) e, fun h b o _ _ e => h b o e⟩
theorem ok_pure : pureM.ok H := trivial
end

/-- where a reading stands: the written part, what may change, what is hidden, the heap at the def's start -/
structure Cxt where
  K : PySem.W.Frag
  m : Md
  A : List Addr
  H0 : Hp
abbrev Cs := List (Nat × Addr)
abbrev Rho := List (Option D)
/-- these places are taken, by lists -/
def Occ (A : List Addr) (H : Hp) : Prop := ∀ a ∈ A, ∃ xs, H a = some (.lst xs)
def Cxt.hd (C : Cxt) (cs : Cs) : List Addr := C.A ++ cs.map (·.2)
inductive Val (C : Cxt) (cs : Cs) (H : Hp) : V → D → Prop
  | c {v : V} {d : D} : Dt C.K (hid (C.hd cs) H) v d → Val C cs H v d
  | pur {p : Addr} : C.m.p = some p → Val C cs H (.ref p) .pur
  | cell {i : Nat} {a : Addr} {vs : List V} {ds : List D} : (i, a) ∈ cs → H a = some (.lst vs) → DtA C.K (hid (C.hd cs) H) vs ds → Val C cs H (.ref a) (.cell i ds)
/-- the heap is as it has to be -/
structure Good (C : Cxt) (cs : Cs) (H : Hp) : Prop where
  keep : C.m.keep C.H0 H
  ok : C.m.ok H
  pA : ∀ p, C.m.p = some p → p ∈ C.A
  occ : Occ C.A C.H0
  fresh : ∀ c ∈ cs, (∀ o, C.H0 c.2 = some o → C.m.tb = true ∧ isTbl o = true) ∧ ∃ xs, H c.2 = some (.lst xs)
  nd : (cs.map (·.2)).Nodup
/-- and the slots hold this data -/
structure R (C : Cxt) (cs : Cs) (H : Hp) (σ : L2.St) (ρ : Rho) : Prop where
  good : Good C cs H
  len : σ.length = ρ.length
  own : ∀ (j i : Nat) (ds : List D), ρ[j]? = some (some (D.cell i ds)) → i = j
  env : ∀ (i : Nat) (d : D), ρ[i]? = some (some d) → ∃ v, σ[i]? = some (some v) ∧ Val C cs H v d
section
variable {C : Cxt} {cs : Cs} {H H' : Hp} {σ : L2.St} {ρ : Rho} {v : V} {d : D}
theorem Good.pocc (g : Good C cs H) {p : Addr} (e : C.m.p = some p) : ∃ xs, H p = some (.lst xs) := C.m.occ _ _ g.ok e
theorem Good.hocc (g : Good C cs H) : Occ (C.hd cs) H := fun a h => by
  unfold Cxt.hd at h
  rcases List.mem_append.mp h with h | h
  · by_cases q : C.m.p = some a
    · exact g.pocc q
    · obtain ⟨xs, e⟩ := g.occ a h
      exact ⟨xs, g.keep a _ (fun w => q w.symm) (fun _ => rfl) e⟩
  · obtain ⟨c, hc, rfl⟩ := List.mem_map.mp h
    exact (g.fresh c hc).2
theorem Good.new (g : Good C cs H) {a : Addr} (h : H a = none) : a ∉ C.hd cs := fun q => by
  obtain ⟨xs, e⟩ := g.hocc a q
  rw [h] at e
  cases e
theorem Good.celln (g : Good C cs H) {c : Nat × Addr} (h : c ∈ cs) : c.2 ∉ C.A := fun q => by
  obtain ⟨xs, e⟩ := g.occ _ q
  exact nomatch ((g.fresh c h).1 _ e).2
theorem Good.cellp (g : Good C cs H) {c : Nat × Addr} (h : c ∈ cs) : some c.2 ≠ C.m.p := fun q => g.celln h (g.pA _ q.symm)
theorem Good.step (g : Good C cs H) (k : C.m.keep H H') (o : C.m.ok H') : Good C cs H' where
  keep := g.keep.trans k
  ok := o
  pA := g.pA
  occ := g.occ
  fresh := fun c hc => ⟨(g.fresh c hc).1, by
    obtain ⟨xs, e⟩ := (g.fresh c hc).2
    exact ⟨xs, k c.2 _ (g.cellp hc) (fun _ => rfl) e⟩⟩
  nd := g.nd
theorem Good.hstep (g : Good C cs H) (k : C.m.keep H H') : Same (hid (C.hd cs) H) (hid (C.hd cs) H') := hid_step fun b o n t h => k b o (fun q => n (by
  unfold Cxt.hd
  exact List.mem_append_left _ (g.pA _ q.symm))) (fun _ => t) h
theorem Val.step (g : Good C cs H) (k : C.m.keep H H') (h : Val C cs H v d) : Val C cs H' v d := by
  cases h with
  | c h => exact .c (h.same (g.hstep k))
  | pur e => exact .pur e
  | cell a b c => exact .cell a (k _ _ (g.cellp a) (fun _ => rfl) b) (c.same (g.hstep k))
theorem R.step (r : R C cs H σ ρ) (k : C.m.keep H H') (o : C.m.ok H') : R C cs H' σ ρ :=
  ⟨r.good.step k o, r.len, r.own, fun i d h => by
    obtain ⟨v, h1, h2⟩ := r.env i d h
    exact ⟨v, h1, h2.step r.good k⟩⟩
end

/-! ### what readings give -/
def WE (C : Cxt) (te : TE) (ρ : Rho) (P : D → Prop) : Prop := ∀ cs H σ, R C cs H σ ρ → ∀ Q : VK, (∀ v d H', C.m.keep H H' → C.m.ok H' → Val C cs H' v d → P d → Q v H') → te σ H Q
def WT (C : Cxt) (tt : TT) (ρ : Rho) (P : Bool → Prop) : Prop := ∀ cs H σ, R C cs H σ ρ → ∀ Q : Bool → Hp → Prop, (∀ b H', C.m.keep H H' → C.m.ok H' → P b → Q b H') → tt σ H Q
def WA (C : Cxt) (ta : TA) (ρ : Rho) (P : List D → Prop) : Prop := ∀ cs H σ, R C cs H σ ρ → ∀ Q : List V → Hp → Prop, (∀ vs ds H', C.m.keep H H' → C.m.ok H' → Paired (Val C cs H') vs ds → P ds → Q vs H') → ta σ H Q
def OpD (C : Cxt) (r : R2) (x y : D) (P : D → Prop) : Prop := ∀ cs H vx vy, Good C cs H → Val C cs H vx x → Val C cs H vy y → ∀ Q : VK, (∀ v d H', Same H H' → Val C cs H' v d → P d → Q v H') → r vx vy H Q
def UnD (C : Cxt) (r : V → Hp → VK → Prop) (x : D) (P : D → Prop) : Prop := ∀ cs H vx, Good C cs H → Val C cs H vx x → ∀ Q : VK, (∀ v d H', Same H H' → Val C cs H' v d → P d → Q v H') → r vx H Q
def CallD (C : Cxt) (r : List V → Hp → VK → Prop) (xs : List D) (P : D → Prop) : Prop := ∀ cs H vs, Good C cs H → Paired (Val C cs H) vs xs → ∀ Q : VK, (∀ v d H', Same H H' → Val C cs H' v d → P d → Q v H') → r vs H Q

section
variable {C : Cxt} {ρ : Rho} {P P' : D → Prop} {te ta tb : TE} {tt tu : TT} {PB : Bool → Prop} {tr : TA} {r : R2} {d : D} {i : Nat}
theorem w_mono (h : WE C te ρ P) (i : ∀ d, P d → P' d) : WE C te ρ P' := fun cs H σ r Q q => h cs H σ r Q fun v d H' a b c e => q v d H' a b c (i d e)
theorem w_var (h : ρ[i]? = some (some d)) (k : P d) : WE C (tVar i) ρ P := fun cs H σ r Q q => by
  obtain ⟨v, h1, h2⟩ := r.env i d h
  exact ⟨v, h1, q v d H .refl r.good.ok h2 k⟩
theorem w_int {i : Int} (k : P (.int i)) : WE C (tC (.int i)) ρ P := fun cs H σ r Q q => q _ _ H .refl r.good.ok (.c (.int i)) k
theorem w_str {z : Str} (k : P (.str z)) : WE C (tC (.str z)) ρ P := fun cs H σ r Q q => q _ _ H .refl r.good.ok (.c (.str z)) k
theorem w_bl {b : Bool} (k : P (.bl b)) : WE C (tC (.bl b)) ρ P := fun cs H σ r Q q => q _ _ H .refl r.good.ok (.c (.bl b)) k
theorem w_non (k : P .non) : WE C (tC .non) ρ P := fun cs H σ r Q q => q _ _ H .refl r.good.ok (.c .non) k
theorem w_ty {n : String} (k : P (.ty n)) : WE C (tC (.ty n)) ρ P := fun cs H σ r Q q => q _ _ H .refl r.good.ok (.c (.ty n)) k
theorem w_raw {a : Addr} (k : P (.raw a)) : WE C (tC (.ref a)) ρ P := fun cs H σ r Q q => q _ _ H .refl r.good.ok (.c (.raw a)) k
theorem w_op (h : WE C ta ρ fun x => WE C tb ρ fun y => OpD C r x y P) : WE C (tOp r ta tb) ρ P := fun cs H σ rr Q q =>
  h cs H σ rr _ fun vx x H1 k1 o1 hx hy => hy cs H1 σ (rr.step k1 o1) _ fun vy y H2 k2 o2 hy2 ho =>
    ho cs H2 vx vy ((rr.good.step k1 o1).step k2 o2) (hx.step (rr.good.step k1 o1) k2) hy2 Q fun v d H3 s c p => q v d H3 ((k1.trans k2).trans (.same s)) (o2.same s) c p
theorem w_un {r : V → Hp → VK → Prop} (h : WE C ta ρ fun x => UnD C r x P) : WE C (tUn r ta) ρ P := fun cs H σ rr Q q =>
  h cs H σ rr _ fun vx x H1 k1 o1 hx ho => ho cs H1 vx (rr.good.step k1 o1) hx Q fun v d H3 s c p => q v d H3 (k1.trans (.same s)) (o1.same s) c p
theorem w_nil {P : List D → Prop} (k : P []) : WA C tNil ρ P := fun cs H σ r Q q => q [] [] H .refl r.good.ok .nil k
theorem w_cons {P : List D → Prop} (h : WE C ta ρ fun x => WA C tr ρ fun xs => P (x :: xs)) : WA C (tCons ta tr) ρ P := fun cs H σ rr Q q =>
  h cs H σ rr _ fun vx x H1 k1 o1 hx hr => hr cs H1 σ (rr.step k1 o1) _ fun vs ds H2 k2 o2 hs p => q _ _ H2 (k1.trans k2) o2 (.cons (hx.step (rr.good.step k1 o1) k2) hs) p
theorem w_cb {rc : List V → Hp → VK → Prop} (h : WA C tr ρ fun xs => CallD C rc xs P) : WE C (tCB rc tr) ρ P := fun cs H σ rr Q q =>
  h cs H σ rr _ fun vs ds H1 k1 o1 hx ho => ho cs H1 vs (rr.good.step k1 o1) hx Q fun v d H3 s c p => q v d H3 (k1.trans (.same s)) (o1.same s) c p
theorem w_test (h : WE C te ρ fun x => ∃ b, x = .bl b ∧ PB b) : WT C (tTest te) ρ PB := fun cs H σ rr Q q =>
  h cs H σ rr _ fun v d H1 k1 o1 hv ⟨b, e, p⟩ => by
    subst e
    cases hv with
    | c hv =>
      cases hv
      exact ⟨b, rfl, q b H1 k1 o1 p⟩
theorem w_tb (h : WE C te ρ fun x => ∃ b, x = .bl b ∧ PB b) : WT C (tB te) ρ PB := w_test h
theorem w_and (h : WT C tt ρ fun b => if b = true then WT C tu ρ PB else PB false) : WT C (tAnd tt tu) ρ PB := fun cs H σ rr Q q =>
  h cs H σ rr _ fun b H1 k1 o1 p => by
    cases b with
    | true => exact iteT (p cs H1 σ (rr.step k1 o1) Q fun c H2 k2 o2 p2 => q c H2 (k1.trans k2) o2 p2)
    | false => exact iteF (q false H1 k1 o1 p)
theorem w_or (h : WT C tt ρ fun b => if b = true then PB true else WT C tu ρ PB) : WT C (tOr tt tu) ρ PB := fun cs H σ rr Q q =>
  h cs H σ rr _ fun b H1 k1 o1 p => by
    cases b with
    | true => exact iteT (q true H1 k1 o1 p)
    | false => exact iteF (p cs H1 σ (rr.step k1 o1) Q fun c H2 k2 o2 p2 => q c H2 (k1.trans k2) o2 p2)
theorem w_not (h : WT C tt ρ fun b => PB (!b)) : WT C (tNot tt) ρ PB := fun cs H σ rr Q q => h cs H σ rr _ fun b H1 k1 o1 p => q (!b) H1 k1 o1 p
theorem w_andV (h : WE C ta ρ fun x => ∃ b, x = .bl b ∧ if b = true then WE C tb ρ P else P (.bl false)) : WE C (tAndV ta tb) ρ P := fun cs H σ rr Q q =>
  h cs H σ rr _ fun v d H1 k1 o1 hv ⟨b, e, p⟩ => by
    subst e
    cases hv with
    | c hv =>
      cases hv
      refine ⟨b, rfl, ?_⟩
      cases b with
      | true => exact iteT (p cs H1 σ (rr.step k1 o1) Q fun v d H2 k2 o2 c p2 => q v d H2 (k1.trans k2) o2 c p2)
      | false => exact iteF (q _ _ H1 k1 o1 (.c (.bl false)) p)
theorem w_orV (h : WE C ta ρ fun x => ∃ b, x = .bl b ∧ if b = true then P (.bl true) else WE C tb ρ P) : WE C (tOrV ta tb) ρ P := fun cs H σ rr Q q =>
  h cs H σ rr _ fun v d H1 k1 o1 hv ⟨b, e, p⟩ => by
    subst e
    cases hv with
    | c hv =>
      cases hv
      refine ⟨b, rfl, ?_⟩
      cases b with
      | true => exact iteT (q _ _ H1 k1 o1 (.c (.bl true)) p)
      | false => exact iteF (p cs H1 σ (rr.step k1 o1) Q fun v d H2 k2 o2 c p2 => q v d H2 (k1.trans k2) o2 c p2)
theorem w_notV (h : WE C ta ρ fun x => ∃ b, x = .bl b ∧ P (.bl (!b))) : WE C (tNotV ta) ρ P := fun cs H σ rr Q q =>
  h cs H σ rr _ fun v d H1 k1 o1 hv ⟨b, e, p⟩ => by
    subst e
    cases hv with
    | c hv =>
      cases hv
      exact ⟨b, rfl, q _ _ H1 k1 o1 (.c (.bl _)) p⟩
theorem w_if (h : WT C tt ρ fun b => if b = true then WE C ta ρ P else WE C tb ρ P) : WE C (tIf tt ta tb) ρ P := fun cs H σ rr Q q =>
  h cs H σ rr _ fun b H1 k1 o1 p => by
    cases b with
    | true => exact iteT (p cs H1 σ (rr.step k1 o1) Q fun v d H2 k2 o2 c p2 => q v d H2 (k1.trans k2) o2 c p2)
    | false => exact iteF (p cs H1 σ (rr.step k1 o1) Q fun v d H2 k2 o2 c p2 => q v d H2 (k1.trans k2) o2 c p2)
end
end Dl
set_option Elab.async false
set_option linter.all false
set_option maxRecDepth 100000
set_option maxHeartbeats 4000000
/-! statements and defs over data -/
namespace Dl
open PySem PySem.Spec PyProof.Rows L2 Sp

/-- what a cell is worth behind the def -/
def frz : D → D
  | .cell _ ds => .lst ds
  | d => d
/-- what is wanted behind a statement -/
structure Out where
  nx : Rho → Prop
  rt : D → Prop
  bk : Rho → Prop := fun _ => False
  ct : Rho → Prop := fun _ => False
structure Fits (C : Cxt) (S : Hp) (O : Out) (D : Ends) : Prop where
  nx : ∀ cs H σ ρ, R C cs H σ ρ → Same S (hid (C.hd cs) H) → O.nx ρ → D.nx σ H
  rt : ∀ v d H, C.m.keep C.H0 H → C.m.ok H → Val C [] H v d → O.rt d → D.rt v H
  bk : ∀ cs H σ ρ, R C cs H σ ρ → Same S (hid (C.hd cs) H) → O.bk ρ → D.bk σ H
  ct : ∀ cs H σ ρ, R C cs H σ ρ → Same S (hid (C.hd cs) H) → O.ct ρ → D.ct σ H
def WS (C : Cxt) (ts : TS) (ρ : Rho) (O : Out) : Prop := ∀ S cs H σ, R C cs H σ ρ → Same S (hid (C.hd cs) H) → ∀ D, Fits C S O D → ts D σ H

section
variable {C : Cxt} {cs : Cs} {H H' : Hp} {σ : L2.St} {ρ ρ' : Rho} {v : V} {d : D} {i j : Nat} {te : TE} {tt : TT} {t u : TS} {O : Out} {P : D → Prop}
theorem Val.frz (g : Good C cs H) (h : Val C cs H v d) : Val C [] H v (frz d) := by
  have e : C.hd [] = C.A := by
    unfold Cxt.hd
    exact List.append_nil _
  have sub : Same (hid (C.hd cs) H) (hid (C.hd []) H) := hid_less fun x hx => by
    rw [e] at hx
    unfold Cxt.hd
    exact List.mem_append_left _ hx
  cases h with
  | c h =>
    have e2 : Dl.frz d = d := by cases h <;> rfl
    rw [e2]
    exact .c (h.same sub)
  | pur p => exact .pur p
  | cell a b c =>
    refine .c (.lst (hid_of ?_ b) (c.same sub))
    rw [e]
    exact g.celln a
/-- a slot takes a clean value -/
def Clean : D → Prop
  | .cell _ _ => False
  | .pur => False
  | _ => True
theorem Dt.clean {K : PySem.W.Frag} {H : Hp} {v : V} {d : D} (h : Dt K H v d) : Clean d := by cases h <;> trivial
theorem Val.dt {C : Cxt} {cs : Cs} {H : Hp} {v : V} {d : D} (h : Val C cs H v d) (k : Clean d) : Dt C.K (hid (C.hd cs) H) v d := by
  cases h with
  | c h => exact h
  | pur p => exact k.elim
  | cell _ _ _ => exact k.elim
theorem R.set (r : R C cs H σ ρ) (h : Val C cs H v d) (k : Clean d) : R C cs H (σ.set i (some v)) (ρ.set i (some d)) := by
  refine ⟨r.good, by rw [List.length_set, List.length_set, r.len], fun j l ds e => ?_, fun j d' e => ?_⟩
  · by_cases q : i = j
    · subst q
      by_cases z : i < ρ.length
      · rw [List.getElem?_set_self z] at e
        simp only [Option.some.injEq] at e
        subst e
        exact k.elim
      · rw [List.getElem?_eq_none (by simpa using z)] at e
        cases e
    · rw [List.getElem?_set_ne q] at e
      exact r.own j l ds e
  · by_cases q : i = j
    · subst q
      by_cases z : i < ρ.length
      · rw [List.getElem?_set_self z] at e
        simp only [Option.some.injEq] at e
        subst e
        exact ⟨v, by rw [List.getElem?_set_self (by rw [r.len]; exact z)], h⟩
      · rw [List.getElem?_eq_none (by simpa using z)] at e
        cases e
    · rw [List.getElem?_set_ne q] at e
      obtain ⟨w, h1, h2⟩ := r.env j d' e
      exact ⟨w, by rw [List.getElem?_set_ne q]; exact h1, h2⟩
/-- what is known may be forgotten -/
theorem R.forget (r : R C cs H σ ρ) (hl : ρ'.length = ρ.length) (h : ∀ (i : Nat) (d : D), ρ'[i]? = some (some d) → ρ[i]? = some (some d)) : R C cs H σ ρ' :=
  ⟨r.good, by rw [r.len, hl], fun j l ds e => r.own j l ds (h j _ e), fun i d e => r.env i d (h i d e)⟩

theorem s_nil (k : O.nx ρ) : WS C tNext ρ O := fun S cs H σ r sm D f => f.nx cs H σ ρ r sm k
theorem s_seq (h : WS C t ρ { O with nx := fun ρ' => WS C u ρ' O }) : WS C (tSeq t u) ρ O := fun S cs H σ r sm D f =>
  h S cs H σ r sm { D with nx := u D } ⟨fun cs' H' σ' ρ' r' sm' q => q S cs' H' σ' r' sm' D f, f.rt, f.bk, f.ct⟩
theorem s_mono {O' : Out} (h : WS C t ρ O') (nx : ∀ ρ, O'.nx ρ → O.nx ρ) (rt : ∀ d, O'.rt d → O.rt d) (bk : ∀ ρ, O'.bk ρ → O.bk ρ) (ct : ∀ ρ, O'.ct ρ → O.ct ρ) : WS C t ρ O := fun S cs H σ r sm D f =>
  h S cs H σ r sm D ⟨fun cs' H' σ' ρ' r' s' q => f.nx cs' H' σ' ρ' r' s' (nx _ q), fun v d H' a b c q => f.rt v d H' a b c (rt _ q), fun cs' H' σ' ρ' r' s' q => f.bk cs' H' σ' ρ' r' s' (bk _ q), fun cs' H' σ' ρ' r' s' q => f.ct cs' H' σ' ρ' r' s' (ct _ q)⟩
theorem s_ret (h : WE C te ρ fun d => O.rt (frz d)) : WS C (tRet te) ρ O := fun S cs H σ r sm D f =>
  h cs H σ r _ fun v d H' k o a q => f.rt v (frz d) H' (r.good.keep.trans k) o (a.frz (r.good.step k o)) q
theorem s_retN (h : O.rt .non) : WS C tRetN ρ O := fun S cs H σ r sm D f => f.rt .non .non H r.good.keep r.good.ok (.c .non) h
theorem s_drop (h : WE C te ρ fun _ => O.nx ρ) : WS C (tDrop te) ρ O := fun S cs H σ r sm D f => h cs H σ r _ fun v d H' k o _ q => f.nx cs H' σ ρ (r.step k o) (sm.trans (r.good.hstep k)) q
theorem s_if (h : WT C tt ρ fun b => if b = true then WS C t ρ O else WS C u ρ O) : WS C (tIfS tt t u) ρ O := fun S cs H σ r sm D f => h cs H σ r _ fun b H' k o q => by
  cases b with
  | true => exact iteT (q S cs H' σ (r.step k o) (sm.trans (r.good.hstep k)) D f)
  | false => exact iteF (q S cs H' σ (r.step k o) (sm.trans (r.good.hstep k)) D f)
theorem s_brk (h : O.bk ρ) : WS C tBreak ρ O := fun S cs H σ r sm D f => f.bk cs H σ ρ r sm h
theorem s_cont (h : O.ct ρ) : WS C tCont ρ O := fun S cs H σ r sm D f => f.ct cs H σ ρ r sm h
theorem s_never (h : False) : WS C tNever ρ O := h.elim

/-! targets -/
def WG (C : Cxt) (g : TG) (d : D) (ρ : Rho) (P : Rho → Prop) : Prop := ∀ cs H σ v, R C cs H σ ρ → Val C cs H v d → ∀ Q : L2.St → Hp → Prop, (∀ cs' σ' ρ' H', C.m.keep H H' → R C cs' H' σ' ρ' → Same (hid (C.hd cs) H) (hid (C.hd cs') H') → (∀ v d, Val C cs H v d → Val C cs' H' v d) → P ρ' → Q σ' H') → g v σ H Q
def WGs (C : Cxt) (g : TGs) (ds : List D) (ρ : Rho) (P : Rho → Prop) : Prop := ∀ cs H σ vs, R C cs H σ ρ → Paired (Val C cs H) vs ds → ∀ Q : L2.St → Hp → Prop, (∀ cs' σ' ρ' H', C.m.keep H H' → R C cs' H' σ' ρ' → Same (hid (C.hd cs) H) (hid (C.hd cs') H') → (∀ v d, Val C cs H v d → Val C cs' H' v d) → P ρ' → Q σ' H') → g vs σ H Q
theorem g_name {PR : Rho → Prop} (c : Clean d) (k : PR (ρ.set i (some d))) : WG C (gName i) d ρ PR := fun cs H σ v r h Q q => q cs _ _ H .refl (r.set h c) (Same.refl _) (fun _ _ x => x) k
theorem g_nil {PR : Rho → Prop} (k : PR ρ) : WGs C gNil [] ρ PR := fun cs H σ vs r h Q q => by
  cases h
  exact ⟨rfl, q cs σ ρ H .refl r (Same.refl _) (fun _ _ x => x) k⟩
theorem paired_imp {α β : Type} {p q : α → β → Prop} (h : ∀ a b, p a b → q a b) : ∀ {xs : List α} {ys : List β}, Paired p xs ys → Paired q xs ys
  | _, _, .nil => .nil
  | _, _, .cons a b => .cons (h _ _ a) (paired_imp h b)
theorem g_cons {PR : Rho → Prop} {g : TG} {gs : TGs} {ds : List D} (h : WG C g d ρ fun ρ' => WGs C gs ds ρ' PR) : WGs C (gCons g gs) (d :: ds) ρ PR := fun cs H σ vs r a Q q => by
  cases a with
  | cons a b =>
    exact ⟨_, _, rfl, h cs H σ _ r a _ fun cs1 σ1 ρ1 H1 k1 r1 m1 v1 p1 => p1 cs1 H1 σ1 _ r1 (paired_imp v1 b) Q fun cs2 σ2 ρ2 H2 k2 r2 m2 v2 p2 => q cs2 σ2 ρ2 H2 (k1.trans k2) r2 (m1.trans m2) (fun v d x => v2 v d (v1 v d x)) p2⟩
theorem DtA.paired {H : Hp} : ∀ {vs : List V} {ds : List D}, DtA C.K (hid (C.hd cs) H) vs ds → Paired (Val C cs H) vs ds
  | _, _, .nil => .nil
  | _, _, .cons a b => .cons (.c a) (DtA.paired b)
theorem g_tup {PR : Rho → Prop} {gs : TGs} {n : Nat} {ds : List D} (hn : ds.length = n) (h : WGs C gs ds ρ PR) : WG C (gTup C.K n gs) (.tup ds) ρ PR := fun cs H σ v r a Q q => by
  cases a with
  | c a =>
    cases a with
    | tup e b => exact ⟨_, _, rfl, Same.tup (hid_sub _ _) e, by rw [b.len, hn], h cs H σ _ r b.paired Q q⟩
theorem s_asg {g : TG} (h : WE C te ρ fun d => WG C g d ρ O.nx) : WS C (tAsg te g) ρ O := fun S cs H σ r sm D f =>
  h cs H σ r _ fun v d H1 k o a q => q cs H1 σ v (r.step k o) a _ fun cs' σ' ρ' H' k' r' m' _ p => f.nx cs' H' σ' ρ' r' ((sm.trans (r.good.hstep k)).trans m') p
theorem s_set (h : WE C te ρ fun d => Clean d ∧ O.nx (ρ.set i (some d))) : WS C (tAsg te (gName i)) ρ O := s_asg (w_mono h fun d q => g_name q.1 q.2)
theorem s_par {ta : TA} (h : WA C ta ρ fun ds => ∃ x y, ds = [x, y] ∧ Clean x ∧ Clean y ∧ O.nx ((ρ.set i (some x)).set j (some y))) : WS C (tPar i j ta) ρ O := fun S cs H σ r sm D f =>
  h cs H σ r _ fun vs ds H1 k o a q => by
    obtain ⟨x, y, rfl, c1, c2, q⟩ := q
    cases a with
    | cons a b =>
      cases b with
      | cons b c =>
        cases c
        exact ⟨_, _, rfl, f.nx cs H1 _ _ (((r.step k o).set a c1).set b c2) (sm.trans (r.good.hstep k)) q⟩
theorem s_aug {ti : TIp} {x : D} (hx : ρ[i]? = some (some x)) (h : WE C te ρ fun y => OpD C ti x y fun z => Clean z ∧ O.nx (ρ.set i (some z))) : WS C (tAug i te ti) ρ O := fun S cs H σ r sm D f => by
  obtain ⟨v, h1, h2⟩ := r.env i x hx
  exact ⟨v, h1, h cs H σ r _ fun w y H1 k o a q => q cs H1 v w (r.good.step k o) (h2.step r.good k) a _ fun z d H2 s c p => f.nx cs H2 _ _ (((r.step k o).step (.same s) (o.same s)).set c p.1) ((sm.trans (r.good.hstep k)).trans ((r.good.step k o).hstep (.same s))) p.2⟩

/-! a local list that grows: a cell -/
theorem nd_ne {cs : Cs} (nd : (cs.map (·.2)).Nodup) {i j : Nat} {a : Addr} (h1 : (i, a) ∈ cs) (h2 : (j, a) ∈ cs) : i = j := by
  induction cs with
  | nil => cases h1
  | cons c cs ih =>
    rw [List.map_cons, List.nodup_cons] at nd
    rcases List.mem_cons.mp h1 with e1 | h1
    · rcases List.mem_cons.mp h2 with e2 | h2
      · rw [← e1] at e2
        exact (congrArg Prod.fst e2).symm
      · exact (nd.1 (List.mem_map.mpr ⟨_, h2, by rw [← e1]⟩)).elim
    · rcases List.mem_cons.mp h2 with e2 | h2
      · exact (nd.1 (List.mem_map.mpr ⟨_, h1, by rw [← e2]⟩)).elim
      · exact ih nd.2 h1 h2
theorem hd_cons (C : Cxt) (cs : Cs) (c : Nat × Addr) : ∀ x, x ∈ C.hd (c :: cs) ↔ x = c.2 ∨ x ∈ C.hd cs := fun x => by
  unfold Cxt.hd
  simp only [List.map_cons, List.mem_append, List.mem_cons]
  constructor
  · rintro (h | h | h)
    · exact .inr (.inl h)
    · exact .inl h
    · exact .inr (.inr h)
  · rintro (h | h | h)
    · exact .inr (.inl h)
    · exact .inl h
    · exact .inr (.inr h)
/-- behind the making of a new object at p that is hidden from now on -/
theorem hid_new {cs : Cs} {c : Nat × Addr} {o : HO} (h : H c.2 = none) : Same (hid (C.hd cs) H) (hid (C.hd (c :: cs)) (upd H c.2 o)) := fun b u e => by
  obtain ⟨h1, h2⟩ := hid_in e
  have n : b ≠ c.2 := ne_of_none h2 h
  refine hid_of (fun q => ?_) (by rw [upd_ne n]; exact h2) (hid_tbl e)
  rcases (hd_cons C cs c b).mp q with q | q
  · exact n q
  · exact h1 q
theorem Good.cellNew (g : Good C cs H) {c : Nat × Addr} {xs : List V} (h : H c.2 = none) : Good C (c :: cs) (upd H c.2 (.lst xs)) := by
  have h0 : ∀ o, C.H0 c.2 = some o → C.m.tb = true ∧ isTbl o = true := fun o e => by
    have np : some c.2 ≠ C.m.p := fun q => by
      obtain ⟨xs, z⟩ := g.pocc q.symm
      rw [h] at z
      cases z
    cases w : C.m.tb with
    | false =>
      rw [g.keep c.2 o np (fun q => by rw [w] at q; cases q) e] at h
      cases h
    | true =>
      cases u : isTbl o with
      | true => exact ⟨rfl, rfl⟩
      | false =>
        rw [g.keep c.2 o np (fun _ => u) e] at h
        cases h
  have s : Same H (upd H c.2 (.lst xs)) := Same.new (Same.refl H) h
  refine ⟨g.keep.trans (.same s), g.ok.same s, g.pA, g.occ, fun x hx => ?_, ?_⟩
  · rcases List.mem_cons.mp hx with rfl | hx
    · exact ⟨h0, _, upd_same⟩
    · obtain ⟨z1, ys, z2⟩ := g.fresh x hx
      exact ⟨z1, ys, s _ _ z2⟩
  · rw [List.map_cons, List.nodup_cons]
    refine ⟨fun q => ?_, g.nd⟩
    obtain ⟨x, hx, e⟩ := List.mem_map.mp q
    obtain ⟨_, ys, z⟩ := g.fresh x hx
    rw [e, h] at z
    cases z
theorem Val.cellNew {c : Nat × Addr} {o : HO} (h : H c.2 = none) (a : Val C cs H v d) : Val C (c :: cs) (upd H c.2 o) v d := by
  cases a with
  | c a => exact .c (a.same (hid_new h))
  | pur p => exact .pur p
  | cell a b e =>
    have n := ne_of_none b h
    exact .cell (List.mem_cons_of_mem _ a) (by rw [upd_ne n]; exact b) (e.same (hid_new h))
/-- the list at a cell becomes another one -/
theorem hid_cell {i : Nat} {a : Addr} {o : HO} (h : (i, a) ∈ cs) : Same (hid (C.hd cs) H) (hid (C.hd cs) (upd H a o)) := hid_step fun b u n _ e => by
  have q : b ≠ a := fun w => n (by
    subst w
    unfold Cxt.hd
    exact List.mem_append_right _ (List.mem_map.mpr ⟨_, h, rfl⟩))
  rw [upd_ne q]
  exact e
theorem Good.cellPut (g : Good C cs H) {i : Nat} {a : Addr} {xs : List V} (h : (i, a) ∈ cs) : Good C cs (upd H a (.lst xs)) := by
  obtain ⟨_, ys, ea⟩ := g.fresh _ h
  refine ⟨fun b u n t e => ?_, C.m.stay _ _ g.ok fun b o e w => ?_, g.pA, g.occ, fun c hc => ⟨(g.fresh c hc).1, ?_⟩, g.nd⟩
  · have q : b ≠ a := fun w => by
      subst w
      have z := (g.fresh _ h).1 u e
      rw [t z.1] at z
      exact nomatch z.2
    rw [upd_ne q]
    exact g.keep b u n t e
  · have q : b ≠ a := fun z => by
      subst z
      rcases w with w | w
      · exact g.cellp h w
      · rw [ea] at e
        cases e
        exact w _ rfl
    rw [upd_ne q]
    exact e
  · by_cases q : c.2 = a
    · exact ⟨xs, by rw [q, upd_same]⟩
    · obtain ⟨zs, z⟩ := (g.fresh c hc).2
      exact ⟨zs, by rw [upd_ne q]; exact z⟩
theorem R.cellPut (r : R C cs H σ ρ) {a : Addr} {vs : List V} {ds ds0 : List D} (e : ρ[i]? = some (some (.cell i ds0))) (ea : σ[i]? = some (some (.ref a))) (h : (i, a) ∈ cs) (hs : DtA C.K (hid (C.hd cs) H) vs ds) :
    R C cs (upd H a (.lst vs)) σ (ρ.set i (some (.cell i ds))) := by
  have hi : i < ρ.length := (List.getElem?_eq_some_iff.mp e).1
  refine ⟨r.good.cellPut h, by rw [List.length_set, r.len], fun j l es z => ?_, fun j d z => ?_⟩
  · by_cases q : i = j
    · subst q
      rw [List.getElem?_set_self hi] at z
      simp only [Option.some.injEq, D.cell.injEq] at z
      exact z.1.symm
    · rw [List.getElem?_set_ne q] at z
      exact r.own j l es z
  · by_cases q : i = j
    · subst q
      rw [List.getElem?_set_self hi] at z
      simp only [Option.some.injEq] at z
      subst z
      exact ⟨_, ea, .cell h upd_same (hs.same (hid_cell h))⟩
    · rw [List.getElem?_set_ne q] at z
      obtain ⟨w, h1, h2⟩ := r.env j d z
      refine ⟨w, h1, ?_⟩
      cases h2 with
      | c h2 => exact .c (h2.same (hid_cell h))
      | pur p => exact .pur p
      | @cell l b us es x y c =>
        have en : l = j := r.own j l es z
        subst en
        have n : b ≠ a := fun w => q (nd_ne r.good.nd h (w ▸ x))
        exact .cell x (by rw [upd_ne n]; exact y) (c.same (hid_cell h))
/-- x = [..]: a new list that will grow; te gives a new list at any free place -/
def NewL (C : Cxt) (te : TE) (ρ : Rho) (P : List D → Prop) : Prop := ∀ cs H σ, R C cs H σ ρ → ∀ Q : VK, (∀ p vs ds H1, C.m.keep H H1 → C.m.ok H1 → H1 p = none → DtA C.K (hid (C.hd cs) H1) vs ds → P ds → Q (.ref p) (upd H1 p (.lst vs))) → te σ H Q
theorem R.setCell (r : R C cs H σ ρ) {p : Addr} {vs : List V} {ds : List D} (hp : H p = none) (hs : DtA C.K (hid (C.hd cs) H) vs ds) : R C ((i, p) :: cs) (upd H p (.lst vs)) (σ.set i (some (.ref p))) (ρ.set i (some (.cell i ds))) := by
  refine ⟨r.good.cellNew (c := (i, p)) hp, by rw [List.length_set, List.length_set, r.len], fun j l es z => ?_, fun j d z => ?_⟩
  · by_cases q : i = j
    · subst q
      by_cases w : i < ρ.length
      · rw [List.getElem?_set_self w] at z
        simp only [Option.some.injEq, D.cell.injEq] at z
        exact z.1.symm
      · rw [List.getElem?_eq_none (by simpa using w)] at z
        cases z
    · rw [List.getElem?_set_ne q] at z
      exact r.own j l es z
  · by_cases q : i = j
    · subst q
      by_cases w : i < ρ.length
      · rw [List.getElem?_set_self w] at z
        simp only [Option.some.injEq] at z
        subst z
        exact ⟨_, List.getElem?_set_self (by rw [r.len]; exact w), .cell (List.mem_cons_self ..) upd_same (hs.same (hid_new (c := (i, p)) hp))⟩
      · rw [List.getElem?_eq_none (by simpa using w)] at z
        cases z
    · rw [List.getElem?_set_ne q] at z
      obtain ⟨w, h1, h2⟩ := r.env j d z
      exact ⟨w, by rw [List.getElem?_set_ne q]; exact h1, h2.cellNew (c := (i, p)) hp⟩
theorem s_setCell (h : NewL C te ρ fun ds => O.nx (ρ.set i (some (.cell i ds)))) : WS C (tAsg te (gName i)) ρ O := fun S cs H σ r sm D f =>
  h cs H σ r _ fun p vs ds H1 k o hp hs q => f.nx ((i, p) :: cs) _ _ _ ((r.step k o).setCell hp hs) ((sm.trans (r.good.hstep k)).trans (hid_new (c := (i, p)) hp)) q
/-- x.append(e) -/
theorem s_app {ds : List D} (hx : ρ[i]? = some (some (.cell i ds))) (hz : ds.length < 1000000) (h : WE C te ρ fun d => Clean d ∧ O.nx (ρ.set i (some (.cell i (ds ++ [d]))))) :
    WS C (tDrop (tBM C.K "list" rAppend (tVar i) (tCons te tNil))) ρ O := fun S cs H σ r sm D f => by
  obtain ⟨v, h1, h2⟩ := r.env i _ hx
  cases h2 with
  | c h2 => cases h2
  | @cell _ a vs _ x y c =>
    refine ⟨_, h1, .inl ⟨rfl, _, .inl (.inl y)⟩, ?_⟩
    refine h cs H σ r _ fun w d H1 k o aw q => ?_
    have y1 := k _ _ (r.good.cellp x) (fun _ => rfl) y
    have c1 := c.same (r.good.hstep k)
    obtain ⟨q1, q2⟩ := q
    refine ⟨a, vs, w, rfl, rfl, y1, Nat.lt_of_lt_of_le (by rw [c.len]; exact hz) (by decide), f.nx cs _ σ _ ((r.step k o).cellPut hx h1 x (c1.app (.cons ?_ .nil))) ((sm.trans (r.good.hstep k)).trans (hid_cell x)) q2⟩
    exact aw.dt q1
/-- a cell that grows no more is a list like others -/
theorem s_freeze {ds : List D} (hx : ρ[i]? = some (some (.cell i ds))) (h : WS C t (ρ.set i (some (.lst ds))) O) : WS C t ρ O := fun S cs H σ r sm0 D f => by
  obtain ⟨v, h1, h2⟩ := r.env i _ hx
  have hi : i < ρ.length := (List.getElem?_eq_some_iff.mp hx).1
  cases h2 with
  | c h2 => cases h2
  | @cell _ a vs _ x y c =>
    let cs' := cs.filter fun c => decide (c.2 ≠ a)
    have mem : ∀ z, z ∈ cs' ↔ z ∈ cs ∧ z.2 ≠ a := fun z => by simp [cs']
    have sub : ∀ z, z ∈ C.hd cs' → z ∈ C.hd cs := fun z hz => by
      unfold Cxt.hd at hz ⊢
      rcases List.mem_append.mp hz with hz | hz
      · exact List.mem_append_left _ hz
      · obtain ⟨w, hw, e⟩ := List.mem_map.mp hz
        exact List.mem_append_right _ (List.mem_map.mpr ⟨w, ((mem w).mp hw).1, e⟩)
    have na : a ∉ C.hd cs' := fun hz => by
      unfold Cxt.hd at hz
      rcases List.mem_append.mp hz with hz | hz
      · exact r.good.celln x hz
      · obtain ⟨w, hw, e⟩ := List.mem_map.mp hz
        exact ((mem w).mp hw).2 e
    have sm : Same (hid (C.hd cs) H) (hid (C.hd cs') H) := hid_less sub
    have g' : Good C cs' H := ⟨r.good.keep, r.good.ok, r.good.pA, r.good.occ, fun c hc => r.good.fresh c ((mem c).mp hc).1, by
      have := r.good.nd
      exact List.Sublist.nodup (List.Sublist.map _ List.filter_sublist) this⟩
    refine h S cs' H σ ⟨g', by rw [List.length_set, r.len], fun j l es z => ?_, fun j d z => ?_⟩ (sm0.trans sm) D f
    · by_cases q : i = j
      · subst q
        rw [List.getElem?_set_self hi] at z
        simp only [Option.some.injEq] at z
        cases z
      · rw [List.getElem?_set_ne q] at z
        exact r.own j l es z
    · by_cases q : i = j
      · subst q
        rw [List.getElem?_set_self hi] at z
        simp only [Option.some.injEq] at z
        subst z
        exact ⟨_, h1, .c (.lst (hid_of na y) (c.same sm))⟩
      · rw [List.getElem?_set_ne q] at z
        obtain ⟨w, w1, w2⟩ := r.env j d z
        refine ⟨w, w1, ?_⟩
        cases w2 with
        | c w2 => exact .c (w2.same sm)
        | pur p => exact .pur p
        | @cell l b us es x2 y2 c2 =>
          have en : l = j := r.own j l es z
          subst en
          exact .cell ((mem _).mpr ⟨x2, fun w => q (nd_ne r.good.nd x (by rw [← w]; exact x2))⟩) y2 (c2.same sm)
end
end Dl
set_option Elab.async false
set_option linter.all false
set_option maxRecDepth 100000
set_option maxHeartbeats 4000000
/-! walks, loops, comprehensions over data -/
namespace Dl
open PySem PySem.Spec PyProof.Rows L2 Sp

structure Iter (C : Cxt) (J : It) (ds : List D) (S : Hp) : Prop where
  goes : ∀ cs H, Good C cs H → Same S (hid (C.hd cs) H) → ∀ i, i < ds.length → J.go i H
  stops : ∀ cs H, Good C cs H → Same S (hid (C.hd cs) H) → J.stop ds.length H
  yields : ∀ cs H, Good C cs H → Same S (hid (C.hd cs) H) → ∀ i v H', i < ds.length → J.yld i H v H' → ∃ d, ds[i]? = some d ∧ Same H H' ∧ Dt C.K (hid (C.hd cs) H') v d
def WI (C : Cxt) (wi : TI) (ρ : Rho) (P : List D → Prop) : Prop := ∀ cs H σ, R C cs H σ ρ → ∀ Rr : It → Hp → Prop, (∀ J ds H1, C.m.keep H H1 → C.m.ok H1 → Iter C J ds (hid (C.hd cs) H1) → P ds → Rr J H1) → wi σ H Rr
section
variable {C : Cxt} {cs : Cs} {H H' : Hp} {σ : L2.St} {ρ ρ' : Rho} {v : V} {d : D} {i j : Nat} {te tl : TE} {tt : TT} {t u tb : TS} {O : Out} {P : D → Prop} {wi : TI} {g : TG}
theorem s_for (h : WI C wi ρ fun ds => ∃ Pv : Nat → Rho → Prop, Pv 0 ρ ∧
    (∀ i d ρ', ds[i]? = some d → Clean d → Pv i ρ' → WG C g d ρ' fun ρ2 => WS C tb ρ2 { O with nx := Pv (i + 1), ct := Pv (i + 1), bk := O.nx }) ∧ ∀ ρ', Pv ds.length ρ' → O.nx ρ') : WS C (tFor wi g tb) ρ O := fun S cs H σ r sm D f =>
  h cs H σ r _ fun J ds H1 k1 o1 it ⟨Pv, p0, turn, fin⟩ => by
    have r1 := r.step k1 o1
    have sm1 : Same S (hid (C.hd cs) H1) := sm.trans (r.good.hstep k1)
    refine ⟨fun i m σ H => m = ds.length - i ∧ i ≤ ds.length ∧ ∃ cs' ρ', R C cs' H σ ρ' ∧ Same (hid (C.hd cs) H1) (hid (C.hd cs') H) ∧ Pv i ρ', ⟨ds.length, by simp, Nat.zero_le _, cs, ρ, r1, Same.refl _, p0⟩, ?_⟩
    rintro i m σ2 H2 ⟨rfl, hi, cs2, ρ2, r2, sm2, p⟩
    by_cases hlt : i < ds.length
    · refine .inr ⟨it.goes cs2 H2 r2.good sm2 i hlt, fun σ' H' => ∃ cs' ρ', R C cs' H' σ' ρ' ∧ Same (hid (C.hd cs) H1) (hid (C.hd cs') H') ∧ Pv (i + 1) ρ', ?_, fun v H3 y => ?_⟩
      · rintro σ' H' ⟨cs', ρ', a, b, c⟩
        exact ⟨ds.length - (i + 1), by omega, rfl, hlt, cs', ρ', a, b, c⟩
      · obtain ⟨d, hd, s3, hv⟩ := it.yields cs2 H2 r2.good sm2 i v H3 hlt y
        have k3 : C.m.keep H2 H3 := .same s3
        refine turn i d ρ2 hd hv.clean p cs2 H3 σ2 v (r2.step k3 (r2.good.ok.same s3)) (.c hv) _ fun cs4 σ4 ρ4 H4 k4 r4 m4 _ w => ?_
        have sm4 := ((sm2.trans (r2.good.hstep k3)).trans m4)
        exact w _ cs4 H4 σ4 r4 sm4 _ ⟨fun cs' H' σ' ρ' a b c => ⟨cs', ρ', a, b, c⟩, f.rt, fun cs' H' σ' ρ' a b c => f.nx cs' H' σ' ρ' a (sm1.trans b) c, fun cs' H' σ' ρ' a b c => ⟨cs', ρ', a, b, c⟩⟩
    · have e : i = ds.length := by omega
      subst e
      exact .inl ⟨it.stops cs2 H2 r2.good sm2, f.nx cs2 H2 σ2 ρ2 r2 (sm1.trans sm2) (fin ρ2 p)⟩

/-! what is walked -/
theorem Val.lst {ds : List D} (h : Val C cs H v (.lst ds)) : ∃ a vs, v = .ref a ∧ hid (C.hd cs) H a = some (.lst vs) ∧ DtA C.K (hid (C.hd cs) H) vs ds := by
  cases h with
  | c h =>
    cases h with
    | lst a b => exact ⟨_, _, rfl, a, b⟩
theorem Val.tup {ds : List D} (h : Val C cs H v (.tup ds)) : ∃ a vs, v = .ref a ∧ SqT C.K (hid (C.hd cs) H) a vs ∧ DtA C.K (hid (C.hd cs) H) vs ds := by
  cases h with
  | c h =>
    cases h with
    | tup a b => exact ⟨_, _, rfl, a, b⟩
theorem Val.int {i : Int} (h : Val C cs H v (.int i)) : v = .int i := by
  cases h with
  | c h =>
    cases h
    rfl
theorem Val.str {i : Str} (h : Val C cs H v (.str i)) : v = .str i := by
  cases h with
  | c h =>
    cases h
    rfl
theorem Val.bl {i : Bool} (h : Val C cs H v (.bl i)) : v = .bl i := by
  cases h with
  | c h =>
    cases h
    rfl
theorem Val.non (h : Val C cs H v .non) : v = .non := by
  cases h with
  | c h =>
    cases h
    rfl
theorem Val.ty {n : String} (h : Val C cs H v (.ty n)) : v = .ty n := by
  cases h with
  | c h =>
    cases h
    rfl
theorem Val.raw {n : Addr} (h : Val C cs H v (.raw n)) : v = .ref n := by
  cases h with
  | c h =>
    cases h
    rfl
theorem i_list {P : List D → Prop} (h : WE C tl ρ fun d => ∃ ds, d = .lst ds ∧ P ds) : WI C (iList C.K tl) ρ P := fun cs H σ r Rr q =>
  h cs H σ r _ fun v d H1 k o a ⟨ds, e, p⟩ => by
    subst e
    obtain ⟨l0, vs, rfl, h1, h2⟩ := a.lst
    have l := h2.len
    refine ⟨l0, rfl, ⟨vs, SqL.of (hid_in h1).2⟩, q _ ds H1 k o ⟨fun cs' H' g s i hi => ?_, fun cs' H' g s => ?_, fun cs' H' g s i v H'' hi y => ?_⟩ p⟩
    · exact ⟨vs, vs[i], SqL.of (hid_in (s _ _ h1)).2, List.getElem?_eq_getElem (by omega)⟩
    · exact ⟨vs, SqL.of (hid_in (s _ _ h1)).2, by omega⟩
    · obtain ⟨rfl, y⟩ := y
      have z := y vs (SqL.of (hid_in (s _ _ h1)).2)
      obtain ⟨d, e1, e2⟩ := h2.getV z
      exact ⟨d, e1, Same.refl _, e2.same s⟩
theorem i_tup {P : List D → Prop} (h : WE C tl ρ fun d => ∃ ds, d = .tup ds ∧ P ds) : WI C (iTup C.K tl) ρ P := fun cs H σ r Rr q =>
  h cs H σ r _ fun v d H1 k o a ⟨ds, e, p⟩ => by
    subst e
    obtain ⟨l0, vs, rfl, h1, h2⟩ := a.tup
    have l := h2.len
    have at_ : ∀ {cs' H'}, Same (hid (C.hd cs) H1) (hid (C.hd cs') H') → SqT C.K H' l0 vs := fun s => Same.tup (s.trans (hid_sub _ _)) h1
    refine ⟨l0, rfl, ⟨vs, Same.tup (hid_sub _ _) h1⟩, q _ ds H1 k o ⟨fun cs' H' g s i hi => ?_, fun cs' H' g s => ?_, fun cs' H' g s i v H'' hi y => ?_⟩ p⟩
    · exact ⟨vs, vs[i], at_ s, List.getElem?_eq_getElem (by omega)⟩
    · exact ⟨vs, at_ s, by omega⟩
    · obtain ⟨rfl, y⟩ := y
      have z := y vs (at_ s)
      obtain ⟨d, e1, e2⟩ := h2.getV z
      exact ⟨d, e1, Same.refl _, e2.same s⟩
def rngD (lo : Int) (n : Nat) : List D := (List.range n).map fun (i : Nat) => D.int (lo + (i : Int))
theorem rngD_len {lo : Int} {n : Nat} : (rngD lo n).length = n := by simp [rngD]
theorem rngD_at {lo : Int} {n i : Nat} (h : i < n) : (rngD lo n)[i]? = some (.int (lo + (i : Int))) := by simp [rngD, h]
theorem rngD_get {lo : Int} {n i : Nat} {d : D} (h : (rngD lo n)[i]? = some d) : i < n ∧ d = .int (lo + (i : Int)) := by
  have l := (List.getElem?_eq_some_iff.mp h).1
  rw [rngD_len] at l
  rw [rngD_at l] at h
  exact ⟨l, (Option.some.inj h).symm⟩
theorem iter_rng {lo : Int} {n : Nat} {S : Hp} : Iter C (Itr lo n) (rngD lo n) S := ⟨fun cs' H' g s i hi => by rw [rngD_len] at hi; exact hi, fun cs' H' g s => by rw [rngD_len]; exact Nat.le_refl n, fun cs' H' g s i v H'' hi y => by
  obtain ⟨rfl, rfl⟩ := y
  rw [rngD_len] at hi
  exact ⟨_, rngD_at hi, Same.refl _, .int _⟩⟩
theorem i_rng1 {ta : TA} {P : List D → Prop} (h : WA C ta ρ fun xs => ∃ j : Int, xs = [.int j] ∧ (-(2 ^ 62) ≤ j ∧ j < 2 ^ 62) ∧ P (rngD 0 j.toNat)) : WI C (iRng1 ta) ρ P := fun cs H σ r Rr q =>
  h cs H σ r _ fun vs ds H1 k o a ⟨j, e, b, p⟩ => by
    subst e
    cases a with
    | cons a c =>
      cases c
      rw [a.int]
      exact ⟨j, rfl, b.1, b.2, q _ _ H1 k o iter_rng p⟩
theorem i_rng2 {ta : TA} {P : List D → Prop} (h : WA C ta ρ fun xs => ∃ i j : Int, xs = [.int i, .int j] ∧ (-(2 ^ 62) ≤ i ∧ i < 2 ^ 62 ∧ -(2 ^ 62) ≤ j ∧ j < 2 ^ 62) ∧ P (rngD i (j - i).toNat)) : WI C (iRng2 ta) ρ P := fun cs H σ r Rr q =>
  h cs H σ r _ fun vs ds H1 k o a ⟨i, j, e, b, p⟩ => by
    subst e
    cases a with
    | cons a c =>
      cases c with
      | cons b c =>
        cases c
        rw [a.int, b.int]
        exact ⟨i, j, rfl, by assumption, q _ _ H1 k o iter_rng p⟩
def sgns (z : Str) : List D := z.cps.toList.map fun c => D.str ⟨#[c]⟩
theorem i_str {P : List D → Prop} (h : WE C te ρ fun d => ∃ z, d = .str z ∧ P (sgns z)) : WI C (iStr te) ρ P := fun cs H σ r Rr q =>
  h cs H σ r _ fun v d H1 k o a ⟨z, e, p⟩ => by
    subst e
    rw [a.str]
    have l : (sgns z).length = z.cps.size := by simp [sgns]
    refine ⟨z, rfl, q _ _ H1 k o ⟨fun cs' H' g s i hi => ?_, fun cs' H' g s => ?_, fun cs' H' g s i v H'' hi y => ?_⟩ p⟩
    · show i < z.cps.size
      rw [l] at hi
      exact hi
    · show z.cps.size ≤ _
      rw [l]
      exact Nat.le_refl _
    · obtain ⟨rfl, c, hc, rfl⟩ := y
      refine ⟨.str ⟨#[c]⟩, ?_, Same.refl _, .str _⟩
      simp [sgns, hc]

/-! comprehensions -/
def wipeD (ρ : Rho) : List Nat → Rho
  | [] => ρ
  | v :: vs => (wipeD ρ vs).set v none
theorem wipeD_length (ρ : Rho) : ∀ vs : List Nat, (wipeD ρ vs).length = ρ.length
  | [] => rfl
  | v :: vs => by unfold wipeD; rw [List.length_set, wipeD_length ρ vs]
theorem R.wipe (r : R C cs H σ ρ) : ∀ vs : List Nat, R C cs H (L2.wipe σ vs) (wipeD ρ vs)
  | [] => r
  | x :: vs => by
    have q := R.wipe r vs
    refine ⟨q.good, by unfold L2.wipe wipeD; rw [List.length_set, List.length_set, q.len], fun j l es z => ?_, fun j d z => ?_⟩
    · unfold wipeD at z
      by_cases e : x = j
      · subst e
        by_cases w : x < (wipeD ρ vs).length
        · rw [List.getElem?_set_self w] at z
          cases z
        · rw [List.getElem?_eq_none (by simpa using w)] at z
          cases z
      · rw [List.getElem?_set_ne e] at z
        exact q.own j l es z
    · unfold wipeD at z
      by_cases e : x = j
      · subst e
        by_cases w : x < (wipeD ρ vs).length
        · rw [List.getElem?_set_self w] at z
          cases z
        · rw [List.getElem?_eq_none (by simpa using w)] at z
          cases z
      · rw [List.getElem?_set_ne e] at z
        obtain ⟨w, h1, h2⟩ := q.env j d z
        exact ⟨w, by unfold L2.wipe; rw [List.getElem?_set_ne e]; exact h1, h2⟩
/-- a target of a comprehension: it stores names of the block alone -/
def WGc (C : Cxt) (g : TG) (vs : List Nat) (d : D) (ρ : Rho) (P : Rho → Prop) : Prop := ∀ cs H σ v, R C cs H (L2.wipe σ vs) ρ → Val C cs H v d → ∀ Q : L2.St → Hp → Prop, (∀ σ' ρ', L2.wipe σ' vs = L2.wipe σ vs → R C cs H σ' ρ' → P ρ' → Q σ' H) → g v (L2.wipe σ vs) H Q
theorem gc_name {PR : Rho → Prop} {j : Nat} (c : Clean d) (k : PR (ρ.set j (some d))) : WGc C (gName j) [j] d ρ PR := fun cs H σ v r h Q q => q _ _ (by
  show ((σ.set j none).set j (some v)).set j none = σ.set j none
  rw [List.set_set, List.set_set]) (r.set h c) k
theorem wl (te : TE) (h : WE C te ρ P) : WE C te ρ P := h
/-- the new list as it grows: I by the turn and what was made -/
theorem w_lc {vs : List Nat} {P : D → Prop} (h : WI C wi ρ fun ds => ds.length < 1000000 ∧ ∃ I : Nat → List D → Prop, I 0 [] ∧
    (∀ i d acc, ds[i]? = some d → Clean d → I i acc → WGc C g vs d (wipeD ρ vs) fun ρ2 => WT C tt ρ2 fun b => if b = true then WE C te ρ2 fun y => Clean y ∧ I (i + 1) (acc ++ [y]) else I (i + 1) acc) ∧ ∀ acc, acc.length ≤ ds.length → I ds.length acc → P (.lst acc)) : WE C (tLc wi g tt te vs) ρ P := fun cs H σ r Q q =>
  h cs H σ r _ fun J ds H1 k1 o1 it ⟨hl, I, p0, turn, fin⟩ Dl hD => by
    have r1 := r.step k1 o1
    have r2 := r1.wipe vs
    -- the list at Dl, hidden
    refine ⟨fun i m H => m = ds.length - i ∧ i ≤ ds.length ∧ Good C ((1000, Dl) :: cs) H ∧ Same (hid (C.hd cs) H1) (hid (C.hd ((1000, Dl) :: cs)) H) ∧ C.m.keep H1 H ∧ ∃ us acc, H Dl = some (.lst us) ∧ DtA C.K (hid (C.hd ((1000, Dl) :: cs)) H) us acc ∧ acc.length ≤ i ∧ I i acc,
      ⟨ds.length, by simp, Nat.zero_le _, r1.good.cellNew (c := (1000, Dl)) hD, hid_new (c := (1000, Dl)) hD, .same (Same.new (Same.refl _) hD), [], [], upd_same, .nil, Nat.le_refl _, p0⟩, ?_⟩
    rintro i m H2 ⟨rfl, hi, g2, sm2, k2, us, acc, e2, a2, l2, p2⟩
    have mem : (1000, Dl) ∈ (1000, Dl) :: cs := List.mem_cons_self ..
    by_cases hlt : i < ds.length
    · refine .inr ⟨it.goes _ H2 g2 sm2 i hlt, fun H' => Good C ((1000, Dl) :: cs) H' ∧ Same (hid (C.hd cs) H1) (hid (C.hd ((1000, Dl) :: cs)) H') ∧ C.m.keep H1 H' ∧ ∃ us acc, H' Dl = some (.lst us) ∧ DtA C.K (hid (C.hd ((1000, Dl) :: cs)) H') us acc ∧ acc.length ≤ i + 1 ∧ I (i + 1) acc, ?_, fun v H3 y => ?_⟩
      · rintro H' ⟨a, b, c, d⟩
        exact ⟨ds.length - (i + 1), by omega, rfl, hlt, a, b, c, d⟩
      · obtain ⟨d, hd, s3, hv⟩ := it.yields _ H2 g2 sm2 i v H3 hlt y
        have k3 : C.m.keep H2 H3 := .same s3
        -- the slots hold as before
        have rr : R C ((1000, Dl) :: cs) H3 (L2.wipe σ vs) (wipeD ρ vs) := ⟨g2.step k3 (g2.ok.same s3), r2.len, r2.own, fun j d' e => by
          obtain ⟨w, h1, h2⟩ := r2.env j d' e
          refine ⟨w, h1, ?_⟩
          have kk : C.m.keep H1 H3 := k2.trans k3
          cases h2 with
          | c h2 => exact .c (h2.same (sm2.trans (g2.hstep k3)))
          | pur p => exact .pur p
          | cell x y z => exact .cell (List.mem_cons_of_mem _ x) (kk _ _ (r1.good.cellp x) (fun _ => rfl) y) (z.same (sm2.trans (g2.hstep k3)))⟩
        refine turn i d acc hd hv.clean p2 _ H3 σ v rr (.c hv) _ fun σ4 ρ4 ew r4 w => ⟨ew, ?_⟩
        refine w _ H3 σ4 r4 _ fun b H5 k5 o5 p5 => ?_
        have e3 := k3 _ _ (g2.cellp mem) (fun _ => rfl) e2
        have e5 := k5 _ _ (rr.good.cellp mem) (fun _ => rfl) e3
        have sm5 := (sm2.trans (g2.hstep k3)).trans (rr.good.hstep k5)
        cases b with
        | true =>
          refine iteT (p5 _ H5 σ4 (r4.step k5 o5) _ fun y dy H6 k6 o6 hy q6 => ?_)
          have g5 := (r4.step k5 o5).good
          have e6 := k6 _ _ (g5.cellp mem) (fun _ => rfl) e5
          have g6 := g5.step k6 o6
          have sm6 := sm5.trans (g5.hstep k6)
          have a6 := ((a2.same (g2.hstep k3)).same (rr.good.hstep k5)).same (g5.hstep k6)
          refine ⟨us, e6, Nat.lt_of_lt_of_le (by rw [a2.len]; omega : us.length < 1000000) (by decide), g6.cellPut mem, sm6.trans (hid_cell mem), fun b' o' n' t' e' => ?_, us ++ [y], acc ++ [dy], upd_same, (a6.app (.cons ?_ .nil)).same (hid_cell mem), by simp; omega, q6.2⟩
          · have n : b' ≠ Dl := ne_of_none e' hD
            rw [upd_ne n]
            exact ((k2.trans k3).trans (k5.trans k6)) b' o' n' t' e'
          · exact hy.dt q6.1
        | false =>
          have a5 := (a2.same (g2.hstep k3)).same (rr.good.hstep k5)
          exact iteF ⟨(r4.step k5 o5).good, sm5, (k2.trans k3).trans k5, us, acc, e5, a5, by omega, p5⟩
    · have e : i = ds.length := by omega
      subst e
      refine .inl ⟨it.stops _ H2 g2 sm2, q _ (.lst acc) H2 (k1.trans k2) g2.ok (.c (.lst ?_ (a2.same (hid_less fun x hx => ?_)))) (fin acc l2 p2)⟩
      · exact hid_of (r1.good.new hD) e2
      · exact (hd_cons C cs (1000, Dl) x).mpr (.inr hx)
theorem t_yes {P : Bool → Prop} (h : P true) : WT C tYes ρ P := fun cs H σ r Q q => q true H .refl r.good.ok h
end
end Dl
set_option Elab.async false
set_option linter.all false
set_option maxRecDepth 100000
set_option maxHeartbeats 4000000
/-! promises, operators and built-ins over data -/
namespace Dl
open PySem PySem.Spec PyProof.Rows L2 Sp

/-! promises -/
abbrev GD := List D → (D → Prop) → Prop
def spF (K : PySem.W.Frag) (g : GD) : Sp := fun vs H Q _ => ∃ (A : List Addr) (ds : List D) (P : D → Prop), Occ A H ∧ DtA K (hid A H) vs ds ∧ g ds P ∧ ∀ d v H', P d → Same H H' → Dt K (hid A H') v d → Q v H'
def spQ (K : PySem.W.Frag) (pm : Addr → Md) (g : GD) : Sp := fun vs H Q _ => ∃ (p : Addr) (us : List V) (A : List Addr) (ds : List D) (P : D → Prop), vs = .ref p :: us ∧ p ∈ A ∧ (pm p).ok H ∧ Occ A H ∧ DtA K (hid A H) us ds ∧ g ds P ∧
  ∀ d v H', P d → (pm p).keep H H' → (pm p).ok H' → Dt K (hid A H') v d → Q v H'
def startD (N : List Str) (ds : List D) : Rho := ds.map some ++ List.replicate (N.length - ds.length) none
section
variable {C : Cxt} {cs : Cs} {H H' : Hp} {σ : L2.St} {ρ ρ' : Rho} {v : V} {d : D} {i j : Nat} {te ta tl : TE} {tt : TT} {tr : TA} {O : Out} {P : D → Prop}
theorem DtA.clean {K : PySem.W.Frag} {H : Hp} : ∀ {vs : List V} {ds : List D}, DtA K H vs ds → ∀ d ∈ ds, Clean d
  | _, _, .nil => fun _ h => nomatch h
  | _, _, .cons a b => fun d h => by
    rcases List.mem_cons.mp h with rfl | h
    · exact a.clean
    · exact DtA.clean b d h
theorem dta_of : ∀ {vs : List V} {ds : List D}, Paired (Val C cs H) vs ds → (∀ d ∈ ds, Clean d) → DtA C.K (hid (C.hd cs) H) vs ds
  | _, _, .nil, _ => .nil
  | _, _, .cons a b, h => .cons (a.dt (h _ (List.mem_cons_self ..))) (dta_of b fun d z => h d (List.mem_cons_of_mem _ z))
theorem Val.of (h : Dt C.K (hid (C.hd cs) H) v d) : Val C cs H v d := .c h
theorem w_call {g : GD} {E : XK} (h : WA C tr ρ fun ds => (∀ d ∈ ds, Clean d) ∧ g ds P) : WE C (tCall (spF C.K g) [] E tr) ρ P := fun cs H σ r Q q =>
  h cs H σ r _ fun vs ds H1 k1 o1 a ⟨cl, p⟩ => by
    have g1 := r.good.step k1 o1
    refine ⟨C.hd cs, ds, P, g1.hocc, ?_, p, fun d v H2 pd s h2 => q v d H2 (k1.trans (.same s)) (o1.same s) (.c h2) pd⟩
    rw [List.append_nil]
    exact dta_of a cl
theorem w_callQ {g : GD} {E : XK} {pm : Addr → Md} (hm : ∃ p, C.m = pm p ∧ (pm p).p = some p) (h : WA C tr ρ fun ds => ∃ es, ds = .pur :: es ∧ (∀ d ∈ es, Clean d) ∧ g es P) : WE C (tCall (spQ C.K pm g) [] E tr) ρ P := fun cs H σ r Q q =>
  h cs H σ r _ fun vs ds H1 k1 o1 a ⟨es, e, cl, p⟩ => by
    obtain ⟨p0, hm1, hm2⟩ := hm
    subst e
    have g1 := r.good.step k1 o1
    cases a with
    | cons a b =>
      cases a with
      | c a => exact a.clean.elim
      | @pur p1 e =>
        rw [hm1, hm2] at e
        obtain rfl := Option.some.inj e
        refine ⟨p0, _, C.hd cs, es, P, by rw [List.append_nil], ?_, by rw [← hm1]; exact o1, g1.hocc, dta_of b cl, p, fun d v H2 pd k o h2 => ?_⟩
        · unfold Cxt.hd
          exact List.mem_append_left _ (g1.pA _ (by rw [hm1, hm2]))
        · rw [← hm1] at k o
          exact q v d H2 (k1.trans k) o (.c h2) pd
theorem start_R {N : List Str} {vs : List V} {ds : List D} (h : DtA C.K (hid C.A H) vs ds) (g : Good C [] H) : R C [] H (L2.start N vs) (startD N ds) := by
  have l := h.len
  have e0 : C.hd [] = C.A := by
    unfold Cxt.hd
    exact List.append_nil _
  have get : ∀ (i : Nat) (d : D), (startD N ds)[i]? = some (some d) → ds[i]? = some d := fun i d e => by
    unfold startD at e
    rw [List.getElem?_append] at e
    split at e
    · rename_i hi
      rw [List.getElem?_map] at e
      cases q : ds[i]? with
      | none =>
        rw [q] at e
        cases e
      | some z =>
        rw [q] at e
        simpa using e
    · rw [List.getElem?_replicate] at e
      split at e <;> cases e
  refine ⟨g, by unfold L2.start startD; simp [l], fun j l2 es e => ?_, fun i d e => ?_⟩
  · have := get j _ e
    exact (h.clean _ (List.mem_of_getElem? this)).elim
  · have z := get i d e
    obtain ⟨v, h1, h2⟩ := h.get z
    refine ⟨v, ?_, .c (by rw [e0]; exact h2)⟩
    unfold L2.start
    have hi : i < (vs.map some).length := by
      have := (List.getElem?_eq_some_iff.mp h1).1
      simpa using this
    rw [List.getElem?_append_left hi, List.getElem?_map, h1]
    rfl
/-- a purse's arguments -/
theorem start_Q {N : List Str} {p : Addr} {vs : List V} {ds : List D} (hp : C.m.p = some p) (h : DtA C.K (hid C.A H) vs ds) (g : Good C [] H) : R C [] H (L2.start N (.ref p :: vs)) (startD N (.pur :: ds)) := by
  have l := h.len
  have e0 : C.hd [] = C.A := by
    unfold Cxt.hd
    exact List.append_nil _
  have get : ∀ (i : Nat) (d : D), (startD N (.pur :: ds))[i]? = some (some d) → (D.pur :: ds)[i]? = some d := fun i d e => by
    unfold startD at e
    rw [List.getElem?_append] at e
    split at e
    · rename_i hi
      rw [List.getElem?_map] at e
      cases q : (D.pur :: ds)[i]? with
      | none =>
        rw [q] at e
        cases e
      | some z =>
        rw [q] at e
        simpa using e
    · rw [List.getElem?_replicate] at e
      split at e <;> cases e
  refine ⟨g, by unfold L2.start startD; simp [l], fun j l2 es e => ?_, fun i d e => ?_⟩
  · have := get j _ e
    rcases List.mem_cons.mp (List.mem_of_getElem? this) with q | q
    · cases q
    · exact (h.clean _ q).elim
  · have z := get i d e
    have : ∃ v, (V.ref p :: vs)[i]? = some v ∧ Val C [] H v d := by
      cases i with
      | zero =>
        simp only [List.getElem?_cons_zero, Option.some.injEq] at z
        subst z
        exact ⟨_, rfl, .pur hp⟩
      | succ i =>
        obtain ⟨v, h1, h2⟩ := h.get (i := i) (by simpa using z)
        exact ⟨v, by simpa using h1, .c (by rw [e0]; exact h2)⟩
    obtain ⟨v, h1, h2⟩ := this
    refine ⟨v, ?_, h2⟩
    unfold L2.start
    have hi : i < ((V.ref p :: vs).map some).length := by
      have := (List.getElem?_eq_some_iff.mp h1).1
      simpa using this
    rw [List.getElem?_append_left hi, List.getElem?_map, h1]
    rfl
end
section
variable {P : Program} {w : World} {K : PySem.W.Frag} {mg : Str → Option Value} {base : Heap}
/-- a def that changes nothing that stood -/
theorem okF {x qual : Str} {st : Stmt} {f : Addr} {fd : FuncData} {N ps : List Str} {k : Nat} {g : GD} (F : Fun K x qual st f fd) (S : FnScope N ps (defScope st)) (len : ∀ ds P, g ds P → ds.length = ps.length)
    (hbody : ∀ (cdv : Value) (A : Around) (outer : List Env) (s : Shared) (H : Hp) (E : XK), Room k (A.deeper (envOfC qual (defScope st) s.heap.objs.size f cdv)) →
      ∃ t, PSs (cxOf CX0 P w K mg base N qual (defScope st) f cdv A outer s H E).nox (defBody st) t ∧ ∀ C : Cxt, C.K = K → C.m = pureM → ∀ ds P, (∀ d ∈ ds, Clean d) → g ds P → WS C t (startD N ds) { nx := fun _ => P .non, rt := P }) : FnOk P w K mg base CX0 (k + 1) f fd ps (spF K g) := by
  refine F.ok S (fun vs H Q E h => ?_) (fun cdv A outer s H vs Q E hr h => ?_)
  · obtain ⟨A, ds, P, _, h1, h2, _⟩ := h
    rw [h1.len]
    exact len ds P h2
  · obtain ⟨t, ht, hw⟩ := hbody cdv A outer s H E hr
    refine ⟨t, ht, ?_⟩
    obtain ⟨A, ds, P, occ, h1, h2, h3⟩ := h
    let C : Cxt := ⟨K, pureM, A, H⟩
    have e0 : C.hd [] = A := by
      unfold Cxt.hd
      exact List.append_nil _
    have g0 : Good C [] H := ⟨.refl, ok_pure, (fun _ e => nomatch e), occ, (fun _ h => nomatch h), List.nodup_nil⟩
    refine hw C rfl rfl ds P h1.clean h2 (fun _ => none) [] H _ (start_R h1 g0) (fun _ _ e => by cases e) _ ⟨fun cs' H' σ' ρ' r _ p => ?_, fun v d H' k o a p => ?_, fun _ _ _ _ _ _ e => e.elim, fun _ _ _ _ _ _ e => e.elim⟩
    · exact h3 .non .non H' p (keep_pure.mp r.good.keep) .non
    · refine h3 d v H' p (keep_pure.mp k) ?_
      cases a with
      | c a =>
        rw [e0] at a
        exact a
      | pur e => cases e
      | cell e _ _ => cases e
/-- a def that is handed a purse -/
theorem okQ {pm : Addr → Md} (hp : ∀ p, (pm p).p = some p) {x qual : Str} {st : Stmt} {f : Addr} {fd : FuncData} {N ps : List Str} {k : Nat} {g : GD} (F : Fun K x qual st f fd) (S : FnScope N ps (defScope st)) (len : ∀ ds P, g ds P → ds.length + 1 = ps.length)
    (hbody : ∀ (cdv : Value) (A : Around) (outer : List Env) (s : Shared) (H : Hp) (E : XK), Room k (A.deeper (envOfC qual (defScope st) s.heap.objs.size f cdv)) →
      ∃ t, PSs (cxOf CX0 P w K mg base N qual (defScope st) f cdv A outer s H E).nox (defBody st) t ∧ ∀ C : Cxt, C.K = K → (∃ p, C.m = pm p ∧ (pm p).p = some p) → ∀ ds P, (∀ d ∈ ds, Clean d) → g ds P → WS C t (startD N (.pur :: ds)) { nx := fun _ => P .non, rt := fun d => Clean d ∧ P d }) : FnOk P w K mg base CX0 (k + 1) f fd ps (spQ K pm g) := by
  refine F.ok S (fun vs H Q E h => ?_) (fun cdv A outer s H vs Q E hr h => ?_)
  · obtain ⟨p, us, A, ds, P, rfl, _, _, _, h1, h2, _⟩ := h
    rw [List.length_cons, h1.len]
    exact len ds P h2
  · obtain ⟨t, ht, hw⟩ := hbody cdv A outer s H E hr
    refine ⟨t, ht, ?_⟩
    obtain ⟨p, us, A, ds, P, rfl, pA, ok, occ, h1, h2, h3⟩ := h
    let C : Cxt := ⟨K, pm p, A, H⟩
    have e0 : C.hd [] = A := by
      unfold Cxt.hd
      exact List.append_nil _
    have g0 : Good C [] H := ⟨.refl, ok, fun q e => by
      rw [show C.m.p = some p from hp p] at e
      obtain rfl := Option.some.inj e
      exact pA, occ, (fun _ h => nomatch h), List.nodup_nil⟩
    refine hw C rfl ⟨p, rfl, hp p⟩ ds P h1.clean h2 (fun _ => none) [] H _ (start_Q (hp p) h1 g0) (fun _ _ e => by cases e) _ ⟨fun cs' H' σ' ρ' r _ q => ?_, fun v d H' k o a q => ?_, fun _ _ _ _ _ _ e => e.elim, fun _ _ _ _ _ _ e => e.elim⟩
    · exact h3 .non .non H' q r.good.keep r.good.ok .non
    · have z := a.dt q.1
      rw [e0] at z
      exact h3 d v H' q.2 k o z
end

/-! operators -/
section
variable {C : Cxt} {P : D → Prop} {cs : Cs} {H : Hp}
theorem o_int {g : Int → Int → Int} {i j : Int} (k : P (.int (g i j))) : OpD C (rI0 fun i j => .int (g i j)) (.int i) (.int j) P := fun cs H vx vy g0 hx hy Q q => by
  rw [hx.int, hy.int]
  exact ⟨i, j, rfl, rfl, q _ _ H (Same.refl H) (.c (.int _)) k⟩
theorem o_intC {R : Int → Int → Prop} {g : Int → Int → Int} {i j : Int} (c : R i j) (k : P (.int (g i j))) : OpD C (rI R fun i j => .int (g i j)) (.int i) (.int j) P := fun cs H vx vy g0 hx hy Q q => by
  rw [hx.int, hy.int]
  exact ⟨i, j, rfl, rfl, c, q _ _ H (Same.refl H) (.c (.int _)) k⟩
theorem o_cmp {g : Int → Int → Bool} {i j : Int} (k : P (.bl (g i j))) : OpD C (rI0 fun i j => .bl (g i j)) (.int i) (.int j) P := fun cs H vx vy g0 hx hy Q q => by
  rw [hx.int, hy.int]
  exact ⟨i, j, rfl, rfl, q _ _ H (Same.refl H) (.c (.bl _)) k⟩
theorem o_neg {g : Int → Int} {i : Int} (k : P (.int (g i))) : UnD C (rU fun i => .int (g i)) (.int i) P := fun cs H vx g0 hx Q q => by
  rw [hx.int]
  exact ⟨i, rfl, q _ _ H (Same.refl H) (.c (.int _)) k⟩
/-- values that == compares at once -/
def scV : D → Option V
  | .non => some .non
  | .bl b => some (.bl b)
  | .int i => some (.int i)
  | .str z => some (.str z)
  | _ => none
theorem Val.sc {v x : V} {d : D} (h : Val C cs H v d) (e : scV d = some x) : v = x := by
  cases d <;> cases e
  · exact h.non
  · exact h.bl
  · exact h.int
  · exact h.str
theorem o_eq {x y : D} {vx vy : V} (ex : scV x = some vx) (ey : scV y = some vy) (s : scal vx vy = true) (k : P (.bl (decide (vx = vy)))) : OpD C rEq x y P := fun cs H ux uy g0 hx hy Q q => by
  rw [hx.sc ex, hy.sc ey]
  exact ⟨s, q _ _ H (Same.refl H) (.c (.bl _)) k⟩
theorem o_ne {x y : D} {vx vy : V} (ex : scV x = some vx) (ey : scV y = some vy) (s : scal vx vy = true) (k : P (.bl (!decide (vx = vy)))) : OpD C rNe x y P := fun cs H ux uy g0 hx hy Q q => by
  rw [hx.sc ex, hy.sc ey]
  exact ⟨s, q _ _ H (Same.refl H) (.c (.bl _)) k⟩
/-- any two-place rule on texts -/
theorem o_strs {r : R2} {f : Str → Str → D} {i j : Str} (h : ∀ H Q, (∀ v, (∀ K H, Dt K H v (f i j)) → Q v H) → r (.str i) (.str j) H Q) (k : P (f i j)) : OpD C r (.str i) (.str j) P := fun cs H ux uy g0 hx hy Q q => by
  rw [hx.str, hy.str]
  exact h H Q fun v hv => q v _ H (Same.refl H) (.c (hv _ _)) k
theorem o_addS {i j : Str} (hz : i.length + j.length ≤ sizeLine) (k : P (.str (i ++ j))) : OpD C (fun x y H Q => ∃ i j, x = .str i ∧ y = .str j ∧ i.length + j.length ≤ sizeLine ∧ Q (.str (i ++ j)) H) (.str i) (.str j) P :=
  o_strs (f := fun i j => .str (i ++ j)) (fun H Q q => ⟨i, j, rfl, rfl, hz, q _ fun _ _ => .str _⟩) k
theorem o_ltS {i j : Str} (k : P (.bl (decide (i.cps.toList < j.cps.toList)))) : OpD C (fun x y H Q => ∃ i j, x = .str i ∧ y = .str j ∧ Q (.bl (decide (i.cps.toList < j.cps.toList))) H) (.str i) (.str j) P :=
  o_strs (f := fun i j => .bl _) (fun H Q q => ⟨i, j, rfl, rfl, q _ fun _ _ => .bl _⟩) k
theorem o_leS {i j : Str} (k : P (.bl (!decide (j.cps.toList < i.cps.toList)))) : OpD C (fun x y H Q => ∃ i j, x = .str i ∧ y = .str j ∧ Q (.bl (!decide (j.cps.toList < i.cps.toList))) H) (.str i) (.str j) P :=
  o_strs (f := fun i j => .bl _) (fun H Q q => ⟨i, j, rfl, rfl, q _ fun _ _ => .bl _⟩) k
/-- a list, as a value or a cell -/
def IsL (d : D) (ds : List D) : Prop := d = .lst ds ∨ ∃ i, d = .cell i ds
theorem Val.isL {v : V} {d : D} {ds : List D} (g : Good C cs H) (h : Val C cs H v d) (e : IsL d ds) : ∃ a vs, v = .ref a ∧ H a = some (.lst vs) ∧ DtA C.K (hid (C.hd cs) H) vs ds := by
  rcases e with rfl | ⟨i, rfl⟩
  · obtain ⟨a, vs, e1, e2, e3⟩ := h.lst
    exact ⟨a, vs, e1, (hid_in e2).2, e3⟩
  · cases h with
    | c h => cases h
    | cell a b c => exact ⟨_, _, rfl, b, c⟩
theorem newV {a : Addr} {vs : List V} {ds : List D} {Q : VK} (g : Good C cs H) (hs : DtA C.K (hid (C.hd cs) H) vs ds) (q : ∀ v d H', Same H H' → Val C cs H' v d → P d → Q v H') (k : P (.lst ds)) (hp : H a = none) : Q (.ref a) (upd H a (.lst vs)) := by
  have s : Same H (upd H a (.lst vs)) := Same.new (Same.refl H) hp
  exact q _ _ _ s (.c (.lst (hid_of (g.new hp) upd_same) (hs.same (hid_same s)))) k
theorem newT {a : Addr} {vs : List V} {ds : List D} {Q : VK} (g : Good C cs H) (hs : DtA C.K (hid (C.hd cs) H) vs ds) (q : ∀ v d H', Same H H' → Val C cs H' v d → P d → Q v H') (k : P (.tup ds)) (hp : H a = none) : Q (.ref a) (upd H a (.tup vs)) := by
  have s : Same H (upd H a (.tup vs)) := Same.new (Same.refl H) hp
  exact q _ _ _ s (.c (.tup (SqT.of (hid_of (g.new hp) upd_same)) (hs.same (hid_same s)))) k
theorem o_cat {x y : D} {xs ys : List D} (hx : IsL x xs) (hy : IsL y ys) (hz : xs.length + ys.length ≤ sizeLine) (k : P (.lst (xs ++ ys))) : OpD C rCat x y P := fun cs H ux uy g0 vx vy Q q => by
  obtain ⟨a, us, rfl, a1, a2⟩ := vx.isL g0 hx
  obtain ⟨b, ws, rfl, b1, b2⟩ := vy.isL g0 hy
  exact ⟨a, b, us, ws, rfl, rfl, a1, b1, by rw [a2.len, b2.len]; exact hz, fun p hp => newV g0 (a2.app b2) q k hp⟩
theorem o_catN {x y : D} {xs ys : List D} (hx : IsL x xs) (hy : IsL y ys) (hz : xs.length + ys.length ≤ sizeLine) (k : P (.lst (xs ++ ys))) : OpD C (fun x y H Q => ∃ l b xs zs, x = .ref l ∧ y = .ref b ∧ H l = some (.lst xs) ∧ H b = some (.lst zs) ∧ xs.length + zs.length ≤ sizeLine ∧ New (.lst (xs ++ zs)) Q H) x y P := fun cs H ux uy g0 vx vy Q q => by
  obtain ⟨a, us, rfl, a1, a2⟩ := vx.isL g0 hx
  obtain ⟨b, ws, rfl, b1, b2⟩ := vy.isL g0 hy
  refine ⟨a, b, us, ws, rfl, rfl, a1, b1, by rw [a2.len, b2.len]; exact hz, fun p H' hp s e => ?_⟩
  exact q _ _ H' s (.c (.lst (hid_of (g0.new hp) e) ((a2.app b2).same (hid_same s)))) k
theorem o_catT {xs ys : List D} (hz : xs.length + ys.length ≤ sizeLine) (k : P (.tup (xs ++ ys))) : OpD C (rCatA C.K) (.tup xs) (.tup ys) P := fun cs H ux uy g0 vx vy Q q => by
  obtain ⟨a, us, rfl, a1, a2⟩ := vx.tup
  obtain ⟨b, ws, rfl, b1, b2⟩ := vy.tup
  have l1 := a2.len
  have l2 := b2.len
  refine ⟨a, b, us, ws, rfl, rfl, Same.tup (hid_sub _ _) a1, Same.tup (hid_sub _ _) b1, by omega, fun e => ?_, fun _ e => ?_, fun _ _ p hp => newT g0 (a2.app b2) q k hp⟩
  · subst e
    obtain rfl : xs = [] := List.length_eq_zero_iff.mp l1.symm
    exact q _ _ H (Same.refl H) vy (by simpa using k)
  · subst e
    obtain rfl : ys = [] := List.length_eq_zero_iff.mp l2.symm
    exact q _ _ H (Same.refl H) vx (by simpa using k)
theorem o_rep {x : D} {xs : List D} {n : Int} (hx : IsL x xs) (hn : -(2 ^ 63) ≤ n ∧ n < 2 ^ 63) (hz : xs.length * n.toNat ≤ sizeLine) (k : P (.lst (List.replicate n.toNat xs).flatten)) : OpD C rRep x (.int n) P := fun cs H ux uy g0 vx vy Q q => by
  obtain ⟨a, us, rfl, a1, a2⟩ := vx.isL g0 hx
  rw [vy.int]
  have : ∀ m : Nat, DtA C.K (hid (C.hd cs) H) (List.replicate m us).flatten (List.replicate m xs).flatten := fun m => by
    induction m with
    | zero => exact .nil
    | succ m ih =>
      rw [List.replicate_succ, List.replicate_succ, List.flatten_cons, List.flatten_cons]
      exact a2.app ih
  exact ⟨a, n, us, rfl, rfl, a1, hn.1, hn.2, by rw [a2.len]; exact hz, fun p hp => newV g0 (this _) q k hp⟩
theorem atI_dt {K : PySem.W.Frag} {vs : List V} {ds : List D} {i : Int} {d : D} (h : DtA K H vs ds) (e : atI ds i = some d) : ∃ v, atI vs i = some v ∧ Dt K H v d := by
  unfold atI at e ⊢
  rw [h.len]
  cases z : ixN ds.length i with
  | none =>
    rw [z] at e
    cases e
  | some j =>
    rw [z] at e
    exact h.get e
theorem o_ixL {x : D} {xs : List D} {i : Int} {d : D} (hx : IsL x xs) (hi : atI xs i = some d) (k : Clean d → P d) : OpD C (rIxL C.K) x (.int i) P := fun cs H ux uy g0 vx vy Q q => by
  obtain ⟨a, us, rfl, a1, a2⟩ := vx.isL g0 hx
  rw [vy.int]
  obtain ⟨v, e1, e2⟩ := atI_dt a2 hi
  exact ⟨a, us, i, v, rfl, rfl, SqL.of a1, e1, q v d H (Same.refl H) (.c e2) (k e2.clean)⟩
theorem o_ixT {xs : List D} {i : Int} {d : D} (hi : atI xs i = some d) (k : Clean d → P d) : OpD C (rIxT C.K) (.tup xs) (.int i) P := fun cs H ux uy g0 vx vy Q q => by
  obtain ⟨a, us, rfl, a1, a2⟩ := vx.tup
  rw [vy.int]
  obtain ⟨v, e1, e2⟩ := atI_dt a2 hi
  exact ⟨a, us, i, v, rfl, rfl, Same.tup (hid_sub _ _) a1, e1, q v d H (Same.refl H) (.c e2) (k e2.clean)⟩
theorem o_ixS {z : Str} {i : Int} {c : Nat} (hz : z.length ≤ sizeLine) (hi : atI z.cps.toList i = some c) (k : P (.str ⟨#[c]⟩)) : OpD C rIxS (.str z) (.int i) P := fun cs H ux uy g0 vx vy Q q => by
  rw [vx.str, vy.int]
  exact ⟨z, i, c, rfl, rfl, hz, hi, q _ _ H (Same.refl H) (.c (.str _)) k⟩
/-- a scalar in a list or tuple of scalars -/
theorem DtA.scs {K : PySem.W.Frag} : ∀ {vs : List V} {ds : List D} {xs : List V}, DtA K H vs ds → ds.map scV = xs.map some → vs = xs
  | _, _, [], .nil, _ => rfl
  | _, _, x :: xs, .nil, e => by cases e
  | _, _, [], .cons _ _, e => by cases e
  | _, d :: _, x :: xs, .cons a b, e => by
    simp only [List.map_cons, List.cons.injEq] at e
    rw [DtA.scs b e.2]
    have e1 := e.1
    cases d <;> cases e1 <;> cases a <;> rfl
theorem o_in {neg : Bool} {x y : D} {vx : V} {ys : List D} {vs : List V} (ex : scV x = some vx) (hy : IsL y ys ∨ y = .tup ys) (es : ys.map scV = vs.map some) (k : P (.bl (if neg then !inV vx vs else inV vx vs))) : OpD C (rIn C.K neg) x y P := fun cs H ux uy g0 hx hv Q q => by
  rw [hx.sc ex]
  have fx : flatV vx = true := by cases x <;> cases ex <;> rfl
  have fs : vs.all flatV = true := by
    rw [List.all_eq_true]
    intro u hu
    have : some u ∈ vs.map some := List.mem_map.mpr ⟨u, hu, rfl⟩
    rw [← es] at this
    obtain ⟨d, _, e⟩ := List.mem_map.mp this
    cases d <;> cases e <;> rfl
  rcases hy with hy | rfl
  · obtain ⟨a, us, rfl, a1, a2⟩ := hv.isL g0 hy
    rw [a2.scs es] at a1
    exact ⟨a, vs, rfl, .inl (SqL.of a1), fx, fs, q _ _ H (Same.refl H) (.c (.bl _)) k⟩
  · obtain ⟨a, us, rfl, a1, a2⟩ := hv.tup
    rw [a2.scs es] at a1
    exact ⟨a, vs, rfl, .inr (Same.tup (hid_sub _ _) a1), fx, fs, q _ _ H (Same.refl H) (.c (.bl _)) k⟩
/-! == of data -/
mutual
def toP : D → Option PyData
  | .non => some .none
  | .bl b => some (.bool b)
  | .int i => some (.int i)
  | .str z => some (.str z)
  | .lst ds => (toPs ds).map PyData.list
  | .tup ds => (toPs ds).map PyData.tuple
  | .cell _ ds => (toPs ds).map PyData.list
  | _ => none
def toPs : List D → Option (List PyData)
  | [] => some []
  | d :: ds => (toP d).bind fun p => (toPs ds).map fun ps => p :: ps
end
mutual
theorem Dt.dp {K : PySem.W.Frag} {H H' : Hp} (s : Same H H') : ∀ {d : D} {v : V} {p : PyData}, Dt K H v d → toP d = some p → Dp K H' v p
  | .non, _, _, .non, e => by cases e; exact .non
  | .bl b, _, _, .bl _, e => by cases e; exact .bl b
  | .int i, _, _, .int _, e => by cases e; exact .int i
  | .str z, _, _, .str _, e => by cases e; exact .str z
  | .lst ds, _, _, .lst a b, e => by
    unfold toP at e
    obtain ⟨ps, h1, rfl⟩ := Option.map_eq_some_iff.mp e
    exact .lst (SqL.of (s _ _ a)) (DtA.dp s b h1)
  | .tup ds, _, _, .tup a b, e => by
    unfold toP at e
    obtain ⟨ps, h1, rfl⟩ := Option.map_eq_some_iff.mp e
    exact .tup (Same.tup s a) (DtA.dp s b h1)
  | .dic _ _, _, _, _, e => by cases e
  | .obj _ _ _, _, _, _, e => by cases e
  | .ty _, _, _, _, e => by cases e
  | .raw _, _, _, _, e => by cases e
  | .pur, _, _, h, _ => by cases h
  | .cell _ _, _, _, h, _ => by cases h
theorem DtA.dp {K : PySem.W.Frag} {H H' : Hp} (s : Same H H') : ∀ {ds : List D} {vs : List V} {ps : List PyData}, DtA K H vs ds → toPs ds = some ps → DpAll K H' vs ps
  | [], _, _, .nil, e => by cases e; exact .nil
  | d :: ds, _, _, .cons a b, e => by
    unfold toPs at e
    obtain ⟨p, h1, h2⟩ := Option.bind_eq_some_iff.mp e
    obtain ⟨ps, h3, rfl⟩ := Option.map_eq_some_iff.mp h2
    exact .cons (Dt.dp s a h1) (DtA.dp s b h3)
end
theorem Val.dp {v : V} {d : D} {p : PyData} (h : Val C cs H v d) (e : toP d = some p) : Dp C.K H v p := by
  cases h with
  | c h => exact h.dp (hid_sub _ _) e
  | pur _ => cases e
  | cell a b c =>
    unfold toP at e
    obtain ⟨ps, h1, rfl⟩ := Option.map_eq_some_iff.mp e
    exact .lst (SqL.of b) (c.dp (hid_sub _ _) h1)
theorem o_eqD {x y : D} {p q : PyData} (ex : toP x = some p) (ey : toP y = some q) (sx : SeqAt.shaped p = true) (sy : SeqAt.shaped q = true) (k : P (.bl (PyData.eqv p q))) : OpD C (rEqD C.K) x y P := fun cs H ux uy g0 hx hy Q qq =>
  ⟨p, q, hx.dp ex, hy.dp ey, sx, sy, qq _ _ H (Same.refl H) (.c (.bl _)) k⟩
theorem o_neD {x y : D} {p q : PyData} (ex : toP x = some p) (ey : toP y = some q) (sx : SeqAt.shaped p = true) (sy : SeqAt.shaped q = true) (k : P (.bl (!PyData.eqv p q))) : OpD C (rNeD C.K) x y P := fun cs H ux uy g0 hx hy Q qq =>
  ⟨p, q, hx.dp ex, hy.dp ey, sx, sy, qq _ _ H (Same.refl H) (.c (.bl _)) k⟩
end
end Dl
set_option Elab.async false
set_option linter.all false
set_option maxRecDepth 100000
set_option maxHeartbeats 4000000
/-! displays, slices, built-ins over data -/
namespace Dl
open PySem PySem.Spec PyProof.Rows L2 Sp
section
variable {C : Cxt} {cs : Cs} {H H' : Hp} {σ : L2.St} {ρ ρ' : Rho} {v : V} {d : D} {i j : Nat} {te ta tb tl : TE} {tt : TT} {tr : TA} {O : Out} {P : D → Prop} {rc : List V → Hp → VK → Prop}
theorem w_tup (h : WA C tr ρ fun ds => ds.length ≤ sizeLine ∧ (∀ d ∈ ds, Clean d) ∧ P (.tup ds)) : WE C (tTup tr) ρ P := fun cs H σ r Q q =>
  h cs H σ r _ fun vs ds H1 k1 o1 a ⟨l, c, p⟩ => by
    have g1 := r.good.step k1 o1
    have z := dta_of a c
    refine ⟨by rw [z.len]; exact l, fun p0 hp => ?_⟩
    exact newT g1 z (fun v d H' s w p => q v d H' (k1.trans (.same s)) (o1.same s) w p) p hp
theorem w_lst (h : WA C tr ρ fun ds => ds.length ≤ sizeLine ∧ (∀ d ∈ ds, Clean d) ∧ P (.lst ds)) : WE C (tLst tr) ρ P := fun cs H σ r Q q =>
  h cs H σ r _ fun vs ds H1 k1 o1 a ⟨l, c, p⟩ => by
    have g1 := r.good.step k1 o1
    have z := dta_of a c
    refine ⟨by rw [z.len]; exact l, fun p0 hp => ?_⟩
    exact newV g1 z (fun v d H' s w p => q v d H' (k1.trans (.same s)) (o1.same s) w p) p hp
theorem n_lst {P : List D → Prop} (h : WA C tr ρ fun ds => ds.length ≤ sizeLine ∧ (∀ d ∈ ds, Clean d) ∧ P ds) : NewL C (tLst tr) ρ P := fun cs H σ r Q q =>
  h cs H σ r _ fun vs ds H1 k1 o1 a ⟨l, c, p⟩ => by
    have z := dta_of a c
    exact ⟨by rw [z.len]; exact l, fun p0 hp => q p0 vs ds H1 k1 o1 hp z p⟩
theorem n_cat {P : List D → Prop} (h : WE C ta ρ fun x => WE C tb ρ fun y => ∃ xs ys, IsL x xs ∧ IsL y ys ∧ xs.length + ys.length ≤ sizeLine ∧ P (xs ++ ys)) : NewL C (tOp rCat ta tb) ρ P := fun cs H σ r Q q =>
  h cs H σ r _ fun vx x H1 k1 o1 hx hy => hy cs H1 σ (r.step k1 o1) _ fun vy y H2 k2 o2 hy2 ⟨xs, ys, ix, iy, hz, p⟩ => by
    have g2 := (r.good.step k1 o1).step k2 o2
    obtain ⟨a, us, rfl, a1, a2⟩ := (hx.step (r.good.step k1 o1) k2).isL g2 ix
    obtain ⟨b, ws, rfl, b1, b2⟩ := hy2.isL g2 iy
    exact ⟨a, b, us, ws, rfl, rfl, a1, b1, by rw [a2.len, b2.len]; exact hz, fun p0 hp => q p0 _ _ H2 (k1.trans k2) o2 hp (a2.app b2) p⟩
/-- a, b = [..], e with a growing -/
theorem s_parCell (hij : i ≠ j) (h : NewL C ta ρ fun ds => WE C tb ρ fun y => Clean y ∧ O.nx ((ρ.set i (some (.cell i ds))).set j (some y))) : WS C (tPar i j (tCons ta (tCons tb tNil))) ρ O := fun S cs H σ r sm D f =>
  h cs H σ r _ fun p vs ds H1 k o hp hs q => by
    have r1 := r.step k o
    have r2 : R C ((i, p) :: cs) (upd H1 p (.lst vs)) σ ρ := ⟨r1.good.cellNew (c := (i, p)) hp, r1.len, r1.own, fun j d e => by
      obtain ⟨w, e1, e2⟩ := r1.env j d e
      exact ⟨w, e1, e2.cellNew (c := (i, p)) hp⟩⟩
    have c2 : Val C ((i, p) :: cs) (upd H1 p (.lst vs)) (.ref p) (.cell i ds) := .cell (List.mem_cons_self ..) upd_same (hs.same (hid_new (c := (i, p)) hp))
    refine q _ _ σ r2 _ fun w y H2 k2 o2 hy q2 => ⟨_, _, rfl, ?_⟩
    have r3 := r2.step k2 o2
    have c3 := c2.step r2.good k2
    have sm3 := ((sm.trans (r.good.hstep k)).trans (hid_new (c := (i, p)) hp)).trans (r2.good.hstep k2)
    refine f.nx _ H2 _ _ (R.set ?_ hy q2.1) sm3 q2.2
    refine ⟨r3.good, by rw [List.length_set, List.length_set, r3.len], fun l m es z => ?_, fun l d z => ?_⟩
    · by_cases e : i = l
      · subst e
        by_cases w : i < ρ.length
        · rw [List.getElem?_set_self w] at z
          simp only [Option.some.injEq, Dl.D.cell.injEq] at z
          exact z.1.symm
        · rw [List.getElem?_eq_none (by simpa using w)] at z
          cases z
      · rw [List.getElem?_set_ne e] at z
        exact r3.own l m es z
    · by_cases e : i = l
      · subst e
        by_cases w : i < ρ.length
        · rw [List.getElem?_set_self w] at z
          simp only [Option.some.injEq] at z
          subst z
          exact ⟨_, List.getElem?_set_self (by rw [r3.len]; exact w), c3⟩
        · rw [List.getElem?_eq_none (by simpa using w)] at z
          cases z
      · rw [List.getElem?_set_ne e] at z
        obtain ⟨w, e1, e2⟩ := r3.env l d z
        exact ⟨w, by rw [List.getElem?_set_ne e]; exact e1, e2⟩
/-! slices -/
def WO (C : Cxt) (to : TO) (ρ : Rho) (P : Option Int → Prop) : Prop := ∀ cs H σ, R C cs H σ ρ → ∀ Q : Option Int → Hp → Prop, (∀ o H', C.m.keep H H' → C.m.ok H' → P o → Q o H') → to σ H Q
theorem p_none {P : Option Int → Prop} (h : P none) : WO C tNoPart ρ P := fun cs H σ r Q q => q none H .refl r.good.ok h
theorem p_some {P : Option Int → Prop} (h : WE C te ρ fun d => ∃ i, d = .int i ∧ P (some i)) : WO C (tPart te) ρ P := fun cs H σ r Q q =>
  h cs H σ r _ fun v d H1 k o a ⟨i, e, p⟩ => by
    subst e
    exact ⟨i, a.int, q _ H1 k o p⟩
/-- xs[lo:hi] of data, as of values -/
def cutD (ds : List D) (lo hi : Option Int) : List D := (ds.drop (HT.sIx ds.length 0 lo)).take (HT.sIx ds.length ds.length hi - HT.sIx ds.length 0 lo)
theorem DtA.cut {K : PySem.W.Frag} {H : Hp} {vs : List V} {ds : List D} (h : DtA K H vs ds) (lo hi : Option Int) : DtA K H (cutV vs lo hi) (cutD ds lo hi) := by
  unfold cutV cutD
  rw [h.len]
  exact (h.drop _).take _
theorem w_sl {rs : V → Option Int → Option Int → Hp → VK → Prop} {tlo thi : TO} (h : WE C te ρ fun x => WO C tlo ρ fun lo => WO C thi ρ fun hi => UnD C (fun v => rs v lo hi) x P) : WE C (tSl rs te tlo thi) ρ P := fun cs H σ r Q q =>
  h cs H σ r _ fun v d H1 k1 o1 a hl => hl cs H1 σ (r.step k1 o1) _ fun lo H2 k2 o2 hh => hh cs H2 σ ((r.step k1 o1).step k2 o2) _ fun hi H3 k3 o3 u => by
    have g1 := r.good.step k1 o1
    exact u cs H3 v ((g1.step k2 o2).step k3 o3) ((a.step g1 k2).step (g1.step k2 o2) k3) Q fun v d H4 s w p => q v d H4 (((k1.trans k2).trans k3).trans (.same s)) (o3.same s) w p
theorem u_slL {x : D} {xs : List D} {lo hi : Option Int} (hx : IsL x xs) (k : P (.lst (cutD xs lo hi))) : UnD C (fun v => rSlL C.K v lo hi) x P := fun cs H v g a Q q => by
  obtain ⟨l, us, rfl, e1, e2⟩ := a.isL g hx
  exact ⟨l, us, rfl, SqL.of e1, fun p hp => newV g (e2.cut lo hi) q k hp⟩
theorem cutD_whole {xs : List D} {lo hi : Option Int} (h : HT.sIx xs.length 0 lo = 0 ∧ HT.sIx xs.length xs.length hi = xs.length) : cutD xs lo hi = xs := by
  unfold cutD
  rw [h.1, h.2]
  simp
theorem u_slT {xs : List D} {lo hi : Option Int} (k : P (.tup (cutD xs lo hi))) : UnD C (fun v => rSlA C.K v lo hi) (.tup xs) P := fun cs H v g a Q q => by
  obtain ⟨l, us, rfl, e1, e2⟩ := a.tup
  refine ⟨l, us, rfl, Same.tup (hid_sub _ _) e1, fun w => ?_, fun _ p hp => newT g (e2.cut lo hi) q k hp⟩
  rw [e2.len] at w
  rw [cutD_whole w] at k
  exact q _ _ H (Same.refl H) a k
theorem u_slS {z : Str} {lo hi : Option Int} (hz : z.length ≤ sizeLine) (k : P (.str (cutS z lo hi))) : UnD C (fun v => rSlS v lo hi) (.str z) P := fun cs H v g a Q q => by
  rw [a.str]
  exact ⟨z, rfl, hz, q _ _ H (Same.refl H) (.c (.str _)) k⟩
/-! built-ins -/
theorem vals1 {vs : List V} {x : D} (h : Paired (Val C cs H) vs [x]) : ∃ v, vs = [v] ∧ Val C cs H v x := by
  cases h with
  | cons a b =>
    cases b
    exact ⟨_, rfl, a⟩
theorem vals2 {vs : List V} {x y : D} (h : Paired (Val C cs H) vs [x, y]) : ∃ v w, vs = [v, w] ∧ Val C cs H v x ∧ Val C cs H w y := by
  cases h with
  | cons a b =>
    obtain ⟨w, rfl, e⟩ := vals1 b
    exact ⟨_, w, rfl, a, e⟩
theorem c_len {x : D} {xs : List D} (hx : IsL x xs ∨ x = .tup xs) (k : P (.int (xs.length : Int))) : CallD C (fun xs H Q => ∃ p ys, xs = [.ref p] ∧ (SqL C.K H p ys ∨ SqT C.K H p ys) ∧ Q (.int ys.length) H) [x] P := fun cs H vs g aa Q q => by
  obtain ⟨v, rfl, a⟩ := vals1 aa
  rcases hx with hx | rfl
  · obtain ⟨l, us, rfl, e1, e2⟩ := a.isL g hx
    refine ⟨l, us, rfl, .inl (SqL.of e1), q _ _ H (Same.refl H) (.c (.int _)) ?_⟩
    rw [e2.len]
    exact k
  · obtain ⟨l, us, rfl, e1, e2⟩ := a.tup
    refine ⟨l, us, rfl, .inr (Same.tup (hid_sub _ _) e1), q _ _ H (Same.refl H) (.c (.int _)) ?_⟩
    rw [e2.len]
    exact k
theorem c_lenS {z : Str} (hz : z.length ≤ sizeLine) (k : P (.int (z.length : Int))) : CallD C (fun xs H Q => ∃ x n, xs = [x] ∧ LenV C.K x H n ∧ Q (.int n) H) [.str z] P := fun cs H vs g aa Q q => by
  obtain ⟨v, rfl, a⟩ := vals1 aa
  rw [a.str]
  exact ⟨_, z.length, rfl, ⟨hz, rfl⟩, q _ _ H (Same.refl H) (.c (.int _)) k⟩
/-- len of anything that has one -/
theorem c_lenA {x : D} {xs : List D} (hx : IsL x xs ∨ x = .tup xs) (k : P (.int (xs.length : Int))) : CallD C (fun xs H Q => ∃ x n, xs = [x] ∧ LenV C.K x H n ∧ Q (.int n) H) [x] P := fun cs H vs g aa Q q => by
  obtain ⟨v, rfl, a⟩ := vals1 aa
  rcases hx with hx | rfl
  · obtain ⟨l, us, rfl, e1, e2⟩ := a.isL g hx
    refine ⟨_, us.length, rfl, .inl ⟨us, SqL.of e1, rfl⟩, q _ _ H (Same.refl H) (.c (.int _)) ?_⟩
    rw [e2.len]
    exact k
  · obtain ⟨l, us, rfl, e1, e2⟩ := a.tup
    refine ⟨_, us.length, rfl, .inr ⟨us, Same.tup (hid_sub _ _) e1, rfl⟩, q _ _ H (Same.refl H) (.c (.int _)) ?_⟩
    rw [e2.len]
    exact k
theorem c_int {i : Int} (k : P (.int i)) : CallD C (fun xs H Q => (∃ i, xs = [.int i] ∧ Q (.int i) H) ∨ ∃ k, xs = [.bl k] ∧ Q (.int (if k then 1 else 0)) H) [.int i] P := fun cs H vs g aa Q q => by
  obtain ⟨v, rfl, a⟩ := vals1 aa
  rw [a.int]
  exact .inl ⟨i, rfl, q _ _ H (Same.refl H) (.c (.int _)) k⟩
theorem c_intB {b : Bool} (k : P (.int (if b then 1 else 0))) : CallD C (fun xs H Q => (∃ i, xs = [.int i] ∧ Q (.int i) H) ∨ ∃ k, xs = [.bl k] ∧ Q (.int (if k then 1 else 0)) H) [.bl b] P := fun cs H vs g aa Q q => by
  obtain ⟨v, rfl, a⟩ := vals1 aa
  rw [a.bl]
  exact .inr ⟨b, rfl, q _ _ H (Same.refl H) (.c (.int _)) k⟩
theorem c_abs {i : Int} (k : P (.int (if i < 0 then -i else i))) : CallD C (fun xs H Q => ∃ i, xs = [.int i] ∧ Q (.int (if i < 0 then -i else i)) H) [.int i] P := fun cs H vs g aa Q q => by
  obtain ⟨v, rfl, a⟩ := vals1 aa
  rw [a.int]
  exact ⟨i, rfl, q _ _ H (Same.refl H) (.c (.int _)) k⟩
theorem Val.bls {x : D} {bs : List Bool} (g : Good C cs H) (a : Val C cs H v x) (hx : IsL x (bs.map .bl)) : ∃ l, v = .ref l ∧ SqL C.K H l (bs.map V.bl) := by
  obtain ⟨l, us, rfl, e1, e2⟩ := a.isL g hx
  rw [e2.bls] at e1
  exact ⟨l, rfl, SqL.of e1⟩
theorem c_all {x : D} {bs : List Bool} (hx : IsL x (bs.map .bl)) (k : P (.bl (bs.all id))) : CallD C (rAll C.K) [x] P := fun cs H vs g aa Q q => by
  obtain ⟨v, rfl, a⟩ := vals1 aa
  obtain ⟨l, rfl, e⟩ := a.bls g hx
  exact ⟨l, bs, rfl, e, q _ _ H (Same.refl H) (.c (.bl _)) k⟩
theorem c_any {x : D} {bs : List Bool} (hx : IsL x (bs.map .bl)) (k : P (.bl (bs.any id))) : CallD C (rAny C.K) [x] P := fun cs H vs g aa Q q => by
  obtain ⟨v, rfl, a⟩ := vals1 aa
  obtain ⟨l, rfl, e⟩ := a.bls g hx
  exact ⟨l, bs, rfl, e, q _ _ H (Same.refl H) (.c (.bl _)) k⟩
theorem c_tuple {x : D} {xs : List D} (hx : IsL x xs ∨ x = .tup xs) (k : P (.tup xs)) : CallD C (fun xs H Q => ∃ p ys, xs = [.ref p] ∧ ((SqL C.K H p ys ∧ ∀ l, H l = none → Q (.ref l) (upd H l (.tup ys))) ∨ (SqT C.K H p ys ∧ Q (.ref p) H))) [x] P := fun cs H vs g aa Q q => by
  obtain ⟨v, rfl, a⟩ := vals1 aa
  rcases hx with hx | rfl
  · obtain ⟨l, us, rfl, e1, e2⟩ := a.isL g hx
    exact ⟨l, us, rfl, .inl ⟨SqL.of e1, fun p hp => newT g e2 q k hp⟩⟩
  · have a0 := a
    obtain ⟨l, us, rfl, e1, e2⟩ := a.tup
    exact ⟨l, us, rfl, .inr ⟨Same.tup (hid_sub _ _) e1, q _ _ H (Same.refl H) a0 k⟩⟩
theorem c_list {x : D} {xs : List D} (hx : IsL x xs ∨ x = .tup xs) (k : P (.lst xs)) : CallD C (fun xs H Q => ∃ p ys, xs = [.ref p] ∧ (SqL C.K H p ys ∨ SqT C.K H p ys) ∧ ∀ l, H l = none → Q (.ref l) (upd H l (.lst ys))) [x] P := fun cs H vs g aa Q q => by
  obtain ⟨v, rfl, a⟩ := vals1 aa
  rcases hx with hx | rfl
  · obtain ⟨l, us, rfl, e1, e2⟩ := a.isL g hx
    exact ⟨l, us, rfl, .inl (SqL.of e1), fun p hp => newV g e2 q k hp⟩
  · obtain ⟨l, us, rfl, e1, e2⟩ := a.tup
    exact ⟨l, us, rfl, .inr (Same.tup (hid_sub _ _) e1), fun p hp => newV g e2 q k hp⟩
theorem c_sortedS {x : D} {zs : List Str} (hx : IsL x (zs.map .str)) (hl : zs.length < 64) (k : ∀ ys : List Str, ys.Perm zs → sortedS ys = true → P (.lst (ys.map .str))) : CallD C (rSortedS C.K) [x] P := fun cs H vs g aa Q q => by
  obtain ⟨v, rfl, a⟩ := vals1 aa
  obtain ⟨l, us, rfl, e1, e2⟩ := a.isL g hx
  rw [e2.strs] at e1
  exact ⟨l, zs, rfl, SqL.of e1, hl, fun ys p h1 h2 hp => newV g (DtA.mkStrs ys) q (k ys h1 h2) hp⟩
theorem c_sortedI {x : D} {zs : List Int} (hx : IsL x (zs.map .int)) (k : ∀ ys : List Int, ys.Perm zs → ys.Pairwise (· ≤ ·) → P (.lst (ys.map .int))) : CallD C (rSortedI C.K) [x] P := fun cs H vs g aa Q q => by
  obtain ⟨v, rfl, a⟩ := vals1 aa
  obtain ⟨l, us, rfl, e1, e2⟩ := a.isL g hx
  rw [e2.ints] at e1
  exact ⟨l, zs, rfl, SqL.of e1, fun ys p h1 h2 hp => newV g (DtA.mkInts ys) q (k ys h1 h2) hp⟩
theorem c_maxI {x : D} {zs : List Int} (hx : IsL x (zs.map .int)) (hz : 0 < zs.length) (k : ∀ m, m ∈ zs → (∀ y, y ∈ zs → y ≤ m) → P (.int m)) : CallD C (rMax C.K) [x] P := fun cs H vs g aa Q q => by
  obtain ⟨v, rfl, a⟩ := vals1 aa
  obtain ⟨l, us, rfl, e1, e2⟩ := a.isL g hx
  rw [e2.ints] at e1
  exact ⟨l, zs, rfl, SqL.of e1, hz, fun m h1 h2 => q _ _ H (Same.refl H) (.c (.int _)) (k m h1 h2)⟩
theorem c_sumI {x : D} {zs : List Int} (hx : IsL x (zs.map .int)) (k : P (.int zs.sum)) : CallD C (rSum C.K) [x] P := fun cs H vs g aa Q q => by
  obtain ⟨v, rfl, a⟩ := vals1 aa
  obtain ⟨l, us, rfl, e1, e2⟩ := a.isL g hx
  rw [e2.ints] at e1
  exact ⟨l, zs, rfl, SqL.of e1, q _ _ H (Same.refl H) (.c (.int _)) k⟩
/-! isinstance -/
def tyD : D → Option String
  | .non => some "NoneType"
  | .bl _ => some "bool"
  | .int _ => some "int"
  | .str _ => some "str"
  | .tup _ => some "tuple"
  | .lst _ => some "list"
  | .cell _ _ => some "list"
  | .dic _ _ => some "dict"
  | _ => none
theorem tyX_tup {K : PySem.W.Frag} {H : Hp} {a : Addr} {xs : List V} (h : SqT K H a xs) : TyX K H (.ref a) (.type "tuple") := by
  rcases h with h | ⟨o, its, n, hk, hc, _⟩
  · rcases h with h | ⟨o, h⟩
    · exact .base (.tup h)
    · exact .fTuple h
  · exact .kTuple hk hc
theorem Dt.dicE {K : PySem.W.Frag} {ks : List Key} {ds : List D} (h : Dt K H v (.dic ks ds)) : ∃ a kvs, v = .ref a ∧ H a = some (.dK kvs) := by
  cases h with
  | dic e a => exact ⟨_, _, rfl, e⟩
theorem Val.tyX {t : String} (h : Val C cs H v d) (e : tyD d = some t) : TyX C.K H v (.type t) := by
  cases d <;> cases e
  · rw [h.non]; exact .base .non
  · rw [h.bl]; exact .base (.bl _)
  · rw [h.int]; exact .base (.int _)
  · rw [h.str]; exact .base (.str _)
  · obtain ⟨l, us, rfl, e1, e2⟩ := h.tup
    exact tyX_tup (Same.tup (hid_sub _ _) e1)
  · obtain ⟨l, us, rfl, e1, e2⟩ := h.lst
    exact .base (.lst (hid_in e1).2)
  · obtain ⟨a, kvs, rfl, e1⟩ := (h.dt trivial).dicE
    exact .base (.dK (hid_in e1).2)
  · cases h with
    | c h => cases h
    | cell a b c => exact .base (.lst b)
/-- isinstance(x, T), T built in -/
def rIsB (K : PySem.W.Frag) : List V → Hp → VK → Prop := fun xs H Q => ∃ (x : V) (t T : String) (b : Bool), xs = [x, .ty T] ∧ TyX K H x (.type t) ∧ kitB t T = some b ∧ Q (.bl b) H
theorem call_isB {X : Cx} : CallR X (.builtin "isinstance") (rIsB X.K) := CallR.imp call_isi fun xs H Q h => by
  obtain ⟨x, t, T, b, rfl, ty, k, q⟩ := h
  exact ⟨x, .ty T, .type t, .type T, b, rfl, .ty T, ty, kit_ty k, q⟩
theorem c_isB {T t : String} {b : Bool} (e : tyD d = some t) (kb : kitB t T = some b) (k : P (.bl b)) : CallD C (rIsB C.K) [d, .ty T] P := fun cs H vs g aa Q q => by
  obtain ⟨v, w, rfl, a, b'⟩ := vals2 aa
  rw [b'.ty]
  exact ⟨v, t, T, b, rfl, a.tyX e, kb, q _ _ H (Same.refl H) (.c (.bl _)) k⟩
/-- isinstance(x, C), C an own class, x of a built-in one -/
theorem c_isN {t : String} {A : Addr} {b : Bool} (e : tyD d = some t) (kb : PySem.W.kitOne C.K (.type t) (.ref A) = some b) (k : P (.bl b)) : CallD C (rIsi C.K) [d, .raw A] P := fun cs H vs g aa Q q => by
  obtain ⟨v, w, rfl, a, b'⟩ := vals2 aa
  rw [b'.raw]
  exact ⟨v, .ref A, .type t, .ref A, b, rfl, .own A, a.tyX e, kb, q _ _ H (Same.refl H) (.c (.bl _)) k⟩
/-! texts -/
theorem w_join {z : Str} (h : WE C te ρ fun x => ∃ ys : List Str, (IsL x (ys.map .str) ∨ x = .tup (ys.map .str)) ∧ (ys.map (·.length)).sum + ys.length * z.length ≤ 16777216 ∧ P (.str (Txt.join z ys))) :
    WE C (tM1 (fun x xs H Q => ∃ a p, ∃ ys : List Str, x = .str a ∧ xs = [.ref p] ∧ (SqL C.K H p (ys.map V.str) ∨ SqT C.K H p (ys.map V.str)) ∧ (ys.map (·.length)).sum + ys.length * a.length ≤ 16777216 ∧ Q (.str (Txt.join a ys)) H) (tC (.str z)) te) ρ P := fun cs H σ r Q q =>
  ⟨⟨_, rfl⟩, h cs H σ r _ fun v x H1 k o a ⟨ys, hx, hz, p⟩ => by
    have g1 := r.good.step k o
    rcases hx with hx | rfl
    · obtain ⟨l, us, rfl, e1, e2⟩ := a.isL g1 hx
      rw [e2.strs] at e1
      exact ⟨z, l, ys, rfl, rfl, .inl (SqL.of e1), hz, q _ _ H1 k o (.c (.str _)) p⟩
    · obtain ⟨l, us, rfl, e1, e2⟩ := a.tup
      rw [e2.strs] at e1
      exact ⟨z, l, ys, rfl, rfl, .inr (Same.tup (hid_sub _ _) e1), hz, q _ _ H1 k o (.c (.str _)) p⟩⟩
/-- a < b < c -/
theorem w_chain {r1 r2 : R2} {tc : TE} (h : WE C ta ρ fun x => WE C tb ρ fun y => OpD C r1 x y fun z => ∃ k, z = .bl k ∧ if k = true then WE C tc ρ fun w => OpD C r2 y w P else P (.bl false)) :
    WE C (tChain r1 r2 ta tb tc) ρ P := fun cs H σ rr Q q =>
  h cs H σ rr _ fun vx x H1 k1 o1 hx hy => hy cs H1 σ (rr.step k1 o1) _ fun vy y H2 k2 o2 hy2 ho => by
    have g1 := rr.good.step k1 o1
    have g2 := g1.step k2 o2
    refine ho cs H2 vx vy g2 (hx.step g1 k2) hy2 _ fun v d H3 s c p => ?_
    obtain ⟨k, e, p⟩ := p
    subst e
    refine ⟨k, c.bl, ?_⟩
    have k3 : C.m.keep H2 H3 := .same s
    have g3 := g2.step k3 (o2.same s)
    cases k with
    | true => exact iteT (p cs H3 σ (((rr.step k1 o1).step k2 o2).step k3 (o2.same s)) _ fun vw w H4 k4 o4 hw hop => hop cs H4 vy vw (g3.step k4 o4) ((hy2.step g2 k3).step g3 k4) hw Q fun v d H5 s5 c5 p5 => q v d H5 ((((k1.trans k2).trans k3).trans k4).trans (.same s5)) (o4.same s5) c5 p5)
    | false => exact iteF (q _ _ H3 ((k1.trans k2).trans k3) (o2.same s) (.c (.bl _)) p)
end
end Dl
set_option Elab.async false
set_option linter.all false
set_option maxRecDepth 100000
set_option maxHeartbeats 4000000
/-! defs by name; zip, enumerate -/
namespace Dl
open PySem PySem.Spec PyProof.Rows L2 Sp RZ
/-- the names of built-ins that the texts use are still the built-ins' -/
def biNames : List Str := ["len", "int", "abs", "divmod", "isinstance", "bool", "str", "tuple", "list", "dict", "range", "all", "any", "zip", "enumerate", "sorted", "repr", "sum", "min", "max", "reversed", "set", "map"]
abbrev Bt (mg : Str → Option Value) : Prop := ∀ x ∈ biNames, mg x = none
/-- the def of this name as it stands behind the top -/
structure Fd (K : PySem.W.Frag) (mg : Str → Option Value) (x : Str) (st : Stmt) : Prop where
  ex : ∃ f fd, Fun K x x st f fd ∧ mg x = some (.ref f)
/-- the def of this name keeps this promise -/
structure Df (P : Program) (w : World) (K : PySem.W.Frag) (mg : Str → Option Value) (base : Heap) (x : Str) (k : Nat) (ps : List Str) (sp : Sp) : Prop where
  ex : ∃ f fd, mg x = some (.ref f) ∧ PySem.W.keepIn K (.ref f) = true ∧ Binds K fd ps [] ∧ FnOk P w K mg base CX0 k f fd ps sp
section
variable {X : Cx} {x : Str} {k : Nat} {ps : List Str} {sp : Sp} {e : Expr} {es : List Expr} {t : TA} {p pos : Pos}
theorem pe_df (F : Df X.prog X.w X.K X.mg X.base x k ps sp) (hr : Room k X.A) (ha : PA X (e :: es) t) (hg : Gl X x := by rfl) (hdb : (x == ("__debug__" : Str)) = false := by decide) (he : starEach (e :: es) X.env = (false, eval e X.env) :: starEach es X.env := by rfl) (hpl : (backTo pos (starEach es X.env)).any (·.1) = false := by rfl) :
    PE X (.Call (.Name x p) (e :: es) [] pos) (tCall sp [] E0 t) := by
  obtain ⟨f, fd, hm, hk, hb, F⟩ := F.ex
  exact pe_call F hr hg hm hk hb .nil pass0 ha hdb he hpl
end
section
variable {P : Program} {w : World} {K : PySem.W.Frag} {mg : Str → Option Value} {base : Heap}
theorem df_F {x : Str} {st : Stmt} {N ps : List Str} {k : Nat} {g : GD} (F : Fd K mg x st) (S : FnScope N ps (defScope st))
    (hb : ∀ (kV doc pm : Value) (an : Option Addr) (cdv ct : Value) (us : List Value), us.length = ps.length → bindArgs (PySem.W.fnOf x x (defArgs st) (defBody st) (defScope st) .none kV doc pm an cdv ct) ⟨us, []⟩ = pure (ps.zip us))
    (len : ∀ ds P, g ds P → ds.length = ps.length)
    (hbody : ∀ (f : Addr) (cdv : Value) (A : Around) (outer : List Env) (s : Shared) (H : Hp) (E : XK), Room k (A.deeper (envOfC x (defScope st) s.heap.objs.size f cdv)) →
      ∃ t, PSs (cxOf CX0 P w K mg base N x (defScope st) f cdv A outer s H E).nox (defBody st) t ∧ ∀ (A : List Addr) (H0 : Hp) (ds : List D) (P : D → Prop), (∀ d ∈ ds, Clean d) → g ds P → WS ⟨K, pureM, A, H0⟩ t (startD N ds) { nx := fun _ => P .non, rt := P }) : Df P w K mg base x (k + 1) ps (spF K g) := by
  obtain ⟨f, fd, F, hm⟩ := F.ex
  refine ⟨f, fd, hm, F.kp, F.binds hb, okF F S len fun cdv A outer s H E hr => ?_⟩
  obtain ⟨t, h1, h2⟩ := hbody f cdv A outer s H E hr
  refine ⟨t, h1, fun C hK hm ds P hc hg => ?_⟩
  obtain ⟨K', m', A', H0'⟩ := C
  dsimp only at hK hm
  subst hK hm
  exact h2 A' H0' ds P hc hg
theorem df_Q {pm : Addr → Md} (hp : ∀ p, (pm p).p = some p) {x : Str} {st : Stmt} {N ps : List Str} {k : Nat} {g : GD} (F : Fd K mg x st) (S : FnScope N ps (defScope st))
    (hb : ∀ (kV doc pm : Value) (an : Option Addr) (cdv ct : Value) (us : List Value), us.length = ps.length → bindArgs (PySem.W.fnOf x x (defArgs st) (defBody st) (defScope st) .none kV doc pm an cdv ct) ⟨us, []⟩ = pure (ps.zip us))
    (len : ∀ ds P, g ds P → ds.length + 1 = ps.length)
    (hbody : ∀ (f : Addr) (cdv : Value) (A : Around) (outer : List Env) (s : Shared) (H : Hp) (E : XK), Room k (A.deeper (envOfC x (defScope st) s.heap.objs.size f cdv)) →
      ∃ t, PSs (cxOf CX0 P w K mg base N x (defScope st) f cdv A outer s H E).nox (defBody st) t ∧ ∀ (p : Addr) (A : List Addr) (H0 : Hp) (ds : List D) (P : D → Prop), (∀ d ∈ ds, Clean d) → g ds P → WS ⟨K, pm p, A, H0⟩ t (startD N (.pur :: ds)) { nx := fun _ => P .non, rt := fun d => Clean d ∧ P d }) : Df P w K mg base x (k + 1) ps (spQ K pm g) := by
  obtain ⟨f, fd, F, hm⟩ := F.ex
  refine ⟨f, fd, hm, F.kp, F.binds hb, okQ hp F S len fun cdv A outer s H E hr => ?_⟩
  obtain ⟨t, h1, h2⟩ := hbody f cdv A outer s H E hr
  refine ⟨t, h1, fun C hK hm ds P hc hg => ?_⟩
  obtain ⟨p, hm, _⟩ := hm
  obtain ⟨K', m', A', H0'⟩ := C
  dsimp only at hK hm
  subst hK hm
  exact h2 p A' H0' ds P hc hg
end
section
variable {C : Cxt} {cs : Cs} {H H' : Hp} {σ : L2.St} {ρ ρ' : Rho} {v : V} {d : D} {i j : Nat} {te ta tb tl : TE} {tt : TT} {tr : TA} {O : Out} {P : D → Prop}
/-! zip of two lists or of two tuples, enumerate of a list -/
def zipD (xs ys : List D) : List D := (xs.zip ys).map fun p => .tup [p.1, p.2]
theorem zipD_len (xs ys : List D) : (zipD xs ys).length = min xs.length ys.length := by simp [zipD]
theorem zipD_at {xs ys : List D} {i : Nat} {x y : D} (h1 : xs[i]? = some x) (h2 : ys[i]? = some y) : (zipD xs ys)[i]? = some (.tup [x, y]) := by
  unfold zipD
  rw [List.getElem?_map, (List.getElem?_zip_eq_some (z := (x, y))).mpr ⟨h1, h2⟩]
  rfl
theorem zipD_get {xs ys : List D} {i : Nat} {d : D} (h : (zipD xs ys)[i]? = some d) : ∃ x y, xs[i]? = some x ∧ ys[i]? = some y ∧ d = .tup [x, y] := by
  unfold zipD at h
  rw [List.getElem?_map] at h
  obtain ⟨p, h1, rfl⟩ := Option.map_eq_some_iff.mp h
  have z := List.getElem?_zip_eq_some.mp h1
  exact ⟨_, _, z.1, z.2, rfl⟩
theorem pair_new {K : PySem.W.Frag} {A : List Addr} {T : Addr} {x y : V} {dx dy : D} (n : T ∉ A) (hT : H T = none) (h1 : Dt K (hid A H) x dx) (h2 : Dt K (hid A H) y dy) : Dt K (hid A (upd H T (.tup [x, y]))) (.ref T) (.tup [dx, dy]) := by
  have s : Same (hid A H) (hid A (upd H T (.tup [x, y]))) := hid_same (Same.new (Same.refl H) hT)
  exact .tup (SqT.of (hid_of n upd_same)) (.cons (h1.same s) (.cons (h2.same s) .nil))
theorem i_zipL {P : List D → Prop} (h : WA C tr ρ fun ds => ∃ xs ys, ds = [.lst xs, .lst ys] ∧ P (zipD xs ys)) : WI C (iZipA C.K tr) ρ P := fun cs H σ r Rr q =>
  h cs H σ r _ fun vs ds H1 k o a ⟨xs, ys, e, p⟩ => by
    subst e
    obtain ⟨v, w, rfl, a, b⟩ := vals2 a
    obtain ⟨l, us, rfl, l1, l2⟩ := a.lst
    obtain ⟨m, ws, rfl, m1, m2⟩ := b.lst
    have e1 := l2.len
    have e2 := m2.len
    refine ⟨l, m, us, ws, rfl, .inl ⟨SqL.of (hid_in l1).2, SqL.of (hid_in m1).2, q _ _ H1 k o ⟨fun cs' H' g s i hi => ?_, fun cs' H' g s => ?_, fun cs' H' g s i v H'' hi y => ?_⟩ p⟩⟩
    · rw [zipD_len] at hi
      exact ⟨us, ws, us[i], ws[i], SqL.of (hid_in (s _ _ l1)).2, SqL.of (hid_in (s _ _ m1)).2, List.getElem?_eq_getElem (by omega), List.getElem?_eq_getElem (by omega)⟩
    · rw [zipD_len]
      exact ⟨us, ws, SqL.of (hid_in (s _ _ l1)).2, SqL.of (hid_in (s _ _ m1)).2, by omega⟩
    · obtain ⟨T, x, z, rfl, hT, rfl, hx, hy⟩ := y
      obtain ⟨d1, f1, g1⟩ := l2.getV (hx us (SqL.of (hid_in (s _ _ l1)).2))
      obtain ⟨d2, f2, g2⟩ := m2.getV (hy ws (SqL.of (hid_in (s _ _ m1)).2))
      exact ⟨_, zipD_at f1 f2, Same.new (Same.refl _) hT, pair_new (g.new hT) hT (g1.same s) (g2.same s)⟩
theorem i_zipT {P : List D → Prop} (h : WA C tr ρ fun ds => ∃ xs ys, ds = [.tup xs, .tup ys] ∧ P (zipD xs ys)) : WI C (iZipA C.K tr) ρ P := fun cs H σ r Rr q =>
  h cs H σ r _ fun vs ds H1 k o a ⟨xs, ys, e, p⟩ => by
    subst e
    obtain ⟨v, w, rfl, a, b⟩ := vals2 a
    obtain ⟨l, us, rfl, l1, l2⟩ := a.tup
    obtain ⟨m, ws, rfl, m1, m2⟩ := b.tup
    have e1 := l2.len
    have e2 := m2.len
    have at1 : ∀ {cs' H'}, Same (hid (C.hd cs) H1) (hid (C.hd cs') H') → SqT C.K H' l us := fun s => Same.tup (s.trans (hid_sub _ _)) l1
    have at2 : ∀ {cs' H'}, Same (hid (C.hd cs) H1) (hid (C.hd cs') H') → SqT C.K H' m ws := fun s => Same.tup (s.trans (hid_sub _ _)) m1
    refine ⟨l, m, us, ws, rfl, .inr ⟨Same.tup (hid_sub _ _) l1, Same.tup (hid_sub _ _) m1, q _ _ H1 k o ⟨fun cs' H' g s i hi => ?_, fun cs' H' g s => ?_, fun cs' H' g s i v H'' hi y => ?_⟩ p⟩⟩
    · rw [zipD_len] at hi
      exact ⟨us, ws, us[i], ws[i], at1 s, at2 s, List.getElem?_eq_getElem (by omega), List.getElem?_eq_getElem (by omega)⟩
    · rw [zipD_len]
      exact ⟨us, ws, at1 s, at2 s, by omega⟩
    · obtain ⟨T, x, z, rfl, hT, rfl, hx, hy⟩ := y
      obtain ⟨d1, f1, g1⟩ := l2.getV (hx us (at1 s))
      obtain ⟨d2, f2, g2⟩ := m2.getV (hy ws (at2 s))
      exact ⟨_, zipD_at f1 f2, Same.new (Same.refl _) hT, pair_new (g.new hT) hT (g1.same s) (g2.same s)⟩
def enumD (xs : List D) : List D := (List.range xs.length).zip xs |>.map fun p => .tup [.int (p.1 : Int), p.2]
theorem enumD_len (xs : List D) : (enumD xs).length = xs.length := by simp [enumD]
theorem enumD_at {xs : List D} {i : Nat} {x : D} (h : xs[i]? = some x) : (enumD xs)[i]? = some (.tup [.int (i : Int), x]) := by
  have hi := (List.getElem?_eq_some_iff.mp h).1
  unfold enumD
  rw [List.getElem?_map, (List.getElem?_zip_eq_some (z := (i, x))).mpr ⟨by simp [hi], h⟩]
  rfl
theorem i_enum {P : List D → Prop} (h : WA C tr ρ fun ds => ∃ xs, ds = [.lst xs] ∧ P (enumD xs)) : WI C (iEnum C.K tr) ρ P := fun cs H σ r Rr q =>
  h cs H σ r _ fun vs ds H1 k o aa ⟨xs, e, p⟩ => by
    subst e
    obtain ⟨v, rfl, a⟩ := vals1 aa
    obtain ⟨l, us, rfl, l1, l2⟩ := a.lst
    have e1 := l2.len
    refine ⟨l, us, rfl, SqL.of (hid_in l1).2, q _ _ H1 k o ⟨fun cs' H' g s i hi => ?_, fun cs' H' g s => ?_, fun cs' H' g s i v H'' hi y => ?_⟩ p⟩
    · rw [enumD_len] at hi
      exact ⟨us, us[i], SqL.of (hid_in (s _ _ l1)).2, List.getElem?_eq_getElem (by omega)⟩
    · rw [enumD_len]
      exact ⟨us, SqL.of (hid_in (s _ _ l1)).2, by omega⟩
    · obtain ⟨T, x, rfl, hT, rfl, hx⟩ := y
      obtain ⟨d1, f1, g1⟩ := l2.getV (hx us (SqL.of (hid_in (s _ _ l1)).2))
      exact ⟨_, enumD_at f1, Same.new (Same.refl _) hT, pair_new (g.new hT) hT (.int _) (g1.same s)⟩
/-- targets of a comprehension: a tuple of names -/
theorem gc_tup2 {PR : Rho → Prop} {a b : Nat} {x y : D} (hab : a ≠ b) (c1 : Clean x) (c2 : Clean y) (k : PR ((ρ.set a (some x)).set b (some y))) : WGc C (gTup C.K 2 (gCons (gName a) (gCons (gName b) gNil))) [a, b] (.tup [x, y]) ρ PR := fun cs H σ v r h Q q => by
  obtain ⟨l, us, rfl, l1, l2⟩ := h.tup
  cases l2 with
  | cons l2 l3 =>
    cases l3 with
    | cons l3 l4 =>
      cases l4
      refine ⟨l, _, rfl, Same.tup (hid_sub _ _) l1, rfl, _, _, rfl, _, _, rfl, rfl, ?_⟩
      refine q _ _ ?_ ((r.set (.c l2) c1).set (.c l3) c2) k
      show (((((σ.set b none).set a none).set a _).set b _).set b none).set a none = (σ.set b none).set a none
      rw [List.set_set, List.set_set, List.set_comm _ _ hab, List.set_set, List.set_set]
end
end Dl
set_option Elab.async false
set_option linter.all false
set_option maxRecDepth 100000
set_option maxHeartbeats 4000000
namespace Dl
open PySem PySem.Spec PyProof.Rows L2 Sp RZ
local macro_rules | `(tactic| walk_at "dd1") => `(tactic| first
  | ((with_reducible refine' w_var ?hv ?hk); (case hv => exact rfl))
  | with_reducible refine w_int ?_
  | with_reducible refine w_str ?_
  | with_reducible refine w_bl ?_
  | with_reducible refine w_non ?_
  | with_reducible refine w_ty ?_
  | with_reducible refine w_raw ?_
  | with_reducible refine w_nil ?_
  | with_reducible refine w_cons ?_
  | with_reducible refine w_cb ?_
  | with_reducible refine w_op ?_
  | with_reducible refine w_un ?_
  | with_reducible refine w_andV ?_
  | with_reducible refine w_orV ?_
  | with_reducible refine w_notV ?_
  | with_reducible refine w_if ?_
  | with_reducible refine w_and ?_
  | with_reducible refine w_or ?_
  | with_reducible refine w_not ?_
  | with_reducible refine w_test ?_
  | with_reducible refine w_tb ?_
  | with_reducible refine w_chain ?_
  | with_reducible refine w_tup ?_
  | with_reducible refine w_lst ?_
  | with_reducible refine w_sl ?_
  | with_reducible refine p_none ?_
  | with_reducible refine p_some ?_
  | with_reducible refine w_call ?_
  | with_reducible refine s_seq ?_
  | with_reducible refine s_nil ?_
  | with_reducible refine s_ret ?_
  | with_reducible refine s_if ?_
  | with_reducible refine s_set ?_
  | with_reducible refine s_drop ?_
  | with_reducible refine s_brk ?_
  | with_reducible refine s_cont ?_
  | with_reducible refine s_asg ?_
  | with_reducible refine o_int ?_
  | with_reducible refine o_cmp ?_
  | with_reducible refine o_ltS ?_
  | with_reducible refine o_leS ?_
  | with_reducible refine o_neg ?_
  | with_reducible refine c_int ?_
  | with_reducible refine c_intB ?_
  | with_reducible refine c_abs ?_
  | with_reducible refine t_yes ?_
  | with_reducible refine iteT ?_
  | with_reducible refine iteF ?_
  | refine ⟨_, rfl, ?_⟩
  | with_reducible refine ⟨trivial, ?_⟩)
local macro_rules | `(tactic| walk_at "dd") => `(tactic| repeat (walk_at "dd1"))

/-- isinstance(d, T) of data -/
def tyIs (t T : String) : Bool := t == T || (t == "bool" && T == "int")
def isTy (d : D) (T : String) : Bool := match tyD d with
  | some t => tyIs t T
  | none => false
theorem kb_all : (["NoneType", "bool", "int", "str", "tuple", "list", "dict"].all fun t => ["int", "bool", "str", "tuple", "list", "dict"].all fun T => kitB t T == some (tyIs t T)) = true := by decide +kernel
/-- builtin data -/
def Pl (d : D) : Prop := (tyD d).isSome = true
theorem c_isT {C : Cxt} {P : D → Prop} {d : D} {T : String} (h : Pl d) (hT : T ∈ ["int", "bool", "str", "tuple", "list", "dict"]) (k : P (.bl (isTy d T))) : CallD C (rIsB C.K) [d, .ty T] P := by
  obtain ⟨t, e⟩ := Option.isSome_iff_exists.mp h
  have ht : t ∈ ["NoneType", "bool", "int", "str", "tuple", "list", "dict"] := by cases d <;> cases e <;> decide
  have z := beq_iff_eq.mp (List.all_eq_true.mp (List.all_eq_true.mp kb_all t ht) T hT)
  have e2 : isTy d T = tyIs t T := by unfold isTy; rw [e]
  rw [e2] at k
  exact c_isB e z k
theorem ty_int (d : D) : isTy d "int" = match d with | .int _ => true | .bl _ => true | _ => false := by
  cases d <;> rfl
theorem ty_bool (d : D) : isTy d "bool" = match d with | .bl _ => true | _ => false := by
  cases d <;> rfl
theorem ty_str (d : D) : isTy d "str" = match d with | .str _ => true | _ => false := by
  cases d <;> rfl
theorem ty_tup (d : D) : isTy d "tuple" = match d with | .tup _ => true | _ => false := by
  cases d <;> rfl

/-! list(text) -/
theorem vals_mk {f : Nat → V} {ok : Nat → Value → Prop} (h : ∀ i u, ok i u → RelV (f i) u) : ∀ {n : Nat} {us : List Value}, us.length = n → (∀ j u, us[j]? = some u → ok j u) → Vals ((List.range n).map f) us := fun {n us} hn hu => by
  have : ∀ (m : Nat) (us : List Value) (k : Nat), us.length = m → (∀ j u, us[j]? = some u → ok (k + j) u) → Vals ((List.range' k m).map f) us := fun m => by
    induction m with
    | zero =>
      intro us k hl _
      obtain rfl := List.length_eq_zero_iff.mp hl
      exact .nil
    | succ m ih =>
      intro us k hl hu
      cases us with
      | nil => cases hl
      | cons u us =>
        rw [List.range'_succ, List.map_cons]
        refine .cons (h k u (hu 0 u rfl)) (ih us (k + 1) (by simpa using hl) fun j v e => ?_)
        have z := hu (j + 1) v (by simpa using e)
        rw [show k + 1 + j = k + (j + 1) by omega]
        exact z
  rw [List.range_eq_range']
  exact this n us 0 hn fun j u e => by rw [Nat.zero_add]; exact hu j u e
def sgnV (z : Str) : List V := z.cps.toList.map fun c => V.str ⟨#[c]⟩
theorem call_listS {X : Cx} (hc : X.calm = true) : CallR X (.type "list") (fun xs H Q => ∃ z, xs = [.str z] ∧ z.length ≤ sizeLine ∧ ∀ l, H l = none → Q (.ref l) (upd H l (.lst (sgnV z)))) := by
  intro pins s σ H xs us Q I r h
  obtain ⟨z, rfl, hz, q⟩ := h
  obtain ⟨u, rfl, rx⟩ := L2.vals1 r
  obtain ⟨t, rfl⟩ := rx
  refine PySem.call_list_str (hn := hz) (I.ok.hd hc) z t fun h' tk acc' c' kp e it => ?_
  have rv : Vals (sgnV z) acc'.toList := by
    have e1 : sgnV z = (List.range z.cps.size).map fun i => V.str ⟨#[z.cps.getD i 0]⟩ := by
      refine List.ext_getElem (by simp [sgnV]) fun i h1 h2 => ?_
      simp only [sgnV, List.length_map, Array.length_toList] at h1
      simp [sgnV, h1]
    rw [e1]
    refine vals_mk (ok := SignAt z) (fun i u hu => ?_) (by simpa using it.1) (fun j u hj => it.2 j u (by simpa using hj))
    obtain ⟨c, tk, h1, rfl⟩ := hu
    refine ⟨tk, ?_⟩
    have : z.cps.getD i 0 = c := by simp [Array.getD_eq_getD_getElem?, h1]
    rw [this]
  have ln : (sgnV z).length ≤ sizeLine := by
    unfold sgnV
    rw [List.length_map, Array.length_toList]
    exact hz
  exact ⟨.ref s.heap.objs.size, _, I.laid (t' := tk) kp (Nat.le_refl _) (show ObjOk X.prog X.w _ h' _ (.lst (sgnV z)) from ⟨ln, acc'.toList, c', rv, by simpa using e⟩), rfl, q _ (I.hok.fresh (Nat.le_refl _))⟩
theorem c_listS {C : Cxt} {P : D → Prop} {z : Str} (hz : z.length ≤ sizeLine) (k : P (.lst (sgns z))) : CallD C (fun xs H Q => ∃ z, xs = [.str z] ∧ z.length ≤ sizeLine ∧ ∀ l, H l = none → Q (.ref l) (upd H l (.lst (sgnV z)))) [.str z] P := fun cs H vs g aa Q q => by
  obtain ⟨v, rfl, a⟩ := vals1 aa
  rw [a.str]
  refine ⟨z, rfl, hz, fun l hl => newV g ?_ q k hl⟩
  have := DtA.mkStrs (K := C.K) (H := hid (C.hd cs) H) (z.cps.toList.map fun c => (⟨#[c]⟩ : Str))
  simpa [sgnV, sgns, List.map_map, Function.comp_def] using this
/-! comprehensions whose items are told -/
section
variable {C : Cxt} {ρ : Rho} {wi : TI} {g : TG} {tt : TT} {te : TE} {vs : List Nat} {P : D → Prop}
theorem w_lcF (h : WI C wi ρ fun ds => ds.length < 1000000 ∧ ∃ v : D → D, (∀ (i : Nat) (d : D), ds[i]? = some d → Clean d → WGc C g vs d (wipeD ρ vs) fun ρ2 => WE C te ρ2 fun y => y = v d ∧ Clean y) ∧ P (.lst (ds.map v))) : WE C (tLc wi g tYes te vs) ρ P :=
  w_lc fun cs H σ r Rr q => h cs H σ r Rr fun J ds H1 k o it ⟨hl, v, turn, fin⟩ => q J ds H1 k o it ⟨hl, fun i acc => acc = (ds.take i).map v, rfl, fun i d acc hi hc e cs H σ u r a Q q => turn i d hi hc cs H σ u r a Q fun σ' ρ' ew r' w => q σ' ρ' ew r' (t_yes (iteT (w_mono w fun y hy => ⟨hy.2, by
    show acc ++ [y] = _
    rw [e, hy.1, List.take_add_one, hi]
    simp⟩))), fun acc _ e => by
    rw [e, List.take_length]
    exact fin⟩
/-- with a test -/
theorem w_lcB (h : WI C wi ρ fun ds => ds.length < 1000000 ∧ ∃ (b : D → Bool) (v : D → D), (∀ (i : Nat) (d : D), ds[i]? = some d → Clean d → WGc C g vs d (wipeD ρ vs) fun ρ2 => WT C tt ρ2 fun c => c = b d ∧ (c = true → WE C te ρ2 fun y => y = v d ∧ Clean y)) ∧ P (.lst ((ds.filter b).map v))) : WE C (tLc wi g tt te vs) ρ P :=
  w_lc fun cs H σ r Rr q => h cs H σ r Rr fun J ds H1 k o it ⟨hl, b, v, turn, fin⟩ => q J ds H1 k o it ⟨hl, fun i acc => acc = ((ds.take i).filter b).map v, rfl, fun i d acc hi hc e cs H σ u r a Q q => turn i d hi hc cs H σ u r a Q fun σ' ρ' ew r' w => q σ' ρ' ew r' fun cs2 H2 σ2 r2 Q2 q2 => w cs2 H2 σ2 r2 Q2 fun c H3 k3 o3 hb => q2 c H3 k3 o3 (by
    cases c with
    | true =>
      refine iteT (w_mono (hb.2 rfl) fun y hy => ⟨hy.2, ?_⟩)
      show acc ++ [y] = _
      rw [e, hy.1, List.take_add_one, hi, List.filter_append]
      simp [← hb.1]
    | false =>
      refine iteF ?_
      show acc = _
      rw [e, List.take_add_one, hi, List.filter_append]
      simp [← hb.1]), fun acc _ e => by
    rw [e, List.take_length]
    exact fin⟩
/-- items told by place -/
theorem w_lcI (h : WI C wi ρ fun ds => ds.length < 1000000 ∧ ∃ vs' : List D, vs'.length = ds.length ∧ (∀ (i : Nat) (d : D), ds[i]? = some d → Clean d → WGc C g vs d (wipeD ρ vs) fun ρ2 => WE C te ρ2 fun y => vs'[i]? = some y ∧ Clean y) ∧ P (.lst vs')) : WE C (tLc wi g tYes te vs) ρ P :=
  w_lc fun cs H σ r Rr q => h cs H σ r Rr fun J ds H1 k o it ⟨hl, vs', hv, turn, fin⟩ => q J ds H1 k o it ⟨hl, fun i acc => acc = vs'.take i, rfl, fun i d acc hi hc e cs H σ u r a Q q => turn i d hi hc cs H σ u r a Q fun σ' ρ' ew r' w => q σ' ρ' ew r' (t_yes (iteT (w_mono w fun y hy => ⟨hy.2, by
    show acc ++ [y] = _
    rw [e, List.take_add_one, hy.1]
    rfl⟩))), fun acc _ e => by
    rw [e, ← hv, List.take_length]
    exact fin⟩
end

/-! rules that speak of X.K, within a comprehension's block -/
section
variable {X : Cx}
theorem ixTK (K : PySem.W.Frag) (h : X.K = K := by rfl) : IxR X (rIxT K) := h ▸ ix_tup
theorem ixLK (K : PySem.W.Frag) (h : X.K = K := by rfl) : IxR X (rIxL K) := h ▸ ix_list
theorem inK (K : PySem.W.Frag) (h : X.K = K := by rfl) : OpR X (compareOp .In) (rIn K false) := h ▸ op_in_seq
theorem notInK (K : PySem.W.Frag) (h : X.K = K := by rfl) : OpR X (compareOp .NotIn) (rIn K true) := h ▸ op_notIn_seq
end
end Dl
set_option Elab.async false
set_option linter.all false
set_option maxRecDepth 100000
set_option maxHeartbeats 4000000
namespace Sp
open PySem PySem.Spec PyProof.Rows L2
/-! ### a def that is called where no repr runs -/
structure FnG (P : Program) (w : World) (K : PySem.W.Frag) (mg : Str → Option Value) (base : Heap) (CX : CXT) (k : Nat) (f : Addr) (fd : FuncData) (ps : List Str) (sp : Sp) : Prop where
  len : ∀ vs H Q E, sp vs H Q E → vs.length = ps.length
  run : ∀ (A : Around) (outer : List Env) (s : Shared) (H : Hp) (args : Args) (us : List Value) (vs : List V) (Q : VK) (E : XK), Room k A → A.guards = some [] → Env0 P w K mg base A outer s H → BindsTo s fd args (ps.zip us) → L2.Vals vs us → sp vs H Q E →
    codeAny (model P w) A (.call (.ref f) args) (CR CX outer P w H s Q E) s
section
variable {P : Program} {w : World} {K : PySem.W.Frag} {mg : Str → Option Value} {base : Heap}
theorem okG {CX : CXT} {x qual : Str} {st : Stmt} {f : Addr} {fd : FuncData} {N ps : List Str} {k : Nat} {sp : Sp} (F : Fun K x qual st f fd) (S : FnScope N ps (defScope st)) (len : ∀ vs H Q E, sp vs H Q E → vs.length = ps.length)
    (hbody : ∀ (cdv : Value) (A : Around) (outer : List Env) (s : Shared) (H : Hp) (vs : List V) (Q : VK) (E : XK), Room k (A.deeper (envOfC qual (defScope st) s.heap.objs.size f cdv)) → A.guards = some [] → sp vs H Q E →
      ∃ t, PSs (cxOf CX P w K mg base N qual (defScope st) f cdv A outer s H E).nox (defBody st) t ∧ t { nx := fun _ H' => Q .non H', rt := Q } (start N vs) H) : FnG P w K mg base CX (k + 1) f fd ps sp := by
  obtain ⟨oc, od, kV, doc, pm, an, cdv, ct, osl, rfl, lk, hcd⟩ := F.ex
  refine ⟨len, fun A outer s H args us vs Q E hr hg e0 hb r hsp => ?_⟩
  have many := len _ _ _ _ hsp
  have inK : K.In s.heap := e0.mod.kin.keeps fun b o e => (e0.bs b o e).1
  have lim : s.heap.NoLimit := e0.mod.nolimit.keeps fun b o e => (e0.bs b o e).1
  have kinds : ∀ y ∈ ps.zip us, (defScope st).names.lookup y.1 = some .local ∨ ((defScope st).names.lookup y.1 = some .cell ∧ ((cellsFrom (s.heap.objs.size + 1) (defScope st).names []).lookup y.1).isSome = true) := fun y hy => by
    obtain ⟨n, v⟩ := y
    rcases S.par n (List.of_mem_zip hy).1 with q | q
    · exact .inl q
    · exact .inr ⟨q, PySem.W.cellsFrom_some _ _ _ (.inl q)⟩
  refine codeAny_call_function hr.depth (inK _ _ lk) rfl S.co S.gen rfl (PySem.W.codeRec_of inK hcd) (hb _ _ _ _ ?_)
  refine wpAny_newFunctionEnv_cells S.kind kinds fun env he s1 x => ?_
  subst he
  refine ⟨lim.keeps x.toInCall.keep, codeAny_func ?_⟩
  obtain ⟨t, ht, hq⟩ := hbody cdv A outer s H vs Q E (hr.deeper _) hg hsp
  have I : L2.Inv (cxOf CX P w K mg base N qual (defScope st) f cdv A outer s H E) [] (start N vs) H s1 := inv_start S hr.hd e0 many r x
  refine wpAny_mono (ht.nox.run [] s1 (start N vs) H _ I hq) (fun fl s' hs => ?_) fun e s' hs => hs
  have fin : ∀ {σ' : L2.St} {H' : Hp} {v : V} {u : Value}, L2.Inv (cxOf CX P w K mg base N qual (defScope st) f cdv A outer s H E) [] σ' H' s' → L2.RelV v u → Q v H' → CE outer P w H s Q u s' := fun {σ' H' v u} J rv q => ⟨v, H', J.os, J.bare, J.base, J.hok, rv, q⟩
  cases fl with
  | ret u =>
    obtain ⟨v, σ', H', J, rv, q⟩ := hs
    exact fin J rv q
  | next =>
    obtain ⟨σ', H', J, q⟩ := hs
    exact fin (v := V.non) (u := Value.none) J rfl q
  | brk =>
    obtain ⟨_, _, _, q⟩ := hs
    exact q.elim
  | cont =>
    obtain ⟨_, _, _, q⟩ := hs
    exact q.elim
theorem FnG.of {CX : CXT} {k : Nat} {f : Addr} {fd : FuncData} {ps : List Str} {sp : Sp} (G : FnOk P w K mg base CX k f fd ps sp) : FnG P w K mg base CX k f fd ps sp :=
  ⟨G.len, fun A outer s H args us vs Q E hr _ e0 hb r hsp => G.run A outer s H args us vs Q E hr e0 hb r hsp⟩
end
section
variable {X : Cx} {CX : CXT} {k : Nat} {f : Addr} {fd : FuncData} {ps : List Str} {sp : Sp} {dvs : List V} {ds : List Value} {E : XK} {x : Str} {p pos : Pos} {e : Expr} {es : List Expr} {t : TA}
theorem pe_callG (G : FnG X.prog X.w X.K X.mg X.base CX k f fd ps sp) (hgd : X.A.guards = some []) (hr : Room k X.A) (hg : Gl X x) (hm : X.mg x = some (.ref f)) (hk : PySem.W.keepIn X.K (.ref f) = true) (hb : Binds X.K fd ps ds) (hd : L2.Vals dvs ds) (hx : Passes CX X E)
    (ha : PA X (e :: es) t) (hdb : (x == ("__debug__" : Str)) = false := by decide) (he : starEach (e :: es) X.env = (false, eval e X.env) :: starEach es X.env := by rfl) (hpl : (backTo pos (starEach es X.env)).any (·.1) = false := by rfl) :
    PE X (.Call (.Name x p) (e :: es) [] pos) (tCall sp dvs E t) := by
  refine ⟨fun pins s σ H Q I h => ?_⟩
  refine wpAny_Call_Name_kw (ld_glob I hg hm ?_ hdb)
  refine PySem.W.callWith_K (h₀ := X.base) I.ok.mod.kin hk (thn (ha.run pos pins s σ H _ I h) fun us s1 ⟨vs, H1, I1, r, q⟩ => ⟨I1.kIn, ?_⟩) he hpl
  have r2 : L2.Vals (vs ++ dvs) (us ++ ds) := r.append hd
  have many : (us ++ ds).length = ps.length := by
    rw [← r2.length]
    exact G.len _ _ _ _ q
  refine wpAny_call (codeAny_mono (G.run X.A X.stack s1 H1 ⟨us, []⟩ (us ++ ds) (vs ++ dvs) Q E hr hgd I1.env0 (hb s1 us I1.kIn many) r2 q) fun r s' hq => ?_)
  cases r with
  | error e => exact hx pins σ H1 s1 e s' I1 hq
  | ok fl =>
    cases fl with
    | ret u => exact I1.after hq
    | next => exact hq.elim
    | brk => exact hq.elim
    | cont => exact hq.elim
end

/-! ### the end, where the law's def is such a one -/
theorem law_endG {P : Program} {w : World} {K : PySem.W.Frag} {mg mb : Str → Option Value} {k : Nat} {fa a : Addr} {fd : FuncData} {x : Str} {sp : Sp} {s₁ : Shared} {vs : List Value} {ns : List Int}
    (inK : K.In s₁.heap) (hns : s₁.heap.Ns mainGlobals mg) (hb : s₁.heap.Ns builtinsNs mb) (hbb : ∀ x : Str, x ≠ "__name__" → mb x = bootBuiltins x) (hlim : s₁.heap.NoLimit) (hg : s₁.gens = #[])
    (ha : s₁.heap.get? a = some { cls := .type "list", data := .seq vs.toArray }) (hi : IntsAre vs ns) (hl : ns.length ≤ sizeLine) (hr : Room k callerA)
    (F : ∀ base : Heap, K.In base → base.Ns mainGlobals mg → FnG P w K mg base CX0 k fa fd [x] sp) (hbind : ∀ (s : Shared) (u : Value), BindsTo s fd ⟨[u], []⟩ [(x, u)])
    (hsp : ∀ H : Hp, Only H → SqL K H a (ns.map V.int) → sp [.ref a] H (fun v _ => v = .bl true) fun _ _ _ => False) :
    codeAny (model P w) callerA (.call (.ref fa) ⟨[.ref a], []⟩) (fun r s' => r = .ok (.ret (.bool true)) ∧ OldK s₁.heap s'.heap ∧ s'.os = s₁.os ∧ AllBare s'.gens) s₁ := by
  have rv := vals_ints hi
  have many := hi.length
  have core : ∀ H : Hp, Only H → SqL K H a (ns.map V.int) → HOk P w H s₁.heap → (∀ b, H b ≠ none → b = a) → (H a ≠ none → K.lookup a = none) →
      codeAny (model P w) callerA (.call (.ref fa) ⟨[.ref a], []⟩) (fun r s' => r = .ok (.ret (.bool true)) ∧ OldK s₁.heap s'.heap ∧ s'.os = s₁.os ∧ AllBare s'.gens) s₁ := by
    intro H hO hS ok one out
    have low : ∀ {b : Addr} {o : Obj} {es : Array DictEntry} {ep : Nat}, s₁.heap.get? b = some o → o.data = .dict es ep → H b = none := fun {b o es ep} e d => by
      cases q : H b with
      | none => rfl
      | some u =>
        have e2 : b = a := one b (by rw [q]; simp)
        rw [e2, ha] at e
        cases e
        have z : Data.seq vs.toArray _ = Data.dict es ep := d
        cases z
    have ns_ : ∀ {b : Addr} {m : Str → Option Value}, s₁.heap.Ns b m → (hidT s₁.heap H).Ns b m := fun {b m} x => by
      obtain ⟨o, es, ep, e, d, r⟩ := x
      exact ⟨o, es, ep, hidT_get e (low e d), d, r⟩
    have inB : K.In (hidT s₁.heap H) := fun b o e => hidT_get (inK b o e) (by
      cases q : H b with
      | none => rfl
      | some u =>
        have e2 : b = a := one b (by rw [q]; simp)
        have n2 := out (by rw [← e2, q]; simp)
        rw [e2, n2] at e
        cases e)
    obtain ⟨mc, m1, m2⟩ := hlim
    have e0 : Env0 P w K mg (hidT s₁.heap H) callerA [] s₁ H :=
      ⟨rfl, ⟨inB, ns_ hns, ⟨mb, ns_ hb, hbb⟩, mc, ns_ m1, m2⟩, fun b o e => of_hidT e, Nat.le_of_eq (hidT_size _ _), trivial, fun b hb => absurd (show b ∈ ([] : List Addr) from hb) (by simp), ok, .of_eq hg⟩
    refine codeAny_mono ((F _ inB (ns_ hns)).run callerA [] s₁ H ⟨[.ref a], []⟩ [.ref a] [.ref a] _ _ hr rfl e0 (hbind s₁ (.ref a)) (.cons rfl .nil) (hsp H hO hS)) fun r s' h => ?_
    cases r with
    | error e => exact (show False from h).elim
    | ok fl =>
      cases fl with
      | ret u =>
        obtain ⟨v, H', os, bare, un, ok2, rel, q⟩ := h
        have q2 : v = .bl true := q
        rw [q2] at rel
        obtain rfl : u = Value.bool true := rel
        refine ⟨rfl, OldK.of_keep fun b o e => ?_, os, bare⟩
        rcases hO b with z | ⟨ob, xs, z⟩
        · exact un.keep b o e z (by intro y; exact absurd (show b ∈ ([] : List Addr) from y) (by simp)) (by simp)
        · obtain ⟨e1, _⟩ := ok b _ z
          obtain ⟨e2, _⟩ := ok2 b _ (un.frzs b ob _ z)
          rw [e] at e1
          cases e1
          exact e2
      | next => exact (show False from h).elim
      | brk => exact (show False from h).elim
      | cont => exact (show False from h).elim
  cases hk : K.lookup a with
  | some o =>
    have e := inK a o hk
    rw [ha] at e
    cases e
    exact core (fun _ => none) (fun _ => .inl rfl) (.inr ⟨_, vs.toArray, _, hk, rfl, rfl, rfl, by rw [List.size_toArray, many]; exact hl, by simpa using rv⟩) (fun b u z => by have z2 : (none : Option HO) = some u := z; cases z2) (fun b z => absurd rfl z) fun z => absurd rfl z
  | none =>
    refine core (fun b => if b = a then some (.frz { cls := .type "list", data := .seq vs.toArray } (.lst (ns.map V.int))) else none) (fun b => ?_) (.inl (.inr ⟨_, if_pos rfl⟩)) (fun b u z => ?_) (fun b z => ?_) fun _ => hk
    · by_cases hb : b = a
      · exact .inr ⟨_, _, if_pos hb⟩
      · exact .inl (if_neg hb)
    · by_cases hb : b = a
      · subst hb
        have z2 := (if_pos rfl).symm.trans z
        cases z2
        exact ⟨ha, by rw [List.length_map]; exact hl, vs, _, rv, ha⟩
      · have z2 := (if_neg hb).symm.trans z
        cases z2
    · by_cases hb : b = a
      · exact hb
      · exact absurd (if_neg hb) z
theorem walk_G {l : PySem.W.OpenLaw} {n k : Nat} {q : Program} {loose : List Str} {XP : (Str → Option Value) → Heap → Prop} {YP : World → Heap → Prop} {d : DefRec} {K : Params → PySem.W.Frag} {sp : PySem.W.Frag → Sp} {x : Str}
    (hn : l.most = some n) (hn2 : n ≤ sizeLine) (hdf : d.params.defaults = []) (hr : Room k callerA)
    (hY : ∀ (w : World) (h : Heap), YP w h → (K w.params).In h)
    (F : ∀ (w : World) (mg : Str → Option Value) (fa : Addr) (h : Heap), (K w.params).In h → h.Ns mainGlobals mg → mg d.name = some (.ref fa) →
      ∃ fd : FuncData, (∀ (s : Shared) (u : Value), BindsTo s fd ⟨[u], []⟩ [(x, u)]) ∧
        ∀ base : Heap, (K w.params).In base → base.Ns mainGlobals mg → FnG l.prog w (K w.params) mg base CX0 k fa fd [x] (sp (K w.params)))
    (hsp : ∀ (K : PySem.W.Frag) (H : Hp) (a : Addr) (ns : List Int), ns.length ≤ n → Only H → SqL K H a (ns.map V.int) → sp K [.ref a] H (fun v _ => v = .bl true) fun _ _ _ => False) :
    PySem.W.WalkO q loose XP YP l.row.toRowW d [] (fun f vs => PySem.call f vs) := by
  refine Att.attach_call hn hdf fun w s₀ s₁ mg mb fa o pm cd doc a vs ns G Y ho hd hcd hmg hobj hints hlen hg => ?_
  have inK := hY w _ Y
  obtain ⟨fd, hb, hF⟩ := F w mg fa _ inK G.T.g hmg
  exact law_endG inK G.T.g G.T.b G.T.builtins G.T.nolimit hg hobj hints (Nat.le_trans hlen hn2) hr hF hb (fun H hO hS => hsp (K w.params) H a ns hlen hO hS)
end Sp
set_option Elab.async false
set_option linter.all false
set_option maxRecDepth 100000
set_option maxHeartbeats 4000000
/-! an exception caught by one of two classes, handed on to a def -/
namespace Ex
open PySem PySem.Spec PyProof.Rows L2 L2H
theorem flying_ext {B h h' : Heap} {l : List Env} {e : Addr} {Z : Obj → Prop} (f : HandSPX.FlyingZ B l e Z h) (k : ∀ b o, h.get? b = some o → h'.get? b = some o) : HandSPX.FlyingZ B l e Z h' := by
  obtain ⟨f1, f2, f3, oe, vs, T, oT, ts, g1, g2, g3, g4, g5, g6, g7, g8, g9⟩ := f
  exact ⟨fun b o q => k b o (f1 b o q), f2, f3.of_keeps fun b o q _ => ⟨o, k b o q, rfl⟩, oe, vs, T, oT, ts, k _ _ g1, g2, g3, g4, g5, g6, k _ _ g7, g8, g9⟩
/-- what the clause 'except (x, y) as n' wishes of an exception of the body: slot i is n's -/
def wAs2 (K : PySem.W.Frag) (c1 c2 : Value) (i : Nat) (ts : Addr → Value → Option Addr → TS) (D : Ends) : WX := fun cls d σ H =>
  PySem.W.exmAny K cls [c1, c2] = some true ∧ ∀ a, H a = none → ts a cls d { nx := fun σ' H' => D.nx (σ'.set i none) H', rt := D.rt, bk := fun σ' H' => D.bk (σ'.set i none) H', ct := fun σ' H' => D.ct (σ'.set i none) H' } (σ.set i (some (.ref a))) H
section
variable {X : Cx} {x y n : Str} {C1 C2 : Addr} {i kk : Nat} {body suite : List Stmt} {b₀ : Stmt} {np np2 tpos pos pos' : Pos} {tb : WX → TS} {ts : Addr → Value → Option Addr → TS} {Wout : WX}
theorem ps_try_as2 (hs : X.stack = X.env :: X.outer) (hf : X.env.frame = some X.env.locals) (hN : X.N.Nodup) (hi : X.N[i]? = some n) (hln : X.env.kindOf n = some .local)
    (hg1 : Gl X x) (hm1 : X.mg x = some (.ref C1)) (hd1 : (x == ("__debug__" : Str)) = false) (hg2 : Gl X y) (hm2 : X.mg y = some (.ref C2)) (hd2 : (y == ("__debug__" : Str)) = false)
    (hst : ∀ env, starEach [Expr.Name x np, Expr.Name y np2] env = (false, eval (Expr.Name x np) env) :: starEach [Expr.Name y np2] env)
    (hst2 : ∀ env, starEach [Expr.Name y np2] env = (false, eval (Expr.Name y np2) env) :: starEach [] env)
    (hb : ∀ (W : WX) (pn : List (Addr × Obj)) (xe : Value → Shared → Prop), Takes (X.tr pn xe) W → PassesOwn (model X.prog X.w) X.A X.env xe → PSs (X.tr pn xe) body (tb W))
    (hsu : ∀ (a : Addr) (oe : Obj) (cls : Value) (d : Option Addr) (pn : List (Addr × Obj)), Zc cls d oe → (∃ vs, oe.data = .fields vs) → PSs (X.suite a ((a, oe) :: pn)) (b₀ :: suite) (ts a cls d)) :
    PS X (.Try body [.ExceptHandler (some (.Tuple [.Name x np, .Name y np2] kk tpos)) (some n) (b₀ :: suite) pos'] [] [] pos) (fun D σ H => tb (wAs2 X.K (.ref C1) (.ref C2) i ts D) D σ H) := by
  refine ⟨fun pins s σ H D I h => ?_⟩
  have ok := I.ok
  have hfr : X.A.frames = some (X.env :: X.outer) := by rw [ok.frames, hs]
  have hloc : Loc X.env.scope n := .inl hln
  refine wpAny_Try_except ?_
  refine wpAny_mono ((hb (wAs2 X.K (.ref C1) (.ref C2) i ts D) (X.pn ++ pins) (fun e s₁ => wpAny (model X.prog X.w) X.A (noteFrame e X.env) (fun _ s₂ => wpAny (model X.prog X.w) X.A (setFlight e none) (fun _ s₃ =>
    wpAny (model X.prog X.w) X.A (handleBy e X.env [.ExceptHandler (some (.Tuple [.Name x np, .Name y np2] kk tpos)) (some n) (b₀ :: suite) pos']) (SP X pins D) X.xe s₃) X.xe s₂) X.xe s₁) (fun u s' xx => ?_) PassesOwn.looking).run [] s σ H D (I.toTry _) h) (fun f s1 hsp => ?_) (fun e s1 he => he)
  · -- the catch
    obtain ⟨a, B, sI, pins', σ', H', cls, d, rfl, J', nb, up, sky, na, os, ag, hb1, hyes⟩ := xx
    have J : Inv X pins σ' H' sI := J'.ofTry ok
    have sky' : Sky B (X.env :: X.outer) a (Zc cls d) X.env.locals s'.heap := by rw [← hs]; exact sky
    show wpAny (model X.prog X.w) X.A (noteFrame (.ref a) X.env) _ _ _
    refine Sky.land Zc.steady hfr hf sky' fun h3 fl3 up3 => ?_
    have J3 : Inv X pins σ' H' { s' with heap := h3 } := J.landed nb fl3.1 (up.trans up3) os ag
    obtain ⟨oe3, vs3, he3, hz3, hd3⟩ := fl3.there
    have notFr : ∀ {h : Heap} {o : Obj} {vs : Array Value}, h.FunFrames B (X.env :: X.outer) → h.get? a = some o → o.data = .fields vs → a ∉ frs (X.env :: X.outer) := fun {h o vs} ff e dd hm => by
      obtain ⟨_, o', e', hnf⟩ := ff.mem hm
      rw [e] at e'; cases e'
      exact hnf _ dd
    have nfr := notFr fl3.2.2.1 he3 hd3
    have nL : a ≠ X.env.locals := fun z => nfr (List.mem_filterMap.mpr ⟨X.env, List.mem_cons_self, by rw [hf, z]⟩)
    have nF : a ∉ X.fs := fun hm => by
      obtain ⟨e, he, q⟩ := List.mem_filterMap.mp hm
      exact nfr (List.mem_filterMap.mpr ⟨e, List.mem_cons_of_mem _ he, q⟩)
    have S3 := J3.suite he3 hd3 na nL nF
    refine wpAny_handleBy_cons (codeAny_handlers_test ?_) (by intro q; cases q)
    -- the tuple of the two classes is made
    refine Tuple_ ?_
    rw [hst]
    refine Calls.spliced_cons (ld_glob (X := X.suite a ((a, oe3) :: (X.pn ++ pins))) S3 hg1 hm1 ?_ hd1)
    rw [hst2]
    refine Calls.spliced_cons (ld_glob (X := X.suite a ((a, oe3) :: (X.pn ++ pins))) S3 hg2 hm2 ?_ hd2)
    refine Calls.spliced_nil (wpAny_newObj_type ?_)
    have kp : ∀ b o, h3.get? b = some o → (h3.push { cls := .type "tuple", data := .seq [Value.ref C1, Value.ref C2].toArray }).get? b = some o := fun b o e => Heap.get?_push_of_some _ e
    have tpl : (h3.push { cls := .type "tuple", data := .seq [Value.ref C1, Value.ref C2].toArray }).get? h3.objs.size = some { cls := .type "tuple", data := .seq [Value.ref C1, Value.ref C2].toArray } := Heap.get?_push_size _ rfl
    generalize hh5 : h3.push { cls := .type "tuple", data := .seq [Value.ref C1, Value.ref C2].toArray } = h5 at kp tpl
    have fl5 := flying_ext fl3 kp
    have up5 : h3.UpToSlots h5 := Heap.UpToSlots.of_keeps kp
    have J5 : Inv X pins σ' H' { s' with heap := h5 } := J.landed nb fl5.1 ((up.trans up3).trans up5) os ag
    have he5 := kp _ _ he3
    have LT : PySem.W.Looks (model X.prog X.w) h5 (typeOf (.ref a)) cls := fun A Q E s k q => wpAny_typeOf_ref (k _ _ he5) (by rw [hz3.1]; exact q)
    have LM := PySem.W.exm_tup2 (M := model X.prog X.w) (J5.kIn) LT tpl hb1
    refine LM.here ?_
    refine codeAny_handlers_suite_as ?_
    refine HandSPX.lands_againZ fl5 fun h4 fl4 up4 => ?_
    have J4 : Inv X pins σ' H' { s' with heap := h4 } := J.landed nb fl4.1 (((up.trans up3).trans up5).trans up4) os ag
    obtain ⟨oe4, vs4, he4, hz4, hd4⟩ := fl4.there
    have S4 := J4.suite he4 hd4 na nL nF
    refine store_ok (X := X.suite a ((a, oe4) :: (X.pn ++ pins))) (v := .ref a) S4 hN hi hloc rfl (fun s5 S5 => ?_) (.inr hln)
    refine wpAny_mono ((hsu a oe4 cls d (X.pn ++ pins) hz4 ⟨_, hd4⟩).run [] s5 _ H' _ S5 (hyes a na)) (fun f s6 hsp => ?_) (fun _ _ z => False.elim z)
    have end_ : ∀ {σ6 : L2.St} {H6 : Hp} {Q : Shared → Prop}, Inv (X.suite a ((a, oe4) :: (X.pn ++ pins))) [] σ6 H6 s6 → (∀ s7, Inv X pins (σ6.set i none) H6 s7 → Q s7) →
        wpAny (model X.prog X.w) X.A (do bindName X.env n .none; unbindBehindTheSuite X.env n pos') (fun _ s7 => Q s7) X.xe s6 := fun {σ6 H6 Q} S6 hq => gone_ok (S6.unsuite ok) hN hi hln hq
    cases f with
    | next =>
      obtain ⟨σ6, H6, S6, q6⟩ := hsp
      exact end_ S6 fun s7 J7 => ⟨_, _, J7, q6⟩
    | brk =>
      obtain ⟨σ6, H6, S6, q6⟩ := hsp
      exact end_ S6 fun s7 J7 => ⟨_, _, J7, q6⟩
    | cont =>
      obtain ⟨σ6, H6, S6, q6⟩ := hsp
      exact end_ S6 fun s7 J7 => ⟨_, _, J7, q6⟩
    | ret u =>
      obtain ⟨v6, σ6, H6, S6, r6, q6⟩ := hsp
      exact end_ S6 fun s7 J7 => ⟨_, _, _, J7, r6, q6⟩
  · cases f with
    | next =>
      obtain ⟨σ', H', J', q⟩ := hsp
      exact wpAny_execs_nil ⟨σ', H', J'.ofTry ok, q⟩
    | brk =>
      obtain ⟨σ', H', J', q⟩ := hsp
      exact ⟨σ', H', J'.ofTry ok, q⟩
    | cont =>
      obtain ⟨σ', H', J', q⟩ := hsp
      exact ⟨σ', H', J'.ofTry ok, q⟩
    | ret u =>
      obtain ⟨v, σ', H', J', r, q⟩ := hsp
      exact ⟨v, σ', H', J'.ofTry ok, r, q⟩
end
end Ex
set_option Elab.async false
set_option linter.all false
set_option maxRecDepth 100000
set_option maxHeartbeats 4000000
namespace PySem
namespace SpX
open PySem.W PySem.Calls PyProof.Rows PySem.HandSPX
/-! ### an own error class over any built-in one, called with keywords too -/
section
variable {prog : Program} {w : World} {A : Around} {E : Value → Shared → Prop} {R : Result → Shared → Prop} {h : Heap} {g : Array GenState} {d : Drawn} {t : Nat} {os : OsState}
variable {nm q : Str} {C N : Addr} {bs bm bmB : List Value} {hdct : Bool} {sn : List Str} {sub : List Value} {ab : Bool} {col : Option Bool} {dd : Option Addr} {k0 k1 k2 k3 k5 : Option Value} {B newId initId : String}
theorem chk_new {M : Model} {us : List Value} {kw : List (Str × Value)} {Q : Unit → Shared → Prop} (F : ExcBaseFacts B newId initId bmB) (tl : ∀ T : String, bm.contains (.type T) = bmB.contains (.type T))
    (at_ : h.get? C = some (excClassObj nm q C N bs bm hdct sn sub ab col dd k0 k1 k2 k3 k5 newId)) (hq : Q () ⟨h, g, d, t, os⟩) : wpAny M A (checkBuiltinCall newId ⟨.ref C :: us, kw⟩) Q E ⟨h, g, d, t, os⟩ := by
  have c1 : (Value.ref C :: bm).contains (.type B) = true := by
    rw [List.contains_cons, tl, F.hasB, Bool.or_true]
  have c2 := F.noStar
  simp only [checkBuiltinCall, F.newKind, F.newSplit, F.newRow]
  repeat (first
    | refine wpAny_loadPart_at at_ ?_
    | (refine wpAny_isSubtype_exc at_ ?_; rw [c1])
    | refine wpAny_staticBase_exc at_ ?_
    | refine wpAny_madeBy_exc at_ ?_
    | simp only [bne_self_eq_false, Bool.false_eq_true, if_false]
    | wp_step)
  exact hq
theorem new_of {us : List Value} {kw : List (Str × Value)} (F : ExcBaseFacts B newId initId bmB) (tl : ∀ T : String, bm.contains (.type T) = bmB.contains (.type T))
    (at_ : h.get? C = some (excClassObj nm q C N bs bm hdct sn sub ab col dd k0 k1 k2 k3 k5 newId)) (room : us.length ≤ sizeLine)
    (hq : R (.ok (.ret (.ref (h.objs.size + 1)))) ⟨(h.push (W.kdv_tup us)).push (excO C h.objs.size), g, d, t, os⟩) :
    codeAny (model prog w) A (.builtin newId ⟨.ref C :: us, kw⟩) R ⟨h, g, d, t, os⟩ := by
  have e0 := F.ends
  have c1 : (Value.ref C :: bm).contains (.type B) = true := by
    rw [List.contains_cons, tl, F.hasB, Bool.or_true]
  have c2 : (Value.ref C :: bm).contains (.type "AttributeError") = false := by
    rw [List.contains_cons, tl, F.noAttr]
    rfl
  have c3 : (Value.ref C :: bm).contains (.type "NameError") = false := by
    rw [List.contains_cons, tl, F.noName]
    rfl
  refine codeAny_builtinAt F.entry ?_
  unfold Builtin.«BaseException.__new__»
  refine wpAt_bind ?_
  show wpAt _ _ _ (stack >>= _) _ _ _
  refine wpAt_bind (wpAt_stack fun _ _ => wpAt_of_wpAny ?_)
  wp_walk
  refine wpAt_of_wpAny ?_
  rw [F.owner]
  repeat (first
    | with_reducible refine wpAny_madeHere_exc F.canon at_ ?_
    | with_reducible refine wpAny_loadPart_at at_ ?_
    | (with_reducible refine wpAny_isSubtype_exc at_ ?_; first | rw [c1] | rw [c2] | rw [c3])
    | wp_step)
  show R _ _
  rw [Heap.size_push]
  exact hq
theorem tcall_of {us : List Value} {kw : List (Str × Value)} {fI : Addr} {Q : Fin → Shared → Prop} (F : ExcBaseFacts B newId initId bmB) (tl : ∀ T : String, bm.contains (.type T) = bmB.contains (.type T))
    (at_ : h.get? C = some (excClassObj nm q C N bs bm hdct sn sub ab col dd k0 k1 k2 k3 k5 newId))
    (hi : W.Looks (model prog w) h (typeLookup (.ref C) "__init__") (some (.ref fI))) (hb : ∀ self, W.Looks (model prog w) h (bindSpecial (.ref fI) self) (.ref fI, [self])) (room : us.length ≤ sizeLine)
    (hq : codeAny (model prog w) A (.call (.ref fI) ⟨.ref (h.objs.size + 1) :: us, kw⟩)
      (fun r s' => match r with | .ok (.ret v) => v = .none ∧ Q (.done (.ret (.ref (h.objs.size + 1)))) s' | .ok _ => False | .error e => E e s')
      ⟨(h.push (W.kdv_tup us)).push (excO C h.objs.size), g, d, t, os⟩) :
    wpAny (model prog w) A (Builtin.«type.__call__» ⟨.ref C :: us, kw⟩) Q E ⟨h, g, d, t, os⟩ := by
  repeat (first
    | with_reducible refine wpAny_loadPart_at at_ ?_
    | with_reducible refine wpAny_madeBy_exc at_ ?_
    | wp_step)
  refine codeAny_call_builtin_code (Code.quiet_builtin _ F.quiet) (chk_new F tl at_ ?_)
  refine new_of F tl at_ room ?_
  show wpAny _ _ _ _ _ _
  have kept : ∀ b o, h.get? b = some o → ((h.push (W.kdv_tup us)).push (excO C h.objs.size)).get? b = some o := fun b o e => Heap.get?_push_of_some _ (Heap.get?_push_of_some _ e)
  have at1 := kept _ _ at_
  have got : ((h.push (W.kdv_tup us)).push (excO C h.objs.size)).get? (h.objs.size + 1) = some (excO C h.objs.size) := by
    heap_get
  have c4 : (Value.ref C :: bm).contains (.ref C) = true := by
    simp
  have i1 := hi.keeps kept
  have b1 := (hb (.ref (h.objs.size + 1))).keeps kept
  unfold isInstance
  repeat (first
    | with_reducible refine wpAny_loadPart_at got ?_
    | (with_reducible refine wpAny_isSubtype_exc at1 ?_; rw [c4])
    | wp_step)
  show wpAny _ _ (typeLookup (.ref C) _) _ _ _
  refine i1.at ?_
  refine wpAny_holding (wpAny_bind (b1.at ?_))
  refine wpAny_bind (wpAny_call (codeAny_mono hq fun r s' z => ?_))
  rcases r with e | (v | _ | _ | _) <;> first | exact z | exact z.elim | skip
  obtain ⟨rfl, z⟩ := z
  first
    | exact wpAny_pure (wpAny_pure z)
    | (wp_walk; exact z)
theorem call_of {us : List Value} {kw : List (Str × Value)} {fI : Addr} (F : ExcBaseFacts B newId initId bmB) (tl : ∀ T : String, bm.contains (.type T) = bmB.contains (.type T))
    (at_ : h.get? C = some (excClassObj nm q C N bs bm hdct sn sub ab col dd k0 k1 k2 k3 k5 newId))
    (hi : W.Looks (model prog w) h (typeLookup (.ref C) "__init__") (some (.ref fI))) (hb : ∀ self, W.Looks (model prog w) h (bindSpecial (.ref fI) self) (.ref fI, [self])) (room : us.length ≤ sizeLine)
    (hq : codeAny (model prog w) (A.under (.builtin "type.__call__" ⟨.ref C :: us, kw⟩)) (.call (.ref fI) ⟨.ref (h.objs.size + 1) :: us, kw⟩) (W.InitBack (h.objs.size + 1) R)
      ⟨(h.push (W.kdv_tup us)).push (excO C h.objs.size), g, d, t, os⟩) :
    codeAny (model prog w) A (.call (.ref C) ⟨us, kw⟩) R ⟨h, g, d, t, os⟩ := by
  have f1 := tc_lookup
  have f2 := tc_bind (.ref C)
  have ty : (⟨h, g, d, t, os⟩ : Shared).TypeIs (.ref C) "type" := ⟨_, at_, rfl⟩
  refine codeAny_of_tree ?_
  show wpAny _ _ (callAny (.ref C) _) _ _ _
  repeat (any_goals (first | assumption | with_reducible refine wpAny_loadPart_at at_ ?_ | wp_step))
  refine ⟨rfl, ?_⟩
  refine codeAny_call_builtin_at (Code.quiet_builtin _ (by decide +kernel)) entry_typeCall (wpAny_check_type_call_sub at_ (tcall_of F tl at_ hi hb room ?_))
  refine codeAny_mono hq fun r s' z => ?_
  rcases r with e | (v | _ | _ | _) <;> exact z
end
end SpX
end PySem
set_option Elab.async false
set_option linter.all false
set_option maxRecDepth 100000
set_option maxHeartbeats 4000000
namespace PySem
namespace SpX
open PySem.W PySem.Calls PyProof.Rows PySem.HandSPX
/-! ### storing into such an error -/
section
open Builtin Builtin.ObjectAttr
variable {prog : Program} {w : World} {A : Around} {R : Result → Shared → Prop} {hp : Heap} {g : Array GenState} {d : Drawn} {t : Nat} {os : OsState} {bmB : List Value} {B : String}
theorem tail_ne {bmB : List Value} (nb : bmB.isEmpty = false) : ∀ l : List Value, W.excTail bmB l = true → l.isEmpty = false := fun l e => by
  rcases W.excTail_cases l e with ⟨c, r, q, _⟩ | q
  · rw [q]
    rfl
  · rw [q]
    exact nb
/-- the first field -/
theorem osa_one {K : W.Frag} {f : Str} {tk : Tok} {v : Value} {x C : Addr} {fv : Array Value} {cd : ClassData} (S0 : StoreFacts B bmB "object.__setattr__" "object") (hobj : bmB.contains (.type "object") = true) (hnb : bmB.isEmpty = false)
    (X : K.In hp) (at_ : hp.get? x = some { cls := .ref C, data := .fields fv }) (ec : W.clsIn K C = some cd) (em : W.excTail bmB cd.mro = true) (ed : cd.hasDict = true) (ea : W.findIn K (.ref C) f = some none)
    (hq : ∀ h' tk' dx, (∀ b o, b ≠ x → hp.get? b = some o → h'.get? b = some o) → hp.objs.size ≤ dx → dx ≠ x → h'.get? x = some { cls := .ref C, dict := some dx, data := .fields fv } →
      h'.Ns1 dx (fun y => if y = f then some v else none) → R (.ok (.ret .none)) ⟨h', g, d, tk', os⟩) :
    codeAny (model prog w) A (.call (.builtin "object.__setattr__") ⟨[.ref x, .str f tk, v], []⟩) R ⟨hp, g, d, t, os⟩ := by
  have J : W.InstAt hp x { cls := .ref C, data := .fields fv } C none := ⟨at_, rfl, rfl, trivial⟩
  have SF := F.store_object
  have ne := tail_ne hnb _ em
  have ob : cd.mro.contains (.type "object") = true := (W.excTail_contains "object" _ em).trans hobj
  have xs : x ≠ hp.objs.size := Nat.ne_of_lt (Heap.lt_size at_)
  have isobj : W.Looks (model prog w) hp (isInstance (.ref x) (.type "object")) true := J.type.andThen (W.looks_mroIn X (by unfold W.mroIn; rw [ec, Option.bind_some, if_neg (by rw [ne]; decide), ob]))
  refine codeAny_call_builtin SF.slot.plain SF.entry (@W.check_slot (model prog w) _ _ ⟨hp, g, d, t, os⟩ "object.__setattr__" "object" "__setattr__" (.ref x) [.str f tk, v] [] _ SF.kind SF.split isobj (SF.args (.ref x) (.str f tk) v) ?_)
  have l1 : W.Looks (model prog w) hp (mroOf (.ref C)) cd.mro := (W.looks_clsIn X ec).andThen .now
  have l2 : W.Looks (model prog w) hp (storeTaker? none) none := .now
  have l3 : W.Looks (model prog w) hp (classData C) cd := W.looks_clsIn X ec
  rw [W.osa_eq, refuse_eq]
  refine wpAny_bind (wpAny_bind (J.type.at (wpAny_bind (l1.at ?_))))
  rw [W.excTail_pass _ (S0.passes _) _ em]
  refine wpAny_pure (wpAny_bind (J.type.at (wpAny_bind ((W.looks_findIn X ea).at (wpAny_bind (l2.at ?_))))))
  show wpAny _ _ (storeInOwnDict (.ref x) (.ref C) (.str f tk) f v false) _ _ _
  obtain ⟨c1, c2, c3, c4, c5, c6, c7, c8, c9, c10, c11⟩ := cd
  dsimp only at ed
  subst ed
  unfold storeInOwnDict ownDictForStores
  repeat (first
    | with_reducible refine store_in_new ?_ ?_
    | with_reducible refine wpAny_loadPart_at at_ ?_
    | with_reducible refine l3.at ?_
    | wp_step)
  · exact ⟨_, #[], _, (Heap.get?_update_ne _ _ _ _ xs.symm).trans (Heap.get?_push_at rfl rfl), rfl, fun e he => absurd he (by simp), fun _ => rfl⟩
  · intro h' tk' hn' hs
    have at1 : (hp.push { cls := .type "dict", data := .dict #[] }).get? x = some { cls := .ref C, data := .fields fv } := Heap.get?_push_of_some _ at_
    refine hq h' tk' hp.objs.size (fun b o hb ho => ?_) (Nat.le_refl _) xs.symm ?_ hn'
    · exact (hs.2 b (Nat.ne_of_lt (Heap.lt_size ho))).trans ((Heap.get?_update_ne _ _ _ _ hb).trans (Heap.get?_push_of_some _ ho))
    · exact (hs.2 x xs).trans (Heap.get?_update_self _ at1 rfl)
/-- a further one -/
theorem osa_two {K : W.Frag} {f : Str} {tk : Tok} {v : Value} {x C dx : Addr} {fv : Array Value} {cd : ClassData} {m0 : Str → Option Value} {nl : List Str} (S0 : StoreFacts B bmB "object.__setattr__" "object") (hobj : bmB.contains (.type "object") = true) (hnb : bmB.isEmpty = false)
    (X : K.In hp) (at_ : hp.get? x = some { cls := .ref C, dict := some dx, data := .fields fv }) (hns : hp.Ns1 dx m0) (hw : Within m0 nl) (hz : nl.length ≤ 1000) (ec : W.clsIn K C = some cd) (em : W.excTail bmB cd.mro = true) (ed : cd.hasDict = true)
    (ea : W.findIn K (.ref C) f = some none)
    (hq : ∀ h' tk', (∀ b o, b ≠ dx → hp.get? b = some o → h'.get? b = some o) → h'.Ns1 dx (fun y => if y = f then some v else m0 y) → R (.ok (.ret .none)) ⟨h', g, d, tk', os⟩) :
    codeAny (model prog w) A (.call (.builtin "object.__setattr__") ⟨[.ref x, .str f tk, v], []⟩) R ⟨hp, g, d, t, os⟩ := by
  obtain ⟨oD, _, _, hoD, _, _⟩ := hns.count hw
  have J : W.InstAt hp x { cls := .ref C, dict := some dx, data := .fields fv } C (some oD) := ⟨at_, rfl, rfl, hoD⟩
  have SF := F.store_object
  have ne := tail_ne hnb _ em
  have ob : cd.mro.contains (.type "object") = true := (W.excTail_contains "object" _ em).trans hobj
  have isobj : W.Looks (model prog w) hp (isInstance (.ref x) (.type "object")) true := J.type.andThen (W.looks_mroIn X (by unfold W.mroIn; rw [ec, Option.bind_some, if_neg (by rw [ne]; decide), ob]))
  refine codeAny_call_builtin SF.slot.plain SF.entry (@W.check_slot (model prog w) _ _ ⟨hp, g, d, t, os⟩ "object.__setattr__" "object" "__setattr__" (.ref x) [.str f tk, v] [] _ SF.kind SF.split isobj (SF.args (.ref x) (.str f tk) v) ?_)
  have l1 : W.Looks (model prog w) hp (mroOf (.ref C)) cd.mro := (W.looks_clsIn X ec).andThen .now
  have l2 : W.Looks (model prog w) hp (storeTaker? none) none := .now
  have l3 : W.Looks (model prog w) hp (classData C) cd := W.looks_clsIn X ec
  rw [W.osa_eq, refuse_eq]
  refine wpAny_bind (wpAny_bind (J.type.at (wpAny_bind (l1.at ?_))))
  rw [W.excTail_pass _ (S0.passes _) _ em]
  refine wpAny_pure (wpAny_bind (J.type.at (wpAny_bind ((W.looks_findIn X ea).at (wpAny_bind (l2.at ?_))))))
  show wpAny _ _ (storeInOwnDict (.ref x) (.ref C) (.str f tk) f v false) _ _ _
  obtain ⟨c1, c2, c3, c4, c5, c6, c7, c8, c9, c10, c11⟩ := cd
  dsimp only at ed
  subst ed
  unfold storeInOwnDict ownDictForStores
  repeat (first
    | with_reducible refine PySem.OEX.store_in_old hns hw hz ?_
    | with_reducible refine wpAny_loadPart_at at_ ?_
    | with_reducible refine l3.at ?_
    | wp_step)
  intro h' tk' hn' hs
  exact hq h' tk' (fun b o hb ho => (hs.2 b hb).trans ho) hn'
end
end SpX
end PySem
set_option Elab.async false
set_option linter.all false
set_option maxRecDepth 100000
set_option maxHeartbeats 4000000
namespace Sp
open PySem PySem.Spec PyProof.Rows L2
/-- a family of errors: what Python's own class B over them gives -/
structure Fam (B newId initId : String) (bmB : List Value) : Prop where
  base : ExcBaseFacts B newId initId bmB
  store : StoreFacts B bmB "object.__setattr__" "object"
  obj : bmB.contains (.type "object") = true
  ne : bmB.isEmpty = false
abbrev veM : List Value := [.type "ValueError", .type "Exception", .type "BaseException", .type "object"]
abbrev leM : List Value := [.type "LookupError", .type "Exception", .type "BaseException", .type "object"]
theorem famV : Fam "ValueError" "ValueError.__new__" "ValueError.__init__" veM := ⟨F.excBase_ValueError, F.store_ValueError, by decide +kernel, rfl⟩
theorem famL : Fam "LookupError" "LookupError.__new__" "LookupError.__init__" leM := ⟨F.excBase_LookupError, F.store_LookupError, by decide +kernel, rfl⟩
/-- what the written part says of an own error class at C -/
structure XC (K : PySem.W.Frag) (C : Addr) (B newId initId : String) (bmB : List Value) : Prop where
  fam : Fam B newId initId bmB
  cls : ∃ nm q N bs bm sn sub ab col dd k0 k1 k2 k3 k5, K.lookup C = some (excClassObj nm q C N bs bm true sn sub ab col dd k0 k1 k2 k3 k5 newId) ∧ PySem.W.excTail bmB bm = true
  sa : PySem.W.findIn K (.ref C) "__setattr__" = some (some (.builtin "object.__setattr__"))
  kC : PySem.W.keepIn K (.ref C) = true
  ga : PySem.W.findIn K (.ref C) "__getattribute__" = some (some (.builtin "BaseException.__getattribute__"))
  gg : PySem.W.findIn K (.ref C) "__getattr__" = some none
  exC : PySem.W.subIn K (.ref C) (.type "BaseException") = some true
  tyC : PySem.W.typeIn K (.ref C) = some (.type "type")
  hdC : PySem.W.hasDictIn K C = true
  ha : PySem.W.findIn K (.ref C) "__class__" = some (some (.builtin "object.__class__"))
  hn : PySem.W.specialIn K (.builtin "object.__class__") "__get__" = some (some (.builtin "getset_descriptor.__get__"))
  ht : PySem.W.takesIn K (.builtin "object.__class__") = some true
  hm : PySem.W.mroIn K C (.type "object") = some true

section
variable {X : Cx} {pins : List (Addr × Obj)} {σ : L2.St} {H : Hp} {s : Shared} {a C dx : Addr} {f : Str} {y : V} {u : Value} {fs : List (Str × V)} {Q : Unit → Shared → Prop} {E : Value → Shared → Prop} {A : Around} {B newId initId : String} {bmB : List Value}
theorem XC.own {K : PySem.W.Frag} (T : XC K C B newId initId bmB) : ∃ cd, PySem.W.clsIn K C = some cd ∧ PySem.W.excTail bmB cd.mro = true ∧ cd.hasDict = true := by
  obtain ⟨nm, q, N, bs, bm, sn, sub, ab, col, dd, k0, k1, k2, k3, k5, eC, em⟩ := T.cls
  refine ⟨{ name := nm, bases := bs, mro := .ref C :: bm, ns := N, qualname := q, hasDict := true, slotNames := sn, subclasses := sub, abstract := ab, collection := col, hasDel := false }, ?_, em, rfl⟩
  unfold PySem.W.clsIn
  rw [eC]
  all_goals rfl
/-- self.f = y, the first one -/
theorem xst_new (T : XC X.K C B newId initId bmB) (I : Inv X pins σ H s) (e : H a = some (exo a C none)) (no : PySem.W.findIn X.K (.ref C) f = some none) (ry : RelV y u)
    (h : ∀ dx s', H dx = none → dx ≠ a → Inv X pins σ (upd (upd H dx (exd dx [(f, y)])) a (exo a C (some dx))) s' → Q () s') : wpAny (model X.prog X.w) A (setAttr (.ref a) f u) Q E s := by
  obtain ⟨cd, ec, em, ed⟩ := T.own
  obtain ⟨t1, ho⟩ := exo_at I.hok e
  obtain ⟨hp, g, d, t, os⟩ := s
  refine PySem.W.set_plain I.kIn (ox := { cls := .ref C, dict := none, data := .fields #[.ref t1, .none, .none, .none, .bool false, .none] }) (od := none) ⟨ho, rfl, rfl, trivial⟩ T.sa ?_
  refine PySem.SpX.osa_one T.fam.store T.fam.obj T.fam.ne I.kIn ho ec em ed no (fun h' tk' dx k dn dne hx hn => ?_)
  have fresh : H dx = none := I.hok.fresh dn
  have nd : ∀ {b : Addr} {o : Obj}, hp.get? b = some o → b ≠ dx := fun {b o} q => Nat.ne_of_lt (Nat.lt_of_lt_of_le (Heap.lt_size q) dn)
  have na : ∀ {b : Addr}, H b = none → b ≠ a := fun {b} n z => by
    rw [z, e] at n
    cases n
  have U : Un X.fs [] H (upd (upd H dx (exd dx [(f, y)])) a (exo a C (some dx))) hp h' := {
    keep := fun b o q n _ _ => k b o (na n) q
    slot := fun b o q n _ _ => ⟨o.slots, k b o (na n) q⟩
    free := fun b o q n _ => by
      rw [upd_ne (na n), upd_ne (nd q)]
      exact n
    there := fun b o q _ => by
      by_cases hb : b = a
      · exact ⟨_, by rw [hb]; exact hx⟩
      · exact ⟨o, k b o hb q⟩
    tups := fun b xs q => by
      rw [upd_ne (at_ne e q exo_tup), upd_ne (ne_of_none q fresh)]
      exact q
    frzs := fun b o v q => by
      rw [upd_ne (at_ne e q exo_frz), upd_ne (ne_of_none q fresh)]
      exact q
    tbls := fun b ps q => ⟨#[], by
      rw [upd_ne (at_ne e q exo_tbl), upd_ne (ne_of_none q fresh), q]
      simp⟩ }
  refine h dx _ fresh dne (I.un (t' := tk') U fun b o q => ?_)
  by_cases hb : b = a
  · subst hb
    rw [upd_same] at q
    cases q
    exact exo_ok hx
  · rw [upd_ne hb] at q
    by_cases hd : b = dx
    · subst hd
      rw [upd_same] at q
      cases q
      exact exd_ok hn (relO_put (fs := []) ry fun g => True.intro)
    · rw [upd_ne hd] at q
      refine (I.hok b o q).stay (fun c v hc z => k c v ?_ z) (fun c hc => ?_) (fun c xs hc => ?_)
      · rcases hc with hc | hc
        · rw [hc]
          exact hb
        · exact at_ne e hc exo_own
      · rw [upd_ne (at_ne e hc exo_own), upd_ne (ne_of_none hc fresh)]
        exact hc
      · rw [upd_ne (at_ne e hc exo_tup), upd_ne (ne_of_none hc fresh)]
        exact hc
/-- self.f = y, a further one -/
theorem xst_old (T : XC X.K C B newId initId bmB) (I : Inv X pins σ H s) (e : H a = some (exo a C (some dx))) (ed : H dx = some (exd dx fs)) (hl : fs.length ≤ 900) (no : PySem.W.findIn X.K (.ref C) f = some none) (ry : RelV y u)
    (h : ∀ s', Inv X pins σ (upd H dx (exd dx ((f, y) :: fs))) s' → Q () s') : wpAny (model X.prog X.w) A (setAttr (.ref a) f u) Q E s := by
  obtain ⟨cd, ec, em, ec2⟩ := T.own
  obtain ⟨t1, ho⟩ := exo_at I.hok e
  obtain ⟨mA, hns, rel⟩ := exd_at I.hok ed
  have hw := within_of rel
  obtain ⟨hp, g, d, t, os⟩ := s
  obtain ⟨oD, _, _, hoD, _, _⟩ := hns.count hw
  refine PySem.W.set_plain I.kIn (ox := { cls := .ref C, dict := some dx, data := .fields #[.ref t1, .none, .none, .none, .bool false, .none] }) (od := some oD) ⟨ho, rfl, rfl, hoD⟩ T.sa ?_
  refine PySem.SpX.osa_two T.fam.store T.fam.obj T.fam.ne I.kIn ho hns hw (by rw [List.length_map]; omega) ec em ec2 no (fun h' tk' k hn => ?_)
  have hd : ∃ o, h'.get? dx = some o := by
    obtain ⟨o, _, _, e', _⟩ := hn
    exact ⟨o, e'⟩
  exact h _ (I.write (t' := tk') (x := dx) (e := dx) (o := exd dx ((f, y) :: fs)) (by rw [ed]; exact True.intro) (.inl rfl) k hd (exd_ok hn (relO_put ry rel)))
end

/-! ### readings and rules -/
/-- self.f = e in an error's __init__ -/
def tXst (K : PySem.W.Frag) (f : Str) (to te : TE) : TS := fun D σ H => te σ H fun y H1 => to σ H1 fun x H2 => ∃ (a C : Addr) (B newId initId : String) (bmB : List Value), x = .ref a ∧ XC K C B newId initId bmB ∧ PySem.W.findIn K (.ref C) f = some none ∧
  ((H2 a = some (exo a C none) ∧ ∀ dx, H2 dx = none → dx ≠ a → D.nx σ (upd (upd H2 dx (exd dx [(f, y)])) a (exo a C (some dx)))) ∨
    ∃ (dx : Addr) (fs : List (Str × V)), H2 a = some (exo a C (some dx)) ∧ H2 dx = some (exd dx fs) ∧ fs.length ≤ 900 ∧ D.nx σ (upd H2 dx (exd dx ((f, y) :: fs))))
/-- C(.., k = v ..) of an error class with an own __init__, kept as a value -/
def tMkX (C : Addr) (n m : Nat) (sp : Sp) (gV : List V → List V → List V) (t tk : TA) : TE := fun σ H Q => t σ H fun vs H1 => tk σ H1 fun zs H2 => vs.length = n ∧ zs.length = m ∧
  ∀ a, H2 a = none → sp (gV (.ref a :: vs) zs) (upd H2 a (exo a C none)) (fun v H3 => v = .non ∧ Q (.ref a) H3) (fun _ _ _ => False)
/-- x.f of such an error -/
def tXget (K : PySem.W.Frag) (f : Str) (te : TE) : TE := fun σ H Q => te σ H fun x H1 => ∃ (a C d : Addr) (fs : List (Str × V)) (v : V) (B newId initId : String) (bmB : List Value), x = .ref a ∧ XC K C B newId initId bmB ∧ PySem.W.findIn K (.ref C) f = some none ∧
  H1 a = some (exo a C (some d)) ∧ H1 d = some (exd d fs) ∧ fs.lookup f = some v ∧ Q v H1
/-- isinstance(x, c) of such an error -/
def rIsX (K : PySem.W.Frag) : List V → Hp → VK → Prop := fun xs H Q => ∃ (a C : Addr) (d : Option Addr) (c : V) (cv : Value) (b : Bool) (B newId initId : String) (bmB : List Value), xs = [.ref a, c] ∧ XC K C B newId initId bmB ∧ H a = some (exo a C d) ∧
  (∀ dx, d = some dx → ∃ fs, H dx = some (exd dx fs)) ∧ (∀ u, RelV c u → u = cv) ∧ PySem.W.kitOne K (.ref C) cv = some b ∧ Q (.bl b) H
section
variable {X : Cx} {o e : Expr} {es : List Expr} {to te : TE} {t tk : TA} {f : Str} {p p' p1 p2 pos : Pos} {CX : CXT} {k n : Nat} {C fI : Addr} {fd : FuncData} {ps ks : List Str} {sp : Sp} {x : Str} {kws : List Keyword} {g : List Value → List Value → List Value} {gV : List V → List V → List V} {B newId initId : String} {bmB : List Value}
theorem ps_xst (ho : PE X o to) (he : PE X e te) (hs : swapsWith e (some (.Attribute o f p')) pos.line X.env = pure false := by rfl) : PS X (.Assign [.Attribute o f p'] e pos) (tXst X.K f to te) := by
  refine ⟨fun pins s σ H D I h => ?_⟩
  refine plainObj_wpAny_Assign_Attribute (thn (he.run pins s σ H _ I h) fun v s1 ⟨y, H1, I1, r1, q1⟩ => thn (ho.run pins s1 σ H1 _ I1 q1) fun u s2 ⟨x, H2, I2, r2, a, C, B, newId, initId, bmB, ex, T, no, q⟩ => ?_) hs
  subst ex
  obtain rfl : u = Value.ref a := r2
  rcases q with ⟨ea, q⟩ | ⟨dx, fs, ea, ed, hl, q⟩
  · exact xst_new T I2 ea no r1 fun dx s' n ne J => ⟨σ, _, J, q dx n ne⟩
  · exact xst_old T I2 ea ed hl no r1 fun s' J => ⟨σ, _, J, q⟩
theorem run_mkX {pins : List (Addr × Obj)} {σ : L2.St} {H : Hp} {s : Shared} {Q : VK} {us ws : List Value} {vs zs : List V} (T : XC X.K C B newId initId bmB) (iC : PySem.W.findIn X.K (.ref C) "__init__" = some (some (.ref fI)))
    (tI : PySem.W.typeIn X.K (.ref fI) = some (.type "function")) (G : FnOk X.prog X.w X.K X.mg X.base CX k fI fd ps sp) (hr : Room (k + 1) X.A) (hb : KBn X.K fd ps (n + 1) ks g gV) (hx : Passes CX X (fun _ _ _ => False))
    (I : Inv X pins σ H s) (r : Vals vs us) (rz : Vals zs ws) (l1 : vs.length = n) (l2 : zs.length = ks.length) (small : n ≤ 1000)
    (h : ∀ a, H a = none → sp (gV (.ref a :: vs) zs) (upd H a (exo a C none)) (fun v H2 => v = .non ∧ Q (.ref a) H2) (fun _ _ _ => False)) :
    wpAny (model X.prog X.w) X.A (call (.ref C) us (ks.zip ws)) (EP X pins σ Q) X.xe s := by
  obtain ⟨nm, q, N, bs, bm, sn, sub, ab, col, dd, k0, k1, k2, k3, k5, eC, em⟩ := T.cls
  obtain ⟨hp, gs, dr, tk, os⟩ := s
  have up : hp.objs.size ≤ hp.objs.size + 1 := Nat.le_succ _
  have fresh : H (hp.objs.size + 1) = none := I.hok.fresh up
  have hq := h (hp.objs.size + 1) fresh
  have kk : ∀ b o, hp.get? b = some o → ((hp.push (PySem.W.kdv_tup us)).push (PySem.HandSPX.excO C hp.objs.size)).get? b = some o := fun b o e => Heap.get?_push_of_some _ (Heap.get?_push_of_some _ e)
  have got : ((hp.push (PySem.W.kdv_tup us)).push (PySem.HandSPX.excO C hp.objs.size)).get? (hp.objs.size + 1) = some (PySem.HandSPX.excO C hp.objs.size) := by
    heap_get
  have I2 : Inv X pins σ (upd H (hp.objs.size + 1) (exo (hp.objs.size + 1) C none)) ⟨(hp.push (PySem.W.kdv_tup us)).push (PySem.HandSPX.excO C hp.objs.size), gs, dr, tk, os⟩ :=
    I.laid (t' := tk) (a := hp.objs.size + 1) (o := exo (hp.objs.size + 1) C none) (h' := (hp.push (PySem.W.kdv_tup us)).push (PySem.HandSPX.excO C hp.objs.size)) kk up (exo_ok got)
  have r1 : Vals (V.ref (hp.objs.size + 1) :: vs) (Value.ref (hp.objs.size + 1) :: us) := .cons rfl r
  have r2 := hb.rel r1 rz
  have e1 : (Value.ref (hp.objs.size + 1) :: us).length = n + 1 := r1.length.symm.trans (congrArg Nat.succ l1)
  have e2 : ws.length = ks.length := rz.length.symm.trans l2
  have hus : us.length ≤ sizeLine := by
    rw [← Paired.length r, sizeLine_eq]
    omega
  refine wpAny_call (PySem.SpX.call_of T.fam.base (fun Y => PySem.W.excTail_contains Y bm em) (I.kIn _ _ eC) (PySem.W.looks_findIn I.kIn iC) (fun self => PySem.W.bind_fn I.kIn self tI) hus
    (codeAny_mono (G.run _ X.stack _ _ ⟨Value.ref (hp.objs.size + 1) :: us, ks.zip ws⟩ (g (Value.ref (hp.objs.size + 1) :: us) ws) _ _ (fun _ _ _ => False) (hr.make C us (ks.zip ws)) (I2.env0.make C us (ks.zip ws))
      (hb.to _ (Value.ref (hp.objs.size + 1) :: us) ws I2.kIn e1 e2) r2 hq) fun r s' hq' => ?_))
  cases r with
  | error er => exact hx pins σ _ _ er s' I2 hq'
  | ok fl =>
    cases fl with
    | ret u =>
      obtain ⟨v, H', I3, rv, ev, q3⟩ := I2.after hq'
      subst ev
      exact ⟨rv, ⟨V.ref (hp.objs.size + 1), H', I3, rfl, q3⟩⟩
    | next => exact False.elim hq'
    | brk => exact False.elim hq'
    | cont => exact False.elim hq'
/-- C(e ..) -/
theorem pe_mkX (T : XC X.K C B newId initId bmB) (iC : PySem.W.findIn X.K (.ref C) "__init__" = some (some (.ref fI))) (tI : PySem.W.typeIn X.K (.ref fI) = some (.type "function"))
    (G : FnOk X.prog X.w X.K X.mg X.base CX k fI fd ps sp) (hr : Room (k + 1) X.A) (hb : KBn X.K fd ps (n + 1) [] g gV) (hx : Passes CX X (fun _ _ _ => False)) (hg : Gl X x) (hm : X.mg x = some (.ref C)) (ha : PA X (e :: es) t) (small : n ≤ 1000)
    (hdb : (x == ("__debug__" : Str)) = false := by decide) (he : starEach (e :: es) X.env = (false, eval e X.env) :: starEach es X.env := by rfl) (hpl : (backTo pos (starEach es X.env)).any (·.1) = false := by rfl) :
    PE X (.Call (.Name x p) (e :: es) [] pos) (tMkX C n 0 sp gV t tNil) := by
  refine ⟨fun pins s σ H Q I h => ?_⟩
  refine wpAny_Call_Name_kw (ld_glob I hg hm ?_ hdb)
  refine PySem.W.callWith_K (h₀ := X.base) I.ok.mod.kin T.kC (thn (ha.run pos pins s σ H _ I h) fun us s1 ⟨vs, H1, I1, r1, q1⟩ => ⟨I1.kIn, ?_⟩) he hpl
  obtain ⟨l1, l2, q2⟩ := q1
  have z := run_mkX (ks := []) (ws := []) (zs := []) T iC tI G hr hb hx I1 r1 .nil l1 rfl small q2
  exact z
/-- C(k = v ..) -/
theorem pe_mkXK (T : XC X.K C B newId initId bmB) (iC : PySem.W.findIn X.K (.ref C) "__init__" = some (some (.ref fI))) (tI : PySem.W.typeIn X.K (.ref fI) = some (.type "function"))
    (G : FnOk X.prog X.w X.K X.mg X.base CX k fI fd ps sp) (hr : Room (k + 1) X.A) (hb : KBn X.K fd ps 1 ks g gV) (hx : Passes CX X (fun _ _ _ => False)) (hg : Gl X x) (hm : X.mg x = some (.ref C)) (hkw : PK X kws tk)
    (hall : (backToKw pos (keywordEach kws X.env)).all (·.1.isSome) = true := by rfl) (hks : (backToKw pos (keywordEach kws X.env)).filterMap (·.1) = ks := by rfl) (hdb : (x == ("__debug__" : Str)) = false := by decide)
    (hpl : ((backTo pos (starEach [] X.env)).any (·.1) || (backToKw pos (keywordEach kws X.env)).any (·.1.isNone)) = false := by rfl) :
    PE X (.Call (.Name x p) [] kws pos) (tMkX C 0 ks.length sp gV tNil tk) := by
  refine ⟨fun pins s σ H Q I h => ?_⟩
  refine wpAny_Call_Name_kw (ld_glob I hg hm ?_ hdb)
  refine PySem.W.callWith_KW0 (h₀ := X.base) I.ok.mod.kin T.kC hall (thn (hkw.run pos pins s σ H _ I h) fun ws s2 ⟨zs, H2, I2, rz, l1, l2, q2⟩ => ⟨I2.kIn, ?_⟩) hpl
  rw [hks]
  exact run_mkX (us := []) (vs := []) T iC tI G hr hb hx I2 .nil rz rfl l2 (by decide) q2
/-- x.f -/
theorem pe_xget (he : PE X e te) (hb : attributeBase e f X.env (eval e X.env) = eval e X.env := by rfl) : PE X (.Attribute e f pos) (tXget X.K f te) := by
  refine ⟨fun pins s σ H Q I h => ?_⟩
  refine attr_of hb (thn (he.run pins s σ H _ I h) fun u s1 hh => ?_)
  obtain ⟨x, H1, I1, rx, a, C, d, fs, v, B, newId, initId, bmB, ex, T, no, ea, ed, l, q⟩ := hh
  subst ex
  obtain rfl : u = Value.ref a := rx
  obtain ⟨t1, ho⟩ := exo_at I1.hok ea
  obtain ⟨mA, hns, rel⟩ := exd_at I1.hok ed
  obtain ⟨od, ho2, hl⟩ := lookIn_ns hns
  obtain ⟨u, hu, ru⟩ := RelO.some_of (v := v) (o := mA f) (by rw [← l]; exact rel f)
  have J : PySem.W.InstAt s1.heap a { cls := .ref C, dict := some d, data := .fields #[.ref t1, .none, .none, .none, .bool false, .none] } C (some od) := ⟨ho, rfl, rfl, ho2⟩
  exact HandSPX.exc_get I1.kIn J T.ga T.gg T.exC (PySem.W.findObj_own T.hdC no rfl (by rw [hl, hu])) (handed_of ru) ⟨v, H1, I1.tok _, ru, q⟩
/-- isinstance(x, c) -/
theorem call_isX : CallR X (.builtin "isinstance") (rIsX X.K) := by
  intro pins s σ H xs us Q I r h
  obtain ⟨a, C, d, c, cv, b, B, newId, initId, bmB, rfl, T, ea, ed, hcv, e, q⟩ := h
  cases r with
  | cons rx rr =>
    cases rr with
    | cons rt rr =>
      cases rr
      cases rx
      have ec := hcv _ rt
      subst ec
      obtain ⟨t1, ho⟩ := exo_at I.hok ea
      obtain ⟨cd, ec, _, _⟩ := T.own
      have J : ∃ od, PySem.W.InstAt s.heap a { cls := .ref C, dict := d, data := .fields #[.ref t1, .none, .none, .none, .bool false, .none] } C od := by
        cases d with
        | none => exact ⟨none, ho, rfl, rfl, trivial⟩
        | some dx =>
          obtain ⟨fs, hd⟩ := ed dx rfl
          obtain ⟨mA, hns, _⟩ := exd_at I.hok hd
          obtain ⟨od, ho2, _⟩ := lookIn_ns hns
          exact ⟨some od, ho, rfl, rfl, ho2⟩
      obtain ⟨od, J⟩ := J
      exact PySem.W.kia_one (PySem.W.kitx_exc (by rw [ec]; rfl) T.ga T.gg T.exC T.ha T.hn T.ht T.hm) I.kIn J e (fun z => nomatch z) fun tk => ⟨.bl b, H, I.kept (t' := tk) fun _ _ z => z, rfl, q⟩
end
end Sp
set_option Elab.async false
set_option linter.all false
set_option maxRecDepth 100000
set_option maxHeartbeats 4000000
/-! defs called with an exception that is handled -/
namespace Ex
open PySem PySem.Spec PyProof.Rows L2 L2H
structure FnE (P : Program) (w : World) (K : PySem.W.Frag) (mg : Str → Option Value) (base : Heap) (k : Nat) (f : Addr) (fd : FuncData) (ps : List Str) (sp : Addr → Value → Option Addr → Sp) : Prop where
  len : ∀ a cls d vs H Q E, sp a cls d vs H Q E → vs.length = ps.length
  run : ∀ (A : Around) (outer : List Env) (s : Shared) (H : Hp) (args : Args) (us : List Value) (vs : List V) (Q : VK) (E : XK) (a : Addr) (oe : Obj) (cls : Value) (d : Option Addr), RoomH k A → A.guards = some [] → PinOk outer H s (a, oe) → Zc cls d oe → (∃ vs, oe.data = .fields vs) →
    Env0 P w K mg base A outer s H → BindsTo s fd args (ps.zip us) → L2.Vals vs us → sp a cls d vs H Q E → codeAny (model P w) A (.call (.ref f) args) (CR CX0 outer P w H s Q E) s
section
variable {P : Program} {w : World} {K : PySem.W.Frag} {mg : Str → Option Value} {base : Heap}
theorem okE {x qual : Str} {st : Stmt} {f : Addr} {fd : FuncData} {N ps : List Str} {k : Nat} {sp : Addr → Value → Option Addr → Sp} (F : Fun K x qual st f fd) (S : FnScope N ps (defScope st)) (len : ∀ a cls d vs H Q E, sp a cls d vs H Q E → vs.length = ps.length)
    (hbody : ∀ (cdv : Value) (A : Around) (outer : List Env) (s : Shared) (H : Hp) (vs : List V) (Q : VK) (E : XK) (a : Addr) (oe : Obj) (cls : Value) (d : Option Addr), RoomH k (A.deeper (envOfC qual (defScope st) s.heap.objs.size f cdv)) → A.guards = some [] → Zc cls d oe → (∃ vs, oe.data = .fields vs) → sp a cls d vs H Q E →
      ∃ t, PSs (cxH CX0 P w K mg base N qual (defScope st) f cdv A outer s H E (a, oe)).nox (defBody st) t ∧ t { nx := fun _ H' => Q .non H', rt := Q } (L2.start N vs) H) : FnE P w K mg base (k + 1) f fd ps sp := by
  obtain ⟨oc, od, kV, doc, pm, an, cdv, ct, osl, rfl, lk, hcd⟩ := F.ex
  refine ⟨len, fun A outer s H args us vs Q E a oe cls d hr hg hpin hz hf e0 hb r hsp => ?_⟩
  have hl := len _ _ _ _ _ _ _ hsp
  have KX : K.In s.heap := e0.mod.kin.keeps fun b o e => (e0.bs b o e).1
  have lim : s.heap.NoLimit := e0.mod.nolimit.keeps fun b o e => (e0.bs b o e).1
  have hkind : ∀ y ∈ ps.zip us, (defScope st).names.lookup y.1 = some .local ∨ ((defScope st).names.lookup y.1 = some .cell ∧ ((cellsFrom (s.heap.objs.size + 1) (defScope st).names []).lookup y.1).isSome = true) := fun ⟨n, v⟩ hy => by
    rcases S.par n (List.of_mem_zip hy).1 with q | q
    · exact .inl q
    · exact .inr ⟨q, PySem.W.cellsFrom_some _ _ _ (.inl q)⟩
  refine codeAny_call_function hr.depth (KX _ _ lk) rfl S.co S.gen rfl (PySem.W.codeRec_of KX hcd) (hb _ _ _ _ ?_)
  refine wpAny_newFunctionEnv_cells S.kind hkind fun env he s1 x => ?_
  subst he
  refine ⟨lim.keeps x.toInCall.keep, codeAny_func ?_⟩
  obtain ⟨t, ht, hq⟩ := hbody cdv A outer s H vs Q E a oe cls d (hr.deeper _) hg hz hf hsp
  have I : L2.Inv (cxH CX0 P w K mg base N qual (defScope st) f cdv A outer s H E (a, oe)) [] (L2.start N vs) H s1 := inv_startH S hpin e0 hl r x
  refine wpAny_mono (ht.nox.run [] s1 (L2.start N vs) H _ I hq) (fun fl s' hs => ?_) fun e s' hs => hs
  have fin : ∀ {σ' : L2.St} {H' : Hp} {v : V} {u : Value}, L2.Inv (cxH CX0 P w K mg base N qual (defScope st) f cdv A outer s H E (a, oe)) [] σ' H' s' → RelV v u → Q v H' → CE outer P w H s Q u s' :=
    fun {σ' H' v u} J rv q => ⟨v, H', J.os, J.bare, J.base, J.hok, rv, q⟩
  cases fl with
  | ret u =>
    obtain ⟨v, σ', H', J, rv, q⟩ := hs
    exact fin J rv q
  | next =>
    obtain ⟨σ', H', J, q⟩ := hs
    exact fin (v := V.non) (u := Value.none) J rfl q
  | brk =>
    obtain ⟨_, _, _, q⟩ := hs
    exact False.elim q
  | cont =>
    obtain ⟨_, _, _, q⟩ := hs
    exact False.elim q
end
section
variable {X : Cx} {k : Nat} {f C : Addr} {fd : FuncData} {ps : List Str} {sp : Addr → Value → Option Addr → Sp} {E : XK} {x : Str} {q pos : Pos} {e : Expr} {es : List Expr} {ta : TE} {t : TA} {a : Addr} {oe : Obj} {cls : Value} {d : Option Addr}
theorem pe_callE (F : FnE X.prog X.w X.K X.mg X.base k f fd ps sp) (hgd : X.A.guards = some []) (hr : RoomH k X.A) (hp : (a, oe) ∈ X.pn) (hz : Zc cls d oe) (hf : ∃ vs, oe.data = .fields vs) (hg : Gl X x) (hm : X.mg x = some (.ref f)) (hk : PySem.W.keepIn X.K (.ref f) = true) (hb : Binds X.K fd ps [])
    (ha : PA X (e :: es) t) (hdb : (x == ("__debug__" : Str)) = false := by decide) (he : starEach (e :: es) X.env = (false, eval e X.env) :: starEach es X.env := by rfl) (hpl : (backTo pos (starEach es X.env)).any (·.1) = false := by rfl) :
    PE X (.Call (.Name x q) (e :: es) [] pos) (tCall (sp a cls d) [] E0 t) := by
  refine ⟨fun pins s σ H Q I h => ?_⟩
  refine wpAny_Call_Name_kw (ld_glob I hg hm ?_ hdb)
  refine PySem.W.callWith_K (h₀ := X.base) I.ok.mod.kin hk (thn (ha.run pos pins s σ H _ I h) fun us s1 ⟨vs, H1, I1, r, q⟩ => ⟨I1.kIn, ?_⟩) he hpl
  have q : sp a cls d (vs ++ []) H1 Q E0 := q
  rw [List.append_nil] at q
  have hl : us.length = ps.length := by rw [← r.length]; exact F.len _ _ _ _ _ _ _ q
  have b := hb s1 us I1.kIn (by rw [List.append_nil]; exact hl)
  rw [List.append_nil] at b
  have P1 := I1.pin (a, oe) (List.mem_append_left _ hp)
  have hpin : PinOk X.stack H1 s1 (a, oe) := ⟨P1.1, P1.2.1, fun hm => (List.mem_cons.mp (I1.stkSub a hm)).elim P1.2.2.1 P1.2.2.2.1, P1.2.2.2.2⟩
  refine wpAny_call (codeAny_mono (F.run X.A X.stack s1 H1 ⟨us, []⟩ us vs Q E0 a oe cls d hr hgd hpin hz hf I1.env0 b r q) fun r s' hq => ?_)
  cases r with
  | error e => exact hq.elim
  | ok fl =>
    cases fl with
    | ret u => exact I1.after hq
    | next => exact False.elim hq
    | brk => exact False.elim hq
    | cont => exact False.elim hq
/-- isinstance(e, c) of the pinned exception, its dict in the tracked heap -/
def rIsP (K : PySem.W.Frag) (cls : Value) (d : Option Addr) (a : Addr) : List V → Hp → VK → Prop := fun xs H Q => ∃ (C dx : Addr) (fs : List (Str × V)) (c : V) (cv : Value) (b : Bool) (B newId initId : String) (bmB : List Value), xs = [.ref a, c] ∧ cls = .ref C ∧ d = some dx ∧ H dx = some (.xd fs) ∧ Sp.XC K C B newId initId bmB ∧
  (∀ u, RelV c u → u = cv) ∧ PySem.W.kitOne K (.ref C) cv = some b ∧ Q (.bl b) H
theorem call_isP (hp : (a, oe) ∈ X.pn) (hz : Zc cls d oe) (hf : ∃ vs, oe.data = .fields vs) : CallR X (.builtin "isinstance") (rIsP X.K cls d a) := by
  intro pins s σ H xs us Q I r h
  obtain ⟨C, dx, fs, c, cv, b, B, newId, initId, bmB, rfl, rfl, rfl, ed, T, hcv, e, q⟩ := h
  cases r with
  | cons rx rr =>
    cases rr with
    | cons rt rr =>
      cases rr
      cases rx
      have ec := hcv _ rt
      subst ec
      obtain ⟨ha, _⟩ := I.pin (a, oe) (List.mem_append_left _ hp)
      obtain ⟨vs, hd⟩ := hf
      obtain ⟨cd, ec, _, _⟩ := T.own
      have hx : ObjOk X.prog X.w H s.heap dx (.xd fs) := I.hok dx _ ed
      obtain ⟨mA, hns, hr⟩ := hx
      obtain ⟨od, ho2, _⟩ := lookIn_ns hns
      have J : PySem.W.InstAt s.heap a oe C (some od) := ⟨ha, hz.1, by unfold PySem.W.notCls; rw [hd] <;> rfl, by rw [hz.2]; exact ho2⟩
      exact PySem.W.kia_one (PySem.W.kitx_exc (by rw [ec]; rfl) T.ga T.gg T.exC T.ha T.hn T.ht T.hm) I.kIn J e (fun z => nomatch z) fun tk => ⟨.bl b, H, I.kept (t' := tk) fun _ _ z => z, rfl, q⟩
/-- e.f of the pinned exception -/
def tXp (K : PySem.W.Frag) (a : Addr) (cls : Value) (d : Option Addr) (f : Str) (te : TE) : TE := fun σ H Q => te σ H fun x H1 => x = .ref a ∧ ∃ (C dd : Addr) (fs : List (Str × V)) (v : V) (B newId initId : String) (bmB : List Value), cls = .ref C ∧ d = some dd ∧ Sp.XC K C B newId initId bmB ∧ PySem.W.findIn K (.ref C) f = some none ∧ H1 dd = some (.xd fs) ∧ fs.lookup f = some v ∧ Q v H1
theorem pe_xp {e : Expr} {te : TE} {n : Str} (hp : (a, oe) ∈ X.pn) (hz : Zc cls d oe) (hf : ∃ vs, oe.data = .fields vs) (he : PE X e te) (hb : attributeBase e n X.env (eval e X.env) = eval e X.env := by rfl) :
    PE X (.Attribute e n pos) (tXp X.K a cls d n te) := by
  refine ⟨fun pins s σ H Q I h => ?_⟩
  refine attr_of hb (thn (he.run pins s σ H _ I h) fun u s1 hh => ?_)
  obtain ⟨x, H1, I1, rx, ex, C, dd, fs, v, B, newId, initId, bmB, ec, ed, T, hno, ea, l, q⟩ := hh
  subst ex
  obtain rfl : u = Value.ref a := rx
  subst ec
  subst ed
  obtain ⟨ha, _⟩ := I1.pin (a, oe) (List.mem_append_left _ hp)
  obtain ⟨vs, hd⟩ := hf
  have hx : ObjOk X.prog X.w H1 s1.heap dd (.xd fs) := I1.hok dd _ ea
  obtain ⟨mA, hns, hr⟩ := hx
  obtain ⟨od, ho, hl⟩ := lookIn_ns hns
  obtain ⟨u, hu, ru⟩ := RelO.some_of (v := v) (o := mA n) (by rw [← l]; exact hr n)
  have J : PySem.W.InstAt s1.heap a oe C (some od) := ⟨ha, hz.1, by unfold PySem.W.notCls; rw [hd] <;> rfl, by rw [hz.2]; exact ho⟩
  exact HandSPX.exc_get I1.kIn J T.ga T.gg T.exC (PySem.W.findObj_own T.hdC hno rfl (by rw [hl, hu])) (handed_of ru) ⟨v, H1, I1.tok _, ru, q⟩
end
end Ex
set_option Elab.async false
set_option linter.all false
set_option maxRecDepth 100000
set_option maxHeartbeats 4000000
/-! repr of data -/
namespace Dl
open PySem PySem.Spec PyProof.Rows L2 Sp
def keyP : Key → PyData
  | .inl i => .int i
  | .inr z => .str z
mutual
def toR : D → Option PyData
  | .non => some .none
  | .bl b => some (.bool b)
  | .int i => some (.int i)
  | .str z => some (.str z)
  | .lst ds => (toRs ds).map PyData.list
  | .tup ds => (toRs ds).map PyData.tuple
  | .dic ks ds => (toRs ds).map fun ps => PyData.dict ((ks.map keyP).zip ps)
  | _ => none
def toRs : List D → Option (List PyData)
  | [] => some []
  | d :: ds => (toR d).bind fun p => (toRs ds).map fun ps => p :: ps
end
mutual
/-- no list within -/
def noL : D → Bool
  | .lst _ => false
  | .tup ds => noLs ds
  | .dic _ ds => noLs ds
  | _ => true
def noLs : List D → Bool
  | [] => true
  | d :: ds => noL d && noLs ds
end
section
variable {X : Cx} {pins : List (Addr × Obj)} {σ : L2.St} {H : Hp} {s : Shared}
theorem keys_read {h : Heap} {P : Program} {w : World} : ∀ {es : List DictEntry} {kvs : List (Key × Value)}, Pairs (mixKind P w) es kvs → ReadsAll h (es.map (·.key)) ((kvs.map (·.1)).map keyP) []
  | _, _, .nil => .nil
  | _, _, .cons a b c => by
    rename_i en es kv kvs
    have r := keys_read (h := h) c
    have a : keyIs _ _ = true := a
    rcases keyIs_shape a with ⟨i, t, e1, e2⟩ | ⟨x, t, e1, e2⟩
    · simp only [List.map_cons, e1, e2]
      exact .cons (.int i t) r
    · simp only [List.map_cons, e1, e2]
      exact .cons (.str x t) r
theorem vals_read {P : Program} {w : World} : ∀ {es : List DictEntry} {kvs : List (Key × Value)}, Pairs (mixKind P w) es kvs → es.map (·.val) = kvs.map (·.2)
  | _, _, .nil => rfl
  | _, _, .cons a b c => by
    simp only [List.map_cons, vals_read c, b]
theorem kv_keys : ∀ {kvs : List (Key × V)} {vs : List (Key × Value)}, KV kvs vs → vs.map (·.1) = kvs.map (·.1)
  | _, _, .nil => rfl
  | _, _, .cons a b => by
    simp only [List.map_cons, kv_keys b, a.1]
theorem kv_vals : ∀ {kvs : List (Key × V)} {vs : List (Key × Value)}, KV kvs vs → L2.Vals (kvs.map (·.2)) (vs.map (·.2))
  | _, _, .nil => .nil
  | _, _, .cons a b => .cons a.2 (kv_vals b)
theorem toRs_len : ∀ {ds : List D} {ps : List PyData}, toRs ds = some ps → ps.length = ds.length
  | [], _, e => by
    simp only [toRs, Option.some.injEq] at e
    rw [← e]
    rfl
  | d :: ds, _, e => by
    simp only [toRs] at e
    obtain ⟨p, h1, h2⟩ := Option.bind_eq_some_iff.mp e
    obtain ⟨ps, h3, rfl⟩ := Option.map_eq_some_iff.mp h2
    simp [toRs_len h3]
mutual
theorem Dt.reads {K : PySem.W.Frag} {H' : Hp} (I : L2.Inv X pins σ H s) (hK : X.K = K) (sm : Same H' H) : ∀ {d : D} {v : V} {p : PyData} {u : Value}, Dt K H' v d → toR d = some p → L2.RelV v u → ∃ as, Reads s.heap u p as ∧ (noL d = true → sysModules ∉ as)
  | .non, _, _, _, .non, e, r => by
    simp only [toR, Option.some.injEq] at e
    subst e
    cases r
    exact ⟨[], .none, fun _ => by simp⟩
  | .bl b, _, _, _, .bl _, e, r => by
    simp only [toR, Option.some.injEq] at e
    subst e
    cases r
    exact ⟨[], .bool b, fun _ => by simp⟩
  | .int i, _, _, _, .int _, e, r => by
    simp only [toR, Option.some.injEq] at e
    subst e
    obtain ⟨t, rfl⟩ := r
    exact ⟨[], .int i t, fun _ => by simp⟩
  | .str z, _, _, _, .str _, e, r => by
    simp only [toR, Option.some.injEq] at e
    subst e
    obtain ⟨t, rfl⟩ := r
    exact ⟨[], .str z t, fun _ => by simp⟩
  | .lst ds, _, _, _, .lst a b, e, r => by
    simp only [toR] at e
    obtain ⟨ps, h1, rfl⟩ := Option.map_eq_some_iff.mp e
    cases r
    obtain ⟨its, rv, ⟨o, n, ho, hc, _, hd⟩, _⟩ := I.list (SqL.of (sm _ _ a))
    obtain ⟨as, q, _⟩ := DtA.reads I hK sm b h1 rv
    exact ⟨_, .list ho hc hd q, fun z => by simp [noL] at z⟩
  | .tup ds, _, _, _, .tup a b, e, r => by
    simp only [toR] at e
    obtain ⟨ps, h1, rfl⟩ := Option.map_eq_some_iff.mp e
    cases r
    subst hK
    obtain ⟨its, rv, ⟨o, ho, hc, n, hd⟩, _⟩ := I.tuple (Same.tup sm a)
    obtain ⟨as, q, k⟩ := DtA.reads I rfl sm b h1 rv
    exact ⟨_, .tuple ho hc hd q, fun z => k (by simpa only [noL] using z)⟩
  | .dic ks ds, _, _, u, h, e, r => by
    simp only [toR] at e
    obtain ⟨ps, h1, rfl⟩ := Option.map_eq_some_iff.mp e
    cases h with
    | @dic a kvs _ g b =>
      obtain rfl : u = Value.ref a := r
      obtain ⟨_, low, vs, kv, o, es, ep, ho, ⟨hc, _, _⟩, hd, _, pr, _⟩ := dk_of I.hok (sm _ _ g)
      obtain ⟨as, q, k⟩ := DtA.reads I hK sm b h1 (kv_vals kv)
      have l1 : ps.length = kvs.length := by rw [toRs_len h1, ← b.len, List.length_map]
      have e1 : (((kvs.map (·.1)).map keyP).zip ps).map (·.1) = (vs.map (·.1)).map keyP := by
        rw [List.map_fst_zip (by simp [l1]), kv_keys kv]
      have e2 : (((kvs.map (·.1)).map keyP).zip ps).map (·.2) = ps := List.map_snd_zip (by simp [l1])
      refine ⟨_, Reads.dict ho hc hd (as := []) (bs := as) (by rw [e1]; exact keys_read pr) (by rw [e2, vals_read pr]; exact q), fun z hm => ?_⟩
      have hm : sysModules = a ∨ sysModules ∈ as := by simpa using hm
      rcases hm with hm | hm
      · rw [← hm] at low
        simp at low
      · exact k (by simpa only [noL] using z) hm
  | .obj _ _ _, _, _, _, _, e, _ => by simp [toR] at e
  | .ty _, _, _, _, _, e, _ => by simp [toR] at e
  | .raw _, _, _, _, _, e, _ => by simp [toR] at e
  | .pur, _, _, _, h, _, _ => by cases h
  | .cell _ _, _, _, _, h, _, _ => by cases h
theorem DtA.reads {K : PySem.W.Frag} {H' : Hp} (I : L2.Inv X pins σ H s) (hK : X.K = K) (sm : Same H' H) : ∀ {ds : List D} {vs : List V} {ps : List PyData} {us : List Value}, DtA K H' vs ds → toRs ds = some ps → L2.Vals vs us → ∃ as, ReadsAll s.heap us ps as ∧ (noLs ds = true → sysModules ∉ as)
  | [], _, _, _, .nil, e, r => by
    simp only [toRs, Option.some.injEq] at e
    subst e
    cases r
    exact ⟨[], .nil, fun _ => by simp⟩
  | d :: ds, _, _, _, .cons a b, e, r => by
    simp only [toRs] at e
    obtain ⟨p, h1, h2⟩ := Option.bind_eq_some_iff.mp e
    obtain ⟨ps, h3, rfl⟩ := Option.map_eq_some_iff.mp h2
    cases r with
    | cons r1 r2 =>
      obtain ⟨as, q1, k1⟩ := Dt.reads I hK sm a h1 r1
      obtain ⟨bs, q2, k2⟩ := DtA.reads I hK sm b h3 r2
      refine ⟨_, .cons q1 q2, fun z hm => ?_⟩
      simp only [noLs, Bool.and_eq_true] at z
      rcases List.mem_append.mp hm with hm | hm
      · exact k1 z.1 hm
      · exact k2 z.2 hm
end
/-- in each item lists or dicts, not both -/
inductive MixA : List D → List PyData → Prop
  | nil : MixA [] []
  | cons {x : D} {q : PyData} {ds : List D} {ps : List PyData} : (noL x = true ∨ q.hasDict = false) → MixA ds ps → MixA (x :: ds) (q :: ps)
theorem DtA.items {K : PySem.W.Frag} {H' : Hp} (I : L2.Inv X pins σ H s) (hK : X.K = K) (sm : Same H' H) : ∀ {ds : List D} {vs : List V} {ps : List PyData} {us : List Value}, DtA K H' vs ds → toRs ds = some ps → MixA ds ps → L2.Vals vs us → PyData.showableAll ps = true → (∀ t ∈ PyData.shownAll ps, t.length ≤ sizeLine) →
    ∃ as bs, ReadsAll s.heap us ps as ∧ ReadAtMost s.heap (PyData.depthAll ps) bs ∧ ReprAllK X.prog X.w bs s.heap (PyData.depthAll ps) us (PyData.shownAll ps)
  | [], _, _, _, .nil, e, _, r, _, _ => by
    simp only [toRs, Option.some.injEq] at e
    subst e
    cases r
    exact ⟨[], [], .nil, (fun _ h => nomatch h), by simp only [PyData.shownAll]; exact .nil⟩
  | d :: ds, _, _, _, .cons a b, e, m, r, hs, hz => by
    simp only [toRs] at e
    obtain ⟨p, e1, e2⟩ := Option.bind_eq_some_iff.mp e
    obtain ⟨ps, e3, rfl⟩ := Option.map_eq_some_iff.mp e2
    cases m with
    | cons m1 m2 =>
      cases r with
      | cons r1 r2 =>
        have hs' : p.showable = true ∧ PyData.showableAll ps = true := by simpa [PyData.showableAll] using hs
        obtain ⟨as1, q1, n1⟩ := Dt.reads I hK sm a e1 r1
        obtain ⟨b1, h1, k1⟩ := ReprK.of_reads (prog := X.prog) (w := X.w) q1 hs'.1 (fun z => by
          rcases m1 with m1 | m1
          · exact n1 m1
          · rw [m1] at z
            cases z) (hz _ (by simp only [PyData.shownAll]; exact List.mem_cons_self ..))
        obtain ⟨as2, b2, q2, h2, k2⟩ := DtA.items I hK sm b e3 m2 r2 hs'.2 (fun t ht => hz t (by simp only [PyData.shownAll]; exact List.mem_cons_of_mem _ ht))
        refine ⟨as1 ++ as2, b1 ++ b2, .cons q1 q2, ?_, ?_⟩
        · simp only [PyData.depthAll]
          exact (h1.mono (by omega)).append (h2.mono (by omega))
        · simp only [PyData.shownAll, PyData.depthAll]
          have k3 := ReprAllK.more_le (as' := b1 ++ b2) (d' := max p.depth (PyData.depthAll ps)) (fun x hx => List.mem_append_left _ hx) (by omega) (.cons k1 .nil)
          cases k3 with
          | cons k4 _ => exact .cons k4 (k2.more_le (fun x hx => List.mem_append_right _ hx) (by omega))
/-- what repr is asked of -/
structure Rok (d : D) (p : PyData) : Prop where
  r : toR d = some p
  mix : (noL d = true ∨ p.hasDict = false) ∨ ∃ ds ps, d = .tup ds ∧ toRs ds = some ps ∧ MixA ds ps
  s : p.showable = true
  dp : p.depth ≤ 60
  sz : p.shown.length ≤ sizeLine
def rReprD (K : PySem.W.Frag) : List V → Hp → VK → Prop := fun xs H Q => ∃ (v : V) (d : D) (p : PyData) (A : List Addr), xs = [v] ∧ Dt K (hid A H) v d ∧ Rok d p ∧ Q (.str p.shown) H
theorem call_reprD (hu : X.A.units + 100 < cLine) (hg : X.A.guards = some []) : CallR X (.builtin "repr") (rReprD X.K) := by
  intro pins s σ H xs us Q I r h
  obtain ⟨v, d, p, A, rfl, hd, k, q⟩ := h
  cases r with
  | cons rx rr =>
    cases rr
    rename_i u
    have sz := k.sz
    rcases k.mix with mix | ⟨ds, ps, rfl, e1, mx⟩
    case inr =>
      cases hd with
      | tup g a =>
        have kr := k.r
        simp only [toR, e1, Option.map_some, Option.some.injEq] at kr
        subst kr
        obtain rfl : u = Value.ref _ := rx
        obtain ⟨its, rv, ⟨o, ho, hc, n, hdd⟩, _⟩ := I.tuple (Same.tup (hid_sub _ _) g)
        have hs := k.s
        simp only [PyData.showable] at hs
        simp only [PyData.shown] at sz
        have dd := k.dp
        simp only [PyData.depth] at dd
        obtain ⟨as, bs, q1, q2, q3⟩ := DtA.items I rfl (hid_sub _ _) a e1 mx rv hs (fun t ht => Nat.le_trans (tupleText_mem_le ht) sz)
        have na := not_mem_of_deeper (Reads.tuple ho hc hdd q1) (by simp only [PyData.depth]; omega) q2
        refine call_repr_slot (by omega) ⟨o, ho, hc⟩ PySem.F.slot_tuple_repr ?_
        exact call_tuple_reprK ho hc hdd na q3 hg (fun b _ => Clear.nil b) (by show X.A.units + 1 + (PyData.depthAll ps + 1) < cLine; omega) (fun _ _ e => e) (fun h' u tk hk => ⟨_, _, rfl, ⟨.str _, H, I.kept hk, ⟨_, rfl⟩, by simpa only [PyData.shown] using q⟩⟩) sz
    obtain ⟨as, rd, sy⟩ := hd.reads I rfl (hid_sub _ _) k.r rx
    have ss := k.s
    have fin : ∀ t tk, ∃ x H', L2.Inv X pins σ H' { s with toks := tk } ∧ L2.RelV x (Value.str p.shown t) ∧ Q x H' := fun t tk => ⟨.str _, H, I.tok _, ⟨_, rfl⟩, q⟩
    cases rd with
    | none => exact PySem.P.repr_of_none (fin _ _)
    | bool b => exact PySem.P.repr_of_bool (by
        have z := fin s.toks (s.toks + 1)
        simp only [PyData.shown] at z
        exact z)
    | int i t =>
      have e : i.natAbs.log2 < 1920 := by simpa only [PyData.showable, decide_eq_true_eq] using ss
      exact PySem.P.repr_of_int e (by
        have z := fin s.toks (s.toks + 1)
        simp only [PyData.shown] at z
        exact z)
    | str x t => exact PySem.P.repr_of_str (by
          have z := fin s.toks (s.toks + 1)
          simp only [PyData.shown] at z
          exact z) (by simpa only [PyData.shown] using sz)
    | list h1 h2 h3 h4 =>
      refine repr_of_reads' (Reads.list h1 h2 h3 h4) ss (fun z => ?_) hg (by have := k.dp; omega) (fun _ _ e => e) (fun h' u tk hk => ⟨.str _, H, I.kept hk, ⟨_, rfl⟩, q⟩) sz
      rcases mix with m | m
      · exact sy m
      · rw [m] at z
        cases z
    | tuple h1 h2 h3 h4 =>
      refine repr_of_reads' (Reads.tuple h1 h2 h3 h4) ss (fun z => ?_) hg (by have := k.dp; omega) (fun _ _ e => e) (fun h' u tk hk => ⟨.str _, H, I.kept hk, ⟨_, rfl⟩, q⟩) sz
      rcases mix with m | m
      · exact sy m
      · rw [m] at z
        cases z
    | dict h1 h2 h3 h4 h5 =>
      refine repr_of_reads' (Reads.dict h1 h2 h3 h4 h5) ss (fun z => ?_) hg (by have := k.dp; omega) (fun _ _ e => e) (fun h' u tk hk => ⟨.str _, H, I.kept hk, ⟨_, rfl⟩, q⟩) sz
      rcases mix with m | m
      · exact sy m
      · rw [m] at z
        cases z
end
section
variable {C : Cxt} {P : D → Prop}
theorem c_repr {d : D} {p : PyData} (k : Rok d p) (q : P (.str p.shown)) : CallD C (rReprD C.K) [d] P := fun cs H vs g0 hv Q qq => by
  cases hv with
  | cons h1 h2 =>
    cases h2
    have cl : Clean d := by
      have e := k.r
      cases d <;> first | trivial | (simp [toR] at e)
    exact ⟨_, d, p, _, rfl, h1.dt cl, k, qq _ _ H (Same.refl H) (.c (.str _)) q⟩
end
end Dl
set_option Elab.async false
set_option linter.all false
set_option maxRecDepth 100000
set_option maxHeartbeats 4000000
/-! methods of lists; exceptions as data -/
namespace L2
open PySem PySem.Spec PyProof.Rows
section
variable {X : Cx}
theorem count_eqU {x : V} : ∀ {xs : List V} {us : List Value}, Vals xs us → xs.all flatV = true → us.countP (eqU x) = xs.countP fun y => eqV y x
  | _, _, .nil, _ => rfl
  | y :: xs, u :: us, .cons r t, f => by
    rw [List.all_cons, Bool.and_eq_true] at f
    rw [List.countP_cons, List.countP_cons, eqU_of r f.1, count_eqU t f.2]
def rCntF (K : PySem.W.Frag) : V → List V → Hp → VK → Prop := fun x xs H Q => ∃ (a : Addr) (ys : List V) (y : V), x = V.ref a ∧ xs = [y] ∧ SqL K H a ys ∧ flatV y = true ∧ ys.all flatV = true ∧ Q (.int (ys.countP fun z => eqV z y : Nat)) H
theorem mt_countF : MtR X "list.count" (rCntF X.K) := by
  intro pins s σ H x xs v us Q I rx rxs h
  obtain ⟨a, ys, y, rfl, rfl, hs, fy, fys, q⟩ := h
  cases rx
  obtain ⟨u, rfl, ru⟩ := rxs.one
  obtain ⟨its, rv, ⟨⟨cls, dd, data, sl⟩, n, ho, hc, hdn, hd⟩, hlen⟩ := I.list hs
  simp only at hc hd
  subst hc hd
  refine call_meets PySem.F.slot_list_count ⟨_, ho, rfl⟩ PySem.F.entry_list_count (PySem.F.args_list_count_2 _ _)
    (SeqAt.list_countAt a its.toArray n dd sl u (eqU y)) ⟨ho, fun u' hu' => mem_eqAt ru fy rv fys u' (by simpa using hu'), ?_⟩
  refine ⟨.int (ys.countP fun z => eqV z y : Nat), H, I.tok _, ⟨s.toks, ?_⟩, q⟩
  show Value.int ((its.toArray.toList.countP (eqU y) : Nat) : Int) s.toks = _
  rw [← count_eqU rv fys]
end
end L2
namespace Dl
open PySem PySem.Spec PyProof.Rows L2 Sp
section
variable {C : Cxt} {cs : Cs} {H H' : Hp} {ρ : Rho} {ta to : TE} {P : D → Prop}
def MtD (C : Cxt) (r : V → List V → Hp → VK → Prop) (x y : D) (P : D → Prop) : Prop := ∀ cs H vx vy, Good C cs H → Val C cs H vx x → Val C cs H vy y → ∀ Q : VK, (∀ v d H', Same H H' → Val C cs H' v d → P d → Q v H') → r vx [vy] H Q
theorem w_bmL {r : V → List V → Hp → VK → Prop} (h : WE C to ρ fun x => (∃ ds, IsL x ds) ∧ WE C ta ρ fun y => MtD C r x y P) : WE C (tBM C.K "list" r to (tCons ta tNil)) ρ P := fun cs H σ rr Q q =>
  h cs H σ rr _ fun vx x H1 k1 o1 hx ⟨⟨ds, hl⟩, h2⟩ => by
    have g1 := rr.good.step k1 o1
    obtain ⟨a, us, rfl, a1, a2⟩ := hx.isL g1 hl
    refine ⟨(show tyV C.K "list" (.ref a) H1 from .inl ⟨rfl, us, SqL.of a1⟩), h2 cs H1 σ (rr.step k1 o1) _ fun vy y H2 k2 o2 hy hm => ?_⟩
    exact hm cs H2 _ vy (g1.step k2 o2) (hx.step g1 k2) hy Q fun v d H3 s c p => q v d H3 ((k1.trans k2).trans (.same s)) (o2.same s) c p
theorem m_index {x : D} {bs : List Bool} {j : Nat} (hx : IsL x (bs.map .bl)) (h1 : bs[j]? = some true) (h2 : ∀ m, m < j → bs[m]? ≠ some true) (k : P (.int (j : Int))) : MtD C (rIndex C.K) x (.bl true) P := fun cs H vx vy g0 a b Q q => by
  obtain ⟨l, us, rfl, a1, a2⟩ := a.isL g0 hx
  rw [b.bl]
  rw [a2.bls] at a1
  refine ⟨l, bs.map V.bl, .bl true, j, .bl true, rfl, rfl, SqL.of a1, rfl, by simp [flatV], by rw [List.getElem?_map, h1]; rfl, rfl, fun m z hm e => ?_, q _ _ H (Same.refl H) (.c (.int _)) k⟩
  rw [List.getElem?_map] at e
  obtain ⟨b, e1, rfl⟩ := Option.map_eq_some_iff.mp e
  cases b with
  | false => rfl
  | true => exact absurd e1 (h2 m hm)
theorem m_count {x : D} {bs : List Bool} (hx : IsL x (bs.map .bl)) (k : P (.int (bs.count true : Int))) : MtD C (rCntF C.K) x (.bl true) P := fun cs H vx vy g0 a b Q q => by
  obtain ⟨l, us, rfl, a1, a2⟩ := a.isL g0 hx
  rw [b.bl]
  rw [a2.bls] at a1
  refine ⟨l, bs.map V.bl, .bl true, rfl, rfl, SqL.of a1, rfl, by simp [flatV], q _ _ H (Same.refl H) ?_ k⟩
  have e : (bs.map V.bl).countP (fun z => eqV z (.bl true)) = bs.count true := by
    rw [List.countP_map]
    rfl
  rw [e]
  exact .c (.int _)
theorem Good.start (g : Good C cs H) : Same (hid C.A C.H0) (hid (C.hd cs) H) := fun b o h => by
  have h0 := hid_in h
  have t := hid_tbl h
  refine hid_of (fun q => ?_) (g.keep b o (fun w => h0.1 (g.pA _ w.symm)) (fun _ => t) h0.2) t
  unfold Cxt.hd at q
  rcases List.mem_append.mp q with q | q
  · exact h0.1 q
  · obtain ⟨c, hc, rfl⟩ := List.mem_map.mp q
    have z := ((g.fresh c hc).1 o h0.2).2
    rw [t] at z
    cases z
/-- isinstance of the handled exception -/
theorem c_isP {a c : Addr} {cls : Value} {d : Option Addr} {Cc dx : Addr} {fs : List (Str × V)} {b : Bool} {B ni ii : String} {bm : List Value} (hp : C.m.p ≠ some dx) (hc : cls = .ref Cc) (hd : d = some dx) (e : C.H0 dx = some (.xd fs)) (xc : Sp.XC C.K Cc B ni ii bm) (k : PySem.W.kitOne C.K (.ref Cc) (.ref c) = some b) (q : P (.bl b)) :
    CallD C (Ex.rIsP C.K cls d a) [.raw a, .raw c] P := fun cs H vs g0 hv Q qq => by
  cases hv with
  | cons h1 h2 =>
    cases h2 with
    | cons h2 h3 =>
      cases h3
      rw [h1.raw, h2.raw]
      exact ⟨Cc, dx, fs, .ref c, .ref c, b, B, ni, ii, bm, rfl, hc, hd, g0.keep _ _ (fun w => hp w.symm) (fun _ => rfl) e, xc, fun u r => r, k, qq _ _ H (Same.refl H) (.c (.bl _)) q⟩
/-- e.f of the handled exception -/
theorem w_xp {a : Addr} {cls : Value} {d : Option Addr} {f : Str} {Cc dx : Addr} {fs : List (Str × V)} {v : V} {x : D} {B ni ii : String} {bm : List Value} {i : Nat} (hp : C.m.p ≠ some dx) (hc : cls = .ref Cc) (hd : d = some dx) (e : C.H0 dx = some (.xd fs)) (xc : Sp.XC C.K Cc B ni ii bm) (no : PySem.W.findIn C.K (.ref Cc) f = some none) (l : fs.lookup f = some v)
    (hv : Dt C.K (hid C.A C.H0) v x) (ha : ρ[i]? = some (some (.raw a))) (q : P x) : WE C (Ex.tXp C.K a cls d f (tVar i)) ρ P := fun cs H σ r Q qq => by
  obtain ⟨u, h1, h2⟩ := r.env i _ ha
  refine ⟨u, h1, h2.raw, Cc, dx, fs, v, B, ni, ii, bm, hc, hd, xc, no, r.good.keep _ _ (fun w => hp w.symm) (fun _ => rfl) e, l, qq v x H .refl r.good.ok (.c (hv.same r.good.start)) q⟩
end
end Dl
set_option Elab.async false
set_option linter.all false
set_option maxRecDepth 100000
set_option maxHeartbeats 4000000
/-! the classes of errors; a suite's reading run from data -/
namespace Dl
open PySem PySem.Spec PyProof.Rows L2 Sp
theorem eqv_bools : ∀ bs cs : List Bool, PyData.eqvAll (bs.map PyData.bool) (cs.map PyData.bool) = (bs == cs)
  | [], [] => by simp [PyData.eqvAll]
  | [], c :: cs => by simp [PyData.eqvAll]
  | b :: bs, [] => by simp [PyData.eqvAll]
  | b :: bs, c :: cs => by
    simp only [List.map_cons, PyData.eqvAll, PyData.eqv, eqv_bools bs cs]
    rfl
theorem lay_bools : ∀ bs : List Bool, PyData.canLayAll0 (bs.map PyData.bool) = true
  | [] => by simp [PyData.canLayAll0]
  | b :: bs => by simp [PyData.canLayAll0, PyData.canLay0, lay_bools bs]
theorem deep_bools : ∀ bs : List Bool, PyData.depthAll (bs.map PyData.bool) = 0
  | [] => by simp [PyData.depthAll]
  | b :: bs => by simp [PyData.depthAll, PyData.depth, deep_bools bs]
theorem shaped_bools (bs : List Bool) : SeqAt.shaped (.list (bs.map PyData.bool)) = true := by
  have h1 := lay_bools bs
  have h2 := deep_bools bs
  show (PyData.canLay0 (.list (bs.map PyData.bool)) && decide (PyData.depth (.list (bs.map PyData.bool)) ≤ 64)) = true
  simp [PyData.canLay0, PyData.depth, h1, h2]
/-- the fourteen classes of errors, their two bases, by their names -/
structure Er (K : PySem.W.Frag) (mg : Str → Option Value) (C : Nat → Addr) (cV cM : Addr) : Prop where
  xc : ∀ i, i < 14 → ∃ B n m bm, XC K (C i) B n m bm
  kit : ∀ i, i < 14 → ∀ k, k < 14 → PySem.W.kitOne K (.ref (C i)) (.ref (C k)) = some (decide (k = i))
  kitV : ∀ i, i < 14 → PySem.W.kitOne K (.ref (C i)) (.ref cV) = some (decide (i < 8))
  kitM : ∀ i, i < 14 → PySem.W.kitOne K (.ref (C i)) (.ref cM) = some (decide (7 < i))
  no : ∀ i, i < 9 → PySem.W.findIn K (.ref (C i)) "given" = some none
  g_WrongValue : mg "WrongValue" = some (.ref cV)
  g_WrongMoment : mg "WrongMoment" = some (.ref cM)
  g_InvalidText : mg "InvalidText" = some (.ref (C 0))
  g_InvalidNumber : mg "InvalidNumber" = some (.ref (C 1))
  g_InvalidRows : mg "InvalidRows" = some (.ref (C 2))
  g_InvalidName : mg "InvalidName" = some (.ref (C 3))
  g_InvalidTicks : mg "InvalidTicks" = some (.ref (C 4))
  g_InvalidWish : mg "InvalidWish" = some (.ref (C 5))
  g_NotASieve : mg "NotASieve" = some (.ref (C 6))
  g_NotAPlan : mg "NotAPlan" = some (.ref (C 7))
  g_UnknownName : mg "UnknownName" = some (.ref (C 8))
  g_TooMany : mg "TooMany" = some (.ref (C 9))
  g_Ended : mg "Ended" = some (.ref (C 10))
  g_InUse : mg "InUse" = some (.ref (C 11))
  g_NothingToUndo : mg "NothingToUndo" = some (.ref (C 12))
  g_NotKept : mg "NotKept" = some (.ref (C 13))
/-- a reading of statements, run from data, with what may change -/
theorem ws_run {C : Cxt} {t : TS} {N : List Str} {ds : List D} {vs : List V} {P : D → Prop} {Q : VK} (hw : WS C t (startD N ds) { nx := fun _ => P .non, rt := P }) (g0 : Good C [] C.H0) (h1 : DtA C.K (hid C.A C.H0) vs ds) (cl : C.m.p = none)
    (q : ∀ d v H', P d → C.m.keep C.H0 H' → C.m.ok H' → Dt C.K (hid C.A H') v d → Q v H') : t { nx := fun _ H' => Q .non H', rt := Q } (L2.start N vs) C.H0 := by
  have e0 : C.hd [] = C.A := by
    unfold Cxt.hd
    exact List.append_nil _
  refine hw (fun _ => none) [] C.H0 _ (start_R h1 g0) (fun _ _ e => by cases e) _ ⟨fun cs' H' σ' ρ' r _ p => ?_, fun v d H' k o a p => ?_, fun _ _ _ _ _ _ e => e.elim, fun _ _ _ _ _ _ e => e.elim⟩
  · exact q .non .non H' p r.good.keep r.good.ok .non
  · refine q d v H' p k o ?_
    cases a with
    | c a =>
      rw [e0] at a
      exact a
    | pur e =>
      rw [cl] at e
      cases e
    | cell e _ _ => cases e
theorem good_pure {K : PySem.W.Frag} {A : List Addr} {H : Hp} (occ : Occ A H) : Good ⟨K, pureM, A, H⟩ [] H := ⟨.refl, ok_pure, (fun _ e => nomatch e), occ, (fun _ h => nomatch h), List.nodup_nil⟩
def words : List Str := ["text", "number", "rows", "name", "ticks", "wish", "sieve given", "plan given", "unknown"]
def wordOf (i : Nat) : Str := words.getD i "odd"
/-- _law_error(e): the word of its class, what was handed over -/
def spError (K : PySem.W.Frag) (Ce : Nat → Addr) : Addr → Value → Option Addr → Sp := fun a cls d vs H Q _ => ∃ (i : Nat) (dx : Addr) (v : V) (A : List Addr) (g : D) (p : PyData), vs = [.ref a] ∧ i < 9 ∧ cls = .ref (Ce i) ∧ d = some dx ∧ H dx = some (.xd [("given", v)]) ∧ Occ A H ∧ Dt K (hid A H) v g ∧ Rok g p ∧
  ∀ w H', Same H H' → Dt K (hid A H') w (.tup [.str (wordOf i), .str p.shown]) → Q w H'
def isOne (i : Nat) : List Bool := [decide (0 = i), decide (1 = i), decide (2 = i)] ++ [decide (3 = i), decide (4 = i), decide (5 = i)] ++ [decide (6 = i), decide (7 = i)] ++ ([decide (8 = i), decide (9 = i), decide (10 = i)] ++ [decide (11 = i), decide (12 = i), decide (13 = i)])
theorem one_at : ∀ i : Nat, i < 9 → (isOne i ++ [true])[i]? = some true := by decide
theorem one_no : ∀ i, i < 9 → ∀ m, m < i → (isOne i ++ [true])[m]? ≠ some true := by decide
theorem one_count : ∀ i, i < 9 → (isOne i).count true = 1 := by decide
theorem two_eq : ∀ i : Nat, i < 9 → PyData.eqv (.list [.bool (decide (i < 8)), .bool (decide (7 < i))]) (.list [.bool (decide ((i : Int) < 8)), .bool (decide ((i : Int) > 7))]) = true := by decide
theorem word_at : ∀ i : Nat, i < 9 → atI (words.map D.str) (i : Int) = some (.str (wordOf i)) := by
  intro i hi
  match i, hi with
  | 0, _ => rfl
  | 1, _ => rfl
  | 2, _ => rfl
  | 3, _ => rfl
  | 4, _ => rfl
  | 5, _ => rfl
  | 6, _ => rfl
  | 7, _ => rfl
  | 8, _ => rfl
end Dl
set_option Elab.async false
set_option linter.all false
set_option maxRecDepth 100000
set_option maxHeartbeats 4000000
/-! errors raised: their making, what the raise leaves -/
namespace Ex
open PySem PySem.Spec PyProof.Rows L2 Sp
/-- __init__(self, f) of an error; its dict is new -/
def spErr1 (C : Addr) (f : Str) : Sp := fun vs H Q _ => ∃ (a : Addr) (v : V), vs = [.ref a, v] ∧ H a = some (exo a C none) ∧ ∀ (dx : Addr) (H' : Hp), H dx = none → dx ≠ a → But a H H' → H' a = some (exo a C (some dx)) → H' dx = some (exd dx [(f, v)]) → Q .non H'
section
variable {P : Program} {w : World} {K : PySem.W.Frag} {mg : Str → Option Value} {base : Heap}
theorem ok_err1 {C f : Addr} {fd : FuncData} {qual fld : Str} {st : Stmt} {bn ni ii : String} {bm : List Value} (F : Fun K "__init__" qual st f fd) (S : FnScope ["self", fld] ["self", fld] (defScope st))
    (hb : ∃ p1 p2 p3 p4, defBody st = [.Assign [.Attribute (.Name "self" p1) fld p2] (.Name fld p3) p4]) (xc : XC K C bn ni ii bm) (no : PySem.W.findIn K (.ref C) fld = some none) (hd : (fld == ("__debug__" : Str)) = false) (hd2 : (fld == ("__classdict__" : Str)) = false) :
    FnOk P w K mg base CX0 1 f fd ["self", fld] (spErr1 C fld) := by
  refine F.ok S (fun vs H Q E h => ?_) (fun cdv A outer s H vs Q E hr h => ?_)
  · obtain ⟨a, v, rfl, _⟩ := h
    rfl
  · obtain ⟨a, v, rfl, ha, k⟩ := h
    obtain ⟨p1, p2, p3, p4, eb⟩ := hb
    rw [eb]
    have vis : ∀ x, x ∈ (["self", fld] : List Str) → Vis (defScope st) x := fun x hx => (S.par x hx).elim (fun q => .inl q) (fun q => .inr (.inl q))
    refine ⟨_, pss_one (ps_xst (pe_var (i := 0) rfl (vis _ List.mem_cons_self)) (pe_var (i := 1) rfl (vis _ (List.mem_cons_of_mem _ List.mem_cons_self)) hd hd2)), ?_⟩
    refine ⟨_, rfl, _, rfl, a, C, _, _, _, _, rfl, xc, no, .inl ⟨ha, fun dx n1 n2 => ?_⟩⟩
    refine k dx _ n1 n2 (fun c u nc e => ?_) upd_same ?_
    · rw [upd_ne nc, upd_ne (ne_of_none e n1)]
      exact e
    · rw [upd_ne n2, upd_same]
end
/-- C(e ..), to be raised -/
theorem pmk_X {X : Cx} {CX : CXT} {x : Str} {e : Expr} {es : List Expr} {ta : TA} {p pos : Pos} {C fI : Addr} {k : Nat} {fd : FuncData} {ps : List Str} {sp : Sp} {B newId initId : String} {bmB : List Value} (T : XC X.K C B newId initId bmB) (iC : PySem.W.findIn X.K (.ref C) "__init__" = some (some (.ref fI)))
    (tI : PySem.W.typeIn X.K (.ref fI) = some (.type "function")) (G : FnOk X.prog X.w X.K X.mg X.base CX k fI fd ps sp) (hr : Room (k + 1) X.A) (hb : Binds X.K fd ps []) (hx : Passes CX X (fun _ _ _ => False)) (hg : Gl X x) (hm : X.mg x = some (.ref C)) (ha : PA X (e :: es) ta)
    (hdb : (x == ("__debug__" : Str)) = false := by decide) (he : starEach (e :: es) X.env = (false, eval e X.env) :: starEach es X.env := by rfl) (hpl : (backTo pos (starEach es X.env)).any (·.1) = false := by rfl) :
    PMk X (.Call (.Name x p) (e :: es) [] pos) (tMkO C sp [] ta) := by
  intro pins s σ H Q I h
  obtain ⟨nm, q, N, bs, bm, sn, sub, ab, col, dd, k0, k1, k2, k3, k5, eC, em⟩ := T.cls
  refine wpAny_Call_Name_kw (ld_glob I hg hm ?_ hdb)
  refine PySem.W.callWith_K (h₀ := X.base) I.ok.mod.kin T.kC (thn (ha.run pos pins s σ H _ I h) fun us s1 ⟨vs, H1, I1, r1, hz, q1⟩ => ⟨I1.kIn, ?_⟩) he hpl
  show wpAny _ _ (call (.ref C) us) _ _ _
  obtain ⟨hp, gs, dr, tk, os⟩ := s1
  have up : hp.objs.size ≤ hp.objs.size + 1 := Nat.le_succ _
  have fresh : H1 (hp.objs.size + 1) = none := I1.hok.fresh up
  have hq := q1 (hp.objs.size + 1) fresh
  rw [List.append_nil] at hq
  have old : ∀ b o, hp.get? b = some o → ((hp.push (PySem.W.kdv_tup us)).push (PySem.HandSPX.excO C hp.objs.size)).get? b = some o := fun b o e => Heap.get?_push_of_some _ (Heap.get?_push_of_some _ e)
  have got : ((hp.push (PySem.W.kdv_tup us)).push (PySem.HandSPX.excO C hp.objs.size)).get? (hp.objs.size + 1) = some (PySem.HandSPX.excO C hp.objs.size) := by
    heap_get
  have J : Inv X pins σ (upd H1 (hp.objs.size + 1) (exo (hp.objs.size + 1) C none)) ⟨(hp.push (PySem.W.kdv_tup us)).push (PySem.HandSPX.excO C hp.objs.size), gs, dr, tk, os⟩ :=
    I1.laid (t' := tk) (a := hp.objs.size + 1) (o := exo (hp.objs.size + 1) C none) (h' := (hp.push (PySem.W.kdv_tup us)).push (PySem.HandSPX.excO C hp.objs.size)) old up (exo_ok got)
  have rr : Vals (V.ref (hp.objs.size + 1) :: vs) (Value.ref (hp.objs.size + 1) :: us) := .cons rfl r1
  have many : (Value.ref (hp.objs.size + 1) :: us).length = ps.length := rr.length.symm.trans (G.len _ _ _ _ hq)
  have few : us.length ≤ sizeLine := by
    have z := Paired.length r1
    rw [sizeLine_eq]
    omega
  have bd := hb ⟨(hp.push (PySem.W.kdv_tup us)).push (PySem.HandSPX.excO C hp.objs.size), gs, dr, tk, os⟩ (Value.ref (hp.objs.size + 1) :: us) J.kIn (by rw [List.append_nil]; exact many)
  rw [List.append_nil] at bd
  refine wpAny_call (PySem.SpX.call_of T.fam.base (fun Y => PySem.W.excTail_contains Y bm em) (I1.kIn _ _ eC) (PySem.W.looks_findIn I1.kIn iC) (fun self => PySem.W.bind_fn I1.kIn self tI) few
    (codeAny_mono (G.run _ X.stack _ _ ⟨Value.ref (hp.objs.size + 1) :: us, []⟩ (Value.ref (hp.objs.size + 1) :: us) _ _ (fun _ _ _ => False) (hr.make C us []) (J.env0.make C us []) bd rr hq) fun r s' hq' => ?_))
  cases r with
  | error er => exact hx pins σ _ _ er s' J hq'
  | ok fl =>
    cases fl with
    | ret u =>
      obtain ⟨v, H2, os2, bare2, un2, hok2, rv, ev, d, fs, ea, ed, hd1, q2⟩ := hq'
      subst ev
      obtain ⟨h2, g2, d2, t2, os'⟩ := s'
      exact ⟨rv, mk_end (raises_own T.exC T.tyC) I1 up old un2 hok2 os2 bare2 ea ed hd1 q2⟩
    | next => exact False.elim hq'
    | brk => exact False.elim hq'
    | cont => exact False.elim hq'
/-- the classes' makers, by number -/
structure MkE (P : Program) (w : World) (K : PySem.W.Frag) (mg : Str → Option Value) (base : Heap) (C : Addr) : Prop where
  xc : ∃ bn ni ii bm, XC K C bn ni ii bm
  ex : ∃ fI fd, PySem.W.findIn K (.ref C) "__init__" = some (some (.ref fI)) ∧ PySem.W.typeIn K (.ref fI) = some (.type "function") ∧ FnOk P w K mg base CX0 1 fI fd ["self", "given"] (spErr1 C "given") ∧ Binds K fd ["self", "given"] []
theorem ps_raiseX {X : Cx} {W : WX} {x : Str} {e : Expr} {ta : TE} {p pos pos' : Pos} {C : Addr} (hc : X.calm = true) (tk : Takes X W) (M : MkE X.prog X.w X.K X.mg X.base C) (hr : Room 2 X.A) (hg : Gl X x) (hm : X.mg x = some (.ref C)) (he : PE X e ta)
    (hdb : (x == ("__debug__" : Str)) = false := by decide) (hst : starEach [e] X.env = (false, eval e X.env) :: starEach [] X.env := by rfl) (hpl : (backTo pos (starEach [] X.env)).any (·.1) = false := by rfl) :
    PS X (.Raise (some (.Call (.Name x p) [e] [] pos)) none pos') (fun _ σ H => tMkO C (spErr1 C "given") [] (tCons ta tNil) σ H fun cls d H' => W cls d σ H') := by
  obtain ⟨bn, ni, ii, bm, xc⟩ := M.xc
  obtain ⟨fI, fd, iC, tI, G, hb⟩ := M.ex
  exact ps_raise hc tk (pmk_X xc iC tI G hr hb pass0 hg hm (pa_cons he pa_nil (hs := hst)) hdb hst hpl)
end Ex
namespace Dl
open PySem PySem.Spec PyProof.Rows L2 Sp
/-- what flies: an error of the class Cc that was given x -/
def Flew (K : PySem.W.Frag) (A : List Addr) (H H' : Hp) (Cc : Addr) (x : D) (cls : Value) (d : Option Addr) : Prop := ∃ (dx : Addr) (v : V), cls = .ref Cc ∧ d = some dx ∧ Same H H' ∧ H' dx = some (.xd [("given", v)]) ∧ Dt K (hid A H') v x
theorem r_raise {C : Cxt} {cs : Cs} {H : Hp} {σ : L2.St} {ρ : Rho} {te : TE} {Cc : Addr} {W : XK} {PX : D → Prop} (hm : C.m.p = none) (hb : C.m.tb = false) (h : WE C te ρ fun x => Clean x ∧ PX x) (r : R C cs H σ ρ)
    (k : ∀ x cls d H', PX x → Flew C.K C.A C.H0 H' Cc x cls d → W cls d H') : tMkO Cc (Ex.spErr1 Cc "given") [] (tCons te tNil) σ H W :=
  h cs H σ r _ fun v x H1 k1 o1 hv ⟨cl, px⟩ => by
    have g1 := r.good.step k1 o1
    refine ⟨(show 1 ≤ 1000 by decide), fun a ha => ⟨a, v, rfl, upd_same, fun dx H2 n1 n2 b e1 e2 => ⟨rfl, dx, _, e1, e2, ?_, ?_⟩⟩⟩
    · rw [upd_ne n2] at n1
      exact n1
    · rw [upd_ne n2] at n1
      have sm : Same H1 (upd (del H2 a) dx (.xd [("given", v)])) := fun c u e => by
        have nc : c ≠ a := ne_of_none e ha
        rw [upd_ne (ne_of_none e n1), del_ne nc]
        exact b c u nc (by rw [upd_ne nc]; exact e)
      have s0 : Same C.H0 H1 := fun c u e => g1.keep c u (by rw [hm]; exact fun z => nomatch z) (by rw [hb]; exact fun z => nomatch z) e
      refine k x _ _ _ px ⟨dx, v, rfl, rfl, s0.trans sm, upd_same, ?_⟩
      have h1 : Dt C.K (hid C.A H1) v x := (hv.dt cl).same (hid_less fun y hy => by
        unfold Cxt.hd
        exact List.mem_append_left _ hy)
      exact h1.same (hid_same sm)
end Dl
set_option Elab.async false
set_option linter.all false
set_option maxRecDepth 100000
set_option maxHeartbeats 4000000
/-! what repr is asked of: bounds -/
namespace Dl
open PySem PySem.Spec PyProof.Rows L2 Sp
def lvK : Key → Bool
  | .inl i => decide (i.natAbs < 10 ^ 50)
  | .inr z => z.cps.toList.all fun c => decide (c < 1114112)
def wtK : Key → Nat
  | .inl _ => 170
  | .inr z => z.length
mutual
/-- the leaves are short -/
def lvD : D → Bool
  | .non => true
  | .bl _ => true
  | .int i => decide (i.natAbs < 10 ^ 50)
  | .str z => z.cps.toList.all fun c => decide (c < 1114112)
  | .lst ds => lvDs ds
  | .tup ds => lvDs ds
  | .dic ks ds => ks.all lvK && (decide (ks.length = ds.length) && lvDs ds)
  | _ => false
def lvDs : List D → Bool
  | [] => true
  | d :: ds => lvD d && lvDs ds
end
mutual
def wtD : D → Nat
  | .int _ => 170
  | .str z => z.length
  | .lst ds => wtDs ds
  | .tup ds => wtDs ds
  | .dic ks ds => (ks.map wtK).sum + wtDs ds + ks.length
  | _ => 0
def wtDs : List D → Nat
  | [] => 0
  | d :: ds => wtD d + 1 + wtDs ds
end
mutual
def dpD : D → Nat
  | .lst ds => dpDs ds + 1
  | .tup ds => dpDs ds + 1
  | .dic _ ds => dpDs ds + 1
  | _ => 0
def dpDs : List D → Nat
  | [] => 0
  | d :: ds => max (dpD d) (dpDs ds)
end
mutual
/-- no dict within -/
def noDi : D → Bool
  | .lst ds => noDis ds
  | .tup ds => noDis ds
  | .dic _ _ => false
  | _ => true
def noDis : List D → Bool
  | [] => true
  | d :: ds => noDi d && noDis ds
end
structure PB (p : PyData) (wt dp : Nat) (nd : Bool) : Prop where
  s : p.showable = true
  l : p.leavesShort 60 = true
  w : p.weight ≤ wt
  d : p.depth ≤ dp
  h : nd = true → p.hasDict = false
structure PBs (p : List PyData) (wt dp : Nat) (nd : Bool) : Prop where
  s : PyData.showableAll p = true
  l : PyData.leavesShortAll 60 p = true
  w : PyData.weightAll p ≤ wt
  d : PyData.depthAll p ≤ dp
  h : nd = true → PyData.hasDictAll p = false
theorem pb_int {i : Int} (h : i.natAbs < 10 ^ 50) : PB (.int i) 170 0 true := by
  have lg : i.natAbs = 0 ∨ i.natAbs.log2 < 167 := by
    by_cases e : i.natAbs = 0
    · exact .inl e
    · exact .inr ((Nat.log2_lt e).mpr (Nat.lt_trans h (by decide)))
  refine ⟨?_, ?_, ?_, by simp only [PyData.depth]; omega, fun _ => by simp only [PyData.hasDict]⟩
  · simp only [PyData.showable, decide_eq_true_eq]
    rcases lg with e | e
    · rw [e]
      decide
    · omega
  · have z := int_text_length_le10 (a := i) (k := 50) (by decide) h
    have e : (PyData.shown (.int i)).length ≤ 60 := by
      simp only [PyData.shown]
      rw [PySem.ofString_length]
      omega
    simp only [PyData.leavesShort]
    exact decide_eq_true e
  · simp only [PyData.weight]
    split
    · omega
    · rename_i q
      rcases lg with e | e
      · exact absurd (by simpa using e) (by simpa using q)
      · omega
theorem pb_str {z : Str} (h : (z.cps.toList.all fun c => decide (c < 1114112)) = true) : PB (.str z) z.length 0 true := by
  refine ⟨by simp only [PyData.showable], ?_, by simp only [PyData.weight]; exact Nat.le_refl _, by simp only [PyData.depth]; omega, fun _ => by simp only [PyData.hasDict]⟩
  simp only [PyData.leavesShort]
  rw [List.all_eq_true] at h ⊢
  intro c hc
  have := h c hc
  simp only [decide_eq_true_eq] at this ⊢
  exact Nat.lt_trans this (by decide)
theorem pb_key {k : Key} (h : lvK k = true) : PB (keyP k) (wtK k) 0 true := by
  cases k with
  | inl i =>
    simp only [lvK, decide_eq_true_eq] at h
    exact pb_int h
  | inr z => exact pb_str h
theorem pb_kv : ∀ {ks : List Key} {ps : List PyData} {wt dp : Nat} {nd : Bool}, ks.all lvK = true → ks.length = ps.length → PBs ps wt dp nd → PyData.showableKv ((ks.map keyP).zip ps) = true ∧ PyData.leavesShortKv 60 ((ks.map keyP).zip ps) = true ∧ PyData.weightKv ((ks.map keyP).zip ps) ≤ (ks.map wtK).sum + PyData.weightAll ps + ks.length ∧ PyData.depthKv ((ks.map keyP).zip ps) ≤ PyData.depthAll ps
  | [], [], _, _, _, _, _, _ => by simp [PyData.showableKv, PyData.leavesShortKv, PyData.weightKv, PyData.depthKv]
  | k :: ks, p :: ps, wt, dp, nd, h, l, b => by
    simp only [List.all_cons, Bool.and_eq_true] at h
    have s := b.s
    have lv := b.l
    simp only [PyData.showableAll, PyData.leavesShortAll, Bool.and_eq_true] at s lv
    obtain ⟨i1, i2, i3, i4⟩ := pb_kv (ks := ks) (ps := ps) (wt := PyData.weightAll ps) (dp := PyData.depthAll ps) (nd := false) h.2 (by simpa using l) ⟨s.2, lv.2, Nat.le_refl _, Nat.le_refl _, fun e => nomatch e⟩
    have pk := pb_key h.1
    have k3 := pk.w
    have k4 := pk.d
    simp only [List.map_cons, List.zip_cons_cons, PyData.showableKv, PyData.leavesShortKv, PyData.weightKv, PyData.depthKv, Bool.and_eq_true, List.sum_cons, PyData.weightAll, PyData.depthAll, List.length_cons]
    exact ⟨⟨⟨pk.s, s.1⟩, i1⟩, ⟨⟨pk.l, lv.1⟩, i2⟩, by omega, by omega⟩
mutual
theorem pb_of : ∀ {d : D}, lvD d = true → ∃ p, toR d = some p ∧ PB p (wtD d) (dpD d) (noDi d)
  | .non, _ => ⟨.none, by simp only [toR], by simp only [PyData.showable], by simp only [PyData.leavesShort], by simp only [PyData.weight]; omega, by simp only [PyData.depth]; omega, fun _ => by simp only [PyData.hasDict]⟩
  | .bl b, _ => ⟨.bool b, by simp only [toR], by simp only [PyData.showable], by simp only [PyData.leavesShort], by simp only [PyData.weight]; omega, by simp only [PyData.depth]; omega, fun _ => by simp only [PyData.hasDict]⟩
  | .int i, h => by
    simp only [lvD, decide_eq_true_eq] at h
    have z := pb_int h
    exact ⟨.int i, by simp only [toR], z.s, z.l, by simp only [wtD]; exact z.w, by simp only [dpD]; exact z.d, fun _ => by simp only [PyData.hasDict]⟩
  | .str z, h => by
    simp only [lvD] at h
    have q := pb_str h
    exact ⟨.str z, by simp only [toR], q.s, q.l, by simp only [wtD]; exact q.w, by simp only [dpD]; exact q.d, fun _ => by simp only [PyData.hasDict]⟩
  | .lst ds, h => by
    simp only [lvD] at h
    obtain ⟨ps, e, b⟩ := pbs_of h
    have b4 := b.d
    exact ⟨.list ps, by simp only [toR, e, Option.map_some], by simp only [PyData.showable]; exact b.s, by simp only [PyData.leavesShort]; exact b.l, by simp only [PyData.weight, wtD]; exact b.w, by simp only [PyData.depth, dpD]; omega, fun z => by simp only [PyData.hasDict]; exact b.h (by simpa only [noDi] using z)⟩
  | .tup ds, h => by
    simp only [lvD] at h
    obtain ⟨ps, e, b⟩ := pbs_of h
    have b4 := b.d
    exact ⟨.tuple ps, by simp only [toR, e, Option.map_some], by simp only [PyData.showable]; exact b.s, by simp only [PyData.leavesShort]; exact b.l, by simp only [PyData.weight, wtD]; exact b.w, by simp only [PyData.depth, dpD]; omega, fun z => by simp only [PyData.hasDict]; exact b.h (by simpa only [noDi] using z)⟩
  | .dic ks ds, h => by
    simp only [lvD, Bool.and_eq_true, decide_eq_true_eq] at h
    obtain ⟨ps, e, b⟩ := pbs_of h.2.2
    have l := toRs_len e
    obtain ⟨i1, i2, i3, i4⟩ := pb_kv h.1 (by omega) b
    have b3 := b.w
    have b4 := b.d
    exact ⟨.dict ((ks.map keyP).zip ps), by simp only [toR, e, Option.map_some], by simp only [PyData.showable]; exact i1, by simp only [PyData.leavesShort]; exact i2, by simp only [PyData.weight, wtD]; omega, by simp only [PyData.depth, dpD]; omega, fun z => by simp [noDi] at z⟩
  | .obj _ _ _, h => by simp [lvD] at h
  | .ty _, h => by simp [lvD] at h
  | .raw _, h => by simp [lvD] at h
  | .pur, h => by simp [lvD] at h
  | .cell _ _, h => by simp [lvD] at h
theorem pbs_of : ∀ {ds : List D}, lvDs ds = true → ∃ ps, toRs ds = some ps ∧ PBs ps (wtDs ds) (dpDs ds) (noDis ds)
  | [], _ => ⟨[], by simp only [toRs], by simp only [PyData.showableAll], by simp only [PyData.leavesShortAll], by simp only [PyData.weightAll]; omega, by simp only [PyData.depthAll]; omega, fun _ => by simp only [PyData.hasDictAll]⟩
  | d :: ds, h => by
    simp only [lvDs, Bool.and_eq_true] at h
    obtain ⟨p, e1, b1⟩ := pb_of h.1
    obtain ⟨ps, e2, b2⟩ := pbs_of h.2
    have w1 := b1.w
    have w2 := b2.w
    have d1 := b1.d
    have d2 := b2.d
    refine ⟨p :: ps, by simp only [toRs, e1, e2, Option.bind_some, Option.map_some], by simp only [PyData.showableAll, b1.s, b2.s, Bool.and_self], by simp only [PyData.leavesShortAll, b1.l, b2.l, Bool.and_self], by simp only [PyData.weightAll, wtDs]; omega, by simp only [PyData.depthAll, dpDs]; omega, fun z => ?_⟩
    simp only [noDis, Bool.and_eq_true] at z
    simp only [PyData.hasDictAll, b1.h z.1, b2.h z.2, Bool.or_self]
end
theorem mixA_of : ∀ {ds : List D} {ps : List PyData}, lvDs ds = true → toRs ds = some ps → (∀ x ∈ ds, noL x = true ∨ noDi x = true) → MixA ds ps
  | [], ps, _, e, _ => by
    simp only [toRs, Option.some.injEq] at e
    subst e
    exact .nil
  | d :: ds, _, h, e, m => by
    simp only [lvDs, Bool.and_eq_true] at h
    simp only [toRs] at e
    obtain ⟨p, e1, e2⟩ := Option.bind_eq_some_iff.mp e
    obtain ⟨ps, e3, rfl⟩ := Option.map_eq_some_iff.mp e2
    obtain ⟨p', q1, q2⟩ := pb_of h.1
    rw [e1] at q1
    obtain rfl := Option.some.inj q1
    exact .cons ((m d (List.mem_cons_self ..)).imp_right q2.h) (mixA_of h.2 e3 fun x hx => m x (List.mem_cons_of_mem _ hx))
/-- data that repr may be asked of -/
structure Shb (d : D) : Prop where
  lv : lvD d = true
  wt : wtD d ≤ 200000
  dp : dpD d ≤ 60
  mix : (noL d = true ∨ noDi d = true) ∨ ∃ ds, d = .tup ds ∧ ∀ x ∈ ds, noL x = true ∨ noDi x = true
/-- what repr shows of it -/
def shD (d : D) : Str := match toR d with
  | some p => p.shown
  | none => ""
theorem Shb.rok {d : D} (h : Shb d) : ∃ p, Rok d p ∧ p.shown = shD d := by
  obtain ⟨p, e, b⟩ := pb_of h.lv
  have w := h.wt
  have w2 := b.w
  have dd := h.dp
  have d2 := b.d
  have mx : (noL d = true ∨ p.hasDict = false) ∨ ∃ ds ps, d = .tup ds ∧ toRs ds = some ps ∧ MixA ds ps := by
    rcases h.mix with m | ⟨ds, rfl, m⟩
    · exact .inl (m.imp_right b.h)
    · have l := h.lv
      simp only [lvD] at l
      obtain ⟨ps, e1, _⟩ := pbs_of l
      exact .inr ⟨ds, ps, rfl, e1, mixA_of l e1 m⟩
  refine ⟨p, ⟨e, mx, b.s, by omega, ?_⟩, by unfold shD; rw [e]⟩
  have z := PyData.shown_le 60 (by decide) p b.l
  rw [sizeLine_eq]
  have e2 : (60 + 2) * p.weight ≤ (60 + 2) * 200000 := Nat.mul_le_mul_left _ (by omega)
  omega
theorem Rok.sh {d : D} {p : PyData} (h : Rok d p) : p.shown = shD d := by
  unfold shD
  rw [h.r]
theorem lvDs_app : ∀ (xs ys : List D), lvDs (xs ++ ys) = (lvDs xs && lvDs ys)
  | [], ys => by simp [lvDs]
  | x :: xs, ys => by simp only [List.cons_append, lvDs, lvDs_app xs ys, Bool.and_assoc]
theorem wtDs_app : ∀ (xs ys : List D), wtDs (xs ++ ys) = wtDs xs + wtDs ys
  | [], ys => by simp [wtDs]
  | x :: xs, ys => by simp only [List.cons_append, wtDs, wtDs_app xs ys]; omega
theorem dpDs_app : ∀ (xs ys : List D), dpDs (xs ++ ys) = max (dpDs xs) (dpDs ys)
  | [], ys => by simp [dpDs]
  | x :: xs, ys => by simp only [List.cons_append, dpDs, dpDs_app xs ys]; omega
theorem noDis_app : ∀ (xs ys : List D), noDis (xs ++ ys) = (noDis xs && noDis ys)
  | [], ys => by simp [noDis]
  | x :: xs, ys => by simp only [List.cons_append, noDis, noDis_app xs ys, Bool.and_assoc]
theorem noLs_app : ∀ (xs ys : List D), noLs (xs ++ ys) = (noLs xs && noLs ys)
  | [], ys => by simp [noLs]
  | x :: xs, ys => by simp only [List.cons_append, noLs, noLs_app xs ys, Bool.and_assoc]
end Dl
set_option Elab.async false
set_option linter.all false
set_option maxRecDepth 100000
set_option maxHeartbeats 4000000
/-! things that are handed over, by their size -/
namespace Dl
open PySem PySem.Spec PyProof.Rows L2 Sp
structure Th (m k : Nat) (d : D) : Prop where
  lv : lvD d = true
  wt : wtD d ≤ m
  dp : dpD d ≤ k
  mix : noL d = true ∨ noDi d = true
/-- without lists and dicts -/
structure Pn (m k : Nat) (d : D) : Prop where
  lv : lvD d = true
  wt : wtD d ≤ m
  dp : dpD d ≤ k
  l : noL d = true
  i : noDi d = true
structure Pns (m k : Nat) (ds : List D) : Prop where
  lv : lvDs ds = true
  wt : wtDs ds ≤ m
  dp : dpDs ds ≤ k
  l : noLs ds = true
  i : noDis ds = true
theorem Th.sh {m k : Nat} {d : D} (h : Th m k d) (hm : m ≤ 200000) (hk : k ≤ 60) : Shb d := ⟨h.lv, Nat.le_trans h.wt hm, Nat.le_trans h.dp hk, .inl h.mix⟩
theorem Shb.pair {m1 m2 k : Nat} {a b : D} (h : Th m1 k a) (g : Th m2 k b) (e : m1 + m2 + 2 ≤ 200000) (hk : k + 1 ≤ 60) : Shb (.tup [a, b]) := by
  have a1 := h.wt
  have a2 := g.wt
  have b1 := h.dp
  have b2 := g.dp
  refine ⟨by simp [lvD, lvDs, h.lv, g.lv], by simp only [wtD, wtDs]; omega, by simp only [dpD, dpDs]; omega, .inr ⟨_, rfl, fun x hx => ?_⟩⟩
  simp only [List.mem_cons, List.not_mem_nil, or_false] at hx
  rcases hx with rfl | rfl
  · exact h.mix
  · exact g.mix
theorem Th.mono {m n k j : Nat} {d : D} (h : Th m k d) (hm : m ≤ n) (hk : k ≤ j) : Th n j d := ⟨h.lv, Nat.le_trans h.wt hm, Nat.le_trans h.dp hk, h.mix⟩
theorem Pn.th {m k : Nat} {d : D} (h : Pn m k d) : Th m k d := ⟨h.lv, h.wt, h.dp, .inl h.l⟩
theorem Pns.nil {m k : Nat} : Pns m k [] := ⟨by simp [lvDs], by simp [wtDs], by simp [dpDs], by simp [noLs], by simp [noDis]⟩
theorem Pns.cons {m1 m2 m k : Nat} {d : D} {ds : List D} (h : Pn m1 k d) (g : Pns m2 k ds) (e : m1 + 1 + m2 ≤ m) : Pns m k (d :: ds) := by
  have h1 := h.wt
  have h2 := g.wt
  have h3 := h.dp
  have h4 := g.dp
  exact ⟨by simp [lvDs, h.lv, g.lv], by simp only [wtDs]; omega, by simp only [dpDs]; omega, by simp [noLs, h.l, g.l], by simp [noDis, h.i, g.i]⟩
theorem Pns.map {α : Type} {f : α → D} {m k : Nat} : ∀ {xs : List α}, (∀ x ∈ xs, Pn m k (f x)) → Pns (xs.length * (m + 1)) k (xs.map f)
  | [], _ => .nil
  | x :: xs, h => .cons (h x (List.mem_cons_self ..)) (Pns.map fun y hy => h y (List.mem_cons_of_mem _ hy)) (by rw [List.length_cons, Nat.succ_mul]; omega)
theorem Pns.tup {m k : Nat} {ds : List D} (h : Pns m k ds) : Pn m (k + 1) (.tup ds) := ⟨by simp only [lvD]; exact h.lv, by simp only [wtD]; exact h.wt, by have := h.dp; simp only [dpD]; omega, by simp only [noL]; exact h.l, by simp only [noDi]; exact h.i⟩
theorem Pns.mono {m n k : Nat} {ds : List D} (h : Pns m k ds) (hm : m ≤ n) : Pns n k ds := ⟨h.lv, Nat.le_trans h.wt hm, h.dp, h.l, h.i⟩
theorem Pn.mono {m n k : Nat} {d : D} (h : Pn m k d) (hm : m ≤ n) : Pn n k d := ⟨h.lv, Nat.le_trans h.wt hm, h.dp, h.l, h.i⟩
theorem Pn.deep {m k j : Nat} {d : D} (h : Pn m k d) (hm : k ≤ j) : Pn m j d := ⟨h.lv, h.wt, Nat.le_trans h.dp hm, h.l, h.i⟩
theorem Pns.app {m n k : Nat} {xs ys : List D} (h : Pns m k xs) (g : Pns n k ys) : Pns (m + n) k (xs ++ ys) := by
  have h1 := h.wt
  have h2 := g.wt
  have h3 := h.dp
  have h4 := g.dp
  exact ⟨by rw [lvDs_app, h.lv, g.lv]; rfl, by rw [wtDs_app]; omega, by rw [dpDs_app]; omega, by rw [noLs_app, h.l, g.l]; rfl, by rw [noDis_app, h.i, g.i]; rfl⟩
theorem Pns.take {m k : Nat} : ∀ (n : Nat) {ds : List D}, Pns m k ds → Pns m k (ds.take n)
  | 0, _, _ => .nil
  | _ + 1, [], _ => .nil
  | n + 1, d :: ds, h => by
    have h1 := h.lv
    have h2 := h.wt
    have h3 := h.dp
    have h4 := h.l
    have h5 := h.i
    simp only [lvDs, wtDs, dpDs, noLs, noDis, Bool.and_eq_true] at h1 h2 h3 h4 h5
    have r := Pns.take n (m := wtDs ds) (k := k) ⟨h1.2, Nat.le_refl _, by omega, h4.2, h5.2⟩
    have r1 := r.wt
    have r2 := r.dp
    exact ⟨by simp [lvDs, h1.1, r.lv], by simp only [List.take_succ_cons, wtDs]; omega, by simp only [List.take_succ_cons, dpDs]; omega, by simp [noLs, h4.1, r.l], by simp [noDis, h5.1, r.i]⟩
theorem Pns.drop {m k : Nat} : ∀ (n : Nat) {ds : List D}, Pns m k ds → Pns m k (ds.drop n)
  | 0, _, h => h
  | _ + 1, [], _ => .nil
  | n + 1, d :: ds, h => by
    have h1 := h.lv
    have h2 := h.wt
    have h3 := h.dp
    have h4 := h.l
    have h5 := h.i
    simp only [lvDs, wtDs, dpDs, noLs, noDis, Bool.and_eq_true] at h1 h2 h3 h4 h5
    exact Pns.drop n (ds := ds) ⟨h1.2, by omega, by omega, h4.2, h5.2⟩
theorem Pns.get {m k : Nat} : ∀ {ds : List D} {i : Nat} {d : D}, Pns m k ds → ds[i]? = some d → Pn m k d
  | [], _, _, _, e => by simp at e
  | x :: ds, 0, d, h, e => by
    simp only [List.getElem?_cons_zero, Option.some.injEq] at e
    subst e
    have h1 := h.lv
    have h2 := h.wt
    have h3 := h.dp
    have h4 := h.l
    have h5 := h.i
    simp only [lvDs, wtDs, dpDs, noLs, noDis, Bool.and_eq_true] at h1 h2 h3 h4 h5
    exact ⟨h1.1, by omega, by omega, h4.1, h5.1⟩
  | x :: ds, i + 1, d, h, e => by
    have z := h.drop 1
    exact Pns.get (i := i) z (by simpa using e)
/-- one thing among plain ones -/
theorem Th.among {m1 m2 m3 m k : Nat} {xs ys : List D} {d : D} (h : Th m2 k d) (g1 : Pns m1 k xs) (g2 : Pns m3 k ys) (e : m1 + m2 + 1 + m3 ≤ m) : Th m (k + 1) (.tup (xs ++ [d] ++ ys)) := by
  have a1 := g1.wt
  have a2 := g2.wt
  have a3 := h.wt
  have b1 := g1.dp
  have b2 := g2.dp
  have b3 := h.dp
  refine ⟨?_, ?_, ?_, ?_⟩
  · simp only [lvD, lvDs_app, lvDs, g1.lv, g2.lv, h.lv, Bool.and_self]
  · simp only [wtD, wtDs_app, wtDs]
    omega
  · simp only [dpD, dpDs_app, dpDs]
    omega
  · rcases h.mix with z | z
    · exact .inl (by simp only [noL, noLs_app, noLs, g1.l, g2.l, z, Bool.and_self])
    · exact .inr (by simp only [noDi, noDis_app, noDis, g1.i, g2.i, z, Bool.and_self])
theorem lvDs_mem : ∀ {ds : List D} {x : D}, lvDs ds = true → x ∈ ds → lvD x = true ∧ wtD x ≤ wtDs ds
  | [], _, _, h => nomatch h
  | d :: ds, x, h, hx => by
    simp only [lvDs, Bool.and_eq_true] at h
    simp only [wtDs]
    rcases List.mem_cons.mp hx with rfl | hx
    · exact ⟨h.1, by omega⟩
    · obtain ⟨a, b⟩ := lvDs_mem h.2 hx
      exact ⟨a, by omega⟩
theorem wtDs_len : ∀ (ds : List D), ds.length ≤ wtDs ds
  | [] => by simp
  | d :: ds => by
    have := wtDs_len ds
    simp only [wtDs, List.length_cons]
    omega
theorem lvD_pl {d : D} (h : lvD d = true) : Pl d := by
  cases d <;> first | exact rfl | (simp [lvD] at h)
end Dl
set_option Elab.async false
set_option linter.all false
set_option maxRecDepth 100000
set_option maxHeartbeats 4000000
/-! what repr shows is a text whose signs are signs -/
namespace Dl
open PySem PySem.Spec PyProof.Rows L2 Sp
def Ch (z : Str) : Prop := ∀ c ∈ z.cps.toList, c < 1114112
theorem ch_ok {z : Str} (h : Ch z) : PyData.strOk z = true := by
  unfold PyData.strOk
  rw [Array.all_eq_true_iff_forall_mem]
  intro x hx
  simpa using h x (Array.mem_toList_iff.mpr hx)
theorem ch_of (s : String) : Ch (Str.ofString s) := by
  intro c hc
  rw [PySem.Str.ofString_eq_toList] at hc
  have h2 : c ∈ s.toList.map Char.toNat := hc
  obtain ⟨d, _, rfl⟩ := List.mem_map.mp h2
  rcases d.valid with h | h
  · exact Nat.lt_trans h (by decide)
  · exact h.2
theorem ch_app {a b : Str} (h1 : Ch a) (h2 : Ch b) : Ch (a ++ b) := by
  intro c hc
  rw [PySem.Str.cps_append, Array.toList_append, List.mem_append] at hc
  exact hc.elim (h1 c) (h2 c)
theorem ch_join {sep : Str} (hs : Ch sep) : ∀ {ts : List Str}, (∀ t ∈ ts, Ch t) → Ch (Str.join sep ts)
  | [], _ => fun c h => by
    have h : c ∈ ([] : List Nat) := h
    exact nomatch h
  | [x], h => h x (List.mem_cons_self ..)
  | x :: y :: r, h => ch_app (ch_app (h x (List.mem_cons_self ..)) hs) (ch_join hs (ts := y :: r) fun t ht => h t (List.mem_cons_of_mem _ ht))
theorem ch_hex (n c : Nat) : ∀ x ∈ List.replicate n 48 ++ (Nat.toDigits 16 c).map Char.toNat, x < 1114112 := by
  intro x hx
  rcases List.mem_append.mp hx with h | h
  · rw [(List.mem_replicate.mp h).2]
    decide
  · obtain ⟨d, _, rfl⟩ := List.mem_map.mp h
    rcases d.valid with h | h
    · exact Nat.lt_trans h (by decide)
    · exact h.2
theorem ch_rc (q c : Nat) (hc : c < 1114112) : ∀ x ∈ Builtin.Str.reprChar q c, x < 1114112 := by
  intro x hx
  unfold Builtin.Str.reprChar at hx
  dsimp only at hx
  split at hx
  · simp at hx
    omega
  split at hx
  · simp at hx
    omega
  split at hx
  · simp at hx
    omega
  split at hx
  · simp at hx
    omega
  split at hx
  · simp at hx
    omega
  split at hx
  · rcases List.mem_append.mp hx with h | h
    · simp at h
      omega
    · exact ch_hex _ _ x h
  split at hx
  · rcases List.mem_append.mp hx with h | h
    · simp at h
      omega
    · exact ch_hex _ _ x h
  · rcases List.mem_append.mp hx with h | h
    · simp at h
      omega
    · exact ch_hex _ _ x h
theorem ch_fold (q : Nat) : ∀ (l : List Nat) (acc : Array Nat), (∀ c ∈ l, c < 1114112) → (∀ c ∈ acc.toList, c < 1114112) → ∀ c ∈ (l.foldl (fun out c => out ++ (Builtin.Str.reprChar q c).toArray) acc).toList, c < 1114112
  | [], _, _, h => h
  | c :: l, acc, h1, h2 => ch_fold q l _ (fun x hx => h1 x (List.mem_cons_of_mem _ hx)) fun x hx => by
    rw [Array.toList_append, List.mem_append] at hx
    rcases hx with hx | hx
    · exact h2 x hx
    · exact ch_rc q c (h1 c (List.mem_cons_self ..)) x hx
theorem ch_repr {z : Str} (h : Ch z) : Ch (reprText z) := by
  intro c hc
  have q : reprQuote z < 1114112 := by
    unfold reprQuote
    split <;> decide
  unfold reprText at hc
  have hc : c ∈ ((z.cps.foldl (fun out c => out ++ (Builtin.Str.reprChar (reprQuote z) c).toArray) #[reprQuote z]).push (reprQuote z)).toList := hc
  rw [Array.toList_push, List.mem_append, ← Array.foldl_toList] at hc
  rcases hc with hc | hc
  · exact ch_fold _ _ _ h (fun x hx => by
      have hx : x ∈ [reprQuote z] := hx
      rw [List.mem_singleton.mp hx]
      exact q) c hc
  · rw [List.mem_singleton.mp hc]
    exact q
theorem ch_list {ts : List Str} (h : ∀ t ∈ ts, Ch t) : Ch (listText ts) := by
  rw [listText_eq_join]
  exact ch_app (ch_app (ch_of _) (ch_join (ch_of _) h)) (ch_of _)
theorem ch_tup {ts : List Str} (h : ∀ t ∈ ts, Ch t) : Ch (tupleText ts) := by
  unfold tupleText
  exact ch_app (ch_app (ch_of _) (ch_join (ch_of _) h)) (ch_of _)
theorem ch_dict {ts : List Str} (h : ∀ t ∈ ts, Ch t) : Ch (dictText ts) := by
  unfold dictText
  exact ch_app (ch_app (ch_of _) (ch_join (ch_of _) h)) (ch_of _)
theorem ch_key {k : Key} (h : lvK k = true) : Ch (keyP k).shown := by
  cases k with
  | inl i =>
    simp only [keyP, PyData.shown]
    exact ch_of _
  | inr z =>
    simp only [lvK, List.all_eq_true, decide_eq_true_eq] at h
    simp only [keyP, PyData.shown]
    exact ch_repr h
theorem ch_kv : ∀ {ks : List Key} {ps : List PyData}, ks.all lvK = true → (∀ t ∈ PyData.shownAll ps, Ch t) → ∀ t ∈ PyData.shownKv ((ks.map keyP).zip ps), Ch t
  | [], _, _, _ => fun t ht => by simp [PyData.shownKv] at ht
  | _ :: _, [], _, _ => fun t ht => by simp [PyData.shownKv] at ht
  | k :: ks, p :: ps, h, g => fun t ht => by
    simp only [List.all_cons, Bool.and_eq_true] at h
    simp only [List.map_cons, List.zip_cons_cons, PyData.shownKv, List.mem_cons] at ht
    simp only [PyData.shownAll, List.mem_cons] at g
    rcases ht with rfl | ht
    · exact ch_app (ch_app (ch_key h.1) (ch_of _)) (g _ (.inl rfl))
    · exact ch_kv h.2 (fun t ht => g t (.inr ht)) t ht
mutual
theorem ch_shown : ∀ {d : D} {p : PyData}, lvD d = true → toR d = some p → Ch p.shown
  | .non, p, _, e => by
    simp only [toR, Option.some.injEq] at e
    subst e
    simp only [PyData.shown]
    exact ch_of _
  | .bl b, p, _, e => by
    simp only [toR, Option.some.injEq] at e
    subst e
    simp only [PyData.shown]
    cases b <;> exact ch_of _
  | .int i, p, _, e => by
    simp only [toR, Option.some.injEq] at e
    subst e
    simp only [PyData.shown]
    exact ch_of _
  | .str z, p, h, e => by
    simp only [toR, Option.some.injEq] at e
    subst e
    simp only [lvD, List.all_eq_true, decide_eq_true_eq] at h
    simp only [PyData.shown]
    exact ch_repr h
  | .lst ds, p, h, e => by
    simp only [toR] at e
    obtain ⟨ps, e1, rfl⟩ := Option.map_eq_some_iff.mp e
    simp only [lvD] at h
    simp only [PyData.shown]
    exact ch_list (ch_showns h e1)
  | .tup ds, p, h, e => by
    simp only [toR] at e
    obtain ⟨ps, e1, rfl⟩ := Option.map_eq_some_iff.mp e
    simp only [lvD] at h
    simp only [PyData.shown]
    exact ch_tup (ch_showns h e1)
  | .dic ks ds, p, h, e => by
    simp only [toR] at e
    obtain ⟨ps, e1, rfl⟩ := Option.map_eq_some_iff.mp e
    simp only [lvD, Bool.and_eq_true] at h
    simp only [PyData.shown]
    exact ch_dict (ch_kv h.1 (ch_showns h.2.2 e1))
  | .obj _ _ _, _, h, _ => by simp [lvD] at h
  | .ty _, _, h, _ => by simp [lvD] at h
  | .raw _, _, h, _ => by simp [lvD] at h
  | .pur, _, h, _ => by simp [lvD] at h
  | .cell _ _, _, h, _ => by simp [lvD] at h
theorem ch_showns : ∀ {ds : List D} {ps : List PyData}, lvDs ds = true → toRs ds = some ps → ∀ t ∈ PyData.shownAll ps, Ch t
  | [], ps, _, e => by
    simp only [toRs, Option.some.injEq] at e
    subst e
    intro t ht
    simp [PyData.shownAll] at ht
  | d :: ds, _, h, e => by
    simp only [toRs] at e
    obtain ⟨p, e1, e2⟩ := Option.bind_eq_some_iff.mp e
    obtain ⟨ps, e3, rfl⟩ := Option.map_eq_some_iff.mp e2
    simp only [lvDs, Bool.and_eq_true] at h
    intro t ht
    simp only [PyData.shownAll, List.mem_cons] at ht
    rcases ht with rfl | ht
    · exact ch_shown h.1 e1
    · exact ch_showns h.2 e3 t ht
end
theorem ch_sh {d : D} (h : lvD d = true) : Ch (shD d) := by
  unfold shD
  cases e : toR d with
  | none => exact ch_of _
  | some p => exact ch_shown h e
end Dl
set_option Elab.async false
set_option linter.all false
set_option maxRecDepth 100000
set_option maxHeartbeats 4000000
/-! own objects as data -/
namespace Dl
open PySem PySem.Spec PyProof.Rows L2 Sp
theorem obj_look {K : PySem.W.Frag} {H : Hp} {f : Str} {d : D} : ∀ {fs : List (Str × V)} {ds : List D}, DtA K H (fs.map (·.2)) ds → ((fs.map (·.1)).zip ds).lookup f = some d → ∃ v, fs.lookup f = some v ∧ Dt K H v d
  | [], _, .nil, e => by cases e
  | (g, v) :: fs, d' :: ds, .cons a b, e => by
    simp only [List.map_cons, List.zip_cons_cons, List.lookup_cons] at e ⊢
    cases c : f == g with
    | true =>
      rw [c] at e
      simp only [Option.some.injEq] at e
      subst e
      exact ⟨v, rfl, a⟩
    | false =>
      rw [c] at e
      exact obj_look b e
/-- what an own class must say, so that isinstance asks its instances rightly -/
structure ObjC (K : PySem.W.Frag) (C : Addr) : Prop where
  cls : Cls K C
  ha : PySem.W.findIn K (.ref C) "__class__" = some (some (.builtin "object.__class__"))
  hn : PySem.W.specialIn K (.builtin "object.__class__") "__get__" = some (some (.builtin "getset_descriptor.__get__"))
  ht : PySem.W.takesIn K (.builtin "object.__class__") = some true
  hm : PySem.W.mroIn K C (.type "object") = some true
section
variable {C : Cxt} {cs : Cs} {H H' : Hp} {ρ : Rho} {te : TE} {P : D → Prop} {v : V} {Cc : Addr} {ns : List Str} {ds : List D} {f : Str} {d : D}
theorem Val.obj (h : Val C cs H v (.obj Cc ns ds)) : ∃ a dx fs, v = .ref a ∧ hid (C.hd cs) H a = some (.ins Cc dx fs) ∧ fs.map (·.1) = ns ∧ DtA C.K (hid (C.hd cs) H) (fs.map (·.2)) ds := by
  cases h with
  | c h =>
    cases h with
    | obj e a => exact ⟨_, _, _, rfl, e, rfl, a⟩
/-- x.f, an attribute -/
theorem w_fld (h : WE C te ρ fun x => ∃ Cc ns ds d, x = .obj Cc ns ds ∧ Cls C.K Cc ∧ NoAttr C.K Cc f ∧ (ns.zip ds).lookup f = some d ∧ (Clean d → P d)) : WE C (tFld C.K te f) ρ P := fun cs H σ r Q q =>
  h cs H σ r _ fun v x H1 k o hx ⟨Cc, ns, ds, d, e, cl, na, l, p⟩ => by
    subst e
    obtain ⟨a, dx, fs, rfl, e1, e2, e3⟩ := hx.obj
    subst e2
    obtain ⟨u, l1, l2⟩ := obj_look e3 l
    exact ⟨a, Cc, dx, fs, u, rfl, (hid_in e1).2, cl, na, l1, q u d H1 k o (.c l2) (p l2.clean)⟩
/-- x.f, a property that gives an attribute -/
theorem w_prop {g : Str} {E : XK} {Cc : Addr} (h : WE C te ρ fun x => ∃ ns ds d, x = .obj Cc ns ds ∧ (ns.zip ds).lookup g = some d ∧ (Clean d → P d)) : WE C (tProp Cc (getSp Cc g) [] E te) ρ P := fun cs H σ r Q q =>
  h cs H σ r _ fun v x H1 k o hx ⟨ns, ds, d, e, l, p⟩ => by
    subst e
    obtain ⟨a, dx, fs, rfl, e1, e2, e3⟩ := hx.obj
    subst e2
    obtain ⟨u, l1, l2⟩ := obj_look e3 l
    exact ⟨a, dx, fs, rfl, (hid_in e1).2, a, dx, fs, u, rfl, (hid_in e1).2, l1, q u d H1 k o (.c l2) (p l2.clean)⟩
/-- isinstance(x, A), x an own object -/
theorem c_isO {A : Addr} {b : Bool} (oc : ObjC C.K Cc) (kb : PySem.W.kitOne C.K (.ref Cc) (.ref A) = some b) (k : P (.bl b)) : CallD C (rIsi C.K) [.obj Cc ns ds, .raw A] P := fun cs H vs g aa Q q => by
  obtain ⟨v, w, rfl, a, b'⟩ := vals2 aa
  rw [b'.raw]
  obtain ⟨l, dx, fs, rfl, e1, e2, e3⟩ := a.obj
  exact ⟨.ref l, .ref A, .ref Cc, .ref A, b, rfl, .own A, .base (.ins (hid_in e1).2 oc.cls oc.ha oc.hn oc.ht oc.hm), kb, q _ _ H (Same.refl H) (.c (.bl _)) k⟩
/-- isinstance(x, T), x an own object, T built in -/
theorem c_isOT {T : String} {b : Bool} (oc : ObjC C.K Cc) (kb : PySem.W.kitOne C.K (.ref Cc) (.type T) = some b) (k : P (.bl b)) : CallD C (rIsi C.K) [.obj Cc ns ds, .ty T] P := fun cs H vs g aa Q q => by
  obtain ⟨v, w, rfl, a, b'⟩ := vals2 aa
  rw [b'.ty]
  obtain ⟨l, dx, fs, rfl, e1, e2, e3⟩ := a.obj
  exact ⟨.ref l, .ty T, .ref Cc, .type T, b, rfl, .ty T, .base (.ins (hid_in e1).2 oc.cls oc.ha oc.hn oc.ht oc.hm), kb, q _ _ H (Same.refl H) (.c (.bl _)) k⟩
end
end Dl
set_option Elab.async false
set_option linter.all false
set_option maxRecDepth 100000
set_option maxHeartbeats 4000000
/-! dicts made, menus -/
namespace Dl
open PySem PySem.Spec PyProof.Rows L2 Sp
section
variable {C : Cxt} {ρ : Rho} {P : D → Prop} {te ta : TE}
/-- {} -/
theorem w_dnew (k : P (.dic [] [])) : WE C tDNewK ρ P := fun cs H σ r Q q => fun p hp => by
  have s : Same H (upd H p (.dK [])) := Same.new (Same.refl H) hp
  have d : Dt C.K (hid (C.hd cs) (upd H p (.dK []))) (.ref p) (.dic (([] : List (Key × V)).map (·.1)) []) := .dic (hid_of (r.good.new hp) upd_same) .nil
  exact q _ _ _ (.same s) (r.good.ok.same s) (.c d) k
/-- {k: v}, a text and an int -/
theorem w_disp1 {z : Str} {i : Int} (k : P (.dic [.inr z] [.int i])) : WE C (tDisp [(tC (.str z), tC (.int i))]) ρ P := fun cs H σ r Q q => fun p hp => by
  have s : Same H (upd H p (.dK [(.inr z, .int i)])) := Same.new (Same.refl H) hp
  have d : Dt C.K (hid (C.hd cs) (upd H p (.dK [(.inr z, .int i)]))) (.ref p) (.dic (([(.inr z, .int i)] : List (Key × V)).map (·.1)) [.int i]) := .dic (hid_of (r.good.new hp) upd_same) (.cons (.int i) .nil)
  have q1 := q _ _ _ (.same s) (r.good.ok.same s) (.c d) k
  refine ⟨upd_same, [(.inr z, .int i)], rfl, (show 1 ≤ 15 by decide), ?_⟩
  have e : upd (upd H p (.dK [])) p (.dK (mergeK [] [((.inr z : Key), V.int i)])) = upd H p (.dK [(.inr z, .int i)]) := by
    funext b
    unfold upd
    by_cases h : b = p
    · simp [h]
      rfl
    · simp [h]
  rw [e]
  exact q1
theorem menu_at {xs : List D} {r : Int} (h0 : 0 ≤ r) (h1 : r < (xs.length : Int)) : ∃ d, atI xs r = some d ∧ d ∈ xs := by
  obtain ⟨n, rfl⟩ := Int.eq_ofNat_of_zero_le h0
  have l : n < xs.length := by omega
  exact ⟨xs[n], atI_nat (List.getElem?_eq_getElem l), List.getElem_mem l⟩
end
end Dl
set_option Elab.async false
set_option linter.all false
set_option maxRecDepth 100000
set_option maxHeartbeats 4000000
namespace Sp
open PySem PySem.Spec PyProof.Rows L2
section
variable {X : Cx} {CX : CXT} {n : Nat} {C f a dx : Addr} {fd : FuncData} {ps : List Str} {sp : Sp} {E : XK} {pins : List (Addr × Obj)} {σ : L2.St} {H : Hp} {s : Shared} {A : Around} {fs : List (Str × V)} {Q : VK}
/-- a def called as it stands, at a deeper place of the same frames -/
theorem run_own {vs : List V} {us : List Value} {Q' : VK} (sb : L2.Sub X n A) (F : FnOk X.prog X.w X.K X.mg X.base CX n f fd ps sp) (hb : L2.Binds X.K fd ps []) (hx : Passes CX X E) (I : Inv X pins σ H s) (r : Vals vs us) (h : sp vs H Q' E) :
    wpAny (model X.prog X.w) A (call (.ref f) us) (fun v s' => ∃ x H', Inv X pins σ H' s' ∧ RelV x v ∧ Q' x H') X.xe s := by
  have e0 : Env0 X.prog X.w X.K X.mg X.base A X.stack s H := by
    have e := I.env0
    exact ⟨by rw [sb.fr]; exact e.frames, e.mod, e.bs, e.bsz, e.funs, e.frf, e.hok, e.bare⟩
  have hl := F.len _ _ _ _ h
  refine wpAny_call (codeAny_mono (F.run A X.stack s H ⟨us, []⟩ us vs Q' E sb.room e0 (by
    have := hb s us I.kIn (by rw [List.append_nil, ← r.length]; exact hl)
    simpa using this) r h) fun r s' hq => ?_)
  cases r with
  | error e => exact hx pins σ H s e s' I hq
  | ok fl =>
    cases fl with
    | ret w =>
      obtain ⟨z, H', I', rz, q⟩ := I.after hq
      exact ⟨z, H', I', rz, q⟩
    | next => exact False.elim hq
    | brk => exact False.elim hq
    | cont => exact False.elim hq
/-- the own == of the class at C -/
structure EqC (K : PySem.W.Frag) (C f : Addr) : Prop where
  eq : PySem.W.findIn K (.ref C) "__eq__" = some (some (.ref f))
  fn : PySem.W.isFn K (.ref f) = true
  ne : PySem.W.findIn K (.ref C) "__ne__" = some (some (.builtin "object.__ne__"))
  ob : PySem.W.mroIn K C (.type "object") = some true
/-- x == y by the def of x's class -/
def rEqI (K : PySem.W.Frag) (C : Addr) (sp : Sp) (E : XK) : R2 := fun x y H Q => ∃ (a dx : Addr) (fs : List (Str × V)) (t : Value), x = .ref a ∧ H a = some (.ins C dx fs) ∧ TyX K H y t ∧ PySem.W.notFirst K C t = true ∧ sp [.ref a, y] H (fun v H' => ∃ b, v = .bl b ∧ Q (.bl b) H') E
def rNeI (K : PySem.W.Frag) (C : Addr) (sp : Sp) (E : XK) : R2 := fun x y H Q => ∃ (a dx : Addr) (fs : List (Str × V)) (t : Value), x = .ref a ∧ H a = some (.ins C dx fs) ∧ TyX K H y t ∧ PySem.W.notFirst K C t = true ∧ sp [.ref a, y] H (fun v H' => ∃ b, v = .bl b ∧ Q (.bl (!b)) H') E
theorem op_eqI (T : EqC X.K C f) (F : FnOk X.prog X.w X.K X.mg X.base CX n f fd ps sp) (hr : Room n X.A) (hb : L2.Binds X.K fd ps []) (hx : Passes CX X E) : OpR X (compareOp .Eq) (rEqI X.K C sp E) := by
  intro pins s σ H x y v u Q I rx ry h
  obtain ⟨a, dx, fs, t, rfl, ea, ty, nf, h⟩ := h
  cases rx
  obtain ⟨mA, J, _⟩ := ins_get I.hok ea
  obtain ⟨od, J, _⟩ := J.look
  obtain ⟨m, hF⟩ := I.fr
  obtain ⟨P, Z, p, hn⟩ := kit_of I ry ty
  show wpAny (model X.prog X.w) X.A (richCompare .Eq (.ref a) u) (EP X pins σ Q) X.xe s
  refine PySem.W.cmp_K (op := .Eq) hr.units0 hF I.ok.mod.kin J (Z.ty _ _ I.kIn p) nf T.eq T.fn (wpAny_mono (run_own ⟨hr, rfl⟩ F hb hx I (.cons (show L2.RelV (.ref a) (.ref a) from rfl) (.cons ry .nil)) h) (fun w s' q => ?_) fun _ _ e => e)
  obtain ⟨z, H', I', rz, b, rfl, q⟩ := q
  cases rz
  exact ⟨.bl b, H', I', rfl, q⟩
open Builtin in
theorem objNe_K {K : PySem.W.Frag} {prog : Program} {w : World} {od : Option Obj} {ox : Obj} {b : Value} {Q : Value → Shared → Prop} {E : Value → Shared → Prop} (hu : A.in1.units < cLine) (X : K.In s.heap) (I : PySem.W.InstAt s.heap a ox C od) (T : EqC K C f)
    (h : wpAny (model prog w) A.in1 (call (.ref f) [.ref a, b]) (fun v s' => ∃ b, v = .bool b ∧ Q (.bool (!b)) s') E s) : wpAny (model prog w) A (call (.builtin "object.__ne__") [.ref a, b]) Q E s := by
  refine wpAny_call (codeAny_call_builtin PySem.F.slot_object_ne.plain PySem.F.entry_object_ne (PySem.W.check_slot (i := "object.__ne__") (owner := "object") (n := "__ne__") (by decide +kernel) (by decide +kernel) (I.type.andThen (PySem.W.looks_mroIn X T.ob)) (PySem.F.args_object_ne_2 _ _) ?_))
  unfold Builtin.«object.__ne__»
  refine wpAny_bind (m := slotArgs "__ne__" 1 _) (wpAny_pure ?_)
  refine wpAny_bind (m := cRoomFor _ _) (wpAny_cRoomFor hu ?_)
  refine wpAny_bind (m := callSpecialIfBound? (.ref a) (Str.ofString "__eq__") _) (PySem.W.ifBound_K X I T.eq T.fn (wpAny_mono h (fun r s' hq => ?_) fun _ _ y => y))
  obtain ⟨c, rfl, hq⟩ := hq
  show wpAny _ _ (truthy (.bool c) >>= fun x => ret (.bool (!x))) _ _ _
  refine wpAny_bind (wpAny_truthy_bool ?_)
  exact wpAny_pure hq
theorem ifBoundB {K : PySem.W.Frag} {M : Model} {od : Option Obj} {ox : Obj} {name : Str} {id : String} {args : List Value} {Q : Option Value → Shared → Prop} {E : Value → Shared → Prop} (X : K.In s.heap) (I : PySem.W.InstAt s.heap a ox C od) (hs : PySem.W.findIn K (.ref C) name = some (some (.builtin id)))
    (hb : ∀ self, bindSpecial (.builtin id) self = pure (.builtin id, [self])) (h : wpAny M A (call (.builtin id) (.ref a :: args)) (fun v => Q (some v)) E s) : wpAny M A (callSpecialIfBound? (.ref a) name args) Q E s := by
  simp only [callSpecialIfBound?, bindSpecialIfBound?]
  refine wpAny_holding (wpAny_bind (wpAny_bind (wpAny_bind (I.type.here ((PySem.W.looks_findIn X hs).here ?_)))))
  simp only [hb]
  refine wpAny_bind (wpAny_askSetting (wpAny_ite ?_))
  have fin : wpAny M A (call (.builtin id) ([.ref a] ++ args) >>= fun v => pure (some v)) Q E s := wpAny_bind (wpAny_mono h (fun v s' h' => wpAny_pure h') fun _ _ h' => h')
  split
  · exact wpAny_bind (wpAny_pure (wpAny_pure fin))
  · exact wpAny_tryCatch (wpAny_bind (wpAny_pure (wpAny_pure fin)))
theorem ne_K {K : PySem.W.Frag} {prog : Program} {w : World} {od : Option Obj} {ox : Obj} {b tb : Value} {Q : Value → Shared → Prop} {E : Value → Shared → Prop} (hu : A.units < cLine) (hu2 : A.in1.units < cLine) (X : K.In s.heap) (I : PySem.W.InstAt s.heap a ox C od)
    (hb : PySem.W.Looks (model prog w) s.heap (typeOf b) tb) (hn : PySem.W.notFirst K C tb = true) (T : EqC K C f)
    (h : wpAny (model prog w) A.in1 (call (.ref f) [.ref a, b]) (fun v s' => ∃ b, v = .bool b ∧ Q (.bool (!b)) s') E s) : wpAny (model prog w) A (richCompare .NotEq (.ref a) b) Q E s := by
  have one : wpAny (model prog w) A (tryCompare (.ref a) (cmpInfo .NotEq).2.1 b) (fun r s' => ∃ v, r = some v ∧ Q v s') E s := by
    unfold tryCompare
    refine wpAny_bind (ifBoundB X I T.ne PySem.F.slot_object_ne.bind (objNe_K (A := A) hu2 X I T (wpAny_mono h (fun v s' hv => ?_) fun _ _ e => e)))
    obtain ⟨c, rfl, hq⟩ := hv
    exact ⟨c, rfl, wpAny_pure ⟨_, rfl, hq⟩⟩
  unfold richCompare
  simp only [oneThing_ref]
  refine wpAny_holding (wpAny_bind (wpAny_cRoomFor hu ?_))
  refine wpAny_bind (I.type.here (wpAny_bind (hb.here ?_)))
  split
  · rename_i q
    have e : PySem.W.subIn K tb (.ref C) = some false := by
      rcases Bool.or_eq_true_iff.mp hn with e | e
      · rw [beq_iff_eq.mp e] at q; simp at q
      · exact beq_iff_eq.mp e
    refine wpAny_bind ((PySem.W.looks_subIn X e).here ?_)
    simp only [Bool.false_eq_true, if_false]
    refine wpAny_bind (wpAny_mono one (fun r s' z => ?_) fun _ _ e => e)
    obtain ⟨v, rfl, hq⟩ := z
    exact wpAny_pure hq
  · refine wpAny_bind (wpAny_pure ?_)
    simp only [Bool.false_eq_true, if_false]
    refine wpAny_bind (wpAny_mono one (fun r s' z => ?_) fun _ _ e => e)
    obtain ⟨v, rfl, hq⟩ := z
    exact wpAny_pure hq
theorem op_neI (T : EqC X.K C f) (F : FnOk X.prog X.w X.K X.mg X.base CX n f fd ps sp) (hr : Room (n + 1) X.A) (hb : L2.Binds X.K fd ps []) (hx : Passes CX X E) : OpR X (compareOp .NotEq) (rNeI X.K C sp E) := by
  intro pins s σ H x y v u Q I rx ry h
  obtain ⟨a, dx, fs, t, rfl, ea, ty, nf, h⟩ := h
  cases rx
  obtain ⟨mA, J, _⟩ := ins_get I.hok ea
  obtain ⟨od, J, _⟩ := J.look
  obtain ⟨P, Z, p, hn⟩ := kit_of I ry ty
  show wpAny (model X.prog X.w) X.A (richCompare .NotEq (.ref a) u) (EP X pins σ Q) X.xe s
  refine ne_K hr.units0 hr.in1.units0 I.kIn J (Z.ty _ _ I.kIn p) nf T (wpAny_mono (run_own ⟨hr.in1, rfl⟩ F hb hx I (.cons (show L2.RelV (.ref a) (.ref a) from rfl) (.cons ry .nil)) h) (fun w s' q => ?_) fun _ _ e => e)
  obtain ⟨z, H', I', rz, b, rfl, q⟩ := q
  cases rz
  exact ⟨b, rfl, .bl (!b), H', I', rfl, q⟩
/-- str(x) by the def of x's class -/
def rStrI (C : Addr) (sp : Sp) (E : XK) : List V → Hp → VK → Prop := fun xs H Q => ∃ (a dx : Addr) (fs : List (Str × V)), xs = [.ref a] ∧ H a = some (.ins C dx fs) ∧ sp [.ref a] H (fun v H' => ∃ z, v = .str z ∧ Q (.str z) H') E
theorem call_strI (hs : PySem.W.findIn X.K (.ref C) "__str__" = some (some (.ref f))) (hf : PySem.W.isFn X.K (.ref f) = true) (F : FnOk X.prog X.w X.K X.mg X.base CX n f fd ps sp) (hr : Room (n + 2) X.A) (hb : L2.Binds X.K fd ps []) (hx : Passes CX X E) :
    CallR X (.type "str") (rStrI C sp E) := by
  intro pins s σ H xs us Q I r h
  obtain ⟨a, dx, fs, rfl, ea, h⟩ := h
  obtain ⟨mA, J, _⟩ := ins_get I.hok ea
  obtain ⟨od, J, _⟩ := J.look
  rw [Vals.ref1 r]
  refine PySem.W.kso_call hr.in1.in1.units0 I.kIn J hs hf (wpAny_mono (run_own ⟨hr.in1.in1, rfl⟩ F hb hx I (.cons (show L2.RelV (.ref a) (.ref a) from rfl) .nil) h) (fun w s' q => ?_) fun _ _ e => e)
  obtain ⟨z, H', I', rz, y, rfl, q⟩ := q
  obtain ⟨t, rfl⟩ := rz
  exact ⟨.str y, H', I', ⟨t, rfl⟩, q⟩
theorem call_reprI (hs : PySem.W.findIn X.K (.ref C) "__repr__" = some (some (.ref f))) (hf : PySem.W.isFn X.K (.ref f) = true) (F : FnOk X.prog X.w X.K X.mg X.base CX n f fd ps sp) (hr : Room (n + 1) X.A) (hb : L2.Binds X.K fd ps []) (hx : Passes CX X E) :
    CallR X (.builtin "repr") (rStrI C sp E) := by
  intro pins s σ H xs us Q I r h
  obtain ⟨a, dx, fs, rfl, ea, h⟩ := h
  obtain ⟨mA, J, _⟩ := ins_get I.hok ea
  obtain ⟨od, J, _⟩ := J.look
  obtain ⟨m, hF⟩ := I.fr
  rw [Vals.ref1 r]
  refine PySem.W.repr_K hr.in1.units0 hF I.ok.mod.kin J hs hf (wpAny_mono (run_own ⟨hr.in1, rfl⟩ F hb hx I (.cons (show L2.RelV (.ref a) (.ref a) from rfl) .nil) h) (fun w s' q => ?_) fun _ _ e => e)
  obtain ⟨z, H', I', rz, y, rfl, q⟩ := q
  obtain ⟨t, rfl⟩ := rz
  exact ⟨.str y, H', I', ⟨t, rfl⟩, q⟩
end
end Sp
set_option Elab.async false
set_option linter.all false
set_option maxRecDepth 100000
set_option maxHeartbeats 4000000
namespace Sp
open PySem PySem.Spec PyProof.Rows L2
/-- o.m(k = v, ..), o an instance of the class at C -/
def tMethK (C : Addr) (m : Str) (j : Nat) (sp : Sp) (gV : List V → List V → List V) (E : XK) (ta : TE) (tk : TA) : TE := fun σ H Q => ta σ H fun x H1 => ∃ a dx fs, x = .ref a ∧ H1 a = some (.ins C dx fs) ∧ fs.lookup m = none ∧
  tk σ H1 fun zs H2 => zs.length = j ∧ sp (gV [.ref a] zs) H2 Q E
section
variable {X : Cx} {CX : CXT} {k : Nat} {f C : Addr} {fd : FuncData} {ps ks : List Str} {sp : Sp} {E : XK} {m : Str} {pos apos : Pos} {o : Expr} {kws : List Keyword} {ta : TE} {tk : TA} {g : List Value → List Value → List Value} {gV : List V → List V → List V}
theorem pe_methK0 {pl : Sem Bool} (he : PE X o ta) (c : Cls X.K C) (hm : Meth X.K C m f) (F : FnOk X.prog X.w X.K X.mg X.base CX k f fd ps sp) (hr : Room k X.A) (hb : KBn X.K fd ps 1 ks g gV) (hx : Passes CX X E) (hkw : PK X kws tk)
    (hall : (backToKw pos (keywordEach kws X.env)).all (·.1.isSome) = true := by rfl) (hks : (backToKw pos (keywordEach kws X.env)).filterMap (·.1) = ks := by rfl)
    (hpl : ((backTo pos (starEach [] X.env)).any (·.1) || (backToKw pos (keywordEach kws X.env)).any (·.1.isNone)) = false := by rfl)
    (ht : eval (.Call (.Attribute o m apos) [] kws pos) X.env = (do
      let ov ← eval o X.env
      standAt apos.atName
      let (f, first) ← holding [ov] (getMethod ov m pl)
      callWith pos f first (backTo pos (starEach [] X.env)) (backToKw pos (keywordEach kws X.env))) := by rfl) :
    PE X (.Call (.Attribute o m apos) [] kws pos) (tMethK C m ks.length sp gV E ta tk) := by
  refine ⟨fun pins s σ H Q I h => ?_⟩
  refine PySem.W.methodCall_KW (pl := pl) (thn (he.run pins s σ H _ I h) fun u s1 ⟨x, H1, I1, rx, a, dx, fs, ex, ea, l, q⟩ => ?_) ht
  subst ex
  obtain rfl : u = Value.ref a := rx
  refine getmeth_ok I1 ea c hm l ?_
  refine PySem.W.callWith_KW0 (first := [.ref a]) (h₀ := X.base) I1.ok.mod.kin hm.kp hall ?_ hpl
  refine thn (hkw.run pos pins s1 σ H1 _ I1 q) fun ws s2 ⟨zs, H2, I2, rz, l1, q2⟩ => ⟨I2.kIn, ?_⟩
  rw [hks]
  exact run_fnN (us := [.ref a]) (vs := [.ref a]) F hr hb hx I2 (.cons (show L2.RelV (.ref a) (.ref a) from rfl) .nil) rz rfl l1 q2
/-- def m(self, name), called with the name by its name -/
theorem Fun.kbn {K : PySem.W.Frag} {x qual : Str} {st : Stmt} {p1 p2 : Str} (F : Fun K x qual st f fd)
    (h : ∀ (kV doc pm : Value) (an : Option Addr) (cdv ct u w : Value), bindArgs (PySem.W.fnOf x qual (defArgs st) (defBody st) (defScope st) .none kV doc pm an cdv ct) ⟨[u], [(p2, w)]⟩ = pure [(p1, u), (p2, w)]) :
    KBn K fd [p1, p2] 1 [p2] (fun us ws => us ++ ws) (fun vs zs => vs ++ zs) := by
  obtain ⟨oc, od, kV, doc, pm, an, cdv, ct, osl, rfl, lk, hcd⟩ := F.ex
  refine ⟨fun s us ws _ l1 l2 => ?_, fun r1 r2 => r1.append r2⟩
  match us, l1, ws, l2 with
  | [u], _, [w], _ => exact .of_eq (h kV doc pm an cdv ct u w)
end
end Sp
set_option Elab.async false
set_option maxRecDepth 100000
set_option maxHeartbeats 4000000
namespace Sp
open PySem PySem.Spec PyProof.Rows L2
/-- what has no own truth and no length -/
structure TruC (K : PySem.W.Frag) (C : Addr) : Prop where
  nb : PySem.W.findIn K (.ref C) "__bool__" = some none
  nl : PySem.W.findIn K (.ref C) "__len__" = some none
theorem meets_bool_inst {K : PySem.W.Frag} {a C : Addr} {ox : Obj} {od : Option Obj} (T : TruC K C) :
    Meets (Builtin.«bool.__new__» ⟨[.type "bool", .ref a], []⟩) (fun _ R s => K.In s.heap ∧ PySem.W.InstAt s.heap a ox C od ∧ R (.ok (.ret (.bool true))) s) :=
  .of_wp fun prog w A R s h => by
    obtain ⟨X, I, hs⟩ := h
    obtain ⟨hp, g, d, tk, os⟩ := s
    have f1 := F.conv_sub_bool
    have tr : ∀ {M : Model} {A : Around} {Q : Bool → Shared → Prop} {E : Value → Shared → Prop}, Q true ⟨hp, g, d, tk, os⟩ → wpAny M A (truthy (.ref a)) Q E ⟨hp, g, d, tk, os⟩ := fun h => by
      unfold truthy
      refine wpAny_bind (m := callSpecial? (.ref a) (Str.ofString "__bool__")) (wpAny_bind (wpAny_bind (I.type.here ((PySem.W.looks_findIn X T.nb).here (wpAny_pure ?_)))))
      refine wpAny_bind (wpAny_bind (I.type.here ((PySem.W.looks_findIn X T.nl).here ?_)))
      exact wpAny_pure h
    repeat (any_goals (first | assumption | (with_reducible refine tr ?_) | wp_step))
    all_goals first | exact ⟨_, rfl, hs⟩ | exact hs | skip
theorem call_boolI {X : Cx} {C : Addr} (T : TruC X.K C) : CallR X (.type "bool") (fun xs H Q => ∃ (a dx : Addr) (fs : List (Str × V)), xs = [.ref a] ∧ H a = some (.ins C dx fs) ∧ Q (.bl true) H) := by
  intro pins s σ H xs us Q I r h
  obtain ⟨a, dx, fs, rfl, ea, q⟩ := h
  obtain ⟨mA, J, _⟩ := ins_get I.hok ea
  obtain ⟨od, J, _⟩ := J.look
  rw [Vals.ref1 r]
  refine PySem.call_bool_1 (meets_bool_inst T) ⟨I.kIn, J, ?_⟩
  exact ⟨rfl, .bl true, H, I, rfl, q⟩
end Sp
set_option Elab.async false
set_option linter.all false
set_option maxRecDepth 100000
set_option maxHeartbeats 4000000
namespace Sp
open PySem PySem.Spec PyProof.Rows L2
/-- C.m is a staticmethod: its record at p, its def at g -/
structure SMet (K : PySem.W.Frag) (C : Addr) (mc : Value) (m : Str) (p g : Addr) : Prop where
  at_ : PySem.W.findCls K (.ref C) mc m = some (.get (.builtin "staticmethod.__get__") (.ref p) .none (.ref C))
  rc : ∃ rest, PySem.W.recIn K p "staticmethod" = some (.ref g :: rest)
  kp : PySem.W.keepIn K (.ref g) = true
def tSMeth (C : Addr) (sp : Sp) (dvs : List V) (E : XK) (ta : TE) (t : TA) : TE := fun σ H Q => ta σ H fun x H1 => x = .ref C ∧ t σ H1 fun vs H2 => sp (vs ++ dvs) H2 Q E
def tSMethK (C : Addr) (j : Nat) (sp : Sp) (gV : List V → List V → List V) (E : XK) (ta : TE) (tk : TA) : TE := fun σ H Q => ta σ H fun x H1 => x = .ref C ∧ tk σ H1 fun zs H2 => zs.length = j ∧ sp (gV [] zs) H2 Q E
section
variable {X : Cx} {CX : CXT} {k : Nat} {C p f : Addr} {mc : Value} {fd : FuncData} {ps ks : List Str} {sp : Sp} {dvs : List V} {ds : List Value} {E : XK} {m : Str} {pos apos : Pos} {o e : Expr} {es : List Expr} {kws : List Keyword} {ta : TE} {t tk : TA} {g : List Value → List Value → List Value} {gV : List V → List V → List V} {pins : List (Addr × Obj)} {σ : L2.St} {H : Hp} {s : Shared} {A : Around}
theorem getmethsm_ok {pl : Sem Bool} {Q : Value × List Value → Shared → Prop} {E : Value → Shared → Prop} (I : L2.Inv X pins σ H s) (r : ClX.CRead X.K C mc) (c : SMet X.K C mc m p f) (h : ∀ s', L2.Inv X pins σ H s' → Q (.ref f, []) s') : wpAny (model X.prog X.w) A (getMethod (.ref C) m pl) Q E s := by
  obtain ⟨rest, hp⟩ := c.rc
  refine PySem.W.method_cls I.kIn r.ga ?_
  refine PySem.W.cls_bind I.kIn r.rd c.at_ ?_
  exact wpAny_call (PySem.W.sm_get (s := { s with toks := s.toks + 1 }) I.kIn hp (PySem.W.handed_on rfl (h _ (I.tok _))))
theorem pe_smeth {pl : Sem Bool} (he : PE X o ta) (r : ClX.CRead X.K C mc) (c : SMet X.K C mc m p f) (F : FnOk X.prog X.w X.K X.mg X.base CX k f fd ps sp) (hr : Room k X.A) (hb : L2.Binds X.K fd ps ds) (hd : L2.Vals dvs ds) (hx : Passes CX X E) (ha : PA X (e :: es) t)
    (hst : starEach (e :: es) X.env = (false, eval e X.env) :: starEach es X.env := by rfl) (hpl : (backTo pos (starEach es X.env)).any (·.1) = false := by rfl)
    (ht : eval (.Call (.Attribute o m apos) (e :: es) [] pos) X.env = (do
      let ov ← eval o X.env
      standAt apos.atName
      let (f, first) ← holding [ov] (getMethod ov m pl)
      callWith pos f first (backTo pos (starEach (e :: es) X.env)) (backToKw pos (keywordEach [] X.env))) := by rfl) :
    PE X (.Call (.Attribute o m apos) (e :: es) [] pos) (tSMeth C sp dvs E ta t) := by
  refine ⟨fun pins s σ H Q I h => ?_⟩
  refine PySem.W.methodCall_KW (pl := pl) (thn (he.run pins s σ H _ I h) fun u s1 ⟨x, H1, I1, rx, ex, q⟩ => ?_) ht
  subst ex
  obtain rfl : u = Value.ref C := rx
  refine getmethsm_ok I1 r c fun s2 I2 => ?_
  refine PySem.W.callWith_K (first := []) (h₀ := X.base) I2.ok.mod.kin c.kp (thn (ha.run pos pins s2 σ H1 _ I2 q) fun us s3 ⟨vs, H2, I3, rr, q2⟩ => ⟨I3.kIn, ?_⟩) hst hpl
  exact run_fn F hr hb hd hx I3 rr q2
theorem pe_smethK0 {pl : Sem Bool} (he : PE X o ta) (r : ClX.CRead X.K C mc) (c : SMet X.K C mc m p f) (F : FnOk X.prog X.w X.K X.mg X.base CX k f fd ps sp) (hr : Room k X.A) (hb : KBn X.K fd ps 0 ks g gV) (hx : Passes CX X E) (hkw : PK X kws tk)
    (hall : (backToKw pos (keywordEach kws X.env)).all (·.1.isSome) = true := by rfl) (hks : (backToKw pos (keywordEach kws X.env)).filterMap (·.1) = ks := by rfl)
    (hpl : ((backTo pos (starEach [] X.env)).any (·.1) || (backToKw pos (keywordEach kws X.env)).any (·.1.isNone)) = false := by rfl)
    (ht : eval (.Call (.Attribute o m apos) [] kws pos) X.env = (do
      let ov ← eval o X.env
      standAt apos.atName
      let (f, first) ← holding [ov] (getMethod ov m pl)
      callWith pos f first (backTo pos (starEach [] X.env)) (backToKw pos (keywordEach kws X.env))) := by rfl) :
    PE X (.Call (.Attribute o m apos) [] kws pos) (tSMethK C ks.length sp gV E ta tk) := by
  refine ⟨fun pins s σ H Q I h => ?_⟩
  refine PySem.W.methodCall_KW (pl := pl) (thn (he.run pins s σ H _ I h) fun u s1 ⟨x, H1, I1, rx, ex, q⟩ => ?_) ht
  subst ex
  obtain rfl : u = Value.ref C := rx
  refine getmethsm_ok I1 r c fun s2 I2 => ?_
  refine PySem.W.callWith_KW0 (first := []) (h₀ := X.base) I2.ok.mod.kin c.kp hall ?_ hpl
  refine thn (hkw.run pos pins s2 σ H1 _ I2 q) fun ws s3 ⟨zs, H2, I3, rz, l1, q2⟩ => ⟨I3.kIn, ?_⟩
  rw [hks]
  exact run_fnN (us := []) (vs := []) F hr hb hx I3 .nil rz rfl l1 q2
/-- def m(text) alone, called by its name -/
theorem Fun.kbn1 {K : PySem.W.Frag} {x qual : Str} {st : Stmt} {p1 : Str} (F : Fun K x qual st f fd)
    (h : ∀ (kV doc pm : Value) (an : Option Addr) (cdv ct w : Value), bindArgs (PySem.W.fnOf x qual (defArgs st) (defBody st) (defScope st) .none kV doc pm an cdv ct) ⟨[], [(p1, w)]⟩ = pure [(p1, w)]) :
    KBn K fd [p1] 0 [p1] (fun us ws => us ++ ws) (fun vs zs => vs ++ zs) := by
  obtain ⟨oc, od, kV, doc, pm, an, cdv, ct, osl, rfl, lk, hcd⟩ := F.ex
  refine ⟨fun s us ws _ l1 l2 => ?_, fun r1 r2 => r1.append r2⟩
  match us, l1, ws, l2 with
  | [], _, [w], _ => exact .of_eq (h kV doc pm an cdv ct w)
end
end Sp
set_option Elab.async false
set_option linter.all false
set_option maxRecDepth 100000
set_option maxHeartbeats 4000000
namespace Dl
open PySem PySem.Spec PyProof.Rows L2 Sp
def top (i : Nat) : Stmt := PySem.Challenge.pw_spansieve_k05_texts_that_are_no_plans.main.body.getD i (.Pass ⟨0, 0, 0, 0⟩)
end Dl
set_option Elab.async false
set_option linter.all false
set_option maxRecDepth 100000
set_option maxHeartbeats 4000000
namespace Dl
open PySem PySem.Spec PyProof.Rows L2 Sp RZ
local macro_rules | `(tactic| walk_at "dd1") => `(tactic| first
  | ((with_reducible refine' w_var ?hv ?hk); (case hv => exact rfl))
  | with_reducible refine w_int ?_
  | with_reducible refine w_str ?_
  | with_reducible refine w_bl ?_
  | with_reducible refine w_non ?_
  | with_reducible refine w_ty ?_
  | with_reducible refine w_raw ?_
  | with_reducible refine w_nil ?_
  | with_reducible refine w_cons ?_
  | with_reducible refine w_cb ?_
  | with_reducible refine w_op ?_
  | with_reducible refine w_un ?_
  | with_reducible refine w_andV ?_
  | with_reducible refine w_orV ?_
  | with_reducible refine w_notV ?_
  | with_reducible refine w_if ?_
  | with_reducible refine w_and ?_
  | with_reducible refine w_or ?_
  | with_reducible refine w_not ?_
  | with_reducible refine w_test ?_
  | with_reducible refine w_tb ?_
  | with_reducible refine w_chain ?_
  | with_reducible refine w_tup ?_
  | with_reducible refine w_lst ?_
  | with_reducible refine w_sl ?_
  | with_reducible refine p_none ?_
  | with_reducible refine p_some ?_
  | with_reducible refine w_call ?_
  | with_reducible refine s_seq ?_
  | with_reducible refine s_nil ?_
  | with_reducible refine s_ret ?_
  | with_reducible refine s_if ?_
  | with_reducible refine s_set ?_
  | with_reducible refine s_drop ?_
  | with_reducible refine s_brk ?_
  | with_reducible refine s_cont ?_
  | with_reducible refine s_asg ?_
  | with_reducible refine o_int ?_
  | with_reducible refine o_cmp ?_
  | with_reducible refine o_ltS ?_
  | with_reducible refine o_leS ?_
  | with_reducible refine o_neg ?_
  | with_reducible refine c_int ?_
  | with_reducible refine c_intB ?_
  | with_reducible refine c_abs ?_
  | with_reducible refine t_yes ?_
  | refine ⟨_, rfl, ?_⟩
  | with_reducible refine ⟨trivial, ?_⟩
  | refine iteT ?_
  | refine iteF ?_)
local macro_rules | `(tactic| walk_at "dd") => `(tactic| repeat (walk_at "dd1"))
/-! ### kinds, of any data -/
theorem ffl {b : Bool} (h : ¬ b = true) : b = false := by simpa using h
def isIntF (d : D) (lo hi : Int) : Bool := match d with
  | .int n => decide (lo ≤ n) && decide (n ≤ hi)
  | _ => false
def g_is_integer_from : GD := fun ds P => ∃ d lo hi, ds = [d, .int lo, .int hi] ∧ Pl d ∧ P (.bl (isIntF d lo hi))
def isNm (z : Str) : Bool := decide (z.length = 1) && (!decide (z.cps.toList < ("A" : Str).cps.toList) && !decide (("Z" : Str).cps.toList < z.cps.toList))
def isNmD (d : D) : Bool := match d with
  | .str z => isNm z
  | _ => false
def Fit (d : D) : Prop := match d with
  | .str z => z.length ≤ sizeLine
  | _ => True
def g_is_name : GD := fun ds P => ∃ d, ds = [d] ∧ Pl d ∧ Fit d ∧ P (.bl (isNmD d))
def ltD : D → D → Bool
  | .int i, .int j => decide (i < j)
  | .str i, .str j => decide (i.cps.toList < j.cps.toList)
  | _, _ => false
def KinD (xs : List D) : Prop := (∃ ns : List Int, xs = ns.map D.int) ∨ ∃ zs : List Str, xs = zs.map D.str
def rising (xs : List D) : Bool := ((xs.zip (xs.drop 1)).map fun p => ltD p.1 p.2).all id
def g_is_rising : GD := fun ds P => ∃ x xs, ds = [x] ∧ (x = .tup xs ∨ x = .lst xs) ∧ xs.length ≤ 100000 ∧ KinD xs ∧ P (.bl (rising xs))
theorem cutD_one (xs : List D) : cutD xs (some 1) none = xs.drop 1 := by
  unfold cutD HT.sIx
  cases xs with
  | nil => rfl
  | cons x xs => simp
theorem kin_at {xs : List D} (k : KinD xs) {i j : Nat} {x y : D} (hx : xs[i]? = some x) (hy : xs[j]? = some y) : (∃ a b, x = .int a ∧ y = .int b) ∨ ∃ a b, x = .str a ∧ y = .str b := by
  rcases k with ⟨ns, rfl⟩ | ⟨zs, rfl⟩
  · rw [List.getElem?_map] at hx hy
    obtain ⟨n, _, rfl⟩ := Option.map_eq_some_iff.mp hx
    obtain ⟨m, _, rfl⟩ := Option.map_eq_some_iff.mp hy
    exact .inl ⟨n, m, rfl, rfl⟩
  · rw [List.getElem?_map] at hx hy
    obtain ⟨n, _, rfl⟩ := Option.map_eq_some_iff.mp hx
    obtain ⟨m, _, rfl⟩ := Option.map_eq_some_iff.mp hy
    exact .inr ⟨n, m, rfl, rfl⟩
/-- < of ints or of texts -/
def rLtV : R2 := fun x y H Q => (∃ i j, x = .int i ∧ y = .int j ∧ Q (.bl (decide (i < j))) H) ∨ ∃ i j, x = .str i ∧ y = .str j ∧ Q (.bl (decide (i.cps.toList < j.cps.toList))) H
theorem op_ltV {X : Cx} : OpR X (compareOp .Lt) rLtV := OpR.imp (op_lt.or op_lt_str) fun x y H Q h => h
theorem o_ltV {C : Cxt} {P : D → Prop} {x y : D} (h : (∃ a b, x = .int a ∧ y = .int b) ∨ ∃ a b, x = .str a ∧ y = .str b) (k : P (.bl (ltD x y))) : OpD C rLtV x y P := fun cs H vx vy g hx hy Q q => by
  rcases h with ⟨a, b, rfl, rfl⟩ | ⟨a, b, rfl, rfl⟩
  · rw [hx.int, hy.int]
    exact .inl ⟨a, b, rfl, rfl, q _ _ H (Same.refl H) (.c (.bl _)) k⟩
  · rw [hx.str, hy.str]
    exact .inr ⟨a, b, rfl, rfl, q _ _ H (Same.refl H) (.c (.bl _)) k⟩
/-- a slice of a list or a tuple -/
theorem u_slLT {C : Cxt} {P : D → Prop} {x : D} {xs : List D} {lo hi : Option Int} (hx : x = .lst xs ∧ P (.lst (cutD xs lo hi)) ∨ x = .tup xs ∧ P (.tup (cutD xs lo hi))) : UnD C (fun v H Q => rSlL C.K v lo hi H Q ∨ rSlA C.K v lo hi H Q) x P := fun cs H v g a Q q => by
  rcases hx with ⟨rfl, k⟩ | ⟨rfl, k⟩
  · exact .inl (u_slL (.inl rfl) k cs H v g a Q q)
  · exact .inr (u_slT k cs H v g a Q q)
section
variable {P : Program} {w : World} {K : PySem.W.Frag} {mg : Str → Option Value} {base : Heap}
abbrev s_is_integer_from : Stmt := top 19
theorem sc_is_integer_from : FnScope ["value", "least", "most"] ["value", "least", "most"] (defScope s_is_integer_from) := ⟨rfl, rfl, rfl, by decide +kernel, rfl, by decide +kernel, by decide +kernel⟩
theorem d_is_integer_from (F : Fd K mg "is_integer_from" s_is_integer_from) (B : Bt mg) : Df P w K mg base "is_integer_from" 1 ["value", "least", "most"] (spF K g_is_integer_from) := by
  refine df_F F sc_is_integer_from (fun _ _ _ _ _ _ us hl => match us, hl with | [_, _, _], _ => rfl) (fun ds P h => ?_) (fun f cdv A outer s H E hr => ⟨_, (pss_one (ps_ret (pe_and (pe_callB call_isB (by rfl) (B _ (by decide)) (by decide +kernel) (pa_cons (pv 0) (pa_cons (pe_bltn (v := .ty "int") (by rfl) (B _ (by decide)) (by decide +kernel) rfl) pa_nil))) (pe_and (pe_not (pe_callB call_isB (by rfl) (B _ (by decide)) (by decide +kernel) (pa_cons (pv 0) (pa_cons (pe_bltn (v := .ty "bool") (by rfl) (B _ (by decide)) (by decide +kernel) rfl) pa_nil)))) (pe_one (pe_chain op_le op_le (pv 1) (pv 0) (pv 2))))))), fun A H0 ds P hc h => ?_⟩)
  · obtain ⟨d, lo, hi, rfl, _⟩ := h
    rfl
  · obtain ⟨d, lo, hi, rfl, pl, k⟩ := h
    walk_at "dd"
    refine c_isT (T := "int") pl (by decide) ?_
    rw [ty_int]
    cases d with
    | int n =>
      walk_at "dd"
      refine c_isT (T := "bool") rfl (by decide) ?_
      rw [ty_bool]
      walk_at "dd"
      refine ite2 (fun c => ?_) (fun c => ?_)
      · walk_at "dd"
        have e : isIntF (.int n) lo hi = decide (n ≤ hi) := by
          show (decide (lo ≤ n) && decide (n ≤ hi)) = _
          rw [c, Bool.true_and]
        rw [e] at k
        exact k
      · have e : isIntF (.int n) lo hi = false := by
          show (decide (lo ≤ n) && decide (n ≤ hi)) = _
          rw [ffl c, Bool.false_and]
        rw [e] at k
        exact k
    | bl b =>
      walk_at "dd"
      refine c_isT (T := "bool") rfl (by decide) ?_
      rw [ty_bool]
      walk_at "dd"
      exact k
    | _ => exact ⟨_, rfl, iteF k⟩
abbrev s_is_name : Stmt := top 20
theorem sc_is_name : FnScope ["value"] ["value"] (defScope s_is_name) := ⟨rfl, rfl, rfl, by decide +kernel, rfl, by decide +kernel, by decide +kernel⟩
theorem d_is_name (F : Fd K mg "is_name" s_is_name) (B : Bt mg) : Df P w K mg base "is_name" 1 ["value"] (spF K g_is_name) := by
  refine df_F F sc_is_name (fun _ _ _ _ _ _ us hl => match us, hl with | [_], _ => rfl) (fun ds P h => ?_) (fun f cdv A outer s H E hr => ⟨_, (pss_one (ps_ret (pe_and (pe_callB call_isB (by rfl) (B _ (by decide)) (by decide +kernel) (pa_cons (pv 0) (pa_cons (pe_bltn (v := .ty "str") (by rfl) (B _ (by decide)) (by decide +kernel) rfl) pa_nil))) (pe_and (pe_cmpR op_eq (pe_callB call_len (by rfl) (B _ (by decide)) PySem.boot_len (pa_cons (pv 0) pa_nil)) pe_int (nomark _)) (pe_one (pe_chain op_le_str op_le_str pe_str (pv 0) pe_str)))))), fun A H0 ds P hc h => ?_⟩)
  · obtain ⟨d, rfl, _⟩ := h
    rfl
  · obtain ⟨d, rfl, pl, ft, k⟩ := h
    walk_at "dd"
    refine c_isT (T := "str") pl (by decide) ?_
    rw [ty_str]
    cases d with
    | str z =>
      walk_at "dd"
      refine c_lenS ft ?_
      walk_at "dd"
      refine o_eq rfl rfl rfl ?_
      rw [dec_int]
      walk_at "dd"
      have e0 : (((z.length : Nat) : Int) == (1 : Int)) = decide (z.length = 1) := by
        by_cases c : z.length = 1 <;> simp [c] <;> omega
      rw [e0]
      change P (.bl (decide (z.length = 1) && (!decide (z.cps.toList < ("A" : Str).cps.toList) && !decide (("Z" : Str).cps.toList < z.cps.toList)))) at k
      refine ite2 (fun c => ?_) (fun c => ?_)
      · rw [c, Bool.true_and] at k
        walk_at "dd"
        refine ite2 (fun c2 => ?_) (fun c2 => ?_)
        · rw [c2, Bool.true_and] at k
          walk_at "dd"
          exact k
        · rw [ffl c2, Bool.false_and] at k
          exact k
      · rw [ffl c, Bool.false_and] at k
        exact k
    | _ => exact ⟨_, rfl, iteF k⟩
abbrev s_is_rising : Stmt := top 21
theorem sc_is_rising : FnScope ["row", "left", "right"] ["row"] (defScope s_is_rising) := ⟨rfl, rfl, rfl, by decide +kernel, rfl, by decide +kernel, by decide +kernel⟩
theorem d_is_rising (F : Fd K mg "is_rising" s_is_rising) (B : Bt mg) : Df P w K mg base "is_rising" 1 ["row"] (spF K g_is_rising) := by
  refine df_F F sc_is_rising (fun _ _ _ _ _ _ us hl => match us, hl with | [_], _ => rfl) (fun ds P h => ?_) (fun f cdv A outer s H E hr => ⟨_, (pss_one (ps_ret (pe_callB (cr_all rfl) (by rfl) (B _ (by decide)) (by decide +kernel) (pa_cons (pe_lc (own := [("left", 1), ("right", 2)]) (g := gTup K 2 (gCons (gName 1) (gCons (gName 2) gNil))) (tt := tYes) rfl sc_is_rising.nd (pi_zipA rfl (B _ (by decide)) (pa_cons (pv 0) (pa_cons (pe_slice (sl_list.or sl_tupA) (pv 0) (po_some pe_int) po_none) pa_nil))) (blkOk_by (N := ["row", "left", "right"]) (sc := defScope s_is_rising) (by decide +kernel)) (fun _ _ _ _ _ => (pg_tup rfl (pgs_cons (pg_name (i := 1) sc_is_rising.nd rfl (Or.inl rfl)) (pgs_cons (pg_name (i := 2) sc_is_rising.nd rfl (Or.inl rfl)) pgs_nil)))) (fun _ _ _ _ _ => pts_nil) (fun _ _ _ _ _ => (pe_cmpR op_ltV (pv 1) (pv 2) (nomark _)))) pa_nil)))), fun A H0 ds P hc h => ?_⟩)
  · obtain ⟨d, xs, rfl, _⟩ := h
    rfl
  · obtain ⟨d, xs, rfl, hx, hl, kx, k⟩ := h
    have core : ∀ (ρ : Rho), WI ⟨K, pureM, A, H0⟩ (iZipA K (tCons (tVar 0) (tCons (tSl (fun v lo hi H Q => rSlL K v lo hi H Q ∨ rSlA K v lo hi H Q) (tVar 0) (tPart (tC (.int 1))) tNoPart) tNil))) (startD ["row", "left", "right"] [d]) fun ds => ds = zipD xs (xs.drop 1) := fun ρ => by
      rcases hx with rfl | rfl
      · refine i_zipT ?_
        walk_at "dd"
        refine u_slLT (.inr ⟨rfl, ?_⟩)
        walk_at "dd"
        refine ⟨_, _, rfl, by rw [cutD_one]⟩
      · refine i_zipL ?_
        walk_at "dd"
        refine u_slLT (.inl ⟨rfl, ?_⟩)
        walk_at "dd"
        refine ⟨_, _, rfl, by rw [cutD_one]⟩
    walk_at "dd"
    refine w_lc (fun cs H σ r Rr q => core [] cs H σ r Rr fun J ds H1 a b c e => q J ds H1 a b c ?_)
    subst e
    refine ⟨by rw [zipD_len]; omega, fun i acc => acc = (((xs.zip (xs.drop 1)).take i).map fun p => D.bl (ltD p.1 p.2)), rfl, fun i d acc hi hc e => ?_, fun acc hl e => ?_⟩
    · obtain ⟨x, y, h1, h2, rfl⟩ := zipD_get hi
      have hk := kin_at kx h1 (by rw [List.getElem?_drop] at h2; exact h2)
      have cl : Clean x ∧ Clean y := by rcases hk with ⟨a, b, rfl, rfl⟩ | ⟨a, b, rfl, rfl⟩ <;> exact ⟨trivial, trivial⟩
      refine gc_tup2 (by decide) cl.1 cl.2 ?_
      walk_at "dd"
      refine o_ltV hk ⟨trivial, ?_⟩
      show acc ++ [_] = _
      rw [e, List.take_add_one, (List.getElem?_zip_eq_some (z := (x, y))).mpr ⟨h1, h2⟩]
      simp
    · walk_at "dd"
      have hz : (zipD xs (xs.drop 1)).length = (xs.zip (xs.drop 1)).length := by simp [zipD]
      rw [hz, List.take_length] at e
      refine c_all (bs := (xs.zip (xs.drop 1)).map fun p => ltD p.1 p.2) (.inl (by rw [e, List.map_map]; rfl)) ?_
      exact k
end
end Dl
set_option Elab.async false
set_option linter.all false
set_option maxRecDepth 100000
set_option maxHeartbeats 4000000
namespace Dl
open PySem PySem.Spec PyProof.Rows L2 Sp RZ
local macro_rules | `(tactic| walk_at "dd1") => `(tactic| first
  | ((with_reducible refine' w_var ?hv ?hk); (case hv => exact rfl))
  | with_reducible refine w_int ?_
  | with_reducible refine w_str ?_
  | with_reducible refine w_bl ?_
  | with_reducible refine w_non ?_
  | with_reducible refine w_ty ?_
  | with_reducible refine w_raw ?_
  | with_reducible refine w_nil ?_
  | with_reducible refine w_cons ?_
  | with_reducible refine w_cb ?_
  | with_reducible refine w_op ?_
  | with_reducible refine w_un ?_
  | with_reducible refine w_andV ?_
  | with_reducible refine w_orV ?_
  | with_reducible refine w_notV ?_
  | with_reducible refine w_if ?_
  | with_reducible refine w_and ?_
  | with_reducible refine w_or ?_
  | with_reducible refine w_not ?_
  | with_reducible refine w_test ?_
  | with_reducible refine w_tb ?_
  | with_reducible refine w_chain ?_
  | with_reducible refine w_tup ?_
  | with_reducible refine w_lst ?_
  | with_reducible refine w_sl ?_
  | with_reducible refine p_none ?_
  | with_reducible refine p_some ?_
  | with_reducible refine w_call ?_
  | with_reducible refine s_seq ?_
  | with_reducible refine s_nil ?_
  | with_reducible refine s_ret ?_
  | with_reducible refine s_if ?_
  | with_reducible refine s_set ?_
  | with_reducible refine s_drop ?_
  | with_reducible refine s_brk ?_
  | with_reducible refine s_cont ?_
  | with_reducible refine s_asg ?_
  | with_reducible refine o_int ?_
  | with_reducible refine o_cmp ?_
  | with_reducible refine o_ltS ?_
  | with_reducible refine o_leS ?_
  | with_reducible refine o_neg ?_
  | with_reducible refine c_int ?_
  | with_reducible refine c_intB ?_
  | with_reducible refine c_abs ?_
  | with_reducible refine t_yes ?_
  | refine ⟨_, rfl, ?_⟩
  | with_reducible refine ⟨trivial, ?_⟩
  | refine iteT ?_
  | refine iteF ?_)
local macro_rules | `(tactic| walk_at "dd") => `(tactic| repeat (walk_at "dd1"))
/-! ### rows, of any data -/
def itemsOf : D → List D
  | .tup ds => ds
  | _ => []
/-- data whose items are data -/
def Pl1 (d : D) : Prop := Pl d ∧ ∀ x ∈ itemsOf d, Pl x
def areTicksF (d : D) (size : Int) : Bool := match d with
  | .tup xs => xs.all (fun x => isIntF x 0 (size - 1)) && rising xs
  | _ => false
def g_are_ticks : GD := fun ds P => ∃ d size, ds = [d, .int size] ∧ Pl1 d ∧ (itemsOf d).length ≤ 100000 ∧ P (.bl (areTicksF d size))
theorem ints_of {xs : List D} {lo hi : Int} (h : xs.all (fun x => isIntF x lo hi) = true) : ∃ ns : List Int, xs = ns.map D.int := by
  induction xs with
  | nil => exact ⟨[], rfl⟩
  | cons x xs ih =>
    rw [List.all_cons, Bool.and_eq_true] at h
    obtain ⟨ns, rfl⟩ := ih h.2
    cases x with
    | int n => exact ⟨n :: ns, rfl⟩
    | _ => exact nomatch h.1
theorem strs_of {xs : List D} (h : xs.all isNmD = true) : ∃ ns : List Str, xs = ns.map D.str := by
  induction xs with
  | nil => exact ⟨[], rfl⟩
  | cons x xs ih =>
    rw [List.all_cons, Bool.and_eq_true] at h
    obtain ⟨ns, rfl⟩ := ih h.2
    cases x with
    | str n => exact ⟨n :: ns, rfl⟩
    | _ => exact nomatch h.1
/-- a pair's name and ticks -/
def fstD : D → D
  | .tup (a :: _) => a
  | _ => .non
def pairOk (size : Int) (d : D) : Bool := match d with
  | .tup [a, b] => isNmD a && areTicksF b size
  | _ => false
def areRowsF (d : D) (size : Int) : Bool := match d with
  | .tup ps => ps.all (pairOk size) && rising (ps.map fstD)
  | _ => false
/-- what a pair may be: data, whose items are data, the second of which has data as items -/
def PlP (d : D) : Prop := Pl1 d ∧ ∀ a b, d = .tup [a, b] → Fit a ∧ Pl1 b ∧ (itemsOf b).length ≤ 100000
def g_are_rows : GD := fun ds P => ∃ d size, ds = [d, .int size] ∧ Pl d ∧ (∀ x ∈ itemsOf d, PlP x ∧ (itemsOf x).length ≤ 100000) ∧ (itemsOf d).length ≤ 100000 ∧ P (.bl (areRowsF d size))
section
variable {P : Program} {w : World} {K : PySem.W.Frag} {mg : Str → Option Value} {base : Heap}
abbrev s_are_ticks : Stmt := top 22
theorem sc_are_ticks : FnScope ["value", "size", "tick"] ["value", "size"] (defScope s_are_ticks) := ⟨rfl, rfl, rfl, by decide +kernel, rfl, by decide +kernel, by decide +kernel⟩
theorem d_are_ticks (F : Fd K mg "are_ticks" s_are_ticks) (B : Bt mg) (D_is_integer_from : Df P w K mg base "is_integer_from" 1 ["value", "least", "most"] (spF K g_is_integer_from)) (D_is_rising : Df P w K mg base "is_rising" 1 ["row"] (spF K g_is_rising)) : Df P w K mg base "are_ticks" 2 ["value", "size"] (spF K g_are_ticks) := by
  refine df_F F sc_are_ticks (fun _ _ _ _ _ _ us hl => match us, hl with | [_, _], _ => rfl) (fun ds P h => ?_) (fun f cdv A outer s H E hr => ⟨_, (pss_cons (ps_if (pt_not (pt_val (pe_callB call_isB (by rfl) (B _ (by decide)) (by decide +kernel) (pa_cons (pv 0) (pa_cons (pe_bltn (v := .ty "tuple") (by rfl) (B _ (by decide)) (by decide +kernel) rfl) pa_nil))))) (pss_one (ps_ret pe_bl)) pss_nil)
    (pss_one (ps_ret (pe_and (pe_callB (cr_all rfl) (by rfl) (B _ (by decide)) (by decide +kernel) (pa_cons (pe_lc (own := [("tick", 2)]) (tt := tYes) rfl sc_are_ticks.nd (pi_tup (pv 0)) (blkOk_by (N := ["value", "size", "tick"]) (sc := defScope s_are_ticks) (by decide +kernel)) (fun _ _ _ _ _ => (pg_name (i := 2) sc_are_ticks.nd rfl (Or.inl rfl))) (fun _ _ _ _ _ => pts_nil) (fun _ _ _ _ _ => (pe_df D_is_integer_from (hr.mono (by decide)) (pa_cons (pv 2) (pa_cons pe_int (pa_cons (pe_op op_sub (pv 1) pe_int) pa_nil)))))) pa_nil)) (pe_one (pe_df D_is_rising (hr.mono (by decide)) (pa_cons (pv 0) pa_nil))))))), fun A H0 ds P hc h => ?_⟩)
  · obtain ⟨d, size, rfl, _⟩ := h
    rfl
  · obtain ⟨d, size, rfl, pl, hl, k⟩ := h
    walk_at "dd"
    refine c_isT (T := "tuple") pl.1 (by decide) ?_
    rw [ty_tup]
    cases d with
    | tup xs =>
      walk_at "dd"
      refine w_lcF ?_
      refine i_tup ?_
      walk_at "dd"
      refine ⟨Nat.lt_of_le_of_lt hl (by decide), fun x => .bl (isIntF x 0 (size - 1)), fun i x hi hx => ?_, ?_⟩
      · refine gc_name hx ?_
        walk_at "dd"
        refine ⟨by intro d hd; simp at hd; rcases hd with rfl | rfl | rfl <;> first | exact hx | trivial, x, 0, size - 1, rfl, pl.2 x (List.mem_of_getElem? hi), rfl, trivial⟩
      · walk_at "dd"
        refine c_all (bs := xs.map fun x => isIntF x 0 (size - 1)) (.inl (by rw [List.map_map]; rfl)) ?_
        walk_at "dd"
        rw [List.all_map]
        have e0 : (xs.all (id ∘ fun x => isIntF x 0 (size - 1))) = xs.all fun x => isIntF x 0 (size - 1) := rfl
        rw [e0]
        change P (.bl (xs.all (fun x => isIntF x 0 (size - 1)) && rising xs)) at k
        refine ite2 (fun c => ?_) (fun c => ?_)
        · rw [c, Bool.true_and] at k
          walk_at "dd"
          exact ⟨by simp [Clean], .tup xs, xs, rfl, .inl rfl, hl, .inl (ints_of c), k⟩
        · rw [ffl c, Bool.false_and] at k
          exact k
    | _ =>
      walk_at "dd"
      exact k
abbrev s_are_rows : Stmt := top 23
theorem sc_are_rows : FnScope ["value", "size", "pair"] ["value", "size"] (defScope s_are_rows) := ⟨rfl, rfl, rfl, by decide +kernel, rfl, by decide +kernel, by decide +kernel⟩
theorem d_are_rows (F : Fd K mg "are_rows" s_are_rows) (B : Bt mg) (D_are_ticks : Df P w K mg base "are_ticks" 2 ["value", "size"] (spF K g_are_ticks)) (D_is_name : Df P w K mg base "is_name" 1 ["value"] (spF K g_is_name)) (D_is_rising : Df P w K mg base "is_rising" 1 ["row"] (spF K g_is_rising)) : Df P w K mg base "are_rows" 3 ["value", "size"] (spF K g_are_rows) := by
  refine df_F F sc_are_rows (fun _ _ _ _ _ _ us hl => match us, hl with | [_, _], _ => rfl) (fun ds P h => ?_) (fun f cdv A outer s H E hr => ⟨_, (pss_cons (ps_if (pt_not (pt_val (pe_callB call_isB (by rfl) (B _ (by decide)) (by decide +kernel) (pa_cons (pv 0) (pa_cons (pe_bltn (v := .ty "tuple") (by rfl) (B _ (by decide)) (by decide +kernel) rfl) pa_nil))))) (pss_one (ps_ret pe_bl)) pss_nil)
    (pss_cons (ps_for PassesOwn.never rfl (pi_tup (pv 0)) (pg_name (i := 2) sc_are_rows.nd rfl (Or.inl rfl))
    (pss_cons (ps_if (PW.pt (pw_or (pt_not (pt_val (pe_callB call_isB (by rfl) (B _ (by decide)) (by decide +kernel) (pa_cons (pv 2) (pa_cons (pe_bltn (v := .ty "tuple") (by rfl) (B _ (by decide)) (by decide +kernel) rfl) pa_nil))))) (pw_or1 (pt_cmpR op_ne (pe_callB call_len (by rfl) (B _ (by decide)) PySem.boot_len (pa_cons (pv 2) pa_nil)) pe_int (nomark _))))) (pss_one (ps_ret pe_bl)) pss_nil)
    (pss_one (ps_if (PW.pt (pw_or (pt_not (pt_val (pe_df D_is_name (hr.mono (by decide)) (pa_cons (pe_ix (ixTK K) (pv 2) pe_int (fun _ _ => rfl)) pa_nil)))) (pw_or1 (pt_not (pt_val (pe_df D_are_ticks (hr.mono (by decide)) (pa_cons (pe_ix (ixTK K) (pv 2) pe_int (fun _ _ => rfl)) (pa_cons (pv 1) pa_nil)))))))) (pss_one (ps_ret pe_bl)) pss_nil))))
    (pss_one (ps_ret (pe_df D_is_rising (hr.mono (by decide)) (pa_cons (pe_lc (own := [("pair", 2)]) (tt := tYes) rfl sc_are_rows.nd (pi_tup (pv 0)) (blkOk_by (N := ["value", "size", "pair"]) (sc := defScope s_are_rows) (by decide +kernel)) (fun _ _ _ _ _ => (pg_name (i := 2) sc_are_rows.nd rfl (Or.inl rfl))) (fun _ _ _ _ _ => pts_nil) (fun _ _ _ _ _ => (pe_ix (ixTK K) (pv 2) pe_int (fun _ _ => rfl)))) pa_nil)))))), fun A H0 ds P hc h => ?_⟩)
  · obtain ⟨d, size, rfl, _⟩ := h
    rfl
  · obtain ⟨d, size, rfl, pl, hp, hl, k⟩ := h
    walk_at "dd"
    refine c_isT (T := "tuple") pl (by decide) ?_
    rw [ty_tup]
    cases d with
    | tup ps =>
      walk_at "dd"
      refine s_for ?_
      refine i_tup ?_
      walk_at "dd"
      refine ⟨fun i ρ => (ps.take i).all (pairOk size) = true ∧ ∃ z, ρ = [some (.tup ps), some (.int size), z], ⟨rfl, _, rfl⟩, ?_, ?_⟩
      · rintro i p ρ hi hc ⟨h1, z, rfl⟩
        obtain ⟨hp1, hp2⟩ := hp p (List.mem_of_getElem? hi)
        have bad : pairOk size p = false → P (.bl false) := fun e => by
          have : areRowsF (.tup ps) size = false := by
            show (ps.all (pairOk size) && _) = false
            rw [Bool.and_eq_false_iff]
            exact .inl (List.all_eq_false.mpr ⟨p, List.mem_of_getElem? hi, by rw [e]; decide⟩)
          rw [this] at k
          exact k
        have good : pairOk size p = true → (ps.take (i + 1)).all (pairOk size) = true := fun e => by
          rw [List.take_add_one, hi, List.all_append, h1]
          simp [e]
        refine g_name hc ?_
        walk_at "dd"
        refine c_isT (T := "tuple") hp1.1.1 (by decide) ?_
        rw [ty_tup]
        cases p with
        | tup xs =>
          walk_at "dd"
          refine c_lenA (.inr rfl) ?_
          walk_at "dd"
          refine o_ne rfl rfl rfl ?_
          rw [dec_int]
          walk_at "dd"
          refine ite2 (fun c => ?_) (fun c => ?_)
          · walk_at "dd"
            refine bad ?_
            have : xs.length ≠ 2 := by
              intro e
              rw [e] at c
              exact nomatch c
            match xs, this with
            | [], _ => rfl
            | [a], _ => rfl
            | [a, b], h => exact (h rfl).elim
            | a :: b :: e :: r, _ => rfl
          · have : xs.length = 2 := by
              have := ffl c
              simp at this
              omega
            match xs, this with
            | [a, b], _ =>
              obtain ⟨fa, pb, lb⟩ := hp1.2 a b rfl
              walk_at "dd"
              refine o_ixT (d := a) rfl fun ca => ?_
              walk_at "dd"
              refine ⟨by simpa using ca, a, rfl, hp1.1.2 a (List.mem_cons_self ..), fa, ?_⟩
              walk_at "dd"
              refine ite2 (fun c => ?_) (fun c => ?_)
              · walk_at "dd"
                refine bad ?_
                show (isNmD a && _) = false
                have e : isNmD a = false := by simpa using c
                rw [e, Bool.false_and]
              · walk_at "dd"
                refine o_ixT (d := b) rfl fun cb => ?_
                walk_at "dd"
                refine ⟨by intro d hd; simp at hd; rcases hd with rfl | rfl <;> first | exact cb | trivial, b, size, rfl, pb, lb, ?_⟩
                walk_at "dd"
                have e : isNmD a = true := by simpa using c
                refine ite2 (fun c2 => ?_) (fun c2 => ?_)
                · walk_at "dd"
                  refine bad ?_
                  show (isNmD a && areTicksF b size) = false
                  have e2 : areTicksF b size = false := by simpa using c2
                  rw [e2, Bool.and_false]
                · walk_at "dd"
                  refine ⟨good ?_, _, rfl⟩
                  show (isNmD a && areTicksF b size) = true
                  have e2 : areTicksF b size = true := by simpa using c2
                  rw [e, e2]
                  rfl
        | _ =>
          walk_at "dd"
          exact bad rfl
      · rintro ρ ⟨h1, z, rfl⟩
        rw [List.take_length] at h1
        have k2 : P (.bl (rising (ps.map fstD))) := by
          have : areRowsF (.tup ps) size = rising (ps.map fstD) := by
            show (ps.all (pairOk size) && _) = _
            rw [h1, Bool.true_and]
          rw [← this]
          exact k
        have sh : ∀ p ∈ ps, ∃ a b, p = .tup [a, b] ∧ isNmD a = true := fun p hp => by
          have z := List.all_eq_true.mp h1 p hp
          unfold pairOk at z
          split at z
          · rename_i a b
            rw [Bool.and_eq_true] at z
            exact ⟨a, b, rfl, z.1⟩
          · cases z
        walk_at "dd"
        refine w_lcF ?_
        refine i_tup ?_
        walk_at "dd"
        refine ⟨Nat.lt_of_le_of_lt hl (by decide), fstD, fun i x hi hx => ?_, ?_⟩
        · obtain ⟨a, b, rfl, _⟩ := sh x (List.mem_of_getElem? hi)
          refine gc_name hx ?_
          walk_at "dd"
          exact o_ixT (d := a) rfl fun ca => ⟨rfl, ca⟩
        · walk_at "dd"
          refine ⟨by simp [Clean], .lst (ps.map fstD), ps.map fstD, rfl, .inr rfl, by rw [List.length_map]; exact hl, .inr (strs_of ?_), k2⟩
          rw [List.all_map, List.all_eq_true]
          intro p hp
          obtain ⟨a, b, rfl, e⟩ := sh p hp
          exact e
    | _ =>
      walk_at "dd"
      exact k
end
end Dl
set_option Elab.async false
set_option linter.all false
set_option maxRecDepth 100000
set_option maxHeartbeats 4000000
namespace Sp
open PySem PySem.Spec PyProof.Rows L2
def top (i : Nat) : Stmt := PySem.Challenge.pw_spansieve_k05_texts_that_are_no_plans.main.body.getD i (.Pass ⟨0, 0, 0, 0⟩)

/-! ### reading a straight piece: rd goes on while one of the usual answers fits -/
local macro_rules | `(tactic| walk_at "rd1") => `(tactic| first
  | refine ⟨_, rfl, ?_⟩
  | refine ⟨_, _, rfl, rfl, (show CMul _ _ from .inl ⟨by first | decide | omega, by first | decide | omega⟩), ?_⟩
  | refine ⟨_, _, rfl, rfl, (show CMul _ _ from .inr ⟨by first | decide | omega, by first | decide | omega⟩), ?_⟩
  | refine ⟨_, _, rfl, rfl, (show CPow _ _ from ⟨by decide, by decide, by decide⟩), ?_⟩
  | refine ⟨_, _, rfl, rfl, (show CDiv _ _ from ⟨by decide, by decide⟩), ?_⟩
  | refine ⟨_, _, rfl, rfl, (show (0 : Int) < _ from by first | decide | omega), ?_⟩
  | refine ⟨_, _, rfl, rfl, ?_⟩
  | refine Or.inl ⟨_, rfl, ?_⟩)
local macro_rules | `(tactic| walk_at "rd") => `(tactic| repeat (walk_at "rd1"))

theorem cut_int {ns : List Int} {lo hi : Option Int} {i : Nat} {x : V} (h : (cutV (ns.map V.int) lo hi)[i]? = some x) : ∃ z, x = V.int z := by
  have h1 : x ∈ cutV (ns.map V.int) lo hi := List.mem_of_getElem? h
  have h2 : x ∈ ns.map V.int := List.mem_of_mem_drop (List.mem_of_mem_take h1)
  obtain ⟨z, _, e⟩ := List.mem_map.mp h2
  exact ⟨z, e.symm⟩

/-! ### the purse -/
/-- at p stands a purse: what is left of the great number, the state, the draws made -/
def Purse (H : Hp) (p : Addr) : Prop := ∃ g s n : Int, H p = some (.lst [.int g, .int s, .int n]) ∧ 0 ≤ g ∧ 0 ≤ s ∧ s < 1000000007

/-- a divisor below 2 ^ 40 is no long one -/
theorem dgp {g m : Int} (hm : m < 2 ^ 40) (h0 : 0 < m := by omega) : Builtin.divisionGoesByPylong g m = false := by
  have h1 : m.natAbs.log2 < 40 := (Nat.log2_lt (by omega)).mpr (by omega)
  have h2 : ¬ (m == 0) = true := by simpa using (show m ≠ 0 by omega)
  show (decide ((if m == 0 then 0 else m.natAbs.log2 / 30 + 1) > 300) && decide ((if g == 0 then 0 else g.natAbs.log2 / 30 + 1) > (if m == 0 then 0 else m.natAbs.log2 / 30 + 1) + 150)) = false
  rw [if_neg h2, decide_eq_false (show ¬ (m.natAbs.log2 / 30 + 1 > 300) by omega), Bool.false_and]
/-- _law_cell(script, at) -/
def spCell (K : PySem.W.Frag) : Sp := fun vs H Q _ => ∃ (l : Addr) (ns : List Int) (j : Nat), vs = [.ref l, .int (j : Int)] ∧ SqL K H l (ns.map V.int) ∧ j < 100 ∧ ns.length ≤ 63 ∧
  ∀ (z : Int) (H' : Hp), Same H H' → Q (.int z) H'
/-- _law_purse(cell) -/
def spPurse : Sp := fun vs H Q _ => ∃ z : Int, vs = [.int z] ∧ ∀ (p : Addr) (H' : Hp), H p = none → Same H H' → Purse H' p → Q (.ref p) H'
/-- _law_roll(purse, many) -/
def spRoll : Sp := fun vs H Q _ => ∃ (p : Addr) (m : Int), vs = [.ref p, .int m] ∧ Purse H p ∧ 0 < m ∧ m < 2 ^ 40 ∧
  ∀ (r : Int) (H' : Hp), 0 ≤ r → r < m → But p H H' → Purse H' p → Q (.int r) H'

structure TxtD (K : PySem.W.Frag) (mg : Str → Option Value) : Prop where
  n_len : mg "len" = none
  n_int : mg "int" = none
  n_abs : mg "abs" = none
  n_divmod : mg "divmod" = none

section
variable {P : Program} {w : World} {K : PySem.W.Frag} {mg : Str → Option Value} {base : Heap}
abbrev s__law_cell : Stmt := top 30
theorem sc_cell : FnScope ["_law_script", "_law_at", "_law_mixed", "_law_cell_here"] ["_law_script", "_law_at"] (defScope s__law_cell) :=
  ⟨rfl, rfl, rfl, by decide +kernel, rfl, by decide +kernel, by decide +kernel⟩
theorem ok_cell {f : Addr} {fd : FuncData} (F : Fun K "_law_cell" "_law_cell" s__law_cell f fd) (T : TxtD K mg) : FnOk P w K mg base CX0 1 f fd ["_law_script", "_law_at"] (spCell K) := by
  refine F.ok sc_cell (fun vs H Q E h => ?_) (fun cdv A outer s H vs Q E hr h => ?_)
  · obtain ⟨l, ns, j, rfl, _⟩ := h
    rfl
  · obtain ⟨l, ns, j, rfl, hS, hj, hn, k⟩ := h
    refine ⟨_, (pss_cons (ps_if (pt_cmpR op_lt (pv 1) (pe_callB call_len_seq (by rfl) T.n_len PySem.boot_len (pa_cons (pv 0) pa_nil)) (nomark _)) (pss_one (ps_ret (pe_ix ix_list (pv 0) (pv 1) (fun _ _ => rfl)))) pss_nil)
    (pss_cons (ps_set (i := 2) sc_cell.nd rfl (Or.inl rfl) (pe_op op_add (pe_op op_add (pe_op op_mul (pe_op op_mul pe_int (pv 1)) (pv 1)) (pe_op op_mul pe_int (pv 1))) pe_int))
    (pss_cons (ps_for PassesOwn.never rfl (pi_list (pe_slice sl_list (pv 0) po_none (po_some pe_int))) (pg_name (i := 3) sc_cell.nd rfl (Or.inl rfl))
    (pss_one (ps_set (i := 2) sc_cell.nd rfl (Or.inl rfl) (pe_op op_mod (pe_callTy call_int1 (by rfl) T.n_int (by decide +kernel) (pa_cons (pe_op op_add (pe_op op_mul (pv 2) pe_int) (pv 3)) pa_nil)) pe_int))))
    (pss_one (ps_ret (pv 2)))))), ?_⟩
    refine ⟨_, rfl, _, rfl, _, _, rfl, .inl hS, _, _, rfl, rfl, _, rfl, ?_⟩
    refine ite2 (fun c => ?_) (fun c => ?_)
    · have hlt : j < ns.length := by
        have z := of_decide_eq_true c
        rw [List.length_map] at z
        omega
      refine ⟨_, rfl, _, rfl, l, _, _, .int ns[j], rfl, rfl, hS, ?_, k _ _ (Same.refl H)⟩
      rw [atI_nat] <;> simp [hlt]
    · walk_at "rd"
      refine ⟨l, _, rfl, hS, fun p hp => ?_⟩
      have s0 : Same H (upd H p (.lst (cutV (ns.map V.int) none (some 3)))) := Same.new (Same.refl H) hp
      refine ⟨p, rfl, ⟨_, SqL.of upd_same⟩, for_list (K := K) (a := p) (xs := cutV (ns.map V.int) none (some 3)) (fun i σ H' => ∃ (m : Int) (v : Option V), -(2 ^ 40) < m ∧ m < 2 ^ 40 ∧ σ = [some (.ref l), some (.int (j : Int)), some (.int m), v] ∧ Same (upd H p (.lst (cutV (ns.map V.int) none (some 3)))) H')
        ⟨_, none, ?_, ?_, rfl, Same.refl _⟩ (fun i σ H' _ ⟨_, _, _, _, _, s5⟩ => s5.seq (SqL.of upd_same)) ?_ ?_⟩
      · have h1 : (0 : Int) ≤ 7741 * (j : Int) * (j : Int) := Int.mul_nonneg (by omega) (by omega)
        show -(2 ^ 40) < 7741 * (j : Int) * (j : Int) + 15013 * (j : Int) + 911
        omega
      · have h1 : 7741 * (j : Int) * (j : Int) ≤ 7741 * 100 * 100 := Int.mul_le_mul (by omega) (by omega) (by omega) (by omega)
        show 7741 * (j : Int) * (j : Int) + 15013 * (j : Int) + 911 < 2 ^ 40
        omega
      · rintro i y σ H' hi ⟨m, v, h1, h2, rfl, s5⟩
        obtain ⟨z, rfl⟩ := cut_int hi
        walk_at "rd"
        have a1 := Int.emod_nonneg (m * 31237 + z) (show (1000000007 : Int) ≠ 0 by decide)
        have a2 := Int.emod_lt_of_pos (m * 31237 + z) (show (0 : Int) < 1000000007 by decide)
        refine ⟨(m * 31237 + z) % 1000000007, some (.int z), by omega, by omega, rfl, s5⟩
      · rintro σ H' ⟨m, v, h1, h2, rfl, s5⟩
        walk_at "rd"
        exact k _ _ (s0.trans s5)
abbrev s__law_purse : Stmt := top 31
theorem sc_purse : FnScope ["_law_cell_here", "_law_great"] ["_law_cell_here"] (defScope s__law_purse) :=
  ⟨rfl, rfl, rfl, by decide +kernel, rfl, by decide +kernel, by decide +kernel⟩
theorem ok_purse {f : Addr} {fd : FuncData} (F : Fun K "_law_purse" "_law_purse" s__law_purse f fd) (T : TxtD K mg) : FnOk P w K mg base CX0 1 f fd ["_law_cell_here"] spPurse := by
  refine F.ok sc_purse (fun vs H Q E h => ?_) (fun cdv A outer s H vs Q E hr h => ?_)
  · obtain ⟨z, rfl, _⟩ := h
    rfl
  · obtain ⟨z, rfl, k⟩ := h
    refine ⟨_, (pss_cons (ps_set (i := 1) sc_purse.nd rfl (Or.inl rfl) (pe_ifExp (PW.pt (pw_or (pt_cmpR op_lt (pv 0) pe_int (nomark _)) (pw_or1 (pt_cmpR op_ge (pv 0) (pe_op op_pow pe_int pe_int) (nomark _))))) (pe_callB call_abs (by rfl) T.n_abs (by decide +kernel) (pa_cons (pv 0) pa_nil)) pe_int))
    (pss_one (ps_ret (pe_lst (pa_cons (pv 1) (pa_cons (pe_op op_mod (pe_callTy call_int1 (by rfl) T.n_int (by decide +kernel) (pa_cons (pe_op op_add (pe_op op_mul (pe_op op_mod (pe_callTy call_int1 (by rfl) T.n_int (by decide +kernel) (pa_cons (pv 0) pa_nil)) pe_int) pe_int) pe_int) pa_nil)) pe_int) (pa_cons pe_int pa_nil))))))), ?_⟩
    have b1 := Int.emod_nonneg z (show (1000000007 : Int) ≠ 0 by decide)
    have b2 := Int.emod_lt_of_pos z (show (0 : Int) < 1000000007 by decide)
    have fin : ∀ g st : Int, 0 ≤ g → (3 ≤ sizeLine ∧ ∀ p : Addr, H p = none → Q (.ref p) (upd H p (.lst [.int g, .int (st % 1000000007), .int 0]))) := fun g st hg =>
      ⟨by decide, fun p hp => k p _ hp (Same.new (Same.refl H) hp) ⟨_, _, _, upd_same, hg, Int.emod_nonneg _ (by decide), Int.emod_lt_of_pos _ (by decide)⟩⟩
    walk_at "rd"
    refine ite2 (fun c => ?_) (fun c => ?_)
    · walk_at "rd"
      refine fin _ _ ?_
      split <;> omega
    · walk_at "rd"
      refine ite2 (fun c => ?_) (fun c => ?_)
      · walk_at "rd"
        refine fin _ _ ?_
        split <;> omega
      · walk_at "rd"
        exact fin _ _ (by decide)
abbrev s__law_roll : Stmt := top 32
theorem sc_roll : FnScope ["_law_purse_here", "_law_many", "_law_state", "_law_digit"] ["_law_purse_here", "_law_many"] (defScope s__law_roll) :=
  ⟨rfl, rfl, rfl, by decide +kernel, rfl, by decide +kernel, by decide +kernel⟩
theorem ok_roll {f : Addr} {fd : FuncData} (F : Fun K "_law_roll" "_law_roll" s__law_roll f fd) (T : TxtD K mg) : FnOk P w K mg base CX0 1 f fd ["_law_purse_here", "_law_many"] spRoll := by
  refine F.ok sc_roll (fun vs H Q E h => ?_) (fun cdv A outer s H vs Q E hr h => ?_)
  · obtain ⟨p, m, rfl, _⟩ := h
    rfl
  · obtain ⟨p, m, rfl, ⟨g, st, n, hp, hg, hs0, hs1⟩, hm0, hm1, k⟩ := h
    refine ⟨_, (pss_cons (ps_asg (pe_op op_add (pe_ix ix_list (pv 0) pe_int (fun _ _ => rfl)) pe_int) (pg_sub (pv 0) pe_int set_list))
    (pss_cons (ps_set (i := 2) sc_roll.nd rfl (Or.inl rfl) (pe_callTy call_int1 (by rfl) T.n_int (by decide +kernel) (pa_cons (pe_ix ix_list (pv 0) pe_int (fun _ _ => rfl)) pa_nil)))
    (pss_cons (ps_asg (pe_op op_mod (pe_callTy call_int1 (by rfl) T.n_int (by decide +kernel) (pa_cons (pe_op op_add (pe_op op_mul (pe_op op_add (pv 2) (pe_ix ix_list (pv 0) pe_int (fun _ _ => rfl))) (pe_op op_add (pe_op op_mod (pe_callTy call_int1 (by rfl) T.n_int (by decide +kernel) (pa_cons (pv 2) pa_nil)) pe_int) pe_int)) pe_int) pa_nil)) pe_int) (pg_sub (pv 0) pe_int set_list))
    (pss_cons (ps_if (pt_cmpR op_gt (pe_ix ix_list (pv 0) pe_int (fun _ _ => rfl)) pe_int (nomark _)) (pss_cons (ps_asg (pe_callB call_divmodW (by rfl) T.n_divmod (by decide +kernel) (pa_cons (pe_ix ix_list (pv 0) pe_int (fun _ _ => rfl)) (pa_cons (pv 1) pa_nil))) (pg_tup rfl (pgs_cons (pg_sub (pv 0) pe_int set_list) (pgs_cons (pg_name (i := 3) sc_roll.nd rfl (Or.inl rfl)) pgs_nil))))
    (pss_one (ps_ret (pv 3)))) pss_nil)
    (pss_one (ps_ret (pe_op op_mod (pe_callTy call_int1 (by rfl) T.n_int (by decide +kernel) (pa_cons (pe_op op_fdiv (pe_ix ix_list (pv 0) pe_int (fun _ _ => rfl)) pe_int) pa_nil)) (pv 1)))))))), ?_⟩
    walk_at "rd"
    refine ⟨p, _, _, _, rfl, rfl, SqL.of hp, rfl, ?_⟩
    walk_at "rd"
    refine ⟨p, _, _, _, rfl, rfl, hp, rfl, ?_⟩
    walk_at "rd"
    refine ⟨p, _, _, _, rfl, rfl, SqL.of upd_same, rfl, ?_⟩
    walk_at "rd"
    refine ⟨p, _, _, _, rfl, rfl, SqL.of upd_same, rfl, ?_⟩
    have b1 := Int.emod_nonneg st (show (46337 : Int) ≠ 0 by decide)
    have b2 := Int.emod_lt_of_pos st (show (0 : Int) < 46337 by decide)
    walk_at "rd"
    refine ⟨p, _, _, _, rfl, rfl, upd_same, rfl, ?_⟩
    have c1 := Int.emod_nonneg ((st + (n + 1)) * (st % 46337 + 30011) + 90001) (show (1000000007 : Int) ≠ 0 by decide)
    have c2 := Int.emod_lt_of_pos ((st + (n + 1)) * (st % 46337 + 30011) + 90001) (show (0 : Int) < 1000000007 by decide)
    walk_at "rd"
    refine ⟨p, _, _, _, rfl, rfl, SqL.of upd_same, rfl, ?_⟩
    walk_at "rd"
    refine ite2 (fun c => ?_) (fun c => ?_)
    · walk_at "rd"
      refine ⟨p, _, _, _, rfl, rfl, SqL.of upd_same, rfl, ?_⟩
      walk_at "rd"
      refine ⟨_, _, rfl, ⟨hm0, dgp hm1⟩, fun q hq => ?_⟩
      have nq : p ≠ q := ne_of_none upd_same hq
      refine ⟨q, _, rfl, SqT.of upd_same, rfl, _, _, rfl, ?_⟩
      walk_at "rd"
      refine ⟨p, _, _, _, rfl, rfl, by rw [upd_ne nq]; exact upd_same, rfl, ?_⟩
      refine ⟨_, _, rfl, ?_⟩
      refine ⟨rfl, ?_⟩
      walk_at "rd"
      refine k (g % m) _ (Int.emod_nonneg _ (by omega)) (Int.emod_lt_of_pos _ hm0) ?_ ?_
      · exact ((But.refl p H).put.put.new hq).put
      · exact ⟨g / m, _, n + 1, upd_same, Int.ediv_nonneg hg (by omega), c1, c2⟩
    · walk_at "rd"
      refine ⟨p, _, _, _, rfl, rfl, SqL.of upd_same, rfl, ?_⟩
      walk_at "rd"
      exact k _ _ (Int.emod_nonneg _ (by omega)) (Int.emod_lt_of_pos _ hm0) (((But.refl p H).put.put)) ⟨_, _, _, upd_same, hg, c1, c2⟩
end
end Sp
set_option Elab.async false
set_option linter.all false
set_option maxRecDepth 100000
set_option maxHeartbeats 4000000
namespace Sp
open PySem PySem.Spec PyProof.Rows L2 RZ
/-! ### kinds -/
theorem tyX_tup {K : PySem.W.Frag} {H : Hp} {a : Addr} {xs : List V} (h : SqT K H a xs) : TyX K H (.ref a) (.type "tuple") := by
  rcases h with h | ⟨o, its, n, hk, hc, _⟩
  · rcases h with h | ⟨o, h⟩
    · exact .base (.tup h)
    · exact .fTuple h
  · exact .kTuple hk hc
/-- isinstance(x, T), T built in -/
def rIsB (K : PySem.W.Frag) : List V → Hp → VK → Prop := fun xs H Q => ∃ (x : V) (t T : String) (b : Bool), xs = [x, .ty T] ∧ TyX K H x (.type t) ∧ kitB t T = some b ∧ Q (.bl b) H
theorem call_isB {X : Cx} : CallR X (.builtin "isinstance") (rIsB X.K) := CallR.imp call_isi fun xs H Q h => by
  obtain ⟨x, t, T, b, rfl, ty, k, q⟩ := h
  exact ⟨x, .ty T, .type t, .type T, b, rfl, .ty T, ty, kit_ty k, q⟩
theorem kb_ii : kitB "int" "int" = some true := by decide +kernel
theorem kb_ib : kitB "int" "bool" = some false := by decide +kernel
theorem kb_bi : kitB "bool" "int" = some true := by decide +kernel
theorem kb_bb : kitB "bool" "bool" = some true := by decide +kernel
theorem kb_ss : kitB "str" "str" = some true := by decide +kernel
theorem kb_tt : kitB "tuple" "tuple" = some true := by decide +kernel
/-- is_integer_from(value, least, most) -/
def spInt (K : PySem.W.Frag) : Sp := fun vs H Q _ => ∃ (x : V) (lo hi : Int), vs = [x, .int lo, .int hi] ∧
  ((∃ n, x = .int n ∧ Q (.bl (decide (lo ≤ n) && decide (n ≤ hi))) H) ∨ (∃ b, x = .bl b ∧ Q (.bl false) H) ∨ ∃ t, TyX K H x (.type t) ∧ kitB t "int" = some false ∧ Q (.bl false) H)
def isNm (z : Str) : Bool := decide (z.length = 1) && (!decide (z.cps.toList < ("A" : Str).cps.toList) && !decide (("Z" : Str).cps.toList < z.cps.toList))
/-- is_name(value) -/
def spName (K : PySem.W.Frag) : Sp := fun vs H Q _ => ∃ x : V, vs = [x] ∧ ((∃ z, x = .str z ∧ z.length ≤ sizeLine ∧ Q (.bl (isNm z)) H) ∨ ∃ t, TyX K H x (.type t) ∧ kitB t "str" = some false ∧ Q (.bl false) H)
/-- one value below another of its kind -/
def LtV : V → V → Bool
  | .int i, .int j => decide (i < j)
  | .str i, .str j => decide (i.cps.toList < j.cps.toList)
  | _, _ => false
def Kin (xs : List V) : Prop := (∃ ns : List Int, xs = ns.map V.int) ∨ ∃ zs : List Str, xs = zs.map V.str
def upV (xs : List V) : List Bool := (xs.zip (xs.drop 1)).map fun p => LtV p.1 p.2
/-- is_rising(row) -/
def spRising (K : PySem.W.Frag) : Sp := fun vs H Q _ => ∃ (a : Addr) (xs : List V), vs = [.ref a] ∧ (SqT K H a xs ∨ SqL K H a xs) ∧ xs.length ≤ sizeLine ∧ Kin xs ∧ ∀ H', Same H H' → Q (.bl ((upV xs).all id)) H'
structure TxtB (K : PySem.W.Frag) (mg : Str → Option Value) : Prop where
  n_isinstance : mg "isinstance" = none
  n_int : mg "int" = none
  n_bool : mg "bool" = none
  n_str : mg "str" = none
  n_tuple : mg "tuple" = none
  n_len : mg "len" = none
  n_all : mg "all" = none
  n_zip : mg "zip" = none
  n_range : mg "range" = none
theorem op_ltV {X : Cx} : OpR X (compareOp .Lt) (fun x y H Q => Kin [x, y] ∧ Q (.bl (LtV x y)) H) := OpR.imp (op_lt.or op_lt_str) fun x y H Q h => by
  obtain ⟨k, q⟩ := h
  rcases k with ⟨ns, e⟩ | ⟨zs, e⟩
  · match ns, e with
    | [i, j], e =>
      simp only [List.map_cons, List.map_nil, List.cons.injEq, and_true] at e
      obtain ⟨rfl, rfl⟩ := e
      exact .inl ⟨i, j, rfl, rfl, q⟩
    | [], e => cases e
    | [i], e => simp at e
    | i :: j :: l :: r, e => simp at e
  · match zs, e with
    | [i, j], e =>
      simp only [List.map_cons, List.map_nil, List.cons.injEq, and_true] at e
      obtain ⟨rfl, rfl⟩ := e
      exact .inr ⟨i, j, rfl, rfl, q⟩
    | [], e => cases e
    | [i], e => simp at e
    | i :: j :: l :: r, e => simp at e
theorem walk_zipT {K : PySem.W.Frag} {a b : Addr} {xs ys : List V} {n : Nat} (hn : n = min xs.length ys.length) : Walk (ItzT K a b) n (fun H => SqT K H a xs ∧ SqT K H b ys) (YPair (fun i => xs[i]?) (fun i => ys[i]?)) := by
  subst hn
  refine ⟨fun i _ hi q => ?_, fun _ q => ⟨xs, ys, q.1, q.2, by omega⟩, fun i H v H' _ q y => ?_⟩
  · have h1 : i < xs.length := by omega
    have h2 : i < ys.length := by omega
    refine ⟨xs, ys, xs[i], ys[i], q.1, q.2, ?_, ?_⟩ <;> simp [h1, h2]
  · obtain ⟨T, x, z, h1, h2, h3, h4, h5⟩ := y
    exact ⟨T, x, z, h1, h2, h3, h4 xs q.1, h5 ys q.2⟩
theorem kin_two {xs : List V} (k : Kin xs) {i j : Nat} {x y : V} (hx : xs[i]? = some x) (hy : xs[j]? = some y) : Kin [x, y] := by
  rcases k with ⟨ns, rfl⟩ | ⟨zs, rfl⟩
  · rw [List.getElem?_map] at hx hy
    obtain ⟨n, _, rfl⟩ := Option.map_eq_some_iff.mp hx
    obtain ⟨m, _, rfl⟩ := Option.map_eq_some_iff.mp hy
    exact .inl ⟨[n, m], rfl⟩
  · rw [List.getElem?_map] at hx hy
    obtain ⟨n, _, rfl⟩ := Option.map_eq_some_iff.mp hx
    obtain ⟨m, _, rfl⟩ := Option.map_eq_some_iff.mp hy
    exact .inr ⟨[n, m], rfl⟩
theorem cut_one (xs : List V) : cutV xs (some 1) none = xs.drop 1 := by
  unfold cutV HT.sIx
  cases xs with
  | nil => rfl
  | cons x xs =>
    simp
theorem upV_len (xs : List V) : (upV xs).length = xs.length - 1 := by
  simp only [upV, List.length_map, List.length_zip, List.length_drop]
  omega
theorem upV_at {xs : List V} {i : Nat} {x y : V} (hx : xs[i]? = some x) (hy : (xs.drop 1)[i]? = some y) : (upV xs)[i]? = some (LtV x y) := by
  unfold upV
  rw [List.getElem?_map, (List.getElem?_zip_eq_some (z := (x, y))).mpr ⟨hx, hy⟩]
  rfl
theorem cut_whole {xs : List V} {lo hi : Option Int} (h : HT.sIx xs.length 0 lo = 0 ∧ HT.sIx xs.length xs.length hi = xs.length) : cutV xs lo hi = xs := by
  unfold cutV
  rw [h.1, h.2]
  simp
/-- a slice of a list or of a tuple -/
def rCut (K : PySem.W.Frag) : V → Option Int → Option Int → Hp → VK → Prop := fun x lo hi H Q => ∃ a xs, x = .ref a ∧
  ((SqL K H a xs ∧ ∀ b H', Same H H' → SqL K H' b (cutV xs lo hi) → Q (.ref b) H') ∨ (SqT K H a xs ∧ ∀ b H', Same H H' → SqT K H' b (cutV xs lo hi) → Q (.ref b) H'))
theorem sl_cut {X : Cx} : L2.SlR X (rCut X.K) := fun pins s σ H x v vl vu lo hi sl Q I rx hs pl pu h => by
  obtain ⟨a, xs, rfl, h⟩ := h
  rcases h with ⟨h1, q⟩ | ⟨h1, q⟩
  · exact sl_list pins s σ H _ v vl vu lo hi sl Q I rx hs pl pu ⟨a, xs, rfl, h1, fun p n => q p _ (Same.new (Same.refl H) n) (SqL.of upd_same)⟩
  · exact sl_tupA pins s σ H _ v vl vu lo hi sl Q I rx hs pl pu ⟨a, xs, rfl, h1, fun w => q a H (Same.refl H) (by rw [cut_whole w]; exact h1), fun _ p n => q p _ (Same.new (Same.refl H) n) (SqT.of upd_same)⟩
theorem rise_core {K : PySem.W.Frag} {J : It} {n : Nat} {G : Hp → Prop} {xs : List V} {H1 : Hp} {D : Addr} {Qd : Hp → Prop} {σ : L2.St} (w : Walk J n G (YPair (fun i => xs[i]?) (fun i => (xs.drop 1)[i]?))) (hn : n = xs.length - 1) (hz : xs.length ≤ sizeLine) (kx : Kin xs)
    (hD : H1 D = none) (hG : ∀ H', Same H1 H' → G H') (hd : ∀ H', Same H1 H' → H' D = some (.lst ((upV xs).map V.bl)) → Qd H') (hl : 2 < σ.length) :
    ∃ W : Nat → Nat → Hp → Prop, (∃ m, W 0 m (upd H1 D (.lst []))) ∧ ∀ i m H, W i m H →
      (J.stop i H ∧ Qd H) ∨ (J.go i H ∧ ∃ Nx : Hp → Prop, (∀ H', Nx H' → ∃ m', m' < m ∧ W (i + 1) m' H') ∧ ∀ x H', J.yld i H x H' → (gTup K 2 (gCons (gName 1) (gCons (gName 2) gNil))) x (wipe σ [1, 2]) H' fun σ2 H2 => wipe σ2 [1, 2] = wipe σ [1, 2] ∧ tYes σ2 H2 fun b H3 =>
        if b = true then (tOp (fun x y H Q => Kin [x, y] ∧ Q (V.bl (LtV x y)) H) (tVar 1) (tVar 2)) σ2 H3 fun y H4 => ∃ acc, H4 D = some (.lst acc) ∧ acc.length < sizeLine ∧ Nx (upd H4 D (.lst (acc ++ [y]))) else Nx H3) := by
  have hu := upV_len xs
  refine lc_it w (fun i H' => Same H1 H' ∧ H' D = some (.lst (((upV xs).take i).map V.bl))) ⟨Same.new (Same.refl H1) hD, upd_same⟩ (fun i H' _ hh => hG H' hh.1) (fun i x H' H2 hi hh y => ?_) (fun H' hh => hd H' hh.1 (by rw [hh.2, hn, ← hu, List.take_length]))
  obtain ⟨s1, d1⟩ := hh
  obtain ⟨T, x1, y1, rfl, hT, rfl, hx, hy⟩ := y
  have hDT : D ≠ T := ne_of_none d1 hT
  refine ⟨T, [x1, y1], rfl, SqT.of upd_same, rfl, x1, [y1], rfl, y1, [], rfl, rfl, ?_, ?_⟩
  · rcases σ with _ | ⟨a, _ | ⟨b, _ | ⟨c, σ⟩⟩⟩ <;> simp at hl
    rfl
  unfold tYes
  simp only [↓reduceIte]
  have hy2 : xs[i + 1]? = some y1 := by
    have := hy
    simp only [List.getElem?_drop] at this
    rw [Nat.add_comm]
    exact this
  rcases σ with _ | ⟨a, _ | ⟨b, _ | ⟨c, σ⟩⟩⟩ <;> simp at hl
  refine ⟨_, rfl, _, rfl, kin_two kx hx hy2, _, (by rw [upd_ne hDT]; exact d1), ?_, Same.put (Same.new s1 hT) hD, ?_⟩
  · rw [List.length_map, List.length_take]
    omega
  · rw [upd_same, List.take_add_one, upV_at hx hy]
    simp
section
variable {P : Program} {w : World} {K : PySem.W.Frag} {mg : Str → Option Value} {base : Heap}
abbrev s_is_integer_from : Stmt := top 19
theorem sc_int : FnScope ["value", "least", "most"] ["value", "least", "most"] (defScope s_is_integer_from) := ⟨rfl, rfl, rfl, by decide +kernel, rfl, by decide +kernel, by decide +kernel⟩
theorem ok_int {f : Addr} {fd : FuncData} (F : Fun K "is_integer_from" "is_integer_from" s_is_integer_from f fd) (T : TxtB K mg) : FnOk P w K mg base CX0 1 f fd ["value", "least", "most"] (spInt K) := by
  refine F.ok sc_int (fun vs H Q E h => ?_) (fun cdv A outer s H vs Q E hr h => ?_)
  · obtain ⟨x, lo, hi, rfl, _⟩ := h
    rfl
  · obtain ⟨x, lo, hi, rfl, h⟩ := h
    refine ⟨_, (pss_one (ps_ret (pe_and (pe_callB call_isB (by rfl) T.n_isinstance (by decide +kernel) (pa_cons (pv 0) (pa_cons (pe_bltn (v := .ty "int") (by rfl) T.n_int (by decide +kernel) rfl) pa_nil))) (pe_and (pe_not (pe_callB call_isB (by rfl) T.n_isinstance (by decide +kernel) (pa_cons (pv 0) (pa_cons (pe_bltn (v := .ty "bool") (by rfl) T.n_bool (by decide +kernel) rfl) pa_nil)))) (pe_one (pe_chain op_le op_le (pv 1) (pv 0) (pv 2))))))), ?_⟩
    rcases h with ⟨n, rfl, q⟩ | ⟨b, rfl, q⟩ | ⟨t, ty, kt, q⟩
    · refine ⟨_, rfl, .int n, "int", "int", true, rfl, .base (.int n), kb_ii, _, rfl, ?_⟩
      refine ⟨_, rfl, .int n, "int", "bool", false, rfl, .base (.int n), kb_ib, _, rfl, ?_⟩
      refine ⟨_, rfl, ?_⟩
      refine ⟨_, rfl, _, rfl, _, _, rfl, rfl, _, rfl, ?_⟩
      by_cases c : lo ≤ n
      · rw [if_pos (decide_eq_true c)]
        rw [decide_eq_true c, Bool.true_and] at q
        exact ⟨_, rfl, _, _, rfl, rfl, q⟩
      · rw [if_neg (by simpa using c)]
        rw [decide_eq_false c, Bool.false_and] at q
        exact q
    · refine ⟨_, rfl, .bl b, "bool", "int", true, rfl, .base (.bl b), kb_bi, _, rfl, ?_⟩
      refine ⟨_, rfl, .bl b, "bool", "bool", true, rfl, .base (.bl b), kb_bb, _, rfl, ?_⟩
      exact ⟨_, rfl, q⟩
    · exact ⟨_, rfl, x, t, "int", false, rfl, ty, kt, _, rfl, q⟩
abbrev s_is_name : Stmt := top 20
theorem sc_name : FnScope ["value"] ["value"] (defScope s_is_name) := ⟨rfl, rfl, rfl, by decide +kernel, rfl, by decide +kernel, by decide +kernel⟩
theorem ok_name {f : Addr} {fd : FuncData} (F : Fun K "is_name" "is_name" s_is_name f fd) (T : TxtB K mg) : FnOk P w K mg base CX0 1 f fd ["value"] (spName K) := by
  refine F.ok sc_name (fun vs H Q E h => ?_) (fun cdv A outer s H vs Q E hr h => ?_)
  · obtain ⟨x, rfl, _⟩ := h
    rfl
  · obtain ⟨x, rfl, h⟩ := h
    refine ⟨_, (pss_one (ps_ret (pe_and (pe_callB call_isB (by rfl) T.n_isinstance (by decide +kernel) (pa_cons (pv 0) (pa_cons (pe_bltn (v := .ty "str") (by rfl) T.n_str (by decide +kernel) rfl) pa_nil))) (pe_and (pe_cmpR op_eq (pe_callB call_len_str (by rfl) T.n_len PySem.boot_len (pa_cons (pv 0) pa_nil)) pe_int (nomark _)) (pe_one (pe_chain op_le_str op_le_str pe_str (pv 0) pe_str)))))), ?_⟩
    rcases h with ⟨z, rfl, hz, q⟩ | ⟨t, ty, kt, q⟩
    · refine ⟨_, rfl, .str z, "str", "str", true, rfl, .base (.str z), kb_ss, _, rfl, ?_⟩
      refine ⟨_, rfl, z, rfl, hz, rfl, _, rfl, ?_⟩
      unfold isNm at q
      rw [dec_int]
      by_cases c : z.length = 1
      · have e1 : (((z.length : Nat) : Int) == (1 : Int)) = true := by simp [c]
        rw [if_pos e1]
        rw [decide_eq_true c, Bool.true_and] at q
        refine ⟨_, rfl, _, _, rfl, rfl, _, rfl, ?_⟩
        by_cases d : z.cps.toList < ("A" : Str).cps.toList
        · rw [decide_eq_true d] at q
          rw [if_neg (by rw [decide_eq_true d]; decide)]
          exact q
        · rw [decide_eq_false d] at q
          rw [if_pos (by rw [decide_eq_false d]; rfl)]
          exact ⟨_, _, rfl, rfl, q⟩
      · have e1 : (((z.length : Nat) : Int) == (1 : Int)) = false := beq_eq_false_iff_ne.mpr (by omega)
        rw [decide_eq_false c, Bool.false_and] at q
        rw [if_neg (by rw [e1]; decide)]
        exact q
    · exact ⟨_, rfl, x, t, "str", false, rfl, ty, kt, _, rfl, q⟩
abbrev s_is_rising : Stmt := top 21
theorem sc_rising : FnScope ["row", "left", "right"] ["row"] (defScope s_is_rising) := ⟨rfl, rfl, rfl, by decide +kernel, rfl, by decide +kernel, by decide +kernel⟩
theorem ok_rising {f : Addr} {fd : FuncData} (F : Fun K "is_rising" "is_rising" s_is_rising f fd) (T : TxtB K mg) : FnOk P w K mg base CX0 1 f fd ["row"] (spRising K) := by
  refine F.ok sc_rising (fun vs H Q E h => ?_) (fun cdv A outer s H vs Q E hr h => ?_)
  · obtain ⟨a, xs, rfl, _⟩ := h
    rfl
  · obtain ⟨a, xs, rfl, hx, hz, kx, k⟩ := h
    refine ⟨_, (pss_one (ps_ret (pe_callB (cr_all rfl) (by rfl) T.n_all (by decide +kernel) (pa_cons (pe_lc (own := [("left", 1), ("right", 2)]) (g := gTup K 2 (gCons (gName 1) (gCons (gName 2) gNil))) (tt := tYes) rfl sc_rising.nd (pi_zipA rfl T.n_zip (pa_cons (pv 0) (pa_cons (pe_slice sl_cut (pv 0) (po_some pe_int) po_none) pa_nil))) (blkOk_by (N := ["row", "left", "right"]) (sc := defScope s_is_rising) (by decide +kernel)) (fun _ _ _ _ _ => (pg_tup rfl (pgs_cons (pg_name (i := 1) sc_rising.nd rfl (Or.inl rfl)) (pgs_cons (pg_name (i := 2) sc_rising.nd rfl (Or.inl rfl)) pgs_nil)))) (fun _ _ _ _ _ => pts_nil) (fun _ _ _ _ _ => (pe_cmpR op_ltV (pv 1) (pv 2) (nomark _)))) pa_nil)))), ?_⟩
    refine ⟨_, rfl, _, rfl, 1, rfl, a, xs, rfl, ?_⟩
    rcases hx with hx | hx
    · refine .inr ⟨hx, fun b H1 s1 hb => ?_⟩
      refine ⟨a, b, xs, _, rfl, .inr ⟨Same.tup s1 hx, hb, fun D hD => ?_⟩⟩
      rw [cut_one] at hb
      refine rise_core (walk_zipT (n := xs.length - 1) (by rw [List.length_drop]; omega)) rfl hz kx hD (fun H' s2 => ⟨Same.tup (s1.trans s2) hx, Same.tup s2 hb⟩) (fun H2 s2 d2 => ?_) (by show 2 < 3; decide)
      exact ⟨D, _, rfl, SqL.of d2, k H2 (s1.trans s2)⟩
    · refine .inl ⟨hx, fun b H1 s1 hb => ?_⟩
      refine ⟨a, b, xs, _, rfl, .inl ⟨s1.seq hx, hb, fun D hD => ?_⟩⟩
      rw [cut_one] at hb
      refine rise_core (walk_zip (n := xs.length - 1) (by rw [List.length_drop]; omega)) rfl hz kx hD (fun H' s2 => ⟨(s1.trans s2).seq hx, s2.seq hb⟩) (fun H2 s2 d2 => ?_) (by show 2 < 3; decide)
      exact ⟨D, _, rfl, SqL.of d2, k H2 (s1.trans s2)⟩
end
end Sp
set_option Elab.async false
set_option linter.all false
set_option maxRecDepth 100000
set_option maxHeartbeats 4000000
namespace Sp
open PySem PySem.Spec PyProof.Rows L2 RZ
/-! ### rows of a plan -/
abbrev Row := Str × List Int
def ticksD (ns : List Int) : PyData := .tuple (ns.map PyData.int)
def rowD (r : Row) : PyData := .tuple [.str r.1, ticksD r.2]
def rowsD (rows : List Row) : PyData := .tuple (rows.map rowD)
mutual
theorem Dp.same {K : PySem.W.Frag} {H H' : Hp} (s : Same H H') : ∀ {v : V} {d : PyData}, Dp K H v d → Dp K H' v d
  | _, _, .non => .non
  | _, _, .bl b => .bl b
  | _, _, .int i => .int i
  | _, _, .str x => .str x
  | _, _, .lst h hs => .lst (s.seq h) (DpAll.same s hs)
  | _, _, .tup h hs => .tup (Same.tup s h) (DpAll.same s hs)
theorem DpAll.same {K : PySem.W.Frag} {H H' : Hp} (s : Same H H') : ∀ {vs : List V} {ds : List PyData}, DpAll K H vs ds → DpAll K H' vs ds
  | _, _, .nil => .nil
  | _, _, .cons a b => .cons (Dp.same s a) (DpAll.same s b)
end
theorem dpInts {K : PySem.W.Frag} {H : Hp} : ∀ {ns : List Int} {xs : List V}, DpAll K H xs (ns.map PyData.int) → xs = ns.map V.int
  | [], xs, h => by
    cases h
    rfl
  | n :: ns, xs, h => by
    cases h with
    | cons h1 h2 =>
      cases h1
      rw [dpInts h2]
      rfl
theorem Dp.tupI {K : PySem.W.Frag} {H : Hp} {v : V} {ds : List PyData} (h : Dp K H v (.tuple ds)) : ∃ a xs, v = .ref a ∧ SqT K H a xs ∧ DpAll K H xs ds := by
  cases h with
  | tup h1 h2 => exact ⟨_, _, rfl, h1, h2⟩
theorem Dp.ticksI {K : PySem.W.Frag} {H : Hp} {v : V} {ns : List Int} (h : Dp K H v (ticksD ns)) : ∃ a, v = .ref a ∧ SqT K H a (ns.map V.int) := by
  obtain ⟨a, xs, rfl, h1, h2⟩ := Dp.tupI h
  rw [dpInts h2] at h1
  exact ⟨a, rfl, h1⟩
theorem Dp.rowI {K : PySem.W.Frag} {H : Hp} {v : V} {r : Row} (h : Dp K H v (rowD r)) : ∃ a x, v = .ref a ∧ SqT K H a [.str r.1, x] ∧ Dp K H x (ticksD r.2) := by
  obtain ⟨a, xs, rfl, h1, h2⟩ := Dp.tupI h
  cases h2 with
  | cons h3 h4 =>
    cases h3
    cases h4 with
    | cons h5 h6 =>
      cases h6
      exact ⟨a, _, rfl, h1, h5⟩
theorem DpAll.rowsI {K : PySem.W.Frag} {H : Hp} : ∀ {rows : List Row} {xs : List V}, DpAll K H xs (rows.map rowD) → xs.length = rows.length ∧ ∀ (i : Nat) (x : V), xs[i]? = some x → ∃ r, rows[i]? = some r ∧ Dp K H x (rowD r)
  | [], xs, h => by
    cases h
    exact ⟨rfl, fun i x e => by simp at e⟩
  | r :: rows, xs, h => by
    cases h with
    | cons h1 h2 =>
      obtain ⟨l, f⟩ := DpAll.rowsI h2
      refine ⟨by simp [l], fun i x e => ?_⟩
      cases i with
      | zero =>
        simp at e
        subst e
        exact ⟨r, rfl, h1⟩
      | succ i =>
        simp at e
        obtain ⟨r2, e2, d2⟩ := f i x e
        exact ⟨r2, by simpa using e2, d2⟩
theorem Dp.rowsI {K : PySem.W.Frag} {H : Hp} {v : V} {rows : List Row} (h : Dp K H v (rowsD rows)) : ∃ a xs, v = .ref a ∧ SqT K H a xs ∧ xs.length = rows.length ∧ ∀ (i : Nat) (x : V), xs[i]? = some x → ∃ r, rows[i]? = some r ∧ Dp K H x (rowD r) := by
  obtain ⟨a, xs, rfl, h1, h2⟩ := Dp.tupI h
  exact ⟨a, xs, rfl, h1, DpAll.rowsI h2⟩
def okTick (size n : Int) : Bool := decide (0 ≤ n) && decide (n ≤ size - 1)
def upR (ns : List Int) : Bool := (upV (ns.map V.int)).all id
structure Ticks (size : Int) (ns : List Int) : Prop where
  ok : ∀ n ∈ ns, okTick size n = true
  up : upR ns = true
  fit : ns.length ≤ 10000
/-- rows of a plan of so many ticks -/
structure Rows (size : Int) (rows : List Row) : Prop where
  nm : ∀ r ∈ rows, isNm r.1 = true
  ticks : ∀ r ∈ rows, Ticks size r.2
  up : (upV (rows.map fun r => V.str r.1)).all id = true
  fit : rows.length ≤ 100
theorem isNm_len {z : Str} (h : isNm z = true) : z.length = 1 := by
  unfold isNm at h
  rw [Bool.and_eq_true, decide_eq_true_eq] at h
  exact h.1
/-- are_ticks(value, size), the ticks right -/
def spTicks (K : PySem.W.Frag) : Sp := fun vs H Q _ => ∃ (v : V) (size : Int) (ns : List Int), vs = [v, .int size] ∧ Dp K H v (ticksD ns) ∧ Ticks size ns ∧ ∀ H', Same H H' → Q (.bl true) H'
/-- are_rows(value, size), the rows right -/
def spRows (K : PySem.W.Frag) : Sp := fun vs H Q _ => ∃ (v : V) (size : Int) (rows : List Row), vs = [v, .int size] ∧ Dp K H v (rowsD rows) ∧ Rows size rows ∧ ∀ H', Same H H' → Q (.bl true) H'
structure TxtT (K : PySem.W.Frag) (mg : Str → Option Value) (fI fN fU fT : Addr) : Prop where
  b : TxtB K mg
  g_is_integer_from : mg "is_integer_from" = some (.ref fI)
  k_is_integer_from : PySem.W.keepIn K (.ref fI) = true
  g_is_name : mg "is_name" = some (.ref fN)
  k_is_name : PySem.W.keepIn K (.ref fN) = true
  g_is_rising : mg "is_rising" = some (.ref fU)
  k_is_rising : PySem.W.keepIn K (.ref fU) = true
  g_are_ticks : mg "are_ticks" = some (.ref fT)
  k_are_ticks : PySem.W.keepIn K (.ref fT) = true
theorem ixT {X : Cx} (K : PySem.W.Frag) (e : X.K = K := by rfl) : IxR X (rIxT K) := by
  subst e
  exact ix_tup
section
variable {P : Program} {w : World} {K : PySem.W.Frag} {mg : Str → Option Value} {base : Heap}
abbrev s_are_ticks : Stmt := top 22
theorem sc_ticks : FnScope ["value", "size", "tick"] ["value", "size"] (defScope s_are_ticks) := ⟨rfl, rfl, rfl, by decide +kernel, rfl, by decide +kernel, by decide +kernel⟩
theorem ok_ticks {f fI fN fU fT : Addr} {fd dI dU : FuncData} (F : Fun K "are_ticks" "are_ticks" s_are_ticks f fd) (T : TxtT K mg fI fN fU fT)
    (GI : FnOk P w K mg base CX0 1 fI dI ["value", "least", "most"] (spInt K)) (bI : Binds K dI ["value", "least", "most"] []) (GU : FnOk P w K mg base CX0 1 fU dU ["row"] (spRising K)) (bU : Binds K dU ["row"] []) :
    FnOk P w K mg base CX0 2 f fd ["value", "size"] (spTicks K) := by
  refine F.ok sc_ticks (fun vs H Q E h => ?_) (fun cdv A outer s H vs Q E hr h => ?_)
  · obtain ⟨v, size, ns, rfl, _⟩ := h
    rfl
  · obtain ⟨v, size, ns, rfl, dv, ht, k⟩ := h
    have hr1 : Room 1 _ := hr.mono (by decide)
    refine ⟨_, (pss_cons (ps_if (pt_not (pt_val (pe_callB call_isB (by rfl) T.b.n_isinstance (by decide +kernel) (pa_cons (pv 0) (pa_cons (pe_bltn (v := .ty "tuple") (by rfl) T.b.n_tuple (by decide +kernel) rfl) pa_nil))))) (pss_one (ps_ret pe_bl)) pss_nil)
    (pss_one (ps_ret (pe_and (pe_callB (cr_all rfl) (by rfl) T.b.n_all (by decide +kernel) (pa_cons (pe_lc (own := [("tick", 2)]) (g := gName 2) (tt := tYes) rfl sc_ticks.nd (pi_tup (pv 0)) (blkOk_by (N := ["value", "size", "tick"]) (sc := defScope s_are_ticks) (by decide +kernel)) (fun _ _ _ _ _ => (pg_name (i := 2) sc_ticks.nd rfl (Or.inl rfl))) (fun _ _ _ _ _ => pts_nil) (fun _ _ _ _ _ => (pe_call GI hr1 rfl T.g_is_integer_from T.k_is_integer_from bI .nil pass0 (pa_cons (pv 2) (pa_cons pe_int (pa_cons (pe_op op_sub (pv 1) pe_int) pa_nil)))))) pa_nil)) (pe_one (pe_call GU hr1 rfl T.g_is_rising T.k_is_rising bU .nil pass0 (pa_cons (pv 0) pa_nil))))))), ?_⟩
    obtain ⟨a, rfl, ha⟩ := Dp.ticksI dv
    refine ⟨_, rfl, .ref a, "tuple", "tuple", true, rfl, tyX_tup ha, kb_tt, ?_⟩
    refine ⟨_, rfl, ?_⟩
    refine ⟨_, rfl, a, rfl, ⟨_, ha⟩, fun D hD => lc_tup (xs := ns.map V.int) (fun i H' => Same H H' ∧ H' D = some (.lst (List.replicate i (V.bl true)))) ⟨Same.new (Same.refl H) hD, upd_same⟩ (fun i H' _ hh => Same.tup hh.1 ha) (fun i x H' hx hh => ?_) (fun H2 hh => ?_)⟩
    · obtain ⟨s1, d1⟩ := hh
      rw [List.getElem?_map] at hx
      obtain ⟨n, hn, rfl⟩ := Option.map_eq_some_iff.mp hx
      have hil : i < ns.length := (List.getElem?_eq_some_iff.mp hn).1
      have hok := ht.ok n (List.mem_of_getElem? hn)
      refine ⟨rfl, ?_⟩
      refine ⟨_, rfl, _, rfl, _, _, rfl, rfl, .int n, 0, size - 1, rfl, .inl ⟨n, rfl, ?_⟩⟩
      unfold okTick at hok
      rw [hok]
      refine ⟨_, d1, by rw [List.length_replicate]; have := ht.fit; exact Nat.lt_of_lt_of_le (Nat.lt_of_lt_of_le hil this) (by decide), Same.put s1 hD, ?_⟩
      rw [upd_same, List.replicate_succ']
    · obtain ⟨s1, d1⟩ := hh
      refine ⟨D, List.replicate ns.length true, rfl, SqL.of (by rw [d1]; simp), ?_⟩
      rw [show (List.replicate ns.length true).all id = true from by simp]
      refine ⟨_, rfl, _, rfl, a, _, rfl, .inl (Same.tup s1 ha), by rw [List.length_map]; exact Nat.le_trans ht.fit (by decide), .inl ⟨ns, rfl⟩, fun H3 s3 => ?_⟩
      have := ht.up
      unfold upR at this
      rw [this]
      exact k H3 (s1.trans s3)
abbrev s_are_rows : Stmt := top 23
theorem sc_rows : FnScope ["value", "size", "pair"] ["value", "size"] (defScope s_are_rows) := ⟨rfl, rfl, rfl, by decide +kernel, rfl, by decide +kernel, by decide +kernel⟩
theorem ok_rows {f fI fN fU fT : Addr} {fd dN dU dT : FuncData} (F : Fun K "are_rows" "are_rows" s_are_rows f fd) (T : TxtT K mg fI fN fU fT)
    (GN : FnOk P w K mg base CX0 1 fN dN ["value"] (spName K)) (bN : Binds K dN ["value"] []) (GU : FnOk P w K mg base CX0 1 fU dU ["row"] (spRising K)) (bU : Binds K dU ["row"] [])
    (GT : FnOk P w K mg base CX0 2 fT dT ["value", "size"] (spTicks K)) (bT : Binds K dT ["value", "size"] []) :
    FnOk P w K mg base CX0 3 f fd ["value", "size"] (spRows K) := by
  refine F.ok sc_rows (fun vs H Q E h => ?_) (fun cdv A outer s H vs Q E hr h => ?_)
  · obtain ⟨v, size, rows, rfl, _⟩ := h
    rfl
  · obtain ⟨v, size, rows, rfl, dv, hR, k⟩ := h
    have hr2 : Room 2 _ := hr.mono (by decide)
    have hr1 : Room 1 _ := hr.mono (by decide)
    refine ⟨_, (pss_cons (ps_if (pt_not (pt_val (pe_callB call_isB (by rfl) T.b.n_isinstance (by decide +kernel) (pa_cons (pv 0) (pa_cons (pe_bltn (v := .ty "tuple") (by rfl) T.b.n_tuple (by decide +kernel) rfl) pa_nil))))) (pss_one (ps_ret pe_bl)) pss_nil)
    (pss_cons (ps_for PassesOwn.never rfl (pi_tup (pv 0)) (pg_name (i := 2) sc_rows.nd rfl (Or.inl rfl))
    (pss_cons (ps_if (PW.pt (pw_or (pt_not (pt_val (pe_callB call_isB (by rfl) T.b.n_isinstance (by decide +kernel) (pa_cons (pv 2) (pa_cons (pe_bltn (v := .ty "tuple") (by rfl) T.b.n_tuple (by decide +kernel) rfl) pa_nil))))) (pw_or1 (pt_cmpR op_ne (pe_callB call_len_seq (by rfl) T.b.n_len PySem.boot_len (pa_cons (pv 2) pa_nil)) pe_int (nomark _))))) (pss_one (ps_ret pe_bl)) pss_nil)
    (pss_one (ps_if (PW.pt (pw_or (pt_not (pt_val (pe_call GN hr1 rfl T.g_is_name T.k_is_name bN .nil pass0 (pa_cons (pe_ix ix_tup (pv 2) pe_int (fun _ _ => rfl)) pa_nil)))) (pw_or1 (pt_not (pt_val (pe_call GT hr2 rfl T.g_are_ticks T.k_are_ticks bT .nil pass0 (pa_cons (pe_ix ix_tup (pv 2) pe_int (fun _ _ => rfl)) (pa_cons (pv 1) pa_nil)))))))) (pss_one (ps_ret pe_bl)) pss_nil))))
    (pss_one (ps_ret (pe_call GU hr1 rfl T.g_is_rising T.k_is_rising bU .nil pass0 (pa_cons (pe_lc (own := [("pair", 2)]) (g := gName 2) (tt := tYes) rfl sc_rows.nd (pi_tup (pv 0)) (blkOk_by (N := ["value", "size", "pair"]) (sc := defScope s_are_rows) (by decide +kernel)) (fun _ _ _ _ _ => (pg_name (i := 2) sc_rows.nd rfl (Or.inl rfl))) (fun _ _ _ _ _ => pts_nil) (fun _ _ _ _ _ => (pe_ix (ixT K) (pv 2) pe_int (fun _ _ => rfl)))) pa_nil)))))), ?_⟩
    obtain ⟨a, xs, rfl, ha, hl, hx⟩ := Dp.rowsI dv
    refine ⟨_, rfl, .ref a, "tuple", "tuple", true, rfl, tyX_tup ha, kb_tt, ?_⟩
    refine ⟨_, rfl, ?_⟩
    refine ⟨_, rfl, a, rfl, ⟨_, ha⟩, for_tup (xs := xs) (fun i σ H' => Same H H' ∧ ∃ v, σ = [some (.ref a), some (.int size), v]) ⟨Same.refl H, _, rfl⟩ (fun i σ H' _ hh => Same.tup hh.1 ha) (fun i x σ H' hxi hh => ?_) (fun σ H' hh => ?_)⟩
    · obtain ⟨s1, v2, rfl⟩ := hh
      obtain ⟨r, hri, dr⟩ := hx i x hxi
      have hrm := List.mem_of_getElem? hri
      obtain ⟨p, y, rfl, hp, dy⟩ := Dp.rowI (Dp.same s1 dr)
      refine ⟨_, rfl, .ref p, "tuple", "tuple", true, rfl, tyX_tup hp, kb_tt, ?_⟩
      refine ⟨_, rfl, ?_⟩
      refine ⟨_, rfl, p, _, rfl, .inr hp, rfl, _, rfl, ?_⟩
      refine ⟨_, rfl, p, _, 0, _, rfl, rfl, hp, rfl, ?_⟩
      refine ⟨.str r.1, rfl, .inl ⟨r.1, rfl, by rw [isNm_len (hR.nm r hrm)]; exact fits rfl, ?_⟩⟩
      rw [hR.nm r hrm]
      refine ⟨_, rfl, ?_⟩
      refine ⟨_, rfl, p, _, 1, _, rfl, rfl, hp, rfl, ?_⟩
      refine ⟨_, rfl, y, size, r.2, rfl, dy, hR.ticks r hrm, fun H2 s2 => ?_⟩
      refine ⟨_, rfl, ?_⟩
      exact ⟨s1.trans s2, _, rfl⟩
    · obtain ⟨s1, v2, rfl⟩ := hh
      have fit := hR.fit
      refine ⟨_, rfl, a, rfl, ⟨_, Same.tup s1 ha⟩, fun D hD => lc_tup (xs := xs) (fun i H2 => Same H' H2 ∧ H2 D = some (.lst ((rows.take i).map fun r => V.str r.1))) ⟨Same.new (Same.refl H') hD, upd_same⟩ (fun i H2 _ hh => Same.tup (s1.trans hh.1) ha) (fun i x H2 hxi hh => ?_) (fun H2 hh => ?_)⟩
      · obtain ⟨s2, d2⟩ := hh
        obtain ⟨r, hri, dr⟩ := hx i x hxi
        obtain ⟨p, y, rfl, hp, dy⟩ := Dp.rowI (Dp.same (s1.trans s2) dr)
        refine ⟨rfl, ?_⟩
        refine ⟨_, rfl, p, _, 0, _, rfl, rfl, hp, rfl, _, d2, ?_, Same.put s2 hD, ?_⟩
        · rw [List.length_map, List.length_take]
          exact Nat.lt_of_le_of_lt (Nat.le_trans (Nat.min_le_right _ _) fit) (by decide)
        · rw [upd_same, List.take_add_one, hri]
          simp
      · obtain ⟨s2, d2⟩ := hh
        refine ⟨D, _, rfl, .inr (SqL.of d2), ?_, .inr ⟨rows.map (·.1), ?_⟩, fun H3 s3 => ?_⟩
        · rw [List.length_map, List.length_take]
          exact Nat.le_trans (Nat.le_trans (Nat.min_le_right _ _) fit) (by decide)
        · rw [hl, List.take_length]
          simp
        · rw [hl, List.take_length, hR.up]
          exact k H3 ((s1.trans s2).trans s3)
end
end Sp
set_option Elab.async false
set_option linter.all false
set_option maxRecDepth 100000
set_option maxHeartbeats 4000000
namespace Sp
open PySem PySem.Spec PyProof.Rows L2 RZ
/-! ### plans -/
theorem ps_never {X : Cx} {st : Stmt} : PS X st (fun _ _ _ => False) := ⟨fun _ _ _ _ _ _ h => h.elim⟩
/-- a def with defaults, no exception leaves it -/
theorem FunD.okN {P : Program} {w : World} {K : PySem.W.Frag} {mg : Str → Option Value} {base : Heap} {x qual : Str} {st : Stmt} {dvs : List V} {kws : List (Str × V)} {f : Addr} {fd : FuncData} {N ps : List Str} {k : Nat} {sp : Sp}
    (F : FunD K x qual (defArgs st) (defBody st) (defScope st) dvs kws f fd) (S : FnScope N ps (defScope st)) (len : ∀ vs H Q E, sp vs H Q E → vs.length = ps.length)
    (hbody : ∀ (cdv : Value) (A : Around) (outer : List Env) (s : Shared) (H : Hp) (vs : List V) (Q : VK) (E : XK), Room k (A.deeper (envOfC qual (defScope st) s.heap.objs.size f cdv)) → sp vs H Q E →
      ∃ t, PSs (cxOf CX0 P w K mg base N qual (defScope st) f cdv A outer s H E).nox (defBody st) t ∧ t { nx := fun _ H' => Q .non H', rt := Q } (start N vs) H) : FnOk P w K mg base CX0 (k + 1) f fd ps sp :=
  F.ok S len fun cdv A outer s H vs Q E hr hsp => by
    obtain ⟨t, h, q⟩ := hbody cdv A outer s H vs Q E hr hsp
    exact ⟨t, h.nox, q⟩
theorem But.ofNew {p : Addr} {H2 H H' : Hp} (s : Same H2 H) (n : H2 p = none) (b : But p H H') : Same H2 H' := fun c o e => b c o (ne_of_none e n) (s c o e)
/-- at p stands a plan -/
def PlanAt (K : PySem.W.Frag) (C : Addr) (H : Hp) (p : Addr) (size : Int) (rows : List Row) : Prop := ∃ dx v, H p = some (.ins C dx [("_size", .int size), ("_rows", v)]) ∧ Dp K H v (rowsD rows)
theorem PlanAt.same {K : PySem.W.Frag} {C : Addr} {H H' : Hp} {p : Addr} {size : Int} {rows : List Row} (s : Same H H') (h : PlanAt K C H p size rows) : PlanAt K C H' p size rows := by
  obtain ⟨dx, v, h1, h2⟩ := h
  exact ⟨dx, v, s _ _ h1, Dp.same s h2⟩
/-- Plan.__init__, all right -/
def spInit (K : PySem.W.Frag) (C : Addr) : Sp := fun vs H Q _ => ∃ (a dx : Addr) (size : Int) (v : V) (rows : List Row), vs = [.ref a, .int size, v] ∧ H a = some (.ins C dx []) ∧ Dp K H v (rowsD rows) ∧ Rows size rows ∧ 0 ≤ size ∧ size ≤ 10000 ∧
  ∀ H', But a H H' → H' a = some (.ins C dx [("_size", .int size), ("_rows", v)]) → Q .non H'
def spSize (K : PySem.W.Frag) (C : Addr) : Sp := fun vs H Q _ => ∃ (p : Addr) (size : Int) (rows : List Row), vs = [.ref p] ∧ PlanAt K C H p size rows ∧ Q (.int size) H
def spRowsP (K : PySem.W.Frag) (C : Addr) : Sp := fun vs H Q _ => ∃ (p : Addr) (size : Int) (rows : List Row), vs = [.ref p] ∧ PlanAt K C H p size rows ∧ ∀ v, Dp K H v (rowsD rows) → Q v H
def namesD (rows : List Row) : PyData := .tuple (rows.map fun r => PyData.str r.1)
def spNames (K : PySem.W.Frag) (C : Addr) : Sp := fun vs H Q _ => ∃ (p : Addr) (size : Int) (rows : List Row), vs = [.ref p] ∧ PlanAt K C H p size rows ∧ rows.length ≤ 100 ∧
  ∀ (b : Addr) H', Same H H' → SqT K H' b (rows.map fun r => V.str r.1) → Q (.ref b) H'
def spTicksP (K : PySem.W.Frag) (C : Addr) : Sp := fun vs H Q _ => ∃ (p : Addr) (size : Int) (rows : List Row) (z : Str) (r : Row), vs = [.ref p, .str z] ∧ PlanAt K C H p size rows ∧ rows.find? (fun r => decide (r.1 = z)) = some r ∧
  ∀ v, Dp K H v (ticksD r.2) → Q v H
/-- what the written part says of the class -/
structure PlanC (K : PySem.W.Frag) (C : Addr) : Prop where
  cls : Cls K C
  no_size : NoAttr K C "_size"
  no_rows : NoAttr K C "_rows"
structure TxtP (K : PySem.W.Frag) (mg : Str → Option Value) (fI fN fU fT fR : Addr) : Prop where
  t : TxtT K mg fI fN fU fT
  g_are_rows : mg "are_rows" = some (.ref fR)
  k_are_rows : PySem.W.keepIn K (.ref fR) = true
  g_most : ∃ t, mg "MOST_TICKS" = some (.int 10000 t)
section
variable {P : Program} {w : World} {K : PySem.W.Frag} {mg : Str → Option Value} {base : Heap} {C : Addr}
abbrev s_init : Stmt := inClass (top 26) 0
theorem sc_init : FnScope ["self", "size", "rows"] ["self", "size", "rows"] (defScope s_init) := ⟨rfl, rfl, rfl, by decide +kernel, rfl, by decide +kernel, by decide +kernel⟩
abbrev FunI (K : PySem.W.Frag) (dvs : List V) (f : Addr) (fd : FuncData) : Prop := FunD K "__init__" "Plan.__init__" (defArgs s_init) (defBody s_init) (defScope s_init) dvs [] f fd
theorem ok_init {dvs : List V} {f fI fN fU fT fR : Addr} {fd dI dR : FuncData} (F : FunI K dvs f fd) (PC : PlanC K C) (T : TxtP K mg fI fN fU fT fR)
    (GI : FnOk P w K mg base CX0 1 fI dI ["value", "least", "most"] (spInt K)) (bI : L2.Binds K dI ["value", "least", "most"] []) (GR : FnOk P w K mg base CX0 3 fR dR ["value", "size"] (spRows K)) (bR : L2.Binds K dR ["value", "size"] []) :
    FnOk P w K mg base CX0 4 f fd ["self", "size", "rows"] (spInit K C) := by
  refine FunD.okN F sc_init (fun vs H Q E h => ?_) (fun cdv A outer s H vs Q E hr h => ?_)
  · obtain ⟨a, dx, size, v, rows, rfl, _⟩ := h
    rfl
  · obtain ⟨a, dx, size, v, rows, rfl, ha, dv, hR, h0, h1, k⟩ := h
    have hr3 : Room 3 _ := hr.mono (by decide)
    have hr1 : Room 1 _ := hr.mono (by decide)
    obtain ⟨tk, gM⟩ := T.g_most
    refine ⟨_, (pss_cons (ps_if (pt_not (pt_val (pe_call GI hr1 rfl T.t.g_is_integer_from T.t.k_is_integer_from bI .nil pass0 (pa_cons (pv 1) (pa_cons pe_int (pa_cons (pe_glob (v := .int 10000) rfl gM ⟨tk, rfl⟩) pa_nil)))))) (pss_one ps_never) pss_nil)
    (pss_cons (ps_if (pt_not (pt_val (pe_call GR hr3 rfl T.g_are_rows T.k_are_rows bR .nil pass0 (pa_cons (pv 2) (pa_cons (pv 1) pa_nil))))) (pss_one ps_never) pss_nil)
    (pss_cons (ps_fld (pv 0) (pv 1) rfl)
    (pss_one (ps_fld (pv 0) (pv 2) rfl))))), ?_⟩
    refine ⟨_, rfl, .int size, 0, 10000, rfl, .inl ⟨size, rfl, ?_⟩⟩
    rw [decide_eq_true h0, decide_eq_true h1]
    refine ⟨_, rfl, ?_⟩
    refine ⟨_, rfl, _, rfl, v, size, rows, rfl, dv, hR, fun H1 s1 => ?_⟩
    refine ⟨_, rfl, ?_⟩
    refine ⟨_, rfl, _, rfl, a, C, dx, _, rfl, s1 _ _ ha, PC.cls, PC.no_size, by decide, ?_⟩
    refine ⟨_, rfl, _, rfl, a, C, dx, _, rfl, upd_same, PC.cls, PC.no_rows, by show 1 < 1000; decide, ?_⟩
    exact k _ (But.put (But.put (But.same s1))) upd_same
abbrev s_size : Stmt := inClass (top 26) 1
theorem sc_size : FnScope ["self"] ["self"] (defScope s_size) := ⟨rfl, rfl, rfl, by decide +kernel, rfl, by decide +kernel, by decide +kernel⟩
theorem ok_size {f : Addr} {fd : FuncData} (F : Fun K "size" "Plan.size" s_size f fd) (PC : PlanC K C) : FnOk P w K mg base CX0 1 f fd ["self"] (spSize K C) := by
  refine F.ok sc_size (fun vs H Q E h => ?_) (fun cdv A outer s H vs Q E hr h => ?_)
  · obtain ⟨p, size, rows, rfl, _⟩ := h
    rfl
  · obtain ⟨p, size, rows, rfl, ⟨dx, v, hp, dv⟩, k⟩ := h
    refine ⟨_, (pss_one (ps_ret (pe_fld (pv 0) rfl))), ?_⟩
    exact ⟨_, rfl, p, C, dx, _, _, rfl, hp, PC.cls, PC.no_size, rfl, k⟩
abbrev s_rows : Stmt := inClass (top 26) 2
theorem sc_rowsP : FnScope ["self"] ["self"] (defScope s_rows) := ⟨rfl, rfl, rfl, by decide +kernel, rfl, by decide +kernel, by decide +kernel⟩
theorem ok_rowsP {f : Addr} {fd : FuncData} (F : Fun K "rows" "Plan.rows" s_rows f fd) (PC : PlanC K C) : FnOk P w K mg base CX0 1 f fd ["self"] (spRowsP K C) := by
  refine F.ok sc_rowsP (fun vs H Q E h => ?_) (fun cdv A outer s H vs Q E hr h => ?_)
  · obtain ⟨p, size, rows, rfl, _⟩ := h
    rfl
  · obtain ⟨p, size, rows, rfl, ⟨dx, v, hp, dv⟩, k⟩ := h
    refine ⟨_, (pss_one (ps_ret (pe_fld (pv 0) rfl))), ?_⟩
    exact ⟨_, rfl, p, C, dx, _, _, rfl, hp, PC.cls, PC.no_rows, rfl, k v dv⟩
abbrev s_names : Stmt := inClass (top 26) 3
theorem sc_names : FnScope ["self", "pair"] ["self"] (defScope s_names) := ⟨rfl, rfl, rfl, by decide +kernel, rfl, by decide +kernel, by decide +kernel⟩
theorem ok_names {f : Addr} {fd : FuncData} (F : Fun K "names" "Plan.names" s_names f fd) (PC : PlanC K C) (n_tuple : mg "tuple" = none) : FnOk P w K mg base CX0 1 f fd ["self"] (spNames K C) := by
  refine F.ok sc_names (fun vs H Q E h => ?_) (fun cdv A outer s H vs Q E hr h => ?_)
  · obtain ⟨p, size, rows, rfl, _⟩ := h
    rfl
  · obtain ⟨p, size, rows, rfl, ⟨dx, v, hp, dv⟩, fit, k⟩ := h
    refine ⟨_, (pss_one (ps_ret (pe_callTy call_tuple_of (by rfl) n_tuple (by decide +kernel) (pa_cons (pe_lc (own := [("pair", 1)]) (g := gName 1) (tt := tYes) rfl sc_names.nd (pi_tup (pe_fld (pv 0) rfl)) (blkOk_by (N := ["self", "pair"]) (sc := defScope s_names) (by decide +kernel)) (fun _ _ _ _ _ => (pg_name (i := 1) sc_names.nd rfl (Or.inl rfl))) (fun _ _ _ _ _ => pts_nil) (fun _ _ _ _ _ => (pe_ix (ixT K) (pv 1) pe_int (fun _ _ => rfl)))) pa_nil)))), ?_⟩
    obtain ⟨a, xs, rfl, ha, hl, hx⟩ := Dp.rowsI dv
    refine ⟨_, rfl, p, C, dx, _, _, rfl, hp, PC.cls, PC.no_rows, rfl, a, rfl, ⟨_, ha⟩, fun D hD => lc_tup (xs := xs) (fun i H2 => Same H H2 ∧ H2 D = some (.lst ((rows.take i).map fun r => V.str r.1))) ⟨Same.new (Same.refl H) hD, upd_same⟩ (fun i H2 _ hh => Same.tup hh.1 ha) (fun i x H2 hxi hh => ?_) (fun H2 hh => ?_)⟩
    · obtain ⟨s2, d2⟩ := hh
      obtain ⟨r, hri, dr⟩ := hx i x hxi
      obtain ⟨p, y, rfl, hp, dy⟩ := Dp.rowI (Dp.same s2 dr)
      refine ⟨rfl, ?_⟩
      refine ⟨_, rfl, p, _, 0, _, rfl, rfl, hp, rfl, _, d2, ?_, Same.put s2 hD, ?_⟩
      · rw [List.length_map, List.length_take]
        exact Nat.lt_of_le_of_lt (Nat.le_trans (Nat.min_le_right _ _) fit) (by decide)
      · rw [upd_same, List.take_add_one, hri]
        simp
    · obtain ⟨s2, d2⟩ := hh
      refine ⟨D, _, rfl, .inl ⟨SqL.of d2, fun l hl2 => k l _ (Same.new s2 hl2) (SqT.of ?_)⟩⟩
      rw [upd_same, hl, List.take_length]
abbrev s_ticks : Stmt := inClass (top 26) 5
theorem sc_ticksP : FnScope ["self", "name", "pair"] ["self", "name"] (defScope s_ticks) := ⟨rfl, rfl, rfl, by decide +kernel, rfl, by decide +kernel, by decide +kernel⟩
theorem ok_ticksP {f : Addr} {fd : FuncData} (F : Fun K "ticks" "Plan.ticks" s_ticks f fd) (PC : PlanC K C) (B : TxtB K mg) : FnOk P w K mg base CX0 1 f fd ["self", "name"] (spTicksP K C) := by
  refine F.ok sc_ticksP (fun vs H Q E h => ?_) (fun cdv A outer s H vs Q E hr h => ?_)
  · obtain ⟨p, size, rows, z, r, rfl, _⟩ := h
    rfl
  · obtain ⟨p, size, rows, z, r, rfl, ⟨dx, v, hp, dv⟩, hf, k⟩ := h
    refine ⟨_, (pss_cons (ps_if (pt_val (pe_callB call_isB (by rfl) B.n_isinstance (by decide +kernel) (pa_cons (pv 1) (pa_cons (pe_bltn (v := .ty "str") (by rfl) B.n_str (by decide +kernel) rfl) pa_nil)))) (pss_one (ps_for PassesOwn.never rfl (pi_tup (pe_fld (pv 0) rfl)) (pg_name (i := 2) sc_ticksP.nd rfl (Or.inl rfl))
    (pss_one (ps_if (pt_cmpR op_eq (pe_ix ix_tup (pv 2) pe_int (fun _ _ => rfl)) (pv 1) (nomark _)) (pss_one (ps_ret (pe_ix ix_tup (pv 2) pe_int (fun _ _ => rfl)))) pss_nil)))) pss_nil)
    (pss_one ps_never)), ?_⟩
    obtain ⟨a, xs, rfl, ha, hl, hx⟩ := Dp.rowsI dv
    refine ⟨_, rfl, .str z, "str", "str", true, rfl, .base (.str z), kb_ss, _, rfl, ?_⟩
    refine ⟨_, rfl, p, C, dx, _, _, rfl, hp, PC.cls, PC.no_rows, rfl, a, rfl, ⟨_, ha⟩, for_tup (xs := xs) (fun i σ H' => H' = H ∧ (rows.take i).find? (fun r => decide (r.1 = z)) = none ∧ ∃ v, σ = [some (.ref p), some (.str z), v]) ⟨rfl, rfl, _, rfl⟩ (fun i σ H' _ hh => by rw [hh.1]; exact ha) (fun i x σ H' hxi hh => ?_) (fun σ H' hh => ?_)⟩
    · obtain ⟨rfl, hno, v2, rfl⟩ := hh
      obtain ⟨r2, hri, dr⟩ := hx i x hxi
      obtain ⟨q, y, rfl, hq, dy⟩ := Dp.rowI dr
      refine ⟨_, rfl, q, _, 0, _, rfl, rfl, hq, rfl, _, rfl, rfl, _, rfl, ?_⟩
      by_cases c : r2.1 = z
      · rw [decide_eq_true (show V.str r2.1 = V.str z by rw [c])]
        refine ⟨_, rfl, q, _, 1, _, rfl, rfl, hq, rfl, k y ?_⟩
        have hr2 : rows.find? (fun r => decide (r.1 = z)) = some r2 := by
          rw [show rows = rows.take i ++ (r2 :: rows.drop (i + 1)) from ?_, List.find?_append, hno, Option.none_or, List.find?_cons, decide_eq_true c]
          have hi : i < rows.length := (List.getElem?_eq_some_iff.mp hri).1
          rw [← (List.getElem?_eq_some_iff.mp hri).2, List.getElem_cons_drop, List.take_append_drop]
        rw [hr2] at hf
        rw [← Option.some.inj hf]
        exact dy
      · rw [decide_eq_false (show ¬ V.str r2.1 = V.str z from fun e => c (V.str.inj e))]
        refine ⟨rfl, ?_, _, rfl⟩
        rw [List.take_add_one, hri, List.find?_append, hno, Option.none_or]
        show List.find? _ [r2] = none
        rw [List.find?_cons, decide_eq_false c]
        rfl
    · obtain ⟨rfl, hno, _⟩ := hh
      rw [hl, List.take_length, hf] at hno
      cases hno
end
end Sp
set_option Elab.async false
set_option linter.all false
set_option maxRecDepth 100000
set_option maxHeartbeats 4000000
namespace Sp
open PySem PySem.Spec PyProof.Rows L2 RZ
/-! ### a dict of the ticks -/
/-- the ints that are keys of it -/
def DHas (kvs : List (Key × V)) (ns : List Int) : Prop := ∀ t : Int, (valV kvs (.inl t)).isSome = ns.contains t
theorem DHas.put {kvs : List (Key × V)} {ns : List Int} {n : Int} {y : V} (h : DHas kvs ns) : DHas (putK kvs (.inl n) y) (ns ++ [n]) := fun t => by
  rw [valV_put]
  by_cases c : (Sum.inl t : Key) = .inl n
  · rw [if_pos c]
    have : t = n := Sum.inl.inj c
    simp [this]
  · rw [if_neg c, h t]
    have : t ≠ n := fun e => c (by rw [e])
    simp [this]
/-- the marks of a row -/
def markC (b : Bool) : Str := if b = true then "#" else "."
def marksL (w : Nat) (ns : List Int) : List Str := (List.range w).map fun (t : Nat) => markC (ns.contains (t : Int))
def marksS (size : Int) (ns : List Int) : Str := Txt.join "" (marksL size.toNat ns)
theorem marksL_sum (w : Nat) (ns : List Int) : ((marksL w ns).map (·.length)).sum = w := by
  unfold marksL
  rw [List.map_map]
  have : ((fun (x : Str) => x.length) ∘ fun (t : Nat) => markC (ns.contains (t : Int))) = fun _ => 1 := by
    funext t
    simp only [Function.comp]
    cases ns.contains (t : Int) <;> rfl
  rw [this]
  clear this
  induction w with
  | zero => rfl
  | succ w ih => rw [List.range_succ, List.map_append, List.sum_append, ih]; rfl
theorem marksL_succ (w : Nat) (ns : List Int) : marksL (w + 1) ns = marksL w ns ++ [markC (ns.contains (w : Int))] := by
  unfold marksL
  rw [List.range_succ, List.map_append]
  rfl
theorem marksL_len (w : Nat) (ns : List Int) : (marksL w ns).length = w := by
  unfold marksL
  rw [List.length_map, List.length_range]
theorem marksL_fit {w : Nat} {ns : List Int} (h : w ≤ 10000) : ((marksL w ns).map (·.length)).sum + (marksL w ns).length * ("" : Str).length ≤ 16777216 := by
  rw [marksL_sum, show ("" : Str).length = 0 from rfl]
  omega
def spMarksP (K : PySem.W.Frag) (C : Addr) : Sp := fun vs H Q _ => ∃ (p : Addr) (size : Int) (rows : List Row) (z : Str) (r : Row), vs = [.ref p, .str z] ∧ PlanAt K C H p size rows ∧ rows.find? (fun r => decide (r.1 = z)) = some r ∧ 0 ≤ size ∧ size ≤ 10000 ∧ r.2.length ≤ 10000 ∧
  ∀ H', Same H H' → Q (.str (marksS size r.2)) H'
section
variable {P : Program} {w : World} {K : PySem.W.Frag} {mg : Str → Option Value} {base : Heap} {C : Addr}
abbrev s_marks : Stmt := inClass (top 26) 6
theorem sc_marksP : FnScope ["self", "name", "marked", "tick"] ["self", "name"] (defScope s_marks) := ⟨rfl, rfl, rfl, by decide +kernel, rfl, by decide +kernel, by decide +kernel⟩
theorem ok_marksP {f fK : Addr} {fd dK : FuncData} (F : Fun K "marks" "Plan.marks" s_marks f fd) (PC : PlanC K C) (B : TxtB K mg) (GK : FnOk P w K mg base CX0 1 fK dK ["self", "name"] (spTicksP K C)) (bK : L2.Binds K dK ["self", "name"] []) (hK : Meth K C "ticks" fK) :
    FnOk P w K mg base CX0 2 f fd ["self", "name"] (spMarksP K C) := by
  refine F.ok sc_marksP (fun vs H Q E h => ?_) (fun cdv A outer s H vs Q E hr h => ?_)
  · obtain ⟨p, size, rows, z, r, rfl, _⟩ := h
    rfl
  · obtain ⟨p, size, rows, z, r, rfl, ⟨dx, v, hp, dv⟩, hf, h0, h1, hz, k⟩ := h
    have hr1 : Room 1 _ := hr.mono (by decide)
    have hu := hu_of hr
    refine ⟨_, (pss_cons (ps_set (i := 2) sc_marksP.nd rfl (Or.inr rfl) (pe_dc (own := [("tick", 3)]) (g := gName 3) (tt := tYes) rfl sc_marksP.nd (pi_tup (pe_meth (pv 0) PC.cls hK GK hr1 bK .nil pass0 (pa_cons (pv 1) pa_nil))) (blkOk_by (N := ["self", "name", "marked", "tick"]) (sc := defScope s_marks) (by decide +kernel)) (fun _ _ _ _ _ => (pg_name (i := 3) sc_marksP.nd rfl (Or.inl rfl))) (fun _ _ _ _ _ => pts_nil) (fun _ _ _ _ _ => pv 3) (fun _ _ _ _ _ => pe_bl)))
    (pss_one (ps_ret (pe_join pe_str (pe_lc (own := [("tick", 3)]) (g := gName 3) (tt := tYes) rfl sc_marksP.nd (pi_range1 rfl B.n_range (pa_cons (pe_fld (pv 0) rfl) pa_nil)) (blkOk_by (N := ["self", "name", "marked", "tick"]) (sc := defScope s_marks) (by decide +kernel)) (fun _ _ _ _ _ => (pg_name (i := 3) sc_marksP.nd rfl (Or.inl rfl))) (fun _ _ _ _ _ => pts_nil) (fun _ _ _ _ _ => (pe_ifExp (pt_cmp (pc_din hu (pv 3) (pv 2))) pe_str pe_str))))))), ?_⟩
    refine ⟨_, rfl, p, dx, _, rfl, hp, rfl, _, rfl, p, size, rows, z, r, rfl, ⟨dx, v, hp, dv⟩, hf, fun v2 d2 => ?_⟩
    obtain ⟨a, rfl, ha⟩ := Dp.ticksI d2
    refine ⟨a, rfl, ⟨_, ha⟩, fun D hD => dc_tup (xs := r.2.map V.int) (fun i H2 => Same H H2 ∧ ∃ kvs, H2 D = some (.dK kvs) ∧ kvs.length ≤ i ∧ DHas kvs (r.2.take i)) ⟨Same.new (Same.refl H) hD, [], upd_same, Nat.le_refl _, fun t => rfl⟩ (fun i H2 _ hh => Same.tup hh.1 ha) (fun i x H2 hxi hh => ?_) (fun H2 hh => ?_)⟩
    · obtain ⟨s2, kvs, e2, l2, hd⟩ := hh
      rw [List.getElem?_map] at hxi
      obtain ⟨n, hn, rfl⟩ := Option.map_eq_some_iff.mp hxi
      have hil : i < r.2.length := (List.getElem?_eq_some_iff.mp hn).1
      refine ⟨rfl, ?_⟩
      refine ⟨_, rfl, kvs, .inl n, rfl, e2, ?_, Same.put s2 hD, _, upd_same, ?_, ?_⟩
      · exact Nat.lt_of_le_of_lt (Nat.le_trans l2 (Nat.le_trans (Nat.le_of_lt hil) hz)) (by decide)
      · have := length_putK kvs (.inl n) (.bl true)
        omega
      · rw [List.take_add_one, hn]
        exact hd.put
    · obtain ⟨s2, kvs, e2, l2, hd⟩ := hh
      rw [List.length_map, List.take_length] at hd
      refine ⟨⟨_, rfl⟩, ?_⟩
      refine ⟨_, rfl, p, C, dx, _, _, rfl, s2 _ _ hp, PC.cls, PC.no_size, rfl, size, rfl, by omega, by omega, fun D2 hD2 => lc_range (lo := 0) (n := size.toNat) (fun j H3 => Same H2 H3 ∧ H3 D2 = some (.lst ((marksL j r.2).map V.str))) ⟨Same.new (Same.refl H2) hD2, upd_same⟩ (fun j H3 hj hh => ?_) (fun H3 hh => ?_)⟩
      · obtain ⟨s3, d3⟩ := hh
        refine ⟨rfl, ?_⟩
        refine ⟨_, rfl, _, rfl, D, _, rfl, .inl ⟨kvs, .inl (0 + (j : Int)), .inl (s3 _ _ e2), rfl, rfl⟩, _, rfl, ?_⟩
        have hfit : ((marksL j r.2).map V.str).length < sizeLine := by
          rw [List.length_map, marksL_len]
          exact Nat.lt_of_lt_of_le (show j < 10000 by omega) (by decide)
        have hz2 : valV kvs (.inl (0 + (j : Int))) = valV kvs (.inl (j : Int)) := by rw [Int.zero_add]
        rw [hz2, hd (j : Int)]
        have fin : ∀ b : Bool, b = r.2.contains (j : Int) → Same H2 (upd H3 D2 (.lst ((marksL j r.2).map V.str ++ [V.str (markC b)]))) ∧ upd H3 D2 (.lst ((marksL j r.2).map V.str ++ [V.str (markC b)])) D2 = some (.lst ((marksL (j + 1) r.2).map V.str)) := fun b e => by
          subst e
          refine ⟨Same.put s3 hD2, ?_⟩
          rw [upd_same, marksL_succ, List.map_append]
          rfl
        cases c : r.2.contains (j : Int) with
        | true => exact ⟨_, d3, hfit, fin true c.symm⟩
        | false => exact ⟨_, d3, hfit, fin false c.symm⟩
      · obtain ⟨s3, d3⟩ := hh
        exact ⟨_, D2, marksL size.toNat r.2, rfl, rfl, .inl (SqL.of d3), marksL_fit (by omega), k H3 (s2.trans s3)⟩
end
end Sp
set_option Elab.async false
set_option linter.all false
set_option maxRecDepth 100000
set_option maxHeartbeats 4000000
namespace Sp
open PySem PySem.Spec PyProof.Rows L2 RZ
/-! ### names stand once -/
theorem up_pair : ∀ (zs : List Str), (upV (zs.map V.str)).all id = true → zs.Pairwise (fun a b => a.cps.toList < b.cps.toList)
  | [], _ => List.Pairwise.nil
  | [a], _ => List.pairwise_singleton _ _
  | a :: b :: r, h => by
    have h1 : decide (a.cps.toList < b.cps.toList) = true ∧ (upV ((b :: r).map V.str)).all id = true := by
      have : upV ((a :: b :: r).map V.str) = decide (a.cps.toList < b.cps.toList) :: upV ((b :: r).map V.str) := rfl
      rw [this, List.all_cons, Bool.and_eq_true] at h
      exact h
    have ih := up_pair (b :: r) h1.2
    have ab := of_decide_eq_true h1.1
    refine List.pairwise_cons.mpr ⟨fun c hc => ?_, ih⟩
    rcases List.mem_cons.mp hc with rfl | hc
    · exact ab
    · exact List.lt_trans ab ((List.pairwise_cons.mp ih).1 c hc)
theorem find_at : ∀ {rows : List Row} {i : Nat} {r : Row}, (rows.map (·.1)).Pairwise (fun a b => a ≠ b) → rows[i]? = some r → rows.find? (fun q => decide (q.1 = r.1)) = some r
  | [], i, r, _, e => by simp at e
  | q :: rows, 0, r, _, e => by
    simp at e
    subst e
    rw [List.find?_cons, decide_eq_true rfl]
  | q :: rows, i + 1, r, h, e => by
    rw [List.getElem?_cons_succ] at e
    rw [List.map_cons, List.pairwise_cons] at h
    have hne : q.1 ≠ r.1 := h.1 r.1 (List.mem_map.mpr ⟨r, List.mem_of_getElem? e, rfl⟩)
    rw [List.find?_cons, decide_eq_false hne]
    exact find_at h.2 e
theorem Rows.find {size : Int} {rows : List Row} {i : Nat} {r : Row} (h : Rows size rows) (e : rows[i]? = some r) : rows.find? (fun q => decide (q.1 = r.1)) = some r := by
  refine find_at ?_ e
  have hu := h.up
  have : (rows.map fun r => V.str r.1) = (rows.map (·.1)).map V.str := by rw [List.map_map]; rfl
  rw [this] at hu
  refine (up_pair _ hu).imp fun {a b} hab hne => ?_
  subst hne
  exact List.lt_irrefl _ hab
theorem str_nil (z : Str) : Str.empty ++ z = z := by
  cases z
  show Str.mk _ = Str.mk _
  congr 1
  simp [Str.empty]
def lineS (size : Int) (r : Row) : Str := r.1 ++ " " ++ marksS size r.2
def planL (size : Int) (rows : List Row) : List Str := (toString size : Str) :: rows.map (lineS size)
def planS (size : Int) (rows : List Row) : Str := Txt.join "\n" (planL size rows)
def spTextP (K : PySem.W.Frag) (C : Addr) : Sp := fun vs H Q _ => ∃ (p : Addr) (size : Int) (rows : List Row), vs = [.ref p] ∧ PlanAt K C H p size rows ∧ Rows size rows ∧ 0 ≤ size ∧ size ≤ 10000 ∧ ∀ H', Same H H' → Q (.str (planS size rows)) H'
theorem ts_fit {size : Int} (h0 : 0 ≤ size) (h1 : size ≤ 10000) : (toString size : Str).length ≤ 6 := by
  have e := int_text_length_le10 (a := size) (k := 5) (by decide) (by omega)
  rw [show (toString size : Str) = Str.ofString (toString size) from rfl, PySem.ofString_length]
  omega
theorem marksS_len {size : Int} {ns : List Int} : (marksS size ns).length ≤ size.toNat := by
  unfold marksS Txt.join
  rw [StrLaws.glued_eq_join]
  refine Nat.le_trans (StrLaws.join_length_le _ _) ?_
  rw [marksL_sum, show ("" : Str).length = 0 from rfl]
  omega
theorem lineS_len {size : Int} {r : Row} (h : r.1.length = 1) : (lineS size r).length ≤ size.toNat + 2 := by
  unfold lineS
  rw [PySem.Str.length_append, PySem.Str.length_append, h, show (" " : Str).length = 1 from rfl]
  have := marksS_len (size := size) (ns := r.2)
  omega
theorem sum_le {α : Type} {f : α → Nat} {m : Nat} : ∀ {xs : List α}, (∀ x ∈ xs, f x ≤ m) → (xs.map f).sum ≤ xs.length * m
  | [], _ => by simp
  | x :: xs, h => by
    have h1 := h x (List.mem_cons_self ..)
    have h2 := sum_le (xs := xs) fun y hy => h y (List.mem_cons_of_mem _ hy)
    rw [List.map_cons, List.sum_cons, List.length_cons, Nat.succ_mul]
    omega
theorem planL_fit {size : Int} {rows : List Row} (h : Rows size rows) (h0 : 0 ≤ size) (h1 : size ≤ 10000) : ((planL size rows).map (·.length)).sum + (planL size rows).length * ("\n" : Str).length ≤ 16777216 := by
  have f := h.fit
  have a := ts_fit h0 h1
  have b := sum_le (f := fun r : Row => (lineS size r).length) (m := 10002) (xs := rows) fun r hr => by
    have := lineS_len (size := size) (isNm_len (h.nm r hr))
    omega
  have e : ((planL size rows).map (·.length)).sum = (toString size : Str).length + (rows.map fun r => (lineS size r).length).sum := by
    unfold planL
    rw [List.map_cons, List.sum_cons, List.map_map]
    rfl
  have l : (planL size rows).length = rows.length + 1 := by
    unfold planL
    simp
  rw [e, l, show ("\n" : Str).length = 1 from rfl]
  omega
/-- f'..', its parts named -/
def tJoined (ts : List TE) : TE := fun σ H Q => tJs ts Str.empty σ H fun out H1 => Q (.str out) H1
theorem pe_joinedN {X : Cx} {v1 v2 : Expr} {rest : List Expr} {ts : List TE} {pos : Pos} (h : PJ X (v1 :: v2 :: rest) ts) : PE X (.JoinedStr (v1 :: v2 :: rest) pos) (tJoined ts) := pe_joined h
theorem log_fit {size : Int} (h0 : 0 ≤ size) (h1 : size ≤ 10000) : size.natAbs.log2 < 1920 := by
  by_cases z : size.natAbs = 0
  · rw [z]
    decide
  · exact Nat.lt_of_lt_of_le ((Nat.log2_lt z).mpr (show size.natAbs < 2 ^ 14 by omega)) (by decide)
theorem fit2 {n : Nat} (h : n ≤ 20000) : n ≤ sizeLine := Nat.le_trans h (by decide)
section
variable {P : Program} {w : World} {K : PySem.W.Frag} {mg : Str → Option Value} {base : Heap} {C : Addr}
abbrev s_text : Stmt := inClass (top 26) 4
theorem sc_textP : FnScope ["self", "lines", "name"] ["self"] (defScope s_text) := ⟨rfl, rfl, rfl, by decide +kernel, rfl, by decide +kernel, by decide +kernel⟩
theorem ok_textP {f fN pN fM : Addr} {fd dN dM : FuncData} (F : Fun K "text" "Plan.text" s_text f fd) (PC : PlanC K C) (B : TxtB K mg) (GN : FnOk P w K mg base CX0 1 fN dN ["self"] (spNames K C)) (bN : L2.Binds K dN ["self"] []) (hN : PropOf K C "names" pN fN)
    (GM : FnOk P w K mg base CX0 2 fM dM ["self", "name"] (spMarksP K C)) (bM : L2.Binds K dM ["self", "name"] []) (hM : Meth K C "marks" fM) :
    FnOk P w K mg base CX0 3 f fd ["self"] (spTextP K C) := by
  refine F.ok sc_textP (fun vs H Q E h => ?_) (fun cdv A outer s H vs Q E hr h => ?_)
  · obtain ⟨p, size, rows, rfl, _⟩ := h
    rfl
  · obtain ⟨p, size, rows, rfl, hp, hR, h0, h1, k⟩ := h
    refine ⟨_, (pss_cons (ps_setLc (i := 1) (own := [("name", 2)]) (g := gName 2) (tt := tYes) rfl sc_textP.nd rfl rfl (sw_true rfl rfl rfl (by decide +kernel)) (pi_tup (pe_prop (pv 0) PC.cls hN GN hr bN .nil pass0 rfl)) (blkOk_by (N := ["self", "lines", "name"]) (sc := defScope s_text) (by decide +kernel)) (fun _ _ _ _ _ => (pg_name (i := 2) sc_textP.nd rfl (Or.inl rfl))) (fun _ _ _ _ _ => pts_nil) (fun _ _ _ _ _ => (pe_joinedN (PJ.cons (pe_fmt (pv 2)) (PJ.cons pe_str (PJ.cons (pe_fmt (pe_meth (pv 0) PC.cls hM GM hr bM .nil pass0 (pa_cons (pv 2) pa_nil))) PJ.nil))))))
    (pss_one (ps_ret (pe_join pe_str (pe_lstN (pa_cons (pe_callTy call_str_int (by rfl) B.n_str (by decide +kernel) (pa_cons (pe_fld (pv 0) rfl) pa_nil)) (StX.pa_star (pv 1) pa_nil))))))), ?_⟩
    have hp2 := hp
    obtain ⟨dx, v, e1, dv⟩ := hp
    refine ⟨_, rfl, p, dx, _, rfl, e1, p, size, rows, rfl, hp2, hR.fit, fun b H1 s1 hb => ?_⟩
    refine ⟨b, rfl, ⟨_, hb⟩, fun D hD => lc_tup (xs := rows.map fun r : Row => V.str r.1) (fun i H2 => Same H1 H2 ∧ H2 D = some (.lst (((rows.take i).map (lineS size)).map V.str))) ⟨Same.new (Same.refl H1) hD, upd_same⟩ (fun i H2 _ hh => Same.tup hh.1 hb) (fun i x H2 hxi hh => ?_) (fun H2 hh => ?_)⟩
    · obtain ⟨s2, d2⟩ := hh
      rw [List.getElem?_map] at hxi
      obtain ⟨r, hri, rfl⟩ := Option.map_eq_some_iff.mp hxi
      have hrm := List.mem_of_getElem? hri
      have hz := isNm_len (hR.nm r hrm)
      have hm := marksS_len (size := size) (ns := r.2)
      have s12 := s1.trans s2
      have l0 : (Str.empty ++ r.1).length = 1 := by rw [PySem.Str.length_append, hz]; rfl
      have l1 : (Str.empty ++ r.1 ++ " ").length = 2 := by rw [PySem.Str.length_append, l0]; rfl
      refine ⟨rfl, ?_⟩
      refine ⟨_, rfl, .inl ⟨r.1, rfl, by rw [hz]; exact fits rfl, r.1, rfl, by rw [l0]; exact fits rfl, ?_⟩⟩
      refine ⟨" ", rfl, by rw [l1]; exact fits rfl, ?_⟩
      refine ⟨_, rfl, p, dx, _, rfl, s12 _ _ e1, rfl, _, rfl, p, size, rows, r.1, r, rfl, PlanAt.same s12 hp2, hR.find hri, h0, h1, (hR.ticks r hrm).fit, fun H3 s3 => ?_⟩
      refine .inl ⟨_, rfl, fit2 (by omega), _, rfl, ?_, ?_⟩
      · rw [PySem.Str.length_append, l1]
        exact fit2 (by omega)
      · have s23 := s2.trans s3
        refine ⟨_, s3 _ _ d2, ?_, Same.put s23 hD, ?_⟩
        · have fit := hR.fit
          rw [List.length_map, List.length_map, List.length_take]
          exact Nat.lt_of_le_of_lt (Nat.le_trans (Nat.min_le_right _ _) fit) (by decide)
        · rw [upd_same, List.take_add_one, hri, str_nil]
          simp [lineS]
    · obtain ⟨s2, d2⟩ := hh
      rw [List.length_map, List.take_length] at d2
      have fit := hR.fit
      have s12 := s1.trans s2
      refine ⟨⟨_, rfl⟩, _, rfl, p, C, dx, _, _, rfl, s12 _ _ e1, PC.cls, PC.no_size, rfl, size, rfl, ?_, _, rfl, D, _, rfl, .inr (SqL.of d2), ?_⟩
      · exact log_fit h0 h1
      · refine ⟨?_, fun l H3 n3 s3 e3 => ?_⟩
        · simp
          exact fit2 (by omega)
        · refine ⟨_, l, planL size rows, rfl, rfl, .inl (SqL.of ?_), planL_fit hR h0 h1, k H3 (s12.trans s3)⟩
          rw [e3]
          simp [planL]
end
end Sp
set_option Elab.async false
set_option linter.all false
set_option maxRecDepth 100000
set_option maxHeartbeats 4000000
namespace Sp
open PySem PySem.Spec PyProof.Rows L2 RZ
/-! ### rows compared -/
theorem eqv_ints : ∀ ns ms : List Int, PyData.eqvAll (ns.map PyData.int) (ms.map PyData.int) = decide (ns = ms)
  | [], [] => by simp [PyData.eqvAll]
  | [], c :: cs => by simp [PyData.eqvAll]
  | b :: bs, [] => by simp [PyData.eqvAll]
  | b :: bs, c :: cs => by
    simp only [List.map_cons, PyData.eqvAll, PyData.eqv, eqv_ints bs cs]
    by_cases h : b = c <;> by_cases k : bs = cs <;> simp [h, k]
theorem eqv_row (a b : Row) : PyData.eqv (rowD a) (rowD b) = decide (a = b) := by
  obtain ⟨z, ns⟩ := a
  obtain ⟨y, ms⟩ := b
  simp only [rowD, ticksD, PyData.eqv, PyData.eqvAll, eqv_ints, Bool.and_true]
  by_cases h : z = y <;> by_cases k : ns = ms <;> simp [h, k]
theorem eqv_rowl : ∀ a b : List Row, PyData.eqvAll (a.map rowD) (b.map rowD) = decide (a = b)
  | [], [] => by simp [PyData.eqvAll]
  | [], c :: cs => by simp [PyData.eqvAll]
  | b :: bs, [] => by simp [PyData.eqvAll]
  | b :: bs, c :: cs => by
    simp only [List.map_cons, PyData.eqvAll, eqv_row, eqv_rowl bs cs]
    by_cases h : b = c <;> by_cases k : bs = cs <;> simp [h, k]
theorem eqv_rows (a b : List Row) : PyData.eqv (rowsD a) (rowsD b) = decide (a = b) := by
  simp only [rowsD, PyData.eqv, eqv_rowl]
theorem lay_ints : ∀ ns : List Int, PyData.canLayAll0 (ns.map PyData.int) = true
  | [] => by simp [PyData.canLayAll0]
  | b :: bs => by simp [PyData.canLayAll0, PyData.canLay0, lay_ints bs]
theorem deep_ints : ∀ ns : List Int, PyData.depthAll (ns.map PyData.int) = 0
  | [] => by simp [PyData.depthAll]
  | b :: bs => by simp [PyData.depthAll, PyData.depth, deep_ints bs]
theorem isNm_ok {z : Str} (h : isNm z = true) : PyData.strOk z = true := by
  have hl := isNm_len h
  unfold isNm at h
  rw [Bool.and_eq_true, Bool.and_eq_true] at h
  obtain ⟨_, _, h2⟩ := h
  obtain ⟨⟨l⟩⟩ := z
  have hl2 : l.length = 1 := hl
  match l, hl2 with
  | [c], _ =>
    have e : ("Z" : Str).cps.toList = [90] := by decide +kernel
    simp only [e] at h2
    have h3 : ¬ ([90] : List Nat) < [c] := by simpa using h2
    have h4 : ¬ 90 < c := fun q => h3 (List.cons_lt_cons_iff.mpr (.inl q))
    show (#[c] : Array Nat).all (· < 0x110000) = true
    simp
    omega
theorem lay_row (a : Row) (h : PyData.strOk a.1 = true) : (rowD a).canLay0 = true := by simp [rowD, ticksD, PyData.canLay0, PyData.canLayAll0, lay_ints, h]
theorem deep_row (a : Row) : (rowD a).depth = 2 := by simp [rowD, ticksD, PyData.depth, PyData.depthAll, deep_ints]
theorem lay_rowl : ∀ a : List Row, (∀ r ∈ a, PyData.strOk r.1 = true) → PyData.canLayAll0 (a.map rowD) = true
  | [], _ => by simp [PyData.canLayAll0]
  | b :: bs, h => by simp [PyData.canLayAll0, lay_row b (h b (List.mem_cons_self ..)), lay_rowl bs fun r hr => h r (List.mem_cons_of_mem _ hr)]
theorem deep_rowl : ∀ a : List Row, PyData.depthAll (a.map rowD) ≤ 2
  | [] => by simp [PyData.depthAll]
  | b :: bs => by
    have := deep_rowl bs
    simp only [List.map_cons, PyData.depthAll, deep_row]
    omega
theorem shaped_rows {size : Int} {a : List Row} (h : Rows size a) : SeqAt.shaped (rowsD a) = true := by
  have h1 := lay_rowl a fun r hr => isNm_ok (h.nm r hr)
  have h2 := deep_rowl a
  show (PyData.canLay0 (rowsD a) && decide (PyData.depth (rowsD a) ≤ 64)) = true
  rw [Bool.and_eq_true, decide_eq_true_eq]
  refine ⟨?_, ?_⟩
  · simp only [rowsD, PyData.canLay0, h1]
  · simp only [rowsD, PyData.depth]
    omega
/-- what isinstance asks of the class -/
structure PlanI (K : PySem.W.Frag) (C : Addr) : Prop where
  c : PlanC K C
  ha : PySem.W.findIn K (.ref C) "__class__" = some (some (.builtin "object.__class__"))
  hn : PySem.W.specialIn K (.builtin "object.__class__") "__get__" = some (some (.builtin "getset_descriptor.__get__"))
  ht : PySem.W.takesIn K (.builtin "object.__class__") = some true
  hm : PySem.W.mroIn K C (.type "object") = some true
  kc : PySem.W.kitOne K (.ref C) (.ref C) = some true
theorem PlanI.ty {K : PySem.W.Frag} {C : Addr} {H : Hp} {p : Addr} {size : Int} {rows : List Row} (T : PlanI K C) (h : PlanAt K C H p size rows) : TyX K H (.ref p) (.ref C) := by
  obtain ⟨dx, v, h1, _⟩ := h
  exact .base (.ins h1 T.c.cls T.ha T.hn T.ht T.hm)
/-- what stands beside a plan: another plan, or what is none -/
def Beside (K : PySem.W.Frag) (C : Addr) (H : Hp) (size : Int) (rows : List Row) (y : V) (b : Bool) : Prop :=
  (∃ q s2 r2, y = .ref q ∧ PlanAt K C H q s2 r2 ∧ Rows s2 r2 ∧ b = (decide (size = s2) && decide (rows = r2))) ∨ (b = false ∧ ∃ t, TyX K H y t ∧ PySem.W.kitOne K t (.ref C) = some false)
def spEqP (K : PySem.W.Frag) (C : Addr) : Sp := fun vs H Q _ => ∃ (p : Addr) (size : Int) (rows : List Row) (y : V) (b : Bool), vs = [.ref p, y] ∧ PlanAt K C H p size rows ∧ Rows size rows ∧ Beside K C H size rows y b ∧ Q (.bl b) H
def reprS (size : Int) : Str := "Plan(" ++ (toString size : Str) ++ " ticks)"
def spReprP (K : PySem.W.Frag) (C : Addr) : Sp := fun vs H Q _ => ∃ (p : Addr) (size : Int) (rows : List Row), vs = [.ref p] ∧ PlanAt K C H p size rows ∧ 0 ≤ size ∧ size ≤ 10000 ∧ Q (.str (reprS size)) H
section
variable {P : Program} {w : World} {K : PySem.W.Frag} {mg : Str → Option Value} {base : Heap} {C : Addr}
abbrev s_eq : Stmt := inClass (top 26) 9
theorem sc_eqP : FnScope ["self", "other"] ["self", "other"] (defScope s_eq) := ⟨rfl, rfl, rfl, by decide +kernel, rfl, by decide +kernel, by decide +kernel⟩
theorem ok_eqP {f : Addr} {fd : FuncData} (F : Fun K "__eq__" "Plan.__eq__" s_eq f fd) (T : PlanI K C) (B : TxtB K mg) (gC : mg "Plan" = some (.ref C)) : FnOk P w K mg base CX0 1 f fd ["self", "other"] (spEqP K C) := by
  refine F.ok sc_eqP (fun vs H Q E h => ?_) (fun cdv A outer s H vs Q E hr h => ?_)
  · obtain ⟨p, size, rows, y, b, rfl, _⟩ := h
    rfl
  · obtain ⟨p, size, rows, y, b, rfl, hp, hR, hb, k⟩ := h
    have hu : (A.deeper (envOfC "Plan.__eq__" (defScope s_eq) s.heap.objs.size f cdv)).units + 64 < cLine := by
      have := hr.un
      omega
    have hp2 := hp
    obtain ⟨dx, v, e1, dv⟩ := hp
    refine ⟨_, (pss_one (ps_ret (pe_and (pe_callB call_isi (by rfl) B.n_isinstance (by decide +kernel) (pa_cons (pv 1) (pa_cons (pe_glob (v := .ref C) rfl gC rfl) pa_nil))) (pe_and (pe_cmpR op_eq (pe_fld (pv 0) rfl) (pe_fld (pv 1) rfl) (nomark _)) (pe_one (pe_cmpR (op_eqD hu) (pe_fld (pv 0) rfl) (pe_fld (pv 1) rfl) (nomark _))))))), ?_⟩
    rcases hb with ⟨q, s2, r2, rfl, hq, hR2, rfl⟩ | ⟨rfl, t, ty, kt⟩
    · have hq2 := hq
      obtain ⟨dy, v2, e2, dv2⟩ := hq
      refine ⟨_, rfl, .ref q, .ref C, .ref C, .ref C, true, rfl, .own C, T.ty hq2, T.kc, _, rfl, ?_⟩
      refine ⟨_, rfl, p, C, dx, _, _, rfl, e1, T.c.cls, T.c.no_size, rfl, _, rfl, q, C, dy, _, _, rfl, e2, T.c.cls, T.c.no_size, rfl, rfl, _, rfl, ?_⟩
      by_cases c : size = s2
      · subst c
        rw [if_pos (by simp)]
        rw [decide_eq_true rfl, Bool.true_and] at k
        refine ⟨_, rfl, p, C, dx, _, _, rfl, e1, T.c.cls, T.c.no_rows, rfl, _, rfl, q, C, dy, _, _, rfl, e2, T.c.cls, T.c.no_rows, rfl, _, _, dv, dv2, shaped_rows hR, shaped_rows hR2, ?_⟩
        rw [eqv_rows]
        exact k
      · rw [if_neg (by simpa using c)]
        rw [decide_eq_false c, Bool.false_and] at k
        exact k
    · exact ⟨_, rfl, y, .ref C, t, .ref C, false, rfl, .own C, ty, kt, _, rfl, k⟩
abbrev s_str : Stmt := inClass (top 26) 10
theorem sc_strP : FnScope ["self"] ["self"] (defScope s_str) := ⟨rfl, rfl, rfl, by decide +kernel, rfl, by decide +kernel, by decide +kernel⟩
theorem ok_strP {f fT pT : Addr} {fd dT : FuncData} (F : Fun K "__str__" "Plan.__str__" s_str f fd) (PC : PlanC K C) (B : TxtB K mg) (GT : FnOk P w K mg base CX0 3 fT dT ["self"] (spTextP K C)) (bT : L2.Binds K dT ["self"] []) (hT : PropOf K C "text" pT fT) :
    FnOk P w K mg base CX0 5 f fd ["self"] (spTextP K C) := by
  refine F.ok sc_strP (fun vs H Q E h => ?_) (fun cdv A outer s H vs Q E hr h => ?_)
  · obtain ⟨p, size, rows, rfl, _⟩ := h
    rfl
  · obtain ⟨p, size, rows, rfl, hp, hR, h0, h1, k⟩ := h
    have hp2 := hp
    obtain ⟨dx, v, e1, dv⟩ := hp
    refine ⟨_, (pss_one (ps_ret (pe_callTy SkE.call_str_str (by rfl) B.n_str (by decide +kernel) (pa_cons (pe_prop (pv 0) PC.cls hT GT hr bT .nil pass0 rfl) pa_nil)))), ?_⟩
    exact ⟨_, rfl, p, dx, _, rfl, e1, p, size, rows, rfl, hp2, hR, h0, h1, fun H' s' => ⟨_, rfl, k H' s'⟩⟩
abbrev s_repr : Stmt := inClass (top 26) 11
theorem sc_reprP : FnScope ["self"] ["self"] (defScope s_repr) := ⟨rfl, rfl, rfl, by decide +kernel, rfl, by decide +kernel, by decide +kernel⟩
theorem ok_reprP {f : Addr} {fd : FuncData} (F : Fun K "__repr__" "Plan.__repr__" s_repr f fd) (PC : PlanC K C) : FnOk P w K mg base CX0 1 f fd ["self"] (spReprP K C) := by
  refine F.ok sc_reprP (fun vs H Q E h => ?_) (fun cdv A outer s H vs Q E hr h => ?_)
  · obtain ⟨p, size, rows, rfl, _⟩ := h
    rfl
  · obtain ⟨p, size, rows, rfl, ⟨dx, v, e1, dv⟩, h0, h1, k⟩ := h
    refine ⟨_, (pss_one (ps_ret (pe_joinedN (PJ.cons pe_str (PJ.cons (pe_fmt (pe_fld (pv 0) rfl)) (PJ.cons pe_str PJ.nil)))))), ?_⟩
    have l1 := ts_fit h0 h1
    refine ⟨"Plan(", rfl, fits rfl, ?_⟩
    refine ⟨_, rfl, p, C, dx, _, _, rfl, e1, PC.cls, PC.no_size, rfl, .inr ⟨size, rfl, log_fit h0 h1, _, rfl, ?_, ?_⟩⟩
    · rw [PySem.Str.length_append]
      exact fit2 (Nat.le_trans (Nat.add_le_add_left l1 _) (by decide))
    · refine ⟨" ticks)", rfl, ?_, ?_⟩
      · rw [PySem.Str.length_append, PySem.Str.length_append]
        exact fit2 (Nat.le_trans (Nat.add_le_add_right (Nat.add_le_add_left l1 _) _) (by decide))
      · rw [str_nil]
        exact k
end
end Sp
set_option Elab.async false
set_option linter.all false
set_option maxRecDepth 100000
set_option maxHeartbeats 4000000
namespace Dl
open PySem PySem.Spec PyProof.Rows L2 Sp RZ
theorem alpha : ("ABCDEFGHIJKLMNOPQRSTUVWXYZ" : Str).cps.toList = (List.range 26).map fun k => 65 + k := by decide +kernel
theorem nm_in (z : Str) : inV (.str z) (sgnV "ABCDEFGHIJKLMNOPQRSTUVWXYZ") = isNm z := by
  rw [Bool.eq_iff_iff]
  unfold inV sgnV
  rw [alpha, List.any_eq_true]
  have a0 : ("A" : Str).cps.toList = [65] := by decide +kernel
  have z0 : ("Z" : Str).cps.toList = [90] := by decide +kernel
  simp only [isNm, Bool.and_eq_true, decide_eq_true_eq, Bool.not_eq_true', decide_eq_false_iff_not, a0, z0]
  constructor
  · rintro ⟨x, hx, e⟩
    obtain ⟨c, hc, rfl⟩ := List.mem_map.mp hx
    obtain ⟨k, hk, rfl⟩ := List.mem_map.mp hc
    have hk := List.mem_range.mp hk
    have e : ((⟨#[65 + k]⟩ : Str) == z) = true := e
    have e := beq_iff_eq.mp e
    subst e
    refine ⟨rfl, ?_, ?_⟩
    · intro h
      have h : [65 + k] < [65] := h
      simp [List.cons_lt_cons_iff] at h
      omega
    · intro h
      have h : [90] < [65 + k] := h
      simp [List.cons_lt_cons_iff] at h
      omega
  · rintro ⟨h1, h2, h3⟩
    obtain ⟨cs⟩ := z
    have h1 : cs.size = 1 := h1
    obtain ⟨c, rfl⟩ := Array.size_eq_one_iff.mp h1
    have h2 : ¬ [c] < [65] := h2
    have h3 : ¬ [90] < [c] := h3
    simp [List.cons_lt_cons_iff] at h2 h3
    refine ⟨.str ⟨#[c]⟩, List.mem_map.mpr ⟨c, List.mem_map.mpr ⟨c - 65, List.mem_range.mpr (by omega), by omega⟩, rfl⟩, ?_⟩
    show ((⟨#[c]⟩ : Str) == ⟨#[c]⟩) = true
    exact beq_self_eq_true _
theorem nm_str {z : Str} (h : isNm z = true) : z.length = 1 ∧ ∀ c ∈ z.cps.toList, c < 1114112 := by
  rw [← nm_in] at h
  unfold inV sgnV at h
  rw [alpha, List.any_eq_true] at h
  obtain ⟨x, hx, e⟩ := h
  obtain ⟨c, hc, rfl⟩ := List.mem_map.mp hx
  obtain ⟨k, hk, rfl⟩ := List.mem_map.mp hc
  have hk := List.mem_range.mp hk
  have e : ((⟨#[65 + k]⟩ : Str) == z) = true := e
  have e := beq_iff_eq.mp e
  subst e
  refine ⟨rfl, fun c hc => ?_⟩
  have hc : c ∈ [65 + k] := hc
  rw [List.mem_singleton.mp hc]
  omega
theorem pn_name {z : Str} (h : isNm z = true) : Pn 1 0 (.str z) := by
  obtain ⟨l, c⟩ := nm_str h
  exact ⟨by simp only [lvD, List.all_eq_true, decide_eq_true_eq]; exact c, by simp only [wtD]; omega, by simp [dpD], by simp [noL], by simp [noDi]⟩

/-! rows of a plan -/
def rowD (r : Str × List Int) : D := .tup [.str r.1, .tup (r.2.map .int)]
def inTicks (n : Int) (x : Int) : Prop := 0 ≤ x ∧ x < n
def upS (ls : List Str) : Prop := ls.Pairwise fun a b => a.cps.toList < b.cps.toList
theorem rising_strs : ∀ {ls : List Str}, upS ls → rising (ls.map D.str) = true
  | [], _ => rfl
  | [_], _ => rfl
  | a :: b :: ls, h => by
    have h1 := List.pairwise_cons.mp h
    have ih := rising_strs (ls := b :: ls) h1.2
    have e : rising ((a :: b :: ls).map D.str) = (decide (a.cps.toList < b.cps.toList) && rising ((b :: ls).map D.str)) := rfl
    rw [e, ih, decide_eq_true (h1.1 b (List.mem_cons_self ..))]
    rfl
theorem rising_ints : ∀ {ns : List Int}, ns.Pairwise (· < ·) → rising (ns.map D.int) = true
  | [], _ => rfl
  | [_], _ => rfl
  | a :: b :: ns, h => by
    have h1 := List.pairwise_cons.mp h
    have ih := rising_ints (ns := b :: ns) h1.2
    have e : rising ((a :: b :: ns).map D.int) = (decide (a < b) && rising ((b :: ns).map D.int)) := rfl
    rw [e, ih, decide_eq_true (h1.1 b (List.mem_cons_self ..))]
    rfl
theorem upV_strs : ∀ {ls : List Str}, upS ls → (upV (ls.map V.str)).all id = true
  | [], _ => rfl
  | [_], _ => rfl
  | a :: b :: ls, h => by
    have h1 := List.pairwise_cons.mp h
    have ih := upV_strs (ls := b :: ls) h1.2
    have e : (upV ((a :: b :: ls).map V.str)).all id = (decide (a.cps.toList < b.cps.toList) && (upV ((b :: ls).map V.str)).all id) := rfl
    rw [e, ih, decide_eq_true (h1.1 b (List.mem_cons_self ..))]
    rfl
theorem upV_ints : ∀ {ns : List Int}, ns.Pairwise (· < ·) → upR ns = true
  | [], _ => rfl
  | [_], _ => rfl
  | a :: b :: ns, h => by
    have h1 := List.pairwise_cons.mp h
    have ih := upV_ints (ns := b :: ns) h1.2
    have e : upR (a :: b :: ns) = (decide (a < b) && upR (b :: ns)) := rfl
    rw [e, ih, decide_eq_true (h1.1 b (List.mem_cons_self ..))]
    rfl
structure RowG (n : Int) (r : Str × List Int) : Prop where
  nm : isNm r.1 = true
  len : r.2.length ≤ 60
  tk : ∀ x ∈ r.2, inTicks n x
  up : r.2.Pairwise (· < ·)
/-- rows of a plan of n ticks -/
structure RowsG (n : Int) (rs : List (Str × List Int)) : Prop where
  rows : ∀ r ∈ rs, RowG n r
  up : upS (rs.map (·.1))
  fit : rs.length ≤ 5
theorem RowG.ticks {n : Int} {r : Str × List Int} (h : RowG n r) : areTicksF (.tup (r.2.map .int)) n = true := by
  show ((r.2.map D.int).all (fun x => isIntF x 0 (n - 1)) && rising (r.2.map D.int)) = true
  rw [rising_ints h.up, Bool.and_true, List.all_map, List.all_eq_true]
  intro x hx
  have z := h.tk x hx
  show (decide (0 ≤ x) && decide (x ≤ n - 1)) = true
  rw [decide_eq_true z.1, decide_eq_true (show x ≤ n - 1 by have := z.2; omega)]
  rfl
theorem RowsG.are {n : Int} {rs : List (Str × List Int)} (h : RowsG n rs) : areRowsF (.tup (rs.map rowD)) n = true := by
  show ((rs.map rowD).all (pairOk n) && rising ((rs.map rowD).map fstD)) = true
  have e : (rs.map rowD).map fstD = (rs.map (·.1)).map D.str := by
    rw [List.map_map, List.map_map]
    rfl
  rw [e, rising_strs h.up, Bool.and_true, List.all_map, List.all_eq_true]
  intro r hr
  have z := h.rows r hr
  show (isNm r.1 && areTicksF (.tup (r.2.map .int)) n) = true
  rw [z.nm, z.ticks]
  rfl
theorem RowsG.sp {n : Int} {rs : List (Str × List Int)} (h : RowsG n rs) : Sp.Rows n rs := by
  refine ⟨fun r hr => (h.rows r hr).nm, fun r hr => ?_, ?_, by have := h.fit; omega⟩
  · have z := h.rows r hr
    refine ⟨fun x hx => ?_, upV_ints z.up, by have := z.len; omega⟩
    have w := z.tk x hx
    show (decide (0 ≤ x) && decide (x ≤ n - 1)) = true
    rw [decide_eq_true w.1, decide_eq_true (show x ≤ n - 1 by have := w.2; omega)]
    rfl
  · have e : (rs.map fun r => V.str r.1) = (rs.map (·.1)).map V.str := by
      rw [List.map_map]
      rfl
    rw [e]
    exact upV_strs h.up
/-- the rows of the first ticks -/
def cutT (m : Int) (ns : List Int) : List Int := ns.filter fun t => decide (t < m)
def cutR (m : Int) (rs : List (Str × List Int)) : List (Str × List Int) := rs.map fun r => (r.1, cutT m r.2)
theorem RowsG.cut {n m : Int} {rs : List (Str × List Int)} (h : RowsG n rs) : RowsG m (cutR m rs) := by
  refine ⟨fun r hr => ?_, ?_, by unfold cutR; rw [List.length_map]; exact h.fit⟩
  · obtain ⟨q, hq, rfl⟩ := List.mem_map.mp hr
    have z := h.rows q hq
    refine ⟨z.nm, Nat.le_trans (List.length_filter_le ..) z.len, fun x hx => ?_, z.up.filter _⟩
    obtain ⟨h1, h2⟩ := List.mem_filter.mp hx
    exact ⟨(z.tk x h1).1, by simpa using h2⟩
  · have e : (cutR m rs).map (·.1) = rs.map (·.1) := by
      unfold cutR
      rw [List.map_map]
      rfl
    rw [e]
    exact h.up
theorem cutT_cut {a b : Int} {ns : List Int} (h : a ≤ b) : cutT a (cutT b ns) = cutT a ns := by
  unfold cutT
  rw [List.filter_filter]
  refine List.filter_congr fun x _ => ?_
  by_cases c : x < a
  · simp [c, show x < b by omega]
  · simp [c]
theorem cutR_cut {a b : Int} {rs : List (Str × List Int)} (h : a ≤ b) : cutR a (cutR b rs) = cutR a rs := by
  unfold cutR
  rw [List.map_map]
  refine List.map_congr_left fun r _ => ?_
  show (r.1, cutT a (cutT b r.2)) = _
  rw [cutT_cut h]
theorem cutR_all {n : Int} {rs : List (Str × List Int)} (h : RowsG n rs) : cutR n rs = rs := by
  unfold cutR
  refine (List.map_congr_left fun r hr => ?_).trans (List.map_id _)
  show (r.1, cutT n r.2) = r
  have : cutT n r.2 = r.2 := by
    unfold cutT
    rw [List.filter_eq_self]
    intro x hx
    exact decide_eq_true ((h.rows r hr).tk x hx).2
  rw [this]
/-- rows as data of the other kind -/
theorem toPs_ints' : ∀ ns : List Int, toPs (ns.map D.int) = some (ns.map PyData.int)
  | [] => by simp [toPs]
  | n :: ns => by simp [toPs, toP, toPs_ints' ns]
theorem toPs_rows' : ∀ rs : List (Str × List Int), toPs (rs.map rowD) = some (rs.map Sp.rowD)
  | [] => by simp [toPs]
  | r :: rs => by simp [toPs, toP, toPs_rows' rs, rowD, Sp.rowD, Sp.ticksD, toPs_ints']
theorem toP_rows (rs : List (Str × List Int)) : toP (.tup (rs.map rowD)) = some (Sp.rowsD rs) := by
  simp [toP, toPs_rows', Sp.rowsD]
/-- a plan -/
def planD (Cp : Addr) (n : Int) (rs : List (Str × List Int)) : D := .obj Cp ["_size", "_rows"] [.int n, .tup (rs.map rowD)]
theorem plan_at {K : PySem.W.Frag} {H H' : Hp} {v : V} {Cp : Addr} {n : Int} {rs : List (Str × List Int)} (h : Dt K H v (planD Cp n rs)) (s : Same H H') : ∃ a, v = .ref a ∧ Sp.PlanAt K Cp H' a n rs := by
  unfold planD at h
  generalize en : (["_size", "_rows"] : List Str) = ns at h
  generalize ed : [D.int n, .tup (rs.map rowD)] = ds at h
  cases h with
  | @obj a C dx fs ds e q =>
    subst ed
    match fs, en, q with
    | [(f1, v1), (f2, v2)], en, q =>
      simp only [List.map_cons, List.map_nil, List.cons.injEq, and_true] at en
      obtain ⟨rfl, rfl⟩ := en
      simp only [List.map_cons, List.map_nil] at q
      cases q with
      | cons q1 q2 =>
        cases q2 with
        | cons q2 q3 =>
          cases q1
          exact ⟨a, rfl, dx, v2, s _ _ e, q2.dp s (toP_rows rs)⟩
theorem Val.plan {C : Cxt} {cs : Cs} {H : Hp} {v : V} {Cp : Addr} {n : Int} {rs : List (Str × List Int)} (h : Val C cs H v (planD Cp n rs)) : ∃ a, v = .ref a ∧ Sp.PlanAt C.K Cp H a n rs := plan_at (h.dt trivial) (hid_sub _ _)
/-! data of tuples, seen again with what is hidden -/
mutual
def ofP : PyData → D
  | .none => .non
  | .bool b => .bl b
  | .int i => .int i
  | .str z => .str z
  | .tuple ps => .tup (ofPs ps)
  | _ => .pur
def ofPs : List PyData → List D
  | [] => []
  | p :: ps => ofP p :: ofPs ps
end
mutual
def tupP : PyData → Bool
  | .none => true
  | .bool _ => true
  | .int _ => true
  | .str _ => true
  | .tuple ps => tupPs ps
  | _ => false
def tupPs : List PyData → Bool
  | [] => true
  | p :: ps => tupP p && tupPs ps
end
theorem SqT.hide {K : PySem.W.Frag} {A : List Addr} {H : Hp} {a : Addr} {xs : List V} (occ : Occ A H) (h : SqT K H a xs) : SqT K (hid A H) a xs := by
  have nA : ∀ {o : HO}, H a = some o → (∀ ys, o ≠ .lst ys) → a ∉ A := fun {o} e n z => by
    obtain ⟨ys, q⟩ := occ a z
    rw [q] at e
    exact n ys (Option.some.inj e).symm
  rcases h with (h | ⟨o, h⟩) | h
  · exact .inl (.inl (hid_of (nA h (fun _ => nofun)) h))
  · exact .inl (.inr ⟨o, hid_of (nA h (fun _ => nofun)) h⟩)
  · exact .inr h
mutual
theorem Dp.hide {K : PySem.W.Frag} {A : List Addr} {H : Hp} (occ : Occ A H) : ∀ {p : PyData} {v : V}, Dp K H v p → tupP p = true → Dt K (hid A H) v (ofP p)
  | _, _, .non, _ => .non
  | _, _, .bl b, _ => .bl b
  | _, _, .int i, _ => .int i
  | _, _, .str x, _ => .str x
  | .tuple ps, _, .tup a b, e => by
    simp only [tupP] at e
    simp only [ofP]
    exact .tup (SqT.hide occ a) (DpAll.hide occ b e)
  | .list ps, _, .lst a b, e => by simp [tupP] at e
theorem DpAll.hide {K : PySem.W.Frag} {A : List Addr} {H : Hp} (occ : Occ A H) : ∀ {ps : List PyData} {vs : List V}, DpAll K H vs ps → tupPs ps = true → DtA K (hid A H) vs (ofPs ps)
  | _, _, .nil, _ => .nil
  | p :: ps, _, .cons a b, e => by
    simp only [tupPs, Bool.and_eq_true] at e
    simp only [ofPs]
    exact .cons (Dp.hide occ a e.1) (DpAll.hide occ b e.2)
end
end Dl
set_option Elab.async false
set_option linter.all false
set_option maxRecDepth 100000
set_option maxHeartbeats 4000000
/-! repr of data and of plans, also where an exception is handled -/
namespace Ex
open PySem PySem.Spec PyProof.Rows L2 L2H Sp
section
variable {X : Cx} {k : Nat} {f C : Addr} {fd : FuncData} {ps : List Str} {sp : Addr → Value → Option Addr → Sp} {a : Addr} {oe : Obj} {cls : Value} {d : Option Addr}
theorem run_ownE {pins : List (Addr × Obj)} {σ : L2.St} {H : Hp} {s : Shared} {A : Around} {vs : List V} {us : List Value} {Q' : VK} (hfr : A.frames = X.A.frames) (F : FnE X.prog X.w X.K X.mg X.base k f fd ps sp) (hgd : A.guards = some []) (hr : RoomH k A) (hp : (a, oe) ∈ X.pn) (hz : Zc cls d oe) (hf : ∃ vs, oe.data = .fields vs) (hb : L2.Binds X.K fd ps [])
    (I : L2.Inv X pins σ H s) (r : L2.Vals vs us) (h : sp a cls d vs H Q' E0) :
    wpAny (model X.prog X.w) A (call (.ref f) us) (fun v s' => ∃ x H', L2.Inv X pins σ H' s' ∧ RelV x v ∧ Q' x H') X.xe s := by
  have e0 : Env0 X.prog X.w X.K X.mg X.base A X.stack s H := by
    have e := I.env0
    exact ⟨by rw [hfr]; exact e.frames, e.mod, e.bs, e.bsz, e.funs, e.frf, e.hok, e.bare⟩
  have hl : us.length = ps.length := by rw [← r.length]; exact F.len _ _ _ _ _ _ _ h
  have b := hb s us I.kIn (by rw [List.append_nil]; exact hl)
  rw [List.append_nil] at b
  have P1 := I.pin (a, oe) (List.mem_append_left _ hp)
  have hpin : PinOk X.stack H s (a, oe) := ⟨P1.1, P1.2.1, fun hm => (List.mem_cons.mp (I.stkSub a hm)).elim P1.2.2.1 P1.2.2.2.1, P1.2.2.2.2⟩
  refine wpAny_call (codeAny_mono (F.run A X.stack s H ⟨us, []⟩ us vs Q' E0 a oe cls d hr hgd hpin hz hf e0 b r h) fun r s' hq => ?_)
  cases r with
  | error e => exact hq.elim
  | ok fl =>
    cases fl with
    | ret w =>
      obtain ⟨z, H', I', rz, q⟩ := I.after hq
      exact ⟨z, H', I', rz, q⟩
    | next => exact False.elim hq
    | brk => exact False.elim hq
    | cont => exact False.elim hq
theorem call_reprE (hs : PySem.W.findIn X.K (.ref C) "__repr__" = some (some (.ref f))) (hi : PySem.W.isFn X.K (.ref f) = true) (F : FnE X.prog X.w X.K X.mg X.base k f fd ps sp) (hgd : X.A.guards = some []) (hr : RoomH (k + 1) X.A) (hp : (a, oe) ∈ X.pn) (hz : Zc cls d oe) (hf : ∃ vs, oe.data = .fields vs) (hb : L2.Binds X.K fd ps []) :
    CallR X (.builtin "repr") (rStrI C (sp a cls d) E0) := by
  intro pins s σ H xs us Q I r h
  obtain ⟨b, dx, fs, rfl, eb, h⟩ := h
  obtain ⟨mA, J, _⟩ := ins_get I.hok eb
  obtain ⟨od, J, _⟩ := J.look
  obtain ⟨m, hF⟩ := I.fr
  rw [Vals.ref1 r]
  have hr1 : RoomH k X.A.in1 := ⟨by have := hr.dp; show X.A.depth + 3 * k + 5 < _; omega, by have := hr.un; show X.A.units + 1 + 16 * k + 200 < _; omega⟩
  refine PySem.W.repr_K (by have := hr1.un; omega) hF I.ok.mod.kin J hs hi (wpAny_mono (run_ownE rfl F hgd hr1 hp hz hf hb I (.cons (show L2.RelV (.ref b) (.ref b) from rfl) .nil) h) (fun w s' q => ?_) fun _ _ e => e)
  obtain ⟨z, H', I', rz, y, rfl, q⟩ := q
  obtain ⟨t, rfl⟩ := rz
  exact ⟨.str y, H', I', ⟨t, rfl⟩, q⟩
end
section
variable {P : Program} {w : World} {K : PySem.W.Frag} {mg : Str → Option Value} {base : Heap} {C : Addr}
theorem e_repr {f : Addr} {fd : FuncData} (F : Fun K "__repr__" "Plan.__repr__" Sp.s_repr f fd) (PC : Sp.PlanC K C) : FnE P w K mg base 1 f fd ["self"] (fun _ _ _ => Sp.spReprP K C) := by
  refine okE F Sp.sc_reprP (fun a cls d vs H Q E h => ?_) (fun cdv A outer s H vs Q E a oe cls d hr hg hz hf h => ?_)
  · obtain ⟨p, size, rows, rfl, _⟩ := h
    rfl
  · obtain ⟨p, size, rows, rfl, ⟨dx, v, e1, dv⟩, h0, h1, k⟩ := h
    refine ⟨_, (pss_one (ps_ret (pe_joinedN (PJ.cons pe_str (PJ.cons (pe_fmt (pe_fld (pv 0) rfl)) (PJ.cons pe_str PJ.nil)))))), ?_⟩
    have l1 := ts_fit h0 h1
    refine ⟨"Plan(", rfl, fits rfl, ?_⟩
    refine ⟨_, rfl, p, C, dx, _, _, rfl, e1, PC.cls, PC.no_size, rfl, .inr ⟨size, rfl, log_fit h0 h1, _, rfl, ?_, ?_⟩⟩
    · rw [PySem.Str.length_append]
      exact fit2 (Nat.le_trans (Nat.add_le_add_left l1 _) (by decide))
    · refine ⟨" ticks)", rfl, ?_, ?_⟩
      · rw [PySem.Str.length_append, PySem.Str.length_append]
        exact fit2 (Nat.le_trans (Nat.add_le_add_right (Nat.add_le_add_left l1 _) _) (by decide))
      · rw [str_nil]
        exact k
end
end Ex
namespace Dl
open PySem PySem.Spec PyProof.Rows L2 Sp RZ
/-- what repr shows: of data, of a plan -/
inductive RokX (Cp : Addr) : D → Str → Prop
  | r {d : D} {p : PyData} : Rok d p → RokX Cp d p.shown
  | o {n : Int} {rs : List (Str × List Int)} : 0 ≤ n → n ≤ 10000 → RokX Cp (planD Cp n rs) (Sp.reprS n)
/-- Plan's own repr, as it stands, and where an exception is handled -/
structure RpO (P : Program) (w : World) (K : PySem.W.Frag) (mg : Str → Option Value) (base : Heap) (Cp : Addr) : Prop where
  ex : ∃ f fd, PySem.W.findIn K (.ref Cp) "__repr__" = some (some (.ref f)) ∧ PySem.W.isFn K (.ref f) = true ∧ FnOk P w K mg base CX0 1 f fd ["self"] (Sp.spReprP K Cp) ∧ Ex.FnE P w K mg base 1 f fd ["self"] (fun _ _ _ => Sp.spReprP K Cp) ∧ L2.Binds K fd ["self"] []
def rReprX (K : PySem.W.Frag) (Cp : Addr) : List V → Hp → VK → Prop := fun xs H Q => rReprD K xs H Q ∨ rStrI Cp (Sp.spReprP K Cp) E0 xs H Q
section
variable {X : Cx} {Cp : Addr}
theorem call_reprX (T : RpO X.prog X.w X.K X.mg X.base Cp) (hr : Room 2 X.A) (hg : X.A.guards = some []) : CallR X (.builtin "repr") (rReprX X.K Cp) := by
  obtain ⟨f, fd, h1, h2, F, _, hb⟩ := T.ex
  exact CallR.or (call_reprD (by have := hr.un; omega) hg) (call_reprI h1 h2 F hr hb pass0)
theorem call_reprXE {a : Addr} {oe : Obj} {cls : Value} {d : Option Addr} (T : RpO X.prog X.w X.K X.mg X.base Cp) (hr : L2H.RoomH 2 X.A) (hg : X.A.guards = some []) (hp : (a, oe) ∈ X.pn) (hz : Zc cls d oe) (hf : ∃ vs, oe.data = .fields vs) : CallR X (.builtin "repr") (rReprX X.K Cp) := by
  obtain ⟨f, fd, h1, h2, _, F, hb⟩ := T.ex
  exact CallR.or (call_reprD (by have := hr.un; omega) hg) (Ex.call_reprE h1 h2 F hg hr hp hz hf hb)
theorem c_reprX {C : Cxt} {P : D → Prop} {d : D} {s : Str} (k : RokX Cp d s) (q : P (.str s)) : CallD C (rReprX C.K Cp) [d] P := fun cs H vs g0 hv Q qq => by
  cases k with
  | r k => exact .inl (c_repr k q cs H vs g0 hv Q qq)
  | o h0 h1 =>
    obtain ⟨v, rfl, a⟩ := vals1 hv
    obtain ⟨b, rfl, pl⟩ := a.plan
    have pl2 := pl
    obtain ⟨dx, u, e1, _⟩ := pl2
    exact .inr ⟨b, dx, _, rfl, e1, b, _, _, rfl, pl, h0, h1, _, rfl, qq _ _ H (Same.refl H) (.c (.str _)) q⟩
end
end Dl
set_option Elab.async false
set_option linter.all false
set_option maxRecDepth 100000
set_option maxHeartbeats 4000000
namespace Dl
open PySem PySem.Spec PyProof.Rows L2 Sp RZ L2H
local macro_rules | `(tactic| walk_at "dd1") => `(tactic| first
  | ((with_reducible refine' w_var ?hv ?hk); (case hv => exact rfl))
  | with_reducible refine w_int ?_
  | with_reducible refine w_str ?_
  | with_reducible refine w_bl ?_
  | with_reducible refine w_non ?_
  | with_reducible refine w_ty ?_
  | with_reducible refine w_raw ?_
  | with_reducible refine w_nil ?_
  | with_reducible refine w_cons ?_
  | with_reducible refine w_cb ?_
  | with_reducible refine w_op ?_
  | with_reducible refine w_un ?_
  | with_reducible refine w_andV ?_
  | with_reducible refine w_orV ?_
  | with_reducible refine w_notV ?_
  | with_reducible refine w_if ?_
  | with_reducible refine w_and ?_
  | with_reducible refine w_or ?_
  | with_reducible refine w_not ?_
  | with_reducible refine w_test ?_
  | with_reducible refine w_tb ?_
  | with_reducible refine w_chain ?_
  | with_reducible refine w_tup ?_
  | with_reducible refine w_lst ?_
  | with_reducible refine w_sl ?_
  | with_reducible refine p_none ?_
  | with_reducible refine p_some ?_
  | with_reducible refine w_call ?_
  | with_reducible refine s_seq ?_
  | with_reducible refine s_nil ?_
  | with_reducible refine s_ret ?_
  | with_reducible refine s_if ?_
  | with_reducible refine s_set ?_
  | with_reducible refine s_drop ?_
  | with_reducible refine s_brk ?_
  | with_reducible refine s_cont ?_
  | with_reducible refine s_asg ?_
  | with_reducible refine o_int ?_
  | with_reducible refine o_cmp ?_
  | with_reducible refine o_ltS ?_
  | with_reducible refine o_leS ?_
  | with_reducible refine o_neg ?_
  | with_reducible refine c_int ?_
  | with_reducible refine c_intB ?_
  | with_reducible refine c_abs ?_
  | with_reducible refine t_yes ?_
  | refine ⟨_, rfl, ?_⟩
  | with_reducible refine ⟨trivial, ?_⟩
  | refine iteT ?_
  | refine iteF ?_)
local macro_rules | `(tactic| walk_at "dd") => `(tactic| repeat (walk_at "dd1"))

section
variable {P : Program} {w : World} {K : PySem.W.Frag} {mg : Str → Option Value} {base : Heap} {Ce : Nat → Addr} {cV cM : Addr}
abbrev s__law_error : Stmt := top 38
theorem sc__law_error : FnScope ["_law_e", "_law_low", "_law_high", "_law_at", "_law_bases", "_law_words"] ["_law_e"] (defScope s__law_error) := ⟨rfl, rfl, rfl, by decide +kernel, rfl, by decide +kernel, by decide +kernel⟩
/-- _law_error(e): the word of its class, what was handed over -/
def spErrorX (K : PySem.W.Frag) (Cp : Addr) (Ce : Nat → Addr) : Addr → Value → Option Addr → Sp := fun a cls d vs H Q _ => ∃ (i : Nat) (dx : Addr) (v : V) (A : List Addr) (g : D) (sh : Str), vs = [.ref a] ∧ i < 9 ∧ cls = .ref (Ce i) ∧ d = some dx ∧ H dx = some (.xd [("given", v)]) ∧ Occ A H ∧ Dt K (hid A H) v g ∧ RokX Cp g sh ∧
  ∀ w H', Same H H' → Dt K (hid A H') w (.tup [.str (wordOf i), .str sh]) → Q w H'
theorem RokX.clean {Cp : Addr} {d : D} {s : Str} (k : RokX Cp d s) : Clean d := by
  cases k with
  | r k =>
    have e := k.r
    cases d <;> first | trivial | (simp [toR] at e)
  | o _ _ => trivial
theorem e_error {Cp : Addr} {f : Addr} {fd : FuncData} (F : Fun K "_law_error" "_law_error" s__law_error f fd) (T : Er K mg Ce cV cM) (B : Bt mg) (RO : RpO P w K mg base Cp) : Ex.FnE P w K mg base 3 f fd ["_law_e"] (spErrorX K Cp Ce) := by
  refine Ex.okE F sc__law_error (fun a cls d vs H Q E h => ?_) (fun cdv A outer s H vs Q E a oe cls d hr hg hz hf h => ?_)
  · obtain ⟨i, dx, v, A, g, p, rfl, _⟩ := h
    rfl
  obtain ⟨i, dx, v, A', g, p, rfl, hi, hc, hd, e, occ, hv, rk, k⟩ := h
  have hu : (A.deeper (envOfC "_law_error" (defScope s__law_error) s.heap.objs.size f cdv)).units + 100 < cLine := by
    have := hr.un
    omega
  have hu64 : (A.deeper (envOfC "_law_error" (defScope s__law_error) s.heap.objs.size f cdv)).units + 64 < cLine := by
    omega
  have hp : ∀ q : Addr × Obj, q ∈ [q] := fun q => List.mem_cons_self
  refine ⟨_, (pss_cons (ps_set (i := 1) sc__law_error.nd rfl (Or.inl rfl) (pe_lst (pa_cons (pe_callB (Ex.call_isP (hp _) hz hf) (by rfl) (B _ (by decide)) (by decide +kernel) (pa_cons (pv 0) (pa_cons (pe_glob (v := .ref _) rfl T.g_InvalidText rfl) pa_nil))) (pa_cons (pe_callB (Ex.call_isP (hp _) hz hf) (by rfl) (B _ (by decide)) (by decide +kernel) (pa_cons (pv 0) (pa_cons (pe_glob (v := .ref _) rfl T.g_InvalidNumber rfl) pa_nil))) (pa_cons (pe_callB (Ex.call_isP (hp _) hz hf) (by rfl) (B _ (by decide)) (by decide +kernel) (pa_cons (pv 0) (pa_cons (pe_glob (v := .ref _) rfl T.g_InvalidRows rfl) pa_nil))) pa_nil)))))
    (pss_cons (ps_set (i := 1) sc__law_error.nd rfl (Or.inl rfl) (pe_op op_cat (pv 1) (pe_lst (pa_cons (pe_callB (Ex.call_isP (hp _) hz hf) (by rfl) (B _ (by decide)) (by decide +kernel) (pa_cons (pv 0) (pa_cons (pe_glob (v := .ref _) rfl T.g_InvalidName rfl) pa_nil))) (pa_cons (pe_callB (Ex.call_isP (hp _) hz hf) (by rfl) (B _ (by decide)) (by decide +kernel) (pa_cons (pv 0) (pa_cons (pe_glob (v := .ref _) rfl T.g_InvalidTicks rfl) pa_nil))) (pa_cons (pe_callB (Ex.call_isP (hp _) hz hf) (by rfl) (B _ (by decide)) (by decide +kernel) (pa_cons (pv 0) (pa_cons (pe_glob (v := .ref _) rfl T.g_InvalidWish rfl) pa_nil))) pa_nil))))))
    (pss_cons (ps_set (i := 1) sc__law_error.nd rfl (Or.inl rfl) (pe_op op_cat (pv 1) (pe_lst (pa_cons (pe_callB (Ex.call_isP (hp _) hz hf) (by rfl) (B _ (by decide)) (by decide +kernel) (pa_cons (pv 0) (pa_cons (pe_glob (v := .ref _) rfl T.g_NotASieve rfl) pa_nil))) (pa_cons (pe_callB (Ex.call_isP (hp _) hz hf) (by rfl) (B _ (by decide)) (by decide +kernel) (pa_cons (pv 0) (pa_cons (pe_glob (v := .ref _) rfl T.g_NotAPlan rfl) pa_nil))) pa_nil)))))
    (pss_cons (ps_set (i := 2) sc__law_error.nd rfl (Or.inl rfl) (pe_lst (pa_cons (pe_callB (Ex.call_isP (hp _) hz hf) (by rfl) (B _ (by decide)) (by decide +kernel) (pa_cons (pv 0) (pa_cons (pe_glob (v := .ref _) rfl T.g_UnknownName rfl) pa_nil))) (pa_cons (pe_callB (Ex.call_isP (hp _) hz hf) (by rfl) (B _ (by decide)) (by decide +kernel) (pa_cons (pv 0) (pa_cons (pe_glob (v := .ref _) rfl T.g_TooMany rfl) pa_nil))) (pa_cons (pe_callB (Ex.call_isP (hp _) hz hf) (by rfl) (B _ (by decide)) (by decide +kernel) (pa_cons (pv 0) (pa_cons (pe_glob (v := .ref _) rfl T.g_Ended rfl) pa_nil))) pa_nil)))))
    (pss_cons (ps_set (i := 2) sc__law_error.nd rfl (Or.inl rfl) (pe_op op_cat (pv 2) (pe_lst (pa_cons (pe_callB (Ex.call_isP (hp _) hz hf) (by rfl) (B _ (by decide)) (by decide +kernel) (pa_cons (pv 0) (pa_cons (pe_glob (v := .ref _) rfl T.g_InUse rfl) pa_nil))) (pa_cons (pe_callB (Ex.call_isP (hp _) hz hf) (by rfl) (B _ (by decide)) (by decide +kernel) (pa_cons (pv 0) (pa_cons (pe_glob (v := .ref _) rfl T.g_NothingToUndo rfl) pa_nil))) (pa_cons (pe_callB (Ex.call_isP (hp _) hz hf) (by rfl) (B _ (by decide)) (by decide +kernel) (pa_cons (pv 0) (pa_cons (pe_glob (v := .ref _) rfl T.g_NotKept rfl) pa_nil))) pa_nil))))))
    (pss_cons (ps_set (i := 3) sc__law_error.nd rfl (Or.inl rfl) (pe_bm PySem.F.plainAttrs_list PySem.F.slot_list_index PySem.F.type_list_index mt_index (pe_op op_cat (pe_op op_cat (pv 1) (pv 2)) (pe_lst (pa_cons pe_bl pa_nil))) (pa_cons pe_bl pa_nil)))
    (pss_cons (ps_set (i := 4) sc__law_error.nd rfl (Or.inl rfl) (pe_lst (pa_cons (pe_callB (Ex.call_isP (hp _) hz hf) (by rfl) (B _ (by decide)) (by decide +kernel) (pa_cons (pv 0) (pa_cons (pe_glob (v := .ref _) rfl T.g_WrongValue rfl) pa_nil))) (pa_cons (pe_callB (Ex.call_isP (hp _) hz hf) (by rfl) (B _ (by decide)) (by decide +kernel) (pa_cons (pv 0) (pa_cons (pe_glob (v := .ref _) rfl T.g_WrongMoment rfl) pa_nil))) pa_nil))))
    (pss_cons (ps_if (PW.pt (pw_or (pt_cmpR op_ne (pe_bm PySem.F.plainAttrs_list PySem.F.slot_list_count PySem.F.type_list_count mt_countF (pe_op op_cat (pv 1) (pv 2)) (pa_cons pe_bl pa_nil)) pe_int (nomark _)) (pw_or (pt_cmpR (op_neD hu64) (pv 4) (pe_lst (pa_cons (pe_cmpR op_lt (pv 3) pe_int (nomark _)) (pa_cons (pe_cmpR op_gt (pv 3) pe_int (nomark _)) pa_nil))) (nomark _)) (pw_or1 (pt_cmpR op_gt (pv 3) pe_int (nomark _)))))) (pss_one (ps_ret (pe_tup (pa_cons pe_str (pa_cons pe_str pa_nil))))) pss_nil)
    (pss_cons (ps_set (i := 5) sc__law_error.nd rfl (Or.inl rfl) (pe_lst (pa_cons pe_str (pa_cons pe_str (pa_cons pe_str (pa_cons pe_str (pa_cons pe_str (pa_cons pe_str (pa_cons pe_str (pa_cons pe_str (pa_cons pe_str pa_nil)))))))))))
    (pss_one (ps_ret (pe_tup (pa_cons (pe_ix (ixLK K) (pv 5) (pv 3) (fun _ _ => rfl)) (pa_cons (pe_callB (call_reprXE (X := (L2H.cxH CX0 P w K mg base ["_law_e", "_law_low", "_law_high", "_law_at", "_law_bases", "_law_words"] "_law_error" (defScope s__law_error) f cdv A outer s H E (a, oe)).nox) RO hr hg (hp _) hz hf) (by rfl) (B _ (by decide)) (by decide +kernel) (pa_cons (Ex.pe_xp (hp _) hz hf (pv 0)) pa_nil)) pa_nil)))))))))))))), ?_⟩
  obtain ⟨Bn, n1, n2, bm, xc⟩ := T.xc i (by omega)
  have kit : ∀ k, k < 14 → PySem.W.kitOne K (.ref (Ce i)) (.ref (Ce k)) = some (decide (k = i)) := T.kit i (by omega)
  refine ws_run (C := ⟨K, pureM, A', H⟩) (P := fun d => d = .tup [.str (wordOf i), .str p]) (ds := [.raw a]) ?_ (good_pure occ) (.cons (.raw a) .nil) rfl (fun d v H' hd kp _ hv => by rw [hd] at hv; exact k v H' (keep_pure.mp kp) hv)
  have hpn : (⟨K, pureM, A', H⟩ : Cxt).m.p ≠ some dx := fun z => nomatch z
  have is_ : ∀ {P : D → Prop} (k : Nat), k < 14 → P (.bl (decide (k = i))) → CallD ⟨K, pureM, A', H⟩ (Ex.rIsP K cls d a) [.raw a, .raw (Ce k)] P := fun {P} k hk q => c_isP hpn hc hd e xc (kit k hk) q
  have isV : ∀ {P : D → Prop}, P (.bl (decide (i < 8))) → CallD ⟨K, pureM, A', H⟩ (Ex.rIsP K cls d a) [.raw a, .raw cV] P := fun {P} q => c_isP hpn hc hd e xc (T.kitV i (by omega)) q
  have isM : ∀ {P : D → Prop}, P (.bl (decide (7 < i))) → CallD ⟨K, pureM, A', H⟩ (Ex.rIsP K cls d a) [.raw a, .raw cM] P := fun {P} q => c_isP hpn hc hd e xc (T.kitM i (by omega)) q
  walk_at "dd"
  refine is_ 0 (by decide) ?_
  walk_at "dd"
  refine is_ 1 (by decide) ?_
  walk_at "dd"
  refine is_ 2 (by decide) ?_
  walk_at "dd"
  refine ⟨by rw [sizeLine_eq]; simp, by simp [Clean], ?_⟩
  refine ⟨trivial, ?_⟩
  walk_at "dd"
  refine is_ 3 (by decide) ?_
  walk_at "dd"
  refine is_ 4 (by decide) ?_
  walk_at "dd"
  refine is_ 5 (by decide) ?_
  walk_at "dd"
  refine ⟨by rw [sizeLine_eq]; simp, by simp [Clean], ?_⟩
  refine o_cat (.inl rfl) (.inl rfl) (by rw [sizeLine_eq]; simp) ?_
  refine ⟨trivial, ?_⟩
  walk_at "dd"
  refine is_ 6 (by decide) ?_
  walk_at "dd"
  refine is_ 7 (by decide) ?_
  walk_at "dd"
  refine ⟨by rw [sizeLine_eq]; simp, by simp [Clean], ?_⟩
  refine o_cat (.inl rfl) (.inl rfl) (by rw [sizeLine_eq]; simp) ?_
  refine ⟨trivial, ?_⟩
  walk_at "dd"
  refine is_ 8 (by decide) ?_
  walk_at "dd"
  refine is_ 9 (by decide) ?_
  walk_at "dd"
  refine is_ 10 (by decide) ?_
  walk_at "dd"
  refine ⟨by rw [sizeLine_eq]; simp, by simp [Clean], ?_⟩
  refine ⟨trivial, ?_⟩
  walk_at "dd"
  refine is_ 11 (by decide) ?_
  walk_at "dd"
  refine is_ 12 (by decide) ?_
  walk_at "dd"
  refine is_ 13 (by decide) ?_
  walk_at "dd"
  refine ⟨by rw [sizeLine_eq]; simp, by simp [Clean], ?_⟩
  refine o_cat (.inl rfl) (.inl rfl) (by rw [sizeLine_eq]; simp) ?_
  refine ⟨trivial, ?_⟩
  walk_at "dd"
  refine w_bmL ?_
  walk_at "dd"
  refine o_cat (.inl rfl) (.inl rfl) (by rw [sizeLine_eq]; simp) ?_
  walk_at "dd"
  refine ⟨by rw [sizeLine_eq]; simp, by simp [Clean], ?_⟩
  refine o_cat (.inl rfl) (.inl rfl) (by rw [sizeLine_eq]; simp) ?_
  refine ⟨⟨_, .inl rfl⟩, ?_⟩
  walk_at "dd"
  refine m_index (bs := isOne i ++ [true]) (.inl rfl) (one_at i hi) (one_no i hi) ?_
  refine ⟨trivial, ?_⟩
  walk_at "dd"
  refine isV ?_
  walk_at "dd"
  refine isM ?_
  walk_at "dd"
  refine ⟨by rw [sizeLine_eq]; simp, by simp [Clean], ?_⟩
  refine ⟨trivial, ?_⟩
  walk_at "dd"
  refine w_bmL ?_
  walk_at "dd"
  refine o_cat (.inl rfl) (.inl rfl) (by rw [sizeLine_eq]; simp) ?_
  refine ⟨⟨_, .inl rfl⟩, ?_⟩
  walk_at "dd"
  refine m_count (bs := isOne i) (.inl rfl) ?_
  rw [one_count i hi]
  walk_at "dd"
  refine o_ne (vx := .int 1) (vy := .int 1) rfl rfl rfl ?_
  refine ⟨false, by simp, ?_⟩
  walk_at "dd"
  refine ⟨by rw [sizeLine_eq]; simp, by simp [Clean], ?_⟩
  refine o_neD (p := .list [.bool (decide (i < 8)), .bool (decide (7 < i))]) (q := .list [.bool (decide ((i : Int) < 8)), .bool (decide ((i : Int) > 7))]) rfl rfl (shaped_bools [decide (i < 8), decide (7 < i)]) (shaped_bools [decide ((i : Int) < 8), decide ((i : Int) > 7)]) ?_
  rw [two_eq i hi]
  refine ⟨false, rfl, ?_⟩
  walk_at "dd"
  rw [if_neg (by simp; omega)]
  walk_at "dd"
  refine ⟨by rw [sizeLine_eq]; simp, by simp [Clean], ?_⟩
  refine ⟨trivial, ?_⟩
  walk_at "dd"
  refine o_ixL (.inl rfl) (word_at i hi) (fun _ => ?_)
  walk_at "dd"
  refine w_xp hpn hc hd e xc (T.no i hi) rfl hv rfl ?_
  walk_at "dd"
  refine c_reprX rk ?_
  walk_at "dd"
  refine ⟨by rw [sizeLine_eq]; simp, by simp [Clean], ?_⟩
  rfl
end
end Dl
set_option Elab.async false
set_option linter.all false
set_option maxRecDepth 100000
set_option maxHeartbeats 4000000
namespace Dl
open PySem PySem.Spec PyProof.Rows L2 Sp RZ
local macro_rules | `(tactic| walk_at "dd1") => `(tactic| first
  | ((with_reducible refine' w_var ?hv ?hk); (case hv => exact rfl))
  | with_reducible refine w_int ?_
  | with_reducible refine w_str ?_
  | with_reducible refine w_bl ?_
  | with_reducible refine w_non ?_
  | with_reducible refine w_ty ?_
  | with_reducible refine w_raw ?_
  | with_reducible refine w_nil ?_
  | with_reducible refine w_cons ?_
  | with_reducible refine w_cb ?_
  | with_reducible refine w_op ?_
  | with_reducible refine w_un ?_
  | with_reducible refine w_andV ?_
  | with_reducible refine w_orV ?_
  | with_reducible refine w_notV ?_
  | with_reducible refine w_if ?_
  | with_reducible refine w_and ?_
  | with_reducible refine w_or ?_
  | with_reducible refine w_not ?_
  | with_reducible refine w_test ?_
  | with_reducible refine w_tb ?_
  | with_reducible refine w_chain ?_
  | with_reducible refine w_tup ?_
  | with_reducible refine w_lst ?_
  | with_reducible refine w_sl ?_
  | with_reducible refine p_none ?_
  | with_reducible refine p_some ?_
  | with_reducible refine w_call ?_
  | with_reducible refine s_seq ?_
  | with_reducible refine s_nil ?_
  | with_reducible refine s_ret ?_
  | with_reducible refine s_if ?_
  | with_reducible refine s_set ?_
  | with_reducible refine s_drop ?_
  | with_reducible refine s_brk ?_
  | with_reducible refine s_cont ?_
  | with_reducible refine s_asg ?_
  | with_reducible refine o_int ?_
  | with_reducible refine o_cmp ?_
  | with_reducible refine o_ltS ?_
  | with_reducible refine o_leS ?_
  | with_reducible refine o_neg ?_
  | with_reducible refine c_int ?_
  | with_reducible refine c_intB ?_
  | with_reducible refine c_abs ?_
  | with_reducible refine t_yes ?_
  | refine ⟨_, rfl, ?_⟩
  | with_reducible refine ⟨trivial, ?_⟩
  | refine iteT ?_
  | refine iteF ?_)
local macro_rules | `(tactic| walk_at "dd") => `(tactic| repeat (walk_at "dd1"))

/-! ### plans made of anything -/
def PlRows (y : D) : Prop := Pl y ∧ (∀ x ∈ itemsOf y, PlP x ∧ (itemsOf x).length ≤ 100000) ∧ (itemsOf y).length ≤ 100000
/-- the error that making a plan of x and y raises: 1 a number, 2 rows -/
def planErr (x y : D) : Option Nat := match x with
  | .int n => if isIntF (.int n) 0 10000 = true then (if areRowsF y n = true then none else some 2) else some 1
  | _ => some 1
/-- Plan.__init__(self, x, y) -/
def spPI (K : PySem.W.Frag) (Cp : Addr) (Ce : Nat → Addr) : Sp := fun vs H Q E => ∃ (a dx : Addr) (A : List Addr) (vx vy : V) (x y : D), vs = [.ref a, vx, vy] ∧ H a = some (.ins Cp dx []) ∧ Occ A H ∧ Dt K (hid A H) vx x ∧ Dt K (hid A H) vy y ∧ Pl x ∧ PlRows y ∧
  (planErr x y = some 1 → ∀ cls d H', Flew K A H H' (Ce 1) x cls d → E cls d H') ∧
  (planErr x y = some 2 → ∀ cls d H', Flew K A H H' (Ce 2) y cls d → E cls d H') ∧
  (planErr x y = none → ∀ H1 H', Same H H1 → But a H1 H' → H' a = some (.ins Cp dx [("_size", vx), ("_rows", vy)]) → Q .non H')
structure PlanC (K : PySem.W.Frag) (C : Addr) : Prop where
  cls : Cls K C
  no_size : NoAttr K C "_size"
  no_rows : NoAttr K C "_rows"
section
variable {P : Program} {w : World} {K : PySem.W.Frag} {mg : Str → Option Value} {base : Heap} {C : Addr} {Ce : Nat → Addr} {cV cM : Addr}
abbrev s_init : Stmt := inClass (top 26) 0
theorem sc_init : FnScope ["self", "size", "rows"] ["self", "size", "rows"] (defScope s_init) := ⟨rfl, rfl, rfl, by decide +kernel, rfl, by decide +kernel, by decide +kernel⟩
abbrev FunI (K : PySem.W.Frag) (dvs : List V) (f : Addr) (fd : FuncData) : Prop := FunD K "__init__" "Plan.__init__" (defArgs s_init) (defBody s_init) (defScope s_init) dvs [] f fd
theorem x_init {dvs : List V} {f : Addr} {fd : FuncData} (F : FunI K dvs f fd) (PC : PlanC K C) (T : Er K mg Ce cV cM) (gM : ∃ t, mg "MOST_TICKS" = some (.int 10000 t)) (M1 : Ex.MkE P w K mg base (Ce 1)) (M2 : Ex.MkE P w K mg base (Ce 2))
    (DI : Df P w K mg base "is_integer_from" 1 ["value", "least", "most"] (spF K g_is_integer_from)) (DR : Df P w K mg base "are_rows" 3 ["value", "size"] (spF K g_are_rows)) : FnOk P w K mg base (L2.CX P w) 4 f fd ["self", "size", "rows"] (spPI K C Ce) := by
  refine F.ok sc_init (fun vs H Q E h => ?_) (fun cdv A outer s H vs Q E hr h => ?_)
  · obtain ⟨a, dx, A, vx, vy, x, y, rfl, _⟩ := h
    rfl
  · obtain ⟨a, dx, A', vx, vy, x, y, rfl, ha, occ, hx, hy, px, py, kN, kR, k⟩ := h
    obtain ⟨tk, gM⟩ := gM
    have take : Takes (cxOf (L2.CX P w) P w K mg base ["self", "size", "rows"] "Plan.__init__" (defScope s_init) f cdv A outer s H E) (fun cls d σ H' => E cls d H') := takes_of rfl rfl rfl rfl
    refine ⟨_, (pss_cons (ps_if (pt_not (pt_val (pe_df DI (hr.mono (by decide)) (pa_cons (pv 1) (pa_cons pe_int (pa_cons (pe_glob (v := .int 10000) rfl gM ⟨tk, rfl⟩) pa_nil)))))) (pss_one (Ex.ps_raiseX rfl take M1 (hr.mono (by decide)) rfl T.g_InvalidNumber (pv 1))) pss_nil)
      (pss_cons (ps_if (pt_not (pt_val (pe_df DR (hr.mono (by decide)) (pa_cons (pv 2) (pa_cons (pv 1) pa_nil))))) (pss_one (Ex.ps_raiseX rfl take M2 (hr.mono (by decide)) rfl T.g_InvalidRows (pv 2))) pss_nil)
      (pss_cons (ps_fld (pv 0) (pv 1) rfl) (pss_one (ps_fld (pv 0) (pv 2) rfl))))), ?_⟩
    have R0 : R ⟨K, pureM, A', H⟩ [] H (L2.start ["self", "size", "rows"] [.ref a, vx, vy]) (startD ["self", "size", "rows"] [.raw a, x, y]) := start_R (C := ⟨K, pureM, A', H⟩) (.cons (.raw a) (.cons hx (.cons hy .nil))) (good_pure occ)
    have cx : Clean x := by cases x <;> first | trivial | exact nomatch px
    have cy : Clean y := by cases y <;> first | trivial | exact nomatch py.1
    unfold tSeq tIfS
    refine (?_ : WT ⟨K, pureM, A', H⟩ _ (startD ["self", "size", "rows"] [.raw a, x, y]) (fun b => b = !isIntF x 0 10000)) [] H _ R0 _ (fun b H1 k1 o1 e1 => ?_)
    · walk_at "dd"
      exact ⟨fun d hd => by
        simp only [List.mem_cons, List.not_mem_nil, or_false] at hd
        rcases hd with rfl | rfl | rfl <;> first | exact cx | trivial, x, 0, 10000, rfl, px, _, rfl, rfl⟩
    have R1 := R0.step k1 o1
    dsimp only
    cases c1 : isIntF x 0 10000 with
    | false =>
      rw [c1] at e1
      rw [e1]
      refine iteT ?_
      refine r_raise (C := ⟨K, pureM, A', H⟩) (PX := fun z => z = x) rfl rfl (w_var rfl ⟨cx, rfl⟩) R1 (fun z cls d H' hz fl => ?_)
      subst hz
      refine kN ?_ cls d H' fl
      unfold planErr
      cases z with
      | int n =>
        dsimp only
        rw [if_neg (by rw [c1]; exact Bool.false_ne_true)]
      | _ => rfl
    | true =>
      rw [c1] at e1
      rw [e1]
      refine iteF ?_
      obtain ⟨n, rfl⟩ : ∃ n, x = .int n := by
        cases x with
        | int n => exact ⟨n, rfl⟩
        | _ => exact nomatch c1
      unfold tNext
      dsimp only
      refine (?_ : WT ⟨K, pureM, A', H⟩ _ (startD ["self", "size", "rows"] [.raw a, .int n, y]) (fun b => b = !areRowsF y n)) [] H1 _ R1 _ (fun b H2 k2 o2 e2 => ?_)
      · walk_at "dd"
        exact ⟨fun d hd => by
          simp only [List.mem_cons, List.not_mem_nil, or_false] at hd
          rcases hd with rfl | rfl <;> first | exact cy | trivial, y, n, rfl, py.1, py.2.1, py.2.2, _, rfl, rfl⟩
      have R2 := R1.step k2 o2
      cases c2 : areRowsF y n with
      | false =>
        rw [c2] at e2
        rw [e2]
        refine iteT ?_
        refine r_raise (C := ⟨K, pureM, A', H⟩) (PX := fun z => z = y) rfl rfl (w_var rfl ⟨cy, rfl⟩) R2 (fun z cls d H' hz fl => ?_)
        subst hz
        refine kR ?_ cls d H' fl
        unfold planErr
        dsimp only
        rw [if_pos c1, if_neg (by rw [c2]; exact Bool.false_ne_true)]
      | true =>
        rw [c2] at e2
        rw [e2]
        refine iteF ?_
        have s2 : Same H H2 := keep_pure.mp (k1.trans k2)
        obtain ⟨v0, f0, g0⟩ := R2.env 0 _ rfl
        obtain ⟨v1, f1, g1⟩ := R2.env 1 _ rfl
        obtain ⟨v2, f2, g2⟩ := R2.env 2 _ rfl
        have q0 := g0.raw
        subst q0
        have hh : (⟨K, pureM, A', H⟩ : Cxt).hd [] = A' := by
          unfold Cxt.hd
          exact List.append_nil _
        have d1 := g1.dt cx
        have d2 := g2.dt cy
        rw [hh] at d1 d2
        refine ⟨_, f1, _, f0, a, C, dx, _, rfl, s2 _ _ ha, PC.cls, PC.no_size, by decide, ?_⟩
        refine ⟨_, f2, _, f0, a, C, dx, _, rfl, upd_same, PC.cls, PC.no_rows, by show 1 < 1000; decide, ?_⟩
        have q1 : v1 = vx := by simpa [L2.start] using f1.symm
        have q2 : v2 = vy := by simpa [L2.start] using f2.symm
        subst q1
        subst q2
        refine k ?_ H2 _ s2 ?_ upd_same
        · unfold planErr
          dsimp only
          rw [if_pos c1, if_pos c2]
        · exact But.put (But.put (But.refl a H2))
end
end Dl
set_option Elab.async false
set_option linter.all false
set_option maxRecDepth 100000
set_option maxHeartbeats 4000000
namespace Dl
open PySem PySem.Spec PyProof.Rows L2 Sp RZ
local macro_rules | `(tactic| walk_at "dd1") => `(tactic| first
  | ((with_reducible refine' w_var ?hv ?hk); (case hv => exact rfl))
  | with_reducible refine w_int ?_
  | with_reducible refine w_str ?_
  | with_reducible refine w_bl ?_
  | with_reducible refine w_non ?_
  | with_reducible refine w_ty ?_
  | with_reducible refine w_raw ?_
  | with_reducible refine w_nil ?_
  | with_reducible refine w_cons ?_
  | with_reducible refine w_cb ?_
  | with_reducible refine w_op ?_
  | with_reducible refine w_un ?_
  | with_reducible refine w_andV ?_
  | with_reducible refine w_orV ?_
  | with_reducible refine w_notV ?_
  | with_reducible refine w_if ?_
  | with_reducible refine w_and ?_
  | with_reducible refine w_or ?_
  | with_reducible refine w_not ?_
  | with_reducible refine w_test ?_
  | with_reducible refine w_tb ?_
  | with_reducible refine w_chain ?_
  | with_reducible refine w_tup ?_
  | with_reducible refine w_lst ?_
  | with_reducible refine w_sl ?_
  | with_reducible refine p_none ?_
  | with_reducible refine p_some ?_
  | with_reducible refine w_call ?_
  | with_reducible refine s_seq ?_
  | with_reducible refine s_nil ?_
  | with_reducible refine s_ret ?_
  | with_reducible refine s_if ?_
  | with_reducible refine s_set ?_
  | with_reducible refine s_drop ?_
  | with_reducible refine s_brk ?_
  | with_reducible refine s_cont ?_
  | with_reducible refine s_asg ?_
  | with_reducible refine o_int ?_
  | with_reducible refine o_cmp ?_
  | with_reducible refine o_ltS ?_
  | with_reducible refine o_leS ?_
  | with_reducible refine o_neg ?_
  | with_reducible refine c_int ?_
  | with_reducible refine c_intB ?_
  | with_reducible refine c_abs ?_
  | with_reducible refine t_yes ?_
  | refine ⟨_, rfl, ?_⟩
  | with_reducible refine ⟨trivial, ?_⟩
  | refine iteT ?_
  | refine iteF ?_)
local macro_rules | `(tactic| walk_at "dd") => `(tactic| repeat (walk_at "dd1"))

theorem room_mark {k : Nat} {A : Around} (r : Room (k + 1) A) (h : Option Value) : L2H.RoomH k (A.mark h) := ⟨by
  have := r.dp
  show A.depth + 3 * k + 5 < _
  omega, by
  have := r.un
  show A.units + 16 * k + 200 < _
  omega⟩
theorem takes_len {X : Cx} {W : WX} (t : Takes X W) : Takes X (fun cls d σ H => σ.length = X.N.length → W cls d σ H) := fun u s' x => by
  obtain ⟨a, B, sI, pins, σ, H, cls, d, e, I, nb, up, sky, na, os, ag, w⟩ := x
  exact t u s' ⟨a, B, sI, pins, σ, H, cls, d, e, I, nb, up, sky, na, os, ag, w I.len⟩
/-- what _law_caught gives for what flies -/
def EchC (K : PySem.W.Frag) (Cp : Addr) (Ce : Nat → Addr) (Q : VK) : XK := fun cls d H' => ∃ (i : Nat) (dx : Addr) (v : V) (A : List Addr) (g : D) (p : Str), i < 9 ∧ cls = .ref (Ce i) ∧ d = some dx ∧ H' dx = some (.xd [("given", v)]) ∧ Occ A H' ∧ Dt K (hid A H') v g ∧ RokX Cp g p ∧
  ∀ w H'', Same H' H'' → Dt K (hid A H'') w (.tup [.str (wordOf i), .str p]) → Q w H''
/-- and for what is returned, a plan -/
def QokC (K : PySem.W.Frag) (Cp : Addr) (Q : VK) : VK := fun u H' => ∃ (A : List Addr) (x y : D) (p : PyData), Occ A H' ∧ Dt K (hid A H') u (.obj Cp ["_size", "_rows"] [x, y]) ∧ Rok (.tup [x, y]) p ∧
  ∀ w H'', Same H' H'' → Dt K (hid A H'') w (.tup [.str "plan", .str p.shown]) → Q w H''
def TTc (K : PySem.W.Frag) (Cp : Addr) (Ce : Nat → Addr) : (XK → Hp → VK → Prop) → Hp → VK → Prop := fun tl H Q => ∀ Qr : VK, (∀ u H', QokC K Cp Q u H' → Qr u H') → tl (EchC K Cp Ce Q) H Qr
/-- the getters of Plan -/
structure PlanG (P : Program) (w : World) (K : PySem.W.Frag) (mg : Str → Option Value) (base : Heap) (C : Addr) : Prop where
  oc : ObjC K C
  self : PySem.W.kitOne K (.ref C) (.ref C) = some true
  size : ∃ p g fd, PropOf K C "size" p g ∧ FnOk P w K mg base CX0 1 g fd ["self"] (getSp C "_size") ∧ Binds K fd ["self"] []
  rows : ∃ p g fd, PropOf K C "rows" p g ∧ FnOk P w K mg base CX0 1 g fd ["self"] (getSp C "_rows") ∧ Binds K fd ["self"] []
section
variable {P : Program} {w : World} {K : PySem.W.Frag} {mg : Str → Option Value} {base : Heap} {C : Addr} {Ce : Nat → Addr} {cV cM : Addr}
abbrev s__law_caught : Stmt := top 39
theorem sc__law_caught : FnScope ["_law_act", "_law_told", "_law_e"] ["_law_act"] (defScope s__law_caught) := ⟨rfl, rfl, rfl, by decide +kernel, rfl, by decide +kernel, by decide +kernel⟩
theorem caught_gives {X : Cx} {Cp fE : Addr} {fdE : FuncData} {g : Addr} {cdg : Value} {q : Str} (T : Er X.K X.mg Ce cV cM) (B : Bt X.mg) (PG : PlanG X.prog X.w X.K X.mg X.base Cp) (gP : X.mg "Plan" = some (.ref Cp))
    (exm : ∀ i, i < 14 → PySem.W.exmAny X.K (.ref (Ce i)) [.ref cV, .ref cM] = some true) (FE : Ex.FnE X.prog X.w X.K X.mg X.base 3 fE fdE ["_law_e"] (spErrorX X.K Cp Ce)) (gE : X.mg "_law_error" = some (.ref fE)) (kE : PySem.W.keepIn X.K (.ref fE) = true) (bE : Binds X.K fdE ["_law_e"] [])
    (hgd : X.A.guards = some []) (hr : ∀ n, Room 4 (X.A.deeper (envOfC "_law_caught" (defScope s__law_caught) n g cdg))) :
    LamX.GivesTo X ["_law_act", "_law_told", "_law_e"] "_law_caught" (defScope s__law_caught) g cdg (defBody s__law_caught) "_law_act" q (TTc X.K Cp Ce) := by
  intro f c' s H Q tl act hc h
  have hr2 := hr s.heap.objs.size
  have hu : (X.A.deeper (envOfC "_law_caught" (defScope s__law_caught) s.heap.objs.size g cdg)).units + 100 < cLine := by
    have := hr2.un
    omega
  obtain ⟨p1, g1, fd1, pr1, G1, b1⟩ := PG.size
  obtain ⟨p2, g2, fd2, pr2, G2, b2⟩ := PG.rows
  refine ⟨_, (pss_cons (Ex.ps_try_as2 (X := (cxOf C8.CX0 X.prog X.w X.K X.mg X.base ["_law_act", "_law_told", "_law_e"] "_law_caught" (defScope s__law_caught) g cdg X.A X.stack s H C8.E0).nox) (i := 2) (tb := fun W D σ H => ∃ Ech : XK, (∀ cls d σ' H', Ech cls d H' → σ'.length = 3 → W cls d σ' H') ∧ σ = [some (.ref f), none, none] ∧ H c' = some (LamX.CodeO c' q) ∧ tl Ech H (fun u H' => D.nx [some (.ref f), some u, none] H'))
      rfl rfl sc__law_caught.nd rfl rfl rfl T.g_WrongValue (by decide) rfl T.g_WrongMoment (by decide) (fun _ => rfl) (fun _ => rfl) (fun W pn xe tk _ => ?_) (fun a oe cls d pn hz hf => pss_one (ps_ret (Ex.pe_callE FE hgd (room_mark hr2 _) List.mem_cons_self hz hf rfl gE kE bE (pa_cons (pv 2) pa_nil)))))
    (pss_cons (ps_if (pt_not (pt_val (pe_callB call_isi (by rfl) (B _ (by decide)) (by decide +kernel) (pa_cons (pv 1) (pa_cons (pe_glob (v := .ref Cp) rfl gP rfl) pa_nil))))) (pss_one (ps_ret (pe_tup (pa_cons pe_str (pa_cons pe_str pa_nil))))) pss_nil)
    (pss_one (ps_ret (pe_tup (pa_cons pe_str (pa_cons (pe_callB (call_reprD hu hgd) (by rfl) (B _ (by decide)) (by decide +kernel) (pa_cons (pe_tup (pa_cons (pe_prop (pv 1) PG.oc.cls pr1 G1 (hr2.mono (by decide)) b1 .nil pass0 rfl) (pa_cons (pe_prop (pv 1) PG.oc.cls pr2 G2 (hr2.mono (by decide)) b2 .nil pass0 rfl) pa_nil))) pa_nil)) pa_nil))))))), ?_⟩
  · refine ⟨fun pins s' σ H' D I h' => ?_⟩
    obtain ⟨Ech, hW, h1, h2, h3⟩ := h'
    subst h1
    have hp := fun p1 p2 => act (fun cls d σ H => σ.length = 3 → W cls d σ H) pn xe Ech p1 p2 (takes_len tk) hW
    exact (pss_one (ps_set (i := 1) sc__law_caught.nd rfl (Or.inl rfl) (hp _ _))).run pins s' _ H' D I ⟨rfl, h2, h3⟩
  · refine ⟨EchC X.K Cp Ce Q, fun cls d σ' H' he hl => ?_, rfl, hc, ?_⟩
    · obtain ⟨i, dx, v, A, gd, pd, hi, e1, e2, e3, occ, hv, rk, k⟩ := he
      refine ⟨by rw [e1]; exact exm i (by omega), fun a ha => ?_⟩
      refine ⟨.ref a, by simp [hl], i, dx, v, A, gd, pd, rfl, hi, e1, e2, e3, occ, hv, rk, k⟩
    · refine h _ fun u H' hq => ?_
      dsimp only
      obtain ⟨A, x, y, p, occ, hx, rk, k⟩ := hq
      have R0 : R ⟨X.K, pureM, A, H'⟩ [] H' [some (.ref f), some u, none] [some (.raw f), some (.obj Cp ["_size", "_rows"] [x, y]), none] := by
        have z := start_R (C := ⟨X.K, pureM, A, H'⟩) (N := ["_law_act", "_law_told", "_law_e"]) (ds := [.raw f, .obj Cp ["_size", "_rows"] [x, y]]) (vs := [.ref f, u]) (.cons (.raw f) (.cons hx .nil)) (good_pure occ)
        exact z
      have hh : (⟨X.K, pureM, A, H'⟩ : Cxt).hd [] = A := by
        unfold Cxt.hd
        exact List.append_nil _
      refine (?_ : WS ⟨X.K, pureM, A, H'⟩ _ _ { nx := fun _ => False, rt := fun d => d = .tup [.str "plan", .str p.shown] }) (fun _ => none) [] H' _ R0 (fun _ _ e => by cases e) _ ⟨fun cs' H' σ' ρ' r _ p => p.elim, fun v d H2 kp o a hd => ?_, fun _ _ _ _ _ _ e => e.elim, fun _ _ _ _ _ _ e => e.elim⟩
      · walk_at "dd"
        refine c_isO (C := ⟨X.K, pureM, A, H'⟩) PG.oc PG.self ?_
        walk_at "dd"
        refine w_prop ?_
        walk_at "dd"
        refine ⟨_, _, x, rfl, rfl, fun cx => ?_⟩
        walk_at "dd"
        refine w_prop ?_
        walk_at "dd"
        refine ⟨_, _, y, rfl, rfl, fun cy => ?_⟩
        walk_at "dd"
        refine ⟨by rw [sizeLine_eq]; simp, fun d hd => ?_, ?_⟩
        · simp only [List.mem_cons, List.not_mem_nil, or_false] at hd
          rcases hd with rfl | rfl <;> assumption
        walk_at "dd"
        refine c_repr (C := ⟨X.K, pureM, A, H'⟩) rk ?_
        walk_at "dd"
        refine ⟨by rw [sizeLine_eq]; simp, by simp [Clean], ?_⟩
        rfl
      · subst hd
        have z := a.dt trivial
        rw [hh] at z
        exact k v H2 (keep_pure.mp kp) z
end
end Dl
set_option Elab.async false
set_option linter.all false
set_option maxRecDepth 100000
set_option maxHeartbeats 4000000
namespace Dl
open PySem PySem.Spec PyProof.Rows L2 Sp RZ
local macro_rules | `(tactic| walk_at "dd1") => `(tactic| first
  | ((with_reducible refine' w_var ?hv ?hk); (case hv => exact rfl))
  | with_reducible refine w_int ?_
  | with_reducible refine w_str ?_
  | with_reducible refine w_bl ?_
  | with_reducible refine w_non ?_
  | with_reducible refine w_ty ?_
  | with_reducible refine w_raw ?_
  | with_reducible refine w_nil ?_
  | with_reducible refine w_cons ?_
  | with_reducible refine w_cb ?_
  | with_reducible refine w_op ?_
  | with_reducible refine w_un ?_
  | with_reducible refine w_andV ?_
  | with_reducible refine w_orV ?_
  | with_reducible refine w_notV ?_
  | with_reducible refine w_if ?_
  | with_reducible refine w_and ?_
  | with_reducible refine w_or ?_
  | with_reducible refine w_not ?_
  | with_reducible refine w_test ?_
  | with_reducible refine w_tb ?_
  | with_reducible refine w_chain ?_
  | with_reducible refine w_tup ?_
  | with_reducible refine w_lst ?_
  | with_reducible refine w_sl ?_
  | with_reducible refine p_none ?_
  | with_reducible refine p_some ?_
  | with_reducible refine w_call ?_
  | with_reducible refine s_seq ?_
  | with_reducible refine s_nil ?_
  | with_reducible refine s_ret ?_
  | with_reducible refine s_if ?_
  | with_reducible refine s_set ?_
  | with_reducible refine s_drop ?_
  | with_reducible refine s_brk ?_
  | with_reducible refine s_cont ?_
  | with_reducible refine s_asg ?_
  | with_reducible refine o_int ?_
  | with_reducible refine o_cmp ?_
  | with_reducible refine o_ltS ?_
  | with_reducible refine o_leS ?_
  | with_reducible refine o_neg ?_
  | with_reducible refine c_int ?_
  | with_reducible refine c_intB ?_
  | with_reducible refine c_abs ?_
  | with_reducible refine t_yes ?_
  | refine ⟨_, rfl, ?_⟩
  | with_reducible refine ⟨trivial, ?_⟩
  | refine iteT ?_
  | refine iteF ?_)
local macro_rules | `(tactic| walk_at "dd") => `(tactic| repeat (walk_at "dd1"))

abbrev letter (c : Nat) : Str := ⟨#[c]⟩
abbrev alphS : Str := "ABCDEFGHIJKLMNOPQRSTUVWXYZ"
def alph : List Str := alphS.cps.toList.map letter
theorem alph_len : alph.length = 26 := by decide +kernel
theorem alph_nd : alph.Nodup := by decide +kernel
theorem alph_nm : ∀ z ∈ alph, isNm z = true := by decide +kernel
theorem nd_len {α : Type} [DecidableEq α] : ∀ {l cs : List α}, l.Nodup → (∀ x ∈ l, x ∈ cs) → l.length ≤ cs.length
  | [], _, _, _ => Nat.zero_le _
  | x :: l, cs, nd, sub => by
    have hx := sub x (List.mem_cons_self ..)
    have nd2 := List.nodup_cons.mp nd
    have ih := nd_len (l := l) (cs := cs.erase x) nd2.2 fun y hy => (List.mem_erase_of_ne (show y ≠ x from fun e => nd2.1 (by rw [← e]; exact hy))).mpr (sub y (List.mem_cons_of_mem _ hy))
    rw [List.length_erase_of_mem hx] at ih
    have : 0 < cs.length := List.length_pos_of_mem hx
    rw [List.length_cons]
    omega
def leftL (zs l : List Str) : List Str := l.filter fun z => !zs.contains z
theorem leftL_pos {zs : List Str} (h : zs.length < 26) : 0 < (leftL zs alph).length := by
  rcases Nat.eq_zero_or_pos (leftL zs alph).length with e | e
  · have e2 : leftL zs alph = [] := List.length_eq_zero_iff.mp e
    have := nd_len (l := alph) (cs := zs) alph_nd fun x hx => by
      rcases hc : zs.contains x with _ | _
      · have : x ∈ leftL zs alph := List.mem_filter.mpr ⟨hx, by simpa using hc⟩
        rw [e2] at this
        cases this
      · simpa using hc
    rw [alph_len] at this
    omega
  · exact e
theorem inV_str (z : Str) (zs : List Str) : inV (.str z) (zs.map V.str) = zs.contains z := by
  unfold inV
  rw [List.any_map]
  induction zs with
  | nil => rfl
  | cons y zs ih =>
    rw [List.any_cons, List.contains_cons, ih]
    congr 1
    show (y == z) = (z == y)
    exact Bool.beq_comm ..
theorem sgns_alph : sgns alphS = alph.map D.str := by
  unfold sgns alph
  rw [List.map_map]
  rfl
def notInD (ls : List Str) (d : D) : Bool := match d with
  | .str z => !ls.contains z
  | _ => false
theorem left_D (ls : List Str) : (sgns alphS).filter (notInD ls) = (leftL ls alph).map D.str := by
  rw [sgns_alph, List.filter_map]
  rfl
theorem lt_of_nltS {a b : Str} (h : (!ltCps b.cps.toList a.cps.toList) = true) (n : a ≠ b) : a.cps.toList < b.cps.toList := by
  rw [ltCps_eq] at h
  have h2 : ¬ b.cps.toList < a.cps.toList := by simpa using h
  rcases List.le_iff_lt_or_eq.mp (List.not_lt.mp h2) with h3 | h3
  · exact h3
  · refine absurd ?_ n
    obtain ⟨⟨x⟩⟩ := a
    obtain ⟨⟨y⟩⟩ := b
    simp only at h3
    subst h3
    rfl
theorem upS_rise : ∀ {p : Str} {ys : List Str}, risingS p ys = true → (p :: ys).Nodup → upS (p :: ys)
  | p, [], _, _ => List.pairwise_singleton ..
  | p, y :: ys, h, nd => by
    unfold risingS at h
    rw [Bool.and_eq_true] at h
    have nd2 := List.nodup_cons.mp nd
    have ih := upS_rise h.2 nd2.2
    have lt := lt_of_nltS h.1 fun q => nd2.1 (q ▸ List.mem_cons_self ..)
    refine List.pairwise_cons.mpr ⟨fun z hz => ?_, ih⟩
    rcases List.mem_cons.mp hz with rfl | hz
    · exact lt
    · exact List.lt_trans lt ((List.pairwise_cons.mp ih).1 z hz)
theorem upS_sorted {ys : List Str} (h : sortedS ys = true) (nd : ys.Nodup) : upS ys := by
  cases ys with
  | nil => exact List.Pairwise.nil
  | cons y ys => exact upS_rise h nd
/-! ### the purse -/
def pmP (p : Addr) : Md := ⟨some p, false, fun H => Purse H p, fun H H' h s => by
  obtain ⟨g, st, n, e, r⟩ := h
  exact ⟨g, st, n, s _ _ e, r⟩, fun H H' h k => by
  obtain ⟨g, st, n, e, r⟩ := h
  exact ⟨g, st, n, k p _ e (.inl rfl), r⟩, fun H q h e => by
  obtain rfl := Option.some.inj e
  obtain ⟨g, st, n, e, _⟩ := h
  exact ⟨_, e⟩⟩
theorem pmP_p : ∀ p, (pmP p).p = some p := fun _ => rfl
def g_roll : GD := fun ds P => ∃ m : Int, ds = [.int m] ∧ 0 < m ∧ m < 2 ^ 40 ∧ ∀ r : Int, 0 ≤ r → r < m → P (.int r)
section
variable {P : Program} {w : World} {K : PySem.W.Frag} {mg : Str → Option Value} {base : Heap}
theorem d_roll (F : Fd K mg "_law_roll" s__law_roll) (B : Bt mg) : Df P w K mg base "_law_roll" 1 ["_law_purse_here", "_law_many"] (spQ K pmP g_roll) := by
  obtain ⟨f, fd, F, hm⟩ := F.ex
  refine ⟨f, fd, hm, F.kp, F.binds (fun _ _ _ _ _ _ us hl => match us, hl with | [_, _], _ => rfl), (ok_roll F ⟨B _ (by decide), B _ (by decide), B _ (by decide), B _ (by decide)⟩).imp fun vs H Q E h => ?_⟩
  obtain ⟨p, us, A, ds, P, rfl, pA, ok, occ, h1, ⟨m, rfl, h0, h2, k⟩, q⟩ := h
  cases h1 with
  | cons a b =>
    cases b
    cases a
    refine ⟨p, m, rfl, ok, h0, h2, fun r H' r0 r1 b pu => q (.int r) _ H' (k r r0 r1) (fun c o n _ e => b c o (fun z => n (by rw [z]; rfl)) e) pu (.int r)⟩
abbrev s__law_letters : Stmt := top 33
theorem sc__law_letters : FnScope ["_law_purse_here", "_law_many", "_law_found", "_law_turn", "_law_left", "_law_letter"] ["_law_purse_here", "_law_many"] (defScope s__law_letters) := ⟨rfl, rfl, rfl, by decide +kernel, rfl, by decide +kernel, by decide +kernel⟩
def g_letters : GD := fun ds P => ∃ n : Int, ds = [.int n] ∧ 0 ≤ n ∧ n ≤ 5 ∧ ∀ ls : List Str, ls.length ≤ 5 → (∀ l ∈ ls, isNm l = true) → upS ls → P (.lst (ls.map .str))
theorem d_letters (F : Fd K mg "_law_letters" s__law_letters) (B : Bt mg) (D_roll : Df P w K mg base "_law_roll" 1 ["_law_purse_here", "_law_many"] (spQ K pmP g_roll)) : Df P w K mg base "_law_letters" 2 ["_law_purse_here", "_law_many"] (spQ K pmP g_letters) := by
  refine df_Q pmP_p F sc__law_letters (fun _ _ _ _ _ _ us hl => match us, hl with | [_, _], _ => rfl) (fun ds P h => ?_) (fun f cdv A outer s H E hr => ⟨_, (pss_cons (ps_set (i := 2) sc__law_letters.nd rfl (Or.inr rfl) (pe_lst pa_nil))
    (pss_cons (ps_for PassesOwn.never rfl (pi_range1 rfl (B _ (by decide)) (pa_cons (pv 1) pa_nil)) (pg_name (i := 3) sc__law_letters.nd rfl (Or.inl rfl))
    (pss_cons (ps_setLc (i := 4) (own := [("_law_letter", 5)]) (tt := _) rfl sc__law_letters.nd rfl rfl (sw_true rfl rfl rfl (by decide +kernel)) (pi_str pe_str) (blkOk_by (N := ["_law_purse_here", "_law_many", "_law_found", "_law_turn", "_law_left", "_law_letter"]) (sc := defScope s__law_letters) (by decide +kernel)) (fun _ _ _ _ _ => (pg_name (i := 5) sc__law_letters.nd rfl (Or.inl rfl))) (fun _ _ _ _ _ => (pts_one (pt_cmpR (notInK K) (pv 5) (pv 2) (by rfl)))) (fun _ _ _ _ _ => (pv 5)))
    (pss_one (ps_expr (pe_bm PySem.F.plainAttrs_list PySem.F.slot_list_append PySem.F.type_list_append mt_append (pv 2) (pa_cons (pe_ix (ixLK K) (pv 4) (pe_df D_roll (hr.mono (by decide)) (pa_cons (pv 0) (pa_cons (pe_callB call_len (by rfl) (B _ (by decide)) PySem.boot_len (pa_cons (pv 4) pa_nil)) pa_nil))) (fun _ _ => rfl)) pa_nil))))))
    (pss_one (ps_ret (pe_callB cr_sortedS (by rfl) (B _ (by decide)) (by decide +kernel) (pa_cons (pv 2) pa_nil)))))), fun p A H0 ds P hc h => ?_⟩)
  · obtain ⟨n, rfl, _⟩ := h
    rfl
  · obtain ⟨n, rfl, h0, h1, k⟩ := h
    refine s_seq ?_
    refine s_setCell (n_lst ?_)
    walk_at "dd"
    refine ⟨by rw [sizeLine_eq]; simp, by simp [Clean], ?_⟩
    walk_at "dd"
    refine s_for ?_
    refine i_rng1 ?_
    walk_at "dd"
    refine ⟨by omega, ?_⟩
    refine ⟨fun i ρ => ∃ (ls : List Str) (z1 z2 z3 : Option D), ls.length = i ∧ (∀ l ∈ ls, isNm l = true) ∧ ls.Nodup ∧ ρ = [some .pur, some (.int n), some (.cell 2 (ls.map .str)), z1, z2, z3], ⟨[], _, _, _, rfl, by simp, List.nodup_nil, rfl⟩, ?_, ?_⟩
    · rintro i d ρ hi hd ⟨ls, z1, z2, z3, hl, hn, nd, rfl⟩
      obtain ⟨il, rfl⟩ := rngD_get hi
      refine g_name hd ?_
      walk_at "dd"
      refine w_lcB ?_
      refine i_str ?_
      refine w_str ?_
      refine ⟨_, rfl, by decide +kernel, notInD ls, id, fun j d hj hd2 => ?_, ?_⟩
      · refine gc_name hd2 ?_
        have hj2 := List.mem_of_getElem? hj
        unfold sgns at hj2
        obtain ⟨c, _, rfl⟩ := List.mem_map.mp hj2
        walk_at "dd"
        refine o_in (neg := true) (vx := .str ⟨#[c]⟩) (vs := ls.map V.str) rfl (.inl (.inr ⟨_, rfl⟩)) (by simp only [List.map_map]; rfl) ?_
        rw [if_pos rfl, inV_str]
        refine ⟨_, rfl, rfl, fun _ => ?_⟩
        walk_at "dd"
        exact ⟨rfl, hd2⟩
      · have hlt : ls.length < 26 := by omega
        have e0 : ((sgns alphS).filter (notInD ls)).map id = (leftL ls alph).map D.str := by
          rw [left_D]
          simp
        have e1 : ((sgns "ABCDEFGHIJKLMNOPQRSTUVWXYZ").filter (notInD ls)).map id = (leftL ls alph).map D.str := e0
        rw [e1]
        have pos := leftL_pos hlt
        have le : (leftL ls alph).length ≤ 26 := by
          rw [← alph_len]
          exact List.length_filter_le ..
        have nm : ∀ z ∈ leftL ls alph, isNm z = true := fun z hz => alph_nm z (List.mem_filter.mp hz).1
        refine ⟨trivial, ?_⟩
        refine s_app (i := 2) rfl (by simp; omega) ?_
        walk_at "dd"
        refine w_callQ ⟨p, rfl, rfl⟩ ?_
        walk_at "dd"
        refine c_lenA (.inl (.inl rfl)) ?_
        walk_at "dd"
        refine ⟨by simp [Clean], _, rfl, by rw [List.length_map]; omega, by rw [List.length_map]; omega, fun r r0 r1 => ?_⟩
        obtain ⟨d, q1, q2⟩ := menu_at r0 r1
        obtain ⟨l, hl2, rfl⟩ := List.mem_map.mp q2
        refine o_ixL (.inl rfl) q1 fun _ => ?_
        refine ⟨trivial, ls ++ [l], _, _, _, by simp [hl], fun x hx => ?_, List.nodup_append.mpr ⟨nd, by simp, fun x hx y hy => ?_⟩, by simp only [List.set_cons_succ, List.set_cons_zero, List.map_append, List.map_cons, List.map_nil]; rfl⟩
        · rcases List.mem_append.mp hx with hx | hx
          · exact hn x hx
          · rw [List.mem_singleton.mp hx]
            exact nm l hl2
        · rw [List.mem_singleton] at hy
          subst hy
          intro e
          subst e
          have z := (List.mem_filter.mp hl2).2
          have : ls.contains x = true := by simpa using hx
          rw [this] at z
          cases z
    · rintro ρ ⟨ls, z1, z2, z3, hl, hn, nd, rfl⟩
      rw [rngD_len] at hl
      walk_at "dd"
      refine c_sortedS (zs := ls) (.inr ⟨_, rfl⟩) (by omega) fun ys hp srt => ?_
      exact ⟨trivial, k ys (by rw [hp.length_eq]; omega) (fun l hl => hn l (hp.mem_iff.mp hl)) (upS_sorted srt (hp.nodup_iff.mpr nd))⟩
abbrev s__law_set : Stmt := top 34
theorem sc__law_set : FnScope ["_law_purse_here", "_law_wide", "_law_way", "_law_level", "_law_found", "_law_inside", "_law_t"] ["_law_purse_here", "_law_wide"] (defScope s__law_set) := ⟨rfl, rfl, rfl, by decide +kernel, rfl, by decide +kernel, by decide +kernel⟩
def g_set : GD := fun ds P => ∃ n : Int, ds = [.int n] ∧ 0 ≤ n ∧ n ≤ 60 ∧ ∀ ns : List Int, (ns.length : Int) ≤ n → (∀ x ∈ ns, inTicks n x) → ns.Pairwise (· < ·) → P (.tup (ns.map .int))
theorem d_set (F : Fd K mg "_law_set" s__law_set) (B : Bt mg) (D_roll : Df P w K mg base "_law_roll" 1 ["_law_purse_here", "_law_many"] (spQ K pmP g_roll)) : Df P w K mg base "_law_set" 2 ["_law_purse_here", "_law_wide"] (spQ K pmP g_set) := by
  refine df_Q pmP_p F sc__law_set (fun _ _ _ _ _ _ us hl => match us, hl with | [_, _], _ => rfl) (fun ds P h => ?_) (fun f cdv A outer s H E hr => ⟨_, (pss_cons (ps_par (i := 2) (j := 3) (by rfl) sc__law_set.nd rfl rfl (by decide) rfl rfl (pa_cons (pe_df D_roll (hr.mono (by decide)) (pa_cons (pv 0) (pa_cons pe_int pa_nil))) (pa_cons (pe_ix (ixLK K) (pe_lst (pa_cons pe_int (pa_cons pe_int (pa_cons pe_int (pa_cons pe_int (pa_cons pe_int pa_nil)))))) (pe_df D_roll (hr.mono (by decide)) (pa_cons (pv 0) (pa_cons pe_int pa_nil))) (fun _ _ => rfl)) pa_nil)) (by rfl))
    (pss_cons (ps_par (i := 4) (j := 5) (by rfl) sc__law_set.nd rfl rfl (by decide) rfl rfl (pa_cons (pe_lst pa_nil) (pa_cons pe_bl pa_nil)) (by rfl))
    (pss_cons (ps_for PassesOwn.never rfl (pi_range1 rfl (B _ (by decide)) (pa_cons (pv 1) pa_nil)) (pg_name (i := 6) sc__law_set.nd rfl (Or.inl rfl))
    (pss_cons (ps_if (pt_cmpR op_eq (pv 2) pe_int (nomark _)) (pss_one (ps_set (i := 5) sc__law_set.nd rfl (Or.inl rfl) (pe_cmpR op_lt (pe_df D_roll (hr.mono (by decide)) (pa_cons (pv 0) (pa_cons pe_int pa_nil))) (pv 3) (nomark _)))) (pss_one (ps_if (pt_cmpR op_eq (pe_df D_roll (hr.mono (by decide)) (pa_cons (pv 0) (pa_cons pe_int pa_nil))) pe_int (nomark _)) (pss_one (ps_set (i := 5) sc__law_set.nd rfl (Or.inl rfl) (pe_not (pv 5)))) pss_nil)))
    (pss_one (ps_if (pt_val (pv 5)) (pss_one (ps_expr (pe_bm PySem.F.plainAttrs_list PySem.F.slot_list_append PySem.F.type_list_append mt_append (pv 4) (pa_cons (pv 6) pa_nil)))) pss_nil))))
    (pss_one (ps_ret (pe_callTy call_tuple_of (by rfl) (B _ (by decide)) (by decide +kernel) (pa_cons (pv 4) pa_nil))))))), fun p A H0 ds P hc h => ?_⟩)
  · obtain ⟨n, rfl, _⟩ := h
    rfl
  · obtain ⟨n, rfl, h0, h1, k⟩ := h
    refine s_seq ?_
    refine s_par ?_
    walk_at "dd"
    refine w_callQ ⟨p, rfl, rfl⟩ ?_
    walk_at "dd"
    refine ⟨by simp [Clean], _, rfl, by decide, by decide, fun way w0 w1 => ?_⟩
    walk_at "dd"
    refine ⟨by rw [sizeLine_eq]; simp, by simp [Clean], ?_⟩
    walk_at "dd"
    refine w_callQ ⟨p, rfl, rfl⟩ ?_
    walk_at "dd"
    refine ⟨by simp [Clean], _, rfl, by decide, by decide, fun r r0 r1 => ?_⟩
    obtain ⟨d, q1, q2⟩ := menu_at (xs := [D.int 2, .int 1, .int 3, .int 0, .int 4]) r0 r1
    obtain ⟨lv, rfl⟩ : ∃ lv, d = .int lv := by
      simp only [List.mem_cons, List.not_mem_nil, or_false] at q2
      rcases q2 with rfl | rfl | rfl | rfl | rfl <;> exact ⟨_, rfl⟩
    refine o_ixL (.inl rfl) q1 fun _ => ?_
    walk_at "dd"
    refine ⟨_, _, rfl, trivial, trivial, ?_⟩
    refine s_seq ?_
    refine s_parCell (by decide) (n_lst ?_)
    walk_at "dd"
    refine ⟨by rw [sizeLine_eq]; simp, by simp [Clean], ?_⟩
    walk_at "dd"
    refine ⟨trivial, ?_⟩
    walk_at "dd"
    refine s_for ?_
    refine i_rng1 ?_
    walk_at "dd"
    refine ⟨by omega, ?_⟩
    refine ⟨fun i ρ => ∃ (ns : List Int) (b : Bool) (z : Option D), ns.length ≤ i ∧ (∀ x ∈ ns, inTicks n x) ∧ (ns.Pairwise (· < ·) ∧ ∀ x ∈ ns, x < (i : Int)) ∧ ρ = [some .pur, some (.int n), some (.int way), some (.int lv), some (.cell 4 (ns.map .int)), some (.bl b), z], ⟨[], _, _, Nat.le_refl _, by simp, ⟨List.Pairwise.nil, by simp⟩, rfl⟩, ?_, ?_⟩
    · rintro i d ρ hi hd ⟨ns, b, z, hl, hn, up, rfl⟩
      obtain ⟨il, rfl⟩ := rngD_get hi
      refine g_name hd ?_
      refine s_seq (s_mono (O' := { nx := fun ρ => ∃ b2, ρ = [some .pur, some (.int n), some (.int way), some (.int lv), some (.cell 4 (ns.map .int)), some (.bl b2), some (.int (0 + (i : Int)))], rt := fun _ => False }) ?_ ?_ (fun _ h => h.elim) (fun _ h => h.elim) (fun _ h => h.elim))
      · walk_at "dd"
        refine o_eq rfl rfl rfl ?_
        rw [dec_int]
        walk_at "dd"
        refine ite2 (fun c => ?_) (fun c => ?_)
        · walk_at "dd"
          refine w_callQ ⟨p, rfl, rfl⟩ ?_
          walk_at "dd"
          refine ⟨by simp [Clean], _, rfl, by decide, by decide, fun r r0 r1 => ?_⟩
          walk_at "dd"
          exact ⟨trivial, _, rfl⟩
        · walk_at "dd"
          refine w_callQ ⟨p, rfl, rfl⟩ ?_
          walk_at "dd"
          refine ⟨by simp [Clean], _, rfl, by decide, by decide, fun r r0 r1 => ?_⟩
          walk_at "dd"
          refine o_eq rfl rfl rfl ?_
          rw [dec_int]
          walk_at "dd"
          refine ite2 (fun c => ?_) (fun c => ?_)
          · walk_at "dd"
            exact ⟨trivial, _, rfl⟩
          · walk_at "dd"
            exact ⟨_, rfl⟩
      · rintro ρ ⟨b2, rfl⟩
        refine s_if ?_
        walk_at "dd"
        refine ite2 (fun c => ?_) (fun c => ?_)
        · refine s_app (i := 4) rfl (by simp; omega) ?_
          walk_at "dd"
          refine ⟨trivial, ns ++ [0 + (i : Int)], _, _, by simp; omega, fun x hx => ?_, ⟨List.pairwise_append.mpr ⟨up.1, by simp, fun x hx y hy => ?_⟩, fun x hx => ?_⟩, by simp only [List.set_cons_succ, List.set_cons_zero, List.map_append, List.map_cons, List.map_nil]; rfl⟩
          · rcases List.mem_append.mp hx with hx | hx
            · exact hn x hx
            · rw [List.mem_singleton.mp hx]
              exact ⟨by omega, by omega⟩
          · rw [List.mem_singleton.mp hy]
            have := up.2 x hx
            omega
          · rcases List.mem_append.mp hx with hx | hx
            · have := up.2 x hx
              omega
            · rw [List.mem_singleton.mp hx]
              omega
        · walk_at "dd"
          exact ⟨ns, _, _, by omega, hn, ⟨up.1, fun x hx => by have := up.2 x hx; omega⟩, rfl⟩
    · rintro ρ ⟨ns, b, z, hl, hn, up, rfl⟩
      rw [rngD_len] at hl
      walk_at "dd"
      refine c_tuple (.inl (.inr ⟨_, rfl⟩)) ?_
      exact ⟨trivial, k ns (by omega) hn up.1⟩
end
end Dl
set_option Elab.async false
set_option linter.all false
set_option maxRecDepth 100000
set_option maxHeartbeats 4000000
namespace Dl
open PySem PySem.Spec PyProof.Rows L2 Sp RZ
local macro_rules | `(tactic| walk_at "dd1") => `(tactic| first
  | ((with_reducible refine' w_var ?hv ?hk); (case hv => exact rfl))
  | with_reducible refine w_int ?_
  | with_reducible refine w_str ?_
  | with_reducible refine w_bl ?_
  | with_reducible refine w_non ?_
  | with_reducible refine w_ty ?_
  | with_reducible refine w_raw ?_
  | with_reducible refine w_nil ?_
  | with_reducible refine w_cons ?_
  | with_reducible refine w_cb ?_
  | with_reducible refine w_op ?_
  | with_reducible refine w_un ?_
  | with_reducible refine w_andV ?_
  | with_reducible refine w_orV ?_
  | with_reducible refine w_notV ?_
  | with_reducible refine w_if ?_
  | with_reducible refine w_and ?_
  | with_reducible refine w_or ?_
  | with_reducible refine w_not ?_
  | with_reducible refine w_test ?_
  | with_reducible refine w_tb ?_
  | with_reducible refine w_chain ?_
  | with_reducible refine w_tup ?_
  | with_reducible refine w_lst ?_
  | with_reducible refine w_sl ?_
  | with_reducible refine p_none ?_
  | with_reducible refine p_some ?_
  | with_reducible refine w_call ?_
  | with_reducible refine s_seq ?_
  | with_reducible refine s_nil ?_
  | with_reducible refine s_ret ?_
  | with_reducible refine s_if ?_
  | with_reducible refine s_set ?_
  | with_reducible refine s_drop ?_
  | with_reducible refine s_brk ?_
  | with_reducible refine s_cont ?_
  | with_reducible refine s_asg ?_
  | with_reducible refine o_int ?_
  | with_reducible refine o_cmp ?_
  | with_reducible refine o_ltS ?_
  | with_reducible refine o_leS ?_
  | with_reducible refine o_neg ?_
  | with_reducible refine c_int ?_
  | with_reducible refine c_intB ?_
  | with_reducible refine c_abs ?_
  | with_reducible refine t_yes ?_
  | refine ⟨_, rfl, ?_⟩
  | with_reducible refine ⟨trivial, ?_⟩
  | refine iteT ?_
  | refine iteF ?_)
local macro_rules | `(tactic| walk_at "dd") => `(tactic| repeat (walk_at "dd1"))

/-! ### drawn rows, menus -/
def g_drawn : GD := fun ds P => ∃ (ls : List Str) (n : Int), ds = [.lst (ls.map .str), .int n] ∧ ls.length ≤ 5 ∧ (∀ l ∈ ls, isNm l = true) ∧ upS ls ∧ 0 ≤ n ∧ n ≤ 60 ∧ ∀ rs : List (Str × List Int), RowsG n rs → rs.map (·.1) = ls → P (.tup (rs.map rowD))
section
variable {P : Program} {w : World} {K : PySem.W.Frag} {mg : Str → Option Value} {base : Heap}
abbrev s__law_drawn_rows : Stmt := top 35
theorem sc__law_drawn_rows : FnScope ["_law_purse_here", "_law_letters_here", "_law_wide", "_law_found", "_law_letter"] ["_law_purse_here", "_law_letters_here", "_law_wide"] (defScope s__law_drawn_rows) := ⟨rfl, rfl, rfl, by decide +kernel, rfl, by decide +kernel, by decide +kernel⟩
theorem d_drawn (F : Fd K mg "_law_drawn_rows" s__law_drawn_rows) (B : Bt mg) (D_set : Df P w K mg base "_law_set" 2 ["_law_purse_here", "_law_wide"] (spQ K pmP g_set)) : Df P w K mg base "_law_drawn_rows" 3 ["_law_purse_here", "_law_letters_here", "_law_wide"] (spQ K pmP g_drawn) := by
  refine df_Q pmP_p F sc__law_drawn_rows (fun _ _ _ _ _ _ us hl => match us, hl with | [_, _, _], _ => rfl) (fun ds P h => ?_) (fun f cdv A outer s H E hr => ⟨_, (pss_cons (ps_set (i := 3) sc__law_drawn_rows.nd rfl (Or.inl rfl) (pe_lst pa_nil))
    (pss_cons (ps_for PassesOwn.never rfl (pi_list (pv 1)) (pg_name (i := 4) sc__law_drawn_rows.nd rfl (Or.inl rfl))
    (pss_one (ps_expr (pe_bm PySem.F.plainAttrs_list PySem.F.slot_list_append PySem.F.type_list_append mt_append (pv 3) (pa_cons (pe_tup (pa_cons (pv 4) (pa_cons (pe_df D_set (hr.mono (by decide)) (pa_cons (pv 0) (pa_cons (pv 2) pa_nil))) pa_nil))) pa_nil)))))
    (pss_one (ps_ret (pe_callTy call_tuple_of (by rfl) (B _ (by decide)) (by decide +kernel) (pa_cons (pv 3) pa_nil)))))), fun p A H0 ds P hc h => ?_⟩)
  · obtain ⟨ls, n, rfl, _⟩ := h
    rfl
  · obtain ⟨ls, n, rfl, hl, hn, up, h0, h1, k⟩ := h
    refine s_seq ?_
    refine s_setCell (n_lst ?_)
    walk_at "dd"
    refine ⟨by rw [sizeLine_eq]; simp, by simp [Clean], ?_⟩
    walk_at "dd"
    refine s_for ?_
    refine i_list ?_
    walk_at "dd"
    refine ⟨fun i ρ => ∃ (rs : List (Str × List Int)) (z : Option D), rs.map (·.1) = ls.take i ∧ (∀ r ∈ rs, RowG n r) ∧ ρ = [some .pur, some (.lst (ls.map .str)), some (.int n), some (.cell 3 (rs.map rowD)), z], ⟨[], _, rfl, by simp, rfl⟩, ?_, ?_⟩
    · rintro i d ρ hi hd ⟨rs, z, hr, ho, rfl⟩
      have il := (List.getElem?_eq_some_iff.mp hi).1
      rw [List.length_map] at il
      rw [List.getElem?_map] at hi
      obtain ⟨l, hli, rfl⟩ := Option.map_eq_some_iff.mp hi
      have hl2 := List.mem_of_getElem? hli
      refine g_name hd ?_
      have lr : rs.length ≤ 5 := by
        have z := congrArg List.length hr
        rw [List.length_map, List.length_take] at z
        omega
      refine s_app (i := 3) rfl (by simp; omega) ?_
      walk_at "dd"
      refine w_callQ ⟨p, rfl, rfl⟩ ?_
      walk_at "dd"
      refine ⟨by simp [Clean], _, rfl, h0, h1, fun ns n1 n2 n3 => ?_⟩
      walk_at "dd"
      refine ⟨by rw [sizeLine_eq]; simp, by simp [Clean], ?_⟩
      refine ⟨trivial, rs ++ [(l, ns)], _, by rw [List.map_append, hr, List.take_add_one, hli]; rfl, fun x hx => ?_, by simp only [List.set_cons_succ, List.set_cons_zero, List.map_append, List.map_cons, List.map_nil]; rfl⟩
      rcases List.mem_append.mp hx with hx | hx
      · exact ho x hx
      · rw [List.mem_singleton.mp hx]
        exact ⟨hn l hl2, (by show ns.length ≤ 60; omega), n2, n3⟩
    · rintro ρ ⟨rs, z, hr, ho, rfl⟩
      rw [List.length_map, List.take_length] at hr
      walk_at "dd"
      refine c_tuple (.inl (.inr ⟨_, rfl⟩)) ?_
      exact ⟨trivial, k rs ⟨ho, by rw [hr]; exact up, by have z := congrArg List.length hr; rw [List.length_map] at z; omega⟩ hr⟩
end
end Dl
set_option Elab.async false
set_option linter.all false
set_option maxRecDepth 100000
set_option maxHeartbeats 4000000
namespace Sp
open PySem PySem.Spec PyProof.Rows L2 RZ
theorem But.put2 {p q : Addr} {H H1 : Hp} {o : HO} (a : But p H H1) (h : H q = none) : But p H (upd H1 q o) := fun c u n e => by
  rw [upd_ne (ne_of_none e h)]
  exact a c u n e
theorem Purse.same {H H' : Hp} {p : Addr} (s : Same H H') (h : Purse H p) : Purse H' p := by
  obtain ⟨g, t, n, h1, h2⟩ := h
  exact ⟨g, t, n, s _ _ h1, h2⟩
theorem Purse.upd {H : Hp} {p q : Addr} {o : HO} (n : p ≠ q) (h : Purse H p) : Purse (upd H q o) p := by
  obtain ⟨g, t, n2, h1, h2⟩ := h
  exact ⟨g, t, n2, by rw [upd_ne n]; exact h1, h2⟩
theorem Purse.some {H : Hp} {p : Addr} (h : Purse H p) : ∃ o, H p = .some o := by
  obtain ⟨g, t, n2, h1, h2⟩ := h
  exact ⟨_, h1⟩
/-! ### letters -/
abbrev letter (c : Nat) : Str := ⟨#[c]⟩
abbrev alphS : Str := "ABCDEFGHIJKLMNOPQRSTUVWXYZ"
def alph : List Str := alphS.cps.toList.map letter
theorem alph_len : alph.length = 26 := by decide +kernel
theorem alph_nd : alph.Nodup := by decide +kernel
theorem alph_nm : ∀ z ∈ alph, isNm z = true := by decide +kernel
theorem nd_len {α : Type} [DecidableEq α] : ∀ {l cs : List α}, l.Nodup → (∀ x ∈ l, x ∈ cs) → l.length ≤ cs.length
  | [], _, _, _ => Nat.zero_le _
  | x :: l, cs, nd, sub => by
    have hx := sub x (List.mem_cons_self ..)
    have nd2 := List.nodup_cons.mp nd
    have ih := nd_len (l := l) (cs := cs.erase x) nd2.2 fun y hy => (List.mem_erase_of_ne (show y ≠ x from fun e => nd2.1 (by rw [← e]; exact hy))).mpr (sub y (List.mem_cons_of_mem _ hy))
    rw [List.length_erase_of_mem hx] at ih
    have : 0 < cs.length := List.length_pos_of_mem hx
    rw [List.length_cons]
    omega
def leftL (zs l : List Str) : List Str := l.filter fun z => !zs.contains z
theorem leftL_pos {zs : List Str} (h : zs.length < 26) : 0 < (leftL zs alph).length := by
  rcases Nat.eq_zero_or_pos (leftL zs alph).length with e | e
  · have e2 : leftL zs alph = [] := List.length_eq_zero_iff.mp e
    have := nd_len (l := alph) (cs := zs) alph_nd fun x hx => by
      rcases hc : zs.contains x with _ | _
      · have : x ∈ leftL zs alph := List.mem_filter.mpr ⟨hx, by simpa using hc⟩
        rw [e2] at this
        cases this
      · simpa using hc
    rw [alph_len] at this
    omega
  · exact e
theorem lt_of_nlt {a b : Str} (h : (!ltCps b.cps.toList a.cps.toList) = true) (n : a ≠ b) : a.cps.toList < b.cps.toList := by
  rw [ltCps_eq] at h
  have h2 : ¬ b.cps.toList < a.cps.toList := by simpa using h
  rcases List.le_iff_lt_or_eq.mp (List.not_lt.mp h2) with h3 | h3
  · exact h3
  · refine absurd ?_ n
    obtain ⟨⟨x⟩⟩ := a
    obtain ⟨⟨y⟩⟩ := b
    simp only at h3
    subst h3
    rfl
theorem up_of_sorted : ∀ {p : Str} {ys : List Str}, risingS p ys = true → (p :: ys).Nodup → (upV ((p :: ys).map V.str)).all id = true
  | p, [], _, _ => rfl
  | p, y :: ys, h, nd => by
    unfold risingS at h
    rw [Bool.and_eq_true] at h
    have nd2 := List.nodup_cons.mp nd
    have ih := up_of_sorted h.2 nd2.2
    have e : upV ((p :: y :: ys).map V.str) = decide (p.cps.toList < y.cps.toList) :: upV ((y :: ys).map V.str) := rfl
    rw [e, List.all_cons, Bool.and_eq_true]
    exact ⟨decide_eq_true (lt_of_nlt h.1 fun q => nd2.1 (q ▸ List.mem_cons_self ..)), ih⟩
theorem up_sorted {ys : List Str} (h : sortedS ys = true) (nd : ys.Nodup) : (upV (ys.map V.str)).all id = true := by
  cases ys with
  | nil => rfl
  | cons y ys => exact up_of_sorted h nd
theorem inV_str (z : Str) (zs : List Str) : inV (.str z) (zs.map V.str) = zs.contains z := by
  unfold inV
  rw [List.any_map]
  induction zs with
  | nil => rfl
  | cons y zs ih =>
    rw [List.any_cons, List.contains_cons, ih]
    congr 1
    show (y == z) = (z == y)
    exact Bool.beq_comm ..
theorem flat_strs (zs : List Str) : (zs.map V.str).all flatV = true := by
  rw [List.all_map]
  exact List.all_eq_true.mpr fun _ _ => rfl
structure Letters (ys : List Str) : Prop where
  up : (upV (ys.map V.str)).all id = true
  nm : ∀ y ∈ ys, isNm y = true
  fit : ys.length ≤ 26
/-- _law_letters(purse, many) -/
def spLetters : Sp := fun vs H Q _ => ∃ (p : Addr) (many : Int), vs = [.ref p, .int many] ∧ Purse H p ∧ 0 ≤ many ∧ many ≤ 26 ∧
  ∀ (l : Addr) (ys : List Str) (H' : Hp), But p H H' → Purse H' p → l ≠ p → H' l = some (.lst (ys.map V.str)) → Letters ys → Q (.ref l) H'
theorem opNotIn {X : Cx} (K : PySem.W.Frag) (e : X.K = K := by rfl) : OpR X (compareOp .NotIn) (rIn K true) := by
  subst e
  exact op_notIn_seq
structure TxtL (K : PySem.W.Frag) (mg : Str → Option Value) (fR : Addr) : Prop where
  b : TxtB K mg
  g_roll : mg "_law_roll" = some (.ref fR)
  k_roll : PySem.W.keepIn K (.ref fR) = true
  n_sorted : mg "sorted" = none
  n_dict : mg "dict" = none
section
variable {P : Program} {w : World} {K : PySem.W.Frag} {mg : Str → Option Value} {base : Heap}
abbrev s_letters : Stmt := top 33
theorem sc_letters : FnScope ["_law_purse_here", "_law_many", "_law_found", "_law_turn", "_law_left", "_law_letter"] ["_law_purse_here", "_law_many"] (defScope s_letters) := ⟨rfl, rfl, rfl, by decide +kernel, rfl, by decide +kernel, by decide +kernel⟩
theorem ok_letters {f fR : Addr} {fd dR : FuncData} (F : Fun K "_law_letters" "_law_letters" s_letters f fd) (T : TxtL K mg fR) (GR : FnOk P w K mg base CX0 1 fR dR ["_law_purse_here", "_law_many"] spRoll) (bR : L2.Binds K dR ["_law_purse_here", "_law_many"] []) :
    FnOk P w K mg base CX0 2 f fd ["_law_purse_here", "_law_many"] spLetters := by
  refine F.ok sc_letters (fun vs H Q E h => ?_) (fun cdv A outer s H vs Q E hr h => ?_)
  · obtain ⟨p, many, rfl, _⟩ := h
    rfl
  · obtain ⟨p, many, rfl, hp, m0, m1, k⟩ := h
    refine ⟨_, (pss_cons (ps_set (i := 2) sc_letters.nd rfl (Or.inr rfl) (pe_lstN pa_nil))
    (pss_cons (ps_for PassesOwn.never rfl (pi_range1 rfl T.b.n_range (pa_cons (pv 1) pa_nil)) (pg_name (i := 3) sc_letters.nd rfl (Or.inl rfl))
    (pss_cons (ps_setLc (i := 4) (own := [("_law_letter", 5)]) (g := gName 5) rfl sc_letters.nd rfl rfl (sw_true rfl rfl rfl (by decide +kernel)) (pi_str pe_str) (blkOk_by (N := ["_law_purse_here", "_law_many", "_law_found", "_law_turn", "_law_left", "_law_letter"]) (sc := defScope s_letters) (by decide +kernel)) (fun _ _ _ _ _ => (pg_name (i := 5) sc_letters.nd rfl (Or.inl rfl))) (fun _ _ _ _ _ => (pts_one (pt_cmpR (opNotIn K) (pv 5) (pv 2) rfl))) (fun _ _ _ _ _ => (pv 5)))
    (pss_one (ps_expr (pe_bm PySem.F.plainAttrs_list PySem.F.slot_list_append PySem.F.type_list_append mt_append (pv 2) (pa_cons (pe_ix ix_list (pv 4) (pe_call GR hr rfl T.g_roll T.k_roll bR .nil pass0 (pa_cons (pv 0) (pa_cons (pe_callB call_len_seq (by rfl) T.b.n_len PySem.boot_len (pa_cons (pv 4) pa_nil)) pa_nil))) (fun _ _ => rfl)) pa_nil))))))
    (pss_one (ps_ret (pe_callB cr_sortedS (by rfl) T.n_sorted (by decide +kernel) (pa_cons (pv 2) pa_nil)))))), ?_⟩
    refine ⟨fits rfl, fun FL H0 n0 s0 e0 => ?_⟩
    have hnp : FL ≠ p := by
      obtain ⟨o, ho⟩ := hp.some
      exact fun e => by rw [e, ho] at n0; cases n0
    refine ⟨_, rfl, many, rfl, by omega, by omega, for_range (lo := 0) (n := many.toNat) (fun j σ H' => ∃ zs : List Str, zs.length = j ∧ zs.Nodup ∧ (∀ z ∈ zs, z ∈ alph) ∧ But p H H' ∧ Purse H' p ∧ H' FL = some (.lst (zs.map V.str)) ∧ ∃ v3 v4 v5, σ = [some (.ref p), some (.int many), some (.ref FL), v3, v4, v5])
      ⟨[], rfl, List.nodup_nil, (by intro z hz; simp at hz), But.same s0, hp.same s0, e0, _, _, _, rfl⟩ (fun j σ H' hj hh => ?_) (fun σ H' hh => ?_)⟩
    · obtain ⟨zs, hl, nd, ha, b1, p1, e1, v3, v4, v5, rfl⟩ := hh
      have hz26 : zs.length < 26 := by omega
      refine ⟨alphS, rfl, fun D hD => lc_it walk_str (fun i H2 => Same H' H2 ∧ H2 D = some (.lst ((leftL zs (alph.take i)).map V.str))) ⟨Same.new (Same.refl H') hD, upd_same⟩ (fun _ _ _ _ => trivial) (fun i x H2 H3 hi hh y => ?_) (fun H2 hh => ?_)⟩
      · obtain ⟨s2, d2⟩ := hh
        obtain ⟨rfl, c, hc, rfl⟩ := y
        have hai : alph[i]? = some (letter c) := by
          unfold alph
          rw [List.getElem?_map, Array.getElem?_toList, hc]
          rfl
        refine ⟨rfl, ?_⟩
        refine ⟨_, rfl, _, rfl, FL, zs.map V.str, rfl, .inl (SqL.of (s2 _ _ e1)), rfl, flat_strs zs, _, rfl, ?_⟩
        rw [inV_str]
        have hsz : ((leftL zs (alph.take i)).map V.str).length < sizeLine := by
          rw [List.length_map]
          refine Nat.lt_of_le_of_lt (List.length_filter_le _ _) (Nat.lt_of_le_of_lt (List.length_take_le _ _) ?_)
          exact Nat.lt_of_le_of_lt (show i ≤ 26 from Nat.le_of_lt hi) (by decide)
        cases hc2 : zs.contains (letter c) with
        | true =>
          refine ⟨s2, ?_⟩
          rw [d2, List.take_add_one, hai]
          simp only [leftL, Option.toList, List.filter_append, List.filter_cons, hc2]
          simp
        | false =>
          refine ⟨_, rfl, _, d2, hsz, Same.put s2 hD, ?_⟩
          rw [upd_same, List.take_add_one, hai]
          simp only [leftL, Option.toList, List.filter_append, List.filter_cons, hc2]
          simp
      · obtain ⟨s2, d2⟩ := hh
        rw [show alph.take alphS.cps.size = alph from List.take_of_length_le (Nat.le_of_eq (by rw [alph_len]; decide +kernel))] at d2
        have hDp : D ≠ p := by
          obtain ⟨o, ho⟩ := p1.some
          exact fun e => by rw [e, ho] at hD; cases hD
        have hpos := leftL_pos hz26
        have h26 : (leftL zs alph).length ≤ 26 := Nat.le_trans (List.length_filter_le _ _) (Nat.le_of_eq alph_len)
        refine ⟨_, rfl, .inl ⟨rfl, _, SqL.of (s2 _ _ e1)⟩, ?_⟩
        refine ⟨_, rfl, _, rfl, _, rfl, D, _, rfl, .inl (SqL.of d2), ?_⟩
        refine ⟨p, _, rfl, p1.same s2, by rw [List.length_map]; omega, by rw [List.length_map]; omega, fun r H3 r0 r1 b3 p3 => ?_⟩
        rw [List.length_map] at r1
        obtain ⟨q, rfl⟩ := Int.eq_ofNat_of_zero_le r0
        have hq : q < (leftL zs alph).length := by omega
        have hmem : (leftL zs alph)[q] ∈ leftL zs alph := List.getElem_mem hq
        obtain ⟨hm1, hm2⟩ := List.mem_filter.mp hmem
        refine ⟨D, _, (q : Int), .str (leftL zs alph)[q], rfl, rfl, SqL.of (b3 D _ hDp d2), atI_nat (by rw [List.getElem?_map, List.getElem?_eq_getElem hq]; rfl), ?_⟩
        refine ⟨FL, _, _, rfl, rfl, b3 FL _ hnp (s2 _ _ e1), by rw [List.length_map]; exact Nat.lt_trans hz26 (by decide), ?_⟩
        refine ⟨zs ++ [(leftL zs alph)[q]], by simp [hl], ?_, ?_, But.put2 (b1.trans ((But.same s2).trans b3)) n0, p3.upd (Ne.symm hnp), ?_, _, _, _, rfl⟩
        · refine List.nodup_append.mpr ⟨nd, by simp, fun x hx y hy => ?_⟩
          rw [List.mem_singleton] at hy
          subst hy
          intro e
          subst e
          have : zs.contains (leftL zs alph)[q] = true := by simpa using hx
          rw [this] at hm2
          cases hm2
        · intro z hz
          rcases List.mem_append.mp hz with hz | hz
          · exact ha z hz
          · rw [List.mem_singleton] at hz
            rw [hz]
            exact hm1
        · rw [upd_same, List.map_append]
          rfl
    · obtain ⟨zs, hl, nd, ha, b1, p1, e1, v3, v4, v5, rfl⟩ := hh
      refine ⟨_, rfl, FL, zs, rfl, SqL.of e1, by omega, fun ys l perm srt hl2 => ?_⟩
      have hlp : l ≠ p := by
        obtain ⟨o, ho⟩ := p1.some
        exact fun e => by rw [e, ho] at hl2; cases hl2
      refine k l ys _ (But.new b1 hl2) (p1.upd (Ne.symm hlp)) hlp upd_same ⟨up_sorted srt (perm.nodup_iff.mpr nd), fun y hy => alph_nm y (ha y (perm.mem_iff.mp hy)), ?_⟩
      rw [perm.length_eq]
      omega
end
end Sp
set_option Elab.async false
set_option linter.all false
set_option maxRecDepth 100000
set_option maxHeartbeats 4000000
namespace Sp
open PySem PySem.Spec PyProof.Rows L2 RZ
theorem up_snoc : ∀ {ns : List Int} {m : Int}, upR ns = true → (∀ n ∈ ns, n < m) → upR (ns ++ [m]) = true
  | [], _, _, _ => rfl
  | [a], m, _, h => by
    have := h a (List.mem_cons_self ..)
    show (decide (a < m) && true) = true
    rw [decide_eq_true this]
    rfl
  | a :: b :: r, m, h, g => by
    have e : ∀ r : List Int, upR (a :: b :: r) = (decide (a < b) && upR (b :: r)) := fun r => rfl
    rw [e, Bool.and_eq_true] at h
    rw [List.cons_append, List.cons_append, e, Bool.and_eq_true]
    exact ⟨h.1, up_snoc (ns := b :: r) h.2 fun n hn => g n (List.mem_cons_of_mem _ hn)⟩
theorem int_at {ns : List Int} {k : Nat} (h : k < ns.length) : (ns.map V.int)[k]? = some (.int ns[k]) := by
  rw [List.getElem?_map, List.getElem?_eq_getElem h]
  rfl
theorem off {H : Hp} {p q : Addr} {o : HO} (n : H q = none) (h : H p = some o) : q ≠ p := fun e => by rw [e, h] at n; cases n
theorem Purse.off {H : Hp} {p q : Addr} (h : Purse H p) (n : H q = none) : q ≠ p := by
  obtain ⟨o, ho⟩ := h.some
  exact Sp.off n ho
/-- _law_set(purse, wide) -/
def spSet : Sp := fun vs H Q _ => ∃ (p : Addr) (wide : Int), vs = [.ref p, .int wide] ∧ Purse H p ∧ 0 ≤ wide ∧ wide ≤ 10000 ∧
  ∀ (b : Addr) (ns : List Int) (H' : Hp), But p H H' → Purse H' p → H' b = some (.tup (ns.map V.int)) → Ticks wide ns → Q (.ref b) H'
section
variable {P : Program} {w : World} {K : PySem.W.Frag} {mg : Str → Option Value} {base : Heap}
abbrev s_set : Stmt := top 34
theorem sc_set : FnScope ["_law_purse_here", "_law_wide", "_law_way", "_law_level", "_law_found", "_law_inside", "_law_t"] ["_law_purse_here", "_law_wide"] (defScope s_set) := ⟨rfl, rfl, rfl, by decide +kernel, rfl, by decide +kernel, by decide +kernel⟩
theorem ok_set {f fR : Addr} {fd dR : FuncData} (F : Fun K "_law_set" "_law_set" s_set f fd) (T : TxtL K mg fR) (GR : FnOk P w K mg base CX0 1 fR dR ["_law_purse_here", "_law_many"] spRoll) (bR : L2.Binds K dR ["_law_purse_here", "_law_many"] []) :
    FnOk P w K mg base CX0 2 f fd ["_law_purse_here", "_law_wide"] spSet := by
  refine F.ok sc_set (fun vs H Q E h => ?_) (fun cdv A outer s H vs Q E hr h => ?_)
  · obtain ⟨p, wide, rfl, _⟩ := h
    rfl
  · obtain ⟨p, wide, rfl, hp, m0, m1, k⟩ := h
    refine ⟨_, (pss_cons (ps_par (i := 2) (j := 3) rfl sc_set.nd rfl rfl (by decide) rfl rfl (pa_cons (pe_call GR hr rfl T.g_roll T.k_roll bR .nil pass0 (pa_cons (pv 0) (pa_cons pe_int pa_nil))) (pa_cons (pe_ix ix_list (pe_lstN (pa_cons pe_int (pa_cons pe_int (pa_cons pe_int (pa_cons pe_int (pa_cons pe_int pa_nil)))))) (pe_call GR hr rfl T.g_roll T.k_roll bR .nil pass0 (pa_cons (pv 0) (pa_cons pe_int pa_nil))) (fun _ _ => rfl)) pa_nil)) (by rfl))
    (pss_cons (ps_par (i := 4) (j := 5) rfl sc_set.nd rfl rfl (by decide) rfl rfl (pa_cons (pe_lstN pa_nil) (pa_cons pe_bl pa_nil)) (by rfl))
    (pss_cons (ps_for PassesOwn.never rfl (pi_range1 rfl T.b.n_range (pa_cons (pv 1) pa_nil)) (pg_name (i := 6) sc_set.nd rfl (Or.inl rfl))
    (pss_cons (ps_if (pt_cmpR op_eq (pv 2) pe_int (nomark _)) (pss_one (ps_set (i := 5) sc_set.nd rfl (Or.inl rfl) (pe_cmpR op_lt (pe_call GR hr rfl T.g_roll T.k_roll bR .nil pass0 (pa_cons (pv 0) (pa_cons pe_int pa_nil))) (pv 3) (nomark _)))) (pss_one (ps_if (pt_cmpR op_eq (pe_call GR hr rfl T.g_roll T.k_roll bR .nil pass0 (pa_cons (pv 0) (pa_cons pe_int pa_nil))) pe_int (nomark _)) (pss_one (ps_set (i := 5) sc_set.nd rfl (Or.inl rfl) (pe_not (pv 5)))) pss_nil)))
    (pss_one (ps_if (pt_val (pv 5)) (pss_one (ps_expr (pe_bm PySem.F.plainAttrs_list PySem.F.slot_list_append PySem.F.type_list_append mt_append (pv 4) (pa_cons (pv 6) pa_nil)))) pss_nil))))
    (pss_one (ps_ret (pe_callTy call_tuple_of (by rfl) T.b.n_tuple (by decide +kernel) (pa_cons (pv 4) pa_nil))))))), ?_⟩
    refine ⟨_, rfl, p, 3, rfl, hp, by decide, by decide, fun r1 H1 a0 a1 b1 p1 => ?_⟩
    refine ⟨fits rfl, fun L H2 n2 s2 e2 => ?_⟩
    refine ⟨_, rfl, p, 5, rfl, p1.same s2, by decide, by decide, fun r2 H3 c0 c1 b3 p3 => ?_⟩
    obtain ⟨q, rfl⟩ := Int.eq_ofNat_of_zero_le c0
    have hq : q < ([2, 1, 3, 0, 4] : List Int).length := by show q < 5; omega
    refine ⟨L, ([2, 1, 3, 0, 4] : List Int).map V.int, (q : Int), .int (([2, 1, 3, 0, 4] : List Int)[q]), rfl, rfl, SqL.of (b3 L _ (p1.off n2) e2), atI_nat (int_at hq), ?_⟩
    generalize ([2, 1, 3, 0, 4] : List Int)[q] = lev
    refine ⟨_, _, rfl, ?_⟩
    refine ⟨fits rfl, fun FL H4 n4 s4 e4 => ⟨_, _, rfl, ?_⟩⟩
    have hFp : FL ≠ p := p3.off n4
    have b4 : But p H H4 := b1.trans ((But.same s2).trans (b3.trans (But.same s4)))
    have nF : ∀ b o, b ≠ p → H b = some o → b ≠ FL := fun b o hb ho => ne_of_none (b3 b o hb (s2 b o (b1 b o hb ho))) n4
    refine ⟨_, rfl, wide, rfl, by omega, by omega, for_range (lo := 0) (n := wide.toNat) (fun j σ H' => ∃ (ns : List Int) (c : Bool), upR ns = true ∧ (∀ n ∈ ns, 0 ≤ n ∧ n < j) ∧ ns.length ≤ j ∧ But p H H' ∧ Purse H' p ∧ H' FL = some (.lst (ns.map V.int)) ∧ ∃ v6, σ = [some (.ref p), some (.int wide), some (.int r1), some (.int lev), some (.ref FL), some (.bl c), v6])
      ⟨[], false, rfl, (by intro n hn; simp at hn), Nat.zero_le _, b4, p3.same s4, e4, _, rfl⟩ (fun j σ H' hj hh => ?_) (fun σ H' hh => ?_)⟩
    · obtain ⟨ns, c, hu, hn, hl, b5, p5, e5, v6, rfl⟩ := hh
      have fin : ∀ D : Ends, (∀ σ H', (∃ (ns : List Int) (c : Bool), upR ns = true ∧ (∀ n ∈ ns, 0 ≤ n ∧ n < ((j + 1 : Nat) : Int)) ∧ ns.length ≤ j + 1 ∧ But p H H' ∧ Purse H' p ∧ H' FL = some (.lst (ns.map V.int)) ∧ ∃ v6, σ = [some (.ref p), some (.int wide), some (.int r1), some (.int lev), some (.ref FL), some (.bl c), v6]) → D.nx σ H') →
          ∀ (b : Bool) (H6 : Hp), But p H' H6 → Purse H6 p → tIfS (tB (tVar 5)) (tDrop (tBM K "list" rAppend (tVar 4) (tCons (tVar 6) tNil))) tNext D [some (.ref p), some (.int wide), some (.int r1), some (.int lev), some (.ref FL), some (.bl b), some (.int (0 + (j : Int)))] H6 := fun D hD b H6 b6 p6 => by
        have e6 := b6 FL _ hFp e5
        cases b with
        | false => exact ⟨_, rfl, _, rfl, hD _ _ ⟨ns, false, hu, fun n h => ⟨(hn n h).1, by have := (hn n h).2; omega⟩, by omega, b5.trans b6, p6, e6, _, rfl⟩⟩
        | true =>
          refine ⟨_, rfl, _, rfl, ?_⟩
          refine ⟨_, rfl, .inl ⟨rfl, _, SqL.of e6⟩, _, rfl, FL, _, _, rfl, rfl, e6, ?_, ?_⟩
          · rw [List.length_map]
            exact Nat.lt_of_le_of_lt hl (Nat.lt_of_lt_of_le (show j < 10000 by omega) (by decide))
          · refine hD _ _ ⟨ns ++ [0 + (j : Int)], true, up_snoc hu fun n h => by have := (hn n h).2; omega, fun n h => ?_, by simp; exact hl, ?_, p6.upd (Ne.symm hFp), ?_, _, rfl⟩
            · rcases List.mem_append.mp h with h | h
              · have := hn n h
                omega
              · rw [List.mem_singleton] at h
                omega
            · intro x o hx ho
              rw [upd_ne (nF x o hx ho)]
              exact b6 x o hx (b5 x o hx ho)
            · rw [upd_same, List.map_append]
              rfl
      refine ⟨_, rfl, rfl, _, rfl, ite2 (fun c2 => ?_) (fun c2 => ?_)⟩
      · refine ⟨_, rfl, p, 4, rfl, p5, by decide, by decide, fun r H6 d0 d1 b6 p6 => ⟨_, rfl, _, _, rfl, rfl, ?_⟩⟩
        exact fin _ (fun _ _ h => h) _ H6 b6 p6
      · refine ⟨_, rfl, p, 4, rfl, p5, by decide, by decide, fun r H6 d0 d1 b6 p6 => ⟨rfl, _, rfl, ite2 (fun c3 => ?_) (fun c3 => ?_)⟩⟩
        · refine ⟨_, rfl, _, rfl, ?_⟩
          exact fin _ (fun _ _ h => h) _ H6 b6 p6
        · exact fin _ (fun _ _ h => h) _ H6 b6 p6
    · obtain ⟨ns, c, hu, hn, hl, b5, p5, e5, v6, rfl⟩ := hh
      refine ⟨_, rfl, FL, _, rfl, .inl ⟨SqL.of e5, fun l hl2 => ?_⟩⟩
      have hlp := p5.off hl2
      refine k l ns _ (But.new b5 hl2) (p5.upd (Ne.symm hlp)) upd_same ⟨fun n h => ?_, hu, by omega⟩
      have := hn n h
      unfold okTick
      rw [Bool.and_eq_true, decide_eq_true_eq, decide_eq_true_eq]
      omega
end
end Sp
set_option Elab.async false
set_option linter.all false
set_option maxRecDepth 100000
set_option maxHeartbeats 4000000
namespace Sp
open PySem PySem.Spec PyProof.Rows L2 RZ
theorem DpAll.snoc {K : PySem.W.Frag} {H : Hp} {v : V} {d : PyData} (h2 : Dp K H v d) : ∀ {xs : List V} {ds : List PyData}, DpAll K H xs ds → DpAll K H (xs ++ [v]) (ds ++ [d])
  | [], [], .nil => .cons h2 .nil
  | x :: xs, e :: ds, .cons a b => .cons a (DpAll.snoc h2 b)
theorem DpAll.len {K : PySem.W.Frag} {H : Hp} : ∀ {xs : List V} {ds : List PyData}, DpAll K H xs ds → xs.length = ds.length
  | [], [], .nil => rfl
  | x :: xs, e :: ds, .cons a b => by simp [DpAll.len b]
/-- data that stands apart from p and q -/
def Apart (K : PySem.W.Frag) (H : Hp) (p q : Addr) (xs : List V) (ds : List PyData) : Prop := ∃ G, Same G H ∧ G p = none ∧ G q = none ∧ DpAll K G xs ds
theorem Apart.all {K : PySem.W.Frag} {H : Hp} {p q : Addr} {xs : List V} {ds : List PyData} (h : Apart K H p q xs ds) : DpAll K H xs ds := by
  obtain ⟨G, s, _, _, d⟩ := h
  exact DpAll.same s d
theorem Apart.but {K : PySem.W.Frag} {H H' : Hp} {p q : Addr} {xs : List V} {ds : List PyData} (h : Apart K H p q xs ds) (b : But p H H') : Apart K H' p q xs ds := by
  obtain ⟨G, s, n1, n2, d⟩ := h
  exact ⟨G, But.ofNew s n1 b, n1, n2, d⟩
theorem Apart.put {K : PySem.W.Frag} {H : Hp} {p q : Addr} {xs : List V} {ds : List PyData} {o : HO} (h : Apart K H p q xs ds) : Apart K (upd H q o) p q xs ds := by
  obtain ⟨G, s, n1, n2, d⟩ := h
  exact ⟨G, Same.put s n2, n1, n2, d⟩
theorem dp_ints {K : PySem.W.Frag} {H : Hp} : ∀ ns : List Int, DpAll K H (ns.map V.int) (ns.map PyData.int)
  | [] => .nil
  | n :: ns => .cons (.int n) (dp_ints ns)
theorem hid_none {p : Addr} {H : Hp} : hid p H p = none := by
  unfold hid
  rw [if_pos rfl]
/-- _law_drawn_rows(purse, letters, wide) -/
def spDrawnRows (K : PySem.W.Frag) : Sp := fun vs H Q _ => ∃ (p l : Addr) (ys : List Str) (wide : Int), vs = [.ref p, .ref l, .int wide] ∧ Purse H p ∧ l ≠ p ∧ H l = some (.lst (ys.map V.str)) ∧ Letters ys ∧ 0 ≤ wide ∧ wide ≤ 10000 ∧
  ∀ (v : V) (rows : List Row) (H' : Hp), But p H H' → Purse H' p → Dp K H' v (rowsD rows) → Rows wide rows → Q v H'
structure TxtM (K : PySem.W.Frag) (mg : Str → Option Value) (fR fS : Addr) : Prop where
  l : TxtL K mg fR
  g_set : mg "_law_set" = some (.ref fS)
  k_set : PySem.W.keepIn K (.ref fS) = true
section
variable {P : Program} {w : World} {K : PySem.W.Frag} {mg : Str → Option Value} {base : Heap}
abbrev s_drows : Stmt := top 35
theorem sc_drows : FnScope ["_law_purse_here", "_law_letters_here", "_law_wide", "_law_found", "_law_letter"] ["_law_purse_here", "_law_letters_here", "_law_wide"] (defScope s_drows) := ⟨rfl, rfl, rfl, by decide +kernel, rfl, by decide +kernel, by decide +kernel⟩
theorem ok_drows {f fR fS : Addr} {fd dS : FuncData} (F : Fun K "_law_drawn_rows" "_law_drawn_rows" s_drows f fd) (T : TxtM K mg fR fS) (GS : FnOk P w K mg base CX0 2 fS dS ["_law_purse_here", "_law_wide"] spSet) (bS : L2.Binds K dS ["_law_purse_here", "_law_wide"] []) :
    FnOk P w K mg base CX0 3 f fd ["_law_purse_here", "_law_letters_here", "_law_wide"] (spDrawnRows K) := by
  refine F.ok sc_drows (fun vs H Q E h => ?_) (fun cdv A outer s H vs Q E hr h => ?_)
  · obtain ⟨p, l, ys, wide, rfl, _⟩ := h
    rfl
  · obtain ⟨p, l, ys, wide, rfl, hp, hlp, el, hY, m0, m1, k⟩ := h
    refine ⟨_, (pss_cons (ps_set (i := 3) sc_drows.nd rfl (Or.inl rfl) (pe_lstN pa_nil))
    (pss_cons (ps_for PassesOwn.never rfl (pi_list (pv 1)) (pg_name (i := 4) sc_drows.nd rfl (Or.inl rfl))
    (pss_one (ps_expr (pe_bm PySem.F.plainAttrs_list PySem.F.slot_list_append PySem.F.type_list_append mt_append (pv 3) (pa_cons (pe_tupN (pa_cons (pv 4) (pa_cons (pe_call GS hr rfl T.g_set T.k_set bS .nil pass0 (pa_cons (pv 0) (pa_cons (pv 2) pa_nil))) pa_nil))) pa_nil)))))
    (pss_one (ps_ret (pe_callTy call_tuple_of (by rfl) T.l.b.n_tuple (by decide +kernel) (pa_cons (pv 3) pa_nil)))))), ?_⟩
    refine ⟨fits rfl, fun FL H0 n0 s0 e0 => ?_⟩
    have hFp : FL ≠ p := hp.off n0
    have hFl : FL ≠ l := off n0 el
    refine ⟨_, rfl, l, rfl, ⟨_, SqL.of (s0 _ _ el)⟩, for_list (xs := ys.map V.str) (fun j σ H' => ∃ (rows : List Row) (xs : List V), rows.map (·.1) = ys.take j ∧ (∀ r ∈ rows, Ticks wide r.2) ∧ But p H H' ∧ Purse H' p ∧ H' FL = some (.lst xs) ∧ Apart K H' p FL xs (rows.map rowD) ∧ ∃ v4, σ = [some (.ref p), some (.ref l), some (.int wide), some (.ref FL), v4])
      ⟨[], [], rfl, (by intro n hn; simp at hn), But.same s0, hp.same s0, e0, ⟨fun _ => none, (fun b o h => by cases h), rfl, rfl, .nil⟩, _, rfl⟩ (fun j σ H' _ hh => ?_) (fun j x σ H' hxj hh => ?_) (fun σ H' hh => ?_)⟩
    · obtain ⟨rows, xs, h1, h2, b1, _⟩ := hh
      exact SqL.of (b1 l _ hlp el)
    · obtain ⟨rows, xs, h1, h2, b1, p1, e1, ap, v4, rfl⟩ := hh
      rw [List.getElem?_map] at hxj
      obtain ⟨y, hy, rfl⟩ := Option.map_eq_some_iff.mp hxj
      have hj26 : xs.length ≤ 26 := by
        obtain ⟨G, _, _, _, d⟩ := ap
        have := DpAll.len d
        rw [List.length_map] at this
        have h3 := congrArg List.length h1
        rw [List.length_map, List.length_take] at h3
        have := hY.fit
        omega
      refine ⟨_, rfl, .inl ⟨rfl, _, SqL.of e1⟩, ?_⟩
      refine ⟨_, rfl, _, rfl, _, rfl, p, wide, rfl, p1, m0, m1, fun b ns H2 b2 p2 eb hT => ?_⟩
      refine ⟨fits rfl, fun t H3 n3 s3 e3 => ?_⟩
      have e1' := s3 _ _ (b2 FL _ hFp e1)
      refine ⟨FL, _, _, rfl, rfl, e1', Nat.lt_of_le_of_lt hj26 (by decide), ?_⟩
      have p3 := p2.same s3
      have hbp : b ≠ p := by
        obtain ⟨g, t2, n2, h4, _⟩ := p2
        exact fun e => by rw [e, h4] at eb; cases eb
      have hbF : b ≠ FL := fun e => by rw [e, b2 FL _ hFp e1] at eb; cases eb
      have htp : t ≠ p := p2.off n3
      have htF : t ≠ FL := off n3 (b2 FL _ hFp e1)
      have apN : Apart K H3 p FL (xs ++ [.ref t]) ((rows ++ [(y, ns)]).map rowD) := by
        obtain ⟨G, sG, g1, g2, d⟩ := (ap.but b2).but (But.same s3)
        refine ⟨hid FL (hid p H3), fun c o h => ?_, ?_, hid_none, ?_⟩
        · unfold hid at h
          split at h
          · cases h
          · split at h
            · cases h
            · exact h
        · unfold hid
          split
          · rfl
          · rw [if_pos rfl]
        · rw [List.map_append]
          refine DpAll.snoc ?_ (DpAll.same (fun c o h => ?_) d)
          · exact .tup (SqT.of (hid_at htF (hid_at htp e3))) (.cons (.str y) (.cons (.tup (SqT.of (hid_at hbF (hid_at hbp (s3 _ _ eb)))) (dp_ints ns)) .nil))
          · exact hid_at (ne_of_none h g2) (hid_at (ne_of_none h g1) (sG c o h))
      refine ⟨rows ++ [(y, ns)], xs ++ [.ref t], ?_, fun r hr => ?_, ?_, p3.upd (Ne.symm hFp), upd_same, apN.put, _, rfl⟩
      · rw [List.map_append, h1, List.take_add_one, hy]
        rfl
      · rcases List.mem_append.mp hr with hr | hr
        · exact h2 r hr
        · rw [List.mem_singleton] at hr
          rw [hr]
          exact hT
      · exact But.put2 (b1.trans (b2.trans (But.same s3))) n0
    · obtain ⟨rows, xs, h1, h2, b1, p1, e1, ap, v4, rfl⟩ := hh
      rw [List.length_map, List.take_length] at h1
      refine ⟨_, rfl, FL, _, rfl, .inl ⟨SqL.of e1, fun t ht => ?_⟩⟩
      have htp := p1.off ht
      refine k _ rows _ (But.new b1 ht) (p1.upd (Ne.symm htp)) (.tup (SqT.of upd_same) (DpAll.same (Same.new (Same.refl H') ht) ap.all)) ⟨fun r hr => ?_, h2, ?_, ?_⟩
      · exact hY.nm _ (by rw [← h1]; exact List.mem_map.mpr ⟨r, hr, rfl⟩)
      · have := hY.up
        rw [← h1, List.map_map] at this
        exact this
      · have h3 := congrArg List.length h1
        rw [List.length_map] at h3
        have := hY.fit
        omega
end
end Sp
set_option Elab.async false
set_option linter.all false
set_option maxRecDepth 100000
set_option maxHeartbeats 4000000
namespace Sp
open PySem PySem.Spec PyProof.Rows L2 RZ
def kvsOf (ns : List Int) : List (Key × V) := ns.map fun n => (Sum.inl n, V.bl true)
theorem has_merge : ∀ (ns : List Int) {kvs : List (Key × V)} {ms : List Int}, DHas kvs ms → DHas (mergeK kvs (kvsOf ns)) (ms ++ ns)
  | [], kvs, ms, h => by
    rw [List.append_nil]
    exact h
  | n :: ns, kvs, ms, h => by
    have := has_merge ns (h.put (n := n) (y := .bl true))
    rw [List.append_assoc] at this
    exact this
theorem Paired.snoc {α β : Type} {R : α → β → Prop} {a : α} {b : β} (h : R a b) : ∀ {xs : List α} {ys : List β}, Paired R xs ys → Paired R (xs ++ [a]) (ys ++ [b])
  | _, _, .nil => .cons h .nil
  | _, _, .cons r t => .cons r (Paired.snoc h t)
theorem Paired.imp2 {α β : Type} {R S : α → β → Prop} (h : ∀ a b, R a b → S a b) : ∀ {xs : List α} {ys : List β}, Paired R xs ys → Paired S xs ys
  | _, _, .nil => .nil
  | _, _, .cons r t => .cons (h _ _ r) (Paired.imp2 h t)
/-- _law_marks(row, wide) -/
def spMarksL (K : PySem.W.Frag) : Sp := fun vs H Q _ => ∃ (v : V) (wide : Int) (ns : List Int), vs = [v, .int wide] ∧ Dp K H v (ticksD ns) ∧ ns.length ≤ 10000 ∧ 0 ≤ wide ∧ wide ≤ 10000 ∧ ∀ H', Same H H' → Q (.str (marksS wide ns)) H'
section
variable {P : Program} {w : World} {K : PySem.W.Frag} {mg : Str → Option Value} {base : Heap}
abbrev s_lmarks : Stmt := top 36
theorem sc_lmarks : FnScope ["_law_row", "_law_wide", "_law_inside", "_law_t"] ["_law_row", "_law_wide"] (defScope s_lmarks) := ⟨rfl, rfl, rfl, by decide +kernel, rfl, by decide +kernel, by decide +kernel⟩
theorem ok_lmarks {f fR : Addr} {fd : FuncData} (F : Fun K "_law_marks" "_law_marks" s_lmarks f fd) (T : TxtL K mg fR) : FnOk P w K mg base CX0 1 f fd ["_law_row", "_law_wide"] (spMarksL K) := by
  refine F.ok sc_lmarks (fun vs H Q E h => ?_) (fun cdv A outer s H vs Q E hr h => ?_)
  · obtain ⟨v, wide, ns, rfl, _⟩ := h
    rfl
  · obtain ⟨v, wide, ns, rfl, dv, hz, m0, m1, k⟩ := h
    have hu := hu_of hr
    refine ⟨_, (pss_cons (ps_set (i := 2) sc_lmarks.nd rfl (Or.inr rfl) (pe_callTy (call_dictP rfl) (by rfl) T.n_dict (by decide +kernel) (pa_cons (pe_lc (own := [("_law_t", 3)]) (g := gName 3) (tt := tYes) rfl sc_lmarks.nd (pi_tup (pv 0)) (blkOk_by (N := ["_law_row", "_law_wide", "_law_inside", "_law_t"]) (sc := defScope s_lmarks) (by decide +kernel)) (fun _ _ _ _ _ => (pg_name (i := 3) sc_lmarks.nd rfl (Or.inl rfl))) (fun _ _ _ _ _ => pts_nil) (fun _ _ _ _ _ => (pe_tupN (pa_cons (pv 3) (pa_cons pe_bl pa_nil))))) pa_nil)))
    (pss_one (ps_ret (pe_join pe_str (pe_lc (own := [("_law_t", 3)]) (g := gName 3) (tt := tYes) rfl sc_lmarks.nd (pi_range1 rfl T.b.n_range (pa_cons (pv 1) pa_nil)) (blkOk_by (N := ["_law_row", "_law_wide", "_law_inside", "_law_t"]) (sc := defScope s_lmarks) (by decide +kernel)) (fun _ _ _ _ _ => (pg_name (i := 3) sc_lmarks.nd rfl (Or.inl rfl))) (fun _ _ _ _ _ => pts_nil) (fun _ _ _ _ _ => (pe_ifExp (pt_cmp (pc_din hu (pv 3) (pv 2))) pe_str pe_str))))))), ?_⟩
    obtain ⟨a, rfl, ha⟩ := Dp.ticksI dv
    refine ⟨_, rfl, a, rfl, ⟨_, ha⟩, fun D hD => lc_tup (xs := ns.map V.int) (fun i H2 => Same H H2 ∧ ∃ ps : List Addr, H2 D = some (.lst (ps.map V.ref)) ∧ ps.length = (ns.take i).length ∧ Paired (fun p kv => p ≠ D ∧ H2 p = some (.tup [kV kv.1, kv.2])) ps (kvsOf (ns.take i))) ⟨Same.new (Same.refl H) hD, [], upd_same, rfl, .nil⟩ (fun i H2 _ hh => Same.tup hh.1 ha) (fun i x H2 hxi hh => ?_) (fun H2 hh => ?_)⟩
    · obtain ⟨s2, ps, e2, l2, hps⟩ := hh
      rw [List.getElem?_map] at hxi
      obtain ⟨n, hn, rfl⟩ := Option.map_eq_some_iff.mp hxi
      have hil : i < ns.length := (List.getElem?_eq_some_iff.mp hn).1
      refine ⟨rfl, ?_⟩
      refine ⟨_, rfl, fits rfl, fun t H3 n3 s3 e3 => ?_⟩
      have htD := off n3 e2
      refine ⟨_, s3 _ _ e2, ?_, Same.put (s2.trans s3) hD, ps ++ [t], ?_, ?_, ?_⟩
      · rw [List.length_map, l2, List.length_take]
        exact Nat.lt_of_le_of_lt (show min i ns.length ≤ 10000 by omega) (by decide)
      · rw [upd_same, List.map_append]
        rfl
      · rw [List.length_append, l2, List.take_add_one, hn, List.length_append]
        rfl
      · rw [List.take_add_one, hn]
        unfold kvsOf
        rw [List.map_append]
        refine Paired.snoc ⟨htD, ?_⟩ (Paired.imp2 (fun p kv h => ⟨h.1, ?_⟩) hps)
        · rw [upd_ne htD]
          exact e3
        · rw [upd_ne h.1]
          exact s3 _ _ h.2
    · obtain ⟨s2, ps, e2, l2, hps⟩ := hh
      rw [List.length_map, List.take_length] at hps
      refine ⟨D, ps, kvsOf ns, rfl, SqL.of e2, Paired.imp2 (fun p kv h => SqT.of h.2) hps, fun DD hDD => ?_⟩
      have hd : DHas (mergeK [] (kvsOf ns)) ns := by
        have := has_merge ns (kvs := []) (ms := []) (fun t => rfl)
        exact this
      refine ⟨⟨_, rfl⟩, ?_⟩
      have s3 : Same H (upd H2 DD (.dK (mergeK [] (kvsOf ns)))) := Same.new s2 hDD
      generalize hH3 : upd H2 DD (.dK (mergeK [] (kvsOf ns))) = H3 at s3
      have e3 : H3 DD = some (.dK (mergeK [] (kvsOf ns))) := by rw [← hH3, upd_same]
      refine ⟨_, rfl, wide, rfl, by omega, by omega, fun D2 hD2 => lc_range (lo := 0) (n := wide.toNat) (fun j H4 => Same H3 H4 ∧ H4 D2 = some (.lst ((marksL j ns).map V.str))) ⟨Same.new (Same.refl H3) hD2, upd_same⟩ (fun j H4 hj hh => ?_) (fun H4 hh => ?_)⟩
      · obtain ⟨s4, d4⟩ := hh
        refine ⟨rfl, ?_⟩
        refine ⟨_, rfl, _, rfl, DD, _, rfl, .inl ⟨_, .inl (0 + (j : Int)), .inl (s4 _ _ e3), rfl, rfl⟩, _, rfl, ?_⟩
        have hfit : ((marksL j ns).map V.str).length < sizeLine := by
          rw [List.length_map, marksL_len]
          exact Nat.lt_of_lt_of_le (show j < 10000 by omega) (by decide)
        have hz2 : valV (mergeK [] (kvsOf ns)) (.inl (0 + (j : Int))) = valV (mergeK [] (kvsOf ns)) (.inl (j : Int)) := by rw [Int.zero_add]
        rw [hz2, hd (j : Int)]
        have fin : ∀ b : Bool, b = ns.contains (j : Int) → Same H3 (upd H4 D2 (.lst ((marksL j ns).map V.str ++ [V.str (markC b)]))) ∧ upd H4 D2 (.lst ((marksL j ns).map V.str ++ [V.str (markC b)])) D2 = some (.lst ((marksL (j + 1) ns).map V.str)) := fun b e => by
          subst e
          refine ⟨Same.put s4 hD2, ?_⟩
          rw [upd_same, marksL_succ, List.map_append]
          rfl
        cases c : ns.contains (j : Int) with
        | true => exact ⟨_, d4, hfit, fin true c.symm⟩
        | false => exact ⟨_, d4, hfit, fin false c.symm⟩
      · obtain ⟨s4, d4⟩ := hh
        exact ⟨_, D2, marksL wide.toNat ns, rfl, rfl, .inl (SqL.of d4), marksL_fit (by omega), k H4 (s3.trans s4)⟩
end
end Sp
set_option Elab.async false
set_option linter.all false
set_option maxRecDepth 100000
set_option maxHeartbeats 4000000
namespace Sp
open PySem PySem.Spec PyProof.Rows L2 RZ
/-- _law_plan_text(wide, drawn) -/
def spPlanText (K : PySem.W.Frag) : Sp := fun vs H Q _ => ∃ (v : V) (wide : Int) (rows : List Row), vs = [.int wide, v] ∧ Dp K H v (rowsD rows) ∧ Rows wide rows ∧ 0 ≤ wide ∧ wide ≤ 10000 ∧ ∀ H', Same H H' → Q (.str (planS wide rows)) H'
structure TxtN (K : PySem.W.Frag) (mg : Str → Option Value) (fR fS fM fL fD : Addr) : Prop where
  m : TxtM K mg fR fS
  g_marks : mg "_law_marks" = some (.ref fM)
  k_marks : PySem.W.keepIn K (.ref fM) = true
  g_letters : mg "_law_letters" = some (.ref fL)
  k_letters : PySem.W.keepIn K (.ref fL) = true
  g_drows : mg "_law_drawn_rows" = some (.ref fD)
  k_drows : PySem.W.keepIn K (.ref fD) = true
section
variable {P : Program} {w : World} {K : PySem.W.Frag} {mg : Str → Option Value} {base : Heap}
abbrev s_ptext : Stmt := top 37
theorem sc_ptext : FnScope ["_law_wide", "_law_drawn", "_law_lines", "_law_letter", "_law_row"] ["_law_wide", "_law_drawn"] (defScope s_ptext) := ⟨rfl, rfl, rfl, by decide +kernel, rfl, by decide +kernel, by decide +kernel⟩
theorem ok_ptext {f fR fS fM fL fD : Addr} {fd dM : FuncData} (F : Fun K "_law_plan_text" "_law_plan_text" s_ptext f fd) (T : TxtN K mg fR fS fM fL fD) (GM : FnOk P w K mg base CX0 1 fM dM ["_law_row", "_law_wide"] (spMarksL K)) (bM : L2.Binds K dM ["_law_row", "_law_wide"] []) :
    FnOk P w K mg base CX0 2 f fd ["_law_wide", "_law_drawn"] (spPlanText K) := by
  refine F.ok sc_ptext (fun vs H Q E h => ?_) (fun cdv A outer s H vs Q E hr h => ?_)
  · obtain ⟨v, wide, rows, rfl, _⟩ := h
    rfl
  · obtain ⟨v, wide, rows, rfl, dv, hR, m0, m1, k⟩ := h
    refine ⟨_, (pss_cons (ps_setLc (i := 2) (own := [("_law_letter", 3), ("_law_row", 4)]) (g := gTup K 2 (gCons (gName 3) (gCons (gName 4) gNil))) (tt := tYes) rfl sc_ptext.nd rfl rfl (sw_true rfl rfl rfl (by decide +kernel)) (pi_tup (pv 1)) (blkOk_by (N := ["_law_wide", "_law_drawn", "_law_lines", "_law_letter", "_law_row"]) (sc := defScope s_ptext) (by decide +kernel)) (fun _ _ _ _ _ => (pg_tup rfl (pgs_cons (pg_name (i := 3) sc_ptext.nd rfl (Or.inl rfl)) (pgs_cons (pg_name (i := 4) sc_ptext.nd rfl (Or.inl rfl)) pgs_nil)))) (fun _ _ _ _ _ => pts_nil) (fun _ _ _ _ _ => (pe_op op_add_str (pe_op op_add_str (pv 3) pe_str) (pe_call GM hr rfl T.g_marks T.k_marks bM .nil pass0 (pa_cons (pv 4) (pa_cons (pv 0) pa_nil))))))
    (pss_one (ps_ret (pe_join pe_str (pe_op op_catN (pe_lstN (pa_cons (pe_callTy call_str_int (by rfl) T.m.l.b.n_str (by decide +kernel) (pa_cons (pv 0) pa_nil)) pa_nil)) (pv 2)))))), ?_⟩
    obtain ⟨a, xs, rfl, ha, hl, hx⟩ := Dp.rowsI dv
    refine ⟨_, rfl, a, rfl, ⟨_, ha⟩, fun D hD => lc_tup (xs := xs) (fun i H2 => Same H H2 ∧ H2 D = some (.lst (((rows.take i).map (lineS wide)).map V.str))) ⟨Same.new (Same.refl H) hD, upd_same⟩ (fun i H2 _ hh => Same.tup hh.1 ha) (fun i x H2 hxi hh => ?_) (fun H2 hh => ?_)⟩
    · obtain ⟨s2, d2⟩ := hh
      obtain ⟨r, hri, dr⟩ := hx i x hxi
      have hrm := List.mem_of_getElem? hri
      have hz := isNm_len (hR.nm r hrm)
      have hm := marksS_len (size := wide) (ns := r.2)
      obtain ⟨q, y, rfl, hq, dy⟩ := Dp.rowI (Dp.same s2 dr)
      refine ⟨q, _, rfl, hq, rfl, .str r.1, [y], rfl, y, [], rfl, rfl, rfl, ?_⟩
      have l1 : (r.1 ++ " ").length = 2 := by rw [PySem.Str.length_append, hz]; rfl
      refine ⟨_, rfl, r.1, " ", rfl, rfl, by rw [hz]; exact fits rfl, ?_⟩
      refine ⟨_, rfl, _, rfl, y, wide, r.2, rfl, dy, (hR.ticks r hrm).fit, m0, m1, fun H3 s3 => ?_⟩
      refine ⟨_, _, rfl, rfl, by rw [l1]; exact fit2 (by omega), _, s3 _ _ d2, ?_, Same.put (s2.trans s3) hD, ?_⟩
      · have fit := hR.fit
        rw [List.length_map, List.length_map, List.length_take]
        exact Nat.lt_of_le_of_lt (Nat.le_trans (Nat.min_le_right _ _) fit) (by decide)
      · rw [upd_same, List.take_add_one, hri]
        simp [lineS]
    · obtain ⟨s2, d2⟩ := hh
      rw [hl, List.take_length] at d2
      have fit := hR.fit
      refine ⟨⟨_, rfl⟩, _, rfl, wide, rfl, log_fit m0 m1, fits rfl, fun l H3 n3 s3 e3 => ?_⟩
      refine ⟨_, rfl, l, D, _, _, rfl, rfl, e3, s3 _ _ d2, ?_, fun l4 H4 n4 s4 e4 => ?_⟩
      · simp
        exact fit2 (by omega)
      · refine ⟨_, l4, planL wide rows, rfl, rfl, .inl (SqL.of ?_), planL_fit hR m0 m1, k H4 ((s2.trans s3).trans s4)⟩
        rw [e4]
        simp [planL]
end
end Sp
set_option Elab.async false
set_option linter.all false
set_option maxRecDepth 100000
set_option maxHeartbeats 4000000
namespace Sp
open PySem PySem.Spec PyProof.Rows L2 RZ
theorem upR_pair : ∀ {ns : List Int}, upR ns = true → ns.Pairwise (· < ·)
  | [], _ => .nil
  | [a], _ => List.pairwise_singleton _ _
  | a :: b :: r, h => by
    have e : upR (a :: b :: r) = (decide (a < b) && upR (b :: r)) := rfl
    rw [e, Bool.and_eq_true] at h
    have ih := upR_pair h.2
    have ab := of_decide_eq_true h.1
    refine List.pairwise_cons.mpr ⟨fun c hc => ?_, ih⟩
    rcases List.mem_cons.mp hc with rfl | hc
    · exact ab
    · exact Int.lt_trans ab ((List.pairwise_cons.mp ih).1 c hc)
theorem pgs_star1 {X : Cx} {e : Expr} {p : Pos} {t : TG} (h1 : PG X e t) (hs : (assignEach [.Starred e p] X.env).map (·.2) = [assign e X.env] := by rfl) : PGs X [.Starred e p] (gCons t gNil) := by
  refine ⟨fun pins s σ H vs us Q I r h => ?_⟩
  obtain ⟨v, vr, e1, h⟩ := h
  subst e1
  cases r with
  | cons r rr =>
    rw [hs]
    refine assignInOrder_cons (thn (h1.run pins s σ H _ _ _ I r h) fun _ s1 ⟨σ1, H1, I1, q1⟩ => ?_)
    exact pgs_nil.run pins s1 σ1 H1 _ _ Q I1 rr q1
/-! ### the signs of a plan's text -/
theorem isNm_cp {z : Str} (h : isNm z = true) : ∃ c, z = ⟨#[c]⟩ ∧ 65 ≤ c ∧ c ≤ 90 := by
  have hl := isNm_len h
  unfold isNm at h
  rw [Bool.and_eq_true, Bool.and_eq_true] at h
  obtain ⟨_, h1, h2⟩ := h
  obtain ⟨⟨l⟩⟩ := z
  have hl2 : l.length = 1 := hl
  match l, hl2 with
  | [c], _ =>
    have e : ("Z" : Str).cps.toList = [90] := by decide +kernel
    have e0 : ("A" : Str).cps.toList = [65] := by decide +kernel
    simp only [e] at h2
    simp only [e0] at h1
    have h3 : ¬ ([90] : List Nat) < [c] := by simpa using h2
    have h4 : ¬ ([c] : List Nat) < [65] := by simpa using h1
    have h5 : ¬ 90 < c := fun q => h3 (List.cons_lt_cons_iff.mpr (.inl q))
    have h6 : ¬ c < 65 := fun q => h4 (List.cons_lt_cons_iff.mpr (.inl q))
    exact ⟨c, rfl, by omega, by omega⟩
theorem join_nil : ∀ L : List Str, (Str.join "" L).cps.toList = L.flatMap (·.cps.toList)
  | [] => rfl
  | [x] => by
    show x.cps.toList = _
    simp
  | x :: y :: r => by
    show ((x ++ "" ++ Str.join "" (y :: r)) : Str).cps.toList = _
    rw [PySem.Str.cps_append, PySem.Str.cps_append, Array.toList_append, Array.toList_append, join_nil (y :: r)]
    rw [show ("" : Str).cps.toList = [] from rfl, List.append_nil]
    rfl
def signOf (ns : List Int) (t : Nat) : Nat := if ns.contains (t : Int) = true then 35 else 46
theorem marks_cps (size : Int) (ns : List Int) : (marksS size ns).cps.toList = (List.range size.toNat).map (signOf ns) := by
  unfold marksS Txt.join
  rw [StrLaws.glued_eq_join, join_nil]
  unfold marksL
  rw [List.flatMap_map]
  have : (fun a : Nat => (markC (ns.contains (a : Int))).cps.toList) = fun a => [signOf ns a] := by
    funext a
    unfold signOf markC
    cases ns.contains (a : Int) <;> rfl
  rw [this]
  exact List.map_eq_flatMap.symm
def numB (z : Int) : Bool := Txt.isascii (toString z : Str) && (Txt.isdigit (toString z : Str) && (!(toString z : Str).cps.toList.contains 10 && decide ((toString z : Str).length ≤ 5)))
theorem line_cps {size : Int} {r : Row} {c : Nat} (h : r.1 = ⟨#[c]⟩) : (lineS size r).cps.toList = c :: 32 :: (marksS size r.2).cps.toList := by
  unfold lineS
  rw [PySem.Str.cps_append, PySem.Str.cps_append, Array.toList_append, Array.toList_append, h]
  rfl
theorem cutS_to1 {z : Str} {c : Nat} {l : List Nat} (h : z.cps.toList = c :: l) : cutS z none (some 1) = ⟨#[c]⟩ := by
  have hl : z.length = l.length + 1 := by
    have := congrArg List.length h
    simpa [Str.length] using this
  unfold cutS
  rw [h, show HT.sIx z.length 0 none = 0 from rfl, show HT.sIx z.length z.length (some 1) = 1 from by
    show (if (1 : Int) < 0 then ((1 : Int) + (z.length : Int)).toNat else min (1 : Int).toNat z.length) = 1
    rw [if_neg (by decide), hl]
    show min 1 (l.length + 1) = 1
    omega]
  rfl
theorem cutS_from2 {z : Str} {c d : Nat} {l : List Nat} (h : z.cps.toList = c :: d :: l) : cutS z (some 2) none = ⟨l.toArray⟩ := by
  have hl : z.length = l.length + 2 := by
    have := congrArg List.length h
    simpa [Str.length] using this
  unfold cutS
  rw [h, show HT.sIx z.length z.length none = z.length from rfl, show HT.sIx z.length 0 (some 2) = 2 from by
    show (if (2 : Int) < 0 then ((2 : Int) + (z.length : Int)).toNat else min (2 : Int).toNat z.length) = 2
    rw [if_neg (by decide), hl]
    show min 2 (l.length + 2) = 2
    omega, hl]
  show (⟨(List.take (l.length + 2 - 2) l).toArray⟩ : Str) = _
  rw [Nat.add_sub_cancel, List.take_length]
theorem str_of {z y : Str} (h : z.cps.toList = y.cps.toList) : z = y := by
  obtain ⟨⟨a⟩⟩ := z
  obtain ⟨⟨b⟩⟩ := y
  simp only at h
  subst h
  rfl
theorem plan_split {size : Int} {rows : List Row} (h : Rows size rows) (hn : numB size = true) : Txt.split (planS size rows) "\n" = planL size rows := by
  unfold planS
  refine TL.split_join (s := 10) (S := []) (by decide +kernel) (by decide +kernel) (by unfold planL; simp) fun p hp => ?_
  unfold planL at hp
  rcases List.mem_cons.mp hp with rfl | hp
  · unfold numB at hn
    simp only [Bool.and_eq_true] at hn
    have := hn.2.2.1
    simpa using this
  · obtain ⟨r, hr, rfl⟩ := List.mem_map.mp hp
    obtain ⟨c, hc, c1, c2⟩ := isNm_cp (h.nm r hr)
    show 10 ∉ (lineS size r).cps.toList
    rw [line_cps hc, marks_cps]
    intro hm
    rcases List.mem_cons.mp hm with e | hm
    · omega
    · rcases List.mem_cons.mp hm with e | hm
      · cases e
      · obtain ⟨t, _, e⟩ := List.mem_map.mp hm
        unfold signOf at e
        split at e <;> cases e
theorem sorted_eq : ∀ {l1 l2 : List Int}, l1.Pairwise (· < ·) → l2.Pairwise (· < ·) → (∀ x, x ∈ l1 ↔ x ∈ l2) → l1 = l2
  | [], [], _, _, _ => rfl
  | [], b :: r, _, _, h => by
    have := (h b).mpr (List.mem_cons_self ..)
    cases this
  | a :: r, [], _, _, h => by
    have := (h a).mp (List.mem_cons_self ..)
    cases this
  | a :: r1, b :: r2, h1, h2, h => by
    have p1 := List.pairwise_cons.mp h1
    have p2 := List.pairwise_cons.mp h2
    have e : a = b := by
      rcases List.mem_cons.mp ((h a).mp (List.mem_cons_self ..)) with e | e
      · exact e
      · rcases List.mem_cons.mp ((h b).mpr (List.mem_cons_self ..)) with e2 | e2
        · exact e2.symm
        · have := p2.1 a e
          have := p1.1 b e2
          omega
    subst e
    congr 1
    refine sorted_eq p1.2 p2.2 fun x => ⟨fun hx => ?_, fun hx => ?_⟩
    · rcases List.mem_cons.mp ((h x).mp (List.mem_cons_of_mem _ hx)) with e | e
      · have := p1.1 x hx
        omega
      · exact e
    · rcases List.mem_cons.mp ((h x).mpr (List.mem_cons_of_mem _ hx)) with e | e
      · have := p2.1 x hx
        omega
      · exact e
/-- the places of the sign # -/
def marked (z : Str) (i : Nat) : List Int := ((List.range i).filter fun t => decide (z.cps[t]? = some 35)).map fun (t : Nat) => (t : Int)
theorem marked_marks {size : Int} {ns : List Int} (h : Ticks size ns) (h0 : 0 ≤ size) : marked (marksS size ns) (marksS size ns).cps.size = ns := by
  have hsz : (marksS size ns).cps.size = size.toNat := by
    rw [← Array.length_toList, marks_cps]
    simp
  refine sorted_eq ?_ (upR_pair h.up) fun x => ?_
  · unfold marked
    refine List.Pairwise.map (fun (t : Nat) => (t : Int)) (R := (· < ·)) (fun a b h => by omega) ?_
    exact (List.pairwise_lt_range).filter _
  · unfold marked
    rw [List.mem_map]
    constructor
    · rintro ⟨t, ht, rfl⟩
      obtain ⟨h1, h2⟩ := List.mem_filter.mp ht
      have h3 : (marksS size ns).cps[t]? = some 35 := by simpa using h2
      rw [← Array.getElem?_toList, marks_cps, List.getElem?_map] at h3
      obtain ⟨u, hu, e⟩ := Option.map_eq_some_iff.mp h3
      rw [List.mem_range, hsz] at h1
      rw [List.getElem?_range h1] at hu
      cases hu
      unfold signOf at e
      split at e
      · rename_i c
        simpa using c
      · cases e
    · intro hx
      have hok := h.ok x hx
      unfold okTick at hok
      rw [Bool.and_eq_true, decide_eq_true_eq, decide_eq_true_eq] at hok
      refine ⟨x.toNat, List.mem_filter.mpr ⟨?_, ?_⟩, by omega⟩
      · rw [List.mem_range, hsz]
        omega
      · have e : (marksS size ns).cps[x.toNat]? = some 35 := by
          rw [← Array.getElem?_toList, marks_cps, List.getElem?_map, List.getElem?_range (by omega)]
          show some (signOf ns x.toNat) = some 35
          unfold signOf
          rw [show ((x.toNat : Nat) : Int) = x by omega, if_pos (by simpa using hx)]
        rw [e]
        simp
end Sp
set_option Elab.async false
set_option linter.all false
set_option maxRecDepth 100000
set_option maxHeartbeats 4000000
/-! which texts are those of plans -/
namespace Sp
open PySem PySem.Spec PyProof.Rows L2 RZ PySem.NumText
/-- rows of a plan of n ticks, of any number that there is -/
structure GoodP (n : Int) (rs : List Row) : Prop where
  n0 : 0 ≤ n
  n1 : n ≤ 10000
  rows : Rows n rs
theorem digs (m : Nat) : AllDigits ((Nat.toDigits 10 m).map Char.toNat) := fun c hc => by
  obtain ⟨ch, hch, e⟩ := List.mem_map.mp hc
  have r := digit_range (Nat.isDigit_of_mem_toDigits (by decide) (by decide) hch)
  rw [← e]
  exact r
theorem tsz (m : Nat) : (toString ((m : Nat) : Int) : Str).cps.toList = (Nat.toDigits 10 m).map Char.toNat := PySem.W.KIN.signs_num m
theorem len5 : ∀ m, m < 10001 → (Nat.toDigits 10 m).length ≤ 5 := fun m hm => by
  by_cases h1 : m < 10
  · rw [Nat.toDigits_of_lt_base h1]
    show 1 ≤ 5
    decide
  · have t : ∀ k, 10 ≤ k → (Nat.toDigits 10 k).length = (Nat.toDigits 10 (k / 10)).length + 1 := fun k hk => by
      have hm : k % 10 < 10 := Nat.mod_lt k (by decide)
      have t : Nat.toDigits 10 (k / 10) ++ Nat.toDigits 10 (k % 10) = Nat.toDigits 10 (10 * (k / 10) + k % 10) := Nat.toDigits_append_toDigits (by decide) (by omega) hm
      rw [Nat.div_add_mod] at t
      rw [← t, List.length_append, Nat.toDigits_of_lt_base hm]
      rfl
    have one : ∀ k, k < 10 → (Nat.toDigits 10 k).length = 1 := fun k hk => by
      rw [Nat.toDigits_of_lt_base hk]
      rfl
    rw [t m (by omega)]
    by_cases h2 : m / 10 < 10
    · rw [one _ h2]
      decide
    · rw [t _ (by omega)]
      by_cases h3 : m / 10 / 10 < 10
      · rw [one _ h3]
        decide
      · rw [t _ (by omega)]
        by_cases h4 : m / 10 / 10 / 10 < 10
        · rw [one _ h4]
          decide
        · rw [t _ (by omega), one _ (by omega)]
          decide
theorem numB_all {n : Int} (h0 : 0 ≤ n) (h1 : n ≤ 10000) : numB n = true := by
  obtain ⟨m, rfl⟩ := Int.eq_ofNat_of_zero_le h0
  have hd := digs m
  have l5 := len5 m (by omega)
  have l1 : 1 ≤ (Nat.toDigits 10 m).length := by
    rcases h : Nat.toDigits 10 m with _ | ⟨x, l⟩
    · have h2 := toDigits_len_ge 10 m
      rw [h] at h2
      exact absurd h2 (by decide)
    · exact Nat.succ_le_succ (Nat.zero_le _)
  have e := tsz m
  have hl : (toString ((m : Nat) : Int) : Str).length = (Nat.toDigits 10 m).length := by
    have := congrArg List.length e
    simpa [Str.length] using this
  unfold numB
  simp only [Bool.and_eq_true, decide_eq_true_eq]
  refine ⟨?_, ?_, ?_, by rw [hl]; exact l5⟩
  · unfold Txt.isascii
    rw [← Array.all_toList, e, List.all_eq_true]
    intro c hc
    have := hd c hc
    simp
    omega
  · unfold Txt.isdigit
    rw [← Array.all_toList, e, hl]
    simp only [Bool.and_eq_true, decide_eq_true_eq, List.all_eq_true]
    refine ⟨by omega, fun c hc => ?_⟩
    have := hd c hc
    have : ∀ c, 48 ≤ c → c ≤ 57 → Unicode.isDigit c = true := by
      intro c h1 h2
      have : c = 48 ∨ c = 49 ∨ c = 50 ∨ c = 51 ∨ c = 52 ∨ c = 53 ∨ c = 54 ∨ c = 55 ∨ c = 56 ∨ c = 57 := by omega
      rcases this with rfl | rfl | rfl | rfl | rfl | rfl | rfl | rfl | rfl | rfl <;> decide +kernel
    exact this c (by omega) (by omega)
  · rw [e]
    simp
    intro x hx e2
    have := hd x.toNat (List.mem_map.mpr ⟨x, hx, rfl⟩)
    omega
theorem upR_of : ∀ {ns : List Int}, ns.Pairwise (· < ·) → upR ns = true
  | [], _ => rfl
  | [a], _ => rfl
  | a :: b :: r, h => by
    have e : upR (a :: b :: r) = (decide (a < b) && upR (b :: r)) := rfl
    rw [e, Bool.and_eq_true]
    have h2 := List.pairwise_cons.mp h
    exact ⟨decide_eq_true (h2.1 b (List.mem_cons_self ..)), upR_of h2.2⟩
theorem dig_back : ∀ d : Nat, 48 ≤ d → d ≤ 57 → (Nat.digitChar (d - 48)).toNat = d := fun d h1 h2 => by
  have : d = 48 ∨ d = 49 ∨ d = 50 ∨ d = 51 ∨ d = 52 ∨ d = 53 ∨ d = 54 ∨ d = 55 ∨ d = 56 ∨ d = 57 := by omega
  rcases this with rfl | rfl | rfl | rfl | rfl | rfl | rfl | rfl | rfl | rfl <;> rfl
theorem val_pos {c : Nat} {r : List Nat} (h : 48 < c) : 1 ≤ digitsVal (c :: r) := by
  have := foldl_ge r (0 * 10 + (c - 48))
  show 1 ≤ r.foldl (fun acc c => acc * 10 + (c - 48)) (0 * 10 + (c - 48))
  omega
theorem num_back : ∀ (k : Nat) (cs : List Nat), cs.length = k → AllDigits cs → cs ≠ [] → (cs.head? = some 48 → cs = [48]) → (Nat.toDigits 10 (digitsVal cs)).map Char.toNat = cs := fun k => by
  induction k with
  | zero => exact fun cs hl _ hne _ => (hne (List.length_eq_zero_iff.mp hl)).elim
  | succ k ih =>
    intro cs hl hd hne hz
    rcases List.eq_nil_or_concat cs with e | ⟨ds, d, e⟩
    · exact (hne e).elim
    · rw [List.concat_eq_append] at e
      subst e
      have hdd := hd d (by simp)
      have dl : d - 48 < 10 := by omega
      rw [digitsVal_snoc]
      rcases ds with _ | ⟨c, r⟩
      · show (Nat.toDigits 10 (0 * 10 + (d - 48))).map Char.toNat = [d]
        rw [Nat.zero_mul, Nat.zero_add, Nat.toDigits_of_lt_base dl]
        show [(Nat.digitChar (d - 48)).toNat] = [d]
        rw [dig_back d hdd.1 hdd.2]
      · have hc := hd c (by simp)
        have c48 : c ≠ 48 := fun e => by
          subst e
          have := hz rfl
          simp at this
        have v1 := val_pos (c := c) (r := r) (by omega)
        have i := ih (c :: r) (by simpa using hl) (fun x hx => hd x (by simp at hx ⊢; rcases hx with h | h <;> simp [h])) (by simp) (fun e => by
          simp at e
          exact (c48 e).elim)
        have t : Nat.toDigits 10 (digitsVal (c :: r)) ++ Nat.toDigits 10 (d - 48) = Nat.toDigits 10 (10 * digitsVal (c :: r) + (d - 48)) := Nat.toDigits_append_toDigits (by decide) (by omega) dl
        rw [Nat.mul_comm, ← t, List.map_append, i, Nat.toDigits_of_lt_base dl]
        show c :: r ++ [(Nat.digitChar (d - 48)).toNat] = c :: r ++ [d]
        rw [dig_back d hdd.1 hdd.2]
theorem head_back {h : Str} (hd : AllDigits h.cps.toList) (hne : h.cps.toList ≠ []) (hz : h.cps.toList.head? = some 48 → h.cps.toList = [48]) : (toString ((digitsVal h.cps.toList : Nat) : Int) : Str) = h := by
  refine str_of ?_
  rw [tsz]
  exact num_back _ _ rfl hd hne hz
/-! lines -/
def lineOk (n : Int) (l : Str) : Prop := ∃ c m, l.cps.toList = c :: 32 :: m ∧ 65 ≤ c ∧ c ≤ 90 ∧ m.length = n.toNat ∧ ∀ x ∈ m, x = 35 ∨ x = 46
def lrow (l : Str) : Row := (cutS l none (some 1), marked (cutS l (some 2) none) (cutS l (some 2) none).cps.size)
theorem isNm_of {c : Nat} (h1 : 65 ≤ c) (h2 : c ≤ 90) : isNm ⟨#[c]⟩ = true := by
  have a0 : ("A" : Str).cps.toList = [65] := by decide +kernel
  have z0 : ("Z" : Str).cps.toList = [90] := by decide +kernel
  simp only [isNm, Bool.and_eq_true, decide_eq_true_eq, Bool.not_eq_true', decide_eq_false_iff_not, a0, z0]
  refine ⟨rfl, fun h => ?_, fun h => ?_⟩
  · have h : [c] < [65] := h
    simp [List.cons_lt_cons_iff] at h
    omega
  · have h : [90] < [c] := h
    simp [List.cons_lt_cons_iff] at h
    omega
theorem mem_marked {z : Str} {k : Nat} {x : Int} : x ∈ marked z k ↔ ∃ t : Nat, t < k ∧ z.cps[t]? = some 35 ∧ x = (t : Int) := by
  unfold marked
  rw [List.mem_map]
  constructor
  · rintro ⟨t, ht, rfl⟩
    obtain ⟨h1, h2⟩ := List.mem_filter.mp ht
    exact ⟨t, List.mem_range.mp h1, by simpa using h2, rfl⟩
  · rintro ⟨t, h1, h2, rfl⟩
    exact ⟨t, List.mem_filter.mpr ⟨List.mem_range.mpr h1, by simpa using h2⟩, rfl⟩
theorem marked_pair (z : Str) (k : Nat) : (marked z k).Pairwise (· < ·) := by
  unfold marked
  refine List.Pairwise.map (fun (t : Nat) => (t : Int)) (R := (· < ·)) (fun a b h => by omega) ?_
  exact (List.pairwise_lt_range).filter _
theorem marked_le (z : Str) (k : Nat) : (marked z k).length ≤ k := by
  unfold marked
  rw [List.length_map]
  exact Nat.le_trans (List.length_filter_le _ _) (Nat.le_of_eq List.length_range)
theorem line_back {n : Int} {l : Str} (n0 : 0 ≤ n) (n1 : n ≤ 10000) (h : lineOk n l) : lineS n (lrow l) = l ∧ isNm (lrow l).1 = true ∧ Ticks n (lrow l).2 := by
  obtain ⟨c, m, e, c1, c2, hl, hm⟩ := h
  have e1 := cutS_to1 e
  have e2 := cutS_from2 e
  have er : lrow l = (⟨#[c]⟩, marked ⟨m.toArray⟩ m.length) := by
    unfold lrow
    rw [e1, e2]
    rfl
  rw [er]
  have mm : ∀ x : Int, x ∈ marked ⟨m.toArray⟩ m.length ↔ ∃ t : Nat, t < m.length ∧ m[t]? = some 35 ∧ x = (t : Int) := fun x => by
    rw [mem_marked]
    simp
  refine ⟨str_of ?_, isNm_of c1 c2, fun x hx => ?_, upR_of (marked_pair _ _), Nat.le_trans (marked_le _ _) (by omega)⟩
  · rw [line_cps rfl, e, marks_cps]
    congr 2
    refine List.ext_getElem (by simp [hl]) fun i h1 h2 => ?_
    rw [List.getElem_map, List.getElem_range]
    unfold signOf
    have hi := hm m[i] (List.getElem_mem h2)
    have iff : (marked ⟨m.toArray⟩ m.length).contains (i : Int) = true ↔ m[i] = 35 := by
      rw [List.contains_iff_mem, mm]
      constructor
      · rintro ⟨t, _, q, e3⟩
        have : t = i := by omega
        subst this
        rw [List.getElem?_eq_getElem h2] at q
        exact Option.some.inj q
      · intro q
        exact ⟨i, h2, by rw [List.getElem?_eq_getElem h2, q], rfl⟩
    by_cases q : m[i] = 35
    · rw [if_pos (iff.mpr q), q]
    · rw [if_neg (fun w => q (iff.mp w))]
      rcases hi with w | w
      · exact (q w).elim
      · exact w.symm
  · obtain ⟨t, h1, _, rfl⟩ := (mm x).mp hx
    unfold okTick
    rw [decide_eq_true (show (0 : Int) ≤ (t : Int) by omega), decide_eq_true (show (t : Int) ≤ n - 1 by omega)]
    rfl
theorem good_line {n : Int} {rs : List Row} (g : GoodP n rs) {r : Row} (hr : r ∈ rs) : lineOk n (lineS n r) ∧ lrow (lineS n r) = r := by
  obtain ⟨c, hc, c1, c2⟩ := isNm_cp (g.rows.nm r hr)
  have e := line_cps (size := n) hc
  have ms := marks_cps n r.2
  refine ⟨⟨c, _, e, c1, c2, by rw [ms]; simp, fun x hx => ?_⟩, ?_⟩
  · rw [ms] at hx
    obtain ⟨t, _, rfl⟩ := List.mem_map.mp hx
    unfold signOf
    split
    · exact .inl rfl
    · exact .inr rfl
  · unfold lrow
    rw [cutS_to1 e, cutS_from2 e]
    have z : (⟨(marksS n r.2).cps.toList.toArray⟩ : Str) = marksS n r.2 := str_of (by simp)
    rw [z, marked_marks (g.rows.ticks r hr) g.n0, ← hc]
theorem good_split {n : Int} {rs : List Row} (g : GoodP n rs) : Txt.split (planS n rs) "\n" = (toString n : Str) :: rs.map (lineS n) := plan_split g.rows (numB_all g.n0 g.n1)
theorem nm_alph {z : Str} (h : isNm z = true) : z ∈ alph := by
  obtain ⟨c, rfl, c1, c2⟩ := isNm_cp h
  have a : alph = (List.range 26).map fun k => (⟨#[65 + k]⟩ : Str) := by decide +kernel
  rw [a]
  exact List.mem_map.mpr ⟨c - 65, List.mem_range.mpr (by omega), by rw [show 65 + (c - 65) = c by omega]⟩
theorem few {ls : List Str} (nm : ∀ z ∈ ls, isNm z = true) (up : (upV (ls.map V.str)).all id = true) : ls.length ≤ 26 := by
  have p := up_pair ls up
  have nd : ls.Nodup := p.imp fun {a b} h e => by
    subst e
    exact List.lt_irrefl _ h
  have := nd_len (l := ls) (cs := alph) nd fun x hx => nm_alph (nm x hx)
  rw [alph_len] at this
  exact this
theorem good_of {z h : Str} {rest : List Str} {n : Int} (hs : Txt.split z "\n" = h :: rest) (hh : h = toString n) (n0 : 0 ≤ n) (n1 : n ≤ 10000) (hl : ∀ l ∈ rest, lineOk n l) (up : (upV ((rest.map lrow).map fun r => V.str r.1)).all id = true) :
    GoodP n (rest.map lrow) ∧ z = planS n (rest.map lrow) := by
  have e : (rest.map lrow).map (fun r => V.str r.1) = ((rest.map lrow).map (·.1)).map V.str := by
    rw [List.map_map (g := V.str)]
    rfl
  have nm : ∀ r ∈ rest.map lrow, isNm r.1 = true := fun r hr => by
    obtain ⟨l, hl2, rfl⟩ := List.mem_map.mp hr
    exact (line_back n0 n1 (hl l hl2)).2.1
  have fw := few (ls := (rest.map lrow).map (·.1)) (fun z hz => by
    obtain ⟨r, hr, rfl⟩ := List.mem_map.mp hz
    exact nm r hr) (by rw [← e]; exact up)
  refine ⟨⟨n0, n1, nm, fun r hr => ?_, up, by simp at fw ⊢; omega⟩, ?_⟩
  · obtain ⟨l, hl2, rfl⟩ := List.mem_map.mp hr
    exact (line_back n0 n1 (hl l hl2)).2.2
  · have j := StrLaws.join_split z "\n"
    rw [hs] at j
    unfold planS Txt.join planL
    rw [StrLaws.glued_eq_join, List.map_map, ← hh]
    have : rest.map (lineS n ∘ lrow) = rest := by
      refine (List.map_congr_left fun l hl2 => ?_).trans (List.map_id _)
      exact (line_back n0 n1 (hl l hl2)).1
    rw [this]
    exact j.symm
end Sp
set_option Elab.async false
set_option linter.all false
set_option maxRecDepth 100000
set_option maxHeartbeats 4000000
namespace Dl
open PySem PySem.Spec PyProof.Rows L2 Sp RZ
theorem cl_nil : ∀ d ∈ ([] : List D), Clean d := fun _ h => nomatch h
theorem cl_cons {x : D} {ds : List D} (h : Clean x) (g : ∀ d ∈ ds, Clean d) : ∀ d ∈ x :: ds, Clean d := fun d hd => by
  rcases List.mem_cons.mp hd with rfl | hd
  · exact h
  · exact g d hd

/-! ### texts over data -/
def repS (z : Str) (n : Int) : Str := if n < 1 then Str.empty else if (n == 1 || z.length == 0) = true then z else ⟨(List.replicate n.toNat z.cps).foldl (· ++ ·) #[]⟩
theorem fold_rep (a : Array Nat) : ∀ (k : Nat) (acc : Array Nat), ((List.replicate k a).foldl (· ++ ·) acc).toList = acc.toList ++ (List.replicate k a.toList).flatten
  | 0, acc => by simp
  | k + 1, acc => by
    rw [List.replicate_succ, List.foldl_cons, fold_rep a k, List.replicate_succ, List.flatten_cons, Array.toList_append, List.append_assoc]
theorem repS_mem {z : Str} {n : Int} {c : Nat} (h : c ∈ (repS z n).cps.toList) : c ∈ z.cps.toList := by
  unfold repS at h
  split at h
  · exact nomatch (show c ∈ ([] : List Nat) from h)
  · split at h
    · exact h
    · rw [fold_rep] at h
      rw [show (#[] : Array Nat).toList = [] from rfl, List.nil_append] at h
      obtain ⟨l, hl, hc⟩ := List.mem_flatten.mp h
      rw [(List.mem_replicate.mp hl).2] at hc
      exact hc
theorem repS_len {z : Str} {n : Int} (h0 : 0 ≤ n) : (repS z n).length ≤ z.length * n.toNat := by
  unfold repS
  split
  · exact Nat.zero_le _
  · split
    · have : 1 ≤ n.toNat := by omega
      exact Nat.le_mul_of_pos_right _ this
    · have e := congrArg List.length (fold_rep z.cps n.toNat #[])
      rw [show (#[] : Array Nat).toList = [] from rfl, List.nil_append, List.length_flatten, List.map_replicate, List.sum_replicate_nat, Array.length_toList] at e
      show ((List.replicate n.toNat z.cps).foldl (· ++ ·) #[]).size ≤ _
      rw [e]
      show n.toNat * z.cps.toList.length ≤ z.length * n.toNat
      rw [Array.length_toList, Nat.mul_comm]
      exact Nat.le_refl _
theorem op_mulS {X : Cx} : OpR X (binaryOp .Mult) (fun x y H Q => ∃ (z : Str) (n : Int), x = .str z ∧ y = .int n ∧ 0 ≤ n ∧ n ≤ 1000 ∧ z.length ≤ 1000 ∧ Q (.str (repS z n)) H) := by
  intro pins s σ H x y v u Q I rx ry h
  obtain ⟨z, n, rfl, rfl, n0, n1, zl, q⟩ := h
  obtain ⟨t, rfl⟩ := rx
  obtain ⟨t2, rfl⟩ := ry
  have lz : (z.length : Int) * n ≤ 1000000 := by
    have a : z.length * n.toNat ≤ 1000 * 1000 := Nat.mul_le_mul zl (by omega)
    have b : (z.length : Int) * n = ((z.length * n.toNat : Nat) : Int) := by
      rw [Int.natCast_mul]
      congr 1
      omega
    rw [b]
    omega
  refine PySem.P.mul_str (by
    rw [decide_eq_false (show ¬ n < -(2 ^ 63 : Int) by omega), decide_eq_false (show ¬ n ≥ 2 ^ 63 by omega)]
    rfl) (fun h1 _ => ?_) (fun h1 _ => ?_) ?_
  · have : (1000 : Int) ≤ (2 ^ 63 - 1) / n := by
      have := Int.le_ediv_iff_mul_le (show 0 < n by omega) (a := 1000) (b := 2 ^ 63 - 1)
      rw [this]
      omega
    omega
  · have a : z.length * n.toNat ≤ 1000 * 1000 := Nat.mul_le_mul zl (by omega)
    unfold Builtin.Str.tooLong
    exact decide_eq_false (by
      have := sizeLine_eq
      omega)
  · unfold repS at q
    split
    · rename_i c
      rw [if_pos c] at q
      exact ⟨by decide, .str _, H, I.tok _, ⟨_, rfl⟩, q⟩
    · rename_i c
      rw [if_neg c] at q
      split
      · rename_i c2
        rw [if_pos c2] at q
        exact ⟨.str _, H, I, ⟨_, rfl⟩, q⟩
      · rename_i c2
        rw [if_neg c2] at q
        exact ⟨by
          have r := repS_len (z := z) n0
          unfold repS at r
          rw [if_neg c, if_neg c2] at r
          have a : z.length * n.toNat ≤ 1000 * 1000 := Nat.mul_le_mul zl (by omega)
          rw [sizeLine_eq]
          omega, .str _, H, I.tok _, ⟨_, rfl⟩, q⟩
section
variable {C : Cxt} {cs : Cs} {H : Hp} {ρ : Rho} {P : D → Prop} {te ta tb : TE} {tr : TA}
theorem o_mulS {z : Str} {n : Int} (n0 : 0 ≤ n) (n1 : n ≤ 1000) (zl : z.length ≤ 1000) (k : P (.str (repS z n))) : OpD C (fun x y H Q => ∃ (z : Str) (n : Int), x = .str z ∧ y = .int n ∧ 0 ≤ n ∧ n ≤ 1000 ∧ z.length ≤ 1000 ∧ Q (.str (repS z n)) H) (.str z) (.int n) P := fun cs H vx vy g hx hy Q q => by
  rw [hx.str, hy.int]
  exact ⟨z, n, rfl, rfl, n0, n1, zl, q _ _ H (Same.refl H) (.c (.str _)) k⟩
theorem w_m0 {Cnd : Str → Prop} {gv : Str → V} {gd : Str → D} (hv : ∀ (z : Str) (K : PySem.W.Frag) (H : Hp), Dt K H (gv z) (gd z)) (h : WE C te ρ fun x => ∃ z, x = .str z ∧ Cnd z ∧ P (gd z)) : WE C (tM0 (fun x xs H Q => ∃ a, x = .str a ∧ xs = [] ∧ Cnd a ∧ Q (gv a) H) te) ρ P := fun cs H σ r Q q =>
  h cs H σ r _ fun v x H1 k o hx ⟨z, e, cz, p⟩ => by
    subst e
    rw [hx.str]
    exact ⟨⟨_, rfl⟩, z, rfl, rfl, cz, q _ _ H1 k o (.c (hv z _ _)) p⟩
theorem w_split (h : WE C ta ρ fun x => ∃ a, x = .str a ∧ WE C tb ρ fun y => ∃ b, y = .str b ∧ (b.length == 0) = false ∧ a.length + 2 ≤ sizeLine ∧ P (.lst ((Txt.split a b).map .str))) :
    WE C (tM1 (fun x xs H Q => ∃ a b, x = .str a ∧ xs = [.str b] ∧ (b.length == 0) = false ∧ a.length + 2 ≤ sizeLine ∧ rNewStrs (Txt.split a b) H Q) ta tb) ρ P := fun cs H σ r Q q =>
  h cs H σ r _ fun v x H1 k1 o1 hx ⟨a, e, hb⟩ => by
    subst e
    rw [hx.str]
    refine ⟨⟨_, rfl⟩, hb cs H1 σ (r.step k1 o1) _ fun w y H2 k2 o2 hy ⟨b, e, b0, al, p⟩ => ?_⟩
    subst e
    rw [hy.str]
    refine ⟨a, b, rfl, rfl, b0, al, fun l hl => ?_⟩
    have g2 := (r.good.step k1 o1).step k2 o2
    exact newV g2 (DtA.mkStrs _) (fun v d H' s hv pd => q v d H' ((k1.trans k2).trans (.same s)) (o2.same s) hv pd) p hl
theorem c_strI {i : Int} (hi : i.natAbs.log2 < 1920) (k : P (.str (toString i))) : CallD C (fun xs H Q => ∃ i, xs = [.int i] ∧ i.natAbs.log2 < 1920 ∧ Q (.str (toString i)) H) [.int i] P := fun cs H vs g aa Q q => by
  obtain ⟨v, rfl, a⟩ := vals1 aa
  rw [a.int]
  exact ⟨i, rfl, hi, q _ _ H (Same.refl H) (.c (.str _)) k⟩
theorem c_intS {z : Str} {n : Int} (hz : PySem.intText? z = some n) (l : z.length ≤ 640) (k : P (.int n)) : CallD C (fun xs H Q => ∃ a n, xs = [.str a] ∧ PySem.intText? a = some n ∧ a.length ≤ 640 ∧ Q (.int n) H) [.str z] P := fun cs H vs g aa Q q => by
  obtain ⟨v, rfl, a⟩ := vals1 aa
  rw [a.str]
  exact ⟨z, n, rfl, hz, l, q _ _ H (Same.refl H) (.c (.int _)) k⟩
theorem sgns_at {z : Str} {i c : Nat} (h : z.cps[i]? = some c) : (sgns z)[i]? = some (.str ⟨#[c]⟩) := by
  unfold sgns
  rw [List.getElem?_map, Array.getElem?_toList, h]
  rfl
theorem i_enumS {P : List D → Prop} (h : WA C tr ρ fun ds => ∃ z, ds = [.str z] ∧ P (enumD (sgns z))) : WI C (iEnumS tr) ρ P := fun cs H σ r Rr q =>
  h cs H σ r _ fun vs ds H1 k o aa ⟨z, e, p⟩ => by
    subst e
    obtain ⟨v, rfl, a⟩ := vals1 aa
    rw [a.str]
    have l : (enumD (sgns z)).length = z.cps.size := by rw [enumD_len]; simp [sgns]
    refine ⟨z, rfl, q _ _ H1 k o ⟨fun cs' H' g s i hi => ?_, fun cs' H' g s => ?_, fun cs' H' g s i v H'' hi y => ?_⟩ p⟩
    · rw [l] at hi
      exact hi
    · rw [l]
      rfl
    · obtain ⟨T, c, rfl, hT, rfl, hc⟩ := y
      exact ⟨_, enumD_at (sgns_at hc), Same.new (Same.refl _) hT, pair_new (g.new hT) hT (.int _) (.str _)⟩
theorem g_star {PR : Rho → Prop} {gs : TGs} {d : D} {ds : List D} (hl : ds.length < 16384) (h : WGs C gs [d, .lst ds] ρ PR) : WG C (Sp.gStar C.K gs) (.lst (d :: ds)) ρ PR := fun cs H σ v r hv Q q => by
  obtain ⟨a, vs, rfl, e1, e2⟩ := hv.lst
  cases e2 with
  | @cons x xs _ _ b1 b2 =>
    refine ⟨a, x, xs, rfl, SqL.of (hid_in e1).2, by rw [b2.len]; exact hl, fun l H' hl0 s eD => ?_⟩
    have g := r.good
    have k : C.m.keep H H' := .same s
    have o := g.ok.same s
    have sm : Same (hid (C.hd cs) H) (hid (C.hd cs) H') := g.hstep k
    have vl : Val C cs H' (.ref l) (.lst ds) := .c (.lst (hid_of (g.new hl0) eD) (b2.same sm))
    exact h cs H' σ [x, .ref l] (r.step k o) (.cons (.c (b1.same sm)) (.cons vl .nil)) Q fun cs' σ' ρ' H'' k' r' s' t' p => q cs' σ' ρ' H'' (k.trans k') r' (sm.trans s') (fun v d hv => t' v d (hv.step g k)) p
/-- a sign in a text, or not -/
theorem o_inS {neg : Bool} {i j : Str} (k : P (.bl (if neg then !(!(Builtin.Str.occurrences j i 0 j.length 1).isEmpty) else !(Builtin.Str.occurrences j i 0 j.length 1).isEmpty))) : OpD C (fun x y H Q => ∃ i j, x = .str i ∧ y = .str j ∧ Q (.bl (if neg then !(!(Builtin.Str.occurrences j i 0 j.length 1).isEmpty) else !(Builtin.Str.occurrences j i 0 j.length 1).isEmpty)) H) (.str i) (.str j) P :=
  o_strs (f := fun i j => .bl _) (fun H Q q => ⟨i, j, rfl, rfl, q _ fun _ _ => .bl _⟩) k
theorem o_notInC {c : Nat} {j : Str} (k : P (.bl (!decide (c ∈ j.cps.toList)))) : OpD C (fun x y H Q => ∃ i j, x = .str i ∧ y = .str j ∧ Q (.bl (!(!(Builtin.Str.occurrences j i 0 j.length 1).isEmpty))) H) (.str ⟨#[c]⟩) (.str j) P := by
  rw [← StrLaws.found_one] at k
  exact o_strs (f := fun i j => .bl (!(!(Builtin.Str.occurrences j i 0 j.length 1).isEmpty))) (fun H Q q => ⟨_, j, rfl, rfl, q _ fun _ _ => .bl _⟩) k
end
end Dl
set_option Elab.async false
set_option linter.all false
set_option maxRecDepth 100000
set_option maxHeartbeats 4000000
namespace Dl
open PySem PySem.Spec PyProof.Rows L2 Sp RZ
local macro_rules | `(tactic| walk_at "dd1") => `(tactic| first
  | ((with_reducible refine' w_var ?hv ?hk); (case hv => exact rfl))
  | with_reducible refine w_int ?_
  | with_reducible refine w_str ?_
  | with_reducible refine w_bl ?_
  | with_reducible refine w_non ?_
  | with_reducible refine w_ty ?_
  | with_reducible refine w_raw ?_
  | with_reducible refine w_nil ?_
  | with_reducible refine w_cons ?_
  | with_reducible refine w_cb ?_
  | with_reducible refine w_op ?_
  | with_reducible refine w_un ?_
  | with_reducible refine w_andV ?_
  | with_reducible refine w_orV ?_
  | with_reducible refine w_notV ?_
  | with_reducible refine w_if ?_
  | with_reducible refine w_and ?_
  | with_reducible refine w_or ?_
  | with_reducible refine w_not ?_
  | with_reducible refine w_test ?_
  | with_reducible refine w_tb ?_
  | with_reducible refine w_chain ?_
  | with_reducible refine w_tup ?_
  | with_reducible refine w_lst ?_
  | with_reducible refine w_sl ?_
  | with_reducible refine p_none ?_
  | with_reducible refine p_some ?_
  | with_reducible refine w_call ?_
  | with_reducible refine s_seq ?_
  | with_reducible refine s_nil ?_
  | with_reducible refine s_ret ?_
  | with_reducible refine s_if ?_
  | with_reducible refine s_set ?_
  | with_reducible refine s_drop ?_
  | with_reducible refine s_brk ?_
  | with_reducible refine s_cont ?_
  | with_reducible refine s_asg ?_
  | with_reducible refine o_int ?_
  | with_reducible refine o_cmp ?_
  | with_reducible refine o_ltS ?_
  | with_reducible refine o_leS ?_
  | with_reducible refine o_neg ?_
  | with_reducible refine c_int ?_
  | with_reducible refine c_intB ?_
  | with_reducible refine c_abs ?_
  | with_reducible refine t_yes ?_
  | refine ⟨_, rfl, ?_⟩
  | with_reducible refine ⟨trivial, ?_⟩
  | refine iteT ?_
  | refine iteF ?_)
local macro_rules | `(tactic| walk_at "dd") => `(tactic| repeat (walk_at "dd1"))
local macro_rules | `(tactic| walk_at "cln") => `(tactic| repeat (first | exact cl_nil | refine cl_cons (by first | assumption | trivial) ?_))
local macro_rules | `(tactic| walk_at "mm") => `(tactic| repeat (first
  | with_reducible refine w_dnew ?_
  | with_reducible refine w_disp1 ?_
  | refine o_intC (show CPow _ _ from ⟨by decide, by decide, by decide⟩) ?_
  | walk_at "dd1"
  | refine c_list (.inr rfl) ?_
  | refine o_catT (by rw [sizeLine_eq]; simp <;> omega) ?_
  | refine u_slT ?_
  | refine o_ixT rfl fun _ => ?_
  | refine ⟨by rw [sizeLine_eq]; simp <;> omega, by walk_at "cln", ?_⟩))

/-! ### Plan.read -/
/-- the number that a word writes, of digits, five at most -/
def rsv (z : Str) : Option Int := if 5 < z.length then none else if Txt.isascii z = false then none else if Txt.isdigit z = false then none else some ((PySem.NumText.digitsVal z.cps.toList : Nat) : Int)
def rsD (z : Str) : D := match rsv z with
  | some n => .int n
  | none => .non
def g_rsize : GD := fun ds P => ∃ z, ds = [.str z] ∧ z.length ≤ 100000 ∧ P (rsD z)
theorem digs_of {z : Str} (a : Txt.isascii z = true) (d : Txt.isdigit z = true) : PySem.NumText.AllDigits z.cps.toList ∧ z.cps.toList ≠ [] := by
  unfold Txt.isascii at a
  unfold Txt.isdigit at d
  rw [← Array.all_toList, List.all_eq_true] at a
  simp only [Bool.and_eq_true, decide_eq_true_eq] at d
  obtain ⟨d1, d2⟩ := d
  rw [← Array.all_toList, List.all_eq_true] at d2
  refine ⟨fun c hc => ?_, fun e => ?_⟩
  · have h1 : c < 128 := by simpa using a c hc
    have h2 := d2 c hc
    have all : ∀ c, c < 128 → Unicode.isDigit c = true → 48 ≤ c ∧ c ≤ 57 := by decide +kernel
    exact all c h1 h2
  · have : z.length = z.cps.toList.length := Array.length_toList.symm
    rw [e] at this
    simp at this
    omega
def g_marked : GD := fun ds P => ∃ z, ds = [.str z] ∧ z.length ≤ 10000 ∧ P (.tup ((Sp.marked z z.cps.size).map .int))
def mkD (d : D) : Bool := match d with
  | .tup [_, .str z] => decide (V.str z = V.str "#")
  | _ => false
def fsI (d : D) : D := match d with
  | .tup [a, _] => a
  | _ => .non
theorem marked_D (z : Str) : ((enumD (sgns z)).filter mkD).map fsI = (Sp.marked z z.cps.size).map D.int := by
  have e : enumD (sgns z) = (List.range z.cps.size).map fun (t : Nat) => D.tup [.int (t : Int), .str ⟨#[z.cps.getD t 0]⟩] := by
    refine List.ext_getElem (by rw [enumD_len]; simp [sgns]) fun i h1 h2 => ?_
    have hi : i < z.cps.size := by simpa using h2
    have z1 := enumD_at (sgns_at (z := z) (i := i) (c := z.cps[i]) (by simp [hi]))
    rw [List.getElem?_eq_getElem h1] at z1
    rw [Option.some.inj z1]
    simp [hi]
  rw [e, List.filter_map, List.map_map]
  unfold Sp.marked
  rw [List.map_map]
  have h3 : ∀ c : Nat, decide (V.str ⟨#[c]⟩ = V.str "#") = decide (c = 35) := fun c => by
    have h3 : ("#" : Str) = ⟨#[35]⟩ := by decide +kernel
    rw [h3]
    by_cases q : c = 35
    · subst q
      rw [decide_eq_true rfl, decide_eq_true rfl]
    · rw [decide_eq_false q, decide_eq_false fun w => q (by
        have h1 := V.str.inj w
        have h2 := congrArg (fun z : Str => z.cps.toList) h1
        simpa using h2)]
  have f : ((List.range z.cps.size).filter (mkD ∘ fun (t : Nat) => D.tup [.int (t : Int), .str ⟨#[z.cps.getD t 0]⟩])) = (List.range z.cps.size).filter fun (t : Nat) => decide (z.cps[t]? = some 35) := by
    refine List.filter_congr fun t ht => ?_
    have ht := List.mem_range.mp ht
    show decide (V.str ⟨#[z.cps.getD t 0]⟩ = V.str "#") = _
    rw [h3]
    simp [ht]
  rw [f]
  rfl
section
variable {P : Program} {w : World} {K : PySem.W.Frag} {mg : Str → Option Value} {base : Heap}
abbrev s__read_size : Stmt := top 27
theorem sc__read_size : FnScope ["word"] ["word"] (defScope s__read_size) := ⟨rfl, rfl, rfl, by decide +kernel, rfl, by decide +kernel, by decide +kernel⟩
theorem d_rsize (F : Fd K mg "_read_size" s__read_size) (B : Bt mg) (gM : ∃ t, mg "MOST_TICKS" = some (.int 10000 t)) : Df P w K mg base "_read_size" 1 ["word"] (spF K g_rsize) := by
  obtain ⟨tk, gM⟩ := gM
  refine df_F F sc__read_size (fun _ _ _ _ _ _ us hl => match us, hl with | [_], _ => rfl) (fun ds P h => ?_) (fun f cdv A outer s H E hr => ⟨_, (pss_cons (ps_if (PW.pt (pw_or (pt_cmpR op_gt (pe_callB call_len (by rfl) (B _ (by decide)) PySem.boot_len (pa_cons (pv 0) pa_nil)) (pe_callB call_len (by rfl) (B _ (by decide)) PySem.boot_len (pa_cons (pe_callTy call_str_int (by rfl) (B _ (by decide)) (by decide +kernel) (pa_cons (pe_glob (v := .int 10000) rfl gM ⟨tk, rfl⟩) pa_nil)) pa_nil)) (nomark _)) (pw_or (pt_not (pt_val (pe_m0 PySem.F.slot_str_isascii PySem.F.type_str_isascii mt_isascii (pv 0)))) (pw_or1 (pt_not (pt_val (pe_m0 PySem.F.slot_str_isdigit PySem.F.type_str_isdigit mt_isdigit (pv 0)))))))) (pss_one (ps_ret pe_non)) pss_nil)
    (pss_one (ps_ret (pe_callTy call_int_str (by rfl) (B _ (by decide)) (by decide +kernel) (pa_cons (pv 0) pa_nil))))), fun A H0 ds P hc h => ?_⟩)
  · obtain ⟨z, rfl, _⟩ := h
    rfl
  · obtain ⟨z, rfl, zl, k⟩ := h
    have h5 : ((toString (10000 : Int) : Str)).length = 5 := by decide +kernel
    unfold rsD rsv at k
    walk_at "mm"
    refine c_lenS (by rw [sizeLine_eq]; omega) ?_
    walk_at "mm"
    refine c_strI (by decide) ?_
    walk_at "mm"
    refine c_lenS (by rw [h5, sizeLine_eq]; omega) ?_
    rw [h5]
    walk_at "mm"
    refine ite2 (fun c => ?_) (fun c => ?_)
    · have c' : (5 : Int) < (z.length : Int) := by simpa using c
      have c : 5 < z.length := by omega
      rw [if_pos c] at k
      walk_at "mm"
      exact k
    · have c' : (z.length : Int) ≤ 5 := by simpa using c
      have c : ¬ 5 < z.length := by omega
      rw [if_neg c] at k
      walk_at "mm"
      refine w_m0 (Cnd := fun _ => True) (gv := fun a => .bl (Txt.isascii a)) (gd := fun a => .bl (Txt.isascii a)) (fun z K H => .bl _) ?_
      walk_at "mm"
      cases ha : Txt.isascii z with
      | false =>
        rw [if_pos ha] at k
        walk_at "mm"
        exact k
      | true =>
        rw [if_neg (by rw [ha]; exact fun h => nomatch h)] at k
        walk_at "mm"
        refine w_m0 (Cnd := fun _ => True) (gv := fun a => .bl (Txt.isdigit a)) (gd := fun a => .bl (Txt.isdigit a)) (fun z K H => .bl _) ?_
        walk_at "mm"
        cases hd : Txt.isdigit z with
        | false =>
          rw [if_pos hd] at k
          walk_at "mm"
          exact k
        | true =>
          rw [if_neg (by rw [hd]; exact fun h => nomatch h)] at k
          walk_at "mm"
          obtain ⟨q1, q2⟩ := digs_of ha hd
          refine c_intS (PySem.intText_digits q1 q2 (by omega)) (by omega) ?_
          exact k
abbrev s__marked_ticks : Stmt := top 28
theorem sc__marked_ticks : FnScope ["marks", "tick", "mark"] ["marks"] (defScope s__marked_ticks) := ⟨rfl, rfl, rfl, by decide +kernel, rfl, by decide +kernel, by decide +kernel⟩
theorem d_marked (F : Fd K mg "_marked_ticks" s__marked_ticks) (B : Bt mg) : Df P w K mg base "_marked_ticks" 1 ["marks"] (spF K g_marked) := by
  refine df_F F sc__marked_ticks (fun _ _ _ _ _ _ us hl => match us, hl with | [_], _ => rfl) (fun ds P h => ?_) (fun f cdv A outer s H E hr => ⟨_, (pss_one (ps_ret (pe_callTy call_tuple_of (by rfl) (B _ (by decide)) (by decide +kernel) (pa_cons (pe_lc (own := [("tick", 1), ("mark", 2)]) (g := gTup K 2 (gCons (gName 1) (gCons (gName 2) gNil))) (tt := _) rfl sc__marked_ticks.nd (pi_enumS rfl (B _ (by decide)) (pa_cons (pv 0) pa_nil)) (blkOk_by (N := ["marks", "tick", "mark"]) (sc := defScope s__marked_ticks) (by decide +kernel)) (fun _ _ _ _ _ => (pg_tup rfl (pgs_cons (pg_name (i := 1) sc__marked_ticks.nd rfl (Or.inl rfl)) (pgs_cons (pg_name (i := 2) sc__marked_ticks.nd rfl (Or.inl rfl)) pgs_nil)))) (fun _ _ _ _ _ => (pts_one (pt_cmpR op_eq (pv 2) pe_str (nomark _)))) (fun _ _ _ _ _ => (pv 1))) pa_nil)))), fun A H0 ds P hc h => ?_⟩)
  · obtain ⟨z, rfl, _⟩ := h
    rfl
  · obtain ⟨z, rfl, zl, k⟩ := h
    walk_at "mm"
    refine w_lcB ?_
    refine i_enumS ?_
    walk_at "mm"
    refine ⟨by rw [enumD_len]; simp only [sgns, List.length_map, Array.length_toList]; show z.length < _; omega, mkD, fsI, fun i d hi hd => ?_, ?_⟩
    · have hi2 := (List.getElem?_eq_some_iff.mp hi).1
      rw [enumD_len] at hi2
      have hz : i < z.cps.size := by simpa [sgns] using hi2
      have z1 := enumD_at (sgns_at (z := z) (i := i) (c := z.cps[i]) (by simp [hz]))
      rw [hi] at z1
      obtain rfl := Option.some.inj z1
      refine gc_tup2 (by decide) trivial trivial ?_
      walk_at "mm"
      refine o_eq rfl rfl rfl ?_
      refine ⟨_, rfl, rfl, fun _ => ?_⟩
      walk_at "mm"
      exact ⟨rfl, trivial⟩
    · rw [marked_D]
      walk_at "mm"
      refine c_tuple (.inl (.inl rfl)) ?_
      exact k
end
end Dl
set_option Elab.async false
set_option linter.all false
set_option maxRecDepth 100000
set_option maxHeartbeats 4000000
namespace Dl
open PySem PySem.Spec PyProof.Rows L2 Sp RZ
local macro_rules | `(tactic| walk_at "dd1") => `(tactic| first
  | ((with_reducible refine' w_var ?hv ?hk); (case hv => exact rfl))
  | with_reducible refine w_int ?_
  | with_reducible refine w_str ?_
  | with_reducible refine w_bl ?_
  | with_reducible refine w_non ?_
  | with_reducible refine w_ty ?_
  | with_reducible refine w_raw ?_
  | with_reducible refine w_nil ?_
  | with_reducible refine w_cons ?_
  | with_reducible refine w_cb ?_
  | with_reducible refine w_op ?_
  | with_reducible refine w_un ?_
  | with_reducible refine w_andV ?_
  | with_reducible refine w_orV ?_
  | with_reducible refine w_notV ?_
  | with_reducible refine w_if ?_
  | with_reducible refine w_and ?_
  | with_reducible refine w_or ?_
  | with_reducible refine w_not ?_
  | with_reducible refine w_test ?_
  | with_reducible refine w_tb ?_
  | with_reducible refine w_chain ?_
  | with_reducible refine w_tup ?_
  | with_reducible refine w_lst ?_
  | with_reducible refine w_sl ?_
  | with_reducible refine p_none ?_
  | with_reducible refine p_some ?_
  | with_reducible refine w_call ?_
  | with_reducible refine s_seq ?_
  | with_reducible refine s_nil ?_
  | with_reducible refine s_ret ?_
  | with_reducible refine s_if ?_
  | with_reducible refine s_set ?_
  | with_reducible refine s_drop ?_
  | with_reducible refine s_brk ?_
  | with_reducible refine s_cont ?_
  | with_reducible refine s_asg ?_
  | with_reducible refine o_int ?_
  | with_reducible refine o_cmp ?_
  | with_reducible refine o_ltS ?_
  | with_reducible refine o_leS ?_
  | with_reducible refine o_neg ?_
  | with_reducible refine c_int ?_
  | with_reducible refine c_intB ?_
  | with_reducible refine c_abs ?_
  | with_reducible refine t_yes ?_
  | refine ⟨_, rfl, ?_⟩
  | with_reducible refine ⟨trivial, ?_⟩
  | refine iteT ?_
  | refine iteF ?_)
local macro_rules | `(tactic| walk_at "dd") => `(tactic| repeat (walk_at "dd1"))
local macro_rules | `(tactic| walk_at "cln") => `(tactic| repeat (first | exact cl_nil | refine cl_cons (by first | assumption | trivial) ?_))
local macro_rules | `(tactic| walk_at "mm") => `(tactic| repeat (first
  | with_reducible refine w_dnew ?_
  | with_reducible refine w_disp1 ?_
  | refine o_intC (show CPow _ _ from ⟨by decide, by decide, by decide⟩) ?_
  | walk_at "dd1"
  | refine c_list (.inr rfl) ?_
  | refine o_catT (by rw [sizeLine_eq]; simp <;> omega) ?_
  | refine u_slT ?_
  | refine o_ixT rfl fun _ => ?_
  | refine ⟨by rw [sizeLine_eq]; simp <;> omega, by walk_at "cln", ?_⟩))
/-- a thing that ticks and marks are asked for: data or a plan -/
inductive Thg (Cp : Addr) : D → Prop
  | p {d : D} : Pl d → Thg Cp d
  | o {n : Int} {rs : List (Str × List Int)} : Thg Cp (planD Cp n rs)
def isStrD (d : D) : Bool := match d with
  | .str _ => true
  | _ => false
/-- what isinstance asks of the class Plan -/
structure StrC (K : PySem.W.Frag) (Cp : Addr) : Prop where
  oc : ObjC K Cp
  ns : PySem.W.kitOne K (.ref Cp) (.type "str") = some false
theorem c_isS {C : Cxt} {P : D → Prop} {Cp : Addr} {d : D} (T : StrC C.K Cp) (h : Thg Cp d) (k : P (.bl (isStrD d))) : CallD C (rIsi C.K) [d, .ty "str"] P := by
  cases h with
  | p h =>
    intro cs H vs g aa Q q
    have k2 : P (.bl (isTy d "str")) := by
      rw [ty_str]
      cases d <;> exact k
    obtain ⟨x, t, T, b, e, ty, kb, q2⟩ := c_isT (C := C) (P := P) (T := "str") h (by decide) k2 cs H vs g aa Q q
    exact ⟨x, .ty T, .type t, .type T, b, e, .ty T, ty, kit_ty kb, q2⟩
  | o => exact c_isOT T.oc T.ns k

/-! the pieces of a text -/
theorem join_parts (sep : Str) (h1 : sep.length = 1) : ∀ ls : List Str, (∀ l ∈ ls, l.length ≤ (Str.join sep ls).length) ∧ ls.length ≤ (Str.join sep ls).length + 1
  | [] => ⟨(fun l h => nomatch h), Nat.zero_le _⟩
  | [x] => ⟨fun l h => by rw [List.mem_singleton.mp h]; exact Nat.le_refl _, by simp⟩
  | x :: y :: r => by
    obtain ⟨i1, i2⟩ := join_parts sep h1 (y :: r)
    have e : (Str.join sep (x :: y :: r)).length = x.length + 1 + (Str.join sep (y :: r)).length := by
      show ((x ++ sep ++ Str.join sep (y :: r)) : Str).length = _
      rw [PySem.Str.length_append, PySem.Str.length_append, h1]
    refine ⟨fun l hl => ?_, ?_⟩
    · rw [e]
      rcases List.mem_cons.mp hl with rfl | hl
      · omega
      · have := i1 l hl
        omega
    · rw [e, List.length_cons]
      omega
theorem split_parts (z : Str) : (∀ l ∈ Txt.split z "\n", l.length ≤ z.length) ∧ (Txt.split z "\n").length ≤ z.length + 1 := by
  have h := join_parts "\n" (by decide +kernel) (Txt.split z "\n")
  rw [StrLaws.join_split] at h
  exact h
theorem split_cons (z : Str) : ∃ h t, Txt.split z "\n" = h :: t := by
  unfold Txt.split
  split
  · exact ⟨_, _, rfl⟩
  · split
    · exact ⟨_, _, rfl⟩
    · rename_i c
      rcases e : Builtin.Str.occurrences z "\n" 0 z.length (z.length + 1) with _ | ⟨a, r⟩
      · rw [e] at c
        exact (c rfl).elim
      · exact ⟨_, _, rfl⟩
theorem rise_int : ∀ ns : List Int, rising (ns.map D.int) = Sp.upR ns
  | [] => rfl
  | [_] => rfl
  | a :: b :: ns => by
    have e1 : rising ((a :: b :: ns).map D.int) = (decide (a < b) && rising ((b :: ns).map D.int)) := rfl
    have e2 : Sp.upR (a :: b :: ns) = (decide (a < b) && Sp.upR (b :: ns)) := rfl
    rw [e1, e2, rise_int (b :: ns)]
theorem rise_str : ∀ ls : List Str, rising (ls.map D.str) = (upV (ls.map V.str)).all id
  | [] => rfl
  | [_] => rfl
  | a :: b :: ls => by
    have e1 : rising ((a :: b :: ls).map D.str) = (decide (a.cps.toList < b.cps.toList) && rising ((b :: ls).map D.str)) := rfl
    have e2 : (upV ((a :: b :: ls).map V.str)).all id = (decide (a.cps.toList < b.cps.toList) && (upV ((b :: ls).map V.str)).all id) := rfl
    rw [e1, e2, rise_str (b :: ls)]
theorem are_iff {n : Int} {rs : List (Str × List Int)} (hl : ∀ r ∈ rs, r.2.length ≤ 10000) : areRowsF (.tup (rs.map rowD)) n = true ↔ Sp.Rows n rs := by
  have e0 : (rs.map rowD).map fstD = (rs.map (·.1)).map D.str := by
    rw [List.map_map, List.map_map]
    rfl
  have e1 : (rs.map fun r => V.str r.1) = (rs.map (·.1)).map V.str := by
    rw [List.map_map]
    rfl
  have tk : ∀ ns : List Int, areTicksF (.tup (ns.map .int)) n = true ↔ (∀ x ∈ ns, Sp.okTick n x = true) ∧ Sp.upR ns = true := fun ns => by
    show ((ns.map D.int).all (fun x => isIntF x 0 (n - 1)) && rising (ns.map D.int)) = true ↔ _
    rw [Bool.and_eq_true, rise_int, List.all_map, List.all_eq_true]
    rfl
  show ((rs.map rowD).all (pairOk n) && rising ((rs.map rowD).map fstD)) = true ↔ _
  rw [Bool.and_eq_true, e0, rise_str, List.all_map, List.all_eq_true]
  constructor
  · rintro ⟨h1, h2⟩
    have p : ∀ r ∈ rs, isNm r.1 = true ∧ areTicksF (.tup (r.2.map .int)) n = true := fun r hr => by
      have z : (isNm r.1 && areTicksF (.tup (r.2.map .int)) n) = true := h1 r hr
      simpa using z
    have fw := Sp.few (ls := rs.map (·.1)) (fun z hz => by
      obtain ⟨r, hr, rfl⟩ := List.mem_map.mp hz
      exact (p r hr).1) h2
    exact ⟨fun r hr => (p r hr).1, fun r hr => ⟨((tk r.2).mp (p r hr).2).1, ((tk r.2).mp (p r hr).2).2, hl r hr⟩, by rw [e1]; exact h2, by simp at fw; omega⟩
  · intro h
    refine ⟨fun r hr => ?_, by rw [← e1]; exact h.up⟩
    show (isNm r.1 && areTicksF (.tup (r.2.map .int)) n) = true
    have t := h.ticks r hr
    rw [show isNm r.1 = true from h.nm r hr, (tk r.2).mpr ⟨t.ok, t.up⟩]
    rfl
/-- the text of a plan is read back -/
theorem read_good {z h : Str} {t : List Str} {n : Int} {rs : List (Str × List Int)} (hs : Txt.split z "\n" = h :: t) (g : Sp.GoodP n rs) (e : z = Sp.planS n rs) : rsv h = some n ∧ t.map Sp.lrow = rs := by
  rw [e, Sp.good_split g] at hs
  injection hs with e1 e2
  subst e1
  subst e2
  have nb := Sp.numB_all g.n0 g.n1
  unfold Sp.numB at nb
  simp only [Bool.and_eq_true, decide_eq_true_eq] at nb
  obtain ⟨b1, b2, b3, b4⟩ := nb
  obtain ⟨m, hm⟩ := Int.eq_ofNat_of_zero_le g.n0
  refine ⟨?_, ?_⟩
  · unfold rsv
    rw [if_neg (by omega), if_neg (by rw [b1]; exact fun h => nomatch h), if_neg (by rw [b2]; exact fun h => nomatch h)]
    congr 1
    rw [hm, Sp.tsz, PySem.W.KIN.val_back]
  · rw [List.map_map]
    exact (List.map_congr_left fun r hr => (Sp.good_line g hr).2).trans (List.map_id _)
theorem pl_rowW (r : Str × List Int) (h1 : r.1.length ≤ 100000) (h2 : r.2.length ≤ 100000) : PlP (rowD r) ∧ (itemsOf (rowD r)).length ≤ 100000 := by
  refine ⟨⟨⟨rfl, fun x hx => ?_⟩, fun a b e => ?_⟩, by simp [rowD, itemsOf]⟩
  · simp only [rowD, itemsOf, List.mem_cons, List.not_mem_nil, or_false] at hx
    rcases hx with rfl | rfl <;> rfl
  · unfold rowD at e
    simp only [Dl.D.tup.injEq, List.cons.injEq, and_true] at e
    obtain ⟨rfl, rfl⟩ := e
    refine ⟨?_, ⟨rfl, fun x hx => ?_⟩, by simp only [itemsOf, List.length_map]; omega⟩
    · show r.1.length ≤ sizeLine
      rw [sizeLine_eq]
      omega
    · obtain ⟨y, _, rfl⟩ := List.mem_map.mp hx
      rfl
theorem pl_rowsW {rs : List (Str × List Int)} (h : ∀ r ∈ rs, r.1.length ≤ 100000 ∧ r.2.length ≤ 100000) (hl : rs.length ≤ 100000) : PlRows (.tup (rs.map rowD)) := by
  refine ⟨rfl, fun x hx => ?_, by simp only [itemsOf, List.length_map]; exact hl⟩
  obtain ⟨r, hr, rfl⟩ := List.mem_map.mp hx
  exact pl_rowW r (h r hr).1 (h r hr).2
theorem cutS_len (z : Str) (lo hi : Option Int) : (cutS z lo hi).length ≤ z.length := by
  unfold cutS
  show (List.toArray _).size ≤ _
  simp only [List.size_toArray, List.length_take, List.length_drop, Array.length_toList]
  show min _ (z.length - _) ≤ z.length
  omega
theorem lrow_len (l : Str) : (Sp.lrow l).1.length ≤ l.length ∧ (Sp.lrow l).2.length ≤ l.length := by
  unfold Sp.lrow
  exact ⟨cutS_len _ _ _, Nat.le_trans (Sp.marked_le _ _) (cutS_len l (some 2) none)⟩
/-- making a plan of rows that are right -/
theorem made_planE {K : PySem.W.Frag} {A : List Addr} {Cp : Addr} {Ce : Nat → Addr} {H1 : Hp} {n : Int} {rs : List (Str × List Int)} {vx vy : V} {a dx : Addr} {Q : VK} {E : XK} (occ : Occ A H1) (ok : planErr (.int n) (.tup (rs.map rowD)) = none) (pl : PlRows (.tup (rs.map rowD))) (na : H1 a = none) (nd : H1 dx = none) (ne : dx ≠ a)
    (hx : Dt K (hid A H1) vx (.int n)) (hy : Dt K (hid A H1) vy (.tup (rs.map rowD))) (q : ∀ H', Same H1 H' → Dt K (hid A H') (.ref a) (planD Cp n rs) → Q (.ref a) H') :
    spPI K Cp Ce [.ref a, vx, vy] (upd (upd H1 dx (.own a)) a (.ins Cp dx [])) (fun v H2 => v = .non ∧ Q (.ref a) H2) E := by
  have s1 : Same H1 (upd (upd H1 dx (.own a)) a (.ins Cp dx [])) := fun b o e => by
    rw [upd_ne (ne_of_none e na), upd_ne (ne_of_none e nd)]
    exact e
  have occ' : ∀ {H'}, Same H1 H' → Occ A H' := fun {H'} s b hb => by
    obtain ⟨xs, e⟩ := occ b hb
    exact ⟨xs, s _ _ e⟩
  refine ⟨a, dx, A, vx, vy, .int n, .tup (rs.map rowD), rfl, upd_same, occ' s1, hx.same (hid_same s1), hy.same (hid_same s1), rfl, pl, fun e => ?_, fun e => ?_, fun e H2 H' s2 b e3 => ⟨rfl, ?_⟩⟩
  · rw [ok] at e
    cases e
  · rw [ok] at e
    cases e
  · have s3 : Same H1 H' := fun c o e => b c o (ne_of_none e na) (s2 _ _ (s1 _ _ e))
    have nA : a ∉ A := fun z => by
      obtain ⟨xs, e⟩ := occ a z
      rw [na] at e
      cases e
    exact q H' s3 (.obj (fs := [("_size", vx), ("_rows", vy)]) (hid_of nA e3) (.cons (hx.same (hid_same s3)) (.cons (hy.same (hid_same s3)) .nil)))
theorem plan_ins {C : Cxt} {cs : Cs} {H : Hp} {v : V} {Cp : Addr} {n : Int} {rs : List (Str × List Int)} (h : Val C cs H v (planD Cp n rs)) : ∃ a dx u, v = .ref a ∧ H a = some (.ins Cp dx [("_size", .int n), ("_rows", u)]) := by
  obtain ⟨a, rfl, dx, u, e, _⟩ := h.plan
  exact ⟨a, dx, u, rfl, e⟩
section
variable {C : Cxt} {ρ : Rho} {P : D → Prop} {Cp : Addr} {Ce : Nat → Addr} {ta tb : TE} {tr : TA} {E : XK}
theorem w_makeE (h : WA C tr ρ fun ds => ∃ n rs, ds = [.int n, .tup (rs.map rowD)] ∧ planErr (.int n) (.tup (rs.map rowD)) = none ∧ PlRows (.tup (rs.map rowD)) ∧ P (planD Cp n rs)) : WE C (tMake Cp (spPI C.K Cp Ce) [] E tr) ρ P := fun cs H σ r Q q =>
  h cs H σ r _ fun vs ds H1 k1 o1 hp ⟨n, rs, e, ok, pl, pd⟩ => by
    subst e
    obtain ⟨vx, vy, rfl, hx, hy⟩ := vals2 hp
    have g1 := r.good.step k1 o1
    intro a dx na nd ne
    exact made_planE g1.hocc ok pl na nd ne (hx.dt trivial) (hy.dt trivial) fun H' s hd => q _ _ H' (k1.trans (.same s)) (o1.same s) (.c hd) pd
theorem w_textP (h : WE C ta ρ fun x => ∃ n rs, x = planD Cp n rs ∧ Sp.Rows n rs ∧ 0 ≤ n ∧ n ≤ 10000 ∧ P (.str (Sp.planS n rs))) : WE C (tProp Cp (Sp.spTextP C.K Cp) [] E ta) ρ P := fun cs H σ r Q q =>
  h cs H σ r _ fun vx x H1 k1 o1 hx ⟨n, rs, e, ok, n0, n1, pd⟩ => by
    subst e
    obtain ⟨a, dx, u, rfl, ea⟩ := plan_ins hx
    obtain ⟨b, eb, pl⟩ := hx.plan
    cases eb
    exact ⟨a, dx, _, rfl, ea, a, n, rs, rfl, pl, ok, n0, n1, fun H' s => q _ _ H' (k1.trans (.same s)) (o1.same s) (.c (.str _)) pd⟩
end
/-- Plan.read(v), of anything -/
def spReadX (K : PySem.W.Frag) (Cp : Addr) (Ce : Nat → Addr) : Sp := fun vs H Q E => ∃ (v : V) (A : List Addr) (d : D), vs = [v] ∧ Occ A H ∧ Dt K (hid A H) v d ∧ Thg Cp d ∧ (∀ z, d = .str z → z.length ≤ 9000) ∧
  ((¬ ∃ n rs, Sp.GoodP n rs ∧ d = .str (Sp.planS n rs)) → ∀ cls dd H', Flew K A H H' (Ce 0) d cls dd → E cls dd H') ∧
  (∀ n rs, Sp.GoodP n rs → d = .str (Sp.planS n rs) → ∀ u H', Same H H' → Dt K (hid A H') u (planD Cp n rs) → Q u H')
section
variable {P : Program} {w : World} {K : PySem.W.Frag} {mg : Str → Option Value} {base : Heap} {Cp : Addr} {Ce : Nat → Addr} {cV cM : Addr}
abbrev s_readP : Stmt := inClass (top 26) 8
theorem sc_readP : FnScope ["text", "first", "rest", "size", "rows", "line", "plan"] ["text"] (defScope s_readP) := ⟨rfl, rfl, rfl, by decide +kernel, rfl, by decide +kernel, by decide +kernel⟩
theorem x_read {f fI gT pT : Addr} {fd fdI fdT : FuncData} (F : Fun K "read" "Plan.read" s_readP f fd) (B : Bt mg) (PC : Dl.PlanC K Cp) (SC : StrC K Cp) (T : Er K mg Ce cV cM) (M0 : Ex.MkE P w K mg base (Ce 0)) (gP : mg "Plan" = some (.ref Cp)) (gM : ∃ t, mg "MOST_TICKS" = some (.int 10000 t)) (MK : Mk K Cp fI) (FI : FnOk P w K mg base (L2.CX P w) 4 fI fdI ["self", "size", "rows"] (spPI K Cp Ce)) (bI : L2.Binds K fdI ["self", "size", "rows"] [])
    (prT : PropOf K Cp "text" pT gT) (GT : FnOk P w K mg base CX0 3 gT fdT ["self"] (Sp.spTextP K Cp)) (bT : L2.Binds K fdT ["self"] [])
    (DS : Df P w K mg base "_read_size" 1 ["word"] (spF K g_rsize)) (DM : Df P w K mg base "_marked_ticks" 1 ["marks"] (spF K g_marked)) (DI : Df P w K mg base "is_integer_from" 1 ["value", "least", "most"] (spF K g_is_integer_from)) (DR : Df P w K mg base "are_rows" 3 ["value", "size"] (spF K g_are_rows)) :
    FnOk P w K mg base (L2.CX P w) 6 f fd ["text"] (spReadX K Cp Ce) := by
  refine F.okX sc_readP (fun vs H Q E h => ?_) (fun cdv A outer s H vs Q E hr h => ?_)
  · obtain ⟨v, A, d, rfl, _⟩ := h
    rfl
  · obtain ⟨v, A', d, rfl, occ, hv, td, dl, kN, kQ⟩ := h
    obtain ⟨tk, gM⟩ := gM
    have take : Takes (cxOf (L2.CX P w) P w K mg base ["text", "first", "rest", "size", "rows", "line", "plan"] "Plan.read" (defScope s_readP) f cdv A outer s H E) (fun cls d σ H' => E cls d H') := takes_of rfl rfl rfl rfl
    have pass : Passes (L2.CX P w) (cxOf (L2.CX P w) P w K mg base ["text", "first", "rest", "size", "rows", "line", "plan"] "Plan.read" (defScope s_readP) f cdv A outer s H E) (fun _ _ _ => False) := L2.passes_call (L2.takes0 (X := cxOf (L2.CX P w) P w K mg base ["text", "first", "rest", "size", "rows", "line", "plan"] "Plan.read" (defScope s_readP) f cdv A outer s H E)) fun _ _ _ _ h => h
    refine ⟨_, (pss_cons (ps_if (pt_not (pt_val (pe_callB call_isi (by rfl) (B _ (by decide)) (by decide +kernel) (pa_cons (pv 0) (pa_cons (pe_bltn (v := .ty "str") (by rfl) (B _ (by decide)) (by decide +kernel) rfl) pa_nil))))) (pss_one (Ex.ps_raiseX rfl take M0 (hr.mono (by decide)) rfl T.g_InvalidText (pv 0))) pss_nil)
    (pss_cons (ps_asg (pe_split (pv 0) pe_str) (pg_star rfl (pgs_cons (pg_name (i := 1) sc_readP.nd rfl (Or.inl rfl)) (Sp.pgs_star1 (pg_name (i := 2) sc_readP.nd rfl (Or.inl rfl))))))
    (pss_cons (ps_set (i := 3) sc_readP.nd rfl (Or.inl rfl) (pe_df DS (hr.mono (by decide)) (pa_cons (pv 1) pa_nil)))
    (pss_cons (ps_set (i := 4) sc_readP.nd rfl (Or.inl rfl) (pe_callTy call_tuple_of (by rfl) (B _ (by decide)) (by decide +kernel) (pa_cons (pe_lc (own := [("line", 5)]) (g := gName 5) (tt := tYes) rfl sc_readP.nd (pi_list (pv 2)) (blkOk_by (N := ["text", "first", "rest", "size", "rows", "line", "plan"]) (sc := defScope s_readP) (by decide +kernel)) (fun _ _ _ _ _ => (pg_name (i := 5) sc_readP.nd rfl (Or.inl rfl))) (fun _ _ _ _ _ => pts_nil) (fun _ _ _ _ _ => (pe_tup (pa_cons (pe_slice sl_str (pv 5) po_none (po_some pe_int)) (pa_cons (pe_df DM (hr.mono (by decide)) (pa_cons (pe_slice sl_str (pv 5) (po_some pe_int) po_none) pa_nil)) pa_nil))))) pa_nil)))
    (pss_cons (ps_if (PW.pt (pw_or (pt_not (pt_val (pe_df DI (hr.mono (by decide)) (pa_cons (pv 3) (pa_cons pe_int (pa_cons (pe_glob (v := .int 10000) rfl gM ⟨tk, rfl⟩) pa_nil)))))) (pw_or1 (pt_not (pt_val (pe_df DR (hr.mono (by decide)) (pa_cons (pv 4) (pa_cons (pv 3) pa_nil)))))))) (pss_one (Ex.ps_raiseX rfl take M0 (hr.mono (by decide)) rfl T.g_InvalidText (pv 0))) pss_nil)
    (pss_cons (ps_set (i := 6) sc_readP.nd rfl (Or.inl rfl) (pe_make MK FI hr rfl gP bI .nil pass (pa_cons (pv 3) (pa_cons (pv 4) pa_nil))))
    (pss_cons (ps_if (pt_cmpR op_ne (pe_prop (pv 6) PC.cls prT GT (hr.mono (by decide)) bT .nil pass0 rfl) (pv 0) (nomark _)) (pss_one (Ex.ps_raiseX rfl take M0 (hr.mono (by decide)) rfl T.g_InvalidText (pv 0))) pss_nil)
    (pss_one (ps_ret (pv 6)))))))))), ?_⟩
    have R0 : R ⟨K, pureM, A', H⟩ [] H (L2.start ["text", "first", "rest", "size", "rows", "line", "plan"] [v]) (startD ["text", "first", "rest", "size", "rows", "line", "plan"] [d]) := start_R (C := ⟨K, pureM, A', H⟩) (.cons hv .nil) (good_pure occ)
    have cd : Clean d := hv.clean
    unfold tSeq tIfS
    refine (?_ : WT ⟨K, pureM, A', H⟩ _ (startD ["text", "first", "rest", "size", "rows", "line", "plan"] [d]) (fun b => b = !isStrD d)) [] H _ R0 _ (fun b H1 k1 o1 e1 => ?_)
    · walk_at "mm"
      refine c_isS (C := ⟨K, pureM, A', H⟩) SC td ?_
      exact ⟨_, rfl, rfl⟩
    have R1 := R0.step k1 o1
    dsimp only
    cases c1 : isStrD d with
    | false =>
      rw [c1] at e1
      rw [e1]
      refine iteT ?_
      refine r_raise (C := ⟨K, pureM, A', H⟩) (PX := fun w => w = d) rfl rfl (w_var rfl ⟨cd, rfl⟩) R1 (fun w cls dd H' hw fl => ?_)
      subst hw
      refine kN (fun ⟨n, rs, _, e⟩ => ?_) cls dd H' fl
      rw [e] at c1
      cases c1
    | true =>
      rw [c1] at e1
      rw [e1]
      refine iteF ?_
      obtain ⟨z, rfl⟩ : ∃ z, d = .str z := by
        cases d with
        | str z => exact ⟨z, rfl⟩
        | _ => exact nomatch c1
      have zl := dl z rfl
      obtain ⟨h, t, hs⟩ := split_cons z
      obtain ⟨p1, p2⟩ := split_parts z
      rw [hs] at p1 p2
      have hl : h.length ≤ 9000 := Nat.le_trans (p1 h (List.mem_cons_self ..)) zl
      have tl : ∀ l ∈ t, l.length ≤ 9000 := fun l hl => Nat.le_trans (p1 l (List.mem_cons_of_mem _ hl)) zl
      have tn : t.length ≤ 9000 := by simp at p2; omega
      unfold tNext
      dsimp only
      refine (?_ : WS ⟨K, pureM, A', H⟩ _ (startD ["text", "first", "rest", "size", "rows", "line", "plan"] [.str z]) { nx := fun ρ' => ρ' = [some (.str z), some (.str h), some (.lst (t.map .str)), none, none, none, none], rt := fun _ => False }) (fun _ => none) [] H1 _ R1 (fun _ _ e => by cases e) _ ⟨fun cs2 H2 σ2 ρ2 r2 _ e2 => ?_, fun _ _ _ _ _ _ h => h.elim, fun _ _ _ _ _ _ h => h.elim, fun _ _ _ _ _ _ h => h.elim⟩
      · refine s_asg ?_
        refine w_split ?_
        walk_at "mm"
        refine ⟨by decide +kernel, by rw [sizeLine_eq]; omega, ?_⟩
        rw [hs]
        refine g_star (by simp; omega) ?_
        refine g_cons (g_name trivial ?_)
        refine g_cons (g_name trivial ?_)
        exact g_nil rfl
      subst e2
      dsimp only
      have csz : Clean (rsD h) := by
        unfold rsD
        cases rsv h <;> trivial
      refine (?_ : WS ⟨K, pureM, A', H⟩ _ [some (.str z), some (.str h), some (.lst (t.map .str)), none, none, none, none] { nx := fun ρ' => ρ' = [some (.str z), some (.str h), some (.lst (t.map .str)), some (rsD h), none, none, none], rt := fun _ => False }) (fun _ => none) cs2 H2 _ r2 (fun _ _ e => by cases e) _ ⟨fun cs3 H3 σ3 ρ3 r3 _ e3 => ?_, fun _ _ _ _ _ _ h => h.elim, fun _ _ _ _ _ _ h => h.elim, fun _ _ _ _ _ _ h => h.elim⟩
      · refine s_set ?_
        walk_at "mm"
        refine ⟨by walk_at "cln", h, rfl, by omega, ?_⟩
        exact ⟨csz, rfl⟩
      subst e3
      dsimp only
      have hlr : ∀ r ∈ t.map Sp.lrow, r.1.length ≤ 9000 ∧ r.2.length ≤ 9000 := fun r hr => by
        obtain ⟨l, hl2, rfl⟩ := List.mem_map.mp hr
        have z := lrow_len l
        have := tl l hl2
        exact ⟨by omega, by omega⟩
      refine (?_ : WS ⟨K, pureM, A', H⟩ _ [some (.str z), some (.str h), some (.lst (t.map .str)), some (rsD h), none, none, none] { nx := fun ρ' => ρ' = [some (.str z), some (.str h), some (.lst (t.map .str)), some (rsD h), some (.tup ((t.map Sp.lrow).map rowD)), none, none], rt := fun _ => False }) (fun _ => none) cs3 H3 _ r3 (fun _ _ e => by cases e) _ ⟨fun cs4 H4 σ4 ρ4 r4 _ e4 => ?_, fun _ _ _ _ _ _ h => h.elim, fun _ _ _ _ _ _ h => h.elim, fun _ _ _ _ _ _ h => h.elim⟩
      · refine s_set ?_
        walk_at "mm"
        refine w_lcI ?_
        refine i_list ?_
        walk_at "mm"
        refine ⟨by rw [List.length_map]; omega, (t.map Sp.lrow).map rowD, by simp, fun i d hi hd => ?_, ?_⟩
        · rw [List.getElem?_map] at hi
          obtain ⟨l, hli, rfl⟩ := Option.map_eq_some_iff.mp hi
          have ll := tl l (List.mem_of_getElem? hli)
          refine gc_name hd ?_
          walk_at "mm"
          refine u_slS (by rw [sizeLine_eq]; omega) ?_
          walk_at "mm"
          refine u_slS (by rw [sizeLine_eq]; omega) ?_
          walk_at "mm"
          refine ⟨by walk_at "cln", _, rfl, Nat.le_trans (cutS_len _ _ _) (by omega), ?_⟩
          walk_at "mm"
          refine ⟨?_, trivial⟩
          rw [List.getElem?_map, List.getElem?_map, hli]
          rfl
        · walk_at "mm"
          refine c_tuple (.inl (.inl rfl)) ?_
          exact ⟨trivial, rfl⟩
      subst e4
      dsimp only
      have pl : PlRows (.tup ((t.map Sp.lrow).map rowD)) := pl_rowsW (fun r hr => ⟨by have := (hlr r hr).1; omega, by have := (hlr r hr).2; omega⟩) (by rw [List.length_map]; omega)
      have are := fun n => are_iff (n := n) (rs := t.map Sp.lrow) fun r hr => by have := (hlr r hr).2; omega
      have badN : ∀ {W : XK}, (∀ n, rsv h = some n → ¬ (0 ≤ n ∧ n ≤ 10000 ∧ Sp.Rows n (t.map Sp.lrow) ∧ Sp.planS n (t.map Sp.lrow) = z)) → ∀ cls dd H', Flew K A' H H' (Ce 0) (.str z) cls dd → E cls dd H' := fun {W} no cls dd H' fl => kN (fun ⟨n, rs, g, e⟩ => by
        injection e with e
        obtain ⟨e1, e2⟩ := read_good hs g e
        exact no n e1 ⟨g.n0, g.n1, by rw [e2]; exact g.rows, by rw [e2]; exact e.symm⟩) cls dd H' fl
      have fly : ∀ {cs5 : Cs} {H5 : Hp} {σ5 : L2.St} {ρ5 : Rho}, R ⟨K, pureM, A', H⟩ cs5 H5 σ5 ρ5 → ρ5[0]? = some (some (.str z)) → (∀ n, rsv h = some n → ¬ (0 ≤ n ∧ n ≤ 10000 ∧ Sp.Rows n (t.map Sp.lrow) ∧ Sp.planS n (t.map Sp.lrow) = z)) → tMkO (Ce 0) (Ex.spErr1 (Ce 0) "given") [] (tCons (tVar 0) tNil) σ5 H5 fun cls dd H' => E cls dd H' := fun {cs5 H5 σ5 ρ5} r5 e0 no => by
        refine r_raise (C := ⟨K, pureM, A', H⟩) (PX := fun w => w = .str z) rfl rfl (w_var e0 ⟨trivial, rfl⟩) r5 (fun w cls dd H' hw fl => ?_)
        subst hw
        exact badN (W := E) no cls dd H' fl
      cases hv2 : rsv h with
      | none =>
        have er : rsD h = .non := by
          unfold rsD
          rw [hv2]
        rw [er] at r4
        refine (?_ : WT ⟨K, pureM, A', H⟩ _ [some (.str z), some (.str h), some (.lst (t.map .str)), some .non, some (.tup ((t.map Sp.lrow).map rowD)), none, none] (fun b => b = true)) cs4 H4 _ r4 _ (fun b H5 k5 o5 e5 => ?_)
        · walk_at "mm"
          refine ⟨by walk_at "cln", .non, 0, 10000, rfl, rfl, ?_⟩
          walk_at "mm"
          rfl
        · rw [e5]
          refine iteT ?_
          exact fly (r4.step k5 o5) rfl fun n e => by
            rw [hv2] at e
            cases e
      | some n =>
        have er : rsD h = .int n := by
          unfold rsD
          rw [hv2]
        rw [er] at r4
        have isI : isIntF (.int n) 0 10000 = true ↔ 0 ≤ n ∧ n ≤ 10000 := by
          show (decide (0 ≤ n) && decide (n ≤ 10000)) = true ↔ _
          simp
        by_cases c : 0 ≤ n ∧ n ≤ 10000 ∧ Sp.Rows n (t.map Sp.lrow)
        · obtain ⟨n0, n1, rok⟩ := c
          refine (?_ : WT ⟨K, pureM, A', H⟩ _ [some (.str z), some (.str h), some (.lst (t.map .str)), some (.int n), some (.tup ((t.map Sp.lrow).map rowD)), none, none] (fun b => b = false)) cs4 H4 _ r4 _ (fun b H5 k5 o5 e5 => ?_)
          · walk_at "mm"
            refine ⟨by walk_at "cln", .int n, 0, 10000, rfl, rfl, ?_⟩
            rw [isI.mpr ⟨n0, n1⟩]
            walk_at "mm"
            refine ⟨by walk_at "cln", _, n, rfl, pl.1, pl.2.1, pl.2.2, ?_⟩
            rw [(are n).mpr rok]
            walk_at "mm"
            rfl
          · rw [e5]
            refine iteF ?_
            have r5 := r4.step k5 o5
            have pe : planErr (.int n) (.tup ((t.map Sp.lrow).map rowD)) = none := by
              unfold planErr
              dsimp only
              rw [if_pos (isI.mpr ⟨n0, n1⟩), if_pos ((are n).mpr rok)]
            refine (?_ : WS ⟨K, pureM, A', H⟩ _ [some (.str z), some (.str h), some (.lst (t.map .str)), some (.int n), some (.tup ((t.map Sp.lrow).map rowD)), none, none] { nx := fun ρ' => ρ' = [some (.str z), some (.str h), some (.lst (t.map .str)), some (.int n), some (.tup ((t.map Sp.lrow).map rowD)), none, some (planD Cp n (t.map Sp.lrow))], rt := fun _ => False }) (fun _ => none) cs4 H5 _ r5 (fun _ _ e => by cases e) _ ⟨fun cs6 H6 σ6 ρ6 r6 _ e6 => ?_, fun _ _ _ _ _ _ h => h.elim, fun _ _ _ _ _ _ h => h.elim, fun _ _ _ _ _ _ h => h.elim⟩
            · refine s_set ?_
              refine w_makeE ?_
              walk_at "mm"
              exact ⟨n, _, rfl, pe, pl, trivial, rfl⟩
            subst e6
            dsimp only
            refine (?_ : WT ⟨K, pureM, A', H⟩ _ [some (.str z), some (.str h), some (.lst (t.map .str)), some (.int n), some (.tup ((t.map Sp.lrow).map rowD)), none, some (planD Cp n (t.map Sp.lrow))] (fun b => b = !decide (Sp.planS n (t.map Sp.lrow) = z))) cs6 H6 _ r6 _ (fun b H7 k7 o7 e7 => ?_)
            · walk_at "mm"
              refine w_textP ?_
              walk_at "mm"
              refine ⟨n, _, rfl, rok, n0, n1, ?_⟩
              walk_at "mm"
              refine o_ne rfl rfl rfl ?_
              refine ⟨_, rfl, ?_⟩
              congr 1
              by_cases q : Sp.planS n (t.map Sp.lrow) = z
              · rw [q, decide_eq_true rfl, decide_eq_true rfl]
              · rw [decide_eq_false q, decide_eq_false fun w => q (V.str.inj w)]
            have r7 := r6.step k7 o7
            by_cases q : Sp.planS n (t.map Sp.lrow) = z
            · rw [decide_eq_true q] at e7
              rw [e7]
              refine iteF ?_
              obtain ⟨u, f1, g1⟩ := r7.env 6 _ rfl
              refine ⟨u, f1, ?_⟩
              have gv := g1.dt (show Clean (planD Cp n (t.map Sp.lrow)) from trivial)
              have gA : Dt K (hid A' H7) u (planD Cp n (t.map Sp.lrow)) := gv.same (hid_less fun x hx => by
                unfold Cxt.hd
                exact List.mem_append_left _ hx)
              exact kQ n _ ⟨n0, n1, rok⟩ (by rw [q]) u H7 (keep_pure.mp r7.good.keep) gA
            · rw [decide_eq_false q] at e7
              rw [e7]
              refine iteT ?_
              exact fly r7 rfl fun m e => by
                rw [hv2] at e
                cases e
                exact fun w => q w.2.2.2
        · refine (?_ : WT ⟨K, pureM, A', H⟩ _ [some (.str z), some (.str h), some (.lst (t.map .str)), some (.int n), some (.tup ((t.map Sp.lrow).map rowD)), none, none] (fun b => b = true)) cs4 H4 _ r4 _ (fun b H5 k5 o5 e5 => ?_)
          · walk_at "mm"
            refine ⟨by walk_at "cln", .int n, 0, 10000, rfl, rfl, ?_⟩
            cases ci : isIntF (.int n) 0 10000 with
            | false =>
              walk_at "mm"
              rfl
            | true =>
              have nn := isI.mp ci
              walk_at "mm"
              refine ⟨by walk_at "cln", _, n, rfl, pl.1, pl.2.1, pl.2.2, ?_⟩
              cases ca : areRowsF (.tup ((t.map Sp.lrow).map rowD)) n with
              | false =>
                walk_at "mm"
                rfl
              | true => exact (c ⟨nn.1, nn.2, (are n).mp ca⟩).elim
          · rw [e5]
            refine iteT ?_
            exact fly (r4.step k5 o5) rfl fun m e => by
              rw [hv2] at e
              cases e
              exact fun w => c ⟨w.1, w.2.1, w.2.2.1⟩
end
end Dl
set_option Elab.async false
set_option linter.all false
set_option maxRecDepth 100000
set_option maxHeartbeats 4000000
namespace Dl
open PySem PySem.Spec PyProof.Rows L2 Sp RZ
local macro_rules | `(tactic| walk_at "dd1") => `(tactic| first
  | ((with_reducible refine' w_var ?hv ?hk); (case hv => exact rfl))
  | with_reducible refine w_int ?_
  | with_reducible refine w_str ?_
  | with_reducible refine w_bl ?_
  | with_reducible refine w_non ?_
  | with_reducible refine w_ty ?_
  | with_reducible refine w_raw ?_
  | with_reducible refine w_nil ?_
  | with_reducible refine w_cons ?_
  | with_reducible refine w_cb ?_
  | with_reducible refine w_op ?_
  | with_reducible refine w_un ?_
  | with_reducible refine w_andV ?_
  | with_reducible refine w_orV ?_
  | with_reducible refine w_notV ?_
  | with_reducible refine w_if ?_
  | with_reducible refine w_and ?_
  | with_reducible refine w_or ?_
  | with_reducible refine w_not ?_
  | with_reducible refine w_test ?_
  | with_reducible refine w_tb ?_
  | with_reducible refine w_chain ?_
  | with_reducible refine w_tup ?_
  | with_reducible refine w_lst ?_
  | with_reducible refine w_sl ?_
  | with_reducible refine p_none ?_
  | with_reducible refine p_some ?_
  | with_reducible refine w_call ?_
  | with_reducible refine s_seq ?_
  | with_reducible refine s_nil ?_
  | with_reducible refine s_ret ?_
  | with_reducible refine s_if ?_
  | with_reducible refine s_set ?_
  | with_reducible refine s_drop ?_
  | with_reducible refine s_brk ?_
  | with_reducible refine s_cont ?_
  | with_reducible refine s_asg ?_
  | with_reducible refine o_int ?_
  | with_reducible refine o_cmp ?_
  | with_reducible refine o_ltS ?_
  | with_reducible refine o_leS ?_
  | with_reducible refine o_neg ?_
  | with_reducible refine c_int ?_
  | with_reducible refine c_intB ?_
  | with_reducible refine c_abs ?_
  | with_reducible refine t_yes ?_
  | refine ⟨_, rfl, ?_⟩
  | with_reducible refine ⟨trivial, ?_⟩
  | refine iteT ?_
  | refine iteF ?_)
local macro_rules | `(tactic| walk_at "dd") => `(tactic| repeat (walk_at "dd1"))
local macro_rules | `(tactic| walk_at "cln") => `(tactic| repeat (first | exact cl_nil | refine cl_cons (by first | assumption | trivial) ?_))
local macro_rules | `(tactic| walk_at "mm") => `(tactic| repeat (first
  | with_reducible refine w_dnew ?_
  | with_reducible refine w_disp1 ?_
  | refine o_intC (show CPow _ _ from ⟨by decide, by decide, by decide⟩) ?_
  | walk_at "dd1"
  | refine c_list (.inr rfl) ?_
  | refine o_catT (by rw [sizeLine_eq]; simp <;> omega) ?_
  | refine u_slT ?_
  | refine o_ixT rfl fun _ => ?_
  | refine ⟨by rw [sizeLine_eq]; simp <;> omega, by walk_at "cln", ?_⟩))
/-! ### texts that are drawn -/
structure Tx (m : Nat) (z : Str) : Prop where
  len : z.length ≤ m
  ch : Ch z
theorem Tx.mono {m n : Nat} {z : Str} (h : Tx m z) (l : m ≤ n) : Tx n z := ⟨Nat.le_trans h.len l, h.ch⟩
theorem Tx.add {m n : Nat} {z y : Str} (h : Tx m z) (g : Tx n y) : Tx (m + n) (z ++ y) := ⟨by
  rw [PySem.Str.length_append]
  have := h.len
  have := g.len
  omega, fun c hc => by
  rw [PySem.Str.cps_append, Array.toList_append, List.mem_append] at hc
  rcases hc with hc | hc
  · exact h.ch c hc
  · exact g.ch c hc⟩
theorem Tx.cut {m : Nat} {z : Str} (h : Tx m z) (lo hi : Option Int) : Tx m (cutS z lo hi) := ⟨Nat.le_trans (cutS_len z lo hi) h.len, fun c hc => h.ch c (by
  unfold cutS at hc
  exact List.mem_of_mem_drop (List.mem_of_mem_take hc))⟩
theorem Tx.one {c : Nat} (h : c < 1114112) : Tx 1 ⟨#[c]⟩ := ⟨Nat.le_refl _, fun d hd => by
  rw [List.mem_singleton.mp hd]
  exact h⟩
theorem Tx.of (s : String) (m : Nat) (h : (Str.ofString s).length ≤ m) : Tx m (Str.ofString s) := ⟨h, ch_of s⟩
theorem Tx.rep {m : Nat} {z : Str} {n : Int} (h : Ch z) (l : z.length = 1) (n0 : 0 ≤ n) (nm : n ≤ (m : Int)) : Tx m (repS z n) := ⟨by
  have := repS_len (z := z) n0
  rw [l] at this
  omega, fun c hc => h c (repS_mem hc)⟩
theorem ch_num (n : Int) (h0 : 0 ≤ n) : Ch (toString n : Str) := fun c hc => by
  obtain ⟨m, rfl⟩ := Int.eq_ofNat_of_zero_le h0
  rw [Sp.tsz] at hc
  have := Sp.digs m c hc
  omega
theorem tx_num {n : Int} (h0 : 0 ≤ n) (h1 : n ≤ 10000) : Tx 5 (toString n : Str) := ⟨by
  have nb := Sp.numB_all h0 h1
  unfold Sp.numB at nb
  simp only [Bool.and_eq_true, decide_eq_true_eq] at nb
  exact nb.2.2.2, ch_num n h0⟩
theorem str_len {z : Str} {l : List Nat} (h : z.cps.toList = l) : z.length = l.length := by
  have := congrArg List.length h
  simpa [Str.length] using this
theorem tx_line {n : Int} {rs : List (Str × List Int)} (g : Sp.GoodP n rs) {r : Str × List Int} (hr : r ∈ rs) : Tx (n.toNat + 2) (Sp.lineS n r) := by
  obtain ⟨⟨c, m, e, c1, c2, hl, hm⟩, _⟩ := Sp.good_line g hr
  refine ⟨by rw [str_len e]; simp; omega, fun x hx => ?_⟩
  rw [e] at hx
  rcases List.mem_cons.mp hx with rfl | hx
  · omega
  · rcases List.mem_cons.mp hx with rfl | hx
    · omega
    · rcases hm x hx with rfl | rfl <;> omega
theorem tx_join {m : Nat} : ∀ {ls : List Str}, (∀ l ∈ ls, Tx m l) → Tx (ls.length * (m + 1)) (Str.join "\n" ls)
  | [], _ => ⟨Nat.zero_le _, fun c hc => nomatch hc⟩
  | [x], h => (h x (List.mem_cons_self ..)).mono (by simp)
  | x :: y :: r, h => by
    have i := tx_join (ls := y :: r) fun l hl => h l (List.mem_cons_of_mem _ hl)
    have a := ((h x (List.mem_cons_self ..)).add (Tx.of "\n" 1 (by decide +kernel))).add i
    refine Tx.mono (show Tx _ ((x ++ "\n" ++ Str.join "\n" (y :: r)) : Str) from a) ?_
    simp only [List.length_cons]
    rw [Nat.succ_mul (r.length + 1)]
    omega
theorem tx_join1 {m m0 : Nat} {x : Str} (hx : Tx m0 x) : ∀ {ls : List Str}, (∀ l ∈ ls, Tx m l) → Tx (m0 + ls.length * (m + 1)) (Str.join "\n" (x :: ls))
  | [], _ => hx.mono (by simp)
  | y :: r, h => by
    have i := tx_join (ls := y :: r) h
    have i2 : Tx ((y :: r).length * (m + 1) - 1) (Str.join "\n" (y :: r)) := by
      clear i
      induction r generalizing y with
      | nil => exact (h y (List.mem_cons_self ..)).mono (by simp)
      | cons w r ih =>
        have j := ih (y := w) fun l hl => h l (List.mem_cons_of_mem _ hl)
        have a := ((h y (List.mem_cons_self ..)).add (Tx.of "\n" 1 (by decide +kernel))).add j
        refine Tx.mono (show Tx _ ((y ++ "\n" ++ Str.join "\n" (w :: r)) : Str) from a) ?_
        simp only [List.length_cons]
        rw [Nat.succ_mul (r.length + 1), Nat.succ_mul r.length]
        omega
    have a := (hx.add (Tx.of "\n" 1 (by decide +kernel))).add i2
    refine Tx.mono (show Tx _ ((x ++ "\n" ++ Str.join "\n" (y :: r)) : Str) from a) ?_
    simp only [List.length_cons]
    rw [Nat.succ_mul r.length]
    omega
theorem num_one : ∀ n : Nat, n ≤ 9 → (Str.ofString (toString ((n : Nat) : Int))).length ≤ 1 := fun n h => by
  have : n = 0 ∨ n = 1 ∨ n = 2 ∨ n = 3 ∨ n = 4 ∨ n = 5 ∨ n = 6 ∨ n = 7 ∨ n = 8 ∨ n = 9 := by omega
  rcases this with rfl | rfl | rfl | rfl | rfl | rfl | rfl | rfl | rfl | rfl <;> decide +kernel
theorem tx_plan {n : Int} {rs : List (Str × List Int)} (g : Sp.GoodP n rs) (h9 : n ≤ 9) (h3 : rs.length ≤ 5) : Tx 61 (Sp.planS n rs) := by
  have e : Sp.planS n rs = Str.join "\n" (Sp.planL n rs) := by
    unfold Sp.planS Txt.join
    exact StrLaws.glued_eq_join _ _
  rw [e]
  have n0 := g.n0
  unfold Sp.planL
  refine (tx_join1 (m := 11) (m0 := 1) ⟨?_, ch_num n n0⟩ fun l hl => ?_).mono ?_
  · obtain ⟨m, rfl⟩ := Int.eq_ofNat_of_zero_le n0
    exact num_one m (by omega)
  · obtain ⟨r, hr, rfl⟩ := List.mem_map.mp hl
    exact (tx_line g hr).mono (by omega)
  · simp only [List.length_map]
    omega
theorem RowsG.good {n : Int} {rs : List (Str × List Int)} (h : RowsG n rs) (n0 : 0 ≤ n) (n1 : n ≤ 10000) : Sp.GoodP n rs := ⟨n0, n1, h.sp⟩
section
variable {C : Cxt} {ρ : Rho} {P : D → Prop} {ta : TE} {tr : TA} {E : XK}
theorem w_ptext (h : WA C tr ρ fun ds => ∃ n rs, ds = [.int n, .tup (rs.map rowD)] ∧ RowsG n rs ∧ 0 ≤ n ∧ n ≤ 10000 ∧ P (.str (Sp.planS n rs))) : WE C (tCall (Sp.spPlanText C.K) [] E tr) ρ P := fun cs H σ r Q q =>
  h cs H σ r _ fun vs ds H1 k1 o1 hp ⟨n, rs, e, ok, n0, n1, pd⟩ => by
    subst e
    obtain ⟨vx, vy, rfl, hx, hy⟩ := vals2 hp
    rw [hx.int]
    exact ⟨vy, n, rs, rfl, hy.dp (toP_rows rs), ok.sp, n0, n1, fun H' s => q _ _ H' (k1.trans (.same s)) (o1.same s) (.c (.str _)) pd⟩
end
section
variable {P : Program} {w : World} {K : PySem.W.Frag} {mg : Str → Option Value} {base : Heap}
abbrev s__law_signs : Stmt := top 40
theorem sc__law_signs : FnScope ["_law_high"] [] (defScope s__law_signs) := ⟨rfl, rfl, rfl, by decide +kernel, rfl, by decide +kernel, by decide +kernel⟩
def SG : Str := " !\"#$&'()*+,-./0123456789:;<=>?@" ++ alphS ++ "[\\]^_`" ++ Txt.lower alphS ++ "{|}~" ++ "\n"
theorem SG_len : SG.length = 95 := by decide +kernel
theorem SG_ch : Ch SG := by
  have : (SG.cps.toList.all fun c => decide (c < 1114112)) = true := by decide +kernel
  intro c hc
  have := List.all_eq_true.mp this c hc
  simpa using this
def g_signs : GD := fun ds P => ds = [] ∧ P (.str SG)
theorem d_signs (F : Fd K mg "_law_signs" s__law_signs) (B : Bt mg) : Df P w K mg base "_law_signs" 1 [] (spF K g_signs) := by
  refine df_F F sc__law_signs (fun _ _ _ _ _ _ us hl => match us, hl with | [], _ => rfl) (fun ds P h => ?_) (fun f cdv A outer s H E hr => ⟨_, (pss_cons (ps_set (i := 0) sc__law_signs.nd rfl (Or.inl rfl) pe_str)
    (pss_one (ps_ret (pe_op op_add_str (pe_op op_add_str (pe_op op_add_str (pe_op op_add_str (pe_op op_add_str pe_str (pv 0)) pe_str) (pe_lower (pv 0))) pe_str) pe_str)))), fun A H0 ds P hc h => ?_⟩)
  · obtain ⟨rfl, _⟩ := h
    rfl
  · obtain ⟨rfl, k⟩ := h
    walk_at "mm"
    refine ⟨trivial, ?_⟩
    walk_at "mm"
    refine o_addS ?_ ?_
    · rw [sizeLine_eq]
      decide +kernel
    walk_at "mm"
    refine o_addS ?_ ?_
    · rw [sizeLine_eq]
      decide +kernel
    refine w_m0 (Cnd := fun a => a.length ≤ 5592405) (gv := fun a => .str (Txt.lower a)) (gd := fun a => .str (Txt.lower a)) (fun z K H => .str _) ?_
    walk_at "mm"
    refine ⟨by decide +kernel, ?_⟩
    refine o_addS ?_ ?_
    · rw [sizeLine_eq]
      decide +kernel
    walk_at "mm"
    refine o_addS ?_ ?_
    · rw [sizeLine_eq]
      decide +kernel
    walk_at "mm"
    refine o_addS ?_ ?_
    · rw [sizeLine_eq]
      decide +kernel
    exact k
end
end Dl
set_option Elab.async false
set_option linter.all false
set_option maxRecDepth 100000
set_option maxHeartbeats 4000000
namespace Dl
open PySem PySem.Spec PyProof.Rows L2 Sp RZ
local macro_rules | `(tactic| walk_at "dd1") => `(tactic| first
  | ((with_reducible refine' w_var ?hv ?hk); (case hv => exact rfl))
  | with_reducible refine w_int ?_
  | with_reducible refine w_str ?_
  | with_reducible refine w_bl ?_
  | with_reducible refine w_non ?_
  | with_reducible refine w_ty ?_
  | with_reducible refine w_raw ?_
  | with_reducible refine w_nil ?_
  | with_reducible refine w_cons ?_
  | with_reducible refine w_cb ?_
  | with_reducible refine w_op ?_
  | with_reducible refine w_un ?_
  | with_reducible refine w_andV ?_
  | with_reducible refine w_orV ?_
  | with_reducible refine w_notV ?_
  | with_reducible refine w_if ?_
  | with_reducible refine w_and ?_
  | with_reducible refine w_or ?_
  | with_reducible refine w_not ?_
  | with_reducible refine w_test ?_
  | with_reducible refine w_tb ?_
  | with_reducible refine w_chain ?_
  | with_reducible refine w_tup ?_
  | with_reducible refine w_lst ?_
  | with_reducible refine w_sl ?_
  | with_reducible refine p_none ?_
  | with_reducible refine p_some ?_
  | with_reducible refine w_call ?_
  | with_reducible refine s_seq ?_
  | with_reducible refine s_nil ?_
  | with_reducible refine s_ret ?_
  | with_reducible refine s_if ?_
  | with_reducible refine s_set ?_
  | with_reducible refine s_drop ?_
  | with_reducible refine s_brk ?_
  | with_reducible refine s_cont ?_
  | with_reducible refine s_asg ?_
  | with_reducible refine o_int ?_
  | with_reducible refine o_cmp ?_
  | with_reducible refine o_ltS ?_
  | with_reducible refine o_leS ?_
  | with_reducible refine o_neg ?_
  | with_reducible refine c_int ?_
  | with_reducible refine c_intB ?_
  | with_reducible refine c_abs ?_
  | with_reducible refine t_yes ?_
  | refine ⟨_, rfl, ?_⟩
  | with_reducible refine ⟨trivial, ?_⟩
  | refine iteT ?_
  | refine iteF ?_)
local macro_rules | `(tactic| walk_at "dd") => `(tactic| repeat (walk_at "dd1"))
local macro_rules | `(tactic| walk_at "cln") => `(tactic| repeat (first | exact cl_nil | refine cl_cons (by first | assumption | trivial) ?_))
local macro_rules | `(tactic| walk_at "mm") => `(tactic| repeat (first
  | with_reducible refine w_dnew ?_
  | with_reducible refine w_disp1 ?_
  | refine o_intC (show CPow _ _ from ⟨by decide, by decide, by decide⟩) ?_
  | walk_at "dd1"
  | refine c_list (.inr rfl) ?_
  | refine o_catT (by rw [sizeLine_eq]; simp <;> omega) ?_
  | refine u_slT ?_
  | refine o_ixT rfl fun _ => ?_
  | refine ⟨by rw [sizeLine_eq]; simp <;> omega, by walk_at "cln", ?_⟩))
section
variable {X : Cx} {x : Str} {k : Nat} {ps : List Str} {sp : Sp} {p pos : Pos}
theorem pe_df0 (F : Df X.prog X.w X.K X.mg X.base x k ps sp) (hr : Room k X.A) (hg : Gl X x := by rfl) (hdb : (x == ("__debug__" : Str)) = false := by decide) :
    PE X (.Call (.Name x p) [] [] pos) (tCall sp [] E0 tNil) := by
  obtain ⟨f, fd, hm, hk, hb, F⟩ := F.ex
  exact pe_call0 F hr hg hm hk hb .nil pass0 hdb
end
section
variable {C : Cxt} {ρ : Rho} {O : Out} {ta : TA} {i j l : Nat}
theorem s_par3 (h : WA C ta ρ fun ds => ∃ x y z, ds = [x, y, z] ∧ Clean x ∧ Clean y ∧ Clean z ∧ O.nx (((ρ.set i (some x)).set j (some y)).set l (some z))) : WS C (tPar3 i j l ta) ρ O := fun S cs H σ r sm D f =>
  h cs H σ r _ fun vs ds H1 k o a q => by
    obtain ⟨x, y, z, rfl, c1, c2, c3, q⟩ := q
    cases a with
    | cons a b =>
      cases b with
      | cons b c =>
        cases c with
        | cons c d =>
          cases d
          exact ⟨_, _, _, rfl, f.nx cs H1 _ _ ((((r.step k o).set a c1).set b c2).set c c3) (sm.trans (r.good.hstep k)) q⟩
end
section
variable {P : Program} {w : World} {K : PySem.W.Frag} {mg : Str → Option Value} {base : Heap}
abbrev s__law_spoilt : Stmt := top 41
theorem sc__law_spoilt : FnScope ["_law_purse_here", "_law_line", "_law_way", "_law_at", "_law_sign", "_law_turned", "_law_behind"] ["_law_purse_here", "_law_line"] (defScope s__law_spoilt) := ⟨rfl, rfl, rfl, by decide +kernel, rfl, by decide +kernel, by decide +kernel⟩
def g_spoilt : GD := fun ds P => ∃ (z : Str) (m : Nat), ds = [.str z] ∧ Tx m z ∧ m ≤ 1000 ∧ ∀ y, Tx (4 * m + 1) y → P (.str y)
theorem ix_char {z : Str} {i : Int} {m : Nat} (h : Tx m z) (h0 : 0 ≤ i) (h1 : i < (z.length : Int)) : ∃ c, atI z.cps.toList i = some c ∧ Tx 1 ⟨#[c]⟩ := by
  have hl : i.toNat < z.cps.toList.length := by
    rw [Array.length_toList]
    show i.toNat < z.length
    omega
  obtain ⟨n, rfl⟩ := Int.eq_ofNat_of_zero_le h0
  have hl : n < z.cps.toList.length := by simpa using hl
  exact ⟨z.cps.toList[n], atI_nat (List.getElem?_eq_getElem hl), Tx.one (h.ch _ (List.getElem_mem hl))⟩
theorem d_spoilt (F : Fd K mg "_law_spoilt" s__law_spoilt) (B : Bt mg) (D_roll : Df P w K mg base "_law_roll" 1 ["_law_purse_here", "_law_many"] (spQ K pmP g_roll)) (D_signs : Df P w K mg base "_law_signs" 1 [] (spF K g_signs)) : Df P w K mg base "_law_spoilt" 2 ["_law_purse_here", "_law_line"] (spQ K pmP g_spoilt) := by
  refine df_Q pmP_p F sc__law_spoilt (fun _ _ _ _ _ _ us hl => match us, hl with | [_, _], _ => rfl) (fun ds P h => ?_) (fun f cdv A outer s H E hr => ⟨_, (pss_cons (ps_par3 (i := 2) (j := 3) (l := 4) (by rfl) sc__law_spoilt.nd rfl rfl rfl (by decide) (by decide) (by decide) rfl rfl rfl (pa_cons (pe_df D_roll (hr.mono (by decide)) (pa_cons (pv 0) (pa_cons pe_int pa_nil))) (pa_cons (pe_df D_roll (hr.mono (by decide)) (pa_cons (pv 0) (pa_cons (pe_op op_add (pe_callB call_len (by rfl) (B _ (by decide)) PySem.boot_len (pa_cons (pv 1) pa_nil)) pe_int) pa_nil))) (pa_cons (pe_df D_roll (hr.mono (by decide)) (pa_cons (pv 0) (pa_cons pe_int pa_nil))) pa_nil))) (by rfl))
    (pss_cons (ps_set (i := 4) sc__law_spoilt.nd rfl (Or.inl rfl) (pe_ix ix_str (pe_df0 D_signs (hr.mono (by decide))) (pv 4) (fun _ _ => rfl)))
    (pss_cons (ps_if (pt_cmpR op_eq (pv 2) pe_int (nomark _)) (pss_one (ps_ret (pv 1))) pss_nil)
    (pss_cons (ps_if (pt_cmpR op_eq (pv 2) pe_int (nomark _)) (pss_one (ps_ret (pe_op op_add_str (pe_op op_add_str (pe_slice sl_str (pv 1) po_none (po_some (pv 3))) (pv 4)) (pe_slice sl_str (pv 1) (po_some (pv 3)) po_none)))) pss_nil)
    (pss_cons (ps_if (pt_cmpR op_eq (pv 2) pe_int (nomark _)) (pss_one (ps_ret (pe_op op_add_str (pe_slice sl_str (pv 1) po_none (po_some (pv 3))) (pe_slice sl_str (pv 1) (po_some (pe_op op_add (pv 3) pe_int)) po_none)))) pss_nil)
    (pss_cons (ps_if (pt_cmpR op_eq (pv 2) pe_int (nomark _)) (pss_cons (ps_set (i := 5) sc__law_spoilt.nd rfl (Or.inl rfl) (pe_op op_add_str (pe_slice sl_str (pv 1) (po_some (pe_op op_add (pv 3) pe_int)) (po_some (pe_op op_add (pv 3) pe_int))) (pe_slice sl_str (pv 1) (po_some (pv 3)) (po_some (pe_op op_add (pv 3) pe_int)))))
    (pss_one (ps_ret (pe_op op_add_str (pe_op op_add_str (pe_slice sl_str (pv 1) po_none (po_some (pv 3))) (pv 5)) (pe_slice sl_str (pv 1) (po_some (pe_op op_add (pv 3) pe_int)) po_none))))) pss_nil)
    (pss_cons (ps_if (pt_cmpR op_eq (pv 2) pe_int (nomark _)) (pss_one (ps_ret (pe_slice sl_str (pv 1) po_none (po_some (pv 3))))) pss_nil)
    (pss_cons (ps_if (pt_cmpR op_eq (pv 2) pe_int (nomark _)) (pss_cons (ps_set (i := 6) sc__law_spoilt.nd rfl (Or.inl rfl) (pe_op op_add (pe_op op_add (pv 3) pe_int) (pe_df D_roll (hr.mono (by decide)) (pa_cons (pv 0) (pa_cons pe_int pa_nil)))))
    (pss_one (ps_ret (pe_op op_add_str (pe_slice sl_str (pv 1) po_none (po_some (pv 6))) (pe_slice sl_str (pv 1) (po_some (pv 3)) po_none))))) pss_nil)
    (pss_cons (ps_if (pt_cmpR op_eq (pv 2) pe_int (nomark _)) (pss_one (ps_ret (pe_op op_add_str (pe_op op_add_str (pe_slice sl_str (pv 1) po_none (po_some (pv 3))) (pe_ix ix_str pe_str (pe_df D_roll (hr.mono (by decide)) (pa_cons (pv 0) (pa_cons pe_int pa_nil))) (fun _ _ => rfl))) (pe_slice sl_str (pv 1) (po_some (pe_op op_add (pv 3) pe_int)) po_none)))) pss_nil)
    (pss_one (ps_ret (pe_op op_add_str (pe_op op_add_str (pe_slice sl_str (pv 1) po_none (po_some (pv 3))) (pv 4)) (pe_slice sl_str (pv 1) (po_some (pe_op op_add (pv 3) pe_int)) po_none))))))))))))), fun p A H0 ds P hc h => ?_⟩)
  · obtain ⟨z, m, rfl, _⟩ := h
    rfl
  · obtain ⟨z, m, rfl, tz, m1, k⟩ := h
    have zl := tz.len
    have zs : z.length ≤ sizeLine := by rw [sizeLine_eq]; omega
    have cat : ∀ {a b : Nat} {x y : Str}, Tx a x → Tx b y → a + b ≤ 5000 → x.length + y.length ≤ sizeLine := fun {a b x y} h g l => by
      have := h.len
      have := g.len
      rw [sizeLine_eq]
      omega
    refine s_seq (s_par3 ?_)
    refine w_cons ?_
    refine w_callQ ⟨p, rfl, rfl⟩ ?_
    walk_at "mm"
    refine ⟨by walk_at "cln", _, rfl, by decide, by decide, fun way way0 way1 => ?_⟩
    refine w_cons ?_
    refine w_callQ ⟨p, rfl, rfl⟩ ?_
    walk_at "mm"
    refine c_lenS zs ?_
    walk_at "mm"
    refine ⟨by walk_at "cln", _, rfl, by omega, by omega, fun at_ at0 at1 => ?_⟩
    refine w_cons ?_
    refine w_callQ ⟨p, rfl, rfl⟩ ?_
    walk_at "mm"
    refine ⟨by walk_at "cln", _, rfl, by decide, by decide, fun si si0 si1 => ?_⟩
    refine w_nil ⟨_, _, _, rfl, trivial, trivial, trivial, ?_⟩
    refine s_seq (s_set ?_)
    walk_at "mm"
    refine ⟨cl_nil, rfl, ?_⟩
    walk_at "mm"
    obtain ⟨sg, i1, tsg⟩ := ix_char (m := 95) ⟨Nat.le_of_eq SG_len, SG_ch⟩ si0 (by rw [SG_len]; omega)
    refine o_ixS (by rw [SG_len, sizeLine_eq]; decide) i1 ?_
    refine ⟨trivial, ?_⟩
    have c : ∀ lo hi, Tx m (cutS z lo hi) := fun lo hi => tz.cut lo hi
    refine s_seq (s_if ?_)
    walk_at "mm"
    refine o_eq rfl rfl rfl ?_
    refine ⟨_, rfl, ?_⟩
    refine ite2 (fun _ => ?_) (fun _ => ?_)
    · walk_at "mm"
      exact ⟨trivial, k _ (tz.mono (by omega))⟩
    walk_at "mm"
    refine o_eq rfl rfl rfl ?_
    refine ⟨_, rfl, ?_⟩
    refine ite2 (fun _ => ?_) (fun _ => ?_)
    · walk_at "mm"
      refine u_slS zs ?_
      walk_at "mm"
      refine o_addS (cat (c _ _) tsg (by omega)) ?_
      walk_at "mm"
      refine u_slS zs ?_
      refine o_addS (cat ((c _ _).add tsg) (c _ _) (by omega)) ?_
      exact ⟨trivial, k _ ((((c _ _).add tsg).add (c _ _)).mono (by omega))⟩
    walk_at "mm"
    refine o_eq rfl rfl rfl ?_
    refine ⟨_, rfl, ?_⟩
    refine ite2 (fun _ => ?_) (fun _ => ?_)
    · walk_at "mm"
      refine u_slS zs ?_
      walk_at "mm"
      refine u_slS zs ?_
      refine o_addS (cat (c _ _) (c _ _) (by omega)) ?_
      exact ⟨trivial, k _ (((c _ _).add (c _ _)).mono (by omega))⟩
    walk_at "mm"
    refine o_eq rfl rfl rfl ?_
    refine ⟨_, rfl, ?_⟩
    refine ite2 (fun _ => ?_) (fun _ => ?_)
    · walk_at "mm"
      refine u_slS zs ?_
      walk_at "mm"
      refine u_slS zs ?_
      refine o_addS (cat (c _ _) (c _ _) (by omega)) ?_
      refine ⟨trivial, ?_⟩
      walk_at "mm"
      refine u_slS zs ?_
      walk_at "mm"
      refine o_addS (cat (c _ _) ((c _ _).add (c _ _)) (by omega)) ?_
      walk_at "mm"
      refine u_slS zs ?_
      refine o_addS (cat ((c _ _).add ((c _ _).add (c _ _))) (c _ _) (by omega)) ?_
      exact ⟨trivial, k _ ((((c _ _).add ((c _ _).add (c _ _))).add (c _ _)).mono (by omega))⟩
    walk_at "mm"
    refine o_eq rfl rfl rfl ?_
    refine ⟨_, rfl, ?_⟩
    refine ite2 (fun _ => ?_) (fun _ => ?_)
    · walk_at "mm"
      refine u_slS zs ?_
      exact ⟨trivial, k _ ((c _ _).mono (by omega))⟩
    walk_at "mm"
    refine o_eq rfl rfl rfl ?_
    refine ⟨_, rfl, ?_⟩
    refine ite2 (fun _ => ?_) (fun _ => ?_)
    · walk_at "mm"
      refine w_callQ ⟨p, rfl, rfl⟩ ?_
      walk_at "mm"
      refine ⟨by walk_at "cln", _, rfl, by decide, by decide, fun six s0 s1 => ?_⟩
      walk_at "mm"
      refine ⟨trivial, ?_⟩
      walk_at "mm"
      refine u_slS zs ?_
      walk_at "mm"
      refine u_slS zs ?_
      refine o_addS (cat (c _ _) (c _ _) (by omega)) ?_
      exact ⟨trivial, k _ (((c _ _).add (c _ _)).mono (by omega))⟩
    walk_at "mm"
    refine o_eq rfl rfl rfl ?_
    refine ⟨_, rfl, ?_⟩
    refine ite2 (fun _ => ?_) (fun _ => ?_)
    · walk_at "mm"
      refine u_slS zs ?_
      walk_at "mm"
      refine w_callQ ⟨p, rfl, rfl⟩ ?_
      walk_at "mm"
      refine ⟨by walk_at "cln", _, rfl, by decide, by decide, fun q q0 q1 => ?_⟩
      obtain ⟨cq, i2, tq⟩ := ix_char (z := "#.\n 0A1") (m := 7) (Tx.of _ _ (by decide +kernel)) q0 (by rw [show ("#.\n 0A1" : Str).length = 7 by decide +kernel]; omega)
      refine o_ixS (by rw [sizeLine_eq]; decide +kernel) i2 ?_
      refine o_addS (cat (c _ _) tq (by omega)) ?_
      walk_at "mm"
      refine u_slS zs ?_
      refine o_addS (cat ((c _ _).add tq) (c _ _) (by omega)) ?_
      exact ⟨trivial, k _ ((((c _ _).add tq).add (c _ _)).mono (by omega))⟩
    walk_at "mm"
    refine u_slS zs ?_
    walk_at "mm"
    refine o_addS (cat (c _ _) tsg (by omega)) ?_
    walk_at "mm"
    refine u_slS zs ?_
    refine o_addS (cat ((c _ _).add tsg) (c _ _) (by omega)) ?_
    exact ⟨trivial, k _ ((((c _ _).add tsg).add (c _ _)).mono (by omega))⟩
end
end Dl
set_option Elab.async false
set_option linter.all false
set_option maxRecDepth 100000
set_option maxHeartbeats 4000000
namespace Dl
open PySem PySem.Spec PyProof.Rows L2 Sp RZ
local macro_rules | `(tactic| walk_at "dd1") => `(tactic| first
  | ((with_reducible refine' w_var ?hv ?hk); (case hv => exact rfl))
  | with_reducible refine w_int ?_
  | with_reducible refine w_str ?_
  | with_reducible refine w_bl ?_
  | with_reducible refine w_non ?_
  | with_reducible refine w_ty ?_
  | with_reducible refine w_raw ?_
  | with_reducible refine w_nil ?_
  | with_reducible refine w_cons ?_
  | with_reducible refine w_cb ?_
  | with_reducible refine w_op ?_
  | with_reducible refine w_un ?_
  | with_reducible refine w_andV ?_
  | with_reducible refine w_orV ?_
  | with_reducible refine w_notV ?_
  | with_reducible refine w_if ?_
  | with_reducible refine w_and ?_
  | with_reducible refine w_or ?_
  | with_reducible refine w_not ?_
  | with_reducible refine w_test ?_
  | with_reducible refine w_tb ?_
  | with_reducible refine w_chain ?_
  | with_reducible refine w_tup ?_
  | with_reducible refine w_lst ?_
  | with_reducible refine w_sl ?_
  | with_reducible refine p_none ?_
  | with_reducible refine p_some ?_
  | with_reducible refine w_call ?_
  | with_reducible refine s_seq ?_
  | with_reducible refine s_nil ?_
  | with_reducible refine s_ret ?_
  | with_reducible refine s_if ?_
  | with_reducible refine s_set ?_
  | with_reducible refine s_drop ?_
  | with_reducible refine s_brk ?_
  | with_reducible refine s_cont ?_
  | with_reducible refine s_asg ?_
  | with_reducible refine o_int ?_
  | with_reducible refine o_cmp ?_
  | with_reducible refine o_ltS ?_
  | with_reducible refine o_leS ?_
  | with_reducible refine o_neg ?_
  | with_reducible refine c_int ?_
  | with_reducible refine c_intB ?_
  | with_reducible refine c_abs ?_
  | with_reducible refine t_yes ?_
  | refine ⟨_, rfl, ?_⟩
  | with_reducible refine ⟨trivial, ?_⟩
  | refine iteT ?_
  | refine iteF ?_)
local macro_rules | `(tactic| walk_at "dd") => `(tactic| repeat (walk_at "dd1"))
local macro_rules | `(tactic| walk_at "cln") => `(tactic| repeat (first | exact cl_nil | refine cl_cons (by first | assumption | trivial) ?_))
local macro_rules | `(tactic| walk_at "mm") => `(tactic| repeat (first
  | with_reducible refine w_dnew ?_
  | with_reducible refine w_disp1 ?_
  | refine o_intC (show CPow _ _ from ⟨by decide, by decide, by decide⟩) ?_
  | walk_at "dd1"
  | refine c_list (.inr rfl) ?_
  | refine o_catT (by rw [sizeLine_eq]; simp <;> omega) ?_
  | refine u_slT ?_
  | refine o_ixT rfl fun _ => ?_
  | refine ⟨by rw [sizeLine_eq]; simp <;> omega, by walk_at "cln", ?_⟩))
/-! ### a reader of the law's own: what it refuses -/
theorem hd48 (m : Nat) : ((Nat.toDigits 10 m).map Char.toNat).head? = some 48 → m = 0 := by
  induction m using Nat.strongRecOn with
  | _ m ih =>
    by_cases h : m < 10
    · intro e
      have all : ∀ m, m < 10 → ((Nat.toDigits 10 m).map Char.toNat).head? = some 48 → m = 0 := by decide +kernel
      exact all m h e
    · intro e
      have t : Nat.toDigits 10 (m / 10) ++ Nat.toDigits 10 (m % 10) = Nat.toDigits 10 (10 * (m / 10) + m % 10) := Nat.toDigits_append_toDigits (by decide) (by omega) (Nat.mod_lt m (by decide))
      rw [Nat.div_add_mod] at t
      rw [← t, List.map_append] at e
      have v := PySem.W.KIN.val_back (m / 10)
      cases q : (Nat.toDigits 10 (m / 10)).map Char.toNat with
      | nil =>
        rw [q] at v
        have : m / 10 = 0 := v.symm
        omega
      | cons x l =>
        have i := ih (m / 10) (by omega)
        rw [q] at e i
        have : m / 10 = 0 := i e
        omega
structure NumT (n : Int) (z : Str) : Prop where
  dg : PySem.NumText.AllDigits z.cps.toList
  ne : z.cps.toList ≠ []
  l5 : z.length ≤ 5
  hd : z.cps.toList.head? = some 48 → z = "0"
  vl : ((PySem.NumText.digitsVal z.cps.toList : Nat) : Int) = n
theorem numT {n : Int} (h0 : 0 ≤ n) (h1 : n ≤ 10000) : NumT n (toString n : Str) := by
  have l5 := (tx_num h0 h1).len
  obtain ⟨m, rfl⟩ := Int.eq_ofNat_of_zero_le h0
  have e := Sp.tsz m
  have v := PySem.W.KIN.val_back m
  refine ⟨by rw [e]; exact Sp.digs m, fun q => ?_, l5, fun q => ?_, by rw [e, v]⟩
  · rw [q] at e
    rw [← e] at v
    have v : 0 = m := v
    subst v
    cases e
  · rw [e] at q
    have := hd48 m q
    subst this
    rfl
def bad (h : Str) (t : List Str) : Prop := ∀ n rs, Sp.GoodP n rs → h = (toString n : Str) → t = rs.map (Sp.lineS n) → False
theorem bad_not {z h : Str} {t : List Str} (hs : Txt.split z "\n" = h :: t) (b : bad h t) : ¬ ∃ n rs, Sp.GoodP n rs ∧ z = Sp.planS n rs := fun ⟨n, rs, g, e⟩ => by
  rw [e, Sp.good_split g] at hs
  injection hs with e1 e2
  exact b n rs g e1.symm e2.symm
theorem bad_num {h : Str} {t : List Str} (b : ∀ n, 0 ≤ n → n ≤ 10000 → NumT n h → False) : bad h t := fun n rs g e _ => b n g.n0 g.n1 (e ▸ numT g.n0 g.n1)
theorem bad_line {h : Str} {t : List Str} {l : Str} (hl : l ∈ t) (b : ∀ n, NumT n h → Sp.lineOk n l → False) : bad h t := fun n rs g e et => by
  subst et
  obtain ⟨r, hr, rfl⟩ := List.mem_map.mp hl
  exact b n (e ▸ numT g.n0 g.n1) (Sp.good_line g hr).1
theorem bad_up {h : Str} {t : List Str} (b : (upV ((t.map Sp.lrow).map fun r => V.str r.1)).all id = false) : bad h t := fun n rs g e et => by
  subst et
  have z : (rs.map (Sp.lineS n)).map Sp.lrow = rs := by
    rw [List.map_map]
    exact (List.map_congr_left fun r hr => (Sp.good_line g hr).2).trans (List.map_id _)
  rw [z, g.rows.up] at b
  cases b
/-! signs out of a text -/
def outS (j : Str) (d : D) : Bool := match d with
  | .str z => !decide (z.cps.toList.headD 0 ∈ j.cps.toList)
  | _ => false
def outL (j z : Str) : List Str := (z.cps.toList.filter fun c => !decide (c ∈ j.cps.toList)).map fun c => (⟨#[c]⟩ : Str)
theorem out_D (j z : Str) : ((sgns z).filter (outS j)).map id = (outL j z).map D.str := by
  unfold sgns outL
  rw [List.filter_map, List.map_id, List.map_map]
  rfl
theorem outL_ch {j z : Str} (h : Ch z) : ∀ l ∈ outL j z, Ch l := fun l hl => by
  unfold outL at hl
  obtain ⟨c, hc, rfl⟩ := List.mem_map.mp hl
  have hc := h c (List.mem_filter.mp hc).1
  intro d hd
  rw [List.mem_singleton.mp hd]
  exact hc
theorem outL_nil {j z : Str} : outL j z = [] ↔ ∀ c ∈ z.cps.toList, c ∈ j.cps.toList := by
  unfold outL
  rw [List.map_eq_nil_iff, List.filter_eq_nil_iff]
  simp
theorem toPs_strs : ∀ ls : List Str, toPs (ls.map .str) = some (ls.map .str)
  | [] => by simp [toPs]
  | l :: ls => by simp [toPs, toP, toPs_strs ls]
theorem lay_strs : ∀ ls : List Str, (∀ l ∈ ls, Ch l) → PyData.canLayAll0 (ls.map PyData.str) = true
  | [], _ => by simp [PyData.canLayAll0]
  | l :: ls, h => by simp [PyData.canLayAll0, PyData.canLay0, ch_ok (h l (List.mem_cons_self ..)), lay_strs ls fun x hx => h x (List.mem_cons_of_mem _ hx)]
theorem deep_strs : ∀ ls : List Str, PyData.depthAll (ls.map PyData.str) = 0
  | [] => by simp [PyData.depthAll]
  | l :: ls => by simp [PyData.depthAll, PyData.depth, deep_strs ls]
theorem shaped_strs {ls : List Str} (h : ∀ l ∈ ls, Ch l) : SeqAt.shaped (.list (ls.map PyData.str)) = true := by
  have h1 := lay_strs ls h
  have h2 := deep_strs ls
  show (PyData.canLay0 (.list (ls.map PyData.str)) && decide (PyData.depth (.list (ls.map PyData.str)) ≤ 64)) = true
  simp [PyData.canLay0, PyData.depth, h1, h2]
theorem eqv_nil (ls : List Str) : PyData.eqv (.list (ls.map PyData.str)) (.list []) = decide (ls = []) := by
  cases ls <;> simp [PyData.eqv, PyData.eqvAll]
theorem o_out {C : Cxt} {P : D → Prop} {j z : Str} (h : Ch z) (k : P (.bl (!decide (outL j z = [])))) : OpD C (rNeD C.K) (.lst ((outL j z).map .str)) (.lst []) P :=
  o_neD (p := .list ((outL j z).map .str)) (q := .list []) (by simp [toP, toPs_strs]) (by simp [toP, toPs]) (shaped_strs (outL_ch h)) (by decide +kernel) (by rw [eqv_nil]; exact k)
/-! places of the sign # -/
def shB (l : Str) (d : D) : Bool := match d with
  | .int k => decide (V.str ⟨#[l.cps.toList.getD k.toNat 0]⟩ = V.str "#")
  | _ => false
def sub2 (d : D) : D := match d with
  | .int k => .int (k - 2)
  | _ => .non
theorem shB_D {l : Str} {a b : Nat} {m : List Nat} (h : l.cps.toList = a :: b :: m) : ((rngD 2 m.length).filter (shB l)).map sub2 = (Sp.marked ⟨m.toArray⟩ m.length).map D.int := by
  unfold rngD Sp.marked
  have h3 : ∀ c : Nat, decide (V.str ⟨#[c]⟩ = V.str "#") = decide (c = 35) := fun c => by
    have h3 : ("#" : Str) = ⟨#[35]⟩ := by decide +kernel
    rw [h3]
    by_cases q : c = 35
    · subst q
      rw [decide_eq_true rfl, decide_eq_true rfl]
    · rw [decide_eq_false q, decide_eq_false fun w => q (by
        have h1 := V.str.inj w
        have h2 := congrArg (fun z : Str => z.cps.toList) h1
        simpa using h2)]
  rw [List.filter_map, List.map_map, List.map_map]
  have f : (List.range m.length).filter (shB l ∘ fun (i : Nat) => D.int (2 + (i : Int))) = (List.range m.length).filter fun (t : Nat) => decide ((⟨m.toArray⟩ : Str).cps[t]? = some 35) := by
    refine List.filter_congr fun t ht => ?_
    have ht := List.mem_range.mp ht
    show decide (V.str ⟨#[l.cps.toList.getD (2 + (t : Int)).toNat 0]⟩ = V.str "#") = _
    rw [h3, h, show (2 + (t : Int)).toNat = t + 2 by omega]
    simp [ht]
  rw [f]
  refine List.map_congr_left fun t _ => ?_
  show D.int (2 + (t : Int) - 2) = D.int (t : Int)
  congr 1
  omega
theorem cutD_tail {x : D} {xs : List D} : cutD (x :: xs) (some 1) none = xs := by
  unfold cutD
  rw [show HT.sIx (x :: xs).length 0 (some 1) = 1 from by
    show (if (1 : Int) < 0 then ((1 : Int) + ((x :: xs).length : Int)).toNat else min (1 : Int).toNat (x :: xs).length) = 1
    rw [if_neg (by decide)]
    show min 1 (xs.length + 1) = 1
    omega, show HT.sIx (x :: xs).length (x :: xs).length none = xs.length + 1 from rfl]
  simp
theorem join_mem {sep : Str} {c : Nat} : ∀ {ls : List Str} {l : Str}, l ∈ ls → c ∈ l.cps.toList → c ∈ (Str.join sep ls).cps.toList
  | [x], l, h, hc => by
    rw [List.mem_singleton.mp h] at hc
    exact hc
  | x :: y :: r, l, h, hc => by
    show c ∈ ((x ++ sep ++ Str.join sep (y :: r)) : Str).cps.toList
    rw [PySem.Str.cps_append, PySem.Str.cps_append, Array.toList_append, Array.toList_append, List.mem_append, List.mem_append]
    rcases List.mem_cons.mp h with rfl | h
    · exact .inl (.inl hc)
    · exact .inr (join_mem h hc)
theorem split_ch {z : Str} (h : Ch z) : ∀ l ∈ Txt.split z "\n", Ch l := fun l hl c hc => by
  have := join_mem (sep := "\n") hl hc
  rw [StrLaws.join_split] at this
  exact h c this
theorem alph_mem {c : Nat} : c ∈ alphS.cps.toList ↔ 65 ≤ c ∧ c ≤ 90 := by
  have e : alphS.cps.toList = (List.range 26).map (65 + ·) := by decide +kernel
  rw [e, List.mem_map]
  constructor
  · rintro ⟨i, hi, rfl⟩
    have := List.mem_range.mp hi
    omega
  · intro h
    exact ⟨c - 65, List.mem_range.mpr (by omega), by omega⟩
theorem digs_mem {c : Nat} : c ∈ ("0123456789" : Str).cps.toList ↔ 48 ≤ c ∧ c ≤ 57 := by
  have e : ("0123456789" : Str).cps.toList = (List.range 10).map (48 + ·) := by decide +kernel
  rw [e, List.mem_map]
  constructor
  · rintro ⟨i, hi, rfl⟩
    have := List.mem_range.mp hi
    omega
  · intro h
    exact ⟨c - 48, List.mem_range.mpr (by omega), by omega⟩
theorem two_mem {c : Nat} : c ∈ ("#." : Str).cps.toList ↔ c = 35 ∨ c = 46 := by
  have e : ("#." : Str).cps.toList = [35, 46] := by decide +kernel
  rw [e]
  simp
theorem one_eq {c d : Nat} : decide (V.str ⟨#[c]⟩ = V.str ⟨#[d]⟩) = decide (c = d) := by
  by_cases q : c = d
  · subst q
    rw [decide_eq_true rfl, decide_eq_true rfl]
  · rw [decide_eq_false q, decide_eq_false fun w => q (by
      have h1 := V.str.inj w
      have h2 := congrArg (fun z : Str => z.cps.toList) h1
      simpa using h2)]
theorem upV_get {ls : List Str} {i : Nat} {a b : Str} (h1 : ls[i]? = some a) (h2 : ls[i + 1]? = some b) : (upV (ls.map V.str))[i]? = some (decide (a.cps.toList < b.cps.toList)) := by
  refine upV_at (x := .str a) (y := .str b) ?_ ?_
  · rw [List.getElem?_map, h1]
    rfl
  · rw [List.getElem?_drop, List.getElem?_map, Nat.add_comm, h2]
    rfl
end Dl
set_option Elab.async false
set_option linter.all false
set_option maxRecDepth 100000
set_option maxHeartbeats 4000000
namespace Dl
open PySem PySem.Spec PyProof.Rows L2 Sp RZ
local macro_rules | `(tactic| walk_at "dd1") => `(tactic| first
  | ((with_reducible refine' w_var ?hv ?hk); (case hv => exact rfl))
  | with_reducible refine w_int ?_
  | with_reducible refine w_str ?_
  | with_reducible refine w_bl ?_
  | with_reducible refine w_non ?_
  | with_reducible refine w_ty ?_
  | with_reducible refine w_raw ?_
  | with_reducible refine w_nil ?_
  | with_reducible refine w_cons ?_
  | with_reducible refine w_cb ?_
  | with_reducible refine w_op ?_
  | with_reducible refine w_un ?_
  | with_reducible refine w_andV ?_
  | with_reducible refine w_orV ?_
  | with_reducible refine w_notV ?_
  | with_reducible refine w_if ?_
  | with_reducible refine w_and ?_
  | with_reducible refine w_or ?_
  | with_reducible refine w_not ?_
  | with_reducible refine w_test ?_
  | with_reducible refine w_tb ?_
  | with_reducible refine w_chain ?_
  | with_reducible refine w_tup ?_
  | with_reducible refine w_lst ?_
  | with_reducible refine w_sl ?_
  | with_reducible refine p_none ?_
  | with_reducible refine p_some ?_
  | with_reducible refine w_call ?_
  | with_reducible refine s_seq ?_
  | with_reducible refine s_nil ?_
  | with_reducible refine s_ret ?_
  | with_reducible refine s_if ?_
  | with_reducible refine s_set ?_
  | with_reducible refine s_drop ?_
  | with_reducible refine s_brk ?_
  | with_reducible refine s_cont ?_
  | with_reducible refine s_asg ?_
  | with_reducible refine o_int ?_
  | with_reducible refine o_cmp ?_
  | with_reducible refine o_ltS ?_
  | with_reducible refine o_leS ?_
  | with_reducible refine o_neg ?_
  | with_reducible refine c_int ?_
  | with_reducible refine c_intB ?_
  | with_reducible refine c_abs ?_
  | with_reducible refine t_yes ?_
  | refine ⟨_, rfl, ?_⟩
  | with_reducible refine ⟨trivial, ?_⟩
  | refine iteT ?_
  | refine iteF ?_)
local macro_rules | `(tactic| walk_at "dd") => `(tactic| repeat (walk_at "dd1"))
local macro_rules | `(tactic| walk_at "cln") => `(tactic| repeat (first | exact cl_nil | refine cl_cons (by first | assumption | trivial) ?_))
local macro_rules | `(tactic| walk_at "mm") => `(tactic| repeat (first
  | with_reducible refine w_dnew ?_
  | with_reducible refine w_disp1 ?_
  | refine o_intC (show CPow _ _ from ⟨by decide, by decide, by decide⟩) ?_
  | walk_at "dd1"
  | refine c_list (.inr rfl) ?_
  | refine o_catT (by rw [sizeLine_eq]; simp <;> omega) ?_
  | refine u_slT ?_
  | refine o_ixT rfl fun _ => ?_
  | refine ⟨by rw [sizeLine_eq]; simp <;> omega, by walk_at "cln", ?_⟩))
theorem sgns_len (z : Str) : (sgns z).length = z.length := by
  unfold sgns
  rw [List.length_map, Array.length_toList]
  rfl
theorem wt_mono {C : Cxt} {tt : TT} {ρ : Rho} {PB PB' : Bool → Prop} (h : WT C tt ρ PB) (i : ∀ b, PB b → PB' b) : WT C tt ρ PB' := fun cs H σ r Q q => h cs H σ r Q fun b H' k o p => q b H' k o (i b p)
theorem cells_len {z : Str} {l : List Nat} (h : z.cps.toList = l) : z.length = l.length := str_len h
section
variable {P : Program} {w : World} {K : PySem.W.Frag} {mg : Str → Option Value} {base : Heap}
abbrev s__law_read : Stmt := top 42
theorem sc__law_read : FnScope ["_law_line", "_law_some", "_law_head", "_law_sign", "_law_found", "_law_each", "_law_k"] ["_law_line"] (defScope s__law_read) := ⟨rfl, rfl, rfl, by decide +kernel, rfl, by decide +kernel, by decide +kernel⟩
def g_read : GD := fun ds P => ∃ z, ds = [.str z] ∧ Tx 9000 z ∧ ((¬ ∃ n rs, Sp.GoodP n rs ∧ z = Sp.planS n rs) → P .non) ∧ (∀ n rs, Sp.GoodP n rs → z = Sp.planS n rs → P (.tup [.int n, .tup (rs.map rowD)]))
theorem d_read (F : Fd K mg "_law_read" s__law_read) (B : Bt mg) : Df P w K mg base "_law_read" 1 ["_law_line"] (spF K g_read) := by
  refine df_F F sc__law_read (fun _ _ _ _ _ _ us hl => match us, hl with | [_], _ => rfl) (fun ds P h => ?_) (fun f cdv A outer s H E hr => ⟨_, (pss_cons (ps_set (i := 1) sc__law_read.nd rfl (Or.inl rfl) (pe_split (pv 0) pe_str))
    (pss_cons (ps_set (i := 2) sc__law_read.nd rfl (Or.inl rfl) (pe_ix (ixLK K) (pv 1) pe_int (fun _ _ => rfl)))
    (pss_cons (ps_if (PW.pt (pw_or (pt_cmpR op_eq (pv 2) pe_str (nomark _)) (pw_or (pt_cmpR (op_neD (show (A.deeper (envOfC "_law_read" (defScope s__law_read) s.heap.objs.size f cdv)).units + 64 < cLine from by have := hr.un; omega)) (pe_lc (own := [("_law_sign", 3)]) (tt := _) rfl sc__law_read.nd (pi_str (pv 2)) (blkOk_by (N := ["_law_line", "_law_some", "_law_head", "_law_sign", "_law_found", "_law_each", "_law_k"]) (sc := defScope s__law_read) (by decide +kernel)) (fun _ _ _ _ _ => (pg_name (i := 3) sc__law_read.nd rfl (Or.inl rfl))) (fun _ _ _ _ _ => (pts_one (pt_cmpR op_notIn_str (pv 3) pe_str (by rfl)))) (fun _ _ _ _ _ => (pv 3))) (pe_lst pa_nil) (nomark _)) (pw_or1 (pt_cmpR op_gt (pe_callB call_len (by rfl) (B _ (by decide)) PySem.boot_len (pa_cons (pv 2) pa_nil)) pe_int (nomark _)))))) (pss_one (ps_ret pe_non)) pss_nil)
    (pss_cons (ps_if (PW.pt (pw_or (PW.pt (pw_and (pt_cmpR op_eq (pe_ix ix_str (pv 2) pe_int (fun _ _ => rfl)) pe_str (nomark _)) (pw_and1 (pt_cmpR op_ne (pv 2) pe_str (nomark _))))) (pw_or1 (pt_cmpR op_gt (pe_callTy call_int_str (by rfl) (B _ (by decide)) (by decide +kernel) (pa_cons (pv 2) pa_nil)) pe_int (nomark _))))) (pss_one (ps_ret pe_non)) pss_nil)
    (pss_cons (ps_set (i := 4) sc__law_read.nd rfl (Or.inr rfl) (pe_lst pa_nil))
    (pss_cons (ps_for PassesOwn.never rfl (pi_list (pe_slice sl_list (pv 1) (po_some pe_int) po_none)) (pg_name (i := 5) sc__law_read.nd rfl (Or.inr rfl))
    (pss_cons (ps_if (PW.pt (pw_or (pt_cmpR op_ne (pe_callB call_len (by rfl) (B _ (by decide)) PySem.boot_len (pa_cons (pv 5) pa_nil)) (pe_op op_add (pe_callTy call_int_str (by rfl) (B _ (by decide)) (by decide +kernel) (pa_cons (pv 2) pa_nil)) pe_int) (nomark _)) (pw_or1 (pt_cmpR op_ne (pe_ix ix_str (pv 5) pe_int (fun _ _ => rfl)) pe_str (nomark _))))) (pss_one (ps_ret pe_non)) pss_nil)
    (pss_cons (ps_if (pt_cmpR op_notIn_str (pe_ix ix_str (pv 5) pe_int (fun _ _ => rfl)) pe_str (by rfl)) (pss_one (ps_ret pe_non)) pss_nil)
    (pss_cons (ps_if (pt_cmpR (op_neD (show (A.deeper (envOfC "_law_read" (defScope s__law_read) s.heap.objs.size f cdv)).units + 64 < cLine from by have := hr.un; omega)) (pe_lc (own := [("_law_sign", 3)]) (tt := _) rfl sc__law_read.nd (pi_str (pe_slice sl_str (pv 5) (po_some pe_int) po_none)) (blkOk_by (N := ["_law_line", "_law_some", "_law_head", "_law_sign", "_law_found", "_law_each", "_law_k"]) (sc := defScope s__law_read) (by decide +kernel)) (fun _ _ _ _ _ => (pg_name (i := 3) sc__law_read.nd rfl (Or.inl rfl))) (fun _ _ _ _ _ => (pts_one (pt_cmpR op_notIn_str (pv 3) pe_str (by rfl)))) (fun _ _ _ _ _ => (pv 3))) (pe_lst pa_nil) (nomark _)) (pss_one (ps_ret pe_non)) pss_nil)
    (pss_one (ps_expr (pe_bm PySem.F.plainAttrs_list PySem.F.slot_list_append PySem.F.type_list_append mt_append (pv 4) (pa_cons (pe_tup (pa_cons (pe_ix ix_str (pv 5) pe_int (fun _ _ => rfl)) (pa_cons (pe_callTy call_tuple_of (by rfl) (B _ (by decide)) (by decide +kernel) (pa_cons (pe_lc (own := [("_law_k", 6)]) (tt := _) rfl sc__law_read.nd (pi_range2 rfl (B _ (by decide)) (pa_cons pe_int (pa_cons (pe_callB call_len (by rfl) (B _ (by decide)) PySem.boot_len (pa_cons (pv 5) pa_nil)) pa_nil))) (blkOk_by (N := ["_law_line", "_law_some", "_law_head", "_law_sign", "_law_found", "_law_each", "_law_k"]) (sc := defScope s__law_read) (by decide +kernel)) (fun _ _ _ _ _ => (pg_name (i := 6) sc__law_read.nd rfl (Or.inl rfl))) (fun _ _ _ _ _ => (pts_one (pt_cmpR op_eq (pe_ix ix_str (pv 5) (pv 6) (fun _ _ => rfl)) pe_str (nomark _)))) (fun _ _ _ _ _ => (pe_op op_sub (pv 6) pe_int))) pa_nil)) pa_nil))) pa_nil))))))))
    (pss_cons (ps_if (pt_not (pt_val (pe_callB (cr_all rfl) (by rfl) (B _ (by decide)) (by decide +kernel) (pa_cons (pe_lc (own := [("_law_k", 6)]) (tt := tYes) rfl sc__law_read.nd (pi_range1 rfl (B _ (by decide)) (pa_cons (pe_op op_sub (pe_callB call_len (by rfl) (B _ (by decide)) PySem.boot_len (pa_cons (pv 4) pa_nil)) pe_int) pa_nil)) (blkOk_by (N := ["_law_line", "_law_some", "_law_head", "_law_sign", "_law_found", "_law_each", "_law_k"]) (sc := defScope s__law_read) (by decide +kernel)) (fun _ _ _ _ _ => (pg_name (i := 6) sc__law_read.nd rfl (Or.inl rfl))) (fun _ _ _ _ _ => pts_nil) (fun _ _ _ _ _ => (pe_cmpR op_lt_str (pe_ix (ixTK K) (pe_ix (ixLK K) (pv 4) (pv 6) (fun _ _ => rfl)) pe_int (fun _ _ => rfl)) (pe_ix (ixTK K) (pe_ix (ixLK K) (pv 4) (pe_op op_add (pv 6) pe_int) (fun _ _ => rfl)) pe_int (fun _ _ => rfl)) (nomark _)))) pa_nil)))) (pss_one (ps_ret pe_non)) pss_nil)
    (pss_one (ps_ret (pe_tup (pa_cons (pe_callTy call_int_str (by rfl) (B _ (by decide)) (by decide +kernel) (pa_cons (pv 2) pa_nil)) (pa_cons (pe_callTy call_tuple_of (by rfl) (B _ (by decide)) (by decide +kernel) (pa_cons (pv 4) pa_nil)) pa_nil)))))))))))), fun A H0 ds P hc h => ?_⟩)
  · obtain ⟨z, rfl, _⟩ := h
    rfl
  · obtain ⟨z, rfl, tz, kN, kG⟩ := h
    have zl := tz.len
    obtain ⟨h, t, hs⟩ := split_cons z
    obtain ⟨p1, p2⟩ := split_parts z
    have pc := split_ch tz.ch
    rw [hs] at p1 p2 pc
    have kB : bad h t → P .non := fun b => kN (bad_not hs b)
    have hl : h.length ≤ 9000 := Nat.le_trans (p1 h (List.mem_cons_self ..)) zl
    have hc := pc h (List.mem_cons_self ..)
    have tn : t.length ≤ 9000 := by simp at p2; omega
    have s64 : ∀ m, m ≤ 9000 → m ≤ sizeLine := fun m hm => by rw [sizeLine_eq]; omega
    walk_at "mm"
    refine w_split ?_
    walk_at "mm"
    refine ⟨by decide +kernel, by rw [sizeLine_eq]; omega, ?_⟩
    rw [hs]
    refine ⟨trivial, ?_⟩
    walk_at "mm"
    refine o_ixL (.inl rfl) (atI_nat (j := 0) rfl) fun _ => ?_
    refine ⟨trivial, ?_⟩
    walk_at "mm"
    refine o_eq rfl rfl rfl ?_
    refine ⟨_, rfl, ?_⟩
    refine ite2 (fun c => ?_) (fun c => ?_)
    · have e : V.str h = V.str "" := by simpa using c
      walk_at "mm"
      exact kB (bad_num fun n _ _ nt => nt.ne (by rw [V.str.inj e]; rfl))
    have cE : ¬ h = "" := by simpa using c
    walk_at "mm"
    refine w_lcB ?_
    refine i_str ?_
    walk_at "mm"
    refine ⟨by rw [sgns_len]; omega, outS "0123456789", id, fun i d hi hd => ?_, ?_⟩
    · obtain ⟨c, _, rfl⟩ := List.mem_map.mp (List.mem_of_getElem? hi)
      refine gc_name trivial ?_
      walk_at "mm"
      refine o_notInC ?_
      refine ⟨_, rfl, rfl, fun _ => ?_⟩
      walk_at "mm"
      exact ⟨rfl, trivial⟩
    rw [out_D]
    walk_at "mm"
    refine o_out hc ?_
    refine ⟨_, rfl, ?_⟩
    refine ite2 (fun c => ?_) (fun c => ?_)
    · have e : ¬ outL "0123456789" h = [] := by simpa using c
      walk_at "mm"
      exact kB (bad_num fun n _ _ nt => e (outL_nil.mpr fun c hc => digs_mem.mpr (nt.dg c hc)))
    have e1 : outL "0123456789" h = [] := by simpa using c
    have dg : PySem.NumText.AllDigits h.cps.toList := fun x hx => digs_mem.mp (outL_nil.mp e1 x hx)
    have hne : h.cps.toList ≠ [] := fun e => by
      have q : h = "" := Sp.str_of e
      rw [q] at cE
      exact cE rfl
    walk_at "mm"
    refine c_lenS (s64 _ hl) ?_
    walk_at "mm"
    refine ite2 (fun c => ?_) (fun c => ?_)
    · have c : (5 : Int) < (h.length : Int) := by simpa using c
      walk_at "mm"
      exact kB (bad_num fun n _ _ nt => by have := nt.l5; omega)
    have l5 : (h.length : Int) ≤ 5 := by simpa using c
    refine s_nil ?_
    obtain ⟨c0, r0, e0⟩ : ∃ c0 r0, h.cps.toList = c0 :: r0 := by
      cases q : h.cps.toList with
      | nil => exact (hne q).elim
      | cons a b => exact ⟨a, b, rfl⟩
    generalize hN : PySem.NumText.digitsVal h.cps.toList = N
    have hint : PySem.intText? h = some ((N : Nat) : Int) := by
      rw [← hN]
      exact PySem.intText_digits dg hne (by rw [← Array.length_toList] at *; omega)
    have z1 : ∀ n, NumT n h → n = (N : Int) := fun n nt => by rw [← nt.vl, hN]
    refine s_seq (s_if (w_or (wt_mono (PB := fun b => (b = true → bad h t) ∧ (b = false → (h.cps.toList.head? = some 48 → h.cps.toList = [48]))) ?_ fun b hb => ?_)))
    · walk_at "mm"
      refine o_ixS (s64 _ hl) (atI_nat (j := 0) (by rw [e0]; rfl)) ?_
      walk_at "mm"
      refine o_eq rfl rfl rfl ?_
      refine ⟨_, rfl, ?_⟩
      rw [show ("0" : Str) = ⟨#[48]⟩ by decide +kernel, one_eq]
      refine ite2 (fun c => ?_) (fun c => ?_)
      · have c : c0 = 48 := by simpa using c
        subst c
        walk_at "mm"
        refine o_ne rfl rfl rfl ?_
        refine ⟨_, rfl, ?_, ?_⟩
        · intro q
          have q : ¬ h = ⟨#[48]⟩ := by simpa using q
          exact bad_num fun n _ _ nt => q ((nt.hd (by rw [e0]; rfl)).trans (by decide +kernel))
        · intro q _
          have q : h = ⟨#[48]⟩ := by simpa using q
          rw [q]
      · have c : ¬ c0 = 48 := by simpa using c
        refine ⟨(fun q => nomatch q), fun _ q => ?_⟩
        rw [e0] at q
        exact (c (Option.some.inj q)).elim
    obtain ⟨hb1, hb2⟩ := hb
    cases b with
    | true =>
      walk_at "mm"
      exact kB (hb1 rfl)
    | false =>
    have hz := hb2 rfl
    walk_at "mm"
    refine c_intS hint (by omega) ?_
    walk_at "mm"
    refine ite2 (fun c => ?_) (fun c => ?_)
    · have c : (10000 : Int) < (N : Int) := by simpa using c
      walk_at "mm"
      exact kB (bad_num fun n n0 n1 nt => by have := z1 n nt; omega)
    have n1 : (N : Int) ≤ 10000 := by simpa using c
    have eh : h = (toString ((N : Nat) : Int) : Str) := by
      rw [← hN]
      exact (Sp.head_back dg hne hz).symm
    refine s_nil ?_
    refine s_seq (s_setCell (n_lst ?_))
    refine w_nil ⟨by rw [sizeLine_eq]; decide, cl_nil, ?_⟩
    refine s_seq (s_for (i_list ?_))
    walk_at "mm"
    refine u_slL (.inl rfl) ?_
    refine ⟨t.map .str, by rw [List.map_cons, cutD_tail], ?_⟩
    refine ⟨fun i ρ => ∃ z3 z5 z6 : Option D, (∀ l ∈ t.take i, Sp.lineOk N l) ∧ ρ = [some (.str z), some (.lst ((h :: t).map .str)), some (.str h), z3, some (.cell 4 (((t.take i).map Sp.lrow).map rowD)), z5, z6], ⟨_, _, _, (by simp), rfl⟩, ?_, ?_⟩
    · rintro i d ρ hi hd ⟨z3, z5, z6, ok, rfl⟩
      rw [List.getElem?_map] at hi
      obtain ⟨l, hli, rfl⟩ := Option.map_eq_some_iff.mp hi
      have ml := List.mem_of_getElem? hli
      have ll : l.length ≤ 9000 := Nat.le_trans (p1 l (List.mem_cons_of_mem _ ml)) zl
      have lc := pc l (List.mem_cons_of_mem _ ml)
      have il := (List.getElem?_eq_some_iff.mp hli).1
      refine g_name trivial ?_
      refine s_seq (s_if (wt_mono (PB := fun b => (b = true → bad h t) ∧ (b = false → ∃ a m, l.cps.toList = a :: 32 :: m ∧ m.length = N)) ?_ fun b hb => ?_))
      · refine w_or ?_
        walk_at "mm"
        refine c_lenS (s64 _ ll) ?_
        walk_at "mm"
        refine c_intS hint (by omega) ?_
        walk_at "mm"
        refine o_ne rfl rfl rfl ?_
        refine ⟨_, rfl, ?_⟩
        refine ite2 (fun c => ?_) (fun c => ?_)
        · have c : ¬ V.int (l.length : Int) = V.int ((N : Int) + 2) := by simpa using c
          refine ⟨fun _ => bad_line ml fun n nt ⟨a, m, e, _, _, hm, _⟩ => c ?_, fun q => nomatch q⟩
          have := z1 n nt
          have := str_len e
          congr 1
          simp at this
          omega
        have c : V.int (l.length : Int) = V.int ((N : Int) + 2) := by simpa using c
        have c := V.int.inj c
        obtain ⟨a, b, m, e⟩ : ∃ a b m, l.cps.toList = a :: b :: m := by
          have q := str_len (z := l) rfl
          rcases e : l.cps.toList with _ | ⟨a, _ | ⟨b, m⟩⟩
          · rw [e] at q
            simp at q
            omega
          · rw [e] at q
            simp at q
            omega
          · exact ⟨a, b, m, rfl⟩
        have lm : m.length = N := by
          have := str_len e
          simp at this
          omega
        walk_at "mm"
        refine o_ixS (s64 _ ll) (atI_nat (j := 1) (by rw [e]; rfl)) ?_
        walk_at "mm"
        refine o_ne rfl rfl rfl ?_
        rw [show (" " : Str) = ⟨#[32]⟩ by decide +kernel, one_eq]
        refine ⟨_, rfl, fun q => ?_, fun q => ?_⟩
        · have q : ¬ b = 32 := by simpa using q
          refine bad_line ml fun n nt ⟨a2, m2, e2, _⟩ => q ?_
          rw [e] at e2
          injection e2 with _ e2
          injection e2 with e2 _
        · have q : b = 32 := by simpa using q
          subst q
          exact ⟨a, m, e, lm⟩
      obtain ⟨hb1, hb2⟩ := hb
      cases b with
      | true =>
        walk_at "mm"
        exact kB (hb1 rfl)
      | false =>
      obtain ⟨a, m, e, lm⟩ := hb2 rfl
      refine iteF ?_
      refine s_nil ?_
      walk_at "mm"
      refine o_ixS (s64 _ ll) (atI_nat (j := 0) (by rw [e]; rfl)) ?_
      walk_at "mm"
      refine o_notInC ?_
      refine ⟨_, rfl, ?_⟩
      refine ite2 (fun c => ?_) (fun c => ?_)
      · have c : ¬ a ∈ alphS.cps.toList := by simpa using c
        walk_at "mm"
        refine kB (bad_line ml fun n nt ⟨a2, m2, e2, g1, g2, _⟩ => c ?_)
        rw [e] at e2
        injection e2 with e2 _
        subst e2
        exact alph_mem.mpr ⟨g1, g2⟩
      have ca : a ∈ alphS.cps.toList := by simpa using c
      obtain ⟨a1, a2⟩ := alph_mem.mp ca
      refine s_nil ?_
      have ce := Sp.cutS_from2 e
      walk_at "mm"
      refine w_lcB ?_
      refine i_str ?_
      walk_at "mm"
      refine u_slS (s64 _ ll) ?_
      refine ⟨_, rfl, ?_⟩
      refine ⟨by rw [sgns_len]; exact Nat.lt_of_le_of_lt (cutS_len _ _ _) (by omega), outS "#.", id, fun i d hi hd => ?_, ?_⟩
      · obtain ⟨c, _, rfl⟩ := List.mem_map.mp (List.mem_of_getElem? hi)
        refine gc_name trivial ?_
        walk_at "mm"
        refine o_notInC ?_
        refine ⟨_, rfl, rfl, fun _ => ?_⟩
        walk_at "mm"
        exact ⟨rfl, trivial⟩
      rw [out_D]
      walk_at "mm"
      have tc : Tx 9000 l := ⟨ll, lc⟩
      refine o_out (tc.cut _ _).ch ?_
      refine ⟨_, rfl, ?_⟩
      refine ite2 (fun c => ?_) (fun c => ?_)
      · have c : ¬ outL "#." (cutS l (some 2) none) = [] := by simpa using c
        walk_at "mm"
        refine kB (bad_line ml fun n nt ⟨a2, m2, e2, _, _, _, hm⟩ => c (outL_nil.mpr fun x hx => two_mem.mpr ?_))
        rw [e] at e2
        injection e2 with _ e2
        injection e2 with _ e2
        subst e2
        rw [ce] at hx
        exact hm x hx
      have e3 : outL "#." (cutS l (some 2) none) = [] := by simpa using c
      have hm : ∀ x ∈ m, x = 35 ∨ x = 46 := fun x hx => two_mem.mp (outL_nil.mp e3 x (by rw [ce]; exact hx))
      refine s_nil ?_
      refine s_app (i := 4) rfl (by simp; omega) ?_
      walk_at "mm"
      refine o_ixS (s64 _ ll) (atI_nat (j := 0) (by rw [e]; rfl)) ?_
      walk_at "mm"
      refine w_lcB ?_
      refine i_rng2 ?_
      walk_at "mm"
      refine c_lenS (s64 _ ll) ?_
      walk_at "mm"
      have lenl : (l.length : Int) = (N : Int) + 2 := by
        have := str_len e
        simp at this
        omega
      refine ⟨2, (l.length : Int), rfl, by omega, ?_⟩
      rw [lenl, show ((N : Int) + 2 - 2).toNat = m.length by omega]
      refine ⟨by rw [rngD_len]; omega, shB l, sub2, fun i d hi hd => ?_, ?_⟩
      · obtain ⟨im, rfl⟩ := rngD_get hi
        have hx : l.cps.toList[i + 2]? = some (m[i]) := by
          rw [e]
          show m[i]? = _
          exact List.getElem?_eq_getElem im
        refine gc_name trivial ?_
        walk_at "mm"
        refine o_ixS (c := m[i]) (s64 _ ll) (by
          rw [show (2 + (i : Int)) = ((i + 2 : Nat) : Int) by omega]
          exact atI_nat hx) ?_
        walk_at "mm"
        refine o_eq rfl rfl rfl ?_
        refine ⟨_, rfl, ?_, fun _ => ?_⟩
        · show _ = decide (V.str ⟨#[l.cps.toList.getD (2 + (i : Int)).toNat 0]⟩ = V.str "#")
          rw [show (2 + (i : Int)).toNat = i + 2 by omega, List.getD_eq_getElem?_getD, hx]
          rfl
        · walk_at "mm"
          exact ⟨rfl, trivial⟩
      rw [shB_D e]
      walk_at "mm"
      refine c_tuple (.inl (.inl rfl)) ?_
      walk_at "mm"
      refine ⟨trivial, z3, some (.str l), z6, fun x hx => ?_, ?_⟩
      rotate_right
      · rw [List.take_add_one, hli]
        simp only [List.set_cons_succ, List.set_cons_zero, Option.toList, List.map_append, List.map_cons, List.map_nil]
        rw [show rowD (Sp.lrow l) = .tup [.str ⟨#[a]⟩, .tup ((Sp.marked ⟨m.toArray⟩ m.length).map .int)] from by
          unfold Sp.lrow rowD
          rw [Sp.cutS_to1 e, ce]
          rfl]
      · rw [List.take_add_one, hli] at hx
        rcases List.mem_append.mp hx with hx | hx
        · exact ok x hx
        · rw [List.mem_singleton.mp hx]
          exact ⟨a, m, e, a1, a2, by omega, hm⟩
    · rintro ρ ⟨z3, z5, z6, ok, rfl⟩
      rw [List.length_map, List.take_length] at ok
      rw [List.length_map, List.take_length]
      refine s_freeze (i := 4) rfl ?_
      walk_at "mm"
      refine w_lcI ?_
      refine i_rng1 ?_
      walk_at "mm"
      refine c_lenA (.inl (.inl rfl)) ?_
      walk_at "mm"
      have lT : ((t.map Sp.lrow).map rowD).length = t.length := by simp
      have lu : (upV (((t.map Sp.lrow).map (·.1)).map V.str)).length = t.length - 1 := by
        rw [upV_len]
        simp
      refine ⟨by rw [lT]; omega, by rw [rngD_len, lT]; omega, (upV (((t.map Sp.lrow).map (·.1)).map V.str)).map D.bl, by rw [List.length_map, lu, rngD_len, lT]; omega, fun i d hi hd => ?_, ?_⟩
      · obtain ⟨im, rfl⟩ := rngD_get hi
        rw [lT] at im
        have q1 : t[i]? = some t[i] := List.getElem?_eq_getElem (by omega)
        have q2 : t[i + 1]? = some t[i + 1] := List.getElem?_eq_getElem (by omega)
        have g1 : ((t.map Sp.lrow).map rowD)[i]? = some (rowD (Sp.lrow t[i])) := by simp [q1]
        have g2 : ((t.map Sp.lrow).map rowD)[i + 1]? = some (rowD (Sp.lrow t[i + 1])) := by simp [q2]
        refine gc_name trivial ?_
        walk_at "mm"
        refine o_ixL (.inl rfl) (by rw [Int.zero_add]; exact atI_nat g1) fun _ => ?_
        walk_at "mm"
        refine o_ixL (.inl rfl) (by rw [Int.zero_add]; exact atI_nat g2) fun _ => ?_
        walk_at "mm"
        refine ⟨?_, trivial⟩
        rw [List.getElem?_map, upV_get (a := (Sp.lrow t[i]).1) (b := (Sp.lrow t[i + 1]).1) (by simp [q1]) (by simp [q2])]
        rfl
      walk_at "mm"
      refine c_all (.inl rfl) ?_
      have eu : ((t.map Sp.lrow).map fun r => V.str r.1) = ((t.map Sp.lrow).map (·.1)).map V.str := by
        rw [List.map_map (g := V.str)]
        rfl
      walk_at "mm"
      cases up : (upV (((t.map Sp.lrow).map (·.1)).map V.str)).all id with
      | false =>
        walk_at "mm"
        exact kB (bad_up (by rw [eu]; exact up))
      | true =>
        walk_at "mm"
        refine c_intS hint (by omega) ?_
        walk_at "mm"
        refine c_tuple (.inl (.inl rfl)) ?_
        walk_at "mm"
        obtain ⟨g, e⟩ := Sp.good_of hs eh (by omega) n1 ok (by rw [eu]; exact up)
        exact kG _ _ g e
end
end Dl
set_option Elab.async false
set_option linter.all false
set_option maxRecDepth 100000
set_option maxHeartbeats 4000000
namespace Dl
open PySem PySem.Spec PyProof.Rows L2 Sp RZ
local macro_rules | `(tactic| walk_at "dd1") => `(tactic| first
  | ((with_reducible refine' w_var ?hv ?hk); (case hv => exact rfl))
  | with_reducible refine w_int ?_
  | with_reducible refine w_str ?_
  | with_reducible refine w_bl ?_
  | with_reducible refine w_non ?_
  | with_reducible refine w_ty ?_
  | with_reducible refine w_raw ?_
  | with_reducible refine w_nil ?_
  | with_reducible refine w_cons ?_
  | with_reducible refine w_cb ?_
  | with_reducible refine w_op ?_
  | with_reducible refine w_un ?_
  | with_reducible refine w_andV ?_
  | with_reducible refine w_orV ?_
  | with_reducible refine w_notV ?_
  | with_reducible refine w_if ?_
  | with_reducible refine w_and ?_
  | with_reducible refine w_or ?_
  | with_reducible refine w_not ?_
  | with_reducible refine w_test ?_
  | with_reducible refine w_tb ?_
  | with_reducible refine w_chain ?_
  | with_reducible refine w_tup ?_
  | with_reducible refine w_lst ?_
  | with_reducible refine w_sl ?_
  | with_reducible refine p_none ?_
  | with_reducible refine p_some ?_
  | with_reducible refine w_call ?_
  | with_reducible refine s_seq ?_
  | with_reducible refine s_nil ?_
  | with_reducible refine s_ret ?_
  | with_reducible refine s_if ?_
  | with_reducible refine s_set ?_
  | with_reducible refine s_drop ?_
  | with_reducible refine s_brk ?_
  | with_reducible refine s_cont ?_
  | with_reducible refine s_asg ?_
  | with_reducible refine o_int ?_
  | with_reducible refine o_cmp ?_
  | with_reducible refine o_ltS ?_
  | with_reducible refine o_leS ?_
  | with_reducible refine o_neg ?_
  | with_reducible refine c_int ?_
  | with_reducible refine c_intB ?_
  | with_reducible refine c_abs ?_
  | with_reducible refine t_yes ?_
  | refine ⟨_, rfl, ?_⟩
  | with_reducible refine ⟨trivial, ?_⟩
  | refine iteT ?_
  | refine iteF ?_)
local macro_rules | `(tactic| walk_at "dd") => `(tactic| repeat (walk_at "dd1"))
local macro_rules | `(tactic| walk_at "cln") => `(tactic| repeat (first | exact cl_nil | refine cl_cons (by first | assumption | trivial) ?_))
local macro_rules | `(tactic| walk_at "mm") => `(tactic| repeat (first
  | with_reducible refine w_dnew ?_
  | with_reducible refine w_disp1 ?_
  | refine o_intC (show CPow _ _ from ⟨by decide, by decide, by decide⟩) ?_
  | walk_at "dd1"
  | refine c_list (.inr rfl) ?_
  | refine o_catT (by rw [sizeLine_eq]; simp <;> omega) ?_
  | refine u_slT ?_
  | refine o_ixT rfl fun _ => ?_
  | refine ⟨by rw [sizeLine_eq]; simp <;> omega, by walk_at "cln", ?_⟩))
/-- what is no text -/
structure OddT (Cp : Addr) (d : D) : Prop where
  cl : Clean d
  fz : frz d = d
  tg : Thg Cp d
  ns : isStrD d = false
  sh : ∃ s, RokX Cp d s ∧ Ch s
theorem Th.cl {m k : Nat} {d : D} (h : Th m k d) : Clean d ∧ frz d = d := by
  have z := h.lv
  cases d <;> first | exact ⟨trivial, rfl⟩ | (simp [lvD] at z)
theorem oddT_th {Cp : Addr} {d : D} (h : Th 300 2 d) (ns : isStrD d = false) : OddT Cp d := by
  obtain ⟨p, rk, e⟩ := (h.sh (by omega) (by omega)).rok
  refine ⟨h.cl.1, h.cl.2, .p ?_, ns, p.shown, .r rk, by rw [e]; exact ch_sh h.lv⟩
  have z := h.lv
  cases d <;> first | rfl | (simp [lvD] at z)
theorem oddT_plan {Cp : Addr} {rs : List (Str × List Int)} {n : Int} (n0 : 0 ≤ n) (n1 : n ≤ 10000) : OddT Cp (planD Cp n rs) :=
  ⟨trivial, rfl, .o, rfl, _, .o n0 n1, by
    unfold Sp.reprS
    intro c hc
    rw [PySem.Str.cps_append, PySem.Str.cps_append, Array.toList_append, Array.toList_append, List.mem_append, List.mem_append] at hc
    rcases hc with (hc | hc) | hc
    · exact ch_of _ c hc
    · exact ch_num n n0 c hc
    · exact ch_of _ c hc⟩
theorem o_menu {C : Cxt} {P : D → Prop} {xs : List D} {r : Int} (h0 : 0 ≤ r) (h1 : r < (xs.length : Int)) (k : ∀ d ∈ xs, Clean d → frz d = d → P d) : OpD C (rIxL C.K) (.lst xs) (.int r) P := by
  obtain ⟨d, q1, q2⟩ := menu_at h0 h1
  exact o_ixL (.inl rfl) q1 fun cd => k d q2 cd (by cases d <;> first | rfl | exact cd.elim)
section
variable {C : Cxt} {ρ : Rho} {P : D → Prop} {Cp : Addr} {Ce : Nat → Addr} {tr : TA} {E : XK}
theorem w_make1 {uA : Addr} (hU : ∀ H, SqT C.K H uA []) (h : WA C tr ρ fun ds => ∃ n, ds = [.int n] ∧ 0 ≤ n ∧ n ≤ 10000 ∧ P (planD Cp n [])) : WE C (tMake Cp (spPI C.K Cp Ce) [.ref uA] E tr) ρ P := fun cs H σ r Q q =>
  h cs H σ r _ fun vs ds H1 k1 o1 hp ⟨n, e, n0, n1, pd⟩ => by
    subst e
    obtain ⟨vx, rfl, hx⟩ := vals1 hp
    have g1 := r.good.step k1 o1
    intro a dx na nd ne
    have ok : planErr (.int n) (.tup (([] : List (Str × List Int)).map rowD)) = none := by
      unfold planErr
      dsimp only
      rw [if_pos (show isIntF (.int n) 0 10000 = true from by
        show (decide (0 ≤ n) && decide (n ≤ 10000)) = true
        rw [decide_eq_true n0, decide_eq_true n1]
        rfl), if_pos (show areRowsF (.tup (([] : List (Str × List Int)).map rowD)) n = true from rfl)]
    exact made_planE g1.hocc ok (pl_rowsW (fun r hr => nomatch hr) (by decide)) na nd ne (hx.dt trivial) (.tup (hU _) .nil) fun H' s hd => q _ _ H' (k1.trans (.same s)) (o1.same s) (.c hd) pd
end
theorem tx_joinT {m : Nat} {ls : List Str} (h : ∀ l ∈ ls, Tx m l) : Tx (ls.length * (m + 1)) (Txt.join "\n" ls) := by
  unfold Txt.join
  rw [StrLaws.glued_eq_join]
  exact tx_join h
theorem sum_le {m : Nat} : ∀ {ls : List Str}, (∀ l ∈ ls, Tx m l) → (ls.map (·.length)).sum ≤ ls.length * m
  | [], _ => Nat.zero_le _
  | l :: ls, h => by
    have a := (h l (List.mem_cons_self ..)).len
    have b := sum_le fun x hx => h x (List.mem_cons_of_mem _ hx)
    simp only [List.map_cons, List.sum_cons, List.length_cons]
    rw [Nat.succ_mul]
    omega
section
variable {P : Program} {w : World} {K : PySem.W.Frag} {mg : Str → Option Value} {base : Heap} {Cp : Addr} {Ce : Nat → Addr}
/-- how Plan is made, of a size alone too -/
structure MkPl (P : Program) (w : World) (K : PySem.W.Frag) (mg : Str → Option Value) (base : Heap) (Cp : Addr) (Ce : Nat → Addr) (uA : Addr) : Prop where
  gP : mg "Plan" = some (.ref Cp)
  mkr : ∃ fI fdI, Mk K Cp fI ∧ FnOk P w K mg base (L2.CX P w) 4 fI fdI ["self", "size", "rows"] (spPI K Cp Ce) ∧ ∃ ds, Vals [V.ref uA] ds ∧ Binds K fdI ["self", "size", "rows"] ds
  emp : ∀ H, SqT K H uA []
abbrev s__law_changed : Stmt := top 43
theorem sc__law_changed : FnScope ["_law_purse_here", "_law_wide", "_law_drawn", "_law_line", "_law_way", "_law_menu", "_law_heads"] ["_law_purse_here", "_law_wide", "_law_drawn"] (defScope s__law_changed) := ⟨rfl, rfl, rfl, by decide +kernel, rfl, by decide +kernel, by decide +kernel⟩
def g_changed (Cp : Addr) : GD := fun ds P => ∃ (n : Int) (rs : List (Str × List Int)), ds = [.int n, .tup (rs.map rowD)] ∧ RowsG n rs ∧ 0 ≤ n ∧ n ≤ 9 ∧ (∀ y, Tx 1000 y → P (.str y)) ∧ ∀ d, OddT Cp d → P d
theorem d_changed {uA fPt : Addr} {fdPt : FuncData} (F : Fd K mg "_law_changed" s__law_changed) (B : Bt mg) (M : MkPl P w K mg base Cp Ce uA)
    (GPt : FnOk P w K mg base CX0 2 fPt fdPt ["_law_wide", "_law_drawn"] (Sp.spPlanText K)) (gPt : mg "_law_plan_text" = some (.ref fPt)) (kPt : PySem.W.keepIn K (.ref fPt) = true) (bPt : Binds K fdPt ["_law_wide", "_law_drawn"] [])
    (D_roll : Df P w K mg base "_law_roll" 1 ["_law_purse_here", "_law_many"] (spQ K pmP g_roll)) (D_spoilt : Df P w K mg base "_law_spoilt" 2 ["_law_purse_here", "_law_line"] (spQ K pmP g_spoilt)) : Df P w K mg base "_law_changed" 7 ["_law_purse_here", "_law_wide", "_law_drawn"] (spQ K pmP (g_changed Cp)) := by
  obtain ⟨fI, fdI, MK, FI, dsU, vU, bU⟩ := M.mkr
  have gP := M.gP
  refine df_Q pmP_p F sc__law_changed (fun _ _ _ _ _ _ us hl => match us, hl with | [_, _, _], _ => rfl) (fun ds P h => ?_) (fun f cdv A outer s H E hr => ⟨_, (pss_cons (ps_par (i := 3) (j := 4) (by rfl) sc__law_changed.nd rfl rfl (by decide) rfl rfl (pa_cons (pe_call GPt (hr.mono (by decide)) rfl gPt kPt bPt .nil pass0 (pa_cons (pv 1) (pa_cons (pv 2) pa_nil))) (pa_cons (pe_df D_roll (hr.mono (by decide)) (pa_cons (pv 0) (pa_cons pe_int pa_nil))) pa_nil)) (by rfl))
    (pss_cons (ps_if (pt_cmpR op_eq (pv 4) pe_int (nomark _)) (pss_cons (ps_set (i := 5) sc__law_changed.nd rfl (Or.inl rfl) (pe_lst (pa_cons pe_non (pa_cons pe_int (pa_cons pe_bl (pa_cons (pe_tup pa_nil) (pa_cons (pe_lst (pa_cons pe_str pa_nil)) (pa_cons (pe_disp (pps_cons pe_str pe_int pps_nil) (by rfl) (by rfl) (fun z => by cases z) (by decide)) (pa_cons (pe_make (E := fun _ _ _ => False) MK FI (hr.mono (by decide)) rfl gP bU vU (L2.passes_call (L2.takes0 (X := (cxOf CX0 P w K mg base ["_law_purse_here", "_law_wide", "_law_drawn", "_law_line", "_law_way", "_law_menu", "_law_heads"] "_law_changed" (defScope s__law_changed) f cdv A outer s H E).nox)) fun _ _ _ _ h => h) (pa_cons pe_int pa_nil)) (pa_cons (pe_tup (pa_cons pe_str pa_nil)) (pa_cons pe_int (pa_cons pe_bl (pa_cons (pe_lst (pa_cons (pv 3) pa_nil)) (pa_cons (pe_tup (pa_cons (pv 3) pa_nil)) pa_nil))))))))))))))
    (pss_one (ps_ret (pe_ix (ixLK K) (pv 5) (pe_df D_roll (hr.mono (by decide)) (pa_cons (pv 0) (pa_cons pe_int pa_nil))) (fun _ _ => rfl))))) pss_nil)
    (pss_cons (ps_if (pt_cmpR op_eq (pv 4) pe_int (nomark _)) (pss_cons (ps_set (i := 6) sc__law_changed.nd rfl (Or.inl rfl) (pe_lst (pa_cons (pe_op op_add_str pe_str (pe_callTy call_str_int (by rfl) (B _ (by decide)) (by decide +kernel) (pa_cons (pv 1) pa_nil))) (pa_cons (pe_op op_add_str pe_str (pe_callTy call_str_int (by rfl) (B _ (by decide)) (by decide +kernel) (pa_cons (pv 1) pa_nil))) (pa_cons (pe_op op_add_str pe_str (pe_callTy call_str_int (by rfl) (B _ (by decide)) (by decide +kernel) (pa_cons (pv 1) pa_nil))) (pa_cons (pe_op op_add_str (pe_callTy call_str_int (by rfl) (B _ (by decide)) (by decide +kernel) (pa_cons (pv 1) pa_nil)) pe_str) (pa_cons (pe_op op_add_str pe_str (pe_callTy call_str_int (by rfl) (B _ (by decide)) (by decide +kernel) (pa_cons (pv 1) pa_nil))) (pa_cons pe_str pa_nil))))))))
    (pss_cons (ps_set (i := 6) sc__law_changed.nd rfl (Or.inl rfl) (pe_op op_cat (pv 6) (pe_lst (pa_cons pe_str (pa_cons pe_str (pa_cons (pe_op op_add_str pe_str (pe_op op_mulS pe_str pe_int)) (pa_cons pe_str (pa_cons (pe_op op_add_str (pe_callTy call_str_int (by rfl) (B _ (by decide)) (by decide +kernel) (pa_cons (pv 1) pa_nil)) pe_str) (pa_cons (pe_callTy call_str_int (by rfl) (B _ (by decide)) (by decide +kernel) (pa_cons (pe_op op_add (pv 1) pe_int) pa_nil)) (pa_cons pe_str (pa_cons pe_str pa_nil)))))))))))
    (pss_one (ps_ret (pe_join pe_str (pe_op op_cat (pe_lst (pa_cons (pe_ix (ixLK K) (pv 6) (pe_df D_roll (hr.mono (by decide)) (pa_cons (pv 0) (pa_cons pe_int pa_nil))) (fun _ _ => rfl)) pa_nil)) (pe_slice sl_list (pe_split (pv 3) pe_str) (po_some pe_int) po_none))))))) pss_nil)
    (pss_cons (ps_if (pt_cmpR op_eq (pv 4) pe_int (nomark _)) (pss_one (ps_ret (pe_op op_add_str (pv 3) (pe_ix (ixLK K) (pe_lst (pa_cons pe_str (pa_cons pe_str (pa_cons pe_str (pa_cons pe_str (pa_cons pe_str (pa_cons (pe_op op_add_str pe_str (pe_op op_mulS pe_str (pv 1))) (pa_cons pe_str pa_nil)))))))) (pe_df D_roll (hr.mono (by decide)) (pa_cons (pv 0) (pa_cons pe_int pa_nil))) (fun _ _ => rfl))))) pss_nil)
    (pss_cons (ps_set (i := 3) sc__law_changed.nd rfl (Or.inl rfl) (pe_df D_spoilt (hr.mono (by decide)) (pa_cons (pv 0) (pa_cons (pv 3) pa_nil))))
    (pss_one (ps_ret (pe_ifExp (pt_cmpR op_lt (pv 4) pe_int (nomark _)) (pv 3) (pe_df D_spoilt (hr.mono (by decide)) (pa_cons (pv 0) (pa_cons (pv 3) pa_nil))))))))))), fun p A H0 ds P hc h => ?_⟩)
  · obtain ⟨n, rs, rfl, _⟩ := h
    rfl
  · obtain ⟨n, rs, rfl, ok, n0, n9, kS, kO⟩ := h
    have gd := ok.good n0 (by omega)
    have tp := tx_plan gd n9 ok.fit
    generalize ez : Sp.planS n rs = z at tp
    have zs : z.length ≤ sizeLine := by have := tp.len; rw [sizeLine_eq]; omega
    refine s_seq (s_par ?_)
    refine w_cons ?_
    refine w_ptext ?_
    walk_at "mm"
    refine ⟨n, rs, rfl, ok, n0, by omega, ?_⟩
    rw [ez]
    refine w_cons ?_
    refine w_callQ ⟨p, rfl, rfl⟩ ?_
    walk_at "mm"
    refine ⟨by walk_at "cln", _, rfl, by decide, by decide, fun way way0 way1 => ?_⟩
    refine w_nil ⟨_, _, rfl, trivial, trivial, ?_⟩
    refine s_seq (s_if ?_)
    walk_at "mm"
    refine o_eq rfl rfl rfl ?_
    refine ⟨_, rfl, ?_⟩
    refine ite2 (fun _ => ?_) (fun _ => ?_)
    · walk_at "mm"
      refine w_make1 M.emp ?_
      walk_at "mm"
      refine ⟨by decide, by decide, ?_⟩
      have cp : Clean (planD Cp 2 []) := trivial
      walk_at "mm"
      refine ⟨trivial, ?_⟩
      walk_at "mm"
      refine w_callQ ⟨p, rfl, rfl⟩ ?_
      walk_at "mm"
      refine ⟨by walk_at "cln", _, rfl, by decide, by decide, fun r r0 r1 => ?_⟩
      refine o_menu r0 (by simp; omega) fun d hd cd fz => ?_
      rw [fz]
      refine ⟨cd, kO d ?_⟩
      have tz : Th 100 0 (.str z) := ⟨by simp only [lvD, List.all_eq_true, decide_eq_true_eq]; exact tp.ch, by have := tp.len; simp only [wtD]; omega, by simp [dpD], .inl (by simp [noL])⟩
      simp only [List.mem_cons, List.not_mem_nil, or_false] at hd
      rcases hd with rfl | rfl | rfl | rfl | rfl | rfl | rfl | rfl | rfl | rfl | rfl | rfl <;> first | exact oddT_plan (by decide) (by decide) | exact oddT_th ⟨by decide +kernel, by decide +kernel, by decide +kernel, by decide +kernel⟩ rfl | skip
      · exact oddT_th ⟨by have := tz.lv; simp only [lvD, lvDs, Bool.and_true] at this ⊢; exact this, by have := tp.len; simp only [wtD, wtDs]; omega, by simp [dpD, dpDs], by simp [noL, noDi, noDis]⟩ rfl
      · exact oddT_th ⟨by have := tz.lv; simp only [lvD, lvDs, Bool.and_true] at this ⊢; exact this, by have := tp.len; simp only [wtD, wtDs]; omega, by simp [dpD, dpDs], by simp [noL, noDi, noDis]⟩ rfl
    refine s_nil ?_
    refine s_seq (s_if ?_)
    walk_at "mm"
    refine o_eq rfl rfl rfl ?_
    refine ⟨_, rfl, ?_⟩
    refine ite2 (fun _ => ?_) (fun _ => ?_)
    · have tn : Tx 5 (toString n : Str) := tx_num n0 (by omega)
      have tn1 : Tx 5 (toString (n + 1) : Str) := tx_num (by omega) (by omega)
      have cat : ∀ {a b : Nat} {x y : Str}, Tx a x → Tx b y → a + b ≤ 5000 → x.length + y.length ≤ sizeLine := fun {a b x y} h g l => by
        have := h.len
        have := g.len
        rw [sizeLine_eq]
        omega
      have of1 : ∀ s : String, (Str.ofString s).length ≤ 1 → Tx 1 (Str.ofString s) := fun s h => Tx.of s 1 h
      have t0 : Tx 1 ("0" : Str) := of1 _ (by decide +kernel)
      have t1 : Tx 1 ("+" : Str) := of1 _ (by decide +kernel)
      have t2 : Tx 1 ("-" : Str) := of1 _ (by decide +kernel)
      have t3 : Tx 1 (" " : Str) := of1 _ (by decide +kernel)
      have t4 : Tx 1 ("1" : Str) := of1 _ (by decide +kernel)
      have t5 : Tx 1 ("." : Str) := of1 _ (by decide +kernel)
      have t6 : Tx 38 (repS "0" 38) := Tx.rep t0.ch (by decide +kernel) (by decide) (by decide)
      walk_at "mm"
      refine c_strI (Sp.log_fit n0 (by omega)) ?_
      refine o_addS (cat t0 tn (by omega)) ?_
      walk_at "mm"
      refine c_strI (Sp.log_fit n0 (by omega)) ?_
      refine o_addS (cat t1 tn (by omega)) ?_
      walk_at "mm"
      refine c_strI (Sp.log_fit n0 (by omega)) ?_
      refine o_addS (cat t2 tn (by omega)) ?_
      walk_at "mm"
      refine c_strI (Sp.log_fit n0 (by omega)) ?_
      walk_at "mm"
      refine o_addS (cat tn t3 (by omega)) ?_
      walk_at "mm"
      refine c_strI (Sp.log_fit n0 (by omega)) ?_
      refine o_addS (cat t3 tn (by omega)) ?_
      walk_at "mm"
      refine ⟨trivial, ?_⟩
      walk_at "mm"
      refine o_mulS (by decide) (by decide) (by decide +kernel) ?_
      refine o_addS (cat t4 t6 (by omega)) ?_
      walk_at "mm"
      refine c_strI (Sp.log_fit n0 (by omega)) ?_
      walk_at "mm"
      refine o_addS (cat tn t5 (by omega)) ?_
      walk_at "mm"
      refine c_strI (Sp.log_fit (by omega) (by omega)) ?_
      walk_at "mm"
      refine o_cat (.inl rfl) (.inl rfl) (by rw [sizeLine_eq]; simp) ?_
      refine ⟨trivial, ?_⟩
      have hh : ∀ d ∈ ([D.str ("0" ++ (toString n : Str)), D.str ("+" ++ (toString n : Str)), D.str ("-" ++ (toString n : Str)), D.str ((toString n : Str) ++ " "), D.str (" " ++ (toString n : Str)), D.str ""] ++ [D.str "10001", D.str "10000", D.str ("1" ++ repS "0" 38), D.str "-0", D.str ((toString n : Str) ++ "."), D.str (toString (n + 1) : Str), D.str "00", D.str "0"]), ∃ y, d = .str y ∧ Tx 60 y := fun d hd => by
        have o9 : ∀ s : String, (Str.ofString s).length ≤ 60 → Tx 60 (Str.ofString s) := fun s h => Tx.of s 60 h
        simp only [List.cons_append, List.nil_append, List.mem_cons, List.not_mem_nil, or_false] at hd
        rcases hd with rfl | rfl | rfl | rfl | rfl | rfl | rfl | rfl | rfl | rfl | rfl | rfl | rfl | rfl
        · exact ⟨_, rfl, (t0.add tn).mono (by omega)⟩
        · exact ⟨_, rfl, (t1.add tn).mono (by omega)⟩
        · exact ⟨_, rfl, (t2.add tn).mono (by omega)⟩
        · exact ⟨_, rfl, (tn.add t3).mono (by omega)⟩
        · exact ⟨_, rfl, (t3.add tn).mono (by omega)⟩
        · exact ⟨_, rfl, o9 _ (by decide +kernel)⟩
        · exact ⟨_, rfl, o9 _ (by decide +kernel)⟩
        · exact ⟨_, rfl, o9 _ (by decide +kernel)⟩
        · exact ⟨_, rfl, (t4.add t6).mono (by omega)⟩
        · exact ⟨_, rfl, o9 _ (by decide +kernel)⟩
        · exact ⟨_, rfl, (tn.add t5).mono (by omega)⟩
        · exact ⟨_, rfl, tn1.mono (by omega)⟩
        · exact ⟨_, rfl, o9 _ (by decide +kernel)⟩
        · exact ⟨_, rfl, o9 _ (by decide +kernel)⟩
      walk_at "mm"
      refine w_join ?_
      walk_at "mm"
      refine w_callQ ⟨p, rfl, rfl⟩ ?_
      walk_at "mm"
      refine ⟨by walk_at "cln", _, rfl, by decide, by decide, fun r r0 r1 => ?_⟩
      refine o_menu r0 (by simp; omega) fun d hd cd fz => ?_
      obtain ⟨y, rfl, ty⟩ := hh d hd
      walk_at "mm"
      refine w_split ?_
      walk_at "mm"
      refine ⟨by decide +kernel, by have := tp.len; rw [sizeLine_eq]; omega, ?_⟩
      have hs : Txt.split z "\n" = (toString n : Str) :: rs.map (Sp.lineS n) := by
        rw [← ez]
        exact Sp.good_split gd
      rw [hs]
      walk_at "mm"
      refine u_slL (.inl rfl) ?_
      rw [List.map_cons, cutD_tail]
      have rl := ok.fit
      refine o_cat (.inl rfl) (.inl rfl) (by rw [sizeLine_eq]; simp; omega) ?_
      have all : ∀ l ∈ y :: rs.map (Sp.lineS n), Tx 60 l := fun l hl => by
        rcases List.mem_cons.mp hl with rfl | hl
        · exact ty
        · obtain ⟨r, hr, rfl⟩ := List.mem_map.mp hl
          exact (tx_line gd hr).mono (by omega)
      have ln : (y :: rs.map (Sp.lineS n)).length ≤ 6 := by simp; omega
      have l1 : ("\n" : Str).length = 1 := by decide +kernel
      refine ⟨y :: rs.map (Sp.lineS n), .inl (.inl rfl), ?_, ?_⟩
      · have := sum_le all
        rw [l1]
        omega
      · exact ⟨trivial, kS _ ((tx_joinT all).mono (by omega))⟩
    refine s_nil ?_
    refine s_seq (s_if ?_)
    walk_at "mm"
    refine o_eq rfl rfl rfl ?_
    refine ⟨_, rfl, ?_⟩
    refine ite2 (fun _ => ?_) (fun _ => ?_)
    · have o9 : ∀ s : String, (Str.ofString s).length ≤ 60 → Tx 60 (Str.ofString s) := fun s h => Tx.of s 60 h
      have tz3 : Tx 3 ("\nZ " : Str) := Tx.of _ _ (by decide +kernel)
      have tdot : Tx 9 (repS "." n) := Tx.rep (ch_of _) (by decide +kernel) n0 (by omega)
      have hh : ∀ d ∈ [D.str "\n", D.str " ", D.str "\n ", D.str "\nZ", D.str "\nZ ", D.str ("\nZ " ++ repS "." n), D.str "\n\n"], ∃ y, d = .str y ∧ Tx 60 y := fun d hd => by
        simp only [List.mem_cons, List.not_mem_nil, or_false] at hd
        rcases hd with rfl | rfl | rfl | rfl | rfl | rfl | rfl
        · exact ⟨_, rfl, o9 _ (by decide +kernel)⟩
        · exact ⟨_, rfl, o9 _ (by decide +kernel)⟩
        · exact ⟨_, rfl, o9 _ (by decide +kernel)⟩
        · exact ⟨_, rfl, o9 _ (by decide +kernel)⟩
        · exact ⟨_, rfl, o9 _ (by decide +kernel)⟩
        · exact ⟨_, rfl, (tz3.add tdot).mono (by omega)⟩
        · exact ⟨_, rfl, o9 _ (by decide +kernel)⟩
      walk_at "mm"
      refine o_mulS n0 (by omega) (by decide +kernel) ?_
      refine o_addS (by have := tz3.len; have := tdot.len; rw [sizeLine_eq]; omega) ?_
      walk_at "mm"
      refine w_callQ ⟨p, rfl, rfl⟩ ?_
      walk_at "mm"
      refine ⟨by walk_at "cln", _, rfl, by decide, by decide, fun r r0 r1 => ?_⟩
      refine o_menu r0 (by simp; omega) fun d hd cd fz => ?_
      obtain ⟨y, rfl, ty⟩ := hh d hd
      refine o_addS (by have := tp.len; have := ty.len; rw [sizeLine_eq]; omega) ?_
      exact ⟨trivial, kS _ ((tp.add ty).mono (by omega))⟩
    refine s_nil ?_
    refine s_seq (s_set ?_)
    refine w_callQ ⟨p, rfl, rfl⟩ ?_
    walk_at "mm"
    refine ⟨by walk_at "cln", z, 61, rfl, tp, by omega, fun y ty => ?_⟩
    refine ⟨trivial, ?_⟩
    walk_at "mm"
    refine ite2 (fun _ => ?_) (fun _ => ?_)
    · walk_at "mm"
      exact ⟨trivial, kS _ (ty.mono (by omega))⟩
    · refine w_callQ ⟨p, rfl, rfl⟩ ?_
      walk_at "mm"
      refine ⟨by walk_at "cln", y, _, rfl, ty, by omega, fun x tx => ?_⟩
      exact ⟨trivial, kS _ (tx.mono (by omega))⟩
end
end Dl
set_option Elab.async false
set_option linter.all false
set_option maxRecDepth 100000
set_option maxHeartbeats 4000000
namespace Dl
open PySem PySem.Spec PyProof.Rows L2 Sp RZ
local macro_rules | `(tactic| walk_at "dd1") => `(tactic| first
  | ((with_reducible refine' w_var ?hv ?hk); (case hv => exact rfl))
  | with_reducible refine w_int ?_
  | with_reducible refine w_str ?_
  | with_reducible refine w_bl ?_
  | with_reducible refine w_non ?_
  | with_reducible refine w_ty ?_
  | with_reducible refine w_raw ?_
  | with_reducible refine w_nil ?_
  | with_reducible refine w_cons ?_
  | with_reducible refine w_cb ?_
  | with_reducible refine w_op ?_
  | with_reducible refine w_un ?_
  | with_reducible refine w_andV ?_
  | with_reducible refine w_orV ?_
  | with_reducible refine w_notV ?_
  | with_reducible refine w_if ?_
  | with_reducible refine w_and ?_
  | with_reducible refine w_or ?_
  | with_reducible refine w_not ?_
  | with_reducible refine w_test ?_
  | with_reducible refine w_tb ?_
  | with_reducible refine w_chain ?_
  | with_reducible refine w_tup ?_
  | with_reducible refine w_lst ?_
  | with_reducible refine w_sl ?_
  | with_reducible refine p_none ?_
  | with_reducible refine p_some ?_
  | with_reducible refine w_call ?_
  | with_reducible refine s_seq ?_
  | with_reducible refine s_nil ?_
  | with_reducible refine s_ret ?_
  | with_reducible refine s_if ?_
  | with_reducible refine s_set ?_
  | with_reducible refine s_drop ?_
  | with_reducible refine s_brk ?_
  | with_reducible refine s_cont ?_
  | with_reducible refine s_asg ?_
  | with_reducible refine o_int ?_
  | with_reducible refine o_cmp ?_
  | with_reducible refine o_ltS ?_
  | with_reducible refine o_leS ?_
  | with_reducible refine o_neg ?_
  | with_reducible refine c_int ?_
  | with_reducible refine c_intB ?_
  | with_reducible refine c_abs ?_
  | with_reducible refine t_yes ?_
  | refine ⟨_, rfl, ?_⟩
  | with_reducible refine ⟨trivial, ?_⟩
  | refine iteT ?_
  | refine iteF ?_)
local macro_rules | `(tactic| walk_at "dd") => `(tactic| repeat (walk_at "dd1"))
local macro_rules | `(tactic| walk_at "cln") => `(tactic| repeat (first | exact cl_nil | refine cl_cons (by first | assumption | trivial) ?_))
local macro_rules | `(tactic| walk_at "mm") => `(tactic| repeat (first
  | with_reducible refine w_dnew ?_
  | with_reducible refine w_disp1 ?_
  | refine o_intC (show CPow _ _ from ⟨by decide, by decide, by decide⟩) ?_
  | walk_at "dd1"
  | refine c_list (.inr rfl) ?_
  | refine o_catT (by rw [sizeLine_eq]; simp <;> omega) ?_
  | refine u_slT ?_
  | refine o_ixT rfl fun _ => ?_
  | refine ⟨by rw [sizeLine_eq]; simp <;> omega, by walk_at "cln", ?_⟩))
/-! ### the purse and the tables of code objects -/
def pmT (T : List (Addr × Str)) (p : Addr) : Md := ⟨some p, true, fun H => Purse H p ∧ LamX.Tabs T H, fun H H' h s => by
  obtain ⟨⟨g, st, n, e, r⟩, t⟩ := h
  exact ⟨⟨g, st, n, s _ _ e, r⟩, t.ext s⟩, fun H H' h k => by
  obtain ⟨⟨g, st, n, e, r⟩, t⟩ := h
  refine ⟨⟨g, st, n, k p _ e (.inl rfl), r⟩, fun x hx => ?_⟩
  obtain ⟨ps, e1, e2, e3⟩ := t x hx
  refine ⟨ps, k _ _ e1 (.inr fun xs z => nomatch z), e2, fun pos cv hc => ?_⟩
  obtain ⟨c, q1, q2⟩ := e3 pos cv hc
  exact ⟨c, q1, k _ _ q2 (.inr fun xs z => by
    unfold LamX.CodeO at z
    cases z)⟩, fun H q h e => by
  obtain rfl := Option.some.inj e
  obtain ⟨⟨g, st, n, e, _⟩, _⟩ := h
  exact ⟨_, e⟩⟩
section
variable {C : Cxt} {ρ : Rho} {tr : TA} {P : D → Prop} {T : List (Addr × Str)}
/-- a def that is handed the purse, called where tables may grow -/
theorem w_callT {g : GD} {E : XK} {p : Addr} (hm : C.m = pmT T p) (h : WA C tr ρ fun ds => ∃ es, ds = .pur :: es ∧ (∀ d ∈ es, Clean d) ∧ g es P) : WE C (tCall (spQ C.K pmP g) [] E tr) ρ P := fun cs H σ r Q q =>
  h cs H σ r _ fun vs ds H1 k1 o1 a ⟨es, e, cl, pg⟩ => by
    subst e
    have g1 := r.good.step k1 o1
    have hp : C.m.p = some p := by rw [hm]; rfl
    have o1' : (pmT T p).inv H1 := by
      have z := o1
      rw [hm] at z
      exact z
    cases a with
    | cons a b =>
      cases a with
      | c a => exact a.clean.elim
      | @pur p1 e =>
        rw [hp] at e
        obtain rfl := Option.some.inj e
        refine ⟨p, _, C.hd cs, es, P, by rw [List.append_nil], ?_, o1'.1, g1.hocc, dta_of b cl, pg, fun d v H2 pd k o h2 => ?_⟩
        · unfold Cxt.hd
          exact List.mem_append_left _ (g1.pA _ hp)
        · have k' : C.m.keep H1 H2 := fun b o n t e => k b o (by rw [hp] at n; exact n) (fun z => nomatch z) e
          refine q v d H2 (k1.trans k') ?_ (.c h2) pd
          rw [hm]
          refine ⟨o, fun x hx => ?_⟩
          obtain ⟨xs, ep⟩ := g1.pocc hp
          have ne : ∀ b o, H1 b = some o → (∀ xs, o ≠ .lst xs) → H2 b = some o := fun b o e n => k b o (fun z => by
            have z := Option.some.inj z
            rw [z, ep] at e
            exact n xs (Option.some.inj e).symm) (fun z => nomatch z) e
          obtain ⟨ps, e1, e2, e3⟩ := o1'.2 x hx
          refine ⟨ps, ne _ _ e1 (fun xs z => nomatch z), e2, fun pos cv hc => ?_⟩
          obtain ⟨c, q1, q2⟩ := e3 pos cv hc
          exact ⟨c, q1, ne _ _ q2 (fun xs z => by
            unfold LamX.CodeO at z
            cases z)⟩
end
/-- tables alone -/
def pmL (T : List (Addr × Str)) : Md := ⟨none, true, fun H => LamX.Tabs T H, fun H H' h s => h.ext s, fun H H' t k => fun x hx => by
  obtain ⟨ps, e1, e2, e3⟩ := t x hx
  refine ⟨ps, k _ _ e1 (.inr fun xs z => nomatch z), e2, fun pos cv hc => ?_⟩
  obtain ⟨c, q1, q2⟩ := e3 pos cv hc
  exact ⟨c, q1, k _ _ q2 (.inr fun xs z => by
    unfold LamX.CodeO at z
    cases z)⟩, fun H q h e => nomatch e⟩


/-! ### what repr is asked of fits -/
theorem pn_int {m : Int} (h0 : 0 ≤ m) (h1 : m ≤ 10000) : Pn 170 0 (.int m) := ⟨by simp [lvD]; omega, by simp [wtD], by simp [dpD], by simp [noL], by simp [noDi]⟩

theorem join_sum {sep : Str} (h1 : sep.length = 1) : ∀ ls : List Str, (ls.map (·.length)).sum ≤ (Str.join sep ls).length
  | [] => Nat.zero_le _
  | [x] => by simp [Str.join]
  | x :: y :: r => by
    have i := join_sum h1 (y :: r)
    have e : (Str.join sep (x :: y :: r)).length = x.length + 1 + (Str.join sep (y :: r)).length := by
      show ((x ++ sep ++ Str.join sep (y :: r)) : Str).length = _
      rw [PySem.Str.length_append, PySem.Str.length_append, h1]
    rw [e, List.map_cons, List.sum_cons]
    omega
theorem good_row {n : Int} {rs : List (Str × List Int)} (g : Sp.GoodP n rs) {r : Str × List Int} (hr : r ∈ rs) : (Sp.lineS n r).length = n.toNat + 2 ∧ r.2.length ≤ n.toNat := by
  obtain ⟨⟨c, m, e, c1, c2, hl, hm⟩, q⟩ := Sp.good_line g hr
  refine ⟨by rw [str_len e]; simp; omega, ?_⟩
  have q2 := congrArg (fun r : Str × List Int => r.2.length) q
  simp only [Sp.lrow] at q2
  rw [← q2, Sp.cutS_from2 e]
  refine Nat.le_trans (Sp.marked_le _ _) ?_
  simp
  omega
theorem good_size {n : Int} {rs : List (Str × List Int)} (g : Sp.GoodP n rs) (hl : (Sp.planS n rs).length ≤ 1000) : rs.length * (n.toNat + 2) ≤ 1000 := by
  have e : Sp.planS n rs = Str.join "\n" (Sp.planL n rs) := by
    unfold Sp.planS Txt.join
    exact StrLaws.glued_eq_join _ _
  have j := join_sum (sep := "\n") (by decide +kernel) (Sp.planL n rs)
  rw [← e] at j
  unfold Sp.planL at j
  rw [List.map_cons, List.sum_cons, List.map_map] at j
  have k : ∀ ls : List (Str × List Int), (∀ r ∈ ls, r ∈ rs) → (ls.map ((·.length) ∘ Sp.lineS n)).sum = ls.length * (n.toNat + 2) := fun ls => by
    induction ls with
    | nil => exact fun _ => by simp
    | cons r ls ih =>
      intro h
      have i := ih fun x hx => h x (List.mem_cons_of_mem _ hx)
      have a := (good_row g (h r (List.mem_cons_self ..))).1
      rw [List.map_cons, List.sum_cons, i, List.length_cons, Nat.succ_mul]
      show (Sp.lineS n r).length + _ = _
      omega
  have := k rs fun r h => h
  omega
theorem row_pn {n : Int} {r : Str × List Int} (nm : isNm r.1 = true) (n0 : 0 ≤ n) (n1 : n ≤ 10000) (hl : r.2.length ≤ n.toNat) (tk : ∀ x ∈ r.2, Sp.okTick n x = true) : Pn (171 * (n.toNat + 1)) 2 (rowD r) := by
  have hi : Pns (r.2.length * 171) 0 (r.2.map D.int) := Pns.map (m := 170) fun x hx => by
    have z := tk x hx
    unfold Sp.okTick at z
    simp only [Bool.and_eq_true, decide_eq_true_eq] at z
    obtain ⟨h0, h1⟩ := z
    exact ⟨by simp [lvD]; omega, by simp [wtD], by simp [dpD], by simp [noL], by simp [noDi]⟩
  obtain ⟨l1, l2⟩ := nm_str nm
  have hs : Pn 1 0 (.str r.1) := ⟨by simp only [lvD, List.all_eq_true, decide_eq_true_eq]; exact l2, by simp only [wtD]; omega, by simp [dpD], by simp [noL], by simp [noDi]⟩
  have m2 : Pn (171 * n.toNat) 1 (.tup (r.2.map .int)) := hi.tup.mono (by omega)
  have z := (Pns.cons (m := 171 * n.toNat + 3) (hs.deep (by omega)) (Pns.cons (m := 171 * n.toNat + 1) m2 Pns.nil (m2 := 0) (by omega)) (by omega)).tup
  exact z.mono (by omega)
theorem good_shb {n : Int} {rs : List (Str × List Int)} (g : Sp.GoodP n rs) (hl : (Sp.planS n rs).length ≤ 1000) : Shb (.tup [.int n, .tup (rs.map rowD)]) := by
  have sz := good_size g hl
  have z := Pns.map (m := 171 * (n.toNat + 1)) (k := 2) fun r hr => row_pn (g.rows.nm r hr) g.n0 g.n1 (good_row g hr).2 (g.rows.ticks r hr).ok
  have b : rs.length * (171 * (n.toNat + 1) + 1) ≤ 171000 := by
    have a : rs.length * (171 * (n.toNat + 1) + 1) ≤ rs.length * (171 * (n.toNat + 2)) := Nat.mul_le_mul_left _ (by omega)
    have c : rs.length * (171 * (n.toNat + 2)) = 171 * (rs.length * (n.toNat + 2)) := by rw [Nat.mul_left_comm]
    omega
  exact Shb.pair ((pn_int g.n0 g.n1).deep (j := 3) (by omega)).th (z.mono b).tup.th (by omega) (by omega)
/-! ### calls caught -/
section
variable {C : Cxt} {ρ : Rho} {P : D → Prop} {T : List (Addr × Str)} {Cp : Addr} {Ce : Nat → Addr} {ta tb : TE} {tr : TA}
/-- _law_caught of a lambda -/
theorem w_lamM {t : XK → TE} (hm : (∃ p, C.m = pmT T p) ∨ C.m = pmL T) (h : ∀ cs H σ, R C cs H σ ρ → ∀ Q : VK, (∀ v d H', C.m.keep H H' → C.m.ok H' → Val C cs H' v d → P d → Q v H') → ∀ Qr : VK, (∀ u H', QokC C.K Cp Q u H' → Qr u H') → t (EchC C.K Cp Ce Q) σ H Qr) :
    WE C (LamX.tLam T (TTc C.K Cp Ce) t) ρ P := fun cs H σ r Q q => by
  have o0 := r.good.ok
  have tbt : C.m.tb = true := by
    rcases hm with ⟨p, hm⟩ | hm <;> rw [hm] <;> rfl
  have tb0 : LamX.Tabs T H := by
    rcases hm with ⟨p, hm⟩ | hm
    · have o0' : (pmT T p).inv H := by
        rw [hm] at o0
        exact o0
      exact o0'.2
    · rw [hm] at o0
      exact o0
  refine ⟨tb0, fun H1 ex t1 Qr hr => ?_⟩
  have k1 : C.m.keep H H1 := fun b o n t e => ex b o e fun ps z => by
    have w := t tbt
    rw [z] at w
    cases w
  have o1 : C.m.ok H1 := by
    rcases hm with ⟨p, hm⟩ | hm
    · have o0' : (pmT T p).inv H := by
        rw [hm] at o0
        exact o0
      rw [hm]
      obtain ⟨gg, st, n, e, rr⟩ := o0'.1
      exact ⟨⟨gg, st, n, ex _ _ e (fun ps z => nomatch z), rr⟩, t1⟩
    · rw [hm]
      exact t1
  exact h cs H1 σ (r.step k1 o1) Q (fun v d H' k o a pd => q v d H' (k1.trans k) o a pd) Qr hr
theorem occ_of {cs : Cs} {H H' : Hp} (g : Good C cs H) (s : Same H H') : Occ (C.hd cs) H' := fun b hb => by
  obtain ⟨xs, e⟩ := g.hocc b hb
  exact ⟨xs, s _ _ e⟩

/-- what _law_caught tells of a text that is read -/
def dueT (s : Str) : D := .tup [.str "text", .str s]
def dueP (n : Int) (rs : List (Str × List Int)) : D := .tup [.str "plan", .str (shD (.tup [.int n, .tup (rs.map rowD)]))]
/-- it is no plan's text, and the answer tells so; or it is, and the answer tells the plan -/
inductive DueR (Cp : Addr) : D → D → Prop
  | no {d : D} {s : Str} : Clean d → Thg Cp d → (∀ z, d = .str z → z.length ≤ 9000) → (¬ ∃ n rs, Sp.GoodP n rs ∧ d = .str (Sp.planS n rs)) → RokX Cp d s → DueR Cp d (dueT s)
  | yes {n : Int} {rs : List (Str × List Int)} : Sp.GoodP n rs → (Sp.planS n rs).length ≤ 1000 → DueR Cp (.str (Sp.planS n rs)) (dueP n rs)
theorem read_core {cs : Cs} {H : Hp} {v : V} {d a : D} {Q Qr : VK} (g : Good C cs H) (hv : Val C cs H v d) (hd : DueR Cp d a) (q : ∀ w H', Same H H' → Dt C.K (hid (C.hd cs) H') w a → Q w H')
    (hr : ∀ u H', QokC C.K Cp Q u H' → Qr u H') : spReadX C.K Cp Ce [v] H Qr (EchC C.K Cp Ce Q) := by
  cases hd with
  | @no _ s cd td ld ng rk =>
    refine ⟨v, C.hd cs, d, rfl, g.hocc, hv.dt cd, td, ld, fun _ cls dd H' fl => ?_, fun n rs gd e => (ng ⟨n, rs, gd, e⟩).elim⟩
    obtain ⟨dx2, w, h1, h2, sm, h3, h4⟩ := fl
    exact ⟨0, dx2, w, C.hd cs, d, s, by decide, h1, h2, h3, occ_of g sm, h4, rk, fun w2 H'' s' hw => q w2 H'' (sm.trans s') hw⟩
  | @yes n rs gd hl =>
    refine ⟨v, C.hd cs, _, rfl, g.hocc, hv.dt trivial, .p rfl, fun z e => by cases e; omega, fun h => (h ⟨n, rs, gd, rfl⟩).elim, fun m qs gd2 e u H' s hu => ?_⟩
    have e : Sp.planS n rs = Sp.planS m qs := D.str.inj e
    obtain ⟨h, t, hs⟩ := split_cons (Sp.planS n rs)
    obtain ⟨r1, r2⟩ := read_good hs gd rfl
    obtain ⟨r3, r4⟩ := read_good hs gd2 e
    rw [r1] at r3
    obtain rfl := Option.some.inj r3
    rw [r2] at r4
    subst r4
    obtain ⟨p, rk, ep⟩ := (good_shb gd hl).rok
    refine hr _ _ ⟨C.hd cs, .int n, .tup (rs.map rowD), p, occ_of g s, hu, rk, fun w2 H'' s' hw => q w2 H'' (s.trans s') ?_⟩
    unfold dueP
    rw [← ep]
    exact hw
theorem w_readC (hm : (∃ p, C.m = pmT T p) ∨ C.m = pmL T) (h : WA C tr ρ fun ds => ∃ d a, ds = [d] ∧ DueR Cp d a ∧ P a) :
    WE C (LamX.tLam T (TTc C.K Cp Ce) fun E => Sp.tSMeth Cp (spReadX C.K Cp Ce) [] E (tC (.ref Cp)) tr) ρ P := w_lamM hm fun cs H σ r Q q Qr hr =>
  ⟨rfl, h cs H σ r _ fun vs ds H2 k2 o2 hp ⟨d, a, e, dr, pd⟩ => by
    subst e
    obtain ⟨vz, rfl, hz⟩ := vals1 hp
    exact read_core (r.good.step k2 o2) hz dr (fun w H' s hw => q w _ H' (k2.trans (.same s)) (o2.same s) (.c hw) pd) hr⟩
theorem w_readK (hm : (∃ p, C.m = pmT T p) ∨ C.m = pmL T) (h : WA C tr ρ fun ds => ∃ d a, ds = [d] ∧ DueR Cp d a ∧ P a) :
    WE C (LamX.tLam T (TTc C.K Cp Ce) fun E => Sp.tSMethK Cp (["text"] : List Str).length (spReadX C.K Cp Ce) (fun vs zs => vs ++ zs) E (tC (.ref Cp)) tr) ρ P := w_lamM hm fun cs H σ r Q q Qr hr =>
  ⟨rfl, h cs H σ r _ fun vs ds H2 k2 o2 hp ⟨d, a, e, dr, pd⟩ => by
    subst e
    obtain ⟨vz, rfl, hz⟩ := vals1 hp
    exact ⟨rfl, read_core (r.good.step k2 o2) hz dr (fun w H' s hw => q w _ H' (k2.trans (.same s)) (o2.same s) (.c hw) pd) hr⟩⟩
end
end Dl
set_option Elab.async false
set_option linter.all false
set_option maxRecDepth 100000
set_option maxHeartbeats 4000000
namespace Dl
open PySem PySem.Spec PyProof.Rows L2 Sp RZ
local macro_rules | `(tactic| walk_at "dd1") => `(tactic| first
  | ((with_reducible refine' w_var ?hv ?hk); (case hv => exact rfl))
  | with_reducible refine w_int ?_
  | with_reducible refine w_str ?_
  | with_reducible refine w_bl ?_
  | with_reducible refine w_non ?_
  | with_reducible refine w_ty ?_
  | with_reducible refine w_raw ?_
  | with_reducible refine w_nil ?_
  | with_reducible refine w_cons ?_
  | with_reducible refine w_cb ?_
  | with_reducible refine w_op ?_
  | with_reducible refine w_un ?_
  | with_reducible refine w_andV ?_
  | with_reducible refine w_orV ?_
  | with_reducible refine w_notV ?_
  | with_reducible refine w_if ?_
  | with_reducible refine w_and ?_
  | with_reducible refine w_or ?_
  | with_reducible refine w_not ?_
  | with_reducible refine w_test ?_
  | with_reducible refine w_tb ?_
  | with_reducible refine w_chain ?_
  | with_reducible refine w_tup ?_
  | with_reducible refine w_lst ?_
  | with_reducible refine w_sl ?_
  | with_reducible refine p_none ?_
  | with_reducible refine p_some ?_
  | with_reducible refine w_call ?_
  | with_reducible refine s_seq ?_
  | with_reducible refine s_nil ?_
  | with_reducible refine s_ret ?_
  | with_reducible refine s_if ?_
  | with_reducible refine s_set ?_
  | with_reducible refine s_drop ?_
  | with_reducible refine s_brk ?_
  | with_reducible refine s_cont ?_
  | with_reducible refine s_asg ?_
  | with_reducible refine o_int ?_
  | with_reducible refine o_cmp ?_
  | with_reducible refine o_ltS ?_
  | with_reducible refine o_leS ?_
  | with_reducible refine o_neg ?_
  | with_reducible refine c_int ?_
  | with_reducible refine c_intB ?_
  | with_reducible refine c_abs ?_
  | with_reducible refine t_yes ?_
  | refine ⟨_, rfl, ?_⟩
  | with_reducible refine ⟨trivial, ?_⟩
  | refine iteT ?_
  | refine iteF ?_)
local macro_rules | `(tactic| walk_at "dd") => `(tactic| repeat (walk_at "dd1"))
local macro_rules | `(tactic| walk_at "cln") => `(tactic| repeat (first | exact cl_nil | refine cl_cons (by first | assumption | trivial) ?_))
local macro_rules | `(tactic| walk_at "mm") => `(tactic| repeat (first
  | with_reducible refine w_dnew ?_
  | with_reducible refine w_disp1 ?_
  | refine o_intC (show CPow _ _ from ⟨by decide, by decide, by decide⟩) ?_
  | walk_at "dd1"
  | refine c_list (.inr rfl) ?_
  | refine o_catT (by rw [sizeLine_eq]; simp <;> omega) ?_
  | refine u_slT ?_
  | refine o_ixT rfl fun _ => ?_
  | refine ⟨by rw [sizeLine_eq]; simp <;> omega, by walk_at "cln", ?_⟩))
/-- a def with its code object -/
structure FunC (K : PySem.W.Frag) (x qual : Str) (st : Stmt) (f : Addr) (fd : FuncData) (cdv : Value) : Prop where
  ex : ∃ (oc : Value) (od : Option Addr) (kV doc pm : Value) (an : Option Addr) (ct : Value) (osl : Array (Option Value)),
    fd = PySem.W.fnOf x qual (defArgs st) (defBody st) (defScope st) .none kV doc pm an cdv ct ∧ K.lookup f = some ⟨oc, od, .func fd, osl⟩ ∧ PySem.W.codeIn K cdv qual = true
theorem okGC {P : Program} {w : World} {K : PySem.W.Frag} {mg : Str → Option Value} {base : Heap} {CX : CXT} {x qual : Str} {st : Stmt} {f : Addr} {fd : FuncData} {cdv : Value} {N ps : List Str} {k : Nat} {sp : Sp} (F : FunC K x qual st f fd cdv) (S : FnScope N ps (defScope st)) (len : ∀ vs H Q E, sp vs H Q E → vs.length = ps.length)
    (hbody : ∀ (A : Around) (outer : List Env) (s : Shared) (H : Hp) (vs : List V) (Q : VK) (E : XK), Room k (A.deeper (envOfC qual (defScope st) s.heap.objs.size f cdv)) → A.guards = some [] → sp vs H Q E →
      ∃ t, PSs (cxOf CX P w K mg base N qual (defScope st) f cdv A outer s H E).nox (defBody st) t ∧ t { nx := fun _ H' => Q .non H', rt := Q } (start N vs) H) : FnG P w K mg base CX (k + 1) f fd ps sp := by
  obtain ⟨oc, od, kV, doc, pm, an, ct, osl, rfl, lk, hcd⟩ := F.ex
  refine ⟨len, fun A outer s H args us vs Q E hr hg e0 hb r hsp => ?_⟩
  have many := len _ _ _ _ hsp
  have inK : K.In s.heap := e0.mod.kin.keeps fun b o e => (e0.bs b o e).1
  have lim : s.heap.NoLimit := e0.mod.nolimit.keeps fun b o e => (e0.bs b o e).1
  have kinds : ∀ y ∈ ps.zip us, (defScope st).names.lookup y.1 = some .local ∨ ((defScope st).names.lookup y.1 = some .cell ∧ ((cellsFrom (s.heap.objs.size + 1) (defScope st).names []).lookup y.1).isSome = true) := fun y hy => by
    obtain ⟨n, v⟩ := y
    rcases S.par n (List.of_mem_zip hy).1 with q | q
    · exact .inl q
    · exact .inr ⟨q, PySem.W.cellsFrom_some _ _ _ (.inl q)⟩
  refine codeAny_call_function hr.depth (inK _ _ lk) rfl S.co S.gen rfl (PySem.W.codeRec_of inK hcd) (hb _ _ _ _ ?_)
  refine wpAny_newFunctionEnv_cells S.kind kinds fun env he s1 x => ?_
  subst he
  refine ⟨lim.keeps x.toInCall.keep, codeAny_func ?_⟩
  obtain ⟨t, ht, hq⟩ := hbody A outer s H vs Q E (hr.deeper _) hg hsp
  have I : L2.Inv (cxOf CX P w K mg base N qual (defScope st) f cdv A outer s H E) [] (start N vs) H s1 := inv_start S hr.hd e0 many r x
  refine wpAny_mono (ht.nox.run [] s1 (start N vs) H _ I hq) (fun fl s' hs => ?_) fun e s' hs => hs
  have fin : ∀ {σ' : L2.St} {H' : Hp} {v : V} {u : Value}, L2.Inv (cxOf CX P w K mg base N qual (defScope st) f cdv A outer s H E) [] σ' H' s' → L2.RelV v u → Q v H' → CE outer P w H s Q u s' := fun {σ' H' v u} J rv q => ⟨v, H', J.os, J.bare, J.base, J.hok, rv, q⟩
  cases fl with
  | ret u =>
    obtain ⟨v, σ', H', J, rv, q⟩ := hs
    exact fin J rv q
  | next =>
    obtain ⟨σ', H', J, q⟩ := hs
    exact fin (v := V.non) (u := Value.none) J rfl q
  | brk =>
    obtain ⟨_, _, _, q⟩ := hs
    exact q.elim
  | cont =>
    obtain ⟨_, _, _, q⟩ := hs
    exact q.elim

def lamQ (x : Str) (st : Stmt) : Str := (envOfC x (defScope st) 0 0 .none).qual ++ "<lambda>"
theorem shaped_two {a b : Str} (ha : Ch a) (hb : Ch b) : SeqAt.shaped (.tuple [.str a, .str b]) = true := by
  show (PyData.canLay0 (.tuple [.str a, .str b]) && decide (PyData.depth (.tuple [.str a, .str b]) ≤ 64)) = true
  simp [PyData.canLay0, PyData.canLayAll0, PyData.depth, PyData.depthAll, ch_ok ha, ch_ok hb]
theorem shaped_dd {a b : Str} (ha : Ch a) (hb : Ch b) : SeqAt.shaped (.list [.tuple [.str a, .str b], .tuple [.str a, .str b]]) = true := by
  show (PyData.canLay0 (.list [.tuple [.str a, .str b], .tuple [.str a, .str b]]) && decide (PyData.depth (.list [.tuple [.str a, .str b], .tuple [.str a, .str b]]) ≤ 64)) = true
  simp [PyData.canLay0, PyData.canLayAll0, PyData.depth, PyData.depthAll, ch_ok ha, ch_ok hb]
/-- _law_right(purse) -/
def spRight (T : List (Addr × Str)) : Sp := fun vs H Q _ => ∃ p, vs = [.ref p] ∧ (pmT T p).inv H ∧ ∀ H', (pmT T p).keep H H' → (pmT T p).inv H' → Q (.bl true) H'

/-- how _law_caught is told of, Plan.read -/
structure CaughtR (P : Program) (w : World) (K : PySem.W.Frag) (mg : Str → Option Value) (base : Heap) (Cp : Addr) (Ce : Nat → Addr) (cV cM : Addr) : Prop where
  T : Er K mg Ce cV cM
  PG : PlanG P w K mg base Cp
  RO : RpO P w K mg base Cp
  SC : StrC K Cp
  gP : mg "Plan" = some (.ref Cp)
  exm : ∀ i, i < 14 → PySem.W.exmAny K (.ref (Ce i)) [.ref cV, .ref cM] = some true
  err : ∃ fE fdE, Ex.FnE P w K mg base 3 fE fdE ["_law_e"] (spErrorX K Cp Ce) ∧ mg "_law_error" = some (.ref fE) ∧ PySem.W.keepIn K (.ref fE) = true ∧ Binds K fdE ["_law_e"] []
  def_ : ∃ g fd, Fun K "_law_caught" "_law_caught" s__law_caught g fd ∧ mg "_law_caught" = some (.ref g)
  rd : ∃ mc p f fd, ClX.CRead K Cp mc ∧ Sp.SMet K Cp mc "read" p f ∧ FnOk P w K mg base (L2.CX P w) 6 f fd ["text"] (spReadX K Cp Ce) ∧ L2.Binds K fd ["text"] [] ∧ KBn K fd ["text"] 0 ["text"] (fun us ws => us ++ ws) (fun vs zs => vs ++ zs)
section
variable {C : Cxt} {P : D → Prop}
abbrev rIsN0 : R2 := fun x y H Q => y = .non ∧ Q (.bl (decide (x = .non))) H
theorem o_isN1 (k : P (.bl true)) : OpD C rIsN0 .non .non P := fun cs H vx vy g0 hx hy Q q => by
  rw [hx.non, hy.non]
  exact ⟨rfl, q _ _ H (Same.refl H) (.c (.bl _)) k⟩
theorem o_isN0 {ds : List D} (k : P (.bl false)) : OpD C rIsN0 (.tup ds) .non P := fun cs H vx vy g0 hx hy Q q => by
  rw [hy.non]
  obtain ⟨a, xs, rfl, _⟩ := hx.tup
  exact ⟨rfl, q _ _ H (Same.refl H) (.c (.bl _)) k⟩
end
/-- a line that is drawn -/
def LineOk (Cp : Addr) (d : D) : Prop := (∃ y, d = .str y ∧ Tx 1000 y) ∨ OddT Cp d
theorem LineOk.cl {Cp : Addr} {d : D} (h : LineOk Cp d) : Clean d := by
  rcases h with ⟨y, rfl, _⟩ | h
  · trivial
  · exact h.cl
theorem LineOk.tg {Cp : Addr} {d : D} (h : LineOk Cp d) : Thg Cp d := by
  rcases h with ⟨y, rfl, _⟩ | h
  · exact .p rfl
  · exact h.tg
theorem tx_rok {Cp : Addr} {y : Str} (h : Tx 1000 y) : ∃ s, RokX Cp (.str y) s ∧ Ch s := by
  have t : Th 1000 0 (.str y) := ⟨by simp only [lvD, List.all_eq_true, decide_eq_true_eq]; exact h.ch, h.len, by simp [dpD], .inl (by simp [noL])⟩
  obtain ⟨p, rk, e⟩ := (t.sh (by omega) (by omega)).rok
  exact ⟨p.shown, .r rk, by rw [e]; exact ch_sh t.lv⟩
/-- what is found, what is due -/
inductive FoundR (Cp : Addr) : D → D → D → Prop
  | no {d : D} {s : Str} : DueR Cp d (dueT s) → RokX Cp d s → Ch s → FoundR Cp d .non (dueT s)
  | yes {n : Int} {rs : List (Str × List Int)} : Sp.GoodP n rs → (Sp.planS n rs).length ≤ 1000 → FoundR Cp (.str (Sp.planS n rs)) (.tup [.int n, .tup (rs.map rowD)]) (dueP n rs)
theorem FoundR.due {Cp : Addr} {d f a : D} (h : FoundR Cp d f a) : DueR Cp d a := by
  cases h with
  | no h _ _ => exact h
  | yes g l => exact .yes g l
theorem FoundR.shape {Cp : Addr} {d f a : D} (h : FoundR Cp d f a) : ∃ x y, a = .tup [.str x, .str y] ∧ Ch x ∧ Ch y := by
  cases h with
  | no _ _ c => exact ⟨_, _, rfl, ch_of _, c⟩
  | yes g l => exact ⟨_, _, rfl, ch_of _, ch_sh (good_shb g l).lv⟩
section
variable {P : Program} {w : World} {K : PySem.W.Frag} {mg : Str → Option Value} {base : Heap} {Cp : Addr} {Ce : Nat → Addr} {cV cM : Addr}
abbrev s__law_right : Stmt := top 44
abbrev Nr : List Str := ["_law_purse_here", "_law_turn", "_law_wide", "_law_drawn", "_law_line", "_law_found", "_law_due", "_law_told"]
theorem sc__law_right : FnScope ["_law_purse_here", "_law_turn", "_law_wide", "_law_drawn", "_law_line", "_law_found", "_law_due", "_law_told"] ["_law_purse_here"] (defScope s__law_right) := ⟨rfl, rfl, rfl, by decide +kernel, rfl, by decide +kernel, by decide +kernel⟩
abbrev Xr (P : Program) (w : World) (K : PySem.W.Frag) (mg : Str → Option Value) (base : Heap) (f c : Addr) (A : Around) (outer : List Env) (s : Shared) (H : Hp) (E : XK) : Cx := (cxOf CX0 P w K mg base ["_law_purse_here", "_law_turn", "_law_wide", "_law_drawn", "_law_line", "_law_found", "_law_due", "_law_told"] "_law_right" (defScope s__law_right) f (.ref c) A outer s H E).nox
theorem g_right {f c Pt : Addr} {fd : FuncData} {T : List (Addr × Str)} (F : FunC K "_law_right" "_law_right" s__law_right f fd (.ref c)) (B : Bt mg) (CC : CaughtR P w K mg base Cp Ce cV cM) (TB : LamX.TabB base mg c Pt) (mem : (Pt, lamQ "_law_right" s__law_right) ∈ T) (uniq : ∀ p ∈ T, p.1 = Pt → p.2 = lamQ "_law_right" s__law_right)
    (D_roll : Df P w K mg base "_law_roll" 1 ["_law_purse_here", "_law_many"] (spQ K pmP g_roll)) (D_letters : Df P w K mg base "_law_letters" 2 ["_law_purse_here", "_law_many"] (spQ K pmP g_letters)) (D_drawn : Df P w K mg base "_law_drawn_rows" 3 ["_law_purse_here", "_law_letters_here", "_law_wide"] (spQ K pmP g_drawn))
    (D_changed : Df P w K mg base "_law_changed" 7 ["_law_purse_here", "_law_wide", "_law_drawn"] (spQ K pmP (g_changed Cp))) (D_read : Df P w K mg base "_law_read" 1 ["_law_line"] (spF K g_read)) :
    FnG P w K mg base CX0 10 f fd ["_law_purse_here"] (spRight T) := by
  refine okGC F sc__law_right (fun vs H Q E h => ?_) (fun A outer s H vs Q E hr hg h => ?_)
  · obtain ⟨p, rfl, _⟩ := h
    rfl
  obtain ⟨p, rfl, hi, k⟩ := h
  obtain ⟨fE, fdE, FE, gE, kE, bE⟩ := CC.err
  obtain ⟨gc, fdc, FC, gC⟩ := CC.def_
  obtain ⟨mc, pr, fr, fdr, Rr, Rc, RG, Rb, Rk⟩ := CC.rd
  have kC := FC.kp
  have bC : Binds K fdc ["_law_act"] [] := FC.binds (fun _ _ _ _ _ _ us hl => match us, hl with | [_], _ => rfl)
  obtain ⟨oc, od, kV, doc, pm, an, cdc, ct, osl, rfl, lkC, hcC⟩ := FC.ex
  have hu : (A.deeper (envOfC "_law_right" (defScope s__law_right) s.heap.objs.size f (.ref c))).units + 100 < cLine := by
    have := hr.un
    omega
  have hu64 : (A.deeper (envOfC "_law_right" (defScope s__law_right) s.heap.objs.size f (.ref c))).units + 64 < cLine := by
    omega
  have hrl : Room (6 + 2) (Xr P w K mg base f c A outer s H E).A := hr.mono (by decide)
  have give : LamX.GivesTo (Xr P w K mg base f c A outer s H E) ["_law_act", "_law_told", "_law_e"] "_law_caught" (defScope s__law_caught) gc cdc (defBody s__law_caught) "_law_act" ((Xr P w K mg base f c A outer s H E).env.qual ++ "<lambda>") (TTc K Cp Ce) :=
    caught_gives (X := Xr P w K mg base f c A outer s H E) CC.T B CC.PG CC.gP CC.exm FE gE kE bE hg (fun n => (hrl.mono (show 5 ≤ 8 by decide)).deeper _)
  refine ⟨_, (pss_cons (ps_for PassesOwn.never rfl (pi_range1 rfl (B _ (by decide)) (pa_cons pe_int pa_nil)) (pg_name (i := 1) sc__law_right.nd rfl (Or.inl rfl))
    (pss_cons (ps_set (i := 2) sc__law_right.nd rfl (Or.inl rfl) (pe_ix (ixLK K) (pe_lst (pa_cons pe_int (pa_cons pe_int (pa_cons pe_int (pa_cons pe_int (pa_cons pe_int pa_nil)))))) (pe_df D_roll (hr.mono (by decide)) (pa_cons (pv 0) (pa_cons pe_int pa_nil))) (fun _ _ => rfl)))
    (pss_cons (ps_set (i := 3) sc__law_right.nd rfl (Or.inl rfl) (pe_df D_drawn (hr.mono (by decide)) (pa_cons (pv 0) (pa_cons (pe_df D_letters (hr.mono (by decide)) (pa_cons (pv 0) (pa_cons (pe_df D_roll (hr.mono (by decide)) (pa_cons (pv 0) (pa_cons pe_int pa_nil))) pa_nil))) (pa_cons (pv 2) pa_nil)))))
    (pss_cons (ps_set (i := 4) sc__law_right.nd rfl (Or.inr rfl) (pe_df D_changed (hr.mono (by decide)) (pa_cons (pv 0) (pa_cons (pv 2) (pa_cons (pv 3) pa_nil)))))
    (pss_cons (ps_set (i := 5) sc__law_right.nd rfl (Or.inl rfl) (pe_ifExp (pt_val (pe_callB call_isi (by rfl) (B _ (by decide)) (by decide +kernel) (pa_cons (pv 4) (pa_cons (pe_bltn (v := .ty "str") (by rfl) (B _ (by decide)) (by decide +kernel) rfl) pa_nil)))) (pe_df D_read (hr.mono (by decide)) (pa_cons (pv 4) pa_nil)) pe_non))
    (pss_cons (ps_set (i := 6) sc__law_right.nd rfl (Or.inl rfl) (pe_ifExp (pt_cmpR op_isN (pv 5) pe_non (nomark _)) (pe_tup (pa_cons pe_str (pa_cons (pe_callB (call_reprX (X := Xr P w K mg base f c A outer s H E) CC.RO (hr.mono (by decide)) hg) (by rfl) (B _ (by decide)) (by decide +kernel) (pa_cons (pv 4) pa_nil)) pa_nil))) (pe_tup (pa_cons pe_str (pa_cons (pe_callB (call_reprD hu hg) (by rfl) (B _ (by decide)) (by decide +kernel) (pa_cons (pv 5) pa_nil)) pa_nil)))))
    (pss_cons (ps_set (i := 7) sc__law_right.nd rfl (Or.inl rfl) (pe_lst (pa_cons (LamX.pe_lamcall (X := Xr P w K mg base f c A outer s H E) (T := T) (TT := TTc K Cp Ce) (t := fun E => Sp.tSMeth Cp (spReadX K Cp Ce) [] E (tC (.ref Cp)) (tCons (tVar 4) tNil)) (k := 6) rfl gC kC lkC hcC bC sc__law_caught rfl (.inl rfl) give TB rfl mem uniq hrl (LamX.lamS_by (show LamX.lamSB (defScope s__law_right) _ = true from by decide +kernel)) rfl (fun _ _ _ _ _ => rfl) (fun A2 outer2 s2 H2 E2 f2 c2 hr2 => Sp.pe_smeth (pe_glob (v := .ref Cp) rfl CC.gP rfl) Rr Rc RG (hr2.mono (by decide)) Rb .nil (L2.passes_call (takes_of rfl rfl rfl rfl) fun _ _ _ _ h => h) (pa_cons (pv 4) pa_nil))) pa_nil)))
    (pss_cons (ps_expr (pe_bm PySem.F.plainAttrs_list PySem.F.slot_list_append PySem.F.type_list_append mt_append (pv 7) (pa_cons (LamX.pe_lamcall (X := Xr P w K mg base f c A outer s H E) (T := T) (TT := TTc K Cp Ce) (t := fun E => Sp.tSMethK Cp (["text"] : List Str).length (spReadX K Cp Ce) (fun vs zs => vs ++ zs) E (tC (.ref Cp)) (tCons (tVar 4) tNil)) (k := 6) rfl gC kC lkC hcC bC sc__law_caught rfl (.inl rfl) give TB rfl mem uniq hrl (LamX.lamS_by (show LamX.lamSB (defScope s__law_right) _ = true from by decide +kernel)) rfl (fun _ _ _ _ _ => rfl) (fun A2 outer2 s2 H2 E2 f2 c2 hr2 => Sp.pe_smethK0 (X := LamX.lamCx (Xr P w K mg base f c A outer s H E) A2 outer2 s2 H2 E2 _ f2 c2) (ks := ["text"]) (pe_glob (v := .ref Cp) rfl CC.gP rfl) Rr Rc RG (hr2.mono (by decide)) Rk (L2.passes_call (takes_of rfl rfl rfl rfl) fun _ _ _ _ h => h) (pk_cons (pv 4) pk_nil))) pa_nil)))
    (pss_one (ps_if (pt_cmpR (op_neD hu64) (pv 7) (pe_lst (pa_cons (pv 6) (pa_cons (pv 6) pa_nil))) (nomark _)) (pss_one (ps_ret pe_bl)) pss_nil))))))))))
    (pss_one (ps_ret pe_bl))), ?_⟩
  have hpo : ∃ xs, H p = some (.lst xs) := (pmT T p).occ _ _ hi rfl
  have g0 : Good ⟨K, pmT T p, [p], H⟩ [] H := ⟨.refl, hi, fun q e => by
    obtain rfl := Option.some.inj e
    simp, fun a ha => by
    rw [List.mem_singleton.mp ha]
    exact hpo, (fun _ h => nomatch h), List.nodup_nil⟩
  refine (?_ : WS ⟨K, pmT T p, [p], H⟩ _ (startD ["_law_purse_here", "_law_turn", "_law_wide", "_law_drawn", "_law_line", "_law_found", "_law_due", "_law_told"] [.pur]) { nx := fun _ => False, rt := fun d => d = .bl true }) (fun _ => none) [] H _ (start_Q rfl .nil g0) (fun _ _ e => by cases e) _ ⟨fun _ _ _ _ _ _ h => h.elim, fun v d H' kp o a hd => ?_, fun _ _ _ _ _ _ e => e.elim, fun _ _ _ _ _ _ e => e.elim⟩
  · refine s_seq (s_for ?_)
    refine i_rng1 ?_
    walk_at "mm"
    refine ⟨by omega, ?_⟩
    refine ⟨fun i ρ => ∃ z1 z2 z3 z4 z5 z6 z7 : Option D, ρ = [some .pur, z1, z2, z3, z4, z5, z6, z7], ⟨_, _, _, _, _, _, _, rfl⟩, ?_, ?_⟩
    · rintro i d ρ hi hd ⟨z1, z2, z3, z4, z5, z6, z7, rfl⟩
      refine g_name hd ?_
      refine s_seq (s_set ?_)
      walk_at "mm"
      refine w_callT (p := p) rfl ?_
      walk_at "mm"
      refine ⟨by walk_at "cln", _, rfl, by decide, by decide, fun r r0 r1 => ?_⟩
      refine o_menu r0 (by simp; omega) fun x hx cx fz => ?_
      obtain ⟨n, rfl, n0, n1⟩ : ∃ n, x = .int n ∧ 0 ≤ n ∧ n ≤ 9 := by
        simp only [List.mem_cons, List.not_mem_nil, or_false] at hx
        rcases hx with rfl | rfl | rfl | rfl | rfl <;> exact ⟨_, rfl, by decide, by decide⟩
      refine ⟨trivial, ?_⟩
      refine s_seq (s_set ?_)
      refine w_callT (p := p) rfl ?_
      refine w_cons (w_var rfl ?_)
      refine w_cons ?_
      refine w_callT (p := p) rfl ?_
      refine w_cons (w_var rfl ?_)
      refine w_cons ?_
      refine w_callT (p := p) rfl ?_
      walk_at "mm"
      refine ⟨by walk_at "cln", _, rfl, by decide, by decide, fun m m0 m1 => ?_⟩
      walk_at "mm"
      refine ⟨by walk_at "cln", m, rfl, m0, by omega, fun ls l1 l2 l3 => ?_⟩
      walk_at "mm"
      refine ⟨by walk_at "cln", ls, n, rfl, l1, l2, l3, n0, by omega, fun rs ok el => ?_⟩
      refine ⟨trivial, ?_⟩
      refine s_seq (s_mono (O' := { nx := fun ρ => ∃ x, LineOk Cp x ∧ ρ = [some .pur, some d, some (.int n), some (.tup (rs.map rowD)), some x, z5, z6, z7], rt := fun _ => False }) ?_ (fun ρ h => ?_) (fun _ h => h.elim) (fun _ h => h.elim) (fun _ h => h.elim))
      · refine s_set ?_
        refine w_callT (p := p) rfl ?_
        walk_at "mm"
        exact ⟨by walk_at "cln", n, rs, rfl, ok, n0, n1, fun y ty => ⟨trivial, .str y, .inl ⟨y, rfl, ty⟩, rfl⟩, fun x ox => ⟨ox.cl, x, .inr ox, rfl⟩⟩
      obtain ⟨x, lx, rfl⟩ := h
      have cx := lx.cl
      refine s_seq (s_mono (O' := { nx := fun ρ => ∃ f a, Clean f ∧ FoundR Cp x f a ∧ ρ = [some .pur, some d, some (.int n), some (.tup (rs.map rowD)), some x, some f, z6, z7], rt := fun _ => False }) ?_ (fun ρ h => ?_) (fun _ h => h.elim) (fun _ h => h.elim) (fun _ h => h.elim))
      · refine s_set ?_
        walk_at "mm"
        refine c_isS (C := ⟨K, pmT T p, [p], H⟩) CC.SC lx.tg ?_
        refine ⟨_, rfl, ?_⟩
        rcases lx with ⟨y, rfl, ty⟩ | ox
        · refine iteT ?_
          walk_at "mm"
          refine ⟨by walk_at "cln", y, rfl, ty.mono (by omega), fun ng => ?_, fun n rs g e => ?_⟩
          · obtain ⟨sh, rk, hs⟩ := tx_rok (Cp := Cp) ty
            exact ⟨trivial, .non, dueT sh, trivial, .no (.no trivial (.p rfl) (fun z e => by cases e; have := ty.len; omega) (fun ⟨n, rs, g, e⟩ => ng ⟨n, rs, g, D.str.inj e⟩) rk) rk hs, rfl⟩
          · subst e
            exact ⟨trivial, .tup [.int n, .tup (rs.map rowD)], dueP n rs, trivial, .yes g ty.len, rfl⟩
        · rw [ox.ns]
          refine iteF ?_
          obtain ⟨sh, rk, hs⟩ := ox.sh
          walk_at "mm"
          exact ⟨trivial, .non, dueT sh, trivial, .no (.no ox.cl ox.tg (fun z e => by
            have := ox.ns
            rw [e] at this
            cases this) (fun ⟨n, rs, g, e⟩ => by
            have := ox.ns
            rw [e] at this
            cases this) rk) rk hs, rfl⟩
      obtain ⟨f, a, cf, fr, rfl⟩ := h
      obtain ⟨xa, ya, ea, ca1, ca2⟩ := fr.shape
      have dr := fr.due
      have ca : Clean a := by
        rw [ea]
        trivial
      refine s_seq (s_mono (O' := { nx := fun ρ => ρ = [some .pur, some d, some (.int n), some (.tup (rs.map rowD)), some x, some f, some a, z7], rt := fun _ => False }) ?_ (fun ρ h => ?_) (fun _ h => h.elim) (fun _ h => h.elim) (fun _ h => h.elim))
      · refine s_set ?_
        cases fr with
        | no _ rk hs =>
          walk_at "mm"
          refine o_isN1 ?_
          walk_at "mm"
          refine c_reprX rk ?_
          walk_at "mm"
          exact ⟨trivial, rfl⟩
        | yes g l =>
          walk_at "mm"
          refine o_isN0 ?_
          walk_at "mm"
          obtain ⟨pp, rp, ep⟩ := (good_shb g l).rok
          refine c_repr rp ?_
          rw [ep]
          walk_at "mm"
          exact ⟨trivial, rfl⟩
      subst h
      refine s_seq (s_setCell (n_lst ?_))
      refine w_cons ?_
      refine w_readC (.inl ⟨p, rfl⟩) ?_
      walk_at "mm"
      refine ⟨x, a, rfl, dr, ?_⟩
      refine w_nil ⟨by rw [sizeLine_eq]; simp, by walk_at "cln", ?_⟩
      refine s_seq (s_app (i := 7) rfl (by simp) ?_)
      refine w_readK (.inl ⟨p, rfl⟩) ?_
      walk_at "mm"
      refine ⟨x, a, rfl, dr, ?_⟩
      refine ⟨ca, ?_⟩
      refine s_freeze (i := 7) rfl ?_
      subst ea
      refine s_if ?_
      walk_at "mm"
      refine o_neD (p := .list [.tuple [.str xa, .str ya], .tuple [.str xa, .str ya]]) (q := .list [.tuple [.str xa, .str ya], .tuple [.str xa, .str ya]]) rfl rfl (shaped_dd ca1 ca2) (shaped_dd ca1 ca2) ?_
      refine ⟨false, by simp [PyData.eqv, PyData.eqvAll], ?_⟩
      walk_at "mm"
      exact ⟨_, _, _, _, _, _, _, rfl⟩
    · rintro ρ ⟨z1, z2, z3, z4, z5, z6, z7, rfl⟩
      walk_at "mm"
      rfl
  · subst hd
    have e := a.bl
    subst e
    exact k H' kp o
end
end Dl
set_option Elab.async false
set_option linter.all false
set_option maxRecDepth 100000
set_option maxHeartbeats 4000000
namespace Dl
open PySem PySem.Spec PyProof.Rows L2 Sp RZ
local macro_rules | `(tactic| walk_at "dd1") => `(tactic| first
  | ((with_reducible refine' w_var ?hv ?hk); (case hv => exact rfl))
  | with_reducible refine w_int ?_
  | with_reducible refine w_str ?_
  | with_reducible refine w_bl ?_
  | with_reducible refine w_non ?_
  | with_reducible refine w_ty ?_
  | with_reducible refine w_raw ?_
  | with_reducible refine w_nil ?_
  | with_reducible refine w_cons ?_
  | with_reducible refine w_cb ?_
  | with_reducible refine w_op ?_
  | with_reducible refine w_un ?_
  | with_reducible refine w_andV ?_
  | with_reducible refine w_orV ?_
  | with_reducible refine w_notV ?_
  | with_reducible refine w_if ?_
  | with_reducible refine w_and ?_
  | with_reducible refine w_or ?_
  | with_reducible refine w_not ?_
  | with_reducible refine w_test ?_
  | with_reducible refine w_tb ?_
  | with_reducible refine w_chain ?_
  | with_reducible refine w_tup ?_
  | with_reducible refine w_lst ?_
  | with_reducible refine w_sl ?_
  | with_reducible refine p_none ?_
  | with_reducible refine p_some ?_
  | with_reducible refine w_call ?_
  | with_reducible refine s_seq ?_
  | with_reducible refine s_nil ?_
  | with_reducible refine s_ret ?_
  | with_reducible refine s_if ?_
  | with_reducible refine s_set ?_
  | with_reducible refine s_drop ?_
  | with_reducible refine s_brk ?_
  | with_reducible refine s_cont ?_
  | with_reducible refine s_asg ?_
  | with_reducible refine o_int ?_
  | with_reducible refine o_cmp ?_
  | with_reducible refine o_ltS ?_
  | with_reducible refine o_leS ?_
  | with_reducible refine o_neg ?_
  | with_reducible refine c_int ?_
  | with_reducible refine c_intB ?_
  | with_reducible refine c_abs ?_
  | with_reducible refine t_yes ?_
  | refine ⟨_, rfl, ?_⟩
  | with_reducible refine ⟨trivial, ?_⟩
  | refine iteT ?_
  | refine iteF ?_)
local macro_rules | `(tactic| walk_at "dd") => `(tactic| repeat (walk_at "dd1"))
local macro_rules | `(tactic| walk_at "cln") => `(tactic| repeat (first | exact cl_nil | refine cl_cons (by first | assumption | trivial) ?_))
local macro_rules | `(tactic| walk_at "mm") => `(tactic| repeat (first
  | with_reducible refine w_dnew ?_
  | with_reducible refine w_disp1 ?_
  | refine o_intC (show CPow _ _ from ⟨by decide, by decide, by decide⟩) ?_
  | walk_at "dd1"
  | refine c_list (.inr rfl) ?_
  | refine o_catT (by rw [sizeLine_eq]; simp <;> omega) ?_
  | refine u_slT ?_
  | refine o_ixT rfl fun _ => ?_
  | refine ⟨by rw [sizeLine_eq]; simp <;> omega, by walk_at "cln", ?_⟩))
section
variable {C : Cxt} {ρ : Rho} {P : D → Prop} {T : List (Addr × Str)}
theorem c_min2 {i j : Int} (k : P (.int (if j < i then j else i))) : CallD C (fun xs H Q => ∃ i j, xs = [.int i, .int j] ∧ Q (.int (if j < i then j else i)) H) [.int i, .int j] P := fun cs H vs g a Q q => by
  obtain ⟨v, w, rfl, a, b⟩ := vals2 a
  rw [a.int, b.int]
  exact ⟨i, j, rfl, q _ _ H (Same.refl H) (.c (.int _)) k⟩
theorem c_max2 {i j : Int} (k : P (.int (if j > i then j else i))) : CallD C (fun xs H Q => ∃ i j, xs = [.int i, .int j] ∧ Q (.int (if j > i then j else i)) H) [.int i, .int j] P := fun cs H vs g a Q q => by
  obtain ⟨v, w, rfl, a, b⟩ := vals2 a
  rw [a.int, b.int]
  exact ⟨i, j, rfl, q _ _ H (Same.refl H) (.c (.int _)) k⟩
theorem c_minB {i j : Int} (k : ∀ m : Int, m ≤ i → (m = i ∨ m = j) → P (.int m)) : CallD C (fun xs H Q => ∃ i j, xs = [.int i, .int j] ∧ Q (.int (if j < i then j else i)) H) [.int i, .int j] P := c_min2 (k _ (by split <;> omega) (by split <;> simp))
theorem c_maxB {i j : Int} (k : ∀ m : Int, i ≤ m → (m = i ∨ m = j) → P (.int m)) : CallD C (fun xs H Q => ∃ i j, xs = [.int i, .int j] ∧ Q (.int (if j > i then j else i)) H) [.int i, .int j] P := c_max2 (k _ (by split <;> omega) (by split <;> simp))
theorem sql_keep {K : PySem.W.Frag} {T : List (Addr × Str)} {H H' : Hp} {l : Addr} {xs : List V} (h : SqL K H l xs) (k : (pmL T).keep H H') : SqL K H' l xs := by
  rcases h with (h | ⟨o, h⟩) | h
  · exact .inl (.inl (k _ _ (fun z => nomatch z) (fun _ => rfl) h))
  · exact .inl (.inr ⟨o, k _ _ (fun z => nomatch z) (fun _ => rfl) h⟩)
  · exact .inr h
theorem c_lenR {l : Addr} {xs : List V} (hm : C.m = pmL T) (h : SqL C.K C.H0 l xs) (k : P (.int (xs.length : Int))) : CallD C (fun xs H Q => ∃ x n, xs = [x] ∧ LenV C.K x H n ∧ Q (.int n) H) [.raw l] P := fun cs H vs g a Q q => by
  obtain ⟨v, rfl, a2⟩ := vals1 a
  rw [a2.raw]
  have kp := g.keep
  rw [hm] at kp
  exact ⟨_, xs.length, rfl, .inl ⟨xs, sql_keep h kp, rfl⟩, q _ _ H (Same.refl H) (.c (.int _)) k⟩
/-- a cell of the script -/
theorem w_cell {l : Addr} {ns : List Int} {tr : TA} {E : XK} (hm : C.m = pmL T) (h : SqL C.K C.H0 l (ns.map V.int)) (hn : ns.length ≤ 63) (k : WA C tr ρ fun ds => ∃ j : Nat, ds = [.raw l, .int (j : Int)] ∧ j < 100 ∧ ∀ z : Int, P (.int z)) : WE C (tCall (Sp.spCell C.K) [] E tr) ρ P := fun cs H σ r Q q =>
  k cs H σ r _ fun vs ds H1 k1 o1 a ⟨j, e, hj, pz⟩ => by
    subst e
    obtain ⟨v, w, rfl, a, b⟩ := vals2 a
    rw [a.raw, b.int]
    have kp := (r.good.step k1 o1).keep
    rw [hm] at kp
    exact ⟨l, ns, j, rfl, sql_keep h kp, hj, hn, fun z H2 s => q _ _ H2 (k1.trans (.same s)) (o1.same s) (.c (.int z)) (pz z)⟩
/-- _law_right(_law_purse(z)) -/
theorem w_right {tr : TA} {E E2 : XK} (hm : C.m = pmL T) (h : WA C tr ρ fun ds => ∃ z : Int, ds = [.int z] ∧ P (.bl true)) : WE C (tCall (spRight T) [] E (tCons (tCall Sp.spPurse [] E2 tr) tNil)) ρ P := fun cs H σ r Q q =>
  h cs H σ r _ fun vs ds H1 k1 o1 a ⟨z, e, pz⟩ => by
    subst e
    obtain ⟨v, rfl, a2⟩ := vals1 a
    rw [a2.int]
    have o1' : (pmL T).inv H1 := by
      rw [hm] at o1
      exact o1
    refine ⟨z, rfl, fun p H2 hp s pu => ⟨p, rfl, ⟨pu, o1'.ext s⟩, fun H3 kp inv => ?_⟩⟩
    have k3 : C.m.keep H1 H3 := fun b o n t e => by
      have e2 := s _ _ e
      refine kp b o (fun w => ?_) (fun _ => t (by rw [hm]; rfl)) e2
      obtain rfl := Option.some.inj w
      rw [hp] at e
      cases e
    refine q _ _ H3 (k1.trans k3) ?_ (.c (.bl true)) pz
    rw [hm]
    exact inv.2
end
/-- no plan's text, as can be reckoned -/
def badC (z : Str) : Bool := match Txt.split z "\n" with
  | [] => true
  | h :: t => match rsv h with
    | none => true
    | some n => !(decide (Sp.planS n (t.map Sp.lrow) = z)) || !((upV ((t.map Sp.lrow).map fun r => V.str r.1)).all id)
theorem badC_not {z : Str} (b : badC z = true) : ¬ ∃ n rs, Sp.GoodP n rs ∧ D.str z = .str (Sp.planS n rs) := fun ⟨n, rs, g, e⟩ => by
  have e := D.str.inj e
  obtain ⟨h, t, hs⟩ := split_cons z
  obtain ⟨r1, r2⟩ := read_good hs g e
  unfold badC at b
  rw [hs] at b
  dsimp only at b
  rw [r1] at b
  dsimp only at b
  rw [r2, ← e, decide_eq_true rfl, g.rows.up] at b
  cases b
def lines0 : List Str := ["", "\n", "3\n", "3\nA #.#\n", "3\nA #.#\nA ...", "3\nB ...\nA ...", "3\nA  #.#", "-1", "03", "3\n\nA #.#", " 3"]
theorem bad_lines : (lines0.all badC) = true := by decide +kernel
theorem tx_lines : (lines0.all fun z => decide (z.length ≤ 1000) && z.cps.toList.all fun c => decide (c < 1114112)) = true := by decide +kernel
section
variable {P : Program} {w : World} {K : PySem.W.Frag} {mg : Str → Option Value} {base : Heap} {Cp : Addr} {Ce : Nat → Addr} {cV cM : Addr}
abbrev s_law : Stmt := top 45
theorem sc_law : FnScope ["_law_script", "_law_some", "_law_line", "_law_cells", "_law_at", "_law_cell_here"] ["_law_script"] (defScope s_law) := ⟨rfl, rfl, rfl, by decide +kernel, rfl, by decide +kernel, by decide +kernel⟩
abbrev Xl (P : Program) (w : World) (K : PySem.W.Frag) (mg : Str → Option Value) (base : Heap) (f c : Addr) (A : Around) (outer : List Env) (s : Shared) (H : Hp) (E : XK) : Cx := (cxOf CX0 P w K mg base ["_law_script", "_law_some", "_law_line", "_law_cells", "_law_at", "_law_cell_here"] "law" (defScope s_law) f (.ref c) A outer s H E).nox
/-- law(script) -/
def spLaw (K : PySem.W.Frag) (T : List (Addr × Str)) : Sp := fun vs H Q _ => ∃ (l : Addr) (ns : List Int), vs = [.ref l] ∧ SqL K H l (ns.map V.int) ∧ ns.length ≤ 63 ∧ LamX.Tabs T H ∧ ∀ H', Q (.bl true) H'
theorem g_law {f c Pt fR fC fP : Addr} {fd dR dC dP : FuncData} {T : List (Addr × Str)} (F : FunC K "law" "law" s_law f fd (.ref c)) (B : Bt mg) (CC : CaughtR P w K mg base Cp Ce cV cM) (TB : LamX.TabB base mg c Pt) (mem : (Pt, lamQ "law" s_law) ∈ T) (uniq : ∀ p ∈ T, p.1 = Pt → p.2 = lamQ "law" s_law)
    (GR : FnG P w K mg base CX0 10 fR dR ["_law_purse_here"] (spRight T)) (gR : mg "_law_right" = some (.ref fR)) (kR : PySem.W.keepIn K (.ref fR) = true) (bR : Binds K dR ["_law_purse_here"] [])
    (GC : FnOk P w K mg base CX0 1 fC dC ["_law_script", "_law_at"] (Sp.spCell K)) (gCe : mg "_law_cell" = some (.ref fC)) (kCe : PySem.W.keepIn K (.ref fC) = true) (bCe : Binds K dC ["_law_script", "_law_at"] [])
    (GPu : FnOk P w K mg base CX0 1 fP dP ["_law_cell_here"] Sp.spPurse) (gPu : mg "_law_purse" = some (.ref fP)) (kPu : PySem.W.keepIn K (.ref fP) = true) (bPu : Binds K dP ["_law_cell_here"] []) :
    FnG P w K mg base CX0 11 f fd ["_law_script"] (spLaw K T) := by
  refine okGC F sc_law (fun vs H Q E h => ?_) (fun A outer s H vs Q E hr hg h => ?_)
  · obtain ⟨l, ns, rfl, _⟩ := h
    rfl
  obtain ⟨l, ns, rfl, hS, hns, tabs, k⟩ := h
  obtain ⟨fE, fdE, FE, gE, kE, bE⟩ := CC.err
  obtain ⟨gc, fdc, FC, gC⟩ := CC.def_
  obtain ⟨mc, pr, fr, fdr, Rr, Rc, RG, Rb, Rk⟩ := CC.rd
  have kC := FC.kp
  have bC : Binds K fdc ["_law_act"] [] := FC.binds (fun _ _ _ _ _ _ us hl => match us, hl with | [_], _ => rfl)
  obtain ⟨oc, od, kV, doc, pm, an, cdc, ct, osl, rfl, lkC, hcC⟩ := FC.ex
  have hu : (A.deeper (envOfC "law" (defScope s_law) s.heap.objs.size f (.ref c))).units + 100 < cLine := by
    have := hr.un
    omega
  have hu64 : (A.deeper (envOfC "law" (defScope s_law) s.heap.objs.size f (.ref c))).units + 64 < cLine := by
    omega
  have hrl : Room (6 + 2) (Xl P w K mg base f c A outer s H E).A := hr.mono (by decide)
  have give : LamX.GivesTo (Xl P w K mg base f c A outer s H E) ["_law_act", "_law_told", "_law_e"] "_law_caught" (defScope s__law_caught) gc cdc (defBody s__law_caught) "_law_act" ((Xl P w K mg base f c A outer s H E).env.qual ++ "<lambda>") (TTc K Cp Ce) :=
    caught_gives (X := Xl P w K mg base f c A outer s H E) CC.T B CC.PG CC.gP CC.exm FE gE kE bE hg (fun n => (hrl.mono (show 5 ≤ 8 by decide)).deeper _)
  refine ⟨_, (pss_cons (ps_set (i := 1) sc_law.nd rfl (Or.inl rfl) (pe_lst (pa_cons pe_str (pa_cons pe_str (pa_cons pe_str (pa_cons pe_str (pa_cons pe_str (pa_cons pe_str (pa_cons pe_str pa_nil)))))))))
    (pss_cons (ps_for PassesOwn.never rfl (pi_list (pe_op op_cat (pv 1) (pe_lst (pa_cons pe_str (pa_cons pe_str (pa_cons pe_str (pa_cons pe_str pa_nil))))))) (pg_name (i := 2) sc_law.nd rfl (Or.inr rfl))
    (pss_one (ps_if (pt_cmpR (op_neD hu64) (LamX.pe_lamcall (X := Xl P w K mg base f c A outer s H E) (T := T) (TT := TTc K Cp Ce) (t := fun E => Sp.tSMeth Cp (spReadX K Cp Ce) [] E (tC (.ref Cp)) (tCons (tVar 2) tNil)) (k := 6) rfl gC kC lkC hcC bC sc__law_caught rfl (.inl rfl) give TB rfl mem uniq hrl (LamX.lamS_by (show LamX.lamSB (defScope s_law) _ = true from by decide +kernel)) rfl (fun _ _ _ _ _ => rfl) (fun A2 outer2 s2 H2 E2 f2 c2 hr2 => Sp.pe_smeth (pe_glob (v := .ref Cp) rfl CC.gP rfl) Rr Rc RG (hr2.mono (by decide)) Rb .nil (L2.passes_call (takes_of rfl rfl rfl rfl) fun _ _ _ _ h => h) (pa_cons (pv 2) pa_nil))) (pe_tup (pa_cons pe_str (pa_cons (pe_callB (call_reprX (X := Xl P w K mg base f c A outer s H E) CC.RO (hr.mono (by decide)) hg) (by rfl) (B _ (by decide)) (by decide +kernel) (pa_cons (pv 2) pa_nil)) pa_nil))) (nomark _)) (pss_one (ps_ret pe_bl)) pss_nil)))
    (pss_cons (ps_setLc (i := 3) (own := [("_law_at", 4)]) (tt := tYes) rfl sc_law.nd rfl rfl (sw_true rfl rfl rfl (by decide +kernel)) (pi_range1 rfl (B _ (by decide)) (pa_cons (pe_callB (call_max2 rfl) (by rfl) (B _ (by decide)) (by decide +kernel) (pa_cons pe_int (pa_cons (pe_callB (call_min2 rfl) (by rfl) (B _ (by decide)) (by decide +kernel) (pa_cons (pe_callB call_len (by rfl) (B _ (by decide)) PySem.boot_len (pa_cons (pv 0) pa_nil)) (pa_cons pe_int pa_nil))) pa_nil))) pa_nil)) (blkOk_by (N := ["_law_script", "_law_some", "_law_line", "_law_cells", "_law_at", "_law_cell_here"]) (sc := defScope s_law) (by decide +kernel)) (fun _ _ _ _ _ => (pg_name (i := 4) sc_law.nd rfl (Or.inl rfl))) (fun _ _ _ _ _ => pts_nil) (fun _ _ _ _ _ => (pe_call GC (hr.mono (by decide)) rfl gCe kCe bCe .nil pass0 (pa_cons (pv 0) (pa_cons (pv 4) pa_nil)))))
    (pss_one (ps_ret (pe_callB (cr_all rfl) (by rfl) (B _ (by decide)) (by decide +kernel) (pa_cons (pe_lc (own := [("_law_cell_here", 5)]) (tt := tYes) rfl sc_law.nd (pi_list (pv 3)) (blkOk_by (N := ["_law_script", "_law_some", "_law_line", "_law_cells", "_law_at", "_law_cell_here"]) (sc := defScope s_law) (by decide +kernel)) (fun _ _ _ _ _ => (pg_name (i := 5) sc_law.nd rfl (Or.inl rfl))) (fun _ _ _ _ _ => pts_nil) (fun _ _ _ _ _ => (pe_callG GR hg (hr.mono (by decide)) rfl gR kR bR .nil pass0 (pa_cons (pe_call GPu (hr.mono (by decide)) rfl gPu kPu bPu .nil pass0 (pa_cons (pv 5) pa_nil)) pa_nil)))) pa_nil))))))), ?_⟩
  have g0 : Good ⟨K, pmL T, [], H⟩ [] H := ⟨.refl, tabs, (fun q e => nomatch e), (fun a ha => nomatch ha), (fun _ h => nomatch h), List.nodup_nil⟩
  refine (?_ : WS ⟨K, pmL T, [], H⟩ _ (startD ["_law_script", "_law_some", "_law_line", "_law_cells", "_law_at", "_law_cell_here"] [.raw l]) { nx := fun _ => False, rt := fun d => d = .bl true }) (fun _ => none) [] H _ (start_R (C := ⟨K, pmL T, [], H⟩) (.cons (.raw l) .nil) g0) (fun _ _ e => by cases e) _ ⟨fun _ _ _ _ _ _ h => h.elim, fun v d H' kp o a hd => ?_, fun _ _ _ _ _ _ e => e.elim, fun _ _ _ _ _ _ e => e.elim⟩
  · refine s_seq ?_
    walk_at "mm"
    refine ⟨trivial, ?_⟩
    refine s_seq (s_for (i_list ?_))
    walk_at "mm"
    refine o_cat (.inl rfl) (.inl rfl) (by rw [sizeLine_eq]; simp) ?_
    refine ⟨lines0.map .str, rfl, ?_⟩
    refine ⟨fun i ρ => ∃ z2 : Option D, ρ = [some (.raw l), some (.lst [.str "", .str "\n", .str "3\n", .str "3\nA #.#\n", .str "3\nA #.#\nA ...", .str "3\nB ...\nA ...", .str "3\nA  #.#"]), z2, none, none, none], ⟨_, rfl⟩, ?_, ?_⟩
    · rintro i d ρ hi hd ⟨z2, rfl⟩
      rw [List.getElem?_map] at hi
      obtain ⟨y, hli, rfl⟩ := Option.map_eq_some_iff.mp hi
      have my := List.mem_of_getElem? hli
      have by_ := List.all_eq_true.mp bad_lines y my
      have ty0 := List.all_eq_true.mp tx_lines y my
      simp only [Bool.and_eq_true, decide_eq_true_eq, List.all_eq_true] at ty0
      have ty : Tx 1000 y := ⟨ty0.1, ty0.2⟩
      obtain ⟨sh, rk, hs⟩ := tx_rok (Cp := Cp) ty
      refine g_name trivial ?_
      refine s_if ?_
      refine w_test (w_op ?_)
      refine w_readC (.inr rfl) ?_
      walk_at "mm"
      refine ⟨_, dueT sh, rfl, .no trivial (.p rfl) (fun z e => by cases e; have := ty.len; omega) (badC_not by_) rk, ?_⟩
      walk_at "mm"
      refine c_reprX rk ?_
      walk_at "mm"
      refine o_neD (p := .tuple [.str "text", .str sh]) (q := .tuple [.str "text", .str sh]) rfl rfl (shaped_two (ch_of _) hs) (shaped_two (ch_of _) hs) ?_
      refine ⟨false, by simp [PyData.eqv, PyData.eqvAll], ?_⟩
      walk_at "mm"
      exact ⟨_, rfl⟩
    · rintro ρ ⟨z2, rfl⟩
      walk_at "mm"
      refine w_lc ?_
      refine i_rng1 ?_
      walk_at "mm"
      refine c_lenR rfl hS ?_
      walk_at "mm"
      refine c_minB fun t0 t1 t2 => ?_
      walk_at "mm"
      refine c_maxB fun m m1 m2 => ?_
      have hnl : ((ns.map V.int).length : Int) ≤ 63 := by rw [List.length_map]; omega
      have m8 : m ≤ 63 := by omega
      walk_at "mm"
      refine ⟨by omega, ?_⟩
      refine ⟨by rw [rngD_len]; omega, ?_⟩
      refine ⟨fun i acc => ∃ zs : List Int, acc = zs.map .int ∧ zs.length = i, ⟨[], rfl, rfl⟩, fun i d acc hi hc ⟨zs, ez, lz⟩ => ?_, fun acc _ ⟨zs, ez, lz⟩ => ?_⟩
      · obtain ⟨il, rfl⟩ := rngD_get hi
        refine gc_name hc ?_
        refine t_yes (iteT ?_)
        refine w_cell rfl hS hns ?_
        walk_at "mm"
        have i100 : i < 100 := by omega
        refine ⟨by simpa using i100, fun z => ⟨trivial, zs ++ [z], by rw [ez]; simp, by simp [lz]⟩⟩
      · subst ez
        rw [rngD_len] at lz
        refine ⟨trivial, ?_⟩
        walk_at "mm"
        refine w_lcF ?_
        refine i_list ?_
        walk_at "mm"
        refine ⟨by rw [List.length_map]; omega, fun _ => .bl true, fun i d hi hc => ?_, ?_⟩
        · obtain ⟨z, _, rfl⟩ := List.mem_map.mp (List.mem_of_getElem? hi)
          refine gc_name hc ?_
          refine w_right rfl ?_
          walk_at "mm"
          exact ⟨rfl, trivial⟩
        · walk_at "mm"
          refine c_all (bs := zs.map fun _ => true) (.inl (by rw [List.map_map, List.map_map]; rfl)) ?_
          have e : (zs.map fun _ => true).all id = true := by simp
          rw [e]
          rfl
  · subst hd
    have e := a.bl
    subst e
    exact k H'
end
end Dl
set_option Elab.async false
set_option linter.all false
set_option maxRecDepth 100000
set_option maxHeartbeats 4000000
namespace Dl
open PySem PySem.Spec PyProof.Rows L2 Sp LamX
/-- the end of a law that makes lambdas and asks for reprs -/
theorem law_endT {P : Program} {w : World} {K : PySem.W.Frag} {mg mb : Str → Option Value} {CX : CXT} {k : Nat} {fa a : Addr} {cs : List (Addr × Addr)} {fd : FuncData} {x : Str} {sp : Sp} {s₁ : Shared} {vs : List Value} {ns : List Int}
    (inK : K.In s₁.heap) (nsM : s₁.heap.Ns mainGlobals mg) (nsB : s₁.heap.Ns builtinsNs mb) (bltB : ∀ x : Str, x ≠ "__name__" → mb x = bootBuiltins x) (limH : s₁.heap.NoLimit) (genE : s₁.gens = #[])
    (tabE : ∀ p ∈ cs, s₁.heap.get? p.2 = some { cls := .none, data := .fields #[] }) (tabK : ∀ p ∈ cs, K.lookup p.2 = none) (codeH : ∀ p ∈ cs, PySem.W.CodeHd s₁.heap p.1 p.2)
    (bmM : ∃ (bm : Addr) (ob : Obj), mg "__builtins__" = some (.ref bm) ∧ bm ≠ builtinsNs ∧ s₁.heap.get? bm = some ob ∧ ob.cls = .type "module" ∧ ob.dict = some builtinsNs ∧ ob.data = .plain)
    (objA : s₁.heap.get? a = some { cls := .type "list", data := .seq vs.toArray }) (intsV : IntsAre vs ns) (lenN : ns.length ≤ sizeLine) (roomC : Room k callerA)
    (fnF : ∀ base : Heap, K.In base → base.Ns mainGlobals mg → (∀ p ∈ cs, TabB base mg p.1 p.2) → FnG P w K mg base CX k fa fd [x] sp) (bindF : ∀ (s : Shared) (u : Value), BindsTo s fd ⟨[u], []⟩ [(x, u)])
    (spH : ∀ H : Hp, (∀ p ∈ cs, H p.2 = some (.tbl #[])) → SqL K H a (ns.map V.int) → sp [.ref a] H (fun v _ => v = .bl true) fun _ _ _ => False)
    (noX : ∀ H e s', CX [] H s₁ (fun _ _ _ => False) e s' → False) :
    codeAny (model P w) callerA (.call (.ref fa) ⟨[.ref a], []⟩) (fun r s' => r = .ok (.ret (.bool true)) ∧ OldK s₁.heap s'.heap ∧ s'.os = s₁.os ∧ AllBare s'.gens) s₁ := by
  have rvs := vals_ints intsV
  have manyV := intsV.length
  have atT : ∀ b : Addr, b ∈ cs.map (·.2) → s₁.heap.get? b = some { cls := .none, data := .fields #[] } := fun b nsB => by
    obtain ⟨p, memP, e⟩ := List.mem_map.mp nsB
    rw [← e]
    exact tabE p memP
  have notT : a ∉ cs.map (·.2) := fun z => by
    have q := atT a z
    rw [objA] at q
    have z' : Data.seq vs.toArray _ = Data.fields #[] := congrArg Obj.data (Option.some.inj q)
    cases z'
  have inT : ∀ p ∈ cs, p.2 ∈ cs.map (·.2) := fun p memP => List.mem_map.mpr ⟨p, memP, rfl⟩
  -- from an abstract heap in which nothing but the script and the tables may be tracked
  have corE : ∀ H : Hp, (∀ p ∈ cs, H p.2 = some (.tbl #[])) → (∀ b, H b = none ∨ b ∈ cs.map (·.2) ∨ ∃ o xs, H b = some (.frz o (.lst xs))) → SqL K H a (ns.map V.int) → HOk P w H s₁.heap → (∀ b, H b ≠ none → b = a ∨ b ∈ cs.map (·.2)) → (H a ≠ none → K.lookup a = none) →
      codeAny (model P w) callerA (.call (.ref fa) ⟨[.ref a], []⟩) (fun r s' => r = .ok (.ret (.bool true)) ∧ OldK s₁.heap s'.heap ∧ s'.os = s₁.os ∧ AllBare s'.gens) s₁ := by
    intro H Htab Honly Hlist Hok Hat Hout
    have toBase : ∀ {b : Addr} {o : Obj}, s₁.heap.get? b = some o → H b = none → (hidT s₁.heap H).get? b = some o := fun e n => hidT_get e n
    have unD : ∀ {b : Addr} {o : Obj}, s₁.heap.get? b = some o → (∀ vs n, o.data ≠ .seq vs n) → o.data ≠ .fields #[] → H b = none := fun {b o} e h1 h2 => by
      cases q : H b with
      | none => rfl
      | some u =>
        rcases Hat b (by rw [q]; simp) with e' | e'
        · rw [e', objA] at e
          cases e
          exact (h1 _ _ rfl).elim
        · rw [atT b e'] at e
          cases e
          exact (h2 rfl).elim
    have unA : ∀ {b : Addr} {o : Obj} {es : Array DictEntry} {ep : Nat}, s₁.heap.get? b = some o → o.data = .dict es ep → H b = none := fun {b o es ep} e d => by
      refine unD e (fun vs n z => ?_) fun z => ?_
      · rw [d] at z
        cases z
      · rw [d] at z
        cases z
    have nsT : ∀ {b : Addr} {m : Str → Option Value}, s₁.heap.Ns b m → (hidT s₁.heap H).Ns b m := fun {b m} ⟨o, es, ep, e, d, r⟩ => ⟨o, es, ep, toBase e (unA e d), d, r⟩
    have kInB : K.In (hidT s₁.heap H) := fun b o e => toBase (inK b o e) (by
      cases q : H b with
      | none => rfl
      | some u =>
        rcases Hat b (by rw [q]; simp) with e' | e'
        · rw [e'] at e q
          rw [Hout (by rw [q]; simp)] at e
          cases e
        · obtain ⟨p, memP, ep⟩ := List.mem_map.mp e'
          rw [← ep, tabK p memP] at e
          cases e)
    have modB : L2.Mod K mg (hidT s₁.heap H) := ⟨kInB, nsT nsM, ⟨mb, nsT nsB, bltB⟩, let ⟨mc, h1, h2⟩ := limH; ⟨mc, nsT h1, h2⟩⟩
    have tabB2 : ∀ p ∈ cs, TabB (hidT s₁.heap H) mg p.1 p.2 := fun p memP => by
      have tabP := tabE p memP
      refine ⟨?_, ?_, fun z => ?_⟩
      · obtain ⟨o, us, file, tf, flags, tg, inF, text, tt, e1, r1, r2, r3, r4, r5, r6, r7, r8, neP⟩ := codeH p memP
        refine ⟨o, us, file, tf, flags, tg, inF, text, tt, toBase e1 (unD e1 (fun vs n z => ?_) fun z => ?_), r1, r2, r3, r4, r5, r6, r7, r8, neP⟩
        · rw [r2] at z
          cases z
        · rw [r2] at z
          cases z
          simp at r3
      · obtain ⟨bm, ob, b1, b2, b3, b4, b5, b6⟩ := bmM
        have nG : bm ≠ mainGlobals := fun q => by
          obtain ⟨o, es, ep, e, hd, _⟩ := nsM
          rw [q, e] at b3
          cases b3
          rw [hd] at b6
          cases b6
        have nP : bm ≠ p.2 := fun q => by
          rw [q, tabP] at b3
          cases b3
          cases b6
        refine ⟨bm, ob, b1, b2, nG, nP, toBase b3 (unD b3 (fun vs n z => ?_) fun z => ?_), b4, b5, b6⟩
        · rw [b6] at z
          cases z
        · rw [b6] at z
          cases z
      · obtain ⟨o, es, ep, e, hd, _⟩ := nsM
        rw [z, tabP] at e
        cases e
        cases hd
    have env0 : Env0 P w K mg (hidT s₁.heap H) callerA [] s₁ H := ⟨rfl, modB, fun b o e => of_hidT e, Nat.le_of_eq (hidT_size _ _), trivial, fun b nsB => absurd (show b ∈ ([] : List Addr) from nsB) (by simp), Hok, .of_eq genE⟩
    refine codeAny_mono ((fnF _ kInB (nsT nsM) tabB2).run callerA [] s₁ H ⟨[.ref a], []⟩ [.ref a] [.ref a] _ _ roomC rfl env0 (bindF s₁ (.ref a)) (.cons rfl .nil) (spH H Htab Hlist)) fun r s' h => ?_
    cases r with
    | error e => exact (noX H e s' h).elim
    | ok fl =>
      cases fl with
      | next => exact False.elim h
      | brk => exact False.elim h
      | cont => exact False.elim h
      | ret u =>
        obtain ⟨v, H', os, bare, left, Hok2, r', q⟩ := h
        have q' : v = .bl true := q
        subst q'
        obtain rfl : u = Value.bool true := r'
        have kept : ∀ b o, b ∉ cs.map (·.2) → s₁.heap.get? b = some o → s'.heap.get? b = some o := fun b o nb e => by
          cases q : H b with
          | none => exact left.keep b o e q (by intro z; exact absurd (show b ∈ ([] : List Addr) from z) (by simp)) (by simp)
          | some u =>
            rcases Honly b with z | z | ⟨ob, xs, z⟩
            · rw [q] at z; cases z
            · exact absurd z nb
            · have z2 := left.frzs b ob _ z
              obtain ⟨e1, _⟩ := Hok b _ z
              obtain ⟨e2, _⟩ := Hok2 b _ z2
              rw [e] at e1; cases e1
              exact e2
        have grew : ∀ p ∈ cs, ∃ more : Array Value, s'.heap.get? p.2 = some { cls := .none, data := .fields more } := fun p memP => by
          obtain ⟨more, z⟩ := left.tbls p.2 #[] (Htab p memP)
          exact ⟨_, Hok2 p.2 _ z⟩
        refine ⟨rfl, ⟨fun b o e => ?_, fun b o e => ?_⟩, os, bare⟩
        · by_cases nsB : b ∈ cs.map (·.2)
          · obtain ⟨p, memP, ep⟩ := List.mem_map.mp nsB
            obtain ⟨more, got⟩ := grew p memP
            rw [← ep] at e ⊢
            rw [tabE p memP] at e
            cases e
            exact .inr (.inl ⟨((codeH p memP).tab (tabE p memP)).isCodeTable, rfl, #[], more, rfl, by rw [Array.empty_append]; exact got⟩)
          · exact .inl (kept b o nsB e)
        · by_cases nsB : b ∈ cs.map (·.2)
          · obtain ⟨p, memP, ep⟩ := List.mem_map.mp nsB
            obtain ⟨more, got⟩ := grew p memP
            rw [← ep]
            exact ⟨_, got⟩
          · exact ⟨o, kept b o nsB e⟩
  cases hk : K.lookup a with
  | some o =>
    have e := inK a o hk
    rw [objA] at e
    cases e
    refine corE (fun b => if b ∈ cs.map (·.2) then some (.tbl #[]) else none) (fun p memP => if_pos (inT p memP)) (fun b => ?_) (.inr ⟨_, vs.toArray, _, hk, rfl, rfl, rfl, by rw [List.size_toArray, manyV]; exact lenN, by simpa using rvs⟩) (fun b u z => ?_) (fun b z => ?_) fun z => absurd (show (if a ∈ cs.map (·.2) then some (HO.tbl #[]) else none) = none from if_neg notT) z
    · by_cases nsB : b ∈ cs.map (·.2)
      · exact .inr (.inl nsB)
      · exact .inl (if_neg nsB)
    · by_cases nsB : b ∈ cs.map (·.2)
      · have z' := (if_pos nsB).symm.trans z
        cases z'
        exact atT b nsB
      · have z' := (if_neg nsB).symm.trans z
        cases z'
    · by_cases nsB : b ∈ cs.map (·.2)
      · exact .inr nsB
      · exact absurd (if_neg nsB) z
  | none =>
    refine corE (fun b => if b = a then some (.frz { cls := .type "list", data := .seq vs.toArray } (.lst (ns.map V.int))) else if b ∈ cs.map (·.2) then some (.tbl #[]) else none) (fun p memP => (if_neg (show ¬ p.2 = a from fun z => notT (by rw [← z]; exact inT p memP))).trans (if_pos (inT p memP))) (fun b => ?_)
      (.inl (.inr ⟨{ cls := .type "list", data := .seq vs.toArray }, if_pos rfl⟩)) (fun b u z => ?_) (fun b z => ?_) fun _ => hk
    · by_cases nsB : b = a
      · exact .inr (.inr ⟨_, _, if_pos nsB⟩)
      · by_cases hb2 : b ∈ cs.map (·.2)
        · exact .inr (.inl hb2)
        · exact .inl ((if_neg nsB).trans (if_neg hb2))
    · by_cases nsB : b = a
      · have z' := (if_pos nsB).symm.trans z
        cases z'
        rw [nsB]
        exact ⟨objA, by rw [List.length_map]; exact lenN, vs, _, rvs, objA⟩
      · have z1 := (if_neg nsB).symm.trans z
        by_cases hb2 : b ∈ cs.map (·.2)
        · have z' := (if_pos hb2).symm.trans z1
          cases z'
          exact atT b hb2
        · have z' := (if_neg hb2).symm.trans z1
          cases z'
    · by_cases nsB : b = a
      · exact .inl nsB
      · by_cases hb2 : b ∈ cs.map (·.2)
        · exact .inr hb2
        · exact absurd ((if_neg nsB).trans (if_neg hb2)) z
theorem walk_TG {l : PySem.W.OpenLaw} {n k : Nat} {q : Program} {loose : List Str} {XP : (Str → Option Value) → Heap → Prop} {YP : World → Heap → Prop} {d : DefRec} {K : Params → PySem.W.Frag} {x : Str}
    (hn : l.most = some n) (hn2 : n ≤ sizeLine) (hdf : d.params.defaults = []) (hr : Room k callerA) (hY : ∀ (w : World) (h : Heap), YP w h → (K w.params).In h)
    (F : ∀ (w : World) (mg : Str → Option Value) (fa : Addr) (h : Heap), YP w h → (K w.params).In h → h.Ns mainGlobals mg → mg d.name = some (.ref fa) →
      ∃ (fd : FuncData) (cs : List (Addr × Addr)) (sp : Sp), (∀ p ∈ cs, h.get? p.2 = some { cls := .none, data := .fields #[] }) ∧ (∀ p ∈ cs, (K w.params).lookup p.2 = none) ∧ (∀ p ∈ cs, PySem.W.CodeHd h p.1 p.2) ∧ (∀ (s : Shared) (u : Value), BindsTo s fd ⟨[u], []⟩ [(x, u)]) ∧
        (∀ (H : Hp) (a : Addr) (ns : List Int), ns.length ≤ n → (∀ p ∈ cs, H p.2 = some (.tbl #[])) → SqL (K w.params) H a (ns.map V.int) → sp [.ref a] H (fun v _ => v = .bl true) fun _ _ _ => False) ∧
        ∀ base : Heap, (K w.params).In base → base.Ns mainGlobals mg → (∀ p ∈ cs, LamX.TabB base mg p.1 p.2) → FnG l.prog w (K w.params) mg base CX0 k fa fd [x] sp) :
    PySem.W.WalkO q loose XP YP l.row.toRowW d [] (fun f vs => PySem.call f vs) := by
  refine Att.attach_call hn hdf fun w s₀ s₁ mg mb fa o pm cd doc a vs ns G Y ho hd hcd hmg hobj hints hlen hg => ?_
  have inK := hY w _ Y
  obtain ⟨fd, cs, sp, t1, t2, t3, t4, t5, t6⟩ := F w mg fa _ Y inK G.T.g hmg
  exact law_endT inK G.T.g G.T.b G.T.builtins G.T.nolimit hg t1 t2 t3 G.T.bmain hobj hints (Nat.le_trans hlen hn2) hr t6 t4 (fun H h1 h2 => t5 H a ns hlen h1 h2) (fun _ _ _ z => z)
end Dl
set_option Elab.async false
set_option linter.all false
set_option maxRecDepth 100000
set_option maxHeartbeats 4000000
namespace Dl
open PySem PySem.Spec PyProof.Rows L2 Sp RZ
section
variable {K : PySem.W.Frag} {C : Addr} {nm q : Str} {N : Addr} {bs bm : List Value} {sn : List Str} {sub : List Value} {ab : Bool} {col : Option Bool} {dd : Option Addr} {k0 k1 k2 k3 k5 : Option Value} {newId : String}
theorem cls_of (x : K.lookup C = some (excClassObj nm q C N bs bm true sn sub ab col dd k0 k1 k2 k3 k5 newId)) :
    PySem.W.clsIn K C = some { name := nm, bases := bs, mro := .ref C :: bm, ns := N, qualname := q, hasDict := true, slotNames := sn, subclasses := sub, abstract := ab, collection := col, hasDel := false } := by
  unfold PySem.W.clsIn
  rw [x]
  all_goals rfl
theorem sub_of (x : K.lookup C = some (excClassObj nm q C N bs bm true sn sub ab col dd k0 k1 k2 k3 k5 newId)) (b : Value) : PySem.W.subIn K (.ref C) b = some ((Value.ref C :: bm).contains b) := by
  show PySem.W.mroIn K C b = _
  unfold PySem.W.mroIn
  rw [cls_of x]
  all_goals rfl
theorem ty_of (x : K.lookup C = some (excClassObj nm q C N bs bm true sn sub ab col dd k0 k1 k2 k3 k5 newId)) : PySem.W.typeIn K (.ref C) = some (.type "type") := by
  show (K.lookup C).map (·.cls) = _
  rw [x]
  all_goals rfl
theorem kit_own (x : K.lookup C = some (excClassObj nm q C N bs bm true sn sub ab col dd k0 k1 k2 k3 k5 newId)) {D : Addr} (h1 : (PySem.W.clsIn K D).isSome = true) (h2 : PySem.W.typeIn K (.ref D) = some (.type "type")) {b : Bool} (h : (Value.ref C :: bm).contains (.ref D) = b) :
    PySem.W.kitOne K (.ref C) (.ref D) = some b := by
  by_cases e : C = D
  · subst e
    have hb : b = true := by
      rw [← h]
      simp
    rw [hb]
    unfold PySem.W.kitOne
    rw [if_pos (by simp)]
  · unfold PySem.W.kitOne
    rw [if_neg (by simpa using e)]
    show (if ((PySem.W.clsIn K D).isSome && PySem.W.typeIn K (.ref D) == some (.type "type")) = true then PySem.W.subIn K (.ref C) (.ref D) else none) = _
    rw [h1, h2, if_pos (by simp), sub_of x, h]
theorem con_f {a b c : Addr} {t : List Value} (h1 : c ≠ a) (h2 : c ≠ b) (h3 : t.contains (.ref c) = false) : (Value.ref a :: Value.ref b :: t).contains (.ref c) = false := by
  rw [List.contains_cons, List.contains_cons, h3]
  simp [h1, h2]
theorem con_1 {a : Addr} {t : List Value} : (Value.ref a :: t).contains (.ref a) = true := by
  simp
theorem con_2 {a b : Addr} {t : List Value} : (Value.ref a :: Value.ref b :: t).contains (.ref b) = true := by
  simp
theorem nd_of {l : List Addr} (h : l.Nodup) (i j : Nat) (bi : Nat.ble (i + 1) l.length = true) (bj : Nat.ble (j + 1) l.length = true) (ne : i ≠ j) : l.getD i 0 ≠ l.getD j 0 := by
  have hi : i < l.length := Nat.le_of_ble_eq_true bi
  have hj : j < l.length := Nat.le_of_ble_eq_true bj
  rw [List.getD_eq_getElem?_getD, List.getD_eq_getElem?_getD, List.getElem?_eq_getElem hi, List.getElem?_eq_getElem hj]
  intro e
  have e2 : l[i] = l[j] := e
  exact ne ((List.getElem_inj h).mp e2)
theorem kit_bi (x : K.lookup C = some (excClassObj nm q C N bs bm true sn sub ab col dd k0 k1 k2 k3 k5 newId)) {T : String} (m : PySem.W.kitMeta T = true) (h : (Value.ref C :: bm).contains (.type T) = true) : PySem.W.kitOne K (.ref C) (.type T) = some true := by
  unfold PySem.W.kitOne
  rw [if_neg (by simp)]
  show (if PySem.W.kitMeta T = true then PySem.W.subIn K (.ref C) (.type T) else none) = _
  rw [if_pos m, sub_of x, h]
theorem xc_of {B initId : String} {bmB : List Value} (x : K.lookup C = some (excClassObj nm q C N bs bm true sn sub ab col dd k0 k1 k2 k3 k5 newId)) (F : Fam B newId initId bmB) (t : PySem.W.excTail bmB bm = true) (hb : (Value.ref C :: bm).contains (.type "BaseException") = true) (ho : (Value.ref C :: bm).contains (.type "object") = true)
    (sa : PySem.W.findIn K (.ref C) "__setattr__" = some (some (.builtin "object.__setattr__"))) (kC : PySem.W.keepIn K (.ref C) = true) (ga : PySem.W.findIn K (.ref C) "__getattribute__" = some (some (.builtin "BaseException.__getattribute__")))
    (gg : PySem.W.findIn K (.ref C) "__getattr__" = some none) (ha : PySem.W.findIn K (.ref C) "__class__" = some (some (.builtin "object.__class__")))
    (hn : PySem.W.specialIn K (.builtin "object.__class__") "__get__" = some (some (.builtin "getset_descriptor.__get__"))) (ht : PySem.W.takesIn K (.builtin "object.__class__") = some true) : XC K C B newId initId bmB :=
  ⟨F, ⟨nm, q, N, bs, bm, sn, sub, ab, col, dd, k0, k1, k2, k3, k5, x, t⟩, sa, kC, ga, gg, by rw [sub_of x, hb], ty_of x, by unfold PySem.W.hasDictIn; rw [cls_of x]; rfl, ha, hn, ht, by show PySem.W.subIn K (.ref C) (.type "object") = some true; rw [sub_of x, ho]⟩
end
section
variable {K : PySem.W.Frag} {uA f : Addr} {fd : FuncData}
theorem tk_rel {vs : List V} {us : List Value} (n : Nat) (r : L2.Vals vs us) : L2.Vals (vs.take n) (us.take n) := by
  induction r generalizing n with
  | nil => simp; exact .nil
  | cons a t ih =>
    cases n with
    | zero => exact .nil
    | succ n => exact .cons a (ih n)
theorem dr_rel {vs : List V} {us : List Value} (n : Nat) (r : L2.Vals vs us) : L2.Vals (vs.drop n) (us.drop n) := by
  induction r generalizing n with
  | nil => simp; exact .nil
  | cons a t ih =>
    cases n with
    | zero => exact .cons a t
    | succ n => exact ih n
theorem init_b3 (F : FunI K [V.ref uA] f fd) : L2.Binds K fd ["self", "size", "rows"] [] := by
  obtain ⟨ds, r, b⟩ := FunD.binds1 F (ps := ["self", "size", "rows"]) 3 1 (by simp) rfl fun T kV doc pm an cdv ct us its l1 l2 => match us, its, l1, l2 with
    | [_, _, _], [_], _, _ => ⟨_, rfl, rfl⟩
  have r2 : L2.Vals [] ds := r
  cases r2
  exact b
theorem init_b2 (F : FunI K [V.ref uA] f fd) : ∃ ds, L2.Vals [V.ref uA] ds ∧ L2.Binds K fd ["self", "size", "rows"] ds :=
  FunD.binds1 F (ps := ["self", "size", "rows"]) 2 0 (by simp) rfl fun T kV doc pm an cdv ct us its l1 l2 => match us, its, l1, l2 with
    | [_, _], [_], _, _ => ⟨_, rfl, rfl⟩
theorem init_kRS (F : FunI K [V.ref uA] f fd) : KBn K fd ["self", "size", "rows"] 1 ["rows", "size"] (fun us ws => us ++ (ws.drop 1 ++ ws.take 1)) (fun vs zs => vs ++ (zs.drop 1 ++ zs.take 1)) := by
  obtain ⟨_, b⟩ := FunD.kbindsD F (ps := ["self", "size", "rows"]) 1 ["rows", "size"] (fun us its ws => us ++ (ws.drop 1 ++ ws.take 1)) (by simp) (fun r1 _ r3 => r1.append ((dr_rel 1 r3).append (tk_rel 1 r3))) fun T kV doc pm an cdv ct us its ws l1 l2 l3 => match us, its, ws, l1, l2, l3 with
    | [_], [_], [_, _], _, _, _ => ⟨_, rfl, rfl⟩
  exact b
end
theorem find_cls {K : PySem.W.Frag} {C p : Addr} (h1 : PySem.W.findIn K (.type "type") "read" = some none) (h2 : PySem.W.findIn K (.ref C) "read" = some (some (.ref p))) (h3 : PySem.W.typeIn K (.ref p) = some (.type "staticmethod")) (h4 : PySem.W.specialIn K (.ref p) "__get__" = some (some (.builtin "staticmethod.__get__"))) :
    PySem.W.findCls K (.ref C) (.type "type") "read" = some (.get (.builtin "staticmethod.__get__") (.ref p) .none (.ref C)) := by
  unfold PySem.W.findCls
  rw [h1]
  show (PySem.W.findIn K (.ref C) "read").bind _ = _
  rw [h2]
  show (if Builtin.heldUnderItsOwnName "read" (.ref p) = true then none else _) = _
  rw [show Builtin.heldUnderItsOwnName "read" (Value.ref p) = false from rfl, if_neg (by decide), h3]
  show (if PySem.W.bareKinds.contains (.type "staticmethod") = true then _ else _) = _
  rw [if_neg (by decide +kernel), h4]
  rfl
theorem reads_cls {K : PySem.W.Frag} {C : Addr} (h1 : PySem.W.nsIn K cStatics "thirdparty.any" = some none) (h2 : PySem.W.typeIn K (.ref C) = some (.type "type")) (h3 : PySem.W.findIn K (.type "type") "__getattribute__" = some (some (.builtin "type.__getattribute__"))) (h4 : PySem.W.subIn K (.type "type") (.type "type") = some true) : PySem.W.readsIn K C (.type "type") = true := by
  unfold PySem.W.readsIn
  rw [h1, h2, h3, h4]
  rfl
abbrev s_size : Stmt := inClass (top 26) 1
theorem sc_size : FnScope ["self"] ["self"] (defScope s_size) := ⟨rfl, rfl, rfl, by decide +kernel, rfl, by decide +kernel, by decide +kernel⟩
abbrev s_rowsP : Stmt := inClass (top 26) 2
theorem sc_rowsP : FnScope ["self"] ["self"] (defScope s_rowsP) := ⟨rfl, rfl, rfl, by decide +kernel, rfl, by decide +kernel, by decide +kernel⟩
abbrev s_InvalidNumber : Stmt := inClass (top 4) 0
theorem sc_InvalidNumber : FnScope ["self", "given"] ["self", "given"] (defScope s_InvalidNumber) := ⟨rfl, rfl, rfl, by decide +kernel, rfl, by decide +kernel, by decide +kernel⟩
abbrev s_InvalidText : Stmt := inClass (top 3) 0
theorem sc_InvalidText : FnScope ["self", "given"] ["self", "given"] (defScope s_InvalidText) := ⟨rfl, rfl, rfl, by decide +kernel, rfl, by decide +kernel, by decide +kernel⟩
abbrev s_InvalidRows : Stmt := inClass (top 5) 0
theorem sc_InvalidRows : FnScope ["self", "given"] ["self", "given"] (defScope s_InvalidRows) := ⟨rfl, rfl, rfl, by decide +kernel, rfl, by decide +kernel, by decide +kernel⟩
section
variable {P : Program} {w : World} {K : PySem.W.Frag} {mg : Str → Option Value} {base : Heap} {C : Addr}
theorem get_size {f : Addr} {fd : FuncData} (F : Fun K "size" "Plan.size" s_size f fd) (PC : PlanC K C) : FnOk P w K mg base CX0 1 f fd ["self"] (getSp C "_size") := by
  refine F.ok sc_size (fun vs H Q E h => ?_) (fun cdv A outer s H vs Q E hr h => ?_)
  · obtain ⟨a, dx, fs, v, rfl, _⟩ := h
    rfl
  · obtain ⟨a, dx, fs, v, rfl, ea, l, q⟩ := h
    exact ⟨_, pss_one (ps_ret (pe_fld (pv 0) rfl)), _, rfl, a, C, dx, fs, v, rfl, ea, PC.cls, PC.no_size, l, q⟩
theorem get_rows {f : Addr} {fd : FuncData} (F : Fun K "rows" "Plan.rows" s_rowsP f fd) (PC : PlanC K C) : FnOk P w K mg base CX0 1 f fd ["self"] (getSp C "_rows") := by
  refine F.ok sc_rowsP (fun vs H Q E h => ?_) (fun cdv A outer s H vs Q E hr h => ?_)
  · obtain ⟨a, dx, fs, v, rfl, _⟩ := h
    rfl
  · obtain ⟨a, dx, fs, v, rfl, ea, l, q⟩ := h
    exact ⟨_, pss_one (ps_ret (pe_fld (pv 0) rfl)), _, rfl, a, C, dx, fs, v, rfl, ea, PC.cls, PC.no_rows, l, q⟩
end
theorem kit_T {K : PySem.W.Frag} {D : Addr} {T : String} {b : Bool} (m : PySem.W.kitMeta T = true) (h : PySem.W.subIn K (.ref D) (.type T) = some b) : PySem.W.kitOne K (.ref D) (.type T) = some b := by
  unfold PySem.W.kitOne
  rw [if_neg (by simp)]
  show (if PySem.W.kitMeta T = true then PySem.W.subIn K (.ref D) (.type T) else none) = _
  rw [if_pos m, h]
theorem exm_2 {K : PySem.W.Frag} {c a b : Value} {p q : Bool} (h : PySem.W.exmOne K c a = some p) (g : PySem.W.exmOne K c b = some q) (e : (p || (q || false)) = true) : PySem.W.exmAny K c [a, b] = some true := by
  unfold PySem.W.exmAny
  rw [h]
  unfold PySem.W.exmAny
  rw [g]
  unfold PySem.W.exmAny
  dsimp only
  rw [e]
theorem all_mk {P : Program} {w : World} {K : PySem.W.Frag} {h : Heap} {mg : Str → Option Value} {fa C fI tD uA cR PR cL PL f_int f_name f_rising f_ticks f_rows f_rsize f_mticks f_cell f_purse f_roll f_letters f_set f_drows f_marks f_ptext f_error f_caught f_signs f_spoilt f_lread f_changed f_right f_law f_pS f_pR f_pN f_pT f_mK f_mM f_sRd f_mRep q_pS q_pR q_pN q_pT q_sRd cV cM C0 C1 C2 C3 C4 C5 C6 C7 C8 C9 C10 C11 C12 C13 I0 I1 I2 : Addr} (X : K.In h) (G : h.Ns mainGlobals mg) (hfa : mg "law" = some (.ref fa))
    {nm0 q0 : Str} {N0 : Addr} {bs0 : List Value} {sn0 : List Str} {sub0 : List Value} {ab0 : Bool} {col0 : Option Bool} {dd0 : Option Addr} {k0_0 k1_0 k2_0 k3_0 k5_0 : Option Value}
    {nm1 q1 : Str} {N1 : Addr} {bs1 : List Value} {sn1 : List Str} {sub1 : List Value} {ab1 : Bool} {col1 : Option Bool} {dd1 : Option Addr} {k0_1 k1_1 k2_1 k3_1 k5_1 : Option Value}
    {nm2 q2 : Str} {N2 : Addr} {bs2 : List Value} {sn2 : List Str} {sub2 : List Value} {ab2 : Bool} {col2 : Option Bool} {dd2 : Option Addr} {k0_2 k1_2 k2_2 k3_2 k5_2 : Option Value}
    {nm3 q3 : Str} {N3 : Addr} {bs3 : List Value} {sn3 : List Str} {sub3 : List Value} {ab3 : Bool} {col3 : Option Bool} {dd3 : Option Addr} {k0_3 k1_3 k2_3 k3_3 k5_3 : Option Value}
    {nm4 q4 : Str} {N4 : Addr} {bs4 : List Value} {sn4 : List Str} {sub4 : List Value} {ab4 : Bool} {col4 : Option Bool} {dd4 : Option Addr} {k0_4 k1_4 k2_4 k3_4 k5_4 : Option Value}
    {nm5 q5 : Str} {N5 : Addr} {bs5 : List Value} {sn5 : List Str} {sub5 : List Value} {ab5 : Bool} {col5 : Option Bool} {dd5 : Option Addr} {k0_5 k1_5 k2_5 k3_5 k5_5 : Option Value}
    {nm6 q6 : Str} {N6 : Addr} {bs6 : List Value} {sn6 : List Str} {sub6 : List Value} {ab6 : Bool} {col6 : Option Bool} {dd6 : Option Addr} {k0_6 k1_6 k2_6 k3_6 k5_6 : Option Value}
    {nm7 q7 : Str} {N7 : Addr} {bs7 : List Value} {sn7 : List Str} {sub7 : List Value} {ab7 : Bool} {col7 : Option Bool} {dd7 : Option Addr} {k0_7 k1_7 k2_7 k3_7 k5_7 : Option Value}
    {nm8 q8 : Str} {N8 : Addr} {bs8 : List Value} {sn8 : List Str} {sub8 : List Value} {ab8 : Bool} {col8 : Option Bool} {dd8 : Option Addr} {k0_8 k1_8 k2_8 k3_8 k5_8 : Option Value}
    {nm9 q9 : Str} {N9 : Addr} {bs9 : List Value} {sn9 : List Str} {sub9 : List Value} {ab9 : Bool} {col9 : Option Bool} {dd9 : Option Addr} {k0_9 k1_9 k2_9 k3_9 k5_9 : Option Value}
    {nm10 q10 : Str} {N10 : Addr} {bs10 : List Value} {sn10 : List Str} {sub10 : List Value} {ab10 : Bool} {col10 : Option Bool} {dd10 : Option Addr} {k0_10 k1_10 k2_10 k3_10 k5_10 : Option Value}
    {nm11 q11 : Str} {N11 : Addr} {bs11 : List Value} {sn11 : List Str} {sub11 : List Value} {ab11 : Bool} {col11 : Option Bool} {dd11 : Option Addr} {k0_11 k1_11 k2_11 k3_11 k5_11 : Option Value}
    {nm12 q12 : Str} {N12 : Addr} {bs12 : List Value} {sn12 : List Str} {sub12 : List Value} {ab12 : Bool} {col12 : Option Bool} {dd12 : Option Addr} {k0_12 k1_12 k2_12 k3_12 k5_12 : Option Value}
    {nm13 q13 : Str} {N13 : Addr} {bs13 : List Value} {sn13 : List Str} {sub13 : List Value} {ab13 : Bool} {col13 : Option Bool} {dd13 : Option Addr} {k0_13 k1_13 k2_13 k3_13 k5_13 : Option Value}
    {od_fI an_fI : Option Addr} {sl_fI : Array (Option Value)} {oc_fI kV_fI dc_fI pm_fI ct_fI : Value}
    {cd_fI : Value}
    {cT : Value} {ddT ddU : Option Addr} {nT nU : Nat} {slT slU : Array (Option Value)}
    {rest_pS : List Value}
    {od_f_pS an_f_pS : Option Addr} {sl_f_pS : Array (Option Value)} {oc_f_pS kV_f_pS dc_f_pS pm_f_pS ct_f_pS : Value}
    {cd_f_pS : Value}
    {rest_pR : List Value}
    {od_f_pR an_f_pR : Option Addr} {sl_f_pR : Array (Option Value)} {oc_f_pR kV_f_pR dc_f_pR pm_f_pR ct_f_pR : Value}
    {cd_f_pR : Value}
    {rest_pN : List Value}
    {od_f_pN an_f_pN : Option Addr} {sl_f_pN : Array (Option Value)} {oc_f_pN kV_f_pN dc_f_pN pm_f_pN ct_f_pN : Value}
    {cd_f_pN : Value}
    {rest_pT : List Value}
    {od_f_pT an_f_pT : Option Addr} {sl_f_pT : Array (Option Value)} {oc_f_pT kV_f_pT dc_f_pT pm_f_pT ct_f_pT : Value}
    {cd_f_pT : Value}
    {od_f_mK an_f_mK : Option Addr} {sl_f_mK : Array (Option Value)} {oc_f_mK kV_f_mK dc_f_mK pm_f_mK ct_f_mK : Value}
    {cd_f_mK : Value}
    {od_f_mM an_f_mM : Option Addr} {sl_f_mM : Array (Option Value)} {oc_f_mM kV_f_mM dc_f_mM pm_f_mM ct_f_mM : Value}
    {cd_f_mM : Value}
    {rest_sRd : List Value}
    {od_f_sRd an_f_sRd : Option Addr} {sl_f_sRd : Array (Option Value)} {oc_f_sRd kV_f_sRd dc_f_sRd pm_f_sRd ct_f_sRd : Value}
    {cd_f_sRd : Value}
    {od_f_mRep an_f_mRep : Option Addr} {sl_f_mRep : Array (Option Value)} {oc_f_mRep kV_f_mRep dc_f_mRep pm_f_mRep ct_f_mRep : Value}
    {cd_f_mRep : Value}
    {od_I0 an_I0 : Option Addr} {sl_I0 : Array (Option Value)} {oc_I0 kV_I0 dc_I0 pm_I0 ct_I0 : Value}
    {cd_I0 : Value}
    {od_I1 an_I1 : Option Addr} {sl_I1 : Array (Option Value)} {oc_I1 kV_I1 dc_I1 pm_I1 ct_I1 : Value}
    {cd_I1 : Value}
    {od_I2 an_I2 : Option Addr} {sl_I2 : Array (Option Value)} {oc_I2 kV_I2 dc_I2 pm_I2 ct_I2 : Value}
    {cd_I2 : Value}
    {od_f_int an_f_int : Option Addr} {sl_f_int : Array (Option Value)} {oc_f_int kV_f_int dc_f_int pm_f_int ct_f_int : Value}
    {cd_f_int : Value}
    {od_f_name an_f_name : Option Addr} {sl_f_name : Array (Option Value)} {oc_f_name kV_f_name dc_f_name pm_f_name ct_f_name : Value}
    {cd_f_name : Value}
    {od_f_rising an_f_rising : Option Addr} {sl_f_rising : Array (Option Value)} {oc_f_rising kV_f_rising dc_f_rising pm_f_rising ct_f_rising : Value}
    {cd_f_rising : Value}
    {od_f_ticks an_f_ticks : Option Addr} {sl_f_ticks : Array (Option Value)} {oc_f_ticks kV_f_ticks dc_f_ticks pm_f_ticks ct_f_ticks : Value}
    {cd_f_ticks : Value}
    {od_f_rows an_f_rows : Option Addr} {sl_f_rows : Array (Option Value)} {oc_f_rows kV_f_rows dc_f_rows pm_f_rows ct_f_rows : Value}
    {cd_f_rows : Value}
    {od_f_rsize an_f_rsize : Option Addr} {sl_f_rsize : Array (Option Value)} {oc_f_rsize kV_f_rsize dc_f_rsize pm_f_rsize ct_f_rsize : Value}
    {cd_f_rsize : Value}
    {od_f_mticks an_f_mticks : Option Addr} {sl_f_mticks : Array (Option Value)} {oc_f_mticks kV_f_mticks dc_f_mticks pm_f_mticks ct_f_mticks : Value}
    {cd_f_mticks : Value}
    {od_f_cell an_f_cell : Option Addr} {sl_f_cell : Array (Option Value)} {oc_f_cell kV_f_cell dc_f_cell pm_f_cell ct_f_cell : Value}
    {cd_f_cell : Value}
    {od_f_purse an_f_purse : Option Addr} {sl_f_purse : Array (Option Value)} {oc_f_purse kV_f_purse dc_f_purse pm_f_purse ct_f_purse : Value}
    {cd_f_purse : Value}
    {od_f_roll an_f_roll : Option Addr} {sl_f_roll : Array (Option Value)} {oc_f_roll kV_f_roll dc_f_roll pm_f_roll ct_f_roll : Value}
    {cd_f_roll : Value}
    {od_f_letters an_f_letters : Option Addr} {sl_f_letters : Array (Option Value)} {oc_f_letters kV_f_letters dc_f_letters pm_f_letters ct_f_letters : Value}
    {cd_f_letters : Value}
    {od_f_set an_f_set : Option Addr} {sl_f_set : Array (Option Value)} {oc_f_set kV_f_set dc_f_set pm_f_set ct_f_set : Value}
    {cd_f_set : Value}
    {od_f_drows an_f_drows : Option Addr} {sl_f_drows : Array (Option Value)} {oc_f_drows kV_f_drows dc_f_drows pm_f_drows ct_f_drows : Value}
    {cd_f_drows : Value}
    {od_f_marks an_f_marks : Option Addr} {sl_f_marks : Array (Option Value)} {oc_f_marks kV_f_marks dc_f_marks pm_f_marks ct_f_marks : Value}
    {cd_f_marks : Value}
    {od_f_ptext an_f_ptext : Option Addr} {sl_f_ptext : Array (Option Value)} {oc_f_ptext kV_f_ptext dc_f_ptext pm_f_ptext ct_f_ptext : Value}
    {cd_f_ptext : Value}
    {od_f_error an_f_error : Option Addr} {sl_f_error : Array (Option Value)} {oc_f_error kV_f_error dc_f_error pm_f_error ct_f_error : Value}
    {cd_f_error : Value}
    {od_f_caught an_f_caught : Option Addr} {sl_f_caught : Array (Option Value)} {oc_f_caught kV_f_caught dc_f_caught pm_f_caught ct_f_caught : Value}
    {cd_f_caught : Value}
    {od_f_signs an_f_signs : Option Addr} {sl_f_signs : Array (Option Value)} {oc_f_signs kV_f_signs dc_f_signs pm_f_signs ct_f_signs : Value}
    {cd_f_signs : Value}
    {od_f_spoilt an_f_spoilt : Option Addr} {sl_f_spoilt : Array (Option Value)} {oc_f_spoilt kV_f_spoilt dc_f_spoilt pm_f_spoilt ct_f_spoilt : Value}
    {cd_f_spoilt : Value}
    {od_f_lread an_f_lread : Option Addr} {sl_f_lread : Array (Option Value)} {oc_f_lread kV_f_lread dc_f_lread pm_f_lread ct_f_lread : Value}
    {cd_f_lread : Value}
    {od_f_changed an_f_changed : Option Addr} {sl_f_changed : Array (Option Value)} {oc_f_changed kV_f_changed dc_f_changed pm_f_changed ct_f_changed : Value}
    {cd_f_changed : Value}
    {od_f_right an_f_right : Option Addr} {sl_f_right : Array (Option Value)} {oc_f_right kV_f_right dc_f_right pm_f_right ct_f_right : Value}
    {od_f_law an_f_law : Option Addr} {sl_f_law : Array (Option Value)} {oc_f_law kV_f_law dc_f_law pm_f_law ct_f_law : Value}
    {tCR : Value} {odR : Option Addr} {vsR : Array Value} {slR : Array (Option Value)}
    {tCL : Value} {odL : Option Addr} {vsL : Array Value} {slL : Array (Option Value)}
    {tk_most : Tok}
    (aC : PySem.W.nsIn K mainGlobals "Plan" = some (some (.ref C)))
    (pg : PySem.W.plainGet K C Str.empty = true)
    (hd : PySem.W.hasDictIn K C = true)
    (po : PySem.W.plainOver K C = true)
    (sa : PySem.W.findIn K (.ref C) "__setattr__" = some (some (.builtin "object.__setattr__")))
    (mk : PySem.W.makesIn K C = true)
    (kc : PySem.W.keepIn K (.ref C) = true)
    (n_size : PySem.W.findIn K (.ref C) "_size" = some none)
    (n_rows : PySem.W.findIn K (.ref C) "_rows" = some none)
    (ha : PySem.W.findIn K (.ref C) "__class__" = some (some (.builtin "object.__class__")))
    (hn : PySem.W.specialIn K (.builtin "object.__class__") "__get__" = some (some (.builtin "getset_descriptor.__get__")))
    (ht : PySem.W.takesIn K (.builtin "object.__class__") = some true)
    (hm : PySem.W.mroIn K C (.type "object") = some true)
    (aI : PySem.W.findIn K (.ref C) "__init__" = some (some (.ref fI)))
    (iI : PySem.W.isFn K (.ref fI) = true)
    (l_fI : K.lookup fI = some ⟨oc_fI, od_fI, .func (PySem.W.fnOf "__init__" "Plan.__init__" (defArgs s_init) (defBody s_init) (defScope s_init) (.ref tD) kV_fI dc_fI pm_fI an_fI cd_fI ct_fI), sl_fI⟩)
    (c_fI : PySem.W.codeIn K cd_fI "Plan.__init__" = true)
    (k_fI : PySem.W.keepIn K (.ref fI) = true)
    (lT : K.lookup tD = some ⟨cT, ddT, .seq ([Value.ref uA] : List Value).toArray nT, slT⟩)
    (lU : K.lookup uA = some ⟨.type "tuple", ddU, .seq #[] nU, slU⟩)
    (ty : PySem.W.typeIn K (.ref C) = some (.type "type"))
    (ne : PySem.W.findIn K (.ref C) "__ne__" = some (some (.builtin "object.__ne__")))
    (sbS : PySem.W.subIn K (.ref C) (.type "str") = some false)
    (a_pS : PySem.W.findIn K (.ref C) "size" = some (some (.ref q_pS)))
    (g_pS : PySem.W.specialIn K (.ref q_pS) "__get__" = some (some (.builtin "property.__get__")))
    (t_pS : PySem.W.takesIn K (.ref q_pS) = some true)
    (r_pS : PySem.W.recIn K q_pS "property" = some (.ref f_pS :: rest_pS))
    (l_f_pS : K.lookup f_pS = some ⟨oc_f_pS, od_f_pS, .func (PySem.W.fnOf "size" "Plan.size" (defArgs s_size) (defBody s_size) (defScope s_size) .none kV_f_pS dc_f_pS pm_f_pS an_f_pS cd_f_pS ct_f_pS), sl_f_pS⟩)
    (c_f_pS : PySem.W.codeIn K cd_f_pS "Plan.size" = true)
    (k_f_pS : PySem.W.keepIn K (.ref f_pS) = true)
    (a_pR : PySem.W.findIn K (.ref C) "rows" = some (some (.ref q_pR)))
    (g_pR : PySem.W.specialIn K (.ref q_pR) "__get__" = some (some (.builtin "property.__get__")))
    (t_pR : PySem.W.takesIn K (.ref q_pR) = some true)
    (r_pR : PySem.W.recIn K q_pR "property" = some (.ref f_pR :: rest_pR))
    (l_f_pR : K.lookup f_pR = some ⟨oc_f_pR, od_f_pR, .func (PySem.W.fnOf "rows" "Plan.rows" (defArgs s_rowsP) (defBody s_rowsP) (defScope s_rowsP) .none kV_f_pR dc_f_pR pm_f_pR an_f_pR cd_f_pR ct_f_pR), sl_f_pR⟩)
    (c_f_pR : PySem.W.codeIn K cd_f_pR "Plan.rows" = true)
    (k_f_pR : PySem.W.keepIn K (.ref f_pR) = true)
    (a_pN : PySem.W.findIn K (.ref C) "names" = some (some (.ref q_pN)))
    (g_pN : PySem.W.specialIn K (.ref q_pN) "__get__" = some (some (.builtin "property.__get__")))
    (t_pN : PySem.W.takesIn K (.ref q_pN) = some true)
    (r_pN : PySem.W.recIn K q_pN "property" = some (.ref f_pN :: rest_pN))
    (l_f_pN : K.lookup f_pN = some ⟨oc_f_pN, od_f_pN, .func (PySem.W.fnOf "names" "Plan.names" (defArgs Sp.s_names) (defBody Sp.s_names) (defScope Sp.s_names) .none kV_f_pN dc_f_pN pm_f_pN an_f_pN cd_f_pN ct_f_pN), sl_f_pN⟩)
    (c_f_pN : PySem.W.codeIn K cd_f_pN "Plan.names" = true)
    (k_f_pN : PySem.W.keepIn K (.ref f_pN) = true)
    (a_pT : PySem.W.findIn K (.ref C) "text" = some (some (.ref q_pT)))
    (g_pT : PySem.W.specialIn K (.ref q_pT) "__get__" = some (some (.builtin "property.__get__")))
    (t_pT : PySem.W.takesIn K (.ref q_pT) = some true)
    (r_pT : PySem.W.recIn K q_pT "property" = some (.ref f_pT :: rest_pT))
    (l_f_pT : K.lookup f_pT = some ⟨oc_f_pT, od_f_pT, .func (PySem.W.fnOf "text" "Plan.text" (defArgs Sp.s_text) (defBody Sp.s_text) (defScope Sp.s_text) .none kV_f_pT dc_f_pT pm_f_pT an_f_pT cd_f_pT ct_f_pT), sl_f_pT⟩)
    (c_f_pT : PySem.W.codeIn K cd_f_pT "Plan.text" = true)
    (k_f_pT : PySem.W.keepIn K (.ref f_pT) = true)
    (a_mK : PySem.W.findIn K (.ref C) "ticks" = some (some (.ref f_mK)))
    (i_mK : PySem.W.isFn K (.ref f_mK) = true)
    (l_f_mK : K.lookup f_mK = some ⟨oc_f_mK, od_f_mK, .func (PySem.W.fnOf "ticks" "Plan.ticks" (defArgs Sp.s_ticks) (defBody Sp.s_ticks) (defScope Sp.s_ticks) .none kV_f_mK dc_f_mK pm_f_mK an_f_mK cd_f_mK ct_f_mK), sl_f_mK⟩)
    (c_f_mK : PySem.W.codeIn K cd_f_mK "Plan.ticks" = true)
    (k_f_mK : PySem.W.keepIn K (.ref f_mK) = true)
    (a_mM : PySem.W.findIn K (.ref C) "marks" = some (some (.ref f_mM)))
    (i_mM : PySem.W.isFn K (.ref f_mM) = true)
    (l_f_mM : K.lookup f_mM = some ⟨oc_f_mM, od_f_mM, .func (PySem.W.fnOf "marks" "Plan.marks" (defArgs Sp.s_marks) (defBody Sp.s_marks) (defScope Sp.s_marks) .none kV_f_mM dc_f_mM pm_f_mM an_f_mM cd_f_mM ct_f_mM), sl_f_mM⟩)
    (c_f_mM : PySem.W.codeIn K cd_f_mM "Plan.marks" = true)
    (k_f_mM : PySem.W.keepIn K (.ref f_mM) = true)
    (a_sRd : PySem.W.findIn K (.ref C) "read" = some (some (.ref q_sRd)))
    (w_sRd : PySem.W.findIn K (.type "type") "read" = some none)
    (y_sRd : PySem.W.typeIn K (.ref q_sRd) = some (.type "staticmethod"))
    (g_sRd : PySem.W.specialIn K (.ref q_sRd) "__get__" = some (some (.builtin "staticmethod.__get__")))
    (r_sRd : PySem.W.recIn K q_sRd "staticmethod" = some (.ref f_sRd :: rest_sRd))
    (cg : PySem.W.specialIn K (.ref C) "__getattribute__" = some (some (.builtin "type.__getattribute__")))
    (cf : PySem.W.findIn K (.type "type") "__getattribute__" = some (some (.builtin "type.__getattribute__")))
    (cs : PySem.W.subIn K (.type "type") (.type "type") = some true)
    (ca : PySem.W.nsIn K cStatics "thirdparty.any" = some none)
    (l_f_sRd : K.lookup f_sRd = some ⟨oc_f_sRd, od_f_sRd, .func (PySem.W.fnOf "read" "Plan.read" (defArgs s_readP) (defBody s_readP) (defScope s_readP) .none kV_f_sRd dc_f_sRd pm_f_sRd an_f_sRd cd_f_sRd ct_f_sRd), sl_f_sRd⟩)
    (c_f_sRd : PySem.W.codeIn K cd_f_sRd "Plan.read" = true)
    (k_f_sRd : PySem.W.keepIn K (.ref f_sRd) = true)
    (a_mRep : PySem.W.findIn K (.ref C) "__repr__" = some (some (.ref f_mRep)))
    (i_mRep : PySem.W.isFn K (.ref f_mRep) = true)
    (l_f_mRep : K.lookup f_mRep = some ⟨oc_f_mRep, od_f_mRep, .func (PySem.W.fnOf "__repr__" "Plan.__repr__" (defArgs Sp.s_repr) (defBody Sp.s_repr) (defScope Sp.s_repr) .none kV_f_mRep dc_f_mRep pm_f_mRep an_f_mRep cd_f_mRep ct_f_mRep), sl_f_mRep⟩)
    (c_f_mRep : PySem.W.codeIn K cd_f_mRep "Plan.__repr__" = true)
    (k_f_mRep : PySem.W.keepIn K (.ref f_mRep) = true)
    (aV : PySem.W.nsIn K mainGlobals "WrongValue" = some (some (.ref cV)))
    (iV : PySem.W.isClsIn K cV = true)
    (tV : PySem.W.typeIn K (.ref cV) = some (.type "type"))
    (sV : PySem.W.subIn K (.ref cV) (.type "BaseException") = some true)
    (dV : PySem.W.hasDictIn K cV = true)
    (aM : PySem.W.nsIn K mainGlobals "WrongMoment" = some (some (.ref cM)))
    (iM : PySem.W.isClsIn K cM = true)
    (tM : PySem.W.typeIn K (.ref cM) = some (.type "type"))
    (sM : PySem.W.subIn K (.ref cM) (.type "BaseException") = some true)
    (dM : PySem.W.hasDictIn K cM = true)
    (aC0 : PySem.W.nsIn K mainGlobals "InvalidText" = some (some (.ref C0)))
    (xL0 : K.lookup C0 = some (excClassObj nm0 q0 C0 N0 bs0 (.ref cV :: veM) true sn0 sub0 ab0 col0 dd0 k0_0 k1_0 k2_0 k3_0 k5_0 "ValueError.__new__"))
    (sa0 : PySem.W.findIn K (.ref C0) "__setattr__" = some (some (.builtin "object.__setattr__")))
    (ga0 : PySem.W.findIn K (.ref C0) "__getattribute__" = some (some (.builtin "BaseException.__getattribute__")))
    (gg0 : PySem.W.findIn K (.ref C0) "__getattr__" = some none)
    (kC0 : PySem.W.keepIn K (.ref C0) = true)
    (ha0 : PySem.W.findIn K (.ref C0) "__class__" = some (some (.builtin "object.__class__")))
    (no0 : PySem.W.findIn K (.ref C0) "given" = some none)
    (aC1 : PySem.W.nsIn K mainGlobals "InvalidNumber" = some (some (.ref C1)))
    (xL1 : K.lookup C1 = some (excClassObj nm1 q1 C1 N1 bs1 (.ref cV :: veM) true sn1 sub1 ab1 col1 dd1 k0_1 k1_1 k2_1 k3_1 k5_1 "ValueError.__new__"))
    (sa1 : PySem.W.findIn K (.ref C1) "__setattr__" = some (some (.builtin "object.__setattr__")))
    (ga1 : PySem.W.findIn K (.ref C1) "__getattribute__" = some (some (.builtin "BaseException.__getattribute__")))
    (gg1 : PySem.W.findIn K (.ref C1) "__getattr__" = some none)
    (kC1 : PySem.W.keepIn K (.ref C1) = true)
    (ha1 : PySem.W.findIn K (.ref C1) "__class__" = some (some (.builtin "object.__class__")))
    (no1 : PySem.W.findIn K (.ref C1) "given" = some none)
    (aC2 : PySem.W.nsIn K mainGlobals "InvalidRows" = some (some (.ref C2)))
    (xL2 : K.lookup C2 = some (excClassObj nm2 q2 C2 N2 bs2 (.ref cV :: veM) true sn2 sub2 ab2 col2 dd2 k0_2 k1_2 k2_2 k3_2 k5_2 "ValueError.__new__"))
    (sa2 : PySem.W.findIn K (.ref C2) "__setattr__" = some (some (.builtin "object.__setattr__")))
    (ga2 : PySem.W.findIn K (.ref C2) "__getattribute__" = some (some (.builtin "BaseException.__getattribute__")))
    (gg2 : PySem.W.findIn K (.ref C2) "__getattr__" = some none)
    (kC2 : PySem.W.keepIn K (.ref C2) = true)
    (ha2 : PySem.W.findIn K (.ref C2) "__class__" = some (some (.builtin "object.__class__")))
    (no2 : PySem.W.findIn K (.ref C2) "given" = some none)
    (aC3 : PySem.W.nsIn K mainGlobals "InvalidName" = some (some (.ref C3)))
    (xL3 : K.lookup C3 = some (excClassObj nm3 q3 C3 N3 bs3 (.ref cV :: veM) true sn3 sub3 ab3 col3 dd3 k0_3 k1_3 k2_3 k3_3 k5_3 "ValueError.__new__"))
    (sa3 : PySem.W.findIn K (.ref C3) "__setattr__" = some (some (.builtin "object.__setattr__")))
    (ga3 : PySem.W.findIn K (.ref C3) "__getattribute__" = some (some (.builtin "BaseException.__getattribute__")))
    (gg3 : PySem.W.findIn K (.ref C3) "__getattr__" = some none)
    (kC3 : PySem.W.keepIn K (.ref C3) = true)
    (ha3 : PySem.W.findIn K (.ref C3) "__class__" = some (some (.builtin "object.__class__")))
    (no3 : PySem.W.findIn K (.ref C3) "given" = some none)
    (aC4 : PySem.W.nsIn K mainGlobals "InvalidTicks" = some (some (.ref C4)))
    (xL4 : K.lookup C4 = some (excClassObj nm4 q4 C4 N4 bs4 (.ref cV :: veM) true sn4 sub4 ab4 col4 dd4 k0_4 k1_4 k2_4 k3_4 k5_4 "ValueError.__new__"))
    (sa4 : PySem.W.findIn K (.ref C4) "__setattr__" = some (some (.builtin "object.__setattr__")))
    (ga4 : PySem.W.findIn K (.ref C4) "__getattribute__" = some (some (.builtin "BaseException.__getattribute__")))
    (gg4 : PySem.W.findIn K (.ref C4) "__getattr__" = some none)
    (kC4 : PySem.W.keepIn K (.ref C4) = true)
    (ha4 : PySem.W.findIn K (.ref C4) "__class__" = some (some (.builtin "object.__class__")))
    (no4 : PySem.W.findIn K (.ref C4) "given" = some none)
    (aC5 : PySem.W.nsIn K mainGlobals "InvalidWish" = some (some (.ref C5)))
    (xL5 : K.lookup C5 = some (excClassObj nm5 q5 C5 N5 bs5 (.ref cV :: veM) true sn5 sub5 ab5 col5 dd5 k0_5 k1_5 k2_5 k3_5 k5_5 "ValueError.__new__"))
    (sa5 : PySem.W.findIn K (.ref C5) "__setattr__" = some (some (.builtin "object.__setattr__")))
    (ga5 : PySem.W.findIn K (.ref C5) "__getattribute__" = some (some (.builtin "BaseException.__getattribute__")))
    (gg5 : PySem.W.findIn K (.ref C5) "__getattr__" = some none)
    (kC5 : PySem.W.keepIn K (.ref C5) = true)
    (ha5 : PySem.W.findIn K (.ref C5) "__class__" = some (some (.builtin "object.__class__")))
    (no5 : PySem.W.findIn K (.ref C5) "given" = some none)
    (aC6 : PySem.W.nsIn K mainGlobals "NotASieve" = some (some (.ref C6)))
    (xL6 : K.lookup C6 = some (excClassObj nm6 q6 C6 N6 bs6 (.ref cV :: veM) true sn6 sub6 ab6 col6 dd6 k0_6 k1_6 k2_6 k3_6 k5_6 "ValueError.__new__"))
    (sa6 : PySem.W.findIn K (.ref C6) "__setattr__" = some (some (.builtin "object.__setattr__")))
    (ga6 : PySem.W.findIn K (.ref C6) "__getattribute__" = some (some (.builtin "BaseException.__getattribute__")))
    (gg6 : PySem.W.findIn K (.ref C6) "__getattr__" = some none)
    (kC6 : PySem.W.keepIn K (.ref C6) = true)
    (ha6 : PySem.W.findIn K (.ref C6) "__class__" = some (some (.builtin "object.__class__")))
    (no6 : PySem.W.findIn K (.ref C6) "given" = some none)
    (aC7 : PySem.W.nsIn K mainGlobals "NotAPlan" = some (some (.ref C7)))
    (xL7 : K.lookup C7 = some (excClassObj nm7 q7 C7 N7 bs7 (.ref cV :: veM) true sn7 sub7 ab7 col7 dd7 k0_7 k1_7 k2_7 k3_7 k5_7 "ValueError.__new__"))
    (sa7 : PySem.W.findIn K (.ref C7) "__setattr__" = some (some (.builtin "object.__setattr__")))
    (ga7 : PySem.W.findIn K (.ref C7) "__getattribute__" = some (some (.builtin "BaseException.__getattribute__")))
    (gg7 : PySem.W.findIn K (.ref C7) "__getattr__" = some none)
    (kC7 : PySem.W.keepIn K (.ref C7) = true)
    (ha7 : PySem.W.findIn K (.ref C7) "__class__" = some (some (.builtin "object.__class__")))
    (no7 : PySem.W.findIn K (.ref C7) "given" = some none)
    (aC8 : PySem.W.nsIn K mainGlobals "UnknownName" = some (some (.ref C8)))
    (xL8 : K.lookup C8 = some (excClassObj nm8 q8 C8 N8 bs8 (.ref cM :: leM) true sn8 sub8 ab8 col8 dd8 k0_8 k1_8 k2_8 k3_8 k5_8 "LookupError.__new__"))
    (sa8 : PySem.W.findIn K (.ref C8) "__setattr__" = some (some (.builtin "object.__setattr__")))
    (ga8 : PySem.W.findIn K (.ref C8) "__getattribute__" = some (some (.builtin "BaseException.__getattribute__")))
    (gg8 : PySem.W.findIn K (.ref C8) "__getattr__" = some none)
    (kC8 : PySem.W.keepIn K (.ref C8) = true)
    (ha8 : PySem.W.findIn K (.ref C8) "__class__" = some (some (.builtin "object.__class__")))
    (no8 : PySem.W.findIn K (.ref C8) "given" = some none)
    (aC9 : PySem.W.nsIn K mainGlobals "TooMany" = some (some (.ref C9)))
    (xL9 : K.lookup C9 = some (excClassObj nm9 q9 C9 N9 bs9 (.ref cM :: leM) true sn9 sub9 ab9 col9 dd9 k0_9 k1_9 k2_9 k3_9 k5_9 "LookupError.__new__"))
    (sa9 : PySem.W.findIn K (.ref C9) "__setattr__" = some (some (.builtin "object.__setattr__")))
    (ga9 : PySem.W.findIn K (.ref C9) "__getattribute__" = some (some (.builtin "BaseException.__getattribute__")))
    (gg9 : PySem.W.findIn K (.ref C9) "__getattr__" = some none)
    (kC9 : PySem.W.keepIn K (.ref C9) = true)
    (ha9 : PySem.W.findIn K (.ref C9) "__class__" = some (some (.builtin "object.__class__")))
    (aC10 : PySem.W.nsIn K mainGlobals "Ended" = some (some (.ref C10)))
    (xL10 : K.lookup C10 = some (excClassObj nm10 q10 C10 N10 bs10 (.ref cM :: leM) true sn10 sub10 ab10 col10 dd10 k0_10 k1_10 k2_10 k3_10 k5_10 "LookupError.__new__"))
    (sa10 : PySem.W.findIn K (.ref C10) "__setattr__" = some (some (.builtin "object.__setattr__")))
    (ga10 : PySem.W.findIn K (.ref C10) "__getattribute__" = some (some (.builtin "BaseException.__getattribute__")))
    (gg10 : PySem.W.findIn K (.ref C10) "__getattr__" = some none)
    (kC10 : PySem.W.keepIn K (.ref C10) = true)
    (ha10 : PySem.W.findIn K (.ref C10) "__class__" = some (some (.builtin "object.__class__")))
    (aC11 : PySem.W.nsIn K mainGlobals "InUse" = some (some (.ref C11)))
    (xL11 : K.lookup C11 = some (excClassObj nm11 q11 C11 N11 bs11 (.ref cM :: leM) true sn11 sub11 ab11 col11 dd11 k0_11 k1_11 k2_11 k3_11 k5_11 "LookupError.__new__"))
    (sa11 : PySem.W.findIn K (.ref C11) "__setattr__" = some (some (.builtin "object.__setattr__")))
    (ga11 : PySem.W.findIn K (.ref C11) "__getattribute__" = some (some (.builtin "BaseException.__getattribute__")))
    (gg11 : PySem.W.findIn K (.ref C11) "__getattr__" = some none)
    (kC11 : PySem.W.keepIn K (.ref C11) = true)
    (ha11 : PySem.W.findIn K (.ref C11) "__class__" = some (some (.builtin "object.__class__")))
    (aC12 : PySem.W.nsIn K mainGlobals "NothingToUndo" = some (some (.ref C12)))
    (xL12 : K.lookup C12 = some (excClassObj nm12 q12 C12 N12 bs12 (.ref cM :: leM) true sn12 sub12 ab12 col12 dd12 k0_12 k1_12 k2_12 k3_12 k5_12 "LookupError.__new__"))
    (sa12 : PySem.W.findIn K (.ref C12) "__setattr__" = some (some (.builtin "object.__setattr__")))
    (ga12 : PySem.W.findIn K (.ref C12) "__getattribute__" = some (some (.builtin "BaseException.__getattribute__")))
    (gg12 : PySem.W.findIn K (.ref C12) "__getattr__" = some none)
    (kC12 : PySem.W.keepIn K (.ref C12) = true)
    (ha12 : PySem.W.findIn K (.ref C12) "__class__" = some (some (.builtin "object.__class__")))
    (aC13 : PySem.W.nsIn K mainGlobals "NotKept" = some (some (.ref C13)))
    (xL13 : K.lookup C13 = some (excClassObj nm13 q13 C13 N13 bs13 (.ref cM :: leM) true sn13 sub13 ab13 col13 dd13 k0_13 k1_13 k2_13 k3_13 k5_13 "LookupError.__new__"))
    (sa13 : PySem.W.findIn K (.ref C13) "__setattr__" = some (some (.builtin "object.__setattr__")))
    (ga13 : PySem.W.findIn K (.ref C13) "__getattribute__" = some (some (.builtin "BaseException.__getattribute__")))
    (gg13 : PySem.W.findIn K (.ref C13) "__getattr__" = some none)
    (kC13 : PySem.W.keepIn K (.ref C13) = true)
    (ha13 : PySem.W.findIn K (.ref C13) "__class__" = some (some (.builtin "object.__class__")))
    (ai0 : PySem.W.findIn K (.ref C0) "__init__" = some (some (.ref I0)))
    (ti0 : PySem.W.typeIn K (.ref I0) = some (.type "function"))
    (l_I0 : K.lookup I0 = some ⟨oc_I0, od_I0, .func (PySem.W.fnOf "__init__" "InvalidText.__init__" (defArgs s_InvalidText) (defBody s_InvalidText) (defScope s_InvalidText) .none kV_I0 dc_I0 pm_I0 an_I0 cd_I0 ct_I0), sl_I0⟩)
    (c_I0 : PySem.W.codeIn K cd_I0 "InvalidText.__init__" = true)
    (k_I0 : PySem.W.keepIn K (.ref I0) = true)
    (ai1 : PySem.W.findIn K (.ref C1) "__init__" = some (some (.ref I1)))
    (ti1 : PySem.W.typeIn K (.ref I1) = some (.type "function"))
    (l_I1 : K.lookup I1 = some ⟨oc_I1, od_I1, .func (PySem.W.fnOf "__init__" "InvalidNumber.__init__" (defArgs s_InvalidNumber) (defBody s_InvalidNumber) (defScope s_InvalidNumber) .none kV_I1 dc_I1 pm_I1 an_I1 cd_I1 ct_I1), sl_I1⟩)
    (c_I1 : PySem.W.codeIn K cd_I1 "InvalidNumber.__init__" = true)
    (k_I1 : PySem.W.keepIn K (.ref I1) = true)
    (ai2 : PySem.W.findIn K (.ref C2) "__init__" = some (some (.ref I2)))
    (ti2 : PySem.W.typeIn K (.ref I2) = some (.type "function"))
    (l_I2 : K.lookup I2 = some ⟨oc_I2, od_I2, .func (PySem.W.fnOf "__init__" "InvalidRows.__init__" (defArgs s_InvalidRows) (defBody s_InvalidRows) (defScope s_InvalidRows) .none kV_I2 dc_I2 pm_I2 an_I2 cd_I2 ct_I2), sl_I2⟩)
    (c_I2 : PySem.W.codeIn K cd_I2 "InvalidRows.__init__" = true)
    (k_I2 : PySem.W.keepIn K (.ref I2) = true)
    (a_int : PySem.W.nsIn K mainGlobals "is_integer_from" = some (some (.ref f_int)))
    (l_f_int : K.lookup f_int = some ⟨oc_f_int, od_f_int, .func (PySem.W.fnOf "is_integer_from" "is_integer_from" (defArgs s_is_integer_from) (defBody s_is_integer_from) (defScope s_is_integer_from) .none kV_f_int dc_f_int pm_f_int an_f_int cd_f_int ct_f_int), sl_f_int⟩)
    (c_f_int : PySem.W.codeIn K cd_f_int "is_integer_from" = true)
    (k_f_int : PySem.W.keepIn K (.ref f_int) = true)
    (a_name : PySem.W.nsIn K mainGlobals "is_name" = some (some (.ref f_name)))
    (l_f_name : K.lookup f_name = some ⟨oc_f_name, od_f_name, .func (PySem.W.fnOf "is_name" "is_name" (defArgs s_is_name) (defBody s_is_name) (defScope s_is_name) .none kV_f_name dc_f_name pm_f_name an_f_name cd_f_name ct_f_name), sl_f_name⟩)
    (c_f_name : PySem.W.codeIn K cd_f_name "is_name" = true)
    (k_f_name : PySem.W.keepIn K (.ref f_name) = true)
    (a_rising : PySem.W.nsIn K mainGlobals "is_rising" = some (some (.ref f_rising)))
    (l_f_rising : K.lookup f_rising = some ⟨oc_f_rising, od_f_rising, .func (PySem.W.fnOf "is_rising" "is_rising" (defArgs s_is_rising) (defBody s_is_rising) (defScope s_is_rising) .none kV_f_rising dc_f_rising pm_f_rising an_f_rising cd_f_rising ct_f_rising), sl_f_rising⟩)
    (c_f_rising : PySem.W.codeIn K cd_f_rising "is_rising" = true)
    (k_f_rising : PySem.W.keepIn K (.ref f_rising) = true)
    (a_ticks : PySem.W.nsIn K mainGlobals "are_ticks" = some (some (.ref f_ticks)))
    (l_f_ticks : K.lookup f_ticks = some ⟨oc_f_ticks, od_f_ticks, .func (PySem.W.fnOf "are_ticks" "are_ticks" (defArgs s_are_ticks) (defBody s_are_ticks) (defScope s_are_ticks) .none kV_f_ticks dc_f_ticks pm_f_ticks an_f_ticks cd_f_ticks ct_f_ticks), sl_f_ticks⟩)
    (c_f_ticks : PySem.W.codeIn K cd_f_ticks "are_ticks" = true)
    (k_f_ticks : PySem.W.keepIn K (.ref f_ticks) = true)
    (a_rows : PySem.W.nsIn K mainGlobals "are_rows" = some (some (.ref f_rows)))
    (l_f_rows : K.lookup f_rows = some ⟨oc_f_rows, od_f_rows, .func (PySem.W.fnOf "are_rows" "are_rows" (defArgs s_are_rows) (defBody s_are_rows) (defScope s_are_rows) .none kV_f_rows dc_f_rows pm_f_rows an_f_rows cd_f_rows ct_f_rows), sl_f_rows⟩)
    (c_f_rows : PySem.W.codeIn K cd_f_rows "are_rows" = true)
    (k_f_rows : PySem.W.keepIn K (.ref f_rows) = true)
    (a_rsize : PySem.W.nsIn K mainGlobals "_read_size" = some (some (.ref f_rsize)))
    (l_f_rsize : K.lookup f_rsize = some ⟨oc_f_rsize, od_f_rsize, .func (PySem.W.fnOf "_read_size" "_read_size" (defArgs s__read_size) (defBody s__read_size) (defScope s__read_size) .none kV_f_rsize dc_f_rsize pm_f_rsize an_f_rsize cd_f_rsize ct_f_rsize), sl_f_rsize⟩)
    (c_f_rsize : PySem.W.codeIn K cd_f_rsize "_read_size" = true)
    (k_f_rsize : PySem.W.keepIn K (.ref f_rsize) = true)
    (a_mticks : PySem.W.nsIn K mainGlobals "_marked_ticks" = some (some (.ref f_mticks)))
    (l_f_mticks : K.lookup f_mticks = some ⟨oc_f_mticks, od_f_mticks, .func (PySem.W.fnOf "_marked_ticks" "_marked_ticks" (defArgs s__marked_ticks) (defBody s__marked_ticks) (defScope s__marked_ticks) .none kV_f_mticks dc_f_mticks pm_f_mticks an_f_mticks cd_f_mticks ct_f_mticks), sl_f_mticks⟩)
    (c_f_mticks : PySem.W.codeIn K cd_f_mticks "_marked_ticks" = true)
    (k_f_mticks : PySem.W.keepIn K (.ref f_mticks) = true)
    (a_cell : PySem.W.nsIn K mainGlobals "_law_cell" = some (some (.ref f_cell)))
    (l_f_cell : K.lookup f_cell = some ⟨oc_f_cell, od_f_cell, .func (PySem.W.fnOf "_law_cell" "_law_cell" (defArgs Sp.s__law_cell) (defBody Sp.s__law_cell) (defScope Sp.s__law_cell) .none kV_f_cell dc_f_cell pm_f_cell an_f_cell cd_f_cell ct_f_cell), sl_f_cell⟩)
    (c_f_cell : PySem.W.codeIn K cd_f_cell "_law_cell" = true)
    (k_f_cell : PySem.W.keepIn K (.ref f_cell) = true)
    (a_purse : PySem.W.nsIn K mainGlobals "_law_purse" = some (some (.ref f_purse)))
    (l_f_purse : K.lookup f_purse = some ⟨oc_f_purse, od_f_purse, .func (PySem.W.fnOf "_law_purse" "_law_purse" (defArgs Sp.s__law_purse) (defBody Sp.s__law_purse) (defScope Sp.s__law_purse) .none kV_f_purse dc_f_purse pm_f_purse an_f_purse cd_f_purse ct_f_purse), sl_f_purse⟩)
    (c_f_purse : PySem.W.codeIn K cd_f_purse "_law_purse" = true)
    (k_f_purse : PySem.W.keepIn K (.ref f_purse) = true)
    (a_roll : PySem.W.nsIn K mainGlobals "_law_roll" = some (some (.ref f_roll)))
    (l_f_roll : K.lookup f_roll = some ⟨oc_f_roll, od_f_roll, .func (PySem.W.fnOf "_law_roll" "_law_roll" (defArgs Sp.s__law_roll) (defBody Sp.s__law_roll) (defScope Sp.s__law_roll) .none kV_f_roll dc_f_roll pm_f_roll an_f_roll cd_f_roll ct_f_roll), sl_f_roll⟩)
    (c_f_roll : PySem.W.codeIn K cd_f_roll "_law_roll" = true)
    (k_f_roll : PySem.W.keepIn K (.ref f_roll) = true)
    (a_letters : PySem.W.nsIn K mainGlobals "_law_letters" = some (some (.ref f_letters)))
    (l_f_letters : K.lookup f_letters = some ⟨oc_f_letters, od_f_letters, .func (PySem.W.fnOf "_law_letters" "_law_letters" (defArgs s__law_letters) (defBody s__law_letters) (defScope s__law_letters) .none kV_f_letters dc_f_letters pm_f_letters an_f_letters cd_f_letters ct_f_letters), sl_f_letters⟩)
    (c_f_letters : PySem.W.codeIn K cd_f_letters "_law_letters" = true)
    (k_f_letters : PySem.W.keepIn K (.ref f_letters) = true)
    (a_set : PySem.W.nsIn K mainGlobals "_law_set" = some (some (.ref f_set)))
    (l_f_set : K.lookup f_set = some ⟨oc_f_set, od_f_set, .func (PySem.W.fnOf "_law_set" "_law_set" (defArgs s__law_set) (defBody s__law_set) (defScope s__law_set) .none kV_f_set dc_f_set pm_f_set an_f_set cd_f_set ct_f_set), sl_f_set⟩)
    (c_f_set : PySem.W.codeIn K cd_f_set "_law_set" = true)
    (k_f_set : PySem.W.keepIn K (.ref f_set) = true)
    (a_drows : PySem.W.nsIn K mainGlobals "_law_drawn_rows" = some (some (.ref f_drows)))
    (l_f_drows : K.lookup f_drows = some ⟨oc_f_drows, od_f_drows, .func (PySem.W.fnOf "_law_drawn_rows" "_law_drawn_rows" (defArgs s__law_drawn_rows) (defBody s__law_drawn_rows) (defScope s__law_drawn_rows) .none kV_f_drows dc_f_drows pm_f_drows an_f_drows cd_f_drows ct_f_drows), sl_f_drows⟩)
    (c_f_drows : PySem.W.codeIn K cd_f_drows "_law_drawn_rows" = true)
    (k_f_drows : PySem.W.keepIn K (.ref f_drows) = true)
    (a_marks : PySem.W.nsIn K mainGlobals "_law_marks" = some (some (.ref f_marks)))
    (l_f_marks : K.lookup f_marks = some ⟨oc_f_marks, od_f_marks, .func (PySem.W.fnOf "_law_marks" "_law_marks" (defArgs Sp.s_lmarks) (defBody Sp.s_lmarks) (defScope Sp.s_lmarks) .none kV_f_marks dc_f_marks pm_f_marks an_f_marks cd_f_marks ct_f_marks), sl_f_marks⟩)
    (c_f_marks : PySem.W.codeIn K cd_f_marks "_law_marks" = true)
    (k_f_marks : PySem.W.keepIn K (.ref f_marks) = true)
    (a_ptext : PySem.W.nsIn K mainGlobals "_law_plan_text" = some (some (.ref f_ptext)))
    (l_f_ptext : K.lookup f_ptext = some ⟨oc_f_ptext, od_f_ptext, .func (PySem.W.fnOf "_law_plan_text" "_law_plan_text" (defArgs Sp.s_ptext) (defBody Sp.s_ptext) (defScope Sp.s_ptext) .none kV_f_ptext dc_f_ptext pm_f_ptext an_f_ptext cd_f_ptext ct_f_ptext), sl_f_ptext⟩)
    (c_f_ptext : PySem.W.codeIn K cd_f_ptext "_law_plan_text" = true)
    (k_f_ptext : PySem.W.keepIn K (.ref f_ptext) = true)
    (a_error : PySem.W.nsIn K mainGlobals "_law_error" = some (some (.ref f_error)))
    (l_f_error : K.lookup f_error = some ⟨oc_f_error, od_f_error, .func (PySem.W.fnOf "_law_error" "_law_error" (defArgs s__law_error) (defBody s__law_error) (defScope s__law_error) .none kV_f_error dc_f_error pm_f_error an_f_error cd_f_error ct_f_error), sl_f_error⟩)
    (c_f_error : PySem.W.codeIn K cd_f_error "_law_error" = true)
    (k_f_error : PySem.W.keepIn K (.ref f_error) = true)
    (a_caught : PySem.W.nsIn K mainGlobals "_law_caught" = some (some (.ref f_caught)))
    (l_f_caught : K.lookup f_caught = some ⟨oc_f_caught, od_f_caught, .func (PySem.W.fnOf "_law_caught" "_law_caught" (defArgs s__law_caught) (defBody s__law_caught) (defScope s__law_caught) .none kV_f_caught dc_f_caught pm_f_caught an_f_caught cd_f_caught ct_f_caught), sl_f_caught⟩)
    (c_f_caught : PySem.W.codeIn K cd_f_caught "_law_caught" = true)
    (k_f_caught : PySem.W.keepIn K (.ref f_caught) = true)
    (a_signs : PySem.W.nsIn K mainGlobals "_law_signs" = some (some (.ref f_signs)))
    (l_f_signs : K.lookup f_signs = some ⟨oc_f_signs, od_f_signs, .func (PySem.W.fnOf "_law_signs" "_law_signs" (defArgs s__law_signs) (defBody s__law_signs) (defScope s__law_signs) .none kV_f_signs dc_f_signs pm_f_signs an_f_signs cd_f_signs ct_f_signs), sl_f_signs⟩)
    (c_f_signs : PySem.W.codeIn K cd_f_signs "_law_signs" = true)
    (k_f_signs : PySem.W.keepIn K (.ref f_signs) = true)
    (a_spoilt : PySem.W.nsIn K mainGlobals "_law_spoilt" = some (some (.ref f_spoilt)))
    (l_f_spoilt : K.lookup f_spoilt = some ⟨oc_f_spoilt, od_f_spoilt, .func (PySem.W.fnOf "_law_spoilt" "_law_spoilt" (defArgs s__law_spoilt) (defBody s__law_spoilt) (defScope s__law_spoilt) .none kV_f_spoilt dc_f_spoilt pm_f_spoilt an_f_spoilt cd_f_spoilt ct_f_spoilt), sl_f_spoilt⟩)
    (c_f_spoilt : PySem.W.codeIn K cd_f_spoilt "_law_spoilt" = true)
    (k_f_spoilt : PySem.W.keepIn K (.ref f_spoilt) = true)
    (a_lread : PySem.W.nsIn K mainGlobals "_law_read" = some (some (.ref f_lread)))
    (l_f_lread : K.lookup f_lread = some ⟨oc_f_lread, od_f_lread, .func (PySem.W.fnOf "_law_read" "_law_read" (defArgs s__law_read) (defBody s__law_read) (defScope s__law_read) .none kV_f_lread dc_f_lread pm_f_lread an_f_lread cd_f_lread ct_f_lread), sl_f_lread⟩)
    (c_f_lread : PySem.W.codeIn K cd_f_lread "_law_read" = true)
    (k_f_lread : PySem.W.keepIn K (.ref f_lread) = true)
    (a_changed : PySem.W.nsIn K mainGlobals "_law_changed" = some (some (.ref f_changed)))
    (l_f_changed : K.lookup f_changed = some ⟨oc_f_changed, od_f_changed, .func (PySem.W.fnOf "_law_changed" "_law_changed" (defArgs s__law_changed) (defBody s__law_changed) (defScope s__law_changed) .none kV_f_changed dc_f_changed pm_f_changed an_f_changed cd_f_changed ct_f_changed), sl_f_changed⟩)
    (c_f_changed : PySem.W.codeIn K cd_f_changed "_law_changed" = true)
    (k_f_changed : PySem.W.keepIn K (.ref f_changed) = true)
    (a_right : PySem.W.nsIn K mainGlobals "_law_right" = some (some (.ref f_right)))
    (l_f_right : K.lookup f_right = some ⟨oc_f_right, od_f_right, .func (PySem.W.fnOf "_law_right" "_law_right" (defArgs s__law_right) (defBody s__law_right) (defScope s__law_right) .none kV_f_right dc_f_right pm_f_right an_f_right (.ref cR) ct_f_right), sl_f_right⟩)
    (c_f_right : PySem.W.codeIn K (.ref cR) "_law_right" = true)
    (k_f_right : PySem.W.keepIn K (.ref f_right) = true)
    (a_law : PySem.W.nsIn K mainGlobals "law" = some (some (.ref f_law)))
    (l_f_law : K.lookup f_law = some ⟨oc_f_law, od_f_law, .func (PySem.W.fnOf "law" "law" (defArgs s_law) (defBody s_law) (defScope s_law) .none kV_f_law dc_f_law pm_f_law an_f_law (.ref cL) ct_f_law), sl_f_law⟩)
    (c_f_law : PySem.W.codeIn K (.ref cL) "law" = true)
    (k_f_law : PySem.W.keepIn K (.ref f_law) = true)
    (kcR : K.lookup cR = some ⟨tCR, odR, .fields vsR, slR⟩)
    (v11R : vsR[11]? = some (.ref PR))
    (hdR : PySem.W.codeHdIn K cR PR = true)
    (ouR : K.lookup PR = none)
    (emR : h.get? PR = some { cls := .none, data := .fields #[] })
    (kcL : K.lookup cL = some ⟨tCL, odL, .fields vsL, slL⟩)
    (v11L : vsL[11]? = some (.ref PL))
    (hdL : PySem.W.codeHdIn K cL PL = true)
    (ouL : K.lookup PL = none)
    (emL : h.get? PL = some { cls := .none, data := .fields #[] })
    (nPL : PR ≠ PL)
    (m_most : PySem.W.nsIn K mainGlobals "MOST_TICKS" = some (some (.int 10000 tk_most)))
    (z_len : PySem.W.nsIn K mainGlobals "len" = some none)
    (z_int : PySem.W.nsIn K mainGlobals "int" = some none)
    (z_abs : PySem.W.nsIn K mainGlobals "abs" = some none)
    (z_divmod : PySem.W.nsIn K mainGlobals "divmod" = some none)
    (z_isinstance : PySem.W.nsIn K mainGlobals "isinstance" = some none)
    (z_bool : PySem.W.nsIn K mainGlobals "bool" = some none)
    (z_str : PySem.W.nsIn K mainGlobals "str" = some none)
    (z_tuple : PySem.W.nsIn K mainGlobals "tuple" = some none)
    (z_list : PySem.W.nsIn K mainGlobals "list" = some none)
    (z_dict : PySem.W.nsIn K mainGlobals "dict" = some none)
    (z_range : PySem.W.nsIn K mainGlobals "range" = some none)
    (z_all : PySem.W.nsIn K mainGlobals "all" = some none)
    (z_any : PySem.W.nsIn K mainGlobals "any" = some none)
    (z_zip : PySem.W.nsIn K mainGlobals "zip" = some none)
    (z_enumerate : PySem.W.nsIn K mainGlobals "enumerate" = some none)
    (z_sorted : PySem.W.nsIn K mainGlobals "sorted" = some none)
    (z_repr : PySem.W.nsIn K mainGlobals "repr" = some none)
    (z_sum : PySem.W.nsIn K mainGlobals "sum" = some none)
    (z_min : PySem.W.nsIn K mainGlobals "min" = some none)
    (z_max : PySem.W.nsIn K mainGlobals "max" = some none)
    (z_reversed : PySem.W.nsIn K mainGlobals "reversed" = some none)
    (z_set : PySem.W.nsIn K mainGlobals "set" = some none)
    (z_map : PySem.W.nsIn K mainGlobals "map" = some none)
    (dj : ([cV, cM, C0, C1, C2, C3, C4, C5, C6, C7, C8, C9, C10, C11, C12, C13] : List Addr).Nodup) :
    ∃ (fd : FuncData) (cs : List (Addr × Addr)) (sp : Sp), (∀ p ∈ cs, h.get? p.2 = some { cls := .none, data := .fields #[] }) ∧ (∀ p ∈ cs, K.lookup p.2 = none) ∧ (∀ p ∈ cs, PySem.W.CodeHd h p.1 p.2) ∧ (∀ (s : Shared) (u : Value), BindsTo s fd ⟨[u], []⟩ [("_law_script", u)]) ∧
        (∀ (H : Hp) (a : Addr) (ns : List Int), ns.length ≤ 63 → (∀ p ∈ cs, H p.2 = some (.tbl #[])) → SqL K H a (ns.map V.int) → sp [.ref a] H (fun v _ => v = .bl true) fun _ _ _ => False) ∧
        ∀ base : Heap, K.In base → base.Ns mainGlobals mg → (∀ p ∈ cs, LamX.TabB base mg p.1 p.2) → FnG P w K mg base CX0 11 fa fd ["_law_script"] sp := by
  have e := hfa.symm.trans (PySem.W.mg_of X G a_law)
  cases e
  have mgs := @PySem.W.mg_of K h mg
  have mgn := @PySem.W.mg_none_of K h mg
  have xc0 := xc_of xL0 famV (by rfl) (by rfl) (by rfl) sa0 kC0 ga0 gg0 ha0 hn ht
  have xc1 := xc_of xL1 famV (by rfl) (by rfl) (by rfl) sa1 kC1 ga1 gg1 ha1 hn ht
  have xc2 := xc_of xL2 famV (by rfl) (by rfl) (by rfl) sa2 kC2 ga2 gg2 ha2 hn ht
  have xc3 := xc_of xL3 famV (by rfl) (by rfl) (by rfl) sa3 kC3 ga3 gg3 ha3 hn ht
  have xc4 := xc_of xL4 famV (by rfl) (by rfl) (by rfl) sa4 kC4 ga4 gg4 ha4 hn ht
  have xc5 := xc_of xL5 famV (by rfl) (by rfl) (by rfl) sa5 kC5 ga5 gg5 ha5 hn ht
  have xc6 := xc_of xL6 famV (by rfl) (by rfl) (by rfl) sa6 kC6 ga6 gg6 ha6 hn ht
  have xc7 := xc_of xL7 famV (by rfl) (by rfl) (by rfl) sa7 kC7 ga7 gg7 ha7 hn ht
  have xc8 := xc_of xL8 famL (by rfl) (by rfl) (by rfl) sa8 kC8 ga8 gg8 ha8 hn ht
  have xc9 := xc_of xL9 famL (by rfl) (by rfl) (by rfl) sa9 kC9 ga9 gg9 ha9 hn ht
  have xc10 := xc_of xL10 famL (by rfl) (by rfl) (by rfl) sa10 kC10 ga10 gg10 ha10 hn ht
  have xc11 := xc_of xL11 famL (by rfl) (by rfl) (by rfl) sa11 kC11 ga11 gg11 ha11 hn ht
  have xc12 := xc_of xL12 famL (by rfl) (by rfl) (by rfl) sa12 kC12 ga12 gg12 ha12 hn ht
  have xc13 := xc_of xL13 famL (by rfl) (by rfl) (by rfl) sa13 kC13 ga13 gg13 ha13 hn ht
  let Ce : Nat → Addr := fun i => ([C0, C1, C2, C3, C4, C5, C6, C7, C8, C9, C10, C11, C12, C13] : List Addr).getD i 0
  have T : Er K mg Ce cV cM := {
    xc := fun i hi => match i, hi with
      | 0, _ => ⟨_, _, _, _, xc0⟩
      | 1, _ => ⟨_, _, _, _, xc1⟩
      | 2, _ => ⟨_, _, _, _, xc2⟩
      | 3, _ => ⟨_, _, _, _, xc3⟩
      | 4, _ => ⟨_, _, _, _, xc4⟩
      | 5, _ => ⟨_, _, _, _, xc5⟩
      | 6, _ => ⟨_, _, _, _, xc6⟩
      | 7, _ => ⟨_, _, _, _, xc7⟩
      | 8, _ => ⟨_, _, _, _, xc8⟩
      | 9, _ => ⟨_, _, _, _, xc9⟩
      | 10, _ => ⟨_, _, _, _, xc10⟩
      | 11, _ => ⟨_, _, _, _, xc11⟩
      | 12, _ => ⟨_, _, _, _, xc12⟩
      | 13, _ => ⟨_, _, _, _, xc13⟩
    kit := fun i hi k hk => match i, hi, k, hk with
      | 0, _, 0, _ => kit_own xL0 (by rw [cls_of xL0]; rfl) (ty_of xL0) con_1
      | 0, _, 1, _ => kit_own xL0 (by rw [cls_of xL1]; rfl) (ty_of xL1) ((con_f (nd_of dj 3 2 rfl rfl (by decide)) (nd_of dj 3 0 rfl rfl (by decide)) (by rfl)).trans rfl)
      | 0, _, 2, _ => kit_own xL0 (by rw [cls_of xL2]; rfl) (ty_of xL2) ((con_f (nd_of dj 4 2 rfl rfl (by decide)) (nd_of dj 4 0 rfl rfl (by decide)) (by rfl)).trans rfl)
      | 0, _, 3, _ => kit_own xL0 (by rw [cls_of xL3]; rfl) (ty_of xL3) ((con_f (nd_of dj 5 2 rfl rfl (by decide)) (nd_of dj 5 0 rfl rfl (by decide)) (by rfl)).trans rfl)
      | 0, _, 4, _ => kit_own xL0 (by rw [cls_of xL4]; rfl) (ty_of xL4) ((con_f (nd_of dj 6 2 rfl rfl (by decide)) (nd_of dj 6 0 rfl rfl (by decide)) (by rfl)).trans rfl)
      | 0, _, 5, _ => kit_own xL0 (by rw [cls_of xL5]; rfl) (ty_of xL5) ((con_f (nd_of dj 7 2 rfl rfl (by decide)) (nd_of dj 7 0 rfl rfl (by decide)) (by rfl)).trans rfl)
      | 0, _, 6, _ => kit_own xL0 (by rw [cls_of xL6]; rfl) (ty_of xL6) ((con_f (nd_of dj 8 2 rfl rfl (by decide)) (nd_of dj 8 0 rfl rfl (by decide)) (by rfl)).trans rfl)
      | 0, _, 7, _ => kit_own xL0 (by rw [cls_of xL7]; rfl) (ty_of xL7) ((con_f (nd_of dj 9 2 rfl rfl (by decide)) (nd_of dj 9 0 rfl rfl (by decide)) (by rfl)).trans rfl)
      | 0, _, 8, _ => kit_own xL0 (by rw [cls_of xL8]; rfl) (ty_of xL8) ((con_f (nd_of dj 10 2 rfl rfl (by decide)) (nd_of dj 10 0 rfl rfl (by decide)) (by rfl)).trans rfl)
      | 0, _, 9, _ => kit_own xL0 (by rw [cls_of xL9]; rfl) (ty_of xL9) ((con_f (nd_of dj 11 2 rfl rfl (by decide)) (nd_of dj 11 0 rfl rfl (by decide)) (by rfl)).trans rfl)
      | 0, _, 10, _ => kit_own xL0 (by rw [cls_of xL10]; rfl) (ty_of xL10) ((con_f (nd_of dj 12 2 rfl rfl (by decide)) (nd_of dj 12 0 rfl rfl (by decide)) (by rfl)).trans rfl)
      | 0, _, 11, _ => kit_own xL0 (by rw [cls_of xL11]; rfl) (ty_of xL11) ((con_f (nd_of dj 13 2 rfl rfl (by decide)) (nd_of dj 13 0 rfl rfl (by decide)) (by rfl)).trans rfl)
      | 0, _, 12, _ => kit_own xL0 (by rw [cls_of xL12]; rfl) (ty_of xL12) ((con_f (nd_of dj 14 2 rfl rfl (by decide)) (nd_of dj 14 0 rfl rfl (by decide)) (by rfl)).trans rfl)
      | 0, _, 13, _ => kit_own xL0 (by rw [cls_of xL13]; rfl) (ty_of xL13) ((con_f (nd_of dj 15 2 rfl rfl (by decide)) (nd_of dj 15 0 rfl rfl (by decide)) (by rfl)).trans rfl)
      | 1, _, 0, _ => kit_own xL1 (by rw [cls_of xL0]; rfl) (ty_of xL0) ((con_f (nd_of dj 2 3 rfl rfl (by decide)) (nd_of dj 2 0 rfl rfl (by decide)) (by rfl)).trans rfl)
      | 1, _, 1, _ => kit_own xL1 (by rw [cls_of xL1]; rfl) (ty_of xL1) con_1
      | 1, _, 2, _ => kit_own xL1 (by rw [cls_of xL2]; rfl) (ty_of xL2) ((con_f (nd_of dj 4 3 rfl rfl (by decide)) (nd_of dj 4 0 rfl rfl (by decide)) (by rfl)).trans rfl)
      | 1, _, 3, _ => kit_own xL1 (by rw [cls_of xL3]; rfl) (ty_of xL3) ((con_f (nd_of dj 5 3 rfl rfl (by decide)) (nd_of dj 5 0 rfl rfl (by decide)) (by rfl)).trans rfl)
      | 1, _, 4, _ => kit_own xL1 (by rw [cls_of xL4]; rfl) (ty_of xL4) ((con_f (nd_of dj 6 3 rfl rfl (by decide)) (nd_of dj 6 0 rfl rfl (by decide)) (by rfl)).trans rfl)
      | 1, _, 5, _ => kit_own xL1 (by rw [cls_of xL5]; rfl) (ty_of xL5) ((con_f (nd_of dj 7 3 rfl rfl (by decide)) (nd_of dj 7 0 rfl rfl (by decide)) (by rfl)).trans rfl)
      | 1, _, 6, _ => kit_own xL1 (by rw [cls_of xL6]; rfl) (ty_of xL6) ((con_f (nd_of dj 8 3 rfl rfl (by decide)) (nd_of dj 8 0 rfl rfl (by decide)) (by rfl)).trans rfl)
      | 1, _, 7, _ => kit_own xL1 (by rw [cls_of xL7]; rfl) (ty_of xL7) ((con_f (nd_of dj 9 3 rfl rfl (by decide)) (nd_of dj 9 0 rfl rfl (by decide)) (by rfl)).trans rfl)
      | 1, _, 8, _ => kit_own xL1 (by rw [cls_of xL8]; rfl) (ty_of xL8) ((con_f (nd_of dj 10 3 rfl rfl (by decide)) (nd_of dj 10 0 rfl rfl (by decide)) (by rfl)).trans rfl)
      | 1, _, 9, _ => kit_own xL1 (by rw [cls_of xL9]; rfl) (ty_of xL9) ((con_f (nd_of dj 11 3 rfl rfl (by decide)) (nd_of dj 11 0 rfl rfl (by decide)) (by rfl)).trans rfl)
      | 1, _, 10, _ => kit_own xL1 (by rw [cls_of xL10]; rfl) (ty_of xL10) ((con_f (nd_of dj 12 3 rfl rfl (by decide)) (nd_of dj 12 0 rfl rfl (by decide)) (by rfl)).trans rfl)
      | 1, _, 11, _ => kit_own xL1 (by rw [cls_of xL11]; rfl) (ty_of xL11) ((con_f (nd_of dj 13 3 rfl rfl (by decide)) (nd_of dj 13 0 rfl rfl (by decide)) (by rfl)).trans rfl)
      | 1, _, 12, _ => kit_own xL1 (by rw [cls_of xL12]; rfl) (ty_of xL12) ((con_f (nd_of dj 14 3 rfl rfl (by decide)) (nd_of dj 14 0 rfl rfl (by decide)) (by rfl)).trans rfl)
      | 1, _, 13, _ => kit_own xL1 (by rw [cls_of xL13]; rfl) (ty_of xL13) ((con_f (nd_of dj 15 3 rfl rfl (by decide)) (nd_of dj 15 0 rfl rfl (by decide)) (by rfl)).trans rfl)
      | 2, _, 0, _ => kit_own xL2 (by rw [cls_of xL0]; rfl) (ty_of xL0) ((con_f (nd_of dj 2 4 rfl rfl (by decide)) (nd_of dj 2 0 rfl rfl (by decide)) (by rfl)).trans rfl)
      | 2, _, 1, _ => kit_own xL2 (by rw [cls_of xL1]; rfl) (ty_of xL1) ((con_f (nd_of dj 3 4 rfl rfl (by decide)) (nd_of dj 3 0 rfl rfl (by decide)) (by rfl)).trans rfl)
      | 2, _, 2, _ => kit_own xL2 (by rw [cls_of xL2]; rfl) (ty_of xL2) con_1
      | 2, _, 3, _ => kit_own xL2 (by rw [cls_of xL3]; rfl) (ty_of xL3) ((con_f (nd_of dj 5 4 rfl rfl (by decide)) (nd_of dj 5 0 rfl rfl (by decide)) (by rfl)).trans rfl)
      | 2, _, 4, _ => kit_own xL2 (by rw [cls_of xL4]; rfl) (ty_of xL4) ((con_f (nd_of dj 6 4 rfl rfl (by decide)) (nd_of dj 6 0 rfl rfl (by decide)) (by rfl)).trans rfl)
      | 2, _, 5, _ => kit_own xL2 (by rw [cls_of xL5]; rfl) (ty_of xL5) ((con_f (nd_of dj 7 4 rfl rfl (by decide)) (nd_of dj 7 0 rfl rfl (by decide)) (by rfl)).trans rfl)
      | 2, _, 6, _ => kit_own xL2 (by rw [cls_of xL6]; rfl) (ty_of xL6) ((con_f (nd_of dj 8 4 rfl rfl (by decide)) (nd_of dj 8 0 rfl rfl (by decide)) (by rfl)).trans rfl)
      | 2, _, 7, _ => kit_own xL2 (by rw [cls_of xL7]; rfl) (ty_of xL7) ((con_f (nd_of dj 9 4 rfl rfl (by decide)) (nd_of dj 9 0 rfl rfl (by decide)) (by rfl)).trans rfl)
      | 2, _, 8, _ => kit_own xL2 (by rw [cls_of xL8]; rfl) (ty_of xL8) ((con_f (nd_of dj 10 4 rfl rfl (by decide)) (nd_of dj 10 0 rfl rfl (by decide)) (by rfl)).trans rfl)
      | 2, _, 9, _ => kit_own xL2 (by rw [cls_of xL9]; rfl) (ty_of xL9) ((con_f (nd_of dj 11 4 rfl rfl (by decide)) (nd_of dj 11 0 rfl rfl (by decide)) (by rfl)).trans rfl)
      | 2, _, 10, _ => kit_own xL2 (by rw [cls_of xL10]; rfl) (ty_of xL10) ((con_f (nd_of dj 12 4 rfl rfl (by decide)) (nd_of dj 12 0 rfl rfl (by decide)) (by rfl)).trans rfl)
      | 2, _, 11, _ => kit_own xL2 (by rw [cls_of xL11]; rfl) (ty_of xL11) ((con_f (nd_of dj 13 4 rfl rfl (by decide)) (nd_of dj 13 0 rfl rfl (by decide)) (by rfl)).trans rfl)
      | 2, _, 12, _ => kit_own xL2 (by rw [cls_of xL12]; rfl) (ty_of xL12) ((con_f (nd_of dj 14 4 rfl rfl (by decide)) (nd_of dj 14 0 rfl rfl (by decide)) (by rfl)).trans rfl)
      | 2, _, 13, _ => kit_own xL2 (by rw [cls_of xL13]; rfl) (ty_of xL13) ((con_f (nd_of dj 15 4 rfl rfl (by decide)) (nd_of dj 15 0 rfl rfl (by decide)) (by rfl)).trans rfl)
      | 3, _, 0, _ => kit_own xL3 (by rw [cls_of xL0]; rfl) (ty_of xL0) ((con_f (nd_of dj 2 5 rfl rfl (by decide)) (nd_of dj 2 0 rfl rfl (by decide)) (by rfl)).trans rfl)
      | 3, _, 1, _ => kit_own xL3 (by rw [cls_of xL1]; rfl) (ty_of xL1) ((con_f (nd_of dj 3 5 rfl rfl (by decide)) (nd_of dj 3 0 rfl rfl (by decide)) (by rfl)).trans rfl)
      | 3, _, 2, _ => kit_own xL3 (by rw [cls_of xL2]; rfl) (ty_of xL2) ((con_f (nd_of dj 4 5 rfl rfl (by decide)) (nd_of dj 4 0 rfl rfl (by decide)) (by rfl)).trans rfl)
      | 3, _, 3, _ => kit_own xL3 (by rw [cls_of xL3]; rfl) (ty_of xL3) con_1
      | 3, _, 4, _ => kit_own xL3 (by rw [cls_of xL4]; rfl) (ty_of xL4) ((con_f (nd_of dj 6 5 rfl rfl (by decide)) (nd_of dj 6 0 rfl rfl (by decide)) (by rfl)).trans rfl)
      | 3, _, 5, _ => kit_own xL3 (by rw [cls_of xL5]; rfl) (ty_of xL5) ((con_f (nd_of dj 7 5 rfl rfl (by decide)) (nd_of dj 7 0 rfl rfl (by decide)) (by rfl)).trans rfl)
      | 3, _, 6, _ => kit_own xL3 (by rw [cls_of xL6]; rfl) (ty_of xL6) ((con_f (nd_of dj 8 5 rfl rfl (by decide)) (nd_of dj 8 0 rfl rfl (by decide)) (by rfl)).trans rfl)
      | 3, _, 7, _ => kit_own xL3 (by rw [cls_of xL7]; rfl) (ty_of xL7) ((con_f (nd_of dj 9 5 rfl rfl (by decide)) (nd_of dj 9 0 rfl rfl (by decide)) (by rfl)).trans rfl)
      | 3, _, 8, _ => kit_own xL3 (by rw [cls_of xL8]; rfl) (ty_of xL8) ((con_f (nd_of dj 10 5 rfl rfl (by decide)) (nd_of dj 10 0 rfl rfl (by decide)) (by rfl)).trans rfl)
      | 3, _, 9, _ => kit_own xL3 (by rw [cls_of xL9]; rfl) (ty_of xL9) ((con_f (nd_of dj 11 5 rfl rfl (by decide)) (nd_of dj 11 0 rfl rfl (by decide)) (by rfl)).trans rfl)
      | 3, _, 10, _ => kit_own xL3 (by rw [cls_of xL10]; rfl) (ty_of xL10) ((con_f (nd_of dj 12 5 rfl rfl (by decide)) (nd_of dj 12 0 rfl rfl (by decide)) (by rfl)).trans rfl)
      | 3, _, 11, _ => kit_own xL3 (by rw [cls_of xL11]; rfl) (ty_of xL11) ((con_f (nd_of dj 13 5 rfl rfl (by decide)) (nd_of dj 13 0 rfl rfl (by decide)) (by rfl)).trans rfl)
      | 3, _, 12, _ => kit_own xL3 (by rw [cls_of xL12]; rfl) (ty_of xL12) ((con_f (nd_of dj 14 5 rfl rfl (by decide)) (nd_of dj 14 0 rfl rfl (by decide)) (by rfl)).trans rfl)
      | 3, _, 13, _ => kit_own xL3 (by rw [cls_of xL13]; rfl) (ty_of xL13) ((con_f (nd_of dj 15 5 rfl rfl (by decide)) (nd_of dj 15 0 rfl rfl (by decide)) (by rfl)).trans rfl)
      | 4, _, 0, _ => kit_own xL4 (by rw [cls_of xL0]; rfl) (ty_of xL0) ((con_f (nd_of dj 2 6 rfl rfl (by decide)) (nd_of dj 2 0 rfl rfl (by decide)) (by rfl)).trans rfl)
      | 4, _, 1, _ => kit_own xL4 (by rw [cls_of xL1]; rfl) (ty_of xL1) ((con_f (nd_of dj 3 6 rfl rfl (by decide)) (nd_of dj 3 0 rfl rfl (by decide)) (by rfl)).trans rfl)
      | 4, _, 2, _ => kit_own xL4 (by rw [cls_of xL2]; rfl) (ty_of xL2) ((con_f (nd_of dj 4 6 rfl rfl (by decide)) (nd_of dj 4 0 rfl rfl (by decide)) (by rfl)).trans rfl)
      | 4, _, 3, _ => kit_own xL4 (by rw [cls_of xL3]; rfl) (ty_of xL3) ((con_f (nd_of dj 5 6 rfl rfl (by decide)) (nd_of dj 5 0 rfl rfl (by decide)) (by rfl)).trans rfl)
      | 4, _, 4, _ => kit_own xL4 (by rw [cls_of xL4]; rfl) (ty_of xL4) con_1
      | 4, _, 5, _ => kit_own xL4 (by rw [cls_of xL5]; rfl) (ty_of xL5) ((con_f (nd_of dj 7 6 rfl rfl (by decide)) (nd_of dj 7 0 rfl rfl (by decide)) (by rfl)).trans rfl)
      | 4, _, 6, _ => kit_own xL4 (by rw [cls_of xL6]; rfl) (ty_of xL6) ((con_f (nd_of dj 8 6 rfl rfl (by decide)) (nd_of dj 8 0 rfl rfl (by decide)) (by rfl)).trans rfl)
      | 4, _, 7, _ => kit_own xL4 (by rw [cls_of xL7]; rfl) (ty_of xL7) ((con_f (nd_of dj 9 6 rfl rfl (by decide)) (nd_of dj 9 0 rfl rfl (by decide)) (by rfl)).trans rfl)
      | 4, _, 8, _ => kit_own xL4 (by rw [cls_of xL8]; rfl) (ty_of xL8) ((con_f (nd_of dj 10 6 rfl rfl (by decide)) (nd_of dj 10 0 rfl rfl (by decide)) (by rfl)).trans rfl)
      | 4, _, 9, _ => kit_own xL4 (by rw [cls_of xL9]; rfl) (ty_of xL9) ((con_f (nd_of dj 11 6 rfl rfl (by decide)) (nd_of dj 11 0 rfl rfl (by decide)) (by rfl)).trans rfl)
      | 4, _, 10, _ => kit_own xL4 (by rw [cls_of xL10]; rfl) (ty_of xL10) ((con_f (nd_of dj 12 6 rfl rfl (by decide)) (nd_of dj 12 0 rfl rfl (by decide)) (by rfl)).trans rfl)
      | 4, _, 11, _ => kit_own xL4 (by rw [cls_of xL11]; rfl) (ty_of xL11) ((con_f (nd_of dj 13 6 rfl rfl (by decide)) (nd_of dj 13 0 rfl rfl (by decide)) (by rfl)).trans rfl)
      | 4, _, 12, _ => kit_own xL4 (by rw [cls_of xL12]; rfl) (ty_of xL12) ((con_f (nd_of dj 14 6 rfl rfl (by decide)) (nd_of dj 14 0 rfl rfl (by decide)) (by rfl)).trans rfl)
      | 4, _, 13, _ => kit_own xL4 (by rw [cls_of xL13]; rfl) (ty_of xL13) ((con_f (nd_of dj 15 6 rfl rfl (by decide)) (nd_of dj 15 0 rfl rfl (by decide)) (by rfl)).trans rfl)
      | 5, _, 0, _ => kit_own xL5 (by rw [cls_of xL0]; rfl) (ty_of xL0) ((con_f (nd_of dj 2 7 rfl rfl (by decide)) (nd_of dj 2 0 rfl rfl (by decide)) (by rfl)).trans rfl)
      | 5, _, 1, _ => kit_own xL5 (by rw [cls_of xL1]; rfl) (ty_of xL1) ((con_f (nd_of dj 3 7 rfl rfl (by decide)) (nd_of dj 3 0 rfl rfl (by decide)) (by rfl)).trans rfl)
      | 5, _, 2, _ => kit_own xL5 (by rw [cls_of xL2]; rfl) (ty_of xL2) ((con_f (nd_of dj 4 7 rfl rfl (by decide)) (nd_of dj 4 0 rfl rfl (by decide)) (by rfl)).trans rfl)
      | 5, _, 3, _ => kit_own xL5 (by rw [cls_of xL3]; rfl) (ty_of xL3) ((con_f (nd_of dj 5 7 rfl rfl (by decide)) (nd_of dj 5 0 rfl rfl (by decide)) (by rfl)).trans rfl)
      | 5, _, 4, _ => kit_own xL5 (by rw [cls_of xL4]; rfl) (ty_of xL4) ((con_f (nd_of dj 6 7 rfl rfl (by decide)) (nd_of dj 6 0 rfl rfl (by decide)) (by rfl)).trans rfl)
      | 5, _, 5, _ => kit_own xL5 (by rw [cls_of xL5]; rfl) (ty_of xL5) con_1
      | 5, _, 6, _ => kit_own xL5 (by rw [cls_of xL6]; rfl) (ty_of xL6) ((con_f (nd_of dj 8 7 rfl rfl (by decide)) (nd_of dj 8 0 rfl rfl (by decide)) (by rfl)).trans rfl)
      | 5, _, 7, _ => kit_own xL5 (by rw [cls_of xL7]; rfl) (ty_of xL7) ((con_f (nd_of dj 9 7 rfl rfl (by decide)) (nd_of dj 9 0 rfl rfl (by decide)) (by rfl)).trans rfl)
      | 5, _, 8, _ => kit_own xL5 (by rw [cls_of xL8]; rfl) (ty_of xL8) ((con_f (nd_of dj 10 7 rfl rfl (by decide)) (nd_of dj 10 0 rfl rfl (by decide)) (by rfl)).trans rfl)
      | 5, _, 9, _ => kit_own xL5 (by rw [cls_of xL9]; rfl) (ty_of xL9) ((con_f (nd_of dj 11 7 rfl rfl (by decide)) (nd_of dj 11 0 rfl rfl (by decide)) (by rfl)).trans rfl)
      | 5, _, 10, _ => kit_own xL5 (by rw [cls_of xL10]; rfl) (ty_of xL10) ((con_f (nd_of dj 12 7 rfl rfl (by decide)) (nd_of dj 12 0 rfl rfl (by decide)) (by rfl)).trans rfl)
      | 5, _, 11, _ => kit_own xL5 (by rw [cls_of xL11]; rfl) (ty_of xL11) ((con_f (nd_of dj 13 7 rfl rfl (by decide)) (nd_of dj 13 0 rfl rfl (by decide)) (by rfl)).trans rfl)
      | 5, _, 12, _ => kit_own xL5 (by rw [cls_of xL12]; rfl) (ty_of xL12) ((con_f (nd_of dj 14 7 rfl rfl (by decide)) (nd_of dj 14 0 rfl rfl (by decide)) (by rfl)).trans rfl)
      | 5, _, 13, _ => kit_own xL5 (by rw [cls_of xL13]; rfl) (ty_of xL13) ((con_f (nd_of dj 15 7 rfl rfl (by decide)) (nd_of dj 15 0 rfl rfl (by decide)) (by rfl)).trans rfl)
      | 6, _, 0, _ => kit_own xL6 (by rw [cls_of xL0]; rfl) (ty_of xL0) ((con_f (nd_of dj 2 8 rfl rfl (by decide)) (nd_of dj 2 0 rfl rfl (by decide)) (by rfl)).trans rfl)
      | 6, _, 1, _ => kit_own xL6 (by rw [cls_of xL1]; rfl) (ty_of xL1) ((con_f (nd_of dj 3 8 rfl rfl (by decide)) (nd_of dj 3 0 rfl rfl (by decide)) (by rfl)).trans rfl)
      | 6, _, 2, _ => kit_own xL6 (by rw [cls_of xL2]; rfl) (ty_of xL2) ((con_f (nd_of dj 4 8 rfl rfl (by decide)) (nd_of dj 4 0 rfl rfl (by decide)) (by rfl)).trans rfl)
      | 6, _, 3, _ => kit_own xL6 (by rw [cls_of xL3]; rfl) (ty_of xL3) ((con_f (nd_of dj 5 8 rfl rfl (by decide)) (nd_of dj 5 0 rfl rfl (by decide)) (by rfl)).trans rfl)
      | 6, _, 4, _ => kit_own xL6 (by rw [cls_of xL4]; rfl) (ty_of xL4) ((con_f (nd_of dj 6 8 rfl rfl (by decide)) (nd_of dj 6 0 rfl rfl (by decide)) (by rfl)).trans rfl)
      | 6, _, 5, _ => kit_own xL6 (by rw [cls_of xL5]; rfl) (ty_of xL5) ((con_f (nd_of dj 7 8 rfl rfl (by decide)) (nd_of dj 7 0 rfl rfl (by decide)) (by rfl)).trans rfl)
      | 6, _, 6, _ => kit_own xL6 (by rw [cls_of xL6]; rfl) (ty_of xL6) con_1
      | 6, _, 7, _ => kit_own xL6 (by rw [cls_of xL7]; rfl) (ty_of xL7) ((con_f (nd_of dj 9 8 rfl rfl (by decide)) (nd_of dj 9 0 rfl rfl (by decide)) (by rfl)).trans rfl)
      | 6, _, 8, _ => kit_own xL6 (by rw [cls_of xL8]; rfl) (ty_of xL8) ((con_f (nd_of dj 10 8 rfl rfl (by decide)) (nd_of dj 10 0 rfl rfl (by decide)) (by rfl)).trans rfl)
      | 6, _, 9, _ => kit_own xL6 (by rw [cls_of xL9]; rfl) (ty_of xL9) ((con_f (nd_of dj 11 8 rfl rfl (by decide)) (nd_of dj 11 0 rfl rfl (by decide)) (by rfl)).trans rfl)
      | 6, _, 10, _ => kit_own xL6 (by rw [cls_of xL10]; rfl) (ty_of xL10) ((con_f (nd_of dj 12 8 rfl rfl (by decide)) (nd_of dj 12 0 rfl rfl (by decide)) (by rfl)).trans rfl)
      | 6, _, 11, _ => kit_own xL6 (by rw [cls_of xL11]; rfl) (ty_of xL11) ((con_f (nd_of dj 13 8 rfl rfl (by decide)) (nd_of dj 13 0 rfl rfl (by decide)) (by rfl)).trans rfl)
      | 6, _, 12, _ => kit_own xL6 (by rw [cls_of xL12]; rfl) (ty_of xL12) ((con_f (nd_of dj 14 8 rfl rfl (by decide)) (nd_of dj 14 0 rfl rfl (by decide)) (by rfl)).trans rfl)
      | 6, _, 13, _ => kit_own xL6 (by rw [cls_of xL13]; rfl) (ty_of xL13) ((con_f (nd_of dj 15 8 rfl rfl (by decide)) (nd_of dj 15 0 rfl rfl (by decide)) (by rfl)).trans rfl)
      | 7, _, 0, _ => kit_own xL7 (by rw [cls_of xL0]; rfl) (ty_of xL0) ((con_f (nd_of dj 2 9 rfl rfl (by decide)) (nd_of dj 2 0 rfl rfl (by decide)) (by rfl)).trans rfl)
      | 7, _, 1, _ => kit_own xL7 (by rw [cls_of xL1]; rfl) (ty_of xL1) ((con_f (nd_of dj 3 9 rfl rfl (by decide)) (nd_of dj 3 0 rfl rfl (by decide)) (by rfl)).trans rfl)
      | 7, _, 2, _ => kit_own xL7 (by rw [cls_of xL2]; rfl) (ty_of xL2) ((con_f (nd_of dj 4 9 rfl rfl (by decide)) (nd_of dj 4 0 rfl rfl (by decide)) (by rfl)).trans rfl)
      | 7, _, 3, _ => kit_own xL7 (by rw [cls_of xL3]; rfl) (ty_of xL3) ((con_f (nd_of dj 5 9 rfl rfl (by decide)) (nd_of dj 5 0 rfl rfl (by decide)) (by rfl)).trans rfl)
      | 7, _, 4, _ => kit_own xL7 (by rw [cls_of xL4]; rfl) (ty_of xL4) ((con_f (nd_of dj 6 9 rfl rfl (by decide)) (nd_of dj 6 0 rfl rfl (by decide)) (by rfl)).trans rfl)
      | 7, _, 5, _ => kit_own xL7 (by rw [cls_of xL5]; rfl) (ty_of xL5) ((con_f (nd_of dj 7 9 rfl rfl (by decide)) (nd_of dj 7 0 rfl rfl (by decide)) (by rfl)).trans rfl)
      | 7, _, 6, _ => kit_own xL7 (by rw [cls_of xL6]; rfl) (ty_of xL6) ((con_f (nd_of dj 8 9 rfl rfl (by decide)) (nd_of dj 8 0 rfl rfl (by decide)) (by rfl)).trans rfl)
      | 7, _, 7, _ => kit_own xL7 (by rw [cls_of xL7]; rfl) (ty_of xL7) con_1
      | 7, _, 8, _ => kit_own xL7 (by rw [cls_of xL8]; rfl) (ty_of xL8) ((con_f (nd_of dj 10 9 rfl rfl (by decide)) (nd_of dj 10 0 rfl rfl (by decide)) (by rfl)).trans rfl)
      | 7, _, 9, _ => kit_own xL7 (by rw [cls_of xL9]; rfl) (ty_of xL9) ((con_f (nd_of dj 11 9 rfl rfl (by decide)) (nd_of dj 11 0 rfl rfl (by decide)) (by rfl)).trans rfl)
      | 7, _, 10, _ => kit_own xL7 (by rw [cls_of xL10]; rfl) (ty_of xL10) ((con_f (nd_of dj 12 9 rfl rfl (by decide)) (nd_of dj 12 0 rfl rfl (by decide)) (by rfl)).trans rfl)
      | 7, _, 11, _ => kit_own xL7 (by rw [cls_of xL11]; rfl) (ty_of xL11) ((con_f (nd_of dj 13 9 rfl rfl (by decide)) (nd_of dj 13 0 rfl rfl (by decide)) (by rfl)).trans rfl)
      | 7, _, 12, _ => kit_own xL7 (by rw [cls_of xL12]; rfl) (ty_of xL12) ((con_f (nd_of dj 14 9 rfl rfl (by decide)) (nd_of dj 14 0 rfl rfl (by decide)) (by rfl)).trans rfl)
      | 7, _, 13, _ => kit_own xL7 (by rw [cls_of xL13]; rfl) (ty_of xL13) ((con_f (nd_of dj 15 9 rfl rfl (by decide)) (nd_of dj 15 0 rfl rfl (by decide)) (by rfl)).trans rfl)
      | 8, _, 0, _ => kit_own xL8 (by rw [cls_of xL0]; rfl) (ty_of xL0) ((con_f (nd_of dj 2 10 rfl rfl (by decide)) (nd_of dj 2 1 rfl rfl (by decide)) (by rfl)).trans rfl)
      | 8, _, 1, _ => kit_own xL8 (by rw [cls_of xL1]; rfl) (ty_of xL1) ((con_f (nd_of dj 3 10 rfl rfl (by decide)) (nd_of dj 3 1 rfl rfl (by decide)) (by rfl)).trans rfl)
      | 8, _, 2, _ => kit_own xL8 (by rw [cls_of xL2]; rfl) (ty_of xL2) ((con_f (nd_of dj 4 10 rfl rfl (by decide)) (nd_of dj 4 1 rfl rfl (by decide)) (by rfl)).trans rfl)
      | 8, _, 3, _ => kit_own xL8 (by rw [cls_of xL3]; rfl) (ty_of xL3) ((con_f (nd_of dj 5 10 rfl rfl (by decide)) (nd_of dj 5 1 rfl rfl (by decide)) (by rfl)).trans rfl)
      | 8, _, 4, _ => kit_own xL8 (by rw [cls_of xL4]; rfl) (ty_of xL4) ((con_f (nd_of dj 6 10 rfl rfl (by decide)) (nd_of dj 6 1 rfl rfl (by decide)) (by rfl)).trans rfl)
      | 8, _, 5, _ => kit_own xL8 (by rw [cls_of xL5]; rfl) (ty_of xL5) ((con_f (nd_of dj 7 10 rfl rfl (by decide)) (nd_of dj 7 1 rfl rfl (by decide)) (by rfl)).trans rfl)
      | 8, _, 6, _ => kit_own xL8 (by rw [cls_of xL6]; rfl) (ty_of xL6) ((con_f (nd_of dj 8 10 rfl rfl (by decide)) (nd_of dj 8 1 rfl rfl (by decide)) (by rfl)).trans rfl)
      | 8, _, 7, _ => kit_own xL8 (by rw [cls_of xL7]; rfl) (ty_of xL7) ((con_f (nd_of dj 9 10 rfl rfl (by decide)) (nd_of dj 9 1 rfl rfl (by decide)) (by rfl)).trans rfl)
      | 8, _, 8, _ => kit_own xL8 (by rw [cls_of xL8]; rfl) (ty_of xL8) con_1
      | 8, _, 9, _ => kit_own xL8 (by rw [cls_of xL9]; rfl) (ty_of xL9) ((con_f (nd_of dj 11 10 rfl rfl (by decide)) (nd_of dj 11 1 rfl rfl (by decide)) (by rfl)).trans rfl)
      | 8, _, 10, _ => kit_own xL8 (by rw [cls_of xL10]; rfl) (ty_of xL10) ((con_f (nd_of dj 12 10 rfl rfl (by decide)) (nd_of dj 12 1 rfl rfl (by decide)) (by rfl)).trans rfl)
      | 8, _, 11, _ => kit_own xL8 (by rw [cls_of xL11]; rfl) (ty_of xL11) ((con_f (nd_of dj 13 10 rfl rfl (by decide)) (nd_of dj 13 1 rfl rfl (by decide)) (by rfl)).trans rfl)
      | 8, _, 12, _ => kit_own xL8 (by rw [cls_of xL12]; rfl) (ty_of xL12) ((con_f (nd_of dj 14 10 rfl rfl (by decide)) (nd_of dj 14 1 rfl rfl (by decide)) (by rfl)).trans rfl)
      | 8, _, 13, _ => kit_own xL8 (by rw [cls_of xL13]; rfl) (ty_of xL13) ((con_f (nd_of dj 15 10 rfl rfl (by decide)) (nd_of dj 15 1 rfl rfl (by decide)) (by rfl)).trans rfl)
      | 9, _, 0, _ => kit_own xL9 (by rw [cls_of xL0]; rfl) (ty_of xL0) ((con_f (nd_of dj 2 11 rfl rfl (by decide)) (nd_of dj 2 1 rfl rfl (by decide)) (by rfl)).trans rfl)
      | 9, _, 1, _ => kit_own xL9 (by rw [cls_of xL1]; rfl) (ty_of xL1) ((con_f (nd_of dj 3 11 rfl rfl (by decide)) (nd_of dj 3 1 rfl rfl (by decide)) (by rfl)).trans rfl)
      | 9, _, 2, _ => kit_own xL9 (by rw [cls_of xL2]; rfl) (ty_of xL2) ((con_f (nd_of dj 4 11 rfl rfl (by decide)) (nd_of dj 4 1 rfl rfl (by decide)) (by rfl)).trans rfl)
      | 9, _, 3, _ => kit_own xL9 (by rw [cls_of xL3]; rfl) (ty_of xL3) ((con_f (nd_of dj 5 11 rfl rfl (by decide)) (nd_of dj 5 1 rfl rfl (by decide)) (by rfl)).trans rfl)
      | 9, _, 4, _ => kit_own xL9 (by rw [cls_of xL4]; rfl) (ty_of xL4) ((con_f (nd_of dj 6 11 rfl rfl (by decide)) (nd_of dj 6 1 rfl rfl (by decide)) (by rfl)).trans rfl)
      | 9, _, 5, _ => kit_own xL9 (by rw [cls_of xL5]; rfl) (ty_of xL5) ((con_f (nd_of dj 7 11 rfl rfl (by decide)) (nd_of dj 7 1 rfl rfl (by decide)) (by rfl)).trans rfl)
      | 9, _, 6, _ => kit_own xL9 (by rw [cls_of xL6]; rfl) (ty_of xL6) ((con_f (nd_of dj 8 11 rfl rfl (by decide)) (nd_of dj 8 1 rfl rfl (by decide)) (by rfl)).trans rfl)
      | 9, _, 7, _ => kit_own xL9 (by rw [cls_of xL7]; rfl) (ty_of xL7) ((con_f (nd_of dj 9 11 rfl rfl (by decide)) (nd_of dj 9 1 rfl rfl (by decide)) (by rfl)).trans rfl)
      | 9, _, 8, _ => kit_own xL9 (by rw [cls_of xL8]; rfl) (ty_of xL8) ((con_f (nd_of dj 10 11 rfl rfl (by decide)) (nd_of dj 10 1 rfl rfl (by decide)) (by rfl)).trans rfl)
      | 9, _, 9, _ => kit_own xL9 (by rw [cls_of xL9]; rfl) (ty_of xL9) con_1
      | 9, _, 10, _ => kit_own xL9 (by rw [cls_of xL10]; rfl) (ty_of xL10) ((con_f (nd_of dj 12 11 rfl rfl (by decide)) (nd_of dj 12 1 rfl rfl (by decide)) (by rfl)).trans rfl)
      | 9, _, 11, _ => kit_own xL9 (by rw [cls_of xL11]; rfl) (ty_of xL11) ((con_f (nd_of dj 13 11 rfl rfl (by decide)) (nd_of dj 13 1 rfl rfl (by decide)) (by rfl)).trans rfl)
      | 9, _, 12, _ => kit_own xL9 (by rw [cls_of xL12]; rfl) (ty_of xL12) ((con_f (nd_of dj 14 11 rfl rfl (by decide)) (nd_of dj 14 1 rfl rfl (by decide)) (by rfl)).trans rfl)
      | 9, _, 13, _ => kit_own xL9 (by rw [cls_of xL13]; rfl) (ty_of xL13) ((con_f (nd_of dj 15 11 rfl rfl (by decide)) (nd_of dj 15 1 rfl rfl (by decide)) (by rfl)).trans rfl)
      | 10, _, 0, _ => kit_own xL10 (by rw [cls_of xL0]; rfl) (ty_of xL0) ((con_f (nd_of dj 2 12 rfl rfl (by decide)) (nd_of dj 2 1 rfl rfl (by decide)) (by rfl)).trans rfl)
      | 10, _, 1, _ => kit_own xL10 (by rw [cls_of xL1]; rfl) (ty_of xL1) ((con_f (nd_of dj 3 12 rfl rfl (by decide)) (nd_of dj 3 1 rfl rfl (by decide)) (by rfl)).trans rfl)
      | 10, _, 2, _ => kit_own xL10 (by rw [cls_of xL2]; rfl) (ty_of xL2) ((con_f (nd_of dj 4 12 rfl rfl (by decide)) (nd_of dj 4 1 rfl rfl (by decide)) (by rfl)).trans rfl)
      | 10, _, 3, _ => kit_own xL10 (by rw [cls_of xL3]; rfl) (ty_of xL3) ((con_f (nd_of dj 5 12 rfl rfl (by decide)) (nd_of dj 5 1 rfl rfl (by decide)) (by rfl)).trans rfl)
      | 10, _, 4, _ => kit_own xL10 (by rw [cls_of xL4]; rfl) (ty_of xL4) ((con_f (nd_of dj 6 12 rfl rfl (by decide)) (nd_of dj 6 1 rfl rfl (by decide)) (by rfl)).trans rfl)
      | 10, _, 5, _ => kit_own xL10 (by rw [cls_of xL5]; rfl) (ty_of xL5) ((con_f (nd_of dj 7 12 rfl rfl (by decide)) (nd_of dj 7 1 rfl rfl (by decide)) (by rfl)).trans rfl)
      | 10, _, 6, _ => kit_own xL10 (by rw [cls_of xL6]; rfl) (ty_of xL6) ((con_f (nd_of dj 8 12 rfl rfl (by decide)) (nd_of dj 8 1 rfl rfl (by decide)) (by rfl)).trans rfl)
      | 10, _, 7, _ => kit_own xL10 (by rw [cls_of xL7]; rfl) (ty_of xL7) ((con_f (nd_of dj 9 12 rfl rfl (by decide)) (nd_of dj 9 1 rfl rfl (by decide)) (by rfl)).trans rfl)
      | 10, _, 8, _ => kit_own xL10 (by rw [cls_of xL8]; rfl) (ty_of xL8) ((con_f (nd_of dj 10 12 rfl rfl (by decide)) (nd_of dj 10 1 rfl rfl (by decide)) (by rfl)).trans rfl)
      | 10, _, 9, _ => kit_own xL10 (by rw [cls_of xL9]; rfl) (ty_of xL9) ((con_f (nd_of dj 11 12 rfl rfl (by decide)) (nd_of dj 11 1 rfl rfl (by decide)) (by rfl)).trans rfl)
      | 10, _, 10, _ => kit_own xL10 (by rw [cls_of xL10]; rfl) (ty_of xL10) con_1
      | 10, _, 11, _ => kit_own xL10 (by rw [cls_of xL11]; rfl) (ty_of xL11) ((con_f (nd_of dj 13 12 rfl rfl (by decide)) (nd_of dj 13 1 rfl rfl (by decide)) (by rfl)).trans rfl)
      | 10, _, 12, _ => kit_own xL10 (by rw [cls_of xL12]; rfl) (ty_of xL12) ((con_f (nd_of dj 14 12 rfl rfl (by decide)) (nd_of dj 14 1 rfl rfl (by decide)) (by rfl)).trans rfl)
      | 10, _, 13, _ => kit_own xL10 (by rw [cls_of xL13]; rfl) (ty_of xL13) ((con_f (nd_of dj 15 12 rfl rfl (by decide)) (nd_of dj 15 1 rfl rfl (by decide)) (by rfl)).trans rfl)
      | 11, _, 0, _ => kit_own xL11 (by rw [cls_of xL0]; rfl) (ty_of xL0) ((con_f (nd_of dj 2 13 rfl rfl (by decide)) (nd_of dj 2 1 rfl rfl (by decide)) (by rfl)).trans rfl)
      | 11, _, 1, _ => kit_own xL11 (by rw [cls_of xL1]; rfl) (ty_of xL1) ((con_f (nd_of dj 3 13 rfl rfl (by decide)) (nd_of dj 3 1 rfl rfl (by decide)) (by rfl)).trans rfl)
      | 11, _, 2, _ => kit_own xL11 (by rw [cls_of xL2]; rfl) (ty_of xL2) ((con_f (nd_of dj 4 13 rfl rfl (by decide)) (nd_of dj 4 1 rfl rfl (by decide)) (by rfl)).trans rfl)
      | 11, _, 3, _ => kit_own xL11 (by rw [cls_of xL3]; rfl) (ty_of xL3) ((con_f (nd_of dj 5 13 rfl rfl (by decide)) (nd_of dj 5 1 rfl rfl (by decide)) (by rfl)).trans rfl)
      | 11, _, 4, _ => kit_own xL11 (by rw [cls_of xL4]; rfl) (ty_of xL4) ((con_f (nd_of dj 6 13 rfl rfl (by decide)) (nd_of dj 6 1 rfl rfl (by decide)) (by rfl)).trans rfl)
      | 11, _, 5, _ => kit_own xL11 (by rw [cls_of xL5]; rfl) (ty_of xL5) ((con_f (nd_of dj 7 13 rfl rfl (by decide)) (nd_of dj 7 1 rfl rfl (by decide)) (by rfl)).trans rfl)
      | 11, _, 6, _ => kit_own xL11 (by rw [cls_of xL6]; rfl) (ty_of xL6) ((con_f (nd_of dj 8 13 rfl rfl (by decide)) (nd_of dj 8 1 rfl rfl (by decide)) (by rfl)).trans rfl)
      | 11, _, 7, _ => kit_own xL11 (by rw [cls_of xL7]; rfl) (ty_of xL7) ((con_f (nd_of dj 9 13 rfl rfl (by decide)) (nd_of dj 9 1 rfl rfl (by decide)) (by rfl)).trans rfl)
      | 11, _, 8, _ => kit_own xL11 (by rw [cls_of xL8]; rfl) (ty_of xL8) ((con_f (nd_of dj 10 13 rfl rfl (by decide)) (nd_of dj 10 1 rfl rfl (by decide)) (by rfl)).trans rfl)
      | 11, _, 9, _ => kit_own xL11 (by rw [cls_of xL9]; rfl) (ty_of xL9) ((con_f (nd_of dj 11 13 rfl rfl (by decide)) (nd_of dj 11 1 rfl rfl (by decide)) (by rfl)).trans rfl)
      | 11, _, 10, _ => kit_own xL11 (by rw [cls_of xL10]; rfl) (ty_of xL10) ((con_f (nd_of dj 12 13 rfl rfl (by decide)) (nd_of dj 12 1 rfl rfl (by decide)) (by rfl)).trans rfl)
      | 11, _, 11, _ => kit_own xL11 (by rw [cls_of xL11]; rfl) (ty_of xL11) con_1
      | 11, _, 12, _ => kit_own xL11 (by rw [cls_of xL12]; rfl) (ty_of xL12) ((con_f (nd_of dj 14 13 rfl rfl (by decide)) (nd_of dj 14 1 rfl rfl (by decide)) (by rfl)).trans rfl)
      | 11, _, 13, _ => kit_own xL11 (by rw [cls_of xL13]; rfl) (ty_of xL13) ((con_f (nd_of dj 15 13 rfl rfl (by decide)) (nd_of dj 15 1 rfl rfl (by decide)) (by rfl)).trans rfl)
      | 12, _, 0, _ => kit_own xL12 (by rw [cls_of xL0]; rfl) (ty_of xL0) ((con_f (nd_of dj 2 14 rfl rfl (by decide)) (nd_of dj 2 1 rfl rfl (by decide)) (by rfl)).trans rfl)
      | 12, _, 1, _ => kit_own xL12 (by rw [cls_of xL1]; rfl) (ty_of xL1) ((con_f (nd_of dj 3 14 rfl rfl (by decide)) (nd_of dj 3 1 rfl rfl (by decide)) (by rfl)).trans rfl)
      | 12, _, 2, _ => kit_own xL12 (by rw [cls_of xL2]; rfl) (ty_of xL2) ((con_f (nd_of dj 4 14 rfl rfl (by decide)) (nd_of dj 4 1 rfl rfl (by decide)) (by rfl)).trans rfl)
      | 12, _, 3, _ => kit_own xL12 (by rw [cls_of xL3]; rfl) (ty_of xL3) ((con_f (nd_of dj 5 14 rfl rfl (by decide)) (nd_of dj 5 1 rfl rfl (by decide)) (by rfl)).trans rfl)
      | 12, _, 4, _ => kit_own xL12 (by rw [cls_of xL4]; rfl) (ty_of xL4) ((con_f (nd_of dj 6 14 rfl rfl (by decide)) (nd_of dj 6 1 rfl rfl (by decide)) (by rfl)).trans rfl)
      | 12, _, 5, _ => kit_own xL12 (by rw [cls_of xL5]; rfl) (ty_of xL5) ((con_f (nd_of dj 7 14 rfl rfl (by decide)) (nd_of dj 7 1 rfl rfl (by decide)) (by rfl)).trans rfl)
      | 12, _, 6, _ => kit_own xL12 (by rw [cls_of xL6]; rfl) (ty_of xL6) ((con_f (nd_of dj 8 14 rfl rfl (by decide)) (nd_of dj 8 1 rfl rfl (by decide)) (by rfl)).trans rfl)
      | 12, _, 7, _ => kit_own xL12 (by rw [cls_of xL7]; rfl) (ty_of xL7) ((con_f (nd_of dj 9 14 rfl rfl (by decide)) (nd_of dj 9 1 rfl rfl (by decide)) (by rfl)).trans rfl)
      | 12, _, 8, _ => kit_own xL12 (by rw [cls_of xL8]; rfl) (ty_of xL8) ((con_f (nd_of dj 10 14 rfl rfl (by decide)) (nd_of dj 10 1 rfl rfl (by decide)) (by rfl)).trans rfl)
      | 12, _, 9, _ => kit_own xL12 (by rw [cls_of xL9]; rfl) (ty_of xL9) ((con_f (nd_of dj 11 14 rfl rfl (by decide)) (nd_of dj 11 1 rfl rfl (by decide)) (by rfl)).trans rfl)
      | 12, _, 10, _ => kit_own xL12 (by rw [cls_of xL10]; rfl) (ty_of xL10) ((con_f (nd_of dj 12 14 rfl rfl (by decide)) (nd_of dj 12 1 rfl rfl (by decide)) (by rfl)).trans rfl)
      | 12, _, 11, _ => kit_own xL12 (by rw [cls_of xL11]; rfl) (ty_of xL11) ((con_f (nd_of dj 13 14 rfl rfl (by decide)) (nd_of dj 13 1 rfl rfl (by decide)) (by rfl)).trans rfl)
      | 12, _, 12, _ => kit_own xL12 (by rw [cls_of xL12]; rfl) (ty_of xL12) con_1
      | 12, _, 13, _ => kit_own xL12 (by rw [cls_of xL13]; rfl) (ty_of xL13) ((con_f (nd_of dj 15 14 rfl rfl (by decide)) (nd_of dj 15 1 rfl rfl (by decide)) (by rfl)).trans rfl)
      | 13, _, 0, _ => kit_own xL13 (by rw [cls_of xL0]; rfl) (ty_of xL0) ((con_f (nd_of dj 2 15 rfl rfl (by decide)) (nd_of dj 2 1 rfl rfl (by decide)) (by rfl)).trans rfl)
      | 13, _, 1, _ => kit_own xL13 (by rw [cls_of xL1]; rfl) (ty_of xL1) ((con_f (nd_of dj 3 15 rfl rfl (by decide)) (nd_of dj 3 1 rfl rfl (by decide)) (by rfl)).trans rfl)
      | 13, _, 2, _ => kit_own xL13 (by rw [cls_of xL2]; rfl) (ty_of xL2) ((con_f (nd_of dj 4 15 rfl rfl (by decide)) (nd_of dj 4 1 rfl rfl (by decide)) (by rfl)).trans rfl)
      | 13, _, 3, _ => kit_own xL13 (by rw [cls_of xL3]; rfl) (ty_of xL3) ((con_f (nd_of dj 5 15 rfl rfl (by decide)) (nd_of dj 5 1 rfl rfl (by decide)) (by rfl)).trans rfl)
      | 13, _, 4, _ => kit_own xL13 (by rw [cls_of xL4]; rfl) (ty_of xL4) ((con_f (nd_of dj 6 15 rfl rfl (by decide)) (nd_of dj 6 1 rfl rfl (by decide)) (by rfl)).trans rfl)
      | 13, _, 5, _ => kit_own xL13 (by rw [cls_of xL5]; rfl) (ty_of xL5) ((con_f (nd_of dj 7 15 rfl rfl (by decide)) (nd_of dj 7 1 rfl rfl (by decide)) (by rfl)).trans rfl)
      | 13, _, 6, _ => kit_own xL13 (by rw [cls_of xL6]; rfl) (ty_of xL6) ((con_f (nd_of dj 8 15 rfl rfl (by decide)) (nd_of dj 8 1 rfl rfl (by decide)) (by rfl)).trans rfl)
      | 13, _, 7, _ => kit_own xL13 (by rw [cls_of xL7]; rfl) (ty_of xL7) ((con_f (nd_of dj 9 15 rfl rfl (by decide)) (nd_of dj 9 1 rfl rfl (by decide)) (by rfl)).trans rfl)
      | 13, _, 8, _ => kit_own xL13 (by rw [cls_of xL8]; rfl) (ty_of xL8) ((con_f (nd_of dj 10 15 rfl rfl (by decide)) (nd_of dj 10 1 rfl rfl (by decide)) (by rfl)).trans rfl)
      | 13, _, 9, _ => kit_own xL13 (by rw [cls_of xL9]; rfl) (ty_of xL9) ((con_f (nd_of dj 11 15 rfl rfl (by decide)) (nd_of dj 11 1 rfl rfl (by decide)) (by rfl)).trans rfl)
      | 13, _, 10, _ => kit_own xL13 (by rw [cls_of xL10]; rfl) (ty_of xL10) ((con_f (nd_of dj 12 15 rfl rfl (by decide)) (nd_of dj 12 1 rfl rfl (by decide)) (by rfl)).trans rfl)
      | 13, _, 11, _ => kit_own xL13 (by rw [cls_of xL11]; rfl) (ty_of xL11) ((con_f (nd_of dj 13 15 rfl rfl (by decide)) (nd_of dj 13 1 rfl rfl (by decide)) (by rfl)).trans rfl)
      | 13, _, 12, _ => kit_own xL13 (by rw [cls_of xL12]; rfl) (ty_of xL12) ((con_f (nd_of dj 14 15 rfl rfl (by decide)) (nd_of dj 14 1 rfl rfl (by decide)) (by rfl)).trans rfl)
      | 13, _, 13, _ => kit_own xL13 (by rw [cls_of xL13]; rfl) (ty_of xL13) con_1
    kitV := fun i hi => match i, hi with
      | 0, _ => kit_own xL0 iV tV con_2
      | 1, _ => kit_own xL1 iV tV con_2
      | 2, _ => kit_own xL2 iV tV con_2
      | 3, _ => kit_own xL3 iV tV con_2
      | 4, _ => kit_own xL4 iV tV con_2
      | 5, _ => kit_own xL5 iV tV con_2
      | 6, _ => kit_own xL6 iV tV con_2
      | 7, _ => kit_own xL7 iV tV con_2
      | 8, _ => kit_own xL8 iV tV ((con_f (nd_of dj 0 10 rfl rfl (by decide)) (nd_of dj 0 1 rfl rfl (by decide)) (by rfl)).trans rfl)
      | 9, _ => kit_own xL9 iV tV ((con_f (nd_of dj 0 11 rfl rfl (by decide)) (nd_of dj 0 1 rfl rfl (by decide)) (by rfl)).trans rfl)
      | 10, _ => kit_own xL10 iV tV ((con_f (nd_of dj 0 12 rfl rfl (by decide)) (nd_of dj 0 1 rfl rfl (by decide)) (by rfl)).trans rfl)
      | 11, _ => kit_own xL11 iV tV ((con_f (nd_of dj 0 13 rfl rfl (by decide)) (nd_of dj 0 1 rfl rfl (by decide)) (by rfl)).trans rfl)
      | 12, _ => kit_own xL12 iV tV ((con_f (nd_of dj 0 14 rfl rfl (by decide)) (nd_of dj 0 1 rfl rfl (by decide)) (by rfl)).trans rfl)
      | 13, _ => kit_own xL13 iV tV ((con_f (nd_of dj 0 15 rfl rfl (by decide)) (nd_of dj 0 1 rfl rfl (by decide)) (by rfl)).trans rfl)
    kitM := fun i hi => match i, hi with
      | 0, _ => kit_own xL0 iM tM ((con_f (nd_of dj 1 2 rfl rfl (by decide)) (nd_of dj 1 0 rfl rfl (by decide)) (by rfl)).trans rfl)
      | 1, _ => kit_own xL1 iM tM ((con_f (nd_of dj 1 3 rfl rfl (by decide)) (nd_of dj 1 0 rfl rfl (by decide)) (by rfl)).trans rfl)
      | 2, _ => kit_own xL2 iM tM ((con_f (nd_of dj 1 4 rfl rfl (by decide)) (nd_of dj 1 0 rfl rfl (by decide)) (by rfl)).trans rfl)
      | 3, _ => kit_own xL3 iM tM ((con_f (nd_of dj 1 5 rfl rfl (by decide)) (nd_of dj 1 0 rfl rfl (by decide)) (by rfl)).trans rfl)
      | 4, _ => kit_own xL4 iM tM ((con_f (nd_of dj 1 6 rfl rfl (by decide)) (nd_of dj 1 0 rfl rfl (by decide)) (by rfl)).trans rfl)
      | 5, _ => kit_own xL5 iM tM ((con_f (nd_of dj 1 7 rfl rfl (by decide)) (nd_of dj 1 0 rfl rfl (by decide)) (by rfl)).trans rfl)
      | 6, _ => kit_own xL6 iM tM ((con_f (nd_of dj 1 8 rfl rfl (by decide)) (nd_of dj 1 0 rfl rfl (by decide)) (by rfl)).trans rfl)
      | 7, _ => kit_own xL7 iM tM ((con_f (nd_of dj 1 9 rfl rfl (by decide)) (nd_of dj 1 0 rfl rfl (by decide)) (by rfl)).trans rfl)
      | 8, _ => kit_own xL8 iM tM con_2
      | 9, _ => kit_own xL9 iM tM con_2
      | 10, _ => kit_own xL10 iM tM con_2
      | 11, _ => kit_own xL11 iM tM con_2
      | 12, _ => kit_own xL12 iM tM con_2
      | 13, _ => kit_own xL13 iM tM con_2
    no := fun i hi => match i, hi with
      | 0, _ => no0
      | 1, _ => no1
      | 2, _ => no2
      | 3, _ => no3
      | 4, _ => no4
      | 5, _ => no5
      | 6, _ => no6
      | 7, _ => no7
      | 8, _ => no8
    g_WrongValue := mgs X G aV
    g_WrongMoment := mgs X G aM
    g_InvalidText := mgs X G aC0
    g_InvalidNumber := mgs X G aC1
    g_InvalidRows := mgs X G aC2
    g_InvalidName := mgs X G aC3
    g_InvalidTicks := mgs X G aC4
    g_InvalidWish := mgs X G aC5
    g_NotASieve := mgs X G aC6
    g_NotAPlan := mgs X G aC7
    g_UnknownName := mgs X G aC8
    g_TooMany := mgs X G aC9
    g_Ended := mgs X G aC10
    g_InUse := mgs X G aC11
    g_NothingToUndo := mgs X G aC12
    g_NotKept := mgs X G aC13 }
  have exm : ∀ i, i < 14 → PySem.W.exmAny K (.ref (Ce i)) [.ref cV, .ref cM] = some true := fun i hi => match i, hi with
    | 0, _ => exm_2 (PySem.W.exm_ref (b := true) sV dV tV ((sub_of xL0 _).trans (congrArg some con_2))) (PySem.W.exm_ref (b := false) sM dM tM ((sub_of xL0 _).trans (congrArg some ((con_f (nd_of dj 1 2 rfl rfl (by decide)) (nd_of dj 1 0 rfl rfl (by decide)) (by rfl)).trans rfl)))) rfl
    | 1, _ => exm_2 (PySem.W.exm_ref (b := true) sV dV tV ((sub_of xL1 _).trans (congrArg some con_2))) (PySem.W.exm_ref (b := false) sM dM tM ((sub_of xL1 _).trans (congrArg some ((con_f (nd_of dj 1 3 rfl rfl (by decide)) (nd_of dj 1 0 rfl rfl (by decide)) (by rfl)).trans rfl)))) rfl
    | 2, _ => exm_2 (PySem.W.exm_ref (b := true) sV dV tV ((sub_of xL2 _).trans (congrArg some con_2))) (PySem.W.exm_ref (b := false) sM dM tM ((sub_of xL2 _).trans (congrArg some ((con_f (nd_of dj 1 4 rfl rfl (by decide)) (nd_of dj 1 0 rfl rfl (by decide)) (by rfl)).trans rfl)))) rfl
    | 3, _ => exm_2 (PySem.W.exm_ref (b := true) sV dV tV ((sub_of xL3 _).trans (congrArg some con_2))) (PySem.W.exm_ref (b := false) sM dM tM ((sub_of xL3 _).trans (congrArg some ((con_f (nd_of dj 1 5 rfl rfl (by decide)) (nd_of dj 1 0 rfl rfl (by decide)) (by rfl)).trans rfl)))) rfl
    | 4, _ => exm_2 (PySem.W.exm_ref (b := true) sV dV tV ((sub_of xL4 _).trans (congrArg some con_2))) (PySem.W.exm_ref (b := false) sM dM tM ((sub_of xL4 _).trans (congrArg some ((con_f (nd_of dj 1 6 rfl rfl (by decide)) (nd_of dj 1 0 rfl rfl (by decide)) (by rfl)).trans rfl)))) rfl
    | 5, _ => exm_2 (PySem.W.exm_ref (b := true) sV dV tV ((sub_of xL5 _).trans (congrArg some con_2))) (PySem.W.exm_ref (b := false) sM dM tM ((sub_of xL5 _).trans (congrArg some ((con_f (nd_of dj 1 7 rfl rfl (by decide)) (nd_of dj 1 0 rfl rfl (by decide)) (by rfl)).trans rfl)))) rfl
    | 6, _ => exm_2 (PySem.W.exm_ref (b := true) sV dV tV ((sub_of xL6 _).trans (congrArg some con_2))) (PySem.W.exm_ref (b := false) sM dM tM ((sub_of xL6 _).trans (congrArg some ((con_f (nd_of dj 1 8 rfl rfl (by decide)) (nd_of dj 1 0 rfl rfl (by decide)) (by rfl)).trans rfl)))) rfl
    | 7, _ => exm_2 (PySem.W.exm_ref (b := true) sV dV tV ((sub_of xL7 _).trans (congrArg some con_2))) (PySem.W.exm_ref (b := false) sM dM tM ((sub_of xL7 _).trans (congrArg some ((con_f (nd_of dj 1 9 rfl rfl (by decide)) (nd_of dj 1 0 rfl rfl (by decide)) (by rfl)).trans rfl)))) rfl
    | 8, _ => exm_2 (PySem.W.exm_ref (b := false) sV dV tV ((sub_of xL8 _).trans (congrArg some ((con_f (nd_of dj 0 10 rfl rfl (by decide)) (nd_of dj 0 1 rfl rfl (by decide)) (by rfl)).trans rfl)))) (PySem.W.exm_ref (b := true) sM dM tM ((sub_of xL8 _).trans (congrArg some con_2))) rfl
    | 9, _ => exm_2 (PySem.W.exm_ref (b := false) sV dV tV ((sub_of xL9 _).trans (congrArg some ((con_f (nd_of dj 0 11 rfl rfl (by decide)) (nd_of dj 0 1 rfl rfl (by decide)) (by rfl)).trans rfl)))) (PySem.W.exm_ref (b := true) sM dM tM ((sub_of xL9 _).trans (congrArg some con_2))) rfl
    | 10, _ => exm_2 (PySem.W.exm_ref (b := false) sV dV tV ((sub_of xL10 _).trans (congrArg some ((con_f (nd_of dj 0 12 rfl rfl (by decide)) (nd_of dj 0 1 rfl rfl (by decide)) (by rfl)).trans rfl)))) (PySem.W.exm_ref (b := true) sM dM tM ((sub_of xL10 _).trans (congrArg some con_2))) rfl
    | 11, _ => exm_2 (PySem.W.exm_ref (b := false) sV dV tV ((sub_of xL11 _).trans (congrArg some ((con_f (nd_of dj 0 13 rfl rfl (by decide)) (nd_of dj 0 1 rfl rfl (by decide)) (by rfl)).trans rfl)))) (PySem.W.exm_ref (b := true) sM dM tM ((sub_of xL11 _).trans (congrArg some con_2))) rfl
    | 12, _ => exm_2 (PySem.W.exm_ref (b := false) sV dV tV ((sub_of xL12 _).trans (congrArg some ((con_f (nd_of dj 0 14 rfl rfl (by decide)) (nd_of dj 0 1 rfl rfl (by decide)) (by rfl)).trans rfl)))) (PySem.W.exm_ref (b := true) sM dM tM ((sub_of xL12 _).trans (congrArg some con_2))) rfl
    | 13, _ => exm_2 (PySem.W.exm_ref (b := false) sV dV tV ((sub_of xL13 _).trans (congrArg some ((con_f (nd_of dj 0 15 rfl rfl (by decide)) (nd_of dj 0 1 rfl rfl (by decide)) (by rfl)).trans rfl)))) (PySem.W.exm_ref (b := true) sM dM tM ((sub_of xL13 _).trans (congrArg some con_2))) rfl
  have B : Bt mg := fun x hx => by
    simp only [biNames, List.mem_cons, List.not_mem_nil, or_false] at hx
    rcases hx with rfl | rfl | rfl | rfl | rfl | rfl | rfl | rfl | rfl | rfl | rfl | rfl | rfl | rfl | rfl | rfl | rfl | rfl | rfl | rfl | rfl | rfl | rfl
    · exact mgn X G z_len
    · exact mgn X G z_int
    · exact mgn X G z_abs
    · exact mgn X G z_divmod
    · exact mgn X G z_isinstance
    · exact mgn X G z_bool
    · exact mgn X G z_str
    · exact mgn X G z_tuple
    · exact mgn X G z_list
    · exact mgn X G z_dict
    · exact mgn X G z_range
    · exact mgn X G z_all
    · exact mgn X G z_any
    · exact mgn X G z_zip
    · exact mgn X G z_enumerate
    · exact mgn X G z_sorted
    · exact mgn X G z_repr
    · exact mgn X G z_sum
    · exact mgn X G z_min
    · exact mgn X G z_max
    · exact mgn X G z_reversed
    · exact mgn X G z_set
    · exact mgn X G z_map
  have F_int := fun_mk (st := s_is_integer_from) l_f_int c_f_int k_f_int
  have D_int : Fd K mg "is_integer_from" s_is_integer_from := ⟨⟨_, _, F_int, mgs X G a_int⟩⟩
  have b_int := F_int.binds (ps := ["value", "least", "most"]) fun _ _ _ _ _ _ us hl => match us, hl with | [_, _, _], _ => rfl
  have F_name := fun_mk (st := s_is_name) l_f_name c_f_name k_f_name
  have D_name : Fd K mg "is_name" s_is_name := ⟨⟨_, _, F_name, mgs X G a_name⟩⟩
  have b_name := F_name.binds (ps := ["value"]) fun _ _ _ _ _ _ us hl => match us, hl with | [_], _ => rfl
  have F_rising := fun_mk (st := s_is_rising) l_f_rising c_f_rising k_f_rising
  have D_rising : Fd K mg "is_rising" s_is_rising := ⟨⟨_, _, F_rising, mgs X G a_rising⟩⟩
  have b_rising := F_rising.binds (ps := ["row"]) fun _ _ _ _ _ _ us hl => match us, hl with | [_], _ => rfl
  have F_ticks := fun_mk (st := s_are_ticks) l_f_ticks c_f_ticks k_f_ticks
  have D_ticks : Fd K mg "are_ticks" s_are_ticks := ⟨⟨_, _, F_ticks, mgs X G a_ticks⟩⟩
  have b_ticks := F_ticks.binds (ps := ["value", "size"]) fun _ _ _ _ _ _ us hl => match us, hl with | [_, _], _ => rfl
  have F_rows := fun_mk (st := s_are_rows) l_f_rows c_f_rows k_f_rows
  have D_rows : Fd K mg "are_rows" s_are_rows := ⟨⟨_, _, F_rows, mgs X G a_rows⟩⟩
  have b_rows := F_rows.binds (ps := ["value", "size"]) fun _ _ _ _ _ _ us hl => match us, hl with | [_, _], _ => rfl
  have F_rsize := fun_mk (st := s__read_size) l_f_rsize c_f_rsize k_f_rsize
  have D_rsize : Fd K mg "_read_size" s__read_size := ⟨⟨_, _, F_rsize, mgs X G a_rsize⟩⟩
  have F_mticks := fun_mk (st := s__marked_ticks) l_f_mticks c_f_mticks k_f_mticks
  have D_mticks : Fd K mg "_marked_ticks" s__marked_ticks := ⟨⟨_, _, F_mticks, mgs X G a_mticks⟩⟩
  have F_cell := fun_mk (st := Sp.s__law_cell) l_f_cell c_f_cell k_f_cell
  have D_cell : Fd K mg "_law_cell" Sp.s__law_cell := ⟨⟨_, _, F_cell, mgs X G a_cell⟩⟩
  have b_cell := F_cell.binds (ps := ["_law_script", "_law_at"]) fun _ _ _ _ _ _ us hl => match us, hl with | [_, _], _ => rfl
  have F_purse := fun_mk (st := Sp.s__law_purse) l_f_purse c_f_purse k_f_purse
  have D_purse : Fd K mg "_law_purse" Sp.s__law_purse := ⟨⟨_, _, F_purse, mgs X G a_purse⟩⟩
  have b_purse := F_purse.binds (ps := ["_law_cell_here"]) fun _ _ _ _ _ _ us hl => match us, hl with | [_], _ => rfl
  have F_roll := fun_mk (st := Sp.s__law_roll) l_f_roll c_f_roll k_f_roll
  have D_roll : Fd K mg "_law_roll" Sp.s__law_roll := ⟨⟨_, _, F_roll, mgs X G a_roll⟩⟩
  have F_letters := fun_mk (st := s__law_letters) l_f_letters c_f_letters k_f_letters
  have D_letters : Fd K mg "_law_letters" s__law_letters := ⟨⟨_, _, F_letters, mgs X G a_letters⟩⟩
  have F_set := fun_mk (st := s__law_set) l_f_set c_f_set k_f_set
  have D_set : Fd K mg "_law_set" s__law_set := ⟨⟨_, _, F_set, mgs X G a_set⟩⟩
  have F_drows := fun_mk (st := s__law_drawn_rows) l_f_drows c_f_drows k_f_drows
  have D_drows : Fd K mg "_law_drawn_rows" s__law_drawn_rows := ⟨⟨_, _, F_drows, mgs X G a_drows⟩⟩
  have F_marks := fun_mk (st := Sp.s_lmarks) l_f_marks c_f_marks k_f_marks
  have D_marks : Fd K mg "_law_marks" Sp.s_lmarks := ⟨⟨_, _, F_marks, mgs X G a_marks⟩⟩
  have b_marks := F_marks.binds (ps := ["_law_row", "_law_wide"]) fun _ _ _ _ _ _ us hl => match us, hl with | [_, _], _ => rfl
  have F_ptext := fun_mk (st := Sp.s_ptext) l_f_ptext c_f_ptext k_f_ptext
  have D_ptext : Fd K mg "_law_plan_text" Sp.s_ptext := ⟨⟨_, _, F_ptext, mgs X G a_ptext⟩⟩
  have b_ptext := F_ptext.binds (ps := ["_law_wide", "_law_drawn"]) fun _ _ _ _ _ _ us hl => match us, hl with | [_, _], _ => rfl
  have F_error := fun_mk (st := s__law_error) l_f_error c_f_error k_f_error
  have D_error : Fd K mg "_law_error" s__law_error := ⟨⟨_, _, F_error, mgs X G a_error⟩⟩
  have b_error := F_error.binds (ps := ["_law_e"]) fun _ _ _ _ _ _ us hl => match us, hl with | [_], _ => rfl
  have F_caught := fun_mk (st := s__law_caught) l_f_caught c_f_caught k_f_caught
  have D_caught : Fd K mg "_law_caught" s__law_caught := ⟨⟨_, _, F_caught, mgs X G a_caught⟩⟩
  have F_signs := fun_mk (st := s__law_signs) l_f_signs c_f_signs k_f_signs
  have D_signs : Fd K mg "_law_signs" s__law_signs := ⟨⟨_, _, F_signs, mgs X G a_signs⟩⟩
  have F_spoilt := fun_mk (st := s__law_spoilt) l_f_spoilt c_f_spoilt k_f_spoilt
  have D_spoilt : Fd K mg "_law_spoilt" s__law_spoilt := ⟨⟨_, _, F_spoilt, mgs X G a_spoilt⟩⟩
  have F_lread := fun_mk (st := s__law_read) l_f_lread c_f_lread k_f_lread
  have D_lread : Fd K mg "_law_read" s__law_read := ⟨⟨_, _, F_lread, mgs X G a_lread⟩⟩
  have F_changed := fun_mk (st := s__law_changed) l_f_changed c_f_changed k_f_changed
  have D_changed : Fd K mg "_law_changed" s__law_changed := ⟨⟨_, _, F_changed, mgs X G a_changed⟩⟩
  have F_right := fun_mk (st := s__law_right) l_f_right c_f_right k_f_right
  have FC_right : FunC K "_law_right" "_law_right" s__law_right f_right _ _ := ⟨⟨_, _, _, _, _, _, _, _, rfl, l_f_right, c_f_right⟩⟩
  have b_right := F_right.binds (ps := ["_law_purse_here"]) fun _ _ _ _ _ _ us hl => match us, hl with | [_], _ => rfl
  have F_law := fun_mk (st := s_law) l_f_law c_f_law k_f_law
  have FC_law : FunC K "law" "law" s_law fa _ _ := ⟨⟨_, _, _, _, _, _, _, _, rfl, l_f_law, c_f_law⟩⟩
  have F_pS := fun_mk (st := s_size) l_f_pS c_f_pS k_f_pS
  have b_pS := F_pS.binds (ps := ["self"]) fun _ _ _ _ _ _ us hl => match us, hl with | [_], _ => rfl
  have F_pR := fun_mk (st := s_rowsP) l_f_pR c_f_pR k_f_pR
  have b_pR := F_pR.binds (ps := ["self"]) fun _ _ _ _ _ _ us hl => match us, hl with | [_], _ => rfl
  have F_pN := fun_mk (st := Sp.s_names) l_f_pN c_f_pN k_f_pN
  have b_pN := F_pN.binds (ps := ["self"]) fun _ _ _ _ _ _ us hl => match us, hl with | [_], _ => rfl
  have F_pT := fun_mk (st := Sp.s_text) l_f_pT c_f_pT k_f_pT
  have b_pT := F_pT.binds (ps := ["self"]) fun _ _ _ _ _ _ us hl => match us, hl with | [_], _ => rfl
  have F_mK := fun_mk (st := Sp.s_ticks) l_f_mK c_f_mK k_f_mK
  have b_mK := F_mK.binds (ps := ["self", "name"]) fun _ _ _ _ _ _ us hl => match us, hl with | [_, _], _ => rfl
  have F_mM := fun_mk (st := Sp.s_marks) l_f_mM c_f_mM k_f_mM
  have b_mM := F_mM.binds (ps := ["self", "name"]) fun _ _ _ _ _ _ us hl => match us, hl with | [_, _], _ => rfl
  have F_sRd := fun_mk (st := s_readP) l_f_sRd c_f_sRd k_f_sRd
  have b_sRd := F_sRd.binds (ps := ["text"]) fun _ _ _ _ _ _ us hl => match us, hl with | [_], _ => rfl
  have F_mRep := fun_mk (st := Sp.s_repr) l_f_mRep c_f_mRep k_f_mRep
  have b_mRep := F_mRep.binds (ps := ["self"]) fun _ _ _ _ _ _ us hl => match us, hl with | [_], _ => rfl
  have FI : FunI K [V.ref uA] fI _ := ⟨⟨_, _, _, _, _, _, _, _, _, _, rfl, l_fI, c_fI, .inr ⟨by simp, tD, _, [.ref uA], nT, rfl, lT, rfl, .cons (show L2.RelV (.ref uA) (.ref uA) from rfl) .nil⟩, .inl rfl⟩, k_fI⟩
  have PC : Dl.PlanC K C := ⟨⟨pg, hd, po, sa⟩, n_size, n_rows⟩
  have SPC : Sp.PlanC K C := ⟨⟨pg, hd, po, sa⟩, n_size, n_rows⟩
  have emp : ∀ H, SqT K H uA [] := fun H => .inr ⟨_, #[], nU, lU, rfl, rfl, by decide, .nil⟩
  have TB : Sp.TxtB K mg := ⟨mgn X G z_isinstance, mgn X G z_int, mgn X G z_bool, mgn X G z_str, mgn X G z_tuple, mgn X G z_len, mgn X G z_all, mgn X G z_zip, mgn X G z_range⟩
  have TL : Sp.TxtL K mg f_roll := ⟨TB, mgs X G a_roll, k_f_roll, mgn X G z_sorted, mgn X G z_dict⟩
  have TM : Sp.TxtM K mg f_roll f_set := ⟨TL, mgs X G a_set, k_f_set⟩
  have TN : Sp.TxtN K mg f_roll f_set f_marks f_letters f_drows := ⟨TM, mgs X G a_marks, k_f_marks, mgs X G a_letters, k_f_letters, mgs X G a_drows, k_f_drows⟩
  have TD : TxtD K mg := ⟨mgn X G z_len, mgn X G z_int, mgn X G z_abs, mgn X G z_divmod⟩
  let Tb : List (Addr × Str) := [(PR, lamQ "_law_right" s__law_right), (PL, lamQ "law" s_law)]
  refine ⟨PySem.W.fnOf "law" "law" (defArgs s_law) (defBody s_law) (defScope s_law) .none kV_f_law dc_f_law pm_f_law an_f_law (.ref cL) ct_f_law, [(cR, PR), (cL, PL)], spLaw K Tb, fun p hp => ?_, fun p hp => ?_, fun p hp => ?_, fun s v => .of_eq rfl, fun H a ns hl ht2 hS => ⟨a, ns, rfl, hS, hl, fun p hp => ?_, fun _ => rfl⟩, fun base KB NB TBs => ?_⟩
  · simp only [List.mem_cons, List.not_mem_nil, or_false] at hp
    rcases hp with rfl | rfl
    · exact emR
    · exact emL
  · simp only [List.mem_cons, List.not_mem_nil, or_false] at hp
    rcases hp with rfl | rfl
    · exact ouR
    · exact ouL
  · simp only [List.mem_cons, List.not_mem_nil, or_false] at hp
    rcases hp with rfl | rfl
    · exact PySem.W.codeHd_of_K X hdR
    · exact PySem.W.codeHd_of_K X hdL
  · simp only [Tb, List.mem_cons, List.not_mem_nil, or_false] at hp
    rcases hp with rfl | rfl
    · exact LamX.TabS.nil (ht2 (cR, PR) (by simp))
    · exact LamX.TabS.nil (ht2 (cL, PL) (by simp))
  have m1 : Ex.MkE P w K mg base C1 := ⟨⟨_, _, _, _, xc1⟩, ⟨_, _, ai1, ti1, Ex.ok_err1 (fun_mk (st := s_InvalidNumber) l_I1 c_I1 k_I1) sc_InvalidNumber ⟨_, _, _, _, rfl⟩ xc1 no1 (by decide) (by decide), (fun_mk (st := s_InvalidNumber) l_I1 c_I1 k_I1).binds (fun _ _ _ _ _ _ us hl => match us, hl with | [_, _], _ => rfl)⟩⟩
  have m2 : Ex.MkE P w K mg base C2 := ⟨⟨_, _, _, _, xc2⟩, ⟨_, _, ai2, ti2, Ex.ok_err1 (fun_mk (st := s_InvalidRows) l_I2 c_I2 k_I2) sc_InvalidRows ⟨_, _, _, _, rfl⟩ xc2 no2 (by decide) (by decide), (fun_mk (st := s_InvalidRows) l_I2 c_I2 k_I2).binds (fun _ _ _ _ _ _ us hl => match us, hl with | [_, _], _ => rfl)⟩⟩
  have m0 : Ex.MkE P w K mg base C0 := ⟨⟨_, _, _, _, xc0⟩, ⟨_, _, ai0, ti0, Ex.ok_err1 (fun_mk (st := s_InvalidText) l_I0 c_I0 k_I0) sc_InvalidText ⟨_, _, _, _, rfl⟩ xc0 no0 (by decide) (by decide), (fun_mk (st := s_InvalidText) l_I0 c_I0 k_I0).binds (fun _ _ _ _ _ _ us hl => match us, hl with | [_, _], _ => rfl)⟩⟩
  have GIn := d_is_integer_from (P := P) (w := w) (base := base) D_int B
  have GNa := d_is_name (P := P) (w := w) (base := base) D_name B
  have GUp := d_is_rising (P := P) (w := w) (base := base) D_rising B
  have GTi := d_are_ticks (P := P) (w := w) (base := base) D_ticks B GIn GUp
  have GRw := d_are_rows (P := P) (w := w) (base := base) D_rows B GTi GNa GUp
  have GXi := x_init (Ce := Ce) (P := P) (w := w) (base := base) FI PC T ⟨tk_most, mgs X G m_most⟩ m1 m2 GIn GRw
  have OC : ObjC K C := ⟨⟨pg, hd, po, sa⟩, ha, hn, ht, hm⟩
  have PG : Dl.PlanG P w K mg base C := ⟨OC, by unfold PySem.W.kitOne; rw [if_pos (by simp)], ⟨q_pS, f_pS, _, ⟨a_pS, g_pS, t_pS, ⟨_, r_pS⟩⟩, get_size F_pS PC, b_pS⟩, ⟨q_pR, f_pR, _, ⟨a_pR, g_pR, t_pR, ⟨_, r_pR⟩⟩, get_rows F_pR PC, b_pR⟩⟩
  have RO : RpO P w K mg base C := ⟨⟨f_mRep, _, a_mRep, i_mRep, Sp.ok_reprP F_mRep SPC, Ex.e_repr F_mRep SPC, b_mRep⟩⟩
  have GEr := e_error (P := P) (w := w) (base := base) F_error T B RO
  have SC : StrC K C := ⟨OC, kit_T (by decide +kernel) sbS⟩
  have hK : Meth K C "ticks" f_mK := ⟨a_mK, i_mK, k_f_mK⟩
  have hM : Meth K C "marks" f_mM := ⟨a_mM, i_mM, k_f_mM⟩
  have h_pN : PropOf K C "names" q_pN f_pN := ⟨a_pN, g_pN, t_pN, ⟨_, r_pN⟩⟩
  have h_pT : PropOf K C "text" q_pT f_pT := ⟨a_pT, g_pT, t_pT, ⟨_, r_pT⟩⟩
  have MK : Mk K C fI := ⟨mk, aI, iI, kc⟩
  have SK : FnOk P w K mg base CX0 1 f_mK _ ["self", "name"] (Sp.spTicksP K C) := Sp.ok_ticksP F_mK SPC TB
  have SM : FnOk P w K mg base CX0 2 f_mM _ ["self", "name"] (Sp.spMarksP K C) := Sp.ok_marksP F_mM SPC TB SK b_mK hK
  have SN : FnOk P w K mg base CX0 1 f_pN _ ["self"] (Sp.spNames K C) := Sp.ok_names F_pN SPC (mgn X G z_tuple)
  have ST : FnOk P w K mg base CX0 3 f_pT _ ["self"] (Sp.spTextP K C) := Sp.ok_textP F_pT SPC TB SN b_pN h_pN SM b_mM hM
  have GRs := d_rsize (P := P) (w := w) (base := base) D_rsize B ⟨tk_most, mgs X G m_most⟩
  have GMt := d_marked (P := P) (w := w) (base := base) D_mticks B
  have GRd := x_read (Ce := Ce) (P := P) (w := w) (base := base) F_sRd B PC SC T m0 (mgs X G aC) ⟨tk_most, mgs X G m_most⟩ MK GXi (init_b3 FI) h_pT ST b_pT GRs GMt GIn GRw
  have CC : CaughtR P w K mg base C Ce cV cM := ⟨T, PG, RO, SC, mgs X G aC, exm, ⟨_, _, GEr, mgs X G a_error, k_f_error, b_error⟩, ⟨_, _, F_caught, mgs X G a_caught⟩, ⟨.type "type", q_sRd, f_sRd, _, ⟨reads_cls ca ty cf cs, cg⟩, ⟨find_cls w_sRd a_sRd y_sRd g_sRd, ⟨_, r_sRd⟩, k_f_sRd⟩, GRd, b_sRd, Fun.kbn1 F_sRd fun _ _ _ _ _ _ _ => rfl⟩⟩
  have MP : MkPl P w K mg base C Ce uA := ⟨mgs X G aC, ⟨fI, _, MK, GXi, init_b2 FI⟩, emp⟩
  have GRo := d_roll (P := P) (w := w) (base := base) D_roll B
  have GLe := d_letters (P := P) (w := w) (base := base) D_letters B GRo
  have GSe := d_set (P := P) (w := w) (base := base) D_set B GRo
  have GDr := d_drawn (P := P) (w := w) (base := base) D_drows B GSe
  have GLm : FnOk P w K mg base CX0 1 f_marks _ ["_law_row", "_law_wide"] (Sp.spMarksL K) := Sp.ok_lmarks F_marks TL
  have GPt : FnOk P w K mg base CX0 2 f_ptext _ ["_law_wide", "_law_drawn"] (Sp.spPlanText K) := Sp.ok_ptext F_ptext TN GLm b_marks
  have GSg := d_signs (P := P) (w := w) (base := base) D_signs B
  have GSp := d_spoilt (P := P) (w := w) (base := base) D_spoilt B GRo GSg
  have GLr := d_read (P := P) (w := w) (base := base) D_lread B
  have GCh := d_changed (P := P) (w := w) (base := base) D_changed B MP GPt (mgs X G a_ptext) k_f_ptext b_ptext GRo GSp
  have un1 : ∀ p ∈ Tb, p.1 = PR → p.2 = lamQ "_law_right" s__law_right := fun p hp e => by
    simp only [Tb, List.mem_cons, List.not_mem_nil, or_false] at hp
    rcases hp with rfl | rfl
    · rfl
    · exact absurd e.symm nPL
  have un2 : ∀ p ∈ Tb, p.1 = PL → p.2 = lamQ "law" s_law := fun p hp e => by
    simp only [Tb, List.mem_cons, List.not_mem_nil, or_false] at hp
    rcases hp with rfl | rfl
    · exact absurd e nPL
    · rfl
  have GRi : FnG P w K mg base CX0 10 f_right _ ["_law_purse_here"] (spRight Tb) := g_right FC_right B CC (TBs (cR, PR) (by simp)) (by simp [Tb]) un1 GRo GLe GDr GCh GLr
  have GC : FnOk P w K mg base CX0 1 f_cell _ ["_law_script", "_law_at"] (Sp.spCell K) := Sp.ok_cell F_cell TD
  have GPu : FnOk P w K mg base CX0 1 f_purse _ ["_law_cell_here"] Sp.spPurse := Sp.ok_purse F_purse TD
  exact g_law FC_law B CC (TBs (cL, PL) (by simp)) (by simp [Tb]) un2 GRi (mgs X G a_right) k_f_right b_right GC (mgs X G a_cell) k_f_cell b_cell GPu (mgs X G a_purse) k_f_purse b_purse
end Dl
open PySem PySem.W PyProof.Rows
set_option Elab.async false
set_option maxRecDepth 100000 in
set_option maxHeartbeats 0 in
theorem PySem.Challenge.cw_spansieve_k05_texts_that_are_no_plans_holds : PySem.Challenge.rw_spansieve_k05_texts_that_are_no_plans.Holds := by
  w_on; o_law; k_head; (case hw => w_witness2)
  k_fill
  refine Dl.walk_TG (l := PySem.Challenge.rw_spansieve_k05_texts_that_are_no_plans) (n := 63) (k := 11) (x := "_law_script") rfl (by decide) rfl ⟨rfl, by decide, by decide⟩ (fun w h Y => km_in_of Y) ?F
  case F =>
    intro w mg fa h Y KX G hmg
    have hT8 := km_tabs_of Y
    refine' Dl.all_mk KX G hmg ?aC ?pg ?hd ?po ?sa ?mk ?kc ?n_size ?n_rows ?ha ?hn ?ht ?hm ?aI ?iI ?l_fI ?c_fI ?k_fI ?lT ?lU ?ty ?ne ?sbS ?a_pS ?g_pS ?t_pS ?r_pS ?l_f_pS ?c_f_pS ?k_f_pS ?a_pR ?g_pR ?t_pR ?r_pR ?l_f_pR ?c_f_pR ?k_f_pR ?a_pN ?g_pN ?t_pN ?r_pN ?l_f_pN ?c_f_pN ?k_f_pN ?a_pT ?g_pT ?t_pT ?r_pT ?l_f_pT ?c_f_pT ?k_f_pT ?a_mK ?i_mK ?l_f_mK ?c_f_mK ?k_f_mK ?a_mM ?i_mM ?l_f_mM ?c_f_mM ?k_f_mM ?a_sRd ?w_sRd ?y_sRd ?g_sRd ?r_sRd ?cg ?cf ?cs ?ca ?l_f_sRd ?c_f_sRd ?k_f_sRd ?a_mRep ?i_mRep ?l_f_mRep ?c_f_mRep ?k_f_mRep ?aV ?iV ?tV ?sV ?dV ?aM ?iM ?tM ?sM ?dM ?aC0 ?xL0 ?sa0 ?ga0 ?gg0 ?kC0 ?ha0 ?no0 ?aC1 ?xL1 ?sa1 ?ga1 ?gg1 ?kC1 ?ha1 ?no1 ?aC2 ?xL2 ?sa2 ?ga2 ?gg2 ?kC2 ?ha2 ?no2 ?aC3 ?xL3 ?sa3 ?ga3 ?gg3 ?kC3 ?ha3 ?no3 ?aC4 ?xL4 ?sa4 ?ga4 ?gg4 ?kC4 ?ha4 ?no4 ?aC5 ?xL5 ?sa5 ?ga5 ?gg5 ?kC5 ?ha5 ?no5 ?aC6 ?xL6 ?sa6 ?ga6 ?gg6 ?kC6 ?ha6 ?no6 ?aC7 ?xL7 ?sa7 ?ga7 ?gg7 ?kC7 ?ha7 ?no7 ?aC8 ?xL8 ?sa8 ?ga8 ?gg8 ?kC8 ?ha8 ?no8 ?aC9 ?xL9 ?sa9 ?ga9 ?gg9 ?kC9 ?ha9 ?aC10 ?xL10 ?sa10 ?ga10 ?gg10 ?kC10 ?ha10 ?aC11 ?xL11 ?sa11 ?ga11 ?gg11 ?kC11 ?ha11 ?aC12 ?xL12 ?sa12 ?ga12 ?gg12 ?kC12 ?ha12 ?aC13 ?xL13 ?sa13 ?ga13 ?gg13 ?kC13 ?ha13 ?ai0 ?ti0 ?l_I0 ?c_I0 ?k_I0 ?ai1 ?ti1 ?l_I1 ?c_I1 ?k_I1 ?ai2 ?ti2 ?l_I2 ?c_I2 ?k_I2 ?a_int ?l_f_int ?c_f_int ?k_f_int ?a_name ?l_f_name ?c_f_name ?k_f_name ?a_rising ?l_f_rising ?c_f_rising ?k_f_rising ?a_ticks ?l_f_ticks ?c_f_ticks ?k_f_ticks ?a_rows ?l_f_rows ?c_f_rows ?k_f_rows ?a_rsize ?l_f_rsize ?c_f_rsize ?k_f_rsize ?a_mticks ?l_f_mticks ?c_f_mticks ?k_f_mticks ?a_cell ?l_f_cell ?c_f_cell ?k_f_cell ?a_purse ?l_f_purse ?c_f_purse ?k_f_purse ?a_roll ?l_f_roll ?c_f_roll ?k_f_roll ?a_letters ?l_f_letters ?c_f_letters ?k_f_letters ?a_set ?l_f_set ?c_f_set ?k_f_set ?a_drows ?l_f_drows ?c_f_drows ?k_f_drows ?a_marks ?l_f_marks ?c_f_marks ?k_f_marks ?a_ptext ?l_f_ptext ?c_f_ptext ?k_f_ptext ?a_error ?l_f_error ?c_f_error ?k_f_error ?a_caught ?l_f_caught ?c_f_caught ?k_f_caught ?a_signs ?l_f_signs ?c_f_signs ?k_f_signs ?a_spoilt ?l_f_spoilt ?c_f_spoilt ?k_f_spoilt ?a_lread ?l_f_lread ?c_f_lread ?k_f_lread ?a_changed ?l_f_changed ?c_f_changed ?k_f_changed ?a_right ?l_f_right ?c_f_right ?k_f_right ?a_law ?l_f_law ?c_f_law ?k_f_law ?kcR ?v11R ?hdR ?ouR ?emR ?kcL ?v11L ?hdL ?ouL ?emL ?nPL ?m_most ?z_len ?z_int ?z_abs ?z_divmod ?z_isinstance ?z_bool ?z_str ?z_tuple ?z_list ?z_dict ?z_range ?z_all ?z_any ?z_zip ?z_enumerate ?z_sorted ?z_repr ?z_sum ?z_min ?z_max ?z_reversed ?z_set ?z_map ?dj
    (case aC => k_is)
    (case pg => k_is)
    (case hd => k_is)
    (case po => k_is)
    (case sa => k_is)
    (case mk => k_is)
    (case kc => k_is)
    (case n_size => k_is)
    (case n_rows => k_is)
    (case ha => k_is)
    (case hn => k_is)
    (case ht => k_is)
    (case hm => k_is)
    (case aI => k_is)
    (case iI => k_is)
    (case l_fI => k_is)
    (case c_fI => k_is)
    (case k_fI => k_is)
    (case lT => k_is)
    (case lU => k_is)
    (case ty => k_is)
    (case ne => k_is)
    (case sbS => k_is)
    (case a_pS => k_is)
    (case g_pS => k_is)
    (case t_pS => k_is)
    (case r_pS => k_is)
    (case l_f_pS => k_is)
    (case c_f_pS => k_is)
    (case k_f_pS => k_is)
    (case a_pR => k_is)
    (case g_pR => k_is)
    (case t_pR => k_is)
    (case r_pR => k_is)
    (case l_f_pR => k_is)
    (case c_f_pR => k_is)
    (case k_f_pR => k_is)
    (case a_pN => k_is)
    (case g_pN => k_is)
    (case t_pN => k_is)
    (case r_pN => k_is)
    (case l_f_pN => k_is)
    (case c_f_pN => k_is)
    (case k_f_pN => k_is)
    (case a_pT => k_is)
    (case g_pT => k_is)
    (case t_pT => k_is)
    (case r_pT => k_is)
    (case l_f_pT => k_is)
    (case c_f_pT => k_is)
    (case k_f_pT => k_is)
    (case a_mK => k_is)
    (case i_mK => k_is)
    (case l_f_mK => k_is)
    (case c_f_mK => k_is)
    (case k_f_mK => k_is)
    (case a_mM => k_is)
    (case i_mM => k_is)
    (case l_f_mM => k_is)
    (case c_f_mM => k_is)
    (case k_f_mM => k_is)
    (case a_sRd => k_is)
    (case w_sRd => k_is)
    (case y_sRd => k_is)
    (case g_sRd => k_is)
    (case r_sRd => k_is)
    (case cg => k_is)
    (case cf => k_is)
    (case cs => k_is)
    (case ca => k_is)
    (case l_f_sRd => k_is)
    (case c_f_sRd => k_is)
    (case k_f_sRd => k_is)
    (case a_mRep => k_is)
    (case i_mRep => k_is)
    (case l_f_mRep => k_is)
    (case c_f_mRep => k_is)
    (case k_f_mRep => k_is)
    (case aV => k_is)
    (case iV => k_is)
    (case tV => k_is)
    (case sV => k_is)
    (case dV => k_is)
    (case aM => k_is)
    (case iM => k_is)
    (case tM => k_is)
    (case sM => k_is)
    (case dM => k_is)
    (case aC0 => k_is)
    (case xL0 => k_is)
    (case sa0 => k_is)
    (case ga0 => k_is)
    (case gg0 => k_is)
    (case kC0 => k_is)
    (case ha0 => k_is)
    (case no0 => k_is)
    (case aC1 => k_is)
    (case xL1 => k_is)
    (case sa1 => k_is)
    (case ga1 => k_is)
    (case gg1 => k_is)
    (case kC1 => k_is)
    (case ha1 => k_is)
    (case no1 => k_is)
    (case aC2 => k_is)
    (case xL2 => k_is)
    (case sa2 => k_is)
    (case ga2 => k_is)
    (case gg2 => k_is)
    (case kC2 => k_is)
    (case ha2 => k_is)
    (case no2 => k_is)
    (case aC3 => k_is)
    (case xL3 => k_is)
    (case sa3 => k_is)
    (case ga3 => k_is)
    (case gg3 => k_is)
    (case kC3 => k_is)
    (case ha3 => k_is)
    (case no3 => k_is)
    (case aC4 => k_is)
    (case xL4 => k_is)
    (case sa4 => k_is)
    (case ga4 => k_is)
    (case gg4 => k_is)
    (case kC4 => k_is)
    (case ha4 => k_is)
    (case no4 => k_is)
    (case aC5 => k_is)
    (case xL5 => k_is)
    (case sa5 => k_is)
    (case ga5 => k_is)
    (case gg5 => k_is)
    (case kC5 => k_is)
    (case ha5 => k_is)
    (case no5 => k_is)
    (case aC6 => k_is)
    (case xL6 => k_is)
    (case sa6 => k_is)
    (case ga6 => k_is)
    (case gg6 => k_is)
    (case kC6 => k_is)
    (case ha6 => k_is)
    (case no6 => k_is)
    (case aC7 => k_is)
    (case xL7 => k_is)
    (case sa7 => k_is)
    (case ga7 => k_is)
    (case gg7 => k_is)
    (case kC7 => k_is)
    (case ha7 => k_is)
    (case no7 => k_is)
    (case aC8 => k_is)
    (case xL8 => k_is)
    (case sa8 => k_is)
    (case ga8 => k_is)
    (case gg8 => k_is)
    (case kC8 => k_is)
    (case ha8 => k_is)
    (case no8 => k_is)
    (case aC9 => k_is)
    (case xL9 => k_is)
    (case sa9 => k_is)
    (case ga9 => k_is)
    (case gg9 => k_is)
    (case kC9 => k_is)
    (case ha9 => k_is)
    (case aC10 => k_is)
    (case xL10 => k_is)
    (case sa10 => k_is)
    (case ga10 => k_is)
    (case gg10 => k_is)
    (case kC10 => k_is)
    (case ha10 => k_is)
    (case aC11 => k_is)
    (case xL11 => k_is)
    (case sa11 => k_is)
    (case ga11 => k_is)
    (case gg11 => k_is)
    (case kC11 => k_is)
    (case ha11 => k_is)
    (case aC12 => k_is)
    (case xL12 => k_is)
    (case sa12 => k_is)
    (case ga12 => k_is)
    (case gg12 => k_is)
    (case kC12 => k_is)
    (case ha12 => k_is)
    (case aC13 => k_is)
    (case xL13 => k_is)
    (case sa13 => k_is)
    (case ga13 => k_is)
    (case gg13 => k_is)
    (case kC13 => k_is)
    (case ha13 => k_is)
    (case ai0 => k_is)
    (case ti0 => k_is)
    (case l_I0 => k_is)
    (case c_I0 => k_is)
    (case k_I0 => k_is)
    (case ai1 => k_is)
    (case ti1 => k_is)
    (case l_I1 => k_is)
    (case c_I1 => k_is)
    (case k_I1 => k_is)
    (case ai2 => k_is)
    (case ti2 => k_is)
    (case l_I2 => k_is)
    (case c_I2 => k_is)
    (case k_I2 => k_is)
    (case a_int => k_is)
    (case l_f_int => k_is)
    (case c_f_int => k_is)
    (case k_f_int => k_is)
    (case a_name => k_is)
    (case l_f_name => k_is)
    (case c_f_name => k_is)
    (case k_f_name => k_is)
    (case a_rising => k_is)
    (case l_f_rising => k_is)
    (case c_f_rising => k_is)
    (case k_f_rising => k_is)
    (case a_ticks => k_is)
    (case l_f_ticks => k_is)
    (case c_f_ticks => k_is)
    (case k_f_ticks => k_is)
    (case a_rows => k_is)
    (case l_f_rows => k_is)
    (case c_f_rows => k_is)
    (case k_f_rows => k_is)
    (case a_rsize => k_is)
    (case l_f_rsize => k_is)
    (case c_f_rsize => k_is)
    (case k_f_rsize => k_is)
    (case a_mticks => k_is)
    (case l_f_mticks => k_is)
    (case c_f_mticks => k_is)
    (case k_f_mticks => k_is)
    (case a_cell => k_is)
    (case l_f_cell => k_is)
    (case c_f_cell => k_is)
    (case k_f_cell => k_is)
    (case a_purse => k_is)
    (case l_f_purse => k_is)
    (case c_f_purse => k_is)
    (case k_f_purse => k_is)
    (case a_roll => k_is)
    (case l_f_roll => k_is)
    (case c_f_roll => k_is)
    (case k_f_roll => k_is)
    (case a_letters => k_is)
    (case l_f_letters => k_is)
    (case c_f_letters => k_is)
    (case k_f_letters => k_is)
    (case a_set => k_is)
    (case l_f_set => k_is)
    (case c_f_set => k_is)
    (case k_f_set => k_is)
    (case a_drows => k_is)
    (case l_f_drows => k_is)
    (case c_f_drows => k_is)
    (case k_f_drows => k_is)
    (case a_marks => k_is)
    (case l_f_marks => k_is)
    (case c_f_marks => k_is)
    (case k_f_marks => k_is)
    (case a_ptext => k_is)
    (case l_f_ptext => k_is)
    (case c_f_ptext => k_is)
    (case k_f_ptext => k_is)
    (case a_error => k_is)
    (case l_f_error => k_is)
    (case c_f_error => k_is)
    (case k_f_error => k_is)
    (case a_caught => k_is)
    (case l_f_caught => k_is)
    (case c_f_caught => k_is)
    (case k_f_caught => k_is)
    (case a_signs => k_is)
    (case l_f_signs => k_is)
    (case c_f_signs => k_is)
    (case k_f_signs => k_is)
    (case a_spoilt => k_is)
    (case l_f_spoilt => k_is)
    (case c_f_spoilt => k_is)
    (case k_f_spoilt => k_is)
    (case a_lread => k_is)
    (case l_f_lread => k_is)
    (case c_f_lread => k_is)
    (case k_f_lread => k_is)
    (case a_changed => k_is)
    (case l_f_changed => k_is)
    (case c_f_changed => k_is)
    (case k_f_changed => k_is)
    (case a_right => k_is)
    (case l_f_right => k_is)
    (case c_f_right => k_is)
    (case k_f_right => k_is)
    (case a_law => k_is)
    (case l_f_law => k_is)
    (case c_f_law => k_is)
    (case k_f_law => k_is)
    (case kcR => k_is)
    (case v11R => rfl)
    (case hdR => first | kernel_rfl | k_is)
    (case ouR => first | k_is | kernel_rfl | rfl)
    (case emR => exact hT8 _ (by simp))
    (case kcL => k_is)
    (case v11L => rfl)
    (case hdL => first | kernel_rfl | k_is)
    (case ouL => first | k_is | kernel_rfl | rfl)
    (case emL => exact hT8 _ (by simp))
    (case nPL => decide)
    (case m_most => k_is)
    (case z_len => k_is)
    (case z_int => k_is)
    (case z_abs => k_is)
    (case z_divmod => k_is)
    (case z_isinstance => k_is)
    (case z_bool => k_is)
    (case z_str => k_is)
    (case z_tuple => k_is)
    (case z_list => k_is)
    (case z_dict => k_is)
    (case z_range => k_is)
    (case z_all => k_is)
    (case z_any => k_is)
    (case z_zip => k_is)
    (case z_enumerate => k_is)
    (case z_sorted => k_is)
    (case z_repr => k_is)
    (case z_sum => k_is)
    (case z_min => k_is)
    (case z_max => k_is)
    (case z_reversed => k_is)
    (case z_set => k_is)
    (case z_map => k_is)
    (case dj => decide)
#print axioms PySem.Challenge.cw_spansieve_k05_texts_that_are_no_plans_holds
