import PyProof.Rows.All
import Wide.All
import OpenK.AllK
import Wide.FinOn
import HandS.ForMost
import HandS.Style
import HandS.TupAny
import HandS.Walk
import HandS.Wide
import HandS.Flow
import HandS.IsInst
import KE.GoesEnum
import PyProof.FactsAll.list_1
import HandS.ExcOwn
import HandS.Text
import HandS.Iter
import HandS.More
import HandS.ExcCtx
import KE.KExcInit
import HandS.ForExc
import HandS.ExcInit
import HandS.ExcIs
import KE.KExcIs
import HandS.ExcValue
import HandS.CallSlots
import HandS.ExcField
import HandS.TryOnly
import HandS.Deep
import HandS.Strs
import HandS.ReCall
import HandS.Zip
import HandS.Dict
import HandS.DictComp
import HandS.TupMul
import HandS.Conv
import HandS.NoneIn
import KE.LtSeq
import PyProof.EqKinds
import HandS.Ends
import HandS.CallLocal
import KE.DataCmp
import HandS.OwnEq
import HandS.NamedTupSort
import PyProof.InstNe
import HandS.Small
import PyProof.StrBlock2
import HandS.Set
import HandS.SortOrd
import HandS.SortRule
import HandS.MakeKw
import PySem.Challenge.RW_turnsfit_k49_any_values_as_turnings
set_option Elab.async false
set_option linter.all false
set_option maxRecDepth 100000
set_option maxHeartbeats 16000000
/-! rules of general use: t[::-1], xs.extend(t), enumerate(t) of tuples -/
namespace Xr
open PySem PySem.Spec PyProof.Rows L2 HT
section
variable {prog : Program} {w : World} {A : Around} {E : Value → Shared → Prop} {s : Shared}
theorem adjust_back (n : Nat) : Builtin.Slice.sliceAdjust none none (-1) (n : Int) = ((n : Int) - 1, -1) := by
  unfold Builtin.Slice.sliceAdjust
  have h1 : ((-1 : Int) < 0) := by omega
  simp only [h1, if_true]
theorem places_back (n : Nat) : Builtin.Slice.slicePlaces ((n : Int) - 1) (-1) (-1) = n := by
  unfold Builtin.Slice.slicePlaces
  have h1 : ¬ (-1 : Int) > 0 := by omega
  simp only [h1, if_false]
  have e : (-(-1) : Int) = 1 := rfl
  rw [e, Int.ediv_one]
  split <;> omega
theorem sliceApplied_back {sl : Addr} {t : Tok} {n : Nat} {Q : Int × Int × Nat → Shared → Prop} (hs : s.heap.IsSliceOf sl .none .none (.int (-1) t)) (h : Q ((n : Int) - 1, -1, n) s) :
    wpAny (model prog w) A (Builtin.Slice.sliceApplied (.ref sl) (pure (n : Int))) Q E s := by
  obtain ⟨os, hos, hcs, hds⟩ := id hs
  unfold Builtin.Slice.sliceApplied Builtin.Slice.sliceFields
  refine wpAny_bind (wpAny_bind (wpAny_field hos hds (x := .none) rfl (wpAny_bind (wpAny_field hos hds (x := .none) rfl (wpAny_bind (wpAny_field hos hds (x := .int (-1) t) rfl (wpAny_pure ?_)))))))
  refine wpAny_bind (slicePart_int ?_)
  show wpAny _ _ (if ((-1 : Int) == 0) = true then _ else _) _ _ s
  rw [if_neg (by decide)]
  refine wpAny_bind (slicePart_none (wpAny_bind (slicePart_none (wpAny_bind (wpAny_pure ?_)))))
  show wpAny _ _ (match Builtin.Slice.sliceAdjust none none (-1) (n : Int) with | (lo, hi) => pure (lo, (-1 : Int), Builtin.Slice.slicePlaces lo hi (-1))) _ _ s
  rw [adjust_back n]
  show wpAny _ _ (pure ((n : Int) - 1, (-1 : Int), Builtin.Slice.slicePlaces ((n : Int) - 1) (-1) (-1))) _ _ s
  rw [places_back]
  exact wpAny_pure h
theorem fm_congr {α β : Type} {f g : α → Option β} : ∀ {l : List α}, (∀ x ∈ l, f x = g x) → l.filterMap f = l.filterMap g
  | [], _ => rfl
  | a :: l, h => by
    rw [List.filterMap_cons, List.filterMap_cons, h a (by simp), fm_congr fun x hx => h x (List.mem_cons_of_mem _ hx)]
theorem pick_back (xs : Array Value) : ((List.range xs.size).filterMap fun (m : Nat) => xs[(((xs.size : Int) - 1) + (m : Int) * (-1)).toNat]?).toArray = xs.toList.reverse.toArray := by
  have e := PySem.W.krv_pick xs
  rw [← e]
  unfold slicePick
  rw [PySem.W.krv_bounds]
  show _ = ((sliceRange ((xs.size : Int) - 1) (-1) (-1)).filterMap _).toArray
  rw [PySem.W.krv_sliceRange, List.filterMap_map]
  congr 1
  refine fm_congr fun m hm => ?_
  have h : m < xs.size := List.mem_range.mp hm
  have e2 : (((xs.size : Int) - 1) + (m : Int) * (-1)).toNat = xs.size - 1 - m := by omega
  rw [e2]
  rfl
theorem getItem_tuple_back {t sl : Addr} {items : Array Value} {u : Tok} {Q : Value → Shared → Prop} (ht : IsTup s.heap t items) (hs : s.heap.IsSliceOf sl .none .none (.int (-1) u))
    (h : Q (.ref s.heap.objs.size) { s with heap := s.heap.push { cls := .type "tuple", data := .seq items.toList.reverse.toArray } })
    (hsz : items.size ≤ sizeLine) : wpAny (model prog w) A (getItem (.ref t) (.ref sl)) Q E s := by
  have htake : sizeOk (.seq items.toList.reverse.toArray) := by
    show items.toList.reverse.toArray.size ≤ sizeLine
    rw [List.size_toArray, List.length_reverse, Array.length_toList]
    exact hsz
  obtain ⟨os, hos, hcs, hds⟩ := id hs
  have hTs : s.TypeIs (.ref sl) "slice" := ⟨os, hos, hcs⟩
  unfold getItem
  try with_reducible refine wpAny_holding ?_
  first | refine wpAny_bind (wpAny_pure ?_) | skip
  refine wpAny_bind (wpAny_sequenceKey ht.typeIs (by decide) ?_)
  refine wpAny_bind (wpAny_callSpecial?_slot (name := Str.ofString "__getitem__") ht.typeIs PyProof.Rows.slot_tuple_getitem
    (wpAny_call_entry PyProof.Rows.slot_tuple_getitem ht.typeIs entry_tuple_getitem ?_ (args_tuple_getitem _ _)))
  show wpAny _ _ (Builtin.Tuple.tupleItemsOf (.ref t) >>= _) _ _ s
  refine wpAny_bind (tupleItemsOf_ ht ?_)
  refine wpAny_bind (wpAny_typeOf hTs ?_)
  rw [if_pos (by decide)]
  refine wpAny_bind (sliceApplied_back hs ?_)
  have hno : ¬ ((((items.size : Int) - 1) == 0 && (-1 : Int) == 1 && items.size == items.size) = true) := by
    intro q
    rw [Bool.and_eq_true, Bool.and_eq_true] at q
    have q1 : (-1 : Int) = 1 := eq_of_beq q.1.2
    omega
  show wpAny _ _ (if (((items.size : Int) - 1) == 0 && (-1 : Int) == 1 && items.size == items.size) = true then _ else _) _ _ s
  rw [if_neg hno, pick_back]
  first
    | exact wpAny_bind (m := Builtin.Tuple.tupleExact _) (wpAny_newObj_type (wpAny_pure ⟨_, rfl, wpAny_pure h⟩) htake)
    | exact wpAny_bind (m := Builtin.Tuple.tupleExact _) (wpAny_newObj_type (wpAny_bind (wpAny_pure (wpAny_pure ⟨_, rfl, wpAny_pure h⟩))) htake)
    | exact wpAny_bind (wpAny_bind (m := Builtin.Tuple.tupleExact _) (wpAny_newObj_type (wpAny_pure (wpAny_pure ⟨_, rfl, wpAny_pure h⟩)) htake))
    | exact wpAny_bind (wpAny_bind (m := Builtin.Tuple.tupleExact _) (wpAny_newObj_type (wpAny_pure ⟨_, rfl, wpAny_pure h⟩) htake))
end
/-- list.extend by a tuple, whatever else the tuple's object bears -/
theorem extend_tupW (l b : Addr) (xs ys : Array Value) (n n2 : Nat) (dd : Option Addr) (sl : Array (Option Value)) (h0 : ¬(!xs.isEmpty && Builtin.List.listTooLong (xs.size + ys.size)) = true) (h1 : xs.size ≤ sizeLine) (h2 : xs.size + ys.size ≤ sizeLine + 1) :
    Meets (Builtin.«list.extend» ⟨[.ref l, .ref b], []⟩) (fun _ R s => s.heap.get? l = some { cls := .type "list", dict := none, data := .seq xs n, slots := #[] } ∧ s.heap.get? b = some { cls := .type "tuple", dict := dd, data := .seq ys n2, slots := sl } ∧ R (.ok (.ret Value.none)) { s with heap := s.heap.update l (Obj.mapSeq fun z => z ++ ys), toks := s.toks }) :=
  .of_wp fun prog w A R s h => by
    obtain ⟨hp, g, d, tk, os⟩ := s
    obtain ⟨hl, hb, h⟩ := h
    have f1 := AutoSeq1.idx_int
    have f2 := AutoSeq1.sub_tuple_tuple
    have f3 := AutoSeq1.sub_list_list
    have f4 := AutoSeq1.sub_tuple_list
    have f5 := AutoSeq1.sub_list_tuple
    have hz' : (xs ++ ys).size ≤ sizeLine + 1 := by rw [Array.size_append]; exact h2
    wp_walk using (wpAny_updateSeq hl rfl (hz := h1) (_hz' := hz')), AutoSeq1.wpAny_loadPart' hl, AutoSeq1.wpAny_loadPart' hb
    exact ⟨_, rfl, h⟩
section
variable {X : Cx}
/-- t[::-1] -/
def tRevT (K : PySem.W.Frag) (te : TE) : TE := fun σ H Q => te σ H fun x H1 => ∃ a xs, x = .ref a ∧ SqT K H1 a xs ∧ ∀ p, H1 p = none → Q (.ref p) (upd H1 p (.tup xs.reverse))
theorem pe_revT {e : Expr} {te : TE} {k : Nat} {p1 p2 p3 pos : Pos} (he : PE X e te) : PE X (.Subscript e (.Slice none none (some (.UnaryOp .USub (.Constant (.int 1) k p1) p2)) p3) pos) (tRevT X.K te) := by
  refine ⟨fun pins s σ H Q I h => ?_⟩
  refine Subscript_ (thn (he.run pins s σ H _ I h) fun v s1 ⟨x, H1, I1, r1, q1⟩ => ?_)
  obtain ⟨a, xs, ex, hx, q⟩ := q1
  subst ex
  cases r1
  have hst : PO X (some (.UnaryOp .USub (.Constant (.int 1) k p1) p2)) (tPart (tUn (rU fun i => .int (-i)) (tC (.int 1)))) := po_some (pe_un un_neg pe_int)
  refine wpAny_Slice (thn (po_none.run pins s1 σ H1 (fun o H2 => o = none ∧ H2 = H1) I1 ⟨rfl, rfl⟩) fun vl s2 ⟨l, H2, I2, pl, el, e2⟩ => ?_)
  subst el e2
  refine thn (po_none.run pins s2 σ H2 (fun o H3 => o = none ∧ H3 = H2) I2 ⟨rfl, rfl⟩) fun vu s3 ⟨u, H3, I3, pu, eu, e3⟩ => ?_
  subst eu e3
  refine thn (hst.run pins s3 σ H3 (fun o H4 => o = some (-1) ∧ H4 = H3) I3 ⟨1, rfl, -1, rfl, rfl, rfl⟩) fun vs s4 ⟨o, H4, I4, ps, eo, e4⟩ => ?_
  subst eo e4
  cases pl
  cases pu
  obtain ⟨tk, rfl⟩ : ∃ tk, vs = .int (-1) tk := by
    cases ps
    exact ⟨_, rfl⟩
  have I5 : L2.Inv X pins σ H4 { s4 with heap := s4.heap.push { cls := .type "slice", data := .fields #[.none, .none, .int (-1) tk] } } := I4.kept (t' := s4.toks) fun b ob q => Heap.get?_push_of_some _ q
  obtain ⟨its, r, ht, hz⟩ := I5.tuple hx
  have hlen := r.length
  show wpAny (model X.prog X.w) X.A (subscriptTail e (.Slice none none (some (.UnaryOp .USub (.Constant (.int 1) k p1) p2)) p3) (.ref a) (.ref s4.heap.objs.size)) (EP X pins σ Q) X.xe { s4 with heap := s4.heap.push { cls := .type "slice", data := .fields #[.none, .none, .int (-1) tk] } }
  refine tail_any (ops := [.ref a, .ref s4.heap.objs.size]) ht.typeIs (PyProof.Rows.slot_tuple_getitem.lookup) ?_ (by with_unfolding_all rfl)
  refine getItem_tuple_back ht (Heap.IsSliceOf.new _ .none .none (.int (-1) tk)) ?_ (by rw [List.size_toArray]; omega)
  refine ⟨.ref _, _, I5.laid (t' := s4.toks) (o := .tup xs.reverse) (fun b ob q => Heap.get?_push_of_some _ q) (Nat.le_refl _) ?_, rfl, q _ (I5.hok.fresh (Nat.le_refl _))⟩
  exact ⟨by show xs.reverse.length ≤ sizeLine; rw [List.length_reverse]; exact hz, _, r.reverse, ⟨_, Heap.get?_push_size _ rfl, rfl, _, rfl⟩⟩
/-- xs.extend(t), t a tuple -/
def rExtT (K : PySem.W.Frag) : V → List V → Hp → VK → Prop := fun x vs H Q => ∃ l b xs zs, x = .ref l ∧ vs = [.ref b] ∧ H l = some (.lst xs) ∧ H b = some (.tup zs) ∧ xs.length + zs.length ≤ sizeLine ∧ Q .non (upd H l (.lst (xs ++ zs)))
theorem mt_extendT : MtM X "list.extend" (rExtT X.K) := by
  intro pins s σ H x vs v us Q I rx rv h
  obtain ⟨l, b, xs, zs, rfl, rfl, hH, hB, hz, q⟩ := h
  cases rx
  obtain ⟨u, rfl, ru⟩ := rv.one
  cases ru
  obtain ⟨z, its, n, r, hl, e⟩ := I.lstM hH
  obtain ⟨its2, r2, p2, z2⟩ := I.tuple (SqT.of (K := X.K) hB)
  obtain ⟨⟨cls2, dd2, data2, sl2⟩, ho2, hc2, n2, hd2⟩ := id p2
  simp only at hc2 hd2
  subst hc2 hd2
  have hl2 := r2.length
  have hsz : its.toArray.size + its2.toArray.size ≤ sizeLine := by rw [List.size_toArray, List.size_toArray]; omega
  have hlong : ¬ (!its.toArray.isEmpty && Builtin.List.listTooLong (its.toArray.size + its2.toArray.size)) = true := by
    rw [notLongL hsz, Bool.and_false]
    exact Bool.false_ne_true
  refine call_meets PySem.F.slot_list_extend ⟨_, e, rfl⟩ PySem.F.entry_list_extend (PySem.F.args_list_extend_2 _ _)
    (extend_tupW l b its.toArray its2.toArray n n2 dd2 sl2 hlong (by rw [List.size_toArray]; omega) (by omega)) ⟨e, ho2, ?_⟩
  refine ⟨.non, _, I.lset (its' := its ++ its2) hH e (by simp) (r.append r2) ?_, rfl, q⟩
  rw [List.length_append]
  omega
end
end Xr

/-! k01, part A: the text by places; the deal of draws: _law_any -/
namespace K1
open PySem L2
def top (i : Nat) : Stmt := PySem.Challenge.pw_turnsfit_k49_any_values_as_turnings.main.body.getD i (.Pass ⟨0, 0, 0, 0⟩)
abbrev sAny : Stmt := top 28
abbrev sOf : Stmt := top 29

/-- the deal stands at d: its great cells at c, its blend -/
structure DealAt (H : Hp) (d c : Addr) : Prop where
  ex : ∃ (cs : List Int) (b : Int), H d = some (.lst [.ref c, .int b]) ∧ H c = some (.lst (cs.map V.int)) ∧ (∀ x ∈ cs, 0 ≤ x) ∧ cs.length ≤ 63 ∧ 0 ≤ b ∧ b < 2147483647
/-- all tracked things but the deal's own two stand as before -/
def But (d c : Addr) (H H' : Hp) : Prop := ∀ q o, H q = some o → q ≠ d → q ≠ c → H' q = some o
theorem But.refl {d c : Addr} {H : Hp} : But d c H H := fun _ _ h _ _ => h
theorem But.trans {d c : Addr} {H H1 H2 : Hp} (a : But d c H H1) (b : But d c H1 H2) : But d c H H2 := fun q o h n m => b q o (a q o h n m) n m
/-- a promise of _law_any -/
def spAny : Sp := fun vs H Q _ => ∃ (d c : Addr) (n : Int), vs = [.ref d, .int n] ∧ DealAt H d c ∧ 0 < n ∧ n < 1073741824 ∧
  ∀ (r : Int) (H' : Hp), 0 ≤ r → r < n → DealAt H' d c → But d c H H' → Q (.int r) H'
theorem last_at {l : List Int} {x : Int} : atI ((l ++ [x]).map V.int) (-1) = some (.int x) := by
  have e : (l ++ [x]).map V.int = l.map V.int ++ [V.int x] := by simp
  rw [e]
  unfold atI ixN
  have h1 : ¬ (0 : Int) ≤ -1 := by omega
  have h2 : -(((l.map V.int ++ [V.int x]).length : Nat) : Int) ≤ -1 := by
    rw [List.length_append]
    simp
    omega
  rw [if_neg h1, if_pos h2]
  have e2 : (-1 + (((l.map V.int ++ [V.int x]).length : Nat) : Int)).toNat = (l.map V.int).length := by
    rw [List.length_append]
    simp
    omega
  rw [e2]
  simp
theorem canLayAll_ints : ∀ l : List Int, PyData.canLayAll0 (l.map PyData.int) = true
  | [] => rfl
  | x :: l => by
    have ih := canLayAll_ints l
    rw [List.map_cons]
    unfold PyData.canLayAll0
    rw [ih]
    rfl
theorem depthAll_ints : ∀ l : List Int, PyData.depthAll (l.map PyData.int) = 0
  | [] => rfl
  | x :: l => by
    have ih := depthAll_ints l
    rw [List.map_cons]
    unfold PyData.depthAll
    rw [ih]
    rfl
theorem shaped_ints (l : List Int) : SeqAt.shaped (.list (l.map PyData.int)) = true := by
  unfold SeqAt.shaped PyData.canLay0 PyData.depth
  rw [canLayAll_ints, depthAll_ints]
  rfl
theorem dp_ints {K : PySem.W.Frag} {H : Hp} : ∀ l : List Int, DpAll K H (l.map V.int) (l.map PyData.int)
  | [] => .nil
  | x :: l => .cons (.int x) (dp_ints l)
theorem eqv_nil_nil : PyData.eqv (.list []) (.list []) = true := rfl
theorem eqv_cons_nil {d : PyData} {ds : List PyData} : PyData.eqv (.list (d :: ds)) (.list []) = false := rfl
theorem scAny : FnScope ["deal", "bound", "rest"] ["deal", "bound"] (defScope sAny) := ⟨rfl, rfl, rfl, by decide +kernel, rfl, by decide +kernel, by decide +kernel⟩
structure AnyTxt (K : PySem.W.Frag) (mg : Str → Option Value) : Prop where
  int : mg "int" = none
section
variable {P : Program} {w : World} {K : PySem.W.Frag} {mg : Str → Option Value} {base : Heap}
theorem ok_any {f : Addr} {fd : FuncData} (F : Fun K "_law_any" "_law_any" sAny f fd) (T : AnyTxt K mg) : FnOk P w K mg base CX0 1 f fd ["deal", "bound"] spAny := by
  refine F.ok scAny (fun vs H Q E h => ?_) (fun cdv A outer s H vs Q E hr h => ?_)
  · obtain ⟨d, c, n, rfl, _⟩ := h
    rfl
  · obtain ⟨d, c, n, rfl, D, n0, n1, k⟩ := h
    refine ⟨_, pss_cons (ps_while PassesOwn.never
        (PW.pt (pw_and (pt_cmpR (op_neD hr.units) (pe_ix ix_list (pv 0) pe_int (fun _ _ => rfl)) (pe_lst pa_nil) (nomark _))
          (pw_and1 (pt_cmpR op_eq (pe_ix ix_list (pe_ix ix_list (pv 0) pe_int (fun _ _ => rfl)) (pe_un un_neg pe_int) (fun _ _ => rfl)) pe_int (nomark _)))))
        (pss_one (ps_expr (pe_bm0 PySem.F.plainAttrs_list PySem.F.slot_list_pop PySem.F.type_list_pop mt_pop (pe_ix ix_list (pv 0) pe_int (fun _ _ => rfl))))))
      (pss_cons (ps_if (pt_cmpR (op_neD hr.units) (pe_ix ix_list (pv 0) pe_int (fun _ _ => rfl)) (pe_lst pa_nil) (nomark _))
        (pss_cons (ps_set (i := 2) scAny.nd rfl (Or.inl rfl) (pe_callTy call_int1 (by rfl) T.int (by decide +kernel) (pa_cons (pe_bm0 PySem.F.plainAttrs_list PySem.F.slot_list_pop PySem.F.type_list_pop mt_pop (pe_ix ix_list (pv 0) pe_int (fun _ _ => rfl))) pa_nil)))
        (pss_cons (ps_expr (pe_bm PySem.F.plainAttrs_list PySem.F.slot_list_append PySem.F.type_list_append mt_append (pe_ix ix_list (pv 0) pe_int (fun _ _ => rfl)) (pa_cons (pe_op op_fdivW (pv 2) (pv 1)) pa_nil)))
        (pss_one (ps_ret (pe_op op_mod (pv 2) (pv 1))))))
        pss_nil)
      (pss_cons (ps_asg (pe_op op_mod (pe_callTy call_int1 (by rfl) T.int (by decide +kernel) (pa_cons (pe_op op_add (pe_op op_mul (pe_ix ix_list (pv 0) pe_int (fun _ _ => rfl)) pe_int) pe_int) pa_nil)) pe_int) (pg_sub (pv 0) pe_int set_list))
      (pss_one (ps_ret (pe_op op_mod (pe_callTy call_int1 (by rfl) T.int (by decide +kernel) (pa_cons (pe_op op_fdiv (pe_ix ix_list (pv 0) pe_int (fun _ _ => rfl)) pe_int) pa_nil)) (pv 1)))))), ?_⟩
    obtain ⟨cs0, b0, hd0, hc0, g0, l0, b1, b2⟩ := D.ex
    refine ⟨fun m σ H1 => ∃ (cs : List Int), σ = [some (.ref d), some (.int n), none] ∧ m = cs.length ∧ H1 d = some (.lst [.ref c, .int b0]) ∧ H1 c = some (.lst (cs.map V.int)) ∧ (∀ x ∈ cs, 0 ≤ x) ∧ cs.length ≤ 63 ∧ But d c H H1,
      ⟨cs0.length, cs0, rfl, rfl, hd0, hc0, g0, l0, But.refl⟩, ?_⟩
    rintro m σ H1 ⟨cs, rfl, rfl, hd, hc, g, l, bu⟩
    have dc : d ≠ c := by
      intro e
      subst e
      rw [hd] at hc
      have z := Option.some.inj hc
      injection z with z
      cases cs with
      | nil => cases z
      | cons x r => cases z
    -- deal[0] != []
    refine ⟨_, rfl, _, _, _, _, rfl, rfl, SqL.of hd, atI_nat (j := 0) rfl, Nat.zero_le _, fun p hp => ?_⟩
    have pd : d ≠ p := ne_of_none hd hp
    have pc : c ≠ p := ne_of_none hc hp
    have hd' : (upd H1 p (.lst [])) d = some (.lst [.ref c, .int b0]) := by rw [upd_ne pd]; exact hd
    have hc' : (upd H1 p (.lst [])) c = some (.lst (cs.map V.int)) := by rw [upd_ne pc]; exact hc
    have bu' : But d c H (upd H1 p (.lst [])) := fun q o hq n1 n2 => by
      have z := bu q o hq n1 n2
      rw [upd_ne (ne_of_none z hp)]
      exact z
    refine ⟨_, _, .lst (SqL.of hc') (dp_ints cs), .lst (SqL.of upd_same) .nil, shaped_ints cs, shaped_ints [], _, rfl, ?_⟩
    rcases List.eq_nil_or_concat cs with e | ⟨cs', x, e⟩
    · subst e
      refine iteF (iteF ?_)
      -- deal[0] != [] again: no
      refine ⟨_, rfl, _, _, _, _, rfl, rfl, SqL.of hd', atI_nat (j := 0) rfl, Nat.zero_le _, fun p2 hp2 => ?_⟩
      have qd : d ≠ p2 := ne_of_none hd' hp2
      have qc : c ≠ p2 := ne_of_none hc' hp2
      have hd2 : (upd (upd H1 p (.lst [])) p2 (.lst [])) d = some (.lst [.ref c, .int b0]) := by rw [upd_ne qd]; exact hd'
      have hc2 : (upd (upd H1 p (.lst [])) p2 (.lst [])) c = some (.lst []) := by rw [upd_ne qc]; exact hc'
      have bu2 : But d c H (upd (upd H1 p (.lst [])) p2 (.lst [])) := fun q o hq n1 n2 => by
        have z := bu' q o hq n1 n2
        rw [upd_ne (ne_of_none z hp2)]
        exact z
      refine ⟨_, _, .lst (SqL.of hc2) .nil, .lst (SqL.of upd_same) .nil, shaped_ints [], shaped_ints [], _, rfl, iteF ?_⟩
      -- deal[1] = int(deal[1] * 48271 + 41) % 2147483647
      generalize upd (upd H1 p (.lst [])) p2 (.lst []) = H3 at hd2 hc2 bu2 ⊢
      refine ⟨_, rfl, _, _, _, _, rfl, rfl, SqL.of hd2, atI_nat (j := 1) rfl, _, _, rfl, rfl, .inr ⟨by decide, by decide⟩, _, _, rfl, rfl, .inl ⟨_, rfl, _, _, rfl, rfl, (by show (0 : Int) < 2147483647; decide), ?_⟩⟩
      refine ⟨_, rfl, _, _, _, 1, rfl, rfl, hd2, rfl, ?_⟩
      refine ⟨_, rfl, _, _, _, _, rfl, rfl, SqL.of upd_same, atI_nat (j := 1) rfl, _, _, rfl, rfl, ⟨by decide, by decide⟩, .inl ⟨_, rfl, _, rfl, _, _, rfl, rfl, n0, ?_⟩⟩
      refine k _ _ (Int.emod_nonneg _ (by omega)) (Int.emod_lt_of_pos _ n0) ⟨[], _, upd_same, by rw [upd_ne (Ne.symm dc)]; exact hc2, by simp, by simp, Int.emod_nonneg _ (by decide), Int.emod_lt_of_pos _ (by decide)⟩ ?_
      intro q o hq n1 n2
      rw [upd_ne n1]
      exact bu2 q o hq n1 n2
    · rw [List.concat_eq_append] at e
      subst e
      have ec : (cs' ++ [x]).map V.int = cs'.map V.int ++ [V.int x] := by simp
      have e1 : PyData.eqv (.list ((cs' ++ [x]).map PyData.int)) (.list []) = false := by
        cases cs' with
        | nil => rfl
        | cons y r => rfl
      have gx : 0 ≤ x := g x (by simp)
      have lx : cs'.length + 1 ≤ 63 := by simpa using l
      rw [e1]
      refine iteT ?_
      -- deal[0][-1] == 0
      refine ⟨_, rfl, _, _, _, _, rfl, rfl, SqL.of hd', atI_nat (j := 0) rfl, _, rfl, _, _, _, _, rfl, rfl, SqL.of hc', last_at, rfl, _, rfl, ?_⟩
      by_cases hx : x = 0
      · subst hx
        refine iteT ?_
        refine ⟨fun σ' H' => σ' = [some (.ref d), some (.int n), none] ∧ H' d = some (.lst [.ref c, .int b0]) ∧ H' c = some (.lst (cs'.map V.int)) ∧ But d c H H', fun σ' H' ⟨e1, e2, e3, e4⟩ => ⟨cs'.length, by simp, cs', e1, rfl, e2, e3, fun y hy => g y (by simp [hy]), by omega, e4⟩, ?_⟩
        refine ⟨_, rfl, _, _, _, _, rfl, rfl, SqL.of hd', atI_nat (j := 0) rfl, .inl ⟨rfl, _, SqL.of hc'⟩, _, _, V.int 0, rfl, rfl, hc', (by rw [ec]; simp), rfl, ?_, ?_, ?_⟩
        · rw [upd_ne dc]
          exact hd'
        · rw [upd_same, ec, List.dropLast_concat]
        · intro q o hq n1 n2
          rw [upd_ne n2]
          exact bu' q o hq n1 n2
      · have dx : decide (V.int x = V.int 0) = false := decide_eq_false fun z => hx (V.int.inj z)
        rw [dx]
        refine iteF ?_
        -- deal[0] != []: yes
        refine ⟨_, rfl, _, _, _, _, rfl, rfl, SqL.of hd', atI_nat (j := 0) rfl, Nat.zero_le _, fun p2 hp2 => ?_⟩
        have qd : d ≠ p2 := ne_of_none hd' hp2
        have qc : c ≠ p2 := ne_of_none hc' hp2
        have hd2 : (upd (upd H1 p (.lst [])) p2 (.lst [])) d = some (.lst [.ref c, .int b0]) := by rw [upd_ne qd]; exact hd'
        have hc2 : (upd (upd H1 p (.lst [])) p2 (.lst [])) c = some (.lst ((cs' ++ [x]).map V.int)) := by rw [upd_ne qc]; exact hc'
        have bu2 : But d c H (upd (upd H1 p (.lst [])) p2 (.lst [])) := fun q o hq n1 n2 => by
          have z := bu' q o hq n1 n2
          rw [upd_ne (ne_of_none z hp2)]
          exact z
        refine ⟨_, _, .lst (SqL.of hc2) (dp_ints _), .lst (SqL.of upd_same) .nil, shaped_ints _, shaped_ints [], _, rfl, ?_⟩
        rw [e1]
        refine iteT ?_
        generalize upd (upd H1 p (.lst [])) p2 (.lst []) = H3 at hd2 hc2 bu2 ⊢
        -- rest = int(deal[0].pop())
        refine ⟨_, rfl, _, _, _, _, rfl, rfl, SqL.of hd2, atI_nat (j := 0) rfl, .inl ⟨rfl, _, SqL.of hc2⟩, _, _, .int x, rfl, rfl, hc2, (by rw [ec]; simp), .inl ⟨_, rfl, ?_⟩⟩
        have hd3 : ∀ o, (upd H3 c o) d = some (.lst [.ref c, .int b0]) := fun o => by rw [upd_ne dc]; exact hd2
        have ed : ((cs' ++ [x]).map V.int).dropLast = cs'.map V.int := by rw [ec, List.dropLast_concat]
        rw [ed]
        -- deal[0].append(rest // bound)
        refine ⟨_, rfl, _, _, _, _, rfl, rfl, SqL.of (hd3 _), atI_nat (j := 0) rfl, .inl ⟨rfl, _, SqL.of upd_same⟩, _, rfl, _, rfl, _, _, rfl, rfl, wide_div n0 (b := 31) (by omega) (by decide) (by decide), _, _, _, rfl, rfl, upd_same, small1000 (by simp; omega), ?_⟩
        refine ⟨_, rfl, _, rfl, _, _, rfl, rfl, n0, ?_⟩
        rw [upd_upd]
        refine k _ _ (Int.emod_nonneg _ (by omega)) (Int.emod_lt_of_pos _ n0) ⟨cs' ++ [x / n], b0, by rw [upd_ne dc]; exact hd2, by rw [upd_same]; simp, ?_, by simp; omega, b1, b2⟩ ?_
        · intro y hy
          rcases List.mem_append.mp hy with hy | hy
          · exact g y (by simp [hy])
          · rw [List.mem_singleton] at hy
            subst hy
            exact Int.ediv_nonneg gx (by omega)
        · intro q o hq n1 n2
          rw [upd_ne n2]
          exact bu2 q o hq n1 n2
end
end K1

namespace K1
open PySem L2
/-- _law_of(deal, some), some a list at a | a text -/
def spOf : Sp := fun vs H Q _ => ∃ (d c : Addr), DealAt H d c ∧
  ((∃ (a : Addr) (xs : List V), vs = [.ref d, .ref a] ∧ H a = some (.lst xs) ∧ a ≠ d ∧ a ≠ c ∧ 0 < xs.length ∧ xs.length < 1000000 ∧
      ∀ (v : V) (H' : Hp), v ∈ xs → DealAt H' d c → But d c H H' → Q v H') ∨
    (∃ z : Str, vs = [.ref d, .str z] ∧ 0 < z.length ∧ z.length < 1000000 ∧ ∀ (ch : Nat) (H' : Hp), ch ∈ z.cps.toList → DealAt H' d c → But d c H H' → Q (.str ⟨#[ch]⟩) H'))
theorem scOf : FnScope ["deal", "some"] ["deal", "some"] (defScope sOf) := ⟨rfl, rfl, rfl, by decide +kernel, rfl, by decide +kernel, by decide +kernel⟩
structure OfTxt (K : PySem.W.Frag) (mg : Str → Option Value) (fAny : Addr) : Prop where
  len : mg "len" = none
  any : mg "_law_any" = some (.ref fAny)
  kAny : PySem.W.keepIn K (.ref fAny) = true
section
variable {P : Program} {w : World} {K : PySem.W.Frag} {mg : Str → Option Value} {base : Heap}
theorem ok_of {f fA : Addr} {fd fdA : FuncData} (F : Fun K "_law_of" "_law_of" sOf f fd) (T : OfTxt K mg fA) (G : FnOk P w K mg base CX0 1 fA fdA ["deal", "bound"] spAny) (bA : Binds K fdA ["deal", "bound"] []) :
    FnOk P w K mg base CX0 2 f fd ["deal", "some"] spOf := by
  refine F.ok scOf (fun vs H Q E h => ?_) (fun cdv A outer s H vs Q E hr h => ?_)
  · obtain ⟨d, c, _, ⟨a, xs, rfl, _⟩ | ⟨z, rfl, _⟩⟩ := h <;> rfl
  · obtain ⟨d, c, D, h⟩ := h
    rcases h with ⟨a, xs, rfl, ha, nd, nc, l0, l1, k⟩ | ⟨z, rfl, l0, l1, k⟩
    · refine ⟨_, pss_one (ps_ret (pe_ix ix_list (pv 1) (pe_call G hr rfl T.any T.kAny bA .nil pass0 (pa_cons (pv 0) (pa_cons (pe_callB call_len_seq (by rfl) T.len PySem.boot_len (pa_cons (pv 1) pa_nil)) pa_nil))) (fun _ _ => rfl))), ?_⟩
      refine ⟨_, rfl, _, rfl, _, rfl, _, _, rfl, .inl (SqL.of ha), d, c, _, rfl, D, by omega, by omega, fun r H' r0 r1 D' bu => ?_⟩
      have ha' := bu a _ ha nd nc
      obtain ⟨j, rfl⟩ := Int.eq_ofNat_of_zero_le r0
      have hj : j < xs.length := by omega
      refine ⟨_, _, _, xs[j], rfl, rfl, SqL.of ha', atI_nat (by simp [hj]), k _ _ (List.getElem_mem hj) D' bu⟩
    · refine ⟨_, pss_one (ps_ret (pe_ix ix_str (pv 1) (pe_call G hr rfl T.any T.kAny bA .nil pass0 (pa_cons (pv 0) (pa_cons (pe_callB call_len_str (by rfl) T.len PySem.boot_len (pa_cons (pv 1) pa_nil)) pa_nil))) (fun _ _ => rfl))), ?_⟩
      refine ⟨_, rfl, _, rfl, _, rfl, _, rfl, (by show z.length ≤ sizeLine; rw [sizeLine_eq]; omega), d, c, _, rfl, D, by omega, by omega, fun r H' r0 r1 D' bu => ?_⟩
      obtain ⟨j, rfl⟩ := Int.eq_ofNat_of_zero_le r0
      have hz : z.length = z.cps.toList.length := by
        show z.cps.size = _
        simp
      have hj : j < z.cps.toList.length := by omega
      refine ⟨_, _, z.cps.toList[j], rfl, rfl, (by show z.length ≤ sizeLine; rw [sizeLine_eq]; omega), atI_nat (by rw [List.getElem?_eq_getElem hj]), k _ _ (List.getElem_mem hj) D' bu⟩
end
end K1

namespace K1
open PySem L2
def spSource (K : PySem.W.Frag) : Sp := fun vs H Q _ => ∃ (a : Addr) (ns : List Int), vs = [.ref a] ∧ SqL K H a (ns.map V.int) ∧ ns.length ≤ 63 ∧
  ∀ (d c : Addr) (H' : Hp), DealAt H' d c → Same H H' → H d = none → H c = none → Q (.ref d) H'
structure SourceTxt (K : PySem.W.Frag) (mg : Str → Option Value) : Prop where
  int : mg "int" = none
  abs : mg "abs" = none
def absI (i : Int) : Int := if i < 0 then -i else i
theorem absI_nn (i : Int) : 0 ≤ absI i := by unfold absI; split <;> omega
theorem take_more {α : Type} : ∀ {l : List α} {i : Nat} {x : α}, l[i]? = some x → l.take (i + 1) = l.take i ++ [x]
  | [], i, x, h => by simp at h
  | a :: l, 0, x, h => by
    have e : a = x := Option.some.inj h
    subst e
    rfl
  | a :: l, i + 1, x, h => by
    have ih := take_more (l := l) (i := i) (x := x) h
    show a :: l.take (i + 1) = a :: l.take i ++ [x]
    rw [ih]
    rfl
theorem cut_ints (ns : List Int) (lo hi : Option Int) : ∃ ms : List Int, cutV (ns.map V.int) lo hi = ms.map V.int ∧ ms.length ≤ ns.length := by
  refine ⟨(ns.drop (HT.sIx (ns.map V.int).length 0 lo)).take (HT.sIx (ns.map V.int).length (ns.map V.int).length hi - HT.sIx (ns.map V.int).length 0 lo), ?_, ?_⟩
  · unfold cutV
    simp [List.map_take, List.map_drop]
  · rw [List.length_take, List.length_drop]
    omega
theorem map_at {l : List Int} {i : Nat} {x : V} (h : (l.map V.int)[i]? = some x) : ∃ z, l[i]? = some z ∧ x = V.int z := by
  rw [List.getElem?_map] at h
  cases e : l[i]? with
  | none =>
    rw [e] at h
    cases h
  | some z =>
    rw [e] at h
    exact ⟨z, rfl, (Option.some.inj h).symm⟩
section
variable {P : Program} {w : World} {K : PySem.W.Frag} {mg : Str → Option Value} {base : Heap}
end
end K1

/-! data whose objects stand still: all but the cells N that may change -/
namespace K1
open PySem L2
/-- tracked -/
def Trk (H : Hp) : Addr → Prop := fun a => ∃ o, H a = some o
/-- what is no cell of N stays -/
def Bt (N : Addr → Prop) (H H' : Hp) : Prop := ∀ a o, ¬ N a → H a = some o → H' a = some o
theorem Bt.refl {N : Addr → Prop} {H : Hp} : Bt N H H := fun _ _ _ h => h
theorem Bt.trans {N : Addr → Prop} {H H1 H2 : Hp} (a : Bt N H H1) (b : Bt N H1 H2) : Bt N H H2 := fun q o n h => b q o n (a q o n h)
theorem Bt.mono {N N' : Addr → Prop} {H H' : Hp} (b : Bt N' H H') (h : ∀ a, N' a → N a) : Bt N H H' := fun q o n e => b q o (fun z => n (h _ z)) e
theorem Bt.same {N : Addr → Prop} {H H' : Hp} (s : Same H H') : Bt N H H' := fun q o _ h => s q o h
theorem Bt.new {N : Addr → Prop} {H H1 : Hp} {l : Addr} {o : HO} (b : Bt N H H1) (hl : H1 l = none) : Bt N H (upd H1 l o) := fun q u n e => by
  have z := b q u n e
  rw [upd_ne (ne_of_none z hl)]
  exact z
theorem Bt.cell {N : Addr → Prop} {H H1 : Hp} {l : Addr} {o : HO} (b : Bt N H H1) (hl : N l) : Bt N H (upd H1 l o) := fun q u n e => by
  have z := b q u n e
  have ne : q ≠ l := fun h => n (by rw [h]; exact hl)
  rw [upd_ne ne]
  exact z
theorem _root_.L2.Same.new {H H1 : Hp} {l : Addr} {o : HO} (b : Same H H1) (hl : H1 l = none) : Same H (upd H1 l o) := fun q u e => by
  have z := b q u e
  rw [upd_ne (ne_of_none z hl)]
  exact z
theorem _root_.L2.Same.cell {H H1 : Hp} {l : Addr} {o : HO} (b : Same H H1) (hl : H l = none) : Same H (upd H1 l o) := fun q u e => by
  have z := b q u e
  rw [upd_ne (ne_of_none e hl)]
  exact z
theorem Trk.same {H H' : Hp} (s : Same H H') {a : Addr} (h : Trk H a) : Trk H' a := by
  obtain ⟨o, e⟩ := h
  exact ⟨o, s a o e⟩
/-- a tuple of the text's own -/
def KTup (K : PySem.W.Frag) (a : Addr) (xs : List V) : Prop := ∃ (o : Obj) (its : Array Value) (n : Nat), K.lookup a = some o ∧ o.cls = .type "tuple" ∧ o.data = .seq its n ∧ its.size ≤ sizeLine ∧ Vals xs its.toList
theorem KTup.sq {K : PySem.W.Frag} {H : Hp} {a : Addr} {xs : List V} (h : KTup K a xs) : SqT K H a xs := .inr h
mutual
inductive Dm (K : PySem.W.Frag) (N : Addr → Prop) (H : Hp) : V → PyData → Prop
  | non : Dm K N H .non .none
  | bl (b : Bool) : Dm K N H (.bl b) (.bool b)
  | int (i : Int) : Dm K N H (.int i) (.int i)
  | str (x : Str) : Dm K N H (.str x) (.str x)
  | lst {a : Addr} {xs : List V} {ds : List PyData} : H a = some (.lst xs) → ¬ N a → DmAll K N H xs ds → Dm K N H (.ref a) (.list ds)
  | tup {a : Addr} {xs : List V} {ds : List PyData} : H a = some (.tup xs) → ¬ N a → DmAll K N H xs ds → Dm K N H (.ref a) (.tuple ds)
  | con {a : Addr} {xs : List V} {ds : List PyData} : KTup K a xs → DmAll K N H xs ds → Dm K N H (.ref a) (.tuple ds)
inductive DmAll (K : PySem.W.Frag) (N : Addr → Prop) (H : Hp) : List V → List PyData → Prop
  | nil : DmAll K N H [] []
  | cons {v : V} {vs : List V} {d : PyData} {ds : List PyData} : Dm K N H v d → DmAll K N H vs ds → DmAll K N H (v :: vs) (d :: ds)
end
section
variable {K : PySem.W.Frag}
mutual
theorem Dm.mono {N N' : Addr → Prop} {H H' : Hp} (hn : ∀ a, Trk H a → N' a → N a) (hh : Bt N H H') : ∀ (d : PyData) (v : V), Dm K N H v d → Dm K N' H' v d
  | .none, _, h => by
    cases h
    exact .non
  | .bool b, _, h => by
    cases h
    exact .bl b
  | .int i, _, h => by
    cases h
    exact .int i
  | .str x, _, h => by
    cases h
    exact .str x
  | .list ds, _, h => by
    cases h with
    | lst e n a => exact .lst (hh _ _ n e) (fun z => n (hn _ ⟨_, e⟩ z)) (DmAll.mono hn hh ds _ a)
  | .tuple ds, _, h => by
    cases h with
    | tup e n a => exact .tup (hh _ _ n e) (fun z => n (hn _ ⟨_, e⟩ z)) (DmAll.mono hn hh ds _ a)
    | con e a => exact .con e (DmAll.mono hn hh ds _ a)
  | .dict _, _, h => by cases h
theorem DmAll.mono {N N' : Addr → Prop} {H H' : Hp} (hn : ∀ a, Trk H a → N' a → N a) (hh : Bt N H H') : ∀ (ds : List PyData) (vs : List V), DmAll K N H vs ds → DmAll K N' H' vs ds
  | [], _, h => by
    cases h
    exact .nil
  | d :: ds, _, h => by
    cases h with
    | cons a b => exact .cons (Dm.mono hn hh d _ a) (DmAll.mono hn hh ds _ b)
end
mutual
theorem Dm.dp {N : Addr → Prop} {H : Hp} : ∀ (d : PyData) (v : V), Dm K N H v d → Dp K H v d
  | .none, _, h => by
    cases h
    exact .non
  | .bool b, _, h => by
    cases h
    exact .bl b
  | .int i, _, h => by
    cases h
    exact .int i
  | .str x, _, h => by
    cases h
    exact .str x
  | .list ds, _, h => by
    cases h with
    | lst e n a => exact .lst (SqL.of e) (DmAll.dp ds _ a)
  | .tuple ds, _, h => by
    cases h with
    | tup e n a => exact .tup (SqT.of e) (DmAll.dp ds _ a)
    | con e a => exact .tup e.sq (DmAll.dp ds _ a)
  | .dict _, _, h => by cases h
theorem DmAll.dp {N : Addr → Prop} {H : Hp} : ∀ (ds : List PyData) (vs : List V), DmAll K N H vs ds → DpAll K H vs ds
  | [], _, h => by
    cases h
    exact .nil
  | d :: ds, _, h => by
    cases h with
    | cons a b => exact .cons (Dm.dp d _ a) (DmAll.dp ds _ b)
end
variable {N : Addr → Prop} {H : Hp}
theorem Dm.up {d : PyData} {v : V} {H' : Hp} (h : Dm K N H v d) (b : Bt N H H') : Dm K N H' v d := Dm.mono (fun _ _ z => z) b _ _ h
theorem DmAll.up {ds : List PyData} {vs : List V} {H' : Hp} (h : DmAll K N H vs ds) (b : Bt N H H') : DmAll K N H' vs ds := DmAll.mono (fun _ _ z => z) b _ _ h
theorem DmAll.app : ∀ {vs ws : List V} {ds es : List PyData}, DmAll K N H vs ds → DmAll K N H ws es → DmAll K N H (vs ++ ws) (ds ++ es)
  | _, _, _, _, .nil, h => h
  | _, _, _, _, .cons a b, h => .cons a (DmAll.app b h)
theorem DmAll.snoc {vs : List V} {ds : List PyData} {w : V} {e : PyData} (h : DmAll K N H vs ds) (x : Dm K N H w e) : DmAll K N H (vs ++ [w]) (ds ++ [e]) := h.app (.cons x .nil)
theorem DmAll.len : ∀ {vs : List V} {ds : List PyData}, DmAll K N H vs ds → vs.length = ds.length
  | _, _, .nil => rfl
  | _, _, .cons _ b => by rw [List.length_cons, List.length_cons, DmAll.len b]
theorem DmAll.get : ∀ {vs : List V} {ds : List PyData} {i : Nat} {d : PyData}, DmAll K N H vs ds → ds[i]? = some d → ∃ v, vs[i]? = some v ∧ Dm K N H v d
  | _, _, i, d, .nil, h => by simp at h
  | _, _, 0, d, .cons a b, h => by
    have e := Option.some.inj h
    subst e
    exact ⟨_, rfl, a⟩
  | _, _, i + 1, d, .cons a b, h => DmAll.get (i := i) b h
theorem DmAll.getV : ∀ {vs : List V} {ds : List PyData} {i : Nat} {v : V}, DmAll K N H vs ds → vs[i]? = some v → ∃ d, ds[i]? = some d ∧ Dm K N H v d
  | _, _, i, d, .nil, h => by simp at h
  | _, _, 0, d, .cons a b, h => by
    have e := Option.some.inj h
    subst e
    exact ⟨_, rfl, a⟩
  | _, _, i + 1, d, .cons a b, h => DmAll.getV (i := i) b h
theorem DmAll.take : ∀ {vs : List V} {ds : List PyData} (i : Nat), DmAll K N H vs ds → DmAll K N H (vs.take i) (ds.take i)
  | _, _, _, .nil => by simp; exact .nil
  | _, _, 0, .cons a b => .nil
  | _, _, i + 1, .cons a b => .cons a (DmAll.take i b)
theorem DmAll.drop : ∀ {vs : List V} {ds : List PyData} (i : Nat), DmAll K N H vs ds → DmAll K N H (vs.drop i) (ds.drop i)
  | _, _, _, .nil => by simp; exact .nil
  | _, _, 0, .cons a b => .cons a b
  | _, _, i + 1, .cons a b => DmAll.drop i b
theorem DmAll.rev : ∀ {vs : List V} {ds : List PyData}, DmAll K N H vs ds → DmAll K N H vs.reverse ds.reverse
  | _, _, .nil => .nil
  | _, _, .cons a b => by
    rw [List.reverse_cons, List.reverse_cons]
    exact (DmAll.rev b).snoc a
/-- the tuple behind data that is one -/
theorem Dm.seqT {v : V} {ds : List PyData} (h : Dm K N H v (.tuple ds)) : ∃ a xs, v = .ref a ∧ SqT K H a xs ∧ DmAll K N H xs ds := by
  cases h with
  | tup e n a => exact ⟨_, _, rfl, SqT.of e, a⟩
  | con e a => exact ⟨_, _, rfl, e.sq, a⟩
/-- a tuple that stands -/
def Tp (K : PySem.W.Frag) (N : Addr → Prop) (H : Hp) (a : Addr) (xs : List V) : Prop := (H a = some (.tup xs) ∧ ¬ N a) ∨ KTup K a xs
theorem Tp.sq {a : Addr} {xs : List V} (h : Tp K N H a xs) : SqT K H a xs := h.elim (fun z => SqT.of z.1) fun z => z.sq
theorem Tp.up {H' : Hp} {a : Addr} {xs : List V} (h : Tp K N H a xs) (b : Bt N H H') : Tp K N H' a xs := h.elim (fun z => .inl ⟨b _ _ z.2 z.1, z.2⟩) .inr
theorem Tp.ty {a : Addr} {xs : List V} (h : Tp K N H a xs) : TyX K H (.ref a) (.type "tuple") := h.elim (fun z => .base (.tup z.1)) fun ⟨_, _, _, h1, h2, _⟩ => .kTuple h1 h2
theorem Dm.seq {v : V} {ds : List PyData} (h : Dm K N H v (.tuple ds)) : ∃ a xs, v = .ref a ∧ Tp K N H a xs ∧ DmAll K N H xs ds := by
  cases h with
  | tup e n a => exact ⟨_, _, rfl, .inl ⟨e, n⟩, a⟩
  | con e a => exact ⟨_, _, rfl, .inr e, a⟩
/-- a pair of a text and another thing -/
theorem Dm.pair {v : V} {x : Str} {d : PyData} (h : Dm K N H v (.tuple [.str x, d])) : ∃ a y, v = .ref a ∧ Tp K N H a [.str x, y] ∧ Dm K N H y d := by
  obtain ⟨a, xs, e, t, al⟩ := h.seq
  cases al with
  | cons h1 r =>
    cases r with
    | cons h2 r =>
      cases r
      cases h1
      exact ⟨a, _, e, t, h2⟩
theorem Dm.strV {v : V} {z : Str} (h : Dm K N H v (.str z)) : v = .str z := by
  cases h
  rfl
/-- the name of the type -/
def tyN : PyData → String
  | .none => "NoneType"
  | .bool _ => "bool"
  | .int _ => "int"
  | .str _ => "str"
  | .list _ => "list"
  | .tuple _ => "tuple"
  | .dict _ => "dict"
theorem Dm.ty {v : V} {d : PyData} (h : Dm K N H v d) : TyX K H v (.type (tyN d)) := by
  cases h with
  | non => exact .base .non
  | bl b => exact .base (.bl b)
  | int i => exact .base (.int i)
  | str x => exact .base (.str x)
  | lst e n a => exact .base (.lst e)
  | tup e n a => exact .base (.tup e)
  | con e a =>
    obtain ⟨o, its, n, h1, h2, _⟩ := e
    exact .kTuple h1 h2
def isTup : PyData → Bool
  | .tuple _ => true
  | _ => false
def isStr : PyData → Bool
  | .str _ => true
  | _ => false
theorem kit_tup (d : PyData) : PySem.W.kitOne K (.type (tyN d)) (.type "tuple") = some (isTup d) := by
  cases d
  · exact kit_ty (a := "NoneType") (b := "tuple") (r := false) (by decide +kernel)
  · exact kit_ty (a := "bool") (b := "tuple") (r := false) (by decide +kernel)
  · exact kit_ty (a := "int") (b := "tuple") (r := false) (by decide +kernel)
  · exact kit_ty (a := "str") (b := "tuple") (r := false) (by decide +kernel)
  · exact kit_ty (a := "list") (b := "tuple") (r := false) (by decide +kernel)
  · exact kit_ty (a := "tuple") (b := "tuple") (r := true) (by decide +kernel)
  · exact kit_ty (a := "dict") (b := "tuple") (r := false) (by decide +kernel)
theorem kit_str (d : PyData) : PySem.W.kitOne K (.type (tyN d)) (.type "str") = some (isStr d) := by
  cases d
  · exact kit_ty (a := "NoneType") (b := "str") (r := false) (by decide +kernel)
  · exact kit_ty (a := "bool") (b := "str") (r := false) (by decide +kernel)
  · exact kit_ty (a := "int") (b := "str") (r := false) (by decide +kernel)
  · exact kit_ty (a := "str") (b := "str") (r := true) (by decide +kernel)
  · exact kit_ty (a := "list") (b := "str") (r := false) (by decide +kernel)
  · exact kit_ty (a := "tuple") (b := "str") (r := false) (by decide +kernel)
  · exact kit_ty (a := "dict") (b := "str") (r := false) (by decide +kernel)
theorem Dm.tupV {v : V} {d : PyData} (h : Dm K N H v d) (e : isTup d = true) : ∃ ds, d = .tuple ds := by
  cases d <;> first | exact ⟨_, rfl⟩ | cases e
end
/-! documents -/
inductive Doc where
  | txt (z : Str)
  | nod (x : Str) (ts : List Doc)
def mOpen (x : Str) : PyData := .tuple [.str "open", .str x]
def mText (z : Str) : PyData := .tuple [.str "text", .str z]
def mClose : PyData := .tuple [.str "close"]
mutual
def Doc.dat : Doc → PyData
  | .txt z => .str z
  | .nod x ts => .tuple [.str x, .tuple (datAll ts)]
def datAll : List Doc → List PyData
  | [] => []
  | t :: ts => t.dat :: datAll ts
end
mutual
def Doc.marks : Doc → List PyData
  | .txt z => [mText z]
  | .nod x ts => mOpen x :: (marksAll ts ++ [mClose])
def marksAll : List Doc → List PyData
  | [] => []
  | t :: ts => t.marks ++ marksAll ts
end
theorem datAll_map : ∀ ts : List Doc, datAll ts = ts.map Doc.dat
  | [] => rfl
  | t :: ts => by
    unfold datAll
    rw [datAll_map ts]
    rfl
theorem datAll_length (ts : List Doc) : (datAll ts).length = ts.length := by rw [datAll_map, List.length_map]
theorem marks_pos (t : Doc) : 0 < t.marks.length := by
  cases t <;> unfold Doc.marks <;> simp
theorem marksAll_app : ∀ ts us : List Doc, marksAll (ts ++ us) = marksAll ts ++ marksAll us
  | [], us => rfl
  | t :: ts, us => by
    show t.marks ++ marksAll (ts ++ us) = (t.marks ++ marksAll ts) ++ marksAll us
    rw [marksAll_app ts us, List.append_assoc]
theorem marksAll_len : ∀ ts : List Doc, ts.length ≤ (marksAll ts).length
  | [] => Nat.le_refl _
  | t :: ts => by
    show ts.length + 1 ≤ (t.marks ++ marksAll ts).length
    have h1 := marks_pos t
    have h2 := marksAll_len ts
    rw [List.length_append]
    omega
end K1

/-! enumerate(t), t a tuple -/
namespace Xr
open PySem PySem.Spec PyProof.Rows L2 HT
theorem meets_enum_one {v : Value} {o : Obj} {H : Heap → Prop} (B : Begins v o H) :
    Meets (Builtin.«enumerate.__new__» ⟨[.type "enumerate", v], []⟩) (fun _ R s => H s.heap ∧
      R (.ok (.ret (.ref (s.heap.push o).objs.size))) { s with heap := (s.heap.push o).push { cls := .type "enumerate", data := .fields #[.none, .bool false, .ref s.heap.objs.size, rawInt 0, .none, .none] } }) :=
  .of_wp fun prog w A R s h => by
    obtain ⟨hp, g, d, tk, os⟩ := s
    obtain ⟨h1, h⟩ := h
    have hsub := sub_enumerate
    have q1 : ∀ {A' : Around} {E : Value → Shared → Prop} {Q : Value → Shared → Prop}, Q (.ref hp.objs.size) ⟨hp.push o, g, d, tk, os⟩ → wpAny (model prog w) A' (pyIter v) Q E ⟨hp, g, d, tk, os⟩ :=
      fun q => B.iter prog w _ _ ⟨hp, g, d, tk, os⟩ _ h1 q
    wp_walk using q1
    refine wpAny_stack_any fun st => wpAny_pure ?_
    split
    · rename_i c _ _ _ _ _
      cases (c == Value.type "enumerate") <;> (wp_walk using q1; exact ⟨_, rfl, h⟩)
    · wp_walk using q1
      exact ⟨_, rfl, h⟩
section
variable {prog : Program} {w : World} {A : Around} {E : Value → Shared → Prop} {s : Shared}
theorem call_enum_one {v : Value} {o : Obj} {H : Heap → Prop} {Q : Value → Shared → Prop} (B : Begins v o H) (h1 : H s.heap)
    (h : ∀ h', IsEnum h' (s.heap.objs.size + 1) s.heap.objs.size 0 .none → h'.get? s.heap.objs.size = some o → h'.objs.size = s.heap.objs.size + 2 →
      (∀ b o, s.heap.get? b = some o → h'.get? b = some o) → Q (.ref (s.heap.objs.size + 1)) { s with heap := h' }) :
    wpAny (model prog w) A (call (.type "enumerate") [v]) Q E s := by
  refine callType_new F.called_enumerate (by decide) (F.typeCall_enumerate_1 _) (F.newCall_enumerate_1 _) (fun obj => F.args_object_init_2 obj _) F.entry_enumerate_new (meets_enum_one B) ⟨h1, ?_⟩
  have hz : (s.heap.push o).objs.size = s.heap.objs.size + 1 := Heap.size_push ..
  show _ ∧ _
  rw [hz]
  have he : IsEnum ((s.heap.push o).push { cls := .type "enumerate", data := .fields #[.none, .bool false, .ref s.heap.objs.size, rawInt 0, .none, .none] }) (s.heap.objs.size + 1) s.heap.objs.size 0 .none := by
    have := Heap.get?_push_size (s.heap.push o) (o := { cls := .type "enumerate", data := .fields #[.none, .bool false, .ref s.heap.objs.size, rawInt 0, .none, .none] }) rfl
    rw [hz] at this
    exact this
  exact ⟨⟨_, he, rfl⟩, h _ he (Heap.get?_push_of_some _ (Heap.get?_push_size _ B.free)) (by rw [Heap.size_push, hz]) fun b o x => Heap.get?_push_of_some _ (Heap.get?_push_of_some _ x)⟩
end
/-- the tuple at a as it stands at each turn, each item in a new pair -/
def IteT (K : PySem.W.Frag) (a : Addr) : It :=
  ⟨fun i H => ∃ (xs : List V) (x : V), SqT K H a xs ∧ xs[i]? = some x, fun i H v H' => ∃ T x, v = .ref T ∧ H T = none ∧ H' = upd H T (.tup [.int (i : Nat), x]) ∧ ∀ xs, SqT K H a xs → xs[i]? = some x, fun i H => ∃ xs : List V, SqT K H a xs ∧ xs.length = i⟩
theorem turn_enumT {P : Program} {w : World} {K : PySem.W.Frag} {elts : List Expr} {kk : Nat} {tpos : Pos} (a e it : Addr) :
    Turn P w K (.Tuple elts kk tpos) (IteT K a) [e, it] e (fun i h => (∃ old, IsEnum h e it ((i : Nat) : Int) old) ∧ h.IsTupleIter it a i ∧ e ≠ it ∧ a ≠ it ∧ e ≠ a) where
  mem := by simp
  obj := fun i h st b hb => by
    obtain ⟨⟨old, he⟩, ⟨o, ho, hc, hd⟩, _⟩ := st
    have e' : b = e ∨ b = it := by simpa using hb
    rcases e' with z | z
    · rw [z]; exact ⟨_, he, fun v q => nomatch q⟩
    · rw [z]; exact ⟨o, ho, fun v q => by rw [hd] at q; cases q⟩
  keep := fun i h h' st k => let ⟨⟨old, he⟩, hi, hne⟩ := st; ⟨⟨old, k e (by simp) _ he⟩, hi.at fun o q => k it (by simp) o q, hne⟩
  item := by
    intro X hP hw hK hc i pins s σ H E I hf st hg
    subst hP hw hK
    obtain ⟨⟨old, he⟩, hit, hne, hai, hea⟩ := st
    obtain ⟨xs, x, hq, hx⟩ := hg
    obtain ⟨its, rv, p, hz⟩ := I.tuple hq
    obtain ⟨u, hu, ru⟩ := rv.get hx
    have hel : e < s.heap.objs.size := Heap.lt_size he
    have hil : it < s.heap.objs.size := by obtain ⟨_, q, _⟩ := hit; exact Heap.lt_size q
    have hin : i < its.toArray.size := by
      rw [List.size_toArray]
      exact (List.getElem?_eq_some_iff.mp hu).1
    refine wpAny_pyNext_enum_itemC (Draws.tuple (prog := X.prog) (w := X.w) (A := X.A.in1) (I.ok.hd hc) it a hai its.toArray) he ⟨hit, p⟩ hin hne (by simp [hne, hea]) fun y h' tk hy ho hst' hT hsz hk => ?_
    have ey : y = u := by
      have z : its[i]? = some y := by simpa using hy
      rw [hu] at z
      exact (Option.some.inj z).symm
    subst ey
    refine ⟨_, rfl, wpAny_letOwnedTupleGo_enum (s := { s with heap := h', toks := tk + 1 }) ho fun h'' he' sb => ?_⟩
    have hT2 : h''.get? s.heap.objs.size = some { cls := .type "tuple", data := .seq #[.int i tk, y] } := (sb.2 _ (Nat.ne_of_gt hel)).trans hT
    have new : ObjOk X.prog X.w (upd H s.heap.objs.size (.tup [.int (i : Nat), x])) h'' s.heap.objs.size (.tup [.int (i : Nat), x]) :=
      ⟨by show 2 ≤ sizeLine; decide, [.int i tk, y], .cons ⟨_, rfl⟩ (.cons ru .nil), ⟨_, hT2, rfl, _, rfl⟩⟩
    have I1 : L2.Inv X pins σ (upd H s.heap.objs.size (.tup [.int (i : Nat), x])) { s with heap := h'', toks := tk + 1 } :=
      I.turnedNew (ch := [e, it]) (fun b ob hb q => (sb.2 b (fun z => hb (by simp [z]))).trans (hk b ob (fun z => hb (by simp [z])) (fun z => hb (by simp [z])) q)) hf (Nat.le_refl _) new
    refine ⟨.ref s.heap.objs.size, _, I1, rfl, ⟨_, x, rfl, I.hok.fresh (Nat.le_refl _), rfl, fun ys hy => ?_⟩, ⟨⟨y, ?_⟩, hst'.1.at fun o q => (sb.2 it (Ne.symm hne)).trans q, hne, hai, hea⟩, fun b hb => ?_⟩
    · obtain ⟨its2, rv2, p2, _⟩ := I.tuple hy
      have e1 : ys = xs := by
        first
          | exact I.tuple_inj hy hq
          | exact (I.tup_inj hy hq)
      rw [e1]
      exact hx
    · have e1 : ((i + 1 : Nat) : Int) = (i : Int) + 1 := by omega
      rw [e1]; exact he'
    · have hb' : b < s.heap.objs.size := by
        have e' : b = e ∨ b = it := by simpa using hb
        rcases e' with z | z
        · rw [z]; exact hel
        · rw [z]; exact hil
      rw [upd_ne (Nat.ne_of_lt hb')]
      exact (hf b hb).1
  done := by
    intro X hP hw hK hc i pins s σ H E I hf st hg
    subst hP hw hK
    obtain ⟨⟨old, he⟩, hit, hne, hai, hea⟩ := st
    obtain ⟨xs, hq, hx⟩ := hg
    obtain ⟨its, rv, p, hz⟩ := I.tuple hq
    obtain ⟨f0, f1, f2, f3, f4, f5⟩ := hf it (by simp)
    have hl := rv.length
    have hsz : its.toArray.size = i := by rw [List.size_toArray]; omega
    have D := Draws.tuple (prog := X.prog) (w := X.w) (A := X.A.in1) (I.ok.hd hc) it a hai its.toArray
    rw [hsz] at D
    exact wpAny_pyNext_enum_endD D he ⟨hit, p⟩ fun h' eb => ⟨rfl, I.turned (t' := s.toks) (fun b o hb q => eb b o hb q) f0 f1 f3 f4 f5⟩
  self := fun A i s Q E st h => let ⟨⟨_, he⟩, _⟩ := st; wpAny_pyIter_enum he h
def iEnumT (K : PySem.W.Frag) (ta : TA) : TI := fun σ H R => ta σ H fun vs H1 => ∃ a xs, vs = [.ref a] ∧ SqT K H1 a xs ∧ R (IteT K a) H1
theorem pi_enumT {X : Cx} {e : Expr} {ta : TA} {p pos tpos : Pos} {elts : List Expr} {kk : Nat} (hg : Gl X "enumerate") (hm : X.mg "enumerate" = none) (ha : PA X [e] ta) (hs : starEach [e] X.env = [(false, eval e X.env)] := by rfl) :
    PI X (.Tuple elts kk tpos) (.Call (.Name "enumerate" p) [e] [] pos) (iEnumT X.K ta) := by
  refine ⟨fun pins s σ H R I h => ?_⟩
  refine Call_ (ld_blt I hg hm boot_enumerate (PyProof.Rows.callWith_type1 (thn (ha.run pos pins s σ H _ I h) fun us s1 ⟨vs, H1, I1, r1, q1⟩ => ?_) hs rfl))
  obtain ⟨a, xs, ex, hq, q⟩ := q1
  subst ex
  cases r1 with
  | cons r rr =>
    cases rr
    cases r
    obtain ⟨its, rv, p', hz⟩ := I1.tuple hq
    have al : a < s1.heap.objs.size := by obtain ⟨_, q, _⟩ := p'; exact Heap.lt_size q
    refine call_enum_one (begins_tuple a its.toArray) p' fun h' he hit hsz hk => wpAny_pyIter_enum he ?_
    have I2 : L2.Inv X pins σ H1 { s1 with heap := h' } := I1.kept (t' := s1.toks) hk
    refine ⟨s1.heap.objs.size + 1, [s1.heap.objs.size + 1, s1.heap.objs.size], _, _, H1, rfl, I2, turn_enumT a (s1.heap.objs.size + 1) s1.heap.objs.size, ⟨⟨.none, he⟩, ⟨_, hit, rfl, rfl⟩, Nat.succ_ne_self _, Nat.ne_of_lt al, Ne.symm (Nat.ne_of_lt (Nat.lt_succ_of_lt al))⟩, fun b hb => ?_, q⟩
    have e' : b = s1.heap.objs.size + 1 ∨ b = s1.heap.objs.size := by simpa using hb
    have hle : s1.heap.objs.size ≤ b := by
      rcases e' with z | z
      · rw [z]; exact Nat.le_add_right _ _
      · rw [z]; exact Nat.le_refl _
    exact I1.fpOk hle (I1.hok.fresh hle)
theorem walk_enumT {K : PySem.W.Frag} {a : Addr} {xs : List V} : Walk (IteT K a) xs.length (fun H => SqT K H a xs) (YPair (fun i => some (.int (i : Nat))) (fun i => xs[i]?)) := by
  refine ⟨fun i _ hi q => ⟨xs, xs[i], q, by simp [hi]⟩, fun _ q => ⟨xs, q, rfl⟩, fun i H v H' _ q y => ?_⟩
  obtain ⟨T, x, h1, h2, h3, h4⟩ := y
  exact ⟨T, .int (i : Nat), x, h1, h2, h3, rfl, h4 xs q⟩
end Xr

/-! del xs[a:] -/
namespace Xr
open PySem PySem.Spec PyProof.Rows L2 HT
def selV (a n : Int) (i : Nat) : Bool := if (1 : Int) > 0 then (decide (a ≤ (i : Int)) && decide ((i : Int) < n) && (((i : Int) - a) % 1 == 0)) else (decide (n < (i : Int)) && decide ((i : Int) ≤ a) && ((a - (i : Int)) % (-1) == 0))
theorem selV_eq (a n : Nat) (i : Nat) : selV (a : Int) (n : Int) i = (decide (a ≤ i) && decide (i < n)) := by
  unfold selV
  rw [if_pos (by decide)]
  have e1 : ((((i : Int) - (a : Int)) % 1 == 0) : Bool) = true := by
    rw [Int.emod_one]
    rfl
  rw [e1, Bool.and_true]
  have e2 : decide ((a : Int) ≤ (i : Int)) = decide (a ≤ i) := decide_eq_decide.mpr (by omega)
  have e3 : decide ((i : Int) < (n : Int)) = decide (i < n) := decide_eq_decide.mpr (by omega)
  rw [e2, e3]
theorem filt_take (a n : Nat) : ∀ (its : List Value) (j : Nat), j + its.length = n → ((its.zipIdx j).filterMap fun (p : Value × Nat) => if selV (a : Int) (n : Int) p.2 = true then none else some p.1) = its.take (a - j)
  | [], j, _ => by simp
  | x :: its, j, h => by
    rw [List.length_cons] at h
    have ih := filt_take a n its (j + 1) (by omega)
    rw [List.zipIdx_cons, List.filterMap_cons, selV_eq]
    by_cases hj : a ≤ j
    · have e : (decide (a ≤ j) && decide (j < n)) = true := by
        rw [decide_eq_true hj, decide_eq_true (by omega)]
        rfl
      simp only [e, if_true]
      rw [ih]
      have e1 : a - j = 0 := by omega
      have e2 : a - (j + 1) = 0 := by omega
      rw [e1, e2]
      rfl
    · have e : (decide (a ≤ j) && decide (j < n)) = false := by
        rw [decide_eq_false hj]
        rfl
      simp only [e, Bool.false_eq_true, if_false]
      rw [ih]
      have e1 : a - j = (a - (j + 1)) + 1 := by omega
      rw [e1]
      rfl
theorem bounds_tail {a n : Nat} (hc : a ≤ n) : sliceBounds (some (a : Int)) none none n = ((a : Int), (n : Int), 1) := by
  simp only [sliceBounds, Option.getD_none]
  have h1 : ¬ ((a : Int) < 0) := by omega
  simp only [h1, if_false, show (1 : Int) > 0 by decide, if_true]
  congr 1
  · omega
section
variable {prog : Program} {w : World} {A : Around} {E : Value → Shared → Prop} {s : Shared}
theorem delItem_tail {l sl : Addr} {items : List Value} {n : Nat} {vl : Value} {a : Nat} {Q : Unit → Shared → Prop}
    (e : s.heap.get? l = some { cls := .type "list", data := .seq items.toArray n }) (hs : s.heap.IsSliceOf sl vl .none .none) (pl : IsPart vl (some (a : Int))) (hc : a ≤ items.length)
    (hsz : items.length ≤ sizeLine) (h : Q () { s with heap := s.heap.update l (Obj.mapSeq fun xs => (xs.toList.zipIdx.filterMap fun (p : Value × Nat) => if selV (a : Int) (items.length : Int) p.2 = true then none else some p.1).toArray) }) :
    wpAny (model prog w) A (delItem (.ref l) (.ref sl)) Q E s := by
  have hl : s.heap.IsList l items.toArray := PySem.IsL.isList e
  obtain ⟨os, hos, hcs, hds⟩ := id hs
  have hTs : s.TypeIs (.ref sl) "slice" := ⟨os, hos, hcs⟩
  have hstep : ¬ ((rawPart none == rawInt 0) = true) := Bool.false_ne_true
  have hz' : ((fun xs : Array Value => (xs.toList.zipIdx.filterMap fun (p : Value × Nat) => if selV (a : Int) (items.length : Int) p.2 = true then none else some p.1).toArray) items.toArray).size ≤ sizeLine + 1 := by
    show ((items.toArray.toList.zipIdx 0).filterMap _).toArray.size ≤ _
    have e0 : items.toArray.toList = items := by simp
    rw [e0, filt_take a items.length items 0 (by omega), List.size_toArray, List.length_take]
    omega
  unfold delItem
  try with_reducible refine wpAny_holding ?_
  first | refine wpAny_bind (wpAny_pure ?_) | skip
  refine wpAny_bind (wpAny_sequenceKey hl.typeIs (by decide) ?_)
  refine wpAny_bind (wpAny_callSpecial?_slot (name := Str.ofString "__delitem__") hl.typeIs F.slot_list_delitem
    (wpAny_call_entry F.slot_list_delitem hl.typeIs F.entry_list_delitem ?_ (F.args_list_delitem_2 _ _)))
  show wpAny _ _ (Builtin.List.listSubscript? (.ref sl) >>= _) _ _ s
  refine wpAny_bind ?_
  unfold Builtin.List.listSubscript?
  refine wpAny_bind (wpAny_specialOf hTs slice_no_index ?_)
  simp only [Option.isNone_none, if_true]
  refine wpAny_pure ?_
  show wpAny _ _ (typeOf (.ref sl) >>= _) _ _ s
  refine wpAny_bind (wpAny_typeOf hTs ?_)
  first
    | rw [if_neg (by decide)]
    | refine PySem.W.KFB.if_not (by decide) ?_
  rw [listSliceParts_eq]
  refine wpAny_bind (wpAny_bind (wpAny_field hos hds (x := .none) rfl (wpAny_bind (wpAny_listPart .none ?_))))
  rw [if_neg hstep]
  refine wpAny_bind (wpAny_field hos hds (x := vl) rfl (wpAny_bind (wpAny_listPart pl ?_)))
  refine wpAny_bind (wpAny_field hos hds (x := .none) rfl (wpAny_bind (wpAny_listPart .none (wpAny_pure ?_))))
  unfold Builtin.List.listItems
  refine wpAny_bind (wpAny_bind (wpAny_seqItems e rfl (wpAny_pure ?_)))
  have hz : items.toArray.size = items.length := by simp
  rw [hz]
  refine wpAny_bind (wpAny_of_eq ((sliceIndices_raw (some (a : Int)) none none items.length (by simp)).trans (congrArg (pure : Int × Int × Int → Sem (Int × Int × Int)) (bounds_tail hc))) ?_)
  refine wpAny_bind (wpAny_rule ?_)
  show wpAny _ _ (updateSeq l (fun xs => (xs.toList.zipIdx.filterMap fun (p : Value × Nat) => if selV (a : Int) (items.length : Int) p.2 = true then none else some p.1).toArray) >>= _) _ _ s
  refine wpAny_bind (wpAny_updateSeq (hz := by rw [hz]; exact hsz) (_hz' := hz') e rfl ?_)
  refine wpAny_bind (wpAny_letGo ?_)
  first
    | exact wpAny_bind (wpAny_pure (wpAny_pure ⟨.none, rfl, wpAny_pure h⟩))
    | exact wpAny_pure ⟨.none, rfl, wpAny_pure h⟩
end
section
variable {X : Cx}
/-- del xs[lo:] of a list -/
def tDelTail (to : TE) (tl : TO) : TS := fun D σ H => to σ H fun x H1 => tl σ H1 fun o H2 => ∃ (l : Addr) (xs : List V) (a : Nat), x = .ref l ∧ o = some (a : Int) ∧ H2 l = some (.lst xs) ∧ a ≤ xs.length ∧ D.nx σ (upd H2 l (.lst (xs.take a)))
theorem ps_delTail {o lo : Expr} {to : TE} {tl : TO} {tpos pos p2 : Pos} (ho : PE X o to) (hl : PO X (some lo) tl) : PS X (.Delete [.Subscript o (.Slice (some lo) none none p2) tpos] pos) (tDelTail to tl) := by
  refine ⟨fun pins s σ H D I h => ?_⟩
  refine wpAny_Delete (wpAny_deleteEach_cons (wpAny_delete_Subscript (thn (ho.run pins s σ H _ I h) fun u s1 ⟨x, H1, I1, rx, q1⟩ => ?_)))
  refine wpAny_Slice (thn (hl.run pins s1 σ H1 _ I1 q1) fun vl s2 ⟨o2, H2, I2, pl, q2⟩ => ?_)
  refine thn (po_none.run pins s2 σ H2 (fun o H3 => o = none ∧ H3 = H2) I2 ⟨rfl, rfl⟩) fun vu s3 ⟨u2, H3, I3, pu, eu, e3⟩ => ?_
  subst eu e3
  refine thn (po_none.run pins s3 σ H3 (fun o H4 => o = none ∧ H4 = H3) I3 ⟨rfl, rfl⟩) fun vs s4 ⟨o4, H4, I4, ps, eo, e4⟩ => ?_
  subst eo e4
  cases pu
  cases ps
  obtain ⟨l, xs, a, rfl, rfl, hH, ha, q⟩ := q2
  cases (show u = Value.ref l from rx)
  have I5 : L2.Inv X pins σ H4 { s4 with heap := s4.heap.push { cls := .type "slice", data := .fields #[vl, .none, .none] } } := I4.kept (t' := s4.toks) fun b ob q => Heap.get?_push_of_some _ q
  obtain ⟨z, its, n, r, hlen, e⟩ := I5.lstM hH
  refine delItem_tail (a := a) e (Heap.IsSliceOf.new _ vl .none .none) pl (by omega) (by omega) ?_
  refine wpAny_deleteEach_nil ⟨σ, _, ?_, q⟩
  refine I5.lset (its' := its.take a) (t' := s4.toks) hH e ?_ (r.take _) ?_
  · show (((its.toArray.toList.zipIdx 0).filterMap fun (p : Value × Nat) => if selV (a : Int) (its.length : Int) p.2 = true then none else some p.1)).toArray = _
    have e0 : its.toArray.toList = its := by simp
    rw [e0, filt_take a its.length its 0 (by omega)]
    rfl
  · rw [List.length_take]
    omega
end
end Xr

/-! defs that ask repr of data: promises kept where no repr runs around -/
namespace Grd
open PySem PySem.Spec PyProof.Rows L2
/-- as FnOk, where no guard stands around -/
structure FnG (P : Program) (w : World) (K : PySem.W.Frag) (mg : Str → Option Value) (base : Heap) (CX : CXT) (k : Nat) (f : Addr) (fd : FuncData) (ps : List Str) (sp : Sp) : Prop where
  len : ∀ vs H Q E, sp vs H Q E → vs.length = ps.length
  run : ∀ (A : Around) (outer : List Env) (s : Shared) (H : Hp) (args : Args) (us : List Value) (vs : List V) (Q : VK) (E : XK), A.guards = some [] → Room k A → Env0 P w K mg base A outer s H → BindsTo s fd args (ps.zip us) → Vals vs us → sp vs H Q E →
    codeAny (model P w) A (.call (.ref f) args) (CR CX outer P w H s Q E) s
section
variable {P : Program} {w : World} {K : PySem.W.Frag} {mg : Str → Option Value} {base : Heap}
theorem fng_of {CX : CXT} {k : Nat} {f : Addr} {x qual : Str} {st : Stmt} {fd : FuncData} {N ps : List Str} {sp : Sp} (F : Fun K x qual st f fd) (S : FnScope N ps (defScope st)) (len : ∀ vs H Q E, sp vs H Q E → vs.length = ps.length)
    (body : ∀ (cdv : Value) (A : Around) (outer : List Env) (s : Shared) (H : Hp) (vs : List V) (Q : VK) (E : XK), A.guards = some [] → Room k (A.deeper (envOfC qual (defScope st) s.heap.objs.size f cdv)) → sp vs H Q E →
      ∃ t, PSs (cxOf CX P w K mg base N qual (defScope st) f cdv A outer s H E) (defBody st) t ∧ t { nx := fun _ H' => Q .non H', rt := Q } (L2.start N vs) H) : FnG P w K mg base CX (k + 1) f fd ps sp := by
  obtain ⟨oc, od, kV, doc, pm, an, cdv, ct, osl, rfl, lk, hcd⟩ := F.ex
  refine ⟨len, fun A outer s H args us vs Q E gd hr e0 hb r hs => ?_⟩
  have lens := len _ _ _ _ hs
  have inK : K.In s.heap := e0.mod.kin.keeps fun b o e => (e0.bs b o e).1
  have free : s.heap.NoLimit := e0.mod.nolimit.keeps fun b o e => (e0.bs b o e).1
  have kinds : ∀ y ∈ ps.zip us, (defScope st).names.lookup y.1 = some .local ∨ ((defScope st).names.lookup y.1 = some .cell ∧ ((cellsFrom (s.heap.objs.size + 1) (defScope st).names []).lookup y.1).isSome = true) := fun ⟨n, v⟩ hy =>
    (S.par n (List.of_mem_zip hy).1).elim (fun q => .inl q) fun q => .inr ⟨q, PySem.W.cellsFrom_some _ _ _ (.inl q)⟩
  refine codeAny_call_function hr.depth (inK _ _ lk) rfl S.co S.gen rfl (PySem.W.codeRec_of inK hcd) (hb _ _ _ _ ?_)
  refine wpAny_newFunctionEnv_cells S.kind kinds fun env he s1 ic => ?_
  subst he
  refine ⟨free.keeps ic.toInCall.keep, codeAny_func ?_⟩
  obtain ⟨t, ht, hq⟩ := body cdv A outer s H vs Q E gd (hr.deeper _) hs
  have I := inv_start (CX := CX) (P := P) (K := K) (mg := mg) (base := base) (E := E) S hr.hd e0 lens r ic
  refine wpAny_mono (ht.run [] s1 _ H _ I hq) (fun fl s' z => ?_) fun e s' z => z
  cases fl with
  | ret u =>
    obtain ⟨v, σ', H', J, rv, q⟩ := z
    exact ⟨v, H', J.os, J.bare, J.base, J.hok, rv, q⟩
  | next =>
    obtain ⟨σ', H', J, q⟩ := z
    exact ⟨V.non, H', J.os, J.bare, J.base, J.hok, rfl, q⟩
  | brk =>
    obtain ⟨_, _, _, q⟩ := z
    exact q.elim
  | cont =>
    obtain ⟨_, _, _, q⟩ := z
    exact q.elim
end
section
variable {X : Cx} {CX : CXT} {k : Nat} {f : Addr} {fd : FuncData} {ps : List Str} {sp : Sp} {dvs : List V} {ds : List Value} {E : XK} {x : Str} {p pos : Pos} {e : Expr} {es : List Expr} {t : TA}
/-- f(e, ..) where f keeps its promise with no guard around -/
theorem pe_callG (F : FnG X.prog X.w X.K X.mg X.base CX k f fd ps sp) (gd : X.A.guards = some []) (hr : Room k X.A) (hg : Gl X x) (hm : X.mg x = some (.ref f)) (kp : PySem.W.keepIn X.K (.ref f) = true) (hb : Binds X.K fd ps []) (hx : Passes CX X E)
    (ha : PA X (e :: es) t) (hdb : (x == ("__debug__" : Str)) = false := by decide) (he : starEach (e :: es) X.env = (false, eval e X.env) :: starEach es X.env := by rfl) (hpl : (backTo pos (starEach es X.env)).any (·.1) = false := by rfl) :
    PE X (.Call (.Name x p) (e :: es) [] pos) (tCall sp [] E t) := by
  refine ⟨fun pins s σ H Q I h => ?_⟩
  refine wpAny_Call_Name_kw (ld_glob I hg hm ?_ hdb)
  refine PySem.W.callWith_K (h₀ := X.base) I.ok.mod.kin kp (thn (ha.run pos pins s σ H _ I h) fun us s1 ⟨vs, H1, I1, r, q⟩ => ⟨I1.kIn, ?_⟩) he hpl
  have q' : sp vs H1 Q E := by
    have z : sp (vs ++ []) H1 Q E := q
    rw [List.append_nil] at z
    exact z
  have lens : us.length = ps.length := by
    rw [← r.length]
    exact F.len _ _ _ _ q'
  have b := hb s1 us I1.kIn (by rw [List.append_nil]; exact lens)
  rw [List.append_nil] at b
  refine wpAny_call (codeAny_mono (F.run X.A X.stack s1 H1 ⟨us, []⟩ us vs Q E gd hr I1.env0 b r q') fun z s' hq => ?_)
  cases z with
  | error e => exact hx pins σ H1 s1 e s' I1 hq
  | ok fl =>
    cases fl with
    | ret u => exact I1.after hq
    | next => exact hq.elim
    | brk => exact hq.elim
    | cont => exact hq.elim
/-- repr of data -/
def rRepr (K : PySem.W.Frag) : List V → Hp → VK → Prop := fun xs H Q => ∃ (v : V) (d : PyData), xs = [v] ∧ Dp K H v d ∧ d.showable = true ∧ d.hasDict = false ∧ d.depth ≤ 150 ∧ d.shown.length ≤ sizeLine ∧ Q (.str d.shown) H
theorem call_repr (gd : X.A.guards = some []) (hu : X.A.units + 200 < cLine) : CallR X (.builtin "repr") (rRepr X.K) := by
  intro pins s σ H xs us Q I r h
  obtain ⟨v, d, rfl, hd, sh, nd, dep, len, q⟩ := h
  obtain ⟨u, rfl, ru⟩ := vals1 r
  cases hd with
  | non =>
    cases (show u = Value.none from ru)
    exact PySem.P.repr_of_none ⟨.str _, H, I.tok _, ⟨_, rfl⟩, q⟩
  | bl b =>
    cases (show u = Value.bool b from ru)
    exact PySem.P.repr_of_bool ⟨.str _, H, I.tok _, ⟨_, rfl⟩, q⟩
  | int i =>
    obtain ⟨t, rfl⟩ := ru
    have hz : i.natAbs.log2 < 1920 := by
      unfold PyData.showable at sh
      exact of_decide_eq_true sh
    exact PySem.P.repr_of_int hz ⟨.str _, H, I.tok _, ⟨_, rfl⟩, q⟩
  | str x =>
    obtain ⟨t, rfl⟩ := ru
    exact PySem.P.repr_of_str ⟨.str _, H, I.tok _, ⟨_, rfl⟩, q⟩ len
  | lst hs ha =>
    obtain ⟨as, rd⟩ := Dp.reads I _ _ _ (Dp.lst hs ha) ru
    cases (show u = Value.ref _ from ru)
    exact repr_of_reads' rd sh (PyData.noDict_hsm nd) gd (by omega) (fun _ _ e => e) (fun h' tk n up => ⟨.str _, H, I.kept (t' := n) up, ⟨_, rfl⟩, q⟩) len
  | tup hs ha =>
    obtain ⟨as, rd⟩ := Dp.reads I _ _ _ (Dp.tup hs ha) ru
    cases (show u = Value.ref _ from ru)
    exact repr_of_reads' rd sh (PyData.noDict_hsm nd) gd (by omega) (fun _ _ e => e) (fun h' tk n up => ⟨.str _, H, I.kept (t' := n) up, ⟨_, rfl⟩, q⟩) len
theorem u200 {k : Nat} {A : Around} (hr : Room k A) : A.units + 200 < cLine := by
  have := hr.un
  omega
end
end Grd

/-! the plain layer: values as data, changing things as numbered cells of a store -/
namespace K3
open PySem L2 Xr K1
/-- a cell, by its number; a thing of the text (a def, a class), by its address -/
abbrev cel (n : Nat) : PyData := .dict [(.int n, .none)]
abbrev glo (a : Addr) : PyData := .dict [(.int a, .bool true)]
/-- a tuple without a dict of its own; an object of an own class that stays; an error that is held -/
abbrev frz (ds : List PyData) : PyData := .dict [(.none, .tuple ds)]
abbrev fldD (fs : List (Str × PyData)) : List (PyData × PyData) := fs.map fun p => (.str p.1, p.2)
abbrev ind (C : Addr) (fs : List (Str × PyData)) : PyData := .dict ((.str "", .int C) :: fldD fs)
abbrev exd (a C dd : Addr) (fs : List (Str × PyData)) : PyData := .dict ((.int a, .int dd) :: (.int C, .none) :: fldD fs)
/-- where the cells stand; what is hidden (lists that are being made) -/
structure Mp where
  c : Nat → Option Addr
  z : Addr → Prop
def Ce (m : Mp) (a : Addr) : Prop := (∃ n, m.c n = some a) ∨ m.z a
mutual
inductive Dv (K : PySem.W.Frag) (m : Mp) (H : Hp) : V → PyData → Prop
  | non : Dv K m H .non .none
  | bl (b : Bool) : Dv K m H (.bl b) (.bool b)
  | int (i : Int) : Dv K m H (.int i) (.int i)
  | str (x : Str) : Dv K m H (.str x) (.str x)
  | lst {a : Addr} {xs : List V} {ds : List PyData} : H a = some (.lst xs) → ¬ Ce m a → DvAll K m H xs ds → Dv K m H (.ref a) (.list ds)
  | tup {a : Addr} {xs : List V} {ds : List PyData} : H a = some (.tup xs) → ¬ Ce m a → DvAll K m H xs ds → Dv K m H (.ref a) (.tuple ds)
  | con {a : Addr} {xs : List V} {ds : List PyData} : KTup K a xs → DvAll K m H xs ds → Dv K m H (.ref a) (.tuple ds)
  | cel {a : Addr} {n : Nat} : m.c n = some a → Dv K m H (.ref a) (cel n)
  | frz {a : Addr} {o : Obj} {xs : List V} {ds : List PyData} : H a = some (.frz o (.tup xs)) → o.dict = none → ¬ Ce m a → DvAll K m H xs ds → Dv K m H (.ref a) (frz ds)
  | ins {a dx C : Addr} {ys : List (Str × V)} {fs : List (Str × PyData)} : H a = some (.ins C dx ys) → H dx = some (.own a) → ¬ Ce m a → ¬ Ce m dx → ys.map Prod.fst = fs.map Prod.fst → DvAll K m H (ys.map Prod.snd) (fs.map Prod.snd) → Dv K m H (.ref a) (ind C fs)
  | exd {a C dd : Addr} {ys : List (Str × V)} {fs : List (Str × PyData)} : H dd = some (.xd ys) → ¬ Ce m dd → ys.map Prod.fst = fs.map Prod.fst → DvAll K m H (ys.map Prod.snd) (fs.map Prod.snd) → Dv K m H (.ref a) (exd a C dd fs)
  | glo (a : Addr) : Dv K m H (.ref a) (glo a)
inductive DvAll (K : PySem.W.Frag) (m : Mp) (H : Hp) : List V → List PyData → Prop
  | nil : DvAll K m H [] []
  | cons {v : V} {vs : List V} {d : PyData} {ds : List PyData} : Dv K m H v d → DvAll K m H vs ds → DvAll K m H (v :: vs) (d :: ds)
end
/-- from one moment to a later one: cells stay cells, all else stays as it is -/
structure Ev0 (m : Mp) (H : Hp) (m' : Mp) (H' : Hp) : Prop where
  ext : ∀ n a, m.c n = some a → m'.c n = some a
  kp : ∀ a o, H a = some o → ¬ Ce m a → H' a = some o ∧ ¬ Ce m' a
/-- the same, and what is hidden stays hidden, as it is -/
structure Evo (m : Mp) (H : Hp) (m' : Mp) (H' : Hp) : Prop extends Ev0 m H m' H' where
  hz : ∀ a, m'.z a ↔ m.z a
  zk : ∀ a o, m.z a → H a = some o → H' a = some o
theorem Ev0.refl {m : Mp} {H : Hp} : Ev0 m H m H := ⟨fun _ _ h => h, fun _ _ h n => ⟨h, n⟩⟩
theorem Ev0.trans {m m1 m2 : Mp} {H H1 H2 : Hp} (a : Ev0 m H m1 H1) (b : Ev0 m1 H1 m2 H2) : Ev0 m H m2 H2 :=
  ⟨fun n q h => b.ext n q (a.ext n q h), fun q o h n => by
    obtain ⟨h1, n1⟩ := a.kp q o h n
    exact b.kp q o h1 n1⟩
theorem Evo.refl {m : Mp} {H : Hp} : Evo m H m H := ⟨Ev0.refl, fun _ => Iff.rfl, fun _ _ _ h => h⟩
theorem Evo.trans {m m1 m2 : Mp} {H H1 H2 : Hp} (a : Evo m H m1 H1) (b : Evo m1 H1 m2 H2) : Evo m H m2 H2 :=
  ⟨a.toEv0.trans b.toEv0, fun q => (b.hz q).trans (a.hz q), fun q o z h => b.zk q o ((a.hz q).mpr z) (a.zk q o z h)⟩
section
variable {K : PySem.W.Frag}
theorem Dv.mono {m m' : Mp} {H H' : Hp} (e : Ev0 m H m' H') (d : PyData) (v : V) (h : Dv K m H v d) : Dv K m' H' v d :=
  Dv.rec (motive_1 := fun v d _ => Dv K m' H' v d) (motive_2 := fun vs ds _ => DvAll K m' H' vs ds) .non .bl .int .str
    (fun h1 n _ a => .lst (e.kp _ _ h1 n).1 (e.kp _ _ h1 n).2 a) (fun h1 n _ a => .tup (e.kp _ _ h1 n).1 (e.kp _ _ h1 n).2 a) (fun h1 _ a => .con h1 a) (fun h1 => .cel (e.ext _ _ h1))
    (fun h1 od n _ a => .frz (e.kp _ _ h1 n).1 od (e.kp _ _ h1 n).2 a)
    (fun h1 h2 n1 n2 q _ a => .ins (e.kp _ _ h1 n1).1 (e.kp _ _ h2 n2).1 (e.kp _ _ h1 n1).2 (e.kp _ _ h2 n2).2 q a)
    (fun h1 n q _ a => .exd (e.kp _ _ h1 n).1 (e.kp _ _ h1 n).2 q a)
    .glo .nil (fun _ _ a b => .cons a b) h
theorem DvAll.mono {m m' : Mp} {H H' : Hp} (e : Ev0 m H m' H') : ∀ (ds : List PyData) (vs : List V), DvAll K m H vs ds → DvAll K m' H' vs ds
  | [], _, h => by
    cases h
    exact .nil
  | d :: ds, _, h => by
    cases h with
    | cons a b => exact .cons (Dv.mono e d _ a) (DvAll.mono e ds _ b)
variable {m m' : Mp} {H H' : Hp}
theorem Dv.up0 {v : V} {d : PyData} (h : Dv K m H v d) (e : Ev0 m H m' H') : Dv K m' H' v d := Dv.mono e _ _ h
theorem Dv.up {v : V} {d : PyData} (h : Dv K m H v d) (e : Evo m H m' H') : Dv K m' H' v d := Dv.mono e.toEv0 _ _ h
theorem DvAll.up0 {vs : List V} {ds : List PyData} (h : DvAll K m H vs ds) (e : Ev0 m H m' H') : DvAll K m' H' vs ds := DvAll.mono e _ _ h
theorem DvAll.up {vs : List V} {ds : List PyData} (h : DvAll K m H vs ds) (e : Evo m H m' H') : DvAll K m' H' vs ds := DvAll.mono e.toEv0 _ _ h
theorem DvAll.app : ∀ {vs ws : List V} {ds es : List PyData}, DvAll K m H vs ds → DvAll K m H ws es → DvAll K m H (vs ++ ws) (ds ++ es)
  | _, _, _, _, .nil, h => h
  | _, _, _, _, .cons a b, h => .cons a (DvAll.app b h)
theorem DvAll.len : ∀ {vs : List V} {ds : List PyData}, DvAll K m H vs ds → vs.length = ds.length
  | _, _, .nil => rfl
  | _, _, .cons _ b => by rw [List.length_cons, List.length_cons, DvAll.len b]
theorem DvAll.getV : ∀ {vs : List V} {ds : List PyData} {i : Nat} {v : V}, DvAll K m H vs ds → vs[i]? = some v → ∃ d, ds[i]? = some d ∧ Dv K m H v d
  | _, _, i, d, .nil, h => by simp at h
  | _, _, 0, d, .cons a b, h => by
    have e := Option.some.inj h
    subst e
    exact ⟨_, rfl, a⟩
  | _, _, i + 1, d, .cons a b, h => DvAll.getV (i := i) b h
theorem DvAll.get : ∀ {vs : List V} {ds : List PyData} {i : Nat} {d : PyData}, DvAll K m H vs ds → ds[i]? = some d → ∃ v, vs[i]? = some v ∧ Dv K m H v d
  | _, _, i, d, .nil, h => by simp at h
  | _, _, 0, d, .cons a b, h => by
    have e := Option.some.inj h
    subst e
    exact ⟨_, rfl, a⟩
  | _, _, i + 1, d, .cons a b, h => DvAll.get (i := i) b h
theorem DvAll.take : ∀ {vs : List V} {ds : List PyData} (i : Nat), DvAll K m H vs ds → DvAll K m H (vs.take i) (ds.take i)
  | _, _, _, .nil => by simp; exact .nil
  | _, _, 0, .cons a b => .nil
  | _, _, i + 1, .cons a b => .cons a (DvAll.take i b)
theorem DvAll.drop : ∀ {vs : List V} {ds : List PyData} (i : Nat), DvAll K m H vs ds → DvAll K m H (vs.drop i) (ds.drop i)
  | _, _, _, .nil => by simp; exact .nil
  | _, _, 0, .cons a b => .cons a b
  | _, _, i + 1, .cons a b => DvAll.drop i b
theorem DvAll.rev : ∀ {vs : List V} {ds : List PyData}, DvAll K m H vs ds → DvAll K m H vs.reverse ds.reverse
  | _, _, .nil => .nil
  | _, _, .cons a b => by
    rw [List.reverse_cons, List.reverse_cons]
    exact (DvAll.rev b).app (.cons a .nil)
theorem DvAll.dropLast {vs : List V} {ds : List PyData} (h : DvAll K m H vs ds) : DvAll K m H vs.dropLast ds.dropLast := by
  rw [List.dropLast_eq_take, List.dropLast_eq_take, h.len]
  exact h.take _
/-- the tuple behind data that is one -/
theorem Dv.seqT {v : V} {ds : List PyData} (h : Dv K m H v (.tuple ds)) : ∃ a xs, v = .ref a ∧ SqT K H a xs ∧ DvAll K m H xs ds := by
  cases h with
  | tup e n a => exact ⟨_, _, rfl, SqT.of e, a⟩
  | con e a => exact ⟨_, _, rfl, e.sq, a⟩
theorem Dv.seqL {v : V} {ds : List PyData} (h : Dv K m H v (.list ds)) : ∃ a xs, v = .ref a ∧ H a = some (.lst xs) ∧ ¬ Ce m a ∧ DvAll K m H xs ds := by
  cases h with
  | lst e n a => exact ⟨_, _, rfl, e, n, a⟩
/-! no cells, no things of the text within -/
mutual
def pureD : PyData → Bool
  | .list ds => pureAll ds
  | .tuple ds => pureAll ds
  | .dict _ => false
  | _ => true
def pureAll : List PyData → Bool
  | [] => true
  | d :: ds => pureD d && pureAll ds
end
mutual
theorem Dv.dm : ∀ (d : PyData) (v : V), pureD d = true → Dv K m H v d → Dm K (Ce m) H v d
  | .none, _, _, h => by
    cases h
    exact .non
  | .bool b, _, _, h => by
    cases h
    exact .bl b
  | .int i, _, _, h => by
    cases h
    exact .int i
  | .str x, _, _, h => by
    cases h
    exact .str x
  | .list ds, _, p, h => by
    cases h with
    | lst h1 n a => exact .lst h1 n (DvAll.dm ds _ p a)
  | .tuple ds, _, p, h => by
    cases h with
    | tup h1 n a => exact .tup h1 n (DvAll.dm ds _ p a)
    | con h1 a => exact .con h1 (DvAll.dm ds _ p a)
  | .dict _, _, p, _ => by cases p
theorem DvAll.dm : ∀ (ds : List PyData) (vs : List V), pureAll ds = true → DvAll K m H vs ds → DmAll K (Ce m) H vs ds
  | [], _, _, h => by
    cases h
    exact .nil
  | d :: ds, _, p, h => by
    have p' : (pureD d && pureAll ds) = true := p
    rw [Bool.and_eq_true] at p'
    cases h with
    | cons a b => exact .cons (Dv.dm d _ p'.1 a) (DvAll.dm ds _ p'.2 b)
end
mutual
theorem Dv.of {N : Addr → Prop} (hn : ∀ a, Ce m a → N a) : ∀ (d : PyData) (v : V), Dm K N H v d → Dv K m H v d
  | .none, _, h => by
    cases h
    exact .non
  | .bool b, _, h => by
    cases h
    exact .bl b
  | .int i, _, h => by
    cases h
    exact .int i
  | .str x, _, h => by
    cases h
    exact .str x
  | .list ds, _, h => by
    cases h with
    | lst h1 n a => exact .lst h1 (fun z => n (hn _ z)) (DvAll.of hn ds _ a)
  | .tuple ds, _, h => by
    cases h with
    | tup h1 n a => exact .tup h1 (fun z => n (hn _ z)) (DvAll.of hn ds _ a)
    | con h1 a => exact .con h1 (DvAll.of hn ds _ a)
  | .dict _, _, h => by cases h
theorem DvAll.of {N : Addr → Prop} (hn : ∀ a, Ce m a → N a) : ∀ (ds : List PyData) (vs : List V), DmAll K N H vs ds → DvAll K m H vs ds
  | [], _, h => by
    cases h
    exact .nil
  | d :: ds, _, h => by
    cases h with
    | cons a b => exact .cons (Dv.of hn d _ a) (DvAll.of hn ds _ b)
end
mutual
theorem layPure : ∀ d : PyData, d.canLay0 = true → pureD d = true
  | .none, _ => rfl
  | .bool _, _ => rfl
  | .int _, _ => rfl
  | .str _, _ => rfl
  | .list ds, h => layPureAll ds (by unfold PyData.canLay0 at h; exact h)
  | .tuple ds, h => layPureAll ds (by unfold PyData.canLay0 at h; exact h)
  | .dict _, h => by unfold PyData.canLay0 at h; cases h
theorem layPureAll : ∀ ds : List PyData, PyData.canLayAll0 ds = true → pureAll ds = true
  | [], _ => rfl
  | d :: ds, h => by
    have e : PyData.canLayAll0 (d :: ds) = (PyData.canLay0 d && PyData.canLayAll0 ds) := by
      conv => lhs; unfold PyData.canLayAll0
    rw [e, Bool.and_eq_true] at h
    show (pureD d && pureAll ds) = true
    rw [layPure d h.1, layPureAll ds h.2]
    rfl
end
end
/-- what a cell holds -/
inductive Cell where
  | lst (ds : List PyData)
  | ins (C : Addr) (fs : List (Str × PyData))
  | dk (kvs : List (L2.Key × PyData))
  | dt (kvs : List (List L2.Key × PyData))
abbrev Sto := Nat → Option Cell
def CellR (K : PySem.W.Frag) (m : Mp) (H : Hp) (a : Addr) : Cell → Prop
  | .lst ds => ∃ xs, H a = some (.lst xs) ∧ DvAll K m H xs ds
  | .ins C fs => ∃ dx gs, H a = some (.ins C dx gs) ∧ gs.map Prod.fst = fs.map Prod.fst ∧ DvAll K m H (gs.map Prod.snd) (fs.map Prod.snd)
  | .dk kvs => ∃ gs, H a = some (.dK gs) ∧ gs.map Prod.fst = kvs.map Prod.fst ∧ DvAll K m H (gs.map Prod.snd) (kvs.map Prod.snd)
  | .dt kvs => ∃ gs, H a = some (.dT gs) ∧ gs.map Prod.fst = kvs.map Prod.fst ∧ DvAll K m H (gs.map Prod.snd) (kvs.map Prod.snd)
theorem CellR.up {K : PySem.W.Frag} {m m' : Mp} {H H' : Hp} {a : Addr} {c : Cell} (h : CellR K m H a c) (e : Ev0 m H m' H') (s : H' a = H a) : CellR K m' H' a c := by
  cases c with
  | lst ds =>
    obtain ⟨xs, h1, h2⟩ := h
    exact ⟨xs, by rw [s]; exact h1, h2.up0 e⟩
  | ins C fs =>
    obtain ⟨dx, gs, h1, h2, h3⟩ := h
    exact ⟨dx, gs, by rw [s]; exact h1, h2, h3.up0 e⟩
  | dk kvs =>
    obtain ⟨gs, h1, h2, h3⟩ := h
    exact ⟨gs, by rw [s]; exact h1, h2, h3.up0 e⟩
  | dt kvs =>
    obtain ⟨gs, h1, h2, h3⟩ := h
    exact ⟨gs, by rw [s]; exact h1, h2, h3.up0 e⟩
/-- the store is held -/
structure Wd (K : PySem.W.Frag) (m : Mp) (H : Hp) (S : Sto) : Prop where
  inj : ∀ i j a, m.c i = some a → m.c j = some a → i = j
  trk : ∀ n a, m.c n = some a → ∃ o, H a = some o
  bd : ∃ b, ∀ n, b ≤ n → m.c n = none
  has : ∀ n c, S n = some c → ∃ a, m.c n = some a ∧ CellR K m H a c
  hid : ∀ n a, m.c n = some a → ¬ m.z a
  ztr : ∀ a, m.z a → ∃ o, H a = some o
def put (S : Sto) (n : Nat) (c : Cell) : Sto := fun k => if k = n then some c else S k
def mput (m : Mp) (n : Nat) (a : Addr) : Mp := ⟨fun k => if k = n then some a else m.c k, m.z⟩
theorem put_same {S : Sto} {n : Nat} {c : Cell} : put S n c n = some c := by unfold put; rw [if_pos rfl]
theorem put_ne {S : Sto} {n k : Nat} {c : Cell} (h : k ≠ n) : put S n c k = S k := by unfold put; rw [if_neg h]
theorem put_put {S : Sto} {n : Nat} {c d : Cell} : put (put S n c) n d = put S n d := by
  funext k; unfold put; split <;> rfl
theorem mput_same {m : Mp} {n : Nat} {a : Addr} : (mput m n a).c n = some a := by unfold mput; simp
theorem mput_ne {m : Mp} {n k : Nat} {a : Addr} (h : k ≠ n) : (mput m n a).c k = m.c k := by unfold mput; simp [h]
section
variable {K : PySem.W.Frag} {m : Mp} {H : Hp} {S : Sto} {p : Addr} {o : HO} {n : Nat} {c : Cell}
theorem Wd.noCe (w : Wd K m H S) (hp : H p = none) : ¬ Ce m p := fun h => by
  rcases h with ⟨n, e⟩ | e
  · obtain ⟨o, h⟩ := w.trk n p e
    rw [hp] at h
    cases h
  · obtain ⟨o, h⟩ := w.ztr p e
    rw [hp] at h
    cases h
theorem Wd.free (w : Wd K m H S) : ∃ n, m.c n = none := let ⟨b, h⟩ := w.bd; ⟨b, h b (Nat.le_refl _)⟩
theorem Wd.sfree (w : Wd K m H S) (h : m.c n = none) : S n = none := by
  cases e : S n with
  | none => rfl
  | some c =>
    obtain ⟨a, ha, _⟩ := w.has n c e
    rw [h] at ha
    cases ha
/-- a new thing that is no cell -/
theorem Evo.new (w : Wd K m H S) (hp : H p = none) : Evo m H m (upd H p o) := ⟨⟨fun _ _ h => h, fun q u e n => ⟨by rw [upd_ne (ne_of_none e hp)]; exact e, n⟩⟩, fun _ => Iff.rfl, fun q u _ e => by rw [upd_ne (ne_of_none e hp)]; exact e⟩
theorem Wd.new (w : Wd K m H S) (hp : H p = none) : Wd K m (upd H p o) S := by
  refine ⟨w.inj, fun n a e => ?_, w.bd, fun n c e => ?_, w.hid, fun a e => ?_⟩
  · obtain ⟨u, h⟩ := w.trk n a e
    exact ⟨u, by rw [upd_ne (ne_of_none h hp)]; exact h⟩
  · obtain ⟨a, h1, h2⟩ := w.has n c e
    obtain ⟨u, h⟩ := w.trk n a h1
    exact ⟨a, h1, h2.up (Evo.new w hp).toEv0 (upd_ne (ne_of_none h hp))⟩
  · obtain ⟨u, h⟩ := w.ztr a e
    exact ⟨u, by rw [upd_ne (ne_of_none h hp)]; exact h⟩
/-- a new cell -/
theorem Evo.alloc (w : Wd K m H S) (hp : H p = none) (hn : m.c n = none) : Evo m H (mput m n p) (upd H p o) := by
  refine ⟨⟨fun k a e => ?_, fun q u e ne => ⟨by rw [upd_ne (ne_of_none e hp)]; exact e, fun h => ?_⟩⟩, fun _ => Iff.rfl, fun q u _ e => by rw [upd_ne (ne_of_none e hp)]; exact e⟩
  · have : k ≠ n := fun z => by rw [z, hn] at e; cases e
    rw [mput_ne this]
    exact e
  · rcases h with ⟨k, ek⟩ | ek
    · by_cases z : k = n
      · rw [z, mput_same] at ek
        have := Option.some.inj ek
        rw [← this, hp] at e
        cases e
      · rw [mput_ne z] at ek
        exact ne (.inl ⟨k, ek⟩)
    · exact ne (.inr ek)
theorem Wd.alloc (w : Wd K m H S) (hp : H p = none) (hn : m.c n = none) (hc : CellR K (mput m n p) (upd H p o) p c) : Wd K (mput m n p) (upd H p o) (put S n c) := by
  have np := w.noCe hp
  refine ⟨fun i j a h1 h2 => ?_, fun k a e => ?_, ?_, fun k d e => ?_, fun k a e za => ?_, fun a e => ?_⟩
  · by_cases zi : i = n
    · by_cases zj : j = n
      · rw [zi, zj]
      · rw [zi, mput_same] at h1
        rw [mput_ne zj] at h2
        exact absurd (.inl ⟨j, by rw [Option.some.inj h1]; exact h2⟩) np
    · by_cases zj : j = n
      · rw [zj, mput_same] at h2
        rw [mput_ne zi] at h1
        exact absurd (.inl ⟨i, by rw [Option.some.inj h2]; exact h1⟩) np
      · rw [mput_ne zi] at h1
        rw [mput_ne zj] at h2
        exact w.inj i j a h1 h2
  · by_cases z : k = n
    · rw [z, mput_same] at e
      rw [← Option.some.inj e]
      exact ⟨o, upd_same⟩
    · rw [mput_ne z] at e
      obtain ⟨u, h⟩ := w.trk k a e
      exact ⟨u, by rw [upd_ne (ne_of_none h hp)]; exact h⟩
  · obtain ⟨b, hb⟩ := w.bd
    refine ⟨max b (n + 1), fun k hk => ?_⟩
    have h1 : b ≤ k := Nat.le_trans (Nat.le_max_left _ _) hk
    have h2 : n + 1 ≤ k := Nat.le_trans (Nat.le_max_right _ _) hk
    rw [mput_ne (by omega)]
    exact hb k h1
  · by_cases z : k = n
    · rw [z, put_same] at e
      rw [← Option.some.inj e]
      exact ⟨p, by rw [z]; exact mput_same, hc⟩
    · rw [put_ne z] at e
      obtain ⟨a, h1, h2⟩ := w.has k d e
      obtain ⟨u, h⟩ := w.trk k a h1
      exact ⟨a, by rw [mput_ne z]; exact h1, h2.up (Evo.alloc w hp hn).toEv0 (upd_ne (ne_of_none h hp))⟩
  · by_cases z : k = n
    · rw [z, mput_same] at e
      rw [← Option.some.inj e] at za
      exact np (.inr za)
    · rw [mput_ne z] at e
      exact w.hid k a e za
  · obtain ⟨u, h⟩ := w.ztr a e
    exact ⟨u, by rw [upd_ne (ne_of_none h hp)]; exact h⟩
/-- a cell changed -/
theorem Evo.set (w : Wd K m H S) (h : m.c n = some p) : Evo m H m (upd H p o) := ⟨⟨fun _ _ e => e, fun q u e ne => ⟨by
  have : q ≠ p := fun z => ne (.inl ⟨n, by rw [z]; exact h⟩)
  rw [upd_ne this]
  exact e, ne⟩⟩, fun _ => Iff.rfl, fun q u z e => by
    have : q ≠ p := fun y => w.hid n p h (by rw [← y]; exact z)
    rw [upd_ne this]
    exact e⟩
theorem Wd.set (w : Wd K m H S) (h : m.c n = some p) (hc : CellR K m (upd H p o) p c) : Wd K m (upd H p o) (put S n c) := by
  have tr : ∀ a, (∃ u, H a = some u) → ∃ u, upd H p o a = some u := fun a ⟨u, e⟩ => by
    by_cases z : a = p
    · rw [z]
      exact ⟨o, upd_same⟩
    · exact ⟨u, by rw [upd_ne z]; exact e⟩
  refine ⟨w.inj, fun k a e => tr a (w.trk k a e), w.bd, fun k d e => ?_, w.hid, fun a e => tr a (w.ztr a e)⟩
  by_cases z : k = n
  · rw [z, put_same] at e
    rw [← Option.some.inj e]
    exact ⟨p, by rw [z]; exact h, hc⟩
  · rw [put_ne z] at e
    obtain ⟨a, h1, h2⟩ := w.has k d e
    have : a ≠ p := fun q => z (w.inj k n p (by rw [← q]; exact h1) h)
    exact ⟨a, h1, h2.up (Evo.set w h).toEv0 (upd_ne this)⟩
/-- hidden: a new list that is being made -/
def hide (m : Mp) (p : Addr) : Mp := ⟨m.c, fun a => a = p ∨ m.z a⟩
def bare (m : Mp) (p : Addr) : Mp := ⟨m.c, fun a => a ≠ p ∧ m.z a⟩
theorem Ev0.hide (w : Wd K m H S) (hp : H p = none) : Ev0 m H (hide m p) (upd H p o) := ⟨fun _ _ h => h, fun q u e ne => ⟨by rw [upd_ne (ne_of_none e hp)]; exact e, fun h => by
  rcases h with h | h | h
  · exact ne (.inl h)
  · rw [h, hp] at e
    cases e
  · exact ne (.inr h)⟩⟩
theorem Wd.hide (w : Wd K m H S) (hp : H p = none) : Wd K (hide m p) (upd H p o) S := by
  have tr : ∀ a, (∃ u, H a = some u) → ∃ u, upd H p o a = some u := fun a ⟨u, e⟩ => ⟨u, by rw [upd_ne (ne_of_none e hp)]; exact e⟩
  refine ⟨w.inj, fun n a e => tr a (w.trk n a e), w.bd, fun n c e => ?_, fun n a e za => ?_, fun a e => ?_⟩
  · obtain ⟨a, h1, h2⟩ := w.has n c e
    obtain ⟨u, h⟩ := w.trk n a h1
    exact ⟨a, h1, h2.up (Ev0.hide w hp) (upd_ne (ne_of_none h hp))⟩
  · rcases za with za | za
    · exact w.noCe hp (.inl ⟨n, by rw [← za]; exact e⟩)
    · exact w.hid n a e za
  · rcases e with e | e
    · rw [e]
      exact ⟨o, upd_same⟩
    · exact tr a (w.ztr a e)
/-- a hidden list goes on -/
theorem Ev0.turn (hz : m.z p) : Ev0 m H m (upd H p o) := ⟨fun _ _ e => e, fun q u e ne => ⟨by
  have : q ≠ p := fun z => ne (.inr (by rw [z]; exact hz))
  rw [upd_ne this]
  exact e, ne⟩⟩
theorem Wd.turn (w : Wd K m H S) (hz : m.z p) : Wd K m (upd H p o) S := by
  have tr : ∀ a, (∃ u, H a = some u) → ∃ u, upd H p o a = some u := fun a ⟨u, e⟩ => by
    by_cases z : a = p
    · rw [z]
      exact ⟨o, upd_same⟩
    · exact ⟨u, by rw [upd_ne z]; exact e⟩
  refine ⟨w.inj, fun n a e => tr a (w.trk n a e), w.bd, fun n c e => ?_, w.hid, fun a e => tr a (w.ztr a e)⟩
  obtain ⟨a, h1, h2⟩ := w.has n c e
  have : a ≠ p := fun z => w.hid n a h1 (by rw [z]; exact hz)
  exact ⟨a, h1, h2.up (Ev0.turn hz) (upd_ne this)⟩
/-- .. and is made -/
theorem Ev0.bare : Ev0 m H (bare m p) H := ⟨fun _ _ e => e, fun q u e ne => ⟨e, fun h => by
  rcases h with h | h
  · exact ne (.inl h)
  · exact ne (.inr h.2)⟩⟩
theorem Wd.bare (w : Wd K m H S) : Wd K (bare m p) H S := by
  refine ⟨w.inj, w.trk, w.bd, fun n c e => ?_, fun n a e za => w.hid n a e za.2, fun a e => w.ztr a e.2⟩
  obtain ⟨a, h1, h2⟩ := w.has n c e
  exact ⟨a, h1, h2.up Ev0.bare rfl⟩
/-- a store with less in it -/
def Ext (S S' : Sto) : Prop := ∀ n c, S n = some c → S' n = some c
theorem Ext.refl : Ext S S := fun _ _ h => h
theorem Ext.trans {S1 S2 : Sto} (a : Ext S S1) (b : Ext S1 S2) : Ext S S2 := fun n c h => b n c (a n c h)
theorem Ext.new (h : S n = none) : Ext S (put S n c) := fun k d e => by
  have : k ≠ n := fun z => by rw [z, h] at e; cases e
  rw [put_ne this]
  exact e
theorem Ext.put {S1 : Sto} (a : Ext S S1) (h : S n = none) : Ext S (put S1 n c) := fun k d e => by
  have : k ≠ n := fun z => by rw [z, h] at e; cases e
  rw [put_ne this]
  exact a k d e
theorem Wd.less {S' : Sto} (w : Wd K m H S') (e : Ext S S') : Wd K m H S := ⟨w.inj, w.trk, w.bd, fun n c h => w.has n c (e n c h), w.hid, w.ztr⟩
theorem Wd.lst (w : Wd K m H S) {ds : List PyData} (e : S n = some (.lst ds)) : ∃ a xs, m.c n = some a ∧ H a = some (.lst xs) ∧ DvAll K m H xs ds := by
  obtain ⟨a, h1, xs, h2, h3⟩ := w.has n _ e
  exact ⟨a, xs, h1, h2, h3⟩
/-- old promises that leave all as it was -/
theorem Evo.same {H' : Hp} (w : Wd K m H S) (s : Same H H') : Evo m H m H' := ⟨⟨fun _ _ h => h, fun q u e n => ⟨s q u e, n⟩⟩, fun _ => Iff.rfl, fun q u _ e => s q u e⟩
theorem Wd.same {H' : Hp} (w : Wd K m H S) (s : Same H H') : Wd K m H' S := by
  have tr : ∀ a, (∃ u, H a = some u) → ∃ u, H' a = some u := fun a ⟨u, e⟩ => ⟨u, s _ _ e⟩
  refine ⟨w.inj, fun n a e => tr a (w.trk n a e), w.bd, fun n c e => ?_, w.hid, fun a e => tr a (w.ztr a e)⟩
  obtain ⟨a, h1, h2⟩ := w.has n c e
  obtain ⟨u, h⟩ := w.trk n a h1
  exact ⟨a, h1, h2.up (Evo.same w s).toEv0 (by rw [h, s _ _ h])⟩
/-- where nothing is held -/
def M0 : Mp := ⟨fun _ => none, fun _ => False⟩
def S0 : Sto := fun _ => none
theorem Wd.zero : Wd K M0 H S0 := ⟨fun _ _ _ h => (nomatch h), fun _ _ h => (nomatch h), ⟨0, fun _ _ => rfl⟩, fun _ _ h => (nomatch h), fun _ _ h => (nomatch h), fun _ h => h.elim⟩
end
end K3

/-! the plain layer: expressions -/
namespace K3
open PySem L2 Xr K1
theorem pe_weak {X : Cx} {e : Expr} {t t' : TE} (h : PE X e t) (i : ∀ σ H Q, t' σ H Q → t σ H Q) : PE X e t' := ⟨fun pins s σ H Q I q => h.run pins s σ H Q I (i _ _ _ q)⟩
theorem pt_weak {X : Cx} {e : Expr} {t t' : TT} (h : PT X e t) (i : ∀ σ H Q, t' σ H Q → t σ H Q) : PT X e t' := ⟨fun pins s σ H Q I q => h.run pins s σ H Q I (i _ _ _ q)⟩
theorem pw_weak {X : Cx} {e : Expr} {t t' : TT} (h : PW X e t) (i : ∀ σ H Q, t' σ H Q → t σ H Q) : PW X e t' := ⟨fun w pins s σ H Q I q => h.run w pins s σ H Q I (i _ _ _ q)⟩
theorem pa_weak {X : Cx} {e : List Expr} {t t' : TA} (h : PA X e t) (i : ∀ σ H Q, t' σ H Q → t σ H Q) : PA X e t' := ⟨fun w pins s σ H Q I q => h.run w pins s σ H Q I (i _ _ _ q)⟩
theorem ps_weak {X : Cx} {e : Stmt} {t t' : TS} (h : PS X e t) (i : ∀ D σ H, t' D σ H → t D σ H) : PS X e t' := ⟨fun pins s σ H Q I q => h.run pins s σ H Q I (i _ _ _ q)⟩
theorem pss_weak {X : Cx} {e : List Stmt} {t t' : TS} (h : PSs X e t) (i : ∀ D σ H, t' D σ H → t D σ H) : PSs X e t' := ⟨fun pins s σ H Q I q => h.run pins s σ H Q I (i _ _ _ q)⟩
abbrev Rho := List (Option PyData)
abbrev DK := PyData → Sto → Prop
abbrev DB := Bool → Sto → Prop
abbrev DL := List PyData → Sto → Prop
abbrev DE := Rho → Sto → DK → Prop
abbrev DT := Rho → Sto → DB → Prop
abbrev DA := Rho → Sto → DL → Prop
def Fr (K : PySem.W.Frag) (m : Mp) (H : Hp) : L2.St → Rho → Prop
  | [], [] => True
  | x :: σ, d :: ρ => (∀ e, d = some e → ∃ v, x = some v ∧ Dv K m H v e) ∧ Fr K m H σ ρ
  | _, _ => False
def gt : Rho → Nat → Option PyData
  | [], _ => none
  | d :: _, 0 => d
  | _ :: ρ, i + 1 => gt ρ i
def st : Rho → Nat → PyData → Rho
  | [], _, _ => []
  | _ :: ρ, 0, e => some e :: ρ
  | d :: ρ, i + 1, e => d :: st ρ i e
/-- forget what stands in a slot -/
def un : Rho → Nat → Rho
  | [], _ => []
  | _ :: ρ, 0 => none :: ρ
  | d :: ρ, i + 1 => d :: un ρ i
def uns (ρ : Rho) : List Nat → Rho
  | [] => ρ
  | v :: vs => un (uns ρ vs) v
section
variable {K : PySem.W.Frag} {m m' : Mp} {H H' : Hp}
theorem Fr.up (e : Evo m H m' H') : ∀ (σ : L2.St) (ρ : Rho), Fr K m H σ ρ → Fr K m' H' σ ρ
  | [], [], _ => trivial
  | x :: σ, d :: ρ, h => ⟨fun z q => by
      obtain ⟨v, h1, h2⟩ := h.1 z q
      exact ⟨v, h1, h2.up e⟩, Fr.up e σ ρ h.2⟩
  | [], _ :: _, h => h.elim
  | _ :: _, [], h => h.elim
theorem Fr.get : ∀ (σ : L2.St) (ρ : Rho) (i : Nat) (d : PyData), Fr K m H σ ρ → gt ρ i = some d → ∃ v, σ[i]? = some (some v) ∧ Dv K m H v d
  | [], [], _, _, _, e => by cases e
  | x :: σ, d :: ρ, 0, e, h, q => by
    obtain ⟨v, h1, h2⟩ := h.1 e q
    exact ⟨v, by rw [h1]; rfl, h2⟩
  | x :: σ, d :: ρ, i + 1, e, h, q => Fr.get σ ρ i e h.2 q
  | [], _ :: _, _, _, h, _ => h.elim
  | _ :: _, [], _, _, h, _ => h.elim
theorem Fr.set {v : V} {e : PyData} (hv : Dv K m H v e) : ∀ (σ : L2.St) (ρ : Rho) (i : Nat), Fr K m H σ ρ → Fr K m H (σ.set i (some v)) (st ρ i e)
  | [], [], _, _ => trivial
  | x :: σ, d :: ρ, 0, h => ⟨fun z q => ⟨v, rfl, by cases q; exact hv⟩, h.2⟩
  | x :: σ, d :: ρ, i + 1, h => ⟨h.1, Fr.set hv σ ρ i h.2⟩
  | [], _ :: _, _, h => h.elim
  | _ :: _, [], _, h => h.elim
theorem Fr.un : ∀ (σ : L2.St) (ρ : Rho) (i : Nat), Fr K m H σ ρ → Fr K m H (σ.set i none) (un ρ i)
  | [], [], _, _ => trivial
  | x :: σ, d :: ρ, 0, h => ⟨fun z q => (nomatch q), h.2⟩
  | x :: σ, d :: ρ, i + 1, h => ⟨h.1, Fr.un σ ρ i h.2⟩
  | [], _ :: _, _, h => h.elim
  | _ :: _, [], _, h => h.elim
theorem Fr.wipe (σ : L2.St) (ρ : Rho) (h : Fr K m H σ ρ) : ∀ vs : List Nat, Fr K m H (wipe σ vs) (uns ρ vs)
  | [] => h
  | v :: vs => Fr.un _ _ _ (Fr.wipe σ ρ h vs)
theorem Fr.none : ∀ (n : Nat), Fr K m H (List.replicate n none) (List.replicate n none)
  | 0 => trivial
  | n + 1 => ⟨fun z q => (nomatch q), Fr.none n⟩
theorem Fr.app : ∀ {vs : List V} {ds : List PyData} {σ : L2.St} {ρ : Rho}, DvAll K m H vs ds → Fr K m H σ ρ → Fr K m H (vs.map some ++ σ) (ds.map some ++ ρ)
  | _, _, _, _, .nil, h => h
  | _, _, _, _, .cons a b, h => ⟨fun z q => by cases q; exact ⟨_, rfl, a⟩, Fr.app b h⟩
end
/-- at a moment of a def that began at B -/
structure At (K : PySem.W.Frag) (B : Mp × Hp) (σ : L2.St) (H : Hp) (ρ : Rho) (S : Sto) (m : Mp) : Prop where
  ev : Evo B.1 B.2 m H
  wd : Wd K m H S
  fr : Fr K m H σ ρ
theorem At.step {K : PySem.W.Frag} {σ : L2.St} {H H' : Hp} {ρ : Rho} {S S' : Sto} {m m' : Mp} (a : At K B σ H ρ S m) (e : Evo m H m' H') (w : Wd K m' H' S') : At K B σ H' ρ S' m' := ⟨a.ev.trans e, w, a.fr.up e⟩
def Kq (K : PySem.W.Frag) (m : Mp) (H : Hp) (Q : VK) (Qd : DK) : Prop := ∀ d S' v H' m', Qd d S' → Evo m H m' H' → Wd K m' H' S' → Dv K m' H' v d → Q v H'
def Kb (K : PySem.W.Frag) (m : Mp) (H : Hp) (Q : Bool → Hp → Prop) (Qd : DB) : Prop := ∀ d S' H' m', Qd d S' → Evo m H m' H' → Wd K m' H' S' → Q d H'
def Ka (K : PySem.W.Frag) (m : Mp) (H : Hp) (Q : List V → Hp → Prop) (Qd : DL) : Prop := ∀ ds S' vs H' m', Qd ds S' → Evo m H m' H' → Wd K m' H' S' → DvAll K m' H' vs ds → Q vs H'
def lft (K : PySem.W.Frag) (t : DE) : TE := fun σ H Q => ∃ B ρ S m Qd, At K B σ H ρ S m ∧ t ρ S Qd ∧ Kq K m H Q Qd
def lftT (K : PySem.W.Frag) (t : DT) : TT := fun σ H Q => ∃ B ρ S m Qd, At K B σ H ρ S m ∧ t ρ S Qd ∧ Kb K m H Q Qd
def lftA (K : PySem.W.Frag) (t : DA) : TA := fun σ H Q => ∃ B ρ S m Qd, At K B σ H ρ S m ∧ t ρ S Qd ∧ Ka K m H Q Qd
abbrev QE (X : Cx) (e : Expr) (t : DE) : Prop := PE X e (lft X.K t)
abbrev QT (X : Cx) (e : Expr) (t : DT) : Prop := PT X e (lftT X.K t)
abbrev QW (X : Cx) (e : Expr) (t : DT) : Prop := PW X e (lftT X.K t)
abbrev QA (X : Cx) (es : List Expr) (t : DA) : Prop := PA X es (lftA X.K t)
theorem Kq.up {K : PySem.W.Frag} {m m' : Mp} {H H' : Hp} {Q : VK} {Qd : DK} (k : Kq K m H Q Qd) (e : Evo m H m' H') : Kq K m' H' Q Qd := fun d S' v H2 m2 q e2 w dv => k d S' v H2 m2 q (e.trans e2) w dv
theorem Kb.up {K : PySem.W.Frag} {m m' : Mp} {H H' : Hp} {Q : Bool → Hp → Prop} {Qd : DB} (k : Kb K m H Q Qd) (e : Evo m H m' H') : Kb K m' H' Q Qd := fun d S' H2 m2 q e2 w => k d S' H2 m2 q (e.trans e2) w
theorem Ka.up {K : PySem.W.Frag} {m m' : Mp} {H H' : Hp} {Q : List V → Hp → Prop} {Qd : DL} (k : Ka K m H Q Qd) (e : Evo m H m' H') : Ka K m' H' Q Qd := fun d S' v H2 m2 q e2 w dv => k d S' v H2 m2 q (e.trans e2) w dv
/-- it is there, and so on -/
def wh {α : Type} : Option α → (α → Prop) → Prop
  | some a, k => k a
  | none, _ => False
theorem wh_some {α : Type} {a : α} {k : α → Prop} : wh (some a) k = k a := rfl
theorem wh_of {α : Type} {o : Option α} {k : α → Prop} (h : wh o k) : ∃ a, o = some a ∧ k a := by
  cases o with
  | none => exact h.elim
  | some a => exact ⟨a, rfl, h⟩
theorem wh_mk {α : Type} {o : Option α} {a : α} {k : α → Prop} (e : o = some a) (h : k a) : wh o k := by
  rw [e]
  exact h
/-! names, constants -/
def dVar (i : Nat) : DE := fun ρ S Q => wh (gt ρ i) fun d => Q d S
def dC (d : PyData) : DE := fun _ S Q => Q d S
section
variable {X : Cx} {e a b c : Expr} {es : List Expr} {t ta tb tc : DE} {pos : Pos}
theorem q_var {i : Nat} (h : PE X e (tVar i)) : QE X e (dVar i) := pe_weak h fun σ H Q ⟨B, ρ, S, m, Qd, at_, q, k⟩ => by
  obtain ⟨d, e1, q⟩ := wh_of q
  obtain ⟨v, e2, dv⟩ := at_.fr.get _ _ _ _ e1
  exact ⟨v, e2, k d S v H m q Evo.refl at_.wd dv⟩
inductive Dc : V → PyData → Prop
  | non : Dc .non .none
  | bl (b : Bool) : Dc (.bl b) (.bool b)
  | int (i : Int) : Dc (.int i) (.int i)
  | str (x : Str) : Dc (.str x) (.str x)
  | glo (a : Addr) : Dc (.ref a) (glo a)
theorem Dc.dv {K : PySem.W.Frag} {m : Mp} {H : Hp} {v : V} {d : PyData} (h : Dc v d) : Dv K m H v d := by
  cases h
  · exact .non
  · exact .bl _
  · exact .int _
  · exact .str _
  · exact .glo _
theorem q_con {v : V} {d : PyData} (h : PE X e (tC v)) (hd : Dc v d) : QE X e (dC d) := pe_weak h fun σ H Q ⟨B, ρ, S, m, Qd, at_, q, k⟩ => k d S v H m q Evo.refl at_.wd hd.dv
theorem q_int {i : Int} {j} : QE X (.Constant (.int i) j pos) (dC (.int i)) := q_con pe_int (.int i)
theorem q_bl {i : Bool} {j} : QE X (.Constant (.bool i) j pos) (dC (.bool i)) := q_con pe_bl (.bl i)
theorem q_str {x : Str} {j} : QE X (.Constant (.str x) j pos) (dC (.str x)) := q_con pe_str (.str x)
theorem q_non {j} : QE X (.Constant .none j pos) (dC .none) := q_con pe_non .non
/-! operators -/
abbrev D2 := PyData → PyData → Sto → DK → Prop
def dOp (f : D2) (ta tb : DE) : DE := fun ρ S Q => ta ρ S fun a S1 => tb ρ S1 fun b S2 => f a b S2 Q
def Snd2 (K : PySem.W.Frag) (f : D2) (r : R2) : Prop := ∀ (m : Mp) (H : Hp) (S : Sto) (x y : V) (a b : PyData) (Q : VK) (Qd : DK), Wd K m H S → Dv K m H x a → Dv K m H y b → f a b S Qd → Kq K m H Q Qd → r x y H Q
theorem bin2 {K : PySem.W.Frag} {f : D2} {r : R2} (hs : Snd2 K f r) {σ : L2.St} {H : Hp} {Q : VK} (h : lft K (dOp f ta tb) σ H Q) : tOp r (lft K ta) (lft K tb) σ H Q := by
  obtain ⟨B, ρ, S, m, Qd, at_, q, k⟩ := h
  refine ⟨B, ρ, S, m, _, at_, q, fun a S1 x H1 m1 q1 e1 w1 d1 => ⟨B, ρ, S1, m1, _, at_.step e1 w1, q1, fun b S2 y H2 m2 q2 e2 w2 d2 => ?_⟩⟩
  exact hs m2 H2 S2 x y a b Q Qd w2 (d1.up e2) d2 q2 ((k.up e1).up e2)
theorem q_op {op : Operator} {r : R2} {f : D2} (ho : OpR X (binaryOp op) r) (hs : Snd2 X.K f r) (ha : QE X a ta) (hb : QE X b tb) : QE X (.BinOp a op b pos) (dOp f ta tb) := pe_weak (pe_op ho ha hb) fun _ _ _ h => bin2 hs h
theorem q_cmp {op : CmpOp} {r : R2} {f : D2} (ho : OpR X (compareOp op) r) (hs : Snd2 X.K f r) (ha : QE X a ta) (hb : QE X b tb) (hm : behindInMarks op b = false) : QE X (.Compare a [op] [b] pos) (dOp f ta tb) := pe_weak (pe_cmpR ho ha hb hm) fun _ _ _ h => bin2 hs h
theorem q_ix {r : R2} {f : D2} (hr : IxR X r) (hs : Snd2 X.K f r) (ha : QE X a ta) (hb : QE X b tb) (hp : PlainIx b) : QE X (.Subscript a b pos) (dOp f ta tb) := pe_weak (pe_ix hr ha hb hp) fun _ _ _ h => bin2 hs h
/-- two ints -/
def dI2 (g : Int → Int → PyData) : D2
  | .int i, .int j, S, Q => Q (g i j) S
  | _, _, _, _ => False
def dI2c (c : Int → Int → Prop) (g : Int → Int → PyData) : D2
  | .int i, .int j, S, Q => c i j ∧ Q (g i j) S
  | _, _, _, _ => False
theorem snd_I2 {K : PySem.W.Frag} {g : Int → Int → PyData} {gv : Int → Int → V} (hg : ∀ i j, Dc (gv i j) (g i j)) : Snd2 K (dI2 g) (rI0 gv) := fun m H S x y a b Q Qd w dx dy h k => by
  cases dx with
  | int i =>
    cases dy with
    | int j => exact ⟨i, j, rfl, rfl, k _ _ _ _ _ h Evo.refl w (hg i j).dv⟩
    | _ => exact False.elim h
  | _ => exact False.elim h
theorem snd_I2c {K : PySem.W.Frag} {c : Int → Int → Prop} {g : Int → Int → PyData} {gv : Int → Int → V} (hg : ∀ i j, Dc (gv i j) (g i j)) : Snd2 K (dI2c c g) (rI c gv) := fun m H S x y a b Q Qd w dx dy h k => by
  cases dx with
  | int i =>
    cases dy with
    | int j => exact ⟨i, j, rfl, rfl, h.1, k _ _ _ _ _ h.2 Evo.refl w (hg i j).dv⟩
    | _ => exact False.elim h
  | _ => exact False.elim h
/-- + -/
def dAdd : D2
  | .int i, .int j, S, Q => Q (.int (i + j)) S
  | .str x, .str y, S, Q => x.length + y.length ≤ 1000000 ∧ Q (.str (x ++ y)) S
  | .tuple xs, .tuple ys, S, Q => xs.length + ys.length ≤ 1000000 ∧ Q (.tuple (xs ++ ys)) S
  | .list xs, .list ys, S, Q => xs.length + ys.length ≤ 1000000 ∧ Q (.list (xs ++ ys)) S
  | _, _, _, _ => False
theorem line_of {n : Nat} (h : n ≤ 1000000) : n ≤ sizeLine := by
  rw [sizeLine_eq]
  omega
/-- what + is, by values -/
def rAdd (K : PySem.W.Frag) : R2 := fun x y H Q => (rI0 (fun i j => .int (i + j)) x y H Q ∨ ∃ i j, x = .str i ∧ y = .str j ∧ i.length + j.length ≤ sizeLine ∧ Q (.str (i ++ j)) H) ∨ (rCatA K x y H Q ∨ rCat x y H Q)
theorem op_addD : OpR X (binaryOp .Add) (rAdd X.K) := (op_add.or op_add_str).or (op_catA.or op_cat)
theorem snd_add {K : PySem.W.Frag} : Snd2 K dAdd (rAdd K) := fun m H S x y a b Q Qd w dx dy h k => by
  cases a <;> cases b <;> first | exact False.elim h | skip
  · cases dx
    cases dy
    exact .inl (.inl ⟨_, _, rfl, rfl, k _ _ _ _ _ h Evo.refl w (.int _)⟩)
  · cases dx
    cases dy
    exact .inl (.inr ⟨_, _, rfl, rfl, line_of h.1, k _ _ _ _ _ h.2 Evo.refl w (.str _)⟩)
  · obtain ⟨p, xs, rfl, hx, nx, ax⟩ := dx.seqL
    obtain ⟨q, ys, rfl, hy, ny, ay⟩ := dy.seqL
    have lx := ax.len
    have ly := ay.len
    refine .inr (.inr ⟨p, q, xs, ys, rfl, rfl, hx, hy, by rw [lx, ly]; exact line_of h.1, fun r hr => ?_⟩)
    exact k _ _ _ _ _ h.2 (Evo.new w hr) (w.new hr) (.lst upd_same (w.noCe hr) ((ax.app ay).up (Evo.new w hr)))
  · obtain ⟨p, xs, rfl, hx, ax⟩ := dx.seqT
    obtain ⟨q, ys, rfl, hy, ay⟩ := dy.seqT
    have lx := ax.len
    have ly := ay.len
    refine .inr (.inl ⟨p, q, xs, ys, rfl, rfl, hx, hy, by rw [lx, ly]; exact line_of h.1, fun e => ?_, fun _ e => ?_, fun _ _ r hr => ?_⟩)
    · subst e
      cases ax
      exact k _ _ _ _ _ h.2 Evo.refl w dy
    · subst e
      cases ay
      refine k _ _ _ _ _ h.2 Evo.refl w ?_
      rw [List.append_nil]
      exact dx
    · exact k _ _ _ _ _ h.2 (Evo.new w hr) (w.new hr) (.tup upd_same (w.noCe hr) ((ax.app ay).up (Evo.new w hr)))
abbrev dSub : D2 := dI2 fun i j => .int (i - j)
abbrev dMul : D2 := dI2c CMul fun i j => .int (i * j)
abbrev dMulW : D2 := dI2c CMulW fun i j => .int (i * j)
abbrev dMod : D2 := dI2c (fun _ j => 0 < j) fun i j => .int (i % j)
abbrev dDiv : D2 := dI2c CDiv fun i j => .int (i / j)
abbrev dDivW : D2 := dI2c CDivW fun i j => .int (i / j)
abbrev dPow : D2 := dI2c CPow fun i j => .int (i ^ j.toNat)
theorem q_add (ha : QE X a ta) (hb : QE X b tb) : QE X (.BinOp a .Add b pos) (dOp dAdd ta tb) := q_op op_addD snd_add ha hb
theorem q_sub (ha : QE X a ta) (hb : QE X b tb) : QE X (.BinOp a .Sub b pos) (dOp dSub ta tb) := q_op op_sub (snd_I2 fun _ _ => .int _) ha hb
theorem q_mul (ha : QE X a ta) (hb : QE X b tb) : QE X (.BinOp a .Mult b pos) (dOp dMul ta tb) := q_op op_mul (snd_I2c fun _ _ => .int _) ha hb
theorem q_mulW (ha : QE X a ta) (hb : QE X b tb) : QE X (.BinOp a .Mult b pos) (dOp dMulW ta tb) := q_op op_mulW (snd_I2c fun _ _ => .int _) ha hb
theorem q_mod (ha : QE X a ta) (hb : QE X b tb) : QE X (.BinOp a .Mod b pos) (dOp dMod ta tb) := q_op op_mod (snd_I2c fun _ _ => .int _) ha hb
theorem q_div (ha : QE X a ta) (hb : QE X b tb) : QE X (.BinOp a .FloorDiv b pos) (dOp dDiv ta tb) := q_op op_fdiv (snd_I2c fun _ _ => .int _) ha hb
theorem q_divW (ha : QE X a ta) (hb : QE X b tb) : QE X (.BinOp a .FloorDiv b pos) (dOp dDivW ta tb) := q_op op_fdivW (snd_I2c fun _ _ => .int _) ha hb
theorem q_pow (ha : QE X a ta) (hb : QE X b tb) : QE X (.BinOp a .Pow b pos) (dOp dPow ta tb) := q_op op_pow (snd_I2c fun _ _ => .int _) ha hb
/-! order of ints -/
theorem snd_lt {K : PySem.W.Frag} {p : Int → Int → Bool} : Snd2 K (dI2 fun i j => .bool (p i j)) (rI0 fun i j => .bl (p i j)) := snd_I2 fun _ _ => .bl _
abbrev dLt : D2 := dI2 fun i j => .bool (decide (i < j))
abbrev dLe : D2 := dI2 fun i j => .bool (decide (i ≤ j))
abbrev dGt : D2 := dI2 fun i j => .bool (decide (j < i))
abbrev dGe : D2 := dI2 fun i j => .bool (decide (j ≤ i))
/-! equality: of plain values at once; else of data -/
def scalD : PyData → Bool
  | .none => true
  | .bool _ => true
  | .int _ => true
  | .str _ => true
  | _ => false
def eqOk (a b : PyData) : Prop := (scalD a = true ∧ scalD b = true ∧ (∀ x y, a = .bool x → b ≠ .int y) ∧ (∀ x y, a = .int x → b ≠ .bool y)) ∨ (SeqAt.shaped a = true ∧ SeqAt.shaped b = true)
def dEq : D2 := fun a b S Q => eqOk a b ∧ Q (.bool (PyData.eqv a b)) S
def dNe : D2 := fun a b S Q => eqOk a b ∧ Q (.bool (!PyData.eqv a b)) S
theorem eq_scal {K : PySem.W.Frag} {m : Mp} {H : Hp} {x y : V} {a b : PyData} (dx : Dv K m H x a) (dy : Dv K m H y b) (h : scalD a = true ∧ scalD b = true ∧ (∀ x y, a = .bool x → b ≠ .int y) ∧ (∀ x y, a = .int x → b ≠ .bool y)) : scal x y = true ∧ decide (x = y) = PyData.eqv a b := by
  obtain ⟨h1, h2, h3, h4⟩ := h
  cases dx with
  | lst _ _ _ => cases h1
  | tup _ _ _ => cases h1
  | con _ _ => cases h1
  | cel _ => cases h1
  | glo _ => cases h1
  | frz => cases h1
  | ins => cases h1
  | exd => cases h1
  | non =>
    cases dy with
    | lst _ _ _ => cases h2
    | tup _ _ _ => cases h2
    | con _ _ => cases h2
    | cel _ => cases h2
    | glo _ => cases h2
    | frz => cases h2
    | ins => cases h2
    | exd => cases h2
    | non => exact ⟨rfl, rfl⟩
    | bl j => exact ⟨rfl, rfl⟩
    | int j => exact ⟨rfl, rfl⟩
    | str j => exact ⟨rfl, rfl⟩
  | bl i =>
    cases dy with
    | lst _ _ _ => cases h2
    | tup _ _ _ => cases h2
    | con _ _ => cases h2
    | cel _ => cases h2
    | glo _ => cases h2
    | frz => cases h2
    | ins => cases h2
    | exd => cases h2
    | non => exact ⟨rfl, rfl⟩
    | bl j => exact ⟨rfl, by
        show decide (V.bl i = V.bl j) = (i == j)
        rw [dec_bl]⟩
    | int j => exact absurd rfl (h3 i j rfl)
    | str j => exact ⟨rfl, rfl⟩
  | int i =>
    cases dy with
    | lst _ _ _ => cases h2
    | tup _ _ _ => cases h2
    | con _ _ => cases h2
    | cel _ => cases h2
    | glo _ => cases h2
    | frz => cases h2
    | ins => cases h2
    | exd => cases h2
    | non => exact ⟨rfl, rfl⟩
    | bl j => exact absurd rfl (h4 i j rfl)
    | int j => exact ⟨rfl, by
        show decide (V.int i = V.int j) = (i == j)
        rw [dec_int]⟩
    | str j => exact ⟨rfl, rfl⟩
  | str i =>
    cases dy with
    | lst _ _ _ => cases h2
    | tup _ _ _ => cases h2
    | con _ _ => cases h2
    | cel _ => cases h2
    | glo _ => cases h2
    | frz => cases h2
    | ins => cases h2
    | exd => cases h2
    | non => exact ⟨rfl, rfl⟩
    | bl j => exact ⟨rfl, rfl⟩
    | int j => exact ⟨rfl, rfl⟩
    | str j => exact ⟨rfl, by
        show decide (V.str i = V.str j) = (i == j)
        by_cases e : i = j
        · subst e; simp
        · rw [decide_eq_false fun z => e (V.str.inj z)]
          exact (beq_eq_false_iff_ne.mpr e).symm⟩
theorem Dv.dp {K : PySem.W.Frag} {m : Mp} {H : Hp} {x : V} {a : PyData} (h : Dv K m H x a) (p : a.canLay0 = true) : Dp K H x a := (Dv.dm a x (layPure a p) h).dp
theorem snd_eq {K : PySem.W.Frag} : Snd2 K dEq (fun x y H Q => rEq x y H Q ∨ rEqD K x y H Q) := fun m H S x y a b Q Qd w dx dy h k => by
  obtain ⟨h1, h2⟩ := h
  rcases h1 with h1 | ⟨h3, h4⟩
  · obtain ⟨e1, e2⟩ := eq_scal dx dy h1
    exact .inl ⟨e1, k _ _ _ _ _ h2 Evo.refl w (by rw [e2]; exact .bl _)⟩
  · exact .inr ⟨a, b, dx.dp (SeqAt.canLay_of_shaped h3), dy.dp (SeqAt.canLay_of_shaped h4), h3, h4, k _ _ _ _ _ h2 Evo.refl w (.bl _)⟩
theorem snd_ne {K : PySem.W.Frag} : Snd2 K dNe (fun x y H Q => rNe x y H Q ∨ rNeD K x y H Q) := fun m H S x y a b Q Qd w dx dy h k => by
  obtain ⟨h1, h2⟩ := h
  rcases h1 with h1 | ⟨h3, h4⟩
  · obtain ⟨e1, e2⟩ := eq_scal dx dy h1
    exact .inl ⟨e1, k _ _ _ _ _ h2 Evo.refl w (by rw [e2]; exact .bl _)⟩
  · exact .inr ⟨a, b, dx.dp (SeqAt.canLay_of_shaped h3), dy.dp (SeqAt.canLay_of_shaped h4), h3, h4, k _ _ _ _ _ h2 Evo.refl w (.bl _)⟩
/-- is None -/
def isNon : PyData → Bool
  | .none => true
  | _ => false
def dIsN : D2 := fun a b S Q => Q (.bool (isNon a)) S
def dNotN : D2 := fun a b S Q => Q (.bool (!isNon a)) S
/-- one sign in a text -/
def dInS : D2
  | .str x, .str z, S, Q => wh (match x.cps.toList with | [c] => some c | _ => none) fun c => Q (.bool (decide (c ∈ z.cps.toList))) S
  | _, _, _, _ => False
def dNotInS : D2
  | .str x, .str z, S, Q => wh (match x.cps.toList with | [c] => some c | _ => none) fun c => Q (.bool (!decide (c ∈ z.cps.toList))) S
  | _, _, _, _ => False
/-! what stands in a sequence -/
def itemsD (S : Sto) : PyData → Option (List PyData)
  | .tuple ds => some ds
  | .list ds => some ds
  | .dict [(.none, .tuple ds)] => some ds
  | .dict [(.int (.ofNat n), .none)] => (S n).bind fun c => match c with
    | .lst ds => some ds
    | _ => none
  | _ => none
theorem items_cel {S : Sto} {n : Nat} {ds : List PyData} (h : S n = some (.lst ds)) : itemsD S (cel n) = some ds := by
  show (S n).bind _ = _
  rw [h]
  rfl
def isTupD : PyData → Bool
  | .tuple _ => true
  | .dict [(.none, .tuple _)] => true
  | _ => false
theorem Dv.items2 {K : PySem.W.Frag} {m : Mp} {H : Hp} {S : Sto} {x : V} {d : PyData} {ds : List PyData} (w : Wd K m H S) (dx : Dv K m H x d) (h : itemsD S d = some ds) : ∃ a xs, x = .ref a ∧ ((isTupD d = false ∧ SqL K H a xs) ∨ (isTupD d = true ∧ SqT K H a xs)) ∧ DvAll K m H xs ds := by
  cases dx with
  | non => cases h
  | bl _ => cases h
  | int _ => cases h
  | str _ => cases h
  | glo _ => cases h
  | ins => cases h
  | exd => cases h
  | frz e _ n a =>
    cases h
    exact ⟨_, _, rfl, .inr ⟨rfl, .inl (.inr ⟨_, e⟩)⟩, a⟩
  | lst e n a =>
    cases h
    exact ⟨_, _, rfl, .inl ⟨rfl, SqL.of e⟩, a⟩
  | tup e n a =>
    cases h
    exact ⟨_, _, rfl, .inr ⟨rfl, SqT.of e⟩, a⟩
  | con e a =>
    cases h
    exact ⟨_, _, rfl, .inr ⟨rfl, e.sq⟩, a⟩
  | @cel a n e =>
    have h' : (S n).bind (fun c => match c with
      | .lst ds => some ds
      | _ => none) = some ds := h
    cases hs : S n with
    | none => rw [hs] at h'; cases h'
    | some c =>
      rw [hs] at h'
      cases c with
      | lst es =>
        cases h'
        obtain ⟨a', xs, e1, e2, e3⟩ := w.lst hs
        rw [e] at e1
        cases e1
        exact ⟨_, _, rfl, .inl ⟨rfl, SqL.of e2⟩, e3⟩
      | ins _ _ => cases h'
      | dk _ => cases h'
      | dt _ => cases h'
theorem Dv.items {K : PySem.W.Frag} {m : Mp} {H : Hp} {S : Sto} {x : V} {d : PyData} {ds : List PyData} (w : Wd K m H S) (dx : Dv K m H x d) (h : itemsD S d = some ds) : ∃ a xs, x = .ref a ∧ (SqL K H a xs ∨ SqT K H a xs) ∧ DvAll K m H xs ds := by
  obtain ⟨a, xs, e, q, al⟩ := dx.items2 w h
  exact ⟨a, xs, e, q.elim (fun z => .inl z.2) (fun z => .inr z.2), al⟩
def isStrD : PyData → Option Str
  | .str z => some z
  | _ => none
/-- o[i] -/
def dIx : D2
  | .str z, .int i, S, Q => z.length ≤ 1000000 ∧ wh (atI z.cps.toList i) fun c => Q (.str ⟨#[c]⟩) S
  | o, .int i, S, Q => wh (itemsD S o) fun ds => wh (atI ds i) fun d => Q d S
  | _, _, _, _ => False
theorem atI_dv {K : PySem.W.Frag} {m : Mp} {H : Hp} {xs : List V} {ds : List PyData} {i : Int} {d : PyData} (h : DvAll K m H xs ds) (e : atI ds i = some d) : ∃ v, atI xs i = some v ∧ Dv K m H v d := by
  unfold atI at e ⊢
  rw [h.len]
  cases hn : ixN ds.length i with
  | none => rw [hn] at e; cases e
  | some j =>
    rw [hn] at e
    exact h.get e
theorem snd_ixs {K : PySem.W.Frag} {m : Mp} {H : Hp} {S : Sto} {x : V} {a : PyData} {i : Int} {Q : VK} {Qd : DK} (w : Wd K m H S) (dx : Dv K m H x a) (h : wh (itemsD S a) fun ds => wh (atI ds i) fun d => Qd d S) (k : Kq K m H Q Qd) : rIx K x (.int i) H Q := by
  obtain ⟨ds, h1, h2⟩ := wh_of h
  obtain ⟨d, h3, h4⟩ := wh_of h2
  obtain ⟨p, xs, rfl, hq, al⟩ := dx.items w h1
  obtain ⟨v, e, dv⟩ := atI_dv al h3
  rcases hq with hq | hq
  · exact .inl ⟨p, xs, i, v, rfl, rfl, hq, e, k _ _ _ _ _ h4 Evo.refl w dv⟩
  · exact .inr (.inl ⟨p, xs, i, v, rfl, rfl, hq, e, k _ _ _ _ _ h4 Evo.refl w dv⟩)
theorem snd_ix {K : PySem.W.Frag} : Snd2 K dIx (rIx K) := fun m H S x y a b Q Qd w dx dy h k => by
  cases b with
  | int i =>
    cases dy
    cases a with
    | str z =>
      cases dx
      obtain ⟨h1, h2⟩ := h
      obtain ⟨c, h3, h4⟩ := wh_of h2
      exact .inr (.inr ⟨z, i, c, rfl, rfl, line_of h1, h3, k _ _ _ _ _ h4 Evo.refl w (.str _)⟩)
    | none => exact snd_ixs w dx h k
    | bool _ => exact snd_ixs w dx h k
    | int _ => exact snd_ixs w dx h k
    | list _ => exact snd_ixs w dx h k
    | tuple _ => exact snd_ixs w dx h k
    | dict _ => exact snd_ixs w dx h k
  | _ => cases a <;> exact False.elim h
theorem q_at (ha : QE X a ta) (hb : QE X b tb) (hp : PlainIx b) : QE X (.Subscript a b pos) (dOp dIx ta tb) := q_ix ix_seq snd_ix ha hb hp
end
end K3

/-! the plain layer: tests, displays, slices, built-in calls -/
namespace K3
open PySem L2 Xr K1
section
variable {X : Cx} {e a b c : Expr} {es rest : List Expr} {t ta tb tc : DE} {u v : DT} {pos : Pos}
/-! comparisons -/
def dIs (g : PyData → Bool) : D2
  | a, .none, S, Q => Q (.bool (g a)) S
  | _, _, _, _ => False
theorem isNon_eq {K : PySem.W.Frag} {m : Mp} {H : Hp} {x : V} {a : PyData} (dx : Dv K m H x a) : decide (x = .non) = isNon a := by
  cases dx <;> rfl
theorem snd_isN {K : PySem.W.Frag} : Snd2 K (dIs isNon) (fun x y H Q => y = .non ∧ Q (.bl (decide (x = .non))) H) := fun m H S x y a b Q Qd w dx dy h k => by
  cases b with
  | none =>
    cases dy
    exact ⟨rfl, k _ _ _ _ _ h Evo.refl w (by rw [isNon_eq dx]; exact .bl _)⟩
  | _ => exact False.elim h
theorem snd_notN {K : PySem.W.Frag} : Snd2 K (dIs fun d => !isNon d) (fun x y H Q => y = .non ∧ Q (.bl (!decide (x = .non))) H) := fun m H S x y a b Q Qd w dx dy h k => by
  cases b with
  | none =>
    cases dy
    exact ⟨rfl, k _ _ _ _ _ h Evo.refl w (by rw [isNon_eq dx]; exact .bl _)⟩
  | _ => exact False.elim h
theorem one_of {l : List Nat} {k : Nat → Prop} (h : wh (match l with | [c] => some c | _ => none) k) : ∃ c, l = [c] ∧ k c := by
  match l, h with
  | [c], h => exact ⟨c, rfl, h⟩
theorem str_one {x : Str} {c : Nat} (h : x.cps.toList = [c]) : x = ⟨#[c]⟩ := by
  obtain ⟨a⟩ := x
  have : a = #[c] := by
    apply Array.ext'
    exact h
  rw [this]
theorem snd_inS {K : PySem.W.Frag} : Snd2 K dInS (fun x y H Q => ∃ (c : Nat) (z : Str), x = .str ⟨#[c]⟩ ∧ y = .str z ∧ Q (.bl (decide (c ∈ z.cps.toList))) H) := fun m H S x y a b Q Qd w dx dy h k => by
  cases a <;> cases b <;> first | exact False.elim h | skip
  cases dx
  cases dy
  obtain ⟨c, e, q⟩ := one_of h
  exact ⟨c, _, by rw [str_one e], rfl, k _ _ _ _ _ q Evo.refl w (.bl _)⟩
theorem snd_notInS {K : PySem.W.Frag} : Snd2 K dNotInS (fun x y H Q => ∃ (c : Nat) (z : Str), x = .str ⟨#[c]⟩ ∧ y = .str z ∧ Q (.bl (!decide (c ∈ z.cps.toList))) H) := fun m H S x y a b Q Qd w dx dy h k => by
  cases a <;> cases b <;> first | exact False.elim h | skip
  cases dx
  cases dy
  obtain ⟨c, e, q⟩ := one_of h
  exact ⟨c, _, by rw [str_one e], rfl, k _ _ _ _ _ q Evo.refl w (.bl _)⟩
/-! tests -/
def boolD : PyData → Option Bool
  | .bool b => some b
  | _ => none
def dB (t : DE) : DT := fun ρ S Q => t ρ S fun d S1 => wh (boolD d) fun b => Q b S1
theorem boolD_dv {K : PySem.W.Frag} {m : Mp} {H : Hp} {x : V} {d : PyData} {b : Bool} (dx : Dv K m H x d) (h : boolD d = some b) : x = .bl b := by
  cases dx <;> first | cases h; rfl | cases h
theorem qt_cmp {op : CmpOp} {r : R2} {f : D2} (ho : OpR X (compareOp op) r) (hs : Snd2 X.K f r) (ha : QE X a ta) (hb : QE X b tb) (hm : behindInMarks op b = false) : QT X (.Compare a [op] [b] pos) (dB (dOp f ta tb)) := pt_weak (pt_cmpR ho ha hb hm) fun σ H Q h => by
  obtain ⟨B, ρ, S, m, Qd, at_, q, k⟩ := h
  refine bin2 (f := f) hs ⟨B, ρ, S, m, _, at_, q, fun d S' v H' m' q' e w dv => ?_⟩
  obtain ⟨b, e1, q1⟩ := wh_of q'
  exact ⟨b, boolD_dv dv e1, k b S' H' m' q1 e w⟩
def truD (S : Sto) : PyData → Option Bool
  | .none => some false
  | .bool b => some b
  | .int i => some (i != 0)
  | .str z => if z.length ≤ 1000000 then some ((z.length : Int) != 0) else none
  | .dict [(.int (.ofNat n), .none)] => (S n).bind fun c => match c with
    | .lst ds => some !ds.isEmpty
    | .dk kvs => some !kvs.isEmpty
    | .dt kvs => none
    | .ins _ _ => none
  | .dict [(.none, .tuple ds)] => some !ds.isEmpty
  | .dict _ => none
  | .list ds => some !ds.isEmpty
  | .tuple ds => some !ds.isEmpty
theorem empty_dv {K : PySem.W.Frag} {m : Mp} {H : Hp} {xs : List V} {ds : List PyData} (h : DvAll K m H xs ds) : (!ds.isEmpty) = !xs.isEmpty := by cases h <;> rfl
theorem tru_dv {K : PySem.W.Frag} {m : Mp} {H : Hp} {S : Sto} {x : V} {d : PyData} {b : Bool} (w : Wd K m H S) (dx : Dv K m H x d) (h : truD S d = some b) : TruV K x H b := by
  cases dx with
  | non => cases h; rfl
  | bl b => cases h; rfl
  | int i => cases h; rfl
  | str z =>
    have h' : (if z.length ≤ 1000000 then some ((z.length : Int) != 0) else none) = some b := h
    split at h'
    · rename_i l
      cases h'
      exact ⟨line_of l, rfl⟩
    · cases h'
  | glo a => cases h
  | ins => cases h
  | exd => cases h
  | frz e _ n al =>
    cases h
    exact .inr (.inl ⟨_, .inl (.inr ⟨_, e⟩), empty_dv al⟩)
  | lst e n al =>
    cases h
    exact .inl ⟨_, SqL.of e, empty_dv al⟩
  | tup e n al =>
    cases h
    exact .inr (.inl ⟨_, SqT.of e, empty_dv al⟩)
  | con e al =>
    cases h
    exact .inr (.inl ⟨_, e.sq, empty_dv al⟩)
  | @cel a n e =>
    cases hs : S n with
    | none =>
      have h' : (S n).bind _ = some b := h
      rw [hs] at h'
      cases h'
    | some c =>
      have h' : (S n).bind _ = some b := h
      rw [hs] at h'
      obtain ⟨a', e1, cr⟩ := w.has n c hs
      rw [e] at e1
      cases e1
      cases c with
      | lst ds =>
        cases h'
        obtain ⟨xs, e2, al⟩ := cr
        exact .inl ⟨xs, SqL.of e2, empty_dv al⟩
      | dk kvs =>
        cases h'
        obtain ⟨gs, e2, e3, al⟩ := cr
        refine .inr (.inr ⟨gs, e2, ?_⟩)
        have l := congrArg List.length e3
        rw [List.length_map, List.length_map] at l
        cases kvs <;> cases gs <;> first | rfl | cases l
      | dt kvs => cases h'
      | ins _ _ => cases h'
def dTru (t : DE) : DT := fun ρ S Q => t ρ S fun d S1 => wh (truD S1 d) fun b => Q b S1
theorem qt_tru (ha : QE X a ta) (he : ∀ whole, isTrue a X.env whole = (do let v ← whole; standAt a.pos; holding [v] (truthy v))) : QT X a (dTru ta) := pt_weak (pt_truth ha he) fun σ H Q h => by
  obtain ⟨B, ρ, S, m, Qd, at_, q, k⟩ := h
  refine ⟨B, ρ, S, m, _, at_, q, fun d S' v H' m' q' e w dv => ?_⟩
  obtain ⟨b, e1, q1⟩ := wh_of q'
  exact ⟨b, tru_dv w dv e1, k b S' H' m' q1 e w⟩
def dtNot (u : DT) : DT := fun ρ S Q => u ρ S fun b S1 => Q (!b) S1
def dtAnd (u v : DT) : DT := fun ρ S Q => u ρ S fun b S1 => if b = true then v ρ S1 Q else Q false S1
def dtOr (u v : DT) : DT := fun ρ S Q => u ρ S fun b S1 => if b = true then Q true S1 else v ρ S1 Q
theorem qt_not (ha : QT X a u) : QT X (.UnaryOp .Not a pos) (dtNot u) := pt_weak (pt_not ha) fun σ H Q ⟨B, ρ, S, m, Qd, at_, q, k⟩ => ⟨B, ρ, S, m, _, at_, q, fun b S' H' m' q e w => k _ S' H' m' q e w⟩
theorem qw_and1 (ha : QT X a u) : QW X (.BoolOp .And [a] pos) u := pw_and1 ha
theorem qw_or1 (ha : QT X a u) : QW X (.BoolOp .Or [a] pos) u := pw_or1 ha
theorem qw_and (ha : QT X a u) (hb : QW X (.BoolOp .And (b :: rest) pos) v) : QW X (.BoolOp .And (a :: b :: rest) pos) (dtAnd u v) := pw_weak (pw_and ha hb) fun σ H Q ⟨B, ρ, S, m, Qd, at_, q, k⟩ => ⟨B, ρ, S, m, _, at_, q, fun b S' H' m' q e w => by
  cases b with
  | true => exact iteT ⟨B, ρ, S', m', Qd, at_.step e w, q, k.up e⟩
  | false => exact iteF (k _ S' H' m' q e w)⟩
theorem qw_or (ha : QT X a u) (hb : QW X (.BoolOp .Or (b :: rest) pos) v) : QW X (.BoolOp .Or (a :: b :: rest) pos) (dtOr u v) := pw_weak (pw_or ha hb) fun σ H Q ⟨B, ρ, S, m, Qd, at_, q, k⟩ => ⟨B, ρ, S, m, _, at_, q, fun b S' H' m' q e w => by
  cases b with
  | true => exact iteT (k _ S' H' m' q e w)
  | false => exact iteF ⟨B, ρ, S', m', Qd, at_.step e w, q, k.up e⟩⟩
/-! and, or, not of bools as values -/
def dAnd (ta tb : DE) : DE := fun ρ S Q => ta ρ S fun d S1 => wh (boolD d) fun c => if c = true then tb ρ S1 Q else Q (.bool false) S1
def dOr (ta tb : DE) : DE := fun ρ S Q => ta ρ S fun d S1 => wh (boolD d) fun c => if c = true then Q (.bool true) S1 else tb ρ S1 Q
def dNot (ta : DE) : DE := fun ρ S Q => ta ρ S fun d S1 => wh (boolD d) fun c => Q (.bool (!c)) S1
theorem q_one {op} (h : QE X a ta) : QE X (.BoolOp op [a] pos) ta := pe_one h
theorem q_and (ha : QE X a ta) (hb : QE X (.BoolOp .And (b :: rest) pos) tb) : QE X (.BoolOp .And (a :: b :: rest) pos) (dAnd ta tb) := pe_weak (pe_and ha hb) fun σ H Q ⟨B, ρ, S, m, Qd, at_, q, k⟩ => ⟨B, ρ, S, m, _, at_, q, fun d S' v H' m' q e w dv => by
  obtain ⟨c, e1, q⟩ := wh_of q
  refine ⟨c, boolD_dv dv e1, ?_⟩
  cases c with
  | true => exact iteT ⟨B, ρ, S', m', Qd, at_.step e w, q, k.up e⟩
  | false => exact iteF (k _ S' _ H' m' q e w (.bl _))⟩
theorem q_or (ha : QE X a ta) (hb : QE X (.BoolOp .Or (b :: rest) pos) tb) : QE X (.BoolOp .Or (a :: b :: rest) pos) (dOr ta tb) := pe_weak (pe_or ha hb) fun σ H Q ⟨B, ρ, S, m, Qd, at_, q, k⟩ => ⟨B, ρ, S, m, _, at_, q, fun d S' v H' m' q e w dv => by
  obtain ⟨c, e1, q⟩ := wh_of q
  refine ⟨c, boolD_dv dv e1, ?_⟩
  cases c with
  | true => exact iteT (k _ S' _ H' m' q e w (.bl _))
  | false => exact iteF ⟨B, ρ, S', m', Qd, at_.step e w, q, k.up e⟩⟩
theorem q_not (ha : QE X a ta) : QE X (.UnaryOp .Not a pos) (dNot ta) := pe_weak (pe_not ha) fun σ H Q ⟨B, ρ, S, m, Qd, at_, q, k⟩ => ⟨B, ρ, S, m, _, at_, q, fun d S' v H' m' q e w dv => by
  obtain ⟨c, e1, q⟩ := wh_of q
  exact ⟨c, boolD_dv dv e1, k _ S' _ H' m' q e w (.bl _)⟩⟩
def dIfE (u : DT) (ta tb : DE) : DE := fun ρ S Q => u ρ S fun c S1 => if c = true then ta ρ S1 Q else tb ρ S1 Q
theorem q_if (hc : QT X c u) (ha : QE X a ta) (hb : QE X b tb) : QE X (.IfExp c a b pos) (dIfE u ta tb) := pe_weak (pe_ifExp hc ha hb) fun σ H Q ⟨B, ρ, S, m, Qd, at_, q, k⟩ => ⟨B, ρ, S, m, _, at_, q, fun c S' H' m' q e w => by
  cases c with
  | true => exact iteT ⟨B, ρ, S', m', Qd, at_.step e w, q, k.up e⟩
  | false => exact iteF ⟨B, ρ, S', m', Qd, at_.step e w, q, k.up e⟩⟩
def dNeg (ta : DE) : DE := fun ρ S Q => ta ρ S fun d S1 => match d with
  | .int i => Q (.int (-i)) S1
  | _ => False
theorem q_neg (ha : QE X a ta) : QE X (.UnaryOp .USub a pos) (dNeg ta) := pe_weak (pe_un un_neg ha) fun σ H Q ⟨B, ρ, S, m, Qd, at_, q, k⟩ => ⟨B, ρ, S, m, _, at_, q, fun d S' v H' m' q e w dv => by
  cases dv <;> first | exact False.elim q | skip
  exact ⟨_, rfl, k _ S' _ H' m' q e w (.int _)⟩⟩
/-! arguments, displays -/
variable {aa : DA}
def dNil : DA := fun _ S Q => Q [] S
def dCons (t : DE) (aa : DA) : DA := fun ρ S Q => t ρ S fun d S1 => aa ρ S1 fun ds S2 => Q (d :: ds) S2
theorem q_nil : QA X [] dNil := pa_weak pa_nil fun σ H Q ⟨B, ρ, S, m, Qd, at_, q, k⟩ => k [] S [] H m q Evo.refl at_.wd .nil
theorem q_cons (he : QE X e t) (ha : QA X es aa) (hs : starEach (e :: es) X.env = (false, eval e X.env) :: starEach es X.env := by rfl) : QA X (e :: es) (dCons t aa) := pa_weak (pa_cons he ha hs) fun σ H Q ⟨B, ρ, S, m, Qd, at_, q, k⟩ =>
  ⟨B, ρ, S, m, _, at_, q, fun d S' v H' m' q e w dv => ⟨B, ρ, S', m', _, at_.step e w, q, fun ds S2 vs H2 m2 q2 e2 w2 dvs => k _ S2 _ H2 m2 q2 (e.trans e2) w2 (.cons (dv.up e2) dvs)⟩⟩
def dTup (aa : DA) : DE := fun ρ S Q => aa ρ S fun ds S1 => ds.length ≤ 1000000 ∧ Q (.tuple ds) S1
def dLst (aa : DA) : DE := fun ρ S Q => aa ρ S fun ds S1 => ds.length ≤ 1000000 ∧ Q (.list ds) S1
def dCel (aa : DA) : DE := fun ρ S Q => aa ρ S fun ds S1 => ds.length ≤ 1000000 ∧ ∀ n, S1 n = none → Q (cel n) (put S1 n (.lst ds))
theorem Kq.newT {K : PySem.W.Frag} {m : Mp} {H : Hp} {S : Sto} {Q : VK} {Qd : DK} {vs : List V} {ds : List PyData} (k : Kq K m H Q Qd) (w : Wd K m H S) (h : DvAll K m H vs ds) (q : Qd (.tuple ds) S) (p : Addr) (hp : H p = none) : Q (.ref p) (upd H p (.tup vs)) :=
  k _ _ _ _ _ q (Evo.new w hp) (w.new hp) (.tup upd_same (w.noCe hp) (h.up (Evo.new w hp)))
theorem Kq.newL {K : PySem.W.Frag} {m : Mp} {H : Hp} {S : Sto} {Q : VK} {Qd : DK} {vs : List V} {ds : List PyData} (k : Kq K m H Q Qd) (w : Wd K m H S) (h : DvAll K m H vs ds) (q : Qd (.list ds) S) (p : Addr) (hp : H p = none) : Q (.ref p) (upd H p (.lst vs)) :=
  k _ _ _ _ _ q (Evo.new w hp) (w.new hp) (.lst upd_same (w.noCe hp) (h.up (Evo.new w hp)))
theorem Kq.newC {K : PySem.W.Frag} {m : Mp} {H : Hp} {S : Sto} {Q : VK} {Qd : DK} {vs : List V} {ds : List PyData} (k : Kq K m H Q Qd) (w : Wd K m H S) (h : DvAll K m H vs ds) (q : ∀ n, S n = none → Qd (cel n) (put S n (.lst ds))) (p : Addr) (hp : H p = none) : Q (.ref p) (upd H p (.lst vs)) := by
  obtain ⟨n, hn⟩ := w.free
  have e := Evo.alloc (o := .lst vs) w hp hn
  exact k _ _ _ _ _ (q n (w.sfree hn)) e (w.alloc hp hn ⟨vs, upd_same, h.up e⟩) (.cel mput_same)
theorem q_tup {x1} (ha : QA X es aa) : QE X (.Tuple es x1 pos) (dTup aa) := pe_weak (pe_tup ha) fun σ H Q ⟨B, ρ, S, m, Qd, at_, q, k⟩ =>
  ⟨B, ρ, S, m, _, at_, q, fun ds S' vs H' m' q e w dv => ⟨by rw [dv.len]; exact line_of q.1, (k.up e).newT w dv q.2⟩⟩
theorem q_lst (ha : QA X es aa) : QE X (.List es pos) (dLst aa) := pe_weak (pe_lst ha) fun σ H Q ⟨B, ρ, S, m, Qd, at_, q, k⟩ =>
  ⟨B, ρ, S, m, _, at_, q, fun ds S' vs H' m' q e w dv => ⟨by rw [dv.len]; exact line_of q.1, (k.up e).newL w dv q.2⟩⟩
theorem q_cel (ha : QA X es aa) : QE X (.List es pos) (dCel aa) := pe_weak (pe_lst ha) fun σ H Q ⟨B, ρ, S, m, Qd, at_, q, k⟩ =>
  ⟨B, ρ, S, m, _, at_, q, fun ds S' vs H' m' q e w dv => ⟨by rw [dv.len]; exact line_of q.1, (k.up e).newC w dv q.2⟩⟩
/-! slices -/
abbrev DO := Rho → Sto → (Option Int → Sto → Prop) → Prop
def lftO (K : PySem.W.Frag) (t : DO) : TO := fun σ H Q => ∃ B ρ S m Qd, At K B σ H ρ S m ∧ t ρ S Qd ∧ ∀ d S' H' m', Qd d S' → Evo m H m' H' → Wd K m' H' S' → Q d H'
theorem po_weak {e : Option Expr} {t t' : TO} (h : PO X e t) (i : ∀ σ H Q, t' σ H Q → t σ H Q) : PO X e t' := ⟨fun pins s σ H Q I q => h.run pins s σ H Q I (i _ _ _ q)⟩
def dNoP : DO := fun _ S Q => Q none S
def dPart (t : DE) : DO := fun ρ S Q => t ρ S fun d S1 => match d with
  | .int i => Q (some i) S1
  | _ => False
abbrev QO (X : Cx) (e : Option Expr) (t : DO) : Prop := PO X e (lftO X.K t)
theorem qo_none : QO X none dNoP := po_weak po_none fun σ H Q ⟨B, ρ, S, m, Qd, at_, q, k⟩ => k none S H m q Evo.refl at_.wd
theorem qo_some (h : QE X e t) : QO X (some e) (dPart t) := po_weak (po_some h) fun σ H Q ⟨B, ρ, S, m, Qd, at_, q, k⟩ => ⟨B, ρ, S, m, _, at_, q, fun d S' v H' m' q e w dv => by
  cases dv <;> first | exact False.elim q | skip
  exact ⟨_, rfl, k _ S' H' m' q e w⟩⟩
def cutD (ds : List PyData) (lo hi : Option Int) : List PyData := (ds.drop (HT.sIx ds.length 0 lo)).take (HT.sIx ds.length ds.length hi - HT.sIx ds.length 0 lo)
theorem cut_dv {K : PySem.W.Frag} {m : Mp} {H : Hp} {xs : List V} {ds : List PyData} {lo hi : Option Int} (h : DvAll K m H xs ds) : DvAll K m H (cutV xs lo hi) (cutD ds lo hi) := by
  unfold cutV cutD
  rw [h.len]
  exact (h.drop _).take _
theorem cut_all {xs : List PyData} {lo hi : Option Int} (h : HT.sIx xs.length 0 lo = 0 ∧ HT.sIx xs.length xs.length hi = xs.length) : cutD xs lo hi = xs := by
  unfold cutD
  rw [h.1, h.2]
  simp
def dSl (new : Bool) : PyData → Option Int → Option Int → Sto → DK → Prop
  | .str z, lo, hi, S, Q => z.length ≤ 1000000 ∧ Q (.str (cutS z lo hi)) S
  | .tuple ds, lo, hi, S, Q => Q (.tuple (cutD ds lo hi)) S
  | .dict [(.none, .tuple _)], _, _, _, _ => False
  | o, lo, hi, S, Q => wh (itemsD S o) fun ds => if new = true then ∀ n, S n = none → Q (cel n) (put S n (.lst (cutD ds lo hi))) else Q (.list (cutD ds lo hi)) S
theorem dict_nt {kvs : List (PyData × PyData)} (n : ∀ ds, kvs ≠ [(.none, .tuple ds)]) : isTupD (.dict kvs) = false := by
  unfold isTupD
  split
  · rename_i e
    cases e
  · rename_i e
    cases e
    exact absurd rfl (n _)
  · rfl
def rSlAny (K : PySem.W.Frag) : V → Option Int → Option Int → Hp → VK → Prop := fun x lo hi H Q => rSlA K x lo hi H Q ∨ (rSlL K x lo hi H Q ∨ rSlS x lo hi H Q)
theorem sl_any : SlR X (rSlAny X.K) := sl_tupA.or (sl_list.or sl_str)
theorem snd_slL {K : PySem.W.Frag} {new : Bool} {m : Mp} {H : Hp} {S : Sto} {x : V} {d : PyData} {lo hi : Option Int} {Q : VK} {Qd : DK} (w : Wd K m H S) (dx : Dv K m H x d) (nt : isTupD d = false) (h : wh (itemsD S d) fun ds => if new = true then ∀ n, S n = none → Qd (cel n) (put S n (.lst (cutD ds lo hi))) else Qd (.list (cutD ds lo hi)) S) (k : Kq K m H Q Qd) : rSlAny K x lo hi H Q := by
  obtain ⟨ds, h1, h2⟩ := wh_of h
  obtain ⟨p, xs, rfl, hq, al⟩ := dx.items2 w h1
  have hl : SqL K H p xs := by
    rcases hq with hq | hq
    · exact hq.2
    · rw [nt] at hq
      cases hq.1
  cases new with
  | false => exact .inr (.inl ⟨p, xs, rfl, hl, k.newL w (cut_dv al) h2⟩)
  | true => exact .inr (.inl ⟨p, xs, rfl, hl, k.newC w (cut_dv al) h2⟩)
end
end K3

/-! the plain layer: slices, built-in calls, methods of texts -/
namespace K3
open PySem L2 Xr K1
section
variable {X : Cx} {e a b c : Expr} {es rest : List Expr} {t ta tb tc : DE} {u v : DT} {pos : Pos} {aa : DA}
theorem snd_sl {K : PySem.W.Frag} {new : Bool} {m : Mp} {H : Hp} {S : Sto} {x : V} {d : PyData} {lo hi : Option Int} {Q : VK} {Qd : DK} (w : Wd K m H S) (dx : Dv K m H x d) (h : dSl new d lo hi S Qd) (k : Kq K m H Q Qd) : rSlAny K x lo hi H Q := by
  cases d with
  | str z =>
    cases dx
    exact .inr (.inr ⟨z, rfl, line_of h.1, k _ _ _ _ _ h.2 Evo.refl w (.str _)⟩)
  | tuple ds =>
    obtain ⟨p, xs, rfl, hx, ax⟩ := dx.seqT
    refine .inl ⟨p, xs, rfl, hx, fun hw => ?_, fun hw => k.newT w (cut_dv ax) h⟩
    rw [ax.len] at hw
    refine k _ _ _ _ _ h Evo.refl w ?_
    rw [cut_all hw]
    exact dx
  | none => exact snd_slL (new := new) w dx rfl h k
  | bool _ => exact snd_slL (new := new) w dx rfl h k
  | int _ => exact snd_slL (new := new) w dx rfl h k
  | list _ => exact snd_slL (new := new) w dx rfl h k
  | dict kvs =>
    by_cases f : ∃ ds, kvs = [(.none, .tuple ds)]
    · obtain ⟨ds, rfl⟩ := f
      exact False.elim h
    · have n : ∀ ds, kvs ≠ [(.none, .tuple ds)] := fun ds z => f ⟨ds, z⟩
      refine snd_slL (new := new) w dx (dict_nt n) ?_ k
      unfold dSl at h
      split at h
      · rename_i e
        cases e
      · rename_i e
        cases e
      · rename_i e
        exact h.elim
      · exact h
def dSlice (new : Bool) (t : DE) (lo hi : DO) : DE := fun ρ S Q => t ρ S fun d S1 => lo ρ S1 fun l S2 => hi ρ S2 fun u S3 => dSl new d l u S3 Q
theorem q_sl (new : Bool) {lo hi : Option Expr} {tl th : DO} {p2 : Pos} (he : QE X e t) (hl : QO X lo tl) (hu : QO X hi th) : QE X (.Subscript e (.Slice lo hi none p2) pos) (dSlice new t tl th) := pe_weak (pe_slice sl_any he hl hu) fun σ H Q ⟨B, ρ, S, m, Qd, at_, q, k⟩ =>
  ⟨B, ρ, S, m, _, at_, q, fun d S1 v H1 m1 q1 e1 w1 dv => ⟨B, ρ, S1, m1, _, at_.step e1 w1, q1, fun l S2 H2 m2 q2 e2 w2 => ⟨B, ρ, S2, m2, _, (at_.step e1 w1).step e2 w2, q2, fun u S3 H3 m3 q3 e3 w3 => snd_sl w3 ((dv.up e2).up e3) q3 (((k.up e1).up e2).up e3)⟩⟩⟩
/-- the other way round -/
def dRevT (t : DE) : DE := fun ρ S Q => t ρ S fun d S1 => match d with
  | .tuple ds => Q (.tuple ds.reverse) S1
  | _ => False
theorem q_revT {k : Nat} {p1 p2 p3 : Pos} (he : QE X e t) : QE X (.Subscript e (.Slice none none (some (.UnaryOp .USub (.Constant (.int 1) k p1) p2)) p3) pos) (dRevT t) := pe_weak (pe_revT he) fun σ H Q ⟨B, ρ, S, m, Qd, at_, q, k⟩ => ⟨B, ρ, S, m, _, at_, q, fun d S' v H' m' q e w dv => by
  cases d <;> first | exact False.elim q | skip
  obtain ⟨p, xs, rfl, hx, ax⟩ := dv.seqT
  exact ⟨p, xs, rfl, hx, (k.up e).newT w ax.rev q⟩⟩
def dRevL (t : DE) : DE := fun ρ S Q => t ρ S fun d S1 => isTupD d = false ∧ wh (itemsD S1 d) fun ds => Q (.list ds.reverse) S1
theorem q_revL {k : Nat} {p1 p2 p3 : Pos} (he : QE X e t) : QE X (.Subscript e (.Slice none none (some (.UnaryOp .USub (.Constant (.int 1) k p1) p2)) p3) pos) (dRevL t) := pe_weak (pe_revL he) fun σ H Q ⟨B, ρ, S, m, Qd, at_, q, k⟩ => ⟨B, ρ, S, m, _, at_, q, fun d S' v H' m' q e w dv => by
  obtain ⟨nt, q⟩ := q
  obtain ⟨ds, h1, h2⟩ := wh_of q
  obtain ⟨p, xs, rfl, hq, al⟩ := dv.items2 w h1
  rcases hq with hq | hq
  · exact ⟨p, xs, rfl, hq.2, (k.up e).newL w al.rev h2⟩
  · rw [nt] at hq
    cases hq.1⟩
/-! calls of built-ins -/
abbrev D1 := List PyData → Sto → DK → Prop
def SndL (K : PySem.W.Frag) (f : D1) (r : List V → Hp → VK → Prop) : Prop := ∀ (m : Mp) (H : Hp) (S : Sto) (xs : List V) (ds : List PyData) (Q : VK) (Qd : DK), Wd K m H S → DvAll K m H xs ds → f ds S Qd → Kq K m H Q Qd → r xs H Q
def dCall (f : D1) (aa : DA) : DE := fun ρ S Q => aa ρ S fun ds S1 => f ds S1 Q
theorem q_callB {id : String} {r : List V → Hp → VK → Prop} {f : D1} {x : Str} {p : Pos} (hc : CallR X (.builtin id) r) (hs : SndL X.K f r) (hg : Gl X x) (hm : X.mg x = none) (hv : bootBuiltins x = some (.builtin id)) (ha : QA X (e :: es) aa) (hn : x ≠ "__name__" := by decide) (hdb : (x == ("__debug__" : Str)) = false := by decide)
    (he : starEach (e :: es) X.env = (false, eval e X.env) :: starEach es X.env := by rfl) (hpl : (backTo pos (starEach es X.env)).any (·.1) = false := by rfl) : QE X (.Call (.Name x p) (e :: es) [] pos) (dCall f aa) :=
  pe_weak (pe_callB hc hg hm hv ha hn hdb he hpl) fun σ H Q ⟨B, ρ, S, m, Qd, at_, q, k⟩ => ⟨B, ρ, S, m, _, at_, q, fun ds S' vs H' m' q e w dv => hs m' H' S' vs ds Q Qd w dv q (k.up e)⟩
theorem q_callTy {T : String} {r : List V → Hp → VK → Prop} {f : D1} {x : Str} {p : Pos} (hc : CallR X (.type T) r) (hs : SndL X.K f r) (hg : Gl X x) (hm : X.mg x = none) (hv : bootBuiltins x = some (.type T)) (ha : QA X (e :: es) aa) (hn : x ≠ "__name__" := by decide) (hdb : (x == ("__debug__" : Str)) = false := by decide)
    (he : starEach (e :: es) X.env = (false, eval e X.env) :: starEach es X.env := by rfl) (hpl : (backTo pos (starEach es X.env)).any (·.1) = false := by rfl) : QE X (.Call (.Name x p) (e :: es) [] pos) (dCall f aa) :=
  pe_weak (pe_callTy hc hg hm hv ha hn hdb he hpl) fun σ H Q ⟨B, ρ, S, m, Qd, at_, q, k⟩ => ⟨B, ρ, S, m, _, at_, q, fun ds S' vs H' m' q e w dv => hs m' H' S' vs ds Q Qd w dv q (k.up e)⟩
theorem dv1 {K : PySem.W.Frag} {m : Mp} {H : Hp} {xs : List V} {d : PyData} (h : DvAll K m H xs [d]) : ∃ x, xs = [x] ∧ Dv K m H x d := by
  cases h with
  | cons a r =>
    cases r
    exact ⟨_, rfl, a⟩
theorem dv2 {K : PySem.W.Frag} {m : Mp} {H : Hp} {xs : List V} {d d' : PyData} (h : DvAll K m H xs [d, d']) : ∃ x y, xs = [x, y] ∧ Dv K m H x d ∧ Dv K m H y d' := by
  cases h with
  | cons a r =>
    obtain ⟨y, rfl, b⟩ := dv1 r
    exact ⟨_, _, rfl, a, b⟩
theorem dv3 {K : PySem.W.Frag} {m : Mp} {H : Hp} {xs : List V} {d d' d'' : PyData} (h : DvAll K m H xs [d, d', d'']) : ∃ x y z, xs = [x, y, z] ∧ Dv K m H x d ∧ Dv K m H y d' ∧ Dv K m H z d'' := by
  cases h with
  | cons a r =>
    obtain ⟨y, z, rfl, b, c⟩ := dv2 r
    exact ⟨_, _, _, rfl, a, b, c⟩
/-- one argument -/
def on1 (f : PyData → Sto → DK → Prop) : D1
  | [d], S, Q => f d S Q
  | _, _, _ => False
theorem snd_1 {K : PySem.W.Frag} {f : PyData → Sto → DK → Prop} {r : List V → Hp → VK → Prop} (h : ∀ (m : Mp) (H : Hp) (S : Sto) (x : V) (d : PyData) (Q : VK) (Qd : DK), Wd K m H S → Dv K m H x d → f d S Qd → Kq K m H Q Qd → r [x] H Q) : SndL K (on1 f) r := fun m H S xs ds Q Qd w dv q k => by
  match ds, dv, q with
  | [d], dv, q =>
    obtain ⟨x, rfl, dx⟩ := dv1 dv
    exact h m H S x d Q Qd w dx q k
/-- len -/
def dLen : PyData → Sto → DK → Prop
  | .str z, S, Q => z.length ≤ 1000000 ∧ Q (.int z.length) S
  | o, S, Q => wh (itemsD S o) fun ds => Q (.int ds.length) S
def rLenA (K : PySem.W.Frag) : List V → Hp → VK → Prop := fun xs H Q => (∃ p ys, xs = [.ref p] ∧ (SqL K H p ys ∨ SqT K H p ys) ∧ Q (.int ys.length) H) ∨ ∃ z, xs = [.str z] ∧ z.length ≤ sizeLine ∧ Q (.int z.length) H
theorem call_lenA : CallR X (.builtin "len") (rLenA X.K) := call_len_seq.or call_len_str
theorem snd_lens {K : PySem.W.Frag} {m : Mp} {H : Hp} {S : Sto} {x : V} {d : PyData} {Q : VK} {Qd : DK} (w : Wd K m H S) (dx : Dv K m H x d) (h : wh (itemsD S d) fun ds => Qd (.int ds.length) S) (k : Kq K m H Q Qd) : rLenA K [x] H Q := by
  obtain ⟨ds, h1, h2⟩ := wh_of h
  obtain ⟨p, xs, rfl, hq, al⟩ := dx.items w h1
  exact .inl ⟨p, xs, rfl, hq, k _ _ _ _ _ h2 Evo.refl w (by rw [al.len]; exact .int _)⟩
theorem snd_len {K : PySem.W.Frag} : SndL K (on1 dLen) (rLenA K) := snd_1 fun m H S x d Q Qd w dx h k => by
  cases d with
  | str z =>
    cases dx
    exact .inr ⟨z, rfl, line_of h.1, k _ _ _ _ _ h.2 Evo.refl w (.int _)⟩
  | none => exact snd_lens w dx h k
  | bool _ => exact snd_lens w dx h k
  | int _ => exact snd_lens w dx h k
  | list _ => exact snd_lens w dx h k
  | tuple _ => exact snd_lens w dx h k
  | dict _ => exact snd_lens w dx h k
theorem q_len {p : Pos} (hm : X.mg "len" = none) (hg : Gl X "len") (ha : QA X [e] aa) (he : starEach [e] X.env = (false, eval e X.env) :: starEach [] X.env := by rfl) : QE X (.Call (.Name "len" p) [e] [] pos) (dCall (on1 dLen) aa) :=
  q_callB call_lenA snd_len hg hm PySem.boot_len ha (by decide) (by decide) he rfl
/-- tuple -/
def dTupOf : PyData → Sto → DK → Prop
  | .dict [(.none, .tuple ds)], S, Q => Q (frz ds) S
  | o, S, Q => wh (itemsD S o) fun ds => Q (.tuple ds) S
theorem snd_tup {K : PySem.W.Frag} : SndL K (on1 dTupOf) (fun xs H Q => ∃ p ys, xs = [.ref p] ∧ ((SqL K H p ys ∧ ∀ l, H l = none → Q (.ref l) (upd H l (.tup ys))) ∨ (SqT K H p ys ∧ Q (.ref p) H))) := snd_1 fun m H S x d Q Qd w dx h k => by
  by_cases f : ∃ ds, d = frz ds
  · obtain ⟨ds, rfl⟩ := f
    obtain ⟨p, xs, rfl, hq, al⟩ := dx.items2 (S := S) w rfl
    rcases hq with ⟨ht, hq⟩ | ⟨ht, hq⟩
    · cases ht
    · exact ⟨p, xs, rfl, .inr ⟨hq, k _ _ _ _ _ h Evo.refl w dx⟩⟩
  have h : wh (itemsD S d) fun ds => Qd (.tuple ds) S := by
    unfold dTupOf at h
    split at h
    · exact absurd ⟨_, rfl⟩ f
    · exact h
  obtain ⟨ds, h1, h2⟩ := wh_of h
  obtain ⟨p, xs, rfl, hq, al⟩ := dx.items2 w h1
  refine ⟨p, xs, rfl, ?_⟩
  rcases hq with ⟨_, hq⟩ | ⟨ht, hq⟩
  · exact .inl ⟨hq, k.newT w al h2⟩
  · refine .inr ⟨hq, k _ _ _ _ _ h2 Evo.refl w ?_⟩
    cases d with
    | tuple es =>
      cases h1
      exact dx
    | dict kvs =>
      rw [dict_nt fun ds z => f ⟨ds, by rw [z]⟩] at ht
      cases ht
    | _ => cases ht
theorem q_tuple {p : Pos} (hm : X.mg "tuple" = none) (hg : Gl X "tuple") (ha : QA X [e] aa) (he : starEach [e] X.env = (false, eval e X.env) :: starEach [] X.env := by rfl) : QE X (.Call (.Name "tuple" p) [e] [] pos) (dCall (on1 dTupOf) aa) :=
  q_callTy call_tuple_of snd_tup hg hm (by decide +kernel) ha (by decide) (by decide) he rfl
/-- list -/
def dLstOf : PyData → Sto → DK → Prop := fun o S Q => wh (itemsD S o) fun ds => Q (.list ds) S
def dCelOf : PyData → Sto → DK → Prop := fun o S Q => wh (itemsD S o) fun ds => ∀ n, S n = none → Q (cel n) (put S n (.lst ds))
abbrev rLstOf (K : PySem.W.Frag) : List V → Hp → VK → Prop := fun xs H Q => ∃ p ys, xs = [.ref p] ∧ (SqL K H p ys ∨ SqT K H p ys) ∧ ∀ l, H l = none → Q (.ref l) (upd H l (.lst ys))
theorem snd_lst {K : PySem.W.Frag} : SndL K (on1 dLstOf) (rLstOf K) := snd_1 fun m H S x d Q Qd w dx h k => by
  obtain ⟨ds, h1, h2⟩ := wh_of h
  obtain ⟨p, xs, rfl, hq, al⟩ := dx.items w h1
  exact ⟨p, xs, rfl, hq, k.newL w al h2⟩
theorem snd_cel {K : PySem.W.Frag} : SndL K (on1 dCelOf) (rLstOf K) := snd_1 fun m H S x d Q Qd w dx h k => by
  obtain ⟨ds, h1, h2⟩ := wh_of h
  obtain ⟨p, xs, rfl, hq, al⟩ := dx.items w h1
  exact ⟨p, xs, rfl, hq, k.newC w al h2⟩
theorem q_list {p : Pos} (hm : X.mg "list" = none) (hg : Gl X "list") (ha : QA X [e] aa) (he : starEach [e] X.env = (false, eval e X.env) :: starEach [] X.env := by rfl) : QE X (.Call (.Name "list" p) [e] [] pos) (dCall (on1 dLstOf) aa) :=
  q_callTy call_list_of snd_lst hg hm (by decide +kernel) ha (by decide) (by decide) he rfl
theorem q_listC {p : Pos} (hm : X.mg "list" = none) (hg : Gl X "list") (ha : QA X [e] aa) (he : starEach [e] X.env = (false, eval e X.env) :: starEach [] X.env := by rfl) : QE X (.Call (.Name "list" p) [e] [] pos) (dCall (on1 dCelOf) aa) :=
  q_callTy call_list_of snd_cel hg hm (by decide +kernel) ha (by decide) (by decide) he rfl
/-- int of an int or bool; abs -/
def dIntOf : PyData → Sto → DK → Prop
  | .int i, S, Q => Q (.int i) S
  | .bool b, S, Q => Q (.int (if b = true then 1 else 0)) S
  | _, _, _ => False
theorem snd_int {K : PySem.W.Frag} : SndL K (on1 dIntOf) (fun xs H Q => (∃ i, xs = [.int i] ∧ Q (.int i) H) ∨ ∃ k, xs = [.bl k] ∧ Q (.int (if k then 1 else 0)) H) := snd_1 fun m H S x d Q Qd w dx h k => by
  cases d <;> first | exact False.elim h | skip
  · cases dx
    exact .inr ⟨_, rfl, k _ _ _ _ _ h Evo.refl w (.int _)⟩
  · cases dx
    exact .inl ⟨_, rfl, k _ _ _ _ _ h Evo.refl w (.int _)⟩
theorem q_int1 {p : Pos} (hm : X.mg "int" = none) (hg : Gl X "int") (ha : QA X [e] aa) (he : starEach [e] X.env = (false, eval e X.env) :: starEach [] X.env := by rfl) : QE X (.Call (.Name "int" p) [e] [] pos) (dCall (on1 dIntOf) aa) :=
  q_callTy call_int1 snd_int hg hm (by decide +kernel) ha (by decide) (by decide) he rfl
def dAbs : PyData → Sto → DK → Prop
  | .int i, S, Q => Q (.int (if i < 0 then -i else i)) S
  | _, _, _ => False
theorem snd_abs {K : PySem.W.Frag} : SndL K (on1 dAbs) (fun xs H Q => ∃ i, xs = [.int i] ∧ Q (.int (if i < 0 then -i else i)) H) := snd_1 fun m H S x d Q Qd w dx h k => by
  cases d <;> first | exact False.elim h | skip
  cases dx
  exact ⟨_, rfl, k _ _ _ _ _ h Evo.refl w (.int _)⟩
theorem q_abs {p : Pos} (hm : X.mg "abs" = none) (hg : Gl X "abs") (ha : QA X [e] aa) (he : starEach [e] X.env = (false, eval e X.env) :: starEach [] X.env := by rfl) : QE X (.Call (.Name "abs" p) [e] [] pos) (dCall (on1 dAbs) aa) :=
  q_callB call_abs snd_abs hg hm (by decide +kernel) ha (by decide) (by decide) he rfl
/-! isinstance -/
inductive Ty6 | tup | str | int | bool | lst
def Ty6.nm : Ty6 → String
  | .tup => "tuple" | .str => "str" | .int => "int" | .bool => "bool" | .lst => "list"
/-- the type of a thing that is none of one's own -/
def okTy (S : Sto) : PyData → Prop
  | .dict [(.int (.ofNat n), .none)] => ∃ ds, S n = some (.lst ds)
  | .dict _ => False
  | _ => True
def isT : Ty6 → PyData → Bool
  | .tup, .tuple _ => true
  | .str, .str _ => true
  | .int, .int _ => true
  | .int, .bool _ => true
  | .bool, .bool _ => true
  | .lst, .list _ => true
  | .lst, .dict _ => true
  | _, _ => false
def tyW : PyData → String
  | .dict _ => "list"
  | d => tyN d
theorem tyW_dv {K : PySem.W.Frag} {m : Mp} {H : Hp} {S : Sto} {x : V} {d : PyData} (w : Wd K m H S) (dx : Dv K m H x d) (h : okTy S d) : TyX K H x (.type (tyW d)) := by
  cases dx with
  | non => exact .base .non
  | bl b => exact .base (.bl b)
  | int i => exact .base (.int i)
  | str x => exact .base (.str x)
  | lst e n a => exact .base (.lst e)
  | tup e n a => exact .base (.tup e)
  | con e a =>
    obtain ⟨o, its, n, h1, h2, _⟩ := e
    exact .kTuple h1 h2
  | cel e =>
    obtain ⟨ds, h1⟩ := h
    obtain ⟨a', xs, e1, e2, e3⟩ := w.lst h1
    rw [e] at e1
    cases e1
    exact .base (.lst e2)
  | glo a => exact False.elim h
  | frz => exact False.elim h
  | ins => exact False.elim h
  | exd => exact False.elim h
theorem kit_w {K : PySem.W.Frag} : ∀ (T : Ty6) (d : PyData), PySem.W.kitOne K (.type (tyW d)) (.type T.nm) = some (isT T d)
  | .tup, .none => kit_ty (a := "NoneType") (b := "tuple") (r := false) (by decide +kernel)
  | .tup, .bool _ => kit_ty (a := "bool") (b := "tuple") (r := false) (by decide +kernel)
  | .tup, .int _ => kit_ty (a := "int") (b := "tuple") (r := false) (by decide +kernel)
  | .tup, .str _ => kit_ty (a := "str") (b := "tuple") (r := false) (by decide +kernel)
  | .tup, .list _ => kit_ty (a := "list") (b := "tuple") (r := false) (by decide +kernel)
  | .tup, .tuple _ => kit_ty (a := "tuple") (b := "tuple") (r := true) (by decide +kernel)
  | .tup, .dict _ => kit_ty (a := "list") (b := "tuple") (r := false) (by decide +kernel)
  | .str, .none => kit_ty (a := "NoneType") (b := "str") (r := false) (by decide +kernel)
  | .str, .bool _ => kit_ty (a := "bool") (b := "str") (r := false) (by decide +kernel)
  | .str, .int _ => kit_ty (a := "int") (b := "str") (r := false) (by decide +kernel)
  | .str, .str _ => kit_ty (a := "str") (b := "str") (r := true) (by decide +kernel)
  | .str, .list _ => kit_ty (a := "list") (b := "str") (r := false) (by decide +kernel)
  | .str, .tuple _ => kit_ty (a := "tuple") (b := "str") (r := false) (by decide +kernel)
  | .str, .dict _ => kit_ty (a := "list") (b := "str") (r := false) (by decide +kernel)
  | .int, .none => kit_ty (a := "NoneType") (b := "int") (r := false) (by decide +kernel)
  | .int, .bool _ => kit_ty (a := "bool") (b := "int") (r := true) (by decide +kernel)
  | .int, .int _ => kit_ty (a := "int") (b := "int") (r := true) (by decide +kernel)
  | .int, .str _ => kit_ty (a := "str") (b := "int") (r := false) (by decide +kernel)
  | .int, .list _ => kit_ty (a := "list") (b := "int") (r := false) (by decide +kernel)
  | .int, .tuple _ => kit_ty (a := "tuple") (b := "int") (r := false) (by decide +kernel)
  | .int, .dict _ => kit_ty (a := "list") (b := "int") (r := false) (by decide +kernel)
  | .bool, .none => kit_ty (a := "NoneType") (b := "bool") (r := false) (by decide +kernel)
  | .bool, .bool _ => kit_ty (a := "bool") (b := "bool") (r := true) (by decide +kernel)
  | .bool, .int _ => kit_ty (a := "int") (b := "bool") (r := false) (by decide +kernel)
  | .bool, .str _ => kit_ty (a := "str") (b := "bool") (r := false) (by decide +kernel)
  | .bool, .list _ => kit_ty (a := "list") (b := "bool") (r := false) (by decide +kernel)
  | .bool, .tuple _ => kit_ty (a := "tuple") (b := "bool") (r := false) (by decide +kernel)
  | .bool, .dict _ => kit_ty (a := "list") (b := "bool") (r := false) (by decide +kernel)
  | .lst, .none => kit_ty (a := "NoneType") (b := "list") (r := false) (by decide +kernel)
  | .lst, .bool _ => kit_ty (a := "bool") (b := "list") (r := false) (by decide +kernel)
  | .lst, .int _ => kit_ty (a := "int") (b := "list") (r := false) (by decide +kernel)
  | .lst, .str _ => kit_ty (a := "str") (b := "list") (r := false) (by decide +kernel)
  | .lst, .list _ => kit_ty (a := "list") (b := "list") (r := true) (by decide +kernel)
  | .lst, .tuple _ => kit_ty (a := "tuple") (b := "list") (r := false) (by decide +kernel)
  | .lst, .dict _ => kit_ty (a := "list") (b := "list") (r := true) (by decide +kernel)
def dIsi (T : Ty6) (t : DE) : DE := fun ρ S Q => t ρ S fun d S1 => okTy S1 d ∧ Q (.bool (isT T d)) S1
theorem q_isi (T : Ty6) {p : Pos} {e2 : Expr} (hm : X.mg "isinstance" = none) (hg : Gl X "isinstance") (ha : QE X e t) (hb : PE X e2 (tC (.ty T.nm))) (he : starEach [e, e2] X.env = (false, eval e X.env) :: starEach [e2] X.env := by rfl) (he2 : starEach [e2] X.env = (false, eval e2 X.env) :: starEach [] X.env := by rfl)
    (hpl : (backTo pos (starEach [e2] X.env)).any (·.1) = false := by rfl) : QE X (.Call (.Name "isinstance" p) [e, e2] [] pos) (dIsi T t) :=
  pe_weak (pe_callB call_isi hg hm (by decide +kernel) (pa_cons ha (pa_cons hb pa_nil he2) he) (by decide) (by decide) he hpl) fun σ H Q ⟨B, ρ, S, m, Qd, at_, q, k⟩ =>
    ⟨B, ρ, S, m, _, at_, q, fun d S' v H' m' q e w dv => ⟨v, .ty T.nm, _, _, _, rfl, .ty _, tyW_dv w dv q.1, kit_w T d, k _ S' _ H' m' q.2 e w (.bl _)⟩⟩
/-! repr, join -/
def dRepr : PyData → Sto → DK → Prop := fun d S Q => (d.showable = true ∧ d.canLay0 = true ∧ d.depth ≤ 150 ∧ d.shown.length ≤ 10000000) ∧ Q (.str d.shown) S
mutual
theorem layNoDict : ∀ d : PyData, d.canLay0 = true → d.hasDict = false
  | .none, _ => rfl
  | .bool _, _ => rfl
  | .int _, _ => rfl
  | .str _, _ => rfl
  | .list ds, h => by
    unfold PyData.hasDict
    exact layNoDictAll ds (by unfold PyData.canLay0 at h; exact h)
  | .tuple ds, h => by
    unfold PyData.hasDict
    exact layNoDictAll ds (by unfold PyData.canLay0 at h; exact h)
  | .dict _, h => by unfold PyData.canLay0 at h; cases h
theorem layNoDictAll : ∀ ds : List PyData, PyData.canLayAll0 ds = true → PyData.hasDictAll ds = false
  | [], _ => rfl
  | d :: ds, h => by
    have e : PyData.canLayAll0 (d :: ds) = (PyData.canLay0 d && PyData.canLayAll0 ds) := by
      conv => lhs; unfold PyData.canLayAll0
    rw [e, Bool.and_eq_true] at h
    unfold PyData.hasDictAll
    rw [layNoDict d h.1, layNoDictAll ds h.2]
    rfl
end
theorem snd_repr {K : PySem.W.Frag} : SndL K (on1 dRepr) (Grd.rRepr K) := snd_1 fun m H S x d Q Qd w dx h k => by
  obtain ⟨⟨h1, h2, h3, h4⟩, q⟩ := h
  exact ⟨x, d, rfl, dx.dp h2, h1, layNoDict d h2, h3, by rw [sizeLine_eq]; omega, k _ _ _ _ _ q Evo.refl w (.str _)⟩
theorem q_repr {p : Pos} (gd : X.A.guards = some []) (hu : X.A.units + 200 < cLine) (hm : X.mg "repr" = none) (hg : Gl X "repr") (ha : QA X [e] aa) (he : starEach [e] X.env = (false, eval e X.env) :: starEach [] X.env := by rfl) : QE X (.Call (.Name "repr" p) [e] [] pos) (dCall (on1 dRepr) aa) :=
  q_callB (Grd.call_repr gd hu) snd_repr hg hm (by decide +kernel) ha (by decide) (by decide) he rfl
/-- the texts of a list -/
def strsD : List PyData → Option (List Str)
  | [] => some []
  | .str z :: ds => (strsD ds).map (z :: ·)
  | _ => none
theorem strs_dv {K : PySem.W.Frag} {m : Mp} {H : Hp} : ∀ {ds : List PyData} {xs : List V} {zs : List Str}, DvAll K m H xs ds → strsD ds = some zs → xs = zs.map V.str
  | [], _, _, h, e => by
    cases h
    cases e
    rfl
  | .str z :: ds, _, zs, h, e => by
    cases h with
    | cons a r =>
      cases a
      have e' : (strsD ds).map (z :: ·) = some zs := e
      cases hs : strsD ds with
      | none => rw [hs] at e'; cases e'
      | some ys =>
        rw [hs] at e'
        cases e'
        rw [strs_dv r hs]
        rfl
  | .none :: _, _, _, _, e => nomatch e
  | .bool _ :: _, _, _, _, e => nomatch e
  | .int _ :: _, _, _, _, e => nomatch e
  | .list _ :: _, _, _, _, e => nomatch e
  | .tuple _ :: _, _, _, _, e => nomatch e
  | .dict _ :: _, _, _, _, e => nomatch e
def dJoin : D2
  | .str z, d, S, Q => wh (itemsD S d) fun ds => wh (strsD ds) fun zs => (zs.map (·.length)).sum + zs.length * z.length ≤ 1000000 ∧ Q (.str (Txt.join z zs)) S
  | _, _, _, _ => False
theorem q_join {apos : Pos} (ha : QE X a ta) (hb : QE X e tb) (hs : starEach [e] X.env = [(false, eval e X.env)] := by rfl) (hbase : attributeBase a "join" X.env (eval a X.env) = eval a X.env := by rfl) (hline : (apos.endLine == pos.line) = true := by rfl) :
    QE X (.Call (.Attribute a "join" apos) [e] [] pos) (dOp dJoin (fun ρ S Q => ta ρ S fun d S1 => wh (isStrD d) fun z => Q (.str z) S1) tb) := pe_weak (pe_join ha hb hs hbase hline) fun σ H Q ⟨B, ρ, S, m, Qd, at_, q, k⟩ =>
  ⟨B, ρ, S, m, _, at_, q, fun d S1 v H1 m1 q1 e1 w1 dv => by
    obtain ⟨z, ez, q1⟩ := wh_of q1
    cases d <;> cases ez
    cases dv
    refine ⟨⟨_, rfl⟩, B, ρ, S1, m1, _, at_.step e1 w1, q1, fun d2 S2 v2 H2 m2 q2 e2 w2 dv2 => ?_⟩
    obtain ⟨ds, h1, h2⟩ := wh_of q2
    obtain ⟨zs, h3, h4, h5⟩ := wh_of h2
    obtain ⟨p, xs, rfl, hq, al⟩ := dv2.items w2 h1
    have := strs_dv al h3
    subst this
    exact ⟨_, p, zs, rfl, rfl, hq, Nat.le_trans h4 (by decide), k _ S2 _ H2 m2 h5 (e1.trans e2) w2 (.str _)⟩⟩
end
end K3

/-! the plain layer: statements -/
namespace K3
open PySem L2 Xr K1
/-- what is wanted of an error: its class, its fields, the variables, the store -/
abbrev DXr := Addr → List (Str × PyData) → Rho → Sto → Prop
structure DEnds where
  nx : Rho → Sto → Prop
  rt : DK
  bk : Rho → Sto → Prop := fun _ _ => False
  ct : Rho → Sto → Prop := fun _ _ => False
  xt : DXr := fun _ _ _ _ => False
abbrev DS := DEnds → Rho → Sto → Prop
/-- what may be let out of X; what was not there when X began -/
abbrev WZ := L2.WX × (Addr → Prop)
/-- whether what is known of an error tells that its context is None -/
class Md where
  n : Bool
def mdN : Md := ⟨true⟩
instance (priority := low) mdL : Md := ⟨false⟩
/-- an error in the air of X -/
def XEm [m : Md] (X : Cx) (W : L2.WX) (u : Value) (s' : Shared) : Prop := match m with
  | ⟨true⟩ => L2N.XE X W u s'
  | ⟨false⟩ => L2.XE X W u s'
def Tkm [m : Md] (X : Cx) (W : L2.WX) : Prop := ∀ u s', XEm X W u s' → X.xe u s'
def CXm [m : Md] (P : Program) (w : World) : CXT := match m with
  | ⟨true⟩ => L2N.CX P w
  | ⟨false⟩ => L2.CX P w
theorem tkmL {X : Cx} {W : L2.WX} (h : L2.Takes X W) : Tkm (m := mdL) X W := h
theorem tkmN {X : Cx} {W : L2.WX} (h : L2N.Takes X W) : Tkm (m := mdN) X W := h
def Wm [m : Md] (X : Cx) : WZ := (fun c d σ H => ∀ u s', XEm X (fun c' d' σ' H' => c' = c ∧ d' = d ∧ σ' = σ ∧ H' = H) u s' → X.xe u s', fun a => X.H_0 a = none)
theorem takesWm {m : Md} (X : Cx) : Tkm X (Wm X).1 := by
  match m with
  | ⟨true⟩ => exact fun u s' ⟨a, B, sI, pins, σ, H, cls, d, e, I, nb, up, sky, na, os, ag, w⟩ => w u s' ⟨a, B, sI, pins, σ, H, cls, d, e, I, nb, up, sky, na, os, ag, rfl, rfl, rfl, rfl⟩
  | ⟨false⟩ => exact fun u s' ⟨a, B, sI, pins, σ, H, cls, d, e, I, nb, up, sky, na, os, ag, w⟩ => w u s' ⟨a, B, sI, pins, σ, H, cls, d, e, I, nb, up, sky, na, os, ag, rfl, rfl, rfl, rfl⟩
theorem Wm.of {m : Md} {X : Cx} {W : L2.WX} (tk : Tkm X W) {c : Value} {d : Option Addr} {σ : L2.St} {H : Hp} (h : W c d σ H) : (Wm X).1 c d σ H := by
  match m with
  | ⟨true⟩ => exact fun u s' ⟨a, B, sI, pins, σ', H', cls, d', e, I, nb, up, sky, na, os, ag, e1, e2, e3, e4⟩ => tk u s' ⟨a, B, sI, pins, σ', H', cls, d', e, I, nb, up, sky, na, os, ag, by rw [e1, e2, e3, e4]; exact h⟩
  | ⟨false⟩ => exact fun u s' ⟨a, B, sI, pins, σ', H', cls, d', e, I, nb, up, sky, na, os, ag, e1, e2, e3, e4⟩ => tk u s' ⟨a, B, sI, pins, σ', H', cls, d', e, I, nb, up, sky, na, os, ag, by rw [e1, e2, e3, e4]; exact h⟩
/-- an error with these fields may be let out wherever it is wanted; what is new was not there at the beginning -/
structure Lk (K : PySem.W.Frag) (W : WZ) (B : Mp × Hp) (x : DXr) : Prop where
  run : ∀ C fs ρ S σ H m dd ys, x C fs ρ S → At K B σ H ρ S m → H dd = some (.xd ys) → ¬ Ce m dd → ys.map Prod.fst = fs.map Prod.fst → DvAll K m H (ys.map Prod.snd) (fs.map Prod.snd) → W.1 (.ref C) (some dd) σ H
  new : ∀ ρ S σ H m a, At K B σ H ρ S m → H a = none → W.2 a
theorem At.base {K : PySem.W.Frag} {B B1 : Mp × Hp} {σ : L2.St} {H : Hp} {ρ : Rho} {S : Sto} {m : Mp} (e : Evo B.1 B.2 B1.1 B1.2) (a : At K B1 σ H ρ S m) : At K B σ H ρ S m := ⟨e.trans a.ev, a.wd, a.fr⟩
theorem Lk.base {K : PySem.W.Frag} {W : WZ} {B B1 : Mp × Hp} {x : DXr} (e : Evo B.1 B.2 B1.1 B1.2) (l : Lk K W B x) : Lk K W B1 x := ⟨fun C fs ρ S σ H m dd ys q a => l.run C fs ρ S σ H m dd ys q (a.base e), fun ρ S σ H m a at_ h => l.new ρ S σ H m a (at_.base e) h⟩
theorem At.gone {K : PySem.W.Frag} {B : Mp × Hp} {σ : L2.St} {H : Hp} {ρ : Rho} {S : Sto} {m : Mp} (a : At K B σ H ρ S m) {p : Addr} (h : H p = none) : B.2 p = none := by
  cases e : B.2 p with
  | none => rfl
  | some o =>
    exfalso
    by_cases c : Ce B.1 p
    · rcases c with ⟨n, c⟩ | c
      · obtain ⟨u, z⟩ := a.wd.trk n p (a.ev.ext n p c)
        rw [h] at z
        cases z
      · have z := a.ev.zk p o c e
        rw [h] at z
        cases z
    · have z := (a.ev.kp p o e c).1
      rw [h] at z
      cases z
theorem Lk.no {K : PySem.W.Frag} {W : WZ} {B : Mp × Hp} (hz : ∀ a, B.2 a = none → W.2 a) : Lk K W B (fun _ _ _ _ => False) := ⟨fun _ _ _ _ _ _ _ _ _ q => q.elim, fun _ _ _ _ _ a at_ h => hz a (at_.gone h)⟩
structure Ke (K : PySem.W.Frag) (W : WZ) (B : Mp × Hp) (D : Ends) (Dd : DEnds) : Prop where
  nx : ∀ ρ S σ H m, Dd.nx ρ S → At K B σ H ρ S m → D.nx σ H
  rt : ∀ d S v H m, Dd.rt d S → Evo B.1 B.2 m H → Wd K m H S → Dv K m H v d → D.rt v H
  bk : ∀ ρ S σ H m, Dd.bk ρ S → At K B σ H ρ S m → D.bk σ H
  ct : ∀ ρ S σ H m, Dd.ct ρ S → At K B σ H ρ S m → D.ct σ H
  xt : Lk K W B Dd.xt
def lftS (K : PySem.W.Frag) (W : WZ) (t : DS) : TS := fun D σ H => ∃ B ρ S m Dd, At K B σ H ρ S m ∧ t Dd ρ S ∧ Ke K W B D Dd
abbrev QS [md : Md] (X : Cx) (s : Stmt) (t : DS) : Prop := PS X s (lftS X.K (Wm X) t)
abbrev QSs [md : Md] (X : Cx) (s : List Stmt) (t : DS) : Prop := PSs X s (lftS X.K (Wm X) t)
abbrev DG := PyData → Rho → Sto → (Rho → Sto → Prop) → Prop
abbrev DGs := List PyData → Rho → Sto → (Rho → Sto → Prop) → Prop
def lftG (K : PySem.W.Frag) (g : DG) : TG := fun v σ H Q => ∃ d B ρ S m Qd, At K B σ H ρ S m ∧ Dv K m H v d ∧ g d ρ S Qd ∧ ∀ ρ' S' σ' H' m', Qd ρ' S' → Evo m H m' H' → At K B σ' H' ρ' S' m' → Q σ' H'
def lftGs (K : PySem.W.Frag) (g : DGs) : TGs := fun v σ H Q => ∃ d B ρ S m Qd, At K B σ H ρ S m ∧ DvAll K m H v d ∧ g d ρ S Qd ∧ ∀ ρ' S' σ' H' m', Qd ρ' S' → Evo m H m' H' → At K B σ' H' ρ' S' m' → Q σ' H'
abbrev QG (X : Cx) (e : Expr) (g : DG) : Prop := PG X e (lftG X.K g)
abbrev QGs (X : Cx) (e : List Expr) (g : DGs) : Prop := PGs X e (lftGs X.K g)
theorem pg_weak {X : Cx} {e : Expr} {t t' : TG} (h : PG X e t) (i : ∀ v σ H Q, t' v σ H Q → t v σ H Q) : PG X e t' := ⟨fun pins s σ H v u Q I r q => h.run pins s σ H v u Q I r (i _ _ _ _ q)⟩
theorem pgs_weak {X : Cx} {e : List Expr} {t t' : TGs} (h : PGs X e t) (i : ∀ v σ H Q, t' v σ H Q → t v σ H Q) : PGs X e t' := ⟨fun pins s σ H v u Q I r q => h.run pins s σ H v u Q I r (i _ _ _ _ q)⟩
theorem At.setv {K : PySem.W.Frag} {σ : L2.St} {H : Hp} {ρ : Rho} {S : Sto} {m : Mp} {i : Nat} {v : V} {d : PyData} (a : At K B σ H ρ S m) (h : Dv K m H v d) : At K B (σ.set i (some v)) H (st ρ i d) S m := ⟨a.ev, a.wd, a.fr.set h _ _ i⟩
section
variable {X : Cx} {e a b c : Expr} {es rest : List Expr} {t ta tb tc : DE} {u v : DT} {pos : Pos} {aa : DA} {s1 : Stmt} {sts : List Stmt} {d1 d2 : DS} {g : DG} {gs : DGs}
def dNext : DS := fun D ρ S => D.nx ρ S
def dSeq (t u : DS) : DS := fun D ρ S => t { D with nx := u D } ρ S
theorem qss_nil {md : Md} : QSs X [] dNext := pss_weak pss_nil fun D σ H ⟨B, ρ, S, m, Dd, at_, q, k⟩ => k.nx _ _ _ _ _ q at_
theorem Ke.seq {K : PySem.W.Frag} {W : WZ} {D : Ends} {Dd : DEnds} (k : Ke K W B D Dd) : Ke K W B { D with nx := lftS K W d2 D } { Dd with nx := d2 Dd } := ⟨fun ρ S σ H m q at_ => ⟨B, ρ, S, m, Dd, at_, q, k⟩, k.rt, k.bk, k.ct, k.xt⟩
theorem qss_cons {md : Md} (h1 : QS X s1 d1) (h2 : QSs X sts d2) : QSs X (s1 :: sts) (dSeq d1 d2) := pss_weak (pss_cons h1 h2) fun D σ H ⟨B, ρ, S, m, Dd, at_, q, k⟩ => ⟨B, ρ, S, m, _, at_, q, k.seq⟩
theorem qss_one {md : Md} (h1 : QS X s1 d1) : QSs X [s1] d1 := pss_one h1
def dBreak : DS := fun D ρ S => D.bk ρ S
def dCont : DS := fun D ρ S => D.ct ρ S
theorem qs_pass {md : Md} : QS X (.Pass pos) dNext := ps_weak ps_pass fun D σ H ⟨B, ρ, S, m, Dd, at_, q, k⟩ => k.nx _ _ _ _ _ q at_
theorem qs_break {md : Md} : QS X (.Break pos) dBreak := ps_weak ps_break fun D σ H ⟨B, ρ, S, m, Dd, at_, q, k⟩ => k.bk _ _ _ _ _ q at_
theorem qs_continue {md : Md} : QS X (.Continue pos) dCont := ps_weak ps_continue fun D σ H ⟨B, ρ, S, m, Dd, at_, q, k⟩ => k.ct _ _ _ _ _ q at_
def dNever : DS := fun _ _ _ => False
theorem qs_never {md : Md} : QS X s1 dNever := ps_weak ps_never fun D σ H ⟨B, ρ, S, m, Dd, at_, q, k⟩ => q.elim
def dDrop (t : DE) : DS := fun D ρ S => t ρ S fun _ S1 => D.nx ρ S1
theorem qs_expr {md : Md} (he : QE X e t) (hs : swapsWith e none pos.line X.env = pure false := by rfl) : QS X (.Expr e pos) (dDrop t) := ps_weak (ps_expr he hs) fun D σ H ⟨B, ρ, S, m, Dd, at_, q, k⟩ =>
  ⟨B, ρ, S, m, _, at_, q, fun d S' v H' m' q e w dv => k.nx _ _ _ _ _ q (at_.step e w)⟩
def dRet (t : DE) : DS := fun D ρ S => t ρ S D.rt
theorem qs_ret {md : Md} (he : QE X e t) : QS X (.Return (some e) pos) (dRet t) := ps_weak (ps_ret he) fun D σ H ⟨B, ρ, S, m, Dd, at_, q, k⟩ =>
  ⟨B, ρ, S, m, _, at_, q, fun d S' v H' m' q e w dv => k.rt _ _ _ _ _ q (at_.ev.trans e) w dv⟩
def dRetN : DS := fun D ρ S => D.rt .none S
theorem qs_retN {md : Md} : QS X (.Return none pos) dRetN := ps_weak ps_retN fun D σ H ⟨B, ρ, S, m, Dd, at_, q, k⟩ => k.rt _ _ _ _ _ q at_.ev at_.wd .non
def dIfS (u : DT) (d1 d2 : DS) : DS := fun D ρ S => u ρ S fun b S1 => if b = true then d1 D ρ S1 else d2 D ρ S1
theorem qs_if {md : Md} {st1 st2 : List Stmt} (hc : QT X c u) (ha : QSs X st1 d1) (hb : QSs X st2 d2) : QS X (.If c st1 st2 pos) (dIfS u d1 d2) := ps_weak (ps_if hc ha hb) fun D σ H ⟨B, ρ, S, m, Dd, at_, q, k⟩ =>
  ⟨B, ρ, S, m, _, at_, q, fun b S' H' m' q e w => by
    cases b with
    | true => exact iteT ⟨B, ρ, S', m', Dd, at_.step e w, q, k⟩
    | false => exact iteF ⟨B, ρ, S', m', Dd, at_.step e w, q, k⟩⟩
/-! targets -/
def dName (i : Nat) : DG := fun d ρ S Q => Q (st ρ i d) S
theorem qg_name {i : Nat} (h : PG X e (gName i)) : QG X e (dName i) := pg_weak h fun v σ H Q ⟨d, B, ρ, S, m, Qd, at_, dv, q, k⟩ => k _ _ _ _ m q Evo.refl (at_.setv dv)
def dgNil : DGs := fun ds ρ S Q => ds = [] ∧ Q ρ S
def dgCons (g : DG) (gs : DGs) : DGs := fun ds ρ S Q => match ds with
  | d :: r => g d ρ S fun ρ' S' => gs r ρ' S' Q
  | [] => False
theorem qgs_nil : QGs X [] dgNil := pgs_weak pgs_nil fun v σ H Q ⟨d, B, ρ, S, m, Qd, at_, dv, q, k⟩ => by
  obtain ⟨rfl, q⟩ := q
  cases dv
  exact ⟨rfl, k _ _ _ _ m q Evo.refl at_⟩
theorem qgs_cons (h1 : QG X e g) (h2 : QGs X es gs) (hs : (assignEach (e :: es) X.env).map (·.2) = assign e X.env :: (assignEach es X.env).map (·.2) := by rfl) : QGs X (e :: es) (dgCons g gs) := pgs_weak (pgs_cons h1 h2 hs) fun v σ H Q ⟨ds, B, ρ, S, m, Qd, at_, dv, q, k⟩ => by
  match ds, dv, q with
  | d :: r, .cons a al, q => exact ⟨_, _, rfl, d, B, ρ, S, m, _, at_, a, q, fun ρ' S' σ' H' m' q' e' at' => ⟨r, B, ρ', S', m', Qd, at', al.up e', q', fun ρ2 S2 σ2 H2 m2 q2 e2 at2 => k ρ2 S2 σ2 H2 m2 q2 (e'.trans e2) at2⟩⟩
def dgTup (n : Nat) (gs : DGs) : DG := fun d ρ S Q => match d with
  | .tuple ds => ds.length = n ∧ gs ds ρ S Q
  | _ => False
theorem qg_tup {k : Nat} {n : Nat} (hc : X.calm = true) (h : QGs X es gs)
    (hn : (assignEach es X.env).length = n := by rfl) (hst : (assignEach es X.env).findIdx? (·.1) = none := by rfl) : QG X (.Tuple es k pos) (dgTup n gs) := pg_weak (pg_tup hc h hn hst) fun v σ H Q ⟨d, B, ρ, S, m, Qd, at_, dv, q, k⟩ => by
  cases d <;> first | exact False.elim q | skip
  obtain ⟨l, q⟩ := q
  obtain ⟨p, xs, rfl, hx, ax⟩ := dv.seqT
  exact ⟨p, xs, rfl, hx, by rw [ax.len]; exact l, _, B, ρ, S, m, Qd, at_, ax, q, k⟩
theorem wipe_set_notin {x : Option V} : ∀ (ws : List Nat) (σ : L2.St) (i : Nat), i ∉ ws → wipe (σ.set i x) ws = (wipe σ ws).set i x
  | [], σ, i, _ => rfl
  | w :: ws, σ, i, h => by
    have h1 : i ≠ w := fun e => h (by rw [e]; exact List.mem_cons_self)
    have h2 : i ∉ ws := fun e => h (List.mem_cons_of_mem _ e)
    show (wipe (σ.set i x) ws).set w none = ((wipe σ ws).set w none).set i x
    rw [wipe_set_notin ws σ i h2, List.set_comm _ _ h1]
theorem wipe_set_mem {x : Option V} : ∀ (ws : List Nat) (σ : L2.St) (i : Nat), i ∈ ws → wipe (σ.set i x) ws = wipe σ ws
  | w :: ws, σ, i, h => by
    show (wipe (σ.set i x) ws).set w none = (wipe σ ws).set w none
    by_cases z : i ∈ ws
    · rw [wipe_set_mem ws σ i z]
    · have e : i = w := (List.mem_cons.mp h).resolve_right z
      subst e
      rw [wipe_set_notin ws σ i z, List.set_set]
  | [], _, _, h => nomatch h
/-- a, b: plain names -/
def gNms : List Nat → TGs
  | [] => gNil
  | i :: is => gCons (gName i) (gNms is)
def dNms : List Nat → List PyData → Rho → Option Rho
  | [], [], ρ => some ρ
  | i :: is, d :: ds, ρ => dNms is ds (st ρ i d)
  | _, _, _ => none
theorem nms_dv {K : PySem.W.Frag} {m : Mp} {H : Hp} : ∀ (is : List Nat) (ds : List PyData) (ρ ρ' : Rho) (vs : List V) (σ : L2.St) (Q : L2.St → Hp → Prop), DvAll K m H vs ds → Fr K m H σ ρ → dNms is ds ρ = some ρ' → (∀ σ', Fr K m H σ' ρ' → (∀ ws : List Nat, (∀ i ∈ is, i ∈ ws) → wipe σ' ws = wipe σ ws) → Q σ' H) → gNms is vs σ H Q
  | [], [], ρ, ρ', _, σ, Q, h, f, e, k => by
    cases h
    cases e
    exact ⟨rfl, k σ f fun _ _ => rfl⟩
  | i :: is, d :: ds, ρ, ρ', _, σ, Q, h, f, e, k => by
    cases h with
    | cons a r =>
      refine ⟨_, _, rfl, ?_⟩
      refine nms_dv is ds _ ρ' _ _ Q r (f.set a _ _ i) e fun σ' f' hw => k σ' f' fun ws hm => ?_
      rw [hw ws fun j hj => hm j (List.mem_cons_of_mem _ hj)]
      exact wipe_set_mem ws _ i (hm i List.mem_cons_self)
  | [], _ :: _, _, _, _, _, _, _, _, e, _ => nomatch e
  | _ :: _, [], _, _, _, _, _, _, _, e, _ => nomatch e
def dAsg (t : DE) (g : DG) : DS := fun D ρ S => t ρ S fun d S1 => g d ρ S1 D.nx
theorem qs_asg {md : Md} (he : QE X e t) (hg : QG X a g) (hs : swapsWithSole [a] e pos.line X.env = pure false := by rfl) (hw : swappedStores [a] e X.env = pure none := by rfl)
    (h1 : (assignEach [a] X.env).map (·.2) = [assign a X.env] := by rfl) : QS X (.Assign [a] e pos) (dAsg t g) := ps_weak (ps_asg he hg hs hw h1) fun D σ H ⟨B, ρ, S, m, Dd, at_, q, k⟩ =>
  ⟨B, ρ, S, m, _, at_, q, fun d S' v H' m' q e w dv => ⟨d, B, ρ, S', m', _, at_.step e w, dv, q, fun ρ' S' σ' H' m' q _ at_ => k.nx _ _ _ _ _ q at_⟩⟩
/-- name = value -/
def dSet (i : Nat) (t : DE) : DS := fun D ρ S => t ρ S fun d S1 => D.nx (st ρ i d) S1
theorem qs_set {md : Md} {i : Nat} {x : Str} {pos' : Pos} (hN : X.N.Nodup) (hi : X.N[i]? = some x) (hx : Loc X.env.scope x) (he : QE X e t) (hs : swapsWith e (some (.Name x pos')) pos.line X.env = pure false := by rfl) (hf : X.fn x = true ∨ X.env.scope.names.lookup x = some .local := by first | exact .inl rfl | exact .inr rfl | assumption) :
    QS X (.Assign [.Name x pos'] e pos) (dSet i t) := ps_weak (ps_set hN hi hx he hs hf) fun D σ H ⟨B, ρ, S, m, Dd, at_, q, k⟩ =>
  ⟨B, ρ, S, m, _, at_, q, fun d S' v H' m' q e w dv => k.nx _ _ _ _ _ q ((at_.step e w).setv dv)⟩
/-- a, b = x, y: plain names -/
def dPar (i j : Nat) (aa : DA) : DS := fun D ρ S => aa ρ S fun ds S1 => match ds with
  | [d, d'] => D.nx (st (st ρ i d) j d') S1
  | _ => False
theorem qs_par {md : Md} {i j : Nat} {x y : Str} {px py pt : Pos} {kt k2 pt2} (hc : X.calm = true) (hN : X.N.Nodup) (hi : X.N[i]? = some x) (hj : X.N[j]? = some y) (hij : i ≠ j)
    (hx : X.env.scope.names.lookup x = some .local) (hy : X.env.scope.names.lookup y = some .local) (ha : QA X [a, b] aa)
    (hw : swappedStores [.Tuple [.Name x px, .Name y py] kt pt] (.Tuple [a, b] k2 pt2) X.env = pure (some [x, y]))
    (hs : swapsWithSole [.Tuple [.Name x px, .Name y py] kt pt] (.Tuple [a, b] k2 pt2) pos.line X.env = pure false := by rfl) :
    QS X (.Assign [.Tuple [.Name x px, .Name y py] kt pt] (.Tuple [a, b] k2 pt2) pos) (dPar i j aa) := ps_weak (ps_par hc hN hi hj hij hx hy ha hw hs) fun D σ H ⟨B, ρ, S, m, Dd, at_, q, k⟩ =>
  ⟨B, ρ, S, m, _, at_, q, fun ds S' vs H' m' q e w dv => by
    match ds, q, dv with
    | [d, d'], q, dv =>
      obtain ⟨x, y, rfl, dx, dy⟩ := dv2 dv
      exact ⟨x, y, rfl, k.nx _ _ _ _ _ q (((at_.step e w).setv dx).setv dy)⟩⟩
/-- name op= value, of ints -/
def dAugI (i : Nat) (f : Int → Int → Int) (t : DE) : DS := fun D ρ S => wh (gt ρ i) fun x => t ρ S fun y S1 => match x, y with
  | .int p, .int q => D.nx (st ρ i (.int (f p q))) S1
  | _, _ => False
theorem qs_augI {md : Md} {i : Nat} {x : Str} {op : Operator} {f : Int → Int → Int} {pos' : Pos} (ho : PIp X op (ipI f)) (hN : X.N.Nodup) (hi : X.N[i]? = some x) (hx : Loc X.env.scope x) (he : QE X e t) (hf : X.fn x = true ∨ X.env.scope.names.lookup x = some .local := by first | exact .inl rfl | exact .inr rfl | assumption) :
    QS X (.AugAssign (.Name x pos') op e pos) (dAugI i f t) := ps_weak (ps_aug hN hi hx he ho hf) fun D σ H ⟨B, ρ, S, m, Dd, at_, q, k⟩ => by
  obtain ⟨d, e1, q⟩ := wh_of q
  obtain ⟨v, e2, dv⟩ := at_.fr.get _ _ _ _ e1
  refine ⟨v, e2, B, ρ, S, m, _, at_, q, fun d' S' v' H' m' q e w dv' => ?_⟩
  cases d <;> cases d' <;> first | exact False.elim q | skip
  cases dv
  cases dv'
  exact ⟨_, _, rfl, rfl, k.nx _ _ _ _ _ q ((at_.step e w).setv (.int _))⟩
/-! lists that change -/
def celN : PyData → Option Nat
  | .dict [(.int (.ofNat n), .none)] => some n
  | _ => none
def lstC (S : Sto) (n : Nat) : Option (List PyData) := (S n).bind fun c => match c with
  | .lst ds => some ds
  | _ => none
theorem lstC_of {S : Sto} {n : Nat} {ds : List PyData} (h : S n = some (.lst ds)) : lstC S n = some ds := by
  unfold lstC
  rw [h]
  rfl
theorem lstC_is {S : Sto} {n : Nat} {ds : List PyData} (h : lstC S n = some ds) : S n = some (.lst ds) := by
  unfold lstC at h
  cases e : S n with
  | none => rw [e] at h; cases h
  | some c =>
    rw [e] at h
    cases c with
    | lst es => cases h; rfl
    | ins _ _ => cases h
    | dk _ => cases h
    | dt _ => cases h
theorem celN_dv {K : PySem.W.Frag} {m : Mp} {H : Hp} {x : V} {d : PyData} {n : Nat} (h : Dv K m H x d) (e : celN d = some n) : ∃ a, x = .ref a ∧ m.c n = some a := by
  cases h with
  | cel e1 =>
    cases e
    exact ⟨_, rfl, e1⟩
  | non => cases e
  | bl _ => cases e
  | int _ => cases e
  | str _ => cases e
  | lst _ _ _ => cases e
  | tup _ _ _ => cases e
  | con _ _ => cases e
  | frz => cases e
  | ins => cases e
  | exd => cases e
  | glo _ => cases e
/-- o.m(..) of a list: what it gives and leaves, by the list and the arguments -/
abbrev DM := List PyData → List PyData → (PyData → List PyData → Prop) → Sto → Prop
def dMet (f : DM) (t : DE) (aa : DA) : DE := fun ρ S Q => t ρ S fun o S1 => wh (celN o) fun n => (∃ es, S1 n = some (.lst es)) ∧ aa ρ S1 fun ds S2 => wh (lstC S2 n) fun es => f es ds (fun d es' => Q d (put S2 n (.lst es'))) S2
def SndM (K : PySem.W.Frag) (f : DM) (r : V → List V → Hp → VK → Prop) : Prop := ∀ (m : Mp) (H : Hp) (S : Sto) (l : Addr) (xs : List V) (es : List PyData) (vs : List V) (ds : List PyData) (Q : VK) (Qf : PyData → List PyData → Prop), Wd K m H S → H l = some (.lst xs) → DvAll K m H xs es → DvAll K m H vs ds → f es ds Qf S →
  (∀ d es' x ys, Qf d es' → DvAll K m H ys es' → Dv K m H x d → Q x (upd H l (.lst ys))) → r (.ref l) vs H Q
theorem met_k {K : PySem.W.Frag} {m : Mp} {H : Hp} {S : Sto} {n : Nat} {l : Addr} {Q : VK} {Qd : DK} (w : Wd K m H S) (hl : m.c n = some l) (k : Kq K m H Q Qd) : ∀ d es' x ys, Qd d (put S n (.lst es')) → DvAll K m H ys es' → Dv K m H x d → Q x (upd H l (.lst ys)) := fun d es' x ys q al dx =>
  k _ _ _ _ _ q (Evo.set w hl) (w.set hl ⟨ys, upd_same, al.up (Evo.set w hl)⟩) (dx.up (Evo.set w hl))
theorem q_met {name : Str} {apos : Pos} {id : String} {r : V → List V → Hp → VK → Prop} {f : DM} (pa : PlainAttrs "list") (slot : Slot "list" name id) (hty : typeOf (.builtin id) = pure (.type "method_descriptor")) (hm : MtR X id r) (hs : SndM X.K f r) (ho : QE X a t) (ha : QA X (e :: es) aa)
    (hbase : attributeBase a name X.env (eval a X.env) = eval a X.env := by rfl)
    (hfew : ((backTo pos (starEach (e :: es) X.env)).all (fun x => !x.1) && (backToKw pos (keywordEach [] X.env)).all (fun x => x.1.isSome)
      && decide ((e :: es).length + ([] : List Keyword).length + (if ([] : List Keyword).isEmpty then 0 else 1) < 30)) = true := by rfl)
    (hline : (apos.endLine == pos.line) = true := by rfl) (he : starEach (e :: es) X.env = (false, eval e X.env) :: starEach es X.env := by rfl) (hplain : (backTo pos (starEach es X.env)).any (·.1) = false := by rfl) :
    QE X (.Call (.Attribute a name apos) (e :: es) [] pos) (dMet f t aa) := pe_weak (pe_bm pa slot hty hm ho ha hbase hfew hline he hplain) fun σ H Q ⟨B, ρ, S, m, Qd, at_, q, k⟩ =>
  ⟨B, ρ, S, m, _, at_, q, fun d S1 v H1 m1 q1 e1 w1 dv => by
    obtain ⟨n, en, ⟨es0, q0⟩, q1⟩ := wh_of q1
    obtain ⟨l, rfl, hl⟩ := celN_dv dv en
    obtain ⟨l', xs0, h1, h2, _⟩ := w1.lst q0
    rw [hl] at h1
    cases h1
    refine ⟨.inl ⟨rfl, _, SqL.of h2⟩, B, ρ, S1, m1, _, at_.step e1 w1, q1, fun ds S2 vs H2 m2 q2 e2 w2 dvs => ?_⟩
    obtain ⟨es, h3, q2⟩ := wh_of q2
    obtain ⟨l', xs, h4, h5, al⟩ := w2.lst (lstC_is h3)
    have hl2 := e2.ext _ _ hl
    rw [hl2] at h4
    cases h4
    exact hs m2 H2 S2 l xs es vs ds Q _ w2 h5 al dvs q2 (met_k w2 hl2 ((k.up e1).up e2))⟩
def dMet0 (f : DM) (t : DE) : DE := fun ρ S Q => t ρ S fun o S1 => wh (celN o) fun n => wh (lstC S1 n) fun es => f es [] (fun d es' => Q d (put S1 n (.lst es'))) S1
theorem q_met0 {name : Str} {apos : Pos} {id : String} {r : V → List V → Hp → VK → Prop} {f : DM} (pa : PlainAttrs "list") (slot : Slot "list" name id) (hty : typeOf (.builtin id) = pure (.type "method_descriptor")) (hm : MtR X id r) (hs : SndM X.K f r) (ho : QE X a t)
    (hbase : attributeBase a name X.env (eval a X.env) = eval a X.env := by rfl) (hline : (apos.endLine == pos.line) = true := by rfl) :
    QE X (.Call (.Attribute a name apos) [] [] pos) (dMet0 f t) := pe_weak (pe_bm0 pa slot hty hm ho hbase hline) fun σ H Q ⟨B, ρ, S, m, Qd, at_, q, k⟩ =>
  ⟨B, ρ, S, m, _, at_, q, fun d S1 v H1 m1 q1 e1 w1 dv => by
    obtain ⟨n, en, q1⟩ := wh_of q1
    obtain ⟨es, h3, q1⟩ := wh_of q1
    obtain ⟨l, rfl, hl⟩ := celN_dv dv en
    obtain ⟨l', xs, h4, h5, al⟩ := w1.lst (lstC_is h3)
    rw [hl] at h4
    cases h4
    exact ⟨.inl ⟨rfl, _, SqL.of h5⟩, hs m1 H1 S1 l xs es [] [] Q _ w1 h5 al .nil q1 (met_k w1 hl (k.up e1))⟩⟩
def mApp : DM := fun es ds Q S => match ds with
  | [d] => es.length < 1000000 ∧ Q .none (es ++ [d])
  | _ => False
theorem snd_app {K : PySem.W.Frag} : SndM K mApp rAppend := fun m H S l xs es vs ds Q Qf w hl al dv h k => by
  match ds, h, dv with
  | [d], h, dv =>
    obtain ⟨x, rfl, dx⟩ := dv1 dv
    have h1 := h.1
    exact ⟨l, xs, x, rfl, rfl, hl, by rw [al.len, sizeLine_eq]; omega, k _ _ _ _ h.2 (al.app (.cons dx .nil)) .non⟩
theorem q_append {apos : Pos} (ho : QE X a t) (ha : QA X [e] aa) (hbase : attributeBase a "append" X.env (eval a X.env) = eval a X.env := by rfl)
    (hfew : ((backTo pos (starEach [e] X.env)).all (fun x => !x.1) && (backToKw pos (keywordEach [] X.env)).all (fun x => x.1.isSome)
      && decide ([e].length + ([] : List Keyword).length + (if ([] : List Keyword).isEmpty then 0 else 1) < 30)) = true := by rfl)
    (hline : (apos.endLine == pos.line) = true := by rfl) (he : starEach [e] X.env = (false, eval e X.env) :: starEach [] X.env := by rfl) :
    QE X (.Call (.Attribute a "append" apos) [e] [] pos) (dMet mApp t aa) := q_met PySem.F.plainAttrs_list PySem.F.slot_list_append PySem.F.type_list_append mt_append snd_app ho ha hbase hfew hline he rfl
def mPop : DM := fun es ds Q S => wh es.getLast? fun d => Q d es.dropLast
theorem snd_pop {K : PySem.W.Frag} : SndM K mPop (fun x vs H Q => vs = [] → rPop x vs H Q) := fun m H S l xs es vs ds Q Qf w hl al dv h k hv => by
  obtain ⟨d, h1, h2⟩ := wh_of h
  rw [List.getLast?_eq_getElem?] at h1
  obtain ⟨x, e, dx⟩ := al.get h1
  exact ⟨l, xs, x, rfl, hv, hl, by rw [al.len]; exact e, k _ _ _ _ h2 al.dropLast dx⟩
theorem mt_pop0 : MtR X "list.pop" (fun x vs H Q => vs = [] ∧ (vs = [] → rPop x vs H Q)) := fun pins s σ H x vs v us Q I r1 r2 h => mt_pop pins s σ H x vs v us Q I r1 r2 (h.2 h.1)
def mPop0 : DM := fun es ds Q S => ds = [] ∧ mPop es ds Q S
theorem snd_pop0 {K : PySem.W.Frag} : SndM K mPop0 (fun x vs H Q => vs = [] ∧ (vs = [] → rPop x vs H Q)) := fun m H S l xs es vs ds Q Qf w hl al dv h k => by
  obtain ⟨rfl, h⟩ := h
  cases dv
  exact ⟨rfl, snd_pop m H S l xs es [] [] Q Qf w hl al .nil h k⟩
theorem q_pop {apos : Pos} (ho : QE X a t) (hbase : attributeBase a "pop" X.env (eval a X.env) = eval a X.env := by rfl) (hline : (apos.endLine == pos.line) = true := by rfl) :
    QE X (.Call (.Attribute a "pop" apos) [] [] pos) (dMet0 mPop0 t) := q_met0 PySem.F.plainAttrs_list PySem.F.slot_list_pop PySem.F.type_list_pop mt_pop0 snd_pop0 ho hbase hline
def mExt : DM := fun es ds Q S => match ds with
  | [d] => wh (itemsD S d) fun xs => es.length + xs.length ≤ 1000000 ∧ Q .none (es ++ xs)
  | _ => False
def rExtA (K : PySem.W.Frag) : V → List V → Hp → VK → Prop := fun x vs H Q => ∃ l b xs zs, x = .ref l ∧ vs = [.ref b] ∧ H l = some (.lst xs) ∧ SqT K H b zs ∧ xs.length + zs.length ≤ sizeLine ∧ Q .non (upd H l (.lst (xs ++ zs)))
theorem mt_extT2 : MtM X "list.extend" (rExtA X.K) := by
  intro pins s σ H x vs v us Q I rx rv h
  obtain ⟨l, b, xs, zs, rfl, rfl, hH, hB, hz, q⟩ := h
  cases rx
  obtain ⟨u, rfl, ru⟩ := rv.one
  cases ru
  obtain ⟨z, its, n, r, hl, e⟩ := I.lstM hH
  obtain ⟨its2, r2, p2, z2⟩ := I.tuple hB
  obtain ⟨⟨cls2, dd2, data2, sl2⟩, ho2, hc2, n2, hd2⟩ := id p2
  simp only at hc2 hd2
  subst hc2 hd2
  have hl2 := r2.length
  have hsz : its.toArray.size + its2.toArray.size ≤ sizeLine := by rw [List.size_toArray, List.size_toArray]; omega
  have hlong : ¬ (!its.toArray.isEmpty && Builtin.List.listTooLong (its.toArray.size + its2.toArray.size)) = true := by
    rw [notLongL hsz, Bool.and_false]
    exact Bool.false_ne_true
  refine call_meets PySem.F.slot_list_extend ⟨_, e, rfl⟩ PySem.F.entry_list_extend (PySem.F.args_list_extend_2 _ _)
    (extend_tupW l b its.toArray its2.toArray n n2 dd2 sl2 hlong (by rw [List.size_toArray]; omega) (by omega)) ⟨e, ho2, ?_⟩
  refine ⟨.non, _, I.lset (its' := its ++ its2) hH e (by simp) (r.append r2) ?_, rfl, q⟩
  rw [List.length_append]
  omega
theorem mt_extA : MtR X "list.extend" (fun x vs H Q => rExtend x vs H Q ∨ rExtA X.K x vs H Q) := MtR.or mt_extend mt_extT2
theorem Dv.items3 {K : PySem.W.Frag} {m : Mp} {H : Hp} {S : Sto} {x : V} {d : PyData} {ds : List PyData} (w : Wd K m H S) (dx : Dv K m H x d) (h : itemsD S d = some ds) : ∃ a xs, x = .ref a ∧ ((isTupD d = false ∧ H a = some (.lst xs)) ∨ (isTupD d = true ∧ SqT K H a xs)) ∧ DvAll K m H xs ds := by
  cases dx with
  | non => cases h
  | bl _ => cases h
  | int _ => cases h
  | str _ => cases h
  | glo _ => cases h
  | ins => cases h
  | exd => cases h
  | frz e _ n a =>
    cases h
    exact ⟨_, _, rfl, .inr ⟨rfl, .inl (.inr ⟨_, e⟩)⟩, a⟩
  | lst e n a =>
    cases h
    exact ⟨_, _, rfl, .inl ⟨rfl, e⟩, a⟩
  | tup e n a =>
    cases h
    exact ⟨_, _, rfl, .inr ⟨rfl, SqT.of e⟩, a⟩
  | con e a =>
    cases h
    exact ⟨_, _, rfl, .inr ⟨rfl, e.sq⟩, a⟩
  | @cel a n e =>
    have h' : lstC S n = some ds := h
    obtain ⟨a', xs, e1, e2, e3⟩ := w.lst (lstC_is h')
    rw [e] at e1
    cases e1
    exact ⟨_, _, rfl, .inl ⟨rfl, e2⟩, e3⟩
theorem snd_ext : SndM X.K mExt (fun x vs H Q => rExtend x vs H Q ∨ rExtA X.K x vs H Q) := fun m H S l xs es vs ds Q Qf w hl al dv h k => by
  match ds, h, dv with
  | [d], h, dv =>
    obtain ⟨x, rfl, dx⟩ := dv1 dv
    obtain ⟨ys, h1, h2, h3⟩ := wh_of h
    obtain ⟨b, zs, rfl, hq, al2⟩ := dx.items3 w h1
    have hz : xs.length + zs.length ≤ sizeLine := by rw [al.len, al2.len]; exact line_of h2
    rcases hq with ⟨_, hq⟩ | ⟨_, hq⟩
    · exact .inl ⟨l, b, xs, zs, rfl, rfl, hl, hq, hz, k _ _ _ _ h3 (al.app al2) .non⟩
    · exact .inr ⟨l, b, xs, zs, rfl, rfl, hl, hq, hz, k _ _ _ _ h3 (al.app al2) .non⟩
theorem q_extend {apos : Pos} (ho : QE X a t) (ha : QA X [e] aa) (hbase : attributeBase a "extend" X.env (eval a X.env) = eval a X.env := by rfl)
    (hfew : ((backTo pos (starEach [e] X.env)).all (fun x => !x.1) && (backToKw pos (keywordEach [] X.env)).all (fun x => x.1.isSome)
      && decide ([e].length + ([] : List Keyword).length + (if ([] : List Keyword).isEmpty then 0 else 1) < 30)) = true := by rfl)
    (hline : (apos.endLine == pos.line) = true := by rfl) (he : starEach [e] X.env = (false, eval e X.env) :: starEach [] X.env := by rfl) :
    QE X (.Call (.Attribute a "extend" apos) [e] [] pos) (dMet mExt t aa) := q_met PySem.F.plainAttrs_list PySem.F.slot_list_extend PySem.F.type_list_extend mt_extA snd_ext ho ha hbase hfew hline he rfl
/-- xs.insert(i, e) -/
def mIns : DM := fun es ds Q S => match ds with
  | [.int i, d] => (es.length < 1000000 ∧ 0 ≤ i ∧ i < 2 ^ 63) ∧ Q .none (es.take i.toNat ++ [d] ++ es.drop i.toNat)
  | _ => False
theorem snd_ins {K : PySem.W.Frag} : SndM K mIns (fun x vs H Q => ∃ (l : Addr) (xs : List V) (i : Int) (y : V), x = .ref l ∧ vs = [.int i, y] ∧ H l = some (.lst xs) ∧ xs.length < sizeLine ∧ 0 ≤ i ∧ i < 2 ^ 63 ∧
    Q .non (upd H l (.lst (xs.take i.toNat ++ [y] ++ xs.drop i.toNat)))) := fun m H S l xs es vs ds Q Qf w hl al dv h k => by
  match ds, h, dv with
  | [.int i, d], h, dv =>
    obtain ⟨x, y, rfl, dx, dy⟩ := dv2 dv
    cases dx
    obtain ⟨⟨h1, h2, h3⟩, h4⟩ := h
    exact ⟨l, xs, i, y, rfl, rfl, hl, by rw [al.len, sizeLine_eq]; omega, h2, h3, k _ _ _ _ h4 (((al.take _).app (.cons dy .nil)).app (al.drop _)) .non⟩
theorem q_insert {apos : Pos} {e2 : Expr} (ho : QE X a t) (ha : QA X [e, e2] aa) (hbase : attributeBase a "insert" X.env (eval a X.env) = eval a X.env := by rfl)
    (hfew : ((backTo pos (starEach [e, e2] X.env)).all (fun x => !x.1) && (backToKw pos (keywordEach [] X.env)).all (fun x => x.1.isSome)
      && decide ([e, e2].length + ([] : List Keyword).length + (if ([] : List Keyword).isEmpty then 0 else 1) < 30)) = true := by rfl)
    (hline : (apos.endLine == pos.line) = true := by rfl) (he : starEach [e, e2] X.env = (false, eval e X.env) :: starEach [e2] X.env := by rfl) (hplain : (backTo pos (starEach [e2] X.env)).any (·.1) = false := by rfl) :
    QE X (.Call (.Attribute a "insert" apos) [e, e2] [] pos) (dMet mIns t aa) := q_met PySem.F.plainAttrs_list PySem.F.slot_list_insert PySem.F.type_list_insert mt_insert snd_ins ho ha hbase hfew hline he hplain
/-- xs[i] = e -/
def dgSub (to ti : DE) : DG := fun d ρ S Q => to ρ S fun o S1 => ti ρ S1 fun i S2 => wh (celN o) fun n => wh (lstC S2 n) fun es => match i with
  | .int k => wh (ixN es.length k) fun j => Q ρ (put S2 n (.lst (es.set j d)))
  | _ => False
theorem DvAll.set {K : PySem.W.Frag} {m : Mp} {H : Hp} {v : V} {d : PyData} (hv : Dv K m H v d) : ∀ {xs : List V} {ds : List PyData} (i : Nat), DvAll K m H xs ds → DvAll K m H (xs.set i v) (ds.set i d)
  | _, _, _, .nil => .nil
  | _, _, 0, .cons a r => .cons hv r
  | _, _, i + 1, .cons a r => .cons a (DvAll.set hv i r)
theorem qg_sub {o i : Expr} {to ti : DE} (ho : QE X o to) (hi : QE X i ti)
    (ha : ∀ v, assign (.Subscript o i pos) X.env v = (do
      let ov ← holding [v] (eval o X.env)
      let iv ← holding [v, ov] (eval i X.env)
      standAt pos
      holding [v, ov, iv] (setItem ov iv v)
      release [v, ov, iv] []) := by intro _; rfl) : QG X (.Subscript o i pos) (dgSub to ti) := pg_weak (pg_sub ho hi set_list ha) fun v σ H Q ⟨d, B, ρ, S, m, Qd, at_, dv, q, k⟩ =>
  ⟨B, ρ, S, m, _, at_, q, fun o S1 x H1 m1 q1 e1 w1 dx => ⟨B, ρ, S1, m1, _, at_.step e1 w1, q1, fun i S2 y H2 m2 q2 e2 w2 dy => by
    obtain ⟨n, en, q2⟩ := wh_of q2
    obtain ⟨es, h3, q2⟩ := wh_of q2
    cases i <;> first | exact False.elim q2 | skip
    obtain ⟨j, ej, q2⟩ := wh_of q2
    cases dy
    obtain ⟨l, rfl, hl⟩ := celN_dv (dx.up e2) en
    obtain ⟨l', xs, h4, h5, al⟩ := w2.lst (lstC_is h3)
    rw [hl] at h4
    cases h4
    have e3 := Evo.set (o := .lst (xs.set j v)) w2 hl
    refine ⟨l, xs, _, j, rfl, rfl, h5, by rw [al.len]; exact ej, k _ _ _ _ m2 q2 ((e1.trans e2).trans e3) (((at_.step e1 w1).step e2 w2).step e3 (w2.set hl ⟨_, upd_same, (DvAll.set ((dv.up e1).up e2) j al).up e3⟩))⟩⟩⟩
/-- del xs[a:] -/
def dDelT (t : DE) (lo : DO) : DS := fun D ρ S => t ρ S fun o S1 => lo ρ S1 fun l S2 => wh (celN o) fun n => wh (lstC S2 n) fun es => match l with
  | some (.ofNat a) => a ≤ es.length ∧ D.nx ρ (put S2 n (.lst (es.take a)))
  | _ => False
theorem qs_delT {md : Md} {o lo : Expr} {to : DE} {tl : DO} {tpos p2 : Pos} (ho : QE X o to) (hl : QO X (some lo) tl) : QS X (.Delete [.Subscript o (.Slice (some lo) none none p2) tpos] pos) (dDelT to tl) := ps_weak (ps_delTail ho hl) fun D σ H ⟨B, ρ, S, m, Dd, at_, q, k⟩ =>
  ⟨B, ρ, S, m, _, at_, q, fun o S1 x H1 m1 q1 e1 w1 dx => ⟨B, ρ, S1, m1, _, at_.step e1 w1, q1, fun l S2 H2 m2 q2 e2 w2 => by
    obtain ⟨n, en, q2⟩ := wh_of q2
    obtain ⟨es, h3, q2⟩ := wh_of q2
    match l, q2 with
    | some (.ofNat a), q2 =>
      obtain ⟨la, q2⟩ := q2
      obtain ⟨l, rfl, hl⟩ := celN_dv (dx.up e2) en
      obtain ⟨l', xs, h4, h5, al⟩ := w2.lst (lstC_is h3)
      rw [hl] at h4
      cases h4
      have e3 := Evo.set (o := .lst (xs.take a)) w2 hl
      exact ⟨l, xs, a, rfl, rfl, h5, by rw [al.len]; exact la, k.nx _ _ _ _ m2 q2 (((at_.step e1 w1).step e2 w2).step e3 (w2.set hl ⟨_, upd_same, (al.take a).up e3⟩))⟩⟩⟩
end
end K3
namespace K3
open PySem L2
theorem pss_never_q {md : Md} {X : Cx} {sts : List Stmt} : QSs X sts dNever := pss_weak (pss_never) fun D σ H ⟨B, ρ, S, m, Dd, at_, q, k⟩ => q
end K3

/-! the plain layer: loops, comprehensions -/
namespace K3
open PySem L2 Xr K1
/-- an iterator that gives such items while the store is so -/
structure WkD (K : PySem.W.Frag) (m1 : Mp) (H1 : Hp) (J : It) (items : List PyData) (stay : Sto → Prop) : Prop where
  ex : ∃ (G : Hp → Prop) (Y : Nat → Hp → V → Hp → Prop), Walk J items.length G Y ∧ (∀ m H S, Ev0 m1 H1 m H → Wd K m H S → stay S → G H) ∧
    ∀ i m H S x H', Ev0 m1 H1 m H → Wd K m H S → stay S → i < items.length → Y i H x H' → ∃ d, items[i]? = some d ∧ Dv K m H' x d ∧ Evo m H m H' ∧ Wd K m H' S
abbrev DI := Rho → Sto → (List PyData → (Sto → Prop) → Sto → Prop) → Prop
def lftI (K : PySem.W.Frag) (t : DI) : TI := fun σ H R => ∃ B ρ S m Qi, At K B σ H ρ S m ∧ t ρ S Qi ∧ ∀ items stay S1 H1 m1 J, Qi items stay S1 → Evo m H m1 H1 → Wd K m1 H1 S1 → stay S1 → WkD K m1 H1 J items stay → R J H1
abbrev QI (X : Cx) (tg e : Expr) (t : DI) : Prop := PI X tg e (lftI X.K t)
theorem pi_weak {X : Cx} {tg e : Expr} {t t' : TI} (h : PI X tg e t) (i : ∀ σ H R, t' σ H R → t σ H R) : PI X tg e t' := ⟨fun pins s σ H R I q => h.run pins s σ H R I (i _ _ _ q)⟩
section
variable {X : Cx} {e a b c tg : Expr} {es rest : List Expr} {t ta tb tc : DE} {u v : DT} {pos : Pos} {aa : DA} {s1 : Stmt} {sts : List Stmt} {d1 d2 : DS} {g : DG} {gs : DGs} {di : DI}
/-- a list, a tuple, a text -/
def iAny (K : PySem.W.Frag) (tl : TE) : TI := fun σ H R => tl σ H fun x H1 => (∃ a, x = .ref a ∧ (((∃ xs, SqL K H1 a xs) ∧ R (Itl K a) H1) ∨ ((∃ xs, SqT K H1 a xs) ∧ R (Itt K a) H1))) ∨ ∃ z, x = .str z ∧ R (Its z) H1
theorem pi_any {l : Expr} {tl : TE} (hl : PE X l tl) : PI X tg l (iAny X.K tl) := by
  refine ⟨fun pins s σ H R I h => ?_⟩
  refine thn (hl.run pins s σ H _ I h) fun v s1 ⟨x, H1, I1, r1, q1⟩ => ?_
  rcases q1 with ⟨a, e, q1⟩ | ⟨z, e, q⟩
  · subst e
    cases r1
    rcases q1 with ⟨⟨xs, hq⟩, q⟩ | ⟨⟨xs, hq⟩, q⟩
    · obtain ⟨its, rv, p, hz⟩ := I1.list hq
      refine wpAny_pyIter_list p.isList ?_
      refine ⟨s1.heap.objs.size, [s1.heap.objs.size], _, _, H1, rfl, I1.kept (t' := s1.toks) fun b o e => Heap.get?_push_of_some _ e, turn_list a _, ⟨_, Heap.get?_push_size _ rfl, rfl, rfl⟩, fun b hb => ?_, q⟩
      have e : b = s1.heap.objs.size := by simpa using hb
      subst e
      exact I1.fpOk (Nat.le_refl _) (I1.hok.fresh (Nat.le_refl _))
    · obtain ⟨its, rv, p, hz⟩ := I1.tuple hq
      refine wpAny_pyIter_tuple (show s1.heap.IsTuple a its.toArray from p) ?_
      refine ⟨s1.heap.objs.size, [s1.heap.objs.size], _, _, H1, rfl, I1.kept (t' := s1.toks) fun b o e => Heap.get?_push_of_some _ e, turn_tuple a _, ⟨_, Heap.get?_push_size _ rfl, rfl, rfl⟩, fun b hb => ?_, q⟩
      have e : b = s1.heap.objs.size := by simpa using hb
      subst e
      exact I1.fpOk (Nat.le_refl _) (I1.hok.fresh (Nat.le_refl _))
  · subst e
    obtain ⟨t, rfl⟩ := r1
    cases ha : z.cps.all (· < 128)
    · exact wpAny_pyIter_wide ha (pi_one (tk := s1.toks) I1 _ (turn_str _ z t "str_iterator" (.inr rfl)) ⟨_, Heap.get?_push_size _ rfl, rfl, rfl⟩ q)
    · exact wpAny_pyIter_ascii ha (pi_one (tk := s1.toks) I1 _ (turn_str _ z t "str_ascii_iterator" (.inl rfl)) ⟨_, Heap.get?_push_size _ rfl, rfl, rfl⟩ q)
/-- what a for walks, and while what is so -/
def signs (z : Str) : List PyData := z.cps.toList.map fun c => .str ⟨#[c]⟩
def walkD (S : Sto) : PyData → Option (List PyData × (Sto → Prop))
  | .str z => some (signs z, fun _ => True)
  | .dict [(.int (.ofNat n), .none)] => (lstC S n).map fun ds => (ds, fun S' => S' n = some (.lst ds))
  | o => (itemsD S o).map fun ds => (ds, fun _ => True)
theorem wk_tup {K : PySem.W.Frag} {m : Mp} {H : Hp} {p : Addr} {xs : List V} {ds : List PyData} {stay : Sto → Prop} (hs : ∀ m' H', Ev0 m H m' H' → SqT K H' p xs) (al : DvAll K m H xs ds) : WkD K m H (Itt K p) ds stay := by
  refine ⟨fun H => SqT K H p xs, YAt xs, by rw [← al.len]; exact walk_tup, fun m' H' S e w st => hs _ _ e, fun i m' H' S x H2 e w st hi y => ?_⟩
  obtain ⟨rfl, hx⟩ := y
  obtain ⟨d, hd, dv⟩ := (al.up0 e).getV hx
  exact ⟨d, hd, dv, Evo.refl, w⟩
theorem sqT_up {K : PySem.W.Frag} {m : Mp} {H : Hp} {v : V} {ds : List PyData} (dx : Dv K m H v (.tuple ds)) : ∃ p xs, v = .ref p ∧ SqT K H p xs ∧ DvAll K m H xs ds ∧ ∀ m' H', Ev0 m H m' H' → SqT K H' p xs := by
  cases dx with
  | tup e n al => exact ⟨_, _, rfl, SqT.of e, al, fun m' H' ev => SqT.of (ev.kp _ _ e n).1⟩
  | con e al => exact ⟨_, _, rfl, e.sq, al, fun m' H' ev => e.sq⟩
theorem walk_ok {K : PySem.W.Frag} {m : Mp} {H : Hp} {S : Sto} {x : V} {d : PyData} {items : List PyData} {stay : Sto → Prop} (w : Wd K m H S) (dx : Dv K m H x d) (h : walkD S d = some (items, stay)) :
    stay S ∧ ((∃ a, x = .ref a ∧ (((∃ xs, SqL K H a xs) ∧ WkD K m H (Itl K a) items stay) ∨ ((∃ xs, SqT K H a xs) ∧ WkD K m H (Itt K a) items stay))) ∨ ∃ z, x = .str z ∧ WkD K m H (Its z) items stay) := by
  cases dx with
  | non => cases h
  | bl _ => cases h
  | int _ => cases h
  | glo _ => cases h
  | ins => cases h
  | exd => cases h
  | frz e _ n al =>
    cases h
    exact ⟨trivial, .inl ⟨_, rfl, .inr ⟨⟨_, .inl (.inr ⟨_, e⟩)⟩, wk_tup (fun m' H' ev => .inl (.inr ⟨_, (ev.kp _ _ e n).1⟩)) al⟩⟩⟩
  | str z =>
    cases h
    refine ⟨trivial, .inr ⟨z, rfl, fun _ => True, fun i H v H' => H' = H ∧ ∃ c, z.cps[i]? = some c ∧ v = .str ⟨#[c]⟩, ?_, fun _ _ _ _ _ _ => trivial, fun i m' H' S x H2 e w st hi y => ?_⟩⟩
    · have : (signs z).length = z.cps.size := by unfold signs; simp
      rw [this]
      exact walk_str
    · obtain ⟨rfl, c, hc, rfl⟩ := y
      refine ⟨.str ⟨#[c]⟩, ?_, .str _, Evo.refl, w⟩
      unfold signs
      rw [List.getElem?_map]
      have : z.cps.toList[i]? = some c := by rw [Array.getElem?_toList]; exact hc
      rw [this]
      rfl
  | tup e n al =>
    cases h
    exact ⟨trivial, .inl ⟨_, rfl, .inr ⟨⟨_, SqT.of e⟩, wk_tup (fun m' H' ev => SqT.of (ev.kp _ _ e n).1) al⟩⟩⟩
  | con e al =>
    cases h
    exact ⟨trivial, .inl ⟨_, rfl, .inr ⟨⟨_, e.sq⟩, wk_tup (fun m' H' ev => e.sq) al⟩⟩⟩
  | @lst p xs ds e n al =>
    cases h
    refine ⟨trivial, .inl ⟨_, rfl, .inl ⟨⟨_, SqL.of e⟩, fun H => SqL K H p xs, YAt xs, by rw [← al.len]; exact walk_list, fun m' H' S ev w st => SqL.of (ev.kp _ _ e n).1, fun i m' H' S x H2 ev w st hi y => ?_⟩⟩⟩
    obtain ⟨rfl, hx⟩ := y
    obtain ⟨d, hd, dv⟩ := (al.up0 ev).getV hx
    exact ⟨d, hd, dv, Evo.refl, w⟩
  | @cel p n e =>
    have h' : (lstC S n).map (fun ds => (ds, fun S' : Sto => S' n = some (Cell.lst ds))) = some (items, stay) := h
    cases hs : lstC S n with
    | none => rw [hs] at h'; cases h'
    | some ds =>
      rw [hs] at h'
      cases h'
      have hc := lstC_is hs
      obtain ⟨p', xs0, e1, e2, al0⟩ := w.lst hc
      rw [e] at e1
      cases e1
      refine ⟨hc, .inl ⟨_, rfl, .inl ⟨⟨_, SqL.of e2⟩, fun H => ∃ xs, SqL K H p xs ∧ xs.length = items.length, fun i H1 x H2 => H2 = H1 ∧ ∀ xs, SqL K H1 p xs → xs[i]? = some x, ?_, ?_, ?_⟩⟩⟩
      · exact ⟨fun i H1 hi ⟨xs, q, l⟩ => ⟨xs, xs[i]'(by omega), q, by simp [show i < xs.length by omega]⟩, fun H1 ⟨xs, q, l⟩ => ⟨xs, q, by omega⟩, fun i H1 x H2 hi g y => ⟨y.1, y.2⟩⟩
      · intro m' H' S' ev w' st
        obtain ⟨p', xs, e3, e4, al⟩ := w'.lst st
        rw [ev.ext _ _ e] at e3
        cases e3
        exact ⟨xs, SqL.of e4, al.len⟩
      · intro i m' H' S' x H2 ev w' st hi y
        obtain ⟨rfl, y⟩ := y
        obtain ⟨p', xs, e3, e4, al⟩ := w'.lst st
        rw [ev.ext _ _ e] at e3
        cases e3
        obtain ⟨d, hd, dv⟩ := al.getV (y xs (SqL.of e4))
        exact ⟨d, hd, dv, Evo.refl, w'⟩
def dWalk (t : DE) : DI := fun ρ S Q => t ρ S fun d S1 => wh (walkD S1 d) fun w => Q w.1 w.2 S1
theorem qi_any (he : QE X e t) : QI X tg e (dWalk t) := pi_weak (pi_any he) fun σ H R ⟨B, ρ, S, m, Qi, at_, q, k⟩ => ⟨B, ρ, S, m, _, at_, q, fun d S1 x H1 m1 q1 e1 w1 dx => by
  obtain ⟨⟨items, stay⟩, h1, h2⟩ := wh_of q1
  obtain ⟨st, h3⟩ := walk_ok w1 dx h1
  rcases h3 with ⟨a, rfl, ⟨hx, wk⟩ | ⟨hx, wk⟩⟩ | ⟨z, rfl, wk⟩
  · exact .inl ⟨a, rfl, .inl ⟨hx, k _ _ _ _ _ _ h2 e1 w1 st wk⟩⟩
  · exact .inl ⟨a, rfl, .inr ⟨hx, k _ _ _ _ _ _ h2 e1 w1 st wk⟩⟩
  · exact .inr ⟨z, rfl, k _ _ _ _ _ _ h2 e1 w1 st wk⟩⟩
/-! ranges -/
def rangeD (lo c : Int) (n : Nat) : List PyData := (List.range n).map fun i => .int (lo + (i : Nat) * c)
theorem rangeD_len (lo c : Int) (n : Nat) : (rangeD lo c n).length = n := by unfold rangeD; simp
theorem rangeD_get {lo c : Int} {n i : Nat} (h : i < n) : (rangeD lo c n)[i]? = some (.int (lo + (i : Nat) * c)) := by
  unfold rangeD
  rw [List.getElem?_map, List.getElem?_range h]
  rfl
theorem wk_range {K : PySem.W.Frag} {m : Mp} {H : Hp} {lo : Int} {n : Nat} : WkD K m H (Itr lo n) (rangeD lo 1 n) fun _ => True := by
  refine ⟨fun _ => True, YFn fun i => .int (lo + i), by rw [rangeD_len]; exact walk_range, fun _ _ _ _ _ _ => trivial, fun i m' H' S x H2 e w st hi y => ?_⟩
  obtain ⟨rfl, rfl⟩ := y
  rw [rangeD_len] at hi
  refine ⟨_, rangeD_get hi, ?_, Evo.refl, w⟩
  rw [Int.mul_one]
  exact .int _
theorem wk_rangeC {K : PySem.W.Frag} {m : Mp} {H : Hp} {lo c : Int} {n : Nat} : WkD K m H (Itc lo c n) (rangeD lo c n) fun _ => True := by
  refine ⟨fun _ => True, YFn fun i => .int (lo + (i : Nat) * c), by rw [rangeD_len]; exact walk_rangeC, fun _ _ _ _ _ _ => trivial, fun i m' H' S x H2 e w st hi y => ?_⟩
  obtain ⟨rfl, rfl⟩ := y
  rw [rangeD_len] at hi
  exact ⟨_, rangeD_get hi, .int _, Evo.refl, w⟩
def small62 (i : Int) : Prop := -4611686018427387904 ≤ i ∧ i < 4611686018427387904
def dRange1 (aa : DA) : DI := fun ρ S Q => aa ρ S fun ds S1 => match ds with
  | [.int j] => small62 j ∧ Q (rangeD 0 1 j.toNat) (fun _ => True) S1
  | _ => False
def dRange2 (aa : DA) : DI := fun ρ S Q => aa ρ S fun ds S1 => match ds with
  | [.int i, .int j] => (small62 i ∧ small62 j) ∧ Q (rangeD i 1 (j - i).toNat) (fun _ => True) S1
  | _ => False
/-- counting down by one -/
def dRange3 (aa : DA) : DI := fun ρ S Q => aa ρ S fun ds S1 => match ds with
  | [.int i, .int j, .int c] => (c = -1 ∧ small62 i ∧ small62 j) ∧ Q (rangeD i (-1) (i - j).toNat) (fun _ => True) S1
  | _ => False
theorem qi_range1 {p : Pos} (hm : X.mg "range" = none) (hg : Gl X "range") (ha : QA X [a] aa) (hs : starEach [a] X.env = [(false, eval a X.env)] := by rfl) : QI X tg (.Call (.Name "range" p) [a] [] pos) (dRange1 aa) := pi_weak (pi_range1 hg hm ha hs) fun σ H R ⟨B, ρ, S, m, Qi, at_, q, k⟩ =>
  ⟨B, ρ, S, m, _, at_, q, fun ds S1 vs H1 m1 q1 e1 w1 dv => by
    match ds, q1, dv with
    | [.int j], q1, dv =>
      obtain ⟨x, rfl, dx⟩ := dv1 dv
      cases dx
      obtain ⟨⟨h1, h2⟩, h3⟩ := q1
      exact ⟨j, rfl, h1, h2, k _ _ _ _ _ _ h3 e1 w1 trivial wk_range⟩⟩
theorem qi_range2 {p : Pos} (hm : X.mg "range" = none) (hg : Gl X "range") (ha : QA X [a, b] aa) (hs : starEach [a, b] X.env = [(false, eval a X.env), (false, eval b X.env)] := by rfl) (hs2 : starEach [b] X.env = [(false, eval b X.env)] := by rfl) : QI X tg (.Call (.Name "range" p) [a, b] [] pos) (dRange2 aa) := pi_weak (pi_range2 hg hm ha hs hs2) fun σ H R ⟨B, ρ, S, m, Qi, at_, q, k⟩ =>
  ⟨B, ρ, S, m, _, at_, q, fun ds S1 vs H1 m1 q1 e1 w1 dv => by
    match ds, q1, dv with
    | [.int i, .int j], q1, dv =>
      obtain ⟨x, y, rfl, dx, dy⟩ := dv2 dv
      cases dx
      cases dy
      obtain ⟨⟨⟨h1, h2⟩, h3, h4⟩, h5⟩ := q1
      exact ⟨i, j, rfl, ⟨h1, h2, h3, h4⟩, k _ _ _ _ _ _ h5 e1 w1 trivial wk_range⟩⟩
theorem qi_range3 {p : Pos} (hm : X.mg "range" = none) (hg : Gl X "range") (ha : QA X [a, b, c] aa) (hs : starEach [a, b, c] X.env = (false, eval a X.env) :: starEach [b, c] X.env := by rfl) (hpl : (backTo pos (starEach [b, c] X.env)).any (·.1) = false := by rfl) : QI X tg (.Call (.Name "range" p) [a, b, c] [] pos) (dRange3 aa) := pi_weak (pi_range3 hg hm ha hs hpl) fun σ H R ⟨B, ρ, S, m, Qi, at_, q, k⟩ =>
  ⟨B, ρ, S, m, _, at_, q, fun ds S1 vs H1 m1 q1 e1 w1 dv => by
    match ds, q1, dv with
    | [.int i, .int j, .int c], q1, dv =>
      obtain ⟨x, y, z, rfl, dx, dy, dz⟩ := dv3 dv
      cases dx
      cases dy
      cases dz
      obtain ⟨⟨rfl, ⟨h1, h2⟩, h3, h4⟩, h5⟩ := q1
      exact ⟨i, j, -1, _, rfl, RgC.neg h1 h2 h3 h4, k _ _ _ _ _ _ h5 e1 w1 trivial wk_rangeC⟩⟩
/-! enumerate -/
def enumD (ds : List PyData) : List PyData := ds.zipIdx.map fun p => .tuple [.int (p.2 : Nat), p.1]
theorem enumD_len (ds : List PyData) : (enumD ds).length = ds.length := by unfold enumD; simp
theorem enumD_get {ds : List PyData} {i : Nat} {d : PyData} (h : ds[i]? = some d) : (enumD ds)[i]? = some (.tuple [.int (i : Nat), d]) := by
  unfold enumD
  rw [List.getElem?_map, List.getElem?_zipIdx, h]
  simp
theorem pair_new {K : PySem.W.Frag} {m : Mp} {H : Hp} {S : Sto} {T : Addr} {x y : V} {a b : PyData} (w : Wd K m H S) (hT : H T = none) (dx : Dv K m H x a) (dy : Dv K m H y b) : Dv K m (upd H T (.tup [x, y])) (.ref T) (.tuple [a, b]) :=
  .tup upd_same (w.noCe hT) (.cons (dx.up (Evo.new w hT)) (.cons (dy.up (Evo.new w hT)) .nil))
theorem wk_enumT {K : PySem.W.Frag} {m : Mp} {H : Hp} {p : Addr} {xs : List V} {ds : List PyData} (hs : ∀ m' H', Ev0 m H m' H' → SqT K H' p xs) (al : DvAll K m H xs ds) : WkD K m H (IteT K p) (enumD ds) fun _ => True := by
  refine ⟨fun H => SqT K H p xs, YPair (fun i => some (.int (i : Nat))) (fun i => xs[i]?), by rw [enumD_len, ← al.len]; exact walk_enumT, fun m' H' S e w st => hs _ _ e, fun i m' H' S x H2 e w st hi y => ?_⟩
  obtain ⟨T, u, v, rfl, hT, rfl, e1, e2⟩ := y
  cases e1
  obtain ⟨d, hd, dv⟩ := (al.up0 e).getV e2
  exact ⟨_, enumD_get hd, pair_new w hT (.int _) dv, Evo.new w hT, w.new hT⟩
def dEnumT (aa : DA) : DI := fun ρ S Q => aa ρ S fun ds S1 => match ds with
  | [.tuple es] => Q (enumD es) (fun _ => True) S1
  | _ => False
theorem qi_enumT {p tpos : Pos} {elts : List Expr} {kk : Nat} (hm : X.mg "enumerate" = none) (hg : Gl X "enumerate") (ha : QA X [e] aa) (hs : starEach [e] X.env = [(false, eval e X.env)] := by rfl) : QI X (.Tuple elts kk tpos) (.Call (.Name "enumerate" p) [e] [] pos) (dEnumT aa) := pi_weak (pi_enumT hg hm ha hs) fun σ H R ⟨B, ρ, S, m, Qi, at_, q, k⟩ =>
  ⟨B, ρ, S, m, _, at_, q, fun ds S1 vs H1 m1 q1 e1 w1 dv => by
    match ds, q1, dv with
    | [.tuple es], q1, dv =>
      obtain ⟨x, rfl, dx⟩ := dv1 dv
      obtain ⟨p, xs, rfl, hx, al, hs⟩ := sqT_up dx
      exact ⟨p, xs, rfl, hx, k _ _ _ _ _ _ q1 e1 w1 trivial (wk_enumT hs al)⟩⟩
/-! for -/
def dFor (di : DI) (g : DG) (tb : DS) : DS := fun D ρ S => di ρ S fun items stay S1 => ∃ W : Nat → Rho → Sto → Prop, W 0 ρ S1 ∧ (∀ i ρ S, W i ρ S → stay S) ∧
  (∀ i d ρ S, items[i]? = some d → W i ρ S → g d ρ S fun ρ2 S2 => tb { D with nx := W (i + 1), ct := W (i + 1), bk := D.nx } ρ2 S2) ∧ ∀ ρ S, W items.length ρ S → D.nx ρ S
theorem qs_for {md : Md} {body : List Stmt} (hp : PassesOwn (model X.prog X.w) X.A X.env X.xe) (hc : X.calm = true) (hi : QI X tg e di) (hg : QG X tg g) (hb : QSs X body d1)
    (hs : ∀ x, foldedSetIterable e X.env x = pure x := by intro _; rfl) : QS X (.For tg e body [] pos) (dFor di g d1) := ps_weak (ps_for hp hc hi hg hb hs) fun D σ H ⟨B, ρ, S, m, Dd, at_, q, k⟩ =>
  ⟨B, ρ, S, m, _, at_, q, fun items stay S1 H1 m1 J q1 e1 w1 st1 wk => by
    obtain ⟨W, h0, hst, hstep, hdone⟩ := q1
    obtain ⟨G, Y, walk, hG, hY⟩ := wk.ex
    have eb : Evo B.1 B.2 m1 H1 := at_.ev.trans e1
    refine for_it walk (fun i σ H => ∃ ρ S m, At X.K (m1, H1) σ H ρ S m ∧ W i ρ S) ⟨ρ, S1, m1, ⟨Evo.refl, w1, (at_.step e1 w1).fr⟩, h0⟩ ?_ ?_ ?_
    · rintro i σ H _ ⟨ρ, S, m, at_, hW⟩
      exact hG m H S at_.ev.toEv0 at_.wd (hst i ρ S hW)
    · rintro i x σ H H' hi ⟨ρ, S, m, at_, hW⟩ y
      obtain ⟨d, hd, dv, e2, w2⟩ := hY i m H S x H' at_.ev.toEv0 at_.wd (hst i ρ S hW) hi y
      refine ⟨d, (m1, H1), ρ, S, m, _, at_.step e2 w2, dv, hstep i d ρ S hd hW, fun ρ' S' σ' H2 m2 q2 _ at2 => ⟨(m1, H1), ρ', S', m2, _, at2, q2, ?_⟩⟩
      exact ⟨fun ρ S σ H m q a => ⟨ρ, S, m, a, q⟩, fun d S v H m q e w dv => k.rt _ _ _ _ _ q (eb.trans e) w dv, fun ρ S σ H m q a => k.nx _ _ _ _ _ q (At.base (B1 := (m1, H1)) eb a), fun ρ S σ H m q a => ⟨ρ, S, m, a, q⟩, k.xt.base (B1 := (m1, H1)) eb⟩
    · rintro σ H ⟨ρ, S, m, at_, hW⟩
      exact k.nx _ _ _ _ _ (hdone ρ S hW) (At.base (B1 := (m1, H1)) eb at_)⟩
/-! while -/
def dWhile (c : DT) (tb : DS) : DS := fun D ρ S => ∃ W : Nat → Rho → Sto → Prop, (∃ n, W n ρ S) ∧ ∀ n ρ S, W n ρ S →
  c ρ S fun b S1 => if b = true then tb { D with nx := fun ρ' S' => ∃ n', n' < n ∧ W n' ρ' S', ct := fun ρ' S' => ∃ n', n' < n ∧ W n' ρ' S', bk := D.nx } ρ S1 else D.nx ρ S1
theorem qs_while {md : Md} {body : List Stmt} (hp : PassesOwn (model X.prog X.w) X.A X.env X.xe) (hc : QT X c u) (hb : QSs X body d1) : QS X (.While c body [] pos) (dWhile u d1) := ps_weak (ps_while hp hc hb) fun D σ H ⟨B, ρ, S, m, Dd, at_, q, k⟩ => by
  obtain ⟨W, ⟨n0, h0⟩, hstep⟩ := q
  refine ⟨fun n σ H => ∃ ρ S m, At X.K B σ H ρ S m ∧ W n ρ S, ⟨n0, ρ, S, m, at_, h0⟩, ?_⟩
  rintro n σ H ⟨ρ, S, m, at_, hW⟩
  refine ⟨B, ρ, S, m, _, at_, hstep n ρ S hW, fun b S1 H1 m1 q e w => ?_⟩
  cases b with
  | true =>
    refine iteT ⟨fun σ' H' => ∃ n', n' < n ∧ ∃ ρ S m, At X.K B σ' H' ρ S m ∧ W n' ρ S, fun σ' H' z => z, B, ρ, S1, m1, _, at_.step e w, q, ?_⟩
    exact ⟨fun ρ S σ H m ⟨n', l, q⟩ a => ⟨n', l, ρ, S, m, a, q⟩, k.rt, k.nx, fun ρ S σ H m ⟨n', l, q⟩ a => ⟨n', l, ρ, S, m, a, q⟩, k.xt⟩
  | false => exact iteF (k.nx _ _ _ _ _ q (at_.step e w))
/-! comprehensions -/
theorem Fr.up0 {K : PySem.W.Frag} {m m' : Mp} {H H' : Hp} (e : Ev0 m H m' H') : ∀ (σ : L2.St) (ρ : Rho), Fr K m H σ ρ → Fr K m' H' σ ρ
  | [], [], _ => trivial
  | x :: σ, d :: ρ, h => ⟨fun z q => by
      obtain ⟨v, h1, h2⟩ := h.1 z q
      exact ⟨v, h1, h2.up0 e⟩, Fr.up0 e σ ρ h.2⟩
  | [], _ :: _, h => h.elim
  | _ :: _, [], h => h.elim
/-- what is bound at each turn -/
structure Bnd (K : PySem.W.Frag) (g : TG) (bd : PyData → Rho → Option Rho) (vs : List Nat) : Prop where
  ok : ∀ (m : Mp) (H : Hp) (d : PyData) (v : V) (ρ ρ' : Rho) (σ : L2.St) (Q : L2.St → Hp → Prop), Dv K m H v d → Fr K m H σ ρ → bd d ρ = some ρ' → (∀ σ', Fr K m H σ' ρ' → wipe σ' vs = wipe σ vs → Q σ' H) → g v σ H Q
theorem bnd_one {K : PySem.W.Frag} {i : Nat} {vs : List Nat} (h : i ∈ vs) : Bnd K (gName i) (fun d ρ => some (st ρ i d)) vs := ⟨fun m H d v ρ ρ' σ Q dv f e k => by
  cases e
  exact k _ (f.set dv _ _ i) (wipe_set_mem vs σ i h)⟩
def tupNms (is : List Nat) : PyData → Rho → Option Rho
  | .tuple ds, ρ => dNms is ds ρ
  | _, _ => none
theorem dNms_len : ∀ (is : List Nat) (ds : List PyData) (ρ ρ' : Rho), dNms is ds ρ = some ρ' → ds.length = is.length
  | [], [], _, _, _ => rfl
  | i :: is, d :: ds, ρ, ρ', e => by rw [List.length_cons, List.length_cons, dNms_len is ds _ ρ' e]
  | [], _ :: _, _, _, e => nomatch e
  | _ :: _, [], _, _, e => nomatch e
theorem bnd_tup {K : PySem.W.Frag} {is : List Nat} {vs : List Nat} (h : ∀ i ∈ is, i ∈ vs) : Bnd K (gTup K is.length (gNms is)) (tupNms is) vs := ⟨fun m H d v ρ ρ' σ Q dv f e k => by
  obtain ⟨ds, rfl⟩ : ∃ ds, d = .tuple ds := by
    cases d <;> first | exact ⟨_, rfl⟩ | cases e
  have e' : dNms is ds ρ = some ρ' := e
  obtain ⟨p, xs, rfl, hx, al⟩ := dv.seqT
  exact ⟨p, xs, rfl, hx, by rw [al.len, dNms_len is ds ρ ρ' e'], nms_dv is ds ρ ρ' xs σ Q al f e' fun σ' f' hw => k σ' f' (hw vs h)⟩⟩
/-- [elt for .. in .. if ..]: W by the turn, what is made so far, the store -/
def dLc (di : DI) (bd : PyData → Rho → Option Rho) (tt : DT) (te : DE) (vs : List Nat) : DE := fun ρ S Q => di ρ S fun items stay S1 => ∃ W : Nat → List PyData → Sto → Prop, W 0 [] S1 ∧ (∀ i acc S, W i acc S → stay S ∧ acc.length < 1000000) ∧
  (∀ i d acc S, items[i]? = some d → W i acc S → wh (bd d (uns ρ vs)) fun ρ2 => tt ρ2 S fun b S2 => if b = true then te ρ2 S2 fun y S3 => W (i + 1) (acc ++ [y]) S3 else W (i + 1) acc S2) ∧
  ∀ acc S, W items.length acc S → Q (.list acc) S
theorem wipe_wipe {σ : L2.St} {vs : List Nat} : ∀ {ws : List Nat}, (∀ i ∈ ws, i ∈ vs) → wipe (wipe σ ws) vs = wipe σ vs
  | [], _ => rfl
  | w :: ws, h => by
    show wipe ((wipe σ ws).set w none) vs = wipe σ vs
    rw [wipe_set_mem vs _ w (h w List.mem_cons_self), wipe_wipe fun i hi => h i (List.mem_cons_of_mem _ hi)]
theorem lc_dv {K : PySem.W.Frag} {g : TG} {bd : PyData → Rho → Option Rho} {tt : DT} {te : DE} {vs : List Nat} {σ : L2.St} {H : Hp} {Q : VK} (hb : Bnd K g bd vs) (h : lft K (dLc di bd tt te vs) σ H Q) : tLc (lftI K di) g (lftT K tt) (lft K te) vs σ H Q := by
  obtain ⟨B, ρ, S, m, Qd, at_, q, k⟩ := h
  refine ⟨B, ρ, S, m, _, at_, q, fun items stay S1 H1 m1 J q1 e1 w1 st1 wk => ?_⟩
  obtain ⟨W, h0, hst, hstep, hdone⟩ := q1
  obtain ⟨G, Y, walk, hG, hY⟩ := wk.ex
  intro D hD
  have ev1 : Ev0 m1 H1 (hide m1 D) (upd H1 D (.lst [])) := Ev0.hide w1 hD
  have fr1 := (at_.step e1 w1).fr
  -- at a turn: what is made so far stands hidden at D
  refine lc_it walk (fun i H => ∃ (acc : List PyData) (S : Sto) (m : Mp) (xs : List V), W i acc S ∧ Ev0 m1 H1 m H ∧ Wd K m H S ∧ (∀ a, m.z a ↔ (a = D ∨ m1.z a)) ∧ (∀ a o, m1.z a → H1 a = some o → H a = some o) ∧ H D = some (.lst xs) ∧ DvAll K m H xs acc) ?_ ?_ ?_ ?_
  · exact ⟨[], S1, hide m1 D, [], h0, ev1, w1.hide hD, fun a => Iff.rfl, fun a o z e => by rw [upd_ne (ne_of_none e hD)]; exact e, upd_same, .nil⟩
  · rintro i H _ ⟨acc, S, m, xs, hW, ev, w, _, _, _, _⟩
    exact hG m H S ev w (hst i acc S hW).1
  · rintro i x H H' hi ⟨acc, S, m, xs, hW, ev, w, hz, hk, hH, al⟩ y
    obtain ⟨d, hd, dv, e2, w2⟩ := hY i m H S x H' ev w (hst i acc S hW).1 hi y
    obtain ⟨ρ2, hb2, q2⟩ := wh_of (hstep i d acc S hd hW)
    have lacc := (hst i acc S hW).2
    have zD : m.z D := (hz D).mpr (.inl rfl)
    have H'D : H' D = some (.lst xs) := e2.zk D _ zD hH
    have ev2 : Ev0 m1 H1 m H' := ev.trans e2.toEv0
    have frw : Fr K m H' (wipe σ vs) (uns ρ vs) := (Fr.up0 ev2 _ _ fr1).wipe _ _ vs
    refine hb.ok m H' d x (uns ρ vs) ρ2 (wipe σ vs) _ dv frw hb2 fun σ' f' hw' => ⟨?_, ?_⟩
    · rw [hw', wipe_wipe fun _ z => z]
    · refine ⟨(m, H'), ρ2, S, m, _, ⟨Evo.refl, w2, f'⟩, q2, fun b S2 H2 m2 q3 e3 w3 => ?_⟩
      have hk2 : ∀ a o, m1.z a → H1 a = some o → H2 a = some o := fun a o z e => e3.zk a o ((hz a).mpr (.inr z)) (e2.zk a o ((hz a).mpr (.inr z)) (hk a o z e))
      have hz2 : ∀ a, m2.z a ↔ (a = D ∨ m1.z a) := fun a => (e3.hz a).trans (hz a)
      have H2D : H2 D = some (.lst xs) := e3.zk D _ zD H'D
      cases b with
      | false => exact iteF ⟨acc, S2, m2, xs, q3, ev2.trans e3.toEv0, w3, hz2, hk2, H2D, (al.up e2).up e3⟩
      | true =>
        refine iteT ⟨(m, H'), ρ2, S2, m2, _, ⟨e3, w3, f'.up e3⟩, q3, fun y S3 v H3 m3 q4 e4 w4 dy => ?_⟩
        have zD2 : m2.z D := (hz2 D).mpr (.inl rfl)
        have H3D : H3 D = some (.lst xs) := e4.zk D _ zD2 H2D
        have zD3 : m3.z D := (e4.hz D).mpr zD2
        have al3 := ((al.up e2).up e3).up e4
        refine ⟨xs, H3D, by rw [al3.len, sizeLine_eq]; omega, acc ++ [y], S3, m3, xs ++ [v], q4, ?_, w4.turn zD3, fun a => (e4.hz a).trans (hz2 a), fun a o z e => ?_, upd_same, (al3.app (.cons dy .nil)).up0 (Ev0.turn zD3)⟩
        · exact ((ev2.trans e3.toEv0).trans e4.toEv0).trans (Ev0.turn zD3)
        · have : a ≠ D := ne_of_none e hD
          rw [upd_ne this]
          exact e4.zk a o ((hz2 a).mpr (.inr z)) (hk2 a o z e)
  · rintro H ⟨acc, S, m, xs, hW, ev, w, hz, hk, hH, al⟩
    have q := hdone acc S hW
    have nz : ¬ m1.z D := fun z => by
      obtain ⟨o, e⟩ := w1.ztr D z
      rw [hD] at e
      cases e
    have e5 : Evo m1 H1 (bare m D) H := ⟨ev.trans Ev0.bare, fun a => by
      show (a ≠ D ∧ m.z a) ↔ m1.z a
      rw [hz a]
      constructor
      · rintro ⟨h1, h2⟩
        exact h2.resolve_left h1
      · intro h1
        exact ⟨fun e => nz (by rw [← e]; exact h1), .inr h1⟩, hk⟩
    have zD : m.z D := (hz D).mpr (.inl rfl)
    have nc : ∀ n, m.c n ≠ some D := fun n e => w.hid n D e zD
    refine k _ _ _ _ _ q (e1.trans e5) w.bare (.lst hH ?_ (al.up0 Ev0.bare))
    rintro (⟨n, e⟩ | e)
    · exact nc n e
    · exact e.1 rfl
end
section
variable {X : Cx} {e tg elt : Expr} {di : DI} {tt : DT} {te : DE} {pos : Pos}
def dYes : DT := fun _ S Q => Q true S
structure QTs (X : Cx) (ifs : List Expr) (t : DT) : Prop where
  p : PTs X ifs (lftT X.K t)
theorem qts_nil : QTs X [] dYes := ⟨⟨fun pins s σ H Q I ⟨B, ρ, S, m, Qd, at_, q, k⟩ => pts_nil.run pins s σ H Q I (k _ S H m q Evo.refl at_.wd)⟩⟩
theorem qts_one {c : Expr} {u : DT} (h : QT X c u) : QTs X [c] u := ⟨pts_one h⟩
theorem q_lc {ifs : List Expr} {scope : Scope} {own : List (Str × Nat)} {g : TG} {bd : PyData → Rho → Option Rho} (hc : X.calm = true) (hN : X.N.Nodup) (hi : QI X tg e di) (ok : BlkOk X.N X.env.scope scope own) (hbd : Bnd X.K g bd (own.map (·.2)))
    (hg : ∀ (s : Shared) (H : Hp) (C : Addr) (cl : List (Str × Addr)) (fp : List Addr), PG (X.blk s H scope (compEnvC scope cl C X.env) fp) tg g) (ht : ∀ (s : Shared) (H : Hp) (C : Addr) (cl : List (Str × Addr)) (fp : List Addr), QTs (X.blk s H scope (compEnvC scope cl C X.env) fp) ifs tt)
    (he : ∀ (s : Shared) (H : Hp) (C : Addr) (cl : List (Str × Addr)) (fp : List Addr), QE (X.blk s H scope (compEnvC scope cl C X.env) fp) elt te) (hs : ∀ x, foldedSetIterable e X.env x = pure x := by intro _; rfl) :
    QE X (.ListComp elt [⟨tg, e, ifs, 0⟩] scope pos) (dLc di bd tt te (own.map (·.2))) := pe_weak (pe_lc (own := own) (g := g) hc hN hi ok hg (fun s H C cl fp => (ht s H C cl fp).p) he hs) fun σ H Q h => lc_dv hbd h
theorem qs_setLc {md : Md} {i : Nat} {y : Str} {py spos : Pos} {ifs : List Expr} {scope : Scope} {own : List (Str × Nat)} {g : TG} {bd : PyData → Rho → Option Rho} (hc : X.calm = true) (hN : X.N.Nodup) (hy : X.N[i]? = some y) (hyl : X.env.scope.names.lookup y = some .local)
    (hsw : swapsWith (.ListComp elt [⟨tg, e, ifs, 0⟩] scope pos) (some (.Name y py)) spos.line X.env = pure true) (hi : QI X tg e di) (ok : BlkOk X.N X.env.scope scope own) (hbd : Bnd X.K g bd (own.map (·.2)))
    (hg : ∀ (s : Shared) (H : Hp) (C : Addr) (cl : List (Str × Addr)) (fp : List Addr), PG (X.blk s H scope (compEnvC scope cl C X.env) fp) tg g) (ht : ∀ (s : Shared) (H : Hp) (C : Addr) (cl : List (Str × Addr)) (fp : List Addr), QTs (X.blk s H scope (compEnvC scope cl C X.env) fp) ifs tt)
    (he : ∀ (s : Shared) (H : Hp) (C : Addr) (cl : List (Str × Addr)) (fp : List Addr), QE (X.blk s H scope (compEnvC scope cl C X.env) fp) elt te) (hs : ∀ x, foldedSetIterable e X.env x = pure x := by intro _; rfl) :
    QS X (.Assign [.Name y py] (.ListComp elt [⟨tg, e, ifs, 0⟩] scope pos) spos) (dSet i (dLc di bd tt te (own.map (·.2)))) := ps_weak (ps_setLc (own := own) (g := g) hc hN hy hyl hsw hi ok hg (fun s H C cl fp => (ht s H C cl fp).p) he hs) fun D σ H ⟨B, ρ, S, m, Dd, at_, q, k⟩ => by
  have q' : dLc di bd tt te (own.map (·.2)) ρ S (fun d S1 => Dd.nx (st ρ i d) S1) := q
  exact lc_dv hbd ⟨B, ρ, S, m, _, at_, q', fun d S' v H' m' q e w dv => k.nx _ _ _ _ _ q ((at_.step e w).setv dv)⟩
end
end K3

/-! the plain layer: defs and their calls -/
namespace K3
open PySem L2 Xr K1
/-- what is wanted of an error: its class, its fields, the store -/
abbrev DX := Addr → List (Str × PyData) → Sto → Prop
abbrev X0 : DX := fun _ _ _ => False
/-- a plain promise -/
abbrev SpD := List PyData → Sto → DK → DX → Prop
def Kx (K : PySem.W.Frag) (m : Mp) (H : Hp) (E : XK) (Ed : DX) : Prop := ∀ C fs S' H' m' dd ys, Ed C fs S' → Evo m H m' H' → Wd K m' H' S' → H' dd = some (.xd ys) → ¬ Ce m' dd → ys.map Prod.fst = fs.map Prod.fst → DvAll K m' H' (ys.map Prod.snd) (fs.map Prod.snd) → E (.ref C) (some dd) H'
def spD (K : PySem.W.Frag) (f : SpD) : Sp := fun vs H Q E => ∃ m S ds Qd Ed, Wd K m H S ∧ DvAll K m H vs ds ∧ f ds S Qd Ed ∧ Kq K m H Q Qd ∧ Kx K m H E Ed
theorem spD_len {K : PySem.W.Frag} {f : SpD} {n : Nat} (h : ∀ ds S Q E, f ds S Q E → ds.length = n) : ∀ vs H Q E, spD K f vs H Q E → vs.length = n := fun vs H Q E ⟨m, S, ds, Qd, Ed, w, dv, q, k, x⟩ => by
  rw [dv.len]
  exact h _ _ _ _ q
theorem Kx.no {K : PySem.W.Frag} {m : Mp} {H : Hp} {E : XK} : Kx K m H E X0 := fun _ _ _ _ _ _ _ h => h.elim
def startD (N : List Str) (ds : List PyData) : Rho := ds.map some ++ List.replicate (N.length - ds.length) none
theorem start_fr {K : PySem.W.Frag} {m : Mp} {H : Hp} {N : List Str} {vs : List V} {ds : List PyData} (h : DvAll K m H vs ds) : Fr K m H (L2.start N vs) (startD N ds) := by
  unfold L2.start startD
  rw [h.len]
  exact Fr.app h (Fr.none _)
/-- the calls of an exception-free body -/
theorem passE0 {X : Cx} : Passes (L2.CX X.prog X.w) X E0 := fun _ _ _ _ _ _ _ h => by
  obtain ⟨_, _, _, _, _, _, _, _, _, _, _, _, q⟩ := h
  exact q.elim
section
variable {P : Program} {w : World} {K : PySem.W.Frag} {mg : Str → Option Value} {base : Heap}
theorem body_dv {X : Cx} {t : DS} {N : List Str} {sp : SpD} {vs : List V} {H : Hp} {Q : VK} {E : XK} (hK : X.K = K)
    (hz : ∀ a, H a = none → X.H_0 a = none) (h : spD K sp vs H Q E) (hr : ∀ ds S Qd Ed, sp ds S Qd Ed → t { nx := fun _ S' => Qd .none S', rt := Qd } (startD N ds) S) : lftS X.K (Wm X) t { nx := fun _ H' => Q .non H', rt := Q } (L2.start N vs) H := by
  subst hK
  obtain ⟨m, S, ds, Qd, Ed, w, dv, q, k, x⟩ := h
  refine ⟨(m, H), startD N ds, S, m, _, ⟨Evo.refl, w, start_fr dv⟩, hr ds S Qd Ed q, ?_⟩
  exact ⟨fun ρ S σ H' m' q a => k _ S _ H' m' q a.ev a.wd .non, fun d S v H' m' q e w dv => k _ S _ H' m' q e w dv, fun _ _ _ _ _ q _ => q.elim, fun _ _ _ _ _ q _ => q.elim, Lk.no hz⟩
/-- a def by its body's term, and what is to be shown -/
theorem dok {x qual : Str} {s1 : Stmt} {f : Addr} {fd : FuncData} {N ps : List Str} {k : Nat} {sp : SpD} (F : Fun K x qual s1 f fd) (S : FnScope N ps (defScope s1)) (len : ∀ ds S Q E, sp ds S Q E → ds.length = ps.length)
    (hbody : ∀ (cdv : Value) (A : Around) (outer : List Env) (s : Shared) (H : Hp) (Q : VK) (E : XK), Room k (A.deeper (PyProof.Rows.envOfC qual (defScope s1) s.heap.objs.size f cdv)) →
      ∃ t, QSs (cxOf CX0 P w K mg base N qual (defScope s1) f cdv A outer s H E).nox (defBody s1) t ∧ ∀ ds S Qd Ed, sp ds S Qd Ed → t { nx := fun _ S' => Qd .none S', rt := Qd } (startD N ds) S) : FnOk P w K mg base CX0 (k + 1) f fd ps (spD K sp) := by
  refine F.ok S (spD_len len) fun cdv A outer s H vs Q E hr h => ?_
  obtain ⟨t, ht, hq⟩ := hbody cdv A outer s H Q E hr
  exact ⟨_, ht, body_dv rfl (fun _ z => z) h hq⟩
/-- the same where repr is asked -/
theorem dokG {x qual : Str} {s1 : Stmt} {f : Addr} {fd : FuncData} {N ps : List Str} {k : Nat} {sp : SpD} (F : Fun K x qual s1 f fd) (S : FnScope N ps (defScope s1)) (len : ∀ ds S Q E, sp ds S Q E → ds.length = ps.length)
    (hbody : ∀ (cdv : Value) (A : Around) (outer : List Env) (s : Shared) (H : Hp) (Q : VK) (E : XK), A.guards = some [] → Room k (A.deeper (PyProof.Rows.envOfC qual (defScope s1) s.heap.objs.size f cdv)) →
      ∃ t, QSs (cxOf CX0 P w K mg base N qual (defScope s1) f cdv A outer s H E) (defBody s1) t ∧ ∀ ds S Qd Ed, sp ds S Qd Ed → t { nx := fun _ S' => Qd .none S', rt := Qd } (startD N ds) S) : Grd.FnG P w K mg base CX0 (k + 1) f fd ps (spD K sp) := by
  refine Grd.fng_of F S (spD_len len) fun cdv A outer s H vs Q E gd hr h => ?_
  obtain ⟨t, ht, hq⟩ := hbody cdv A outer s H Q E gd hr
  exact ⟨_, ht, body_dv rfl (fun _ z => z) h hq⟩
end
theorem at0K {CX : CXT} {X : Cx} {E : XK} (h : Passes CX X E) (σ : L2.St) : PassesAt CX X σ E := fun pins H s e s' I c => h pins σ H s e s' I c
section
variable {X : Cx} {CX : CXT} {j k : Nat} {f : Addr} {fd : FuncData} {ps : List Str} {sp : SpD} {x : Str} {p pos : Pos} {e : Expr} {es : List Expr} {aa : DA}
def dFn (sp : SpD) (aa : DA) : DE := fun ρ S Q => aa ρ S fun ds S1 => sp ds S1 Q X0
theorem fn_dv {σ : L2.St} {H : Hp} {Q : VK} (h : lft X.K (dFn sp aa) σ H Q) : tCall (spD X.K sp) [] E0 (lftA X.K aa) σ H Q := by
  obtain ⟨B, ρ, S, m, Qd, at_, q, k⟩ := h
  refine ⟨B, ρ, S, m, _, at_, q, fun ds S' vs H' m' q e w dv => ?_⟩
  show spD X.K sp (vs ++ []) H' Q E0
  rw [List.append_nil]
  exact ⟨m', S', ds, Qd, X0, w, dv, q, k.up e, Kx.no⟩
/-- f(e, ..) -/
theorem q_call (hr : Room k X.A) (F : FnOk X.prog X.w X.K X.mg X.base CX0 j f fd ps (spD X.K sp)) (hm : X.mg x = some (.ref f)) (hk : PySem.W.keepIn X.K (.ref f) = true) (hb : Binds X.K fd ps []) (hg : Gl X x) (hl : j ≤ k)
    (ha : QA X (e :: es) aa) (hdb : (x == ("__debug__" : Str)) = false := by decide) (he : starEach (e :: es) X.env = (false, eval e X.env) :: starEach es X.env := by rfl) (hpl : (backTo pos (starEach es X.env)).any (·.1) = false := by rfl) :
    QE X (.Call (.Name x p) (e :: es) [] pos) (dFn sp aa) := pe_weak (pe_call F (hr.mono hl) hg hm hk hb .nil pass0 ha hdb he hpl) fun σ H Q h => fn_dv h
/-- f(e, ..), f one that may raise, but doesn't here -/
theorem q_callN (hr : Room k X.A) (F : FnOk X.prog X.w X.K X.mg X.base (L2.CX X.prog X.w) j f fd ps (spD X.K sp)) (hm : X.mg x = some (.ref f)) (hk : PySem.W.keepIn X.K (.ref f) = true) (hb : Binds X.K fd ps []) (hg : Gl X x) (hl : j ≤ k)
    (ha : QA X (e :: es) aa) (hdb : (x == ("__debug__" : Str)) = false := by decide) (he : starEach (e :: es) X.env = (false, eval e X.env) :: starEach es X.env := by rfl) (hpl : (backTo pos (starEach es X.env)).any (·.1) = false := by rfl) :
    QE X (.Call (.Name x p) (e :: es) [] pos) (dFn sp aa) := pe_weak (pe_call F (hr.mono hl) hg hm hk hb .nil passE0 ha hdb he hpl) fun σ H Q h => fn_dv h
/-- f(e, ..), f asks repr -/
theorem q_callG (gd : X.A.guards = some []) (hr : Room k X.A) (F : Grd.FnG X.prog X.w X.K X.mg X.base CX0 j f fd ps (spD X.K sp)) (hm : X.mg x = some (.ref f)) (hk : PySem.W.keepIn X.K (.ref f) = true) (hb : Binds X.K fd ps []) (hg : Gl X x) (hl : j ≤ k)
    (ha : QA X (e :: es) aa) (hdb : (x == ("__debug__" : Str)) = false := by decide) (he : starEach (e :: es) X.env = (false, eval e X.env) :: starEach es X.env := by rfl) (hpl : (backTo pos (starEach es X.env)).any (·.1) = false := by rfl) :
    QE X (.Call (.Name x p) (e :: es) [] pos) (dFn sp aa) := pe_weak (Grd.pe_callG F gd (hr.mono hl) hg hm hk hb pass0 ha hdb he hpl) fun σ H Q h => fn_dv h
/-- keywords -/
abbrev DKs := DA
structure QK (X : Cx) (ks : List Keyword) (t : DA) : Prop where
  p : PK X ks (lftA X.K t)
theorem pk_weak {X : Cx} {e : List Keyword} {t t' : TA} (h : PK X e t) (i : ∀ σ H Q, t' σ H Q → t σ H Q) : PK X e t' := ⟨fun w pins s σ H Q I q => h.run w pins s σ H Q I (i _ _ _ q)⟩
theorem qk_nil : QK X [] dNil := ⟨pk_weak pk_nil fun σ H Q ⟨B, ρ, S, m, Qd, at_, q, k⟩ => k [] S [] H m q Evo.refl at_.wd .nil⟩
theorem qk_cons {t : DE} {nm : Option Str} {kpos : Pos} {kws : List Keyword} (ha : QE X e t) (hr : QK X kws aa) : QK X (⟨nm, e, kpos⟩ :: kws) (dCons t aa) := ⟨pk_weak (pk_cons ha hr.p) fun σ H Q ⟨B, ρ, S, m, Qd, at_, q, k⟩ =>
  ⟨B, ρ, S, m, _, at_, q, fun d S' v H' m' q e w dv => ⟨B, ρ, S', m', _, at_.step e w, q, fun ds S2 vs H2 m2 q2 e2 w2 dvs => k _ S2 _ H2 m2 q2 (e.trans e2) w2 (.cons (dv.up e2) dvs)⟩⟩⟩
theorem q_call0 (hr : Room k X.A) (F : FnOk X.prog X.w X.K X.mg X.base CX0 j f fd ps (spD X.K sp)) (hm : X.mg x = some (.ref f)) (hk : PySem.W.keepIn X.K (.ref f) = true) (hb : Binds X.K fd ps []) (hg : Gl X x) (hl : j ≤ k) (hdb : (x == ("__debug__" : Str)) = false := by decide) :
    QE X (.Call (.Name x p) [] [] pos) (dFn sp dNil) := pe_weak (pe_call0 F (hr.mono hl) hg hm hk hb .nil pass0 hdb) fun σ H Q ⟨B, ρ, S, m, Qd, at_, q, k⟩ => ⟨m, S, [], Qd, X0, at_.wd, .nil, q, k, Kx.no⟩
/-- how keywords alone bind -/
def BindsK (fd : FuncData) (ps ks : List Str) : Prop := ∀ (s : Shared) (us : List Value), us.length = ps.length → BindsTo s fd ⟨[], ks.zip us⟩ (ps.zip us)
theorem pe_kwA {CX : CXT} {sp : Sp} {ks : List Str} {kws : List Keyword} {E : L2.St → XK} {ta : TA} (F : FnOk X.prog X.w X.K X.mg X.base CX k f fd ps sp) (hr : Room k X.A) (hg : Gl X x) (hm : X.mg x = some (.ref f)) (kp : PySem.W.keepIn X.K (.ref f) = true) (hb : BindsK fd ps ks)
    (hx : ∀ σ, PassesAt CX X σ (E σ)) (hkw : PK X kws ta)
    (hall : (backToKw pos (keywordEach kws X.env)).all (·.1.isSome) = true) (hks : (backToKw pos (keywordEach kws X.env)).filterMap (·.1) = ks) (hdb : (x == ("__debug__" : Str)) = false)
    (hpl : ((backTo pos (starEach [] X.env)).any (·.1) || (backToKw pos (keywordEach kws X.env)).any (·.1.isNone)) = false) :
    PE X (.Call (.Name x p) [] kws pos) (tCallS sp E ta) := by
  refine ⟨fun pins s σ H Q I h => ?_⟩
  refine PySem.wpAny_Call_Name_kw (ld_glob I hg hm ?_ hdb)
  refine PySem.W.callWith_KW0 (h₀ := X.base) I.ok.mod.kin kp hall ?_ hpl
  refine thn (hkw.run pos pins s σ H _ I h) fun ws s2 ⟨zs, H2, I2, rz, q⟩ => ⟨I2.kIn, ?_⟩
  rw [hks]
  have q' : sp zs H2 Q (E σ) := q
  have lens : ws.length = ps.length := by
    rw [← rz.length]
    exact F.len _ _ _ _ q'
  refine PySem.wpAny_call (codeAny_mono (F.run X.A X.stack s2 H2 ⟨[], ks.zip ws⟩ ws zs Q (E σ) hr I2.env0 (hb s2 ws lens) rz q') fun r s' hq => ?_)
  cases r with
  | error e => exact hx σ pins H2 s2 e s' I2 hq
  | ok fl =>
    cases fl with
    | ret u => exact I2.after hq
    | next => exact False.elim hq
    | brk => exact False.elim hq
    | cont => exact False.elim hq
/-- f(a=e, ..) -/
theorem q_kw {ks : List Str} {kws : List Keyword} (hr : Room k X.A) (F : FnOk X.prog X.w X.K X.mg X.base CX0 j f fd ps (spD X.K sp)) (hm : X.mg x = some (.ref f)) (hk : PySem.W.keepIn X.K (.ref f) = true) (hb : BindsK fd ps ks) (hg : Gl X x) (hl : j ≤ k) (hkw : QK X kws aa)
    (hall : (backToKw pos (keywordEach kws X.env)).all (·.1.isSome) = true := by rfl) (hks : (backToKw pos (keywordEach kws X.env)).filterMap (·.1) = ks := by rfl) (hdb : (x == ("__debug__" : Str)) = false := by decide)
    (hpl : ((backTo pos (starEach [] X.env)).any (·.1) || (backToKw pos (keywordEach kws X.env)).any (·.1.isNone)) = false := by rfl) : QE X (.Call (.Name x p) [] kws pos) (dFn sp aa) :=
  pe_weak (pe_kwA (E := fun _ => E0) F (hr.mono hl) hg hm hk hb (fun σ => at0K pass0 σ) hkw.p hall hks hdb hpl) fun σ H Q ⟨B, ρ, S, m, Qd, at_, q, k⟩ =>
    ⟨B, ρ, S, m, _, at_, q, fun ds S' vs H' m' q e w dv => ⟨m', S', ds, Qd, X0, w, dv, q, k.up e, Kx.no⟩⟩
/-- the same, f one that may raise, but doesn't here -/
theorem q_kwN {ks : List Str} {kws : List Keyword} (hr : Room k X.A) (F : FnOk X.prog X.w X.K X.mg X.base (L2.CX X.prog X.w) j f fd ps (spD X.K sp)) (hm : X.mg x = some (.ref f)) (hk : PySem.W.keepIn X.K (.ref f) = true) (hb : BindsK fd ps ks) (hg : Gl X x) (hl : j ≤ k) (hkw : QK X kws aa)
    (hall : (backToKw pos (keywordEach kws X.env)).all (·.1.isSome) = true := by rfl) (hks : (backToKw pos (keywordEach kws X.env)).filterMap (·.1) = ks := by rfl) (hdb : (x == ("__debug__" : Str)) = false := by decide)
    (hpl : ((backTo pos (starEach [] X.env)).any (·.1) || (backToKw pos (keywordEach kws X.env)).any (·.1.isNone)) = false := by rfl) : QE X (.Call (.Name x p) [] kws pos) (dFn sp aa) :=
  pe_weak (pe_kwA (E := fun _ => E0) F (hr.mono hl) hg hm hk hb (fun σ => at0K passE0 σ) hkw.p hall hks hdb hpl) fun σ H Q ⟨B, ρ, S, m, Qd, at_, q, k⟩ =>
    ⟨B, ρ, S, m, _, at_, q, fun ds S' vs H' m' q e w dv => ⟨m', S', ds, Qd, X0, w, dv, q, k.up e, Kx.no⟩⟩
end
end K3
namespace K3
open PySem L2
theorem u64 {k : Nat} {A : Around} (hr : Room k A) : A.units + 64 < cLine := by
  have := hr.un
  omega
theorem op_eqA {X : Cx} (hu : X.A.units + 64 < cLine) : OpR X (compareOp .Eq) (fun x y H Q => rEq x y H Q ∨ rEqD X.K x y H Q) := op_eq.or (op_eqD hu)
theorem op_neA {X : Cx} (hu : X.A.units + 64 < cLine) : OpR X (compareOp .NotEq) (fun x y H Q => rNe x y H Q ∨ rNeD X.K x y H Q) := op_ne.or (op_neD hu)
/-! short ways -/
theorem exQ {X : Cx} {b : List Stmt} {P : DS → Prop} (t : DS) (h : QSs X b t) (q : P t) : ∃ t, QSs X b t ∧ P t := ⟨t, h, q⟩
end K3

/-! own exception classes over any built-in one, made with values and keywords -/
namespace PySem
namespace Exm
open PyProof.Rows
section
variable {M : Model} {A : Around} {E : Value → Shared → Prop} {hp : Heap} {gs : Array GenState} {dr : Drawn} {tk : Nat} {os : OsState}
variable {nm q : Str} {C N : Addr} {bs bm bmB : List Value} {hdct : Bool} {sn : List Str} {sub : List Value} {ab : Bool} {col : Option Bool} {dd : Option Addr} {k0 k1 k2 k3 k5 : Option Value} {B newId initId : String}
theorem checkNew (FB : ExcBaseFacts B newId initId bmB) (tB : bm.contains (.type B) = true) (tA : bm.contains (.type "AttributeError") = false) (tN : bm.contains (.type "NameError") = false) {us : List Value} {kw : List (Str × Value)} {Q : Unit → Shared → Prop}
    (cls : hp.get? C = some (excClassObj nm q C N bs bm hdct sn sub ab col dd k0 k1 k2 k3 k5 newId)) (fin : Q () ⟨hp, gs, dr, tk, os⟩) :
    wpAny M A (checkBuiltinCall newId ⟨.ref C :: us, kw⟩) Q E ⟨hp, gs, dr, tk, os⟩ := by
  have hb : (Value.ref C :: bm).contains (.type B) = true := by
    rw [List.contains_cons, tB]
    simp
  have hs := FB.noStar
  simp only [checkBuiltinCall, FB.newKind, FB.newSplit, FB.newRow]
  repeat (first
    | refine wpAny_loadPart_at cls ?_
    | (refine wpAny_isSubtype_exc cls ?_; rw [hb])
    | refine wpAny_staticBase_exc cls ?_
    | refine wpAny_madeBy_exc cls ?_
    | simp only [bne_self_eq_false, Bool.false_eq_true, if_false]
    | wp_step)
  exact fin
end
section
variable {prog : Program} {w : World} {A : Around} {E : Value → Shared → Prop} {R : Result → Shared → Prop} {hp : Heap} {gs : Array GenState} {dr : Drawn} {tk : Nat} {os : OsState}
variable {nm q : Str} {C N : Addr} {bs bm bmB : List Value} {hdct : Bool} {sn : List Str} {sub : List Value} {ab : Bool} {col : Option Bool} {dd : Option Addr} {k0 k1 k2 k3 k5 : Option Value} {B newId initId : String}
theorem runNew (FB : ExcBaseFacts B newId initId bmB) (tB : bm.contains (.type B) = true) (tA : bm.contains (.type "AttributeError") = false) (tN : bm.contains (.type "NameError") = false) {us : List Value} {kw : List (Str × Value)}
    (cls : hp.get? C = some (excClassObj nm q C N bs bm hdct sn sub ab col dd k0 k1 k2 k3 k5 newId)) (few : us.length ≤ sizeLine)
    (fin : R (.ok (.ret (.ref (hp.objs.size + 1)))) ⟨(hp.push (W.kdv_tup us)).push (HandSPX.excO C hp.objs.size), gs, dr, tk, os⟩) :
    codeAny (model prog w) A (.builtin newId ⟨.ref C :: us, kw⟩) R ⟨hp, gs, dr, tk, os⟩ := by
  have en := FB.ends
  have c1 : (Value.ref C :: bm).contains (.type B) = true := by
    rw [List.contains_cons, tB]
    simp
  have c2 : (Value.ref C :: bm).contains (.type "AttributeError") = false := by
    rw [List.contains_cons, tA]
    rfl
  have c3 : (Value.ref C :: bm).contains (.type "NameError") = false := by
    rw [List.contains_cons, tN]
    rfl
  refine codeAny_builtinAt FB.entry ?_
  unfold Builtin.«BaseException.__new__»
  refine wpAt_bind ?_
  show wpAt _ _ _ (stack >>= _) _ _ _
  refine wpAt_bind (wpAt_stack fun top low => wpAt_of_wpAny ?_)
  wp_walk
  refine wpAt_of_wpAny ?_
  rw [FB.owner]
  repeat (first
    | with_reducible refine wpAny_madeHere_exc FB.canon cls ?_
    | with_reducible refine wpAny_loadPart_at cls ?_
    | (with_reducible refine wpAny_isSubtype_exc cls ?_; first | rw [c1] | rw [c2] | rw [c3])
    | wp_step)
  show R _ _
  rw [Heap.size_push]
  exact fin
theorem runTypeCall (FB : ExcBaseFacts B newId initId bmB) (tB : bm.contains (.type B) = true) (tA : bm.contains (.type "AttributeError") = false) (tN : bm.contains (.type "NameError") = false) {us : List Value} {kw : List (Str × Value)} {fI : Addr} {Q : Fin → Shared → Prop}
    (cls : hp.get? C = some (excClassObj nm q C N bs bm hdct sn sub ab col dd k0 k1 k2 k3 k5 newId)) (few : us.length ≤ sizeLine)
    (li : W.Looks (model prog w) hp (typeLookup (.ref C) "__init__") (some (.ref fI))) (bi : ∀ self, W.Looks (model prog w) hp (bindSpecial (.ref fI) self) (.ref fI, [self]))
    (fin : codeAny (model prog w) A (.call (.ref fI) ⟨.ref (hp.objs.size + 1) :: us, kw⟩)
      (fun r s' => match r with | .ok (.ret v) => v = .none ∧ Q (.done (.ret (.ref (hp.objs.size + 1)))) s' | .ok _ => False | .error x => E x s')
      ⟨(hp.push (W.kdv_tup us)).push (HandSPX.excO C hp.objs.size), gs, dr, tk, os⟩) :
    wpAny (model prog w) A (Builtin.«type.__call__» ⟨.ref C :: us, kw⟩) Q E ⟨hp, gs, dr, tk, os⟩ := by
  repeat (first
    | with_reducible refine wpAny_loadPart_at cls ?_
    | with_reducible refine wpAny_madeBy_exc cls ?_
    | wp_step)
  refine codeAny_call_builtin_code (Code.quiet_builtin _ FB.quiet) (checkNew FB tB tA tN cls ?_)
  refine runNew FB tB tA tN cls few ?_
  show wpAny _ _ _ _ _ _
  have up : ∀ b o, hp.get? b = some o → ((hp.push (W.kdv_tup us)).push (HandSPX.excO C hp.objs.size)).get? b = some o := fun b o e => Heap.get?_push_of_some _ (Heap.get?_push_of_some _ e)
  have cls2 := up _ _ cls
  have at2 : ((hp.push (W.kdv_tup us)).push (HandSPX.excO C hp.objs.size)).get? (hp.objs.size + 1) = some (HandSPX.excO C hp.objs.size) := by heap_get
  have cc : (Value.ref C :: bm).contains (.ref C) = true := by simp
  have li2 := li.keeps up
  have bi2 := (bi (.ref (hp.objs.size + 1))).keeps up
  unfold isInstance
  repeat (first
    | with_reducible refine wpAny_loadPart_at at2 ?_
    | (with_reducible refine wpAny_isSubtype_exc cls2 ?_; rw [cc])
    | wp_step)
  show wpAny _ _ (typeLookup (.ref C) _) _ _ _
  refine li2.at ?_
  refine wpAny_holding (wpAny_bind (bi2.at ?_))
  refine wpAny_bind (wpAny_call (codeAny_mono fin fun r s' z => ?_))
  cases r with
  | error x => exact z
  | ok fl =>
    cases fl with
    | ret v =>
      obtain ⟨rfl, z⟩ := z
      first
        | exact wpAny_pure (wpAny_pure z)
        | (wp_walk; exact z)
    | next => exact z.elim
    | brk => exact z.elim
    | cont => exact z.elim
theorem checkTypeCallE {M : Model} {us : List Value} {kw : List (Str × Value)} {Q : Unit → Shared → Prop} (cls : hp.get? C = some (excClassObj nm q C N bs bm hdct sn sub ab col dd k0 k1 k2 k3 k5 newId))
    (fin : Q () ⟨hp, gs, dr, tk, os⟩) : wpAny M A (checkBuiltinCall "type.__call__" ⟨.ref C :: us, kw⟩) Q E ⟨hp, gs, dr, tk, os⟩ := by
  have f3 := tc_sub
  have ty : (⟨hp, gs, dr, tk, os⟩ : Shared).TypeIs (.ref C) "type" := ⟨_, cls, rfl⟩
  simp only [checkBuiltinCall, tc_kind, tc_split]
  repeat (any_goals (first
    | assumption
    | with_reducible refine wpAny_loadPart_at cls ?_
    | with_reducible refine wpAny_onRaise ?_
    | with_reducible refine wpAny_map ?_
    | wp_step))
theorem runCls (FB : ExcBaseFacts B newId initId bmB) (tB : bm.contains (.type B) = true) (tA : bm.contains (.type "AttributeError") = false) (tN : bm.contains (.type "NameError") = false) {us : List Value} {kw : List (Str × Value)} {fI : Addr}
    (cls : hp.get? C = some (excClassObj nm q C N bs bm hdct sn sub ab col dd k0 k1 k2 k3 k5 newId)) (few : us.length ≤ sizeLine)
    (li : W.Looks (model prog w) hp (typeLookup (.ref C) "__init__") (some (.ref fI))) (bi : ∀ self, W.Looks (model prog w) hp (bindSpecial (.ref fI) self) (.ref fI, [self]))
    (fin : codeAny (model prog w) (A.under (.builtin "type.__call__" ⟨.ref C :: us, kw⟩)) (.call (.ref fI) ⟨.ref (hp.objs.size + 1) :: us, kw⟩) (W.InitBack (hp.objs.size + 1) R)
      ⟨(hp.push (W.kdv_tup us)).push (HandSPX.excO C hp.objs.size), gs, dr, tk, os⟩) :
    codeAny (model prog w) A (.call (.ref C) ⟨us, kw⟩) R ⟨hp, gs, dr, tk, os⟩ := by
  have f1 := tc_lookup
  have f2 := tc_bind (.ref C)
  have ty : (⟨hp, gs, dr, tk, os⟩ : Shared).TypeIs (.ref C) "type" := ⟨_, cls, rfl⟩
  refine codeAny_of_tree ?_
  show wpAny _ _ (callAny (.ref C) _) _ _ _
  repeat (any_goals (first
    | assumption
    | with_reducible refine wpAny_loadPart_at cls ?_
    | wp_step))
  refine ⟨rfl, ?_⟩
  refine codeAny_call_builtin_at (Code.quiet_builtin _ (by decide +kernel)) entry_typeCall (checkTypeCallE cls (runTypeCall FB tB tA tN cls few li bi ?_))
  refine codeAny_mono fin fun r s' z => ?_
  cases r with
  | error x => exact z
  | ok fl => cases fl <;> exact z
end
end Exm
end PySem

namespace PySem
namespace Exm
open PyProof.Rows Builtin Builtin.ObjectAttr
section
variable {prog : Program} {w : World} {A : Around} {E : Value → Shared → Prop} {R : Result → Shared → Prop} {hp : Heap} {gs : Array GenState} {dr : Drawn} {tk : Nat} {os : OsState} {bmB : List Value} {B : String}
/-- the first store into an exception's own dict -/
theorem storeFirst {K : W.Frag} {name : Str} {t1 : Tok} {v : Value} {x C : Addr} {fv : Array Value} {cd : ClassData} (SB : StoreFacts B bmB "object.__setattr__" "object")
    (X : K.In hp) (hx : hp.get? x = some { cls := .ref C, data := .fields fv }) (ov : W.excOver K C bmB = true) (hcd : W.clsIn K C = some cd) (hh : cd.hasDict = true) (ha : W.takerIn K C name = some none)
    (fin : ∀ h' t' dx, (∀ b o, b ≠ x → hp.get? b = some o → h'.get? b = some o) → hp.objs.size ≤ dx → dx ≠ x → h'.get? x = some { cls := .ref C, dict := some dx, data := .fields fv } →
      h'.Ns1 dx (fun y => if y = name then some v else none) → R (.ok (.ret .none)) ⟨h', gs, dr, t', os⟩) :
    codeAny (model prog w) A (.call (.builtin "object.__setattr__") ⟨[.ref x, .str name t1, v], []⟩) R ⟨hp, gs, dr, tk, os⟩ := by
  have I : W.InstAt hp x { cls := .ref C, data := .fields fv } C none := ⟨hx, rfl, rfl, trivial⟩
  have far : x ≠ hp.objs.size := Nat.ne_of_lt (Heap.lt_size hx)
  have cl : W.Looks (model prog w) hp (classData C) cd := W.looks_clsIn X hcd
  refine W.osa_openX SB X I ov ha fun b => ?_
  show wpAny _ _ (storeInOwnDict (.ref x) (.ref C) (.str name t1) name v b) _ _ _
  obtain ⟨nm, bs, mro, ns, qn, hd, sn, sb, ab, col, del⟩ := cd
  dsimp only at hh
  subst hh
  unfold storeInOwnDict ownDictForStores
  repeat (first
    | with_reducible refine HandSPX.store_in_new ?_ ?_
    | with_reducible refine wpAny_loadPart_at hx ?_
    | with_reducible refine cl.at ?_
    | wp_step)
  · exact ⟨_, #[], _, (Heap.get?_update_ne _ _ _ _ far.symm).trans (Heap.get?_push_at rfl rfl), rfl, fun e he => absurd he (by simp), fun _ => rfl⟩
  · intro h' t' hn hs
    have old : (hp.push { cls := .type "dict", data := .dict #[] }).get? x = some { cls := .ref C, data := .fields fv } := Heap.get?_push_of_some _ hx
    refine fin h' t' hp.objs.size (fun c o hc ho => ?_) (Nat.le_refl _) far.symm ?_ hn
    · have e1 := hs.2 c (Nat.ne_of_lt (Heap.lt_size ho))
      exact e1.trans ((Heap.get?_update_ne _ _ _ _ hc).trans (Heap.get?_push_of_some _ ho))
    · have e1 := hs.2 x far
      exact e1.trans (Heap.get?_update_self _ old rfl)
end
end Exm
end PySem

/-! own exceptions as values: rules over the hand layer -/
namespace Exv
open PySem L2
/-- what the written part says of such a class: at C, its __init__ at fI stores the one field -/
structure ExT (K : PySem.W.Frag) (C fI : Addr) (fld : Str) (bmB : List Value) (newId : String) : Prop where
  ini : PySem.W.excInitIn K C bmB newId = true
  over : PySem.W.excOver K C bmB = true
  init : PySem.W.findIn K (.ref C) "__init__" = some (some (.ref fI))
  fn : PySem.W.typeIn K (.ref fI) = some (.type "function")
  sa : PySem.W.findIn K (.ref C) "__setattr__" = some (some (.builtin "object.__setattr__"))
  no : PySem.W.findIn K (.ref C) fld = some none
  hd : PySem.W.hasDictIn K C = true
  ga : PySem.W.findIn K (.ref C) "__getattribute__" = some (some (.builtin "BaseException.__getattribute__"))
  gg : PySem.W.findIn K (.ref C) "__getattr__" = some none
  ex : PySem.W.subIn K (.ref C) (.type "BaseException") = some true
  kp : PySem.W.keepIn K (.ref C) = true
section
variable {X : Cx} {pins : List (Addr × Obj)} {σ : St} {H : Hp} {s : Shared} {a C fI : Addr} {f : Str} {y : V} {u : Value} {Q : Unit → Shared → Prop} {E : Value → Shared → Prop} {A : Around} {B newId initId : String} {bmB bmF : List Value}
theorem taker_none {K : PySem.W.Frag} (h : PySem.W.findIn K (.ref C) f = some none) : PySem.W.takerIn K C f = some none := by
  unfold PySem.W.takerIn
  rw [h]
  rfl
/-- self.f = y, the first store -/
theorem put_field (T : ExT X.K C fI f bmB newId) (SB : StoreFacts B bmB "object.__setattr__" "object") (I : Inv X pins σ H s) (e : H a = some (exo a C none)) (ry : RelV y u)
    (h : ∀ dx s', H dx = none → dx ≠ a → Inv X pins σ (upd (upd H dx (exd dx [(f, y)])) a (exo a C (some dx))) s' → Q () s') : wpAny (model X.prog X.w) A (setAttr (.ref a) f u) Q E s := by
  obtain ⟨cd, hcd, hh⟩ := PySem.W.any_some T.hd
  obtain ⟨t1, ho⟩ := exo_at I.hok e
  obtain ⟨hp, gs, dr, tk, os⟩ := s
  refine PySem.W.set_plain I.kIn (ox := HandSPX.excO C t1) (od := none) ⟨ho, rfl, rfl, trivial⟩ T.sa ?_
  refine PySem.Exm.storeFirst SB I.kIn ho T.over hcd hh (taker_none T.no) fun h' t' dx old far ne hx hn => ?_
  have free : H dx = none := I.hok.fresh far
  have notD : ∀ {b : Addr} {o : Obj}, hp.get? b = some o → b ≠ dx := fun {b o} q => Nat.ne_of_lt (Nat.lt_of_lt_of_le (Heap.lt_size q) far)
  have notA : ∀ {b : Addr}, H b = none → b ≠ a := fun {b} n z => by
    rw [z, e] at n
    exact absurd n (by simp)
  have un : Un X.fs [] H (upd (upd H dx (exd dx [(f, y)])) a (exo a C (some dx))) hp h' := {
    keep := fun b o q n _ _ => old b o (notA n) q
    slot := fun b o q n _ _ => ⟨_, old b o (notA n) q⟩
    free := fun b o q n _ => by
      rw [upd_ne (notA n), upd_ne (notD q)]
      exact n
    there := fun b o q _ => by
      by_cases hb : b = a
      · exact ⟨_, hb ▸ hx⟩
      · exact ⟨_, old b o hb q⟩
    tups := fun b xs q => by
      rw [upd_ne (at_ne e q exo_tup), upd_ne (ne_of_none q free)]
      exact q
    frzs := fun b o v q => by
      rw [upd_ne (at_ne e q exo_frz), upd_ne (ne_of_none q free)]
      exact q
    tbls := fun b ps q => ⟨#[], by
      rw [upd_ne (at_ne e q exo_tbl), upd_ne (ne_of_none q free), q]
      simp⟩ }
  refine h dx _ free ne (I.un (t' := t') un fun b o q => ?_)
  by_cases hb : b = a
  · subst hb
    rw [upd_same] at q
    cases q
    exact exo_ok hx
  · rw [upd_ne hb] at q
    by_cases hd : b = dx
    · subst hd
      rw [upd_same] at q
      cases q
      exact exd_ok hn (relO_put (fs := []) ry fun g => True.intro)
    · rw [upd_ne hd] at q
      refine (I.hok b o q).stay (fun c v hc z => old c v ?_ z) (fun c hc => ?_) fun c xs hc => ?_
      · rcases hc with rfl | hc
        · exact hb
        · exact at_ne e hc exo_own
      · rw [upd_ne (at_ne e hc exo_own), upd_ne (ne_of_none hc free)]
        exact hc
      · rw [upd_ne (at_ne e hc exo_tup), upd_ne (ne_of_none hc free)]
        exact hc
end
/-- the built-in classes behind an own one: the maker's class among them -/
structure Base3 (bm : List Value) (B : String) : Prop where
  b : bm.contains (.type B) = true
  a : bm.contains (.type "AttributeError") = false
  n : bm.contains (.type "NameError") = false
/-- self.f = e in an __init__ -/
def tPutE (C : Addr) (f : Str) (to te : TE) : TS := fun D σ H => te σ H fun y H1 => to σ H1 fun x H2 => ∃ a : Addr, x = .ref a ∧ H2 a = some (exo a C none) ∧
  ∀ dx, H2 dx = none → dx ≠ a → D.nx σ (upd (upd H2 dx (exd dx [(f, y)])) a (exo a C (some dx)))
section
variable {X : Cx} {o e : Expr} {es : List Expr} {to te : TE} {ta : TA} {f x : Str} {p p' p1 p2 pos : Pos} {C fI : Addr} {B newId initId : String} {bmB bmF : List Value}
theorem ps_putE (T : ExT X.K C fI f bmB newId) (SB : StoreFacts B bmB "object.__setattr__" "object") (ho : PE X o to) (he : PE X e te) (hs : swapsWith e (some (.Attribute o f p')) pos.line X.env = pure false := by rfl) :
    PS X (.Assign [.Attribute o f p'] e pos) (tPutE C f to te) := by
  refine ⟨fun pins s σ H D I h => ?_⟩
  refine plainObj_wpAny_Assign_Attribute (thn (he.run pins s σ H _ I h) fun v s1 ⟨y, H1, I1, r1, q1⟩ => thn (ho.run pins s1 σ H1 _ I1 q1) fun u s2 ⟨z, H2, I2, r2, a, ez, ea, q⟩ => ?_) hs
  subst ez
  cases (show u = Value.ref a from r2)
  exact put_field T SB I2 ea r1 fun dx s' n ne J => ⟨σ, _, J, q dx n ne⟩
/-- a call of the class: the new exception, its __init__ run -/
theorem run_ex {CX : CXT} {pins : List (Addr × Obj)} {σ : St} {H : Hp} {s : Shared} {Q : VK} {us : List Value} {v : V} {u : Value} {k : Nat} {fd : FuncData} {ps : List Str} {sp : Sp} {kw : List (Str × Value)}
    (T : ExT X.K C fI f bmB newId) (FB : ExcBaseFacts B newId initId bmF) (hB : Base3 bmB B) (F : FnOk X.prog X.w X.K X.mg X.base CX k fI fd ps sp) (hr : Room (k + 1) X.A) (hx : Passes CX X E0)
    (I : Inv X pins σ H s) (few : us.length ≤ 1000) (rv : RelV v u) (hb : ∀ (s : Shared) (a : Addr), X.K.In s.heap → BindsTo s fd ⟨.ref a :: us, kw⟩ (ps.zip [.ref a, u]))
    (h : ∀ a, H a = none → sp [.ref a, v] (upd H a (exo a C none)) (fun z H2 => z = .non ∧ Q (.ref a) H2) E0) :
    wpAny (model X.prog X.w) X.A (call (.ref C) us kw) (EP X pins σ Q) X.xe s := by
  obtain ⟨nm, N, qn, bs, bm, hdct, sn, sub, ab, col, dd, k0, k1, k2, k3, k5, hC, tl⟩ := PySem.W.excInit_of I.kIn T.ini
  obtain ⟨hp, gs, dr, tk, os⟩ := s
  have sz : hp.objs.size ≤ hp.objs.size + 1 := Nat.le_succ _
  have new : H (hp.objs.size + 1) = none := I.hok.fresh sz
  have hq := h _ new
  have up : ∀ b o, hp.get? b = some o → ((hp.push (PySem.W.kdv_tup us)).push (HandSPX.excO C hp.objs.size)).get? b = some o := fun b o e => Heap.get?_push_of_some _ (Heap.get?_push_of_some _ e)
  have at2 : ((hp.push (PySem.W.kdv_tup us)).push (HandSPX.excO C hp.objs.size)).get? (hp.objs.size + 1) = some (HandSPX.excO C hp.objs.size) := by heap_get
  have I2 : Inv X pins σ (upd H (hp.objs.size + 1) (exo (hp.objs.size + 1) C none)) ⟨(hp.push (PySem.W.kdv_tup us)).push (HandSPX.excO C hp.objs.size), gs, dr, tk, os⟩ :=
    I.laid (t' := tk) (a := hp.objs.size + 1) (o := exo (hp.objs.size + 1) C none) up sz (exo_ok at2)
  have r2 : Vals [V.ref (hp.objs.size + 1), v] [Value.ref (hp.objs.size + 1), u] := .cons rfl (.cons rv .nil)
  have fewS : us.length ≤ sizeLine := by
    rw [sizeLine_eq]
    omega
  refine wpAny_call (PySem.Exm.runCls FB ((tl B).trans hB.b) ((tl _).trans hB.a) ((tl _).trans hB.n) hC fewS (PySem.W.looks_findIn I.kIn T.init) (fun self => PySem.W.bind_fn I.kIn self T.fn)
    (codeAny_mono (F.run _ X.stack _ _ ⟨Value.ref (hp.objs.size + 1) :: us, kw⟩ _ _ _ E0 (hr.make C us kw) (I2.env0.make C us kw) (hb _ _ I2.kIn) r2 hq) fun r s' q => ?_))
  cases r with
  | error x => exact hx pins σ _ _ x s' I2 q
  | ok fl =>
    cases fl with
    | ret w =>
      obtain ⟨z, H', J, rz, ez, q3⟩ := I2.after q
      subst ez
      exact ⟨rz, ⟨V.ref (hp.objs.size + 1), H', J, rfl, q3⟩⟩
    | next => exact q.elim
    | brk => exact q.elim
    | cont => exact q.elim
end
end Exv

namespace Exv
open PySem L2
/-- C(v), C(f=v): what the new exception's __init__ is to bring -/
def tNewE (C : Addr) (sp : Sp) (ta : TA) : TE := fun σ H Q => ta σ H fun vs H1 => ∃ v, vs = [v] ∧ ∀ a, H1 a = none → sp [.ref a, v] (upd H1 a (exo a C none)) (fun z H2 => z = .non ∧ Q (.ref a) H2) E0
section
variable {X : Cx} {o e : Expr} {ta : TA} {f x : Str} {p pos kpos : Pos} {C fI : Addr} {B newId initId : String} {bmB bmF : List Value} {CX : CXT} {k : Nat} {fd : FuncData} {ps : List Str} {sp : Sp}
theorem pe_newE (T : ExT X.K C fI f bmB newId) (FB : ExcBaseFacts B newId initId bmF) (hB : Base3 bmB B) (F : FnOk X.prog X.w X.K X.mg X.base CX k fI fd ps sp) (hr : Room (k + 1) X.A) (hx : Passes CX X E0) (hg : Gl X x) (hm : X.mg x = some (.ref C))
    (hb : ∀ (s : Shared) (a : Addr) (u : Value), X.K.In s.heap → BindsTo s fd ⟨[.ref a, u], []⟩ (ps.zip [.ref a, u])) (ha : PA X [e] ta)
    (hdb : (x == ("__debug__" : Str)) = false := by decide) (hs : starEach [e] X.env = (false, eval e X.env) :: starEach [] X.env := by rfl) (hpl : (backTo pos (starEach [] X.env)).any (·.1) = false := by rfl) :
    PE X (.Call (.Name x p) [e] [] pos) (tNewE C sp ta) := by
  refine ⟨fun pins s σ H Q I h => ?_⟩
  refine wpAny_Call_Name_kw (ld_glob I hg hm ?_ hdb)
  refine PySem.W.callWith_K (h₀ := X.base) I.ok.mod.kin T.kp (thn (ha.run pos pins s σ H _ I h) fun us s1 ⟨vs, H1, I1, r, v, ev, q⟩ => ⟨I1.kIn, ?_⟩) hs hpl
  subst ev
  cases r with
  | cons rv rn =>
    cases rn
    exact run_ex T FB hB F hr hx I1 (by show 1 ≤ 1000; decide) rv (fun s a X' => hb s a _ X') q
theorem pe_newEK (T : ExT X.K C fI f bmB newId) (FB : ExcBaseFacts B newId initId bmF) (hB : Base3 bmB B) (F : FnOk X.prog X.w X.K X.mg X.base CX k fI fd ps sp) (hr : Room (k + 1) X.A) (hx : Passes CX X E0) (hg : Gl X x) (hm : X.mg x = some (.ref C))
    (hb : ∀ (s : Shared) (a : Addr) (u : Value), X.K.In s.heap → BindsTo s fd ⟨[.ref a], [(f, u)]⟩ (ps.zip [.ref a, u])) (hkw : PK X [⟨some f, e, kpos⟩] ta)
    (hall : (backToKw pos (keywordEach [⟨some f, e, kpos⟩] X.env)).all (·.1.isSome) = true := by rfl) (hks : (backToKw pos (keywordEach [⟨some f, e, kpos⟩] X.env)).filterMap (·.1) = [f] := by rfl) (hdb : (x == ("__debug__" : Str)) = false := by decide)
    (hpl : ((backTo pos (starEach [] X.env)).any (·.1) || (backToKw pos (keywordEach [⟨some f, e, kpos⟩] X.env)).any (·.1.isNone)) = false := by rfl) :
    PE X (.Call (.Name x p) [] [⟨some f, e, kpos⟩] pos) (tNewE C sp ta) := by
  refine ⟨fun pins s σ H Q I h => ?_⟩
  refine wpAny_Call_Name_kw (ld_glob I hg hm ?_ hdb)
  refine PySem.W.callWith_KW0 (h₀ := X.base) I.ok.mod.kin T.kp hall ?_ hpl
  refine thn (hkw.run pos pins s σ H _ I h) fun ws s2 ⟨zs, H2, I2, rz, v, ev, q⟩ => ⟨I2.kIn, ?_⟩
  rw [hks]
  subst ev
  cases rz with
  | cons rv rn =>
    cases rn
    exact run_ex (us := []) T FB hB F hr hx I2 (Nat.zero_le _) rv (fun s a X' => hb s a _ X') q
/-- C(), an own exception class without __init__ -/
theorem pe_new0 {bmC : List Value} (FB : ExcBaseFacts B newId initId bmB) (q : PySem.W.excIn X.K C bmB newId = true) (kp : PySem.W.keepIn X.K (.ref C) = true) (hg : Gl X x) (hm : X.mg x = some (.ref C)) (hdb : (x == ("__debug__" : Str)) = false := by decide) :
    PE X (.Call (.Name x p) [] [] pos) (fun _ H Q => ∀ a, H a = none → Q (.ref a) (upd H a (exo a C none))) := by
  refine ⟨fun pins s σ H Q I h => ?_⟩
  refine wpAny_Call_Name_kw (ld_glob I hg hm ?_ hdb)
  refine PySem.W.callWith_K0 I.kIn kp ?_
  obtain ⟨bm, N, nm, qn, bs, hdct, sn, sub, ab, col, dd, k0, k1, k2, k3, k5, mN, hC, hN, hni, T⟩ := exc_obj I.kIn q
  refine wpAny_call_exc_subT FB T hC hN hni (fun h' a hm => ?_) (Nat.zero_le _)
  have new : H a = none := I.hok.gone hm.new
  obtain ⟨t, ht, _, _⟩ := hm.there
  exact ⟨.ref a, upd H a (exo a C none), I.laidN hm.keeps hm.new new (exo_ok ht), rfl, h a new⟩
/-- what is asked of an own exception class whose instances are read, or asked about -/
structure IsT (K : PySem.W.Frag) (C : Addr) : Prop where
  hd : PySem.W.hasDictIn K C = true
  ga : PySem.W.findIn K (.ref C) "__getattribute__" = some (some (.builtin "BaseException.__getattribute__"))
  gg : PySem.W.findIn K (.ref C) "__getattr__" = some none
  ex : PySem.W.subIn K (.ref C) (.type "BaseException") = some true
  cl : PySem.W.findIn K (.ref C) "__class__" = some (some (.builtin "object.__class__"))
  sp : PySem.W.specialIn K (.builtin "object.__class__") "__get__" = some (some (.builtin "getset_descriptor.__get__"))
  tk : PySem.W.takesIn K (.builtin "object.__class__") = some true
  mr : PySem.W.mroIn K C (.type "object") = some true
/-- e.f, e an own exception that has the field -/
def tAtE (K : PySem.W.Frag) (f : Str) (te : TE) : TE := fun σ H Q => te σ H fun x H1 => ∃ (a C d : Addr) (fs : List (Str × V)) (v : V), x = .ref a ∧ IsT K C ∧ PySem.W.findIn K (.ref C) f = some none ∧
  H1 a = some (exo a C (some d)) ∧ H1 d = some (exd d fs) ∧ fs.lookup f = some v ∧ Q v H1
theorem pe_atE {te : TE} (he : PE X e te) (hb : attributeBase e f X.env (eval e X.env) = eval e X.env := by rfl) : PE X (.Attribute e f pos) (tAtE X.K f te) := by
  refine ⟨fun pins s σ H Q I h => ?_⟩
  refine attr_of hb (thn (he.run pins s σ H _ I h) fun u s1 ⟨z, H1, I1, r1, a, C, d, fs, v, ez, T, no, ea, ed, l, q⟩ => ?_)
  subst ez
  cases (show u = Value.ref a from r1)
  obtain ⟨t1, ha⟩ := exo_at I1.hok ea
  obtain ⟨mA, hns, rel⟩ := exd_at I1.hok ed
  obtain ⟨od, hod, hl⟩ := lookIn_ns hns
  obtain ⟨w, hw, rw'⟩ := RelO.some_of (v := v) (o := mA f) (by rw [← l]; exact rel f)
  have J : PySem.W.InstAt s1.heap a ({ cls := .ref C, dict := some d, data := .fields #[.ref t1, .none, .none, .none, .bool false, .none] } : Obj) C (some od) := ⟨ha, rfl, rfl, hod⟩
  exact HandSPX.exc_get I1.kIn J T.ga T.gg T.ex (PySem.W.findObj_own T.hd no rfl (by rw [hl, hw])) (handed_of rw') ⟨v, H1, I1.tok _, rw', q⟩
/-- isinstance(e, c) -/
def rIsX (K : PySem.W.Frag) : List V → Hp → VK → Prop := fun xs H Q => ∃ (a C : Addr) (c : V) (cv : Value) (b : Bool), xs = [.ref a, c] ∧ ClsV c cv ∧ IsT K C ∧ PySem.W.kitOne K (.ref C) cv = some b ∧
  (H a = some (exo a C none) ∨ ∃ d fs, H a = some (exo a C (some d)) ∧ H d = some (exd d fs)) ∧ Q (.bl b) H
theorem call_isX : CallR X (.builtin "isinstance") (rIsX X.K) := by
  intro pins s σ H xs us Q I r h
  obtain ⟨a, C, c, cv, b, rfl, k, T, e, ea, q⟩ := h
  obtain ⟨u1, u2, rfl, r1, r2⟩ := vals2 r
  cases (show u1 = Value.ref a from r1)
  have e2 := k.eq r2
  subst e2
  have hcl : (PySem.W.clsIn X.K C).isSome = true := by
    obtain ⟨cd, hcd, _⟩ := PySem.W.any_some T.hd
    rw [hcd]
    rfl
  rcases ea with ea | ⟨d, fs, ea, ed⟩
  · obtain ⟨t1, ha⟩ := exo_at I.hok ea
    have J : PySem.W.InstAt s.heap a (HandSPX.excO C t1) C none := ⟨ha, rfl, rfl, trivial⟩
    exact PySem.W.kia_one (PySem.W.kitx_exc hcl T.ga T.gg T.ex T.cl T.sp T.tk T.mr) I.kIn J e (fun z => nomatch z) fun tk => ⟨.bl b, H, I.tok tk, rfl, q⟩
  · obtain ⟨t1, ha⟩ := exo_at I.hok ea
    obtain ⟨mA, hns, rel⟩ := exd_at I.hok ed
    obtain ⟨od, hod, _⟩ := lookIn_ns hns
    have J : PySem.W.InstAt s.heap a ({ cls := .ref C, dict := some d, data := .fields #[.ref t1, .none, .none, .none, .bool false, .none] } : Obj) C (some od) := ⟨ha, rfl, rfl, hod⟩
    exact PySem.W.kia_one (PySem.W.kitx_exc hcl T.ga T.gg T.ex T.cl T.sp T.tk T.mr) I.kIn J e (fun z => nomatch z) fun tk => ⟨.bl b, H, I.tok tk, rfl, q⟩
end
end Exv

namespace Exv
open PySem L2
section
variable {X : Cx} {pins : List (Addr × Obj)} {σ : St} {H : Hp} {s : Shared}
/-- an exception's own dict, read as such -/
theorem Inv.asDict {d : Addr} {fs : List (Str × V)} (I : Inv X pins σ H s) (e : H d = some (exd d fs)) : Inv X pins σ (upd H d (.xd fs)) s := by
  have un : Un X.fs [] H (upd H d (.xd fs)) s.heap s.heap := {
    keep := fun b o q n _ _ => q
    slot := fun b o q n _ _ => ⟨_, q⟩
    free := fun b o q n _ => by
      rw [upd_ne (fun z => by rw [z, e] at n; cases n)]
      exact n
    there := fun b o q _ => ⟨_, q⟩
    tups := fun b xs q => by
      rw [upd_ne (at_ne e q exd_tup)]
      exact q
    frzs := fun b o v q => by
      rw [upd_ne (at_ne e q (fun z => by
        have z' : HO.ext _ = HO.frz o v := z
        cases z'))]
      exact q
    tbls := fun b ps q => ⟨#[], by
      rw [upd_ne (at_ne e q (fun z => by
        have z' : HO.ext _ = HO.tbl ps := z
        cases z')), q]
      simp⟩ }
  have J := I.un (t' := s.toks) un fun b o q => ?_
  · exact J
  · by_cases hb : b = d
    · subst hb
      rw [upd_same] at q
      cases q
      exact exd_at I.hok e
    · rw [upd_ne hb] at q
      refine (I.hok b o q).stay (fun c v _ z => z) (fun c hc => ?_) fun c xs hc => ?_
      · rw [upd_ne (at_ne e hc exd_own)]
        exact hc
      · rw [upd_ne (at_ne e hc exd_tup)]
        exact hc
end
/-- what is asked of a new own exception that is to be raised -/
def tMkE (K : PySem.W.Frag) (H0 : Hp) (te : TE) : St → Hp → XK → Prop := fun σ H Q => te σ H fun x H1 => ∃ (a C : Addr), x = .ref a ∧ Fr0 H0 a ∧ PySem.W.subIn K (.ref C) (.type "BaseException") = some true ∧ PySem.W.typeIn K (.ref C) = some (.type "type") ∧
  ((H1 a = some (exo a C none) ∧ Q (.ref C) none (delH H1 a)) ∨ ∃ d fs, d ≠ a ∧ H1 a = some (exo a C (some d)) ∧ H1 d = some (exd d fs) ∧ Q (.ref C) (some d) (upd (delH H1 a) d (.xd fs)))
/-- an expression that gives a new own exception makes an exception -/
theorem pmk_newE {X : Cx} {e : Expr} {te : TE} (hx : X.ex = []) (he : PE X e te) : PMk X e (tMkE X.K X.H_0 te) := by
  intro pins s σ H Q I h
  refine wpAny_mono (he.run pins s σ H _ I h) (fun u s1 hu => ?_) fun _ _ z => z
  obtain ⟨v, H1, I1, r1, a, C, rfl, h0, hr1, hr2, h1⟩ := hu
  cases (show u = Value.ref a from r1)
  have hr : Raises X (.ref C) := raises_own hr1 hr2
  rcases h1 with ⟨ea, q⟩ | ⟨d, fs, ne, ea, ed, q⟩
  · obtain ⟨t1, ha⟩ := exo_at I1.hok ea
    obtain ⟨G, gs, ga, J⟩ := Inv.untrack I1 ea h0 hx
    exact ⟨a, _, _, { s1 with heap := G }, delH H1 a, .ref C, none, rfl, J, gs, ga, ha, ⟨rfl, rfl⟩, rfl, rfl, delH_same, rfl, I1.bare, hr, q⟩
  · obtain ⟨t1, ha⟩ := exo_at I1.hok ea
    obtain ⟨G, gs, ga, J⟩ := Inv.untrack I1 ea h0 hx
    have ed' : delH H1 a d = some (exd d fs) := by rw [delH_ne ne]; exact ed
    have J2 := Inv.asDict J ed'
    exact ⟨a, _, _, { s1 with heap := G }, upd (delH H1 a) d (.xd fs), .ref C, some d, rfl, J2, gs, ga, ha, ⟨rfl, rfl⟩, rfl, rfl, by rw [upd_ne (Ne.symm ne), delH_same], rfl, I1.bare, hr, q⟩
end Exv

namespace Exv
open PySem
abbrev bmKey : List Value := [.type "KeyError", .type "LookupError", .type "Exception", .type "BaseException", .type "object"]
abbrev bmExc : List Value := [.type "Exception", .type "BaseException", .type "object"]
theorem base3E : Base3 bmExc "Exception" := ⟨by decide +kernel, by decide +kernel, by decide +kernel⟩
theorem base3K : Base3 bmKey "LookupError" := ⟨by decide +kernel, by decide +kernel, by decide +kernel⟩
theorem keyStore : StoreFacts "KeyError" bmKey "object.__setattr__" "object" where
  mro := by kernel_rfl
  slot := (.of (owner := "object") (n := "__setattr__") (by rw [typeLookup_type, builtinLookup_eq_fast]; kernel_rfl) (by decide +kernel) (by decide +kernel) (by decide +kernel) (by first | exact .inl (by decide +kernel) | exact .inr (by decide +kernel)) (by rw [isSubtype_type]; kernel_rfl))
  entry := PySem.F.entry_object_sa
  kind := by decide +kernel
  split := by decide +kernel
  hasOwner := by decide +kernel
  args := fun x y z => by { unfold argsOk; kernel_rfl }
  passes := fun x => by kernel_rfl
end Exv

/-! names and texts -/
namespace K1
open PySem L2 Xr
theorem smallM {n : Nat} (h : n ≤ 1000000) : n < sizeLine := Nat.lt_of_le_of_lt h (by decide)
abbrev sHas : Stmt := top 11
theorem scHas : FnScope ["value", "signs", "sign"] ["value", "signs"] (defScope sHas) := ⟨rfl, rfl, rfl, by decide +kernel, rfl, by decide +kernel, by decide +kernel⟩
abbrev sName : Stmt := top 9
theorem scName : FnScope ["value"] ["value"] (defScope sName) := ⟨rfl, rfl, rfl, by decide +kernel, rfl, by decide +kernel, by decide +kernel⟩
abbrev sText : Stmt := top 10
theorem scText : FnScope ["value"] ["value"] (defScope sText) := ⟨rfl, rfl, rfl, by decide +kernel, rfl, by decide +kernel, by decide +kernel⟩
def hasOnly (z g : Str) : Bool := z.cps.toList.all fun c => decide (c ∈ g.cps.toList)
abbrev abc : Str := Str.ofString "abcdefghijklmnopqrstuvwxyz"
abbrev abc9 : Str := Str.ofString "abcdefghijklmnopqrstuvwxyz0123456789 "
def nameD : PyData → Bool
  | .str z => decide (z.length ≠ 0) && (decide (z.length ≤ 8) && hasOnly z abc)
  | _ => false
def textD : PyData → Bool
  | .str z => decide (z.length ≤ 16) && hasOnly z abc9
  | _ => false
def spHas : Sp := fun vs H Q _ => ∃ (z g : Str), vs = [.str z, .str g] ∧ z.length ≤ 900000 ∧ ∀ H', Same H H' → Q (.bl (hasOnly z g)) H'
def spName (K : PySem.W.Frag) : Sp := fun vs H Q _ => ∃ (v : V) (d : PyData) (N : Addr → Prop), vs = [v] ∧ Dm K N H v d ∧ (∀ z, d = .str z → z.length ≤ 900000) ∧ ∀ H', Same H H' → Q (.bl (nameD d)) H'
def spText (K : PySem.W.Frag) : Sp := fun vs H Q _ => ∃ (v : V) (d : PyData) (N : Addr → Prop), vs = [v] ∧ Dm K N H v d ∧ (∀ z, d = .str z → z.length ≤ 900000) ∧ ∀ H', Same H H' → Q (.bl (textD d)) H'
structure WordTxt (K : PySem.W.Frag) (mg : Str → Option Value) (a_has_only : Addr) (t1 t2 t3 t4 : Tok) : Prop where
  n_isinstance : mg "isinstance" = none
  n_str : mg "str" = none
  n_len : mg "len" = none
  n_all : mg "all" = none
  g_NAME_MOST : mg "NAME_MOST" = some (.int 8 t1)
  g_TEXT_MOST : mg "TEXT_MOST" = some (.int 16 t2)
  g_NAME_SIGNS : mg "NAME_SIGNS" = some (.str abc t3)
  g_TEXT_SIGNS : mg "TEXT_SIGNS" = some (.str abc9 t4)
  g_has_only : mg "_has_only" = some (.ref a_has_only)
  k_has_only : PySem.W.keepIn K (.ref a_has_only) = true
section
variable {P : Program} {w : World} {K : PySem.W.Frag} {mg : Str → Option Value} {base : Heap}
theorem ok_has {f a_has_only : Addr} {t1 t2 t3 t4 : Tok} {fd : FuncData} (F : Fun K "_has_only" "_has_only" sHas f fd) (T : WordTxt K mg a_has_only t1 t2 t3 t4) : FnOk P w K mg base CX0 1 f fd ["value", "signs"] spHas := by
  refine F.ok scHas (fun vs H Q E h => ?_) (fun cdv A outer s H vs Q E hr h => ?_)
  · obtain ⟨z, g, rfl, _⟩ := h
    rfl
  · obtain ⟨z, g, rfl, hl, k⟩ := h
    refine ⟨_, (pss_one (ps_ret (pe_callB (cr_all (by rfl)) (by rfl) T.n_all (by decide +kernel) (pa_cons (pe_lc (own := [("sign", 2)]) (g := gName 2) (tt := tYes) (by rfl) scHas.nd (pi_str (pv 0)) (blkOk_by (own := [("sign", 2)]) (N := ["value", "signs", "sign"]) (sc := defScope sHas) (by decide +kernel)) (fun _ _ _ _ _ => pg_name (i := 2) scHas.nd rfl (Or.inl rfl)) (fun _ _ _ _ _ => pts_nil) (fun _ _ _ _ _ => (pe_cmpR op_in_sign (pv 2) (pv 1) (by rfl)))) pa_nil)))), ?_⟩
    refine ⟨_, rfl, z, rfl, fun D hD => ?_⟩
    refine lc_it walk_str (fun i H1 => Same H H1 ∧ H1 D = some (.lst ((z.cps.toList.take i).map fun c => V.bl (decide (c ∈ g.cps.toList))))) ⟨(Same.refl H).new hD, upd_same⟩ (fun _ _ _ _ => trivial) ?_ ?_
    · rintro i x H1 H2 hi ⟨s1, h1⟩ ⟨rfl, c, hc, rfl⟩
      have hz : z.length = z.cps.toList.length := by
        show z.cps.size = _
        simp
      have lt : i ≤ z.length := by
        show i ≤ z.cps.size
        omega
      refine ⟨rfl, _, rfl, _, rfl, c, g, rfl, rfl, _, h1, smallM (by rw [List.length_map, List.length_take]; omega), s1.cell hD, ?_⟩
      have ec : z.cps.toList[i]? = some c := by simpa using hc
      rw [upd_same, take_more ec]
      simp
    · rintro H1 ⟨s1, h1⟩
      have e1 : z.cps.toList.take z.cps.size = z.cps.toList := by
        rw [List.take_of_length_le]
        simp
      rw [e1] at h1
      refine ⟨D, z.cps.toList.map (fun c => decide (c ∈ g.cps.toList)), rfl, SqL.of (by rw [h1, List.map_map]; rfl), ?_⟩
      have e2 : (z.cps.toList.map fun c => decide (c ∈ g.cps.toList)).all id = hasOnly z g := by
        unfold hasOnly
        rw [List.all_map]
        rfl
      rw [e2]
      exact k _ s1
theorem ok_name {f a_has_only : Addr} {t1 t2 t3 t4 : Tok} {fd fdH : FuncData} (F : Fun K "is_name" "is_name" sName f fd) (T : WordTxt K mg a_has_only t1 t2 t3 t4) (G_has_only : FnOk P w K mg base CX0 1 a_has_only fdH ["value", "signs"] spHas) (b_has_only : Binds K fdH ["value", "signs"] []) :
    FnOk P w K mg base CX0 2 f fd ["value"] (spName K) := by
  refine F.ok scName (fun vs H Q E h => ?_) (fun cdv A outer s H vs Q E hr h => ?_)
  · obtain ⟨v, d, N, rfl, _⟩ := h
    rfl
  · obtain ⟨v, d, N, rfl, hv, hl, k⟩ := h
    refine ⟨_, (pss_cons (ps_if (PW.pt (pw_or (pt_not (pt_val (pe_callB call_isi (by rfl) T.n_isinstance (by decide +kernel) (pa_cons (pv 0) (pa_cons (pe_bltn (v := V.ty "str") (u := .type "str") (by rfl) T.n_str (by decide +kernel) (by rfl)) pa_nil))))) (pw_or (pt_cmpR op_eq (pv 0) pe_str (nomark _)) (pw_or1 (pt_cmpR op_gt (pe_callB call_len_str (by rfl) T.n_len PySem.boot_len (pa_cons (pv 0) pa_nil)) (pe_glob (v := V.int 8) (by rfl) T.g_NAME_MOST (by exact ⟨_, rfl⟩)) (nomark _))))))
      (pss_one (ps_ret pe_bl))
      pss_nil)
      (pss_one (ps_ret (pe_call G_has_only hr rfl T.g_has_only T.k_has_only b_has_only .nil pass0 (pa_cons (pv 0) (pa_cons (pe_glob (v := V.str abc) (by rfl) T.g_NAME_SIGNS (by exact ⟨_, rfl⟩)) pa_nil)))))), ?_⟩
    refine ⟨_, rfl, _, _, _, _, _, rfl, .ty "str", hv.ty, kit_str d, _, rfl, ?_⟩
    cases d with
    | str z =>
      have ev := hv.strV
      subst ev
      have l9 := hl z rfl
      refine iteF ⟨_, rfl, rfl, _, rfl, ?_⟩
      by_cases h0 : z.length = 0
      · have ez : z = Str.ofString "" := by
          have h1 : z.cps.size = 0 := h0
          cases z with
          | mk cps =>
            have : cps = #[] := Array.size_eq_zero_iff.mp h1
            rw [this]
            rfl
        subst ez
        exact iteT (k _ (Same.refl H))
      · have nz : ¬ (V.str z = V.str (Str.ofString "")) := fun e => h0 (by rw [V.str.inj e]; rfl)
        rw [decide_eq_false nz]
        refine iteF ⟨_, rfl, _, rfl, (by rw [sizeLine_eq]; omega), _, _, rfl, rfl, _, rfl, ?_⟩
        have en : nameD (.str z) = (decide (z.length ≤ 8) && hasOnly z abc) := by
          show (decide (z.length ≠ 0) && _) = _
          rw [decide_eq_true h0, Bool.true_and]
        refine ite2 (fun h8 => ?_) (fun h8 => ?_)
        · have h9 : ¬ z.length ≤ 8 := by
            have := of_decide_eq_true h8
            omega
          have := k H (Same.refl H)
          rw [en, decide_eq_false h9, Bool.false_and] at this
          exact this
        · have h9 : z.length ≤ 8 := by
            have : ¬ ((8 : Int) < (z.length : Int)) := fun q => h8 (decide_eq_true q)
            omega
          refine ⟨_, rfl, z, abc, rfl, l9, fun H' s' => ?_⟩
          have := k H' s'
          rw [en, decide_eq_true h9, Bool.true_and] at this
          exact this
    | _ => exact iteT (k _ (Same.refl H))
theorem ok_text {f a_has_only : Addr} {t1 t2 t3 t4 : Tok} {fd fdH : FuncData} (F : Fun K "is_text" "is_text" sText f fd) (T : WordTxt K mg a_has_only t1 t2 t3 t4) (G_has_only : FnOk P w K mg base CX0 1 a_has_only fdH ["value", "signs"] spHas) (b_has_only : Binds K fdH ["value", "signs"] []) :
    FnOk P w K mg base CX0 2 f fd ["value"] (spText K) := by
  refine F.ok scText (fun vs H Q E h => ?_) (fun cdv A outer s H vs Q E hr h => ?_)
  · obtain ⟨v, d, N, rfl, _⟩ := h
    rfl
  · obtain ⟨v, d, N, rfl, hv, hl, k⟩ := h
    refine ⟨_, (pss_cons (ps_if (PW.pt (pw_or (pt_not (pt_val (pe_callB call_isi (by rfl) T.n_isinstance (by decide +kernel) (pa_cons (pv 0) (pa_cons (pe_bltn (v := V.ty "str") (u := .type "str") (by rfl) T.n_str (by decide +kernel) (by rfl)) pa_nil))))) (pw_or1 (pt_cmpR op_gt (pe_callB call_len_str (by rfl) T.n_len PySem.boot_len (pa_cons (pv 0) pa_nil)) (pe_glob (v := V.int 16) (by rfl) T.g_TEXT_MOST (by exact ⟨_, rfl⟩)) (nomark _)))))
      (pss_one (ps_ret pe_bl))
      pss_nil)
      (pss_one (ps_ret (pe_call G_has_only hr rfl T.g_has_only T.k_has_only b_has_only .nil pass0 (pa_cons (pv 0) (pa_cons (pe_glob (v := V.str abc9) (by rfl) T.g_TEXT_SIGNS (by exact ⟨_, rfl⟩)) pa_nil)))))), ?_⟩
    refine ⟨_, rfl, _, _, _, _, _, rfl, .ty "str", hv.ty, kit_str d, _, rfl, ?_⟩
    cases d with
    | str z =>
      have ev := hv.strV
      subst ev
      have l9 := hl z rfl
      refine iteF ⟨_, rfl, _, rfl, (by rw [sizeLine_eq]; omega), _, _, rfl, rfl, _, rfl, ?_⟩
      refine ite2 (fun h8 => ?_) (fun h8 => ?_)
      · have h9 : ¬ z.length ≤ 16 := by
          have := of_decide_eq_true h8
          omega
        have := k H (Same.refl H)
        rw [show textD (.str z) = (decide (z.length ≤ 16) && hasOnly z abc9) from rfl, decide_eq_false h9, Bool.false_and] at this
        exact this
      · have h9 : z.length ≤ 16 := by
          have : ¬ ((16 : Int) < (z.length : Int)) := fun q => h8 (decide_eq_true q)
          omega
        refine ⟨_, rfl, z, abc9, rfl, l9, fun H' s' => ?_⟩
        have := k H' s'
        rw [show textD (.str z) = (decide (z.length ≤ 16) && hasOnly z abc9) from rfl, decide_eq_true h9, Bool.true_and] at this
        exact this
    | _ => exact iteT (k _ (Same.refl H))
end
end K1

/-! a document that is still being made: lists of a name and a list of things, into which things are put -/
namespace K1
open PySem L2
inductive AT where
  | txt (z : Str)
  | nod (a k : Addr) (x : Str) (ts : List AT)
def AT.val : AT → V
  | .txt z => .str z
  | .nod a _ _ _ => .ref a
mutual
/-- the nodes' own lists -/
def AT.na : AT → List Addr
  | .txt _ => []
  | .nod a _ _ ts => a :: naAll ts
def naAll : List AT → List Addr
  | [] => []
  | t :: ts => t.na ++ naAll ts
end
mutual
/-- the lists of what stands in them -/
def AT.ka : AT → List Addr
  | .txt _ => []
  | .nod _ k _ ts => k :: kaAll ts
def kaAll : List AT → List Addr
  | [] => []
  | t :: ts => t.ka ++ kaAll ts
end
mutual
def AT.At (H : Hp) : AT → Prop
  | .txt _ => True
  | .nod a k x ts => H a = some (.lst [.str x, .ref k]) ∧ H k = some (.lst (ts.map AT.val)) ∧ atAll H ts
def atAll (H : Hp) : List AT → Prop
  | [] => True
  | t :: ts => t.At H ∧ atAll H ts
end
mutual
theorem AT.frame {H H' : Hp} : ∀ t : AT, (∀ q ∈ t.na, H' q = H q) → (∀ q ∈ t.ka, H' q = H q) → t.At H → t.At H'
  | .txt _, _, _, _ => trivial
  | .nod a k x ts, h1, h2, h => by
    obtain ⟨e1, e2, e3⟩ := h
    have m1 : ∀ q ∈ a :: naAll ts, H' q = H q := h1
    have m2 : ∀ q ∈ k :: kaAll ts, H' q = H q := h2
    refine ⟨by rw [m1 a (by simp)]; exact e1, by rw [m2 k (by simp)]; exact e2, ?_⟩
    exact atAll_frame ts (fun q hq => m1 q (by simp [hq])) (fun q hq => m2 q (by simp [hq])) e3
theorem atAll_frame {H H' : Hp} : ∀ ts : List AT, (∀ q ∈ naAll ts, H' q = H q) → (∀ q ∈ kaAll ts, H' q = H q) → atAll H ts → atAll H' ts
  | [], _, _, _ => trivial
  | t :: ts, h1, h2, h => by
    have m1 : ∀ q ∈ t.na ++ naAll ts, H' q = H q := h1
    have m2 : ∀ q ∈ t.ka ++ kaAll ts, H' q = H q := h2
    exact ⟨AT.frame t (fun q hq => m1 q (by simp [hq])) (fun q hq => m2 q (by simp [hq])) h.1, atAll_frame ts (fun q hq => m1 q (by simp [hq])) (fun q hq => m2 q (by simp [hq])) h.2⟩
end
mutual
/-- n put into the list k0, ahead of its i-th thing -/
def putT (k0 : Addr) (i : Nat) (n : AT) : AT → AT
  | .txt z => .txt z
  | .nod a k x ts => if k = k0 then .nod a k x (ts.take i ++ n :: ts.drop i) else .nod a k x (putAll k0 i n ts)
def putAll (k0 : Addr) (i : Nat) (n : AT) : List AT → List AT
  | [] => []
  | t :: ts => putT k0 i n t :: putAll k0 i n ts
end
theorem put_val {k0 : Addr} {i : Nat} {n : AT} : ∀ t : AT, (putT k0 i n t).val = t.val
  | .txt _ => rfl
  | .nod a k x ts => by
    unfold putT
    split <;> rfl
theorem putAll_vals {k0 : Addr} {i : Nat} {n : AT} : ∀ ts : List AT, (putAll k0 i n ts).map AT.val = ts.map AT.val
  | [] => rfl
  | t :: ts => by
    show (putT k0 i n t).val :: (putAll k0 i n ts).map AT.val = t.val :: ts.map AT.val
    rw [put_val, putAll_vals ts]
mutual
/-- where the list isn't, nothing changes -/
theorem put_out {k0 : Addr} {i : Nat} {n : AT} : ∀ t : AT, k0 ∉ t.ka → putT k0 i n t = t
  | .txt _, _ => rfl
  | .nod a k x ts, h => by
    have h' : k0 ∉ k :: kaAll ts := h
    unfold putT
    rw [if_neg (fun e => h' (by rw [e]; simp)), putAll_out ts (fun z => h' (by simp [z]))]
theorem putAll_out {k0 : Addr} {i : Nat} {n : AT} : ∀ ts : List AT, k0 ∉ kaAll ts → putAll k0 i n ts = ts
  | [], _ => rfl
  | t :: ts, h => by
    have h' : k0 ∉ t.ka ++ kaAll ts := h
    show putT k0 i n t :: putAll k0 i n ts = t :: ts
    rw [put_out t (fun z => h' (by simp [z])), putAll_out ts (fun z => h' (by simp [z]))]
end
theorem naAll_app : ∀ ts us : List AT, naAll (ts ++ us) = naAll ts ++ naAll us
  | [], _ => rfl
  | t :: ts, us => by
    show t.na ++ naAll (ts ++ us) = (t.na ++ naAll ts) ++ naAll us
    rw [naAll_app ts us, List.append_assoc]
theorem kaAll_app : ∀ ts us : List AT, kaAll (ts ++ us) = kaAll ts ++ kaAll us
  | [], _ => rfl
  | t :: ts, us => by
    show t.ka ++ kaAll (ts ++ us) = (t.ka ++ kaAll ts) ++ kaAll us
    rw [kaAll_app ts us, List.append_assoc]
theorem atAll_app {H : Hp} : ∀ ts us : List AT, atAll H (ts ++ us) ↔ atAll H ts ∧ atAll H us
  | [], us => ⟨fun h => ⟨trivial, h⟩, fun h => h.2⟩
  | t :: ts, us => ⟨fun h => ⟨⟨h.1, ((atAll_app ts us).mp h.2).1⟩, ((atAll_app ts us).mp h.2).2⟩, fun h => ⟨h.1.1, (atAll_app ts us).mpr ⟨h.1.2, h.2⟩⟩⟩
mutual
/-- the store of a list with one thing more makes the document with that thing put in -/
theorem put_at {H : Hp} {k0 : Addr} {i : Nat} {n : AT} {vs : List V} (hk : H k0 = some (.lst vs)) (hn : n.At H) (n1 : k0 ∉ n.na) (n2 : k0 ∉ n.ka) : ∀ t : AT, t.At H → k0 ∉ t.na → t.ka.Nodup →
    (putT k0 i n t).At (upd H k0 (.lst (vs.take i ++ n.val :: vs.drop i)))
  | .txt _, _, _, _ => trivial
  | .nod a k x ts, h, hna, nd => by
    obtain ⟨e1, e2, e3⟩ := h
    have hna' : k0 ∉ a :: naAll ts := hna
    have nd' : (k :: kaAll ts).Nodup := nd
    have ka0 : k ∉ kaAll ts := (List.nodup_cons.mp nd').1
    have nd2 : (kaAll ts).Nodup := (List.nodup_cons.mp nd').2
    have ane : a ≠ k0 := fun e => hna' (by rw [e]; simp)
    unfold putT
    by_cases hkk : k = k0
    · subst hkk
      rw [if_pos rfl]
      rw [hk] at e2
      have ev : vs = ts.map AT.val := by
        have z := Option.some.inj e2
        injection z
      refine ⟨by rw [upd_ne ane]; exact e1, ?_, ?_⟩
      · rw [upd_same, ev]
        simp
      · have fr : ∀ us : List AT, (∀ q ∈ naAll us, q ≠ k) → (∀ q ∈ kaAll us, q ≠ k) → atAll H us → atAll (upd H k (.lst (vs.take i ++ n.val :: vs.drop i))) us := fun us u1 u2 u => atAll_frame us (fun q hq => upd_ne (u1 q hq)) (fun q hq => upd_ne (u2 q hq)) u
        have all := fr ts (fun q hq e => hna' (by rw [← e]; simp [hq])) (fun q hq e => ka0 (by rw [← e]; exact hq)) e3
        have sp : ts = ts.take i ++ ts.drop i := (List.take_append_drop i ts).symm
        rw [sp] at all
        obtain ⟨a1, a2⟩ := (atAll_app _ _).mp all
        refine (atAll_app _ _).mpr ⟨a1, ?_, a2⟩
        exact AT.frame n (fun q hq => upd_ne (fun e => n1 (by rw [← e]; exact hq))) (fun q hq => upd_ne (fun e => n2 (by rw [← e]; exact hq))) hn
    · rw [if_neg hkk]
      refine ⟨by rw [upd_ne ane]; exact e1, ?_, putAll_at hk hn n1 n2 ts e3 (fun z => hna' (by simp [z])) nd2⟩
      rw [upd_ne hkk, putAll_vals]
      exact e2
theorem putAll_at {H : Hp} {k0 : Addr} {i : Nat} {n : AT} {vs : List V} (hk : H k0 = some (.lst vs)) (hn : n.At H) (n1 : k0 ∉ n.na) (n2 : k0 ∉ n.ka) : ∀ ts : List AT, atAll H ts → k0 ∉ naAll ts → (kaAll ts).Nodup →
    atAll (upd H k0 (.lst (vs.take i ++ n.val :: vs.drop i))) (putAll k0 i n ts)
  | [], _, _, _ => trivial
  | t :: ts, h, hna, nd => by
    have hna' : k0 ∉ t.na ++ naAll ts := hna
    have nd' : (t.ka ++ kaAll ts).Nodup := nd
    obtain ⟨d1, d2, _⟩ := List.nodup_append.mp nd'
    exact ⟨put_at hk hn n1 n2 t h.1 (fun z => hna' (by simp [z])) d1, putAll_at hk hn n1 n2 ts h.2 (fun z => hna' (by simp [z])) d2⟩
end
mutual
/-- how many things -/
def AT.cnt : AT → Nat
  | .txt _ => 1
  | .nod _ _ _ ts => 1 + cntAll ts
def cntAll : List AT → Nat
  | [] => 0
  | t :: ts => t.cnt + cntAll ts
end
theorem cntAll_app : ∀ ts us : List AT, cntAll (ts ++ us) = cntAll ts + cntAll us
  | [], us => by show cntAll us = 0 + cntAll us; omega
  | t :: ts, us => by
    show t.cnt + cntAll (ts ++ us) = t.cnt + cntAll ts + cntAll us
    rw [cntAll_app ts us]
    omega
mutual
theorem put_cnt {k0 : Addr} {i : Nat} {n : AT} : ∀ t : AT, t.ka.Nodup → (putT k0 i n t).cnt ≤ t.cnt + n.cnt
  | .txt _, _ => by
    show 1 ≤ 1 + n.cnt
    omega
  | .nod a k x ts, nd => by
    have nd' : (k :: kaAll ts).Nodup := nd
    unfold putT
    by_cases hkk : k = k0
    · rw [if_pos hkk]
      show 1 + cntAll (ts.take i ++ n :: ts.drop i) ≤ 1 + cntAll ts + n.cnt
      have e : cntAll ts = cntAll (ts.take i) + cntAll (ts.drop i) := by rw [← cntAll_app, List.take_append_drop]
      rw [cntAll_app, e]
      show 1 + (cntAll (ts.take i) + (n.cnt + cntAll (ts.drop i))) ≤ _
      omega
    · rw [if_neg hkk]
      have := putAll_cnt (k0 := k0) (i := i) (n := n) ts (List.nodup_cons.mp nd').2
      show 1 + cntAll (putAll k0 i n ts) ≤ 1 + cntAll ts + n.cnt
      omega
theorem putAll_cnt {k0 : Addr} {i : Nat} {n : AT} : ∀ ts : List AT, (kaAll ts).Nodup → cntAll (putAll k0 i n ts) ≤ cntAll ts + n.cnt
  | [], _ => Nat.zero_le _
  | t :: ts, nd => by
    have nd' : (t.ka ++ kaAll ts).Nodup := nd
    obtain ⟨d1, d2, d3⟩ := List.nodup_append.mp nd'
    show (putT k0 i n t).cnt + cntAll (putAll k0 i n ts) ≤ t.cnt + cntAll ts + n.cnt
    by_cases hk : k0 ∈ t.ka
    · have out : k0 ∉ kaAll ts := fun z => d3 k0 hk k0 z rfl
      rw [putAll_out ts out]
      have := put_cnt (k0 := k0) (i := i) (n := n) t d1
      omega
    · rw [put_out t hk]
      have := putAll_cnt (k0 := k0) (i := i) (n := n) ts d2
      omega
end
end K1

/-! frozen: lists made tuples -/
namespace K1
open PySem L2 Xr
theorem take_snoc {α : Type} {l : List α} {i : Nat} {x : α} (h : l[i]? = some x) : l.take (i + 1) = l.take i ++ [x] := by
  induction l generalizing i with
  | nil => simp at h
  | cons a l ih =>
    cases i with
    | zero =>
      have e : a = x := Option.some.inj h
      subst e
      rfl
    | succ i =>
      show a :: l.take (i + 1) = a :: l.take i ++ [x]
      rw [ih h]
      rfl
theorem not_new {N : Addr → Prop} {H H1 : Hp} {p : Addr} (hN : ∀ a, N a → Trk H a) (s : Same H H1) (hp : H1 p = none) : ¬ N p := fun n => by
  obtain ⟨_, z⟩ := (hN p n).same s
  rw [hp] at z
  cases z
mutual
def AT.doc : AT → Doc
  | .txt z => .txt z
  | .nod _ _ x ts => .nod x (docAll ts)
def docAll : List AT → List Doc
  | [] => []
  | t :: ts => t.doc :: docAll ts
end
theorem docAll_map : ∀ ts : List AT, docAll ts = ts.map AT.doc
  | [] => rfl
  | t :: ts => by
    show t.doc :: docAll ts = t.doc :: ts.map AT.doc
    rw [docAll_map ts]
theorem datAll_snoc (ts : List Doc) (t : Doc) : datAll (ts ++ [t]) = datAll ts ++ [t.dat] := by
  rw [datAll_map, datAll_map, List.map_append]
  rfl
mutual
/-- how many nodes -/
def AT.nds : AT → Nat
  | .txt _ => 0
  | .nod _ _ _ ts => 1 + ndsAll ts
def ndsAll : List AT → Nat
  | [] => 0
  | t :: ts => t.nds + ndsAll ts
end
theorem nds_part : ∀ (ts : List AT) (t : AT), t ∈ ts → t.nds ≤ ndsAll ts
  | u :: ts, t, h => by
    show t.nds ≤ u.nds + ndsAll ts
    rcases List.mem_cons.mp h with h | h
    · rw [h]
      omega
    · have := nds_part ts t h
      omega
theorem cnt_len : ∀ ts : List AT, ts.length ≤ cntAll ts
  | [] => Nat.le_refl _
  | t :: ts => by
    have := cnt_len ts
    have p : 1 ≤ t.cnt := by
      cases t with
      | txt z => exact Nat.le_refl _
      | nod a k x ts =>
        show 1 ≤ 1 + cntAll ts
        omega
    show ts.length + 1 ≤ t.cnt + cntAll ts
    omega
theorem cnt_part : ∀ (ts : List AT) (t : AT), t ∈ ts → t.cnt ≤ cntAll ts
  | u :: ts, t, h => by
    show t.cnt ≤ u.cnt + cntAll ts
    rcases List.mem_cons.mp h with h | h
    · rw [h]
      omega
    · have := cnt_part ts t h
      omega
theorem at_part {H : Hp} : ∀ (ts : List AT) (t : AT), t ∈ ts → atAll H ts → t.At H
  | u :: ts, t, h, a => by
    rcases List.mem_cons.mp h with h | h
    · rw [h]
      exact a.1
    · exact at_part ts t h a.2
mutual
theorem AT.same {H H' : Hp} (s : Same H H') : ∀ t : AT, t.At H → t.At H'
  | .txt _, _ => trivial
  | .nod a k x ts, h => ⟨s _ _ h.1, s _ _ h.2.1, atAll_same s ts h.2.2⟩
theorem atAll_same {H H' : Hp} (s : Same H H') : ∀ ts : List AT, atAll H ts → atAll H' ts
  | [], _ => trivial
  | t :: ts, h => ⟨AT.same s t h.1, atAll_same s ts h.2⟩
end
def spFrozen (K : PySem.W.Frag) (n : Nat) : Sp := fun vs H Q _ => ∃ (t : AT) (N : Addr → Prop), vs = [t.val] ∧ (∀ a, N a → Trk H a) ∧ t.At H ∧ t.nds ≤ n ∧ t.cnt ≤ 900 ∧ ∀ (u : V) (H' : Hp), Dm K N H' u t.doc.dat → Same H H' → Q u H'
structure FrozenTxt (K : PySem.W.Frag) (mg : Str → Option Value) (a_law_frozen : Addr) : Prop where
  n_isinstance : mg "isinstance" = none
  n_str : mg "str" = none
  n_tuple : mg "tuple" = none
section
variable {P : Program} {w : World} {K : PySem.W.Frag} {mg : Str → Option Value} {base : Heap} {a_law_frozen : Addr}
end
end K1

/-! drawn texts -/
namespace K1
open PySem L2 Xr
theorem DealAt.upd {H : Hp} {d c l : Addr} {o : HO} (h : DealAt H d c) (n1 : l ≠ d) (n2 : l ≠ c) : DealAt (upd H l o) d c := by
  obtain ⟨cs, b, h1, h2, r⟩ := h.ex
  exact ⟨cs, b, by rw [upd_ne (Ne.symm n1)]; exact h1, by rw [upd_ne (Ne.symm n2)]; exact h2, r⟩
theorem DealAt.trk {H : Hp} {d c : Addr} (h : DealAt H d c) : Trk H d ∧ Trk H c := by
  obtain ⟨cs, b, h1, h2, r⟩ := h.ex
  exact ⟨⟨_, h1⟩, ⟨_, h2⟩⟩
theorem DealAt.ne {H : Hp} {d c l : Addr} (D : DealAt H d c) (hl : H l = none) : l ≠ d ∧ l ≠ c := by
  obtain ⟨⟨_, z1⟩, ⟨_, z2⟩⟩ := D.trk
  refine ⟨fun e => ?_, fun e => ?_⟩
  · rw [e, z1] at hl
    cases hl
  · rw [e, z2] at hl
    cases hl
theorem DealAt.new {H : Hp} {d c l : Addr} {o : HO} (h : DealAt H d c) (hl : H l = none) : DealAt (L2.upd H l o) d c := h.upd (h.ne hl).1 (h.ne hl).2
theorem But.cell0 {d c l : Addr} {H H1 : Hp} {o : HO} (b : But d c H H1) (hl : H l = none) : But d c H (upd H1 l o) := fun q u e n m => by
  have z := b q u e n m
  rw [upd_ne (ne_of_none e hl)]
  exact z
theorem But.none {d c l : Addr} {H H' : Hp} (b : But d c H H') (hl : H' l = none) (D : DealAt H' d c) : H l = none := by
  cases e : H l with
  | none => rfl
  | some o =>
    obtain ⟨n1, n2⟩ := D.ne hl
    rw [b l o e n1 n2] at hl
    cases hl
/-- a text of signs out of some -/
structure From (S : List Nat) (n : Nat) (z : Str) : Prop where
  len : z.length = n
  sub : ∀ ch ∈ z.cps.toList, ch ∈ S
theorem cps_app (a b : Str) : (a ++ b).cps.toList = a.cps.toList ++ b.cps.toList := by
  show (a.cps ++ b.cps).toList = _
  simp
theorem join_from {S : List Nat} : ∀ (ys : List Str), (∀ y ∈ ys, From S 1 y) → From S ys.length (Str.join (Str.ofString "") ys)
  | [], _ => ⟨rfl, fun ch h => by simp [Str.join, Str.empty] at h⟩
  | [y], h => h y (by simp)
  | y :: y2 :: r, h => by
    have ih := join_from (y2 :: r) fun x hx => h x (List.mem_cons_of_mem _ hx)
    have hy := h y (by simp)
    have e : Str.join (Str.ofString "") (y :: y2 :: r) = y ++ Str.ofString "" ++ Str.join (Str.ofString "") (y2 :: r) := rfl
    have l0 : (Str.ofString "").length = 0 := by decide
    have t0 : (Str.ofString "").cps.toList = [] := by decide +kernel
    rw [e]
    refine ⟨?_, fun ch hc => ?_⟩
    · rw [strLen_append, strLen_append, l0]
      have h1 := ih.len
      have h2 := hy.len
      simp only [List.length_cons] at h1 ⊢
      omega
    · rw [cps_app, cps_app, t0, List.append_nil] at hc
      rcases List.mem_append.mp hc with hc | hc
      · exact hy.sub ch hc
      · exact ih.sub ch hc
theorem From.has {g z : Str} {n : Nat} (h : From g.cps.toList n z) : hasOnly z g = true := by
  unfold hasOnly
  rw [List.all_eq_true]
  intro c hc
  exact decide_eq_true (h.sub c hc)
def spLText : Sp := fun vs H Q _ => ∃ (d c : Addr), vs = [.ref d] ∧ DealAt H d c ∧ ∀ (z : Str) (H' : Hp), textD (.str z) = true → DealAt H' d c → But d c H H' → Q (.str z) H'
structure LTextTxt (K : PySem.W.Frag) (mg : Str → Option Value) (a_law_any a_law_of : Addr) : Prop where
  n_range : mg "range" = none
  g_law_of : mg "_law_of" = some (.ref a_law_of)
  k_law_of : PySem.W.keepIn K (.ref a_law_of) = true
  g_law_any : mg "_law_any" = some (.ref a_law_any)
  k_law_any : PySem.W.keepIn K (.ref a_law_any) = true
section
variable {P : Program} {w : World} {K : PySem.W.Frag} {mg : Str → Option Value} {base : Heap} {a_law_any a_law_of : Addr} {fdA fdO : FuncData}
end
end K1

/-! what putting in leaves of the addresses, the names and the texts -/
namespace K1
open PySem L2
mutual
theorem put_ka {k0 : Addr} {i : Nat} {n : AT} : ∀ t : AT, ∀ q ∈ (putT k0 i n t).ka, q ∈ t.ka ∨ q ∈ n.ka
  | .txt z, q, h => .inl h
  | .nod a k x ts, q, h => by
    unfold putT at h
    by_cases hk : k = k0
    · rw [if_pos hk] at h
      have h' : q ∈ k :: kaAll (ts.take i ++ n :: ts.drop i) := h
      have sp : kaAll ts = kaAll (ts.take i) ++ kaAll (ts.drop i) := by rw [← kaAll_app, List.take_append_drop]
      rcases List.mem_cons.mp h' with e | h'
      · exact .inl (by rw [e]; show k ∈ k :: kaAll ts; simp)
      · rw [kaAll_app] at h'
        rcases List.mem_append.mp h' with h' | h'
        · exact .inl (by show q ∈ k :: kaAll ts; rw [sp]; simp [h'])
        · have h2 : q ∈ n.ka ++ kaAll (ts.drop i) := h'
          rcases List.mem_append.mp h2 with h2 | h2
          · exact .inr h2
          · exact .inl (by show q ∈ k :: kaAll ts; rw [sp]; simp [h2])
    · rw [if_neg hk] at h
      have h' : q ∈ k :: kaAll (putAll k0 i n ts) := h
      rcases List.mem_cons.mp h' with e | h'
      · exact .inl (by rw [e]; show k ∈ k :: kaAll ts; simp)
      · exact (putAll_ka ts q h').imp (fun z => by show q ∈ k :: kaAll ts; simp [z]) id
theorem putAll_ka {k0 : Addr} {i : Nat} {n : AT} : ∀ ts : List AT, ∀ q ∈ kaAll (putAll k0 i n ts), q ∈ kaAll ts ∨ q ∈ n.ka
  | [], q, h => .inl h
  | t :: ts, q, h => by
    have h' : q ∈ (putT k0 i n t).ka ++ kaAll (putAll k0 i n ts) := h
    rcases List.mem_append.mp h' with h' | h'
    · exact (put_ka t q h').imp (fun z => by show q ∈ t.ka ++ kaAll ts; simp [z]) id
    · exact (putAll_ka ts q h').imp (fun z => by show q ∈ t.ka ++ kaAll ts; simp [z]) id
end
mutual
theorem put_ka' {k0 : Addr} {i : Nat} {n : AT} : ∀ t : AT, ∀ q ∈ t.ka, q ∈ (putT k0 i n t).ka
  | .txt z, q, h => h
  | .nod a k x ts, q, h => by
    have h' : q ∈ k :: kaAll ts := h
    unfold putT
    by_cases hk : k = k0
    · rw [if_pos hk]
      show q ∈ k :: kaAll (ts.take i ++ n :: ts.drop i)
      have sp : kaAll ts = kaAll (ts.take i) ++ kaAll (ts.drop i) := by rw [← kaAll_app, List.take_append_drop]
      rw [kaAll_app]
      show q ∈ k :: (kaAll (ts.take i) ++ (n.ka ++ kaAll (ts.drop i)))
      rw [sp] at h'
      rcases List.mem_cons.mp h' with e | h'
      · simp [e]
      · rcases List.mem_append.mp h' with h' | h' <;> simp [h']
    · rw [if_neg hk]
      show q ∈ k :: kaAll (putAll k0 i n ts)
      rcases List.mem_cons.mp h' with e | h'
      · simp [e]
      · simp [putAll_ka' ts q h']
theorem putAll_ka' {k0 : Addr} {i : Nat} {n : AT} : ∀ ts : List AT, ∀ q ∈ kaAll ts, q ∈ kaAll (putAll k0 i n ts)
  | [], q, h => h
  | t :: ts, q, h => by
    have h' : q ∈ t.ka ++ kaAll ts := h
    show q ∈ (putT k0 i n t).ka ++ kaAll (putAll k0 i n ts)
    rcases List.mem_append.mp h' with h' | h'
    · simp [put_ka' t q h']
    · simp [putAll_ka' ts q h']
end
mutual
theorem put_na {k0 : Addr} {i : Nat} {n : AT} : ∀ t : AT, ∀ q ∈ (putT k0 i n t).na, q ∈ t.na ∨ q ∈ n.na
  | .txt z, q, h => .inl h
  | .nod a k x ts, q, h => by
    unfold putT at h
    by_cases hk : k = k0
    · rw [if_pos hk] at h
      have h' : q ∈ a :: naAll (ts.take i ++ n :: ts.drop i) := h
      have sp : naAll ts = naAll (ts.take i) ++ naAll (ts.drop i) := by rw [← naAll_app, List.take_append_drop]
      rcases List.mem_cons.mp h' with e | h'
      · exact .inl (by rw [e]; show a ∈ a :: naAll ts; simp)
      · rw [naAll_app] at h'
        rcases List.mem_append.mp h' with h' | h'
        · exact .inl (by show q ∈ a :: naAll ts; rw [sp]; simp [h'])
        · have h2 : q ∈ n.na ++ naAll (ts.drop i) := h'
          rcases List.mem_append.mp h2 with h2 | h2
          · exact .inr h2
          · exact .inl (by show q ∈ a :: naAll ts; rw [sp]; simp [h2])
    · rw [if_neg hk] at h
      have h' : q ∈ a :: naAll (putAll k0 i n ts) := h
      rcases List.mem_cons.mp h' with e | h'
      · exact .inl (by rw [e]; show a ∈ a :: naAll ts; simp)
      · exact (putAll_na ts q h').imp (fun z => by show q ∈ a :: naAll ts; simp [z]) id
theorem putAll_na {k0 : Addr} {i : Nat} {n : AT} : ∀ ts : List AT, ∀ q ∈ naAll (putAll k0 i n ts), q ∈ naAll ts ∨ q ∈ n.na
  | [], q, h => .inl h
  | t :: ts, q, h => by
    have h' : q ∈ (putT k0 i n t).na ++ naAll (putAll k0 i n ts) := h
    rcases List.mem_append.mp h' with h' | h'
    · exact (put_na t q h').imp (fun z => by show q ∈ t.na ++ naAll ts; simp [z]) id
    · exact (putAll_na ts q h').imp (fun z => by show q ∈ t.na ++ naAll ts; simp [z]) id
end
mutual
theorem put_na' {k0 : Addr} {i : Nat} {n : AT} : ∀ t : AT, ∀ q ∈ t.na, q ∈ (putT k0 i n t).na
  | .txt z, q, h => h
  | .nod a k x ts, q, h => by
    have h' : q ∈ a :: naAll ts := h
    unfold putT
    by_cases hk : k = k0
    · rw [if_pos hk]
      show q ∈ a :: naAll (ts.take i ++ n :: ts.drop i)
      have sp : naAll ts = naAll (ts.take i) ++ naAll (ts.drop i) := by rw [← naAll_app, List.take_append_drop]
      rw [naAll_app]
      show q ∈ a :: (naAll (ts.take i) ++ (n.na ++ naAll (ts.drop i)))
      rw [sp] at h'
      rcases List.mem_cons.mp h' with e | h'
      · simp [e]
      · rcases List.mem_append.mp h' with h' | h' <;> simp [h']
    · rw [if_neg hk]
      show q ∈ a :: naAll (putAll k0 i n ts)
      rcases List.mem_cons.mp h' with e | h'
      · simp [e]
      · simp [putAll_na' ts q h']
theorem putAll_na' {k0 : Addr} {i : Nat} {n : AT} : ∀ ts : List AT, ∀ q ∈ naAll ts, q ∈ naAll (putAll k0 i n ts)
  | [], q, h => h
  | t :: ts, q, h => by
    have h' : q ∈ t.na ++ naAll ts := h
    show q ∈ (putT k0 i n t).na ++ naAll (putAll k0 i n ts)
    rcases List.mem_append.mp h' with h' | h'
    · simp [put_na' t q h']
    · simp [putAll_na' ts q h']
end
theorem nodup_app {l m : List Addr} (h1 : l.Nodup) (h2 : m.Nodup) (h : ∀ q ∈ l, q ∉ m) : (l ++ m).Nodup := List.nodup_append.mpr ⟨h1, h2, fun a ha b hb e => h a ha (e ▸ hb)⟩
mutual
theorem put_nd {k0 : Addr} {i : Nat} {n : AT} (hn : n.ka.Nodup) : ∀ t : AT, t.ka.Nodup → (∀ q ∈ n.ka, q ∉ t.ka) → (putT k0 i n t).ka.Nodup
  | .txt z, h, _ => h
  | .nod a k x ts, h, hd => by
    have h' : (k :: kaAll ts).Nodup := h
    have hd' : ∀ q ∈ n.ka, q ∉ k :: kaAll ts := hd
    obtain ⟨k1, k2⟩ := List.nodup_cons.mp h'
    unfold putT
    by_cases hk : k = k0
    · rw [if_pos hk]
      show (k :: kaAll (ts.take i ++ n :: ts.drop i)).Nodup
      have sp : kaAll ts = kaAll (ts.take i) ++ kaAll (ts.drop i) := by rw [← kaAll_app, List.take_append_drop]
      rw [kaAll_app]
      show (k :: (kaAll (ts.take i) ++ (n.ka ++ kaAll (ts.drop i)))).Nodup
      rw [sp] at k1 k2 hd'
      obtain ⟨d1, d2, d3⟩ := List.nodup_append.mp k2
      refine List.nodup_cons.mpr ⟨fun z => ?_, nodup_app d1 (nodup_app hn d2 fun q hq z => hd' q hq (by simp [z])) fun q hq z => ?_⟩
      · rcases List.mem_append.mp z with z | z
        · exact k1 (by simp [z])
        · rcases List.mem_append.mp z with z | z
          · exact hd' k z (by simp)
          · exact k1 (by simp [z])
      · rcases List.mem_append.mp z with z | z
        · exact hd' q z (by simp [hq])
        · exact d3 q hq q z rfl
    · rw [if_neg hk]
      show (k :: kaAll (putAll k0 i n ts)).Nodup
      refine List.nodup_cons.mpr ⟨fun z => ?_, putAll_nd hn ts k2 fun q hq z => hd' q hq (by simp [z])⟩
      rcases putAll_ka ts k z with z | z
      · exact k1 z
      · exact hd' k z (by simp)
theorem putAll_nd {k0 : Addr} {i : Nat} {n : AT} (hn : n.ka.Nodup) : ∀ ts : List AT, (kaAll ts).Nodup → (∀ q ∈ n.ka, q ∉ kaAll ts) → (kaAll (putAll k0 i n ts)).Nodup
  | [], h, _ => h
  | t :: ts, h, hd => by
    have h' : (t.ka ++ kaAll ts).Nodup := h
    have hd' : ∀ q ∈ n.ka, q ∉ t.ka ++ kaAll ts := hd
    obtain ⟨d1, d2, d3⟩ := List.nodup_append.mp h'
    show ((putT k0 i n t).ka ++ kaAll (putAll k0 i n ts)).Nodup
    by_cases hk : k0 ∈ t.ka
    · have out : k0 ∉ kaAll ts := fun z => d3 k0 hk k0 z rfl
      rw [putAll_out ts out]
      refine nodup_app (put_nd hn t d1 fun q hq z => hd' q hq (by simp [z])) d2 fun q hq z => ?_
      rcases put_ka t q hq with e | e
      · exact d3 q e q z rfl
      · exact hd' q e (by simp [z])
    · rw [put_out t hk]
      refine nodup_app d1 (putAll_nd hn ts d2 fun q hq z => hd' q hq (by simp [z])) fun q hq z => ?_
      rcases putAll_ka ts q z with e | e
      · exact d3 q hq q e rfl
      · exact hd' q e (by simp [hq])
end
mutual
/-- right names and texts -/
def AT.ok : AT → Prop
  | .txt z => textD (.str z) = true
  | .nod _ _ x ts => nameD (.str x) = true ∧ okAll ts
def okAll : List AT → Prop
  | [] => True
  | t :: ts => t.ok ∧ okAll ts
end
theorem okAll_app : ∀ ts us : List AT, okAll (ts ++ us) ↔ okAll ts ∧ okAll us
  | [], us => ⟨fun h => ⟨trivial, h⟩, fun h => h.2⟩
  | t :: ts, us => ⟨fun h => ⟨⟨h.1, ((okAll_app ts us).mp h.2).1⟩, ((okAll_app ts us).mp h.2).2⟩, fun h => ⟨h.1.1, (okAll_app ts us).mpr ⟨h.1.2, h.2⟩⟩⟩
mutual
theorem put_ok {k0 : Addr} {i : Nat} {n : AT} (hn : n.ok) : ∀ t : AT, t.ok → (putT k0 i n t).ok
  | .txt z, h => h
  | .nod a k x ts, h => by
    unfold putT
    split
    · refine ⟨h.1, (okAll_app _ _).mpr ?_⟩
      have h2 : okAll ts := h.2
      rw [← List.take_append_drop i ts] at h2
      obtain ⟨a1, a2⟩ := (okAll_app _ _).mp h2
      exact ⟨a1, hn, a2⟩
    · exact ⟨h.1, putAll_ok hn ts h.2⟩
theorem putAll_ok {k0 : Addr} {i : Nat} {n : AT} (hn : n.ok) : ∀ ts : List AT, okAll ts → okAll (putAll k0 i n ts)
  | [], _ => trivial
  | t :: ts, h => ⟨put_ok hn t h.1, putAll_ok hn ts h.2⟩
end
mutual
theorem ka_at {H : Hp} : ∀ t : AT, t.At H → ∀ k ∈ t.ka, ∃ vs, H k = some (.lst vs) ∧ vs.length ≤ t.cnt
  | .nod a k x ts, h, q, hq => by
    have h' : q ∈ k :: kaAll ts := hq
    rcases List.mem_cons.mp h' with e | h'
    · refine ⟨_, by rw [e]; exact h.2.1, ?_⟩
      rw [List.length_map]
      have := cnt_len ts
      show ts.length ≤ 1 + cntAll ts
      omega
    · obtain ⟨vs, e, l⟩ := kaAll_at ts h.2.2 q h'
      refine ⟨vs, e, ?_⟩
      show vs.length ≤ 1 + cntAll ts
      omega
  | .txt z, _, q, hq => by
    have h' : q ∈ ([] : List Addr) := hq
    simp at h'
theorem kaAll_at {H : Hp} : ∀ ts : List AT, atAll H ts → ∀ k ∈ kaAll ts, ∃ vs, H k = some (.lst vs) ∧ vs.length ≤ cntAll ts
  | [], _, q, hq => by
    have h' : q ∈ ([] : List Addr) := hq
    simp at h'
  | t :: ts, h, q, hq => by
    have h' : q ∈ t.ka ++ kaAll ts := hq
    rcases List.mem_append.mp h' with h' | h'
    · obtain ⟨vs, e, l⟩ := ka_at t h.1 q h'
      exact ⟨vs, e, by show vs.length ≤ t.cnt + cntAll ts; omega⟩
    · obtain ⟨vs, e, l⟩ := kaAll_at ts h.2 q h'
      exact ⟨vs, e, by show vs.length ≤ t.cnt + cntAll ts; omega⟩
end
mutual
theorem na_at {H : Hp} : ∀ t : AT, t.At H → ∀ a ∈ t.na, ∃ o, H a = some o
  | .nod a k x ts, h, q, hq => by
    have h' : q ∈ a :: naAll ts := hq
    rcases List.mem_cons.mp h' with e | h'
    · exact ⟨_, by rw [e]; exact h.1⟩
    · exact naAll_at ts h.2.2 q h'
  | .txt z, _, q, hq => by
    have h' : q ∈ ([] : List Addr) := hq
    simp at h'
theorem naAll_at {H : Hp} : ∀ ts : List AT, atAll H ts → ∀ a ∈ naAll ts, ∃ o, H a = some o
  | [], _, q, hq => by
    have h' : q ∈ ([] : List Addr) := hq
    simp at h'
  | t :: ts, h, q, hq => by
    have h' : q ∈ t.na ++ naAll ts := hq
    rcases List.mem_append.mp h' with h' | h'
    · exact na_at t h.1 q h'
    · exact naAll_at ts h.2 q h'
end
mutual
theorem nds_le : ∀ t : AT, t.nds ≤ t.cnt
  | .txt z => Nat.zero_le _
  | .nod a k x ts => by
    have := ndsAll_le ts
    show 1 + ndsAll ts ≤ 1 + cntAll ts
    omega
theorem ndsAll_le : ∀ ts : List AT, ndsAll ts ≤ cntAll ts
  | [] => Nat.le_refl _
  | t :: ts => by
    have := nds_le t
    have := ndsAll_le ts
    show t.nds + ndsAll ts ≤ t.cnt + cntAll ts
    omega
end
mutual
/-- every list k0 in it stands at level j, its own level being l -/
def AT.lv (k0 : Addr) : Nat → Nat → AT → Prop
  | _, _, .txt _ => True
  | l, j, .nod _ k _ ts => (k = k0 → j = l) ∧ lvAll k0 (l + 1) j ts
def lvAll (k0 : Addr) : Nat → Nat → List AT → Prop
  | _, _, [] => True
  | l, j, t :: ts => t.lv k0 l j ∧ lvAll k0 l j ts
end
mutual
def AT.hgt : AT → Nat
  | .txt _ => 0
  | .nod _ _ _ ts => 1 + hgtAll ts
def hgtAll : List AT → Nat
  | [] => 0
  | t :: ts => max t.hgt (hgtAll ts)
end
theorem lvAll_app {k0 : Addr} {l j : Nat} : ∀ ts us : List AT, lvAll k0 l j (ts ++ us) ↔ lvAll k0 l j ts ∧ lvAll k0 l j us
  | [], us => ⟨fun h => ⟨trivial, h⟩, fun h => h.2⟩
  | t :: ts, us => ⟨fun h => ⟨⟨h.1, ((lvAll_app ts us).mp h.2).1⟩, ((lvAll_app ts us).mp h.2).2⟩, fun h => ⟨h.1.1, (lvAll_app ts us).mpr ⟨h.1.2, h.2⟩⟩⟩
theorem hgtAll_app : ∀ ts us : List AT, hgtAll (ts ++ us) = max (hgtAll ts) (hgtAll us)
  | [], us => by show hgtAll us = max 0 (hgtAll us); omega
  | t :: ts, us => by
    show max t.hgt (hgtAll (ts ++ us)) = max (max t.hgt (hgtAll ts)) (hgtAll us)
    rw [hgtAll_app ts us]
    omega
mutual
theorem lv_out {k0 : Addr} {j : Nat} : ∀ (l : Nat) (t : AT), k0 ∉ t.ka → t.lv k0 l j
  | _, .txt _, _ => trivial
  | l, .nod a k x ts, h => by
    have h' : k0 ∉ k :: kaAll ts := h
    exact ⟨fun e => absurd (by rw [e]; simp) h', lvAll_out (l + 1) ts (fun z => h' (by simp [z]))⟩
theorem lvAll_out {k0 : Addr} {j : Nat} : ∀ (l : Nat) (ts : List AT), k0 ∉ kaAll ts → lvAll k0 l j ts
  | _, [], _ => trivial
  | l, t :: ts, h => by
    have h' : k0 ∉ t.ka ++ kaAll ts := h
    exact ⟨lv_out l t (fun z => h' (by simp [z])), lvAll_out l ts (fun z => h' (by simp [z]))⟩
end
mutual
theorem put_lv {k0 k1 : Addr} {i j : Nat} {n : AT} (hn : k1 ∉ n.ka) : ∀ (l : Nat) (t : AT), t.lv k1 l j → (putT k0 i n t).lv k1 l j
  | _, .txt _, _ => trivial
  | l, .nod a k x ts, h => by
    unfold putT
    split
    · refine ⟨h.1, (lvAll_app _ _).mpr ?_⟩
      have h2 : lvAll k1 (l + 1) j ts := h.2
      rw [← List.take_append_drop i ts] at h2
      obtain ⟨a1, a2⟩ := (lvAll_app _ _).mp h2
      exact ⟨a1, lv_out (l + 1) n hn, a2⟩
    · exact ⟨h.1, putAll_lv hn (l + 1) ts h.2⟩
theorem putAll_lv {k0 k1 : Addr} {i j : Nat} {n : AT} (hn : k1 ∉ n.ka) : ∀ (l : Nat) (ts : List AT), lvAll k1 l j ts → lvAll k1 l j (putAll k0 i n ts)
  | _, [], _ => trivial
  | l, t :: ts, h => ⟨put_lv hn l t h.1, putAll_lv hn l ts h.2⟩
end
mutual
theorem put_lvn {k0 k1 a1 : Addr} {x1 : Str} {i j : Nat} : ∀ (l : Nat) (t : AT), k1 ∉ t.ka → t.lv k0 l j → (putT k0 i (.nod a1 k1 x1 []) t).lv k1 l (j + 1)
  | _, .txt _, _, _ => trivial
  | l, .nod a k x ts, h, g => by
    have h' : k1 ∉ k :: kaAll ts := h
    have hk : k = k1 → j + 1 = l := fun e => absurd (by rw [e]; simp) h'
    have ho : k1 ∉ kaAll ts := fun z => h' (by simp [z])
    unfold putT
    by_cases e : k = k0
    · rw [if_pos e]
      refine ⟨hk, (lvAll_app _ _).mpr ?_⟩
      have h2 := lvAll_out (j := j + 1) (l + 1) ts ho
      rw [← List.take_append_drop i ts] at h2
      obtain ⟨a1, a2⟩ := (lvAll_app _ _).mp h2
      exact ⟨a1, ⟨fun _ => by rw [g.1 e], trivial⟩, a2⟩
    · rw [if_neg e]
      exact ⟨hk, putAll_lvn (l + 1) ts ho g.2⟩
theorem putAll_lvn {k0 k1 a1 : Addr} {x1 : Str} {i j : Nat} : ∀ (l : Nat) (ts : List AT), k1 ∉ kaAll ts → lvAll k0 l j ts → lvAll k1 l (j + 1) (putAll k0 i (.nod a1 k1 x1 []) ts)
  | _, [], _, _ => trivial
  | l, t :: ts, h, g => by
    have h' : k1 ∉ t.ka ++ kaAll ts := h
    exact ⟨put_lvn l t (fun z => h' (by simp [z])) g.1, putAll_lvn l ts (fun z => h' (by simp [z])) g.2⟩
end
mutual
theorem put_hgt {k0 : Addr} {i j : Nat} {n : AT} : ∀ (l : Nat) (t : AT), t.lv k0 l j → l + (putT k0 i n t).hgt ≤ max (l + t.hgt) (j + 1 + n.hgt)
  | l, .txt z, _ => by
    show l + 0 ≤ max (l + 0) _
    omega
  | l, .nod a k x ts, g => by
    unfold putT
    by_cases e : k = k0
    · rw [if_pos e]
      have hj := g.1 e
      show l + (1 + hgtAll (ts.take i ++ n :: ts.drop i)) ≤ max (l + (1 + hgtAll ts)) (j + 1 + n.hgt)
      have sp : hgtAll ts = max (hgtAll (ts.take i)) (hgtAll (ts.drop i)) := by rw [← hgtAll_app, List.take_append_drop]
      rw [hgtAll_app]
      show l + (1 + max (hgtAll (ts.take i)) (max n.hgt (hgtAll (ts.drop i)))) ≤ _
      omega
    · rw [if_neg e]
      have := putAll_hgt (i := i) (n := n) (l + 1) ts g.2
      show l + (1 + hgtAll (putAll k0 i n ts)) ≤ max (l + (1 + hgtAll ts)) (j + 1 + n.hgt)
      omega
theorem putAll_hgt {k0 : Addr} {i j : Nat} {n : AT} : ∀ (l : Nat) (ts : List AT), lvAll k0 l j ts → l + hgtAll (putAll k0 i n ts) ≤ max (l + hgtAll ts) (j + 1 + n.hgt)
  | l, [], _ => by
    show l + 0 ≤ max (l + 0) _
    omega
  | l, t :: ts, g => by
    have h1 := put_hgt (i := i) (n := n) l t g.1
    have h2 := putAll_hgt (i := i) (n := n) l ts g.2
    show l + max (putT k0 i n t).hgt (hgtAll (putAll k0 i n ts)) ≤ max (l + max t.hgt (hgtAll ts)) _
    omega
end
end K1

/-! the state of a document that is being made -/
namespace K1
open PySem L2 Xr
/-- the document t, with its nodes in the list Nd; H0: what stood before -/
structure GSt (H0 : Hp) (d c Nd : Addr) (H : Hp) (t : AT) (xs : List V) (m : Nat) (dm : Int) : Prop where
  at_ : t.At H
  nd : t.ka.Nodup
  dis : ∀ q ∈ t.na, q ∉ t.ka
  ok : t.ok
  cnt : t.cnt ≤ m ∧ m ≤ 100
  pos : 0 < xs.length
  few : xs.length ≤ m
  ndn : Nd ≠ d ∧ Nd ≠ c ∧ H0 Nd = none
  out : ∀ q, q ∈ t.na ∨ q ∈ t.ka → H0 q = none ∧ q ≠ d ∧ q ≠ c ∧ q ≠ Nd
  ent : ∀ e ∈ xs, ∃ (p a : Addr) (dp : Int) (k : Addr) (x : Str), e = .ref p ∧ H p = some (.tup [.ref a, .int dp]) ∧ k ∈ t.ka ∧ a ∈ t.na ∧ H a = some (.lst [.str x, .ref k]) ∧ ∃ j : Nat, dp = (j : Int) + 1 ∧ dp ≤ dm ∧ t.lv k 0 j
  hgt : (t.hgt : Int) ≤ dm
theorem AT.keep {H H' : Hp} {d c : Addr} (b : But d c H H') (t : AT) (h : t.At H) (n1 : ∀ q, q ∈ t.na ∨ q ∈ t.ka → q ≠ d) (n2 : ∀ q, q ∈ t.na ∨ q ∈ t.ka → q ≠ c) : t.At H' := by
  have e : ∀ q, q ∈ t.na ∨ q ∈ t.ka → (∃ o, H q = some o) → H' q = H q := fun q hq ⟨o, z⟩ => by rw [z]; exact b q o z (n1 q hq) (n2 q hq)
  refine AT.frame t (fun q hq => e q (.inl hq) (na_at t h q hq)) (fun q hq => e q (.inr hq) ?_) h
  obtain ⟨vs, z, _⟩ := ka_at t h q hq
  exact ⟨_, z⟩
section
variable {H0 H H' : Hp} {d c Nd : Addr} {t n : AT} {xs : List V} {m : Nat} {dm : Int}
theorem GSt.keepN {ys : List V} (g : GSt H0 d c Nd H t xs m dm) (hN : H Nd = some (.lst ys)) (D : DealAt H d c) (b : ∀ q o, H q = some o → q ≠ d → q ≠ c → q ≠ Nd → H' q = some o) : GSt H0 d c Nd H' t xs m dm := by
  have e : ∀ q, q ∈ t.na ∨ q ∈ t.ka → (∃ o, H q = some o) → H' q = H q := fun q hq ⟨o, z⟩ => by
    have n := g.out q hq
    rw [z]
    exact b q o z n.2.1 n.2.2.1 n.2.2.2
  refine ⟨AT.frame t (fun q hq => e q (.inl hq) (na_at t g.at_ q hq)) (fun q hq => e q (.inr hq) ?_) g.at_, g.nd, g.dis, g.ok, g.cnt, g.pos, g.few, g.ndn, g.out, fun e he => ?_, g.hgt⟩
  · obtain ⟨vs, z, _⟩ := ka_at t g.at_ q hq
    exact ⟨_, z⟩
  obtain ⟨p, a, dp, k, x, e1, e2, e3, e4, e5, e6⟩ := g.ent e he
  have pd : p ≠ d ∧ p ≠ c ∧ p ≠ Nd := by
    obtain ⟨cs, bb, h1, h2, _⟩ := D.ex
    refine ⟨fun z => ?_, fun z => ?_, fun z => ?_⟩
    · rw [z, h1] at e2
      cases e2
    · rw [z, h2] at e2
      cases e2
    · rw [z, hN] at e2
      cases e2
  have n := g.out a (.inl e4)
  exact ⟨p, a, dp, k, x, e1, b _ _ e2 pd.1 pd.2.1 pd.2.2, e3, e4, b _ _ e5 n.2.1 n.2.2.1 n.2.2.2, e6⟩
theorem GSt.keep {ys : List V} (g : GSt H0 d c Nd H t xs m dm) (b : But d c H H') (D : DealAt H d c) (hN : H Nd = some (.lst ys)) : GSt H0 d c Nd H' t xs m dm := g.keepN hN D fun q o e n1 n2 _ => b q o e n1 n2
/-- an entry more -/
theorem GSt.add {p a k : Addr} {dp : Int} {x : Str} (g : GSt H0 d c Nd H t xs m dm) (hp : H p = some (.tup [.ref a, .int dp])) (hk : k ∈ t.ka) (ha : a ∈ t.na) (h : H a = some (.lst [.str x, .ref k])) (hl : xs.length + 1 ≤ m) (hj : ∃ j : Nat, dp = (j : Int) + 1 ∧ dp ≤ dm ∧ t.lv k 0 j) : GSt H0 d c Nd H t (xs ++ [.ref p]) m dm :=
  ⟨g.at_, g.nd, g.dis, g.ok, g.cnt, by rw [List.length_append]; have := g.pos; omega, by rw [List.length_append]; exact hl, g.ndn, g.out, fun e he => by
    rcases List.mem_append.mp he with he | he
    · exact g.ent e he
    · rw [List.mem_singleton] at he
      exact ⟨p, a, dp, k, x, he, hp, hk, ha, h, hj⟩, g.hgt⟩
theorem GSt.put {k : Addr} {i : Nat} {vs : List V} (g : GSt H0 d c Nd H t xs m dm) (hk : k ∈ t.ka) (hv : H k = some (.lst vs)) (hn : n.At H) (hok : n.ok) (hnd : n.ka.Nodup) (hds : ∀ q ∈ n.na, q ∉ n.ka)
    (hout : ∀ q, q ∈ n.na ∨ q ∈ n.ka → H0 q = none ∧ q ≠ d ∧ q ≠ c ∧ q ≠ Nd ∧ q ∉ t.na ∧ q ∉ t.ka) (hm : t.cnt + n.cnt ≤ m) {j : Nat} (hlv : t.lv k 0 j) (hgn : (j : Int) + 1 + (n.hgt : Int) ≤ dm) :
    GSt H0 d c Nd (upd H k (.lst (vs.take i ++ n.val :: vs.drop i))) (putT k i n t) xs m dm := by
  have k1 : k ∉ n.na := fun z => (hout k (.inl z)).2.2.2.2.2 hk
  have k2 : k ∉ n.ka := fun z => (hout k (.inr z)).2.2.2.2.2 hk
  have k3 : k ∉ t.na := fun z => g.dis k z hk
  have kN : k ≠ Nd := (g.out k (.inr hk)).2.2.2
  refine ⟨put_at hv hn k1 k2 t g.at_ k3 g.nd, put_nd hnd t g.nd fun q hq => (hout q (.inr hq)).2.2.2.2.2, fun q hq z => ?_, put_ok hok t g.ok, ⟨?_, g.cnt.2⟩, g.pos, g.few, g.ndn, fun q hq => ?_, fun e he => ?_, ?_⟩
  · rcases put_na t q hq with h | h
    · rcases put_ka t q z with z | z
      · exact g.dis q h z
      · exact (hout q (.inr z)).2.2.2.2.1 h
    · rcases put_ka t q z with z | z
      · exact (hout q (.inl h)).2.2.2.2.2 z
      · exact hds q h z
  · have := put_cnt (k0 := k) (i := i) (n := n) t g.nd
    omega
  · rcases hq with hq | hq
    · rcases put_na t q hq with h | h
      · exact g.out q (.inl h)
      · have := hout q (.inl h)
        exact ⟨this.1, this.2.1, this.2.2.1, this.2.2.2.1⟩
    · rcases put_ka t q hq with h | h
      · exact g.out q (.inr h)
      · have := hout q (.inr h)
        exact ⟨this.1, this.2.1, this.2.2.1, this.2.2.2.1⟩
  · obtain ⟨p, a, dp, k', x, e1, e2, e3, e4, e5, jj, j1, j2, j3⟩ := g.ent e he
    have pk : p ≠ k := fun z => by
      rw [z, hv] at e2
      cases e2
    have ak : a ≠ k := fun z => k3 (by rw [← z]; exact e4)
    have a' : a ∈ (putT k i n t).na := put_na' t a e4
    exact ⟨p, a, dp, k', x, e1, by rw [upd_ne pk]; exact e2, put_ka' t k' e3, a', by rw [upd_ne ak]; exact e5, jj, j1, j2, put_lv (fun z => (hout k' (.inr z)).2.2.2.2.2 e3) 0 t j3⟩
  · have h1 := put_hgt (i := i) (n := n) 0 t hlv
    have h2 := g.hgt
    omega
end
end K1
namespace K1
open PySem L2
theorem GSt.mono {H0 H : Hp} {d c Nd : Addr} {t : AT} {xs : List V} {m m' : Nat} (g : GSt H0 d c Nd H t xs m dm) (h : m ≤ m') (l : m' ≤ 100) : GSt H0 d c Nd H t xs m' dm :=
  ⟨g.at_, g.nd, g.dis, g.ok, ⟨Nat.le_trans g.cnt.1 h, l⟩, g.pos, Nat.le_trans g.few h, g.ndn, g.out, g.ent, g.hgt⟩
end K1
namespace K1
open PySem L2
mutual
theorem put_in {k0 : Addr} {i : Nat} {n : AT} : ∀ t : AT, k0 ∈ t.ka → (∀ q ∈ n.ka, q ∈ (putT k0 i n t).ka) ∧ ∀ q ∈ n.na, q ∈ (putT k0 i n t).na
  | .txt z, h => by
    have h' : k0 ∈ ([] : List Addr) := h
    simp at h'
  | .nod a k x ts, h => by
    have h' : k0 ∈ k :: kaAll ts := h
    unfold putT
    by_cases hk : k = k0
    · rw [if_pos hk]
      refine ⟨fun q hq => ?_, fun q hq => ?_⟩
      · show q ∈ k :: kaAll (ts.take i ++ n :: ts.drop i)
        rw [kaAll_app]
        show q ∈ k :: (kaAll (ts.take i) ++ (n.ka ++ kaAll (ts.drop i)))
        simp [hq]
      · show q ∈ a :: naAll (ts.take i ++ n :: ts.drop i)
        rw [naAll_app]
        show q ∈ a :: (naAll (ts.take i) ++ (n.na ++ naAll (ts.drop i)))
        simp [hq]
    · rw [if_neg hk]
      have h2 : k0 ∈ kaAll ts := (List.mem_cons.mp h').resolve_left (fun e => hk e.symm)
      obtain ⟨a1, a2⟩ := putAll_in (i := i) (n := n) ts h2
      refine ⟨fun q hq => ?_, fun q hq => ?_⟩
      · show q ∈ k :: kaAll (putAll k0 i n ts)
        simp [a1 q hq]
      · show q ∈ a :: naAll (putAll k0 i n ts)
        simp [a2 q hq]
theorem putAll_in {k0 : Addr} {i : Nat} {n : AT} : ∀ ts : List AT, k0 ∈ kaAll ts → (∀ q ∈ n.ka, q ∈ kaAll (putAll k0 i n ts)) ∧ ∀ q ∈ n.na, q ∈ naAll (putAll k0 i n ts)
  | [], h => by
    have h' : k0 ∈ ([] : List Addr) := h
    simp at h'
  | t :: ts, h => by
    have h' : k0 ∈ t.ka ++ kaAll ts := h
    show (∀ q ∈ n.ka, q ∈ (putT k0 i n t).ka ++ kaAll (putAll k0 i n ts)) ∧ ∀ q ∈ n.na, q ∈ (putT k0 i n t).na ++ naAll (putAll k0 i n ts)
    rcases List.mem_append.mp h' with h' | h'
    · obtain ⟨a1, a2⟩ := put_in (i := i) (n := n) t h'
      exact ⟨fun q hq => by simp [a1 q hq], fun q hq => by simp [a2 q hq]⟩
    · obtain ⟨a1, a2⟩ := putAll_in (i := i) (n := n) ts h'
      exact ⟨fun q hq => by simp [a1 q hq], fun q hq => by simp [a2 q hq]⟩
end
end K1

/-! grown -/
namespace K1
open PySem L2 Xr
def spGrown (K : PySem.W.Frag) (n : Nat) : Sp := fun vs H Q _ => ∃ (d c nm : Addr) (ns : List Str) (many : Nat) (deep : Int), vs = [.ref d, .ref nm, .int (many : Int), .int deep] ∧ DealAt H d c ∧ H nm = some (.lst (ns.map V.str)) ∧ nm ≠ d ∧ nm ≠ c ∧
  (∀ x ∈ ns, nameD (.str x) = true) ∧ 0 < ns.length ∧ ns.length < 1000 ∧ 1 ≤ many ∧ many ≤ 90 ∧ many ≤ n ∧ 1 ≤ deep ∧ ∀ (v : V) (a k : Addr) (x : Str) (ts : List AT) (H' : Hp), (AT.nod a k x ts).ok → (AT.nod a k x ts).cnt ≤ many → ((AT.nod a k x ts).hgt : Int) ≤ deep → Dm K (Trk H) H' v (AT.nod a k x ts).doc.dat → DealAt H' d c → But d c H H' → Q v H'
structure GrownTxt (K : PySem.W.Frag) (mg : Str → Option Value) (a_law_any a_law_of a_law_text a_law_frozen : Addr) : Prop where
  n_range : mg "range" = none
  n_len : mg "len" = none
  n_list : mg "list" = none
  n_isinstance : mg "isinstance" = none
  g_law_of : mg "_law_of" = some (.ref a_law_of)
  k_law_of : PySem.W.keepIn K (.ref a_law_of) = true
  g_law_any : mg "_law_any" = some (.ref a_law_any)
  k_law_any : PySem.W.keepIn K (.ref a_law_any) = true
section
variable {P : Program} {w : World} {K : PySem.W.Frag} {mg : Str → Option Value} {base : Heap} {a_law_any a_law_of a_law_text a_law_frozen : Addr} {fdA fdO fdT fdF : FuncData}
end
end K1

/-! drawn names -/
namespace K1
open PySem L2 Xr
theorem From.app {S : List Nat} {n m : Nat} {a b : Str} (ha : From S n a) (hb : From S m b) : From S (n + m) (a ++ b) := by
  refine ⟨by rw [strLen_append, ha.len, hb.len], fun ch h => ?_⟩
  rw [cps_app] at h
  rcases List.mem_append.mp h with h | h
  · exact ha.sub ch h
  · exact hb.sub ch h
theorem cut_from {S : List Nat} {n i : Nat} {z : Str} (h : From S n z) (hi : i ≤ n) : From S i (cutS z none (some (i : Int))) ∧ From S (n - i) (cutS z (some (i : Int)) none) := by
  have e1 : HT.sIx z.length z.length (some (i : Int)) = i := by
    rw [HT.sIx_nat, h.len]
    omega
  have e2 : HT.sIx z.length 0 (some (i : Int)) = i := by
    rw [HT.sIx_nat, h.len]
    omega
  have l : z.cps.toList.length = n := by
    have := h.len
    show z.cps.toList.length = n
    rw [Array.length_toList]
    exact this
  have a1 : cutS z none (some (i : Int)) = ⟨((z.cps.toList.drop 0).take (i - 0)).toArray⟩ := by
    unfold cutS
    rw [e1]
    rfl
  have a2 : cutS z (some (i : Int)) none = ⟨((z.cps.toList.drop i).take (z.length - i)).toArray⟩ := by
    unfold cutS
    rw [e2]
    rfl
  refine ⟨⟨?_, fun ch hc => ?_⟩, ⟨?_, fun ch hc => ?_⟩⟩
  · rw [a1]
    show (((z.cps.toList.drop 0).take (i - 0)).toArray).size = i
    rw [List.size_toArray, List.length_take, List.length_drop]
    omega
  · rw [a1] at hc
    have hc' : ch ∈ ((z.cps.toList.drop 0).take (i - 0)) := by simpa using hc
    exact h.sub ch (List.mem_of_mem_drop (List.mem_of_mem_take hc'))
  · rw [a2]
    show (((z.cps.toList.drop i).take (z.length - i)).toArray).size = n - i
    rw [List.size_toArray, List.length_take, List.length_drop, h.len]
    omega
  · rw [a2] at hc
    have hc' : ch ∈ ((z.cps.toList.drop i).take (z.length - i)) := by simpa using hc
    exact h.sub ch (List.mem_of_mem_drop (List.mem_of_mem_take hc'))
theorem From.name {n : Nat} {z : Str} (h : From abc.cps.toList n z) (h1 : 1 ≤ n) (h8 : n ≤ 8) : nameD (.str z) = true := by
  show (decide (z.length ≠ 0) && (decide (z.length ≤ 8) && hasOnly z abc)) = true
  rw [h.has, h.len, decide_eq_true (show n ≠ 0 by omega), decide_eq_true h8]
  rfl
theorem sum_from {S : List Nat} : ∀ l : List Str, (∀ y ∈ l, From S 1 y) → (l.map (·.length)).sum + l.length * (Str.ofString "").length ≤ l.length := by
  intro l
  have l0 : (Str.ofString "").length = 0 := by decide
  rw [l0]
  induction l with
  | nil => intro _; exact Nat.le_refl _
  | cons y l ih =>
    intro h
    have := ih fun x hx => h x (List.mem_cons_of_mem _ hx)
    have := (h y (by simp)).len
    simp only [List.map_cons, List.sum_cons, List.length_cons] at *
    omega
def spNames : Sp := fun vs H Q _ => ∃ (d c : Addr) (many : Nat), vs = [.ref d, .int (many : Int)] ∧ DealAt H d c ∧ 1 ≤ many ∧ many < 60 ∧
  ∀ (p : Addr) (ns : List Str) (H' : Hp), H' p = some (.lst (ns.map V.str)) → H p = none → ns.length = many → (∀ x ∈ ns, nameD (.str x) = true) → DealAt H' d c → But d c H H' → Q (.ref p) H'
section
variable {P : Program} {w : World} {K : PySem.W.Frag} {mg : Str → Option Value} {base : Heap} {a_law_any a_law_of : Addr} {fdA fdO : FuncData}
end
end K1

/-! pairs, numbers -/
namespace K1
open PySem L2 Xr
def pairD : PyData → Bool
  | .tuple [d0, d1] => nameD d0 && isTup d1
  | _ => false
def numD : PyData → Bool
  | .int i => decide (0 ≤ i)
  | _ => false
def spPair (K : PySem.W.Frag) : Sp := fun vs H Q _ => ∃ (v : V) (d : PyData) (N : Addr → Prop), vs = [v] ∧ Dm K N H v d ∧ (∀ z d1, d = .tuple [.str z, d1] → z.length ≤ 900000) ∧ ∀ H', Same H H' → Q (.bl (pairD d)) H'
def spNum (K : PySem.W.Frag) : Sp := fun vs H Q _ => ∃ (v : V) (d : PyData) (N : Addr → Prop), vs = [v] ∧ Dm K N H v d ∧ Q (.bl (numD d)) H
structure PairTxt (K : PySem.W.Frag) (mg : Str → Option Value) (a_is_name : Addr) : Prop where
  n_isinstance : mg "isinstance" = none
  n_tuple : mg "tuple" = none
  n_int : mg "int" = none
  n_bool : mg "bool" = none
  n_len : mg "len" = none
  g_is_name : mg "is_name" = some (.ref a_is_name)
  k_is_name : PySem.W.keepIn K (.ref a_is_name) = true
section
variable {P : Program} {w : World} {K : PySem.W.Frag} {mg : Str → Option Value} {base : Heap} {a_is_name : Addr} {fdN : FuncData}
end
end K1

/-! how great data is; displays of data -/
namespace K1
open PySem L2 Xr
mutual
def wt : PyData → Nat
  | .str z => 1 + z.length
  | .list ds => 1 + wtAll ds
  | .tuple ds => 1 + wtAll ds
  | _ => 1
def wtAll : List PyData → Nat
  | [] => 0
  | d :: ds => wt d + wtAll ds
end
theorem wt_pos (d : PyData) : 1 ≤ wt d := by cases d <;> unfold wt <;> omega
theorem wtAll_app : ∀ xs ys : List PyData, wtAll (xs ++ ys) = wtAll xs + wtAll ys
  | [], ys => by show wtAll ys = 0 + wtAll ys; omega
  | x :: xs, ys => by
    show wt x + wtAll (xs ++ ys) = wt x + wtAll xs + wtAll ys
    rw [wtAll_app xs ys]
    omega
theorem wtAll_len : ∀ xs : List PyData, xs.length ≤ wtAll xs
  | [] => Nat.le_refl _
  | x :: xs => by
    show xs.length + 1 ≤ wt x + wtAll xs
    have := wt_pos x
    have := wtAll_len xs
    omega
theorem wtAll_rev : ∀ xs : List PyData, wtAll xs.reverse = wtAll xs
  | [] => rfl
  | x :: xs => by
    rw [List.reverse_cons, wtAll_app, wtAll_rev xs]
    show wtAll xs + (wt x + 0) = wt x + wtAll xs
    omega
theorem wt_mem : ∀ {xs : List PyData} {d : PyData}, d ∈ xs → wt d ≤ wtAll xs
  | x :: xs, d, h => by
    show wt d ≤ wt x + wtAll xs
    rcases List.mem_cons.mp h with e | h
    · rw [e]
      omega
    · have := wt_mem h
      omega
theorem wt_split (xs : List PyData) (i : Nat) : wtAll xs = wtAll (xs.take i) + wtAll (xs.drop i) := by rw [← wtAll_app, List.take_append_drop]
theorem canLayAll_iff : ∀ xs : List PyData, PyData.canLayAll0 xs = true ↔ ∀ x ∈ xs, x.canLay0 = true
  | [] => ⟨fun _ x h => by simp at h, fun _ => rfl⟩
  | x :: xs => by
    have e : PyData.canLayAll0 (x :: xs) = (PyData.canLay0 x && PyData.canLayAll0 xs) := by
      conv => lhs; unfold PyData.canLayAll0
    rw [e, Bool.and_eq_true, canLayAll_iff xs]
    simp
theorem depthAll_le {m : Nat} : ∀ xs : List PyData, PyData.depthAll xs ≤ m ↔ ∀ x ∈ xs, x.depth ≤ m
  | [] => ⟨fun _ x h => by simp at h, fun _ => by unfold PyData.depthAll; exact Nat.zero_le _⟩
  | x :: xs => by
    have e : PyData.depthAll (x :: xs) = max x.depth (PyData.depthAll xs) := by
      conv => lhs; unfold PyData.depthAll
    rw [e, Nat.max_le, depthAll_le xs]
    simp
/-- data of a bounded kind: no dicts, right signs, at most m deep -/
structure Vd (m : Nat) (d : PyData) : Prop where
  lay : d.canLay0 = true
  dep : d.depth ≤ m
theorem Vd.mono {m m' : Nat} {d : PyData} (h : Vd m d) (l : m ≤ m') : Vd m' d := ⟨h.lay, Nat.le_trans h.dep l⟩
theorem vd_tup {m : Nat} {ds : List PyData} (h : ∀ x ∈ ds, Vd m x) : Vd (m + 1) (.tuple ds) := by
  refine ⟨?_, ?_⟩
  · unfold PyData.canLay0
    exact (canLayAll_iff ds).mpr fun x hx => (h x hx).lay
  · unfold PyData.depth
    have := (depthAll_le ds).mpr fun x hx => (h x hx).dep
    omega
theorem vd_lst {m : Nat} {ds : List PyData} (h : ∀ x ∈ ds, Vd m x) : Vd (m + 1) (.list ds) := by
  refine ⟨?_, ?_⟩
  · unfold PyData.canLay0
    exact (canLayAll_iff ds).mpr fun x hx => (h x hx).lay
  · unfold PyData.depth
    have := (depthAll_le ds).mpr fun x hx => (h x hx).dep
    omega
theorem Vd.tup {m : Nat} {ds : List PyData} (h : Vd m (.tuple ds)) : 0 < m ∧ ∀ x ∈ ds, Vd (m - 1) x := by
  obtain ⟨a, b⟩ := h
  unfold PyData.canLay0 at a
  unfold PyData.depth at b
  have a' := (canLayAll_iff ds).mp a
  have b' := (depthAll_le (m := m - 1) ds).mp (by omega)
  exact ⟨by omega, fun x hx => ⟨a' x hx, b' x hx⟩⟩
theorem Vd.shaped {m : Nat} {d : PyData} (h : Vd m d) (l : m ≤ 64) : SeqAt.shaped d = true := by
  unfold SeqAt.shaped
  rw [h.lay, decide_eq_true (Nat.le_trans h.dep l)]
  rfl
theorem vd_none : Vd 0 .none := ⟨rfl, by unfold PyData.depth; exact Nat.le_refl _⟩
theorem vd_bool (b : Bool) : Vd 0 (.bool b) := ⟨rfl, by unfold PyData.depth; exact Nat.le_refl _⟩
theorem vd_int (i : Int) : Vd 0 (.int i) := ⟨rfl, by unfold PyData.depth; exact Nat.le_refl _⟩
/-- right signs -/
def Sg (z : Str) : Prop := ∀ c ∈ z.cps.toList, c < 1114112
theorem vd_str {z : Str} (h : Sg z) : Vd 0 (.str z) := by
  refine ⟨?_, by unfold PyData.depth; exact Nat.le_refl _⟩
  unfold PyData.canLay0
  show (z.cps.all fun x => decide (x < 0x110000)) = true
  rw [Array.all_eq_true']
  intro ch hc
  have := h ch (by simpa using hc)
  simp
  omega
theorem Vd.sg {m : Nat} {z : Str} (h : Vd m (.str z)) : Sg z := by
  have a := h.lay
  unfold PyData.canLay0 at a
  have a : (z.cps.all fun x => decide (x < 0x110000)) = true := a
  rw [Array.all_eq_true'] at a
  intro c hc
  have := a c (by simpa using hc)
  simp at this
  omega
theorem Sg.app {a b : Str} (h : Sg a) (g : Sg b) : Sg (a ++ b) := fun c hc => by
  rw [cps_app] at hc
  exact (List.mem_append.mp hc).elim (h c) (g c)
/-! displays of data: what they give, by the data in the def's names -/
abbrev DEnv := Nat → PyData
def SEnv (K : PySem.W.Frag) (N : Addr → Prop) (L : List Nat) (σ : L2.St) (H : Hp) (D : DEnv) : Prop := ∀ i ∈ L, ∃ v, σ[i]? = some (some v) ∧ Dm K N H v (D i)
theorem SEnv.up {K : PySem.W.Frag} {N : Addr → Prop} {L : List Nat} {σ : L2.St} {H H' : Hp} {D : DEnv} (h : SEnv K N L σ H D) (s : Bt N H H') : SEnv K N L σ H' D := fun i hi => by
  obtain ⟨v, a, b⟩ := h i hi
  exact ⟨v, a, b.up s⟩
theorem trk_up {N : Addr → Prop} {H H' : Hp} (h : ∀ a, N a → Trk H a) (s : Same H H') : ∀ a, N a → Trk H' a := fun a n => (h a n).same s
def rD (K : PySem.W.Frag) (L : List Nat) (C : DEnv → Prop) (g : DEnv → PyData) : TE := fun σ H Q => ∃ (N : Addr → Prop) (D : DEnv), (∀ a, N a → Trk H a) ∧ SEnv K N L σ H D ∧ C D ∧ ∀ v H', Dm K N H' v (g D) → Same H H' → Q v H'
def rDs (K : PySem.W.Frag) (L : List Nat) (C : DEnv → Prop) (g : DEnv → List PyData) : TA := fun σ H Q => ∃ (N : Addr → Prop) (D : DEnv), (∀ a, N a → Trk H a) ∧ SEnv K N L σ H D ∧ C D ∧ ∀ vs H', DmAll K N H' vs (g D) → Same H H' → Q vs H'
def asT : PyData → List PyData
  | .tuple ds => ds
  | _ => []
def asL : PyData → List PyData
  | .list ds => ds
  | _ => []
def asS : PyData → Str
  | .str z => z
  | _ => Str.ofString ""
def isLst : PyData → Bool
  | .list _ => true
  | _ => false
theorem tup_eq {d : PyData} (h : isTup d = true) : d = .tuple (asT d) := by
  cases d <;> first | rfl | cases h
theorem lst_eq {d : PyData} (h : isLst d = true) : d = .list (asL d) := by
  cases d <;> first | rfl | cases h
theorem str_eq {d : PyData} (h : isStr d = true) : d = .str (asS d) := by
  cases d <;> first | rfl | cases h
abbrev yes : DEnv → Prop := fun _ => True
section
variable {X : Cx} {L : List Nat} {C C' : DEnv → Prop} {g g' : DEnv → PyData} {gs : DEnv → List PyData} {e e' : Expr} {es : List Expr} {pos : Pos}
theorem pd_var {i : Nat} (hp : PE X e (tVar i)) (hm : i ∈ L) : PE X e (rD X.K L yes fun D => D i) := by
  refine ⟨fun pins s σ H Q I h => hp.run pins s σ H Q I ?_⟩
  obtain ⟨N, D, hN, hs, _, k⟩ := h
  obtain ⟨v, a, b⟩ := hs i hm
  exact ⟨v, a, k v H b (Same.refl H)⟩
theorem pd_of {te : TE} {v : V} {d : PyData} (hp : PE X e te) (h : ∀ (σ : L2.St) (H : Hp) (Q : VK), Q v H → te σ H Q) (hd : ∀ (N : Addr → Prop) (H : Hp), Dm X.K N H v d) : PE X e (rD X.K L yes fun _ => d) := by
  refine ⟨fun pins s σ H Q I h2 => hp.run pins s σ H Q I ?_⟩
  obtain ⟨N, D, hN, hs, _, k⟩ := h2
  exact h σ H Q (k v H (hd N H) (Same.refl H))
theorem pds_nil : PA X [] (rDs X.K L yes fun _ => []) := by
  refine ⟨fun pos pins s σ H Q I h => pa_nil.run pos pins s σ H Q I ?_⟩
  obtain ⟨N, D, hN, hs, _, k⟩ := h
  exact k [] H .nil (Same.refl H)
theorem pds_cons (he : PE X e (rD X.K L C g)) (ha : PA X es (rDs X.K L C' gs)) (hs : starEach (e :: es) X.env = (false, eval e X.env) :: starEach es X.env := by rfl) : PA X (e :: es) (rDs X.K L (fun D => C D ∧ C' D) fun D => g D :: gs D) := by
  refine ⟨fun pos pins s σ H Q I h => (pa_cons he ha hs).run pos pins s σ H Q I ?_⟩
  obtain ⟨N, D, hN, hs, ⟨c1, c2⟩, k⟩ := h
  exact ⟨N, D, hN, hs, c1, fun v H1 dv s1 => ⟨N, D, trk_up hN s1, hs.up (Bt.same s1), c2, fun vs H2 dvs s2 => k (v :: vs) H2 (.cons (dv.up (Bt.same s2)) dvs) (s1.trans s2)⟩⟩
theorem pd_tup {x1} (ha : PA X es (rDs X.K L C gs)) (hl : ∀ D, C D → (gs D).length ≤ sizeLine) : PE X (.Tuple es x1 pos) (rD X.K L C fun D => .tuple (gs D)) := by
  refine ⟨fun pins s σ H Q I h => (pe_tup ha).run pins s σ H Q I ?_⟩
  obtain ⟨N, D, hN, hs, hc, k⟩ := h
  refine ⟨N, D, hN, hs, hc, fun vs H1 dm s1 => ⟨by rw [dm.len]; exact hl D hc, fun p hp => ?_⟩⟩
  exact k _ _ (.tup upd_same (not_new hN s1 hp) (dm.up (Bt.refl.new hp))) (s1.new hp)
theorem pd_lst (ha : PA X es (rDs X.K L C gs)) (hl : ∀ D, C D → (gs D).length ≤ sizeLine) : PE X (.List es pos) (rD X.K L C fun D => .list (gs D)) := by
  refine ⟨fun pins s σ H Q I h => (pe_lst ha).run pins s σ H Q I ?_⟩
  obtain ⟨N, D, hN, hs, hc, k⟩ := h
  refine ⟨N, D, hN, hs, hc, fun vs H1 dm s1 => ⟨by rw [dm.len]; exact hl D hc, fun p hp => ?_⟩⟩
  exact k _ _ (.lst upd_same (not_new hN s1 hp) (dm.up (Bt.refl.new hp))) (s1.new hp)
/-- a + b, lists -/
theorem pd_catL (ha : PE X e (rD X.K L C g)) (hb : PE X e' (rD X.K L C' g')) : PE X (.BinOp e .Add e' pos) (rD X.K L (fun D => (C D ∧ C' D) ∧ isLst (g D) = true ∧ isLst (g' D) = true ∧ (asL (g D)).length + (asL (g' D)).length ≤ 100000) fun D => .list (asL (g D) ++ asL (g' D))) := by
  refine ⟨fun pins s σ H Q I h => (pe_op op_cat ha hb).run pins s σ H Q I ?_⟩
  obtain ⟨N, D, hN, hs, ⟨⟨c1, c2⟩, i1, i2, hl⟩, k⟩ := h
  refine ⟨N, D, hN, hs, c1, fun v H1 dv s1 => ⟨N, D, trk_up hN s1, hs.up (Bt.same s1), c2, fun u H2 du s2 => ?_⟩⟩
  have dv2 := dv.up (Bt.same s2)
  rw [lst_eq i1] at dv2
  rw [lst_eq i2] at du
  cases dv2 with
  | lst h1 n1 a1 =>
    cases du with
    | lst h2 n2 a2 =>
      have l1 := a1.len
      have l2 := a2.len
      refine ⟨_, _, _, _, rfl, rfl, h1, h2, by rw [sizeLine_eq, l1, l2]; exact Nat.le_trans hl (by decide), fun p hp => ?_⟩
      have s3 := s1.trans s2
      exact k _ _ (.lst upd_same (not_new hN s3 hp) ((a1.up (Bt.refl.new hp)).app (a2.up (Bt.refl.new hp)))) (s3.new hp)
def cutP (ds : List PyData) (lo hi : Option Int) : List PyData := (ds.drop (HT.sIx ds.length 0 lo)).take (HT.sIx ds.length ds.length hi - HT.sIx ds.length 0 lo)
def rSlD (K : PySem.W.Frag) : V → Option Int → Option Int → Hp → VK → Prop := fun x lo hi H Q => ∃ (N : Addr → Prop) (ds : List PyData), Dm K N H x (.tuple ds) ∧ (∀ a, N a → Trk H a) ∧ ∀ u H', Dm K N H' u (.tuple (cutP ds lo hi)) → Same H H' → Q u H'
theorem sl_dm : SlR X (rSlD X.K) := by
  intro pins s σ H x v vl vu lo hi sl Q I rx hs pl pu h
  obtain ⟨N, ds, hx, hN, k⟩ := h
  obtain ⟨a, xs, rfl, ta, al⟩ := hx.seq
  have lx := al.len
  refine sl_tupA pins s σ H _ v vl vu lo hi sl Q I rx hs pl pu ⟨a, xs, rfl, ta.sq, fun hw => ?_, fun hw p hp => ?_⟩
  · rw [lx] at hw
    refine k _ _ ?_ (Same.refl H)
    have e : cutP ds lo hi = ds := by
      unfold cutP
      rw [hw.1, hw.2, List.drop_zero, Nat.sub_zero, List.take_length]
    rw [e]
    exact hx
  · refine k _ _ (.tup upd_same (not_new hN (Same.refl H) hp) ?_) ((Same.refl H).new hp)
    have e : cutV xs lo hi = (xs.drop (HT.sIx ds.length 0 lo)).take (HT.sIx ds.length ds.length hi - HT.sIx ds.length 0 lo) := by
      unfold cutV
      rw [lx]
    rw [e]
    exact ((al.drop _).take _).up (Bt.refl.new hp)
def rCatD (K : PySem.W.Frag) : R2 := fun x y H Q => ∃ (N : Addr → Prop) (ds es : List PyData), Dm K N H x (.tuple ds) ∧ Dm K N H y (.tuple es) ∧ (∀ a, N a → Trk H a) ∧ ds.length + es.length ≤ sizeLine ∧ ∀ u H', Dm K N H' u (.tuple (ds ++ es)) → Same H H' → Q u H'
theorem op_catD : OpR X (binaryOp .Add) (rCatD X.K) := by
  intro pins s σ H x y v u Q I rx ry h
  obtain ⟨N, ds, es, hx, hy, hN, hz, k⟩ := h
  obtain ⟨a, xs, rfl, ta, al⟩ := hx.seq
  obtain ⟨b, ys, rfl, tb, bl⟩ := hy.seq
  have lx := al.len
  have ly := bl.len
  refine op_catA pins s σ H _ _ v u Q I rx ry ⟨a, b, xs, ys, rfl, rfl, ta.sq, tb.sq, by omega, fun hx0 => ?_, fun _ hy0 => ?_, fun _ _ p hp => ?_⟩
  · subst hx0
    cases al
    exact k _ _ hy (Same.refl H)
  · subst hy0
    cases bl
    refine k _ _ ?_ (Same.refl H)
    rw [List.append_nil]
    exact hx
  · exact k _ _ (.tup upd_same (not_new hN (Same.refl H) hp) ((al.up (Bt.refl.new hp)).app (bl.up (Bt.refl.new hp)))) ((Same.refl H).new hp)
/-- a + b, tuples -/
theorem pd_catT (ha : PE X e (rD X.K L C g)) (hb : PE X e' (rD X.K L C' g')) : PE X (.BinOp e .Add e' pos) (rD X.K L (fun D => (C D ∧ C' D) ∧ isTup (g D) = true ∧ isTup (g' D) = true ∧ (asT (g D)).length + (asT (g' D)).length ≤ 100000) fun D => .tuple (asT (g D) ++ asT (g' D))) := by
  refine ⟨fun pins s σ H Q I h => (pe_op op_catD ha hb).run pins s σ H Q I ?_⟩
  obtain ⟨N, D, hN, hs, ⟨⟨c1, c2⟩, i1, i2, hl⟩, k⟩ := h
  refine ⟨N, D, hN, hs, c1, fun v H1 dv s1 => ⟨N, D, trk_up hN s1, hs.up (Bt.same s1), c2, fun u H2 du s2 => ?_⟩⟩
  have dv2 := dv.up (Bt.same s2)
  rw [tup_eq i1] at dv2
  rw [tup_eq i2] at du
  exact ⟨N, _, _, dv2, du, trk_up hN (s1.trans s2), Nat.le_trans hl (by decide), fun w H3 dw s3 => k w H3 dw ((s1.trans s2).trans s3)⟩
/-- a[lo:hi], a tuple, with bounds that are written -/
theorem pd_cutT {lo hi : Option Expr} {tl th : TO} {l u : Option Int} {p2 : Pos} (ha : PE X e (rD X.K L C g)) (hl : PO X lo tl) (hh : PO X hi th) (h1 : ∀ (σ : L2.St) (H : Hp) (Q : Option Int → Hp → Prop), Q l H → tl σ H Q) (h2 : ∀ (σ : L2.St) (H : Hp) (Q : Option Int → Hp → Prop), Q u H → th σ H Q) :
    PE X (.Subscript e (.Slice lo hi none p2) pos) (rD X.K L (fun D => C D ∧ isTup (g D) = true) fun D => .tuple (cutP (asT (g D)) l u)) := by
  refine ⟨fun pins s σ H Q I h => (pe_slice sl_dm ha hl hh).run pins s σ H Q I ?_⟩
  obtain ⟨N, D, hN, hs, ⟨c1, i1⟩, k⟩ := h
  refine ⟨N, D, hN, hs, c1, fun v H1 dv s1 => h1 _ _ _ (h2 _ _ _ ?_)⟩
  rw [tup_eq i1] at dv
  exact ⟨N, _, dv, trk_up hN s1, fun w H3 dw s3 => k w H3 dw (s1.trans s3)⟩
/-- a[::-1], a tuple -/
theorem pd_revT {k0 : Nat} {p1 p2 p3 : Pos} (ha : PE X e (rD X.K L C g)) : PE X (.Subscript e (.Slice none none (some (.UnaryOp .USub (.Constant (.int 1) k0 p1) p2)) p3) pos) (rD X.K L (fun D => C D ∧ isTup (g D) = true) fun D => .tuple (asT (g D)).reverse) := by
  refine ⟨fun pins s σ H Q I h => (pe_revT ha).run pins s σ H Q I ?_⟩
  obtain ⟨N, D, hN, hs, ⟨c1, i1⟩, k⟩ := h
  refine ⟨N, D, hN, hs, c1, fun v H1 dv s1 => ?_⟩
  rw [tup_eq i1] at dv
  obtain ⟨a, xs, rfl, ta, al⟩ := dv.seq
  exact ⟨a, xs, rfl, ta.sq, fun p hp => k _ _ (.tup upd_same (not_new hN s1 hp) (al.rev.up (Bt.refl.new hp))) (s1.new hp)⟩
/-- list(a), a tuple -/
theorem pd_listT {p : Pos} (ha : PE X e (rD X.K L C g)) (hg : Gl X "list") (hm : X.mg "list" = none) (he : starEach [e] X.env = (false, eval e X.env) :: starEach [] X.env := by rfl) : PE X (.Call (.Name "list" p) [e] [] pos) (rD X.K L (fun D => C D ∧ isTup (g D) = true) fun D => .list (asT (g D))) := by
  refine ⟨fun pins s σ H Q I h => (pe_callTy call_list_of hg hm (by decide +kernel) (pa_cons ha pa_nil he) (by decide) (by decide) he rfl).run pins s σ H Q I ?_⟩
  obtain ⟨N, D, hN, hs, ⟨c1, i1⟩, k⟩ := h
  refine ⟨N, D, hN, hs, c1, fun v H1 dv s1 => ?_⟩
  rw [tup_eq i1] at dv
  obtain ⟨a, xs, rfl, ta, al⟩ := dv.seq
  exact ⟨a, xs, rfl, .inr ta.sq, fun p hp => k _ _ (.lst upd_same (not_new hN s1 hp) (al.up (Bt.refl.new hp))) (s1.new hp)⟩
/-- a + b, texts -/
theorem pd_addS (ha : PE X e (rD X.K L C g)) (hb : PE X e' (rD X.K L C' g')) : PE X (.BinOp e .Add e' pos) (rD X.K L (fun D => (C D ∧ C' D) ∧ isStr (g D) = true ∧ isStr (g' D) = true ∧ (asS (g D)).length + (asS (g' D)).length ≤ 1000000) fun D => .str (asS (g D) ++ asS (g' D))) := by
  refine ⟨fun pins s σ H Q I h => (pe_op op_add_str ha hb).run pins s σ H Q I ?_⟩
  obtain ⟨N, D, hN, hs, ⟨⟨c1, c2⟩, i1, i2, hl⟩, k⟩ := h
  refine ⟨N, D, hN, hs, c1, fun v H1 dv s1 => ⟨N, D, trk_up hN s1, hs.up (Bt.same s1), c2, fun u H2 du s2 => ?_⟩⟩
  rw [str_eq i1] at dv
  rw [str_eq i2] at du
  exact ⟨_, _, dv.strV, du.strV, Nat.le_trans hl (by decide), k _ _ (.str _) (s1.trans s2)⟩
/-- a[lo:hi], a text, with bounds that are written -/
theorem pd_cutS {lo hi : Option Expr} {tl th : TO} {l u : Option Int} {p2 : Pos} (ha : PE X e (rD X.K L C g)) (hl : PO X lo tl) (hh : PO X hi th) (h1 : ∀ (σ : L2.St) (H : Hp) (Q : Option Int → Hp → Prop), Q l H → tl σ H Q) (h2 : ∀ (σ : L2.St) (H : Hp) (Q : Option Int → Hp → Prop), Q u H → th σ H Q) :
    PE X (.Subscript e (.Slice lo hi none p2) pos) (rD X.K L (fun D => C D ∧ isStr (g D) = true ∧ (asS (g D)).length ≤ 1000000) fun D => .str (cutS (asS (g D)) l u)) := by
  refine ⟨fun pins s σ H Q I h => (pe_slice sl_str ha hl hh).run pins s σ H Q I ?_⟩
  obtain ⟨N, D, hN, hs, ⟨c1, i1, hz⟩, k⟩ := h
  refine ⟨N, D, hN, hs, c1, fun v H1 dv s1 => h1 _ _ _ (h2 _ _ _ ?_)⟩
  rw [str_eq i1] at dv
  exact ⟨_, dv.strV, Nat.le_trans hz (by decide), k _ _ (.str _) s1⟩
end
end K1

/-! calls by one keyword; isinstance of a caught error with a dict of its own; InvalidNode -/
namespace Xr
open PySem PySem.Spec PyProof.Rows L2 Exv
section
variable {X : Cx} {CX : CXT} {k : Nat} {f : Addr} {fd : FuncData} {pm : Str} {sp : Sp} {E : L2.St → XK} {x kn : Str} {p pos kpos : Pos} {e : Expr} {ta : TA}
/-- f(name=e), the one parameter -/
theorem pe_kw0 (F : FnOk X.prog X.w X.K X.mg X.base CX k f fd [pm] sp) (hr : Room k X.A) (hg : Gl X x) (hm : X.mg x = some (.ref f)) (kp : PySem.W.keepIn X.K (.ref f) = true) (hb : ∀ (s : Shared) (u : Value), BindsTo s fd ⟨[], [(kn, u)]⟩ [(pm, u)])
    (hx : ∀ σ, PassesAt CX X σ (E σ)) (hkw : PK X [⟨some kn, e, kpos⟩] ta)
    (hall : (backToKw pos (keywordEach [⟨some kn, e, kpos⟩] X.env)).all (·.1.isSome) = true := by rfl) (hks : (backToKw pos (keywordEach [⟨some kn, e, kpos⟩] X.env)).filterMap (·.1) = [kn] := by rfl) (hdb : (x == ("__debug__" : Str)) = false := by decide)
    (hpl : ((backTo pos (starEach [] X.env)).any (·.1) || (backToKw pos (keywordEach [⟨some kn, e, kpos⟩] X.env)).any (·.1.isNone)) = false := by rfl) :
    PE X (.Call (.Name x p) [] [⟨some kn, e, kpos⟩] pos) (tCallS sp E ta) := by
  refine ⟨fun pins s σ H Q I h => ?_⟩
  refine wpAny_Call_Name_kw (ld_glob I hg hm ?_ hdb)
  refine PySem.W.callWith_KW0 (h₀ := X.base) I.ok.mod.kin kp hall ?_ hpl
  refine thn (hkw.run pos pins s σ H _ I h) fun ws s2 ⟨zs, H2, I2, rz, q⟩ => ⟨I2.kIn, ?_⟩
  rw [hks]
  have q' : sp zs H2 Q (E σ) := q
  have lens : ws.length = 1 := by
    rw [← rz.length]
    exact F.len _ _ _ _ q'
  obtain ⟨u, rfl⟩ : ∃ u, ws = [u] := by
    match ws, lens with
    | [u], _ => exact ⟨u, rfl⟩
  refine wpAny_call (codeAny_mono (F.run X.A X.stack s2 H2 ⟨[], [(kn, u)]⟩ [u] zs Q (E σ) hr I2.env0 (hb s2 u) rz q') fun r s' hq => ?_)
  cases r with
  | error e => exact hx σ pins H2 s2 e s' I2 hq
  | ok fl =>
    cases fl with
    | ret u => exact I2.after hq
    | next => exact False.elim hq
    | brk => exact False.elim hq
    | cont => exact False.elim hq
theorem at0 {CX : CXT} {X : Cx} {E : XK} (h : Passes CX X E) (σ : L2.St) : PassesAt CX X σ E := fun pins H s e s' I c => h pins σ H s e s' I c
/-- isinstance(e, c), e the caught error, its class and dict by the reading -/
def rIsED (K : PySem.W.Frag) (a : Addr) (cls : Value) (d : Option Addr) : List V → Hp → VK → Prop := fun xs H Q => ∃ (C : Addr) (c : V) (cv : Value) (b : Bool) (dd : Addr) (fs : List (Str × V)), cls = .ref C ∧ xs = [.ref a, c] ∧ ClsV c cv ∧ IsT K C ∧ PySem.W.kitOne K (.ref C) cv = some b ∧
  d = some dd ∧ H dd = some (.xd fs) ∧ Q (.bl b) H
theorem call_isED {a : Addr} {oe : Obj} {cls : Value} {d : Option Addr} {pn : List (Addr × Obj)} (hz : Zc cls d oe) (hf : ∃ vs, oe.data = .fields vs) : CallR (X.suite a ((a, oe) :: pn)) (.builtin "isinstance") (rIsED X.K a cls d) := by
  intro pins s σ H xs us Q I r h
  obtain ⟨C, c, cv, b, dd, fs, ec, rfl, k, T, e, ed, ea, q⟩ := h
  obtain ⟨u1, u2, rfl, r1, r2⟩ := vals2 r
  cases (show u1 = Value.ref a from r1)
  have e2 := k.eq r2
  subst e2
  subst ec
  subst ed
  obtain ⟨ha, _⟩ := I.pin (a, oe) (List.mem_append_left _ List.mem_cons_self)
  obtain ⟨vs, hd⟩ := hf
  have hx : ObjOk X.prog X.w H s.heap dd (.xd fs) := I.hok dd _ ea
  obtain ⟨mA, hns, hr⟩ := hx
  obtain ⟨od, ho, hl⟩ := lookIn_ns hns
  have hcl : (PySem.W.clsIn X.K C).isSome = true := by
    obtain ⟨cd, hcd, _⟩ := PySem.W.any_some T.hd
    rw [hcd]
    rfl
  have J : PySem.W.InstAt s.heap a oe C (some od) := ⟨ha, hz.1, by unfold PySem.W.notCls; rw [hd] <;> rfl, by rw [hz.2]; exact ho⟩
  exact PySem.W.kia_one (PySem.W.kitx_exc hcl T.ga T.gg T.ex T.cl T.sp T.tk T.mr) I.kIn J e (fun z => nomatch z) fun tk => ⟨.bl b, H, I.tok tk, rfl, q⟩
/-- isinstance(e, (c1, c2)), e the caught error, its class and dict by the reading -/
def rIsEDT (K : PySem.W.Frag) (a : Addr) (cls : Value) (d : Option Addr) : List V → Hp → VK → Prop := fun xs H Q => ∃ (C tp : Addr) (cs : List V) (us : List Value) (b : Bool) (dd : Addr) (fs : List (Str × V)), cls = .ref C ∧ xs = [.ref a, .ref tp] ∧ H tp = some (.tup cs) ∧ Paired ClsV cs us ∧ IsT K C ∧ PySem.W.kitAny K (.ref C) us = some b ∧
  d = some dd ∧ H dd = some (.xd fs) ∧ Q (.bl b) H
theorem call_isEDT {a : Addr} {oe : Obj} {cls : Value} {d : Option Addr} {pn : List (Addr × Obj)} (hz : Zc cls d oe) (hf : ∃ vs, oe.data = .fields vs) : CallR (X.suite a ((a, oe) :: pn)) (.builtin "isinstance") (rIsEDT X.K a cls d) := by
  intro pins s σ H xs us Q I r h
  obtain ⟨C, tp, cs, ws, b, dd, fs, ec, rfl, hT, k, T, e, ed, ea, q⟩ := h
  obtain ⟨u1, u2, rfl, r1, r2⟩ := vals2 r
  cases (show u1 = Value.ref a from r1)
  cases (show u2 = Value.ref tp from r2)
  subst ec
  subst ed
  obtain ⟨ha, _⟩ := I.pin (a, oe) (List.mem_append_left _ List.mem_cons_self)
  obtain ⟨vs, hd⟩ := hf
  have hx : ObjOk X.prog X.w H s.heap dd (.xd fs) := I.hok dd _ ea
  obtain ⟨mA, hns, hr⟩ := hx
  obtain ⟨od, ho, hl⟩ := lookIn_ns hns
  have hcl : (PySem.W.clsIn X.K C).isSome = true := by
    obtain ⟨cd, hcd, _⟩ := PySem.W.any_some T.hd
    rw [hcd]
    rfl
  have J : PySem.W.InstAt s.heap a oe C (some od) := ⟨ha, hz.1, by unfold PySem.W.notCls; rw [hd] <;> rfl, by rw [hz.2]; exact ho⟩
  obtain ⟨_, its, rv, o, h1, h2, n, h3⟩ := (show ObjOk X.prog X.w H s.heap tp (.tup cs) from I.hok tp _ hT)
  have e3 := ClsV.all k rv
  subst e3
  obtain ⟨oc, od2, dt, sl⟩ := o
  simp only at h2 h3
  subst h2 h3
  exact PySem.W.kia_tup (PySem.W.kitx_exc hcl T.ga T.gg T.ex T.cl T.sp T.tk T.mr) I.kIn J h1 e (fun z => nomatch z) fun tk => ⟨.bl b, H, I.tok tk, rfl, q⟩
end
end Xr

/-! the plain layer: errors -/
namespace K3
open PySem L2 Xr K1 Exv
abbrev DEX := DXr → DE
abbrev DAX := DXr → DA
def lftX (K : PySem.W.Frag) (W : WZ) (t : DEX) : TE := fun σ H Q => ∃ B ρ S m Qd x, At K B σ H ρ S m ∧ t x ρ S Qd ∧ Kq K m H Q Qd ∧ Lk K W B x
def lftAX (K : PySem.W.Frag) (W : WZ) (t : DAX) : TA := fun σ H Q => ∃ B ρ S m Qd x, At K B σ H ρ S m ∧ t x ρ S Qd ∧ Ka K m H Q Qd ∧ Lk K W B x
abbrev QEX [md : Md] (X : Cx) (e : Expr) (t : DEX) : Prop := PE X e (lftX X.K (Wm X) t)
abbrev QAX [md : Md] (X : Cx) (es : List Expr) (t : DAX) : Prop := PA X es (lftAX X.K (Wm X) t)
section
variable {X : Cx} {e a b c : Expr} {es : List Expr} {t ta : DEX} {tb : DE} {u : DT} {aa : DA} {aX : DAX} {pos : Pos}
theorem qx_of {md : Md} (h : QE X e tb) : QEX X e (fun _ => tb) := pe_weak h fun σ H Q ⟨B, ρ, S, m, Qd, x, at_, q, k, l⟩ => ⟨B, ρ, S, m, Qd, at_, q, k⟩
theorem bin2X {K : PySem.W.Frag} {W : WZ} {f : D2} {r : R2} (hs : Snd2 K f r) {σ : L2.St} {H : Hp} {Q : VK} (h : lftX K W (fun x => dOp f (ta x) tb) σ H Q) : tOp r (lftX K W ta) (lft K tb) σ H Q := by
  obtain ⟨B, ρ, S, m, Qd, x, at_, q, k, l⟩ := h
  refine ⟨B, ρ, S, m, _, x, at_, q, (fun a S1 x H1 m1 q1 e1 w1 d1 => ⟨B, ρ, S1, m1, _, at_.step e1 w1, q1, fun b S2 y H2 m2 q2 e2 w2 d2 => ?_⟩), l⟩
  exact hs m2 H2 S2 x y a b Q Qd w2 (d1.up e2) d2 q2 ((k.up e1).up e2)
theorem qx_at {md : Md} (ha : QEX X a ta) (hb : QE X b tb) (hp : PlainIx b) : QEX X (.Subscript a b pos) (fun x => dOp dIx (ta x) tb) := pe_weak (pe_ix ix_seq ha hb hp) fun _ _ _ h => bin2X snd_ix h
theorem qx_nil {md : Md} : QAX X [] (fun _ => dNil) := pa_weak pa_nil fun σ H Q ⟨B, ρ, S, m, Qd, x, at_, q, k, l⟩ => k [] S [] H m q Evo.refl at_.wd .nil
theorem qx_cons {md : Md} (he : QEX X e t) (ha : QAX X es aX) (hs : starEach (e :: es) X.env = (false, eval e X.env) :: starEach es X.env := by rfl) : QAX X (e :: es) (fun x => dCons (t x) (aX x)) := pa_weak (pa_cons he ha hs) fun σ H Q ⟨B, ρ, S, m, Qd, x, at_, q, k, l⟩ =>
  ⟨B, ρ, S, m, _, x, at_, q, (fun d S' v H' m' q e w dv => ⟨B, ρ, S', m', _, x, at_.step e w, q, (fun ds S2 vs H2 m2 q2 e2 w2 dvs => k _ S2 _ H2 m2 q2 (e.trans e2) w2 (.cons (dv.up e2) dvs)), l⟩), l⟩
theorem qx_tup {md : Md} {x1} (ha : QAX X es aX) : QEX X (.Tuple es x1 pos) (fun x => dTup (aX x)) := pe_weak (pe_tup ha) fun σ H Q ⟨B, ρ, S, m, Qd, x, at_, q, k, l⟩ =>
  ⟨B, ρ, S, m, _, x, at_, q, (fun ds S' vs H' m' q e w dv => ⟨by rw [dv.len]; exact line_of q.1, (k.up e).newT w dv q.2⟩), l⟩
theorem qx_if {md : Md} (hc : QT X c u) (ha : QEX X a ta) (hb : QEX X b t) : QEX X (.IfExp c a b pos) (fun x => dIfE u (ta x) (t x)) := pe_weak (pe_ifExp hc ha hb) fun σ H Q ⟨B, ρ, S, m, Qd, x, at_, q, k, l⟩ => ⟨B, ρ, S, m, _, at_, q, fun c S' H' m' q e w => by
  cases c with
  | true => exact iteT ⟨B, ρ, S', m', Qd, x, at_.step e w, q, k.up e, l⟩
  | false => exact iteF ⟨B, ρ, S', m', Qd, x, at_.step e w, q, k.up e, l⟩⟩
end
section
variable {X : Cx} {j k : Nat} {f : Addr} {fd : FuncData} {ps : List Str} {sp : SpD} {x : Str} {p pos : Pos} {e : Expr} {es : List Expr} {aa : DA}
/-- f(e, ..), f one that may raise -/
def dFnX (sp : SpD) (aa : DA) : DEX := fun x ρ S Q => aa ρ S fun ds S1 => sp ds S1 Q (fun C fs S' => x C fs ρ S')
theorem passAtM {m : Md} {X : Cx} {W : L2.WX} (tk : Tkm X W) (σ : L2.St) : PassesAt (CXm X.prog X.w) X σ (WE W σ) := by
  match m with
  | ⟨true⟩ => exact L2N.passAt tk σ
  | ⟨false⟩ => exact L2.passAt tk σ
theorem fn_dvX {md : Md} {σ : L2.St} {H : Hp} {Q : VK} (h : lftX X.K (Wm X) (dFnX sp aa) σ H Q) : tCallS (spD X.K sp) (WE (Wm X).1) (lftA X.K aa) σ H Q := by
  obtain ⟨B, ρ, S, m, Qd, x, at_, q, k, l⟩ := h
  refine ⟨B, ρ, S, m, _, at_, q, fun ds S' vs H' m' q e w dv => ?_⟩
  exact ⟨m', S', ds, Qd, _, w, dv, q, k.up e, fun C fs S2 H2 m2 dd ys qx e2 w2 hd nc en al => l.run C fs ρ S2 σ H2 m2 dd ys qx ((at_.step e w).step e2 w2) hd nc en al⟩
theorem qx_call {md : Md} (hr : Room k X.A) (F : FnOk X.prog X.w X.K X.mg X.base (CXm X.prog X.w) j f fd ps (spD X.K sp)) (hm : X.mg x = some (.ref f)) (hk : PySem.W.keepIn X.K (.ref f) = true) (hb : Binds X.K fd ps []) (hg : Gl X x) (hl : j ≤ k)
    (ha : QA X (e :: es) aa) (hdb : (x == ("__debug__" : Str)) = false := by decide) (he : starEach (e :: es) X.env = (false, eval e X.env) :: starEach es X.env := by rfl) (hpl : (backTo pos (starEach es X.env)).any (·.1) = false := by rfl) :
    QEX X (.Call (.Name x p) (e :: es) [] pos) (dFnX sp aa) := pe_weak (pe_callS F (hr.mono hl) hg hm hk hb (fun σ => passAtM (takesWm X) σ) ha hdb he hpl) fun σ H Q h => fn_dvX h
/-- f(a=e, ..), f one that may raise -/
theorem qx_kw {md : Md} {ks : List Str} {kws : List Keyword} (hr : Room k X.A) (F : FnOk X.prog X.w X.K X.mg X.base (CXm X.prog X.w) j f fd ps (spD X.K sp)) (hm : X.mg x = some (.ref f)) (hk : PySem.W.keepIn X.K (.ref f) = true) (hb : BindsK fd ps ks) (hg : Gl X x) (hl : j ≤ k) (hkw : QK X kws aa)
    (hall : (backToKw pos (keywordEach kws X.env)).all (·.1.isSome) = true := by rfl) (hks : (backToKw pos (keywordEach kws X.env)).filterMap (·.1) = ks := by rfl) (hdb : (x == ("__debug__" : Str)) = false := by decide)
    (hpl : ((backTo pos (starEach [] X.env)).any (·.1) || (backToKw pos (keywordEach kws X.env)).any (·.1.isNone)) = false := by rfl) : QEX X (.Call (.Name x p) [] kws pos) (dFnX sp aa) :=
  pe_weak (pe_kwA (E := WE (Wm X).1) F (hr.mono hl) hg hm hk hb (fun σ => passAtM (takesWm X) σ) hkw.p hall hks hdb hpl) fun σ H Q h => fn_dvX h
end
/-! statements -/
section
variable {X : Cx} {e a : Expr} {t : DEX} {aa : DA} {g : DG} {pos : Pos}
def dRetX (t : DEX) : DS := fun D ρ S => t D.xt ρ S D.rt
theorem qs_retX {md : Md} (he : QEX X e t) : QS X (.Return (some e) pos) (dRetX t) := ps_weak (ps_ret he) fun D σ H ⟨B, ρ, S, m, Dd, at_, q, k⟩ =>
  ⟨B, ρ, S, m, _, _, at_, q, (fun d S' v H' m' q e w dv => k.rt _ _ _ _ _ q (at_.ev.trans e) w dv), k.xt⟩
def dDropX (t : DEX) : DS := fun D ρ S => t D.xt ρ S fun _ S1 => D.nx ρ S1
theorem qs_exprX {md : Md} (he : QEX X e t) (hs : swapsWith e none pos.line X.env = pure false := by rfl) : QS X (.Expr e pos) (dDropX t) := ps_weak (ps_expr he hs) fun D σ H ⟨B, ρ, S, m, Dd, at_, q, k⟩ =>
  ⟨B, ρ, S, m, _, _, at_, q, (fun d S' v H' m' q e w dv => k.nx _ _ _ _ _ q (at_.step e w)), k.xt⟩
def dSetX (i : Nat) (t : DEX) : DS := fun D ρ S => t D.xt ρ S fun d S1 => D.nx (st ρ i d) S1
theorem qs_setX {md : Md} {i : Nat} {x : Str} {pos' : Pos} (hN : X.N.Nodup) (hi : X.N[i]? = some x) (hx : Loc X.env.scope x) (he : QEX X e t) (hs : swapsWith e (some (.Name x pos')) pos.line X.env = pure false := by rfl) (hf : X.fn x = true ∨ X.env.scope.names.lookup x = some .local := by first | exact .inl rfl | exact .inr rfl | assumption) :
    QS X (.Assign [.Name x pos'] e pos) (dSetX i t) := ps_weak (ps_set hN hi hx he hs hf) fun D σ H ⟨B, ρ, S, m, Dd, at_, q, k⟩ =>
  ⟨B, ρ, S, m, _, _, at_, q, (fun d S' v H' m' q e w dv => k.nx _ _ _ _ _ q ((at_.step e w).setv dv)), k.xt⟩
def dAsgX (t : DEX) (g : DG) : DS := fun D ρ S => t D.xt ρ S fun d S1 => g d ρ S1 D.nx
theorem qs_asgX {md : Md} (he : QEX X e t) (hg : QG X a g) (hs : swapsWithSole [a] e pos.line X.env = pure false := by rfl) (hw : swappedStores [a] e X.env = pure none := by rfl)
    (h1 : (assignEach [a] X.env).map (·.2) = [assign a X.env] := by rfl) : QS X (.Assign [a] e pos) (dAsgX t g) := ps_weak (ps_asg he hg hs hw h1) fun D σ H ⟨B, ρ, S, m, Dd, at_, q, k⟩ =>
  ⟨B, ρ, S, m, _, _, at_, q, (fun d S' v H' m' q e w dv => ⟨d, B, ρ, S', m', _, at_.step e w, dv, q, fun ρ' S' σ' H' m' q _ at_ => k.nx _ _ _ _ _ q at_⟩), k.xt⟩
end
/-! a def that may raise -/
section
variable {P : Program} {w : World} {K : PySem.W.Frag} {mg : Str → Option Value} {base : Heap}
theorem takesM {m : Md} {X : Cx} {E : XK} (hs : X.stack = X.env :: X.outer) (hf : X.env.frame = some X.env.locals) (hex : X.ex = []) {E₁ : Value → Shared → Prop}
    (hx : X.xe = fun e s' => wpAny (model X.prog X.w) X.A (leaving X.env e) (fun _ s'' => CXm X.prog X.w X.outer X.H_0 X.s_0 E e s'') E₁ s') : Tkm X (fun cls d _ H => E cls d H) := by
  match m with
  | ⟨true⟩ => exact L2N.takes_of hs hf hex hx
  | ⟨false⟩ => exact L2.takes_of hs hf hex hx
theorem dokM {md : Md} {x qual : Str} {s1 : Stmt} {f : Addr} {fd : FuncData} {N ps : List Str} {k : Nat} {sp : SpD} (F : Fun K x qual s1 f fd) (S : FnScope N ps (defScope s1)) (len : ∀ ds S Q E, sp ds S Q E → ds.length = ps.length)
    (hbody : ∀ (cdv : Value) (A : Around) (outer : List Env) (s : Shared) (H : Hp) (Q : VK) (E : XK), Room k (A.deeper (PyProof.Rows.envOfC qual (defScope s1) s.heap.objs.size f cdv)) →
      ∃ t, QSs (cxOf (CXm P w) P w K mg base N qual (defScope s1) f cdv A outer s H E) (defBody s1) t ∧ ∀ ds S Qd Ed, sp ds S Qd Ed → t { nx := fun _ S' => Qd .none S', rt := Qd, xt := fun C fs _ S' => Ed C fs S' } (startD N ds) S) : FnOk P w K mg base (CXm P w) (k + 1) f fd ps (spD K sp) := by
  obtain ⟨oc, od, kV, doc, pm, an, cdv, ct, osl, rfl, lk, hcd⟩ := F.ex
  refine fn_of lk hcd S (spD_len len) fun A outer s H vs Q E hr h => ?_
  obtain ⟨t, ht, hq⟩ := hbody cdv A outer s H Q E hr
  obtain ⟨m, S, ds, Qd, Ed, w, dv, q, k, x⟩ := h
  refine ⟨_, ht, (m, H), startD N ds, S, m, _, ⟨Evo.refl, w, start_fr dv⟩, hq ds S Qd Ed q, ?_⟩
  exact ⟨fun ρ S σ H' m' q a => k _ S _ H' m' q a.ev a.wd .non, fun d S v H' m' q e w dv => k _ S _ H' m' q e w dv, fun _ _ _ _ _ q _ => q.elim, fun _ _ _ _ _ q _ => q.elim,
    ⟨fun C fs ρ S' σ H' m' dd ys qx a hd nc en al => Wm.of (takesM rfl rfl rfl rfl) (x C fs S' H' m' dd ys qx a.ev a.wd hd nc en al), fun _ _ _ _ _ a at_ h => at_.gone h⟩⟩
theorem dokX {x qual : Str} {s1 : Stmt} {f : Addr} {fd : FuncData} {N ps : List Str} {k : Nat} {sp : SpD} (F : Fun K x qual s1 f fd) (S : FnScope N ps (defScope s1)) (len : ∀ ds S Q E, sp ds S Q E → ds.length = ps.length)
    (hbody : ∀ (cdv : Value) (A : Around) (outer : List Env) (s : Shared) (H : Hp) (Q : VK) (E : XK), Room k (A.deeper (PyProof.Rows.envOfC qual (defScope s1) s.heap.objs.size f cdv)) →
      ∃ t, QSs (cxOf (L2.CX P w) P w K mg base N qual (defScope s1) f cdv A outer s H E) (defBody s1) t ∧ ∀ ds S Qd Ed, sp ds S Qd Ed → t { nx := fun _ S' => Qd .none S', rt := Qd, xt := fun C fs _ S' => Ed C fs S' } (startD N ds) S) : FnOk P w K mg base (L2.CX P w) (k + 1) f fd ps (spD K sp) := dokM (md := mdL) F S len hbody
theorem dokN {x qual : Str} {s1 : Stmt} {f : Addr} {fd : FuncData} {N ps : List Str} {k : Nat} {sp : SpD} (F : Fun K x qual s1 f fd) (S : FnScope N ps (defScope s1)) (len : ∀ ds S Q E, sp ds S Q E → ds.length = ps.length)
    (hbody : ∀ (cdv : Value) (A : Around) (outer : List Env) (s : Shared) (H : Hp) (Q : VK) (E : XK), Room k (A.deeper (PyProof.Rows.envOfC qual (defScope s1) s.heap.objs.size f cdv)) →
      ∃ t, QSs (md := mdN) (cxOf (L2N.CX P w) P w K mg base N qual (defScope s1) f cdv A outer s H E) (defBody s1) t ∧ ∀ ds S Qd Ed, sp ds S Qd Ed → t { nx := fun _ S' => Qd .none S', rt := Qd, xt := fun C fs _ S' => Ed C fs S' } (startD N ds) S) : FnOk P w K mg base (L2N.CX P w) (k + 1) f fd ps (spD K sp) := dokM (md := mdN) F S len hbody
end
/-! raise -/
/-- the one field of an own error -/
def spInit (C : Addr) (f : Str) : Sp := fun vs H Q _ => ∃ (a : Addr) (v : V), vs = [.ref a, v] ∧ H a = some (exo a C none) ∧
  ∀ dx, H dx = none → dx ≠ a → Q .non (upd (upd H dx (L2.exd dx [(f, v)])) a (exo a C (some dx)))
def dRaise (C : Addr) (f : Str) (aa : DA) : DS := fun D ρ S => aa ρ S fun ds S1 => match ds with
  | [d] => D.xt C [(f, d)] ρ S1
  | _ => False
theorem raised_eq {H : Hp} {a dx : Addr} {o1 o2 o3 : HO} {o : HO} (ha : H a = none) (ne : dx ≠ a) : upd (delH (upd (upd (upd H a o1) dx o2) a o3) a) dx o = upd H dx o := by
  funext q
  by_cases h : q = dx
  · rw [h, upd_same, upd_same]
  · rw [upd_ne h, upd_ne h]
    by_cases h2 : q = a
    · rw [h2, delH_same, ha]
    · rw [delH_ne h2, upd_ne h2, upd_ne h, upd_ne h2]
/-- an expression that makes an exception, its context None -/
theorem pmk_newN {X : Cx} {e : Expr} {te : TE} (hx : X.ex = []) (he : PE X e te) : L2N.PMk X e (tMkE X.K X.H_0 te) := by
  intro pins s σ H Q I h
  refine wpAny_mono (he.run pins s σ H _ I h) (fun u s1 hu => ?_) fun _ _ z => z
  obtain ⟨v, H1, I1, r1, a, C, rfl, h0, hr1, hr2, h1⟩ := hu
  cases (show u = Value.ref a from r1)
  have hr : Raises X (.ref C) := raises_own hr1 hr2
  rcases h1 with ⟨ea, q⟩ | ⟨d, fs, ne, ea, ed, q⟩
  · obtain ⟨t1, ha⟩ := exo_at I1.hok ea
    obtain ⟨G, gs, ga, J⟩ := Inv.untrack I1 ea h0 hx
    exact ⟨a, _, _, { s1 with heap := G }, delH H1 a, .ref C, none, rfl, J, gs, ga, ha, ⟨rfl, rfl, fun vs e => by cases e; rfl⟩, rfl, rfl, delH_same, rfl, I1.bare, hr, q⟩
  · obtain ⟨t1, ha⟩ := exo_at I1.hok ea
    obtain ⟨G, gs, ga, J⟩ := Inv.untrack I1 ea h0 hx
    have ed' : delH H1 a d = some (L2.exd d fs) := by rw [delH_ne ne]; exact ed
    have J2 := Inv.asDict J ed'
    exact ⟨a, _, _, { s1 with heap := G }, upd (delH H1 a) d (.xd fs), .ref C, some d, rfl, J2, gs, ga, ha, ⟨rfl, rfl, fun vs e => by cases e; rfl⟩, rfl, rfl, by rw [upd_ne (Ne.symm ne), delH_same], rfl, I1.bare, hr, q⟩
theorem ps_raiseM {m : Md} {X : Cx} {W : L2.WX} {e : Expr} {te : TE} {pos : Pos} (hc : X.calm = true) (hex : X.ex = []) (tk : Tkm X W) (he : PE X e te) : PS X (.Raise (some e) none pos) (fun _ σ H => tMkE X.K X.H_0 te σ H fun cls d H' => W cls d σ H') := by
  match m with
  | ⟨true⟩ => exact L2N.ps_raise hc tk (pmk_newN hex he)
  | ⟨false⟩ => exact L2.ps_raise hc tk (pmk_newE hex he)
theorem qs_raise {md : Md} {X : Cx} {CX : CXT} {C fI : Addr} {f x : Str} {k : Nat} {fd : FuncData} {ps : List Str} {e : Expr} {aa : DA} {p pos pos' : Pos} {bmB bmF : List Value} {Bn newId initId : String} (hc : X.calm = true) (hex : X.ex = []) (T : ExT X.K C fI f bmB newId) (FB : ExcBaseFacts Bn newId initId bmF) (hB : Base3 bmB Bn)
    (F : FnOk X.prog X.w X.K X.mg X.base CX k fI fd ps (spInit C f)) (hr : Room (k + 1) X.A) (hx : Passes CX X E0) (hg : Gl X x) (hm : X.mg x = some (.ref C))
    (hb : ∀ (s : Shared) (a : Addr) (u : Value), X.K.In s.heap → BindsTo s fd ⟨[.ref a, u], []⟩ (ps.zip [.ref a, u])) (ty : PySem.W.typeIn X.K (.ref C) = some (.type "type")) (ha : QA X [e] aa)
    (hdb : (x == ("__debug__" : Str)) = false := by decide) (hs : starEach [e] X.env = (false, eval e X.env) :: starEach [] X.env := by rfl) (hpl : (backTo pos (starEach [] X.env)).any (·.1) = false := by rfl) :
    QS X (.Raise (some (.Call (.Name x p) [e] [] pos)) none pos') (dRaise C f aa) :=
  ps_weak (ps_raiseM hc hex (takesWm X) (pe_newE T FB hB F hr hx hg hm hb ha hdb hs hpl)) fun D σ H ⟨B, ρ, S, m, Dd, at_, q, k⟩ => by
    refine ⟨B, ρ, S, m, _, at_, q, fun ds S' vs H' m' q e w dv => ?_⟩
    match ds, q, dv with
    | [d], q, .cons hd .nil =>
      have at2 := at_.step e w
      refine ⟨_, rfl, fun a ha => ⟨a, _, rfl, upd_same, fun dx hdx ne => ⟨rfl, a, C, rfl, fr0_none (k.xt.new _ _ _ _ _ a at2 ha), T.ex, ty, .inr ⟨dx, _, ne, upd_same, by rw [upd_ne ne, upd_same], ?_⟩⟩⟩⟩
      have hd' : H' dx = none := by
        rw [upd_ne ne] at hdx
        exact hdx
      rw [raised_eq ha ne]
      exact k.xt.run C [(f, d)] ρ S' σ _ m' dx [(f, _)] q (at2.step (Evo.new w hd') (w.new hd')) upd_same (w.noCe hd') rfl (.cons (hd.up (Evo.new w hd')) .nil)
/-! try -/
/-- the fields of the error that is held -/
def exF (a C dd : Addr) : PyData → Option (List (PyData × PyData))
  | .dict ((.int a', .int d') :: (.int C', .none) :: r) => if a' = (a : Int) ∧ d' = (dd : Int) ∧ C' = (C : Int) then some r else none
  | _ => none
theorem exF_exd {a C dd : Addr} {fs : List (Str × PyData)} : exF a C dd (exd a C dd fs) = some (fldD fs) := by
  unfold exF
  simp
theorem exF_is {a C dd : Addr} {d : PyData} {r : List (PyData × PyData)} (h : exF a C dd d = some r) : d = .dict ((.int (a : Int), .int (dd : Int)) :: (.int (C : Int), .none) :: r) := by
  unfold exF at h
  split at h
  · rename_i a' d' C' r'
    split at h
    · rename_i e
      obtain ⟨rfl, rfl, rfl⟩ := e
      cases h
      rfl
    · cases h
  · cases h
/-- a field by its name -/
def fldL (f : Str) : List (PyData × PyData) → Option PyData
  | (.str g, d) :: r => if g = f then some d else fldL f r
  | _ => none
theorem fldL_fld {f : Str} : ∀ {fs : List (Str × PyData)}, fldL f (fldD fs) = fs.lookup f
  | [] => rfl
  | (g, d) :: fs => by
    show (if g = f then some d else fldL f (fldD fs)) = _
    rw [List.lookup_cons]
    by_cases h : g = f
    · rw [if_pos h, h]
      simp
    · have h2 : (f == g) = false := by
        rw [beq_eq_false_iff_ne]
        exact fun e => h e.symm
      rw [if_neg h, h2]
      exact fldL_fld
theorem int_addr {a b : Addr} (h : PyData.int ((a : Nat) : Int) = .int ((b : Nat) : Int)) : a = b := by
  have := PyData.int.inj h
  exact Int.ofNat.inj this
theorem dv_exd {K : PySem.W.Frag} {m : Mp} {H : Hp} {v : V} {a C dd : Addr} {r : List (PyData × PyData)} (h : Dv K m H v (.dict ((.int (a : Int), .int (dd : Int)) :: (.int (C : Int), .none) :: r))) :
    ∃ ys fs, v = .ref a ∧ r = fldD fs ∧ H dd = some (.xd ys) ∧ ys.map Prod.fst = fs.map Prod.fst ∧ DvAll K m H (ys.map Prod.snd) (fs.map Prod.snd) := by
  generalize e : PyData.dict ((.int (a : Int), .int (dd : Int)) :: (.int (C : Int), .none) :: r) = d at h
  cases h with
  | @exd a' C' dd' ys fs h1 n q al =>
    have e2 := PyData.dict.inj e
    have e3 := (List.cons.inj e2).1
    have e4 := (List.cons.inj (List.cons.inj e2).2).2
    have ea := int_addr (congrArg Prod.fst e3)
    have ed := int_addr (congrArg Prod.snd e3)
    subst ea ed
    exact ⟨ys, fs, rfl, e4, h1, q, al⟩
  | cel _ =>
    have e2 := PyData.dict.inj e
    cases e2
  | glo _ =>
    have e2 := PyData.dict.inj e
    cases e2
  | frz _ _ _ _ =>
    have e2 := PyData.dict.inj e
    cases e2
  | ins _ _ _ _ _ _ =>
    have e2 := PyData.dict.inj e
    have e3 := (List.cons.inj e2).1
    cases congrArg Prod.fst e3
  | _ => cases e
section
variable {X : Cx} {e e2 : Expr} {t : DE} {a C dd : Addr} {oe : Obj} {pn : List (Addr × Obj)} {pos p : Pos} {f : Str}
def dXf (a C dd : Addr) (f : Str) (t : DE) : DE := fun ρ S Q => t ρ S fun v S1 => wh (exF a C dd v) fun r => wh (fldL f r) fun d => Q d S1
theorem lookup_zip {K : PySem.W.Frag} {m : Mp} {H : Hp} {f : Str} : ∀ {ys : List (Str × V)} {fs : List (Str × PyData)} {d : PyData}, ys.map Prod.fst = fs.map Prod.fst → DvAll K m H (ys.map Prod.snd) (fs.map Prod.snd) → fs.lookup f = some d → ∃ v, ys.lookup f = some v ∧ Dv K m H v d
  | [], [], d, _, _, h => by cases h
  | (g, v) :: ys, (g', d') :: fs, d, e, al, h => by
    have e1 : g = g' := (List.cons.inj e).1
    have e2 := (List.cons.inj e).2
    subst e1
    rw [List.lookup_cons] at h ⊢
    cases al with
    | cons a1 al =>
      by_cases q : f == g
      · rw [q] at h ⊢
        cases h
        exact ⟨v, rfl, a1⟩
      · have q' : (f == g) = false := by simpa using q
        rw [q'] at h ⊢
        exact lookup_zip e2 al h
  | [], _ :: _, _, e, _, _ => by cases e
  | _ :: _, [], _, e, _, _ => by cases e
/-- e.f, e the error that is held -/
theorem q_xf (T : XfC X.K C) (hno : PySem.W.findIn X.K (.ref C) f = some none) (hz : Zc (.ref C) (some dd) oe) (hf : ∃ vs, oe.data = .fields vs) (he : QE (X.suite a ((a, oe) :: pn)) e t) (hb : attributeBase e f X.env (eval e X.env) = eval e X.env := by rfl) :
    QE (X.suite a ((a, oe) :: pn)) (.Attribute e f pos) (dXf a C dd f t) := pe_weak (pe_xf T hno hz hf he hb) fun σ H Q ⟨B, ρ, S, m, Qd, at_, q, k⟩ => ⟨B, ρ, S, m, _, at_, q, fun v S' x H' m' q e w dv => by
      obtain ⟨r, e1, q1⟩ := wh_of q
      obtain ⟨d, e3, q2⟩ := wh_of q1
      have e4 := exF_is e1
      subst e4
      obtain ⟨ys, fs, rfl, rfl, h1, h2, h3⟩ := dv_exd dv
      rw [fldL_fld] at e3
      obtain ⟨v, l, hv⟩ := lookup_zip h2 h3 e3
      exact ⟨rfl, rfl, dd, ys, v, rfl, h1, l, k _ S' _ H' m' q2 e w hv⟩⟩
/-- isinstance(e, c), e the error that is held -/
def dIsX (K : PySem.W.Frag) (a C dd C2 : Addr) (t : DE) : DE := fun ρ S Q => t ρ S fun v S1 => wh (exF a C dd v) fun _ => wh (PySem.W.kitOne K (.ref C) (.ref C2)) fun b => Q (.bool b) S1
theorem q_isX {C2 : Addr} (T : IsT X.K C) (hz : Zc (.ref C) (some dd) oe) (hf : ∃ vs, oe.data = .fields vs) (hm : X.mg "isinstance" = none) (hg : Gl X "isinstance") (ha : QE (X.suite a ((a, oe) :: pn)) e t) (hb : PE (X.suite a ((a, oe) :: pn)) e2 (tC (.ref C2)))
    (he : starEach [e, e2] X.env = (false, eval e X.env) :: starEach [e2] X.env := by rfl) (he2 : starEach [e2] X.env = (false, eval e2 X.env) :: starEach [] X.env := by rfl)
    (hpl : (backTo pos (starEach [e2] X.env)).any (·.1) = false := by rfl) : QE (X.suite a ((a, oe) :: pn)) (.Call (.Name "isinstance" p) [e, e2] [] pos) (dIsX X.K a C dd C2 t) :=
  pe_weak (pe_callB (X := X.suite a ((a, oe) :: pn)) (call_isED hz hf) hg hm (by decide +kernel) (pa_cons ha (pa_cons hb pa_nil he2) he) (by decide) (by decide) he hpl) fun σ H Q ⟨B, ρ, S, m, Qd, at_, q, k⟩ =>
    ⟨B, ρ, S, m, _, at_, q, fun v S' x H' m' q e w dv => by
      obtain ⟨r, e1, q1⟩ := wh_of q
      obtain ⟨b, e3, q2⟩ := wh_of q1
      have e4 := exF_is e1
      subst e4
      obtain ⟨ys, fs, rfl, rfl, h1, h2, h3⟩ := dv_exd dv
      exact ⟨C, .ref C2, .ref C2, b, dd, ys, rfl, rfl, ClsV.own _, T, e3, rfl, h1, k _ S' _ H' m' q2 e w (.bl b)⟩⟩
end
theorem takesL (X : Cx) : L2.Takes X (Wm X).1 := takesWm (m := mdL) X
theorem Lk.wm {md : Md} {X : Cx} {W : L2.WX} {B : Mp × Hp} {x : DXr} (tk : Tkm X W) (l : Lk X.K (W, fun a => X.H_0 a = none) B x) : Lk X.K (Wm X) B x := ⟨fun C fs ρ S σ H m dd ys q a h n e al => Wm.of tk (l.run C fs ρ S σ H m dd ys q a h n e al), l.new⟩
theorem lftS_wm {md : Md} {X : Cx} {W : L2.WX} {t : DS} (tk : Tkm X W) {D : Ends} {σ : L2.St} {H : Hp} (h : lftS X.K (W, fun a => X.H_0 a = none) t D σ H) : lftS X.K (Wm X) t D σ H := by
  obtain ⟨B, ρ, S, m, Dd, at_, q, k⟩ := h
  exact ⟨B, ρ, S, m, Dd, at_, q, ⟨k.nx, k.rt, k.bk, k.ct, k.xt.wm tk⟩⟩
abbrev WF : L2.WX := fun _ _ _ _ => False
/-- try: .. except c as n: .. -/
def dTryAs (i : Nat) (M : Addr → Option Bool) (C0 : Addr) (tb : DS) (ts : Addr → Addr → DS) : DS := fun D ρ S => tb { D with xt := fun C fs ρ' S' => wh (M C) fun b => ite (b = true) (C = C0 ∧ ∀ a dd, ts a dd { nx := fun ρ2 S2 => D.nx (un ρ2 i) S2, rt := D.rt, bk := fun ρ2 S2 => D.bk (un ρ2 i) S2, ct := fun ρ2 S2 => D.ct (un ρ2 i) S2 } (st ρ' i (exd a C dd fs)) S') (D.xt C fs ρ' S') } ρ S
/-- try: .. except c as n: .., the suite may raise -/
def dTryAsX (i : Nat) (M : Addr → Option Bool) (C0 : Addr) (tb : DS) (ts : Addr → Addr → DS) : DS := fun D ρ S => tb { D with xt := fun C fs ρ' S' => wh (M C) fun b => ite (b = true) (C = C0 ∧ ∀ a dd, ts a dd { nx := fun ρ2 S2 => D.nx (un ρ2 i) S2, rt := D.rt, bk := fun ρ2 S2 => D.bk (un ρ2 i) S2, ct := fun ρ2 S2 => D.ct (un ρ2 i) S2, xt := fun C' fs' ρ2 S2 => D.xt C' fs' (un ρ2 i) S2 } (st ρ' i (exd a C dd fs)) S') (D.xt C fs ρ' S') } ρ S
theorem qs_try_as {X : Cx} {x n : Str} {Ch : Addr} {i : Nat} {body suite : List Stmt} {b₀ : Stmt} {np pos pos' : Pos} {C0 : Addr} {tb : DS} {ts : Addr → Addr → DS} (hs : X.stack = X.env :: X.outer) (hf : X.env.frame = some X.env.locals) (hN : X.N.Nodup) (hi : X.N[i]? = some n) (hln : X.env.kindOf n = some .local) (hc : Names X x (.ref Ch))
    (hb : ∀ (pn : List (Addr × Obj)) (xe : Value → Shared → Prop), PassesOwn (model X.prog X.w) X.A X.env xe → QSs (X.tr pn xe) body tb)
    (hsu : ∀ (a : Addr) (oe : Obj) (dd : Addr) (pn : List (Addr × Obj)), Zc (.ref C0) (some dd) oe → (∃ vs, oe.data = .fields vs) → QSs (X.suite a ((a, oe) :: pn)) (b₀ :: suite) (ts a dd)) :
    QS X (.Try body [.ExceptHandler (some (.Name x np)) (some n) (b₀ :: suite) pos'] [] [] pos) (dTryAs i (fun C => PySem.W.exmOne X.K (.ref C) (.ref Ch)) C0 tb ts) := by
  refine ps_weak (ps_try_as (i := i) (tb := fun W => lftS X.K (W, fun a => X.H_0 a = none) tb) (ts := fun a cls d D σ H => ∃ dd, cls = .ref C0 ∧ d = some dd ∧ lftS X.K (WF, fun a => X.H_0 a = none) (ts a dd) D σ H) hs hf hN hi hln hc (takesL X) ?_ ?_) ?_
  · intro W pn xe tk hp
    exact pss_weak (hb pn xe hp) fun D σ H h => lftS_wm (md := mdL) (X := X.tr pn xe) (tkmL tk) h
  · intro a oe cls d pn hz hd
    refine ⟨fun pins s σ H D I h => ?_⟩
    obtain ⟨dd, rfl, rfl, h⟩ := h
    exact (hsu a oe dd pn hz hd).run pins s σ H D I (lftS_wm (md := mdL) (X := X.suite a ((a, oe) :: pn)) (tkmL takes0) h)
  · rintro D σ H ⟨B, ρ, S, m, Dd, at_, q, k⟩
    refine ⟨B, ρ, S, m, _, at_, q, k.nx, k.rt, k.bk, k.ct, ⟨fun C fs ρ' S' σ' H' m' dd ys qx a' hd nc en al => ?_, k.xt.new⟩⟩
    obtain ⟨b, e1, qx⟩ := wh_of qx
    refine ⟨b, e1, fun hb a ha => ?_, fun hb => ?_⟩
    · rw [if_pos hb] at qx
      obtain ⟨rfl, qy⟩ := qx
      refine ⟨dd, rfl, rfl, B, _, S', m', _, a'.setv (.exd hd nc en al), qy a dd, ?_⟩
      exact ⟨fun ρ2 S2 σ2 H2 m2 q2 a2 => k.nx _ S2 _ H2 m2 q2 ⟨a2.ev, a2.wd, Fr.un _ _ _ a2.fr⟩, fun d2 S2 v2 H2 m2 q2 e2 w2 dv2 => k.rt _ _ _ _ _ q2 e2 w2 dv2, fun ρ2 S2 σ2 H2 m2 q2 a2 => k.bk _ S2 _ H2 m2 q2 ⟨a2.ev, a2.wd, Fr.un _ _ _ a2.fr⟩,
        fun ρ2 S2 σ2 H2 m2 q2 a2 => k.ct _ S2 _ H2 m2 q2 ⟨a2.ev, a2.wd, Fr.un _ _ _ a2.fr⟩, ⟨fun _ _ _ _ _ _ _ _ _ q => False.elim q, k.xt.new⟩⟩
    · rw [if_neg (by rw [hb]; exact Bool.false_ne_true)] at qx
      exact k.xt.run C fs ρ' S' σ' H' m' dd ys qx a' hd nc en al
/-- try: .. except c: .. -/
def dTryOnly (M : Addr → Option Bool) (C0 : Addr) (tb : DS) (ts : Addr → Addr → DS) : DS := fun D ρ S => tb { D with xt := fun C fs ρ' S' => wh (M C) fun b => ite (b = true) (C = C0 ∧ ∀ a dd, ts a dd { D with xt := fun _ _ _ _ => False } ρ' S') (D.xt C fs ρ' S') } ρ S
theorem qs_try_only {X : Cx} {x : Str} {Ch : Addr} {body suite : List Stmt} {b₀ : Stmt} {np pos pos' : Pos} {C0 : Addr} {tb : DS} {ts : Addr → Addr → DS} (hs : X.stack = X.env :: X.outer) (hf : X.env.frame = some X.env.locals) (hc : Names X x (.ref Ch))
    (hb : ∀ (pn : List (Addr × Obj)) (xe : Value → Shared → Prop), PassesOwn (model X.prog X.w) X.A X.env xe → QSs (X.tr pn xe) body tb)
    (hsu : ∀ (a : Addr) (oe : Obj) (dd : Addr) (pn : List (Addr × Obj)), Zc (.ref C0) (some dd) oe → (∃ vs, oe.data = .fields vs) → QSs (X.suite a ((a, oe) :: pn)) (b₀ :: suite) (ts a dd)) :
    QS X (.Try body [.ExceptHandler (some (.Name x np)) none (b₀ :: suite) pos'] [] [] pos) (dTryOnly (fun C => PySem.W.exmOne X.K (.ref C) (.ref Ch)) C0 tb ts) := by
  refine ps_weak (ps_try_only (tb := fun W => lftS X.K (W, fun a => X.H_0 a = none) tb) (ts := fun a cls d D σ H => ∃ dd, cls = .ref C0 ∧ d = some dd ∧ lftS X.K (WF, fun a => X.H_0 a = none) (ts a dd) D σ H) hs hf hc (takesL X) ?_ ?_) ?_
  · intro W pn xe tk hp
    exact pss_weak (hb pn xe hp) fun D σ H h => lftS_wm (md := mdL) (X := X.tr pn xe) (tkmL tk) h
  · intro a oe cls d pn hz hd
    refine ⟨fun pins s σ H D I h => ?_⟩
    obtain ⟨dd, rfl, rfl, h⟩ := h
    exact (hsu a oe dd pn hz hd).run pins s σ H D I (lftS_wm (md := mdL) (X := X.suite a ((a, oe) :: pn)) (tkmL takes0) h)
  · rintro D σ H ⟨B, ρ, S, m, Dd, at_, q, k⟩
    refine ⟨B, ρ, S, m, _, at_, q, k.nx, k.rt, k.bk, k.ct, ⟨fun C fs ρ' S' σ' H' m' dd ys qx a' hd nc en al => ?_, k.xt.new⟩⟩
    obtain ⟨b, e1, qx⟩ := wh_of qx
    refine ⟨b, e1, fun hb a ha => ?_, fun hb => ?_⟩
    · rw [if_pos hb] at qx
      obtain ⟨rfl, qy⟩ := qx
      exact ⟨dd, rfl, rfl, B, _, S', m', _, a', qy a dd, k.nx, k.rt, k.bk, k.ct, ⟨fun _ _ _ _ _ _ _ _ _ q => False.elim q, k.xt.new⟩⟩
    · rw [if_neg (by rw [hb]; exact Bool.false_ne_true)] at qx
      exact k.xt.run C fs ρ' S' σ' H' m' dd ys qx a' hd nc en al
end K3

/-! the plain layer: the deal of draws; older promises -/
namespace K3
open PySem L2 Xr K1
/-- the deal at n, its great cells at k -/
structure DealD (S : Sto) (n k : Nat) : Prop where
  ex : ∃ (cs : List Int) (b : Int), S n = some (.lst [cel k, .int b]) ∧ S k = some (.lst (cs.map PyData.int)) ∧ (∀ x ∈ cs, 0 ≤ x) ∧ cs.length ≤ 63 ∧ 0 ≤ b ∧ b < 2147483647
/-- the deal went on, all else stands -/
structure MvD (n k : Nat) (S S' : Sto) : Prop where
  D : DealD S' n k
  kp : ∀ j c, S j = some c → j ≠ n → j ≠ k → S' j = some c
theorem MvD.refl {n k : Nat} {S : Sto} (D : DealD S n k) : MvD n k S S := ⟨D, fun _ _ h _ _ => h⟩
theorem MvD.trans {n k : Nat} {S S1 S2 : Sto} (a : MvD n k S S1) (b : MvD n k S1 S2) : MvD n k S S2 := ⟨b.D, fun j c h x y => b.kp j c (a.kp j c h x y) x y⟩
theorem DealD.ext {n k : Nat} {S S' : Sto} (D : DealD S n k) (e : Ext S S') : DealD S' n k := by
  obtain ⟨cs, b, h1, h2, r⟩ := D.ex
  exact ⟨cs, b, e _ _ h1, e _ _ h2, r⟩
theorem MvD.ext {n k : Nat} {S S1 S2 : Sto} (a : MvD n k S S1) (e : Ext S1 S2) : MvD n k S S2 := ⟨a.D.ext e, fun j c h x y => e _ _ (a.kp j c h x y)⟩
theorem MvD.of {n k : Nat} {S S1 S2 : Sto} (e : Ext S S1) (b : MvD n k S1 S2) : MvD n k S S2 := ⟨b.D, fun j c h x y => b.kp j c (e _ _ h) x y⟩
theorem Wd.ceTrk {K : PySem.W.Frag} {m : Mp} {H : Hp} {S : Sto} (w : Wd K m H S) : ∀ a, Ce m a → Trk H a := fun a h => by
  rcases h with ⟨n, e⟩ | e
  · exact w.trk n a e
  · exact w.ztr a e
theorem dv_ints {K : PySem.W.Frag} {m : Mp} {H : Hp} : ∀ {cs : List Int} {xs : List V}, DvAll K m H xs (cs.map PyData.int) → xs = cs.map V.int
  | [], _, h => by
    cases h
    rfl
  | c :: cs, _, h => by
    cases h with
    | cons a r =>
      cases a
      rw [dv_ints r]
      rfl
theorem ints_dv {K : PySem.W.Frag} {m : Mp} {H : Hp} : ∀ (cs : List Int), DvAll K m H (cs.map V.int) (cs.map PyData.int)
  | [] => .nil
  | c :: cs => .cons (.int c) (ints_dv cs)
theorem dv_strs {K : PySem.W.Frag} {m : Mp} {H : Hp} : ∀ {cs : List Str} {xs : List V}, DvAll K m H xs (cs.map PyData.str) → xs = cs.map V.str
  | [], _, h => by
    cases h
    rfl
  | c :: cs, _, h => by
    cases h with
    | cons a r =>
      cases a
      rw [dv_strs r]
      rfl
theorem strs_dvs {K : PySem.W.Frag} {m : Mp} {H : Hp} : ∀ (cs : List Str), DvAll K m H (cs.map V.str) (cs.map PyData.str)
  | [] => .nil
  | c :: cs => .cons (.str c) (strs_dvs cs)
section
variable {K : PySem.W.Frag} {m : Mp} {H : Hp} {S : Sto} {n k : Nat}
theorem DealD.at (D : DealD S n k) (w : Wd K m H S) : ∃ d c, m.c n = some d ∧ m.c k = some c ∧ DealAt H d c := by
  obtain ⟨cs, b, h1, h2, r⟩ := D.ex
  obtain ⟨d, xs, e1, e2, e3⟩ := w.lst h1
  obtain ⟨c, ys, f1, f2, f3⟩ := w.lst h2
  obtain ⟨x, y, rfl, dx, dy⟩ := dv2 e3
  cases dy
  have := dv_ints f3
  subst this
  obtain ⟨c', rfl, f4⟩ := celN_dv dx rfl
  rw [f1] at f4
  cases f4
  exact ⟨d, c, e1, f1, cs, b, e2, f2, r⟩
theorem DealD.moved (D : DealD S n k) (w : Wd K m H S) {d c : Addr} (hd : m.c n = some d) (hc : m.c k = some c) {H' : Hp} (D' : DealAt H' d c) (b : But d c H H') : ∃ S', MvD n k S S' ∧ Evo m H m H' ∧ Wd K m H' S' := by
  obtain ⟨cs, b', h1, h2, r⟩ := D'.ex
  have nk : n ≠ k := fun e => by
    rw [e, hc] at hd
    cases hd
    rw [h1] at h2
    have := HO.lst.inj (Option.some.inj h2)
    cases cs with
    | nil => cases this
    | cons x xs =>
      have e2 := (List.cons.inj this).1
      cases e2
  have ev : Evo m H m H' := by
    refine ⟨⟨fun _ _ h => h, fun q u e ne => ⟨b q u e (fun z => ne (.inl ⟨n, by rw [z]; exact hd⟩)) (fun z => ne (.inl ⟨k, by rw [z]; exact hc⟩)), ne⟩⟩, fun _ => Iff.rfl, fun q u z e => b q u e (fun y => w.hid n d hd (by rw [← y]; exact z)) (fun y => w.hid k c hc (by rw [← y]; exact z))⟩
  have tr : ∀ a, (∃ u, H a = some u) → ∃ u, H' a = some u := fun a ⟨u, e⟩ => by
    by_cases y : a = d
    · rw [y]; exact ⟨_, h1⟩
    · by_cases z : a = c
      · rw [z]; exact ⟨_, h2⟩
      · exact ⟨u, b a u e y z⟩
  refine ⟨put (put S n (.lst [cel k, .int b'])) k (.lst (cs.map PyData.int)), ⟨⟨cs, b', by rw [put_ne nk, put_same], put_same, r⟩, fun j c' h x y => by rw [put_ne y, put_ne x]; exact h⟩, ev, ?_⟩
  refine ⟨w.inj, fun i a e => tr a (w.trk i a e), w.bd, fun j cc e => ?_, w.hid, fun a e => tr a (w.ztr a e)⟩
  by_cases y : j = k
  · rw [y, put_same] at e
    cases e
    exact ⟨c, by rw [y]; exact hc, _, h2, ints_dv cs⟩
  · rw [put_ne y] at e
    by_cases x : j = n
    · rw [x, put_same] at e
      cases e
      exact ⟨d, by rw [x]; exact hd, _, h1, .cons (.cel hc) (.cons (.int _) .nil)⟩
    · rw [put_ne x] at e
      obtain ⟨a, ha, cr⟩ := w.has j cc e
      have nd : a ≠ d := fun z => x (w.inj j n a ha (by rw [z]; exact hd))
      have nc : a ≠ c := fun z => y (w.inj j k a ha (by rw [z]; exact hc))
      obtain ⟨u, hu⟩ := w.trk j a ha
      exact ⟨a, ha, cr.up ev.toEv0 (by rw [hu, b a u hu nd nc])⟩
/-- an old promise that gives data and leaves all as it was -/
theorem Kq.same {Q : VK} {Qd : DK} (k : Kq K m H Q Qd) (w : Wd K m H S) {d : PyData} (q : Qd d S) {u : V} {H' : Hp} (dm : Dm K (Ce m) H' u d) (s : Same H H') : Q u H' := k _ _ _ _ _ q (Evo.same w s) (w.same s) (Dv.of (fun _ z => z) _ _ dm)
theorem Kq.sameC {Q : VK} {Qd : DK} (k : Kq K m H Q Qd) (w : Wd K m H S) {d : PyData} {u : V} (c : Dc u d) (q : Qd d S) {H' : Hp} (s : Same H H') : Q u H' := k _ _ _ _ _ q (Evo.same w s) (w.same s) c.dv
end
/-! the law's own draws -/
def spAnyD : SpD := fun ds S Q _ => ∃ n k b, ds = [cel n, .int b] ∧ DealD S n k ∧ 0 < b ∧ b < 1073741824 ∧ ∀ r S', 0 ≤ r → r < b → MvD n k S S' → Q (.int r) S'
theorem any_imp {K : PySem.W.Frag} : ∀ vs H Q E, spD K spAnyD vs H Q E → spAny vs H Q E := fun vs H Q E ⟨m, S, ds, Qd, Ed, w, dv, q, kq, _⟩ => by
  obtain ⟨n, k, b, rfl, D, h1, h2, h3⟩ := q
  obtain ⟨x, y, rfl, dx, dy⟩ := dv2 dv
  cases dy
  obtain ⟨d, c, hd, hc, DA⟩ := D.at w
  obtain ⟨d', rfl, hd'⟩ := celN_dv dx rfl
  rw [hd] at hd'
  cases hd'
  refine ⟨d, c, b, rfl, DA, h1, h2, fun r H' r0 r1 D' b' => ?_⟩
  obtain ⟨S', mv, ev, w'⟩ := D.moved w hd hc D' b'
  exact kq _ _ _ _ _ (h3 r S' r0 r1 mv) ev w' (.int r)
def spOfD : SpD := fun ds S Q _ => ∃ n k o, ds = [cel n, o] ∧ DealD S n k ∧
  ((∃ es, o = .list es ∧ 0 < es.length ∧ es.length < 1000000 ∧ ∀ d S', d ∈ es → MvD n k S S' → Q d S') ∨
   (∃ z, o = .str z ∧ 0 < z.length ∧ z.length < 1000000 ∧ ∀ c S', c ∈ z.cps.toList → MvD n k S S' → Q (.str ⟨#[c]⟩) S'))
theorem of_imp {K : PySem.W.Frag} : ∀ vs H Q E, spD K spOfD vs H Q E → spOf vs H Q E := fun vs H Q E ⟨m, S, ds, Qd, Ed, w, dv, q, kq, _⟩ => by
  obtain ⟨n, k, o, rfl, D, h⟩ := q
  obtain ⟨x, y, rfl, dx, dy⟩ := dv2 dv
  obtain ⟨d, c, hd, hc, DA⟩ := D.at w
  obtain ⟨d', rfl, hd'⟩ := celN_dv dx rfl
  rw [hd] at hd'
  cases hd'
  refine ⟨d, c, DA, ?_⟩
  rcases h with ⟨es, rfl, h1, h2, h3⟩ | ⟨z, rfl, h1, h2, h3⟩
  · obtain ⟨a, xs, rfl, ha, na, al⟩ := dy.seqL
    have l := al.len
    refine .inl ⟨a, xs, rfl, ha, fun z => na (.inl ⟨n, by rw [z]; exact hd⟩), fun z => na (.inl ⟨k, by rw [z]; exact hc⟩), by omega, by omega, fun v H' hv D' b' => ?_⟩
    obtain ⟨S', mv, ev, w'⟩ := D.moved w hd hc D' b'
    obtain ⟨i, hi⟩ := List.getElem?_of_mem hv
    obtain ⟨d2, e2, dv2⟩ := al.getV hi
    exact kq _ _ _ _ _ (h3 d2 S' (List.mem_of_getElem? e2) mv) ev w' (dv2.up ev)
  · cases dy
    refine .inr ⟨z, rfl, h1, h2, fun ch H' hm D' b' => ?_⟩
    obtain ⟨S', mv, ev, w'⟩ := D.moved w hd hc D' b'
    exact kq _ _ _ _ _ (h3 ch S' hm mv) ev w' (.str _)
end K3

/-! the plain layer: objects of own classes that stay as they are -/
namespace K3
open PySem L2 Xr K1
abbrev obj (C : Addr) (ns : List Str) (ds : List PyData) : PyData := ind C (ns.zip ds)
theorem fldD_inj : ∀ {fs gs : List (Str × PyData)}, fldD fs = fldD gs → fs = gs
  | [], [], _ => rfl
  | [], _ :: _, h => nomatch h
  | _ :: _, [], h => nomatch h
  | (x, d) :: fs, (y, e) :: gs, h => by
    have h' : ((PyData.str x, d) :: fldD fs) = (PyData.str y, e) :: fldD gs := h
    have h1 := (List.cons.inj h').1
    have h2 := fldD_inj (List.cons.inj h').2
    cases h1
    rw [h2]
section
variable {K : PySem.W.Frag} {m : Mp} {H : Hp} {S : Sto}
theorem Dv.insI {v : V} {C : Addr} {fs : List (Str × PyData)} (h : Dv K m H v (ind C fs)) : ∃ (a dx : Addr) (ys : List (Str × V)), v = .ref a ∧ H a = some (.ins C dx ys) ∧ H dx = some (.own a) ∧ ¬ Ce m a ∧ ¬ Ce m dx ∧ ys.map Prod.fst = fs.map Prod.fst ∧ DvAll K m H (ys.map Prod.snd) (fs.map Prod.snd) := by
  generalize e : ind C fs = d at h
  cases h with
  | @ins a dx C' ys fs' h1 h2 n1 n2 q al =>
    have e1 := List.cons.inj (PyData.dict.inj e)
    have e2 := fldD_inj e1.2
    have e3 := e1.1
    cases e3
    subst e2
    exact ⟨a, dx, ys, rfl, h1, h2, n1, n2, q, al⟩
  | _ => cases e
theorem lookup_dv {f : Str} {d : PyData} : ∀ {ys : List (Str × V)} {fs : List (Str × PyData)}, ys.map Prod.fst = fs.map Prod.fst → DvAll K m H (ys.map Prod.snd) (fs.map Prod.snd) → fs.lookup f = some d → ∃ v, ys.lookup f = some v ∧ Dv K m H v d
  | [], [], _, _, e => by cases e
  | [], _ :: _, h, _, _ => nomatch h
  | _ :: _, [], h, _, _ => nomatch h
  | (x, v) :: ys, (y, e) :: fs, h, al, q => by
    have h' : x :: ys.map Prod.fst = y :: fs.map Prod.fst := h
    obtain ⟨h1, h2⟩ := List.cons.inj h'
    subst h1
    cases al with
    | cons a r =>
      by_cases z : f = x
      · subst z
        rw [List.lookup_cons_self] at q ⊢
        cases q
        exact ⟨v, rfl, a⟩
      · have nz : (f == x) = false := beq_eq_false_iff_ne.mpr z
        have q' : List.lookup f fs = some d := by
          rw [List.lookup_cons, nz] at q
          exact q
        obtain ⟨w, e1, e2⟩ := lookup_dv h2 r q'
        exact ⟨w, by rw [List.lookup_cons, nz]; exact e1, e2⟩
end
section
variable {X : Cx} {e a b c : Expr} {es rest : List Expr} {t ta tb tc : DE} {u v : DT} {pos : Pos} {aa : DA}
/-- e.f -/
def dFld (C : Addr) (f : Str) (t : DE) : DE := fun ρ S Q => t ρ S fun d S1 => ∃ fs, d = ind C fs ∧ wh (fs.lookup f) fun x => Q x S1
theorem q_fld {f : Str} {C : Addr} (cl : Cls X.K C) (na : NoAttr X.K C f) (he : QE X e t) (hb : attributeBase e f X.env (eval e X.env) = eval e X.env := by rfl) : QE X (.Attribute e f pos) (dFld C f t) := pe_weak (pe_fld he hb) fun σ H Q ⟨B, ρ, S, m, Qd, at_, q, k⟩ =>
  ⟨B, ρ, S, m, _, at_, q, fun d S1 v H1 m1 q1 e1 w1 dv => by
    obtain ⟨fs, rfl, q1⟩ := q1
    obtain ⟨x, h1, q2⟩ := wh_of q1
    obtain ⟨p, dx, ys, rfl, h2, _, _, _, h3, al⟩ := dv.insI
    obtain ⟨y, h4, dy⟩ := lookup_dv h3 al h1
    exact ⟨p, C, dx, ys, y, rfl, h2, cl, na, h4, k _ _ _ _ _ q2 e1 w1 dy⟩⟩
/-- what __init__ promises: each argument is kept under its name -/
def spIni (C : Addr) (ns : List Str) : Sp := fun vs H Q _ => ∃ (x dx : Addr) (as : List V), vs = .ref x :: as ∧ as.length = ns.length ∧ H x = some (.ins C dx []) ∧ ∀ H', H' x = some (.ins C dx (ns.zip as)) → (∀ b, b ≠ x → H' b = H b) → Q .non H'
theorem map_fst_zip {α β : Type} : ∀ {xs : List α} {ys : List β}, xs.length = ys.length → (xs.zip ys).map Prod.fst = xs
  | [], [], _ => rfl
  | _ :: _, [], h => nomatch h
  | [], _ :: _, h => nomatch h
  | x :: xs, y :: ys, h => by
    have := map_fst_zip (xs := xs) (ys := ys) (Nat.succ.inj h)
    rw [List.zip_cons_cons, List.map_cons, this]
theorem map_snd_zip {α β : Type} : ∀ {xs : List α} {ys : List β}, xs.length = ys.length → (xs.zip ys).map Prod.snd = ys
  | [], [], _ => rfl
  | _ :: _, [], h => nomatch h
  | [], _ :: _, h => nomatch h
  | x :: xs, y :: ys, h => by
    have := map_snd_zip (xs := xs) (ys := ys) (Nat.succ.inj h)
    rw [List.zip_cons_cons, List.map_cons, this]
/-- C(..) -/
def dNew (C : Addr) (ns : List Str) (aa : DA) : DE := fun ρ S Q => aa ρ S fun ds S1 => ds.length = ns.length ∧ Q (obj C ns ds) S1
theorem q_new {C f : Addr} {fd : FuncData} {ps ns : List Str} {j k : Nat} {x : Str} {p : Pos} (M : Mk X.K C f) (F : FnOk X.prog X.w X.K X.mg X.base CX0 j f fd ps (spIni C ns)) (hr : Room k X.A) (hl : j + 1 ≤ k) (hg : Gl X x) (hm : X.mg x = some (.ref C)) (hb : Binds X.K fd ps [])
    (ha : QA X (e :: es) aa) (hdb : (x == ("__debug__" : Str)) = false := by decide) (he : starEach (e :: es) X.env = (false, eval e X.env) :: starEach es X.env := by rfl) (hpl : (backTo pos (starEach es X.env)).any (·.1) = false := by rfl) :
    QE X (.Call (.Name x p) (e :: es) [] pos) (dNew C ns aa) := pe_weak (pe_make M F (hr.mono hl) hg hm hb .nil pass0 ha hdb he hpl) fun σ H Q ⟨B, ρ, S, m, Qd, at_, q, k⟩ =>
  ⟨B, ρ, S, m, _, at_, q, fun ds S1 vs H1 m1 q1 e1 w1 dv => fun o dx ho hd ne => by
    obtain ⟨hl, q1⟩ := q1
    have lv := dv.len
    rw [List.append_nil]
    refine ⟨o, dx, vs, rfl, by omega, upd_same, fun H2 h1 h2 => ⟨rfl, ?_⟩⟩
    have sm : Same H1 H2 := fun b u hb => by
      have n1 : b ≠ o := fun z => by rw [z, ho] at hb; cases hb
      have n2 : b ≠ dx := fun z => by rw [z, hd] at hb; cases hb
      rw [h2 b n1, upd_ne n1, upd_ne n2]
      exact hb
    have hx : H2 dx = some (.own o) := by
      rw [h2 dx ne, upd_ne ne, upd_same]
    have ev := Evo.same w1 sm
    refine k _ _ _ _ _ q1 (e1.trans ev) (w1.same sm) (.ins h1 hx (w1.noCe ho) (w1.noCe hd) ?_ ?_)
    · rw [map_fst_zip (by omega), map_fst_zip (by omega)]
    · rw [map_snd_zip (by omega), map_snd_zip (by omega)]
      exact dv.up ev⟩
end
end K3

/-! the plain layer: tuples without a dict of their own, and where something stands in them -/
namespace L2
open PySem PySem.Spec PyProof.Rows
section
variable {X : Cx}
/-- t.index(x): the first place of an equal one, t a tuple -/
def rIndexT (K : PySem.W.Frag) : V → List V → Hp → VK → Prop := fun x xs H Q => ∃ (a : Addr) (y : V) (d : PyData) (vs : List V) (ds : List PyData) (j : Nat) (z : PyData), x = V.ref a ∧ xs = [y] ∧ SqT K H a vs ∧ DpAll K H vs ds ∧ Dp K H y d ∧
  SeqAt.shaped (.list ds) = true ∧ SeqAt.shaped d = true ∧ ds[j]? = some z ∧ PyData.eqv z d = true ∧ (∀ (m : Nat) (z' : PyData), m < j → ds[m]? = some z' → PyData.eqv z' d = false) ∧ Q (.int (j : Nat)) H
theorem mt_indexT (hu : X.A.units + 65 < cLine) : MtR X "tuple.index" (rIndexT X.K) := by
  intro pins s σ H x xs v us Q I rx rxs h
  obtain ⟨a, y, d, vs, ds, j, z, rfl, rfl, hs, ha, hy, sl, sd, hz, hzj, hno, q⟩ := h
  cases rx
  cases rxs with
  | cons ry rt =>
    rename_i uy ut
    cases rt
    obtain ⟨bs, r1⟩ := Dp.reads I d y uy hy ry
    have hxs : PyData.canLayAll0 ds = true := SeqAt.canLay_of_shaped sl
    have hroom : X.A.units + 1 + min (PyData.depthAll ds) d.depth < cLine := room_in_shaped sd hu
    obtain ⟨its, rv, ⟨⟨cls, dd, data, sls⟩, ho, hc, n, hdt⟩, hlen⟩ := I.tuple hs
    simp only at hc hdt
    subst hc hdt
    obtain ⟨as, h4⟩ := Dp.readsAll I ds _ its ha rv
    have hn : its.length = ds.length := SeqAt.ReadsAll.length ds its as h4
    have hmap : its.map (SeqAt.readOf s.heap) = ds := SeqAt.readsAll_map ds its as hxs h4
    have hvl := rv.length
    have hsl := sizeLine_eq
    obtain ⟨hjd, _⟩ := List.getElem?_eq_some_iff.mp hz
    have hjl : j < its.length := by omega
    have hj : j < its.toArray.size := by simpa using hjl
    have at_ : ∀ (m : Nat) (hm : m < its.toArray.size) (z' : PyData), ds[m]? = some z' → SeqAt.readOf s.heap its.toArray[m] = z' := by
      intro m hm z' hz'
      have hml : m < its.length := by simpa using hm
      rw [← hmap, List.getElem?_map, List.getElem?_eq_getElem hml] at hz'
      have e1 : SeqAt.readOf s.heap its[m] = z' := Option.some.inj (show some (SeqAt.readOf s.heap its[m]) = some z' from hz')
      simpa using e1
    refine call_meets PySem.F.slot_tuple_index ⟨_, ho, rfl⟩ PySem.F.entry_tuple_index (PySem.F.args_tuple_index_2 _ _)
      (TI.tuple_indexAt a its.toArray n dd sls uy (fun u => PyData.eqv (SeqAt.readOf s.heap u) d) j hj ?_ ?_) ⟨ho, SeqAt.items_eqAt (vs := its.toArray) (show ReadsAll s.heap its.toArray.toList ds as from h4) r1 hxs (SeqAt.canLay_of_shaped sd) hroom, ?_⟩
    · show PyData.eqv (SeqAt.readOf s.heap its.toArray[j]) d = true
      rw [at_ j hj z hz]
      exact hzj
    · intro m hm hmj
      have hmd : m < ds.length := by omega
      have hz' : ds[m]? = some ds[m] := List.getElem?_eq_getElem hmd
      show PyData.eqv (SeqAt.readOf s.heap its.toArray[m]) d = false
      rw [at_ m hm _ hz']
      exact hno m _ hmj hz'
    · exact ⟨.int (j : Nat), H, I.tok _, ⟨_, rfl⟩, q⟩
/-- tuple(xs), xs a list: what is new has no dict -/
def rTupF (K : PySem.W.Frag) : List V → Hp → VK → Prop := fun xs H Q => ∃ p ys, xs = [.ref p] ∧ SqL K H p ys ∧ ∀ (l : Addr) (o : Obj), H l = none → o.dict = none → o.cls = .type "tuple" → Q (.ref l) (upd H l (.frz o (.tup ys)))
theorem call_tupF : CallR X (.type "tuple") (rTupF X.K) := by
  intro pins s σ H xs us Q I r h
  obtain ⟨p, ys, rfl, hq, q⟩ := h
  obtain ⟨u, rfl, rx⟩ := vals1 r
  cases rx
  obtain ⟨its, rv, pl, hz⟩ := I.list hq
  have hlen := rv.length
  refine call_tuple_list pl.isList (fun h' kp => ?_) (by simp only [List.size_toArray] <;> omega)
  have I1 : Inv X pins σ H { s with heap := h' } := I.kept (t' := s.toks) kp
  have hg : (h'.push { cls := .type "tuple", data := .seq its.toArray }).get? h'.objs.size = some { cls := .type "tuple", data := .seq its.toArray } := Heap.get?_push_size _ rfl
  have I2 := I1.laid (t' := s.toks) (a := h'.objs.size) (o := .frz { cls := .type "tuple", data := .seq its.toArray } (.tup ys)) (fun b o e => Heap.get?_push_of_some _ e) (Nat.le_refl _)
    (show ObjOk X.prog X.w _ _ _ (.frz _ (.tup ys)) from ⟨hg, hz, its, rv, IsTup.new _ _⟩)
  exact ⟨.ref h'.objs.size, _, I2, rfl, q _ _ (I1.hok.fresh (Nat.le_refl _)) rfl rfl⟩
/-- it is a tuple without a dict -/
def tyF (x : V) (H : Hp) : Prop := ∃ (a : Addr) (o : Obj) (xs : List V), x = .ref a ∧ H a = some (.frz o (.tup xs)) ∧ o.dict = none
theorem ty_frz : TyOk X "tuple" tyF := by
  intro pins σ H s x v I r ty
  obtain ⟨a, o, xs, rfl, h, hd⟩ := ty
  cases r
  obtain ⟨e, z⟩ := (show ObjOk X.prog X.w H s.heap a (.frz o (.tup xs)) from I.hok a _ h)
  obtain ⟨hz, its, rv, ⟨ob, ho, hc, n, hdt⟩⟩ := z
  rw [e] at ho
  have ho := Option.some.inj ho
  subst ho
  refine ⟨⟨_, e, hc⟩, fun b e2 => ?_⟩
  cases e2
  exact ⟨_, e, hd⟩
end
end L2

/-! the plain layer: tuples without a dict, read as tuples; where something stands -/
namespace K3
open PySem L2 Xr K1
mutual
def thaw : PyData → PyData
  | .list ds => .list (thawAll ds)
  | .tuple ds => .tuple (thawAll ds)
  | .dict [(.none, .tuple ds)] => .tuple (thawAll ds)
  | .dict kvs => .dict kvs
  | .none => .none
  | .bool b => .bool b
  | .int i => .int i
  | .str z => .str z
def thawAll : List PyData → List PyData
  | [] => []
  | d :: ds => thaw d :: thawAll ds
end
theorem thaw_frz (ds : List PyData) : thaw (frz ds) = .tuple (thawAll ds) := by simp [thaw]
theorem thaw_tup (ds : List PyData) : thaw (.tuple ds) = .tuple (thawAll ds) := by simp [thaw]
theorem thaw_lst (ds : List PyData) : thaw (.list ds) = .list (thawAll ds) := by simp [thaw]
theorem thawAll_cons (d : PyData) (ds : List PyData) : thawAll (d :: ds) = thaw d :: thawAll ds := by simp [thawAll]
theorem layAll_cons (d : PyData) (ds : List PyData) : PyData.canLayAll0 (d :: ds) = (PyData.canLay0 d && PyData.canLayAll0 ds) := by
  conv => lhs; unfold PyData.canLayAll0
example : thaw (.list [frz [.int 1], .none]) = .list [.tuple [.int 1], .none] := rfl
/-- read as a plain thing -/
theorem dv_thaw {K : PySem.W.Frag} {m : Mp} {H : Hp} {v : V} {d : PyData} (h : Dv K m H v d) : PyData.canLay0 (thaw d) = true → Dp K H v (thaw d) :=
  Dv.rec (motive_1 := fun v d _ => PyData.canLay0 (thaw d) = true → Dp K H v (thaw d)) (motive_2 := fun vs ds _ => PyData.canLayAll0 (thawAll ds) = true → DpAll K H vs (thawAll ds))
    (fun _ => by simp only [thaw]; exact .non) (fun b _ => by simp only [thaw]; exact .bl b) (fun i _ => by simp only [thaw]; exact .int i) (fun z _ => by simp only [thaw]; exact .str z)
    (fun e _ _ ih c => by
      rw [thaw_lst] at c ⊢
      exact .lst (SqL.of e) (ih (by unfold PyData.canLay0 at c; exact c)))
    (fun e _ _ ih c => by
      rw [thaw_tup] at c ⊢
      exact .tup (SqT.of e) (ih (by unfold PyData.canLay0 at c; exact c)))
    (fun e _ ih c => by
      rw [thaw_tup] at c ⊢
      exact .tup e.sq (ih (by unfold PyData.canLay0 at c; exact c)))
    (fun _ c => by simp only [thaw] at c; unfold PyData.canLay0 at c; cases c)
    (fun e _ _ _ ih c => by
      rw [thaw_frz] at c ⊢
      exact .tup (.inl (.inr ⟨_, e⟩)) (ih (by unfold PyData.canLay0 at c; exact c)))
    (fun _ _ _ _ _ _ _ c => by simp only [thaw] at c; unfold PyData.canLay0 at c; cases c)
    (fun _ _ _ _ _ c => by simp only [thaw] at c; unfold PyData.canLay0 at c; cases c)
    (fun _ c => by simp only [thaw] at c; unfold PyData.canLay0 at c; cases c)
    (fun _ => by simp only [thawAll]; exact .nil)
    (fun _ _ iha ihb c => by
      rw [thawAll_cons] at c ⊢
      rw [layAll_cons, Bool.and_eq_true] at c
      exact .cons (iha c.1) (ihb c.2)) h
/-! rules -/
section
variable {X : Cx} {e a b c : Expr} {es rest : List Expr} {t ta tb tc : DE} {u v : DT} {pos : Pos} {aa : DA}
theorem Kq.newF {K : PySem.W.Frag} {m : Mp} {H : Hp} {S : Sto} {Q : VK} {Qd : DK} {vs : List V} {ds : List PyData} (k : Kq K m H Q Qd) (w : Wd K m H S) (h : DvAll K m H vs ds) (q : Qd (frz ds) S) (p : Addr) (o : Obj) (hp : H p = none) (ho : o.dict = none) : Q (.ref p) (upd H p (.frz o (.tup vs))) :=
  k _ _ _ _ _ q (Evo.new w hp) (w.new hp) (.frz upd_same ho (w.noCe hp) (h.up (Evo.new w hp)))
/-- tuple(xs), xs a list: known to be without a dict -/
def dTupF : PyData → Sto → DK → Prop := fun o S Q => isTupD o = false ∧ wh (itemsD S o) fun ds => Q (frz ds) S
theorem snd_tupF {K : PySem.W.Frag} : SndL K (on1 dTupF) (rTupF K) := snd_1 fun m H S x d Q Qd w dx h k => by
  obtain ⟨nt, h⟩ := h
  obtain ⟨ds, h1, h2⟩ := wh_of h
  obtain ⟨p, xs, rfl, hq, al⟩ := dx.items2 w h1
  rcases hq with ⟨_, hq⟩ | ⟨ht, _⟩
  · exact ⟨p, xs, rfl, hq, fun l o hl ho _ => k.newF w al h2 l o hl ho⟩
  · rw [nt] at ht
    cases ht
theorem q_tupleF {p : Pos} (hm : X.mg "tuple" = none) (hg : Gl X "tuple") (ha : QA X [e] aa) (he : starEach [e] X.env = (false, eval e X.env) :: starEach [] X.env := by rfl) : QE X (.Call (.Name "tuple" p) [e] [] pos) (dCall (on1 dTupF) aa) :=
  q_callTy call_tupF snd_tupF hg hm (by decide +kernel) ha (by decide) (by decide) he rfl
/-- repr, of what may have tuples without a dict in it -/
def dReprT : PyData → Sto → DK → Prop := fun d S Q => ((thaw d).showable = true ∧ (thaw d).canLay0 = true ∧ (thaw d).depth ≤ 150 ∧ (thaw d).shown.length ≤ 10000000) ∧ Q (.str (thaw d).shown) S
theorem snd_reprT {K : PySem.W.Frag} : SndL K (on1 dReprT) (Grd.rRepr K) := snd_1 fun m H S x d Q Qd w dx h k => by
  obtain ⟨⟨h1, h2, h3, h4⟩, q⟩ := h
  exact ⟨x, thaw d, rfl, dv_thaw dx h2, h1, layNoDict (thaw d) h2, h3, by rw [sizeLine_eq]; omega, k _ _ _ _ _ q Evo.refl w (.str _)⟩
theorem q_reprT {p : Pos} (gd : X.A.guards = some []) (hu : X.A.units + 200 < cLine) (hm : X.mg "repr" = none) (hg : Gl X "repr") (ha : QA X [e] aa) (he : starEach [e] X.env = (false, eval e X.env) :: starEach [] X.env := by rfl) : QE X (.Call (.Name "repr" p) [e] [] pos) (dCall (on1 dReprT) aa) :=
  q_callB (Grd.call_repr gd hu) snd_reprT hg hm (by decide +kernel) ha (by decide) (by decide) he rfl
/-- ==, != likewise -/
def dEqT : D2 := fun a b S Q => (SeqAt.shaped (thaw a) = true ∧ SeqAt.shaped (thaw b) = true) ∧ Q (.bool (PyData.eqv (thaw a) (thaw b))) S
def dNeT : D2 := fun a b S Q => (SeqAt.shaped (thaw a) = true ∧ SeqAt.shaped (thaw b) = true) ∧ Q (.bool (!PyData.eqv (thaw a) (thaw b))) S
theorem snd_eqT {K : PySem.W.Frag} : Snd2 K dEqT (fun x y H Q => rEq x y H Q ∨ rEqD K x y H Q) := fun m H S x y a b Q Qd w dx dy h k => by
  obtain ⟨⟨h3, h4⟩, h2⟩ := h
  exact .inr ⟨thaw a, thaw b, dv_thaw dx (SeqAt.canLay_of_shaped h3), dv_thaw dy (SeqAt.canLay_of_shaped h4), h3, h4, k _ _ _ _ _ h2 Evo.refl w (.bl _)⟩
theorem snd_neT {K : PySem.W.Frag} : Snd2 K dNeT (fun x y H Q => rNe x y H Q ∨ rNeD K x y H Q) := fun m H S x y a b Q Qd w dx dy h k => by
  obtain ⟨⟨h3, h4⟩, h2⟩ := h
  exact .inr ⟨thaw a, thaw b, dv_thaw dx (SeqAt.canLay_of_shaped h3), dv_thaw dy (SeqAt.canLay_of_shaped h4), h3, h4, k _ _ _ _ _ h2 Evo.refl w (.bl _)⟩
/-- t.index(x), t a tuple known to be without a dict -/
def idxD (ds : List PyData) (d : PyData) : Option Nat := ds.findIdx? fun z => PyData.eqv z d
def dIdx (t : DE) (aa : DA) : DE := fun ρ S Q => t ρ S fun o S1 => match o with
  | .dict [(.none, .tuple ds)] => aa ρ S1 fun as S2 => match as with
    | [d] => (SeqAt.shaped (.list ds) = true ∧ SeqAt.shaped d = true) ∧ wh (idxD ds d) fun j => Q (.int (j : Nat)) S2
    | _ => False
  | _ => False
theorem DvAll.dp {K : PySem.W.Frag} {m : Mp} {H : Hp} : ∀ {vs : List V} {ds : List PyData}, DvAll K m H vs ds → PyData.canLayAll0 ds = true → DpAll K H vs ds
  | _, _, .nil, _ => .nil
  | _, _, .cons a b, c => by
    rw [layAll_cons, Bool.and_eq_true] at c
    exact .cons (a.dp c.1) (b.dp c.2)
theorem frz_ev {m : Mp} {H : Hp} {m' : Mp} {H' : Hp} (ev : Evo m H m' H') {a : Addr} {o : Obj} {xs : List V} (h : H a = some (.frz o (.tup xs))) (n : ¬ Ce m a) : H' a = some (.frz o (.tup xs)) := (ev.kp _ _ h n).1
theorem q_index {apos : Pos} (hu : X.A.units + 200 < cLine) (ho : QE X a t) (ha : QA X [e] aa) (hbase : attributeBase a "index" X.env (eval a X.env) = eval a X.env := by rfl)
    (hfew : ((backTo pos (starEach [e] X.env)).all (fun x => !x.1) && (backToKw pos (keywordEach [] X.env)).all (fun x => x.1.isSome)
      && decide ([e].length + ([] : List Keyword).length + (if ([] : List Keyword).isEmpty then 0 else 1) < 30)) = true := by rfl)
    (hline : (apos.endLine == pos.line) = true := by rfl) (he : starEach [e] X.env = (false, eval e X.env) :: starEach [] X.env := by rfl) :
    QE X (.Call (.Attribute a "index" apos) [e] [] pos) (dIdx t aa) := pe_weak (pe_mG ty_frz PySem.F.plainAttrs_tuple PySem.F.slot_tuple_index PySem.F.type_tuple_index (mt_indexT (by omega)) ho ha hbase hfew hline he rfl) fun σ H Q ⟨B, ρ, S, m, Qd, at_, q, k⟩ =>
  ⟨B, ρ, S, m, _, at_, q, fun o S1 v H1 m1 q1 e1 w1 dv => by
    by_cases f : ∃ ds, o = frz ds
    · obtain ⟨ds, rfl⟩ := f
      cases dv with
      | @frz p ob xs _ hp od nc al =>
        refine ⟨⟨p, ob, xs, rfl, hp, od⟩, B, ρ, S1, m1, _, at_.step e1 w1, q1, fun as S2 vs H2 m2 q2 e2 w2 dvs => ?_⟩
        match as, q2, dvs with
        | [d], q2, dvs =>
          obtain ⟨y, rfl, dy⟩ := dv1 dvs
          obtain ⟨⟨h1, h2⟩, q3⟩ := q2
          obtain ⟨j, ej, q3⟩ := wh_of q3
          obtain ⟨hj, hz, hno⟩ := List.findIdx?_eq_some_iff_getElem.mp ej
          have cl : PyData.canLayAll0 ds = true := SeqAt.canLay_of_shaped h1
          refine ⟨p, y, d, xs, ds, j, ds[j], rfl, rfl, .inl (.inr ⟨ob, frz_ev e2 hp nc⟩), (al.up e2).dp cl, dy.dp (SeqAt.canLay_of_shaped h2), h1, h2, List.getElem?_eq_getElem hj, hz, fun i z' hi hz' => ?_, k _ _ _ _ _ q3 (e1.trans e2) w2 (.int _)⟩
          obtain ⟨hl, e5⟩ := List.getElem?_eq_some_iff.mp hz'
          have := hno i hi
          rw [e5] at this
          simpa using this
    · exfalso
      revert q1
      split
      · exact fun _ => f ⟨_, rfl⟩
      · exact fun z => z⟩
end
end K3

/-! the plain layer: dicts, zip -/
namespace K3
open PySem L2 Xr K1
def keyD : PyData → Option L2.Key
  | .int i => some (.inl i)
  | .str z => some (.inr z)
  | _ => none
def dkC (S : Sto) (n : Nat) : Option (List (L2.Key × PyData)) := (S n).bind fun c => match c with
  | .dk kvs => some kvs
  | _ => none
theorem dkC_is {S : Sto} {n : Nat} {kvs : List (L2.Key × PyData)} (h : dkC S n = some kvs) : S n = some (.dk kvs) := by
  unfold dkC at h
  cases e : S n with
  | none => rw [e] at h; cases h
  | some c =>
    rw [e] at h
    cases c <;> first | (cases h; rfl) | cases h
def valP (kvs : List (L2.Key × PyData)) (k : L2.Key) : Option PyData := (kvs.find? fun kv => decide (kv.1 = k)).map (·.2)
def putP (kvs : List (L2.Key × PyData)) (k : L2.Key) (d : PyData) : List (L2.Key × PyData) :=
  if (kvs.any fun kv => decide (kv.1 = k)) = true then kvs.map (fun kv => if kv.1 = k then (kv.1, d) else kv) else kvs ++ [(k, d)]
section
variable {K : PySem.W.Frag} {m : Mp} {H : Hp}
theorem keyD_dv {v : V} {d : PyData} {k : L2.Key} (h : Dv K m H v d) (e : keyD d = some k) : v = kV k := by
  cases h <;> first | (cases e; rfl) | cases e
theorem val_dv {k : L2.Key} : ∀ {gs : List (L2.Key × V)} {kvs : List (L2.Key × PyData)}, gs.map Prod.fst = kvs.map Prod.fst → DvAll K m H (gs.map Prod.snd) (kvs.map Prod.snd) →
    (∀ d, valP kvs k = some d → ∃ v, valV gs k = some v ∧ Dv K m H v d) ∧ (valP kvs k = none → valV gs k = none)
  | [], [], _, _ => ⟨fun d h => (nomatch h), fun _ => rfl⟩
  | [], _ :: _, h, _ => nomatch h
  | _ :: _, [], h, _ => nomatch h
  | (x, v) :: gs, (y, e) :: kvs, h, al => by
    have h' : x :: gs.map Prod.fst = y :: kvs.map Prod.fst := h
    obtain ⟨h1, h2⟩ := List.cons.inj h'
    subst h1
    cases al with
    | cons a r =>
      obtain ⟨i1, i2⟩ := val_dv (k := k) h2 r
      by_cases z : x = k
      · have e1 : valP ((x, e) :: kvs) k = some e := by simp [valP, z]
        have e2 : valV ((x, v) :: gs) k = some v := by simp [valV, z]
        rw [e1, e2]
        exact ⟨fun d q => ⟨v, rfl, by cases q; exact a⟩, fun q => nomatch q⟩
      · have e1 : valP ((x, e) :: kvs) k = valP kvs k := by simp [valP, z]
        have e2 : valV ((x, v) :: gs) k = valV gs k := by simp [valV, z]
        rw [e1, e2]
        exact ⟨i1, i2⟩
theorem any_fst {α : Type} (k : L2.Key) (l : List (L2.Key × α)) : (l.any fun kv => decide (kv.1 = k)) = (l.map Prod.fst).any fun x => decide (x = k) := by
  induction l with
  | nil => rfl
  | cons p r ih => rw [List.map_cons, List.any_cons, List.any_cons, ih]
theorem map_put {k : L2.Key} {v : V} {d : PyData} (dv : Dv K m H v d) : ∀ {gs : List (L2.Key × V)} {kvs : List (L2.Key × PyData)}, gs.map Prod.fst = kvs.map Prod.fst → DvAll K m H (gs.map Prod.snd) (kvs.map Prod.snd) →
    (gs.map fun kv => if kv.1 = k then (kv.1, v) else kv).map Prod.fst = (kvs.map fun kv => if kv.1 = k then (kv.1, d) else kv).map Prod.fst ∧ DvAll K m H ((gs.map fun kv => if kv.1 = k then (kv.1, v) else kv).map Prod.snd) ((kvs.map fun kv => if kv.1 = k then (kv.1, d) else kv).map Prod.snd)
  | [], [], _, _ => ⟨rfl, .nil⟩
  | [], _ :: _, h, _ => nomatch h
  | _ :: _, [], h, _ => nomatch h
  | (x, v0) :: gs, (y, e) :: kvs, h, al => by
    have h' : x :: gs.map Prod.fst = y :: kvs.map Prod.fst := h
    obtain ⟨h1, h2⟩ := List.cons.inj h'
    subst h1
    cases al with
    | cons a r =>
      obtain ⟨i1, i2⟩ := map_put (k := k) dv h2 r
      by_cases z : x = k
      · simp only [List.map_cons, z, if_true]
        exact ⟨by rw [i1], .cons dv i2⟩
      · simp only [List.map_cons, z, if_false]
        exact ⟨by rw [i1], .cons a i2⟩
theorem put_dv {k : L2.Key} {v : V} {d : PyData} {gs : List (L2.Key × V)} {kvs : List (L2.Key × PyData)} (dv : Dv K m H v d) (h : gs.map Prod.fst = kvs.map Prod.fst) (al : DvAll K m H (gs.map Prod.snd) (kvs.map Prod.snd)) :
    (putK gs k v).map Prod.fst = (putP kvs k d).map Prod.fst ∧ DvAll K m H ((putK gs k v).map Prod.snd) ((putP kvs k d).map Prod.snd) := by
  have e : (gs.any fun kv => decide (kv.1 = k)) = kvs.any fun kv => decide (kv.1 = k) := by rw [any_fst, any_fst, h]
  unfold putK putP
  rw [e]
  split
  · exact map_put dv h al
  · refine ⟨?_, ?_⟩
    · rw [List.map_append, List.map_append, h]
      rfl
    · rw [List.map_append, List.map_append]
      exact al.app (.cons dv .nil)
theorem Wd.dk {S : Sto} {n : Nat} {kvs : List (L2.Key × PyData)} (w : Wd K m H S) (h : S n = some (.dk kvs)) : ∃ a gs, m.c n = some a ∧ H a = some (.dK gs) ∧ gs.map Prod.fst = kvs.map Prod.fst ∧ DvAll K m H (gs.map Prod.snd) (kvs.map Prod.snd) := by
  obtain ⟨a, e, gs, h1, h2, h3⟩ := w.has n _ h
  exact ⟨a, gs, e, h1, h2, h3⟩
end
end K3

/-! the plain layer: rules of dicts; zip; all; tuple(range(..)); tuples repeated -/
namespace K3
open PySem L2 Xr K1
section
variable {X : Cx} {e a b c o i tg : Expr} {es rest : List Expr} {t ta tb tc td ty : DE} {u v : DT} {pos : Pos} {aa : DA}
/-- d[k] -/
def dDGet (td ty : DE) : DE := fun ρ S Q => td ρ S fun o S1 => ty ρ S1 fun y S2 => wh (celN o) fun n => wh (dkC S2 n) fun kvs => wh (keyD y) fun k => wh (valP kvs k) fun d => Q d S2
theorem q_dget (hu : X.A.units + 1 < cLine) (ho : QE X o td) (hi : QE X i ty) (hs : NoSl i) : QE X (.Subscript o i pos) (dDGet td ty) := pe_weak (pe_dget hu ho hi hs) fun σ H Q ⟨B, ρ, S, m, Qd, at_, q, k⟩ =>
  ⟨B, ρ, S, m, _, at_, q, fun o S1 x H1 m1 q1 e1 w1 dx => ⟨B, ρ, S1, m1, _, at_.step e1 w1, q1, fun y S2 yv H2 m2 q2 e2 w2 dy => by
    obtain ⟨n, en, q2⟩ := wh_of q2
    obtain ⟨kvs, ek, q2⟩ := wh_of q2
    obtain ⟨kk, eky, q2⟩ := wh_of q2
    obtain ⟨d, ed, q2⟩ := wh_of q2
    obtain ⟨a, rfl, ha⟩ := celN_dv (dx.up e2) en
    obtain ⟨a', gs, h1, h2, h3, h4⟩ := w2.dk (dkC_is ek)
    rw [ha] at h1
    cases h1
    obtain ⟨v, hv, dv⟩ := (val_dv h3 h4).1 d ed
    have := keyD_dv dy eky
    subst this
    have g := DGet.k (k := kk) h2
    rw [hv] at g
    exact ⟨a, v, rfl, g, k _ _ _ _ _ q2 (e1.trans e2) w2 dv⟩⟩⟩
/-- k in d -/
def dDIn (neg : Bool) (ty td : DE) : DE := fun ρ S Q => ty ρ S fun y S1 => td ρ S1 fun o S2 => wh (celN o) fun n => wh (dkC S2 n) fun kvs => wh (keyD y) fun k => Q (.bool (xor neg (valP kvs k).isSome)) S2
theorem din_dv {σ : L2.St} {H : Hp} {neg : Bool} {y : V} {x : V} {yd od : PyData} {m : Mp} {S : Sto} {K : PySem.W.Frag} (w : Wd K m H S) (dy : Dv K m H y yd) (dx : Dv K m H x od) {n : Nat} {kvs : List (L2.Key × PyData)} {k : L2.Key} (en : celN od = some n) (ek : dkC S n = some kvs) (eky : keyD yd = some k) :
    ∃ a r, x = .ref a ∧ DGet H a y r ∧ r.isSome = (valP kvs k).isSome := by
  obtain ⟨a, rfl, ha⟩ := celN_dv dx en
  obtain ⟨a', gs, h1, h2, h3, h4⟩ := w.dk (dkC_is ek)
  rw [ha] at h1
  cases h1
  have := keyD_dv dy eky
  subst this
  refine ⟨a, _, rfl, DGet.k (k := k) h2, ?_⟩
  cases e : valP kvs k with
  | none =>
    rw [(val_dv h3 h4).2 e]
    rfl
  | some d =>
    obtain ⟨v, hv, _⟩ := (val_dv h3 h4).1 d e
    rw [hv]
    rfl
theorem q_din (hu : X.A.units + 1 < cLine) (hi : QE X i ty) (ho : QE X o td) (hm : behindInMarks .In o = false := by first | exact nobehind _ (by decide) (by decide) | rfl) : QE X (.Compare i [.In] [o] pos) (dDIn false ty td) := pe_weak (pe_cmp (pc_din hu hi ho) hm) fun σ H Q ⟨B, ρ, S, m, Qd, at_, q, k⟩ =>
  ⟨B, ρ, S, m, _, at_, q, fun y S1 yv H1 m1 q1 e1 w1 dy => ⟨B, ρ, S1, m1, _, at_.step e1 w1, q1, fun od S2 x H2 m2 q2 e2 w2 dx => by
    obtain ⟨n, en, q2⟩ := wh_of q2
    obtain ⟨kvs, ek, q2⟩ := wh_of q2
    obtain ⟨kk, eky, q2⟩ := wh_of q2
    obtain ⟨a, r, h1, h2, h3⟩ := din_dv (σ := σ) (neg := false) w2 (dy.up e2) dx en ek eky
    rw [Bool.false_xor, ← h3] at q2
    exact ⟨a, r, h1, h2, k _ _ _ _ _ q2 (e1.trans e2) w2 (.bl _)⟩⟩⟩
theorem q_dnin (hu : X.A.units + 1 < cLine) (hi : QE X i ty) (ho : QE X o td) (hm : behindInMarks .NotIn o = false := by first | exact nobehind _ (by decide) (by decide) | rfl) : QE X (.Compare i [.NotIn] [o] pos) (dDIn true ty td) := pe_weak (pe_cmp (pc_dnotin hu hi ho) hm) fun σ H Q ⟨B, ρ, S, m, Qd, at_, q, k⟩ =>
  ⟨B, ρ, S, m, _, at_, q, fun y S1 yv H1 m1 q1 e1 w1 dy => ⟨B, ρ, S1, m1, _, at_.step e1 w1, q1, fun od S2 x H2 m2 q2 e2 w2 dx => by
    obtain ⟨n, en, q2⟩ := wh_of q2
    obtain ⟨kvs, ek, q2⟩ := wh_of q2
    obtain ⟨kk, eky, q2⟩ := wh_of q2
    obtain ⟨a, r, h1, h2, h3⟩ := din_dv (σ := σ) (neg := true) w2 (dy.up e2) dx en ek eky
    rw [Bool.true_xor, ← h3] at q2
    exact ⟨a, r, h1, h2, k _ _ _ _ _ q2 (e1.trans e2) w2 (.bl _)⟩⟩⟩
/-- zip of two tuples -/
def zipD (xs ys : List PyData) : List PyData := (xs.zip ys).map fun p => .tuple [p.1, p.2]
theorem zipD_len {xs ys : List PyData} : (zipD xs ys).length = min xs.length ys.length := by unfold zipD; rw [List.length_map, List.length_zip]
theorem zipD_get {xs ys : List PyData} {i : Nat} {x y : PyData} (h1 : xs[i]? = some x) (h2 : ys[i]? = some y) : (zipD xs ys)[i]? = some (.tuple [x, y]) := by
  unfold zipD
  have z : (xs.zip ys)[i]? = some (x, y) := List.getElem?_zip_eq_some.mpr ⟨h1, h2⟩
  rw [List.getElem?_map, z]
  rfl
theorem zipD_in {xs ys : List PyData} {i : Nat} {d : PyData} (h : (zipD xs ys)[i]? = some d) : ∃ x y, xs[i]? = some x ∧ ys[i]? = some y ∧ d = .tuple [x, y] := by
  unfold zipD at h
  rw [List.getElem?_map] at h
  cases e : (xs.zip ys)[i]? with
  | none => rw [e] at h; cases h
  | some p =>
    rw [e] at h
    obtain ⟨h1, h2⟩ := List.getElem?_zip_eq_some.mp e
    exact ⟨p.1, p.2, h1, h2, (Option.some.inj h).symm⟩
theorem walk_zipT {K : PySem.W.Frag} {a b : Addr} {xs ys : List V} {n : Nat} (hn : n = min xs.length ys.length) : Walk (RZ.ItzT K a b) n (fun H => SqT K H a xs ∧ SqT K H b ys) (YPair (fun i => xs[i]?) (fun i => ys[i]?)) := by
  subst hn
  refine ⟨fun i _ hi q => ?_, fun _ q => ⟨xs, ys, q.1, q.2, by omega⟩, fun i H v H' _ q y => ?_⟩
  · have h1 : i < xs.length := by omega
    have h2 : i < ys.length := by omega
    exact ⟨xs, ys, xs[i], ys[i], q.1, q.2, by simp [h1], by simp [h2]⟩
  · obtain ⟨T, x, z, h1, h2, h3, h4, h5⟩ := y
    exact ⟨T, x, z, h1, h2, h3, h4 xs q.1, h5 ys q.2⟩
theorem tup_stay {K : PySem.W.Frag} {m : Mp} {H : Hp} {S : Sto} {x : V} {d : PyData} {ds : List PyData} (w : Wd K m H S) (dx : Dv K m H x d) (ht : isTupD d = true) (h : itemsD S d = some ds) : ∃ p xs, x = .ref p ∧ SqT K H p xs ∧ DvAll K m H xs ds ∧ ∀ m' H', Ev0 m H m' H' → SqT K H' p xs := by
  cases dx with
  | tup e n a =>
    cases h
    exact ⟨_, _, rfl, SqT.of e, a, fun m' H' ev => SqT.of (ev.kp _ _ e n).1⟩
  | con e a =>
    cases h
    exact ⟨_, _, rfl, e.sq, a, fun m' H' ev => e.sq⟩
  | frz e _ n a =>
    cases h
    exact ⟨_, _, rfl, .inl (.inr ⟨_, e⟩), a, fun m' H' ev => .inl (.inr ⟨_, (ev.kp _ _ e n).1⟩)⟩
  | _ => cases ht
def dZipT (aa : DA) : DI := fun ρ S Q => aa ρ S fun ds S1 => match ds with
  | [x, y] => (isTupD x = true ∧ isTupD y = true) ∧ wh (itemsD S1 x) fun xs => wh (itemsD S1 y) fun ys => Q (zipD xs ys) (fun _ => True) S1
  | _ => False
theorem qi_zipT {e2 : Expr} {p tpos : Pos} {elts : List Expr} {kk : Nat} (hm : X.mg "zip" = none) (hg : Gl X "zip") (ha : QA X [e, e2] aa) (hs : starEach [e, e2] X.env = (false, eval e X.env) :: starEach [e2] X.env := by rfl) (hpl : (backTo pos (starEach [e2] X.env)).any (·.1) = false := by rfl) :
    QI X (.Tuple elts kk tpos) (.Call (.Name "zip" p) [e, e2] [] pos) (dZipT aa) := pi_weak (RZ.pi_zipA hg hm ha hs hpl) fun σ H R ⟨B, ρ, S, m, Qi, at_, q, k⟩ =>
  ⟨B, ρ, S, m, _, at_, q, fun ds S1 vs H1 m1 q1 e1 w1 dv => by
    match ds, q1, dv with
    | [x, y], q1, dv =>
      obtain ⟨vx, vy, rfl, dx, dy⟩ := dv2 dv
      obtain ⟨⟨tx, ty⟩, q1⟩ := q1
      obtain ⟨xs, h1, q1⟩ := wh_of q1
      obtain ⟨ys, h2, q1⟩ := wh_of q1
      obtain ⟨p, as, rfl, hp, ap, sp⟩ := tup_stay w1 dx tx h1
      obtain ⟨r, bs, rfl, hr, ar, sr⟩ := tup_stay w1 dy ty h2
      refine ⟨p, r, as, bs, rfl, .inr ⟨hp, hr, k _ _ _ _ _ _ q1 e1 w1 trivial ⟨fun H => SqT X.K H p as ∧ SqT X.K H r bs, YPair (fun i => as[i]?) (fun i => bs[i]?), by rw [zipD_len, ← ap.len, ← ar.len]; exact walk_zipT rfl, fun m' H' S e w st => ⟨sp _ _ e, sr _ _ e⟩, fun i m' H' S x H2 e w st hi y => ?_⟩⟩⟩
      obtain ⟨T, u, v, rfl, hT, rfl, z1, z2⟩ := y
      obtain ⟨d1, g1, dv1⟩ := (ap.up0 e).getV z1
      obtain ⟨d2, g2, dv2⟩ := (ar.up0 e).getV z2
      exact ⟨_, zipD_get g1 g2, pair_new w hT dv1 dv2, Evo.new w hT, w.new hT⟩⟩
/-- all([..]) -/
def boolsD : List PyData → Option (List Bool)
  | [] => some []
  | .bool b :: ds => (boolsD ds).map (b :: ·)
  | _ => none
theorem bools_dv {K : PySem.W.Frag} {m : Mp} {H : Hp} : ∀ {ds : List PyData} {xs : List V} {bs : List Bool}, DvAll K m H xs ds → boolsD ds = some bs → xs = bs.map V.bl
  | [], _, _, h, e => by
    cases h
    cases e
    rfl
  | d :: ds, _, bs, h, e => by
    cases h with
    | cons a r =>
      cases a <;> first | cases e | skip
      rename_i b
      have e' : (boolsD ds).map (b :: ·) = some bs := e
      cases hs : boolsD ds with
      | none => rw [hs] at e'; cases e'
      | some cs =>
        rw [hs] at e'
        cases e'
        rw [bools_dv r hs]
        rfl
theorem bools_map {α : Type} (f : α → Bool) : ∀ xs : List α, boolsD (xs.map fun x => .bool (f x)) = some (xs.map f)
  | [] => rfl
  | x :: xs => by
    show (boolsD (xs.map fun x => .bool (f x))).map (f x :: ·) = _
    rw [bools_map f xs]
    rfl
def dAll : PyData → Sto → DK → Prop := fun o S Q => isTupD o = false ∧ wh (itemsD S o) fun ds => wh (boolsD ds) fun bs => Q (.bool (bs.all id)) S
def dAny : PyData → Sto → DK → Prop := fun o S Q => isTupD o = false ∧ wh (itemsD S o) fun ds => wh (boolsD ds) fun bs => Q (.bool (bs.any id)) S
theorem snd_all {K : PySem.W.Frag} : SndL K (on1 dAll) (rAll K) := snd_1 fun m H S x d Q Qd w dx h k => by
  obtain ⟨nt, h⟩ := h
  obtain ⟨ds, h1, h⟩ := wh_of h
  obtain ⟨bs, h2, q⟩ := wh_of h
  obtain ⟨p, xs, rfl, hq, al⟩ := dx.items2 w h1
  have := bools_dv al h2
  subst this
  rcases hq with ⟨_, hq⟩ | ⟨ht, _⟩
  · exact ⟨p, bs, rfl, hq, k _ _ _ _ _ q Evo.refl w (.bl _)⟩
  · rw [nt] at ht
    cases ht
theorem snd_any {K : PySem.W.Frag} : SndL K (on1 dAny) (rAny K) := snd_1 fun m H S x d Q Qd w dx h k => by
  obtain ⟨nt, h⟩ := h
  obtain ⟨ds, h1, h⟩ := wh_of h
  obtain ⟨bs, h2, q⟩ := wh_of h
  obtain ⟨p, xs, rfl, hq, al⟩ := dx.items2 w h1
  have := bools_dv al h2
  subst this
  rcases hq with ⟨_, hq⟩ | ⟨ht, _⟩
  · exact ⟨p, bs, rfl, hq, k _ _ _ _ _ q Evo.refl w (.bl _)⟩
  · rw [nt] at ht
    cases ht
theorem q_all {p : Pos} (hc : X.calm = true) (hm : X.mg "all" = none) (hg : Gl X "all") (ha : QA X [e] aa) (he : starEach [e] X.env = (false, eval e X.env) :: starEach [] X.env := by rfl) : QE X (.Call (.Name "all" p) [e] [] pos) (dCall (on1 dAll) aa) :=
  q_callB (cr_all hc) snd_all hg hm (by decide +kernel) ha (by decide) (by decide) he rfl
theorem q_any {p : Pos} (hc : X.calm = true) (hm : X.mg "any" = none) (hg : Gl X "any") (ha : QA X [e] aa) (he : starEach [e] X.env = (false, eval e X.env) :: starEach [] X.env := by rfl) : QE X (.Call (.Name "any" p) [e] [] pos) (dCall (on1 dAny) aa) :=
  q_callB (cr_any hc) snd_any hg hm (by decide +kernel) ha (by decide) (by decide) he rfl
/-- t * n, t a tuple -/
def dRep : D2
  | o, .int k, S, Q => isTupD o = true ∧ wh (itemsD S o) fun ds => (ds ≠ [] ∧ 2 ≤ k ∧ k ≤ 1000 ∧ ds.length ≤ 1000) ∧ Q (.tuple (List.replicate k.toNat ds).flatten) S
  | _, _, _, _ => False
theorem flat_rep {K : PySem.W.Frag} {m : Mp} {H : Hp} {xs : List V} {ds : List PyData} (h : DvAll K m H xs ds) : ∀ n, DvAll K m H (List.replicate n xs).flatten (List.replicate n ds).flatten
  | 0 => .nil
  | n + 1 => by
    rw [List.replicate_succ, List.replicate_succ, List.flatten_cons, List.flatten_cons]
    exact h.app (flat_rep h n)
theorem snd_rep {K : PySem.W.Frag} : Snd2 K dRep (rRepT K) := fun m H S x y a b Q Qd w dx dy h k => by
  cases b <;> first | exact False.elim h | skip
  cases dy
  obtain ⟨ht, h⟩ := h
  obtain ⟨ds, h1, ⟨h2, h3, h4, h5⟩, q⟩ := wh_of h
  obtain ⟨p, xs, rfl, hp, al, _⟩ := tup_stay w dx ht h1
  have l := al.len
  exact ⟨p, _, xs, rfl, rfl, hp, fun z => h2 (by rw [z] at l; exact List.eq_nil_of_length_eq_zero l.symm), h3, h4, by omega, k.newT w (flat_rep al _) q⟩
end
end K3

/-! the plain layer: dicts made by a comprehension -/
namespace K3
open PySem L2 Xr K1
section
variable {K : PySem.W.Frag} {m : Mp} {H : Hp} {S : Sto} {D : Addr} {n : Nat} {c : Cell}
/-- what was hidden becomes a cell -/
theorem Ev0.show (hz : m.z D) (hn : m.c n = none) : Ev0 m H (mput (K3.bare m D) n D) H := by
  refine ⟨fun k a e => ?_, fun q o e ne => ⟨e, fun h => ?_⟩⟩
  · have : k ≠ n := fun z => by rw [z, hn] at e; cases e
    rw [mput_ne this]
    exact e
  · rcases h with ⟨k, ek⟩ | ek
    · by_cases z : k = n
      · rw [z, mput_same] at ek
        have := Option.some.inj ek
        subst this
        exact ne (.inr hz)
      · rw [mput_ne z] at ek
        exact ne (.inl ⟨k, ek⟩)
    · exact ne (.inr ek.2)
theorem Wd.show (w : Wd K m H S) (hz : m.z D) (hn : m.c n = none) (hc : CellR K (mput (K3.bare m D) n D) H D c) : Wd K (mput (K3.bare m D) n D) H (put S n c) := by
  have nD : ∀ k, m.c k ≠ some D := fun k e => w.hid k D e hz
  refine ⟨fun i j a h1 h2 => ?_, fun k a e => ?_, ?_, fun k d e => ?_, fun k a e za => ?_, fun a e => ?_⟩
  · by_cases zi : i = n
    · by_cases zj : j = n
      · rw [zi, zj]
      · rw [zi, mput_same] at h1
        rw [mput_ne zj] at h2
        have := Option.some.inj h1
        subst this
        exact absurd h2 (nD j)
    · by_cases zj : j = n
      · rw [zj, mput_same] at h2
        rw [mput_ne zi] at h1
        have := Option.some.inj h2
        subst this
        exact absurd h1 (nD i)
      · rw [mput_ne zi] at h1
        rw [mput_ne zj] at h2
        exact w.inj i j a h1 h2
  · by_cases z : k = n
    · rw [z, mput_same] at e
      have := Option.some.inj e
      subst this
      exact w.ztr _ hz
    · rw [mput_ne z] at e
      exact w.trk k a e
  · obtain ⟨b, hb⟩ := w.bd
    refine ⟨max b (n + 1), fun k hk => ?_⟩
    have : k ≠ n := by omega
    rw [mput_ne this]
    exact hb k (by omega)
  · by_cases z : k = n
    · rw [z, put_same] at e
      cases e
      exact ⟨D, by rw [z, mput_same], hc⟩
    · rw [put_ne z] at e
      obtain ⟨a, ha, cr⟩ := w.has k d e
      exact ⟨a, by rw [mput_ne z]; exact ha, cr.up (Ev0.show hz hn) rfl⟩
  · have za' : a ≠ D ∧ m.z a := za
    by_cases z : k = n
    · rw [z, mput_same] at e
      exact za'.1 (Option.some.inj e).symm
    · rw [mput_ne z] at e
      exact w.hid k a e za'.2
  · exact w.ztr a e.2
end
/-- a walk of a dict comprehension, by a predicate of the turns -/
theorem dc_it {J : It} {N : Nat} {G : Hp → Prop} {Y : Nat → Hp → V → Hp → Prop} {g : TG} {tt : TT} {tk tv : TE} {vs : List Nat} {σ : L2.St} {H1 : Hp} {D : Addr} {Qd : Hp → Prop} (wk : Walk J N G Y) (Pv : Nat → Hp → Prop) (h0 : Pv 0 (upd H1 D (.dK []))) (hG : ∀ i H, i ≤ N → Pv i H → G H)
    (hs : ∀ i x H H', i < N → Pv i H → Y i H x H' → g x (wipe σ vs) H' fun σ2 H2 => wipe σ2 vs = wipe σ vs ∧ tt σ2 H2 fun b H3 =>
      if b = true then tk σ2 H3 fun y H4 => tv σ2 H4 fun z H5 => ∃ kvs k, y = kV k ∧ H5 D = some (.dK kvs) ∧ kvs.length < sizeLine ∧ Pv (i + 1) (upd H5 D (.dK (putK kvs k z))) else Pv (i + 1) H3) (hd : ∀ H, Pv N H → Qd H) :
    ∃ W : Nat → Nat → Hp → Prop, (∃ m, W 0 m (upd H1 D (.dK []))) ∧ ∀ i m H, W i m H →
      (J.stop i H ∧ Qd H) ∨ (J.go i H ∧ ∃ Nx : Hp → Prop, (∀ H', Nx H' → ∃ m', m' < m ∧ W (i + 1) m' H') ∧ ∀ x H', J.yld i H x H' → g x (wipe σ vs) H' fun σ2 H2 => wipe σ2 vs = wipe σ vs ∧ tt σ2 H2 fun b H3 =>
        if b = true then tk σ2 H3 fun y H4 => tv σ2 H4 fun z H5 => ∃ kvs k, y = kV k ∧ H5 D = some (.dK kvs) ∧ kvs.length < sizeLine ∧ Nx (upd H5 D (.dK (putK kvs k z))) else Nx H3) := by
  refine ⟨fun i m H => m = N - i ∧ i ≤ N ∧ Pv i H, ⟨N, by simp, Nat.zero_le _, h0⟩, ?_⟩
  rintro i m H ⟨rfl, hi, p⟩
  have gH := hG i H hi p
  by_cases hlt : i < N
  · exact .inr ⟨wk.goes i H hlt gH, Pv (i + 1), fun H' p' => ⟨N - (i + 1), by omega, rfl, hlt, p'⟩, fun x H' y => hs i x H H' hlt p (wk.yields i H x H' hlt gH y)⟩
  · have e : i = N := by omega
    subst e
    exact .inl ⟨wk.stops H gH, hd H p⟩
/-- {k: v for .. in .. if ..}: W by the turn, what is made so far, the store -/
def dDc (di : DI) (bd : PyData → Rho → Option Rho) (tt : DT) (tk te : DE) (vs : List Nat) : DE := fun ρ S Q => di ρ S fun items stay S1 => ∃ W : Nat → List (L2.Key × PyData) → Sto → Prop, W 0 [] S1 ∧ (∀ i acc S, W i acc S → stay S ∧ acc.length < 1000000) ∧
  (∀ i d acc S, items[i]? = some d → W i acc S → wh (bd d (uns ρ vs)) fun ρ2 => tt ρ2 S fun b S2 => if b = true then tk ρ2 S2 fun y S3 => wh (keyD y) fun k => te ρ2 S3 fun z S4 => W (i + 1) (putP acc k z) S4 else W (i + 1) acc S2) ∧
  ∀ acc S, W items.length acc S → ∀ n, S n = none → Q (cel n) (put S n (.dk acc))
theorem dc_dv {di : DI} {K : PySem.W.Frag} {g : TG} {bd : PyData → Rho → Option Rho} {tt : DT} {tk te : DE} {vs : List Nat} {σ : L2.St} {H : Hp} {Q : VK} (hb : Bnd K g bd vs) (h : lft K (dDc di bd tt tk te vs) σ H Q) : tDc (lftI K di) g (lftT K tt) (lft K tk) (lft K te) vs σ H Q := by
  obtain ⟨B, ρ, S, m, Qd, at_, q, k⟩ := h
  refine ⟨B, ρ, S, m, _, at_, q, fun items stay S1 H1 m1 J q1 e1 w1 st1 wk => ?_⟩
  obtain ⟨W, h0, hst, hstep, hdone⟩ := q1
  obtain ⟨G, Y, walk, hG, hY⟩ := wk.ex
  intro D hD
  have ev1 : Ev0 m1 H1 (hide m1 D) (upd H1 D (.dK [])) := Ev0.hide w1 hD
  have fr1 := (at_.step e1 w1).fr
  refine dc_it walk (fun i H => ∃ (acc : List (L2.Key × PyData)) (S : Sto) (m : Mp) (gs : List (L2.Key × V)), W i acc S ∧ Ev0 m1 H1 m H ∧ Wd K m H S ∧ (∀ a, m.z a ↔ (a = D ∨ m1.z a)) ∧ (∀ a o, m1.z a → H1 a = some o → H a = some o) ∧ H D = some (.dK gs) ∧ gs.map Prod.fst = acc.map Prod.fst ∧ DvAll K m H (gs.map Prod.snd) (acc.map Prod.snd)) ?_ ?_ ?_ ?_
  · exact ⟨[], S1, hide m1 D, [], h0, ev1, w1.hide hD, fun a => Iff.rfl, fun a o z e => by rw [upd_ne (ne_of_none e hD)]; exact e, upd_same, rfl, .nil⟩
  · rintro i H _ ⟨acc, S, m, gs, hW, ev, w, _, _, _, _⟩
    exact hG m H S ev w (hst i acc S hW).1
  · rintro i x H H' hi ⟨acc, S, m, gs, hW, ev, w, hz, hk, hH, hn, al⟩ y
    obtain ⟨d, hd, dv, e2, w2⟩ := hY i m H S x H' ev w (hst i acc S hW).1 hi y
    obtain ⟨ρ2, hb2, q2⟩ := wh_of (hstep i d acc S hd hW)
    have lacc := (hst i acc S hW).2
    have zD : m.z D := (hz D).mpr (.inl rfl)
    have H'D : H' D = some (.dK gs) := e2.zk D _ zD hH
    have ev2 : Ev0 m1 H1 m H' := ev.trans e2.toEv0
    have frw : Fr K m H' (wipe σ vs) (uns ρ vs) := (Fr.up0 ev2 _ _ fr1).wipe _ _ vs
    refine hb.ok m H' d x (uns ρ vs) ρ2 (wipe σ vs) _ dv frw hb2 fun σ' f' hw' => ⟨?_, ?_⟩
    · rw [hw', wipe_wipe fun _ z => z]
    · refine ⟨(m, H'), ρ2, S, m, _, ⟨Evo.refl, w2, f'⟩, q2, fun b S2 H2 m2 q3 e3 w3 => ?_⟩
      have hk2 : ∀ a o, m1.z a → H1 a = some o → H2 a = some o := fun a o z e => e3.zk a o ((hz a).mpr (.inr z)) (e2.zk a o ((hz a).mpr (.inr z)) (hk a o z e))
      have hz2 : ∀ a, m2.z a ↔ (a = D ∨ m1.z a) := fun a => (e3.hz a).trans (hz a)
      have H2D : H2 D = some (.dK gs) := e3.zk D _ zD H'D
      cases b with
      | false => exact iteF ⟨acc, S2, m2, gs, q3, ev2.trans e3.toEv0, w3, hz2, hk2, H2D, hn, (al.up e2).up e3⟩
      | true =>
        refine iteT ⟨(m, H'), ρ2, S2, m2, _, ⟨e3, w3, f'.up e3⟩, q3, fun y S3 v H3 m3 q4 e4 w4 dy => ?_⟩
        obtain ⟨kk, ekk, q4⟩ := wh_of q4
        refine ⟨(m, H'), ρ2, S3, m3, _, ⟨e3.trans e4, w4, (f'.up e3).up e4⟩, q4, fun zd S4 vz H4 m4 q5 e5 w5 dz => ?_⟩
        have e45 := e4.trans e5
        have zD2 : m2.z D := (hz2 D).mpr (.inl rfl)
        have H4D : H4 D = some (.dK gs) := e45.zk D _ zD2 H2D
        have zD4 : m4.z D := (e45.hz D).mpr zD2
        have al4 := ((al.up e2).up e3).up e45
        obtain ⟨p1, p2⟩ := put_dv (k := kk) dz hn al4
        have lg : gs.length = acc.length := by
          have := congrArg List.length hn
          rwa [List.length_map, List.length_map] at this
        refine ⟨gs, kk, keyD_dv dy ekk, H4D, by rw [lg, sizeLine_eq]; omega, putP acc kk zd, S4, m4, _, q5, ?_, w5.turn zD4, fun a => (e45.hz a).trans (hz2 a), fun a o z e => ?_, upd_same, p1, p2.up0 (Ev0.turn zD4)⟩
        · exact ((ev2.trans e3.toEv0).trans e45.toEv0).trans (Ev0.turn zD4)
        · have : a ≠ D := ne_of_none e hD
          rw [upd_ne this]
          exact e45.zk a o ((hz2 a).mpr (.inr z)) (hk2 a o z e)
  · rintro H ⟨acc, S, m, gs, hW, ev, w, hz, hk, hH, hn, al⟩
    have q := hdone acc S hW
    have nz : ¬ m1.z D := fun z => by
      obtain ⟨o, e⟩ := w1.ztr D z
      rw [hD] at e
      cases e
    have zD : m.z D := (hz D).mpr (.inl rfl)
    obtain ⟨n, hnn⟩ := w.free
    have e5 : Evo m1 H1 (mput (K3.bare m D) n D) H := ⟨ev.trans (Ev0.show zD hnn), fun a => by
      show (a ≠ D ∧ m.z a) ↔ m1.z a
      rw [hz a]
      constructor
      · rintro ⟨h1, h2⟩
        exact h2.resolve_left h1
      · intro h1
        exact ⟨fun e => nz (by rw [← e]; exact h1), .inr h1⟩, hk⟩
    exact k _ _ _ _ _ (q n (w.sfree hnn)) (e1.trans e5) (w.show zD hnn ⟨gs, hH, hn, al.up0 (Ev0.show zD hnn)⟩) (.cel mput_same)
section
variable {X : Cx} {e tg kx vx : Expr} {di : DI} {tt : DT} {tk te : DE} {pos : Pos}
theorem q_dc {ifs : List Expr} {scope : Scope} {own : List (Str × Nat)} {g : TG} {bd : PyData → Rho → Option Rho} (hc : X.calm = true) (hN : X.N.Nodup) (hi : QI X tg e di) (ok : BlkOk X.N X.env.scope scope own) (hbd : Bnd X.K g bd (own.map (·.2)))
    (hg : ∀ (s : Shared) (H : Hp) (C : Addr) (cl : List (Str × Addr)) (fp : List Addr), PG (X.blk s H scope (compEnvC scope cl C X.env) fp) tg g) (ht : ∀ (s : Shared) (H : Hp) (C : Addr) (cl : List (Str × Addr)) (fp : List Addr), QTs (X.blk s H scope (compEnvC scope cl C X.env) fp) ifs tt)
    (hk : ∀ (s : Shared) (H : Hp) (C : Addr) (cl : List (Str × Addr)) (fp : List Addr), QE (X.blk s H scope (compEnvC scope cl C X.env) fp) kx tk)
    (he : ∀ (s : Shared) (H : Hp) (C : Addr) (cl : List (Str × Addr)) (fp : List Addr), QE (X.blk s H scope (compEnvC scope cl C X.env) fp) vx te) (hs : ∀ x, foldedSetIterable e X.env x = pure x := by intro _; rfl) :
    QE X (.DictComp kx vx [⟨tg, e, ifs, 0⟩] scope pos) (dDc di bd tt tk te (own.map (·.2))) := pe_weak (pe_dc (own := own) (g := g) hc hN hi ok hg (fun s H C cl fp => (ht s H C cl fp).p) hk he hs) fun σ H Q h => dc_dv hbd h
end
end K3

/-! the plain layer: tuple(range(..)), a tuple repeated -/
namespace K3
open PySem L2 Xr K1
section
variable {X : Cx} {e a b : Expr} {t ta tb : DE} {pos : Pos}
theorem u1 {k : Nat} {A : Around} (hr : Room k A) : A.units + 1 < cLine := by
  have := hr.un
  omega
def rgD (n : Nat) : List PyData := (List.range n).map fun i => .int (i : Nat)
theorem rg_dv {K : PySem.W.Frag} {m : Mp} {H : Hp} {n : Int} (h : 0 ≤ n) : DvAll K m H (rgV 0 n) (rgD n.toNat) := by
  have e : rgV 0 n = ((List.range n.toNat).map fun i => ((i : Nat) : Int)).map V.int := by
    unfold rgV
    rw [List.map_map, Int.sub_zero]
    apply List.map_congr_left
    intro i _
    show V.int (0 + ((i : Nat) : Int)) = V.int ((i : Nat) : Int)
    rw [Int.zero_add]
  have e2 : rgD n.toNat = ((List.range n.toNat).map fun i => ((i : Nat) : Int)).map PyData.int := by
    unfold rgD
    rw [List.map_map]
    rfl
  rw [e, e2]
  exact ints_dv _
/-- tuple(range(n)) -/
def dTupRg (t : DE) : DE := fun ρ S Q => t ρ S fun d S1 => match d with
  | .int n => (0 ≤ n ∧ n ≤ 1000000) ∧ Q (.tuple (rgD n.toNat)) S1
  | _ => False
theorem q_tupRg {p p2 pos2 : Pos} (hc : X.calm = true) (hm : X.mg "tuple" = none) (hg : Gl X "tuple") (hm2 : X.mg "range" = none) (hg2 : Gl X "range") (ha : QE X a t) (na2 : starEach [a] X.env = (false, eval a X.env) :: starEach [] X.env := by rfl)
    (na : starEach [.Call (.Name "range" p2) [a] [] pos2] X.env = (false, eval (.Call (.Name "range" p2) [a] [] pos2) X.env) :: starEach [] X.env := by rfl) : QE X (.Call (.Name "tuple" p) [.Call (.Name "range" p2) [a] [] pos2] [] pos) (dTupRg t) :=
  pe_weak (pe_tupRg hc hg hm (prg_1 hg2 hm2 ha na2) na) fun σ H Q ⟨B, ρ, S, m, Qd, at_, q, k⟩ => ⟨B, ρ, S, m, _, at_, q, fun d S1 v H1 m1 q1 e1 w1 dv => by
    cases d <;> first | exact False.elim q1 | skip
    rename_i n
    cases dv
    obtain ⟨⟨h0, h1⟩, q1⟩ := q1
    exact ⟨n, rfl, RgOk.of_le (by omega) (by omega) (by omega) (by omega), (k.up e1).newT w1 (rg_dv h0) q1⟩⟩
theorem q_rep (ha : QE X a ta) (hb : QE X b tb) : QE X (.BinOp a .Mult b pos) (dOp dRep ta tb) := q_op op_repT snd_rep ha hb
end
end K3

/-! the plain layer: what is asked, when the values are known -/
namespace K3
open PySem L2 Xr K1
theorem e_addI {i j : Int} {S : Sto} {Q : DK} : dAdd (.int i) (.int j) S Q = Q (.int (i + j)) S := rfl
theorem e_addS {x y : Str} {S : Sto} {Q : DK} : dAdd (.str x) (.str y) S Q = (x.length + y.length ≤ 1000000 ∧ Q (.str (x ++ y)) S) := rfl
theorem e_addT {x y : List PyData} {S : Sto} {Q : DK} : dAdd (.tuple x) (.tuple y) S Q = (x.length + y.length ≤ 1000000 ∧ Q (.tuple (x ++ y)) S) := rfl
theorem e_addL {x y : List PyData} {S : Sto} {Q : DK} : dAdd (.list x) (.list y) S Q = (x.length + y.length ≤ 1000000 ∧ Q (.list (x ++ y)) S) := rfl
theorem e_i2 {g : Int → Int → PyData} {i j : Int} {S : Sto} {Q : DK} : dI2 g (.int i) (.int j) S Q = Q (g i j) S := rfl
theorem e_i2c {c : Int → Int → Prop} {g : Int → Int → PyData} {i j : Int} {S : Sto} {Q : DK} : dI2c c g (.int i) (.int j) S Q = (c i j ∧ Q (g i j) S) := rfl
theorem e_is {g : PyData → Bool} {a : PyData} {S : Sto} {Q : DK} : dIs g a .none S Q = Q (.bool (g a)) S := rfl
theorem e_bool {b : Bool} : boolD (.bool b) = some b := rfl
theorem e_cel {n : Nat} : celN (cel n) = some n := rfl
theorem e_strD {z : Str} : isStrD (.str z) = some z := rfl
theorem e_lenS {z : Str} {S : Sto} {Q : DK} : dLen (.str z) S Q = (z.length ≤ 1000000 ∧ Q (.int z.length) S) := rfl
theorem e_lenT {x : List PyData} {S : Sto} {Q : DK} : dLen (.tuple x) S Q = Q (.int x.length) S := rfl
theorem e_lenL {x : List PyData} {S : Sto} {Q : DK} : dLen (.list x) S Q = Q (.int x.length) S := rfl
theorem e_lenC {n : Nat} {S : Sto} {Q : DK} : dLen (cel n) S Q = wh (itemsD S (cel n)) fun ds => Q (.int ds.length) S := rfl
theorem e_ixS {z : Str} {i : Int} {S : Sto} {Q : DK} : dIx (.str z) (.int i) S Q = (z.length ≤ 1000000 ∧ wh (atI z.cps.toList i) fun c => Q (.str ⟨#[c]⟩) S) := rfl
theorem e_ixT {x : List PyData} {i : Int} {S : Sto} {Q : DK} : dIx (.tuple x) (.int i) S Q = wh (atI x i) fun d => Q d S := rfl
theorem e_ixL {x : List PyData} {i : Int} {S : Sto} {Q : DK} : dIx (.list x) (.int i) S Q = wh (atI x i) fun d => Q d S := rfl
theorem e_ixC {n : Nat} {i : Int} {S : Sto} {Q : DK} : dIx (cel n) (.int i) S Q = wh (itemsD S (cel n)) fun ds => wh (atI ds i) fun d => Q d S := rfl
theorem e_slS {b : Bool} {z : Str} {l u : Option Int} {S : Sto} {Q : DK} : dSl b (.str z) l u S Q = (z.length ≤ 1000000 ∧ Q (.str (cutS z l u)) S) := rfl
theorem e_slT {b : Bool} {x : List PyData} {l u : Option Int} {S : Sto} {Q : DK} : dSl b (.tuple x) l u S Q = Q (.tuple (cutD x l u)) S := rfl
theorem e_slL {x : List PyData} {l u : Option Int} {S : Sto} {Q : DK} : dSl false (.list x) l u S Q = Q (.list (cutD x l u)) S := rfl
theorem e_slC {n : Nat} {l u : Option Int} {S : Sto} {Q : DK} : dSl false (cel n) l u S Q = wh (itemsD S (cel n)) fun ds => if false = true then (∀ n, S n = none → Q (cel n) (put S n (.lst (cutD ds l u)))) else Q (.list (cutD ds l u)) S := rfl
theorem e_itT {S : Sto} {x : List PyData} : itemsD S (.tuple x) = some x := rfl
theorem e_itL {S : Sto} {x : List PyData} : itemsD S (.list x) = some x := rfl
theorem e_truN {S : Sto} {i : Int} {b : Bool} {x : List PyData} : truD S .none = some (false) := rfl
theorem e_truI {S : Sto} {i : Int} {b : Bool} {x : List PyData} : truD S (.int i) = some ((i != 0)) := rfl
theorem e_truB {S : Sto} {i : Int} {b : Bool} {x : List PyData} : truD S (.bool b) = some (b) := rfl
theorem e_truL {S : Sto} {i : Int} {b : Bool} {x : List PyData} : truD S (.list x) = some (!x.isEmpty) := rfl
theorem e_truT {S : Sto} {i : Int} {b : Bool} {x : List PyData} : truD S (.tuple x) = some (!x.isEmpty) := rfl
theorem e_okN {S : Sto}  : okTy S .none = True := rfl
theorem e_okB {S : Sto} {b : Bool}  : okTy S (.bool b) = True := rfl
theorem e_okI {S : Sto} {i : Int}  : okTy S (.int i) = True := rfl
theorem e_okS {S : Sto} {z : Str}  : okTy S (.str z) = True := rfl
theorem e_okL {S : Sto} {x : List PyData}  : okTy S (.list x) = True := rfl
theorem e_okT {S : Sto} {x : List PyData}  : okTy S (.tuple x) = True := rfl
theorem e_okC {S : Sto} {n : Nat} : okTy S (cel n) = ∃ ds, S n = some (.lst ds) := rfl
theorem e_tupN  : isT .tup .none = false := rfl
theorem e_tupB {b : Bool}  : isT .tup (.bool b) = false := rfl
theorem e_tupI {i : Int}  : isT .tup (.int i) = false := rfl
theorem e_tupS {z : Str}  : isT .tup (.str z) = false := rfl
theorem e_tupL {x : List PyData}  : isT .tup (.list x) = false := rfl
theorem e_tupT {x : List PyData}  : isT .tup (.tuple x) = true := rfl
theorem e_tupC {n : Nat}  : isT .tup (cel n) = false := rfl
theorem e_strN  : isT .str .none = false := rfl
theorem e_strB {b : Bool}  : isT .str (.bool b) = false := rfl
theorem e_strI {i : Int}  : isT .str (.int i) = false := rfl
theorem e_strS {z : Str}  : isT .str (.str z) = true := rfl
theorem e_strL {x : List PyData}  : isT .str (.list x) = false := rfl
theorem e_strT {x : List PyData}  : isT .str (.tuple x) = false := rfl
theorem e_strC {n : Nat}  : isT .str (cel n) = false := rfl
theorem e_intN  : isT .int .none = false := rfl
theorem e_intB {b : Bool}  : isT .int (.bool b) = true := rfl
theorem e_intI {i : Int}  : isT .int (.int i) = true := rfl
theorem e_intS {z : Str}  : isT .int (.str z) = false := rfl
theorem e_intL {x : List PyData}  : isT .int (.list x) = false := rfl
theorem e_intT {x : List PyData}  : isT .int (.tuple x) = false := rfl
theorem e_intC {n : Nat}  : isT .int (cel n) = false := rfl
theorem e_boolN  : isT .bool .none = false := rfl
theorem e_boolB {b : Bool}  : isT .bool (.bool b) = true := rfl
theorem e_boolI {i : Int}  : isT .bool (.int i) = false := rfl
theorem e_boolS {z : Str}  : isT .bool (.str z) = false := rfl
theorem e_boolL {x : List PyData}  : isT .bool (.list x) = false := rfl
theorem e_boolT {x : List PyData}  : isT .bool (.tuple x) = false := rfl
theorem e_boolC {n : Nat}  : isT .bool (cel n) = false := rfl
theorem e_lstN  : isT .lst .none = false := rfl
theorem e_lstB {b : Bool}  : isT .lst (.bool b) = false := rfl
theorem e_lstI {i : Int}  : isT .lst (.int i) = false := rfl
theorem e_lstS {z : Str}  : isT .lst (.str z) = false := rfl
theorem e_lstL {x : List PyData}  : isT .lst (.list x) = true := rfl
theorem e_lstT {x : List PyData}  : isT .lst (.tuple x) = false := rfl
theorem e_lstC {n : Nat}  : isT .lst (cel n) = true := rfl
theorem e_nonN  : isNon .none = true := rfl
theorem e_nonB {b : Bool}  : isNon (.bool b) = false := rfl
theorem e_nonI {i : Int}  : isNon (.int i) = false := rfl
theorem e_nonS {z : Str}  : isNon (.str z) = false := rfl
theorem e_nonL {x : List PyData}  : isNon (.list x) = false := rfl
theorem e_nonT {x : List PyData}  : isNon (.tuple x) = false := rfl
theorem e_wkS {S : Sto} {z : Str} : walkD S (.str z) = some (signs z, fun _ => True) := rfl
theorem e_wkL {S : Sto} {x : List PyData} : walkD S (.list x) = some (x, fun _ => True) := rfl
theorem e_wkT {S : Sto} {x : List PyData} : walkD S (.tuple x) = some (x, fun _ => True) := rfl
theorem e_wkC {S : Sto} {n : Nat} : walkD S (cel n) = (lstC S n).map fun ds => (ds, fun S' => S' n = some (.lst ds)) := rfl
theorem e_join {z : Str} {d : PyData} {S : Sto} {Q : DK} : dJoin (.str z) d S Q = wh (itemsD S d) fun ds => wh (strsD ds) fun zs => (zs.map (·.length)).sum + zs.length * z.length ≤ 1000000 ∧ Q (.str (Txt.join z zs)) S := rfl
theorem e_inS {x z : Str} {S : Sto} {Q : DK} : dInS (.str x) (.str z) S Q = wh (match x.cps.toList with | [c] => some c | _ => none) fun c => Q (.bool (decide (c ∈ z.cps.toList))) S := rfl
theorem e_ninS {x z : Str} {S : Sto} {Q : DK} : dNotInS (.str x) (.str z) S Q = wh (match x.cps.toList with | [c] => some c | _ => none) fun c => Q (.bool (!decide (c ∈ z.cps.toList))) S := rfl
theorem e_ofI {i : Int} {S : Sto} {Q : DK} : dIntOf (.int i) S Q = Q (.int i) S := rfl
theorem e_ofB {b : Bool} {S : Sto} {Q : DK} : dIntOf (.bool b) S Q = Q (.int (if b = true then 1 else 0)) S := rfl
theorem e_abs {i : Int} {S : Sto} {Q : DK} : dAbs (.int i) S Q = Q (.int (if i < 0 then -i else i)) S := rfl
theorem e_lenF {x : List PyData} {S : Sto} {Q : DK} : dLen (frz x) S Q = Q (.int x.length) S := rfl
theorem e_ixF {x : List PyData} {i : Int} {S : Sto} {Q : DK} : dIx (frz x) (.int i) S Q = wh (atI x i) fun d => Q d S := rfl
theorem e_itF {S : Sto} {x : List PyData} : itemsD S (frz x) = some x := rfl
theorem e_wkF {S : Sto} {x : List PyData} : walkD S (frz x) = some (x, fun _ => True) := rfl
theorem e_tfF {x : List PyData} {S : Sto} {Q : DK} : dTupOf (frz x) S Q = Q (frz x) S := rfl
theorem e_truF {S : Sto} {x : List PyData} : truD S (frz x) = some (!x.isEmpty) := rfl
theorem e_repT {x : List PyData} {k : Int} {S : Sto} {Q : DK} : dRep (.tuple x) (.int k) S Q = (true = true ∧ wh (some x) fun ds => (ds ≠ [] ∧ 2 ≤ k ∧ k ≤ 1000 ∧ ds.length ≤ 1000) ∧ Q (.tuple (List.replicate k.toNat ds).flatten) S) := rfl
theorem e_keyI {i : Int} : keyD (.int i) = some (.inl i) := rfl
theorem e_keyS {z : Str} : keyD (.str z) = some (.inr z) := rfl
theorem ifT {A B : Prop} : (if true = true then A else B) = A := if_pos rfl
theorem ifF {A B : Prop} : (if false = true then A else B) = B := if_neg Bool.false_ne_true
theorem pv_mono : True := trivial
end K3

/-! the plain layer: more rules -/
namespace K3
open PySem L2 Xr K1
section
variable {X : Cx} {e a b : Expr} {es : List Expr} {t ta tb : DE} {pos : Pos} {gs : DGs}
/-- a, b = a list -/
def dgUnl (n : Nat) (gs : DGs) : DG := fun d ρ S Q => isTupD d = false ∧ wh (itemsD S d) fun ds => ds.length = n ∧ gs ds ρ S Q
theorem qg_unl {k : Nat} {n : Nat} (hc : X.calm = true) (h : QGs X es gs)
    (hn : (assignEach es X.env).length = n := by rfl) (hst : (assignEach es X.env).findIdx? (·.1) = none := by rfl) : QG X (.Tuple es k pos) (dgUnl n gs) := pg_weak (pg_unl hc h hn hst) fun v σ H Q ⟨d, B, ρ, S, m, Qd, at_, dv, q, k⟩ => by
  obtain ⟨nt, q⟩ := q
  obtain ⟨ds, h1, l, q⟩ := wh_of q
  obtain ⟨p, xs, rfl, hq, al⟩ := dv.items2 at_.wd h1
  rcases hq with hq | hq
  · exact ⟨p, xs, rfl, hq.2, by rw [al.len]; exact l, _, B, ρ, S, m, Qd, at_, al, q, k⟩
  · rw [nt] at hq
    cases hq.1
/-- is True, is False -/
def dIsB (g : Bool → Bool → Bool) : D2
  | .bool p, .bool q, S, Q => Q (.bool (g p q)) S
  | _, _, _, _ => False
theorem snd_isB {K : PySem.W.Frag} : Snd2 K (dIsB fun p q => decide (p = q)) rIsB := fun m H S x y a b Q Qd w dx dy h k => by
  cases a <;> cases b <;> first | exact False.elim h | skip
  cases dx
  cases dy
  exact ⟨_, _, rfl, rfl, k _ _ _ _ _ h Evo.refl w (.bl _)⟩
theorem snd_notB {K : PySem.W.Frag} : Snd2 K (dIsB fun p q => !decide (p = q)) rNotB := fun m H S x y a b Q Qd w dx dy h k => by
  cases a <;> cases b <;> first | exact False.elim h | skip
  cases dx
  cases dy
  exact ⟨_, _, rfl, rfl, k _ _ _ _ _ h Evo.refl w (.bl _)⟩
end
theorem e_isB {g : Bool → Bool → Bool} {p q : Bool} {S : Sto} {Q : DK} : dIsB g (.bool p) (.bool q) S Q = Q (.bool (g p q)) S := rfl
theorem rangeD_at {lo c : Int} {n i : Nat} {d : PyData} (h : (rangeD lo c n)[i]? = some d) : i < n ∧ d = .int (lo + (i : Nat) * c) := by
  have l : i < n := by
    have := (List.getElem?_eq_some_iff.mp h).1
    rw [rangeD_len] at this
    exact this
  rw [rangeD_get l] at h
  exact ⟨l, (Option.some.inj h).symm⟩
theorem small_nat {n : Nat} (h : n ≤ 1000000000) : small62 (n : Int) := ⟨by omega, by omega⟩
theorem e_tupD {x : List PyData} : isTupD (.list x) = false := rfl
end K3

/-! the plain layer: in, of a list or tuple of texts, or of ints -/
namespace K3
open PySem L2 Xr K1
def intsD : List PyData → Option (List Int)
  | [] => some []
  | .int i :: ds => (intsD ds).map (i :: ·)
  | _ => none
theorem intsD_map : ∀ l : List Int, intsD (l.map PyData.int) = some l
  | [] => rfl
  | i :: l => by
    show (intsD (l.map PyData.int)).map (i :: ·) = _
    rw [intsD_map l]
    rfl
theorem strsD_map : ∀ l : List Str, strsD (l.map PyData.str) = some l
  | [] => rfl
  | i :: l => by
    show (strsD (l.map PyData.str)).map (i :: ·) = _
    rw [strsD_map l]
    rfl
theorem intsD_dv {K : PySem.W.Frag} {m : Mp} {H : Hp} : ∀ {ds : List PyData} {xs : List V} {bs : List Int}, DvAll K m H xs ds → intsD ds = some bs → xs = bs.map V.int
  | [], _, _, h, e => by
    cases h
    cases e
    rfl
  | d :: ds, _, bs, h, e => by
    cases h with
    | cons a r =>
      cases a <;> first | cases e | skip
      rename_i b
      have e' : (intsD ds).map (b :: ·) = some bs := e
      cases hs : intsD ds with
      | none => rw [hs] at e'; cases e'
      | some cs =>
        rw [hs] at e'
        cases e'
        rw [intsD_dv r hs]
        rfl
def dInQ (neg : Bool) : D2
  | .str z, o, S, Q => wh (itemsD S o) fun ds => wh (strsD ds) fun zs => Q (.bool (xor neg (decide (z ∈ zs)))) S
  | .int i, o, S, Q => wh (itemsD S o) fun ds => wh (intsD ds) fun is => Q (.bool (xor neg (decide (i ∈ is)))) S
  | _, _, _, _ => False
theorem inV_str (z : Str) (zs : List Str) : inV (.str z) (zs.map V.str) = decide (z ∈ zs) := by
  unfold inV
  rw [List.any_map, Bool.eq_iff_iff, List.any_eq_true, decide_eq_true_iff]
  constructor
  · rintro ⟨y, h1, h2⟩
    have h3 : (y == z) = true := h2
    rwa [eq_of_beq h3] at h1
  · intro h
    exact ⟨z, h, by show (z == z) = true; simp⟩
theorem inV_int (z : Int) (zs : List Int) : inV (.int z) (zs.map V.int) = decide (z ∈ zs) := by
  unfold inV
  rw [List.any_map, Bool.eq_iff_iff, List.any_eq_true, decide_eq_true_iff]
  constructor
  · rintro ⟨y, h1, h2⟩
    have h3 : (y == z) = true := h2
    rwa [eq_of_beq h3] at h1
  · intro h
    exact ⟨z, h, by show (z == z) = true; simp⟩
theorem flat_str (zs : List Str) : (zs.map V.str).all flatV = true := by
  rw [List.all_map, List.all_eq_true]
  exact fun _ _ => rfl
theorem flat_int (zs : List Int) : (zs.map V.int).all flatV = true := by
  rw [List.all_map, List.all_eq_true]
  exact fun _ _ => rfl
theorem snd_inQ {K : PySem.W.Frag} (neg : Bool) : Snd2 K (dInQ neg) (rIn K neg) := fun m H S x y a b Q Qd w dx dy h k => by
  cases a <;> first | exact False.elim h | skip
  · rename_i i
    cases dx
    obtain ⟨ds, h1, h⟩ := wh_of h
    obtain ⟨is, h2, q⟩ := wh_of h
    obtain ⟨p, xs, rfl, hq, al⟩ := dy.items w h1
    have := intsD_dv al h2
    subst this
    refine ⟨p, _, rfl, hq, rfl, flat_int is, ?_⟩
    rw [inV_int]
    cases neg with
    | false => rw [Bool.false_xor] at q; exact k _ _ _ _ _ q Evo.refl w (.bl _)
    | true => rw [Bool.true_xor] at q; exact k _ _ _ _ _ q Evo.refl w (.bl _)
  · rename_i z
    cases dx
    obtain ⟨ds, h1, h⟩ := wh_of h
    obtain ⟨zs, h2, q⟩ := wh_of h
    obtain ⟨p, xs, rfl, hq, al⟩ := dy.items w h1
    have := strs_dv al h2
    subst this
    refine ⟨p, _, rfl, hq, rfl, flat_str zs, ?_⟩
    rw [inV_str]
    cases neg with
    | false => rw [Bool.false_xor] at q; exact k _ _ _ _ _ q Evo.refl w (.bl _)
    | true => rw [Bool.true_xor] at q; exact k _ _ _ _ _ q Evo.refl w (.bl _)
theorem e_inQs {neg : Bool} {z : Str} {o : PyData} {S : Sto} {Q : DK} : dInQ neg (.str z) o S Q = wh (itemsD S o) fun ds => wh (strsD ds) fun zs => Q (.bool (xor neg (decide (z ∈ zs)))) S := rfl
theorem e_inQi {neg : Bool} {i : Int} {o : PyData} {S : Sto} {Q : DK} : dInQ neg (.int i) o S Q = wh (itemsD S o) fun ds => wh (intsD ds) fun is => Q (.bool (xor neg (decide (i ∈ is)))) S := rfl
end K3

/-! the plain layer: a call by keywords, the last one first -/
namespace K3
open PySem L2 Xr K1
theorem valsA : ∀ {a : List V} {b : List Value} {c : List V} {d : List Value}, Vals a b → Vals c d → Vals (a ++ c) (b ++ d)
  | _, _, _, _, .nil, h => h
  | _, _, _, _, .cons r t, h => .cons r (valsA t h)
theorem valsR : ∀ {a : List V} {b : List Value}, Vals a b → Vals a.reverse b.reverse
  | _, _, .nil => .nil
  | _, _, .cons r t => by
    rw [List.reverse_cons, List.reverse_cons]
    exact valsA (valsR t) (.cons r .nil)
section
variable {X : Cx} {CX : CXT} {j k : Nat} {f : Addr} {fd : FuncData} {ps : List Str} {sp : SpD} {x : Str} {p pos : Pos} {e : Expr} {es : List Expr} {aa : DA}
/-- keywords alone bind, the last one first -/
def BindsR (fd : FuncData) (ps ks : List Str) : Prop := ∀ (s : Shared) (us : List Value), us.length = ps.length → BindsTo s fd ⟨[], ks.zip us⟩ (ps.zip us.reverse)
theorem pe_kwR {CX : CXT} {sp : Sp} {ks : List Str} {kws : List Keyword} {E : L2.St → XK} {ta : TA} (F : FnOk X.prog X.w X.K X.mg X.base CX k f fd ps sp) (hr : Room k X.A) (hg : Gl X x) (hm : X.mg x = some (.ref f)) (kp : PySem.W.keepIn X.K (.ref f) = true) (hb : BindsR fd ps ks)
    (hx : ∀ σ, PassesAt CX X σ (E σ)) (hkw : PK X kws ta)
    (hall : (backToKw pos (keywordEach kws X.env)).all (·.1.isSome) = true) (hks : (backToKw pos (keywordEach kws X.env)).filterMap (·.1) = ks) (hdb : (x == ("__debug__" : Str)) = false)
    (hpl : ((backTo pos (starEach [] X.env)).any (·.1) || (backToKw pos (keywordEach kws X.env)).any (·.1.isNone)) = false) :
    PE X (.Call (.Name x p) [] kws pos) (fun σ H Q => ta σ H fun vs H1 => sp vs.reverse H1 Q (E σ)) := by
  refine ⟨fun pins s σ H Q I h => ?_⟩
  refine PySem.wpAny_Call_Name_kw (ld_glob I hg hm ?_ hdb)
  refine PySem.W.callWith_KW0 (h₀ := X.base) I.ok.mod.kin kp hall ?_ hpl
  refine thn (hkw.run pos pins s σ H _ I h) fun ws s2 ⟨zs, H2, I2, rz, q⟩ => ⟨I2.kIn, ?_⟩
  rw [hks]
  have rr := valsR rz
  have lens : ws.length = ps.length := by
    have := F.len _ _ _ _ q
    rw [List.length_reverse] at this
    rw [← rz.length]
    exact this
  refine PySem.wpAny_call (codeAny_mono (F.run X.A X.stack s2 H2 ⟨[], ks.zip ws⟩ ws.reverse zs.reverse Q (E σ) hr I2.env0 (hb s2 ws lens) rr q) fun r s' hq => ?_)
  cases r with
  | error e => exact hx σ pins H2 s2 e s' I2 hq
  | ok fl =>
    cases fl with
    | ret u => exact I2.after hq
    | next => exact False.elim hq
    | brk => exact False.elim hq
    | cont => exact False.elim hq
def dFnR (sp : SpD) (aa : DA) : DE := fun ρ S Q => aa ρ S fun ds S1 => sp ds.reverse S1 Q X0
theorem q_kwR {ks : List Str} {kws : List Keyword} (hr : Room k X.A) (F : FnOk X.prog X.w X.K X.mg X.base CX0 j f fd ps (spD X.K sp)) (hm : X.mg x = some (.ref f)) (hk : PySem.W.keepIn X.K (.ref f) = true) (hb : BindsR fd ps ks) (hg : Gl X x) (hl : j ≤ k) (hkw : QK X kws aa)
    (hall : (backToKw pos (keywordEach kws X.env)).all (·.1.isSome) = true := by rfl) (hks : (backToKw pos (keywordEach kws X.env)).filterMap (·.1) = ks := by rfl) (hdb : (x == ("__debug__" : Str)) = false := by decide)
    (hpl : ((backTo pos (starEach [] X.env)).any (·.1) || (backToKw pos (keywordEach kws X.env)).any (·.1.isNone)) = false := by rfl) : QE X (.Call (.Name x p) [] kws pos) (dFnR sp aa) :=
  pe_weak (pe_kwR (E := fun _ => E0) F (hr.mono hl) hg hm hk hb (fun σ => at0K pass0 σ) hkw.p hall hks hdb hpl) fun σ H Q ⟨B, ρ, S, m, Qd, at_, q, k⟩ =>
    ⟨B, ρ, S, m, _, at_, q, fun ds S' vs H' m' q e w dv => ⟨m', S', ds.reverse, Qd, X0, w, dv.rev, q, k.up e, Kx.no⟩⟩
end
end K3

/-! the plain layer: three names at once -/
namespace K3
open PySem L2 Xr K1
section
variable {X : Cx} {e a b c : Expr} {pos : Pos} {aa : DA}
def dPar3 (i j l : Nat) (aa : DA) : DS := fun D ρ S => aa ρ S fun ds S1 => match ds with
  | [d, d', d2] => D.nx (st (st (st ρ i d) j d') l d2) S1
  | _ => False
theorem qs_par3 {md : Md} {i j l : Nat} {x y z : Str} {px py pz pt : Pos} {kt k2 pt2} (hc : X.calm = true) (hN : X.N.Nodup) (hi : X.N[i]? = some x) (hj : X.N[j]? = some y) (hl : X.N[l]? = some z) (hij : i ≠ j) (hil : i ≠ l) (hjl : j ≠ l)
    (hx : X.env.scope.names.lookup x = some .local) (hy : X.env.scope.names.lookup y = some .local) (hz : X.env.scope.names.lookup z = some .local) (ha : QA X [a, b, c] aa)
    (hw : swappedStores [.Tuple [.Name x px, .Name y py, .Name z pz] kt pt] (.Tuple [a, b, c] k2 pt2) X.env = pure (some [x, y, z]))
    (hs : swapsWithSole [.Tuple [.Name x px, .Name y py, .Name z pz] kt pt] (.Tuple [a, b, c] k2 pt2) pos.line X.env = pure false := by rfl) :
    QS X (.Assign [.Tuple [.Name x px, .Name y py, .Name z pz] kt pt] (.Tuple [a, b, c] k2 pt2) pos) (dPar3 i j l aa) := ps_weak (ps_par3 hc hN hi hj hl hij hil hjl hx hy hz ha hw hs) fun D σ H ⟨B, ρ, S, m, Dd, at_, q, k⟩ =>
  ⟨B, ρ, S, m, _, at_, q, fun ds S' vs H' m' q e w dv => by
    match ds, q, dv with
    | [d, d', d2], q, dv =>
      cases dv with
      | cons da r =>
        obtain ⟨y, z, rfl, dy, dz⟩ := dv2 r
        exact ⟨_, y, z, rfl, k.nx _ _ _ _ _ q ((((at_.step e w).setv da).setv dy).setv dz)⟩⟩
end
end K3

/-! what moves while the deal goes on -/
namespace K1
open PySem L2 Xr
def N0 (d c : Addr) : Addr → Prop := fun a => a = d ∨ a = c
theorem But.bt {d c : Addr} {H H' : Hp} (b : But d c H H') : Bt (N0 d c) H H' := fun a o n e => b a o e (fun z => n (.inl z)) (fun z => n (.inr z))
/-- the deal went on, all else stands -/
structure Mv (d c : Addr) (H H' : Hp) : Prop where
  D : DealAt H' d c
  b : But d c H H'
theorem DealAt.same {d c : Addr} {H H' : Hp} (D : DealAt H d c) (s : Same H H') : DealAt H' d c := by
  obtain ⟨cs, b, h1, h2, r⟩ := D.ex
  exact ⟨cs, b, s _ _ h1, s _ _ h2, r⟩
theorem Mv.refl {d c : Addr} {H : Hp} (D : DealAt H d c) : Mv d c H H := ⟨D, But.refl⟩
theorem Mv.trans {d c : Addr} {H H1 H2 : Hp} (a : Mv d c H H1) (b : Mv d c H1 H2) : Mv d c H H2 := ⟨b.D, a.b.trans b.b⟩
theorem But.same {d c : Addr} {H H1 H2 : Hp} (a : But d c H H1) (s : Same H1 H2) : But d c H H2 := fun q o e n m => s q o (a q o e n m)
theorem Mv.same {d c : Addr} {H H1 H2 : Hp} (a : Mv d c H H1) (s : Same H1 H2) : Mv d c H H2 := ⟨a.D.same s, a.b.same s⟩
theorem Mv.new {d c l : Addr} {H H1 : Hp} {o : HO} (a : Mv d c H H1) (hl : H1 l = none) : Mv d c H (upd H1 l o) := a.same ((Same.refl H1).new hl)
theorem Mv.trk {d c : Addr} {H H1 : Hp} (a : Mv d c H H1) : ∀ x, N0 d c x → Trk H1 x := fun x hx => by
  obtain ⟨t1, t2⟩ := a.D.trk
  rcases hx with e | e
  · rw [e]; exact t1
  · rw [e]; exact t2
section
variable {K : PySem.W.Frag} {d c : Addr} {H H1 : Hp}
theorem Dm.mv {v : V} {x : PyData} (h : Dm K (N0 d c) H v x) (m : Mv d c H H1) : Dm K (N0 d c) H1 v x := h.up m.b.bt
theorem SEnv.mv {L : List Nat} {σ : L2.St} {D : DEnv} (h : SEnv K (N0 d c) L σ H D) (m : Mv d c H H1) : SEnv K (N0 d c) L σ H1 D := h.up m.b.bt
theorem of_data {v : V} {ds : List PyData} {Q : VK} {E : XK} (D : DealAt H d c) (h : Dm K (N0 d c) H v (.list ds)) (h0 : 0 < ds.length) (h1 : ds.length < 1000000)
    (k : ∀ (v' : V) (x : PyData) (H' : Hp), x ∈ ds → Dm K (N0 d c) H' v' x → Mv d c H H' → Q v' H') : spOf [.ref d, v] H Q E := by
  cases h with
  | @lst a xs _ e n al =>
    have l := al.len
    refine ⟨d, c, D, .inl ⟨a, xs, rfl, e, fun z => n (.inl z), fun z => n (.inr z), by omega, by omega, fun v' H' hv D' b' => ?_⟩⟩
    obtain ⟨i, hi⟩ := List.getElem?_of_mem hv
    obtain ⟨x, hx, dx⟩ := al.getV hi
    exact k v' x H' (List.mem_of_getElem? hx) (dx.mv ⟨D', b'⟩) ⟨D', b'⟩
end
end K1

/-! data of drawn documents -/
namespace K1
open PySem L2 Xr
theorem sg_of {g z : Str} (h : hasOnly z g = true) (hg : (g.cps.toList.all fun c => decide (c < 1114112)) = true) : Sg z := fun c hc => by
  unfold hasOnly at h
  have h1 := of_decide_eq_true (List.all_eq_true.mp h c hc)
  exact of_decide_eq_true (List.all_eq_true.mp hg c h1)
theorem name_facts {z : Str} (h : nameD (.str z) = true) : Sg z ∧ z.length ≤ 8 := by
  have e : nameD (.str z) = (decide (z.length ≠ 0) && (decide (z.length ≤ 8) && hasOnly z abc)) := rfl
  rw [e, Bool.and_eq_true, Bool.and_eq_true] at h
  exact ⟨sg_of h.2.2 (by decide +kernel), of_decide_eq_true h.2.1⟩
theorem text_facts {z : Str} (h : textD (.str z) = true) : Sg z ∧ z.length ≤ 16 := by
  have e : textD (.str z) = (decide (z.length ≤ 16) && hasOnly z abc9) := rfl
  rw [e, Bool.and_eq_true] at h
  exact ⟨sg_of h.2 (by decide +kernel), of_decide_eq_true h.1⟩
mutual
def Doc.cnt : Doc → Nat
  | .txt _ => 1
  | .nod _ ts => 1 + cntD ts
def cntD : List Doc → Nat
  | [] => 0
  | t :: ts => t.cnt + cntD ts
end
mutual
def Doc.hgt : Doc → Nat
  | .txt _ => 0
  | .nod _ ts => 1 + hgtD ts
def hgtD : List Doc → Nat
  | [] => 0
  | t :: ts => max t.hgt (hgtD ts)
end
mutual
def Doc.ok : Doc → Prop
  | .txt z => textD (.str z) = true
  | .nod x ts => nameD (.str x) = true ∧ okD ts
def okD : List Doc → Prop
  | [] => True
  | t :: ts => t.ok ∧ okD ts
end
theorem cntD_app : ∀ ts us : List Doc, cntD (ts ++ us) = cntD ts + cntD us
  | [], us => by show cntD us = 0 + cntD us; omega
  | t :: ts, us => by
    show t.cnt + cntD (ts ++ us) = t.cnt + cntD ts + cntD us
    rw [cntD_app ts us]
    omega
theorem hgtD_app : ∀ ts us : List Doc, hgtD (ts ++ us) = max (hgtD ts) (hgtD us)
  | [], us => by show hgtD us = max 0 (hgtD us); omega
  | t :: ts, us => by
    show max t.hgt (hgtD (ts ++ us)) = max (max t.hgt (hgtD ts)) (hgtD us)
    rw [hgtD_app ts us]
    omega
theorem okD_app : ∀ ts us : List Doc, okD (ts ++ us) ↔ okD ts ∧ okD us
  | [], us => ⟨fun h => ⟨trivial, h⟩, fun h => h.2⟩
  | t :: ts, us => ⟨fun h => ⟨⟨h.1, ((okD_app ts us).mp h.2).1⟩, ((okD_app ts us).mp h.2).2⟩, fun h => ⟨h.1.1, (okD_app ts us).mpr ⟨h.1.2, h.2⟩⟩⟩
theorem cnt_pos (t : Doc) : 1 ≤ t.cnt := by
  cases t with
  | txt z => exact Nat.le_refl _
  | nod x ts =>
    show 1 ≤ 1 + cntD ts
    omega
theorem cntD_len : ∀ ts : List Doc, ts.length ≤ cntD ts
  | [] => Nat.le_refl _
  | t :: ts => by
    have := cntD_len ts
    have := cnt_pos t
    show ts.length + 1 ≤ t.cnt + cntD ts
    omega
theorem cntD_mem : ∀ {ts : List Doc} {t : Doc}, t ∈ ts → t.cnt ≤ cntD ts
  | u :: ts, t, h => by
    show t.cnt ≤ u.cnt + cntD ts
    rcases List.mem_cons.mp h with e | h
    · rw [e]
      omega
    · have := cntD_mem h
      omega
theorem hgtD_mem : ∀ {ts : List Doc} {t : Doc}, t ∈ ts → t.hgt ≤ hgtD ts
  | u :: ts, t, h => by
    show t.hgt ≤ max u.hgt (hgtD ts)
    rcases List.mem_cons.mp h with e | h
    · rw [e]
      omega
    · have := hgtD_mem h
      omega
theorem okD_mem : ∀ {ts : List Doc} {t : Doc}, okD ts → t ∈ ts → t.ok
  | u :: ts, t, o, h => by
    rcases List.mem_cons.mp h with e | h
    · rw [e]
      exact o.1
    · exact okD_mem o.2 h
mutual
theorem AT.facts : ∀ t : AT, t.doc.cnt = t.cnt ∧ t.doc.hgt = t.hgt ∧ (t.ok → t.doc.ok)
  | .txt z => ⟨rfl, rfl, id⟩
  | .nod a k x ts => by
    obtain ⟨h1, h2, h3⟩ := atAll_facts ts
    refine ⟨?_, ?_, fun h => ⟨h.1, h3 h.2⟩⟩
    · show 1 + cntD (docAll ts) = 1 + cntAll ts
      rw [h1]
    · show 1 + hgtD (docAll ts) = 1 + hgtAll ts
      rw [h2]
theorem atAll_facts : ∀ ts : List AT, cntD (docAll ts) = cntAll ts ∧ hgtD (docAll ts) = hgtAll ts ∧ (okAll ts → okD (docAll ts))
  | [] => ⟨rfl, rfl, fun _ => trivial⟩
  | t :: ts => by
    obtain ⟨a1, a2, a3⟩ := AT.facts t
    obtain ⟨b1, b2, b3⟩ := atAll_facts ts
    refine ⟨?_, ?_, fun h => ⟨a3 h.1, b3 h.2⟩⟩
    · show t.doc.cnt + cntD (docAll ts) = t.cnt + cntAll ts
      rw [a1, b1]
    · show max t.doc.hgt (hgtD (docAll ts)) = max t.hgt (hgtAll ts)
      rw [a2, b2]
end
mutual
theorem Doc.data : ∀ t : Doc, t.ok → Vd (2 * t.hgt) t.dat ∧ wt t.dat ≤ 20 * t.cnt
  | .txt z, h => by
    obtain ⟨a, b⟩ := text_facts (show textD (.str z) = true from h)
    refine ⟨(vd_str a).mono (Nat.zero_le _), ?_⟩
    show 1 + z.length ≤ 20 * 1
    omega
  | .nod x ts, h => by
    obtain ⟨sx, lx⟩ := name_facts h.1
    obtain ⟨i1, i2⟩ := docs_data ts h.2
    refine ⟨?_, ?_⟩
    · show Vd (2 * (1 + hgtD ts)) (.tuple [.str x, .tuple (datAll ts)])
      have e : 2 * (1 + hgtD ts) = 2 * hgtD ts + 1 + 1 := by omega
      rw [e]
      refine vd_tup fun y hy => ?_
      simp only [List.mem_cons, List.not_mem_nil, or_false] at hy
      rcases hy with hy | hy
      · rw [hy]
        exact (vd_str sx).mono (Nat.zero_le _)
      · rw [hy]
        exact vd_tup i1
    · show 1 + ((1 + x.length) + ((1 + wtAll (datAll ts)) + 0)) ≤ 20 * (1 + cntD ts)
      omega
theorem docs_data : ∀ ts : List Doc, okD ts → (∀ y ∈ datAll ts, Vd (2 * hgtD ts) y) ∧ wtAll (datAll ts) ≤ 20 * cntD ts
  | [], _ => ⟨fun y hy => by
      have hy' : y ∈ ([] : List PyData) := hy
      simp at hy', Nat.le_refl _⟩
  | t :: ts, h => by
    obtain ⟨a1, a2⟩ := Doc.data t h.1
    obtain ⟨b1, b2⟩ := docs_data ts h.2
    have ec : cntD (t :: ts) = t.cnt + cntD ts := rfl
    have eh : hgtD (t :: ts) = max t.hgt (hgtD ts) := rfl
    refine ⟨fun y hy => ?_, ?_⟩
    · have hy' : y ∈ t.dat :: datAll ts := hy
      rcases List.mem_cons.mp hy' with e | e
      · rw [e]
        exact a1.mono (by omega)
      · exact (b1 y e).mono (by omega)
    · show wt t.dat + wtAll (datAll ts) ≤ _
      omega
end
end K1

/-! texts of documents -/
namespace K1
open PySem L2 Xr
mutual
/-- the signs of a thing's text -/
def Doc.ch : Doc → List Nat
  | .txt z => 34 :: (z.cps.toList ++ [34])
  | .nod x ts => x.cps.toList ++ 40 :: ((chT ts).tail ++ [41])
/-- the texts of things, a blank ahead of each -/
def chT : List Doc → List Nat
  | [] => []
  | t :: ts => 32 :: (t.ch ++ chT ts)
end
def strOf (l : List Nat) : Str := ⟨l.toArray⟩
theorem strOf_cps (l : List Nat) : (strOf l).cps.toList = l := by simp [strOf]
theorem strOf_len (l : List Nat) : (strOf l).length = l.length := by
  show l.toArray.size = l.length
  simp
theorem strOf_eq (z : Str) : strOf z.cps.toList = z := by
  cases z
  simp [strOf]
theorem str_ext {a b : Str} (h : a.cps.toList = b.cps.toList) : a = b := by rw [← strOf_eq a, ← strOf_eq b, h]
theorem strOf_app (a b : List Nat) : strOf a ++ strOf b = strOf (a ++ b) := str_ext (by rw [cps_app, strOf_cps, strOf_cps, strOf_cps])
def Doc.tx (t : Doc) : Str := strOf t.ch
def txAll (ts : List Doc) : Str := strOf (chT ts).tail
theorem chT_map : ∀ ts : List Doc, chT ts = (ts.map fun t => 32 :: t.ch).flatten
  | [] => rfl
  | t :: ts => by
    show 32 :: (t.ch ++ chT ts) = _
    rw [chT_map ts]
    rfl
theorem join_sp : ∀ ys : List Str, (Str.join (Str.ofString " ") ys).cps.toList = ((ys.map fun y => 32 :: y.cps.toList).flatten).tail
  | [] => rfl
  | [y] => by
    show y.cps.toList = _
    simp
  | y :: y2 :: r => by
    have ih := join_sp (y2 :: r)
    have e : Str.join (Str.ofString " ") (y :: y2 :: r) = y ++ Str.ofString " " ++ Str.join (Str.ofString " ") (y2 :: r) := rfl
    have t0 : (Str.ofString " ").cps.toList = [32] := by decide +kernel
    rw [e, cps_app, cps_app, ih, t0]
    simp
theorem join_tx (ts : List Doc) : Txt.join (Str.ofString " ") (ts.map Doc.tx) = txAll ts := by
  show Builtin.Str.glued (Str.ofString " ") (ts.map Doc.tx) = _
  rw [StrLaws.glued_eq_join]
  refine str_ext ?_
  rw [join_sp, txAll, strOf_cps, chT_map, List.map_map]
  have e : ((fun y => 32 :: y.cps.toList) ∘ Doc.tx) = fun (t : Doc) => 32 :: t.ch := by
    funext t
    show 32 :: (strOf t.ch).cps.toList = _
    rw [strOf_cps]
  rw [e]
theorem tx_txt (z : Str) : Str.ofString "\"" ++ z ++ Str.ofString "\"" = (Doc.txt z).tx := by
  refine str_ext ?_
  have t0 : (Str.ofString "\"").cps.toList = [34] := by decide +kernel
  rw [cps_app, cps_app, t0]
  show [34] ++ z.cps.toList ++ [34] = (strOf (34 :: (z.cps.toList ++ [34]))).cps.toList
  rw [strOf_cps]
  rfl
theorem tx_nod (x : Str) (ts : List Doc) : x ++ Str.ofString "(" ++ txAll ts ++ Str.ofString ")" = (Doc.nod x ts).tx := by
  refine str_ext ?_
  have t0 : (Str.ofString "(").cps.toList = [40] := by decide +kernel
  have t1 : (Str.ofString ")").cps.toList = [41] := by decide +kernel
  rw [cps_app, cps_app, cps_app, t0, t1]
  show x.cps.toList ++ [40] ++ (strOf (chT ts).tail).cps.toList ++ [41] = (strOf (x.cps.toList ++ 40 :: ((chT ts).tail ++ [41]))).cps.toList
  rw [strOf_cps, strOf_cps]
  simp
theorem cps_len (z : Str) : z.cps.toList.length = z.length := by
  show z.cps.toList.length = z.cps.size
  simp
mutual
theorem ch_len : ∀ t : Doc, t.ok → t.ch.length + 1 ≤ 21 * t.cnt ∧ 0 < t.ch.length
  | .txt z, h => by
    obtain ⟨a, b⟩ := text_facts (show textD (.str z) = true from h)
    have e : (Doc.txt z).ch.length = z.cps.toList.length + 2 := by
      show (34 :: (z.cps.toList ++ [34])).length = _
      simp
    rw [e, cps_len]
    show z.length + 2 + 1 ≤ 21 * 1 ∧ 0 < _
    omega
  | .nod x ts, h => by
    obtain ⟨sx, lx⟩ := name_facts h.1
    have i := chT_len ts h.2
    have e : (Doc.nod x ts).ch.length = x.cps.toList.length + ((chT ts).tail.length + 2) := by
      show (x.cps.toList ++ 40 :: ((chT ts).tail ++ [41])).length = _
      simp
    rw [e, cps_len, List.length_tail]
    show _ ≤ 21 * (1 + cntD ts) ∧ 0 < _
    omega
theorem chT_len : ∀ ts : List Doc, okD ts → (chT ts).length ≤ 21 * cntD ts
  | [], _ => Nat.le_refl _
  | t :: ts, h => by
    have a := ch_len t h.1
    have b := chT_len ts h.2
    show (32 :: (t.ch ++ chT ts)).length ≤ 21 * (t.cnt + cntD ts)
    rw [List.length_cons, List.length_append]
    have := cnt_pos t
    omega
end
end K1

/-! equality of plain values -/
namespace K3
open PySem L2 Xr K1
theorem q_weakD {X : Cx} {e : Expr} {t t' : DE} (h : QE X e t) (i : ∀ ρ S Q, t' ρ S Q → t ρ S Q) : QE X e t' := pe_weak h fun σ H Q ⟨B, ρ, S, m, Qd, at_, q, k⟩ => ⟨B, ρ, S, m, Qd, at_, i _ _ _ q, k⟩
theorem qt_weakD {X : Cx} {e : Expr} {t t' : DT} (h : QT X e t) (i : ∀ ρ S Q, t' ρ S Q → t ρ S Q) : QT X e t' := pt_weak h fun σ H Q ⟨B, ρ, S, m, Qd, at_, q, k⟩ => ⟨B, ρ, S, m, Qd, at_, i _ _ _ q, k⟩
theorem qs_weakD {X : Cx} {s : Stmt} {t t' : DS} (h : QS X s t) (i : ∀ D ρ S, t' D ρ S → t D ρ S) : QS X s t' := ps_weak h fun D σ H ⟨B, ρ, S, m, Dd, at_, q, k⟩ => ⟨B, ρ, S, m, Dd, at_, i _ _ _ q, k⟩
theorem eqOk_str (x y : Str) : eqOk (.str x) (.str y) := .inl ⟨rfl, rfl, fun _ _ e => (nomatch e), fun _ _ e => (nomatch e)⟩
theorem eqOk_int (i j : Int) : eqOk (.int i) (.int j) := .inl ⟨rfl, rfl, fun _ _ e => (nomatch e), fun _ _ _ e => (nomatch e)⟩
theorem eqOk_nonL (b : PyData) (h2 : scalD b = true) : eqOk .none b := .inl ⟨rfl, h2, fun _ _ e => (nomatch e), fun _ _ e => (nomatch e)⟩
theorem eqv_strD (x y : Str) : PyData.eqv (.str x) (.str y) = decide (x = y) := by
  show (x == y) = _
  by_cases h : x = y
  · rw [h]; simp
  · rw [decide_eq_false h]
    exact beq_eq_false_iff_ne.mpr h
theorem eqv_intD (x y : Int) : PyData.eqv (.int x) (.int y) = decide (x = y) := by
  show (x == y) = _
  by_cases h : x = y
  · rw [h]; simp
  · rw [decide_eq_false h]
    exact beq_eq_false_iff_ne.mpr h
theorem sg_inj {a b : Nat} (h : (⟨#[a]⟩ : Str) = ⟨#[b]⟩) : a = b := by
  injection h with this
  have := congrArg Array.toList this
  simpa using this
theorem eqv_sg (a b : Nat) : PyData.eqv (.str ⟨#[a]⟩) (.str ⟨#[b]⟩) = decide (a = b) := by
  rw [eqv_strD]
  by_cases h : a = b
  · rw [h]; simp
  · rw [decide_eq_false h]
    exact decide_eq_false fun e => h (sg_inj e)
/-- a sign at a place -/
theorem sg_at {z : Str} {n : Nat} (h : n < z.length) : ∃ c, atI z.cps.toList (n : Int) = some c ∧ z.cps.toList.drop n = c :: z.cps.toList.drop (n + 1) := by
  have l : n < z.cps.toList.length := by rw [cps_len]; exact h
  exact ⟨_, atI_nat (List.getElem?_eq_getElem l), List.drop_eq_getElem_cons l⟩
theorem inS_sg {c : Nat} {z : Str} {S : Sto} {Q : DK} : dInS (.str ⟨#[c]⟩) (.str z) S Q = Q (.bool (decide (c ∈ z.cps.toList))) S := rfl
theorem ninS_sg {c : Nat} {z : Str} {S : Sto} {Q : DK} : dNotInS (.str ⟨#[c]⟩) (.str z) S Q = Q (.bool (!decide (c ∈ z.cps.toList))) S := rfl
end K3

/-! the plain layer: order of lists of texts; dicts of the module; n times a list; least of two -/
namespace K3
open PySem L2 Xr K1
section
variable {X : Cx} {e a b : Expr} {es : List Expr} {t ta tb : DE} {aa : DA} {pos p : Pos}
/-- xs < ys, lists of texts -/
def rLtLS (K : PySem.W.Frag) : R2 := fun x y H Q => ∃ (a b : Addr) (xs ys : List Str), x = .ref a ∧ y = .ref b ∧ SqL K H a (xs.map V.str) ∧ SqL K H b (ys.map V.str) ∧ ∀ r : Bool, Q (.bl r) H
theorem op_ltLS (hu : X.A.units < cLine) : OpR X (compareOp .Lt) (rLtLS X.K) := by
  intro pins s σ H x y v u Q I rx ry h
  obtain ⟨a, b, xs, ys, rfl, rfl, ha, hb, q⟩ := h
  cases rx
  cases ry
  obtain ⟨us, ru, pu, _⟩ := I.list ha
  obtain ⟨ws, rw, pw, _⟩ := I.list hb
  have get : ∀ {zs : List Str} {vs : List Value}, Vals (zs.map V.str) vs → ∀ j (h : j < vs.toArray.size), ∃ z t, vs.toArray[j] = .str z t := by
    intro zs vs r j hj
    induction zs generalizing vs j with
    | nil =>
      cases r
      simp at hj
    | cons z zs ih =>
      cases r with
      | cons r1 r2 =>
        obtain ⟨t, e⟩ := r1
        cases j with
        | zero => exact ⟨z, t, by simpa using e⟩
        | succ j =>
          obtain ⟨z', t', e'⟩ := ih r2 j (by simpa using hj)
          exact ⟨z', t', by simpa using e'⟩
  have hl : s.heap.IsList a us.toArray := by
    obtain ⟨o, n, h1, h2, _, h3⟩ := pu
    exact ⟨o, h1, h2, n, h3⟩
  have hl2 : s.heap.IsList b ws.toArray := by
    obtain ⟨o, n, h1, h2, _, h3⟩ := pw
    exact ⟨o, h1, h2, n, h3⟩
  let eq : Nat → Bool := fun j => match us.toArray[j]?, ws.toArray[j]? with
    | some (.str x _), some (.str y _) => x == y
    | _, _ => false
  let lt : Nat → Bool := fun j => match us.toArray[j]?, ws.toArray[j]? with
    | some (.str x _), some (.str y _) => decide (x.cps.toList < y.cps.toList)
    | _, _ => false
  refine SeqAt.RcLt.lists (e := eq) (r := lt) hl hl2 hu (fun j h1 h2 => ?_) (fun j h1 h2 _ => ?_) X.prog X.w _ _ ⟨.bl _, H, I, rfl, q _⟩
  · obtain ⟨x, t, ex⟩ := get ru j h1
    obtain ⟨y, t', ey⟩ := get rw j h2
    have e1 : eq j = (x == y) := by
      show (match us.toArray[j]?, ws.toArray[j]? with | some (.str x _), some (.str y _) => x == y | _, _ => false) = _
      rw [Array.getElem?_eq_getElem h1, Array.getElem?_eq_getElem h2, ex, ey]
    rw [ex, ey, e1]
    exact SeqAt.EqAt.str_str x t y t'
  · obtain ⟨x, t, ex⟩ := get ru j h1
    obtain ⟨y, t', ey⟩ := get rw j h2
    have e1 : lt j = decide (x.cps.toList < y.cps.toList) := by
      show (match us.toArray[j]?, ws.toArray[j]? with | some (.str x _), some (.str y _) => decide (x.cps.toList < y.cps.toList) | _, _ => false) = _
      rw [Array.getElem?_eq_getElem h1, Array.getElem?_eq_getElem h2, ex, ey]
    rw [ex, ey, e1]
    exact fun _ _ _ _ h => PyProof.Rows.lt_str h
def dLtLS : D2 := fun x y S Q => wh (itemsD S x) fun xs => wh (itemsD S y) fun ys => wh (strsD xs) fun _ => wh (strsD ys) fun _ => isTupD x = false ∧ isTupD y = false ∧ ∀ r : Bool, Q (.bool r) S
theorem snd_ltLS {K : PySem.W.Frag} : Snd2 K dLtLS (rLtLS K) := fun m H S x y a b Q Qd w dx dy h k => by
  obtain ⟨xs, h1, h⟩ := wh_of h
  obtain ⟨ys, h2, h⟩ := wh_of h
  obtain ⟨zs, h3, h⟩ := wh_of h
  obtain ⟨us, h4, n1, n2, h⟩ := wh_of h
  obtain ⟨p, vs, rfl, hq, al⟩ := dx.items2 w h1
  obtain ⟨p2, vs2, rfl, hq2, al2⟩ := dy.items2 w h2
  have e1 := strs_dv al h3
  have e2 := strs_dv al2 h4
  subst e1 e2
  rcases hq with ⟨_, hq⟩ | ⟨hq, _⟩
  · rcases hq2 with ⟨_, hq2⟩ | ⟨hq2, _⟩
    · exact ⟨p, p2, zs, us, rfl, rfl, hq, hq2, fun r => k _ _ _ _ _ (h r) Evo.refl w (.bl _)⟩
    · rw [n2] at hq2; cases hq2
  · rw [n1] at hq; cases hq
/-! a dict of the module -/
def dKin (a : Addr) (M : Str → Option (Option Int)) (neg : Bool) : D2
  | .str z, y, S, Q => y = glo a ∧ wh (M z) fun r => Q (.bool (if neg = true then !r.isSome else r.isSome)) S
  | _, _, _, _ => False
def dKix (a : Addr) (M : Str → Option (Option Int)) : D2
  | x, .str z, S, Q => x = glo a ∧ wh (M z) fun r => wh r fun i => Q (.int i) S
  | _, _, _, _ => False
/-- what the written part says of such a dict of whole numbers -/
def KInts (K : PySem.W.Frag) (a : Addr) (M : Str → Option (Option Int)) : Prop := ∀ z r, M z = some r → (r = none → PySem.W.nsIn K a z = some none) ∧ ∀ i, r = some i → ∃ t, PySem.W.nsIn K a z = some (some (.int i t))
theorem glo_dv {K : PySem.W.Frag} {m : Mp} {H : Hp} {x : V} {a : Addr} (h : Dv K m H x (glo a)) : x = .ref a := by
  generalize e : glo a = d at h
  cases h with
  | glo b =>
    have := (List.cons.inj (PyData.dict.inj e)).1
    have := int_addr (congrArg Prod.fst this)
    rw [this]
  | cel _ =>
    have := (List.cons.inj (PyData.dict.inj e)).1
    cases congrArg Prod.snd this
  | frz _ _ _ _ =>
    have := (List.cons.inj (PyData.dict.inj e)).1
    cases congrArg Prod.fst this
  | ins _ _ _ _ _ _ =>
    have := (List.cons.inj (PyData.dict.inj e)).1
    cases congrArg Prod.fst this
  | exd _ _ _ _ =>
    have := (List.cons.inj (PyData.dict.inj e)).1
    cases congrArg Prod.snd this
  | _ => cases e
theorem snd_kin {K : PySem.W.Frag} {a : Addr} {M : Str → Option (Option Int)} (hM : KInts K a M) : Snd2 K (dKin a M true) (fun x y H Q => ∃ (z : Str) (r : Option Value), x = .str z ∧ y = .ref a ∧ PySem.W.nsIn K a z = some r ∧ Q (.bl (!r.isSome)) H) := fun m H S x y d d2 Q Qd w dx dy h k => by
  cases d <;> first | exact False.elim h | skip
  cases dx
  obtain ⟨rfl, h⟩ := h
  obtain ⟨r, h1, h⟩ := wh_of h
  rw [if_pos rfl] at h
  obtain ⟨m1, m2⟩ := hM _ _ h1
  cases r with
  | none => exact ⟨_, none, rfl, glo_dv dy, m1 rfl, k _ _ _ _ _ h Evo.refl w (.bl _)⟩
  | some i =>
    obtain ⟨t, e⟩ := m2 i rfl
    exact ⟨_, _, rfl, glo_dv dy, e, k _ _ _ _ _ h Evo.refl w (.bl _)⟩
theorem snd_kix {K : PySem.W.Frag} {w0 : World} {a : Addr} {es : Array DictEntry} {n : Nat} {M : Str → Option (Option Int)} (hD : KDict K w0 a es n) (hM : KInts K a M) : Snd2 K (dKix a M) (rIxD K w0) := fun m H S x y d d2 Q Qd w dx dy h k => by
  cases d2 <;> first | exact False.elim h | skip
  cases dy
  obtain ⟨rfl, h⟩ := h
  obtain ⟨r, h1, h⟩ := wh_of h
  obtain ⟨i, h2, h⟩ := wh_of h
  obtain ⟨m1, m2⟩ := hM _ _ h1
  obtain ⟨t, e⟩ := m2 i h2
  exact ⟨a, _, .int i, glo_dv dx, rfl, ⟨es, n, _, hD.at_, hD.lit, e, ⟨t, rfl⟩⟩, k _ _ _ _ _ h Evo.refl w (.int i)⟩
theorem q_kix {es2 : Array DictEntry} {n : Nat} {a0 : Addr} {M : Str → Option (Option Int)} (hD : KDict X.K X.w a0 es2 n) (hM : KInts X.K a0 M) (ha : QE X a ta) (hb : QE X b tb) (hp : PlainIx b) : QE X (.Subscript a b pos) (dOp (dKix a0 M) ta tb) := q_ix ix_kdict (snd_kix hD hM) ha hb hp
/-! [x] * n -/
def dRepL : D2 := fun x y S Q => isTupD x = false ∧ wh (itemsD S x) fun ds => match x, y with
  | .list _, .int k => (0 ≤ k ∧ k ≤ 100000 ∧ ds.length * k.toNat ≤ 1000000) ∧ Q (.list (List.replicate k.toNat ds).flatten) S
  | _, _ => False
theorem dv_repl {K : PySem.W.Frag} {m : Mp} {H : Hp} {vs : List V} {ds : List PyData} (h : DvAll K m H vs ds) : ∀ n : Nat, DvAll K m H (List.replicate n vs).flatten (List.replicate n ds).flatten
  | 0 => .nil
  | n + 1 => by
    rw [List.replicate_succ, List.replicate_succ, List.flatten_cons, List.flatten_cons]
    exact h.app (dv_repl h n)
theorem snd_repL {K : PySem.W.Frag} : Snd2 K dRepL rRep := fun m H S x y a b Q Qd w dx dy h k => by
  obtain ⟨_, h0⟩ := h
  obtain ⟨ds, h1, h2⟩ := wh_of h0
  cases a <;> first | exact False.elim h2 | skip
  cases b <;> first | exact False.elim h2 | skip
  obtain ⟨⟨k0, k1, k2⟩, h3⟩ := h2
  cases dy
  obtain ⟨p, vs, rfl, hx, nx, al⟩ := dx.seqL
  cases h1
  have l := al.len
  refine ⟨p, _, vs, rfl, rfl, hx, by omega, by omega, by rw [l]; exact line_of k2, fun r hr => ?_⟩
  exact k.newL w (dv_repl al _) h3 r hr
theorem q_repL (ha : QE X a ta) (hb : QE X b tb) : QE X (.BinOp a .Mult b pos) (dOp dRepL ta tb) := q_op op_rep snd_repL ha hb
/-! min(i, j) -/
def dMin2 : List PyData → Sto → DK → Prop := fun ds S Q => match ds with
  | [.int i, .int j] => Q (.int (if j < i then j else i)) S
  | _ => False
theorem snd_min2 {K : PySem.W.Frag} : SndL K dMin2 (fun xs H Q => ∃ i j, xs = [.int i, .int j] ∧ Q (.int (if j < i then j else i)) H) := fun m H S xs ds Q Qd w dx h k => by
  match ds, dx, h with
  | [.int i, .int j], dx, h =>
    obtain ⟨x, y, rfl, d1, d2⟩ := dv2 dx
    cases d1
    cases d2
    exact ⟨i, j, rfl, k _ _ _ _ _ h Evo.refl w (.int _)⟩
theorem q_min2 {e2 : Expr} (hc : X.calm = true) (hm : X.mg "min" = none) (hg : Gl X "min") (ha : QA X [e, e2] aa) (he : starEach [e, e2] X.env = (false, eval e X.env) :: starEach [e2] X.env := by rfl) (hpl : (backTo pos (starEach [e2] X.env)).any (·.1) = false := by rfl) : QE X (.Call (.Name "min" p) [e, e2] [] pos) (dCall dMin2 aa) :=
  q_callB (call_min2 hc) snd_min2 hg hm (by decide +kernel) ha (by decide) (by decide) he hpl
end
end K3

/-! the end of a law whose def asks repr -/
namespace Grd
open PySem PySem.Spec PyProof.Rows L2
theorem lawG {P : Program} {w : World} {K : PySem.W.Frag} {mg mb : Str → Option Value} {k : Nat} {fa a : Addr} {fd : FuncData} {x : Str} {sp : Sp} {st : Shared} {vs : List Value} {ns : List Int}
    (inK : K.In st.heap) (ng : st.heap.Ns mainGlobals mg) (nb : st.heap.Ns builtinsNs mb) (bb : ∀ x : Str, x ≠ "__name__" → mb x = bootBuiltins x) (nl : st.heap.NoLimit) (gn : st.gens = #[])
    (sa : st.heap.get? a = some { cls := .type "list", data := .seq vs.toArray }) (ia : IntsAre vs ns) (few : ns.length ≤ sizeLine) (hr : Room k callerA)
    (F : ∀ base : Heap, K.In base → base.Ns mainGlobals mg → FnG P w K mg base CX0 k fa fd [x] sp) (bi : ∀ (s : Shared) (u : Value), BindsTo s fd ⟨[u], []⟩ [(x, u)])
    (hs : ∀ H : Hp, SqL K H a (ns.map V.int) → sp [.ref a] H (fun v _ => v = .bl true) fun _ _ _ => False) :
    codeAny (model P w) callerA (.call (.ref fa) ⟨[.ref a], []⟩) (fun r s' => r = .ok (.ret (.bool true)) ∧ PySem.OldK st.heap s'.heap ∧ s'.os = st.os ∧ AllBare s'.gens) st := by
  have rel := vals_ints ia
  have lens := ia.length
  -- what is tracked at the entry: nothing, or the script alone
  have go : ∀ H : Hp, (∀ b, H b = none ∨ (b = a ∧ H b = some (.frz { cls := .type "list", data := .seq vs.toArray } (.lst (ns.map V.int))))) → SqL K H a (ns.map V.int) → HOk P w H st.heap → (H a ≠ none → K.lookup a = none) →
      codeAny (model P w) callerA (.call (.ref fa) ⟨[.ref a], []⟩) (fun r s' => r = .ok (.ret (.bool true)) ∧ PySem.OldK st.heap s'.heap ∧ s'.os = st.os ∧ AllBare s'.gens) st := by
    intro H only sq hok notK
    have isA : ∀ {b : Addr}, H b ≠ none → b = a := fun {b} h => (only b).elim (fun z => absurd z h) fun z => z.1
    have free : ∀ {b : Addr} {o : Obj} {es : Array DictEntry} {ep : Nat}, st.heap.get? b = some o → o.data = .dict es ep → H b = none := fun {b o es ep} e d => by
      rcases only b with z | ⟨rfl, z⟩
      · exact z
      · rw [sa] at e
        cases e
        have d' : Data.seq vs.toArray _ = Data.dict es ep := d
        cases d'
    have hid : ∀ {b : Addr} {m : Str → Option Value}, st.heap.Ns b m → (hidT st.heap H).Ns b m := fun {b m} ⟨o, es, ep, e, d, r⟩ => ⟨o, es, ep, hidT_get e (free e d), d, r⟩
    have kb : K.In (hidT st.heap H) := fun b o e => by
      refine hidT_get (inK b o e) ?_
      rcases only b with z | ⟨rfl, z⟩
      · exact z
      · rw [notK (by rw [z]; simp)] at e
        cases e
    have md : Mod K mg (hidT st.heap H) := by
      obtain ⟨mc, c1, c2⟩ := nl
      exact ⟨kb, hid ng, ⟨mb, hid nb, bb⟩, ⟨mc, hid c1, c2⟩⟩
    have ev : Env0 P w K mg (hidT st.heap H) callerA [] st H := ⟨rfl, md, fun b o e => of_hidT e, Nat.le_of_eq (hidT_size _ _), trivial, fun b hb => absurd (show b ∈ ([] : List Addr) from hb) (by simp), hok, .of_eq gn⟩
    have run := (F _ kb (hid ng)).run callerA [] st H ⟨[.ref a], []⟩ [.ref a] [.ref a] _ _ rfl hr ev (bi st (.ref a)) (.cons rfl .nil) (hs H sq)
    refine codeAny_mono run fun r s' q => ?_
    cases r with
    | error e => exact q.elim
    | ok fl =>
      cases fl with
      | next => exact q.elim
      | brk => exact q.elim
      | cont => exact q.elim
      | ret u =>
        obtain ⟨v, H', os, bare, un, hok', rv, ev⟩ := q
        have ev' : v = .bl true := ev
        subst ev'
        cases (show u = Value.bool true from rv)
        refine ⟨rfl, PySem.OldK.of_keep fun b o e => ?_, os, bare⟩
        rcases only b with z | ⟨rfl, z⟩
        · exact un.keep b o e z (by intro h; exact absurd (show b ∈ ([] : List Addr) from h) (by simp)) (by simp)
        · have z2 := un.frzs _ _ _ z
          obtain ⟨g1, _⟩ := hok _ _ z
          obtain ⟨g2, _⟩ := hok' _ _ z2
          rw [e] at g1
          cases g1
          exact g2
  cases hk : K.lookup a with
  | some o =>
    have e := inK a o hk
    rw [sa] at e
    cases e
    exact go (fun _ => none) (fun _ => .inl rfl) (.inr ⟨_, vs.toArray, _, hk, rfl, rfl, rfl, by rw [List.size_toArray, lens]; exact few, by simpa using rel⟩) (fun b u z => by
      have z' : (none : Option HO) = some u := z
      cases z') fun z => absurd rfl z
  | none =>
    refine go (fun b => if b = a then some (.frz { cls := .type "list", data := .seq vs.toArray } (.lst (ns.map V.int))) else none) (fun b => ?_) (.inl (.inr ⟨_, if_pos rfl⟩)) (fun b u z => ?_) fun _ => hk
    · by_cases hb : b = a
      · exact .inr ⟨hb, if_pos hb⟩
      · exact .inl (if_neg hb)
    · by_cases hb : b = a
      · have z' := (if_pos hb).symm.trans z
        cases z'
        subst hb
        exact ⟨sa, by rw [List.length_map]; exact few, vs, _, rel, sa⟩
      · have z' := (if_neg hb).symm.trans z
        cases z'
theorem walkG {l : PySem.W.OpenLaw} {n k : Nat} {q : Program} {loose : List Str} {XP : (Str → Option Value) → Heap → Prop} {YP : World → Heap → Prop} {d : DefRec} {K : Params → PySem.W.Frag} {sp : PySem.W.Frag → Sp} {x : Str}
    (hn : l.most = some n) (h2 : n ≤ sizeLine) (hd : d.params.defaults = []) (hr : Room k callerA) (hY : ∀ (w : World) (h : Heap), YP w h → (K w.params).In h)
    (F : ∀ (w : World) (mg : Str → Option Value) (fa : Addr) (h : Heap), (K w.params).In h → h.Ns mainGlobals mg → mg d.name = some (.ref fa) →
      ∃ fd : FuncData, (∀ (s : Shared) (u : Value), BindsTo s fd ⟨[u], []⟩ [(x, u)]) ∧ ∀ base : Heap, (K w.params).In base → base.Ns mainGlobals mg → FnG l.prog w (K w.params) mg base CX0 k fa fd [x] (sp (K w.params)))
    (hs : ∀ (K : PySem.W.Frag) (H : Hp) (a : Addr) (ns : List Int), ns.length ≤ n → SqL K H a (ns.map V.int) → sp K [.ref a] H (fun v _ => v = .bl true) fun _ _ _ => False) :
    PySem.W.WalkO q loose XP YP l.row.toRowW d [] (fun f vs => PySem.call f vs) := by
  refine Att.attach_call hn hd fun w s₀ st mg mb fa o pm cd doc a vs ns G Y ho hdt hcd hmg hobj hints hlen hg => ?_
  have inK := hY w _ Y
  obtain ⟨fd, hb, hF⟩ := F w mg fa _ inK G.T.g hmg
  exact lawG inK G.T.g G.T.b G.T.builtins G.T.nolimit hg hobj hints (Nat.le_trans hlen h2) hr hF hb fun H sq => hs _ H a ns hlen sq
end Grd

/-! the plain layer: a law's begin and end -/
namespace K3
open PySem L2 Xr K1
theorem deal_wd {K : PySem.W.Frag} {H : Hp} {d c : Addr} (D : DealAt H d c) : ∃ m S, Wd K m H S ∧ DealD S 0 1 ∧ m.c 0 = some d := by
  obtain ⟨cs, b, h1, h2, r⟩ := D.ex
  have dc : d ≠ c := fun e => by
    rw [e, h2] at h1
    have := HO.lst.inj (Option.some.inj h1)
    cases cs with
    | nil => cases this
    | cons x xs =>
      have e2 := (List.cons.inj this).1
      cases e2
  let m : Mp := ⟨fun k => if k = 0 then some d else if k = 1 then some c else none, fun _ => False⟩
  have m0 : m.c 0 = some d := rfl
  have m1 : m.c 1 = some c := rfl
  have mn : ∀ n a, m.c n = some a → (n = 0 ∧ a = d) ∨ (n = 1 ∧ a = c) := fun n a e => by
    have e' : (if n = 0 then some d else if n = 1 then some c else none) = some a := e
    by_cases z : n = 0
    · rw [if_pos z] at e'
      exact .inl ⟨z, (Option.some.inj e').symm⟩
    · rw [if_neg z] at e'
      by_cases y : n = 1
      · rw [if_pos y] at e'
        exact .inr ⟨y, (Option.some.inj e').symm⟩
      · rw [if_neg y] at e'
        cases e'
  refine ⟨m, put (put S0 0 (.lst [cel 1, .int b])) 1 (.lst (cs.map PyData.int)), ⟨?_, ?_, ⟨2, fun n hn => ?_⟩, ?_, fun _ _ _ h => h, fun _ h => h.elim⟩, ⟨cs, b, by rw [put_ne (by decide), put_same], put_same, r⟩, m0⟩
  · intro i j a h1 h2
    rcases mn i a h1 with ⟨rfl, rfl⟩ | ⟨rfl, rfl⟩ <;> rcases mn j _ h2 with ⟨rfl, e⟩ | ⟨rfl, e⟩
    · rfl
    · exact absurd e dc
    · exact absurd e.symm dc
    · rfl
  · intro n a h
    rcases mn n a h with ⟨rfl, rfl⟩ | ⟨rfl, rfl⟩
    · exact ⟨_, h1⟩
    · exact ⟨_, h2⟩
  · show (if n = 0 then some d else if n = 1 then some c else none) = none
    rw [if_neg (by omega), if_neg (by omega)]
  · intro n cc e
    by_cases z : n = 1
    · rw [z, put_same] at e
      cases e
      exact ⟨c, by rw [z]; exact m1, _, h2, ints_dv cs⟩
    · rw [put_ne z] at e
      by_cases y : n = 0
      · rw [y, put_same] at e
        cases e
        exact ⟨d, by rw [y]; exact m0, _, h1, .cons (.cel m1) (.cons (.int _) .nil)⟩
      · rw [put_ne y] at e
        cases e
/-- what a law promises -/
def spLaw (K : PySem.W.Frag) : Sp := fun vs H Q _ => ∃ (a : Addr) (ns : List Int), vs = [.ref a] ∧ SqL K H a (ns.map V.int) ∧ ns.length ≤ 63 ∧ ∀ H', Q (.bl true) H'
/-- a law whose first row makes the deal -/
theorem law_go {K : PySem.W.Frag} {W : WZ} {t2 : DS} {N : List Str} {a : Addr} {ns : List Int} {H : Hp} {Q : VK} (hS : SqL K H a (ns.map V.int)) (l : ns.length ≤ 63) (hz : ∀ a, H a = none → W.2 a) (k : ∀ H', Q (.bl true) H') (hN : 2 ≤ N.length)
    (p : ∀ S n k', DealD S n k' → t2 { nx := fun _ _ => False, rt := fun d _ => d = .bool true } (none :: some (cel n) :: List.replicate (N.length - 2) none) S) :
    tSeq (tAsg (tCall (spSource K) [] E0 (tCons (tVar 0) tNil)) (gName 1)) (lftS K W t2) { nx := fun _ H' => Q .non H', rt := Q } (L2.start N [.ref a]) H := by
  have e : L2.start N [.ref a] = some (.ref a) :: none :: List.replicate (N.length - 2) none := by
    unfold L2.start
    obtain ⟨n, hn⟩ : ∃ n, N.length = n + 2 := ⟨N.length - 2, by omega⟩
    rw [hn]
    rfl
  rw [e]
  refine ⟨.ref a, rfl, a, ns, rfl, hS, l, fun d c H' D s h1 h2 => ?_⟩
  obtain ⟨m, S, w, DD, md⟩ := deal_wd (K := K) D
  refine ⟨(m, H'), none :: some (cel 0) :: List.replicate (N.length - 2) none, S, m, _, ⟨Evo.refl, w, ?_⟩, p S 0 1 DD, ?_⟩
  · refine ⟨fun z q => (nomatch q), fun z q => ?_, Fr.none _⟩
    cases q
    exact ⟨_, rfl, .cel md⟩
  · exact ⟨fun _ _ _ _ _ q _ => q.elim, fun d S v H2 m2 q e w dv => by
      subst q
      cases dv
      exact k H2, fun _ _ _ _ _ q _ => q.elim, fun _ _ _ _ _ q _ => q.elim, Lk.no fun q z => hz q (s.free z)⟩
/-- the blocks within -/
def fbody : Stmt → List Stmt
  | .For _ _ b _ _ => b
  | .While _ b _ _ => b
  | .If _ b _ _ => b
  | _ => []
def orelse : Stmt → List Stmt
  | .If _ _ b _ => b
  | _ => []
theorem for_body {a b : Expr} {c d : List Stmt} {p : Pos} : fbody (.For a b c d p) = c := rfl
end K3

/-! all things of a forest, as they are read; texts built from behind -/
namespace K1
open PySem L2 Xr
mutual
def Doc.pre : Doc → List Doc
  | .txt z => [.txt z]
  | .nod x ts => .nod x ts :: preAll ts
def preAll : List Doc → List Doc
  | [] => []
  | t :: ts => t.pre ++ preAll ts
end
def Doc.kids : Doc → List Doc
  | .txt _ => []
  | .nod _ ts => ts
theorem preAll_app : ∀ ts us : List Doc, preAll (ts ++ us) = preAll ts ++ preAll us
  | [], _ => rfl
  | t :: ts, us => by
    show t.pre ++ preAll (ts ++ us) = (t.pre ++ preAll ts) ++ preAll us
    rw [preAll_app ts us, List.append_assoc]
theorem preAll_cons (g : Doc) (gs : List Doc) : preAll (g :: gs) = g :: preAll (g.kids ++ gs) := by
  rw [preAll_app]
  cases g with
  | txt z => rfl
  | nod x ts => rfl
theorem cnt_kids (g : Doc) (gs : List Doc) : cntD (g :: gs) = 1 + cntD (g.kids ++ gs) := by
  rw [cntD_app]
  cases g with
  | txt z =>
    show 1 + cntD gs = 1 + (0 + cntD gs)
    omega
  | nod x ts =>
    show 1 + cntD ts + cntD gs = 1 + (cntD ts + cntD gs)
    omega
theorem preAll_len : ∀ (n : Nat) (fs : List Doc), cntD fs ≤ n → (preAll fs).length = cntD fs
  | _, [], _ => rfl
  | 0, g :: gs, h => by
    have := cnt_kids g gs
    omega
  | n + 1, g :: gs, h => by
    have e := cnt_kids g gs
    rw [preAll_cons, List.length_cons, preAll_len n _ (by omega)]
    omega
theorem suf : ∀ (n : Nat) (gs P S : List Doc) (u : Doc), cntD gs ≤ n → preAll gs = P ++ u :: S → ∃ r, S = preAll (u.kids ++ r)
  | _, [], P, S, u, _, h => by
    have h' : ([] : List Doc) = P ++ u :: S := h
    simp at h'
  | 0, g :: gs, _, _, _, h, _ => by
    have := cnt_kids g gs
    omega
  | n + 1, g :: gs, P, S, u, hl, h => by
    have e := cnt_kids g gs
    rw [preAll_cons] at h
    cases P with
    | nil =>
      injection h with h1 h2
      subst h1
      exact ⟨gs, h2.symm⟩
    | cons p P =>
      injection h with h1 h2
      exact suf n (g.kids ++ gs) P S u (by omega) h2
theorem preAll_inj : ∀ (n : Nat) (fs gs : List Doc), cntD fs ≤ n → preAll fs = preAll gs → fs = gs
  | _, [], [], _, _ => rfl
  | _, [], g :: gs, _, h => by
    rw [preAll_cons] at h
    cases h
  | _, f :: fs, [], _, h => by
    rw [preAll_cons] at h
    cases h
  | 0, f :: fs, _, h, _ => by
    have := cnt_kids f fs
    omega
  | n + 1, f :: fs, g :: gs, hl, h => by
    have e := cnt_kids f fs
    rw [preAll_cons, preAll_cons] at h
    injection h with h1 h2
    subst h1
    have := preAll_inj n (f.kids ++ fs) (f.kids ++ gs) (by omega) h2
    rw [List.append_cancel_left this]
theorem cnt_pre : ∀ (n : Nat) (fs : List Doc), cntD fs ≤ n → ∀ u ∈ preAll fs, u.cnt ≤ cntD fs
  | _, [], _, u, h => by
    have h' : u ∈ ([] : List Doc) := h
    simp at h'
  | 0, g :: gs, h, _, _ => by
    have := cnt_kids g gs
    omega
  | n + 1, g :: gs, hl, u, h => by
    have e := cnt_kids g gs
    rw [preAll_cons] at h
    rcases List.mem_cons.mp h with h | h
    · rw [h]
      show g.cnt ≤ g.cnt + cntD gs
      omega
    · have := cnt_pre n (g.kids ++ gs) (by omega) u h
      omega
theorem ok_kids {g : Doc} {gs : List Doc} (h : okD (g :: gs)) : okD (g.kids ++ gs) := by
  refine (okD_app _ _).mpr ⟨?_, h.2⟩
  cases g with
  | txt z => trivial
  | nod x ts => exact h.1.2
theorem ok_pre : ∀ (n : Nat) (fs : List Doc), cntD fs ≤ n → okD fs → ∀ u ∈ preAll fs, u.ok
  | _, [], _, _, u, h => by
    have h' : u ∈ ([] : List Doc) := h
    simp at h'
  | 0, g :: gs, h, _, _, _ => by
    have := cnt_kids g gs
    omega
  | n + 1, g :: gs, hl, ho, u, h => by
    have e := cnt_kids g gs
    rw [preAll_cons] at h
    rcases List.mem_cons.mp h with h | h
    · rw [h]
      exact ho.1
    · exact ok_pre n (g.kids ++ gs) (by omega) (ok_kids ho) u h
def spTaken (K : PySem.W.Frag) : Sp := fun vs H Q _ => ∃ (m : Addr) (xs ys : List V), vs = [.ref m, .int (ys.length : Int)] ∧ H m = some (.lst (xs ++ ys)) ∧ xs.length + ys.length ≤ 900000 ∧
  ∀ (p : Addr) (H' : Hp), H' m = some (.lst xs) → H' p = some (.lst ys.reverse) → H p = none → (∀ q o, H q = some o → q ≠ m → H' q = some o) → Q (.ref p) H'
def spAllT (K : PySem.W.Frag) : Sp := fun vs H Q _ => ∃ (v : V) (ts : List Doc) (N : Addr → Prop), vs = [v] ∧ Dm K N H v (.tuple (datAll ts)) ∧ cntD ts ≤ 900000 ∧
  ∀ (p : Addr) (us : List V) (H' : Hp), H' p = some (.lst us) → DmAll K N H' us (datAll (preAll ts)) → H p = none → Same H H' → Q (.ref p) H'
def spQuoted : Sp := fun vs H Q _ => ∃ (z : Str), vs = [.str z] ∧ z.length ≤ 1000 ∧ Q (.str (Doc.txt z).tx) H
def spNodeText : Sp := fun vs H Q _ => ∃ (x : Str) (p : Addr) (ts : List Doc), vs = [.str x, .ref p] ∧ H p = some (.lst (ts.map fun t => V.str t.tx)) ∧ x.length ≤ 1000 ∧ okD ts ∧ cntD ts ≤ 1000 ∧ Q (.str (Doc.nod x ts).tx) H
def spText1 (K : PySem.W.Frag) : Sp := fun vs H Q _ => ∃ (v : V) (t : Doc) (N : Addr → Prop), vs = [v] ∧ Dm K N H v t.dat ∧ t.ok ∧ t.cnt ≤ 900 ∧ (∀ a, N a → Trk H a) ∧ ∀ H', Same H H' → Q (.str t.tx) H'
def spBuilt (K : PySem.W.Frag) (aq an : Addr) : Sp := fun vs H Q _ => ∃ (v : V) (t : Doc) (N : Addr → Prop), vs = [v, .ref aq, .ref an] ∧ Dm K N H v t.dat ∧ t.ok ∧ t.cnt ≤ 900 ∧ (∀ a, N a → Trk H a) ∧ ∀ H', Same H H' → Q (.str t.tx) H'
def spForest (K : PySem.W.Frag) : Sp := fun vs H Q _ => ∃ (v : V) (ts : List Doc) (N : Addr → Prop), vs = [v] ∧ Dm K N H v (.tuple (datAll ts)) ∧ okD ts ∧ cntD ts ≤ 900 ∧ (∀ a, N a → Trk H a) ∧ ∀ H', Same H H' → Q (.str (txAll ts)) H'
structure TextTxt (K : PySem.W.Frag) (mg : Str → Option Value) (a_taken a_all_things a_built a_quoted a_node_text a_thing_text : Addr) : Prop where
  n_len : mg "len" = none
  n_list : mg "list" = none
  n_isinstance : mg "isinstance" = none
  n_str : mg "str" = none
theorem datAll_app (ts us : List Doc) : datAll (ts ++ us) = datAll ts ++ datAll us := by rw [datAll_map, datAll_map, datAll_map, List.map_append]
theorem datAll_rev (ts : List Doc) : datAll ts.reverse = (datAll ts).reverse := by rw [datAll_map, datAll_map, List.map_reverse]
/-- the tuple of a node's things -/
theorem Dm.nod {K : PySem.W.Frag} {N : Addr → Prop} {H : Hp} {v : V} {x : Str} {ts : List Doc} (h : Dm K N H v (Doc.nod x ts).dat) : ∃ a y, v = .ref a ∧ Tp K N H a [.str x, y] ∧ Dm K N H y (.tuple (datAll ts)) := Dm.pair h
theorem pt_strD {K : PySem.W.Frag} {N : Addr → Prop} {H : Hp} {v : V} {t : Doc} (h : Dm K N H v t.dat) : TyX K H v (.type (tyN t.dat)) := h.ty
section
variable {P : Program} {w : World} {K : PySem.W.Frag} {mg : Str → Option Value} {base : Heap} {a_taken a_all_things a_built a_quoted a_node_text a_thing_text : Addr} {fdT fdA fdB fdQ fdN fd1 : FuncData}
theorem sum_tx : ∀ ts : List Doc, okD ts → ((ts.map Doc.tx).map (·.length)).sum ≤ 21 * cntD ts
  | [], _ => Nat.le_refl _
  | t :: ts, h => by
    have a := ch_len t h.1
    have b := sum_tx ts h.2
    have e : t.tx.length = t.ch.length := strOf_len _
    have ec : cntD (t :: ts) = t.cnt + cntD ts := rfl
    simp only [List.map_cons, List.sum_cons]
    omega
end
end K1

/-! promises of words, in the plain layer -/
namespace K3
open PySem L2 Xr K1 Exv
section
variable {K : PySem.W.Frag}
def spNameD : SpD := fun ds S Q _ => ∃ d, ds = [d] ∧ pureD d = true ∧ (∀ z, d = .str z → z.length ≤ 900000) ∧ Q (.bool (nameD d)) S
def spTextD : SpD := fun ds S Q _ => ∃ d, ds = [d] ∧ pureD d = true ∧ (∀ z, d = .str z → z.length ≤ 900000) ∧ Q (.bool (textD d)) S
theorem name_imp : ∀ vs H Q E, spD K spNameD vs H Q E → spName K vs H Q E := fun vs H Q E ⟨m, S, ds, Qd, Ed, w, dv, q, kq, _⟩ => by
  obtain ⟨d, rfl, h1, h2, q⟩ := q
  obtain ⟨x, rfl, dx⟩ := dv1 dv
  exact ⟨x, d, Ce m, rfl, Dv.dm _ _ h1 dx, h2, fun H' s => kq.sameC w (.bl _) q s⟩
theorem text_imp : ∀ vs H Q E, spD K spTextD vs H Q E → spText K vs H Q E := fun vs H Q E ⟨m, S, ds, Qd, Ed, w, dv, q, kq, _⟩ => by
  obtain ⟨d, rfl, h1, h2, q⟩ := q
  obtain ⟨x, rfl, dx⟩ := dv1 dv
  exact ⟨x, d, Ce m, rfl, Dv.dm _ _ h1 dx, h2, fun H' s => kq.sameC w (.bl _) q s⟩
end
end K3

/-! any value as a letter, as a part of a rule -/
namespace K3
open PySem L2 Xr K1 Exv
abbrev sIsLet : Stmt := top 12
theorem scIsLet : FnScope ["value"] ["value"] (defScope sIsLet) := ⟨rfl, rfl, rfl, by decide +kernel, rfl, by decide +kernel, by decide +kernel⟩
abbrev sIsPart : Stmt := top 21
theorem scIsPart : FnScope ["value", "letter"] ["value", "letter"] (defScope sIsPart) := ⟨rfl, rfl, rfl, by decide +kernel, rfl, by decide +kernel, by decide +kernel⟩
theorem okTy_pure {S : Sto} {d : PyData} (h : pureD d = true) : okTy S d := by
  cases d <;> first | trivial | cases h
theorem iteN {c : Prop} [Decidable c] {A B : Prop} (h : ¬ c) (b : B) : if c then A else B := by
  rw [if_neg h]
  exact b
theorem iteY {c : Prop} [Decidable c] {A B : Prop} (h : c) (a : A) : if c then A else B := by
  rw [if_pos h]
  exact a
def letD (d : PyData) : Bool := nameD d || PyData.eqv d (.str (Str.ofString ""))
def spLetD : SpD := fun ds S Q _ => ∃ d, ds = [d] ∧ pureD d = true ∧ (∀ z, d = .str z → z.length ≤ 900000) ∧ Q (.bool (letD d)) S
structure VaTxt (K : PySem.W.Frag) (mg : Str → Option Value) (a_is_name a_is_text : Addr) : Prop where
  n_isinstance : mg "isinstance" = none
  n_str : mg "str" = none
  n_tuple : mg "tuple" = none
  n_len : mg "len" = none
  g_is_name : mg "is_name" = some (.ref a_is_name)
  k_is_name : PySem.W.keepIn K (.ref a_is_name) = true
  g_is_text : mg "is_text" = some (.ref a_is_text)
  k_is_text : PySem.W.keepIn K (.ref a_is_text) = true
section
variable {P : Program} {w : World} {K : PySem.W.Frag} {mg : Str → Option Value} {base : Heap} {a_is_name a_is_text : Addr} {d1 d2 d3 : FuncData}
theorem ok_isLet {f : Addr} {fd : FuncData} (F : Fun K "is_letter" "is_letter" sIsLet f fd) (T : VaTxt K mg a_is_name a_is_text)
    (G_is_name : FnOk P w K mg base CX0 2 a_is_name d1 ["value"] (spD K spNameD)) (b_is_name : Binds K d1 ["value"] []) : FnOk P w K mg base CX0 3 f fd ["value"] (spD K spLetD) := by
  refine dok F scIsLet (fun ds S Q E h => ?_) fun cdv A outer s H Q E (hr : Room 2 _) => ⟨_, (qss_one (qs_ret (q_or (q_call hr G_is_name T.g_is_name T.k_is_name b_is_name (by rfl) (by omega) (q_cons (q_var (pv 0)) q_nil)) (q_one (q_and (q_isi .str T.n_isinstance (by rfl) (q_var (pv 0)) (pe_bltn (v := V.ty "str") (u := .type "str") (by rfl) T.n_str (by decide +kernel) (by rfl))) (q_one (q_cmp (op_eqA (u64 hr)) snd_eq (q_var (pv 0)) q_str (nomark _)))))))), fun ds S Qd Er h => ?_⟩
  · obtain ⟨d, rfl, _⟩ := h
    rfl
  · obtain ⟨d, rfl, pd, hl, q⟩ := h
    (dsimp only [dTryAsX, dRetX, dDropX, dSetX, dAsgX, dFnX, dRaise, dTryAs, dTryOnly, dXf, dIsX, dPar3, dFnR, List.reverse_cons, List.reverse_nil, dDelT, mPop0, mPop, mApp, mExt, dFld, dNew, dDGet, dDIn, dZipT, dAll, dTupF, dIdx, dTupRg, dDc, dReprT, dEqT, dNeT, dFor, dLc, dWhile, dRange1, dRange2, dRange3, dEnumT, e_isB, e_tupD, dgUnl, dSeq, dIfS, dSet, dAsg, dRet, dRetN, dDrop, dNext, dPar, dVar, dC, dOp, dB, dTru, dtNot, dtAnd, dtOr, dAnd, dOr, dNot, dIfE, dNeg, dNil, dCons, dTup, dLst, dCel, dNoP, dPart, dSlice, dRevT, dRevL, dCall, on1, dTupOf, dLstOf, dCelOf, dIsi, dName, dgNil, dgCons, dgTup, dFn, dMet, dMet0, gt, st, startD, wh_some, dYes, dEq, dNe, List.map, List.length, List.replicate, List.append, List.cons_append, List.nil_append, dWalk, uns, un, tupNms, dNms, ifT, ifF, List.replicate_succ, List.replicate_zero, Nat.sub_self, Nat.reduceSub, Nat.reduceAdd, Nat.zero_add, Bool.not_true, Bool.not_false, e_addI, e_addS, e_addT, e_addL, e_i2, e_i2c, e_is, e_bool, e_cel, e_strD, e_lenS, e_lenT, e_lenL, e_lenC, e_ixS, e_ixT, e_ixL, e_ixC, e_slS, e_slT, e_slL, e_slC, e_itT, e_itL, e_truN, e_truI, e_truB, e_truL, e_truT, e_okN, e_okB, e_okI, e_okS, e_okL, e_okT, e_okC, e_tupN, e_tupB, e_tupI, e_tupS, e_tupL, e_tupT, e_tupC, e_strN, e_strB, e_strI, e_strS, e_strL, e_strT, e_strC, e_intN, e_intB, e_intI, e_intS, e_intL, e_intT, e_intC, e_boolN, e_boolB, e_boolI, e_boolS, e_boolL, e_boolT, e_boolC, e_lstN, e_lstB, e_lstI, e_lstS, e_lstL, e_lstT, e_lstC, e_nonN, e_nonB, e_nonI, e_nonS, e_nonL, e_nonT, e_wkS, e_wkL, e_wkT, e_wkC, e_join, e_inS, e_ninS, e_ofI, e_ofB, e_abs, e_lenF, e_ixF, e_itF, e_wkF, e_tfF, e_truF, e_repT, e_keyI, e_keyS]; try simp only [true_and, and_true, Nat.reduceLeDiff, reduceIte, reduceCtorEq, Bool.false_eq_true, if_true, if_false, not_false_eq_true, ite_true, ite_false, and_self])
    refine ⟨d, rfl, pd, hl, wh_mk rfl ?_⟩
    cases hn : nameD d with
    | true =>
      refine iteY rfl ?_
      have e : letD d = true := by unfold letD; rw [hn]; rfl
      rw [e] at q
      exact q
    | false =>
      have e : letD d = PyData.eqv d (.str (Str.ofString "")) := by unfold letD; rw [hn]; rfl
      rw [e] at q
      refine iteN (by decide) ⟨okTy_pure pd, ?_⟩
      by_cases hs : isT Ty6.str d = true
      · obtain ⟨z, rfl⟩ : ∃ z, d = .str z := by cases d <;> first | exact ⟨_, rfl⟩ | cases hs
        exact iteY rfl ⟨eqOk_str _ _, q⟩
      · refine iteN hs ?_
        have e2 : PyData.eqv d (.str (Str.ofString "")) = false := by
          cases d <;> first | exact absurd rfl hs | simp [PyData.eqv]
        rw [e2] at q
        exact q
theorem pureAll_memV : ∀ {ds : List PyData}, pureAll ds = true → ∀ {x : PyData}, x ∈ ds → pureD x = true
  | d :: ds, h, x, hx => by
    have h' : (pureD d && pureAll ds) = true := h
    rw [Bool.and_eq_true] at h'
    rcases List.mem_cons.mp hx with e | e
    · rw [e]; exact h'.1
    · exact pureAll_memV h'.2 e
def pNode : List PyData → Bool
  | [x, y] => nameD x && isT Ty6.tup y
  | _ => false
def pSay : List PyData → Bool
  | [x] => textD x
  | _ => false
def pGo (e : Bool) : List PyData → Bool
  | [x] => nameD x && !e
  | _ => false
/-- a part of a rule; e: the letter is the empty text -/
def partB (e : Bool) : PyData → Bool
  | .tuple (a :: r) => if PyData.eqv a (.str (Str.ofString "node")) = true then pNode r
    else if PyData.eqv a (.str (Str.ofString "say")) = true then pSay r
    else if PyData.eqv a (.str (Str.ofString "go")) = true then pGo e r
    else PyData.eqv (.tuple (a :: r)) (.tuple [.str (Str.ofString "keep")]) && e
  | _ => false
def spPartD : SpD := fun ds S Q _ => ∃ (d : PyData) (l : Str), ds = [d, .str l] ∧ pureD d = true ∧ SeqAt.shaped d = true ∧ (∀ ds x z, d = .tuple ds → x ∈ ds → SeqAt.shaped x = true ∧ (x = .str z → z.length ≤ 900000)) ∧ Q (.bool (partB (PyData.eqv (.str l) (.str (Str.ofString ""))) d)) S
theorem ok_isPart {f : Addr} {fd : FuncData} (F : Fun K "_is_part" "_is_part" sIsPart f fd) (T : VaTxt K mg a_is_name a_is_text)
    (G_is_name : FnOk P w K mg base CX0 2 a_is_name d1 ["value"] (spD K spNameD)) (b_is_name : Binds K d1 ["value"] [])
    (G_is_text : FnOk P w K mg base CX0 2 a_is_text d2 ["value"] (spD K spTextD)) (b_is_text : Binds K d2 ["value"] []) : FnOk P w K mg base CX0 3 f fd ["value", "letter"] (spD K spPartD) := by
  refine dok F scIsPart (fun ds S Q E h => ?_) fun cdv A outer s H Q E (hr : Room 2 _) => ⟨_, (qss_cons (qs_if (PW.pt (qw_or (qt_not (qt_tru (q_isi .tup T.n_isinstance (by rfl) (q_var (pv 0)) (pe_bltn (v := V.ty "tuple") (u := .type "tuple") (by rfl) T.n_tuple (by decide +kernel) (by rfl))) (by intro _; rfl))) (qw_or1 (qt_cmp (op_eqA (u64 hr)) snd_eq (q_len T.n_len (by rfl) (q_cons (q_var (pv 0)) q_nil)) q_int (nomark _)))))
      (qss_one (qs_ret q_bl))
      qss_nil)
      (qss_cons (qs_if (qt_cmp (op_eqA (u64 hr)) snd_eq (q_at (q_var (pv 0)) q_int (fun _ _ => rfl)) q_str (nomark _))
      (qss_one (qs_ret (q_and (q_cmp (op_eqA (u64 hr)) snd_eq (q_len T.n_len (by rfl) (q_cons (q_var (pv 0)) q_nil)) q_int (nomark _)) (q_and (q_call hr G_is_name T.g_is_name T.k_is_name b_is_name (by rfl) (by omega) (q_cons (q_at (q_var (pv 0)) q_int (fun _ _ => rfl)) q_nil)) (q_one (q_isi .tup T.n_isinstance (by rfl) (q_at (q_var (pv 0)) q_int (fun _ _ => rfl)) (pe_bltn (v := V.ty "tuple") (u := .type "tuple") (by rfl) T.n_tuple (by decide +kernel) (by rfl))))))))
      qss_nil)
      (qss_cons (qs_if (qt_cmp (op_eqA (u64 hr)) snd_eq (q_at (q_var (pv 0)) q_int (fun _ _ => rfl)) q_str (nomark _))
      (qss_one (qs_ret (q_and (q_cmp (op_eqA (u64 hr)) snd_eq (q_len T.n_len (by rfl) (q_cons (q_var (pv 0)) q_nil)) q_int (nomark _)) (q_one (q_call hr G_is_text T.g_is_text T.k_is_text b_is_text (by rfl) (by omega) (q_cons (q_at (q_var (pv 0)) q_int (fun _ _ => rfl)) q_nil))))))
      qss_nil)
      (qss_cons (qs_if (qt_cmp (op_eqA (u64 hr)) snd_eq (q_at (q_var (pv 0)) q_int (fun _ _ => rfl)) q_str (nomark _))
      (qss_one (qs_ret (q_and (q_cmp (op_eqA (u64 hr)) snd_eq (q_len T.n_len (by rfl) (q_cons (q_var (pv 0)) q_nil)) q_int (nomark _)) (q_and (q_call hr G_is_name T.g_is_name T.k_is_name b_is_name (by rfl) (by omega) (q_cons (q_at (q_var (pv 0)) q_int (fun _ _ => rfl)) q_nil)) (q_one (q_cmp (op_neA (u64 hr)) snd_ne (q_var (pv 1)) q_str (nomark _)))))))
      qss_nil)
      (qss_one (qs_ret (q_and (q_cmp (op_eqA (u64 hr)) snd_eq (q_var (pv 0)) (q_tup (q_cons q_str q_nil)) (nomark _)) (q_one (q_cmp (op_eqA (u64 hr)) snd_eq (q_var (pv 1)) q_str (nomark _)))))))))), fun ds S Qd Er h => ?_⟩
  · obtain ⟨d, l, rfl, _⟩ := h
    rfl
  · obtain ⟨d, l, rfl, pd, hs, hw, q⟩ := h
    (dsimp only [dTryAsX, dRetX, dDropX, dSetX, dAsgX, dFnX, dRaise, dTryAs, dTryOnly, dXf, dIsX, dPar3, dFnR, List.reverse_cons, List.reverse_nil, dDelT, mPop0, mPop, mApp, mExt, dFld, dNew, dDGet, dDIn, dZipT, dAll, dTupF, dIdx, dTupRg, dDc, dReprT, dEqT, dNeT, dFor, dLc, dWhile, dRange1, dRange2, dRange3, dEnumT, e_isB, e_tupD, dgUnl, dSeq, dIfS, dSet, dAsg, dRet, dRetN, dDrop, dNext, dPar, dVar, dC, dOp, dB, dTru, dtNot, dtAnd, dtOr, dAnd, dOr, dNot, dIfE, dNeg, dNil, dCons, dTup, dLst, dCel, dNoP, dPart, dSlice, dRevT, dRevL, dCall, on1, dTupOf, dLstOf, dCelOf, dIsi, dName, dgNil, dgCons, dgTup, dFn, dMet, dMet0, gt, st, startD, wh_some, dYes, dEq, dNe, List.map, List.length, List.replicate, List.append, List.cons_append, List.nil_append, dWalk, uns, un, tupNms, dNms, ifT, ifF, List.replicate_succ, List.replicate_zero, Nat.sub_self, Nat.reduceSub, Nat.reduceAdd, Nat.zero_add, Bool.not_true, Bool.not_false, e_addI, e_addS, e_addT, e_addL, e_i2, e_i2c, e_is, e_bool, e_cel, e_strD, e_lenS, e_lenT, e_lenL, e_lenC, e_ixS, e_ixT, e_ixL, e_ixC, e_slS, e_slT, e_slL, e_slC, e_itT, e_itL, e_truN, e_truI, e_truB, e_truL, e_truT, e_okN, e_okB, e_okI, e_okS, e_okL, e_okT, e_okC, e_tupN, e_tupB, e_tupI, e_tupS, e_tupL, e_tupT, e_tupC, e_strN, e_strB, e_strI, e_strS, e_strL, e_strT, e_strC, e_intN, e_intB, e_intI, e_intS, e_intL, e_intT, e_intC, e_boolN, e_boolB, e_boolI, e_boolS, e_boolL, e_boolT, e_boolC, e_lstN, e_lstB, e_lstI, e_lstS, e_lstL, e_lstT, e_lstC, e_nonN, e_nonB, e_nonI, e_nonS, e_nonL, e_nonT, e_wkS, e_wkL, e_wkT, e_wkC, e_join, e_inS, e_ninS, e_ofI, e_ofB, e_abs, e_lenF, e_ixF, e_itF, e_wkF, e_tfF, e_truF, e_repT, e_keyI, e_keyS]; try simp only [true_and, and_true, Nat.reduceLeDiff, reduceIte, reduceCtorEq, Bool.false_eq_true, if_true, if_false, not_false_eq_true, ite_true, ite_false, and_self])
    refine ⟨okTy_pure pd, ?_⟩
    by_cases ht : isT Ty6.tup d = true
    · obtain ⟨ds, rfl⟩ : ∃ ds, d = .tuple ds := by cases d <;> first | exact ⟨_, rfl⟩ | cases ht
      refine iteN (by rw [ht]; decide) ?_
      rw [e_lenT]
      try dsimp only
      have sS : ∀ z : Str, PyData.canLay0 (.str z) = true → SeqAt.shaped (.str z) = true := fun z hz => by
        unfold SeqAt.shaped
        rw [hz]
        simp [PyData.depth]
      have n1 : PyData.canLay0 (.str (Str.ofString "node")) = true := by decide +kernel
      have n2 : PyData.canLay0 (.str (Str.ofString "say")) = true := by decide +kernel
      have n3 : PyData.canLay0 (.str (Str.ofString "go")) = true := by decide +kernel
      have n4 : SeqAt.shaped (.tuple [.str (Str.ofString "keep")]) = true := by decide +kernel
      have eL : ∀ (n : Nat) (j : Nat), PyData.eqv (.int (n : Nat)) (.int (j : Nat)) = decide (n = j) := fun n j => by
        rw [eqv_intD]
        by_cases h : n = j
        · rw [decide_eq_true h, decide_eq_true (by omega)]
        · rw [decide_eq_false h, decide_eq_false (by omega)]
      cases ds with
      | nil => exact ⟨eqOk_int _ _, iteY rfl q⟩
      | cons a r =>
        have pa : pureD a = true := by
          have h : (pureD a && pureAll r) = true := pd
          rw [Bool.and_eq_true] at h
          exact h.1
        have pr : ∀ x ∈ r, pureD x = true := fun x hx => by
          have h : (pureD a && pureAll r) = true := pd
          rw [Bool.and_eq_true] at h
          exact pureAll_memV h.2 hx
        have sa := (hw (a :: r) a (Str.ofString "") rfl List.mem_cons_self).1
        have lx : ∀ x ∈ r, ∀ z, x = .str z → z.length ≤ 900000 := fun x hx z => (hw (a :: r) x z rfl (List.mem_cons_of_mem _ hx)).2
        have la : (a :: r).length = r.length + 1 := rfl
        refine ⟨eqOk_int _ _, iteN (by rw [show (0 : Int) = ((0 : Nat) : Int) from rfl, eL]; rw [decide_eq_false (by omega)]; decide) ?_⟩
        (dsimp only [dTryAsX, dRetX, dDropX, dSetX, dAsgX, dFnX, dRaise, dTryAs, dTryOnly, dXf, dIsX, dPar3, dFnR, List.reverse_cons, List.reverse_nil, dDelT, mPop0, mPop, mApp, mExt, dFld, dNew, dDGet, dDIn, dZipT, dAll, dTupF, dIdx, dTupRg, dDc, dReprT, dEqT, dNeT, dFor, dLc, dWhile, dRange1, dRange2, dRange3, dEnumT, e_isB, e_tupD, dgUnl, dSeq, dIfS, dSet, dAsg, dRet, dRetN, dDrop, dNext, dPar, dVar, dC, dOp, dB, dTru, dtNot, dtAnd, dtOr, dAnd, dOr, dNot, dIfE, dNeg, dNil, dCons, dTup, dLst, dCel, dNoP, dPart, dSlice, dRevT, dRevL, dCall, on1, dTupOf, dLstOf, dCelOf, dIsi, dName, dgNil, dgCons, dgTup, dFn, dMet, dMet0, gt, st, startD, wh_some, dYes, dEq, dNe, List.map, List.length, List.replicate, List.append, List.cons_append, List.nil_append, dWalk, uns, un, tupNms, dNms, ifT, ifF, List.replicate_succ, List.replicate_zero, Nat.sub_self, Nat.reduceSub, Nat.reduceAdd, Nat.zero_add, Bool.not_true, Bool.not_false, e_addI, e_addS, e_addT, e_addL, e_i2, e_i2c, e_is, e_bool, e_cel, e_strD, e_lenS, e_lenT, e_lenL, e_lenC, e_ixS, e_ixT, e_ixL, e_ixC, e_slS, e_slT, e_slL, e_slC, e_itT, e_itL, e_truN, e_truI, e_truB, e_truL, e_truT, e_okN, e_okB, e_okI, e_okS, e_okL, e_okT, e_okC, e_tupN, e_tupB, e_tupI, e_tupS, e_tupL, e_tupT, e_tupC, e_strN, e_strB, e_strI, e_strS, e_strL, e_strT, e_strC, e_intN, e_intB, e_intI, e_intS, e_intL, e_intT, e_intC, e_boolN, e_boolB, e_boolI, e_boolS, e_boolL, e_boolT, e_boolC, e_lstN, e_lstB, e_lstI, e_lstS, e_lstL, e_lstT, e_lstC, e_nonN, e_nonB, e_nonI, e_nonS, e_nonL, e_nonT, e_wkS, e_wkL, e_wkT, e_wkC, e_join, e_inS, e_ninS, e_ofI, e_ofB, e_abs, e_lenF, e_ixF, e_itF, e_wkF, e_tfF, e_truF, e_repT, e_keyI, e_keyS]; try simp only [true_and, and_true, Nat.reduceLeDiff, reduceIte, reduceCtorEq, Bool.false_eq_true, if_true, if_false, not_false_eq_true, ite_true, ite_false, and_self])
        have ok2 : ∀ x y : PyData, SeqAt.shaped x = true → SeqAt.shaped y = true → eqOk x y := fun x y h1 h2 => .inr ⟨h1, h2⟩
        have eY : ∀ j : Nat, r.length + 1 = j → PyData.eqv (.int ((r.length + 1 : Nat) : Int)) (.int ((j : Nat) : Int)) = true := fun j h => by rw [eL]; exact decide_eq_true h
        have eN : ∀ j : Nat, r.length + 1 ≠ j → ¬ PyData.eqv (.int ((r.length + 1 : Nat) : Int)) (.int ((j : Nat) : Int)) = true := fun j h => by rw [eL, decide_eq_false h]; decide
        have e0 : partB (PyData.eqv (.str l) (.str (Str.ofString ""))) (.tuple (a :: r)) = if PyData.eqv a (.str (Str.ofString "node")) = true then pNode r
          else if PyData.eqv a (.str (Str.ofString "say")) = true then pSay r
          else if PyData.eqv a (.str (Str.ofString "go")) = true then pGo (PyData.eqv (.str l) (.str (Str.ofString ""))) r
          else PyData.eqv (.tuple (a :: r)) (.tuple [.str (Str.ofString "keep")]) && PyData.eqv (.str l) (.str (Str.ofString "")) := rfl
        rw [e0] at q
        refine wh_mk (atI_nat (j := 0) rfl) ⟨ok2 _ _ sa (sS _ n1), ?_⟩
        by_cases c1 : PyData.eqv a (.str (Str.ofString "node")) = true
        · rw [if_pos c1] at q
          refine iteY c1 ⟨eqOk_int _ _, ?_⟩
          match r, q, pr, lx, eY, eN with
          | [], q, pr, lx, eY, eN => exact iteN (eN 3 (by simp)) q
          | [x], q, pr, lx, eY, eN => exact iteN (eN 3 (by simp)) q
          | [x, y], q, pr, lx, eY, eN =>
            refine iteY (eY 3 rfl) (wh_mk (atI_nat (j := 1) rfl) ⟨x, rfl, pr x List.mem_cons_self, lx x List.mem_cons_self, wh_mk rfl ?_⟩)
            change Qd (.bool (nameD x && isT Ty6.tup y)) S at q
            cases hn : nameD x with
            | true =>
              rw [hn] at q
              exact iteY rfl (wh_mk (atI_nat (j := 2) rfl) ⟨okTy_pure (pr y (List.mem_cons_of_mem _ List.mem_cons_self)), q⟩)
            | false =>
              rw [hn] at q
              exact iteN (by decide) q
          | x :: y :: z :: r, q, pr, lx, eY, eN => exact iteN (eN 3 (by simp)) q
        rw [if_neg c1] at q
        refine iteN c1 (wh_mk (atI_nat (j := 0) rfl) ⟨ok2 _ _ sa (sS _ n2), ?_⟩)
        by_cases c2 : PyData.eqv a (.str (Str.ofString "say")) = true
        · rw [if_pos c2] at q
          refine iteY c2 ⟨eqOk_int _ _, ?_⟩
          match r, q, pr, lx, eY, eN with
          | [], q, pr, lx, eY, eN => exact iteN (eN 2 (by simp)) q
          | [x], q, pr, lx, eY, eN => exact iteY (eY 2 rfl) (wh_mk (atI_nat (j := 1) rfl) ⟨x, rfl, pr x List.mem_cons_self, lx x List.mem_cons_self, q⟩)
          | x :: y :: r, q, pr, lx, eY, eN => exact iteN (eN 2 (by simp)) q
        rw [if_neg c2] at q
        refine iteN c2 (wh_mk (atI_nat (j := 0) rfl) ⟨ok2 _ _ sa (sS _ n3), ?_⟩)
        by_cases c3 : PyData.eqv a (.str (Str.ofString "go")) = true
        · rw [if_pos c3] at q
          refine iteY c3 ⟨eqOk_int _ _, ?_⟩
          match r, q, pr, lx, eY, eN with
          | [], q, pr, lx, eY, eN => exact iteN (eN 2 (by simp)) q
          | [x], q, pr, lx, eY, eN =>
            refine iteY (eY 2 rfl) (wh_mk (atI_nat (j := 1) rfl) ⟨x, rfl, pr x List.mem_cons_self, lx x List.mem_cons_self, wh_mk rfl ?_⟩)
            change Qd (.bool (nameD x && !(PyData.eqv (.str l) (.str (Str.ofString ""))))) S at q
            cases hn : nameD x with
            | true =>
              rw [hn] at q
              exact iteY rfl ⟨eqOk_str _ _, q⟩
            | false =>
              rw [hn] at q
              exact iteN (by decide) q
          | x :: y :: r, q, pr, lx, eY, eN => exact iteN (eN 2 (by simp)) q
        rw [if_neg c3] at q
        refine iteN c3 ⟨ok2 _ _ hs n4, ?_⟩
        by_cases c4 : PyData.eqv (.tuple (a :: r)) (.tuple [.str (Str.ofString "keep")]) = true
        · rw [c4] at q
          exact iteY c4 ⟨eqOk_str _ _, q⟩
        · have c5 : PyData.eqv (.tuple (a :: r)) (.tuple [.str (Str.ofString "keep")]) = false := by simpa using c4
          rw [c5] at q
          exact iteN c4 q
    · refine iteY (by rw [show isT Ty6.tup d = false by simpa using ht]; rfl) ?_
      have e : partB (PyData.eqv (.str l) (.str (Str.ofString ""))) d = false := by cases d <;> first | rfl | exact absurd rfl ht
      rw [e] at q
      exact q
end
end K3

/-! any value as a rule -/
namespace K3
open PySem L2 Xr K1 Exv
abbrev sIsRule : Stmt := top 20
theorem scIsRule : FnScope ["value", "waiting", "part"] ["value"] (defScope sIsRule) := ⟨rfl, rfl, rfl, by decide +kernel, rfl, by decide +kernel, by decide +kernel⟩
structure VbTxt (K : PySem.W.Frag) (mg : Str → Option Value) (a_is_name a_is_letter a_is_part : Addr) : Prop where
  n_isinstance : mg "isinstance" = none
  n_tuple : mg "tuple" = none
  n_list : mg "list" = none
  n_len : mg "len" = none
  g_is_name : mg "is_name" = some (.ref a_is_name)
  k_is_name : PySem.W.keepIn K (.ref a_is_name) = true
  g_is_letter : mg "is_letter" = some (.ref a_is_letter)
  k_is_letter : PySem.W.keepIn K (.ref a_is_letter) = true
  g_is_part : mg "_is_part" = some (.ref a_is_part)
  k_is_part : PySem.W.keepIn K (.ref a_is_part) = true
theorem Ext.cell {S0 S : Sto} {q : Nat} {c : Cell} (e : Ext S0 S) (h : S0 q = none) : Ext S0 (K3.put S q c) := fun n c' hn => by
  have ne : n ≠ q := fun z => by rw [z, h] at hn; cases hn
  rw [put_ne ne]
  exact e n c' hn
theorem tru_cel {S : Sto} {a : Nat} {ds : List PyData} (h : S a = some (.lst ds)) : truD S (cel a) = some (!ds.isEmpty) := by
  unfold truD
  show (S a).bind _ = _
  rw [h]
  rfl
mutual
/-- a part and all that stands in it -/
def deepB (e : Bool) : PyData → Bool
  | .tuple [a, x, .tuple ps] => partB e (.tuple [a, x, .tuple ps]) && (!(PyData.eqv a (.str (Str.ofString "node"))) || deepAll e ps)
  | d => partB e d
def deepAll (e : Bool) : List PyData → Bool
  | [] => true
  | d :: ds => deepB e d && deepAll e ds
end
theorem deep_app (e : Bool) : ∀ a b : List PyData, deepAll e (a ++ b) = (deepAll e a && deepAll e b)
  | [], b => by simp [deepAll]
  | d :: a, b => by
    show (deepB e d && deepAll e (a ++ b)) = ((deepB e d && deepAll e a) && deepAll e b)
    rw [deep_app e a b, Bool.and_assoc]
theorem deep_part {e : Bool} {d : PyData} (h : partB e d = false) : deepB e d = false := by
  unfold deepB
  split
  · rw [h]; rfl
  · exact h
theorem deep_node {e : Bool} {a x : PyData} {ps : List PyData} (h : partB e (.tuple [a, x, .tuple ps]) = true) (ha : PyData.eqv a (.str (Str.ofString "node")) = true) : deepB e (.tuple [a, x, .tuple ps]) = deepAll e ps := by
  unfold deepB
  rw [h, ha]
  rfl
theorem deep_leaf {e : Bool} {a : PyData} {r : List PyData} (h : partB e (.tuple (a :: r)) = true) (ha : PyData.eqv a (.str (Str.ofString "node")) = false) : deepB e (.tuple (a :: r)) = true := by
  unfold deepB
  split
  · rename_i h2
    have := PyData.tuple.inj h2
    have e1 := (List.cons.inj this).1
    subst e1
    rw [← h2, h, ha]
    rfl
  · exact h
/-- a rule -/
def ruleB : PyData → Bool
  | .tuple [m, l, .tuple ps] => nameD m && letD l && deepAll (PyData.eqv l (.str (Str.ofString ""))) ps
  | _ => false
def spRuleD : SpD := fun ds S Q _ => ∃ d : PyData, ds = [d] ∧ pureD d = true ∧ Vd 60 d ∧ wt d ≤ 20000 ∧ ∀ S', Ext S S' → Q (.bool (ruleB d)) S'
theorem part_tup {e : Bool} {d : PyData} (h : partB e d = true) : ∃ a r, d = .tuple (a :: r) := by
  cases d with
  | tuple ds =>
    cases ds with
    | nil => cases h
    | cons a r => exact ⟨a, r, rfl⟩
  | _ => cases h
theorem part_node {e : Bool} {a : PyData} {r : List PyData} (h : partB e (.tuple (a :: r)) = true) (ha : PyData.eqv a (.str (Str.ofString "node")) = true) : ∃ x ps, r = [x, .tuple ps] := by
  have h' : (if PyData.eqv a (.str (Str.ofString "node")) = true then pNode r
    else if PyData.eqv a (.str (Str.ofString "say")) = true then pSay r
    else if PyData.eqv a (.str (Str.ofString "go")) = true then pGo e r
    else PyData.eqv (.tuple (a :: r)) (.tuple [.str (Str.ofString "keep")]) && e) = true := h
  rw [if_pos ha] at h'
  match r, h' with
  | [x, y], h' =>
    have h2 : (nameD x && isT Ty6.tup y) = true := h'
    rw [Bool.and_eq_true] at h2
    cases y with
    | tuple ps => exact ⟨x, ps, rfl⟩
    | _ => exact absurd h2.2 (by intro z; cases z)
theorem vd_mem {m : Nat} {ds : List PyData} (h : Vd m (.tuple ds)) : ∀ x ∈ ds, Vd m x := fun x hx => by
  have h1 : PyData.canLayAll0 ds = true := by
    have := h.lay
    unfold PyData.canLay0 at this
    exact this
  have h2 : PyData.depthAll ds + 1 ≤ m := by
    have := h.dep
    unfold PyData.depth at this
    exact this
  have go : ∀ ds : List PyData, PyData.canLayAll0 ds = true → ∀ x ∈ ds, x.canLay0 = true ∧ x.depth ≤ PyData.depthAll ds := by
    intro ds
    induction ds with
    | nil => intro _ x hx; simp at hx
    | cons d ds ih =>
      intro hl x hx
      rw [layAll_cons, Bool.and_eq_true] at hl
      have e : PyData.depthAll (d :: ds) = max d.depth (PyData.depthAll ds) := by
        conv => lhs; unfold PyData.depthAll
      rw [e]
      rcases List.mem_cons.mp hx with q | q
      · rw [q]; exact ⟨hl.1, Nat.le_max_left _ _⟩
      · obtain ⟨a, b⟩ := ih hl.2 x q
        exact ⟨a, Nat.le_trans b (Nat.le_max_right _ _)⟩
  obtain ⟨a, b⟩ := go ds h1 x hx
  exact ⟨a, by omega⟩
section
variable {P : Program} {w : World} {K : PySem.W.Frag} {mg : Str → Option Value} {base : Heap} {a_is_name a_is_letter a_is_part : Addr} {d1 d2 d3 : FuncData}
theorem ok_isRule {f : Addr} {fd : FuncData} (F : Fun K "is_rule" "is_rule" sIsRule f fd) (T : VbTxt K mg a_is_name a_is_letter a_is_part)
    (G_is_name : FnOk P w K mg base CX0 2 a_is_name d1 ["value"] (spD K spNameD)) (b_is_name : Binds K d1 ["value"] [])
    (G_is_letter : FnOk P w K mg base CX0 3 a_is_letter d2 ["value"] (spD K spLetD)) (b_is_letter : Binds K d2 ["value"] [])
    (G_is_part : FnOk P w K mg base CX0 3 a_is_part d3 ["value", "letter"] (spD K spPartD)) (b_is_part : Binds K d3 ["value", "letter"] []) : FnOk P w K mg base CX0 4 f fd ["value"] (spD K spRuleD) := by
  refine dok F scIsRule (fun ds S Q E h => ?_) fun cdv A outer s H Q E (hr : Room 3 _) => ⟨_, (qss_cons (qs_if (PW.pt (qw_or (qt_not (qt_tru (q_isi .tup T.n_isinstance (by rfl) (q_var (pv 0)) (pe_bltn (v := V.ty "tuple") (u := .type "tuple") (by rfl) T.n_tuple (by decide +kernel) (by rfl))) (by intro _; rfl))) (qw_or (qt_cmp (op_neA (u64 hr)) snd_ne (q_len T.n_len (by rfl) (q_cons (q_var (pv 0)) q_nil)) q_int (nomark _)) (qw_or1 (qt_not (qt_tru (q_isi .tup T.n_isinstance (by rfl) (q_at (q_var (pv 0)) q_int (fun _ _ => rfl)) (pe_bltn (v := V.ty "tuple") (u := .type "tuple") (by rfl) T.n_tuple (by decide +kernel) (by rfl))) (by intro _; rfl)))))))
      (qss_one (qs_ret q_bl))
      qss_nil)
      (qss_cons (qs_if (PW.pt (qw_or (qt_not (qt_tru (q_call hr G_is_name T.g_is_name T.k_is_name b_is_name (by rfl) (by omega) (q_cons (q_at (q_var (pv 0)) q_int (fun _ _ => rfl)) q_nil)) (by intro _; rfl))) (qw_or1 (qt_not (qt_tru (q_call hr G_is_letter T.g_is_letter T.k_is_letter b_is_letter (by rfl) (by omega) (q_cons (q_at (q_var (pv 0)) q_int (fun _ _ => rfl)) q_nil)) (by intro _; rfl))))))
      (qss_one (qs_ret q_bl))
      qss_nil)
      (qss_cons (qs_set (i := 1) scIsRule.nd rfl (Or.inl rfl) (q_listC T.n_list (by rfl) (q_cons (q_at (q_var (pv 0)) q_int (fun _ _ => rfl)) q_nil)))
      (qss_cons (qs_while PassesOwn.never (qt_tru (q_var (pv 1)) (by intro _; rfl))
      (qss_cons (qs_set (i := 2) scIsRule.nd rfl (Or.inl rfl) (q_pop (q_var (pv 1))))
      (qss_cons (qs_if (qt_not (qt_tru (q_call hr G_is_part T.g_is_part T.k_is_part b_is_part (by rfl) (by omega) (q_cons (q_var (pv 2)) (q_cons (q_at (q_var (pv 0)) q_int (fun _ _ => rfl)) q_nil))) (by intro _; rfl)))
      (qss_one (qs_ret q_bl))
      qss_nil)
      (qss_one (qs_if (qt_cmp (op_eqA (u64 hr)) snd_eq (q_at (q_var (pv 2)) q_int (fun _ _ => rfl)) q_str (nomark _))
      (qss_one (qs_expr (q_extend (q_var (pv 1)) (q_cons (q_at (q_var (pv 2)) q_int (fun _ _ => rfl)) q_nil))))
      qss_nil)))))
      (qss_one (qs_ret q_bl)))))), fun ds S Qd Er h => ?_⟩
  · obtain ⟨d, rfl, _⟩ := h
    rfl
  · obtain ⟨d, rfl, pd, vd, hw, q⟩ := h
    (dsimp only [dTryAsX, dRetX, dDropX, dSetX, dAsgX, dFnX, dRaise, dTryAs, dTryOnly, dXf, dIsX, dPar3, dFnR, List.reverse_cons, List.reverse_nil, dDelT, mPop0, mPop, mApp, mExt, dFld, dNew, dDGet, dDIn, dZipT, dAll, dTupF, dIdx, dTupRg, dDc, dReprT, dEqT, dNeT, dFor, dLc, dWhile, dRange1, dRange2, dRange3, dEnumT, e_isB, e_tupD, dgUnl, dSeq, dIfS, dSet, dAsg, dRet, dRetN, dDrop, dNext, dPar, dVar, dC, dOp, dB, dTru, dtNot, dtAnd, dtOr, dAnd, dOr, dNot, dIfE, dNeg, dNil, dCons, dTup, dLst, dCel, dNoP, dPart, dSlice, dRevT, dRevL, dCall, on1, dTupOf, dLstOf, dCelOf, dIsi, dName, dgNil, dgCons, dgTup, dFn, dMet, dMet0, gt, st, startD, wh_some, dYes, dEq, dNe, List.map, List.length, List.replicate, List.append, List.cons_append, List.nil_append, dWalk, uns, un, tupNms, dNms, ifT, ifF, List.replicate_succ, List.replicate_zero, Nat.sub_self, Nat.reduceSub, Nat.reduceAdd, Nat.zero_add, Bool.not_true, Bool.not_false, e_addI, e_addS, e_addT, e_addL, e_i2, e_i2c, e_is, e_bool, e_cel, e_strD, e_lenS, e_lenT, e_lenL, e_lenC, e_ixS, e_ixT, e_ixL, e_ixC, e_slS, e_slT, e_slL, e_slC, e_itT, e_itL, e_truN, e_truI, e_truB, e_truL, e_truT, e_okN, e_okB, e_okI, e_okS, e_okL, e_okT, e_okC, e_tupN, e_tupB, e_tupI, e_tupS, e_tupL, e_tupT, e_tupC, e_strN, e_strB, e_strI, e_strS, e_strL, e_strT, e_strC, e_intN, e_intB, e_intI, e_intS, e_intL, e_intT, e_intC, e_boolN, e_boolB, e_boolI, e_boolS, e_boolL, e_boolT, e_boolC, e_lstN, e_lstB, e_lstI, e_lstS, e_lstL, e_lstT, e_lstC, e_nonN, e_nonB, e_nonI, e_nonS, e_nonL, e_nonT, e_wkS, e_wkL, e_wkT, e_wkC, e_join, e_inS, e_ninS, e_ofI, e_ofB, e_abs, e_lenF, e_ixF, e_itF, e_wkF, e_tfF, e_truF, e_repT, e_keyI, e_keyS]; try simp only [true_and, and_true, Nat.reduceLeDiff, reduceIte, reduceCtorEq, Bool.false_eq_true, if_true, if_false, not_false_eq_true, ite_true, ite_false, and_self])
    have sh : ∀ x : PyData, Vd 60 x → SeqAt.shaped x = true := fun x v => v.shaped (by decide)
    refine ⟨okTy_pure pd, ?_⟩
    by_cases ht : isT Ty6.tup d = true
    · obtain ⟨ds, rfl⟩ : ∃ ds, d = .tuple ds := by cases d <;> first | exact ⟨_, rfl⟩ | cases ht
      refine iteN (by rw [ht]; decide) ?_
      rw [e_lenT]
      refine ⟨eqOk_int _ _, ?_⟩
      rw [eqv_intD]
      by_cases h3 : ds.length = 3
      · obtain ⟨a, l, y, rfl⟩ : ∃ a l y, ds = [a, l, y] := by
          match ds, h3 with
          | [a, l, y], _ => exact ⟨a, l, y, rfl⟩
        have pA : ∀ x ∈ [a, l, y], pureD x = true := fun x hx => pureAll_memV pd hx
        have vA := vd_mem vd
        have wA : ∀ x ∈ [a, l, y], wt x ≤ 20000 := fun x hx => by
          have := wt_mem hx
          have e : wt (.tuple [a, l, y]) = 1 + wtAll [a, l, y] := rfl
          omega
        have m0 : a ∈ [a, l, y] := List.mem_cons_self
        have m1 : l ∈ [a, l, y] := List.mem_cons_of_mem _ List.mem_cons_self
        have m2 : y ∈ [a, l, y] := List.mem_cons_of_mem _ (List.mem_cons_of_mem _ List.mem_cons_self)
        have sl : ∀ x ∈ [a, l, y], ∀ z, x = .str z → z.length ≤ 900000 := fun x hx z e => by
          have := wA x hx
          rw [e] at this
          have e2 : wt (.str z) = 1 + z.length := rfl
          omega
        refine iteN (by simp) ?_
        (dsimp only [dTryAsX, dRetX, dDropX, dSetX, dAsgX, dFnX, dRaise, dTryAs, dTryOnly, dXf, dIsX, dPar3, dFnR, List.reverse_cons, List.reverse_nil, dDelT, mPop0, mPop, mApp, mExt, dFld, dNew, dDGet, dDIn, dZipT, dAll, dTupF, dIdx, dTupRg, dDc, dReprT, dEqT, dNeT, dFor, dLc, dWhile, dRange1, dRange2, dRange3, dEnumT, e_isB, e_tupD, dgUnl, dSeq, dIfS, dSet, dAsg, dRet, dRetN, dDrop, dNext, dPar, dVar, dC, dOp, dB, dTru, dtNot, dtAnd, dtOr, dAnd, dOr, dNot, dIfE, dNeg, dNil, dCons, dTup, dLst, dCel, dNoP, dPart, dSlice, dRevT, dRevL, dCall, on1, dTupOf, dLstOf, dCelOf, dIsi, dName, dgNil, dgCons, dgTup, dFn, dMet, dMet0, gt, st, startD, wh_some, dYes, dEq, dNe, List.map, List.length, List.replicate, List.append, List.cons_append, List.nil_append, dWalk, uns, un, tupNms, dNms, ifT, ifF, List.replicate_succ, List.replicate_zero, Nat.sub_self, Nat.reduceSub, Nat.reduceAdd, Nat.zero_add, Bool.not_true, Bool.not_false, e_addI, e_addS, e_addT, e_addL, e_i2, e_i2c, e_is, e_bool, e_cel, e_strD, e_lenS, e_lenT, e_lenL, e_lenC, e_ixS, e_ixT, e_ixL, e_ixC, e_slS, e_slT, e_slL, e_slC, e_itT, e_itL, e_truN, e_truI, e_truB, e_truL, e_truT, e_okN, e_okB, e_okI, e_okS, e_okL, e_okT, e_okC, e_tupN, e_tupB, e_tupI, e_tupS, e_tupL, e_tupT, e_tupC, e_strN, e_strB, e_strI, e_strS, e_strL, e_strT, e_strC, e_intN, e_intB, e_intI, e_intS, e_intL, e_intT, e_intC, e_boolN, e_boolB, e_boolI, e_boolS, e_boolL, e_boolT, e_boolC, e_lstN, e_lstB, e_lstI, e_lstS, e_lstL, e_lstT, e_lstC, e_nonN, e_nonB, e_nonI, e_nonS, e_nonL, e_nonT, e_wkS, e_wkL, e_wkT, e_wkC, e_join, e_inS, e_ninS, e_ofI, e_ofB, e_abs, e_lenF, e_ixF, e_itF, e_wkF, e_tfF, e_truF, e_repT, e_keyI, e_keyS]; try simp only [true_and, and_true, Nat.reduceLeDiff, reduceIte, reduceCtorEq, Bool.false_eq_true, if_true, if_false, not_false_eq_true, ite_true, ite_false, and_self])
        refine wh_mk (atI_nat (j := 2) rfl) ⟨okTy_pure (pA y m2), ?_⟩
        by_cases hy : isT Ty6.tup y = true
        · obtain ⟨ps, rfl⟩ : ∃ ps, y = .tuple ps := by cases y <;> first | exact ⟨_, rfl⟩ | cases hy
          refine iteN (by rw [hy]; decide) (wh_mk (atI_nat (j := 0) rfl) ⟨a, rfl, pA a m0, sl a m0, wh_mk rfl ?_⟩)
          have eR : ruleB (.tuple [a, l, .tuple ps]) = (nameD a && letD l && deepAll (PyData.eqv l (.str (Str.ofString ""))) ps) := rfl
          rw [eR] at q
          cases ha : nameD a with
          | false =>
            rw [ha] at q
            exact iteY rfl (q S Ext.refl)
          | true =>
            rw [ha] at q
            refine iteN (by decide) (wh_mk (atI_nat (j := 1) rfl) ⟨l, rfl, pA l m1, sl l m1, wh_mk rfl ?_⟩)
            cases hl : letD l with
            | false =>
              rw [hl] at q
              exact iteY rfl (q S Ext.refl)
            | true =>
              rw [hl] at q
              obtain ⟨lz, rfl⟩ : ∃ z, l = .str z := by
                cases l <;> first | exact ⟨_, rfl⟩ | (exfalso; revert hl; simp [letD, nameD, PyData.eqv])
              refine iteN (by decide) (wh_mk (atI_nat (j := 2) rfl) (wh_mk rfl fun n hn => ?_))
              have wps : wtAll ps ≤ 20000 := by
                have := wA _ m2
                have e : wt (.tuple ps) = 1 + wtAll ps := rfl
                omega
              refine ⟨fun k ρ S1 => ∃ (W : List PyData) (y2 : Option PyData), k = wtAll W ∧ ρ = [some (.tuple [a, .str lz, .tuple ps]), some (cel n), y2] ∧ Ext S S1 ∧ S1 n = some (.lst W) ∧ deepAll (PyData.eqv (.str lz) (.str (Str.ofString ""))) ps = deepAll (PyData.eqv (.str lz) (.str (Str.ofString ""))) W ∧ (∀ x ∈ W, pureD x = true ∧ Vd 60 x) ∧ wtAll W ≤ 20000,
                ⟨_, ps, none, rfl, rfl, Ext.refl.cell hn, put_same, rfl, fun x hx => ⟨pureAll_memV (pA _ m2) hx, vd_mem (vA _ m2) x hx⟩, wps⟩, ?_⟩
              rintro m ρ S1 ⟨W, y2, rfl, rfl, ex, h1, hd, hW, hwt⟩
              (dsimp only [dTryAsX, dRetX, dDropX, dSetX, dAsgX, dFnX, dRaise, dTryAs, dTryOnly, dXf, dIsX, dPar3, dFnR, List.reverse_cons, List.reverse_nil, dDelT, mPop0, mPop, mApp, mExt, dFld, dNew, dDGet, dDIn, dZipT, dAll, dTupF, dIdx, dTupRg, dDc, dReprT, dEqT, dNeT, dFor, dLc, dWhile, dRange1, dRange2, dRange3, dEnumT, e_isB, e_tupD, dgUnl, dSeq, dIfS, dSet, dAsg, dRet, dRetN, dDrop, dNext, dPar, dVar, dC, dOp, dB, dTru, dtNot, dtAnd, dtOr, dAnd, dOr, dNot, dIfE, dNeg, dNil, dCons, dTup, dLst, dCel, dNoP, dPart, dSlice, dRevT, dRevL, dCall, on1, dTupOf, dLstOf, dCelOf, dIsi, dName, dgNil, dgCons, dgTup, dFn, dMet, dMet0, gt, st, startD, wh_some, dYes, dEq, dNe, List.map, List.length, List.replicate, List.append, List.cons_append, List.nil_append, dWalk, uns, un, tupNms, dNms, ifT, ifF, List.replicate_succ, List.replicate_zero, Nat.sub_self, Nat.reduceSub, Nat.reduceAdd, Nat.zero_add, Bool.not_true, Bool.not_false, e_addI, e_addS, e_addT, e_addL, e_i2, e_i2c, e_is, e_bool, e_cel, e_strD, e_lenS, e_lenT, e_lenL, e_lenC, e_ixS, e_ixT, e_ixL, e_ixC, e_slS, e_slT, e_slL, e_slC, e_itT, e_itL, e_truN, e_truI, e_truB, e_truL, e_truT, e_okN, e_okB, e_okI, e_okS, e_okL, e_okT, e_okC, e_tupN, e_tupB, e_tupI, e_tupS, e_tupL, e_tupT, e_tupC, e_strN, e_strB, e_strI, e_strS, e_strL, e_strT, e_strC, e_intN, e_intB, e_intI, e_intS, e_intL, e_intT, e_intC, e_boolN, e_boolB, e_boolI, e_boolS, e_boolL, e_boolT, e_boolC, e_lstN, e_lstB, e_lstI, e_lstS, e_lstL, e_lstT, e_lstC, e_nonN, e_nonB, e_nonI, e_nonS, e_nonL, e_nonT, e_wkS, e_wkL, e_wkT, e_wkC, e_join, e_inS, e_ninS, e_ofI, e_ofB, e_abs, e_lenF, e_ixF, e_itF, e_wkF, e_tfF, e_truF, e_repT, e_keyI, e_keyS]; try simp only [true_and, and_true, Nat.reduceLeDiff, reduceIte, reduceCtorEq, Bool.false_eq_true, if_true, if_false, not_false_eq_true, ite_true, ite_false, and_self])
              refine wh_mk (tru_cel h1) ?_
              rcases List.eq_nil_or_concat W with rfl | ⟨W0, d, eW⟩
              · refine iteN (by decide) ?_
                rw [hd] at q
                exact q S1 ex
              · rw [List.concat_eq_append] at eW
                subst eW
                have p1 : (!(W0 ++ [d]).isEmpty) = true := by simp
                have p2 : (W0 ++ [d]).getLast? = some d := List.getLast?_concat
                have p3 : (W0 ++ [d]).dropLast = W0 := List.dropLast_concat
                rw [p1, lstC_of h1]
                refine iteY rfl (wh_mk rfl (wh_mk p2 ?_))
                rw [p3]
                have ex2 := ex.cell (c := .lst W0) hn
                have h4 : put S1 n (.lst W0) n = some (.lst W0) := put_same
                generalize put S1 n (.lst W0) = S2 at ex2 h4 ⊢
                try (dsimp only [dTryAsX, dRetX, dDropX, dSetX, dAsgX, dFnX, dRaise, dTryAs, dTryOnly, dXf, dIsX, dPar3, dFnR, List.reverse_cons, List.reverse_nil, dDelT, mPop0, mPop, mApp, mExt, dFld, dNew, dDGet, dDIn, dZipT, dAll, dTupF, dIdx, dTupRg, dDc, dReprT, dEqT, dNeT, dFor, dLc, dWhile, dRange1, dRange2, dRange3, dEnumT, e_isB, e_tupD, dgUnl, dSeq, dIfS, dSet, dAsg, dRet, dRetN, dDrop, dNext, dPar, dVar, dC, dOp, dB, dTru, dtNot, dtAnd, dtOr, dAnd, dOr, dNot, dIfE, dNeg, dNil, dCons, dTup, dLst, dCel, dNoP, dPart, dSlice, dRevT, dRevL, dCall, on1, dTupOf, dLstOf, dCelOf, dIsi, dName, dgNil, dgCons, dgTup, dFn, dMet, dMet0, gt, st, startD, wh_some, dYes, dEq, dNe, List.map, List.length, List.replicate, List.append, List.cons_append, List.nil_append, dWalk, uns, un, tupNms, dNms, ifT, ifF, List.replicate_succ, List.replicate_zero, Nat.sub_self, Nat.reduceSub, Nat.reduceAdd, Nat.zero_add, Bool.not_true, Bool.not_false, e_addI, e_addS, e_addT, e_addL, e_i2, e_i2c, e_is, e_bool, e_cel, e_strD, e_lenS, e_lenT, e_lenL, e_lenC, e_ixS, e_ixT, e_ixL, e_ixC, e_slS, e_slT, e_slL, e_slC, e_itT, e_itL, e_truN, e_truI, e_truB, e_truL, e_truT, e_okN, e_okB, e_okI, e_okS, e_okL, e_okT, e_okC, e_tupN, e_tupB, e_tupI, e_tupS, e_tupL, e_tupT, e_tupC, e_strN, e_strB, e_strI, e_strS, e_strL, e_strT, e_strC, e_intN, e_intB, e_intI, e_intS, e_intL, e_intT, e_intC, e_boolN, e_boolB, e_boolI, e_boolS, e_boolL, e_boolT, e_boolC, e_lstN, e_lstB, e_lstI, e_lstS, e_lstL, e_lstT, e_lstC, e_nonN, e_nonB, e_nonI, e_nonS, e_nonL, e_nonT, e_wkS, e_wkL, e_wkT, e_wkC, e_join, e_inS, e_ninS, e_ofI, e_ofB, e_abs, e_lenF, e_ixF, e_itF, e_wkF, e_tfF, e_truF, e_repT, e_keyI, e_keyS]; try simp only [true_and, and_true, Nat.reduceLeDiff, reduceIte, reduceCtorEq, Bool.false_eq_true, if_true, if_false, not_false_eq_true, ite_true, ite_false, and_self])
                obtain ⟨pd', vd'⟩ := hW d (List.mem_append_right _ (List.mem_singleton.mpr rfl))
                have ew : wtAll (W0 ++ [d]) = wtAll W0 + (wt d + 0) := wtAll_app W0 [d]
                have wd := wt_pos d
                refine wh_mk (atI_nat (j := 1) rfl) ⟨d, lz, rfl, pd', sh d vd', fun es x z e hx => ?_, wh_mk rfl ?_⟩
                · subst e
                  refine ⟨sh x (vd_mem vd' x hx), fun ez => ?_⟩
                  have := wt_mem hx
                  have e2 : wt (.tuple es) = 1 + wtAll es := rfl
                  rw [ez] at this
                  have e3 : wt (.str z) = 1 + z.length := rfl
                  omega
                rw [deep_app] at hd
                have hd' : deepAll (PyData.eqv (.str lz) (.str (Str.ofString ""))) ps = (deepAll (PyData.eqv (.str lz) (.str (Str.ofString ""))) W0 && (deepB (PyData.eqv (.str lz) (.str (Str.ofString ""))) d && true)) := hd
                cases hb : partB (PyData.eqv (.str lz) (.str (Str.ofString ""))) d with
                | false =>
                  rw [deep_part hb, Bool.false_and, Bool.and_false] at hd'
                  rw [hd'] at q
                  exact iteY rfl (q _ ex2)
                | true =>
                  refine iteN (by decide) ?_
                  obtain ⟨a', r, rfl⟩ := part_tup hb
                  have va' := vd_mem vd' a' List.mem_cons_self
                  try (dsimp only [dTryAsX, dRetX, dDropX, dSetX, dAsgX, dFnX, dRaise, dTryAs, dTryOnly, dXf, dIsX, dPar3, dFnR, List.reverse_cons, List.reverse_nil, dDelT, mPop0, mPop, mApp, mExt, dFld, dNew, dDGet, dDIn, dZipT, dAll, dTupF, dIdx, dTupRg, dDc, dReprT, dEqT, dNeT, dFor, dLc, dWhile, dRange1, dRange2, dRange3, dEnumT, e_isB, e_tupD, dgUnl, dSeq, dIfS, dSet, dAsg, dRet, dRetN, dDrop, dNext, dPar, dVar, dC, dOp, dB, dTru, dtNot, dtAnd, dtOr, dAnd, dOr, dNot, dIfE, dNeg, dNil, dCons, dTup, dLst, dCel, dNoP, dPart, dSlice, dRevT, dRevL, dCall, on1, dTupOf, dLstOf, dCelOf, dIsi, dName, dgNil, dgCons, dgTup, dFn, dMet, dMet0, gt, st, startD, wh_some, dYes, dEq, dNe, List.map, List.length, List.replicate, List.append, List.cons_append, List.nil_append, dWalk, uns, un, tupNms, dNms, ifT, ifF, List.replicate_succ, List.replicate_zero, Nat.sub_self, Nat.reduceSub, Nat.reduceAdd, Nat.zero_add, Bool.not_true, Bool.not_false, e_addI, e_addS, e_addT, e_addL, e_i2, e_i2c, e_is, e_bool, e_cel, e_strD, e_lenS, e_lenT, e_lenL, e_lenC, e_ixS, e_ixT, e_ixL, e_ixC, e_slS, e_slT, e_slL, e_slC, e_itT, e_itL, e_truN, e_truI, e_truB, e_truL, e_truT, e_okN, e_okB, e_okI, e_okS, e_okL, e_okT, e_okC, e_tupN, e_tupB, e_tupI, e_tupS, e_tupL, e_tupT, e_tupC, e_strN, e_strB, e_strI, e_strS, e_strL, e_strT, e_strC, e_intN, e_intB, e_intI, e_intS, e_intL, e_intT, e_intC, e_boolN, e_boolB, e_boolI, e_boolS, e_boolL, e_boolT, e_boolC, e_lstN, e_lstB, e_lstI, e_lstS, e_lstL, e_lstT, e_lstC, e_nonN, e_nonB, e_nonI, e_nonS, e_nonL, e_nonT, e_wkS, e_wkL, e_wkT, e_wkC, e_join, e_inS, e_ninS, e_ofI, e_ofB, e_abs, e_lenF, e_ixF, e_itF, e_wkF, e_tfF, e_truF, e_repT, e_keyI, e_keyS]; try simp only [true_and, and_true, Nat.reduceLeDiff, reduceIte, reduceCtorEq, Bool.false_eq_true, if_true, if_false, not_false_eq_true, ite_true, ite_false, and_self])
                  refine wh_mk (atI_nat (j := 0) rfl) ⟨.inr ⟨sh _ va', by decide +kernel⟩, ?_⟩
                  cases hn' : PyData.eqv a' (.str (Str.ofString "node")) with
                  | true =>
                    obtain ⟨x, ks, rfl⟩ := part_node hb hn'
                    rw [deep_node hb hn', Bool.and_true, ← deep_app] at hd'
                    have vk := vd_mem vd' (.tuple ks) (List.mem_cons_of_mem _ (List.mem_cons_of_mem _ List.mem_cons_self))
                    have pk : pureD (.tuple ks) = true := pureAll_memV pd' (List.mem_cons_of_mem _ (List.mem_cons_of_mem _ List.mem_cons_self))
                    have wk : wt (.tuple [a', x, .tuple ks]) = 1 + (wt a' + (wt x + ((1 + wtAll ks) + 0))) := rfl
                    have l1 := wtAll_len W0
                    have l2 := wtAll_len ks
                    refine iteY rfl ⟨⟨_, h4⟩, wh_mk (atI_nat (j := 2) rfl) ?_⟩
                    rw [lstC_of h4]
                    refine wh_mk rfl (wh_mk rfl ⟨by omega, wtAll (W0 ++ ks), by rw [ew, wtAll_app]; omega, W0 ++ ks, _, rfl, rfl, ex2.cell hn, put_same, hd', fun y hy => ?_, by rw [wtAll_app]; omega⟩)
                    rcases List.mem_append.mp hy with h | h
                    · exact hW y (List.mem_append_left _ h)
                    · exact ⟨pureAll_memV pk h, vd_mem vk y h⟩
                  | false =>
                    rw [deep_leaf hb hn', Bool.and_true, Bool.and_true] at hd'
                    exact iteN (by decide) ⟨wtAll W0, by rw [ew]; omega, W0, _, rfl, rfl, ex2, h4, hd', fun y hy => hW y (List.mem_append_left _ hy), by omega⟩
        · refine iteY (by rw [show isT Ty6.tup y = false by simpa using hy]; rfl) ?_
          have e : ruleB (.tuple [a, l, y]) = false := by cases y <;> first | rfl | exact absurd rfl hy
          rw [e] at q
          exact q S Ext.refl
      · refine iteY (by rw [decide_eq_false (by omega)]; rfl) ?_
        have e : ruleB (.tuple ds) = false := by
          match ds, h3 with
          | [], _ => rfl
          | [a], _ => rfl
          | [a, b], _ => rfl
          | [a, b, c], h => exact absurd rfl h
          | a :: b :: c :: d :: r, _ => simp [ruleB]
        rw [e] at q
        exact q S Ext.refl
    · refine iteY (by rw [show isT Ty6.tup d = false by simpa using ht]; rfl) ?_
      have e : ruleB d = false := by cases d <;> first | rfl | exact absurd rfl ht
      rw [e] at q
      exact q S Ext.refl
end
end K3

/-! the parts within a part -/
namespace K3
open PySem L2 Xr K1 Exv
abbrev sPtW : Stmt := top 14
theorem scPtW : FnScope ["part"] ["part"] (defScope sPtW) := ⟨rfl, rfl, rfl, by decide +kernel, rfl, by decide +kernel, by decide +kernel⟩
def kidsD : PyData → List PyData
  | .tuple [a, _, .tuple ps] => if PyData.eqv a (.str (Str.ofString "node")) = true then ps else []
  | _ => []
def spPtW : SpD := fun ds S Q _ => ∃ (d : PyData) (e : Bool), ds = [d] ∧ partB e d = true ∧ Vd 60 d ∧ Q (.tuple (kidsD d)) S
section
variable {P : Program} {w : World} {K : PySem.W.Frag} {mg : Str → Option Value} {base : Heap}
theorem ok_ptW {f : Addr} {fd : FuncData} (F : Fun K "parts_within" "parts_within" sPtW f fd) : FnOk P w K mg base CX0 1 f fd ["part"] (spD K spPtW) := by
  refine dok F scPtW (fun ds S Q E h => ?_) fun cdv A outer s H Q E (hr : Room 0 _) => ⟨_, (qss_one (qs_ret (q_if (qt_cmp (op_eqA (u64 hr)) snd_eq (q_at (q_var (pv 0)) q_int (fun _ _ => rfl)) q_str (nomark _)) (q_at (q_var (pv 0)) q_int (fun _ _ => rfl)) (q_tup q_nil)))), fun ds S Qd Er h => ?_⟩
  · obtain ⟨d, e, rfl, _⟩ := h
    rfl
  · obtain ⟨d, e, rfl, hb, vd, q⟩ := h
    obtain ⟨a, r, rfl⟩ := part_tup hb
    have sa := (vd_mem vd a List.mem_cons_self).shaped (by decide)
    (dsimp only [dTryAsX, dRetX, dDropX, dSetX, dAsgX, dFnX, dRaise, dTryAs, dTryOnly, dXf, dIsX, dPar3, dFnR, List.reverse_cons, List.reverse_nil, dDelT, mPop0, mPop, mApp, mExt, dFld, dNew, dDGet, dDIn, dZipT, dAll, dTupF, dIdx, dTupRg, dDc, dReprT, dEqT, dNeT, dFor, dLc, dWhile, dRange1, dRange2, dRange3, dEnumT, e_isB, e_tupD, dgUnl, dSeq, dIfS, dSet, dAsg, dRet, dRetN, dDrop, dNext, dPar, dVar, dC, dOp, dB, dTru, dtNot, dtAnd, dtOr, dAnd, dOr, dNot, dIfE, dNeg, dNil, dCons, dTup, dLst, dCel, dNoP, dPart, dSlice, dRevT, dRevL, dCall, on1, dTupOf, dLstOf, dCelOf, dIsi, dName, dgNil, dgCons, dgTup, dFn, dMet, dMet0, gt, st, startD, wh_some, dYes, dEq, dNe, List.map, List.length, List.replicate, List.append, List.cons_append, List.nil_append, dWalk, uns, un, tupNms, dNms, ifT, ifF, List.replicate_succ, List.replicate_zero, Nat.sub_self, Nat.reduceSub, Nat.reduceAdd, Nat.zero_add, Bool.not_true, Bool.not_false, e_addI, e_addS, e_addT, e_addL, e_i2, e_i2c, e_is, e_bool, e_cel, e_strD, e_lenS, e_lenT, e_lenL, e_lenC, e_ixS, e_ixT, e_ixL, e_ixC, e_slS, e_slT, e_slL, e_slC, e_itT, e_itL, e_truN, e_truI, e_truB, e_truL, e_truT, e_okN, e_okB, e_okI, e_okS, e_okL, e_okT, e_okC, e_tupN, e_tupB, e_tupI, e_tupS, e_tupL, e_tupT, e_tupC, e_strN, e_strB, e_strI, e_strS, e_strL, e_strT, e_strC, e_intN, e_intB, e_intI, e_intS, e_intL, e_intT, e_intC, e_boolN, e_boolB, e_boolI, e_boolS, e_boolL, e_boolT, e_boolC, e_lstN, e_lstB, e_lstI, e_lstS, e_lstL, e_lstT, e_lstC, e_nonN, e_nonB, e_nonI, e_nonS, e_nonL, e_nonT, e_wkS, e_wkL, e_wkT, e_wkC, e_join, e_inS, e_ninS, e_ofI, e_ofB, e_abs, e_lenF, e_ixF, e_itF, e_wkF, e_tfF, e_truF, e_repT, e_keyI, e_keyS]; try simp only [true_and, and_true, Nat.reduceLeDiff, reduceIte, reduceCtorEq, Bool.false_eq_true, if_true, if_false, not_false_eq_true, ite_true, ite_false, and_self])
    refine wh_mk (atI_nat (j := 0) rfl) ⟨.inr ⟨sa, by decide +kernel⟩, ?_⟩
    cases hn : PyData.eqv a (.str (Str.ofString "node")) with
    | true =>
      obtain ⟨x, ks, rfl⟩ := part_node hb hn
      have ek : kidsD (.tuple [a, x, .tuple ks]) = ks := by
        show (if PyData.eqv a (.str (Str.ofString "node")) = true then ks else []) = ks
        rw [if_pos hn]
      rw [ek] at q
      exact iteY rfl (wh_mk (atI_nat (j := 2) rfl) q)
    | false =>
      have ek : kidsD (.tuple (a :: r)) = [] := by
        unfold kidsD
        split
        · rename_i h2
          have e1 := (List.cons.inj (PyData.tuple.inj h2)).1
          subst e1
          rw [hn]
          rfl
        · rfl
      rw [ek] at q
      exact iteN (by decide) q
end
end K3

/-! all parts -/
namespace K3
open PySem L2 Xr K1 Exv
abbrev sAllP : Stmt := top 15
theorem scAllP : FnScope ["parts", "waiting", "found", "part"] ["parts"] (defScope sAllP) := ⟨rfl, rfl, rfl, by decide +kernel, rfl, by decide +kernel, by decide +kernel⟩
mutual
def flatP : PyData → List PyData
  | .tuple [a, x, .tuple ps] => .tuple [a, x, .tuple ps] :: (if PyData.eqv a (.str (Str.ofString "node")) = true then flatAll ps else [])
  | d => [d]
def flatAll : List PyData → List PyData
  | [] => []
  | d :: ds => flatP d ++ flatAll ds
end
theorem flat_kids (d : PyData) : flatP d = d :: flatAll (kidsD d) := by
  unfold flatP
  split
  · rename_i a x ps
    show _ = _ :: flatAll (if PyData.eqv a (.str (Str.ofString "node")) = true then ps else [])
    by_cases h : PyData.eqv a (.str (Str.ofString "node")) = true
    · rw [if_pos h, if_pos h]
    · rw [if_neg h, if_neg h]
      rfl
  · rename_i h
    have : kidsD d = [] := by
      unfold kidsD
      split
      · exact absurd rfl (h _ _ _)
      · rfl
    rw [this]
    rfl
theorem flat_app : ∀ a b : List PyData, flatAll (a ++ b) = flatAll a ++ flatAll b
  | [], b => rfl
  | d :: a, b => by
    show flatP d ++ flatAll (a ++ b) = (flatP d ++ flatAll a) ++ flatAll b
    rw [flat_app a b, List.append_assoc]
theorem deep_is {e : Bool} {d : PyData} (h : deepB e d = true) : partB e d = true := by
  cases hb : partB e d with
  | true => rfl
  | false => rw [deep_part hb] at h; cases h
theorem kids_facts {e : Bool} {d : PyData} (h : deepB e d = true) (vd : Vd 60 d) : deepAll e (kidsD d) = true ∧ (∀ x ∈ kidsD d, Vd 60 x) ∧ wtAll (kidsD d) < wt d := by
  have hp := deep_is h
  obtain ⟨a, r, rfl⟩ := part_tup hp
  cases hn : PyData.eqv a (.str (Str.ofString "node")) with
  | true =>
    obtain ⟨x, ks, rfl⟩ := part_node hp hn
    have ek : kidsD (.tuple [a, x, .tuple ks]) = ks := by
      show (if PyData.eqv a (.str (Str.ofString "node")) = true then ks else []) = ks
      rw [if_pos hn]
    rw [deep_node hp hn] at h
    have vk := vd_mem vd (.tuple ks) (List.mem_cons_of_mem _ (List.mem_cons_of_mem _ List.mem_cons_self))
    have wk : wt (.tuple [a, x, .tuple ks]) = 1 + (wt a + (wt x + ((1 + wtAll ks) + 0))) := rfl
    rw [ek]
    exact ⟨h, vd_mem vk, by omega⟩
  | false =>
    have ek : kidsD (.tuple (a :: r)) = [] := by
      unfold kidsD
      split
      · rename_i h2
        have e1 := (List.cons.inj (PyData.tuple.inj h2)).1
        subst e1
        rw [hn]
        rfl
      · rfl
    rw [ek]
    exact ⟨rfl, fun x hx => by simp at hx, wt_pos _⟩
def spAllP : SpD := fun ds S Q _ => ∃ (ps : List PyData) (e : Bool), ds = [.tuple ps] ∧ deepAll e ps = true ∧ (∀ x ∈ ps, Vd 60 x) ∧ wtAll ps ≤ 20000 ∧ ∀ n S', Ext S S' → S' n = some (.lst (flatAll ps)) → Q (cel n) S'
structure VdTxt (K : PySem.W.Frag) (mg : Str → Option Value) (a_parts_within : Addr) : Prop where
  n_list : mg "list" = none
  g_parts_within : mg "parts_within" = some (.ref a_parts_within)
  k_parts_within : PySem.W.keepIn K (.ref a_parts_within) = true
section
variable {P : Program} {w : World} {K : PySem.W.Frag} {mg : Str → Option Value} {base : Heap} {a_parts_within : Addr} {d1 : FuncData}
theorem ok_allP {f : Addr} {fd : FuncData} (F : Fun K "all_parts" "all_parts" sAllP f fd) (T : VdTxt K mg a_parts_within)
    (G_parts_within : FnOk P w K mg base CX0 1 a_parts_within d1 ["part"] (spD K spPtW)) (b_parts_within : Binds K d1 ["part"] []) : FnOk P w K mg base CX0 2 f fd ["parts"] (spD K spAllP) := by
  refine dok F scAllP (fun ds S Q E h => ?_) fun cdv A outer s H Q E (hr : Room 1 _) => ⟨_, (qss_cons (qs_set (i := 1) scAllP.nd rfl (Or.inl rfl) (q_listC T.n_list (by rfl) (q_cons (q_revT (q_var (pv 0))) q_nil)))
      (qss_cons (qs_set (i := 2) scAllP.nd rfl (Or.inl rfl) (q_cel q_nil))
      (qss_cons (qs_while PassesOwn.never (qt_tru (q_var (pv 1)) (by intro _; rfl))
      (qss_cons (qs_set (i := 3) scAllP.nd rfl (Or.inl rfl) (q_pop (q_var (pv 1))))
      (qss_cons (qs_expr (q_append (q_var (pv 2)) (q_cons (q_var (pv 3)) q_nil)))
      (qss_one (qs_expr (q_extend (q_var (pv 1)) (q_cons (q_revT (q_call hr G_parts_within T.g_parts_within T.k_parts_within b_parts_within (by rfl) (by omega) (q_cons (q_var (pv 3)) q_nil))) q_nil)))))))
      (qss_one (qs_ret (q_var (pv 2))))))), fun ds S Qd Er h => ?_⟩
  · obtain ⟨ps, e, rfl, _⟩ := h
    rfl
  · obtain ⟨ps, e, rfl, hd, hv, hw, q⟩ := h
    (dsimp only [dTryAsX, dRetX, dDropX, dSetX, dAsgX, dFnX, dRaise, dTryAs, dTryOnly, dXf, dIsX, dPar3, dFnR, List.reverse_cons, List.reverse_nil, dDelT, mPop0, mPop, mApp, mExt, dFld, dNew, dDGet, dDIn, dZipT, dAll, dTupF, dIdx, dTupRg, dDc, dReprT, dEqT, dNeT, dFor, dLc, dWhile, dRange1, dRange2, dRange3, dEnumT, e_isB, e_tupD, dgUnl, dSeq, dIfS, dSet, dAsg, dRet, dRetN, dDrop, dNext, dPar, dVar, dC, dOp, dB, dTru, dtNot, dtAnd, dtOr, dAnd, dOr, dNot, dIfE, dNeg, dNil, dCons, dTup, dLst, dCel, dNoP, dPart, dSlice, dRevT, dRevL, dCall, on1, dTupOf, dLstOf, dCelOf, dIsi, dName, dgNil, dgCons, dgTup, dFn, dMet, dMet0, gt, st, startD, wh_some, dYes, dEq, dNe, List.map, List.length, List.replicate, List.append, List.cons_append, List.nil_append, dWalk, uns, un, tupNms, dNms, ifT, ifF, List.replicate_succ, List.replicate_zero, Nat.sub_self, Nat.reduceSub, Nat.reduceAdd, Nat.zero_add, Bool.not_true, Bool.not_false, e_addI, e_addS, e_addT, e_addL, e_i2, e_i2c, e_is, e_bool, e_cel, e_strD, e_lenS, e_lenT, e_lenL, e_lenC, e_ixS, e_ixT, e_ixL, e_ixC, e_slS, e_slT, e_slL, e_slC, e_itT, e_itL, e_truN, e_truI, e_truB, e_truL, e_truT, e_okN, e_okB, e_okI, e_okS, e_okL, e_okT, e_okC, e_tupN, e_tupB, e_tupI, e_tupS, e_tupL, e_tupT, e_tupC, e_strN, e_strB, e_strI, e_strS, e_strL, e_strT, e_strC, e_intN, e_intB, e_intI, e_intS, e_intL, e_intT, e_intC, e_boolN, e_boolB, e_boolI, e_boolS, e_boolL, e_boolT, e_boolC, e_lstN, e_lstB, e_lstI, e_lstS, e_lstL, e_lstT, e_lstC, e_nonN, e_nonB, e_nonI, e_nonS, e_nonL, e_nonT, e_wkS, e_wkL, e_wkT, e_wkC, e_join, e_inS, e_ninS, e_ofI, e_ofB, e_abs, e_lenF, e_ixF, e_itF, e_wkF, e_tfF, e_truF, e_repT, e_keyI, e_keyS]; try simp only [true_and, and_true, Nat.reduceLeDiff, reduceIte, reduceCtorEq, Bool.false_eq_true, if_true, if_false, not_false_eq_true, ite_true, ite_false, and_self])
    intro a ha b hb
    have hb0 : S b = none := by
      by_cases e : b = a
      · rw [e]; exact ha
      · rw [put_ne e] at hb; exact hb
    have nab : b ≠ a := fun e => by rw [e, put_same] at hb; cases hb
    refine ⟨fun m ρ S1 => ∃ (W Dn : List PyData) (y3 : Option PyData), m = wtAll W ∧ ρ = [some (.tuple ps), some (cel a), some (cel b), y3] ∧ Ext S S1 ∧ S1 a = some (.lst W.reverse) ∧ S1 b = some (.lst Dn) ∧ flatAll ps = Dn ++ flatAll W ∧ deepAll e W = true ∧ (∀ x ∈ W, Vd 60 x) ∧ Dn.length + wtAll W ≤ 20000,
      ⟨_, ps, [], none, rfl, rfl, (Ext.refl.cell ha).cell hb0, by rw [put_ne (Ne.symm nab), put_same], put_same, rfl, hd, hv, by show 0 + _ ≤ _; omega⟩, ?_⟩
    rintro m ρ S1 ⟨W, Dn, y3, rfl, rfl, ex, h1, h2, hf, hd1, hv1, hl⟩
    (dsimp only [dTryAsX, dRetX, dDropX, dSetX, dAsgX, dFnX, dRaise, dTryAs, dTryOnly, dXf, dIsX, dPar3, dFnR, List.reverse_cons, List.reverse_nil, dDelT, mPop0, mPop, mApp, mExt, dFld, dNew, dDGet, dDIn, dZipT, dAll, dTupF, dIdx, dTupRg, dDc, dReprT, dEqT, dNeT, dFor, dLc, dWhile, dRange1, dRange2, dRange3, dEnumT, e_isB, e_tupD, dgUnl, dSeq, dIfS, dSet, dAsg, dRet, dRetN, dDrop, dNext, dPar, dVar, dC, dOp, dB, dTru, dtNot, dtAnd, dtOr, dAnd, dOr, dNot, dIfE, dNeg, dNil, dCons, dTup, dLst, dCel, dNoP, dPart, dSlice, dRevT, dRevL, dCall, on1, dTupOf, dLstOf, dCelOf, dIsi, dName, dgNil, dgCons, dgTup, dFn, dMet, dMet0, gt, st, startD, wh_some, dYes, dEq, dNe, List.map, List.length, List.replicate, List.append, List.cons_append, List.nil_append, dWalk, uns, un, tupNms, dNms, ifT, ifF, List.replicate_succ, List.replicate_zero, Nat.sub_self, Nat.reduceSub, Nat.reduceAdd, Nat.zero_add, Bool.not_true, Bool.not_false, e_addI, e_addS, e_addT, e_addL, e_i2, e_i2c, e_is, e_bool, e_cel, e_strD, e_lenS, e_lenT, e_lenL, e_lenC, e_ixS, e_ixT, e_ixL, e_ixC, e_slS, e_slT, e_slL, e_slC, e_itT, e_itL, e_truN, e_truI, e_truB, e_truL, e_truT, e_okN, e_okB, e_okI, e_okS, e_okL, e_okT, e_okC, e_tupN, e_tupB, e_tupI, e_tupS, e_tupL, e_tupT, e_tupC, e_strN, e_strB, e_strI, e_strS, e_strL, e_strT, e_strC, e_intN, e_intB, e_intI, e_intS, e_intL, e_intT, e_intC, e_boolN, e_boolB, e_boolI, e_boolS, e_boolL, e_boolT, e_boolC, e_lstN, e_lstB, e_lstI, e_lstS, e_lstL, e_lstT, e_lstC, e_nonN, e_nonB, e_nonI, e_nonS, e_nonL, e_nonT, e_wkS, e_wkL, e_wkT, e_wkC, e_join, e_inS, e_ninS, e_ofI, e_ofB, e_abs, e_lenF, e_ixF, e_itF, e_wkF, e_tfF, e_truF, e_repT, e_keyI, e_keyS]; try simp only [true_and, and_true, Nat.reduceLeDiff, reduceIte, reduceCtorEq, Bool.false_eq_true, if_true, if_false, not_false_eq_true, ite_true, ite_false, and_self])
    refine wh_mk (tru_cel h1) ?_
    cases W with
    | nil =>
      refine iteN (by decide) (q b S1 ex ?_)
      have e2 : Dn ++ flatAll [] = Dn := List.append_nil Dn
      rw [h2, hf, e2]
    | cons d R =>
      have er : (d :: R).reverse = R.reverse ++ [d] := List.reverse_cons
      have p1 : (!(d :: R).reverse.isEmpty) = true := by rw [er]; simp
      have p2 : (d :: R).reverse.getLast? = some d := by rw [er]; exact List.getLast?_concat
      have p3 : (d :: R).reverse.dropLast = R.reverse := by rw [er]; exact List.dropLast_concat
      rw [p1, lstC_of h1]
      refine iteY rfl (wh_mk rfl (wh_mk p2 ?_))
      rw [p3]
      have ex2 := ex.cell (c := .lst R.reverse) ha
      have h3 : put S1 a (.lst R.reverse) a = some (.lst R.reverse) := put_same
      have h4 : put S1 a (.lst R.reverse) b = some (.lst Dn) := by rw [put_ne nab]; exact h2
      generalize put S1 a (.lst R.reverse) = S2 at ex2 h3 h4 ⊢
      try (dsimp only [dTryAsX, dRetX, dDropX, dSetX, dAsgX, dFnX, dRaise, dTryAs, dTryOnly, dXf, dIsX, dPar3, dFnR, List.reverse_cons, List.reverse_nil, dDelT, mPop0, mPop, mApp, mExt, dFld, dNew, dDGet, dDIn, dZipT, dAll, dTupF, dIdx, dTupRg, dDc, dReprT, dEqT, dNeT, dFor, dLc, dWhile, dRange1, dRange2, dRange3, dEnumT, e_isB, e_tupD, dgUnl, dSeq, dIfS, dSet, dAsg, dRet, dRetN, dDrop, dNext, dPar, dVar, dC, dOp, dB, dTru, dtNot, dtAnd, dtOr, dAnd, dOr, dNot, dIfE, dNeg, dNil, dCons, dTup, dLst, dCel, dNoP, dPart, dSlice, dRevT, dRevL, dCall, on1, dTupOf, dLstOf, dCelOf, dIsi, dName, dgNil, dgCons, dgTup, dFn, dMet, dMet0, gt, st, startD, wh_some, dYes, dEq, dNe, List.map, List.length, List.replicate, List.append, List.cons_append, List.nil_append, dWalk, uns, un, tupNms, dNms, ifT, ifF, List.replicate_succ, List.replicate_zero, Nat.sub_self, Nat.reduceSub, Nat.reduceAdd, Nat.zero_add, Bool.not_true, Bool.not_false, e_addI, e_addS, e_addT, e_addL, e_i2, e_i2c, e_is, e_bool, e_cel, e_strD, e_lenS, e_lenT, e_lenL, e_lenC, e_ixS, e_ixT, e_ixL, e_ixC, e_slS, e_slT, e_slL, e_slC, e_itT, e_itL, e_truN, e_truI, e_truB, e_truL, e_truT, e_okN, e_okB, e_okI, e_okS, e_okL, e_okT, e_okC, e_tupN, e_tupB, e_tupI, e_tupS, e_tupL, e_tupT, e_tupC, e_strN, e_strB, e_strI, e_strS, e_strL, e_strT, e_strC, e_intN, e_intB, e_intI, e_intS, e_intL, e_intT, e_intC, e_boolN, e_boolB, e_boolI, e_boolS, e_boolL, e_boolT, e_boolC, e_lstN, e_lstB, e_lstI, e_lstS, e_lstL, e_lstT, e_lstC, e_nonN, e_nonB, e_nonI, e_nonS, e_nonL, e_nonT, e_wkS, e_wkL, e_wkT, e_wkC, e_join, e_inS, e_ninS, e_ofI, e_ofB, e_abs, e_lenF, e_ixF, e_itF, e_wkF, e_tfF, e_truF, e_repT, e_keyI, e_keyS]; try simp only [true_and, and_true, Nat.reduceLeDiff, reduceIte, reduceCtorEq, Bool.false_eq_true, if_true, if_false, not_false_eq_true, ite_true, ite_false, and_self])
      have hd2 : (deepB e d && deepAll e R) = true := hd1
      rw [Bool.and_eq_true] at hd2
      have vd := hv1 d List.mem_cons_self
      obtain ⟨k1, k2, k3⟩ := kids_facts hd2.1 vd
      have ew : wtAll (d :: R) = wt d + wtAll R := rfl
      have lR := wtAll_len R
      have lK := wtAll_len (kidsD d)
      refine ⟨⟨_, h4⟩, ?_⟩
      rw [lstC_of h4]
      refine wh_mk rfl ⟨by omega, ?_⟩
      have ex3 := ex2.cell (c := .lst (Dn ++ [d])) hb0
      have h5 : put S2 b (.lst (Dn ++ [d])) a = some (.lst R.reverse) := by rw [put_ne (Ne.symm nab)]; exact h3
      have h6 : put S2 b (.lst (Dn ++ [d])) b = some (.lst (Dn ++ [d])) := put_same
      generalize put S2 b (.lst (Dn ++ [d])) = S3 at ex3 h5 h6 ⊢
      refine ⟨⟨_, h5⟩, d, e, rfl, deep_is hd2.1, vd, ?_⟩
      try (dsimp only [dTryAsX, dRetX, dDropX, dSetX, dAsgX, dFnX, dRaise, dTryAs, dTryOnly, dXf, dIsX, dPar3, dFnR, List.reverse_cons, List.reverse_nil, dDelT, mPop0, mPop, mApp, mExt, dFld, dNew, dDGet, dDIn, dZipT, dAll, dTupF, dIdx, dTupRg, dDc, dReprT, dEqT, dNeT, dFor, dLc, dWhile, dRange1, dRange2, dRange3, dEnumT, e_isB, e_tupD, dgUnl, dSeq, dIfS, dSet, dAsg, dRet, dRetN, dDrop, dNext, dPar, dVar, dC, dOp, dB, dTru, dtNot, dtAnd, dtOr, dAnd, dOr, dNot, dIfE, dNeg, dNil, dCons, dTup, dLst, dCel, dNoP, dPart, dSlice, dRevT, dRevL, dCall, on1, dTupOf, dLstOf, dCelOf, dIsi, dName, dgNil, dgCons, dgTup, dFn, dMet, dMet0, gt, st, startD, wh_some, dYes, dEq, dNe, List.map, List.length, List.replicate, List.append, List.cons_append, List.nil_append, dWalk, uns, un, tupNms, dNms, ifT, ifF, List.replicate_succ, List.replicate_zero, Nat.sub_self, Nat.reduceSub, Nat.reduceAdd, Nat.zero_add, Bool.not_true, Bool.not_false, e_addI, e_addS, e_addT, e_addL, e_i2, e_i2c, e_is, e_bool, e_cel, e_strD, e_lenS, e_lenT, e_lenL, e_lenC, e_ixS, e_ixT, e_ixL, e_ixC, e_slS, e_slT, e_slL, e_slC, e_itT, e_itL, e_truN, e_truI, e_truB, e_truL, e_truT, e_okN, e_okB, e_okI, e_okS, e_okL, e_okT, e_okC, e_tupN, e_tupB, e_tupI, e_tupS, e_tupL, e_tupT, e_tupC, e_strN, e_strB, e_strI, e_strS, e_strL, e_strT, e_strC, e_intN, e_intB, e_intI, e_intS, e_intL, e_intT, e_intC, e_boolN, e_boolB, e_boolI, e_boolS, e_boolL, e_boolT, e_boolC, e_lstN, e_lstB, e_lstI, e_lstS, e_lstL, e_lstT, e_lstC, e_nonN, e_nonB, e_nonI, e_nonS, e_nonL, e_nonT, e_wkS, e_wkL, e_wkT, e_wkC, e_join, e_inS, e_ninS, e_ofI, e_ofB, e_abs, e_lenF, e_ixF, e_itF, e_wkF, e_tfF, e_truF, e_repT, e_keyI, e_keyS]; try simp only [true_and, and_true, Nat.reduceLeDiff, reduceIte, reduceCtorEq, Bool.false_eq_true, if_true, if_false, not_false_eq_true, ite_true, ite_false, and_self])
      rw [lstC_of h5]
      have wa := wtAll_app (kidsD d) R
      refine wh_mk rfl ⟨by rw [List.length_reverse, List.length_reverse]; omega, wtAll (kidsD d ++ R), by rw [ew, wa]; omega, kidsD d ++ R, Dn ++ [d], _, rfl, rfl, ex3.cell ha, by rw [put_same, List.reverse_append], by rw [put_ne nab]; exact h6, ?_, ?_, fun x hx => ?_, by rw [wa, List.length_append]; show Dn.length + 1 + _ ≤ _; omega⟩
      · rw [hf, flat_app]
        show Dn ++ (flatP d ++ flatAll R) = _
        rw [flat_kids]
        simp
      · rw [deep_app, k1, hd2.2]
        rfl
      · rcases List.mem_append.mp hx with h | h
        · exact k2 x h
        · exact hv1 x (List.mem_cons_of_mem _ h)
end
end K3

/-! where parts go on -/
namespace K3
open PySem L2 Xr K1 Exv
abbrev sGoW : Stmt := top 16
theorem scGoW : FnScope ["parts", "part"] ["parts"] (defScope sGoW) := ⟨rfl, rfl, rfl, by decide +kernel, rfl, by decide +kernel, by decide +kernel⟩
abbrev sGoOf : Stmt := top 23
theorem scGoOf : FnScope ["parts"] ["parts"] (defScope sGoOf) := ⟨rfl, rfl, rfl, by decide +kernel, rfl, by decide +kernel, by decide +kernel⟩
def goW : PyData → Option PyData
  | .tuple (a :: x :: _) => if PyData.eqv a (.str (Str.ofString "go")) = true then some x else none
  | _ => none
def goesD (ps : List PyData) : List PyData := (flatAll ps).filterMap goW
theorem eqv_word {a : PyData} {z : Str} (h : PyData.eqv a (.str z) = true) : a = .str z := by
  cases a with
  | str w =>
    have h' : (w == z) = true := h
    rw [eq_of_beq h']
  | _ => exact absurd h (by simp [PyData.eqv])
theorem part_go {e : Bool} {a : PyData} {r : List PyData} (h : partB e (.tuple (a :: r)) = true) (ha : PyData.eqv a (.str (Str.ofString "go")) = true) : ∃ x, r = [x] ∧ nameD x = true := by
  have ea := eqv_word ha
  subst ea
  have h' : (if PyData.eqv (.str (Str.ofString "go")) (.str (Str.ofString "node")) = true then pNode r
    else if PyData.eqv (.str (Str.ofString "go")) (.str (Str.ofString "say")) = true then pSay r
    else if PyData.eqv (.str (Str.ofString "go")) (.str (Str.ofString "go")) = true then pGo e r
    else PyData.eqv (.tuple (.str (Str.ofString "go") :: r)) (.tuple [.str (Str.ofString "keep")]) && e) = true := h
  rw [if_neg (by decide +kernel), if_neg (by decide +kernel), if_pos ha] at h'
  match r, h' with
  | [x], h' =>
    have h2 : (nameD x && !e) = true := h'
    rw [Bool.and_eq_true] at h2
    exact ⟨x, rfl, h2.1⟩
theorem flat_mem (e : Bool) : ∀ (k : Nat) (W : List PyData), wtAll W ≤ k → deepAll e W = true → (∀ x ∈ W, Vd 60 x) → ∀ d ∈ flatAll W, partB e d = true ∧ Vd 60 d
  | k, [], _, _, _, d, h => by cases h
  | 0, x :: W, hk, _, _, d, h => by
    have := wt_pos x
    have e2 : wtAll (x :: W) = wt x + wtAll W := rfl
    omega
  | k + 1, x :: W, hk, hd, hv, d, h => by
    have hd2 : (deepB e x && deepAll e W) = true := hd
    rw [Bool.and_eq_true] at hd2
    obtain ⟨k1, k2, k3⟩ := kids_facts hd2.1 (hv x List.mem_cons_self)
    have e2 : wtAll (x :: W) = wt x + wtAll W := rfl
    have h' : d ∈ flatP x ++ flatAll W := h
    rcases List.mem_append.mp h' with h | h
    · rw [flat_kids] at h
      rcases List.mem_cons.mp h with h | h
      · rw [h]; exact ⟨deep_is hd2.1, hv x List.mem_cons_self⟩
      · exact flat_mem e k (kidsD x) (by omega) k1 k2 d h
    · exact flat_mem e k W (by have := wt_pos x; omega) hd2.2 (fun y hy => hv y (List.mem_cons_of_mem _ hy)) d h
theorem flat_len : ∀ (k : Nat) (e : Bool) (W : List PyData), wtAll W ≤ k → deepAll e W = true → (∀ x ∈ W, Vd 60 x) → (flatAll W).length ≤ wtAll W
  | k, e, [], _, _, _ => Nat.zero_le _
  | 0, e, x :: W, hk, _, _ => by
    have := wt_pos x
    have e2 : wtAll (x :: W) = wt x + wtAll W := rfl
    omega
  | k + 1, e, x :: W, hk, hd, hv => by
    have hd2 : (deepB e x && deepAll e W) = true := hd
    rw [Bool.and_eq_true] at hd2
    obtain ⟨k1, k2, k3⟩ := kids_facts hd2.1 (hv x List.mem_cons_self)
    have e2 : wtAll (x :: W) = wt x + wtAll W := rfl
    have a := flat_len k e (kidsD x) (by omega) k1 k2
    have b := flat_len k e W (by have := wt_pos x; omega) hd2.2 fun y hy => hv y (List.mem_cons_of_mem _ hy)
    show (flatP x ++ flatAll W).length ≤ _
    rw [flat_kids, List.length_append, List.length_cons, e2]
    omega
def spGoW : SpD := fun ds S Q _ => ∃ (ps : List PyData) (e : Bool), ds = [.tuple ps] ∧ deepAll e ps = true ∧ (∀ x ∈ ps, Vd 60 x) ∧ wtAll ps ≤ 20000 ∧ ∀ S', Ext S S' → Q (.list (goesD ps)) S'
def spGoOf : SpD := fun ds S Q _ => ∃ (ps : List PyData) (e : Bool), ds = [.tuple ps] ∧ deepAll e ps = true ∧ (∀ x ∈ ps, Vd 60 x) ∧ wtAll ps ≤ 20000 ∧ ∀ S', Ext S S' → Q (.tuple (goesD ps)) S'
structure VeTxt (K : PySem.W.Frag) (mg : Str → Option Value) (a_all_parts a_goes_within : Addr) : Prop where
  n_tuple : mg "tuple" = none
  g_all_parts : mg "all_parts" = some (.ref a_all_parts)
  k_all_parts : PySem.W.keepIn K (.ref a_all_parts) = true
  g_goes_within : mg "goes_within" = some (.ref a_goes_within)
  k_goes_within : PySem.W.keepIn K (.ref a_goes_within) = true
section
variable {P : Program} {w : World} {K : PySem.W.Frag} {mg : Str → Option Value} {base : Heap} {a_all_parts a_goes_within : Addr} {d1 d2 : FuncData}
theorem ok_goOf {f : Addr} {fd : FuncData} (F : Fun K "goes_of" "goes_of" sGoOf f fd) (T : VeTxt K mg a_all_parts a_goes_within)
    (G_goes_within : FnOk P w K mg base CX0 3 a_goes_within d2 ["parts"] (spD K spGoW)) (b_goes_within : Binds K d2 ["parts"] []) : FnOk P w K mg base CX0 4 f fd ["parts"] (spD K spGoOf) := by
  refine dok F scGoOf (fun ds S Q E h => ?_) fun cdv A outer s H Q E (hr : Room 3 _) => ⟨_, (qss_one (qs_ret (q_tuple T.n_tuple (by rfl) (q_cons (q_call hr G_goes_within T.g_goes_within T.k_goes_within b_goes_within (by rfl) (by omega) (q_cons (q_var (pv 0)) q_nil)) q_nil)))), fun ds S Qd Er h => ?_⟩
  · obtain ⟨ps, e, rfl, _⟩ := h
    rfl
  · obtain ⟨ps, e, rfl, hd, hv, hw, q⟩ := h
    (dsimp only [dTryAsX, dRetX, dDropX, dSetX, dAsgX, dFnX, dRaise, dTryAs, dTryOnly, dXf, dIsX, dPar3, dFnR, List.reverse_cons, List.reverse_nil, dDelT, mPop0, mPop, mApp, mExt, dFld, dNew, dDGet, dDIn, dZipT, dAll, dTupF, dIdx, dTupRg, dDc, dReprT, dEqT, dNeT, dFor, dLc, dWhile, dRange1, dRange2, dRange3, dEnumT, e_isB, e_tupD, dgUnl, dSeq, dIfS, dSet, dAsg, dRet, dRetN, dDrop, dNext, dPar, dVar, dC, dOp, dB, dTru, dtNot, dtAnd, dtOr, dAnd, dOr, dNot, dIfE, dNeg, dNil, dCons, dTup, dLst, dCel, dNoP, dPart, dSlice, dRevT, dRevL, dCall, on1, dTupOf, dLstOf, dCelOf, dIsi, dName, dgNil, dgCons, dgTup, dFn, dMet, dMet0, gt, st, startD, wh_some, dYes, dEq, dNe, List.map, List.length, List.replicate, List.append, List.cons_append, List.nil_append, dWalk, uns, un, tupNms, dNms, ifT, ifF, List.replicate_succ, List.replicate_zero, Nat.sub_self, Nat.reduceSub, Nat.reduceAdd, Nat.zero_add, Bool.not_true, Bool.not_false, e_addI, e_addS, e_addT, e_addL, e_i2, e_i2c, e_is, e_bool, e_cel, e_strD, e_lenS, e_lenT, e_lenL, e_lenC, e_ixS, e_ixT, e_ixL, e_ixC, e_slS, e_slT, e_slL, e_slC, e_itT, e_itL, e_truN, e_truI, e_truB, e_truL, e_truT, e_okN, e_okB, e_okI, e_okS, e_okL, e_okT, e_okC, e_tupN, e_tupB, e_tupI, e_tupS, e_tupL, e_tupT, e_tupC, e_strN, e_strB, e_strI, e_strS, e_strL, e_strT, e_strC, e_intN, e_intB, e_intI, e_intS, e_intL, e_intT, e_intC, e_boolN, e_boolB, e_boolI, e_boolS, e_boolL, e_boolT, e_boolC, e_lstN, e_lstB, e_lstI, e_lstS, e_lstL, e_lstT, e_lstC, e_nonN, e_nonB, e_nonI, e_nonS, e_nonL, e_nonT, e_wkS, e_wkL, e_wkT, e_wkC, e_join, e_inS, e_ninS, e_ofI, e_ofB, e_abs, e_lenF, e_ixF, e_itF, e_wkF, e_tfF, e_truF, e_repT, e_keyI, e_keyS]; try simp only [true_and, and_true, Nat.reduceLeDiff, reduceIte, reduceCtorEq, Bool.false_eq_true, if_true, if_false, not_false_eq_true, ite_true, ite_false, and_self])
    exact ⟨ps, e, rfl, hd, hv, hw, fun S' e' => wh_mk rfl (q S' e')⟩
theorem ok_goW {f : Addr} {fd : FuncData} (F : Fun K "goes_within" "goes_within" sGoW f fd) (T : VeTxt K mg a_all_parts a_goes_within)
    (G_all_parts : FnOk P w K mg base CX0 2 a_all_parts d1 ["parts"] (spD K spAllP)) (b_all_parts : Binds K d1 ["parts"] []) : FnOk P w K mg base CX0 3 f fd ["parts"] (spD K spGoW) := by
  refine dok F scGoW (fun ds S Q E h => ?_) fun cdv A outer s H Q E (hr : Room 2 _) => ⟨_, (qss_one (qs_ret (q_lc (own := [("part", 1)]) (by rfl) scGoW.nd (qi_any (q_call hr G_all_parts T.g_all_parts T.k_all_parts b_all_parts (by rfl) (by omega) (q_cons (q_var (pv 0)) q_nil))) (blkOk_by (own := [("part", 1)]) (N := ["parts", "part"]) (sc := defScope sGoW) (by decide +kernel)) (bnd_one (i := 1) (by decide)) (fun _ _ _ _ _ => (pg_name (i := 1) scGoW.nd rfl (Or.inl rfl))) (fun _ _ _ _ _ => qts_one (qt_cmp (op_eqA (u64 hr)) snd_eq (q_at (q_var (pv 1)) q_int (fun _ _ => rfl)) q_str (nomark _))) (fun _ _ _ _ _ => (q_at (q_var (pv 1)) q_int (fun _ _ => rfl)))))), fun ds S Qd Er h => ?_⟩
  · obtain ⟨ps, e, rfl, _⟩ := h
    rfl
  · obtain ⟨ps, e, rfl, hd, hv, hw, q⟩ := h
    (dsimp only [dTryAsX, dRetX, dDropX, dSetX, dAsgX, dFnX, dRaise, dTryAs, dTryOnly, dXf, dIsX, dPar3, dFnR, List.reverse_cons, List.reverse_nil, dDelT, mPop0, mPop, mApp, mExt, dFld, dNew, dDGet, dDIn, dZipT, dAll, dTupF, dIdx, dTupRg, dDc, dReprT, dEqT, dNeT, dFor, dLc, dWhile, dRange1, dRange2, dRange3, dEnumT, e_isB, e_tupD, dgUnl, dSeq, dIfS, dSet, dAsg, dRet, dRetN, dDrop, dNext, dPar, dVar, dC, dOp, dB, dTru, dtNot, dtAnd, dtOr, dAnd, dOr, dNot, dIfE, dNeg, dNil, dCons, dTup, dLst, dCel, dNoP, dPart, dSlice, dRevT, dRevL, dCall, on1, dTupOf, dLstOf, dCelOf, dIsi, dName, dgNil, dgCons, dgTup, dFn, dMet, dMet0, gt, st, startD, wh_some, dYes, dEq, dNe, List.map, List.length, List.replicate, List.append, List.cons_append, List.nil_append, dWalk, uns, un, tupNms, dNms, ifT, ifF, List.replicate_succ, List.replicate_zero, Nat.sub_self, Nat.reduceSub, Nat.reduceAdd, Nat.zero_add, Bool.not_true, Bool.not_false, e_addI, e_addS, e_addT, e_addL, e_i2, e_i2c, e_is, e_bool, e_cel, e_strD, e_lenS, e_lenT, e_lenL, e_lenC, e_ixS, e_ixT, e_ixL, e_ixC, e_slS, e_slT, e_slL, e_slC, e_itT, e_itL, e_truN, e_truI, e_truB, e_truL, e_truT, e_okN, e_okB, e_okI, e_okS, e_okL, e_okT, e_okC, e_tupN, e_tupB, e_tupI, e_tupS, e_tupL, e_tupT, e_tupC, e_strN, e_strB, e_strI, e_strS, e_strL, e_strT, e_strC, e_intN, e_intB, e_intI, e_intS, e_intL, e_intT, e_intC, e_boolN, e_boolB, e_boolI, e_boolS, e_boolL, e_boolT, e_boolC, e_lstN, e_lstB, e_lstI, e_lstS, e_lstL, e_lstT, e_lstC, e_nonN, e_nonB, e_nonI, e_nonS, e_nonL, e_nonT, e_wkS, e_wkL, e_wkT, e_wkC, e_join, e_inS, e_ninS, e_ofI, e_ofB, e_abs, e_lenF, e_ixF, e_itF, e_wkF, e_tfF, e_truF, e_repT, e_keyI, e_keyS]; try simp only [true_and, and_true, Nat.reduceLeDiff, reduceIte, reduceCtorEq, Bool.false_eq_true, if_true, if_false, not_false_eq_true, ite_true, ite_false, and_self])
    refine ⟨ps, e, rfl, hd, hv, hw, fun n S1 e1 h1 => ?_⟩
    have hw2 : ∃ stay, walkD S1 (cel n) = some (flatAll ps, stay) ∧ stay S1 := ⟨_, by
      show (lstC S1 n).map _ = _
      rw [lstC_of h1]
      rfl, h1⟩
    obtain ⟨stay, hw2, hst⟩ := hw2
    have fl := flat_len _ e ps (Nat.le_refl _) hd hv
    refine wh_mk hw2 ?_
    refine ⟨fun i acc S' => S' = S1 ∧ i ≤ (flatAll ps).length ∧ acc.length ≤ i ∧ acc = ((flatAll ps).take i).filterMap goW, ⟨rfl, Nat.zero_le _, Nat.le_refl _, rfl⟩, ?_, ?_, ?_⟩
    · rintro i acc S' ⟨rfl, hi, hl, _⟩
      exact ⟨hst, by omega⟩
    · rintro i o acc S' ho ⟨rfl, hi, hl, rfl⟩
      have hi2 := (List.getElem?_eq_some_iff.mp ho).1
      have tk : (flatAll ps).take (i + 1) = (flatAll ps).take i ++ [o] := by rw [List.take_succ, ho]; rfl
      obtain ⟨hb, vo⟩ := flat_mem e _ ps (Nat.le_refl _) hd hv o (List.mem_of_getElem? ho)
      obtain ⟨a, r, rfl⟩ := part_tup hb
      have va := vd_mem vo a List.mem_cons_self
      try (dsimp only [dTryAsX, dRetX, dDropX, dSetX, dAsgX, dFnX, dRaise, dTryAs, dTryOnly, dXf, dIsX, dPar3, dFnR, List.reverse_cons, List.reverse_nil, dDelT, mPop0, mPop, mApp, mExt, dFld, dNew, dDGet, dDIn, dZipT, dAll, dTupF, dIdx, dTupRg, dDc, dReprT, dEqT, dNeT, dFor, dLc, dWhile, dRange1, dRange2, dRange3, dEnumT, e_isB, e_tupD, dgUnl, dSeq, dIfS, dSet, dAsg, dRet, dRetN, dDrop, dNext, dPar, dVar, dC, dOp, dB, dTru, dtNot, dtAnd, dtOr, dAnd, dOr, dNot, dIfE, dNeg, dNil, dCons, dTup, dLst, dCel, dNoP, dPart, dSlice, dRevT, dRevL, dCall, on1, dTupOf, dLstOf, dCelOf, dIsi, dName, dgNil, dgCons, dgTup, dFn, dMet, dMet0, gt, st, startD, wh_some, dYes, dEq, dNe, List.map, List.length, List.replicate, List.append, List.cons_append, List.nil_append, dWalk, uns, un, tupNms, dNms, ifT, ifF, List.replicate_succ, List.replicate_zero, Nat.sub_self, Nat.reduceSub, Nat.reduceAdd, Nat.zero_add, Bool.not_true, Bool.not_false, e_addI, e_addS, e_addT, e_addL, e_i2, e_i2c, e_is, e_bool, e_cel, e_strD, e_lenS, e_lenT, e_lenL, e_lenC, e_ixS, e_ixT, e_ixL, e_ixC, e_slS, e_slT, e_slL, e_slC, e_itT, e_itL, e_truN, e_truI, e_truB, e_truL, e_truT, e_okN, e_okB, e_okI, e_okS, e_okL, e_okT, e_okC, e_tupN, e_tupB, e_tupI, e_tupS, e_tupL, e_tupT, e_tupC, e_strN, e_strB, e_strI, e_strS, e_strL, e_strT, e_strC, e_intN, e_intB, e_intI, e_intS, e_intL, e_intT, e_intC, e_boolN, e_boolB, e_boolI, e_boolS, e_boolL, e_boolT, e_boolC, e_lstN, e_lstB, e_lstI, e_lstS, e_lstL, e_lstT, e_lstC, e_nonN, e_nonB, e_nonI, e_nonS, e_nonL, e_nonT, e_wkS, e_wkL, e_wkT, e_wkC, e_join, e_inS, e_ninS, e_ofI, e_ofB, e_abs, e_lenF, e_ixF, e_itF, e_wkF, e_tfF, e_truF, e_repT, e_keyI, e_keyS]; try simp only [true_and, and_true, Nat.reduceLeDiff, reduceIte, reduceCtorEq, Bool.false_eq_true, if_true, if_false, not_false_eq_true, ite_true, ite_false, and_self])
      refine wh_mk (atI_nat (j := 0) rfl) ⟨.inr ⟨va.shaped (by decide), by decide +kernel⟩, ?_⟩
      cases hg : PyData.eqv a (.str (Str.ofString "go")) with
      | true =>
        obtain ⟨x, rfl, _⟩ := part_go hb hg
        have eg : goW (.tuple [a, x]) = some x := by
          show (if PyData.eqv a (.str (Str.ofString "go")) = true then some x else none) = some x
          rw [if_pos hg]
        refine iteY rfl (wh_mk (atI_nat (j := 1) rfl) ⟨hi2, by rw [List.length_append]; exact Nat.add_le_add_right hl 1, ?_⟩)
        rw [tk, List.filterMap_append]
        simp [eg]
      | false =>
        have eg : goW (.tuple (a :: r)) = none := by
          cases r with
          | nil => rfl
          | cons x r =>
            show (if PyData.eqv a (.str (Str.ofString "go")) = true then some x else none) = none
            rw [hg]
            rfl
        refine iteN (by decide) ⟨hi2, by omega, ?_⟩
        rw [tk, List.filterMap_append]
        simp [eg]
    · rintro acc S' ⟨rfl, hi, hl, rfl⟩
      rw [List.take_length]
      exact q _ e1
end
end K3

/-! the plain layer: <, <=, >, >= of values that can be compared place by place (texts, whole numbers, tuples and lists of them) -/
namespace K3
open PySem L2 Xr K1
/-- two values that can be compared -/
def ordOk (a b : PyData) : Prop := PySem.W.alike a b = true ∧ a ≠ .none ∧ a.canLay0 = true ∧ b.canLay0 = true ∧ a.depth ≤ 64
def rOrdD (K : PySem.W.Frag) (r : PyData → PyData → Bool) : R2 := fun x y H Q => ∃ a b, Dp K H x a ∧ Dp K H y b ∧ ordOk a b ∧ Q (.bl (r a b)) H
section
variable {X : Cx}
theorem op_ltD (hu : X.A.units + 200 < cLine) : OpR X (compareOp .Lt) (rOrdD X.K fun a b => PySem.W.dataLt a b) := by
  intro pins s σ H x y v u Q I rx ry h
  obtain ⟨a, b, ha, hb, ⟨al, nn, _, _, dp⟩, q⟩ := h
  obtain ⟨as, r1⟩ := Dp.reads I a x v ha rx
  obtain ⟨bs, r2⟩ := Dp.reads I b y u hb ry
  exact PySem.W.lt_data r1 r2 al nn (by have := Nat.min_le_left a.depth b.depth; omega) ⟨.bl _, H, I, rfl, q⟩
theorem op_leD (hu : X.A.units + 200 < cLine) : OpR X (compareOp .LtE) (rOrdD X.K fun a b => !PySem.W.dataLt b a) := by
  intro pins s σ H x y v u Q I rx ry h
  obtain ⟨a, b, ha, hb, ⟨al, nn, _, _, dp⟩, q⟩ := h
  obtain ⟨as, r1⟩ := Dp.reads I a x v ha rx
  obtain ⟨bs, r2⟩ := Dp.reads I b y u hb ry
  exact PySem.W.le_data r1 r2 al nn (by have := Nat.min_le_left a.depth b.depth; omega) ⟨.bl _, H, I, rfl, q⟩
theorem op_gtD (hu : X.A.units + 200 < cLine) : OpR X (compareOp .Gt) (rOrdD X.K fun a b => PySem.W.dataLt b a) := by
  intro pins s σ H x y v u Q I rx ry h
  obtain ⟨a, b, ha, hb, ⟨al, nn, _, _, dp⟩, q⟩ := h
  obtain ⟨as, r1⟩ := Dp.reads I a x v ha rx
  obtain ⟨bs, r2⟩ := Dp.reads I b y u hb ry
  exact PySem.W.gt_data r1 r2 al nn (by have := Nat.min_le_left a.depth b.depth; omega) ⟨.bl _, H, I, rfl, q⟩
theorem op_geD (hu : X.A.units + 200 < cLine) : OpR X (compareOp .GtE) (rOrdD X.K fun a b => !PySem.W.dataLt a b) := by
  intro pins s σ H x y v u Q I rx ry h
  obtain ⟨a, b, ha, hb, ⟨al, nn, _, _, dp⟩, q⟩ := h
  obtain ⟨as, r1⟩ := Dp.reads I a x v ha rx
  obtain ⟨bs, r2⟩ := Dp.reads I b y u hb ry
  exact PySem.W.ge_data r1 r2 al nn (by have := Nat.min_le_left a.depth b.depth; omega) ⟨.bl _, H, I, rfl, q⟩
end
/-- the answer of a comparison -/
def dOrd (r : PyData → PyData → Bool) : D2 := fun a b S Q => ordOk a b ∧ Q (.bool (r a b)) S
theorem snd_ord {K : PySem.W.Frag} {r : PyData → PyData → Bool} : Snd2 K (dOrd r) (rOrdD K r) := fun m H S x y a b Q Qd w dx dy h k => by
  obtain ⟨⟨al, nn, ca, cb, dp⟩, q⟩ := h
  exact ⟨a, b, dx.dp ca, dy.dp cb, ⟨al, nn, ca, cb, dp⟩, k _ _ _ _ _ q Evo.refl w (.bl _)⟩
abbrev dLtO := dOrd fun a b => PySem.W.dataLt a b
abbrev dLeO := dOrd fun a b => !PySem.W.dataLt b a
/-- two texts, as a tuple -/
theorem ord_two {a b c d : Str} (ha : PyData.canLay0 (.str a) = true) (hb : PyData.canLay0 (.str b) = true) (hc : PyData.canLay0 (.str c) = true) (hd : PyData.canLay0 (.str d) = true) : ordOk (.tuple [.str a, .str b]) (.tuple [.str c, .str d]) := by
  have lay : ∀ x y : PyData, x.canLay0 = true → y.canLay0 = true → PyData.canLay0 (.tuple [x, y]) = true := fun x y hx hy => by
    unfold PyData.canLay0
    rw [layAll_cons, layAll_cons, hx, hy]
    rfl
  exact ⟨by simp [PySem.W.alike, PySem.W.alikeAll], by simp, lay _ _ ha hb, lay _ _ hc hd, by simp [PyData.depth, PyData.depthAll]⟩
end K3

/-! the plain layer: == of an own class, isinstance of an own class -/
namespace K3
open PySem L2 Xr K1
/-- the type of a thing, own ones too -/
inductive TyQ (K : PySem.W.Frag) (H : Hp) : V → Value → Prop where
  | non : TyQ K H .non (.type "NoneType")
  | bl (b : Bool) : TyQ K H (.bl b) (.type "bool")
  | int (i : Int) : TyQ K H (.int i) (.type "int")
  | str (x : Str) : TyQ K H (.str x) (.type "str")
  | lst {a : Addr} {xs : List V} (e : H a = some (.lst xs)) : TyQ K H (.ref a) (.type "list")
  | tup {a : Addr} {xs : List V} (e : H a = some (.tup xs)) : TyQ K H (.ref a) (.type "tuple")
  | con {a : Addr} {o : Obj} (e : K.lookup a = some o) (c : o.cls = .type "tuple") : TyQ K H (.ref a) (.type "tuple")
  | frz {a : Addr} {o : Obj} {xs : List V} (e : H a = some (.frz o (.tup xs))) : TyQ K H (.ref a) (.type "tuple")
  | ins {a C dx : Addr} {ys : List (Str × V)} (e : H a = some (.ins C dx ys)) : TyQ K H (.ref a) (.ref C)
section
variable {X : Cx} {pins : List (Addr × Obj)} {σ : L2.St} {H : Hp} {s : Shared}
theorem looks_of {y : V} {u tb : Value} (I : Inv X pins σ H s) (ry : RelV y u) (ty : TyQ X.K H y tb) : PySem.W.Looks (model X.prog X.w) s.heap (typeOf u) tb := by
  have at_ : ∀ {a : Addr} {o : Obj} {c : Value}, s.heap.get? a = some o → o.cls = c → PySem.W.Looks (model X.prog X.w) s.heap (typeOf (.ref a)) c := fun h e => e ▸ (PySem.W.Looks.ld h).andThen .now
  cases ty with
  | non => cases (show u = Value.none from ry); exact .now
  | bl b => cases (show u = Value.bool b from ry); exact .now
  | int i => obtain ⟨t, q⟩ := (show ∃ t, u = Value.int i t from ry); cases q; exact .now
  | str x => obtain ⟨t, q⟩ := (show ∃ t, u = Value.str x t from ry); cases q; exact .now
  | @lst a xs ea =>
    cases (show u = Value.ref a from ry)
    obtain ⟨_, _, n, _, h1⟩ := (show ObjOk X.prog X.w H s.heap a (.lst xs) from I.hok a _ ea)
    exact at_ h1 rfl
  | @tup a xs ea =>
    cases (show u = Value.ref a from ry)
    obtain ⟨_, _, _, o, h1, h2, _⟩ := (show ObjOk X.prog X.w H s.heap a (.tup xs) from I.hok a _ ea)
    exact at_ h1 h2
  | @con a o e c =>
    cases (show u = Value.ref a from ry)
    exact at_ (I.kIn _ _ e) c
  | @frz a o xs ea =>
    cases (show u = Value.ref a from ry)
    obtain ⟨_, _, _, _, ob, h1, h2, _⟩ := (show ObjOk X.prog X.w H s.heap a (.frz o (.tup xs)) from I.hok a _ ea)
    exact at_ h1 h2
  | @ins a C dx ys ea =>
    cases (show u = Value.ref a from ry)
    obtain ⟨m, J, _⟩ := ins_get I.hok ea
    obtain ⟨od, J, _⟩ := J.look
    exact J.type
end
/-- x == y, x of an own class C with a == of its own -/
def rOwn (K : PySem.W.Frag) (C : Addr) (sp : Sp) : R2 := fun x y H Q => ∃ (a dx : Addr) (ys : List (Str × V)) (tb : Value), x = .ref a ∧ H a = some (.ins C dx ys) ∧ TyQ K H y tb ∧ PySem.W.notFirst K C tb = true ∧ sp [x, y] H (fun v H' => (∃ b, v = .bl b) ∧ Q v H') E0
section
variable {X : Cx} {k j : Nat} {f C : Addr} {fd : FuncData} {ps : List Str} {sp : Sp}
theorem op_own (F : FnOk X.prog X.w X.K X.mg X.base CX0 j f fd ps sp) (hr : Room k X.A) (hl : j ≤ k) (hs : PySem.W.findIn X.K (.ref C) "__eq__" = some (some (.ref f))) (hf : PySem.W.isFn X.K (.ref f) = true) (hb : Binds X.K fd ps []) : OpR X (compareOp .Eq) (rOwn X.K C sp) := by
  intro pins s σ H x y v u Q I rx ry h
  obtain ⟨a, dx, ys, tb, rfl, ha, ty, nf, hsp⟩ := h
  cases rx
  obtain ⟨mA, J, _⟩ := ins_get I.hok ha
  obtain ⟨od, J, _⟩ := J.look
  obtain ⟨m, hF⟩ := I.fr
  have rm := hr.mono hl
  show wpAny (model X.prog X.w) X.A (richCompare .Eq (.ref a) u) (EP X pins σ Q) X.xe s
  refine PySem.W.cmp_K (op := .Eq) (tb := tb) hr.units0 hF I.ok.mod.kin J (looks_of I ry ty) nf hs hf ?_
  have hl := F.len _ _ _ _ hsp
  have r2 : Vals [V.ref a, y] [Value.ref a, u] := .cons rfl (.cons ry .nil)
  refine wpAny_call (codeAny_mono (F.run X.A X.stack s H ⟨[.ref a, u], []⟩ [.ref a, u] [.ref a, y] _ E0 rm I.env0 (by
    have := hb s [.ref a, u] I.kIn (by simpa using hl)
    simpa using this) r2 hsp) fun r s' hq => ?_)
  cases r with
  | error e => exact pass0 pins σ H s e s' I hq
  | ok fl =>
    cases fl with
    | ret w =>
      obtain ⟨z, H', I', rz, ⟨b, ez⟩, q⟩ := I.after hq
      subst ez
      cases rz
      exact ⟨.bl b, H', I', rfl, q⟩
    | next => exact False.elim hq
    | brk => exact False.elim hq
    | cont => exact False.elim hq
end
section
variable {prog : Program} {w : World} {A : Around} {E : Value → Shared → Prop} {s : Shared} {K : PySem.W.Frag} {x C f : Addr} {ox od : Obj} {b tb : Value}
theorem objNe_K (X : K.In s.heap) (I : PySem.W.InstAt s.heap x ox C (some od)) (hu : A.units < cLine) (hs : PySem.W.findIn K (.ref C) "__eq__" = some (some (.ref f))) (hf : PySem.W.isFn K (.ref f) = true) {Q : Fin → Shared → Prop}
    (hcall : wpAny (model prog w) A (call (.ref f) [.ref x, b]) (fun v s' => ∃ r, v = .bool r ∧ Q (.done (.ret (.bool (!r)))) s') E s) :
    wpAny (model prog w) A (Builtin.«object.__ne__» ⟨[.ref x, b], []⟩) Q E s := by
  unfold Builtin.«object.__ne__»
  repeat (first
    | with_reducible refine wpAny_cRoomFor hu ?_
    | (refine wpAny_bind (m := callSpecialIfBound? (.ref x) (Str.ofString "__eq__") [b])
        (PySem.W.ifBound_K X I hs hf (wpAny_mono hcall (fun r s' hr => by
          obtain ⟨b, rfl, hq⟩ := hr
          repeat (first | exact hq | exact wpAny_pure hq | exact wpAny_truthy_bool hq | (refine wpAny_bind (m := truthy (.bool _)) (wpAny_truthy_bool ?_)) | wp_step)) fun _ _ e => e)))
    | wp_step)
theorem tryNe_K (X : K.In s.heap) (I : PySem.W.InstAt s.heap x ox C (some od)) (hu : A.units + 1 < cLine) (hn : PySem.W.findIn K (.ref C) "__ne__" = some (some (.builtin "object.__ne__"))) (ho : PySem.W.mroIn K C (.type "object") = some true)
    (hs : PySem.W.findIn K (.ref C) "__eq__" = some (some (.ref f))) (hf : PySem.W.isFn K (.ref f) = true) {Q : Option Value → Shared → Prop}
    (hcall : wpAny (model prog w) A.in1 (call (.ref f) [.ref x, b]) (fun v s' => ∃ r, v = .bool r ∧ Q (some (.bool (!r))) s') E s) :
    wpAny (model prog w) A (tryCompare (.ref x) "__ne__" b) Q E s := by
  have tv : PySem.W.Looks (model prog w) s.heap (typeOf (.ref x)) (.ref C) := I.type
  have sp : PySem.W.Looks (model prog w) s.heap (specialOf (.ref x) "__ne__") (some (.builtin "object.__ne__")) := tv.andThen (PySem.W.looks_findIn X hn)
  have iv : PySem.W.Looks (model prog w) s.heap (isInstance (.ref x) (.type "object")) true := tv.andThen (PySem.W.looks_mroIn X ho)
  simp only [tryCompare]
  refine wpAny_bind (NtL.csib (E := E) sp (PySem.F.slot_range_iterator_ne.bind _) (wpAny_call (codeAny_call_builtin PySem.F.slot_range_iterator_ne.plain F.cmpEntry_ne (@PySem.W.check_slot (model prog w) _ _ _ "object.__ne__" "object" "__ne__" (.ref x) [b] [] _ F.cmpKind_ne F.cmpSplit_ne iv (F.cmpArgs_ne _ _)
    (objNe_K (A := A.in1) X I hu hs hf (wpAny_mono hcall (fun v s' hv => ?_) fun _ _ e => e))))))
  obtain ⟨r, rfl, hq⟩ := hv
  first | exact ⟨r, rfl, wpAny_pure hq⟩ | exact ⟨r, rfl, wpAny_pure (wpAny_pure hq)⟩ | exact ⟨r, rfl, hq⟩
theorem richNe_K {h₀ : Heap} {L : Addr} {m : Str → Option Value} (Fr0 : PyProof.Rows.Fr h₀ L s.heap m) (X₀ : K.In h₀) (I : PySem.W.InstAt s.heap x ox C (some od)) (hb : PySem.W.Looks (model prog w) s.heap (typeOf b) tb) (hnf : PySem.W.notFirst K C tb = true) (hu : A.units + 1 < cLine)
    (hn : PySem.W.findIn K (.ref C) "__ne__" = some (some (.builtin "object.__ne__"))) (ho : PySem.W.mroIn K C (.type "object") = some true)
    (hs : PySem.W.findIn K (.ref C) "__eq__" = some (some (.ref f))) (hf : PySem.W.isFn K (.ref f) = true) {Q : Value → Shared → Prop}
    (hcall : wpAny (model prog w) A.in1 (call (.ref f) [.ref x, b]) (fun v s' => ∃ r, v = .bool r ∧ Q (.bool (!r)) s') E s) :
    wpAny (model prog w) A (richCompare .NotEq (.ref x) b) Q E s := by
  have X := X₀.keeps Fr0.keep
  have one : wpAny (model prog w) A (tryCompare (.ref x) (cmpInfo .NotEq).2.1 b) (fun r s' => ∃ v, r = some v ∧ Q v s') E s := by
    rw [cmpInfo_NotEq]
    refine tryNe_K X I hu hn ho hs hf (wpAny_mono hcall (fun v s' hv => ?_) fun _ _ e => e)
    obtain ⟨r, rfl, hq⟩ := hv
    exact ⟨r, rfl, _, rfl, hq⟩
  unfold richCompare
  simp only [oneThing_ref]
  refine wpAny_holding (wpAny_bind (wpAny_cRoomFor (Nat.lt_of_succ_lt hu) ?_))
  refine wpAny_bind (I.type.here (wpAny_bind (hb.here ?_)))
  split
  · rename_i q
    have e : PySem.W.subIn K tb (.ref C) = some false := by
      rcases Bool.or_eq_true_iff.mp hnf with e | e
      · rw [beq_iff_eq.mp e] at q; simp at q
      · exact beq_iff_eq.mp e
    refine wpAny_bind ((PySem.W.looks_subIn X e).here ?_)
    simp only [Bool.false_eq_true, if_false]
    refine wpAny_bind (wpAny_mono one (fun r s' z => ?_) fun _ _ e => e)
    obtain ⟨v, rfl, hq⟩ := z
    exact wpAny_pure hq
  · refine wpAny_bind (wpAny_pure ?_)
    simp only [Bool.false_eq_true, if_false]
    refine wpAny_bind (wpAny_mono one (fun r s' z => ?_) fun _ _ e => e)
    obtain ⟨v, rfl, hq⟩ := z
    exact wpAny_pure hq
end
/-- what an own class with == of its own is -/
structure OwnE (K : PySem.W.Frag) (C f : Addr) : Prop where
  eq : PySem.W.findIn K (.ref C) "__eq__" = some (some (.ref f))
  fn : PySem.W.isFn K (.ref f) = true
  ne : PySem.W.findIn K (.ref C) "__ne__" = some (some (.builtin "object.__ne__"))
  ob : PySem.W.mroIn K C (.type "object") = some true
/-- x != y likewise -/
def rOwnN (K : PySem.W.Frag) (C : Addr) (sp : Sp) : R2 := fun x y H Q => ∃ (a dx : Addr) (ys : List (Str × V)) (tb : Value), x = .ref a ∧ H a = some (.ins C dx ys) ∧ TyQ K H y tb ∧ PySem.W.notFirst K C tb = true ∧ sp [x, y] H (fun v H' => ∃ b, v = .bl b ∧ Q (.bl (!b)) H') E0
section
variable {X : Cx} {k j : Nat} {f C : Addr} {fd : FuncData} {ps : List Str} {sp : Sp}
theorem op_ownN (F : FnOk X.prog X.w X.K X.mg X.base CX0 j f fd ps sp) (hr : Room k X.A) (hl : j + 1 ≤ k) (O : OwnE X.K C f) (hb : Binds X.K fd ps []) : OpR X (compareOp .NotEq) (rOwnN X.K C sp) := by
  intro pins s σ H x y v u Q I rx ry h
  obtain ⟨a, dx, ys, tb, rfl, ha, ty, nf, hsp⟩ := h
  cases rx
  obtain ⟨mA, J, _⟩ := ins_get I.hok ha
  obtain ⟨od, J, _⟩ := J.look
  obtain ⟨m, hF⟩ := I.fr
  have rm : Room j X.A.in1 := (hr.mono hl).in1
  show wpAny (model X.prog X.w) X.A (richCompare .NotEq (.ref a) u) (EP X pins σ Q) X.xe s
  refine richNe_K hF I.ok.mod.kin J (looks_of I ry ty) nf (by have := hr.un; omega) O.ne O.ob O.eq O.fn ?_
  have hl := F.len _ _ _ _ hsp
  have r2 : Vals [V.ref a, y] [Value.ref a, u] := .cons rfl (.cons ry .nil)
  have e0 : Env0 X.prog X.w X.K X.mg X.base X.A.in1 X.stack s H := by
    have e := I.env0
    exact ⟨e.frames, e.mod, e.bs, e.bsz, e.funs, e.frf, e.hok, e.bare⟩
  refine wpAny_call (codeAny_mono (F.run X.A.in1 X.stack s H ⟨[.ref a, u], []⟩ [.ref a, u] [.ref a, y] _ E0 rm e0 (by
    have := hb s [.ref a, u] I.kIn (by simpa using hl)
    simpa using this) r2 hsp) fun r s' hq => ?_)
  cases r with
  | error e => exact pass0 pins σ H s e s' I hq
  | ok fl =>
    cases fl with
    | ret w =>
      obtain ⟨z, H', I', rz, b, ez, q⟩ := I.after hq
      subst ez
      cases rz
      exact ⟨b, rfl, .bl (!b), H', I', rfl, q⟩
    | next => exact False.elim hq
    | brk => exact False.elim hq
    | cont => exact False.elim hq
end
/-! the plain rules -/
theorem frz_is {K : PySem.W.Frag} {m : Mp} {H : Hp} {x : V} {ds : List PyData} (h : Dv K m H x (frz ds)) : ∃ a o xs, x = .ref a ∧ H a = some (.frz o (.tup xs)) := by
  generalize e : frz ds = d at h
  cases h with
  | @frz a o xs ds' h1 h2 n al => exact ⟨a, o, xs, rfl, h1⟩
  | _ => cases e
def tyQD (S : Sto) (d : PyData) (t : Value) : Prop := (okTy S d ∧ t = .type (tyW d)) ∨ (∃ ds, d = frz ds ∧ t = .type "tuple") ∨ ∃ C fs, d = ind C fs ∧ t = .ref C
theorem tyW_q {K : PySem.W.Frag} {m : Mp} {H : Hp} {S : Sto} {x : V} {d : PyData} (w : Wd K m H S) (dx : Dv K m H x d) (h : okTy S d) : TyQ K H x (.type (tyW d)) := by
  cases dx with
  | non => exact .non
  | bl b => exact .bl b
  | int i => exact .int i
  | str x => exact .str x
  | lst e n a => exact .lst e
  | tup e n a => exact .tup e
  | con e a =>
    obtain ⟨o, its, n, h1, h2, _⟩ := e
    exact .con h1 h2
  | cel e =>
    obtain ⟨ds, h1⟩ := h
    obtain ⟨a', xs, e1, e2, e3⟩ := w.lst h1
    rw [e] at e1
    cases e1
    exact .lst e2
  | glo a => exact False.elim h
  | frz => exact False.elim h
  | ins => exact False.elim h
  | exd => exact False.elim h
theorem tyQ_dv {K : PySem.W.Frag} {m : Mp} {H : Hp} {S : Sto} {x : V} {d : PyData} {t : Value} (w : Wd K m H S) (dx : Dv K m H x d) (h : tyQD S d t) : TyQ K H x t := by
  rcases h with ⟨h, rfl⟩ | ⟨ds, rfl, rfl⟩ | ⟨C, fs, rfl, rfl⟩
  · exact tyW_q w dx h
  · obtain ⟨a, o, xs, rfl, h1⟩ := frz_is dx
    exact .frz h1
  · obtain ⟨a, dx', ys, rfl, h1, _⟩ := dx.insI
    exact .ins h1
/-- x == y, x of an own class -/
def dOwn (K : PySem.W.Frag) (C : Addr) (sp : SpD) : D2 := fun a b S Q => (∃ fs, a = ind C fs) ∧ (∃ t, tyQD S b t ∧ PySem.W.notFirst K C t = true) ∧ sp [a, b] S (fun d S' => ∃ r, d = .bool r ∧ Q (.bool r) S') X0
def dOwnN (K : PySem.W.Frag) (C : Addr) (sp : SpD) : D2 := fun a b S Q => (∃ fs, a = ind C fs) ∧ (∃ t, tyQD S b t ∧ PySem.W.notFirst K C t = true) ∧ sp [a, b] S (fun d S' => ∃ r, d = .bool r ∧ Q (.bool (!r)) S') X0
theorem snd_own {K : PySem.W.Frag} {C : Addr} {sp : SpD} : Snd2 K (dOwn K C sp) (rOwn K C (spD K sp)) := fun m H S x y a b Q Qd w dx dy h k => by
  obtain ⟨⟨fs, rfl⟩, ⟨t, ht, nf⟩, q⟩ := h
  obtain ⟨p, dx', ys, rfl, h1, _⟩ := dx.insI
  refine ⟨p, dx', ys, t, rfl, h1, tyQ_dv w dy ht, nf, m, S, _, _, X0, w, .cons dx (.cons dy .nil), q, ?_, Kx.no⟩
  rintro d S' v H' m' ⟨r, rfl, q2⟩ e w' dv
  cases dv
  exact ⟨⟨r, rfl⟩, k _ _ _ _ _ q2 e w' (.bl r)⟩
theorem snd_ownN {K : PySem.W.Frag} {C : Addr} {sp : SpD} : Snd2 K (dOwnN K C sp) (rOwnN K C (spD K sp)) := fun m H S x y a b Q Qd w dx dy h k => by
  obtain ⟨⟨fs, rfl⟩, ⟨t, ht, nf⟩, q⟩ := h
  obtain ⟨p, dx', ys, rfl, h1, _⟩ := dx.insI
  refine ⟨p, dx', ys, t, rfl, h1, tyQ_dv w dy ht, nf, m, S, _, _, X0, w, .cons dx (.cons dy .nil), q, ?_, Kx.no⟩
  rintro d S' v H' m' ⟨r, rfl, q2⟩ e w' dv
  cases dv
  exact ⟨r, rfl, k _ _ _ _ _ q2 e w' (.bl _)⟩
/-- isinstance(e, C), C an own class -/
structure IsO (K : PySem.W.Frag) (C : Addr) : Prop where
  cl : Cls K C
  ha : PySem.W.findIn K (.ref C) "__class__" = some (some (.builtin "object.__class__"))
  sp : PySem.W.specialIn K (.builtin "object.__class__") "__get__" = some (some (.builtin "getset_descriptor.__get__"))
  tk : PySem.W.takesIn K (.builtin "object.__class__") = some true
  mr : PySem.W.mroIn K C (.type "object") = some true
  self : PySem.W.kitOne K (.ref C) (.ref C) = some true
  non : PySem.W.kitOne K (.type "NoneType") (.ref C) = some false
  bl : PySem.W.kitOne K (.type "bool") (.ref C) = some false
  int : PySem.W.kitOne K (.type "int") (.ref C) = some false
  str : PySem.W.kitOne K (.type "str") (.ref C) = some false
  lst : PySem.W.kitOne K (.type "list") (.ref C) = some false
  tup : PySem.W.kitOne K (.type "tuple") (.ref C) = some false
def isOB (S : Sto) (C : Addr) (d : PyData) (b : Bool) : Prop := ((∃ fs, d = ind C fs) ∧ b = true) ∨ (okTy S d ∧ b = false) ∨ ((∃ ds, d = frz ds) ∧ b = false)
def dIsO (C : Addr) (t : DE) : DE := fun ρ S Q => t ρ S fun d S1 => ∃ b, isOB S1 C d b ∧ Q (.bool b) S1
theorem isO_dv {K : PySem.W.Frag} {C : Addr} {m : Mp} {H : Hp} {S : Sto} {x : V} {d : PyData} {b : Bool} (T : IsO K C) (w : Wd K m H S) (dx : Dv K m H x d) (h : isOB S C d b) : ∃ t, TyX K H x t ∧ PySem.W.kitOne K t (.ref C) = some b := by
  rcases h with ⟨⟨fs, rfl⟩, rfl⟩ | ⟨h, rfl⟩ | ⟨⟨ds, rfl⟩, rfl⟩
  · obtain ⟨a, dx', ys, rfl, h1, _⟩ := dx.insI
    exact ⟨_, .base (.ins h1 T.cl T.ha T.sp T.tk T.mr), T.self⟩
  · refine ⟨_, tyW_dv w dx h, ?_⟩
    cases d with
    | none => exact T.non
    | bool _ => exact T.bl
    | int _ => exact T.int
    | str _ => exact T.str
    | list _ => exact T.lst
    | tuple _ => exact T.tup
    | dict _ => exact T.lst
  · obtain ⟨a, o, xs, rfl, h1⟩ := frz_is dx
    exact ⟨_, .fTuple h1, T.tup⟩
section
variable {X : Cx} {e e2 : Expr} {t : DE} {C : Addr} {p pos : Pos}
theorem q_isO (T : IsO X.K C) (hm : X.mg "isinstance" = none) (hg : Gl X "isinstance") (ha : QE X e t) (hb : PE X e2 (tC (.ref C))) (he : starEach [e, e2] X.env = (false, eval e X.env) :: starEach [e2] X.env := by rfl) (he2 : starEach [e2] X.env = (false, eval e2 X.env) :: starEach [] X.env := by rfl)
    (hpl : (backTo pos (starEach [e2] X.env)).any (·.1) = false := by rfl) : QE X (.Call (.Name "isinstance" p) [e, e2] [] pos) (dIsO C t) :=
  pe_weak (pe_callB call_isi hg hm (by decide +kernel) (pa_cons ha (pa_cons hb pa_nil he2) he) (by decide) (by decide) he hpl) fun σ H Q ⟨B, ρ, S, m, Qd, at_, q, k⟩ =>
    ⟨B, ρ, S, m, _, at_, q, fun d S' v H' m' ⟨b, h, q⟩ e w dv => by
      obtain ⟨ty, h1, h2⟩ := isO_dv T w dv h
      exact ⟨v, .ref C, ty, _, b, rfl, .own C, h1, h2, k _ S' _ H' m' q e w (.bl _)⟩⟩
end
end K3

/-! the plain layer: xs.append(e), e that may raise -/
namespace K3
open PySem L2 Xr K1
section
variable {X : Cx} {a e : Expr} {t : DE} {aX : DAX} {tX : DEX} {pos : Pos}
theorem qx_append {md : Md} {apos : Pos} (ho : QE X a t) (ha : QAX X [e] aX) (hbase : attributeBase a "append" X.env (eval a X.env) = eval a X.env := by rfl)
    (hfew : ((backTo pos (starEach [e] X.env)).all (fun x => !x.1) && (backToKw pos (keywordEach [] X.env)).all (fun x => x.1.isSome)
      && decide ([e].length + ([] : List Keyword).length + (if ([] : List Keyword).isEmpty then 0 else 1) < 30)) = true := by rfl)
    (hline : (apos.endLine == pos.line) = true := by rfl) (he : starEach [e] X.env = (false, eval e X.env) :: starEach [] X.env := by rfl) :
    QEX X (.Call (.Attribute a "append" apos) [e] [] pos) (fun x => dMet mApp t (aX x)) := pe_weak (pe_bm PySem.F.plainAttrs_list PySem.F.slot_list_append PySem.F.type_list_append mt_append ho ha hbase hfew hline he rfl) fun σ H Q ⟨B, ρ, S, m, Qd, x, at_, q, k, lk⟩ =>
  ⟨B, ρ, S, m, _, at_, q, fun d S1 v H1 m1 q1 e1 w1 dv => by
    obtain ⟨n, en, ⟨es0, q0⟩, q1⟩ := wh_of q1
    obtain ⟨l, rfl, hl⟩ := celN_dv dv en
    obtain ⟨l', xs0, h1, h2, _⟩ := w1.lst q0
    rw [hl] at h1
    cases h1
    refine ⟨.inl ⟨rfl, _, SqL.of h2⟩, B, ρ, S1, m1, _, x, at_.step e1 w1, q1, fun ds S2 vs H2 m2 q2 e2 w2 dvs => ?_, lk⟩
    obtain ⟨es, h3, q2⟩ := wh_of q2
    have hl2 := e2.ext _ _ hl
    obtain ⟨l2, xs, h4, h5, al⟩ := w2.lst (lstC_is h3)
    rw [hl2] at h4
    cases h4
    exact snd_app m2 H2 S2 l xs es vs ds Q _ w2 h5 al dvs q2 (met_k w2 hl2 ((k.up e1).up e2))⟩
end
end K3

/-! the plain layer: tuple(e), e[::-1] of a list, e that may raise -/
namespace K3
open PySem L2 Xr K1
section
variable {X : Cx} {e : Expr} {aX : DAX} {tX : DEX} {pos : Pos}
theorem qx_revL {md : Md} {k : Nat} {p1 p2 p3 : Pos} (he : QEX X e tX) : QEX X (.Subscript e (.Slice none none (some (.UnaryOp .USub (.Constant (.int 1) k p1) p2)) p3) pos) (fun x => dRevL (tX x)) := pe_weak (pe_revL he) fun σ H Q ⟨B, ρ, S, m, Qd, x, at_, q, k, l⟩ => ⟨B, ρ, S, m, _, x, at_, q, (fun d S' v H' m' q e w dv => by
  obtain ⟨nt, q⟩ := q
  obtain ⟨ds, h1, h2⟩ := wh_of q
  obtain ⟨p, xs, rfl, hq, al⟩ := dv.items2 w h1
  rcases hq with hq | hq
  · exact ⟨p, xs, rfl, hq.2, (k.up e).newL w al.rev h2⟩
  · rw [nt] at hq
    cases hq.1), l⟩
theorem qx_tuple {md : Md} {p : Pos} (hm : X.mg "tuple" = none) (hg : Gl X "tuple") (ha : QAX X [e] aX) (he : starEach [e] X.env = (false, eval e X.env) :: starEach [] X.env := by rfl) : QEX X (.Call (.Name "tuple" p) [e] [] pos) (fun x => dCall (on1 dTupOf) (aX x)) :=
  pe_weak (pe_callTy call_tuple_of hg hm (by decide +kernel) ha (by decide) (by decide) he rfl) fun σ H Q ⟨B, ρ, S, m, Qd, x, at_, q, k, l⟩ => ⟨B, ρ, S, m, _, x, at_, q, (fun ds S' vs H' m' q e w dv => snd_tup m' H' S' vs ds Q Qd w dv q (k.up e)), l⟩
end
end K3

/-! the plain layer: a if c else b, as a test -/
namespace K3
open PySem L2 Xr K1
section
variable {X : Cx} {c a b : Expr} {u v w : DT} {tc ta tb : TT} {pos : Pos}
theorem pt_ifT (hc : PT X c tc) (ha : PT X a ta) (hb : PT X b tb) : PT X (.IfExp c a b pos) (fun σ H Q => tc σ H fun k H1 => if k = true then ta σ H1 Q else tb σ H1 Q) := ⟨fun pins s σ H Q I h => by
  have e : PySem.isTrue (.IfExp c a b pos) X.env (eval (.IfExp c a b pos) X.env) = (PySem.isTrue c X.env (eval c X.env) >>= fun k => if k = true then PySem.isTrue a X.env (eval a X.env) else PySem.isTrue b X.env (eval b X.env)) := by
    conv => lhs; unfold PySem.isTrue
  rw [e]
  refine wpAny_bind (thn (hc.run pins s σ H _ I h) fun d s1 ⟨H1, I1, q1⟩ => ?_)
  cases d with
  | true => exact ha.run pins s1 σ H1 Q I1 q1
  | false => exact hb.run pins s1 σ H1 Q I1 q1⟩
def dtIf (u v w : DT) : DT := fun ρ S Q => u ρ S fun k S1 => if k = true then v ρ S1 Q else w ρ S1 Q
theorem qt_ifE (hc : QT X c u) (ha : QT X a v) (hb : QT X b w) : QT X (.IfExp c a b pos) (dtIf u v w) := pt_weak (pt_ifT hc ha hb) fun σ H Q ⟨B, ρ, S, m, Qd, at_, q, k⟩ => ⟨B, ρ, S, m, _, at_, q, fun c S' H' m' q e w => by
  cases c with
  | true => exact iteT ⟨B, ρ, S', m', Qd, at_.step e w, q, k.up e⟩
  | false => exact iteF ⟨B, ρ, S', m', Qd, at_.step e w, q, k.up e⟩⟩
end
end K3

/-! any value as a turning: where the first fault lies -/
namespace K3
open PySem L2 Xr K1 Exv
abbrev sNeedTu : Stmt := top 19
theorem scNeedTu : FnScope ["value", "at", "rule"] ["value"] (defScope sNeedTu) := ⟨rfl, rfl, rfl, by decide +kernel, rfl, by decide +kernel, by decide +kernel⟩
abbrev sIsTu : Stmt := top 22
theorem scIsTu : FnScope ["value"] ["value"] (defScope sIsTu) := ⟨rfl, rfl, rfl, by decide +kernel, rfl, by decide +kernel, by decide +kernel⟩
abbrev atI1 (i : Int) : List (Str × PyData) := [("at", .int i)]
abbrev turnD (C : Addr) (r m : PyData) : PyData := obj C ["rules", "mode"] [r, m]
def keyR : PyData → PyData
  | .tuple (a :: b :: _) => .tuple [a, b]
  | _ => .none
/-- the rule at i is none, or not behind the one ahead of it -/
def badAt (rs : List PyData) (i : Nat) : Bool := match rs[i]? with
  | some r => !ruleB r || (decide (0 < i) && match rs[i - 1]? with | some p => !PySem.W.dataLt (keyR p) (keyR r) | none => false)
  | none => false
def firstBad (rs : List PyData) : Option Nat := (List.range rs.length).find? (badAt rs)
/-- where the first fault lies -/
def dueO (r m : PyData) : Option Int := match r with
  | .tuple rs => if nameD m = true then (firstBad rs).map fun (n : Nat) => (n : Int) else some (-1)
  | _ => some (-1)
theorem fb_some {rs : List PyData} {i : Nat} (h1 : i < rs.length) (h2 : badAt rs i = true) (h3 : ∀ j, j < i → badAt rs j = false) : firstBad rs = some i := by
  unfold firstBad
  rw [List.find?_range_eq_some]
  exact ⟨h2, List.mem_range.mpr h1, fun j hj => by rw [h3 j hj]; rfl⟩
theorem fb_none {rs : List PyData} (h : ∀ j, j < rs.length → badAt rs j = false) : firstBad rs = none := by
  unfold firstBad
  rw [List.find?_eq_none]
  intro j hj
  rw [h j (List.mem_range.mp hj)]
  exact Bool.false_ne_true
theorem fb_lt {rs : List PyData} {i : Nat} (h : firstBad rs = some i) : i < rs.length := by
  unfold firstBad at h
  exact List.mem_range.mp (List.mem_of_find?_eq_some h)
theorem rule_tup {d : PyData} (h : ruleB d = true) : ∃ (a l : Str) (ps : List PyData), d = .tuple [.str a, .str l, .tuple ps] ∧ nameD (.str a) = true ∧ letD (.str l) = true ∧ deepAll (PyData.eqv (.str l) (.str (Str.ofString ""))) ps = true := by
  unfold ruleB at h
  split at h
  · rename_i m l ps
    rw [Bool.and_eq_true, Bool.and_eq_true] at h
    obtain ⟨⟨h1, h2⟩, h3⟩ := h
    obtain ⟨a, rfl⟩ : ∃ z, m = .str z := by cases m <;> first | exact ⟨_, rfl⟩ | cases h1
    obtain ⟨b, rfl⟩ : ∃ z, l = .str z := by
      cases l <;> first | exact ⟨_, rfl⟩ | (exfalso; revert h2; simp [letD, nameD, PyData.eqv])
    exact ⟨a, b, ps, rfl, h1, h2, h3⟩
  · cases h
inductive DueV (C : Addr) : PyData → Option Int → Prop where
  | oth {d : PyData} : pureD d = true → DueV C d (some (-1))
  | tur {r m : PyData} : pureD r = true → pureD m = true → (∀ z, m = .str z → z.length ≤ 900000) → (∀ rs, r = .tuple rs → ∀ x ∈ rs, Vd 60 x ∧ wt x ≤ 20000) → DueV C (turnD C r m) (dueO r m)
def spNeedTu (CT CE : Addr) : SpD := fun ds S Q E => ∃ (d : PyData) (o : Option Int), ds = [d] ∧ DueV CT d o ∧ (∀ i, o = some i → ∀ S', Ext S S' → E CE (atI1 i) S') ∧ (o = none → ∀ S', Ext S S' → Q .none S')
def spIsTu (CT : Addr) : SpD := fun ds S Q _ => ∃ (d : PyData) (o : Option Int), ds = [d] ∧ DueV CT d o ∧ ∀ S', Ext S S' → Q (.bool o.isNone) S'
structure VfTxt (K : PySem.W.Frag) (mg : Str → Option Value) (CT CE fE a_is_name a_is_rule a_need_turning : Addr) : Prop where
  n_isinstance : mg "isinstance" = none
  n_tuple : mg "tuple" = none
  n_enumerate : mg "enumerate" = none
  io : IsO K CT
  na_rules : NoAttr K CT "rules"
  na_mode : NoAttr K CT "mode"
  g_Turning : mg "Turning" = some (.ref CT)
  m_InvalidTurning : mg "InvalidTurning" = some (.ref CE)
  t_InvalidTurning : ExT K CE fE "at" bmExc "Exception.__new__"
  ty_InvalidTurning : PySem.W.typeIn K (.ref CE) = some (.type "type")
  one : PySem.W.exmOne K (.ref CE) (.ref CE) = some true
  g_is_name : mg "is_name" = some (.ref a_is_name)
  k_is_name : PySem.W.keepIn K (.ref a_is_name) = true
  g_is_rule : mg "is_rule" = some (.ref a_is_rule)
  k_is_rule : PySem.W.keepIn K (.ref a_is_rule) = true
  g_need_turning : mg "need_turning" = some (.ref a_need_turning)
  k_need_turning : PySem.W.keepIn K (.ref a_need_turning) = true
section
variable {P : Program} {w : World} {K : PySem.W.Frag} {mg : Str → Option Value} {base : Heap} {CT CE fE a_is_name a_is_rule a_need_turning : Addr} {fdE d1 d2 d3 : FuncData}
theorem ok_needTu {f : Addr} {fd : FuncData} (F : Fun K "need_turning" "need_turning" sNeedTu f fd) (T : VfTxt K mg CT CE fE a_is_name a_is_rule a_need_turning)
    (GI_InvalidTurning : FnOk P w K mg base CX0 1 fE fdE ["self", "at"] (K3.spInit CE "at")) (bI_InvalidTurning : ∀ (s : Shared) (a : Addr) (u : Value), BindsTo s fdE ⟨[.ref a, u], []⟩ ((["self", "at"] : List Str).zip [.ref a, u]))
    (G_is_name : FnOk P w K mg base CX0 2 a_is_name d1 ["value"] (spD K spNameD)) (b_is_name : Binds K d1 ["value"] [])
    (G_is_rule : FnOk P w K mg base CX0 4 a_is_rule d2 ["value"] (spD K spRuleD)) (b_is_rule : Binds K d2 ["value"] []) : FnOk P w K mg base (L2.CX P w) 6 f fd ["value"] (spD K (spNeedTu CT CE)) := by
  refine dokX F scNeedTu (fun ds S Q E h => ?_) fun cdv A outer s H Q E (hr : Room 5 _) => ⟨_, (qss_cons (qs_if (PW.pt (qw_or (qt_not (qt_tru (q_isO T.io T.n_isinstance (by rfl) (q_var (pv 0)) (pe_glob (v := V.ref CT) (by rfl) T.g_Turning rfl)) (by intro _; rfl))) (qw_or (qt_not (qt_tru (q_call hr G_is_name T.g_is_name T.k_is_name b_is_name (by rfl) (by omega) (q_cons (q_fld T.io.cl T.na_mode (q_var (pv 0))) q_nil)) (by intro _; rfl))) (qw_or1 (qt_not (qt_tru (q_isi .tup T.n_isinstance (by rfl) (q_fld T.io.cl T.na_rules (q_var (pv 0))) (pe_bltn (v := V.ty "tuple") (u := .type "tuple") (by rfl) T.n_tuple (by decide +kernel) (by rfl))) (by intro _; rfl)))))))
      (qss_one (qs_raise rfl rfl T.t_InvalidTurning PySem.F.excBase_Exception base3E GI_InvalidTurning (hr.mono (by decide)) pass0 (by rfl) T.m_InvalidTurning (fun s a u _ => bI_InvalidTurning s a u) T.ty_InvalidTurning (q_cons (q_neg q_int) q_nil)))
      qss_nil)
      (qss_one (qs_for PassesOwn.leaving rfl (qi_enumT T.n_enumerate (by rfl) (q_cons (q_fld T.io.cl T.na_rules (q_var (pv 0))) q_nil)) (qg_tup (n := 2) (by rfl) (qgs_cons (qg_name (pg_name (i := 1) scNeedTu.nd rfl (Or.inl rfl))) (qgs_cons (qg_name (pg_name (i := 2) scNeedTu.nd rfl (Or.inl rfl))) qgs_nil)))
      (qss_one (qs_if (PW.pt (qw_or (qt_not (qt_tru (q_call hr G_is_rule T.g_is_rule T.k_is_rule b_is_rule (by rfl) (by omega) (q_cons (q_var (pv 2)) q_nil)) (by intro _; rfl))) (qw_or1 (PW.pt (qw_and (qt_cmp op_gt snd_lt (q_var (pv 1)) q_int (nomark _)) (qw_and1 (qt_cmp (op_leD (by have h9 := Grd.u200 hr; exact h9)) snd_ord (q_sl false (q_var (pv 2)) qo_none (qo_some q_int)) (q_sl false (q_at (q_fld T.io.cl T.na_rules (q_var (pv 0))) (q_sub (q_var (pv 1)) q_int) (fun _ _ => rfl)) qo_none (qo_some q_int)) (nomark _))))))))
      (qss_one (qs_raise rfl rfl T.t_InvalidTurning PySem.F.excBase_Exception base3E GI_InvalidTurning (hr.mono (by decide)) pass0 (by rfl) T.m_InvalidTurning (fun s a u _ => bI_InvalidTurning s a u) T.ty_InvalidTurning (q_cons (q_var (pv 1)) q_nil)))
      qss_nil))))), fun ds S Qd Er h => ?_⟩
  · obtain ⟨d, o, rfl, _⟩ := h
    rfl
  · obtain ⟨d, o, rfl, hv, ke, kq⟩ := h
    (dsimp only [dIsO, dTryAsX, dRetX, dDropX, dSetX, dAsgX, dFnX, dRaise, dTryAs, dTryOnly, dXf, dIsX, dPar3, dFnR, List.reverse_cons, List.reverse_nil, dDelT, mPop0, mPop, mApp, mExt, dFld, dNew, dDGet, dDIn, dZipT, dAll, dTupF, dIdx, dTupRg, dDc, dReprT, dEqT, dNeT, dFor, dLc, dWhile, dRange1, dRange2, dRange3, dEnumT, e_isB, e_tupD, dgUnl, dSeq, dIfS, dSet, dAsg, dRet, dRetN, dDrop, dNext, dPar, dVar, dC, dOp, dB, dTru, dtNot, dtAnd, dtOr, dAnd, dOr, dNot, dIfE, dNeg, dNil, dCons, dTup, dLst, dCel, dNoP, dPart, dSlice, dRevT, dRevL, dCall, on1, dTupOf, dLstOf, dCelOf, dIsi, dName, dgNil, dgCons, dgTup, dFn, dMet, dMet0, gt, st, startD, wh_some, dYes, dEq, dNe, List.map, List.length, List.replicate, List.append, List.cons_append, List.nil_append, dWalk, uns, un, tupNms, dNms, ifT, ifF, List.replicate_succ, List.replicate_zero, Nat.sub_self, Nat.reduceSub, Nat.reduceAdd, Nat.zero_add, Bool.not_true, Bool.not_false, e_addI, e_addS, e_addT, e_addL, e_i2, e_i2c, e_is, e_bool, e_cel, e_strD, e_lenS, e_lenT, e_lenL, e_lenC, e_ixS, e_ixT, e_ixL, e_ixC, e_slS, e_slT, e_slL, e_slC, e_itT, e_itL, e_truN, e_truI, e_truB, e_truL, e_truT, e_okN, e_okB, e_okI, e_okS, e_okL, e_okT, e_okC, e_tupN, e_tupB, e_tupI, e_tupS, e_tupL, e_tupT, e_tupC, e_strN, e_strB, e_strI, e_strS, e_strL, e_strT, e_strC, e_intN, e_intB, e_intI, e_intS, e_intL, e_intT, e_intC, e_boolN, e_boolB, e_boolI, e_boolS, e_boolL, e_boolT, e_boolC, e_lstN, e_lstB, e_lstI, e_lstS, e_lstL, e_lstT, e_lstC, e_nonN, e_nonB, e_nonI, e_nonS, e_nonL, e_nonT, e_wkS, e_wkL, e_wkT, e_wkC, e_join, e_inS, e_ninS, e_ofI, e_ofB, e_abs, e_lenF, e_ixF, e_itF, e_wkF, e_tfF, e_truF, e_repT, e_keyI, e_keyS]; try simp only [true_and, and_true, Nat.reduceLeDiff, reduceIte, reduceCtorEq, Bool.false_eq_true, if_true, if_false, not_false_eq_true, ite_true, ite_false, and_self])
    cases hv with
    | oth pd =>
      refine ⟨false, .inr (.inl ⟨okTy_pure pd, rfl⟩), ?_⟩
      exact iteY rfl (ke _ rfl S Ext.refl)
    | @tur r m pr pm hm hr' =>
      refine ⟨true, .inl ⟨⟨_, rfl⟩, rfl⟩, ?_⟩
      refine iteN (by decide) ⟨_, rfl, wh_mk rfl ⟨m, rfl, pm, hm, wh_mk rfl ?_⟩⟩
      cases hnm : nameD m with
      | false => exact iteY rfl (ke (-1) (by cases r <;> first | rfl | (show (if nameD m = true then _ else some (-1)) = _; rw [hnm]; rfl)) S Ext.refl)
      | true =>
        refine iteN (by decide) ⟨_, rfl, wh_mk rfl ⟨okTy_pure pr, ?_⟩⟩
        by_cases ht : isT Ty6.tup r = true
        · obtain ⟨rs, rfl⟩ : ∃ ds, r = .tuple ds := by cases r <;> first | exact ⟨_, rfl⟩ | cases ht
          have eD : dueO (.tuple rs) m = (firstBad rs).map fun (n : Nat) => (n : Int) := by
            show (if nameD m = true then _ else _) = _
            rw [if_pos hnm]
          rw [eD] at ke kq
          refine iteN (by rw [ht]; decide) ⟨_, rfl, wh_mk rfl ?_⟩
          refine ⟨fun i ρ S' => i ≤ rs.length ∧ Ext S S' ∧ (∀ j, j < i → badAt rs j = false) ∧ ∃ y1 y2 : Option PyData, ρ = [some (turnD CT (.tuple rs) m), y1, y2], ⟨Nat.zero_le _, Ext.refl, fun j hj => absurd hj (Nat.not_lt_zero _), none, none, rfl⟩, fun _ _ _ _ => trivial, ?_, ?_⟩
          · rintro i o ρ S1 ho2 ⟨hi, e1, hb, y1, y2, rfl⟩
            have hi2 : i < rs.length := by
              have := (List.getElem?_eq_some_iff.mp ho2).1
              rwa [enumD_len] at this
            have hd2 : rs[i]? = some rs[i] := List.getElem?_eq_getElem hi2
            rw [enumD_get hd2] at ho2
            cases ho2
            have px := pureAll_memV pr (List.getElem_mem hi2)
            obtain ⟨vx, wx⟩ := hr' rs rfl rs[i] (List.getElem_mem hi2)
            generalize rs[i] = g at px vx wx hd2
            try (dsimp only [dTryAsX, dRetX, dDropX, dSetX, dAsgX, dFnX, dRaise, dTryAs, dTryOnly, dXf, dIsX, dPar3, dFnR, List.reverse_cons, List.reverse_nil, dDelT, mPop0, mPop, mApp, mExt, dFld, dNew, dDGet, dDIn, dZipT, dAll, dTupF, dIdx, dTupRg, dDc, dReprT, dEqT, dNeT, dFor, dLc, dWhile, dRange1, dRange2, dRange3, dEnumT, e_isB, e_tupD, dgUnl, dSeq, dIfS, dSet, dAsg, dRet, dRetN, dDrop, dNext, dPar, dVar, dC, dOp, dB, dTru, dtNot, dtAnd, dtOr, dAnd, dOr, dNot, dIfE, dNeg, dNil, dCons, dTup, dLst, dCel, dNoP, dPart, dSlice, dRevT, dRevL, dCall, on1, dTupOf, dLstOf, dCelOf, dIsi, dName, dgNil, dgCons, dgTup, dFn, dMet, dMet0, gt, st, startD, wh_some, dYes, dEq, dNe, List.map, List.length, List.replicate, List.append, List.cons_append, List.nil_append, dWalk, uns, un, tupNms, dNms, ifT, ifF, List.replicate_succ, List.replicate_zero, Nat.sub_self, Nat.reduceSub, Nat.reduceAdd, Nat.zero_add, Bool.not_true, Bool.not_false, e_addI, e_addS, e_addT, e_addL, e_i2, e_i2c, e_is, e_bool, e_cel, e_strD, e_lenS, e_lenT, e_lenL, e_lenC, e_ixS, e_ixT, e_ixL, e_ixC, e_slS, e_slT, e_slL, e_slC, e_itT, e_itL, e_truN, e_truI, e_truB, e_truL, e_truT, e_okN, e_okB, e_okI, e_okS, e_okL, e_okT, e_okC, e_tupN, e_tupB, e_tupI, e_tupS, e_tupL, e_tupT, e_tupC, e_strN, e_strB, e_strI, e_strS, e_strL, e_strT, e_strC, e_intN, e_intB, e_intI, e_intS, e_intL, e_intT, e_intC, e_boolN, e_boolB, e_boolI, e_boolS, e_boolL, e_boolT, e_boolC, e_lstN, e_lstB, e_lstI, e_lstS, e_lstL, e_lstT, e_lstC, e_nonN, e_nonB, e_nonI, e_nonS, e_nonL, e_nonT, e_wkS, e_wkL, e_wkT, e_wkC, e_join, e_inS, e_ninS, e_ofI, e_ofB, e_abs, e_lenF, e_ixF, e_itF, e_wkF, e_tfF, e_truF, e_repT, e_keyI, e_keyS]; try simp only [true_and, and_true, Nat.reduceLeDiff, reduceIte, reduceCtorEq, Bool.false_eq_true, if_true, if_false, not_false_eq_true, ite_true, ite_false, and_self])
            refine ⟨g, rfl, px, vx, wx, fun S2 e2 => wh_mk rfl ?_⟩
            have e12 : Ext S S2 := e1.trans e2
            have fin : badAt rs i = true → Er CE [("at", PyData.int (i : Nat))] S2 := fun h => ke _ (by rw [fb_some hi2 h hb]; rfl) S2 e12
            have go : badAt rs i = false → (i + 1 ≤ rs.length ∧ Ext S S2 ∧ (∀ j, j < i + 1 → badAt rs j = false) ∧ ∃ y1 y2 : Option PyData, [some (turnD CT (.tuple rs) m), some (PyData.int (i : Nat)), some g] = [some (turnD CT (.tuple rs) m), y1, y2]) := fun h => ⟨hi2, e12, fun j hj => by
              rcases Nat.lt_or_ge j i with q | q
              · exact hb j q
              · rw [show j = i by omega]; exact h, _, _, rfl⟩
            have eB : badAt rs i = (!ruleB g || (decide (0 < i) && match rs[i - 1]? with | some p => !PySem.W.dataLt (keyR p) (keyR g) | none => false)) := by
              unfold badAt
              rw [hd2]
            cases hg : ruleB g with
            | false =>
              rw [hg] at eB
              exact iteY rfl (wh_mk rfl (fin (by rw [eB]; rfl)))
            | true =>
              rw [hg] at eB
              refine iteN (by decide) (wh_mk rfl ?_)
              by_cases h0 : 0 < i
              · have hp : i - 1 < rs.length := by omega
                have hpe : rs[i - 1]? = some rs[i - 1] := List.getElem?_eq_getElem hp
                have vp := (hr' rs rfl rs[i - 1] (List.getElem_mem hp)).1
                have hb1 := hb (i - 1) (by omega)
                have hrp : ruleB rs[i - 1] = true := by
                  unfold badAt at hb1
                  rw [hpe] at hb1
                  have := (Bool.or_eq_false_iff.mp hb1).1
                  simpa using this
                generalize rs[i - 1] = p at hpe vp hrp
                rw [hpe] at eB
                obtain ⟨a, l, ps, rfl, _⟩ := rule_tup hg
                obtain ⟨a2, l2, ps2, rfl, _⟩ := rule_tup hrp
                have ey : decide ((0 : Int) < (i : Nat)) = true := decide_eq_true (by omega)
                dsimp only [dOrd, dI2, dYes, dOp, dC]
                (dsimp only [dOrd, dTryAsX, dRetX, dDropX, dSetX, dAsgX, dFnX, dRaise, dTryAs, dTryOnly, dXf, dIsX, dPar3, dFnR, List.reverse_cons, List.reverse_nil, dDelT, mPop0, mPop, mApp, mExt, dFld, dNew, dDGet, dDIn, dZipT, dAll, dTupF, dIdx, dTupRg, dDc, dReprT, dEqT, dNeT, dFor, dLc, dWhile, dRange1, dRange2, dRange3, dEnumT, e_isB, e_tupD, dgUnl, dSeq, dIfS, dSet, dAsg, dRet, dRetN, dDrop, dNext, dPar, dVar, dC, dOp, dB, dTru, dtNot, dtAnd, dtOr, dAnd, dOr, dNot, dIfE, dNeg, dNil, dCons, dTup, dLst, dCel, dNoP, dPart, dSlice, dRevT, dRevL, dCall, on1, dTupOf, dLstOf, dCelOf, dIsi, dName, dgNil, dgCons, dgTup, dFn, dMet, dMet0, gt, st, startD, wh_some, dYes, dEq, dNe, List.map, List.length, List.replicate, List.append, List.cons_append, List.nil_append, dWalk, uns, un, tupNms, dNms, ifT, ifF, List.replicate_succ, List.replicate_zero, Nat.sub_self, Nat.reduceSub, Nat.reduceAdd, Nat.zero_add, Bool.not_true, Bool.not_false, e_addI, e_addS, e_addT, e_addL, e_i2, e_i2c, e_is, e_bool, e_cel, e_strD, e_lenS, e_lenT, e_lenL, e_lenC, e_ixS, e_ixT, e_ixL, e_ixC, e_slS, e_slT, e_slL, e_slC, e_itT, e_itL, e_truN, e_truI, e_truB, e_truL, e_truT, e_okN, e_okB, e_okI, e_okS, e_okL, e_okT, e_okC, e_tupN, e_tupB, e_tupI, e_tupS, e_tupL, e_tupT, e_tupC, e_strN, e_strB, e_strI, e_strS, e_strL, e_strT, e_strC, e_intN, e_intB, e_intI, e_intS, e_intL, e_intT, e_intC, e_boolN, e_boolB, e_boolI, e_boolS, e_boolL, e_boolT, e_boolC, e_lstN, e_lstB, e_lstI, e_lstS, e_lstL, e_lstT, e_lstC, e_nonN, e_nonB, e_nonI, e_nonS, e_nonL, e_nonT, e_wkS, e_wkL, e_wkT, e_wkC, e_join, e_inS, e_ninS, e_ofI, e_ofB, e_abs, e_lenF, e_ixF, e_itF, e_wkF, e_tfF, e_truF, e_repT, e_keyI, e_keyS]; try simp only [true_and, and_true, Nat.reduceLeDiff, reduceIte, reduceCtorEq, Bool.false_eq_true, if_true, if_false, not_false_eq_true, ite_true, ite_false, and_self])
                rw [ey]
                have ei : ((i : Nat) : Int) - 1 = ((i - 1 : Nat) : Int) := by omega
                rw [ei]
                refine ⟨_, rfl, wh_mk rfl ?_⟩
                refine wh_mk (atI_nat hpe) ?_
                show ordOk (.tuple [.str a, .str l]) (.tuple [.str a2, .str l2]) ∧ _
                refine ⟨ord_two (vd_mem vx _ (by simp)).lay (vd_mem vx _ (by simp)).lay (vd_mem vp _ (by simp)).lay (vd_mem vp _ (by simp)).lay, ?_⟩
                have eB2 : badAt rs i = !PySem.W.dataLt (.tuple [.str a2, .str l2]) (.tuple [.str a, .str l]) := by
                  rw [eB, decide_eq_true h0]
                  rfl
                show if (!PySem.W.dataLt (.tuple [.str a2, .str l2]) (.tuple [.str a, .str l])) = true then _ else _
                rw [← eB2]
                cases hB : badAt rs i with
                | true => exact iteY rfl (fin hB)
                | false => exact iteN (by decide) (go hB)
              · have e0 : badAt rs i = false := by
                  rw [eB, decide_eq_false h0]
                  rfl
                have ey : decide ((0 : Int) < (i : Nat)) = false := decide_eq_false (by omega)
                have g0 := go e0
                dsimp only [dI2]
                rw [ey]
                exact g0
          · rintro ρ S1 ⟨hi, e1, hb, y1, y2, rfl⟩
            rw [enumD_len] at hb
            exact kq (by rw [fb_none hb]; rfl) S1 e1
        · refine iteY (by rw [show isT Ty6.tup r = false by simpa using ht]; rfl) (ke (-1) (by cases r <;> first | rfl | exact absurd rfl ht) S Ext.refl)
theorem ok_isTu {f : Addr} {fd : FuncData} (F : Fun K "is_turning" "is_turning" sIsTu f fd) (T : VfTxt K mg CT CE fE a_is_name a_is_rule a_need_turning)
    (G_need_turning : FnOk P w K mg base (L2.CX P w) 6 a_need_turning d1 ["value"] (spD K (spNeedTu CT CE))) (b_need_turning : Binds K d1 ["value"] []) : FnOk P w K mg base CX0 7 f fd ["value"] (spD K (spIsTu CT)) := by
  refine dok F scIsTu (fun ds S Q E h => ?_) fun cdv A outer s H Q E (hr : Room 6 _) => ⟨_, (qss_cons (qs_try_only (C0 := CE) rfl rfl ⟨(by rfl), (by decide), .inl T.m_InvalidTurning⟩ (fun pn xe hp => (qss_one (qs_exprX (qx_call hr G_need_turning T.g_need_turning T.k_need_turning b_need_turning (by rfl) (by omega) (q_cons (q_var (pv 0)) q_nil)))))
      (fun a oe dd pn hz hd => (qss_one (qs_ret q_bl))))
      (qss_one (qs_ret q_bl))), fun ds S Qd Er h => ?_⟩
  · obtain ⟨d, o, rfl, _⟩ := h
    rfl
  · obtain ⟨d, o, rfl, hv, q⟩ := h
    (dsimp only [dTryAsX, dRetX, dDropX, dSetX, dAsgX, dFnX, dRaise, dTryAs, dTryOnly, dXf, dIsX, dPar3, dFnR, List.reverse_cons, List.reverse_nil, dDelT, mPop0, mPop, mApp, mExt, dFld, dNew, dDGet, dDIn, dZipT, dAll, dTupF, dIdx, dTupRg, dDc, dReprT, dEqT, dNeT, dFor, dLc, dWhile, dRange1, dRange2, dRange3, dEnumT, e_isB, e_tupD, dgUnl, dSeq, dIfS, dSet, dAsg, dRet, dRetN, dDrop, dNext, dPar, dVar, dC, dOp, dB, dTru, dtNot, dtAnd, dtOr, dAnd, dOr, dNot, dIfE, dNeg, dNil, dCons, dTup, dLst, dCel, dNoP, dPart, dSlice, dRevT, dRevL, dCall, on1, dTupOf, dLstOf, dCelOf, dIsi, dName, dgNil, dgCons, dgTup, dFn, dMet, dMet0, gt, st, startD, wh_some, dYes, dEq, dNe, List.map, List.length, List.replicate, List.append, List.cons_append, List.nil_append, dWalk, uns, un, tupNms, dNms, ifT, ifF, List.replicate_succ, List.replicate_zero, Nat.sub_self, Nat.reduceSub, Nat.reduceAdd, Nat.zero_add, Bool.not_true, Bool.not_false, e_addI, e_addS, e_addT, e_addL, e_i2, e_i2c, e_is, e_bool, e_cel, e_strD, e_lenS, e_lenT, e_lenL, e_lenC, e_ixS, e_ixT, e_ixL, e_ixC, e_slS, e_slT, e_slL, e_slC, e_itT, e_itL, e_truN, e_truI, e_truB, e_truL, e_truT, e_okN, e_okB, e_okI, e_okS, e_okL, e_okT, e_okC, e_tupN, e_tupB, e_tupI, e_tupS, e_tupL, e_tupT, e_tupC, e_strN, e_strB, e_strI, e_strS, e_strL, e_strT, e_strC, e_intN, e_intB, e_intI, e_intS, e_intL, e_intT, e_intC, e_boolN, e_boolB, e_boolI, e_boolS, e_boolL, e_boolT, e_boolC, e_lstN, e_lstB, e_lstI, e_lstS, e_lstL, e_lstT, e_lstC, e_nonN, e_nonB, e_nonI, e_nonS, e_nonL, e_nonT, e_wkS, e_wkL, e_wkT, e_wkC, e_join, e_inS, e_ninS, e_ofI, e_ofB, e_abs, e_lenF, e_ixF, e_itF, e_wkF, e_tfF, e_truF, e_repT, e_keyI, e_keyS]; try simp only [true_and, and_true, Nat.reduceLeDiff, reduceIte, reduceCtorEq, Bool.false_eq_true, if_true, if_false, not_false_eq_true, ite_true, ite_false, and_self])
    refine ⟨d, o, rfl, hv, fun i hi S' e' => ?_, fun hn S' e' => ?_⟩
    · have q' := q S' e'
      rw [hi] at q'
      exact wh_mk T.one (iteY rfl ⟨rfl, fun _ _ => q'⟩)
    · have q' := q S' e'
      rw [hn] at q'
      exact q'
end
end K3

/-! sorted(d), d a dict whose keys are texts -/
namespace K3
open PySem L2 Xr K1
section
variable {X : Cx} {e : Expr} {aa : DA} {p pos : Pos}
def dSortDk : PyData → Sto → DK → Prop := fun o S Q => wh (celN o) fun n => wh (dkC S n) fun kvs => ∃ ks : List Str, kvs.map Prod.fst = ks.map Sum.inr ∧ ks.length < 64 ∧ ∀ ys : List Str, ys.Perm ks → PyProof.Rows.sortedS ys = true → Q (.list (ys.map PyData.str)) S
theorem q_sortDk (hc : X.calm = true) (hm : X.mg "sorted" = none) (hg : Gl X "sorted") (ha : QA X [e] aa) (he : starEach [e] X.env = (false, eval e X.env) :: starEach [] X.env := by rfl) : QE X (.Call (.Name "sorted" p) [e] [] pos) (dCall (on1 dSortDk) aa) :=
  pe_weak (pe_callB (call_sortedD hc) hg hm (by decide +kernel) ha (by decide) (by decide) he rfl) fun σ H Q ⟨B, ρ, S, m, Qd, at_, q, k⟩ => ⟨B, ρ, S, m, _, at_, q, fun ds S' vs H' m' q e w dv => by
    match ds, dv, q with
    | [d], dv, q =>
      obtain ⟨x, rfl, dx⟩ := dv1 dv
      obtain ⟨n, en, q⟩ := wh_of q
      obtain ⟨kvs, ek, ks, hk, hl, q⟩ := wh_of q
      obtain ⟨a, rfl, ha⟩ := celN_dv dx en
      obtain ⟨a', gs, h1, h2, h3, h4⟩ := w.dk (dkC_is ek)
      rw [ha] at h1
      cases h1
      refine ⟨a, gs, ks, rfl, .inl h2, ?_, hl, fun ys b pm so hb => (k.up e).newL w (strs_dvs ys) (q ys pm so) b hb⟩
      show gs.map Prod.fst = _
      rw [h3, hk]⟩
end
section
variable {X : Cx} {kx vx : Expr} {tk tv : DE} {pos : Pos}
/-- {k: v} -/
def dDisp1 (tk tv : DE) : DE := fun ρ S Q => tk ρ S fun y S1 => tv ρ S1 fun z S2 => wh (keyD y) fun k => ∀ n, S2 n = none → Q (cel n) (put S2 n (.dk [(k, z)]))
theorem q_disp1 (hk : QE X kx tk) (hv : QE X vx tv) : QE X (.Dict [some kx] [vx] pos) (dDisp1 tk tv) := pe_weak (pe_disp (pps_cons hk hv pps_nil) rfl rfl (by intro h; cases h) (by show 1 ≤ 15; decide)) fun σ H Q ⟨B, ρ, S, m, Qd, at_, q, kk⟩ D hD => by
  have w := at_.wd
  have h0 : Ev0 m H (hide m D) (upd H D (.dK [])) := Ev0.hide w hD
  have f0 := Fr.up0 h0 _ _ at_.fr
  refine ⟨(hide m D, upd H D (.dK [])), ρ, S, hide m D, _, ⟨Evo.refl, w.hide hD, f0⟩, q, fun y S1 v H1 m1 q1 e1 w1 dy => ⟨(hide m D, upd H D (.dK [])), ρ, S1, m1, _, ⟨e1, w1, f0.up e1⟩, q1, fun z S2 v2 H2 m2 q2 e2 w2 dz => ?_⟩⟩
  obtain ⟨k, ek, q3⟩ := wh_of q2
  have e12 := e1.trans e2
  have zD : (hide m D).z D := .inl rfl
  have zD2 : m2.z D := (e12.hz D).mpr zD
  have H2D : H2 D = some (.dK []) := e12.zk D _ zD upd_same
  have hz2 : ∀ a, m2.z a ↔ (a = D ∨ m.z a) := fun a => e12.hz a
  have ek2 := keyD_dv (dy.up e2) ek
  subst ek2
  refine ⟨H2D, [(k, v2)], rfl, by show 1 ≤ 15; decide, ?_⟩
  have em : mergeK [] [(k, v2)] = [(k, v2)] := rfl
  rw [em]
  have w3 := w2.turn (o := .dK [(k, v2)]) zD2
  obtain ⟨n, hnn⟩ := w2.free
  have ev : Ev0 m H m2 (upd H2 D (.dK [(k, v2)])) := (h0.trans e12.toEv0).trans (Ev0.turn zD2)
  have nz : ¬ m.z D := fun z => by
    obtain ⟨o, e⟩ := w.ztr D z
    rw [hD] at e
    cases e
  have e5 : Evo m H (mput (K3.bare m2 D) n D) (upd H2 D (.dK [(k, v2)])) := ⟨ev.trans (Ev0.show zD2 hnn), fun a => by
    show (a ≠ D ∧ m2.z a) ↔ m.z a
    rw [hz2 a]
    constructor
    · rintro ⟨h1, h2⟩
      exact h2.resolve_left h1
    · intro h1
      exact ⟨fun e => nz (by rw [← e]; exact h1), .inr h1⟩, fun a o za e => by
    have ne : a ≠ D := fun x => nz (x ▸ za)
    rw [upd_ne ne]
    exact e12.zk a o (.inr za) (by rw [upd_ne ne]; exact e)⟩
  exact kk _ _ _ _ _ (q3 n (w2.sfree hnn)) e5 (w3.show zD2 hnn ⟨[(k, v2)], upd_same, rfl, .cons ((dz.up0 (Ev0.turn zD2)).up0 (Ev0.show zD2 hnn)) .nil⟩) (.cel mput_same)
end
section
variable {X : Cx} {o i : Expr} {to ti : DE} {pos : Pos}
/-- d[k] = v -/
def dgDset (to ti : DE) : DG := fun d ρ S Q => to ρ S fun o S1 => ti ρ S1 fun y S2 => wh (celN o) fun n => wh (dkC S2 n) fun kvs => wh (keyD y) fun k => kvs.length < 1000000 ∧ Q ρ (put S2 n (.dk (putP kvs k d)))
theorem qg_dset (hu : X.A.units + 1 < cLine) (ho : QE X o to) (hi : QE X i ti)
    (ha : ∀ v, assign (.Subscript o i pos) X.env v = (do
      let ov ← holding [v] (eval o X.env)
      let iv ← holding [v, ov] (eval i X.env)
      standAt pos
      holding [v, ov, iv] (setItem ov iv v)
      release [v, ov, iv] []) := by intro _; rfl) : QG X (.Subscript o i pos) (dgDset to ti) := pg_weak (pg_sub ho hi (set_dict hu) ha) fun v σ H Q ⟨d, B, ρ, S, m, Qd, at_, dv, q, k⟩ =>
  ⟨B, ρ, S, m, _, at_, q, fun o S1 x H1 m1 q1 e1 w1 dx => ⟨B, ρ, S1, m1, _, at_.step e1 w1, q1, fun i S2 y H2 m2 q2 e2 w2 dy => by
    obtain ⟨n, en, q2⟩ := wh_of q2
    obtain ⟨kvs, h3, q2⟩ := wh_of q2
    obtain ⟨kk, ek, hl2, q2⟩ := wh_of q2
    obtain ⟨a, rfl, hl⟩ := celN_dv (dx.up e2) en
    obtain ⟨a', gs, h4, h5, h6, al⟩ := w2.dk (dkC_is h3)
    rw [hl] at h4
    cases h4
    have ey := keyD_dv dy ek
    subst ey
    have lg : gs.length = kvs.length := by
      have := congrArg List.length h6
      rwa [List.length_map, List.length_map] at this
    obtain ⟨p1, p2⟩ := put_dv (k := kk) ((dv.up e1).up e2) h6 al
    have e3 := Evo.set (o := .dK (putK gs kk v)) w2 hl
    exact ⟨a, _, rfl, DPut.k h5 (by rw [lg, sizeLine_eq]; omega), k _ _ _ _ m2 q2 ((e1.trans e2).trans e3) (((at_.step e1 w1).step e2 w2).step e3 (w2.set hl ⟨_, upd_same, p1, p2.up e3⟩))⟩⟩⟩
end
end K3

/-! the modes of a turning -/
namespace K3
open PySem L2 Xr K1 Exv
abbrev sModesOf : Stmt := top 24
theorem scModesOf : FnScope ["turning", "found", "mode", "_", "parts", "other"] ["turning"] (defScope sModesOf) := ⟨rfl, rfl, rfl, by decide +kernel, rfl, by decide +kernel, by decide +kernel⟩
/-- the modes that rules tell, in the order of reading -/
def modeR : PyData → List PyData
  | .tuple [a, _, .tuple ps] => a :: goesD ps
  | _ => []
def modesD (rs : List PyData) : List PyData := rs.flatMap modeR
theorem put_keys {kvs : List (L2.Key × PyData)} {ks ls : List Str} {z : Str} {d : PyData} (h : kvs.map Prod.fst = ks.map Sum.inr) (nd : ks.Nodup) (mm : ∀ x, x ∈ ks ↔ x ∈ ls) :
    ∃ ks' : List Str, (putP kvs (.inr z) d).map Prod.fst = ks'.map Sum.inr ∧ ks'.Nodup ∧ (∀ x, x ∈ ks' ↔ x ∈ ls ++ [z]) ∧ ks'.length ≤ ks.length + 1 := by
  unfold putP
  by_cases hz : z ∈ ks
  · rw [if_pos (by
      rw [any_fst, h, List.any_eq_true]
      exact ⟨.inr z, List.mem_map.mpr ⟨z, hz, rfl⟩, by simp⟩)]
    refine ⟨ks, ?_, nd, fun x => ?_, Nat.le_succ _⟩
    · rw [← h, List.map_map]
      refine List.map_congr_left fun kv _ => ?_
      show (if kv.1 = .inr z then (kv.1, d) else kv).1 = kv.1
      split <;> rfl
    · rw [mm x, List.mem_append, List.mem_singleton]
      exact ⟨.inl, fun q => q.elim id fun e => by rw [e]; exact (mm z).mp hz⟩
  · rw [if_neg (by
      rw [any_fst, h, List.any_eq_true]
      rintro ⟨k, hk, e⟩
      obtain ⟨y, hy, rfl⟩ := List.mem_map.mp hk
      have e' : (Sum.inr y : L2.Key) = .inr z := of_decide_eq_true e
      exact hz (Sum.inr.inj e' ▸ hy))]
    refine ⟨ks ++ [z], by rw [List.map_append, List.map_append, h]; rfl, ?_, fun x => ?_, by rw [List.length_append]; exact Nat.le_refl _⟩
    · rw [List.nodup_append]
      exact ⟨nd, (by simp), fun x hx y hy e => hz (by rw [← List.mem_singleton.mp hy, ← e]; exact hx)⟩
    · rw [List.mem_append, List.mem_append, mm x]
theorem dkC_of {S : Sto} {n : Nat} {kvs : List (L2.Key × PyData)} (h : S n = some (.dk kvs)) : dkC S n = some kvs := by
  unfold dkC
  rw [h]
  rfl
/-- rules that are well made, of a size -/
def rulesOk (rs : List PyData) : Prop := ∀ r ∈ rs, ruleB r = true ∧ Vd 60 r ∧ wt r ≤ 20000
theorem goes_mem {e : Bool} {ps : List PyData} (h : deepAll e ps = true) (hv : ∀ x ∈ ps, Vd 60 x) {d : PyData} (hd : d ∈ goesD ps) : ∃ z : Str, d = .str z := by
  obtain ⟨q, hq, e1⟩ := List.mem_filterMap.mp hd
  obtain ⟨hb, _⟩ := flat_mem e _ ps (Nat.le_refl _) h hv q hq
  obtain ⟨a, r, rfl⟩ := part_tup hb
  unfold goW at e1
  split at e1
  · rename_i a' x r' heq
    cases heq
    split at e1
    · rename_i ha
      obtain ⟨y, e2, hn⟩ := part_go hb ha
      cases e2
      cases e1
      cases d <;> first | exact ⟨_, rfl⟩ | cases hn
    · cases e1
  · cases e1
theorem modeR_strs {r : PyData} (h : ruleB r = true) (hv : Vd 60 r) : ∃ ms : List Str, modeR r = ms.map PyData.str := by
  obtain ⟨a, l, ps, rfl, _, _, hd⟩ := rule_tup h
  have hp : ∀ x ∈ ps, Vd 60 x := vd_mem (vd_mem hv (.tuple ps) (by simp))
  have go : ∀ ds : List PyData, (∀ d ∈ ds, ∃ z : Str, d = .str z) → ∃ ms : List Str, ds = ms.map PyData.str := by
    intro ds
    induction ds with
    | nil => intro _; exact ⟨[], rfl⟩
    | cons d ds ih =>
      intro h
      obtain ⟨z, rfl⟩ := h d List.mem_cons_self
      obtain ⟨ms, rfl⟩ := ih fun x hx => h x (List.mem_cons_of_mem _ hx)
      exact ⟨z :: ms, rfl⟩
  obtain ⟨ms, e⟩ := go (goesD ps) fun d hd' => goes_mem hd hp hd'
  exact ⟨a :: ms, by show PyData.str a :: goesD ps = _; rw [e]; rfl⟩
theorem modes_strs : ∀ {rs : List PyData}, rulesOk rs → ∃ ms : List Str, modesD rs = ms.map PyData.str
  | [], _ => ⟨[], rfl⟩
  | r :: rs, h => by
    obtain ⟨a, e1⟩ := modeR_strs (h r List.mem_cons_self).1 (h r List.mem_cons_self).2.1
    obtain ⟨b, e2⟩ := modes_strs (rs := rs) fun x hx => h x (List.mem_cons_of_mem _ hx)
    exact ⟨a ++ b, by show modeR r ++ modesD rs = _; rw [e1, e2, List.map_append]⟩
def spModes (C : Addr) : SpD := fun ds S Q _ => ∃ (rs : List PyData) (m : Str) (ms : List Str), ds = [turnD C (.tuple rs) (.str m)] ∧ rulesOk rs ∧ modesD rs = ms.map PyData.str ∧ ms.length < 63 ∧
  ∀ (ys : List Str) S', ys.Nodup → (∀ z, z ∈ ys ↔ z ∈ m :: ms) → PyProof.Rows.sortedS ys = true → Ext S S' → Q (.tuple (ys.map PyData.str)) S'
structure VgTxt (K : PySem.W.Frag) (mg : Str → Option Value) (CT a_goes_within : Addr) : Prop where
  n_tuple : mg "tuple" = none
  n_sorted : mg "sorted" = none
  io : IsO K CT
  na_rules : NoAttr K CT "rules"
  na_mode : NoAttr K CT "mode"
  g_goes_within : mg "goes_within" = some (.ref a_goes_within)
  k_goes_within : PySem.W.keepIn K (.ref a_goes_within) = true
section
variable {P : Program} {w : World} {K : PySem.W.Frag} {mg : Str → Option Value} {base : Heap} {CT a_goes_within : Addr} {d1 d2 d3 : FuncData}
theorem ok_modes {f : Addr} {fd : FuncData} (F : Fun K "modes_of" "modes_of" sModesOf f fd) (T : VgTxt K mg CT a_goes_within)
    (G_goes_within : FnOk P w K mg base CX0 3 a_goes_within d1 ["parts"] (spD K spGoW)) (b_goes_within : Binds K d1 ["parts"] []) : FnOk P w K mg base CX0 4 f fd ["turning"] (spD K (spModes CT)) := by
  refine dok F scModesOf (fun ds S Q E h => ?_) fun cdv A outer s H Q E (hr : Room 3 _) => ⟨_, (qss_cons (qs_set (i := 1) scModesOf.nd rfl (Or.inl rfl) (q_disp1 (q_fld T.io.cl T.na_mode (q_var (pv 0))) q_bl))
      (qss_cons (qs_for PassesOwn.never rfl (qi_any (q_fld T.io.cl T.na_rules (q_var (pv 0)))) (qg_tup (n := 3) (by rfl) (qgs_cons (qg_name (pg_name (i := 2) scModesOf.nd rfl (Or.inl rfl))) (qgs_cons (qg_name (pg_name (i := 3) scModesOf.nd rfl (Or.inl rfl))) (qgs_cons (qg_name (pg_name (i := 4) scModesOf.nd rfl (Or.inl rfl))) qgs_nil))))
      (qss_cons (qs_asg q_bl (qg_dset (u1 hr) (q_var (pv 1)) (q_var (pv 2))))
      (qss_one (qs_for PassesOwn.never rfl (qi_any (q_call hr G_goes_within T.g_goes_within T.k_goes_within b_goes_within (by rfl) (by omega) (q_cons (q_var (pv 4)) q_nil))) (qg_name (pg_name (i := 5) scModesOf.nd rfl (Or.inl rfl)))
      (qss_one (qs_asg q_bl (qg_dset (u1 hr) (q_var (pv 1)) (q_var (pv 5)))))))))
      (qss_one (qs_ret (q_tuple T.n_tuple (by rfl) (q_cons (q_sortDk (by rfl) T.n_sorted (by rfl) (q_cons (q_var (pv 1)) q_nil)) q_nil)))))), fun ds S Qd Er h => ?_⟩
  · obtain ⟨rs, m, ms, rfl, _⟩ := h
    rfl
  · obtain ⟨rs, m, ms, rfl, ho, hm, hl, q⟩ := h
    (dsimp only [dIsO, dDisp1, dgDset, dSortDk, dTryAsX, dRetX, dDropX, dSetX, dAsgX, dFnX, dRaise, dTryAs, dTryOnly, dXf, dIsX, dPar3, dFnR, List.reverse_cons, List.reverse_nil, dDelT, mPop0, mPop, mApp, mExt, dFld, dNew, dDGet, dDIn, dZipT, dAll, dTupF, dIdx, dTupRg, dDc, dReprT, dEqT, dNeT, dFor, dLc, dWhile, dRange1, dRange2, dRange3, dEnumT, e_isB, e_tupD, dgUnl, dSeq, dIfS, dSet, dAsg, dRet, dRetN, dDrop, dNext, dPar, dVar, dC, dOp, dB, dTru, dtNot, dtAnd, dtOr, dAnd, dOr, dNot, dIfE, dNeg, dNil, dCons, dTup, dLst, dCel, dNoP, dPart, dSlice, dRevT, dRevL, dCall, on1, dTupOf, dLstOf, dCelOf, dIsi, dName, dgNil, dgCons, dgTup, dFn, dMet, dMet0, gt, st, startD, wh_some, dYes, dEq, dNe, List.map, List.length, List.replicate, List.append, List.cons_append, List.nil_append, dWalk, uns, un, tupNms, dNms, ifT, ifF, List.replicate_succ, List.replicate_zero, Nat.sub_self, Nat.reduceSub, Nat.reduceAdd, Nat.zero_add, Bool.not_true, Bool.not_false, e_addI, e_addS, e_addT, e_addL, e_i2, e_i2c, e_is, e_bool, e_cel, e_strD, e_lenS, e_lenT, e_lenL, e_lenC, e_ixS, e_ixT, e_ixL, e_ixC, e_slS, e_slT, e_slL, e_slC, e_itT, e_itL, e_truN, e_truI, e_truB, e_truL, e_truT, e_okN, e_okB, e_okI, e_okS, e_okL, e_okT, e_okC, e_tupN, e_tupB, e_tupI, e_tupS, e_tupL, e_tupT, e_tupC, e_strN, e_strB, e_strI, e_strS, e_strL, e_strT, e_strC, e_intN, e_intB, e_intI, e_intS, e_intL, e_intT, e_intC, e_boolN, e_boolB, e_boolI, e_boolS, e_boolL, e_boolT, e_boolC, e_lstN, e_lstB, e_lstI, e_lstS, e_lstL, e_lstT, e_lstC, e_nonN, e_nonB, e_nonI, e_nonS, e_nonL, e_nonT, e_wkS, e_wkL, e_wkT, e_wkC, e_join, e_inS, e_ninS, e_ofI, e_ofB, e_abs, e_lenF, e_ixF, e_itF, e_wkF, e_tfF, e_truF, e_repT, e_keyI, e_keyS]; try simp only [true_and, and_true, Nat.reduceLeDiff, reduceIte, reduceCtorEq, Bool.false_eq_true, if_true, if_false, not_false_eq_true, ite_true, ite_false, and_self])
    refine ⟨_, rfl, wh_mk rfl (wh_mk rfl fun n hn => ⟨_, rfl, wh_mk rfl (wh_mk rfl ?_)⟩)⟩
    have e0 : Ext S (put S n (.dk [(.inr m, PyData.bool true)])) := Ext.refl.cell hn
    have h0 : put S n (.dk [(.inr m, PyData.bool true)]) n = some (.dk [(.inr m, .bool true)]) := put_same
    generalize put S n (.dk [(.inr m, PyData.bool true)]) = S0 at e0 h0 ⊢
    refine ⟨fun i ρ S1 => i ≤ rs.length ∧ Ext S S1 ∧ ∃ (kvs : List (L2.Key × PyData)) (ks ls : List Str) (y2 y3 y4 y5 : Option PyData), modesD (rs.take i) = ls.map PyData.str ∧ S1 n = some (.dk kvs) ∧ kvs.map Prod.fst = ks.map Sum.inr ∧ ks.Nodup ∧ (∀ x, x ∈ ks ↔ x ∈ m :: ls) ∧ ks.length ≤ 1 + ls.length ∧ ρ = [some (turnD CT (.tuple rs) (.str m)), some (cel n), y2, y3, y4, y5], ⟨Nat.zero_le _, e0, _, [m], [], none, none, none, none, rfl, h0, rfl, (by simp), fun x => Iff.rfl, Nat.le_refl _, rfl⟩, fun _ _ _ _ => trivial, ?_, ?_⟩
    · rintro i o ρ S1 ho2 ⟨hi, e1, kvs, ks, ls, y2, y3, y4, y5, em, h1, hk, nd, mm, lk, rfl⟩
      have hi2 : i < rs.length := (List.getElem?_eq_some_iff.mp ho2).1
      have tk : rs.take (i + 1) = rs.take i ++ [o] := by rw [List.take_succ, ho2]; rfl
      obtain ⟨hb, vo, wo⟩ := ho o (List.mem_of_getElem? ho2)
      obtain ⟨a, l, ps, rfl, _, _, hd⟩ := rule_tup hb
      have hp : ∀ x ∈ ps, Vd 60 x := vd_mem (vd_mem vo (.tuple ps) (by simp))
      have hw : wtAll ps ≤ 20000 := by
        have := wt_mem (show PyData.tuple ps ∈ [PyData.str a, .str l, .tuple ps] by simp)
        have e : wt (.tuple [PyData.str a, .str l, .tuple ps]) = 1 + wtAll [PyData.str a, .str l, .tuple ps] := rfl
        have e2 : wt (.tuple ps) = 1 + wtAll ps := rfl
        omega
      (dsimp only [dTryAsX, dRetX, dDropX, dSetX, dAsgX, dFnX, dRaise, dTryAs, dTryOnly, dXf, dIsX, dPar3, dFnR, List.reverse_cons, List.reverse_nil, dDelT, mPop0, mPop, mApp, mExt, dFld, dNew, dDGet, dDIn, dZipT, dAll, dTupF, dIdx, dTupRg, dDc, dReprT, dEqT, dNeT, dFor, dLc, dWhile, dRange1, dRange2, dRange3, dEnumT, e_isB, e_tupD, dgUnl, dSeq, dIfS, dSet, dAsg, dRet, dRetN, dDrop, dNext, dPar, dVar, dC, dOp, dB, dTru, dtNot, dtAnd, dtOr, dAnd, dOr, dNot, dIfE, dNeg, dNil, dCons, dTup, dLst, dCel, dNoP, dPart, dSlice, dRevT, dRevL, dCall, on1, dTupOf, dLstOf, dCelOf, dIsi, dName, dgNil, dgCons, dgTup, dFn, dMet, dMet0, gt, st, startD, wh_some, dYes, dEq, dNe, List.map, List.length, List.replicate, List.append, List.cons_append, List.nil_append, dWalk, uns, un, tupNms, dNms, ifT, ifF, List.replicate_succ, List.replicate_zero, Nat.sub_self, Nat.reduceSub, Nat.reduceAdd, Nat.zero_add, Bool.not_true, Bool.not_false, e_addI, e_addS, e_addT, e_addL, e_i2, e_i2c, e_is, e_bool, e_cel, e_strD, e_lenS, e_lenT, e_lenL, e_lenC, e_ixS, e_ixT, e_ixL, e_ixC, e_slS, e_slT, e_slL, e_slC, e_itT, e_itL, e_truN, e_truI, e_truB, e_truL, e_truT, e_okN, e_okB, e_okI, e_okS, e_okL, e_okT, e_okC, e_tupN, e_tupB, e_tupI, e_tupS, e_tupL, e_tupT, e_tupC, e_strN, e_strB, e_strI, e_strS, e_strL, e_strT, e_strC, e_intN, e_intB, e_intI, e_intS, e_intL, e_intT, e_intC, e_boolN, e_boolB, e_boolI, e_boolS, e_boolL, e_boolT, e_boolC, e_lstN, e_lstB, e_lstI, e_lstS, e_lstL, e_lstT, e_lstC, e_nonN, e_nonB, e_nonI, e_nonS, e_nonL, e_nonT, e_wkS, e_wkL, e_wkT, e_wkC, e_join, e_inS, e_ninS, e_ofI, e_ofB, e_abs, e_lenF, e_ixF, e_itF, e_wkF, e_tfF, e_truF, e_repT, e_keyI, e_keyS]; try simp only [true_and, and_true, Nat.reduceLeDiff, reduceIte, reduceCtorEq, Bool.false_eq_true, if_true, if_false, not_false_eq_true, ite_true, ite_false, and_self])
      have el : ls.length ≤ ms.length := by
        have e1 : modesD rs = modesD (rs.take i) ++ modesD (rs.drop i) := by
          unfold modesD
          rw [← List.flatMap_append, List.take_append_drop]
        have := congrArg List.length e1
        rw [hm, em, List.length_append, List.length_map, List.length_map] at this
        omega
      have lkv : kvs.length = ks.length := by
        have := congrArg List.length hk
        rwa [List.length_map, List.length_map] at this
      refine wh_mk (dkC_of h1) ⟨by omega, ps, _, rfl, hd, hp, hw, fun S2 e2 => wh_mk rfl ?_⟩
      obtain ⟨ks1, k1, k2, k3, k4⟩ := put_keys (d := .bool true) (z := a) hk nd mm
      have eM : modesD (rs.take (i + 1)) = ls.map PyData.str ++ (.str a :: goesD ps) := by
        rw [tk]
        unfold modesD
        rw [List.flatMap_append]
        show modesD (rs.take i) ++ (PyData.str a :: goesD ps ++ []) = _
        rw [em, List.append_nil]
      have h2 : S2 n = some (.dk (putP kvs (.inr a) (.bool true))) := e2 _ _ put_same
      have e02 : Ext S S2 := (e1.cell hn).trans e2
      refine ⟨fun j ρ S3 => j ≤ (goesD ps).length ∧ Ext S S3 ∧ ∃ (kvs : List (L2.Key × PyData)) (ks gs : List Str) (y5 : Option PyData), (goesD ps).take j = gs.map PyData.str ∧ S3 n = some (.dk kvs) ∧ kvs.map Prod.fst = ks.map Sum.inr ∧ ks.Nodup ∧ (∀ x, x ∈ ks ↔ x ∈ m :: (ls ++ a :: gs)) ∧ ks.length ≤ 1 + (ls ++ a :: gs).length ∧ ρ = [some (turnD CT (.tuple rs) (.str m)), some (cel n), some (.str a), some (.str l), some (.tuple ps), y5], ⟨Nat.zero_le _, e02, _, ks1, [], _, rfl, h2, k1, k2, fun x => by rw [k3 x]; simp, by rw [List.length_append]; show _ ≤ 1 + (ls.length + 1); omega, rfl⟩, fun _ _ _ _ => trivial, ?_, ?_⟩
      · rintro j o ρ S3 ho3 ⟨hj, e3, kv3, ks3, gs, y6, eg, h3, hk3, nd3, mm3, lk3, rfl⟩
        have hj2 : j < (goesD ps).length := (List.getElem?_eq_some_iff.mp ho3).1
        have tk3 : (goesD ps).take (j + 1) = (goesD ps).take j ++ [o] := by rw [List.take_succ, ho3]; rfl
        obtain ⟨z, rfl⟩ := goes_mem hd hp (List.mem_of_getElem? ho3)
        obtain ⟨ks4, q1, q2, q3, q4⟩ := put_keys (d := .bool true) (z := z) hk3 nd3 mm3
        have lg : (ls ++ a :: gs).length ≤ ms.length := by
          have e1 : modesD rs = modesD (rs.take (i + 1)) ++ modesD (rs.drop (i + 1)) := by
            unfold modesD
            rw [← List.flatMap_append, List.take_append_drop]
          have := congrArg List.length e1
          rw [hm, eM, List.length_append, List.length_append, List.length_map, List.length_map, List.length_cons] at this
          have lj := congrArg List.length eg
          rw [List.length_take, List.length_map] at lj
          rw [List.length_append, List.length_cons]
          omega
        have lkv3 : kv3.length = ks3.length := by
          have := congrArg List.length hk3
          rwa [List.length_map, List.length_map] at this
        try (dsimp only [dTryAsX, dRetX, dDropX, dSetX, dAsgX, dFnX, dRaise, dTryAs, dTryOnly, dXf, dIsX, dPar3, dFnR, List.reverse_cons, List.reverse_nil, dDelT, mPop0, mPop, mApp, mExt, dFld, dNew, dDGet, dDIn, dZipT, dAll, dTupF, dIdx, dTupRg, dDc, dReprT, dEqT, dNeT, dFor, dLc, dWhile, dRange1, dRange2, dRange3, dEnumT, e_isB, e_tupD, dgUnl, dSeq, dIfS, dSet, dAsg, dRet, dRetN, dDrop, dNext, dPar, dVar, dC, dOp, dB, dTru, dtNot, dtAnd, dtOr, dAnd, dOr, dNot, dIfE, dNeg, dNil, dCons, dTup, dLst, dCel, dNoP, dPart, dSlice, dRevT, dRevL, dCall, on1, dTupOf, dLstOf, dCelOf, dIsi, dName, dgNil, dgCons, dgTup, dFn, dMet, dMet0, gt, st, startD, wh_some, dYes, dEq, dNe, List.map, List.length, List.replicate, List.append, List.cons_append, List.nil_append, dWalk, uns, un, tupNms, dNms, ifT, ifF, List.replicate_succ, List.replicate_zero, Nat.sub_self, Nat.reduceSub, Nat.reduceAdd, Nat.zero_add, Bool.not_true, Bool.not_false, e_addI, e_addS, e_addT, e_addL, e_i2, e_i2c, e_is, e_bool, e_cel, e_strD, e_lenS, e_lenT, e_lenL, e_lenC, e_ixS, e_ixT, e_ixL, e_ixC, e_slS, e_slT, e_slL, e_slC, e_itT, e_itL, e_truN, e_truI, e_truB, e_truL, e_truT, e_okN, e_okB, e_okI, e_okS, e_okL, e_okT, e_okC, e_tupN, e_tupB, e_tupI, e_tupS, e_tupL, e_tupT, e_tupC, e_strN, e_strB, e_strI, e_strS, e_strL, e_strT, e_strC, e_intN, e_intB, e_intI, e_intS, e_intL, e_intT, e_intC, e_boolN, e_boolB, e_boolI, e_boolS, e_boolL, e_boolT, e_boolC, e_lstN, e_lstB, e_lstI, e_lstS, e_lstL, e_lstT, e_lstC, e_nonN, e_nonB, e_nonI, e_nonS, e_nonL, e_nonT, e_wkS, e_wkL, e_wkT, e_wkC, e_join, e_inS, e_ninS, e_ofI, e_ofB, e_abs, e_lenF, e_ixF, e_itF, e_wkF, e_tfF, e_truF, e_repT, e_keyI, e_keyS]; try simp only [true_and, and_true, Nat.reduceLeDiff, reduceIte, reduceCtorEq, Bool.false_eq_true, if_true, if_false, not_false_eq_true, ite_true, ite_false, and_self])
        refine wh_mk (dkC_of h3) ⟨by omega, hj2, e3.cell hn, _, ks4, gs ++ [z], _, ?_, put_same, q1, q2, fun x => ?_, ?_, rfl⟩
        · rw [tk3, eg, List.map_append]
          rfl
        · rw [q3 x]
          simp
        · rw [List.length_append, List.length_cons, List.length_append] at *
          simp only [List.length_append, List.length_cons, List.length_nil] at *
          omega
      · rintro ρ S3 ⟨hj, e3, kv3, ks3, gs, y6, eg, h3, hk3, nd3, mm3, lk3, rfl⟩
        refine ⟨hi2, e3, kv3, ks3, ls ++ a :: gs, _, _, _, _, ?_, h3, hk3, nd3, mm3, lk3, rfl⟩
        rw [eM, ← List.take_length (l := goesD ps), eg, List.map_append]
        rfl
    · rintro ρ S1 ⟨hi, e1, kvs, ks, ls, y2, y3, y4, y5, em, h1, hk, nd, mm, lk, rfl⟩
      rw [List.take_length, hm] at em
      have els : ls = ms := by
        have inj : ∀ {a b : List Str}, a.map PyData.str = b.map PyData.str → a = b := by
          intro a
          induction a with
          | nil => intro b h; cases b with
            | nil => rfl
            | cons _ _ => cases h
          | cons x a ih => intro b h; cases b with
            | nil => cases h
            | cons y b =>
              have h' := List.cons.inj h
              cases h'.1
              rw [ih h'.2]
        exact (inj em).symm
      subst els
      refine wh_mk rfl (wh_mk rfl (wh_mk (dkC_of h1) ⟨ks, hk, by omega, fun ys pm so => q ys S1 (pm.nodup_iff.mpr nd) (fun z => by rw [pm.mem_iff, mm z]) so e1⟩))
end
end K3

/-! the class of turnings, and the rule for a letter -/
namespace K3
open PySem L2 Xr K1 Exv
abbrev sRuleFor : Stmt := top 25
theorem scRuleFor : FnScope ["turning", "mode", "letter", "rule"] ["turning", "mode", "letter"] (defScope sRuleFor) := ⟨rfl, rfl, rfl, by decide +kernel, rfl, by decide +kernel, by decide +kernel⟩
abbrev sIniT : Stmt := inClass (top 18) 0
abbrev sEqT : Stmt := inClass (top 18) 1
theorem scIniT : FnScope ["self", "rules", "mode"] ["self", "rules", "mode"] (defScope sIniT) := ⟨rfl, rfl, rfl, by decide +kernel, rfl, by decide +kernel, by decide +kernel⟩
theorem scEqT : FnScope ["self", "other"] ["self", "other"] (defScope sEqT) := ⟨rfl, rfl, rfl, by decide +kernel, rfl, by decide +kernel, by decide +kernel⟩
structure VhTxt (K : PySem.W.Frag) (mg : Str → Option Value) (CT : Addr) : Prop where
  n_isinstance : mg "isinstance" = none
  io : IsO K CT
  na_rules : NoAttr K CT "rules"
  na_mode : NoAttr K CT "mode"
  g_Turning : mg "Turning" = some (.ref CT)
def hasR (mo le : Str) : PyData → Bool
  | .tuple (a :: b :: _) => PyData.eqv a (.str mo) && PyData.eqv b (.str le)
  | _ => false
def ruleFor (rs : List PyData) (mo le : Str) : PyData := match rs.find? (hasR mo le) with
  | some (.tuple [_, _, p]) => p
  | _ => .none
def spRuleFor (C : Addr) : SpD := fun ds S Q _ => ∃ (rs : List PyData) (m : PyData) (mo le : Str), ds = [turnD C (.tuple rs) m, .str mo, .str le] ∧ (∀ r ∈ rs, ruleB r = true) ∧ Q (ruleFor rs mo le) S
/-- two turnings, or a turning and something else -/
def spEqT (C : Addr) : SpD := fun ds S Q _ => ∃ (r m : PyData), (∃ o, ds = [turnD C r m, o] ∧ pureD o = true ∧ Q (.bool false) S) ∨ ∃ r2 m2, ds = [turnD C r m, turnD C r2 m2] ∧ eqOk r r2 ∧ eqOk m m2 ∧ Q (.bool (PyData.eqv r r2 && PyData.eqv m m2)) S
section
variable {P : Program} {w : World} {K : PySem.W.Frag} {mg : Str → Option Value} {base : Heap} {CT : Addr} {d1 d2 d3 : FuncData}
theorem ok_iniT {f : Addr} {fd : FuncData} (F : Fun K "__init__" "Turning.__init__" sIniT f fd) (T : VhTxt K mg CT) : FnOk P w K mg base CX0 1 f fd ["self", "rules", "mode"] (spIni CT ["rules", "mode"]) := by
  refine F.ok scIniT (fun vs H Q E h => ?_) (fun cdv A outer s H vs Q E hr h => ?_)
  · obtain ⟨x, dx, as, rfl, l, _⟩ := h
    rw [List.length_cons, l]
    rfl
  · obtain ⟨x, dx, as, rfl, l, hx, q⟩ := h
    match as, l with
    | [v1, v2], _ =>
      refine ⟨_, pss_cons (ps_fld (pv 0) (pv 1) rfl) (pss_one (ps_fld (pv 0) (pv 2) rfl)), ?_⟩
      refine ⟨_, rfl, _, rfl, x, CT, dx, _, rfl, hx, T.io.cl, T.na_rules, by decide, ?_⟩
      refine ⟨_, rfl, _, rfl, x, CT, dx, _, rfl, upd_same, T.io.cl, T.na_mode, (by show 1 < 1000; decide), ?_⟩
      refine q _ upd_same fun b hb => ?_
      rw [upd_ne hb, upd_ne hb]
theorem ok_ruleFor {f : Addr} {fd : FuncData} (F : Fun K "rule_for" "rule_for" sRuleFor f fd) (T : VhTxt K mg CT) : FnOk P w K mg base CX0 1 f fd ["turning", "mode", "letter"] (spD K (spRuleFor CT)) := by
  refine dok F scRuleFor (fun ds S Q E h => ?_) fun cdv A outer s H Q E (hr : Room 0 _) => ⟨_, (qss_cons (qs_for PassesOwn.never rfl (qi_any (q_fld T.io.cl T.na_rules (q_var (pv 0)))) (qg_name (pg_name (i := 3) scRuleFor.nd rfl (Or.inl rfl)))
      (qss_one (qs_if (PW.pt (qw_and (qt_cmp (op_eqA (u64 hr)) snd_eq (q_at (q_var (pv 3)) q_int (fun _ _ => rfl)) (q_var (pv 1)) (nomark _)) (qw_and1 (qt_cmp (op_eqA (u64 hr)) snd_eq (q_at (q_var (pv 3)) q_int (fun _ _ => rfl)) (q_var (pv 2)) (nomark _)))))
      (qss_one (qs_ret (q_at (q_var (pv 3)) q_int (fun _ _ => rfl))))
      qss_nil)))
      (qss_one (qs_ret q_non))), fun ds S Qd Er h => ?_⟩
  · obtain ⟨rs, m, mo, le, rfl, _⟩ := h
    rfl
  · obtain ⟨rs, m, mo, le, rfl, ho, q⟩ := h
    (dsimp only [dTryAsX, dRetX, dDropX, dSetX, dAsgX, dFnX, dRaise, dTryAs, dTryOnly, dXf, dIsX, dPar3, dFnR, List.reverse_cons, List.reverse_nil, dDelT, mPop0, mPop, mApp, mExt, dFld, dNew, dDGet, dDIn, dZipT, dAll, dTupF, dIdx, dTupRg, dDc, dReprT, dEqT, dNeT, dFor, dLc, dWhile, dRange1, dRange2, dRange3, dEnumT, e_isB, e_tupD, dgUnl, dSeq, dIfS, dSet, dAsg, dRet, dRetN, dDrop, dNext, dPar, dVar, dC, dOp, dB, dTru, dtNot, dtAnd, dtOr, dAnd, dOr, dNot, dIfE, dNeg, dNil, dCons, dTup, dLst, dCel, dNoP, dPart, dSlice, dRevT, dRevL, dCall, on1, dTupOf, dLstOf, dCelOf, dIsi, dName, dgNil, dgCons, dgTup, dFn, dMet, dMet0, gt, st, startD, wh_some, dYes, dEq, dNe, List.map, List.length, List.replicate, List.append, List.cons_append, List.nil_append, dWalk, uns, un, tupNms, dNms, ifT, ifF, List.replicate_succ, List.replicate_zero, Nat.sub_self, Nat.reduceSub, Nat.reduceAdd, Nat.zero_add, Bool.not_true, Bool.not_false, e_addI, e_addS, e_addT, e_addL, e_i2, e_i2c, e_is, e_bool, e_cel, e_strD, e_lenS, e_lenT, e_lenL, e_lenC, e_ixS, e_ixT, e_ixL, e_ixC, e_slS, e_slT, e_slL, e_slC, e_itT, e_itL, e_truN, e_truI, e_truB, e_truL, e_truT, e_okN, e_okB, e_okI, e_okS, e_okL, e_okT, e_okC, e_tupN, e_tupB, e_tupI, e_tupS, e_tupL, e_tupT, e_tupC, e_strN, e_strB, e_strI, e_strS, e_strL, e_strT, e_strC, e_intN, e_intB, e_intI, e_intS, e_intL, e_intT, e_intC, e_boolN, e_boolB, e_boolI, e_boolS, e_boolL, e_boolT, e_boolC, e_lstN, e_lstB, e_lstI, e_lstS, e_lstL, e_lstT, e_lstC, e_nonN, e_nonB, e_nonI, e_nonS, e_nonL, e_nonT, e_wkS, e_wkL, e_wkT, e_wkC, e_join, e_inS, e_ninS, e_ofI, e_ofB, e_abs, e_lenF, e_ixF, e_itF, e_wkF, e_tfF, e_truF, e_repT, e_keyI, e_keyS]; try simp only [true_and, and_true, Nat.reduceLeDiff, reduceIte, reduceCtorEq, Bool.false_eq_true, if_true, if_false, not_false_eq_true, ite_true, ite_false, and_self])
    refine ⟨_, rfl, wh_mk rfl (wh_mk rfl ?_)⟩
    refine ⟨fun i ρ S1 => S1 = S ∧ i ≤ rs.length ∧ (rs.take i).find? (hasR mo le) = none ∧ ∃ y : Option PyData, ρ = [some (turnD CT (.tuple rs) m), some (.str mo), some (.str le), y], ⟨rfl, Nat.zero_le _, rfl, _, rfl⟩, fun _ _ _ _ => trivial, ?_, ?_⟩
    · rintro i o ρ S1 ho2 ⟨rfl, hi, hf, y, rfl⟩
      have hi2 : i < rs.length := (List.getElem?_eq_some_iff.mp ho2).1
      have tk : rs.take (i + 1) = rs.take i ++ [o] := by rw [List.take_succ, ho2]; rfl
      have dr : rs.drop i = o :: rs.drop (i + 1) := by
        have e := (List.getElem?_eq_some_iff.mp ho2).2
        rw [List.drop_eq_getElem_cons hi2, e]
      obtain ⟨a, l, ps, rfl, _⟩ := rule_tup (ho o (List.mem_of_getElem? ho2))
      have hit : hasR mo le (.tuple [.str a, .str l, .tuple ps]) = true → ruleFor rs mo le = .tuple ps := fun h => by
        unfold ruleFor
        rw [← List.take_append_drop i rs, List.find?_append, hf, dr, List.find?_cons, h]
        rfl
      have miss : hasR mo le (.tuple [.str a, .str l, .tuple ps]) = false → (S1 = S1 ∧ i + 1 ≤ rs.length ∧ (rs.take (i + 1)).find? (hasR mo le) = none ∧ ∃ y : Option PyData, [some (turnD CT (.tuple rs) m), some (.str mo), some (.str le), some (.tuple [.str a, .str l, .tuple ps])] = [some (turnD CT (.tuple rs) m), some (.str mo), some (.str le), y]) := fun h => ⟨rfl, hi2, by
        rw [tk, List.find?_append, hf, List.find?_cons, h]
        rfl, _, rfl⟩
      have eh : hasR mo le (.tuple [.str a, .str l, .tuple ps]) = (PyData.eqv (.str a) (.str mo) && PyData.eqv (.str l) (.str le)) := rfl
      rw [eh] at hit miss
      try (dsimp only [dTryAsX, dRetX, dDropX, dSetX, dAsgX, dFnX, dRaise, dTryAs, dTryOnly, dXf, dIsX, dPar3, dFnR, List.reverse_cons, List.reverse_nil, dDelT, mPop0, mPop, mApp, mExt, dFld, dNew, dDGet, dDIn, dZipT, dAll, dTupF, dIdx, dTupRg, dDc, dReprT, dEqT, dNeT, dFor, dLc, dWhile, dRange1, dRange2, dRange3, dEnumT, e_isB, e_tupD, dgUnl, dSeq, dIfS, dSet, dAsg, dRet, dRetN, dDrop, dNext, dPar, dVar, dC, dOp, dB, dTru, dtNot, dtAnd, dtOr, dAnd, dOr, dNot, dIfE, dNeg, dNil, dCons, dTup, dLst, dCel, dNoP, dPart, dSlice, dRevT, dRevL, dCall, on1, dTupOf, dLstOf, dCelOf, dIsi, dName, dgNil, dgCons, dgTup, dFn, dMet, dMet0, gt, st, startD, wh_some, dYes, dEq, dNe, List.map, List.length, List.replicate, List.append, List.cons_append, List.nil_append, dWalk, uns, un, tupNms, dNms, ifT, ifF, List.replicate_succ, List.replicate_zero, Nat.sub_self, Nat.reduceSub, Nat.reduceAdd, Nat.zero_add, Bool.not_true, Bool.not_false, e_addI, e_addS, e_addT, e_addL, e_i2, e_i2c, e_is, e_bool, e_cel, e_strD, e_lenS, e_lenT, e_lenL, e_lenC, e_ixS, e_ixT, e_ixL, e_ixC, e_slS, e_slT, e_slL, e_slC, e_itT, e_itL, e_truN, e_truI, e_truB, e_truL, e_truT, e_okN, e_okB, e_okI, e_okS, e_okL, e_okT, e_okC, e_tupN, e_tupB, e_tupI, e_tupS, e_tupL, e_tupT, e_tupC, e_strN, e_strB, e_strI, e_strS, e_strL, e_strT, e_strC, e_intN, e_intB, e_intI, e_intS, e_intL, e_intT, e_intC, e_boolN, e_boolB, e_boolI, e_boolS, e_boolL, e_boolT, e_boolC, e_lstN, e_lstB, e_lstI, e_lstS, e_lstL, e_lstT, e_lstC, e_nonN, e_nonB, e_nonI, e_nonS, e_nonL, e_nonT, e_wkS, e_wkL, e_wkT, e_wkC, e_join, e_inS, e_ninS, e_ofI, e_ofB, e_abs, e_lenF, e_ixF, e_itF, e_wkF, e_tfF, e_truF, e_repT, e_keyI, e_keyS]; try simp only [true_and, and_true, Nat.reduceLeDiff, reduceIte, reduceCtorEq, Bool.false_eq_true, if_true, if_false, not_false_eq_true, ite_true, ite_false, and_self])
      refine wh_mk (atI_nat (j := 0) rfl) ⟨eqOk_str _ _, ?_⟩
      cases h1 : PyData.eqv (.str a) (.str mo) with
      | false =>
        rw [h1] at miss
        exact iteN (by decide) (miss rfl).2
      | true =>
        rw [h1] at hit miss
        refine iteY rfl (wh_mk (atI_nat (j := 1) rfl) ⟨eqOk_str _ _, ?_⟩)
        cases h2 : PyData.eqv (.str l) (.str le) with
        | false =>
          rw [h2] at miss
          exact iteN (by decide) (miss rfl).2
        | true =>
          rw [h2] at hit
          refine iteY rfl (wh_mk (atI_nat (j := 2) rfl) ?_)
          rw [← hit rfl]
          exact q
    · rintro ρ S1 ⟨rfl, hi, hf, y, rfl⟩
      rw [List.take_length] at hf
      have e : ruleFor rs mo le = .none := by
        unfold ruleFor
        rw [hf]
      rw [← e]
      exact q
theorem ok_eqT {f : Addr} {fd : FuncData} (F : Fun K "__eq__" "Turning.__eq__" sEqT f fd) (T : VhTxt K mg CT) : FnOk P w K mg base CX0 1 f fd ["self", "other"] (spD K (spEqT CT)) := by
  refine dok F scEqT (fun ds S Q E h => ?_) fun cdv A outer s H Q E (hr : Room 0 _) => ⟨_, (qss_one (qs_ret (q_and (q_isO T.io T.n_isinstance (by rfl) (q_var (pv 1)) (pe_glob (v := V.ref CT) (by rfl) T.g_Turning rfl)) (q_and (q_cmp (op_eqA (u64 hr)) snd_eq (q_fld T.io.cl T.na_rules (q_var (pv 0))) (q_fld T.io.cl T.na_rules (q_var (pv 1))) (nomark _)) (q_one (q_cmp (op_eqA (u64 hr)) snd_eq (q_fld T.io.cl T.na_mode (q_var (pv 0))) (q_fld T.io.cl T.na_mode (q_var (pv 1))) (nomark _))))))), fun ds S Qd Er h => ?_⟩
  · obtain ⟨r, m, ⟨o, rfl, _⟩ | ⟨r2, m2, rfl, _⟩⟩ := h <;> rfl
  · obtain ⟨r, m, ⟨o, rfl, po, q⟩ | ⟨r2, m2, rfl, h1, h2, q⟩⟩ := h
    · (dsimp only [dIsO, dTryAsX, dRetX, dDropX, dSetX, dAsgX, dFnX, dRaise, dTryAs, dTryOnly, dXf, dIsX, dPar3, dFnR, List.reverse_cons, List.reverse_nil, dDelT, mPop0, mPop, mApp, mExt, dFld, dNew, dDGet, dDIn, dZipT, dAll, dTupF, dIdx, dTupRg, dDc, dReprT, dEqT, dNeT, dFor, dLc, dWhile, dRange1, dRange2, dRange3, dEnumT, e_isB, e_tupD, dgUnl, dSeq, dIfS, dSet, dAsg, dRet, dRetN, dDrop, dNext, dPar, dVar, dC, dOp, dB, dTru, dtNot, dtAnd, dtOr, dAnd, dOr, dNot, dIfE, dNeg, dNil, dCons, dTup, dLst, dCel, dNoP, dPart, dSlice, dRevT, dRevL, dCall, on1, dTupOf, dLstOf, dCelOf, dIsi, dName, dgNil, dgCons, dgTup, dFn, dMet, dMet0, gt, st, startD, wh_some, dYes, dEq, dNe, List.map, List.length, List.replicate, List.append, List.cons_append, List.nil_append, dWalk, uns, un, tupNms, dNms, ifT, ifF, List.replicate_succ, List.replicate_zero, Nat.sub_self, Nat.reduceSub, Nat.reduceAdd, Nat.zero_add, Bool.not_true, Bool.not_false, e_addI, e_addS, e_addT, e_addL, e_i2, e_i2c, e_is, e_bool, e_cel, e_strD, e_lenS, e_lenT, e_lenL, e_lenC, e_ixS, e_ixT, e_ixL, e_ixC, e_slS, e_slT, e_slL, e_slC, e_itT, e_itL, e_truN, e_truI, e_truB, e_truL, e_truT, e_okN, e_okB, e_okI, e_okS, e_okL, e_okT, e_okC, e_tupN, e_tupB, e_tupI, e_tupS, e_tupL, e_tupT, e_tupC, e_strN, e_strB, e_strI, e_strS, e_strL, e_strT, e_strC, e_intN, e_intB, e_intI, e_intS, e_intL, e_intT, e_intC, e_boolN, e_boolB, e_boolI, e_boolS, e_boolL, e_boolT, e_boolC, e_lstN, e_lstB, e_lstI, e_lstS, e_lstL, e_lstT, e_lstC, e_nonN, e_nonB, e_nonI, e_nonS, e_nonL, e_nonT, e_wkS, e_wkL, e_wkT, e_wkC, e_join, e_inS, e_ninS, e_ofI, e_ofB, e_abs, e_lenF, e_ixF, e_itF, e_wkF, e_tfF, e_truF, e_repT, e_keyI, e_keyS]; try simp only [true_and, and_true, Nat.reduceLeDiff, reduceIte, reduceCtorEq, Bool.false_eq_true, if_true, if_false, not_false_eq_true, ite_true, ite_false, and_self])
      exact ⟨false, .inr (.inl ⟨okTy_pure po, rfl⟩), iteN (by decide) q⟩
    · (dsimp only [dIsO, dTryAsX, dRetX, dDropX, dSetX, dAsgX, dFnX, dRaise, dTryAs, dTryOnly, dXf, dIsX, dPar3, dFnR, List.reverse_cons, List.reverse_nil, dDelT, mPop0, mPop, mApp, mExt, dFld, dNew, dDGet, dDIn, dZipT, dAll, dTupF, dIdx, dTupRg, dDc, dReprT, dEqT, dNeT, dFor, dLc, dWhile, dRange1, dRange2, dRange3, dEnumT, e_isB, e_tupD, dgUnl, dSeq, dIfS, dSet, dAsg, dRet, dRetN, dDrop, dNext, dPar, dVar, dC, dOp, dB, dTru, dtNot, dtAnd, dtOr, dAnd, dOr, dNot, dIfE, dNeg, dNil, dCons, dTup, dLst, dCel, dNoP, dPart, dSlice, dRevT, dRevL, dCall, on1, dTupOf, dLstOf, dCelOf, dIsi, dName, dgNil, dgCons, dgTup, dFn, dMet, dMet0, gt, st, startD, wh_some, dYes, dEq, dNe, List.map, List.length, List.replicate, List.append, List.cons_append, List.nil_append, dWalk, uns, un, tupNms, dNms, ifT, ifF, List.replicate_succ, List.replicate_zero, Nat.sub_self, Nat.reduceSub, Nat.reduceAdd, Nat.zero_add, Bool.not_true, Bool.not_false, e_addI, e_addS, e_addT, e_addL, e_i2, e_i2c, e_is, e_bool, e_cel, e_strD, e_lenS, e_lenT, e_lenL, e_lenC, e_ixS, e_ixT, e_ixL, e_ixC, e_slS, e_slT, e_slL, e_slC, e_itT, e_itL, e_truN, e_truI, e_truB, e_truL, e_truT, e_okN, e_okB, e_okI, e_okS, e_okL, e_okT, e_okC, e_tupN, e_tupB, e_tupI, e_tupS, e_tupL, e_tupT, e_tupC, e_strN, e_strB, e_strI, e_strS, e_strL, e_strT, e_strC, e_intN, e_intB, e_intI, e_intS, e_intL, e_intT, e_intC, e_boolN, e_boolB, e_boolI, e_boolS, e_boolL, e_boolT, e_boolC, e_lstN, e_lstB, e_lstI, e_lstS, e_lstL, e_lstT, e_lstC, e_nonN, e_nonB, e_nonI, e_nonS, e_nonL, e_nonT, e_wkS, e_wkL, e_wkT, e_wkC, e_join, e_inS, e_ninS, e_ofI, e_ofB, e_abs, e_lenF, e_ixF, e_itF, e_wkF, e_tfF, e_truF, e_repT, e_keyI, e_keyS]; try simp only [true_and, and_true, Nat.reduceLeDiff, reduceIte, reduceCtorEq, Bool.false_eq_true, if_true, if_false, not_false_eq_true, ite_true, ite_false, and_self])
      refine ⟨true, .inl ⟨⟨_, rfl⟩, rfl⟩, iteY rfl ⟨_, rfl, wh_mk rfl ⟨_, rfl, wh_mk rfl ⟨h1, ?_⟩⟩⟩⟩
      cases e : PyData.eqv r r2 with
      | false =>
        rw [e] at q
        exact iteN (by decide) q
      | true =>
        rw [e] at q
        exact iteY rfl ⟨_, rfl, wh_mk rfl ⟨_, rfl, wh_mk rfl ⟨h2, q⟩⟩⟩
end
end K3

/-! the law's own reading of values as rules -/
namespace K3
open PySem L2 Xr K1 Exv
abbrev sLStr : Stmt := top 33
theorem scLStr : FnScope ["value", "most", "signs", "sign"] ["value", "most", "signs"] (defScope sLStr) := ⟨rfl, rfl, rfl, by decide +kernel, rfl, by decide +kernel, by decide +kernel⟩
abbrev sLNam : Stmt := top 34
theorem scLNam : FnScope ["value"] ["value"] (defScope sLNam) := ⟨rfl, rfl, rfl, by decide +kernel, rfl, by decide +kernel, by decide +kernel⟩
abbrev sLFor : Stmt := top 35
theorem scLFor : FnScope ["value", "letter", "part", "word", "good"] ["value", "letter"] (defScope sLFor) := ⟨rfl, rfl, rfl, by decide +kernel, rfl, by decide +kernel, by decide +kernel⟩
abbrev sLGoe : Stmt := top 39
theorem scLGoe : FnScope ["parts", "found", "part"] ["parts"] (defScope sLGoe) := ⟨rfl, rfl, rfl, by decide +kernel, rfl, by decide +kernel, by decide +kernel⟩
def strB (most : Nat) (g : Str) : PyData → Bool
  | .str z => decide (z.length ≤ most) && hasOnly z g
  | _ => false
def spLStr : SpD := fun ds S Q _ => ∃ (d : PyData) (most : Nat) (g : Str), ds = [d, .int (most : Nat), .str g] ∧ Vd 60 d ∧ most ≤ 100 ∧ (∀ z, d = .str z → z.length ≤ 900000) ∧ Q (.bool (strB most g d)) S
def spLNam : SpD := fun ds S Q _ => ∃ (d : PyData), ds = [d] ∧ Vd 60 d ∧ (∀ z, d = .str z → z.length ≤ 900000) ∧ Q (.bool (nameD d)) S
theorem str_nil {z : Str} (h : z.length = 0) : z = Str.ofString "" := by
  cases z with
  | mk cs =>
    have h' : cs.size = 0 := h
    have : cs = #[] := Array.eq_empty_of_size_eq_zero h'
    rw [this]
    rfl
theorem vd_one {m : Nat} {z : Str} (h : Vd m (.str z)) {c : Nat} (hc : c ∈ z.cps.toList) : Vd 0 (.str ⟨#[c]⟩) := vd_str fun x hx => by
  have e : x = c := by simpa using hx
  rw [e]
  exact h.sg c hc
theorem deep_one (e : Bool) (a : PyData) : deepB e (.tuple [a]) = (PyData.eqv a (.str (Str.ofString "keep")) && e) := by
  show partB e (.tuple [a]) = _
  show (if PyData.eqv a (.str (Str.ofString "node")) = true then pNode []
    else if PyData.eqv a (.str (Str.ofString "say")) = true then pSay []
    else if PyData.eqv a (.str (Str.ofString "go")) = true then pGo e []
    else PyData.eqv (.tuple [a]) (.tuple [.str (Str.ofString "keep")]) && e) = _
  by_cases h1 : PyData.eqv a (.str (Str.ofString "node")) = true
  · rw [if_pos h1, eqv_word h1]; cases e <;> decide +kernel
  rw [if_neg h1]
  by_cases h2 : PyData.eqv a (.str (Str.ofString "say")) = true
  · rw [if_pos h2, eqv_word h2]; cases e <;> decide +kernel
  rw [if_neg h2]
  by_cases h3 : PyData.eqv a (.str (Str.ofString "go")) = true
  · rw [if_pos h3, eqv_word h3]; cases e <;> decide +kernel
  rw [if_neg h3]
  show ((PyData.eqv a (.str (Str.ofString "keep")) && true) && e) = _
  rw [Bool.and_true]
theorem deep_two (e : Bool) (a x : PyData) : deepB e (.tuple [a, x]) = if PyData.eqv a (.str (Str.ofString "say")) = true then textD x else if PyData.eqv a (.str (Str.ofString "go")) = true then nameD x && !e else false := by
  show partB e (.tuple [a, x]) = _
  show (if PyData.eqv a (.str (Str.ofString "node")) = true then pNode [x]
    else if PyData.eqv a (.str (Str.ofString "say")) = true then pSay [x]
    else if PyData.eqv a (.str (Str.ofString "go")) = true then pGo e [x]
    else PyData.eqv (.tuple [a, x]) (.tuple [.str (Str.ofString "keep")]) && e) = _
  by_cases h1 : PyData.eqv a (.str (Str.ofString "node")) = true
  · rw [if_pos h1, eqv_word h1, if_neg (by decide +kernel), if_neg (by decide +kernel)]; rfl
  rw [if_neg h1]
  by_cases h2 : PyData.eqv a (.str (Str.ofString "say")) = true
  · rw [if_pos h2, if_pos h2]; rfl
  rw [if_neg h2, if_neg h2]
  by_cases h3 : PyData.eqv a (.str (Str.ofString "go")) = true
  · rw [if_pos h3, if_pos h3]; rfl
  rw [if_neg h3, if_neg h3]
  show ((PyData.eqv a (.str (Str.ofString "keep")) && false) && e) = false
  rw [Bool.and_false, Bool.false_and]
theorem part_three (e : Bool) (a x y : PyData) : partB e (.tuple [a, x, y]) = (PyData.eqv a (.str (Str.ofString "node")) && (nameD x && isT Ty6.tup y)) := by
  show (if PyData.eqv a (.str (Str.ofString "node")) = true then pNode [x, y]
    else if PyData.eqv a (.str (Str.ofString "say")) = true then pSay [x, y]
    else if PyData.eqv a (.str (Str.ofString "go")) = true then pGo e [x, y]
    else PyData.eqv (.tuple [a, x, y]) (.tuple [.str (Str.ofString "keep")]) && e) = _
  by_cases h1 : PyData.eqv a (.str (Str.ofString "node")) = true
  · rw [if_pos h1, h1]; rfl
  rw [if_neg h1, show PyData.eqv a (.str (Str.ofString "node")) = false by simpa using h1, Bool.false_and]
  by_cases h2 : PyData.eqv a (.str (Str.ofString "say")) = true
  · rw [if_pos h2]; rfl
  rw [if_neg h2]
  by_cases h3 : PyData.eqv a (.str (Str.ofString "go")) = true
  · rw [if_pos h3]; rfl
  rw [if_neg h3]
  show ((PyData.eqv a (.str (Str.ofString "keep")) && false) && e) = false
  rw [Bool.and_false, Bool.false_and]
def formB (e : Bool) : PyData → Bool
  | .tuple ps => deepAll e ps
  | _ => false
theorem deep_np (e : Bool) (a x : PyData) {y : PyData} (h : isT Ty6.tup y = false) : deepB e (.tuple [a, x, y]) = partB e (.tuple [a, x, y]) := by
  unfold deepB
  split
  · rename_i heq
    cases heq
    cases h
  · rfl
theorem deep_three (e : Bool) (a x y : PyData) : deepB e (.tuple [a, x, y]) = (PyData.eqv a (.str (Str.ofString "node")) && (nameD x && formB e y)) := by
  cases y with
  | tuple ps =>
    show (partB e (.tuple [a, x, .tuple ps]) && (!(PyData.eqv a (.str (Str.ofString "node"))) || deepAll e ps)) = _
    rw [part_three]
    show ((_ && (nameD x && true)) && _) = (_ && (nameD x && deepAll e ps))
    cases PyData.eqv a (.str (Str.ofString "node")) <;> cases nameD x <;> cases deepAll e ps <;> rfl
  | none => rw [deep_np e a x rfl, part_three]; rfl
  | bool b => rw [deep_np e a x rfl, part_three]; rfl
  | int i => rw [deep_np e a x rfl, part_three]; rfl
  | str z => rw [deep_np e a x rfl, part_three]; rfl
  | list l => rw [deep_np e a x rfl, part_three]; rfl
  | dict l => rw [deep_np e a x rfl, part_three]; rfl
theorem deep_more (e : Bool) {es : List PyData} (h : es.length ≠ 1 ∧ es.length ≠ 2 ∧ es.length ≠ 3) : deepB e (.tuple es) = false := by
  refine deep_part ?_
  match es, h with
  | [], _ => rfl
  | [_], h => exact absurd rfl h.1
  | [_, _], h => exact absurd rfl h.2.1
  | [_, _, _], h => exact absurd rfl h.2.2
  | a :: b :: c :: d :: r, _ =>
    show (if PyData.eqv a (.str (Str.ofString "node")) = true then pNode (b :: c :: d :: r)
      else if PyData.eqv a (.str (Str.ofString "say")) = true then pSay (b :: c :: d :: r)
      else if PyData.eqv a (.str (Str.ofString "go")) = true then pGo e (b :: c :: d :: r)
      else PyData.eqv (.tuple (a :: b :: c :: d :: r)) (.tuple [.str (Str.ofString "keep")]) && e) = _
    split
    · rfl
    · split
      · rfl
      · split
        · rfl
        · show ((PyData.eqv a (.str (Str.ofString "keep")) && false) && e) = false
          rw [Bool.and_false, Bool.false_and]
theorem deep_tup {e : Bool} {d : PyData} (h : isT Ty6.tup d = false) : deepB e d = false := by
  refine deep_part ?_
  cases d <;> first | rfl | cases h
def spLFor (n : Nat) : SpD := fun ds S Q _ => ∃ (m : Nat) (d : PyData) (l : Str), ds = [d, .str l] ∧ m < n ∧ m ≤ 60 ∧ Vd m d ∧ wt d ≤ 20000 ∧ Q (.bool (formB (PyData.eqv (.str l) (.str (Str.ofString ""))) d)) S
theorem goes_app (a b : List PyData) : goesD (a ++ b) = goesD a ++ goesD b := by
  have h : flatAll (a ++ b) = flatAll a ++ flatAll b := by
    induction a with
    | nil => rfl
    | cons x a ih =>
      show flatP x ++ flatAll (a ++ b) = (flatP x ++ flatAll a) ++ flatAll b
      rw [ih, List.append_assoc]
  unfold goesD
  rw [h, List.filterMap_append]
theorem goes_node {a x : PyData} {ks : List PyData} (h : PyData.eqv a (.str (Str.ofString "node")) = true) : goesD [.tuple [a, x, .tuple ks]] = goesD ks := by
  have e : flatAll [.tuple [a, x, .tuple ks]] = .tuple [a, x, .tuple ks] :: flatAll ks := by
    show flatP _ ++ [] = _
    rw [List.append_nil, flat_kids]
    have : kidsD (.tuple [a, x, .tuple ks]) = ks := by
      show (if PyData.eqv a (.str (Str.ofString "node")) = true then ks else []) = ks
      rw [if_pos h]
    rw [this]
  unfold goesD
  rw [e, eqv_word h]
  rfl
theorem goes_leaf {a : PyData} {r : List PyData} (h : PyData.eqv a (.str (Str.ofString "node")) = false) (hg : PyData.eqv a (.str (Str.ofString "go")) = false) : goesD [.tuple (a :: r)] = [] := by
  have e : flatAll [.tuple (a :: r)] = [.tuple (a :: r)] := by
    show flatP _ ++ [] = _
    rw [List.append_nil, flat_kids]
    have : kidsD (.tuple (a :: r)) = [] := by
      unfold kidsD
      split
      · rename_i heq
        cases heq
        rw [h]
        rfl
      · rfl
    rw [this]
    rfl
  unfold goesD
  rw [e]
  cases r with
  | nil => rfl
  | cons x r =>
    have eg : goW (.tuple (a :: x :: r)) = none := by
      show (if PyData.eqv a (.str (Str.ofString "go")) = true then some x else none) = none
      rw [hg]
      rfl
    simp [List.filterMap_cons, eg]
def spLGoe (n : Nat) : SpD := fun ds S Q _ => ∃ (m : Nat) (ps : List PyData) (e : Bool), ds = [.tuple ps] ∧ m < n ∧ m ≤ 60 ∧ Vd m (.tuple ps) ∧ deepAll e ps = true ∧ wtAll ps ≤ 20000 ∧ Q (.list (goesD ps)) S
structure ViTxt (K : PySem.W.Frag) (mg : Str → Option Value) (a_law_string a_law_name a_law_formed a_law_goes : Addr) : Prop where
  n_isinstance : mg "isinstance" = none
  n_tuple : mg "tuple" = none
  n_str : mg "str" = none
  n_len : mg "len" = none
  g_law_string : mg "_law_string" = some (.ref a_law_string)
  k_law_string : PySem.W.keepIn K (.ref a_law_string) = true
  g_law_name : mg "_law_name" = some (.ref a_law_name)
  k_law_name : PySem.W.keepIn K (.ref a_law_name) = true
  g_law_formed : mg "_law_formed" = some (.ref a_law_formed)
  k_law_formed : PySem.W.keepIn K (.ref a_law_formed) = true
  g_law_goes : mg "_law_goes" = some (.ref a_law_goes)
  k_law_goes : PySem.W.keepIn K (.ref a_law_goes) = true
section
variable {P : Program} {w : World} {K : PySem.W.Frag} {mg : Str → Option Value} {base : Heap} {a_law_string a_law_name a_law_formed a_law_goes : Addr} {d1 d2 d3 : FuncData}
theorem ok_lstr {f : Addr} {fd : FuncData} (F : Fun K "_law_string" "_law_string" sLStr f fd) (T : ViTxt K mg a_law_string a_law_name a_law_formed a_law_goes) : FnOk P w K mg base CX0 1 f fd ["value", "most", "signs"] (spD K spLStr) := by
  refine dok F scLStr (fun ds S Q E h => ?_) fun cdv A outer s H Q E (hr : Room 0 _) => ⟨_, (qss_one (qs_ret (q_and (q_isi .str T.n_isinstance (by rfl) (q_var (pv 0)) (pe_bltn (v := V.ty "str") (u := .type "str") (by rfl) T.n_str (by decide +kernel) (by rfl))) (q_and (q_cmp op_le snd_lt (q_len T.n_len (by rfl) (q_cons (q_var (pv 0)) q_nil)) (q_var (pv 1)) (nomark _)) (q_one (q_cmp (op_eqA (u64 hr)) snd_eq (q_lc (own := [("sign", 3)]) (by rfl) scLStr.nd (qi_any (q_var (pv 0))) (blkOk_by (own := [("sign", 3)]) (N := ["value", "most", "signs", "sign"]) (sc := defScope sLStr) (by decide +kernel)) (bnd_one (i := 3) (by decide)) (fun _ _ _ _ _ => (pg_name (i := 3) scLStr.nd rfl (Or.inl rfl))) (fun _ _ _ _ _ => qts_one (qt_cmp op_notIn_sign snd_notInS (q_var (pv 3)) (q_var (pv 2)) (by rfl))) (fun _ _ _ _ _ => (q_var (pv 3)))) (q_lst q_nil) (nomark _))))))), fun ds S Qd Er h => ?_⟩
  · obtain ⟨d, most, g, rfl, _⟩ := h
    rfl
  · obtain ⟨d, most, g, rfl, vd, hm, hz, q⟩ := h
    have pd := layPure d vd.lay
    (dsimp only [dTryAsX, dRetX, dDropX, dSetX, dAsgX, dFnX, dRaise, dTryAs, dTryOnly, dXf, dIsX, dPar3, dFnR, List.reverse_cons, List.reverse_nil, dDelT, mPop0, mPop, mApp, mExt, dFld, dNew, dDGet, dDIn, dZipT, dAll, dTupF, dIdx, dTupRg, dDc, dReprT, dEqT, dNeT, dFor, dLc, dWhile, dRange1, dRange2, dRange3, dEnumT, e_isB, e_tupD, dgUnl, dSeq, dIfS, dSet, dAsg, dRet, dRetN, dDrop, dNext, dPar, dVar, dC, dOp, dB, dTru, dtNot, dtAnd, dtOr, dAnd, dOr, dNot, dIfE, dNeg, dNil, dCons, dTup, dLst, dCel, dNoP, dPart, dSlice, dRevT, dRevL, dCall, on1, dTupOf, dLstOf, dCelOf, dIsi, dName, dgNil, dgCons, dgTup, dFn, dMet, dMet0, gt, st, startD, wh_some, dYes, dEq, dNe, List.map, List.length, List.replicate, List.append, List.cons_append, List.nil_append, dWalk, uns, un, tupNms, dNms, ifT, ifF, List.replicate_succ, List.replicate_zero, Nat.sub_self, Nat.reduceSub, Nat.reduceAdd, Nat.zero_add, Bool.not_true, Bool.not_false, e_addI, e_addS, e_addT, e_addL, e_i2, e_i2c, e_is, e_bool, e_cel, e_strD, e_lenS, e_lenT, e_lenL, e_lenC, e_ixS, e_ixT, e_ixL, e_ixC, e_slS, e_slT, e_slL, e_slC, e_itT, e_itL, e_truN, e_truI, e_truB, e_truL, e_truT, e_okN, e_okB, e_okI, e_okS, e_okL, e_okT, e_okC, e_tupN, e_tupB, e_tupI, e_tupS, e_tupL, e_tupT, e_tupC, e_strN, e_strB, e_strI, e_strS, e_strL, e_strT, e_strC, e_intN, e_intB, e_intI, e_intS, e_intL, e_intT, e_intC, e_boolN, e_boolB, e_boolI, e_boolS, e_boolL, e_boolT, e_boolC, e_lstN, e_lstB, e_lstI, e_lstS, e_lstL, e_lstT, e_lstC, e_nonN, e_nonB, e_nonI, e_nonS, e_nonL, e_nonT, e_wkS, e_wkL, e_wkT, e_wkC, e_join, e_inS, e_ninS, e_ofI, e_ofB, e_abs, e_lenF, e_ixF, e_itF, e_wkF, e_tfF, e_truF, e_repT, e_keyI, e_keyS]; try simp only [true_and, and_true, Nat.reduceLeDiff, reduceIte, reduceCtorEq, Bool.false_eq_true, if_true, if_false, not_false_eq_true, ite_true, ite_false, and_self])
    refine ⟨okTy_pure pd, ?_⟩
    by_cases hs : isT Ty6.str d = true
    · obtain ⟨z, rfl⟩ : ∃ z, d = .str z := by cases d <;> first | exact ⟨_, rfl⟩ | cases hs
      have hz' := hz z rfl
      refine iteY hs ?_
      rw [e_lenS]
      refine ⟨by omega, ?_⟩
      dsimp only [dI2]
      refine wh_mk rfl ?_
      have eS : strB most g (.str z) = (decide (z.length ≤ most) && hasOnly z g) := rfl
      by_cases hl : z.length ≤ most
      · rw [eS, decide_eq_true hl, Bool.true_and] at q
        refine iteY (decide_eq_true (by omega)) (wh_mk rfl ?_)
        have sl : (signs z).length = z.length := by
          unfold signs
          rw [List.length_map, cps_len]
        refine ⟨fun i acc S' => S' = S ∧ i ≤ z.length ∧ acc.length ≤ i ∧ (∀ x ∈ acc, Vd 0 x) ∧ ((z.cps.toList.take i).all fun c => decide (c ∈ g.cps.toList)) = acc.isEmpty, ⟨rfl, Nat.zero_le _, Nat.le_refl _, fun x hx => by simp at hx, rfl⟩, ?_, ?_, ?_⟩
        · rintro i acc S' ⟨rfl, hi, ha, _⟩
          exact ⟨trivial, by omega⟩
        · rintro i o acc S' ho ⟨rfl, hi, ha, hv, he⟩
          have hi2 : i < z.length := by
            have h0 : i < (signs z).length := (List.getElem?_eq_some_iff.mp ho).1
            rwa [sl] at h0
          obtain ⟨c, hc, rfl⟩ : ∃ c, z.cps.toList[i]? = some c ∧ o = .str ⟨#[c]⟩ := by
            have ho' : (z.cps.toList.map fun c => PyData.str ⟨#[c]⟩)[i]? = some o := ho
            rw [List.getElem?_map] at ho'
            cases e : z.cps.toList[i]? with
            | none => rw [e] at ho'; cases ho'
            | some c => rw [e] at ho'; cases ho'; exact ⟨c, rfl, rfl⟩
          have tk : z.cps.toList.take (i + 1) = z.cps.toList.take i ++ [c] := by rw [List.take_succ, hc]; rfl
          rw [ninS_sg]
          refine wh_mk rfl ?_
          by_cases hm2 : c ∈ g.cps.toList
          · refine iteN (by rw [decide_eq_true hm2]; decide) ⟨rfl, hi2, by omega, hv, ?_⟩
            rw [tk, List.all_append, he]
            show (acc.isEmpty && (decide (c ∈ g.cps.toList) && true)) = acc.isEmpty
            rw [decide_eq_true hm2, Bool.and_true, Bool.and_true]
          · refine iteY (by rw [decide_eq_false hm2]; rfl) ⟨rfl, hi2, by rw [List.length_append]; exact Nat.add_le_add_right ha 1, fun x hx => ?_, ?_⟩
            · rcases List.mem_append.mp hx with h | h
              · exact hv x h
              · rw [List.mem_singleton.mp h]
                exact vd_one vd (List.mem_of_getElem? hc)
            · rw [tk, List.all_append]
              show (_ && (decide (c ∈ g.cps.toList) && true)) = _
              rw [decide_eq_false hm2, Bool.false_and, Bool.and_false]
              cases acc <;> rfl
        · rintro acc S' ⟨rfl, hi, ha, hv, he⟩
          rw [sl, List.take_of_length_le (by rw [cps_len]; exact Nat.le_refl _)] at he
          refine ⟨.inr ⟨(vd_lst (m := 0) hv).shaped (by decide), by decide +kernel⟩, ?_⟩
          have e : PyData.eqv (.list acc) (.list []) = hasOnly z g := by
            show _ = (z.cps.toList.all fun c => decide (c ∈ g.cps.toList))
            rw [he]
            cases acc <;> rfl
          rw [e]
          exact q
      · rw [eS, decide_eq_false hl] at q
        exact iteN (by rw [decide_eq_false (by omega)]; decide) q
    · have e : strB most g d = false := by cases d <;> first | rfl | exact absurd rfl hs
      rw [e] at q
      exact iteN hs q
theorem ok_lnam {f : Addr} {fd : FuncData} (F : Fun K "_law_name" "_law_name" sLNam f fd) (T : ViTxt K mg a_law_string a_law_name a_law_formed a_law_goes)
    (G_law_string : FnOk P w K mg base CX0 1 a_law_string d1 ["value", "most", "signs"] (spD K spLStr)) (b_law_string : Binds K d1 ["value", "most", "signs"] []) : FnOk P w K mg base CX0 2 f fd ["value"] (spD K spLNam) := by
  refine dok F scLNam (fun ds S Q E h => ?_) fun cdv A outer s H Q E (hr : Room 1 _) => ⟨_, (qss_one (qs_ret (q_and (q_call hr G_law_string T.g_law_string T.k_law_string b_law_string (by rfl) (by omega) (q_cons (q_var (pv 0)) (q_cons q_int (q_cons q_str q_nil)))) (q_one (q_cmp (op_neA (u64 hr)) snd_ne (q_var (pv 0)) q_str (nomark _)))))), fun ds S Qd Er h => ?_⟩
  · obtain ⟨d, rfl, _⟩ := h
    rfl
  · obtain ⟨d, rfl, vd, hz, q⟩ := h
    (dsimp only [dTryAsX, dRetX, dDropX, dSetX, dAsgX, dFnX, dRaise, dTryAs, dTryOnly, dXf, dIsX, dPar3, dFnR, List.reverse_cons, List.reverse_nil, dDelT, mPop0, mPop, mApp, mExt, dFld, dNew, dDGet, dDIn, dZipT, dAll, dTupF, dIdx, dTupRg, dDc, dReprT, dEqT, dNeT, dFor, dLc, dWhile, dRange1, dRange2, dRange3, dEnumT, e_isB, e_tupD, dgUnl, dSeq, dIfS, dSet, dAsg, dRet, dRetN, dDrop, dNext, dPar, dVar, dC, dOp, dB, dTru, dtNot, dtAnd, dtOr, dAnd, dOr, dNot, dIfE, dNeg, dNil, dCons, dTup, dLst, dCel, dNoP, dPart, dSlice, dRevT, dRevL, dCall, on1, dTupOf, dLstOf, dCelOf, dIsi, dName, dgNil, dgCons, dgTup, dFn, dMet, dMet0, gt, st, startD, wh_some, dYes, dEq, dNe, List.map, List.length, List.replicate, List.append, List.cons_append, List.nil_append, dWalk, uns, un, tupNms, dNms, ifT, ifF, List.replicate_succ, List.replicate_zero, Nat.sub_self, Nat.reduceSub, Nat.reduceAdd, Nat.zero_add, Bool.not_true, Bool.not_false, e_addI, e_addS, e_addT, e_addL, e_i2, e_i2c, e_is, e_bool, e_cel, e_strD, e_lenS, e_lenT, e_lenL, e_lenC, e_ixS, e_ixT, e_ixL, e_ixC, e_slS, e_slT, e_slL, e_slC, e_itT, e_itL, e_truN, e_truI, e_truB, e_truL, e_truT, e_okN, e_okB, e_okI, e_okS, e_okL, e_okT, e_okC, e_tupN, e_tupB, e_tupI, e_tupS, e_tupL, e_tupT, e_tupC, e_strN, e_strB, e_strI, e_strS, e_strL, e_strT, e_strC, e_intN, e_intB, e_intI, e_intS, e_intL, e_intT, e_intC, e_boolN, e_boolB, e_boolI, e_boolS, e_boolL, e_boolT, e_boolC, e_lstN, e_lstB, e_lstI, e_lstS, e_lstL, e_lstT, e_lstC, e_nonN, e_nonB, e_nonI, e_nonS, e_nonL, e_nonT, e_wkS, e_wkL, e_wkT, e_wkC, e_join, e_inS, e_ninS, e_ofI, e_ofB, e_abs, e_lenF, e_ixF, e_itF, e_wkF, e_tfF, e_truF, e_repT, e_keyI, e_keyS]; try simp only [true_and, and_true, Nat.reduceLeDiff, reduceIte, reduceCtorEq, Bool.false_eq_true, if_true, if_false, not_false_eq_true, ite_true, ite_false, and_self])
    refine ⟨d, 8, abc, rfl, vd, by decide, hz, wh_mk rfl ?_⟩
    cases hs : strB 8 abc d with
    | false =>
      refine iteN (by decide) ?_
      have e : nameD d = false := by
        cases d <;> first | rfl | skip
        rename_i z
        have hs' : (decide (z.length ≤ 8) && hasOnly z abc) = false := hs
        show (decide (z.length ≠ 0) && (decide (z.length ≤ 8) && hasOnly z abc)) = false
        rw [hs', Bool.and_false]
      rw [e] at q
      exact q
    | true =>
      obtain ⟨z, rfl⟩ : ∃ z, d = .str z := by cases d <;> first | exact ⟨_, rfl⟩ | cases hs
      have hs' : (decide (z.length ≤ 8) && hasOnly z abc) = true := hs
      refine iteY rfl ⟨eqOk_str _ _, ?_⟩
      have e : nameD (.str z) = !PyData.eqv (.str z) (.str (Str.ofString "")) := by
        show (decide (z.length ≠ 0) && (decide (z.length ≤ 8) && hasOnly z abc)) = _
        rw [hs', Bool.and_true, eqv_strD, ← decide_not]
        exact decide_eq_decide.mpr ⟨fun h e => h (by rw [e]; rfl), fun h e => h (str_nil e)⟩
      rw [← e]
      exact q
theorem ok_lfor0 {fd : FuncData} (F : Fun K "_law_formed" "_law_formed" sLFor a_law_formed fd) : FnOk P w K mg base CX0 3 a_law_formed fd ["value", "letter"] (spD K (spLFor 0)) := by
  refine F.ok scLFor (spD_len fun ds S Q E h => ?_) fun cdv A outer s H vs Q E hr h => ?_
  · obtain ⟨m, d, l, rfl, _⟩ := h
    rfl
  · obtain ⟨m, S, ds, Qd, Ed, w, dv, ⟨m, d, l, _, hm, _⟩, _⟩ := h
    omega
theorem ok_lforS {fd : FuncData} {n : Nat} (F : Fun K "_law_formed" "_law_formed" sLFor a_law_formed fd) (T : ViTxt K mg a_law_string a_law_name a_law_formed a_law_goes) (b_law_formed : Binds K fd ["value", "letter"] [])
    (G_law_string : FnOk P w K mg base CX0 1 a_law_string d1 ["value", "most", "signs"] (spD K spLStr)) (b_law_string : Binds K d1 ["value", "most", "signs"] [])
    (G_law_name : FnOk P w K mg base CX0 2 a_law_name d2 ["value"] (spD K spLNam)) (b_law_name : Binds K d2 ["value"] [])
    (G_law_formed : FnOk P w K mg base CX0 (3 + n) a_law_formed fd ["value", "letter"] (spD K (spLFor n))) : FnOk P w K mg base CX0 (3 + n + 1) a_law_formed fd ["value", "letter"] (spD K (spLFor (n + 1))) := by
  refine dok F scLFor (fun ds S Q E h => ?_) fun cdv A outer s H Q E (hr : Room (3 + n) _) => ⟨_, (qss_cons (qs_if (qt_not (qt_tru (q_isi .tup T.n_isinstance (by rfl) (q_var (pv 0)) (pe_bltn (v := V.ty "tuple") (u := .type "tuple") (by rfl) T.n_tuple (by decide +kernel) (by rfl))) (by intro _; rfl)))
      (qss_one (qs_ret q_bl))
      qss_nil)
      (qss_cons (qs_for PassesOwn.never rfl (qi_any (q_var (pv 0))) (qg_name (pg_name (i := 2) scLFor.nd rfl (Or.inl rfl)))
      (qss_cons (qs_if (PW.pt (qw_or (qt_not (qt_tru (q_isi .tup T.n_isinstance (by rfl) (q_var (pv 2)) (pe_bltn (v := V.ty "tuple") (u := .type "tuple") (by rfl) T.n_tuple (by decide +kernel) (by rfl))) (by intro _; rfl))) (qw_or1 (qt_cmp op_notIn_seq (snd_inQ true) (q_len T.n_len (by rfl) (q_cons (q_var (pv 2)) q_nil)) (q_lst (q_cons q_int (q_cons q_int (q_cons q_int q_nil)))) (by rfl)))))
      (qss_one (qs_ret q_bl))
      qss_nil)
      (qss_cons (qs_par (i := 3) (j := 4) (by rfl) scLFor.nd rfl rfl (by decide) rfl rfl (q_cons (q_at (q_var (pv 2)) q_int (fun _ _ => rfl)) (q_cons q_bl q_nil)) (by rfl))
      (qss_cons (qs_if (qt_cmp (op_eqA (u64 hr)) snd_eq (q_len T.n_len (by rfl) (q_cons (q_var (pv 2)) q_nil)) q_int (nomark _))
      (qss_one (qs_set (i := 4) scLFor.nd rfl (Or.inl rfl) (q_and (q_cmp (op_eqA (u64 hr)) snd_eq (q_var (pv 3)) q_str (nomark _)) (q_one (q_cmp (op_eqA (u64 hr)) snd_eq (q_var (pv 1)) q_str (nomark _))))))
      (qss_one (qs_if (qt_cmp (op_eqA (u64 hr)) snd_eq (q_len T.n_len (by rfl) (q_cons (q_var (pv 2)) q_nil)) q_int (nomark _))
      (qss_one (qs_set (i := 4) scLFor.nd rfl (Or.inl rfl) (q_and (q_cmp (op_eqA (u64 hr)) snd_eq (q_var (pv 3)) q_str (nomark _)) (q_and (q_call hr G_law_name T.g_law_name T.k_law_name b_law_name (by rfl) (by omega) (q_cons (q_at (q_var (pv 2)) q_int (fun _ _ => rfl)) q_nil)) (q_one (q_call hr G_law_formed T.g_law_formed T.k_law_formed b_law_formed (by rfl) (by omega) (q_cons (q_at (q_var (pv 2)) q_int (fun _ _ => rfl)) (q_cons (q_var (pv 1)) q_nil))))))))
      (qss_one (qs_if (qt_cmp (op_eqA (u64 hr)) snd_eq (q_var (pv 3)) q_str (nomark _))
      (qss_one (qs_set (i := 4) scLFor.nd rfl (Or.inl rfl) (q_call hr G_law_string T.g_law_string T.k_law_string b_law_string (by rfl) (by omega) (q_cons (q_at (q_var (pv 2)) q_int (fun _ _ => rfl)) (q_cons q_int (q_cons q_str q_nil))))))
      (qss_one (qs_if (qt_cmp (op_eqA (u64 hr)) snd_eq (q_var (pv 3)) q_str (nomark _))
      (qss_one (qs_set (i := 4) scLFor.nd rfl (Or.inl rfl) (q_and (q_cmp (op_neA (u64 hr)) snd_ne (q_var (pv 1)) q_str (nomark _)) (q_one (q_call hr G_law_name T.g_law_name T.k_law_name b_law_name (by rfl) (by omega) (q_cons (q_at (q_var (pv 2)) q_int (fun _ _ => rfl)) q_nil))))))
      qss_nil)))))))
      (qss_one (qs_if (qt_not (qt_tru (q_var (pv 4)) (by intro _; rfl)))
      (qss_one (qs_ret q_bl))
      qss_nil))))))
      (qss_one (qs_ret q_bl)))), fun ds S Qd Er h => ?_⟩
  · obtain ⟨m, d, l, rfl, _⟩ := h
    rfl
  · obtain ⟨m, d, l, rfl, hm, hm6, vd, hw, q⟩ := h
    have pd := layPure d vd.lay
    generalize hE : PyData.eqv (.str l) (.str (Str.ofString "")) = e at q
    (dsimp only [dTryAsX, dRetX, dDropX, dSetX, dAsgX, dFnX, dRaise, dTryAs, dTryOnly, dXf, dIsX, dPar3, dFnR, List.reverse_cons, List.reverse_nil, dDelT, mPop0, mPop, mApp, mExt, dFld, dNew, dDGet, dDIn, dZipT, dAll, dTupF, dIdx, dTupRg, dDc, dReprT, dEqT, dNeT, dFor, dLc, dWhile, dRange1, dRange2, dRange3, dEnumT, e_isB, e_tupD, dgUnl, dSeq, dIfS, dSet, dAsg, dRet, dRetN, dDrop, dNext, dPar, dVar, dC, dOp, dB, dTru, dtNot, dtAnd, dtOr, dAnd, dOr, dNot, dIfE, dNeg, dNil, dCons, dTup, dLst, dCel, dNoP, dPart, dSlice, dRevT, dRevL, dCall, on1, dTupOf, dLstOf, dCelOf, dIsi, dName, dgNil, dgCons, dgTup, dFn, dMet, dMet0, gt, st, startD, wh_some, dYes, dEq, dNe, List.map, List.length, List.replicate, List.append, List.cons_append, List.nil_append, dWalk, uns, un, tupNms, dNms, ifT, ifF, List.replicate_succ, List.replicate_zero, Nat.sub_self, Nat.reduceSub, Nat.reduceAdd, Nat.zero_add, Bool.not_true, Bool.not_false, e_addI, e_addS, e_addT, e_addL, e_i2, e_i2c, e_is, e_bool, e_cel, e_strD, e_lenS, e_lenT, e_lenL, e_lenC, e_ixS, e_ixT, e_ixL, e_ixC, e_slS, e_slT, e_slL, e_slC, e_itT, e_itL, e_truN, e_truI, e_truB, e_truL, e_truT, e_okN, e_okB, e_okI, e_okS, e_okL, e_okT, e_okC, e_tupN, e_tupB, e_tupI, e_tupS, e_tupL, e_tupT, e_tupC, e_strN, e_strB, e_strI, e_strS, e_strL, e_strT, e_strC, e_intN, e_intB, e_intI, e_intS, e_intL, e_intT, e_intC, e_boolN, e_boolB, e_boolI, e_boolS, e_boolL, e_boolT, e_boolC, e_lstN, e_lstB, e_lstI, e_lstS, e_lstL, e_lstT, e_lstC, e_nonN, e_nonB, e_nonI, e_nonS, e_nonL, e_nonT, e_wkS, e_wkL, e_wkT, e_wkC, e_join, e_inS, e_ninS, e_ofI, e_ofB, e_abs, e_lenF, e_ixF, e_itF, e_wkF, e_tfF, e_truF, e_repT, e_keyI, e_keyS]; try simp only [true_and, and_true, Nat.reduceLeDiff, reduceIte, reduceCtorEq, Bool.false_eq_true, if_true, if_false, not_false_eq_true, ite_true, ite_false, and_self])
    refine ⟨okTy_pure pd, ?_⟩
    by_cases ht : isT Ty6.tup d = true
    · obtain ⟨ps, rfl⟩ : ∃ ds, d = .tuple ds := by cases d <;> first | exact ⟨_, rfl⟩ | cases ht
      refine iteN (by rw [ht]; decide) (wh_mk rfl ?_)
      obtain ⟨m0, vp⟩ := vd.tup
      refine ⟨fun i ρ S' => S' = S ∧ i ≤ ps.length ∧ deepAll e (ps.take i) = true ∧ ∃ y2 y3 y4 : Option PyData, ρ = [some (.tuple ps), some (.str l), y2, y3, y4], ⟨rfl, Nat.zero_le _, rfl, none, none, none, rfl⟩, fun _ _ _ _ => trivial, ?_, ?_⟩
      · rintro i o ρ S' ho ⟨rfl, hi, hd, y2, y3, y4, rfl⟩
        have hi2 : i < ps.length := (List.getElem?_eq_some_iff.mp ho).1
        have tk : ps.take (i + 1) = ps.take i ++ [o] := by rw [List.take_succ, ho]; rfl
        have dr : ps.drop i = o :: ps.drop (i + 1) := by
          have e := (List.getElem?_eq_some_iff.mp ho).2
          rw [List.drop_eq_getElem_cons hi2, e]
        have mo : o ∈ ps := List.mem_of_getElem? ho
        have vo := vp o mo
        have po := layPure o vo.lay
        have wo : wt o ≤ 20000 := by
          have := wt_mem mo
          have e2 : wt (.tuple ps) = 1 + wtAll ps := rfl
          omega
        have bad : deepB e o = false → Qd (.bool false) S' := fun h => by
          have e2 : formB e (.tuple ps) = false := by
            show deepAll e ps = false
            rw [← List.take_append_drop i ps, deep_app, dr]
            show (_ && (deepB e o && _)) = false
            rw [h, Bool.false_and, Bool.and_false]
          rw [e2] at q
          exact q
        have good : ∀ y2 y3 y4 : Option PyData, deepB e o = true → (i + 1 ≤ ps.length ∧ deepAll e (ps.take (i + 1)) = true ∧ ∃ z2 z3 z4 : Option PyData, [some (.tuple ps), some (.str l), y2, y3, y4] = [some (.tuple ps), some (.str l), z2, z3, z4]) := fun y2 y3 y4 h => ⟨hi2, by
          rw [tk, deep_app, hd]
          show (true && (deepB e o && true)) = true
          rw [h]
          rfl, _, _, _, rfl⟩
        try (dsimp only [dTryAsX, dRetX, dDropX, dSetX, dAsgX, dFnX, dRaise, dTryAs, dTryOnly, dXf, dIsX, dPar3, dFnR, List.reverse_cons, List.reverse_nil, dDelT, mPop0, mPop, mApp, mExt, dFld, dNew, dDGet, dDIn, dZipT, dAll, dTupF, dIdx, dTupRg, dDc, dReprT, dEqT, dNeT, dFor, dLc, dWhile, dRange1, dRange2, dRange3, dEnumT, e_isB, e_tupD, dgUnl, dSeq, dIfS, dSet, dAsg, dRet, dRetN, dDrop, dNext, dPar, dVar, dC, dOp, dB, dTru, dtNot, dtAnd, dtOr, dAnd, dOr, dNot, dIfE, dNeg, dNil, dCons, dTup, dLst, dCel, dNoP, dPart, dSlice, dRevT, dRevL, dCall, on1, dTupOf, dLstOf, dCelOf, dIsi, dName, dgNil, dgCons, dgTup, dFn, dMet, dMet0, gt, st, startD, wh_some, dYes, dEq, dNe, List.map, List.length, List.replicate, List.append, List.cons_append, List.nil_append, dWalk, uns, un, tupNms, dNms, ifT, ifF, List.replicate_succ, List.replicate_zero, Nat.sub_self, Nat.reduceSub, Nat.reduceAdd, Nat.zero_add, Bool.not_true, Bool.not_false, e_addI, e_addS, e_addT, e_addL, e_i2, e_i2c, e_is, e_bool, e_cel, e_strD, e_lenS, e_lenT, e_lenL, e_lenC, e_ixS, e_ixT, e_ixL, e_ixC, e_slS, e_slT, e_slL, e_slC, e_itT, e_itL, e_truN, e_truI, e_truB, e_truL, e_truT, e_okN, e_okB, e_okI, e_okS, e_okL, e_okT, e_okC, e_tupN, e_tupB, e_tupI, e_tupS, e_tupL, e_tupT, e_tupC, e_strN, e_strB, e_strI, e_strS, e_strL, e_strT, e_strC, e_intN, e_intB, e_intI, e_intS, e_intL, e_intT, e_intC, e_boolN, e_boolB, e_boolI, e_boolS, e_boolL, e_boolT, e_boolC, e_lstN, e_lstB, e_lstI, e_lstS, e_lstL, e_lstT, e_lstC, e_nonN, e_nonB, e_nonI, e_nonS, e_nonL, e_nonT, e_wkS, e_wkL, e_wkT, e_wkC, e_join, e_inS, e_ninS, e_ofI, e_ofB, e_abs, e_lenF, e_ixF, e_itF, e_wkF, e_tfF, e_truF, e_repT, e_keyI, e_keyS]; try simp only [true_and, and_true, Nat.reduceLeDiff, reduceIte, reduceCtorEq, Bool.false_eq_true, if_true, if_false, not_false_eq_true, ite_true, ite_false, and_self])
        refine ⟨okTy_pure po, ?_⟩
        by_cases hto : isT Ty6.tup o = true
        · obtain ⟨es, rfl⟩ : ∃ ds, o = .tuple ds := by cases o <;> first | exact ⟨_, rfl⟩ | cases hto
          refine iteN (by rw [hto]; decide) ?_
          rw [e_lenT]
          dsimp only [dInQ]
          refine wh_mk rfl (wh_mk rfl (wh_mk rfl ?_))
          obtain ⟨m1, ve⟩ := vo.tup
          have we : ∀ x ∈ es, wt x ≤ 20000 ∧ ∀ z, x = .str z → z.length ≤ 900000 := fun x hx => by
            have := wt_mem hx
            have e2 : wt (.tuple es) = 1 + wtAll es := rfl
            refine ⟨by omega, fun z ez => ?_⟩
            rw [ez] at this
            have e3 : wt (.str z) = 1 + z.length := rfl
            omega
          by_cases hl : es.length ≠ 1 ∧ es.length ≠ 2 ∧ es.length ≠ 3
          · refine iteY ?_ (bad (deep_more e hl))
            rw [decide_eq_false (by
              intro h
              simp at h
              omega)]
            rfl
          · match es, hl with
            | [], hl => exact absurd ⟨by decide, by decide, by decide⟩ hl
            | a :: b :: c :: f :: r, hl => exact absurd (by simp) hl
            | [a], _ =>
              rw [deep_one] at bad good
              refine iteN (by show ¬ (xor true (decide ((1 : Int) ∈ ([1, 2, 3] : List Int)))) = true; decide) ?_
              rw [e_ixT]
              refine wh_mk (atI_nat (j := 0) rfl) ?_
              have sa := (ve a (by simp)).shaped (by omega)
              try (dsimp only [dTryAsX, dRetX, dDropX, dSetX, dAsgX, dFnX, dRaise, dTryAs, dTryOnly, dXf, dIsX, dPar3, dFnR, List.reverse_cons, List.reverse_nil, dDelT, mPop0, mPop, mApp, mExt, dFld, dNew, dDGet, dDIn, dZipT, dAll, dTupF, dIdx, dTupRg, dDc, dReprT, dEqT, dNeT, dFor, dLc, dWhile, dRange1, dRange2, dRange3, dEnumT, e_isB, e_tupD, dgUnl, dSeq, dIfS, dSet, dAsg, dRet, dRetN, dDrop, dNext, dPar, dVar, dC, dOp, dB, dTru, dtNot, dtAnd, dtOr, dAnd, dOr, dNot, dIfE, dNeg, dNil, dCons, dTup, dLst, dCel, dNoP, dPart, dSlice, dRevT, dRevL, dCall, on1, dTupOf, dLstOf, dCelOf, dIsi, dName, dgNil, dgCons, dgTup, dFn, dMet, dMet0, gt, st, startD, wh_some, dYes, dEq, dNe, List.map, List.length, List.replicate, List.append, List.cons_append, List.nil_append, dWalk, uns, un, tupNms, dNms, ifT, ifF, List.replicate_succ, List.replicate_zero, Nat.sub_self, Nat.reduceSub, Nat.reduceAdd, Nat.zero_add, Bool.not_true, Bool.not_false, e_addI, e_addS, e_addT, e_addL, e_i2, e_i2c, e_is, e_bool, e_cel, e_strD, e_lenS, e_lenT, e_lenL, e_lenC, e_ixS, e_ixT, e_ixL, e_ixC, e_slS, e_slT, e_slL, e_slC, e_itT, e_itL, e_truN, e_truI, e_truB, e_truL, e_truT, e_okN, e_okB, e_okI, e_okS, e_okL, e_okT, e_okC, e_tupN, e_tupB, e_tupI, e_tupS, e_tupL, e_tupT, e_tupC, e_strN, e_strB, e_strI, e_strS, e_strL, e_strT, e_strC, e_intN, e_intB, e_intI, e_intS, e_intL, e_intT, e_intC, e_boolN, e_boolB, e_boolI, e_boolS, e_boolL, e_boolT, e_boolC, e_lstN, e_lstB, e_lstI, e_lstS, e_lstL, e_lstT, e_lstC, e_nonN, e_nonB, e_nonI, e_nonS, e_nonL, e_nonT, e_wkS, e_wkL, e_wkT, e_wkC, e_join, e_inS, e_ninS, e_ofI, e_ofB, e_abs, e_lenF, e_ixF, e_itF, e_wkF, e_tfF, e_truF, e_repT, e_keyI, e_keyS]; try simp only [true_and, and_true, Nat.reduceLeDiff, reduceIte, reduceCtorEq, Bool.false_eq_true, if_true, if_false, not_false_eq_true, ite_true, ite_false, and_self])
              refine ⟨eqOk_int _ _, iteY (by decide) ⟨.inr ⟨sa, by decide +kernel⟩, ?_⟩⟩
              rw [hE]
              cases ha : PyData.eqv a (.str (Str.ofString "keep")) with
              | true =>
                rw [ha] at bad good
                refine iteY rfl ⟨eqOk_str _ _, ?_⟩
                cases e with
                | true => exact iteN (by decide) (good _ _ _ rfl)
                | false => exact iteY rfl (bad rfl)
              | false =>
                rw [ha] at bad
                exact iteN (by decide) (iteY rfl (bad rfl))
            | [a, x], _ =>
              rw [deep_two] at bad good
              refine iteN (by show ¬ (xor true (decide ((2 : Int) ∈ ([1, 2, 3] : List Int)))) = true; decide) ?_
              rw [e_ixT]
              refine wh_mk (atI_nat (j := 0) rfl) ?_
              have sa := (ve a (by simp)).shaped (by omega)
              try (dsimp only [dTryAsX, dRetX, dDropX, dSetX, dAsgX, dFnX, dRaise, dTryAs, dTryOnly, dXf, dIsX, dPar3, dFnR, List.reverse_cons, List.reverse_nil, dDelT, mPop0, mPop, mApp, mExt, dFld, dNew, dDGet, dDIn, dZipT, dAll, dTupF, dIdx, dTupRg, dDc, dReprT, dEqT, dNeT, dFor, dLc, dWhile, dRange1, dRange2, dRange3, dEnumT, e_isB, e_tupD, dgUnl, dSeq, dIfS, dSet, dAsg, dRet, dRetN, dDrop, dNext, dPar, dVar, dC, dOp, dB, dTru, dtNot, dtAnd, dtOr, dAnd, dOr, dNot, dIfE, dNeg, dNil, dCons, dTup, dLst, dCel, dNoP, dPart, dSlice, dRevT, dRevL, dCall, on1, dTupOf, dLstOf, dCelOf, dIsi, dName, dgNil, dgCons, dgTup, dFn, dMet, dMet0, gt, st, startD, wh_some, dYes, dEq, dNe, List.map, List.length, List.replicate, List.append, List.cons_append, List.nil_append, dWalk, uns, un, tupNms, dNms, ifT, ifF, List.replicate_succ, List.replicate_zero, Nat.sub_self, Nat.reduceSub, Nat.reduceAdd, Nat.zero_add, Bool.not_true, Bool.not_false, e_addI, e_addS, e_addT, e_addL, e_i2, e_i2c, e_is, e_bool, e_cel, e_strD, e_lenS, e_lenT, e_lenL, e_lenC, e_ixS, e_ixT, e_ixL, e_ixC, e_slS, e_slT, e_slL, e_slC, e_itT, e_itL, e_truN, e_truI, e_truB, e_truL, e_truT, e_okN, e_okB, e_okI, e_okS, e_okL, e_okT, e_okC, e_tupN, e_tupB, e_tupI, e_tupS, e_tupL, e_tupT, e_tupC, e_strN, e_strB, e_strI, e_strS, e_strL, e_strT, e_strC, e_intN, e_intB, e_intI, e_intS, e_intL, e_intT, e_intC, e_boolN, e_boolB, e_boolI, e_boolS, e_boolL, e_boolT, e_boolC, e_lstN, e_lstB, e_lstI, e_lstS, e_lstL, e_lstT, e_lstC, e_nonN, e_nonB, e_nonI, e_nonS, e_nonL, e_nonT, e_wkS, e_wkL, e_wkT, e_wkC, e_join, e_inS, e_ninS, e_ofI, e_ofB, e_abs, e_lenF, e_ixF, e_itF, e_wkF, e_tfF, e_truF, e_repT, e_keyI, e_keyS]; try simp only [true_and, and_true, Nat.reduceLeDiff, reduceIte, reduceCtorEq, Bool.false_eq_true, if_true, if_false, not_false_eq_true, ite_true, ite_false, and_self])
              refine ⟨eqOk_int _ _, iteN (by decide) ⟨eqOk_int _ _, iteN (by decide) ⟨.inr ⟨sa, by decide +kernel⟩, ?_⟩⟩⟩
              have vx := ve x (by simp)
              cases hs : PyData.eqv a (.str (Str.ofString "say")) with
              | true =>
                rw [hs] at bad good
                refine iteY rfl (wh_mk (atI_nat (j := 1) rfl) ⟨x, 16, abc9, rfl, vx.mono (by omega), by decide, (we x (by simp)).2, ?_⟩)
                have et : strB 16 abc9 x = textD x := by cases x <;> rfl
                rw [et]
                have bad : textD x = false → Qd (.bool false) S' := bad
                have good := fun y2 y3 y4 (h : textD x = true) => good y2 y3 y4 h
                refine wh_mk rfl ?_
                cases hx : textD x with
                | true => exact iteN (by decide) ⟨rfl, good _ _ _ hx⟩
                | false => exact iteY rfl (bad hx)
              | false =>
                rw [hs] at bad good
                refine iteN (by decide) ⟨.inr ⟨sa, by decide +kernel⟩, ?_⟩
                cases hg : PyData.eqv a (.str (Str.ofString "go")) with
                | true =>
                  rw [hg] at bad good
                  have bad : (nameD x && !e) = false → Qd (.bool false) S' := bad
                  have good := fun y2 y3 y4 (h : (nameD x && !e) = true) => good y2 y3 y4 h
                  refine iteY rfl ⟨eqOk_str _ _, ?_⟩
                  rw [hE]
                  cases e with
                  | true => exact iteN (by decide) (iteY rfl (bad (by rw [Bool.not_true, Bool.and_false])))
                  | false =>
                    refine iteY rfl (wh_mk (atI_nat (j := 1) rfl) ⟨x, rfl, vx.mono (by omega), (we x (by simp)).2, wh_mk rfl ?_⟩)
                    cases hx : nameD x with
                    | true => exact iteN (by decide) ⟨rfl, good _ _ _ (by rw [hx]; rfl)⟩
                    | false => exact iteY rfl (bad (by rw [hx]; rfl))
                | false =>
                  rw [hg] at bad
                  exact iteN (by decide) (iteY rfl (bad rfl))
            | [a, x, y], _ =>
              rw [deep_three] at bad good
              refine iteN (by show ¬ (xor true (decide ((3 : Int) ∈ ([1, 2, 3] : List Int)))) = true; decide) ?_
              rw [e_ixT]
              refine wh_mk (atI_nat (j := 0) rfl) ?_
              have sa := (ve a (by simp)).shaped (by omega)
              try (dsimp only [dTryAsX, dRetX, dDropX, dSetX, dAsgX, dFnX, dRaise, dTryAs, dTryOnly, dXf, dIsX, dPar3, dFnR, List.reverse_cons, List.reverse_nil, dDelT, mPop0, mPop, mApp, mExt, dFld, dNew, dDGet, dDIn, dZipT, dAll, dTupF, dIdx, dTupRg, dDc, dReprT, dEqT, dNeT, dFor, dLc, dWhile, dRange1, dRange2, dRange3, dEnumT, e_isB, e_tupD, dgUnl, dSeq, dIfS, dSet, dAsg, dRet, dRetN, dDrop, dNext, dPar, dVar, dC, dOp, dB, dTru, dtNot, dtAnd, dtOr, dAnd, dOr, dNot, dIfE, dNeg, dNil, dCons, dTup, dLst, dCel, dNoP, dPart, dSlice, dRevT, dRevL, dCall, on1, dTupOf, dLstOf, dCelOf, dIsi, dName, dgNil, dgCons, dgTup, dFn, dMet, dMet0, gt, st, startD, wh_some, dYes, dEq, dNe, List.map, List.length, List.replicate, List.append, List.cons_append, List.nil_append, dWalk, uns, un, tupNms, dNms, ifT, ifF, List.replicate_succ, List.replicate_zero, Nat.sub_self, Nat.reduceSub, Nat.reduceAdd, Nat.zero_add, Bool.not_true, Bool.not_false, e_addI, e_addS, e_addT, e_addL, e_i2, e_i2c, e_is, e_bool, e_cel, e_strD, e_lenS, e_lenT, e_lenL, e_lenC, e_ixS, e_ixT, e_ixL, e_ixC, e_slS, e_slT, e_slL, e_slC, e_itT, e_itL, e_truN, e_truI, e_truB, e_truL, e_truT, e_okN, e_okB, e_okI, e_okS, e_okL, e_okT, e_okC, e_tupN, e_tupB, e_tupI, e_tupS, e_tupL, e_tupT, e_tupC, e_strN, e_strB, e_strI, e_strS, e_strL, e_strT, e_strC, e_intN, e_intB, e_intI, e_intS, e_intL, e_intT, e_intC, e_boolN, e_boolB, e_boolI, e_boolS, e_boolL, e_boolT, e_boolC, e_lstN, e_lstB, e_lstI, e_lstS, e_lstL, e_lstT, e_lstC, e_nonN, e_nonB, e_nonI, e_nonS, e_nonL, e_nonT, e_wkS, e_wkL, e_wkT, e_wkC, e_join, e_inS, e_ninS, e_ofI, e_ofB, e_abs, e_lenF, e_ixF, e_itF, e_wkF, e_tfF, e_truF, e_repT, e_keyI, e_keyS]; try simp only [true_and, and_true, Nat.reduceLeDiff, reduceIte, reduceCtorEq, Bool.false_eq_true, if_true, if_false, not_false_eq_true, ite_true, ite_false, and_self])
              refine ⟨eqOk_int _ _, iteN (by decide) ⟨eqOk_int _ _, iteY (by decide) ⟨.inr ⟨sa, by decide +kernel⟩, ?_⟩⟩⟩
              have vx := ve x (by simp)
              have vy := ve y (by simp)
              cases hs : PyData.eqv a (.str (Str.ofString "node")) with
              | true =>
                rw [hs] at bad good
                have bad : (nameD x && formB e y) = false → Qd (.bool false) S' := bad
                have good := fun y2 y3 y4 (h : (nameD x && formB e y) = true) => good y2 y3 y4 h
                refine iteY rfl (wh_mk (atI_nat (j := 1) rfl) ⟨x, rfl, vx.mono (by omega), (we x (by simp)).2, wh_mk rfl ?_⟩)
                cases hx : nameD x with
                | false =>
                  rw [hx] at bad
                  exact iteN (by decide) (iteY rfl (bad rfl))
                | true =>
                  rw [hx] at bad good
                  refine iteY rfl (wh_mk (atI_nat (j := 2) rfl) ⟨m - 1 - 1, y, l, rfl, by omega, by omega, vy, (we y (by simp)).1, wh_mk rfl ?_⟩)
                  rw [hE]
                  cases hy : formB e y with
                  | true => exact iteN (by decide) ⟨rfl, good _ _ _ hy⟩
                  | false => exact iteY rfl (bad hy)
              | false =>
                rw [hs] at bad
                exact iteN (by decide) (iteY rfl (bad rfl))
        · refine iteY (by rw [show isT Ty6.tup o = false by simpa using hto]; rfl) (bad (deep_tup (by simpa using hto)))
      · rintro ρ S' ⟨rfl, hi, hd, y2, y3, y4, rfl⟩
        rw [List.take_length] at hd
        have e2 : formB e (.tuple ps) = true := hd
        rw [e2] at q
        exact q
    · refine iteY (by rw [show isT Ty6.tup d = false by simpa using ht]; rfl) ?_
      have e2 : formB e d = false := by cases d <;> first | rfl | exact absurd rfl ht
      rw [e2] at q
      exact q
theorem ok_lgoe0 {fd : FuncData} (F : Fun K "_law_goes" "_law_goes" sLGoe a_law_goes fd) : FnOk P w K mg base CX0 1 a_law_goes fd ["parts"] (spD K (spLGoe 0)) := by
  refine F.ok scLGoe (spD_len fun ds S Q E h => ?_) fun cdv A outer s H vs Q E hr h => ?_
  · obtain ⟨m, ps, e, rfl, _⟩ := h
    rfl
  · obtain ⟨m, S, ds, Qd, Ed, w, dv, ⟨m, ps, e, _, hm, _⟩, _⟩ := h
    omega
theorem ok_lgoeS {fd : FuncData} {n : Nat} (F : Fun K "_law_goes" "_law_goes" sLGoe a_law_goes fd) (T : ViTxt K mg a_law_string a_law_name a_law_formed a_law_goes) (b_law_goes : Binds K fd ["parts"] [])
    (G_law_goes : FnOk P w K mg base CX0 (1 + n) a_law_goes fd ["parts"] (spD K (spLGoe n))) : FnOk P w K mg base CX0 (1 + n + 1) a_law_goes fd ["parts"] (spD K (spLGoe (n + 1))) := by
  refine dok F scLGoe (fun ds S Q E h => ?_) fun cdv A outer s H Q E (hr : Room (1 + n) _) => ⟨_, (qss_cons (qs_set (i := 1) scLGoe.nd rfl (Or.inl rfl) (q_lst q_nil))
      (qss_cons (qs_for PassesOwn.never rfl (qi_any (q_var (pv 0))) (qg_name (pg_name (i := 2) scLGoe.nd rfl (Or.inl rfl)))
      (qss_one (qs_set (i := 1) scLGoe.nd rfl (Or.inl rfl) (q_add (q_var (pv 1)) (q_if (qt_cmp (op_eqA (u64 hr)) snd_eq (q_at (q_var (pv 2)) q_int (fun _ _ => rfl)) q_str (nomark _)) (q_call hr G_law_goes T.g_law_goes T.k_law_goes b_law_goes (by rfl) (by omega) (q_cons (q_at (q_var (pv 2)) q_int (fun _ _ => rfl)) q_nil)) (q_if (qt_cmp (op_eqA (u64 hr)) snd_eq (q_at (q_var (pv 2)) q_int (fun _ _ => rfl)) q_str (nomark _)) (q_lst (q_cons (q_at (q_var (pv 2)) q_int (fun _ _ => rfl)) q_nil)) (q_lst q_nil)))))))
      (qss_one (qs_ret (q_var (pv 1)))))), fun ds S Qd Er h => ?_⟩
  · obtain ⟨m, ps, e, rfl, _⟩ := h
    rfl
  · obtain ⟨m, ps, e, rfl, hm, hm6, vd, hd, hw, q⟩ := h
    (dsimp only [dTryAsX, dRetX, dDropX, dSetX, dAsgX, dFnX, dRaise, dTryAs, dTryOnly, dXf, dIsX, dPar3, dFnR, List.reverse_cons, List.reverse_nil, dDelT, mPop0, mPop, mApp, mExt, dFld, dNew, dDGet, dDIn, dZipT, dAll, dTupF, dIdx, dTupRg, dDc, dReprT, dEqT, dNeT, dFor, dLc, dWhile, dRange1, dRange2, dRange3, dEnumT, e_isB, e_tupD, dgUnl, dSeq, dIfS, dSet, dAsg, dRet, dRetN, dDrop, dNext, dPar, dVar, dC, dOp, dB, dTru, dtNot, dtAnd, dtOr, dAnd, dOr, dNot, dIfE, dNeg, dNil, dCons, dTup, dLst, dCel, dNoP, dPart, dSlice, dRevT, dRevL, dCall, on1, dTupOf, dLstOf, dCelOf, dIsi, dName, dgNil, dgCons, dgTup, dFn, dMet, dMet0, gt, st, startD, wh_some, dYes, dEq, dNe, List.map, List.length, List.replicate, List.append, List.cons_append, List.nil_append, dWalk, uns, un, tupNms, dNms, ifT, ifF, List.replicate_succ, List.replicate_zero, Nat.sub_self, Nat.reduceSub, Nat.reduceAdd, Nat.zero_add, Bool.not_true, Bool.not_false, e_addI, e_addS, e_addT, e_addL, e_i2, e_i2c, e_is, e_bool, e_cel, e_strD, e_lenS, e_lenT, e_lenL, e_lenC, e_ixS, e_ixT, e_ixL, e_ixC, e_slS, e_slT, e_slL, e_slC, e_itT, e_itL, e_truN, e_truI, e_truB, e_truL, e_truT, e_okN, e_okB, e_okI, e_okS, e_okL, e_okT, e_okC, e_tupN, e_tupB, e_tupI, e_tupS, e_tupL, e_tupT, e_tupC, e_strN, e_strB, e_strI, e_strS, e_strL, e_strT, e_strC, e_intN, e_intB, e_intI, e_intS, e_intL, e_intT, e_intC, e_boolN, e_boolB, e_boolI, e_boolS, e_boolL, e_boolT, e_boolC, e_lstN, e_lstB, e_lstI, e_lstS, e_lstL, e_lstT, e_lstC, e_nonN, e_nonB, e_nonI, e_nonS, e_nonL, e_nonT, e_wkS, e_wkL, e_wkT, e_wkC, e_join, e_inS, e_ninS, e_ofI, e_ofB, e_abs, e_lenF, e_ixF, e_itF, e_wkF, e_tfF, e_truF, e_repT, e_keyI, e_keyS]; try simp only [true_and, and_true, Nat.reduceLeDiff, reduceIte, reduceCtorEq, Bool.false_eq_true, if_true, if_false, not_false_eq_true, ite_true, ite_false, and_self])
    obtain ⟨m0, vp⟩ := vd.tup
    have lg : ∀ i, (goesD (ps.take i)).length ≤ 20000 := fun i => by
      have h1 : deepAll e (ps.take i ++ ps.drop i) = true := by rw [List.take_append_drop]; exact hd
      rw [deep_app, Bool.and_eq_true] at h1
      have h2 : wtAll (ps.take i ++ ps.drop i) = wtAll ps := by rw [List.take_append_drop]
      rw [wtAll_app] at h2
      have h3 := flat_len _ e (ps.take i) (Nat.le_refl _) h1.1 fun x hx => (vp x (List.mem_of_mem_take hx)).mono (by omega)
      have h4 : (goesD (ps.take i)).length ≤ (flatAll (ps.take i)).length := List.length_filterMap_le _ _
      omega
    refine ⟨fun i ρ S' => S' = S ∧ i ≤ ps.length ∧ ∃ y2 : Option PyData, ρ = [some (.tuple ps), some (.list (goesD (ps.take i))), y2], ⟨rfl, Nat.zero_le _, none, rfl⟩, fun _ _ _ _ => trivial, ?_, ?_⟩
    · rintro i o ρ S' ho ⟨rfl, hi, y2, rfl⟩
      have hi2 : i < ps.length := (List.getElem?_eq_some_iff.mp ho).1
      have tk : ps.take (i + 1) = ps.take i ++ [o] := by rw [List.take_succ, ho]; rfl
      have mo : o ∈ ps := List.mem_of_getElem? ho
      have vo := vp o mo
      have hdo : deepB e o = true := by
        have h1 : deepAll e (ps.take (i + 1) ++ ps.drop (i + 1)) = true := by rw [List.take_append_drop]; exact hd
        rw [deep_app, tk, deep_app, Bool.and_eq_true, Bool.and_eq_true] at h1
        have h2 : (deepB e o && true) = true := h1.1.2
        rwa [Bool.and_true] at h2
      have hb := deep_is hdo
      obtain ⟨a, r, rfl⟩ := part_tup hb
      obtain ⟨m1, ve⟩ := vo.tup
      have sa := (ve a (by simp)).shaped (by omega)
      have wo := wt_mem mo
      have l1 := lg i
      have l2 := lg (i + 1)
      have eG : goesD (ps.take (i + 1)) = goesD (ps.take i) ++ goesD [.tuple (a :: r)] := by
        rw [tk]
        exact goes_app _ _
      rw [eG] at l2
      rw [List.length_append] at l2
      try (dsimp only [dTryAsX, dRetX, dDropX, dSetX, dAsgX, dFnX, dRaise, dTryAs, dTryOnly, dXf, dIsX, dPar3, dFnR, List.reverse_cons, List.reverse_nil, dDelT, mPop0, mPop, mApp, mExt, dFld, dNew, dDGet, dDIn, dZipT, dAll, dTupF, dIdx, dTupRg, dDc, dReprT, dEqT, dNeT, dFor, dLc, dWhile, dRange1, dRange2, dRange3, dEnumT, e_isB, e_tupD, dgUnl, dSeq, dIfS, dSet, dAsg, dRet, dRetN, dDrop, dNext, dPar, dVar, dC, dOp, dB, dTru, dtNot, dtAnd, dtOr, dAnd, dOr, dNot, dIfE, dNeg, dNil, dCons, dTup, dLst, dCel, dNoP, dPart, dSlice, dRevT, dRevL, dCall, on1, dTupOf, dLstOf, dCelOf, dIsi, dName, dgNil, dgCons, dgTup, dFn, dMet, dMet0, gt, st, startD, wh_some, dYes, dEq, dNe, List.map, List.length, List.replicate, List.append, List.cons_append, List.nil_append, dWalk, uns, un, tupNms, dNms, ifT, ifF, List.replicate_succ, List.replicate_zero, Nat.sub_self, Nat.reduceSub, Nat.reduceAdd, Nat.zero_add, Bool.not_true, Bool.not_false, e_addI, e_addS, e_addT, e_addL, e_i2, e_i2c, e_is, e_bool, e_cel, e_strD, e_lenS, e_lenT, e_lenL, e_lenC, e_ixS, e_ixT, e_ixL, e_ixC, e_slS, e_slT, e_slL, e_slC, e_itT, e_itL, e_truN, e_truI, e_truB, e_truL, e_truT, e_okN, e_okB, e_okI, e_okS, e_okL, e_okT, e_okC, e_tupN, e_tupB, e_tupI, e_tupS, e_tupL, e_tupT, e_tupC, e_strN, e_strB, e_strI, e_strS, e_strL, e_strT, e_strC, e_intN, e_intB, e_intI, e_intS, e_intL, e_intT, e_intC, e_boolN, e_boolB, e_boolI, e_boolS, e_boolL, e_boolT, e_boolC, e_lstN, e_lstB, e_lstI, e_lstS, e_lstL, e_lstT, e_lstC, e_nonN, e_nonB, e_nonI, e_nonS, e_nonL, e_nonT, e_wkS, e_wkL, e_wkT, e_wkC, e_join, e_inS, e_ninS, e_ofI, e_ofB, e_abs, e_lenF, e_ixF, e_itF, e_wkF, e_tfF, e_truF, e_repT, e_keyI, e_keyS]; try simp only [true_and, and_true, Nat.reduceLeDiff, reduceIte, reduceCtorEq, Bool.false_eq_true, if_true, if_false, not_false_eq_true, ite_true, ite_false, and_self])
      rw [eG]
      generalize goesD (ps.take i) = G at l1 l2 ⊢
      refine wh_mk (atI_nat (j := 0) rfl) ⟨.inr ⟨sa, by decide +kernel⟩, ?_⟩
      cases hn : PyData.eqv a (.str (Str.ofString "node")) with
      | true =>
        obtain ⟨x, ks, rfl⟩ := part_node hb hn
        have hk : deepAll e ks = true := by
          rw [← deep_node hb hn]
          exact hdo
        have eN := goes_node (x := x) (ks := ks) hn
        rw [eN] at l2 ⊢
        have w1 : wt (.tuple [a, x, .tuple ks]) = 1 + (wt a + (wt x + ((1 + wtAll ks) + 0))) := rfl
        refine iteY rfl (wh_mk (atI_nat (j := 2) rfl) ⟨m - 1 - 1, ks, e, rfl, by omega, by omega, ve _ (by simp), hk, by omega, ?_⟩)
        show dAdd _ _ _ _
        rw [e_addL]
        exact ⟨by omega, rfl, hi2, _, rfl⟩
      | false =>
        refine iteN (by decide) (wh_mk (atI_nat (j := 0) rfl) ⟨.inr ⟨sa, by decide +kernel⟩, ?_⟩)
        cases hg : PyData.eqv a (.str (Str.ofString "go")) with
        | true =>
          obtain ⟨x, rfl, _⟩ := part_go hb hg
          have eN : goesD [.tuple [a, x]] = [x] := by
            rw [eqv_word hg]
            rfl
          rw [eN] at l2 ⊢
          refine iteY rfl (wh_mk (atI_nat (j := 1) rfl) ?_)
          exact ⟨by omega, hi2, _, rfl⟩
        | false =>
          have eN := goes_leaf (r := r) hn hg
          rw [eN] at l2 ⊢
          refine iteN (by decide) ?_
          exact ⟨by omega, hi2, _, rfl⟩
    · rintro ρ S' ⟨rfl, hi, y2, rfl⟩
      rw [List.take_length]
      exact wh_mk rfl q
end
end K3

/-! where the first fault lies, by the law's own reading; what is told -/
namespace K3
open PySem L2 Xr K1 Exv
abbrev sLDue : Stmt := top 36
theorem scLDue : FnScope ["rules", "mode", "at", "rule"] ["rules", "mode"] (defScope sLDue) := ⟨rfl, rfl, rfl, by decide +kernel, rfl, by decide +kernel, by decide +kernel⟩
abbrev sLTold : Stmt := top 38
theorem scLTold : FnScope ["value", "e"] ["value"] (defScope sLTold) := ⟨rfl, rfl, rfl, by decide +kernel, rfl, by decide +kernel, by decide +kernel⟩
def optD : Option Int → PyData
  | some i => .int i
  | none => .none
def toldD : Option Int → PyData
  | some i => .list [.int i, .bool true, .bool false]
  | none => .none
theorem rule_three (a l y : PyData) : ruleB (.tuple [a, l, y]) = (nameD a && (letD l && formB (PyData.eqv l (.str (Str.ofString ""))) y)) := by
  cases y with
  | tuple ps =>
    show (nameD a && letD l && deepAll _ ps) = _
    rw [Bool.and_assoc]
    rfl
  | _ =>
    show false = (_ && (_ && false))
    rw [Bool.and_false, Bool.and_false]
def spLDue : SpD := fun ds S Q _ => ∃ (r m : PyData), ds = [r, m] ∧ Vd 60 r ∧ Vd 60 m ∧ (∀ rs, r = .tuple rs → rs.length ≤ 1000 ∧ ∀ x ∈ rs, wt x ≤ 20000) ∧ (∀ z, m = .str z → z.length ≤ 900000) ∧ Q (optD (dueO r m)) S
def spLTold (CT : Addr) : SpD := fun ds S Q _ => ∃ (d : PyData) (o : Option Int), ds = [d] ∧ DueV CT d o ∧ ∀ S', Ext S S' → Q (toldD o) S'
structure VjTxt (K : PySem.W.Frag) (mg : Str → Option Value) (CE C_FitError C_InvalidNode a_law_name a_law_formed a_need_turning : Addr) : Prop where
  n_isinstance : mg "isinstance" = none
  n_tuple : mg "tuple" = none
  n_str : mg "str" = none
  n_len : mg "len" = none
  n_range : mg "range" = none
  m_InvalidTurning : mg "InvalidTurning" = some (.ref CE)
  m_FitError : mg "FitError" = some (.ref C_FitError)
  m_InvalidNode : mg "InvalidNode" = some (.ref C_InvalidNode)
  k1 : PySem.W.kitOne K (.ref CE) (.ref C_FitError) = some true
  k2 : PySem.W.kitOne K (.ref CE) (.ref C_InvalidNode) = some false
  one : PySem.W.exmOne K (.ref CE) (.ref CE) = some true
  it : IsT K CE
  xf : XfC K CE
  no_at : PySem.W.findIn K (.ref CE) "at" = some none
  g_law_name : mg "_law_name" = some (.ref a_law_name)
  k_law_name : PySem.W.keepIn K (.ref a_law_name) = true
  g_law_formed : mg "_law_formed" = some (.ref a_law_formed)
  k_law_formed : PySem.W.keepIn K (.ref a_law_formed) = true
  g_need_turning : mg "need_turning" = some (.ref a_need_turning)
  k_need_turning : PySem.W.keepIn K (.ref a_need_turning) = true
section
variable {P : Program} {w : World} {K : PySem.W.Frag} {mg : Str → Option Value} {base : Heap} {CT CE C_FitError C_InvalidNode a_law_name a_law_formed a_need_turning : Addr} {d1 d2 d3 : FuncData}
theorem ok_ldue {f : Addr} {fd : FuncData} (F : Fun K "_law_due" "_law_due" sLDue f fd) (T : VjTxt K mg CE C_FitError C_InvalidNode a_law_name a_law_formed a_need_turning)
    (G_law_name : FnOk P w K mg base CX0 2 a_law_name d2 ["value"] (spD K spLNam)) (b_law_name : Binds K d2 ["value"] [])
    (G_law_formed : FnOk P w K mg base CX0 (3 + 61) a_law_formed d3 ["value", "letter"] (spD K (spLFor 61))) (b_law_formed : Binds K d3 ["value", "letter"] []) : FnOk P w K mg base CX0 65 f fd ["rules", "mode"] (spD K spLDue) := by
  refine dok F scLDue (fun ds S Q E h => ?_) fun cdv A outer s H Q E (hr : Room 64 _) => ⟨_, (qss_cons (qs_if (PW.pt (qw_or (qt_not (qt_tru (q_isi .tup T.n_isinstance (by rfl) (q_var (pv 0)) (pe_bltn (v := V.ty "tuple") (u := .type "tuple") (by rfl) T.n_tuple (by decide +kernel) (by rfl))) (by intro _; rfl))) (qw_or1 (qt_not (qt_tru (q_call hr G_law_name T.g_law_name T.k_law_name b_law_name (by rfl) (by omega) (q_cons (q_var (pv 1)) q_nil)) (by intro _; rfl))))))
      (qss_one (qs_ret (q_neg q_int)))
      qss_nil)
      (qss_cons (qs_for PassesOwn.never rfl (qi_range1 T.n_range (by rfl) (q_cons (q_len T.n_len (by rfl) (q_cons (q_var (pv 0)) q_nil)) q_nil)) (qg_name (pg_name (i := 2) scLDue.nd rfl (Or.inl rfl)))
      (qss_cons (qs_set (i := 3) scLDue.nd rfl (Or.inl rfl) (q_at (q_var (pv 0)) (q_var (pv 2)) (fun _ _ => rfl)))
      (qss_cons (qs_if (PW.pt (qw_or (qt_not (qt_tru (q_isi .tup T.n_isinstance (by rfl) (q_var (pv 3)) (pe_bltn (v := V.ty "tuple") (u := .type "tuple") (by rfl) T.n_tuple (by decide +kernel) (by rfl))) (by intro _; rfl))) (qw_or (qt_cmp (op_neA (u64 hr)) snd_ne (q_len T.n_len (by rfl) (q_cons (q_var (pv 3)) q_nil)) q_int (nomark _)) (qw_or (qt_not (qt_tru (q_call hr G_law_name T.g_law_name T.k_law_name b_law_name (by rfl) (by omega) (q_cons (q_at (q_var (pv 3)) q_int (fun _ _ => rfl)) q_nil)) (by intro _; rfl))) (qw_or1 (qt_not (qt_tru (q_isi .str T.n_isinstance (by rfl) (q_at (q_var (pv 3)) q_int (fun _ _ => rfl)) (pe_bltn (v := V.ty "str") (u := .type "str") (by rfl) T.n_str (by decide +kernel) (by rfl))) (by intro _; rfl))))))))
      (qss_one (qs_ret (q_var (pv 2))))
      qss_nil)
      (qss_cons (qs_if (PW.pt (qw_or (PW.pt (qw_and (qt_cmp (op_neA (u64 hr)) snd_ne (q_at (q_var (pv 3)) q_int (fun _ _ => rfl)) q_str (nomark _)) (qw_and1 (qt_not (qt_tru (q_call hr G_law_name T.g_law_name T.k_law_name b_law_name (by rfl) (by omega) (q_cons (q_at (q_var (pv 3)) q_int (fun _ _ => rfl)) q_nil)) (by intro _; rfl)))))) (qw_or1 (qt_not (qt_tru (q_call hr G_law_formed T.g_law_formed T.k_law_formed b_law_formed (by rfl) (by omega) (q_cons (q_at (q_var (pv 3)) q_int (fun _ _ => rfl)) (q_cons (q_at (q_var (pv 3)) q_int (fun _ _ => rfl)) q_nil))) (by intro _; rfl))))))
      (qss_one (qs_ret (q_var (pv 2))))
      qss_nil)
      (qss_one (qs_if (PW.pt (qw_and (qt_cmp op_gt snd_lt (q_var (pv 2)) q_int (nomark _)) (qw_and1 (qt_cmp (op_leD (by have h9 := Grd.u200 hr; exact h9)) snd_ord (q_sl false (q_var (pv 3)) qo_none (qo_some q_int)) (q_sl false (q_at (q_var (pv 0)) (q_sub (q_var (pv 2)) q_int) (fun _ _ => rfl)) qo_none (qo_some q_int)) (nomark _)))))
      (qss_one (qs_ret (q_var (pv 2))))
      qss_nil))))))
      (qss_one (qs_ret q_non)))), fun ds S Qd Er h => ?_⟩
  · obtain ⟨r, m, rfl, _⟩ := h
    rfl
  · obtain ⟨r, m, rfl, vr, vm, hw, hm, q⟩ := h
    (dsimp only [dTryAsX, dRetX, dDropX, dSetX, dAsgX, dFnX, dRaise, dTryAs, dTryOnly, dXf, dIsX, dPar3, dFnR, List.reverse_cons, List.reverse_nil, dDelT, mPop0, mPop, mApp, mExt, dFld, dNew, dDGet, dDIn, dZipT, dAll, dTupF, dIdx, dTupRg, dDc, dReprT, dEqT, dNeT, dFor, dLc, dWhile, dRange1, dRange2, dRange3, dEnumT, e_isB, e_tupD, dgUnl, dSeq, dIfS, dSet, dAsg, dRet, dRetN, dDrop, dNext, dPar, dVar, dC, dOp, dB, dTru, dtNot, dtAnd, dtOr, dAnd, dOr, dNot, dIfE, dNeg, dNil, dCons, dTup, dLst, dCel, dNoP, dPart, dSlice, dRevT, dRevL, dCall, on1, dTupOf, dLstOf, dCelOf, dIsi, dName, dgNil, dgCons, dgTup, dFn, dMet, dMet0, gt, st, startD, wh_some, dYes, dEq, dNe, List.map, List.length, List.replicate, List.append, List.cons_append, List.nil_append, dWalk, uns, un, tupNms, dNms, ifT, ifF, List.replicate_succ, List.replicate_zero, Nat.sub_self, Nat.reduceSub, Nat.reduceAdd, Nat.zero_add, Bool.not_true, Bool.not_false, e_addI, e_addS, e_addT, e_addL, e_i2, e_i2c, e_is, e_bool, e_cel, e_strD, e_lenS, e_lenT, e_lenL, e_lenC, e_ixS, e_ixT, e_ixL, e_ixC, e_slS, e_slT, e_slL, e_slC, e_itT, e_itL, e_truN, e_truI, e_truB, e_truL, e_truT, e_okN, e_okB, e_okI, e_okS, e_okL, e_okT, e_okC, e_tupN, e_tupB, e_tupI, e_tupS, e_tupL, e_tupT, e_tupC, e_strN, e_strB, e_strI, e_strS, e_strL, e_strT, e_strC, e_intN, e_intB, e_intI, e_intS, e_intL, e_intT, e_intC, e_boolN, e_boolB, e_boolI, e_boolS, e_boolL, e_boolT, e_boolC, e_lstN, e_lstB, e_lstI, e_lstS, e_lstL, e_lstT, e_lstC, e_nonN, e_nonB, e_nonI, e_nonS, e_nonL, e_nonT, e_wkS, e_wkL, e_wkT, e_wkC, e_join, e_inS, e_ninS, e_ofI, e_ofB, e_abs, e_lenF, e_ixF, e_itF, e_wkF, e_tfF, e_truF, e_repT, e_keyI, e_keyS]; try simp only [true_and, and_true, Nat.reduceLeDiff, reduceIte, reduceCtorEq, Bool.false_eq_true, if_true, if_false, not_false_eq_true, ite_true, ite_false, and_self])
    have pr := layPure r vr.lay
    have pm := layPure m vm.lay
    refine ⟨okTy_pure pr, ?_⟩
    by_cases ht : isT Ty6.tup r = true
    · obtain ⟨rs, rfl⟩ : ∃ ds, r = .tuple ds := by cases r <;> first | exact ⟨_, rfl⟩ | cases ht
      refine iteN (by rw [ht]; decide) ⟨m, rfl, vm, hm, wh_mk rfl ?_⟩
      cases hnm : nameD m with
      | false =>
        have eD : dueO (.tuple rs) m = some (-1) := by
          show (if nameD m = true then _ else some (-1)) = _
          rw [hnm]
          rfl
        rw [eD] at q
        exact iteY rfl q
      | true =>
        have eD : dueO (.tuple rs) m = (firstBad rs).map fun (n : Nat) => (n : Int) := by
          show (if nameD m = true then _ else _) = _
          rw [if_pos hnm]
        rw [eD] at q
        obtain ⟨lw, hwx⟩ := hw rs rfl
        refine iteN (by decide) ?_
        rw [e_lenT]
        dsimp only
        refine ⟨small_nat (by omega), fun i ρ S' => S' = S ∧ i ≤ rs.length ∧ (∀ j, j < i → badAt rs j = false) ∧ ∃ y2 y3 : Option PyData, ρ = [some (.tuple rs), some m, y2, y3], ⟨rfl, Nat.zero_le _, fun j hj => absurd hj (Nat.not_lt_zero _), none, none, rfl⟩, fun _ _ _ _ => trivial, ?_, ?_⟩
        · rintro i o ρ S' ho ⟨rfl, hi, hb, y2, y3, rfl⟩
          obtain ⟨hi2, rfl⟩ := rangeD_at ho
          rw [Int.toNat_natCast] at hi2
          rw [show (0 : Int) + (i : Nat) * 1 = ((i : Nat) : Int) by omega]
          have hd2 : rs[i]? = some rs[i] := List.getElem?_eq_getElem hi2
          have vx := vr.tup.2 _ (List.getElem_mem hi2)
          have wx : wt rs[i] ≤ 20000 := hwx _ (List.getElem_mem hi2)
          generalize rs[i] = g at vx wx hd2
          have px := layPure g vx.lay
          have fin : badAt rs i = true → Qd (.int (i : Nat)) S' := fun h => by
            rw [fb_some hi2 h hb] at q
            exact q
          have go : ∀ y2 y3 : Option PyData, badAt rs i = false → (i + 1 ≤ rs.length ∧ (∀ j, j < i + 1 → badAt rs j = false) ∧ ∃ z2 z3 : Option PyData, [some (.tuple rs), some m, y2, y3] = [some (.tuple rs), some m, z2, z3]) := fun y2 y3 h => ⟨hi2, fun j hj => by
            rcases Nat.lt_or_ge j i with q | q
            · exact hb j q
            · rw [show j = i by omega]; exact h, _, _, rfl⟩
          have eB : badAt rs i = (!ruleB g || (decide (0 < i) && match rs[i - 1]? with | some p => !PySem.W.dataLt (keyR p) (keyR g) | none => false)) := by
            unfold badAt
            rw [hd2]
            all_goals rfl
          have bad : ruleB g = false → Qd (.int (i : Nat)) S' := fun h => fin (by rw [eB, h]; rfl)
          try (dsimp only [dTryAsX, dRetX, dDropX, dSetX, dAsgX, dFnX, dRaise, dTryAs, dTryOnly, dXf, dIsX, dPar3, dFnR, List.reverse_cons, List.reverse_nil, dDelT, mPop0, mPop, mApp, mExt, dFld, dNew, dDGet, dDIn, dZipT, dAll, dTupF, dIdx, dTupRg, dDc, dReprT, dEqT, dNeT, dFor, dLc, dWhile, dRange1, dRange2, dRange3, dEnumT, e_isB, e_tupD, dgUnl, dSeq, dIfS, dSet, dAsg, dRet, dRetN, dDrop, dNext, dPar, dVar, dC, dOp, dB, dTru, dtNot, dtAnd, dtOr, dAnd, dOr, dNot, dIfE, dNeg, dNil, dCons, dTup, dLst, dCel, dNoP, dPart, dSlice, dRevT, dRevL, dCall, on1, dTupOf, dLstOf, dCelOf, dIsi, dName, dgNil, dgCons, dgTup, dFn, dMet, dMet0, gt, st, startD, wh_some, dYes, dEq, dNe, List.map, List.length, List.replicate, List.append, List.cons_append, List.nil_append, dWalk, uns, un, tupNms, dNms, ifT, ifF, List.replicate_succ, List.replicate_zero, Nat.sub_self, Nat.reduceSub, Nat.reduceAdd, Nat.zero_add, Bool.not_true, Bool.not_false, e_addI, e_addS, e_addT, e_addL, e_i2, e_i2c, e_is, e_bool, e_cel, e_strD, e_lenS, e_lenT, e_lenL, e_lenC, e_ixS, e_ixT, e_ixL, e_ixC, e_slS, e_slT, e_slL, e_slC, e_itT, e_itL, e_truN, e_truI, e_truB, e_truL, e_truT, e_okN, e_okB, e_okI, e_okS, e_okL, e_okT, e_okC, e_tupN, e_tupB, e_tupI, e_tupS, e_tupL, e_tupT, e_tupC, e_strN, e_strB, e_strI, e_strS, e_strL, e_strT, e_strC, e_intN, e_intB, e_intI, e_intS, e_intL, e_intT, e_intC, e_boolN, e_boolB, e_boolI, e_boolS, e_boolL, e_boolT, e_boolC, e_lstN, e_lstB, e_lstI, e_lstS, e_lstL, e_lstT, e_lstC, e_nonN, e_nonB, e_nonI, e_nonS, e_nonL, e_nonT, e_wkS, e_wkL, e_wkT, e_wkC, e_join, e_inS, e_ninS, e_ofI, e_ofB, e_abs, e_lenF, e_ixF, e_itF, e_wkF, e_tfF, e_truF, e_repT, e_keyI, e_keyS]; try simp only [true_and, and_true, Nat.reduceLeDiff, reduceIte, reduceCtorEq, Bool.false_eq_true, if_true, if_false, not_false_eq_true, ite_true, ite_false, and_self])
          refine wh_mk (atI_nat hd2) ⟨okTy_pure px, ?_⟩
          by_cases htg : isT Ty6.tup g = true
          · obtain ⟨es, rfl⟩ : ∃ ds, g = .tuple ds := by cases g <;> first | exact ⟨_, rfl⟩ | cases htg
            refine iteN (by rw [htg]; decide) ?_
            rw [e_lenT]
            refine ⟨eqOk_int _ _, ?_⟩
            rw [eqv_intD]
            by_cases h3 : es.length = 3
            · obtain ⟨a, l, y, rfl⟩ : ∃ a l y, es = [a, l, y] := by
                match es, h3 with
                | [a, l, y], _ => exact ⟨a, l, y, rfl⟩
              obtain ⟨m1, ve⟩ := vx.tup
              have we : ∀ x ∈ [a, l, y], wt x ≤ 20000 ∧ ∀ z, x = .str z → z.length ≤ 900000 := fun x hx => by
                have := wt_mem hx
                have e2 : wt (.tuple [a, l, y]) = 1 + wtAll [a, l, y] := rfl
                refine ⟨by omega, fun z ez => ?_⟩
                rw [ez] at this
                have e3 : wt (.str z) = 1 + z.length := rfl
                omega
              rw [rule_three] at bad eB
              refine iteN (by simp) ?_
              (dsimp only [dTryAsX, dRetX, dDropX, dSetX, dAsgX, dFnX, dRaise, dTryAs, dTryOnly, dXf, dIsX, dPar3, dFnR, List.reverse_cons, List.reverse_nil, dDelT, mPop0, mPop, mApp, mExt, dFld, dNew, dDGet, dDIn, dZipT, dAll, dTupF, dIdx, dTupRg, dDc, dReprT, dEqT, dNeT, dFor, dLc, dWhile, dRange1, dRange2, dRange3, dEnumT, e_isB, e_tupD, dgUnl, dSeq, dIfS, dSet, dAsg, dRet, dRetN, dDrop, dNext, dPar, dVar, dC, dOp, dB, dTru, dtNot, dtAnd, dtOr, dAnd, dOr, dNot, dIfE, dNeg, dNil, dCons, dTup, dLst, dCel, dNoP, dPart, dSlice, dRevT, dRevL, dCall, on1, dTupOf, dLstOf, dCelOf, dIsi, dName, dgNil, dgCons, dgTup, dFn, dMet, dMet0, gt, st, startD, wh_some, dYes, dEq, dNe, List.map, List.length, List.replicate, List.append, List.cons_append, List.nil_append, dWalk, uns, un, tupNms, dNms, ifT, ifF, List.replicate_succ, List.replicate_zero, Nat.sub_self, Nat.reduceSub, Nat.reduceAdd, Nat.zero_add, Bool.not_true, Bool.not_false, e_addI, e_addS, e_addT, e_addL, e_i2, e_i2c, e_is, e_bool, e_cel, e_strD, e_lenS, e_lenT, e_lenL, e_lenC, e_ixS, e_ixT, e_ixL, e_ixC, e_slS, e_slT, e_slL, e_slC, e_itT, e_itL, e_truN, e_truI, e_truB, e_truL, e_truT, e_okN, e_okB, e_okI, e_okS, e_okL, e_okT, e_okC, e_tupN, e_tupB, e_tupI, e_tupS, e_tupL, e_tupT, e_tupC, e_strN, e_strB, e_strI, e_strS, e_strL, e_strT, e_strC, e_intN, e_intB, e_intI, e_intS, e_intL, e_intT, e_intC, e_boolN, e_boolB, e_boolI, e_boolS, e_boolL, e_boolT, e_boolC, e_lstN, e_lstB, e_lstI, e_lstS, e_lstL, e_lstT, e_lstC, e_nonN, e_nonB, e_nonI, e_nonS, e_nonL, e_nonT, e_wkS, e_wkL, e_wkT, e_wkC, e_join, e_inS, e_ninS, e_ofI, e_ofB, e_abs, e_lenF, e_ixF, e_itF, e_wkF, e_tfF, e_truF, e_repT, e_keyI, e_keyS]; try simp only [true_and, and_true, Nat.reduceLeDiff, reduceIte, reduceCtorEq, Bool.false_eq_true, if_true, if_false, not_false_eq_true, ite_true, ite_false, and_self])
              refine wh_mk (atI_nat (j := 0) rfl) ⟨a, rfl, (ve a (by simp)).mono (by omega), (we a (by simp)).2, wh_mk rfl ?_⟩
              cases ha : nameD a with
              | false =>
                rw [ha] at bad
                exact iteY rfl (bad rfl)
              | true =>
                rw [ha] at bad eB
                refine iteN (by decide) (wh_mk (atI_nat (j := 1) rfl) ⟨okTy_pure (layPure l (ve l (by simp)).lay), ?_⟩)
                by_cases hsl : isT Ty6.str l = true
                · obtain ⟨lz, rfl⟩ : ∃ z, l = .str z := by cases l <;> first | exact ⟨_, rfl⟩ | cases hsl
                  refine iteN (by rw [hsl]; decide) (wh_mk (atI_nat (j := 1) rfl) ⟨eqOk_str _ _, ?_⟩)
                  cases he : PyData.eqv (.str lz) (.str (Str.ofString "")) with
                  | true =>
                    have hlt : letD (.str lz) = true := by unfold letD; rw [he, Bool.or_true]
                    rw [he] at bad eB
                    refine iteN (by decide) ?_
                    refine wh_mk (atI_nat (j := 2) rfl) (wh_mk (atI_nat (j := 1) rfl) ⟨60 - 1 - 1, y, lz, rfl, by decide, by decide, ve y (by simp), (we y (by simp)).1, wh_mk rfl ?_⟩)
                    rw [he]
                    cases hf : formB true y with
                    | false => exact iteY rfl (bad (by rw [hf, Bool.and_false]; rfl))
                    | true =>
                      rw [hf, hlt] at eB
                      have hg : ruleB (.tuple [a, .str lz, y]) = true := by rw [rule_three, ha, hlt, he, hf]; rfl
                      refine iteN (by decide) ?_
                      by_cases h0 : 0 < i
                      · have hp : i - 1 < rs.length := by omega
                        have hpe : rs[i - 1]? = some rs[i - 1] := List.getElem?_eq_getElem hp
                        have vp := vr.tup.2 _ (List.getElem_mem hp)
                        have hb1 := hb (i - 1) (by omega)
                        have hrp : ruleB rs[i - 1] = true := by
                          unfold badAt at hb1
                          rw [hpe] at hb1
                          have := (Bool.or_eq_false_iff.mp hb1).1
                          simpa using this
                        generalize rs[i - 1] = p at hpe vp hrp
                        rw [hpe] at eB
                        obtain ⟨a1, l1, ps1, e1, _⟩ := rule_tup hg
                        cases e1
                        obtain ⟨a2, l2, ps2, rfl, _⟩ := rule_tup hrp
                        have ey : decide ((0 : Int) < (i : Nat)) = true := decide_eq_true (by omega)
                        have ei : ((i : Nat) : Int) - 1 = ((i - 1 : Nat) : Int) := by omega
                        rw [ei]
                        refine iteY ey (wh_mk (atI_nat hpe) ?_)
                        show ordOk (.tuple [.str a1, .str lz]) (.tuple [.str a2, .str l2]) ∧ _
                        refine ⟨ord_two (vd_mem vx _ (by simp)).lay (vd_mem vx _ (by simp)).lay (vd_mem vp _ (by simp)).lay (vd_mem vp _ (by simp)).lay, wh_mk rfl ?_⟩
                        have eB2 : badAt rs i = !PySem.W.dataLt (.tuple [.str a2, .str l2]) (.tuple [.str a1, .str lz]) := by
                          rw [eB, decide_eq_true h0]
                          rfl
                        show if (!PySem.W.dataLt (.tuple [.str a2, .str l2]) (.tuple [.str a1, .str lz])) = true then _ else _
                        rw [← eB2]
                        cases hB : badAt rs i with
                        | true => exact iteY rfl (fin hB)
                        | false => exact iteN (by decide) ⟨rfl, go _ _ hB⟩
                      · have e0 : badAt rs i = false := by
                          rw [eB, decide_eq_false h0]
                          rfl
                        exact iteN (by rw [decide_eq_false (by omega)]; decide) ⟨rfl, go _ _ e0⟩
                  | false =>
                    rw [he] at bad eB
                    refine iteY rfl (wh_mk (atI_nat (j := 1) rfl) ⟨_, rfl, (ve (.str lz) (by simp)).mono (by omega), (we (.str lz) (by simp)).2, wh_mk rfl ?_⟩)
                    cases hnl : nameD (.str lz) with
                    | false =>
                      have hlt : letD (.str lz) = false := by unfold letD; rw [he, hnl]; rfl
                      rw [hlt] at bad
                      exact iteY rfl (bad rfl)
                    | true =>
                      have hlt : letD (.str lz) = true := by unfold letD; rw [hnl, Bool.true_or]
                      refine iteN (by decide) ?_
                      refine wh_mk (atI_nat (j := 2) rfl) (wh_mk (atI_nat (j := 1) rfl) ⟨60 - 1 - 1, y, lz, rfl, by decide, by decide, ve y (by simp), (we y (by simp)).1, wh_mk rfl ?_⟩)
                      rw [he]
                      cases hf : formB false y with
                      | false => exact iteY rfl (bad (by rw [hf, Bool.and_false]; rfl))
                      | true =>
                        rw [hf, hlt] at eB
                        have hg : ruleB (.tuple [a, .str lz, y]) = true := by rw [rule_three, ha, hlt, he, hf]; rfl
                        refine iteN (by decide) ?_
                        by_cases h0 : 0 < i
                        · have hp : i - 1 < rs.length := by omega
                          have hpe : rs[i - 1]? = some rs[i - 1] := List.getElem?_eq_getElem hp
                          have vp := vr.tup.2 _ (List.getElem_mem hp)
                          have hb1 := hb (i - 1) (by omega)
                          have hrp : ruleB rs[i - 1] = true := by
                            unfold badAt at hb1
                            rw [hpe] at hb1
                            have := (Bool.or_eq_false_iff.mp hb1).1
                            simpa using this
                          generalize rs[i - 1] = p at hpe vp hrp
                          rw [hpe] at eB
                          obtain ⟨a1, l1, ps1, e1, _⟩ := rule_tup hg
                          cases e1
                          obtain ⟨a2, l2, ps2, rfl, _⟩ := rule_tup hrp
                          have ey : decide ((0 : Int) < (i : Nat)) = true := decide_eq_true (by omega)
                          have ei : ((i : Nat) : Int) - 1 = ((i - 1 : Nat) : Int) := by omega
                          rw [ei]
                          refine iteY ey (wh_mk (atI_nat hpe) ?_)
                          show ordOk (.tuple [.str a1, .str lz]) (.tuple [.str a2, .str l2]) ∧ _
                          refine ⟨ord_two (vd_mem vx _ (by simp)).lay (vd_mem vx _ (by simp)).lay (vd_mem vp _ (by simp)).lay (vd_mem vp _ (by simp)).lay, wh_mk rfl ?_⟩
                          have eB2 : badAt rs i = !PySem.W.dataLt (.tuple [.str a2, .str l2]) (.tuple [.str a1, .str lz]) := by
                            rw [eB, decide_eq_true h0]
                            rfl
                          show if (!PySem.W.dataLt (.tuple [.str a2, .str l2]) (.tuple [.str a1, .str lz])) = true then _ else _
                          rw [← eB2]
                          cases hB : badAt rs i with
                          | true => exact iteY rfl (fin hB)
                          | false => exact iteN (by decide) ⟨rfl, go _ _ hB⟩
                        · have e0 : badAt rs i = false := by
                            rw [eB, decide_eq_false h0]
                            rfl
                          exact iteN (by rw [decide_eq_false (by omega)]; decide) ⟨rfl, go _ _ e0⟩
                · have el : letD l = false := by cases l <;> first | rfl | exact absurd rfl hsl
                  rw [el] at bad
                  exact iteY (by rw [show isT Ty6.str l = false by simpa using hsl]; rfl) (bad rfl)
            · refine iteY (by rw [decide_eq_false (by omega)]; rfl) (bad ?_)
              match es, h3 with
              | [], _ => rfl
              | [a], _ => rfl
              | [a, b], _ => rfl
              | [a, b, c], h => exact absurd rfl h
              | a :: b :: c :: d :: r, _ => simp [ruleB]
          · exact iteY (by rw [show isT Ty6.tup g = false by simpa using htg]; rfl) (bad (by cases g <;> first | rfl | exact absurd rfl htg))
        · rintro ρ S' ⟨rfl, hi, hb, y2, y3, rfl⟩
          have el : (rangeD 0 1 ((rs.length : Nat) : Int).toNat).length = rs.length := by
            rw [Int.toNat_natCast, rangeD_len]
          rw [el] at hb
          rw [fb_none hb] at q
          exact q
    · have e : dueO r m = some (-1) := by cases r <;> first | rfl | exact absurd rfl ht
      rw [e] at q
      exact iteY (by rw [show isT Ty6.tup r = false by simpa using ht]; rfl) q
theorem ok_ltold {f : Addr} {fd : FuncData} (F : Fun K "_law_told" "_law_told" sLTold f fd) (T : VjTxt K mg CE C_FitError C_InvalidNode a_law_name a_law_formed a_need_turning)
    (G_need_turning : FnOk P w K mg base (L2.CX P w) 6 a_need_turning d1 ["value"] (spD K (spNeedTu CT CE))) (kb_need_turning : BindsK d1 ["value"] ["value"]) : FnOk P w K mg base CX0 7 f fd ["value"] (spD K (spLTold CT)) := by
  refine dok F scLTold (fun ds S Q E h => ?_) fun cdv A outer s H Q E (hr : Room 6 _) => ⟨_, (qss_one (qs_try_as (i := 1) (C0 := CE) rfl rfl scLTold.nd rfl rfl ⟨(by rfl), (by decide), .inl T.m_InvalidTurning⟩ (fun pn xe hp => (qss_one (qs_retX (qx_kw hr G_need_turning T.g_need_turning T.k_need_turning kb_need_turning (by rfl) (by omega) (qk_cons (q_var (pv 0)) qk_nil)))))
      (fun a oe dd pn hz hd => (qss_one (qs_ret (q_lst (q_cons (q_xf T.xf T.no_at hz hd (q_var (pv 1))) (q_cons (q_isX T.it hz hd T.n_isinstance (by rfl) (q_var (pv 1)) (pe_glob (v := V.ref C_FitError) (by rfl) T.m_FitError rfl)) (q_cons (q_isX T.it hz hd T.n_isinstance (by rfl) (q_var (pv 1)) (pe_glob (v := V.ref C_InvalidNode) (by rfl) T.m_InvalidNode rfl)) q_nil))))))))), fun ds S Qd Er h => ?_⟩
  · obtain ⟨d, o, rfl, _⟩ := h
    rfl
  · obtain ⟨d, o, rfl, hv, q⟩ := h
    (dsimp only [dTryAsX, dRetX, dDropX, dSetX, dAsgX, dFnX, dRaise, dTryAs, dTryOnly, dXf, dIsX, dPar3, dFnR, List.reverse_cons, List.reverse_nil, dDelT, mPop0, mPop, mApp, mExt, dFld, dNew, dDGet, dDIn, dZipT, dAll, dTupF, dIdx, dTupRg, dDc, dReprT, dEqT, dNeT, dFor, dLc, dWhile, dRange1, dRange2, dRange3, dEnumT, e_isB, e_tupD, dgUnl, dSeq, dIfS, dSet, dAsg, dRet, dRetN, dDrop, dNext, dPar, dVar, dC, dOp, dB, dTru, dtNot, dtAnd, dtOr, dAnd, dOr, dNot, dIfE, dNeg, dNil, dCons, dTup, dLst, dCel, dNoP, dPart, dSlice, dRevT, dRevL, dCall, on1, dTupOf, dLstOf, dCelOf, dIsi, dName, dgNil, dgCons, dgTup, dFn, dMet, dMet0, gt, st, startD, wh_some, dYes, dEq, dNe, List.map, List.length, List.replicate, List.append, List.cons_append, List.nil_append, dWalk, uns, un, tupNms, dNms, ifT, ifF, List.replicate_succ, List.replicate_zero, Nat.sub_self, Nat.reduceSub, Nat.reduceAdd, Nat.zero_add, Bool.not_true, Bool.not_false, e_addI, e_addS, e_addT, e_addL, e_i2, e_i2c, e_is, e_bool, e_cel, e_strD, e_lenS, e_lenT, e_lenL, e_lenC, e_ixS, e_ixT, e_ixL, e_ixC, e_slS, e_slT, e_slL, e_slC, e_itT, e_itL, e_truN, e_truI, e_truB, e_truL, e_truT, e_okN, e_okB, e_okI, e_okS, e_okL, e_okT, e_okC, e_tupN, e_tupB, e_tupI, e_tupS, e_tupL, e_tupT, e_tupC, e_strN, e_strB, e_strI, e_strS, e_strL, e_strT, e_strC, e_intN, e_intB, e_intI, e_intS, e_intL, e_intT, e_intC, e_boolN, e_boolB, e_boolI, e_boolS, e_boolL, e_boolT, e_boolC, e_lstN, e_lstB, e_lstI, e_lstS, e_lstL, e_lstT, e_lstC, e_nonN, e_nonB, e_nonI, e_nonS, e_nonL, e_nonT, e_wkS, e_wkL, e_wkT, e_wkC, e_join, e_inS, e_ninS, e_ofI, e_ofB, e_abs, e_lenF, e_ixF, e_itF, e_wkF, e_tfF, e_truF, e_repT, e_keyI, e_keyS]; try simp only [true_and, and_true, Nat.reduceLeDiff, reduceIte, reduceCtorEq, Bool.false_eq_true, if_true, if_false, not_false_eq_true, ite_true, ite_false, and_self])
    refine ⟨d, o, rfl, hv, fun i hi S' e' => ?_, fun hn S' e' => ?_⟩
    · have q' := q S' e'
      rw [hi] at q'
      exact wh_mk T.one (iteY rfl ⟨rfl, fun a dd => wh_mk exF_exd (wh_mk (by rw [fldL_fld]; rfl) (wh_mk exF_exd (wh_mk T.k1 (wh_mk exF_exd (wh_mk T.k2 q')))))⟩)
    · have q' := q S' e'
      rw [hn] at q'
      exact q'
end
end K3

/-! how great the texts of data are -/
namespace K1
open PySem L2
/-- a short plain text -/
structure Plain (n : Nat) (z : Str) : Prop where
  len : z.length ≤ n
  low : ∀ ch ∈ z.cps.toList, ch < 128
theorem canLay_plain {n : Nat} {z : Str} (h : Plain n z) : PyData.canLay0 (.str z) = true := by
  unfold PyData.canLay0
  show (z.cps.all fun x => decide (x < 0x110000)) = true
  rw [Array.all_eq_true']
  intro ch hc
  have := h.low ch (by simpa using hc)
  simp
  omega
structure Rp (n B : Nat) (d : PyData) : Prop where
  lay : d.canLay0 = true
  dep : d.depth ≤ n
  sh : d.showable = true
  len : d.shown.length ≤ B
theorem rp_all {n B : Nat} : ∀ (ds : List PyData), (∀ x ∈ ds, Rp n B x) → PyData.canLayAll0 ds = true ∧ PyData.depthAll ds ≤ n ∧ PyData.showableAll ds = true ∧ piled (PyData.shownAll ds) ≤ ds.length * (B + 2)
  | [], _ => by
    refine ⟨rfl, ?_, rfl, ?_⟩
    · unfold PyData.depthAll
      exact Nat.zero_le _
    · unfold PyData.shownAll
      exact Nat.zero_le _
  | x :: ds, h => by
    obtain ⟨a, b, c, e⟩ := rp_all ds fun y hy => h y (List.mem_cons_of_mem _ hy)
    have hx := h x (List.mem_cons_self ..)
    have l := hx.len
    refine ⟨?_, ?_, ?_, ?_⟩
    · unfold PyData.canLayAll0
      rw [hx.lay, a]
      rfl
    · unfold PyData.depthAll
      have := hx.dep
      omega
    · unfold PyData.showableAll
      rw [hx.sh, c]
      rfl
    · unfold PyData.shownAll
      rw [piled_cons, List.length_cons, Nat.succ_mul]
      omega
theorem join_le (ts : List Str) : (Str.join ", " ts).length ≤ piled ts := by
  by_cases h : ts = []
  · subst h
    exact Nat.zero_le _
  · have := join_length_add ts h
    omega
/-- a tuple by what its things are together -/
theorem rp_tupA {n C : Nat} {ds : List PyData} (a : PyData.canLayAll0 ds = true) (b : PyData.depthAll ds ≤ n) (c : PyData.showableAll ds = true) (e : piled (PyData.shownAll ds) ≤ C) : Rp (n + 1) (C + 3) (.tuple ds) := by
  refine ⟨?_, ?_, ?_, ?_⟩
  · unfold PyData.canLay0
    exact a
  · unfold PyData.depth
    omega
  · unfold PyData.showable
    exact c
  · unfold PyData.shown tupleText
    rw [strLen_append, strLen_append]
    have j := join_le (PyData.shownAll ds)
    have e1 : (("(" : String) : Str).length = 1 := rfl
    have e2 : ((if (PyData.shownAll ds).length == 1 then ",)" else ")" : String) : Str).length ≤ 2 := by split <;> decide
    rw [e1]
    omega
theorem rp_tup {n B : Nat} {ds : List PyData} (h : ∀ x ∈ ds, Rp n B x) : Rp (n + 1) (ds.length * (B + 2) + 3) (.tuple ds) := by
  obtain ⟨a, b, c, e⟩ := rp_all ds h
  exact rp_tupA a b c e
theorem Rp.mono {n n' B B' : Nat} {d : PyData} (h : Rp n B d) (a : n ≤ n') (b : B ≤ B') : Rp n' B' d := ⟨h.lay, Nat.le_trans h.dep a, h.sh, Nat.le_trans h.len b⟩
theorem rp_str {z : Str} (h : Plain 17 z) : Rp 0 300 (.str z) := by
  refine ⟨canLay_plain h, by unfold PyData.depth; exact Nat.le_refl _, rfl, ?_⟩
  unfold PyData.shown
  have r := StrLaws.reprText_len z fun ch hc => by
    have := h.low ch hc
    have : (128 : Nat) ≤ 16 ^ 8 := by decide
    omega
  have := h.len
  omega
theorem rp_none : Rp 0 300 .none := ⟨rfl, by unfold PyData.depth; exact Nat.le_refl _, rfl, by unfold PyData.shown; decide⟩
theorem rp_bool (b : Bool) : Rp 0 300 (.bool b) := ⟨rfl, by unfold PyData.depth; exact Nat.le_refl _, rfl, by unfold PyData.shown; cases b <;> decide⟩
theorem rp_int {i : Int} (h : i.natAbs < 1000000000) : Rp 0 300 (.int i) := by
  refine ⟨rfl, by unfold PyData.depth; exact Nat.le_refl _, ?_, ?_⟩
  · unfold PyData.showable
    have h2 : i.natAbs.log2 < 30 := by
      by_cases z : i.natAbs = 0
      · rw [z]
        decide
      · exact (Nat.log2_lt z).mpr (by omega)
    exact decide_eq_true (by omega)
  · unfold PyData.shown
    have q := int_text_length_le10 (a := i) (k := 9) (by decide) h
    show (Str.ofString (toString i)).length ≤ 300
    rw [ofString_length]
    omega
theorem Rp.ok {d : PyData} (r : Rp 150 10000000 d) : d.showable = true ∧ d.hasDict = false ∧ d.depth ≤ 150 ∧ d.shown.length ≤ sizeLine :=
  ⟨r.sh, PyData.hasDict_of_canLay _ r.lay, r.dep, by have := r.len; rw [sizeLine_eq]; omega⟩
theorem rp_ask {K : PySem.W.Frag} {H : Hp} {v : V} {d : PyData} {n B : Nat} {Q : VK} (h : Dp K H v d) (r : Rp n B d) (hn : n ≤ 150) (hB : B ≤ 10000000) (q : Q (.str d.shown) H) : Grd.rRepr K [v] H Q :=
  ⟨v, d, rfl, h, r.sh, PyData.hasDict_of_canLay _ r.lay, Nat.le_trans r.dep hn, by have := r.len; rw [sizeLine_eq]; omega, q⟩
theorem same_text (z : V) : (!decide (z = z)) = false := by simp
theorem same_textT (z : V) : decide (z = z) = true := by simp
end K1

/-! the plain layer: older promises of texts, names, documents -/
namespace K3
open PySem L2 Xr K1
def spLTextD : SpD := fun ds S Q _ => ∃ n k, ds = [cel n] ∧ DealD S n k ∧ ∀ z S', textD (.str z) = true → MvD n k S S' → Q (.str z) S'
theorem ltext_imp {K : PySem.W.Frag} : ∀ vs H Q E, spD K spLTextD vs H Q E → spLText vs H Q E := fun vs H Q E ⟨m, S, ds, Qd, Ed, w, dv, q, kq, _⟩ => by
  obtain ⟨n, k, rfl, D, h⟩ := q
  obtain ⟨x, rfl, dx⟩ := dv1 dv
  obtain ⟨d, c, hd, hc, DA⟩ := D.at w
  obtain ⟨d', rfl, hd'⟩ := celN_dv dx rfl
  rw [hd] at hd'
  cases hd'
  refine ⟨d, c, rfl, DA, fun z H' hz D' b' => ?_⟩
  obtain ⟨S', mv, ev, w'⟩ := D.moved w hd hc D' b'
  exact kq _ _ _ _ _ (h z S' hz mv) ev w' (.str _)
def spNamesD : SpD := fun ds S Q _ => ∃ (n k many : Nat), ds = [cel n, .int (many : Nat)] ∧ DealD S n k ∧ 1 ≤ many ∧ many < 60 ∧ ∀ (ns : List Str) (S' : Sto), ns.length = many → (∀ x ∈ ns, nameD (.str x) = true) → MvD n k S S' → Q (.list (ns.map PyData.str)) S'
theorem names_imp {K : PySem.W.Frag} : ∀ vs H Q E, spD K spNamesD vs H Q E → spNames vs H Q E := fun vs H Q E ⟨m, S, ds, Qd, Ed, w, dv, q, kq, _⟩ => by
  obtain ⟨n, k, many, rfl, D, h1, h2, h⟩ := q
  obtain ⟨x, y, rfl, dx, dy⟩ := dv2 dv
  cases dy
  obtain ⟨d, c, hd, hc, DA⟩ := D.at w
  obtain ⟨d', rfl, hd'⟩ := celN_dv dx rfl
  rw [hd] at hd'
  cases hd'
  refine ⟨d, c, many, rfl, DA, h1, h2, fun p ns H' hp hn hl hx D' b' => ?_⟩
  obtain ⟨S', mv, ev, w'⟩ := D.moved w hd hc D' b'
  exact kq _ _ _ _ _ (h ns S' hl hx mv) ev w' (.lst hp (w.noCe hn) (strs_dvs ns))
/-- documents as they are grown -/
def spGrownD (n0 : Nat) : SpD := fun ds S Q _ => ∃ (n k : Nat) (ns : List Str) (many : Nat) (deep : Int), ds = [cel n, .list (ns.map PyData.str), .int (many : Nat), .int deep] ∧ DealD S n k ∧
  (∀ x ∈ ns, nameD (.str x) = true) ∧ 0 < ns.length ∧ ns.length < 1000 ∧ 1 ≤ many ∧ many ≤ 90 ∧ many ≤ n0 ∧ 1 ≤ deep ∧ ∀ (a k0 : Addr) (x : Str) (ts : List AT) (S' : Sto), (AT.nod a k0 x ts).ok → (AT.nod a k0 x ts).cnt ≤ many → ((AT.nod a k0 x ts).hgt : Int) ≤ deep → MvD n k S S' → Q (AT.nod a k0 x ts).doc.dat S'
theorem dv4 {K : PySem.W.Frag} {m : Mp} {H : Hp} {xs : List V} {d d' d2 d3 : PyData} (h : DvAll K m H xs [d, d', d2, d3]) : ∃ x y z u, xs = [x, y, z, u] ∧ Dv K m H x d ∧ Dv K m H y d' ∧ Dv K m H z d2 ∧ Dv K m H u d3 := by
  cases h with
  | cons a r =>
    obtain ⟨y, z, u, rfl, b, c, e⟩ := dv3 r
    exact ⟨_, _, _, _, rfl, a, b, c, e⟩
theorem grown_imp {K : PySem.W.Frag} (n0 : Nat) : ∀ vs H Q E, spD K (spGrownD n0) vs H Q E → spGrown K n0 vs H Q E := fun vs H Q E ⟨m, S, ds, Qd, Ed, w, dv, q, kq, _⟩ => by
  obtain ⟨n, k, ns, many, deep, rfl, D, h1, h2, h3, h4, h5, h6, h7, h⟩ := q
  obtain ⟨x, y, z, u, rfl, dx, dy, dz, du⟩ := dv4 dv
  cases dz
  cases du
  obtain ⟨d, c, hd, hc, DA⟩ := D.at w
  obtain ⟨d', rfl, hd'⟩ := celN_dv dx rfl
  rw [hd] at hd'
  cases hd'
  obtain ⟨nm, xs, rfl, ha, na, al⟩ := dy.seqL
  have := dv_strs al
  subst this
  refine ⟨d, c, nm, ns, many, deep, rfl, DA, ha, fun z => na (.inl ⟨n, by rw [z]; exact hd⟩), fun z => na (.inl ⟨k, by rw [z]; exact hc⟩), h1, h2, h3, h4, h5, h6, h7, fun v a k0 x ts H' o1 o2 o3 dm D' b' => ?_⟩
  obtain ⟨S', mv, ev, w'⟩ := D.moved w hd hc D' b'
  exact kq _ _ _ _ _ (h a k0 x ts S' o1 o2 o3 mv) ev w' (Dv.of (fun a z => w.ceTrk a z) _ _ dm)
end K3

/-! parts of rules, drawn -/
namespace K3
open PySem L2 Xr K1 Exv
abbrev sLNms : Stmt := top 30
theorem scLNms : FnScope ["deal"] ["deal"] (defScope sLNms) := ⟨rfl, rfl, rfl, by decide +kernel, rfl, by decide +kernel, by decide +kernel⟩
abbrev sLPts : Stmt := top 31
theorem scLPts : FnScope ["deal", "modes", "names", "letter", "deep", "room", "found", "turn", "sort"] ["deal", "modes", "names", "letter", "deep", "room"] (defScope sLPts) := ⟨rfl, rfl, rfl, by decide +kernel, rfl, by decide +kernel, by decide +kernel⟩
abbrev sx (z : String) : Str := Str.ofString z
def menuN : List (List Str) := [[sx "x"], [sx "x", sx "y"], [sx "x", sx "y", sx "z"], [sx "p", sx "pa", sx "pb"]]
def menuM : List (List Str) := [[sx "a", sx "b", sx "c"], [sx "k", sx "ka", sx "kb"], [sx "m", sx "n", sx "nn"]]
def strL (ns : List Str) : PyData := .list (ns.map PyData.str)
def spLNms : SpD := fun ds S Q _ => ∃ (n k : Nat), ds = [cel n] ∧ DealD S n k ∧ ∀ ns S', ns ∈ menuN → MvD n k S S' → Q (strL ns) S'
theorem name_plain {z : Str} (h : nameD (.str z) = true) : Plain 8 z := by
  have h' : (decide (z.length ≠ 0) && (decide (z.length ≤ 8) && hasOnly z abc)) = true := h
  rw [Bool.and_eq_true, Bool.and_eq_true] at h'
  refine ⟨of_decide_eq_true h'.2.1, fun c hc => ?_⟩
  have h2 : (z.cps.toList.all fun c => decide (c ∈ abc.cps.toList)) = true := h'.2.2
  have h3 := of_decide_eq_true (List.all_eq_true.mp h2 c hc)
  have all : ∀ c ∈ abc.cps.toList, c < 128 := by decide +kernel
  exact all c h3
theorem pl_up {n n' : Nat} {z : Str} (h : Plain n z) (l : n ≤ n') : Plain n' z := ⟨Nat.le_trans h.len l, h.low⟩
theorem rp_name {z : Str} (h : nameD (.str z) = true) : Rp 0 300 (.str z) := rp_str (pl_up (name_plain h) (by decide))
def RB : Nat → Nat
  | 0 => 2000
  | d + 1 => 10 * RB d
def WB : Nat → Nat
  | 0 => 100
  | d + 1 => 4 * WB d + 100
theorem RB_le : ∀ d, 2000 ≤ RB d
  | 0 => Nat.le_refl _
  | d + 1 => by have := RB_le d; show 2000 ≤ 10 * RB d; omega
theorem WB_le : ∀ d, 100 ≤ WB d
  | 0 => Nat.le_refl _
  | d + 1 => by show 100 ≤ 4 * WB d + 100; omega
def lim : Nat → Nat
  | 0 => 2
  | _ + 1 => 3
/-- parts drawn, of at most so many levels of nodes -/
structure DrP (e : Bool) (d : Nat) (ps : List PyData) : Prop where
  ok : deepAll e ps = true
  rp : Rp (2 * d + 2) (RB d) (.tuple ps)
  wt : wtAll ps ≤ WB d
def RO : Nat → Nat
  | 0 => 700
  | d + 1 => 3 * RB d + 9
def WO : Nat → Nat
  | 0 => 30
  | d + 1 => WB d + 20
/-- one part -/
structure DrO (e : Bool) (d : Nat) (p : PyData) : Prop where
  ok : deepB e p = true
  rp : Rp (2 * d + 1) (RO d) p
  wt : wt p ≤ WO d
theorem drO_leaf {e : Bool} {d : Nat} {a x : Str} (ok : deepB e (.tuple [.str a, .str x]) = true) (ha : Plain 8 a) (hx : Plain 8 x) : DrO e d (.tuple [.str a, .str x]) := by
  refine ⟨ok, ?_, ?_⟩
  · have h := rp_tup (n := 0) (B := 300) (ds := [.str a, .str x]) fun y hy => by
      rcases List.mem_cons.mp hy with h | h
      · rw [h]; exact rp_str (pl_up ha (by decide))
      · rw [List.mem_singleton.mp h]; exact rp_str (pl_up hx (by decide))
    refine h.mono (by omega) ?_
    cases d with
    | zero => show 2 * (300 + 2) + 3 ≤ 700; decide
    | succ d => have := RB_le d; show 2 * (300 + 2) + 3 ≤ 3 * RB d + 9; omega
  · have e1 : wt (.tuple [.str a, .str x]) = 1 + ((1 + a.length) + ((1 + x.length) + 0)) := rfl
    have l1 := ha.len
    have l2 := hx.len
    rw [e1]
    cases d with
    | zero => show _ ≤ 30; omega
    | succ d => have := WB_le d; show _ ≤ WB d + 20; omega
theorem drO_keep {d : Nat} : DrO true d (.tuple [.str (sx "keep")]) := by
  refine ⟨by decide +kernel, ?_, ?_⟩
  · have h := rp_tup (n := 0) (B := 300) (ds := [.str (sx "keep")]) fun y hy => by
      rw [List.mem_singleton.mp hy]
      exact rp_str ⟨by decide +kernel, by decide +kernel⟩
    refine h.mono (by omega) ?_
    cases d with
    | zero => decide
    | succ d => have := RB_le d; show 1 * (300 + 2) + 3 ≤ 3 * RB d + 9; omega
  · have e1 : wt (.tuple [.str (sx "keep")]) = 6 := by decide +kernel
    rw [e1]
    cases d with
    | zero => decide
    | succ d => have := WB_le d; show _ ≤ WB d + 20; omega
theorem drO_node {e : Bool} {d : Nat} {x : Str} {ps : List PyData} (hx : nameD (.str x) = true) (h : DrP e d ps) : DrO e (d + 1) (.tuple [.str (sx "node"), .str x, .tuple ps]) := by
  refine ⟨?_, ?_, ?_⟩
  · rw [deep_three, hx]
    show (_ && (true && deepAll e ps)) = true
    rw [h.ok]
    decide +kernel
  · have hr := RB_le d
    have h2 := rp_tup (n := 2 * d + 2) (B := RB d) (ds := [.str (sx "node"), .str x, .tuple ps]) fun y hy => by
      rcases List.mem_cons.mp hy with q | q
      · rw [q]; exact (rp_str ⟨by decide +kernel, by decide +kernel⟩).mono (by omega) (by omega)
      · rcases List.mem_cons.mp q with q | q
        · rw [q]; exact (rp_name hx).mono (by omega) (by omega)
        · rw [List.mem_singleton.mp q]; exact h.rp
    exact h2.mono (by omega) (by show 3 * (RB d + 2) + 3 ≤ 3 * RB d + 9; omega)
  · have e1 : wt (.tuple [.str (sx "node"), .str x, .tuple ps]) = 1 + ((1 + 4) + ((1 + x.length) + ((1 + wtAll ps) + 0))) := rfl
    have l := (name_plain hx).len
    have := h.wt
    rw [e1]
    show _ ≤ WB d + 20
    omega
theorem deepAll_of {e : Bool} : ∀ {ps : List PyData}, (∀ p ∈ ps, deepB e p = true) → deepAll e ps = true
  | [], _ => rfl
  | p :: ps, h => by
    show (deepB e p && deepAll e ps) = true
    rw [h p List.mem_cons_self, deepAll_of fun x hx => h x (List.mem_cons_of_mem _ hx)]
    rfl
theorem wtAll_leM {B : Nat} : ∀ {ds : List PyData}, (∀ x ∈ ds, wt x ≤ B) → wtAll ds ≤ ds.length * B
  | [], _ => Nat.zero_le _
  | d :: ds, h => by
    have h1 := h d List.mem_cons_self
    have h2 := wtAll_leM fun x hx => h x (List.mem_cons_of_mem _ hx)
    show wt d + wtAll ds ≤ (ds.length + 1) * B
    rw [Nat.succ_mul]
    omega
theorem drP_of {e : Bool} {d : Nat} {ps : List PyData} (h : ∀ p ∈ ps, DrO e d p) (l : ps.length ≤ lim d) : DrP e d ps := by
  refine ⟨deepAll_of fun p hp => (h p hp).ok, ?_, ?_⟩
  · have h2 := rp_tup (ds := ps) fun y hy => (h y hy).rp
    refine h2.mono (by omega) ?_
    cases d with
    | zero =>
      have l' : ps.length ≤ 2 := l
      show ps.length * (700 + 2) + 3 ≤ 2000
      omega
    | succ d =>
      have l' : ps.length ≤ 3 := l
      have := RB_le d
      have m : ps.length * (3 * RB d + 9 + 2) ≤ 3 * (3 * RB d + 9 + 2) := Nat.mul_le_mul_right _ l'
      show ps.length * (3 * RB d + 9 + 2) + 3 ≤ 10 * RB d
      omega
  · have h2 := wtAll_leM fun y hy => (h y hy).wt
    cases d with
    | zero =>
      have l' : ps.length ≤ 2 := l
      have h3 : wtAll ps ≤ ps.length * 30 := h2
      show _ ≤ 100
      omega
    | succ d =>
      have l' : ps.length ≤ 3 := l
      have h3 : wtAll ps ≤ ps.length * (WB d + 20) := h2
      have m : ps.length * (WB d + 20) ≤ 3 * (WB d + 20) := Nat.mul_le_mul_right _ l'
      show _ ≤ 4 * WB d + 100
      omega
/-- the deal went on, and a cell r -/
structure MvP (n k r : Nat) (S S' : Sto) : Prop where
  D : DealD S' n k
  kp : ∀ j c, S j = some c → j ≠ n → j ≠ k → j ≠ r → S' j = some c
theorem MvP.trans {n k r : Nat} {S S1 S2 : Sto} (a : MvP n k r S S1) (b : MvP n k r S1 S2) : MvP n k r S S2 := ⟨b.D, fun j c h x y z => b.kp j c (a.kp j c h x y z) x y z⟩
theorem MvP.mv {n k r : Nat} {S S1 S2 : Sto} (a : MvP n k r S S1) (b : MvD n k S1 S2) : MvP n k r S S2 := ⟨b.D, fun j c h x y z => b.kp j c (a.kp j c h x y z) x y⟩
def spLPts (n0 : Nat) : SpD := fun ds S Q _ => ∃ (n k rm d g : Nat) (ms ns : List Str) (l : Str), ds = [cel n, strL ms, strL ns, .str l, .int (d : Nat), cel rm] ∧ d < n0 ∧ DealD S n k ∧ rm ≠ n ∧ rm ≠ k ∧ S rm = some (.lst [.int (g : Nat)]) ∧ g ≤ 1000 ∧
  (∀ x ∈ ms, nameD (.str x) = true) ∧ 0 < ms.length ∧ ms.length < 1000 ∧ (∀ x ∈ ns, nameD (.str x) = true) ∧ 0 < ns.length ∧ ns.length < 1000 ∧
  ∀ ps (g1 : Nat) S', DrP (PyData.eqv (.str l) (.str (sx ""))) d ps → (goesD ps).length + g1 ≤ g → MvP n k rm S S' → S' rm = some (.lst [.int (g1 : Nat)]) → Q (.tuple ps) S'
theorem ite_any {c : Prop} [Decidable c] {n : Nat} {a b : Int} {S : Sto} {f : DK} {e : DX} (h : spAnyD [cel n, .int (if c then a else b)] S f e) : if c then spAnyD [cel n, .int a] S f e else spAnyD [cel n, .int b] S f e := by
  by_cases hc : c
  · rw [if_pos hc] at h ⊢
    exact h
  · rw [if_neg hc] at h ⊢
    exact h
structure VkTxt (K : PySem.W.Frag) (mg : Str → Option Value) (a_law_any a_law_of a_law_parts : Addr) : Prop where
  n_range : mg "range" = none
  n_tuple : mg "tuple" = none
  g_law_any : mg "_law_any" = some (.ref a_law_any)
  k_law_any : PySem.W.keepIn K (.ref a_law_any) = true
  g_law_of : mg "_law_of" = some (.ref a_law_of)
  k_law_of : PySem.W.keepIn K (.ref a_law_of) = true
  g_law_parts : mg "_law_parts" = some (.ref a_law_parts)
  k_law_parts : PySem.W.keepIn K (.ref a_law_parts) = true
section
variable {P : Program} {w : World} {K : PySem.W.Frag} {mg : Str → Option Value} {base : Heap} {a_law_any a_law_of a_law_parts : Addr} {d1 d2 d3 : FuncData}
theorem ok_lnms {f : Addr} {fd : FuncData} (F : Fun K "_law_names" "_law_names" sLNms f fd) (T : VkTxt K mg a_law_any a_law_of a_law_parts)
    (G_law_of : FnOk P w K mg base CX0 2 a_law_of d2 ["deal", "some"] (spD K spOfD)) (b_law_of : Binds K d2 ["deal", "some"] []) : FnOk P w K mg base CX0 3 f fd ["deal"] (spD K spLNms) := by
  refine dok F scLNms (fun ds S Q E h => ?_) fun cdv A outer s H Q E (hr : Room 2 _) => ⟨_, (qss_one (qs_ret (q_call hr G_law_of T.g_law_of T.k_law_of b_law_of (by rfl) (by omega) (q_cons (q_var (pv 0)) (q_cons (q_lst (q_cons (q_lst (q_cons q_str q_nil)) (q_cons (q_lst (q_cons q_str (q_cons q_str q_nil))) (q_cons (q_lst (q_cons q_str (q_cons q_str (q_cons q_str q_nil)))) (q_cons (q_lst (q_cons q_str (q_cons q_str (q_cons q_str q_nil)))) q_nil))))) q_nil))))), fun ds S Qd Er h => ?_⟩
  · obtain ⟨n, k, rfl, _⟩ := h
    rfl
  · obtain ⟨n, k, rfl, D, q⟩ := h
    (dsimp only [dTryAsX, dRetX, dDropX, dSetX, dAsgX, dFnX, dRaise, dTryAs, dTryOnly, dXf, dIsX, dPar3, dFnR, List.reverse_cons, List.reverse_nil, dDelT, mPop0, mPop, mApp, mExt, dFld, dNew, dDGet, dDIn, dZipT, dAll, dTupF, dIdx, dTupRg, dDc, dReprT, dEqT, dNeT, dFor, dLc, dWhile, dRange1, dRange2, dRange3, dEnumT, e_isB, e_tupD, dgUnl, dSeq, dIfS, dSet, dAsg, dRet, dRetN, dDrop, dNext, dPar, dVar, dC, dOp, dB, dTru, dtNot, dtAnd, dtOr, dAnd, dOr, dNot, dIfE, dNeg, dNil, dCons, dTup, dLst, dCel, dNoP, dPart, dSlice, dRevT, dRevL, dCall, on1, dTupOf, dLstOf, dCelOf, dIsi, dName, dgNil, dgCons, dgTup, dFn, dMet, dMet0, gt, st, startD, wh_some, dYes, dEq, dNe, List.map, List.length, List.replicate, List.append, List.cons_append, List.nil_append, dWalk, uns, un, tupNms, dNms, ifT, ifF, List.replicate_succ, List.replicate_zero, Nat.sub_self, Nat.reduceSub, Nat.reduceAdd, Nat.zero_add, Bool.not_true, Bool.not_false, e_addI, e_addS, e_addT, e_addL, e_i2, e_i2c, e_is, e_bool, e_cel, e_strD, e_lenS, e_lenT, e_lenL, e_lenC, e_ixS, e_ixT, e_ixL, e_ixC, e_slS, e_slT, e_slL, e_slC, e_itT, e_itL, e_truN, e_truI, e_truB, e_truL, e_truT, e_okN, e_okB, e_okI, e_okS, e_okL, e_okT, e_okC, e_tupN, e_tupB, e_tupI, e_tupS, e_tupL, e_tupT, e_tupC, e_strN, e_strB, e_strI, e_strS, e_strL, e_strT, e_strC, e_intN, e_intB, e_intI, e_intS, e_intL, e_intT, e_intC, e_boolN, e_boolB, e_boolI, e_boolS, e_boolL, e_boolT, e_boolC, e_lstN, e_lstB, e_lstI, e_lstS, e_lstL, e_lstT, e_lstC, e_nonN, e_nonB, e_nonI, e_nonS, e_nonL, e_nonT, e_wkS, e_wkL, e_wkT, e_wkC, e_join, e_inS, e_ninS, e_ofI, e_ofB, e_abs, e_lenF, e_ixF, e_itF, e_wkF, e_tfF, e_truF, e_repT, e_keyI, e_keyS]; try simp only [true_and, and_true, Nat.reduceLeDiff, reduceIte, reduceCtorEq, Bool.false_eq_true, if_true, if_false, not_false_eq_true, ite_true, ite_false, and_self])
    refine ⟨n, k, _, rfl, D, .inl ⟨_, rfl, by decide, by decide, fun d S' hd mv => ?_⟩⟩
    obtain ⟨ns, hn, e⟩ : ∃ ns ∈ menuN, d = strL ns := by
      have hd' : d ∈ menuN.map strL := hd
      obtain ⟨ns, h1, h2⟩ := List.mem_map.mp hd'
      exact ⟨ns, h1, h2.symm⟩
    rw [e]
    exact q ns S' hn mv
theorem ok_lpts0 {fd : FuncData} (F : Fun K "_law_parts" "_law_parts" sLPts a_law_parts fd) : FnOk P w K mg base CX0 3 a_law_parts fd ["deal", "modes", "names", "letter", "deep", "room"] (spD K (spLPts 0)) := by
  refine F.ok scLPts (spD_len fun ds S Q E h => ?_) fun cdv A outer s H vs Q E hr h => ?_
  · obtain ⟨n, k, rm, d, g, ms, ns, l, rfl, _⟩ := h
    rfl
  · obtain ⟨m, S, ds, Qd, Ed, w, dv, ⟨n, k, rm, d, g, ms, ns, l, _, hm, _⟩, _⟩ := h
    omega
theorem ok_lptsS {fd : FuncData} {n : Nat} (F : Fun K "_law_parts" "_law_parts" sLPts a_law_parts fd) (T : VkTxt K mg a_law_any a_law_of a_law_parts) (b_law_parts : Binds K fd ["deal", "modes", "names", "letter", "deep", "room"] [])
    (G_law_any : FnOk P w K mg base CX0 1 a_law_any d1 ["deal", "bound"] (spD K spAnyD)) (b_law_any : Binds K d1 ["deal", "bound"] [])
    (G_law_of : FnOk P w K mg base CX0 2 a_law_of d2 ["deal", "some"] (spD K spOfD)) (b_law_of : Binds K d2 ["deal", "some"] [])
    (G_law_parts : FnOk P w K mg base CX0 (3 + n) a_law_parts fd ["deal", "modes", "names", "letter", "deep", "room"] (spD K (spLPts n))) : FnOk P w K mg base CX0 (3 + n + 1) a_law_parts fd ["deal", "modes", "names", "letter", "deep", "room"] (spD K (spLPts (n + 1))) := by
  refine dok F scLPts (fun ds S Q E h => ?_) fun cdv A outer s H Q E (hr : Room (3 + n) _) => ⟨_, (qss_cons (qs_set (i := 6) scLPts.nd rfl (Or.inl rfl) (q_cel q_nil))
      (qss_cons (qs_for PassesOwn.never rfl (qi_range1 T.n_range (by rfl) (q_cons (q_call hr G_law_any T.g_law_any T.k_law_any b_law_any (by rfl) (by omega) (q_cons (q_var (pv 0)) (q_cons (q_if (qt_cmp op_gt snd_lt (q_var (pv 4)) q_int (nomark _)) q_int q_int) q_nil))) q_nil)) (qg_name (pg_name (i := 7) scLPts.nd rfl (Or.inl rfl)))
      (qss_cons (qs_set (i := 8) scLPts.nd rfl (Or.inl rfl) (q_call hr G_law_any T.g_law_any T.k_law_any b_law_any (by rfl) (by omega) (q_cons (q_var (pv 0)) (q_cons q_int q_nil))))
      (qss_one (qs_if (PW.pt (qw_and (qt_cmp op_lt snd_lt (q_var (pv 8)) q_int (nomark _)) (qw_and1 (qt_cmp op_gt snd_lt (q_var (pv 4)) q_int (nomark _)))))
      (qss_one (qs_expr (q_append (q_var (pv 6)) (q_cons (q_tup (q_cons q_str (q_cons (q_call hr G_law_of T.g_law_of T.k_law_of b_law_of (by rfl) (by omega) (q_cons (q_var (pv 0)) (q_cons (q_var (pv 2)) q_nil))) (q_cons (q_call hr G_law_parts T.g_law_parts T.k_law_parts b_law_parts (by rfl) (by omega) (q_cons (q_var (pv 0)) (q_cons (q_var (pv 1)) (q_cons (q_var (pv 2)) (q_cons (q_var (pv 3)) (q_cons (q_sub (q_var (pv 4)) q_int) (q_cons (q_var (pv 5)) q_nil))))))) q_nil)))) q_nil))))
      (qss_one (qs_if (PW.pt (qw_or (qt_cmp (op_eqA (u64 hr)) snd_eq (q_var (pv 8)) q_int (nomark _)) (qw_or1 (qt_cmp (op_eqA (u64 hr)) snd_eq (q_at (q_var (pv 5)) q_int (fun _ _ => rfl)) q_int (nomark _)))))
      (qss_one (qs_expr (q_append (q_var (pv 6)) (q_cons (q_tup (q_cons q_str (q_cons (q_call hr G_law_of T.g_law_of T.k_law_of b_law_of (by rfl) (by omega) (q_cons (q_var (pv 0)) (q_cons (q_lst (q_cons q_str (q_cons q_str (q_cons q_str q_nil)))) q_nil))) q_nil))) q_nil))))
      (qss_one (qs_if (qt_cmp (op_eqA (u64 hr)) snd_eq (q_var (pv 3)) q_str (nomark _))
      (qss_one (qs_expr (q_append (q_var (pv 6)) (q_cons (q_tup (q_cons q_str q_nil)) q_nil))))
      (qss_cons (qs_asg (q_sub (q_at (q_var (pv 5)) q_int (fun _ _ => rfl)) q_int) (qg_sub (q_var (pv 5)) q_int))
      (qss_one (qs_expr (q_append (q_var (pv 6)) (q_cons (q_tup (q_cons q_str (q_cons (q_call hr G_law_of T.g_law_of T.k_law_of b_law_of (by rfl) (by omega) (q_cons (q_var (pv 0)) (q_cons (q_var (pv 1)) q_nil))) q_nil))) q_nil)))))))))))))
      (qss_one (qs_ret (q_tuple T.n_tuple (by rfl) (q_cons (q_var (pv 6)) q_nil)))))), fun ds S Qd Er h => ?_⟩
  · obtain ⟨n, k, rm, d, g, ms, ns, l, rfl, _⟩ := h
    rfl
  · obtain ⟨n, k, rm, d, g, ms, ns, l, rfl, hd, D, r1, r2, hS, hg, hms, lm0, lm1, hns, ln0, ln1, q⟩ := h
    (dsimp only [dTryAsX, dRetX, dDropX, dSetX, dAsgX, dFnX, dRaise, dTryAs, dTryOnly, dXf, dIsX, dPar3, dFnR, List.reverse_cons, List.reverse_nil, dDelT, mPop0, mPop, mApp, mExt, dFld, dNew, dDGet, dDIn, dZipT, dAll, dTupF, dIdx, dTupRg, dDc, dReprT, dEqT, dNeT, dFor, dLc, dWhile, dRange1, dRange2, dRange3, dEnumT, e_isB, e_tupD, dgUnl, dSeq, dIfS, dSet, dAsg, dRet, dRetN, dDrop, dNext, dPar, dVar, dC, dOp, dB, dTru, dtNot, dtAnd, dtOr, dAnd, dOr, dNot, dIfE, dNeg, dNil, dCons, dTup, dLst, dCel, dNoP, dPart, dSlice, dRevT, dRevL, dCall, on1, dTupOf, dLstOf, dCelOf, dIsi, dName, dgNil, dgCons, dgTup, dFn, dMet, dMet0, gt, st, startD, wh_some, dYes, dEq, dNe, List.map, List.length, List.replicate, List.append, List.cons_append, List.nil_append, dWalk, uns, un, tupNms, dNms, ifT, ifF, List.replicate_succ, List.replicate_zero, Nat.sub_self, Nat.reduceSub, Nat.reduceAdd, Nat.zero_add, Bool.not_true, Bool.not_false, e_addI, e_addS, e_addT, e_addL, e_i2, e_i2c, e_is, e_bool, e_cel, e_strD, e_lenS, e_lenT, e_lenL, e_lenC, e_ixS, e_ixT, e_ixL, e_ixC, e_slS, e_slT, e_slL, e_slC, e_itT, e_itL, e_truN, e_truI, e_truB, e_truL, e_truT, e_okN, e_okB, e_okI, e_okS, e_okL, e_okT, e_okC, e_tupN, e_tupB, e_tupI, e_tupS, e_tupL, e_tupT, e_tupC, e_strN, e_strB, e_strI, e_strS, e_strL, e_strT, e_strC, e_intN, e_intB, e_intI, e_intS, e_intL, e_intT, e_intC, e_boolN, e_boolB, e_boolI, e_boolS, e_boolL, e_boolT, e_boolC, e_lstN, e_lstB, e_lstI, e_lstS, e_lstL, e_lstT, e_lstC, e_nonN, e_nonB, e_nonI, e_nonS, e_nonL, e_nonT, e_wkS, e_wkL, e_wkT, e_wkC, e_join, e_inS, e_ninS, e_ofI, e_ofB, e_abs, e_lenF, e_ixF, e_itF, e_wkF, e_tfF, e_truF, e_repT, e_keyI, e_keyS]; try simp only [true_and, and_true, Nat.reduceLeDiff, reduceIte, reduceCtorEq, Bool.false_eq_true, if_true, if_false, not_false_eq_true, ite_true, ite_false, and_self])
    intro c hc
    have e0 : Ext S (put S c (.lst [])) := Ext.refl.cell hc
    have h0 : put S c (.lst []) c = some (.lst []) := put_same
    obtain ⟨cs, b, hN, hK, _⟩ := D.ex
    have cn : c ≠ n := fun z => by rw [z, hN] at hc; cases hc
    have ck : c ≠ k := fun z => by rw [z, hK] at hc; cases hc
    have cr : c ≠ rm := fun z => by rw [z, hS] at hc; cases hc
    have m0 : MvP n k rm S (put S c (.lst [])) := ⟨D.ext e0, fun j x h _ _ _ => e0 _ _ h⟩
    have s0 := e0 _ _ hS
    generalize put S c (.lst []) = S0 at e0 h0 m0 s0 ⊢
    refine ite_any ⟨n, k, _, rfl, m0.D, by split <;> decide, by split <;> decide, fun j S1 j0 j1 mv => ?_⟩
    have hlim : j.toNat ≤ lim d := by
      cases d with
      | zero =>
        have h : (decide ((0 : Int) < ((0 : Nat) : Int)) = true) = False := by simp
        rw [if_neg (by rw [h]; exact id)] at j1
        show j.toNat ≤ 2
        omega
      | succ d =>
        rw [if_pos (by rw [decide_eq_true_iff]; omega)] at j1
        show j.toNat ≤ 3
        omega
    have hlim3 : lim d ≤ 3 := by
      cases d with
      | zero => decide
      | succ d => exact Nat.le_refl 3
    have m1 := m0.mv mv
    have h1 := mv.kp _ _ h0 cn ck
    have s1 := mv.kp _ _ s0 r1 r2
    refine ⟨⟨by omega, by omega⟩, fun i ρ S1 => i ≤ j.toNat ∧ ∃ (ps : List PyData) (g1 : Nat) (y7 y8 : Option PyData), MvP n k rm S S1 ∧ S1 rm = some (.lst [.int (g1 : Nat)]) ∧ S1 c = some (.lst ps) ∧ (∀ p ∈ ps, DrO (PyData.eqv (.str l) (.str (sx ""))) d p) ∧ ps.length ≤ i ∧ (goesD ps).length + g1 ≤ g ∧ ρ = [some (cel n), some (strL ms), some (strL ns), some (.str l), some (.int (d : Nat)), some (cel rm), some (cel c), y7, y8], ⟨Nat.zero_le _, [], g, none, none, m1, s1, h1, (fun p hp => by cases hp), Nat.le_refl _, by show 0 + g ≤ g; omega, rfl⟩, fun _ _ _ _ => trivial, ?_, ?_⟩
    · rintro i o ρ S1 ho ⟨hi, ps, g1, y7, y8, m1, s1, h1, hps, hl, hgo, rfl⟩
      obtain ⟨hi2, rfl⟩ := rangeD_at ho
      try (dsimp only [dTryAsX, dRetX, dDropX, dSetX, dAsgX, dFnX, dRaise, dTryAs, dTryOnly, dXf, dIsX, dPar3, dFnR, List.reverse_cons, List.reverse_nil, dDelT, mPop0, mPop, mApp, mExt, dFld, dNew, dDGet, dDIn, dZipT, dAll, dTupF, dIdx, dTupRg, dDc, dReprT, dEqT, dNeT, dFor, dLc, dWhile, dRange1, dRange2, dRange3, dEnumT, e_isB, e_tupD, dgUnl, dSeq, dIfS, dSet, dAsg, dRet, dRetN, dDrop, dNext, dPar, dVar, dC, dOp, dB, dTru, dtNot, dtAnd, dtOr, dAnd, dOr, dNot, dIfE, dNeg, dNil, dCons, dTup, dLst, dCel, dNoP, dPart, dSlice, dRevT, dRevL, dCall, on1, dTupOf, dLstOf, dCelOf, dIsi, dName, dgNil, dgCons, dgTup, dFn, dMet, dMet0, gt, st, startD, wh_some, dYes, dEq, dNe, List.map, List.length, List.replicate, List.append, List.cons_append, List.nil_append, dWalk, uns, un, tupNms, dNms, ifT, ifF, List.replicate_succ, List.replicate_zero, Nat.sub_self, Nat.reduceSub, Nat.reduceAdd, Nat.zero_add, Bool.not_true, Bool.not_false, e_addI, e_addS, e_addT, e_addL, e_i2, e_i2c, e_is, e_bool, e_cel, e_strD, e_lenS, e_lenT, e_lenL, e_lenC, e_ixS, e_ixT, e_ixL, e_ixC, e_slS, e_slT, e_slL, e_slC, e_itT, e_itL, e_truN, e_truI, e_truB, e_truL, e_truT, e_okN, e_okB, e_okI, e_okS, e_okL, e_okT, e_okC, e_tupN, e_tupB, e_tupI, e_tupS, e_tupL, e_tupT, e_tupC, e_strN, e_strB, e_strI, e_strS, e_strL, e_strT, e_strC, e_intN, e_intB, e_intI, e_intS, e_intL, e_intT, e_intC, e_boolN, e_boolB, e_boolI, e_boolS, e_boolL, e_boolT, e_boolC, e_lstN, e_lstB, e_lstI, e_lstS, e_lstL, e_lstT, e_lstC, e_nonN, e_nonB, e_nonI, e_nonS, e_nonL, e_nonT, e_wkS, e_wkL, e_wkT, e_wkC, e_join, e_inS, e_ninS, e_ofI, e_ofB, e_abs, e_lenF, e_ixF, e_itF, e_wkF, e_tfF, e_truF, e_repT, e_keyI, e_keyS]; try simp only [true_and, and_true, Nat.reduceLeDiff, reduceIte, reduceCtorEq, Bool.false_eq_true, if_true, if_false, not_false_eq_true, ite_true, ite_false, and_self])
      refine ⟨n, k, _, rfl, m1.D, by decide, by decide, fun s2 S2 s20 s21 mv2 => ?_⟩
      have m2 := m1.mv mv2
      have hc2 := mv2.kp _ _ h1 cn ck
      have hr2 := mv2.kp _ _ s1 r1 r2
      try (dsimp only [dTryAsX, dRetX, dDropX, dSetX, dAsgX, dFnX, dRaise, dTryAs, dTryOnly, dXf, dIsX, dPar3, dFnR, List.reverse_cons, List.reverse_nil, dDelT, mPop0, mPop, mApp, mExt, dFld, dNew, dDGet, dDIn, dZipT, dAll, dTupF, dIdx, dTupRg, dDc, dReprT, dEqT, dNeT, dFor, dLc, dWhile, dRange1, dRange2, dRange3, dEnumT, e_isB, e_tupD, dgUnl, dSeq, dIfS, dSet, dAsg, dRet, dRetN, dDrop, dNext, dPar, dVar, dC, dOp, dB, dTru, dtNot, dtAnd, dtOr, dAnd, dOr, dNot, dIfE, dNeg, dNil, dCons, dTup, dLst, dCel, dNoP, dPart, dSlice, dRevT, dRevL, dCall, on1, dTupOf, dLstOf, dCelOf, dIsi, dName, dgNil, dgCons, dgTup, dFn, dMet, dMet0, gt, st, startD, wh_some, dYes, dEq, dNe, List.map, List.length, List.replicate, List.append, List.cons_append, List.nil_append, dWalk, uns, un, tupNms, dNms, ifT, ifF, List.replicate_succ, List.replicate_zero, Nat.sub_self, Nat.reduceSub, Nat.reduceAdd, Nat.zero_add, Bool.not_true, Bool.not_false, e_addI, e_addS, e_addT, e_addL, e_i2, e_i2c, e_is, e_bool, e_cel, e_strD, e_lenS, e_lenT, e_lenL, e_lenC, e_ixS, e_ixT, e_ixL, e_ixC, e_slS, e_slT, e_slL, e_slC, e_itT, e_itL, e_truN, e_truI, e_truB, e_truL, e_truT, e_okN, e_okB, e_okI, e_okS, e_okL, e_okT, e_okC, e_tupN, e_tupB, e_tupI, e_tupS, e_tupL, e_tupT, e_tupC, e_strN, e_strB, e_strI, e_strS, e_strL, e_strT, e_strC, e_intN, e_intB, e_intI, e_intS, e_intL, e_intT, e_intC, e_boolN, e_boolB, e_boolI, e_boolS, e_boolL, e_boolT, e_boolC, e_lstN, e_lstB, e_lstI, e_lstS, e_lstL, e_lstT, e_lstC, e_nonN, e_nonB, e_nonI, e_nonS, e_nonL, e_nonT, e_wkS, e_wkL, e_wkT, e_wkC, e_join, e_inS, e_ninS, e_ofI, e_ofB, e_abs, e_lenF, e_ixF, e_itF, e_wkF, e_tfF, e_truF, e_repT, e_keyI, e_keyS]; try simp only [true_and, and_true, Nat.reduceLeDiff, reduceIte, reduceCtorEq, Bool.false_eq_true, if_true, if_false, not_false_eq_true, ite_true, ite_false, and_self])
      try dsimp only [dI2]
      have hrI : itemsD S2 (cel rm) = some [.int (g1 : Nat)] := lstC_of hr2
      have add : ∀ (p : PyData) (S3 : Sto) (gx : Nat), MvP n k rm S S3 → S3 rm = some (.lst [.int (gx : Nat)]) → S3 c = some (.lst ps) → DrO (PyData.eqv (.str l) (.str (sx ""))) d p → (goesD [p]).length + gx ≤ g1 →
          ps.length < 1000000 ∧ i + 1 ≤ j.toNat ∧ ∃ (qs : List PyData) (g1 : Nat) (y7 y8 : Option PyData), MvP n k rm S (put S3 c (.lst (ps ++ [p]))) ∧ put S3 c (.lst (ps ++ [p])) rm = some (.lst [.int (g1 : Nat)]) ∧ put S3 c (.lst (ps ++ [p])) c = some (.lst qs) ∧ (∀ p ∈ qs, DrO (PyData.eqv (.str l) (.str (sx ""))) d p) ∧ qs.length ≤ i + 1 ∧ (goesD qs).length + g1 ≤ g ∧ [some (cel n), some (strL ms), some (strL ns), some (.str l), some (.int (d : Nat)), some (cel rm), some (cel c), some (.int (0 + (i : Nat) * 1)), some (.int s2)] = [some (cel n), some (strL ms), some (strL ns), some (.str l), some (.int (d : Nat)), some (cel rm), some (cel c), y7, y8] := by
        intro p S3 gx m3 r3 c3 hp hx
        refine ⟨by omega, hi2, ps ++ [p], gx, _, _, ⟨?_, fun jj cc hj x y z => ?_⟩, ?_, put_same, fun y hy => ?_, by rw [List.length_append]; exact Nat.add_le_add_right hl 1, ?_, rfl⟩
        · obtain ⟨cs, b, w1, w2, w3⟩ := m3.D.ex
          exact ⟨cs, b, by rw [put_ne (Ne.symm cn)]; exact w1, by rw [put_ne (Ne.symm ck)]; exact w2, w3⟩
        · have jc : jj ≠ c := fun z => by rw [z, hc] at hj; cases hj
          rw [put_ne jc]
          exact m3.kp _ _ hj x y z
        · rw [put_ne (Ne.symm cr)]
          exact r3
        · rcases List.mem_append.mp hy with h | h
          · exact hps y h
          · rw [List.mem_singleton.mp h]
            exact hp
        · rw [goes_app, List.length_append]
          omega
      have say : ∀ (S3 : Sto) (x : Str), x ∈ [sx "", sx "s", sx "x 1"] → MvD n k S2 S3 → wh (lstC S3 c) fun es => es.length < 1000000 ∧ i + 1 ≤ j.toNat ∧ ∃ (qs : List PyData) (g1 : Nat) (y7 y8 : Option PyData), MvP n k rm S (put S3 c (.lst (es ++ [.tuple [.str (sx "say"), .str x]]))) ∧ put S3 c (.lst (es ++ [.tuple [.str (sx "say"), .str x]])) rm = some (.lst [.int (g1 : Nat)]) ∧ put S3 c (.lst (es ++ [.tuple [.str (sx "say"), .str x]])) c = some (.lst qs) ∧ (∀ p ∈ qs, DrO (PyData.eqv (.str l) (.str (sx ""))) d p) ∧ qs.length ≤ i + 1 ∧ (goesD qs).length + g1 ≤ g ∧ [some (cel n), some (strL ms), some (strL ns), some (.str l), some (.int (d : Nat)), some (cel rm), some (cel c), some (.int (0 + (i : Nat) * 1)), some (.int s2)] = [some (cel n), some (strL ms), some (strL ns), some (.str l), some (.int (d : Nat)), some (cel rm), some (cel c), y7, y8] := by
        intro S3 x hx mv3
        have c3 := mv3.kp _ _ hc2 cn ck
        have r3 := mv3.kp _ _ hr2 r1 r2
        refine wh_mk (lstC_of c3) (add _ S3 g1 (m2.mv mv3) r3 c3 ?_ ?_)
        · have hx2 : textD (.str x) = true ∧ x.length ≤ 8 ∧ (∀ ch ∈ x.cps.toList, ch < 128) := by
            have all : ∀ x ∈ [sx "", sx "s", sx "x 1"], textD (.str x) = true ∧ x.length ≤ 8 ∧ (∀ ch ∈ x.cps.toList, ch < 128) := by decide +kernel
            exact all x hx
          refine drO_leaf ?_ ⟨by decide +kernel, by decide +kernel⟩ ⟨hx2.2.1, hx2.2.2⟩
          rw [deep_two, if_pos (by decide +kernel)]
          exact hx2.1
        · have e : (goesD [.tuple [.str (sx "say"), .str x]]).length = 0 := by
            rw [goes_leaf (by decide +kernel) (by decide +kernel)]
            rfl
          omega
      have jj0 : decide ((0 : Int) < (d : Nat)) = decide (0 < d) := decide_eq_decide.mpr (by omega)
      rw [jj0]
      by_cases hs2 : s2 < 2
      · refine iteY (decide_eq_true hs2) ?_
        by_cases hd0 : 0 < d
        · obtain ⟨d, rfl⟩ : ∃ d', d = d' + 1 := ⟨d - 1, by omega⟩
          refine iteY (decide_eq_true hd0) ⟨⟨_, hc2⟩, n, k, _, rfl, m2.D, .inl ⟨_, rfl, by rw [List.length_map]; exact ln0, by rw [List.length_map]; omega, fun dd S3 hd3 mv3 => ?_⟩⟩
          obtain ⟨x, hx, rfl⟩ := List.mem_map.mp hd3
          have c3 := mv3.kp _ _ hc2 cn ck
          have r3 := mv3.kp _ _ hr2 r1 r2
          have m3 := m2.mv mv3
          refine ⟨n, k, rm, d, g1, ms, ns, l, by rw [show (((d + 1 : Nat) : Int) - 1) = ((d : Nat) : Int) by omega], by omega, m3.D, r1, r2, r3, by omega, hms, lm0, lm1, hns, ln0, ln1, fun qs g2 S4 hq hg2 mv4 r4 => ?_⟩
          have c4 := mv4.kp _ _ c3 cn ck cr
          refine wh_mk (lstC_of c4) (add _ S4 g2 (m3.trans mv4) r4 c4 (drO_node (hns x hx) hq) ?_)
          rw [goes_node (by decide +kernel)]
          exact hg2
        · refine iteN (by rw [decide_eq_false hd0]; decide) ?_
          refine ⟨eqOk_int _ _, ?_⟩
          rw [eqv_intD]
          by_cases h2 : s2 = 2
          · refine iteY (decide_eq_true h2) ⟨⟨_, hc2⟩, n, k, _, rfl, m2.D, .inl ⟨_, rfl, by decide, by decide, fun dd S3 hd3 mv3 => ?_⟩⟩
            obtain ⟨x, hx, rfl⟩ : ∃ x ∈ [sx "", sx "s", sx "x 1"], dd = PyData.str x := by
              have hd' : dd ∈ [sx "", sx "s", sx "x 1"].map PyData.str := hd3
              obtain ⟨x, h1, h2⟩ := List.mem_map.mp hd'
              exact ⟨x, h1, h2.symm⟩
            exact say S3 x hx mv3
          refine iteN (by rw [decide_eq_false h2]; decide) ?_
          refine wh_mk hrI (wh_mk (atI_nat (j := 0) rfl) ⟨eqOk_int _ _, ?_⟩)
          rw [eqv_intD]
          by_cases hg0 : g1 = 0
          · refine iteY (decide_eq_true (by omega)) ⟨⟨_, hc2⟩, n, k, _, rfl, m2.D, .inl ⟨_, rfl, by decide, by decide, fun dd S3 hd3 mv3 => ?_⟩⟩
            obtain ⟨x, hx, rfl⟩ : ∃ x ∈ [sx "", sx "s", sx "x 1"], dd = PyData.str x := by
              have hd' : dd ∈ [sx "", sx "s", sx "x 1"].map PyData.str := hd3
              obtain ⟨x, h1, h2⟩ := List.mem_map.mp hd'
              exact ⟨x, h1, h2.symm⟩
            exact say S3 x hx mv3
          refine iteN (by rw [decide_eq_false (by omega)]; decide) ⟨eqOk_str _ _, ?_⟩
          cases he : PyData.eqv (.str l) (.str (Str.ofString "")) with
          | true =>
            rw [show PyData.eqv (.str l) (.str (sx "")) = true from he] at add
            refine iteY rfl ⟨⟨_, hc2⟩, wh_mk (lstC_of hc2) (add (.tuple [.str (sx "keep")]) S2 g1 m2 hr2 hc2 ?_ ?_)⟩
            · exact drO_keep
            · have e : (goesD [.tuple [.str (sx "keep")]]).length = 0 := by decide +kernel
              omega
          | false =>
            refine iteN (by decide) (wh_mk hrI (wh_mk (atI_nat (j := 0) rfl) ?_))
            rw [show dSub (PyData.int (g1 : Nat)) (PyData.int 1) = fun S Q => Q (.int (((g1 : Nat) : Int) - 1)) S from rfl]
            (dsimp only [dgSub, dTryAsX, dRetX, dDropX, dSetX, dAsgX, dFnX, dRaise, dTryAs, dTryOnly, dXf, dIsX, dPar3, dFnR, List.reverse_cons, List.reverse_nil, dDelT, mPop0, mPop, mApp, mExt, dFld, dNew, dDGet, dDIn, dZipT, dAll, dTupF, dIdx, dTupRg, dDc, dReprT, dEqT, dNeT, dFor, dLc, dWhile, dRange1, dRange2, dRange3, dEnumT, e_isB, e_tupD, dgUnl, dSeq, dIfS, dSet, dAsg, dRet, dRetN, dDrop, dNext, dPar, dVar, dC, dOp, dB, dTru, dtNot, dtAnd, dtOr, dAnd, dOr, dNot, dIfE, dNeg, dNil, dCons, dTup, dLst, dCel, dNoP, dPart, dSlice, dRevT, dRevL, dCall, on1, dTupOf, dLstOf, dCelOf, dIsi, dName, dgNil, dgCons, dgTup, dFn, dMet, dMet0, gt, st, startD, wh_some, dYes, dEq, dNe, List.map, List.length, List.replicate, List.append, List.cons_append, List.nil_append, dWalk, uns, un, tupNms, dNms, ifT, ifF, List.replicate_succ, List.replicate_zero, Nat.sub_self, Nat.reduceSub, Nat.reduceAdd, Nat.zero_add, Bool.not_true, Bool.not_false, e_addI, e_addS, e_addT, e_addL, e_i2, e_i2c, e_is, e_bool, e_cel, e_strD, e_lenS, e_lenT, e_lenL, e_lenC, e_ixS, e_ixT, e_ixL, e_ixC, e_slS, e_slT, e_slL, e_slC, e_itT, e_itL, e_truN, e_truI, e_truB, e_truL, e_truT, e_okN, e_okB, e_okI, e_okS, e_okL, e_okT, e_okC, e_tupN, e_tupB, e_tupI, e_tupS, e_tupL, e_tupT, e_tupC, e_strN, e_strB, e_strI, e_strS, e_strL, e_strT, e_strC, e_intN, e_intB, e_intI, e_intS, e_intL, e_intT, e_intC, e_boolN, e_boolB, e_boolI, e_boolS, e_boolL, e_boolT, e_boolC, e_lstN, e_lstB, e_lstI, e_lstS, e_lstL, e_lstT, e_lstC, e_nonN, e_nonB, e_nonI, e_nonS, e_nonL, e_nonT, e_wkS, e_wkL, e_wkT, e_wkC, e_join, e_inS, e_ninS, e_ofI, e_ofB, e_abs, e_lenF, e_ixF, e_itF, e_wkF, e_tfF, e_truF, e_repT, e_keyI, e_keyS]; try simp only [true_and, and_true, Nat.reduceLeDiff, reduceIte, reduceCtorEq, Bool.false_eq_true, if_true, if_false, not_false_eq_true, ite_true, ite_false, and_self])
            rw [show PyData.eqv (.str l) (.str (sx "")) = false from he] at add
            have ei : [PyData.int (g1 : Nat)].set 0 (.int (((g1 : Nat) : Int) - 1)) = [.int ((g1 - 1 : Nat) : Int)] := by
              show [PyData.int (((g1 : Nat) : Int) - 1)] = _
              rw [show ((g1 : Nat) : Int) - 1 = ((g1 - 1 : Nat) : Int) by omega]
            have mR : MvP n k rm S (put S2 rm (.lst [.int ((g1 - 1 : Nat) : Int)])) := by
              refine ⟨?_, fun jj cc hj x y z => by rw [put_ne z]; exact m2.kp _ _ hj x y z⟩
              obtain ⟨cs, b, w1, w2, w3⟩ := m2.D.ex
              exact ⟨cs, b, by rw [put_ne (Ne.symm r1)]; exact w1, by rw [put_ne (Ne.symm r2)]; exact w2, w3⟩
            have cR : put S2 rm (.lst [.int ((g1 - 1 : Nat) : Int)]) c = some (.lst ps) := by rw [put_ne cr]; exact hc2
            refine wh_mk (lstC_of hr2) (wh_mk (show ixN 1 0 = some 0 from rfl) ?_)
            rw [ei]
            refine ⟨⟨_, cR⟩, n, k, _, rfl, mR.D, .inl ⟨_, rfl, by rw [List.length_map]; exact lm0, by rw [List.length_map]; omega, fun dd S3 hd3 mv3 => ?_⟩⟩
            obtain ⟨x, hx, rfl⟩ := List.mem_map.mp hd3
            have c3 := mv3.kp _ _ cR cn ck
            have r3 := mv3.kp _ _ put_same r1 r2
            refine wh_mk (lstC_of c3) (add (.tuple [.str (sx "go"), .str x]) S3 (g1 - 1) (mR.mv mv3) r3 c3 (drO_leaf ?_ ⟨by decide +kernel, by decide +kernel⟩ (name_plain (hms x hx))) ?_)
            · rw [deep_two, if_neg (by decide +kernel), if_pos (by decide +kernel), hms x hx]
              rfl
            · have e : goesD [.tuple [.str (sx "go"), .str x]] = [.str x] := rfl
              rw [e]
              show 1 + (g1 - 1) ≤ g1
              omega
      · refine iteN (by rw [decide_eq_false hs2]; decide) ?_
        refine ⟨eqOk_int _ _, ?_⟩
        rw [eqv_intD]
        by_cases h2 : s2 = 2
        · refine iteY (decide_eq_true h2) ⟨⟨_, hc2⟩, n, k, _, rfl, m2.D, .inl ⟨_, rfl, by decide, by decide, fun dd S3 hd3 mv3 => ?_⟩⟩
          obtain ⟨x, hx, rfl⟩ : ∃ x ∈ [sx "", sx "s", sx "x 1"], dd = PyData.str x := by
            have hd' : dd ∈ [sx "", sx "s", sx "x 1"].map PyData.str := hd3
            obtain ⟨x, h1, h2⟩ := List.mem_map.mp hd'
            exact ⟨x, h1, h2.symm⟩
          exact say S3 x hx mv3
        refine iteN (by rw [decide_eq_false h2]; decide) ?_
        refine wh_mk hrI (wh_mk (atI_nat (j := 0) rfl) ⟨eqOk_int _ _, ?_⟩)
        rw [eqv_intD]
        by_cases hg0 : g1 = 0
        · refine iteY (decide_eq_true (by omega)) ⟨⟨_, hc2⟩, n, k, _, rfl, m2.D, .inl ⟨_, rfl, by decide, by decide, fun dd S3 hd3 mv3 => ?_⟩⟩
          obtain ⟨x, hx, rfl⟩ : ∃ x ∈ [sx "", sx "s", sx "x 1"], dd = PyData.str x := by
            have hd' : dd ∈ [sx "", sx "s", sx "x 1"].map PyData.str := hd3
            obtain ⟨x, h1, h2⟩ := List.mem_map.mp hd'
            exact ⟨x, h1, h2.symm⟩
          exact say S3 x hx mv3
        refine iteN (by rw [decide_eq_false (by omega)]; decide) ⟨eqOk_str _ _, ?_⟩
        cases he : PyData.eqv (.str l) (.str (Str.ofString "")) with
        | true =>
          rw [show PyData.eqv (.str l) (.str (sx "")) = true from he] at add
          refine iteY rfl ⟨⟨_, hc2⟩, wh_mk (lstC_of hc2) (add (.tuple [.str (sx "keep")]) S2 g1 m2 hr2 hc2 ?_ ?_)⟩
          · exact drO_keep
          · have e : (goesD [.tuple [.str (sx "keep")]]).length = 0 := by decide +kernel
            omega
        | false =>
          refine iteN (by decide) (wh_mk hrI (wh_mk (atI_nat (j := 0) rfl) ?_))
          rw [show dSub (PyData.int (g1 : Nat)) (PyData.int 1) = fun S Q => Q (.int (((g1 : Nat) : Int) - 1)) S from rfl]
          (dsimp only [dgSub, dTryAsX, dRetX, dDropX, dSetX, dAsgX, dFnX, dRaise, dTryAs, dTryOnly, dXf, dIsX, dPar3, dFnR, List.reverse_cons, List.reverse_nil, dDelT, mPop0, mPop, mApp, mExt, dFld, dNew, dDGet, dDIn, dZipT, dAll, dTupF, dIdx, dTupRg, dDc, dReprT, dEqT, dNeT, dFor, dLc, dWhile, dRange1, dRange2, dRange3, dEnumT, e_isB, e_tupD, dgUnl, dSeq, dIfS, dSet, dAsg, dRet, dRetN, dDrop, dNext, dPar, dVar, dC, dOp, dB, dTru, dtNot, dtAnd, dtOr, dAnd, dOr, dNot, dIfE, dNeg, dNil, dCons, dTup, dLst, dCel, dNoP, dPart, dSlice, dRevT, dRevL, dCall, on1, dTupOf, dLstOf, dCelOf, dIsi, dName, dgNil, dgCons, dgTup, dFn, dMet, dMet0, gt, st, startD, wh_some, dYes, dEq, dNe, List.map, List.length, List.replicate, List.append, List.cons_append, List.nil_append, dWalk, uns, un, tupNms, dNms, ifT, ifF, List.replicate_succ, List.replicate_zero, Nat.sub_self, Nat.reduceSub, Nat.reduceAdd, Nat.zero_add, Bool.not_true, Bool.not_false, e_addI, e_addS, e_addT, e_addL, e_i2, e_i2c, e_is, e_bool, e_cel, e_strD, e_lenS, e_lenT, e_lenL, e_lenC, e_ixS, e_ixT, e_ixL, e_ixC, e_slS, e_slT, e_slL, e_slC, e_itT, e_itL, e_truN, e_truI, e_truB, e_truL, e_truT, e_okN, e_okB, e_okI, e_okS, e_okL, e_okT, e_okC, e_tupN, e_tupB, e_tupI, e_tupS, e_tupL, e_tupT, e_tupC, e_strN, e_strB, e_strI, e_strS, e_strL, e_strT, e_strC, e_intN, e_intB, e_intI, e_intS, e_intL, e_intT, e_intC, e_boolN, e_boolB, e_boolI, e_boolS, e_boolL, e_boolT, e_boolC, e_lstN, e_lstB, e_lstI, e_lstS, e_lstL, e_lstT, e_lstC, e_nonN, e_nonB, e_nonI, e_nonS, e_nonL, e_nonT, e_wkS, e_wkL, e_wkT, e_wkC, e_join, e_inS, e_ninS, e_ofI, e_ofB, e_abs, e_lenF, e_ixF, e_itF, e_wkF, e_tfF, e_truF, e_repT, e_keyI, e_keyS]; try simp only [true_and, and_true, Nat.reduceLeDiff, reduceIte, reduceCtorEq, Bool.false_eq_true, if_true, if_false, not_false_eq_true, ite_true, ite_false, and_self])
          rw [show PyData.eqv (.str l) (.str (sx "")) = false from he] at add
          have ei : [PyData.int (g1 : Nat)].set 0 (.int (((g1 : Nat) : Int) - 1)) = [.int ((g1 - 1 : Nat) : Int)] := by
            show [PyData.int (((g1 : Nat) : Int) - 1)] = _
            rw [show ((g1 : Nat) : Int) - 1 = ((g1 - 1 : Nat) : Int) by omega]
          have mR : MvP n k rm S (put S2 rm (.lst [.int ((g1 - 1 : Nat) : Int)])) := by
            refine ⟨?_, fun jj cc hj x y z => by rw [put_ne z]; exact m2.kp _ _ hj x y z⟩
            obtain ⟨cs, b, w1, w2, w3⟩ := m2.D.ex
            exact ⟨cs, b, by rw [put_ne (Ne.symm r1)]; exact w1, by rw [put_ne (Ne.symm r2)]; exact w2, w3⟩
          have cR : put S2 rm (.lst [.int ((g1 - 1 : Nat) : Int)]) c = some (.lst ps) := by rw [put_ne cr]; exact hc2
          refine wh_mk (lstC_of hr2) (wh_mk (show ixN 1 0 = some 0 from rfl) ?_)
          rw [ei]
          refine ⟨⟨_, cR⟩, n, k, _, rfl, mR.D, .inl ⟨_, rfl, by rw [List.length_map]; exact lm0, by rw [List.length_map]; omega, fun dd S3 hd3 mv3 => ?_⟩⟩
          obtain ⟨x, hx, rfl⟩ := List.mem_map.mp hd3
          have c3 := mv3.kp _ _ cR cn ck
          have r3 := mv3.kp _ _ put_same r1 r2
          refine wh_mk (lstC_of c3) (add (.tuple [.str (sx "go"), .str x]) S3 (g1 - 1) (mR.mv mv3) r3 c3 (drO_leaf ?_ ⟨by decide +kernel, by decide +kernel⟩ (name_plain (hms x hx))) ?_)
          · rw [deep_two, if_neg (by decide +kernel), if_pos (by decide +kernel), hms x hx]
            rfl
          · have e : goesD [.tuple [.str (sx "go"), .str x]] = [.str x] := rfl
            rw [e]
            show 1 + (g1 - 1) ≤ g1
            omega
    · rintro ρ S1 ⟨hi, ps, g1, y7, y8, m1, s1, h1, hps, hl, hgo, rfl⟩
      rw [rangeD_len] at hl
      try (dsimp only [dTryAsX, dRetX, dDropX, dSetX, dAsgX, dFnX, dRaise, dTryAs, dTryOnly, dXf, dIsX, dPar3, dFnR, List.reverse_cons, List.reverse_nil, dDelT, mPop0, mPop, mApp, mExt, dFld, dNew, dDGet, dDIn, dZipT, dAll, dTupF, dIdx, dTupRg, dDc, dReprT, dEqT, dNeT, dFor, dLc, dWhile, dRange1, dRange2, dRange3, dEnumT, e_isB, e_tupD, dgUnl, dSeq, dIfS, dSet, dAsg, dRet, dRetN, dDrop, dNext, dPar, dVar, dC, dOp, dB, dTru, dtNot, dtAnd, dtOr, dAnd, dOr, dNot, dIfE, dNeg, dNil, dCons, dTup, dLst, dCel, dNoP, dPart, dSlice, dRevT, dRevL, dCall, on1, dTupOf, dLstOf, dCelOf, dIsi, dName, dgNil, dgCons, dgTup, dFn, dMet, dMet0, gt, st, startD, wh_some, dYes, dEq, dNe, List.map, List.length, List.replicate, List.append, List.cons_append, List.nil_append, dWalk, uns, un, tupNms, dNms, ifT, ifF, List.replicate_succ, List.replicate_zero, Nat.sub_self, Nat.reduceSub, Nat.reduceAdd, Nat.zero_add, Bool.not_true, Bool.not_false, e_addI, e_addS, e_addT, e_addL, e_i2, e_i2c, e_is, e_bool, e_cel, e_strD, e_lenS, e_lenT, e_lenL, e_lenC, e_ixS, e_ixT, e_ixL, e_ixC, e_slS, e_slT, e_slL, e_slC, e_itT, e_itL, e_truN, e_truI, e_truB, e_truL, e_truT, e_okN, e_okB, e_okI, e_okS, e_okL, e_okT, e_okC, e_tupN, e_tupB, e_tupI, e_tupS, e_tupL, e_tupT, e_tupC, e_strN, e_strB, e_strI, e_strS, e_strL, e_strT, e_strC, e_intN, e_intB, e_intI, e_intS, e_intL, e_intT, e_intC, e_boolN, e_boolB, e_boolI, e_boolS, e_boolL, e_boolT, e_boolC, e_lstN, e_lstB, e_lstI, e_lstS, e_lstL, e_lstT, e_lstC, e_nonN, e_nonB, e_nonI, e_nonS, e_nonL, e_nonT, e_wkS, e_wkL, e_wkT, e_wkC, e_join, e_inS, e_ninS, e_ofI, e_ofB, e_abs, e_lenF, e_ixF, e_itF, e_wkF, e_tfF, e_truF, e_repT, e_keyI, e_keyS]; try simp only [true_and, and_true, Nat.reduceLeDiff, reduceIte, reduceCtorEq, Bool.false_eq_true, if_true, if_false, not_false_eq_true, ite_true, ite_false, and_self])
      refine wh_mk (lstC_of h1) (q ps g1 S1 (drP_of hps ?_) hgo m1 s1)
      omega
end
end K3

/-! turnings, drawn -/
namespace K3
open PySem L2 Xr K1 Exv
abbrev sLTur : Stmt := top 32
theorem scLTur : FnScope ["deal", "names", "most", "goes", "deep", "modes", "rules", "mode", "letter"] ["deal", "names", "most", "goes", "deep"] (defScope sLTur) := ⟨rfl, rfl, rfl, by decide +kernel, rfl, by decide +kernel, by decide +kernel⟩
def keyP : PyData → Str × Str
  | .tuple (.str a :: .str b :: _) => (a, b)
  | _ => (sx "", sx "")
def keysL (rs : List PyData) : List (Str × Str) := rs.map keyP
def prodK (ms ls : List Str) : List (Str × Str) := ms.flatMap fun m => ls.map fun l => (m, l)
def ltK (p q : Str × Str) : Bool := PySem.W.dataLt (.tuple [.str p.1, .str p.2]) (.tuple [.str q.1, .str q.2])
/-- a rule, drawn -/
def DrR (d g : Nat) (ms ls : List Str) (r : PyData) : Prop := ∃ (mo le : Str) (ps : List PyData), r = .tuple [.str mo, .str le, .tuple ps] ∧ mo ∈ ms ∧ le ∈ ls ∧ DrP (PyData.eqv (.str le) (.str (sx ""))) d ps ∧ (goesD ps).length ≤ g
/-- a turning, drawn -/
structure Tur (d g : Nat) (ms ns : List Str) (rs : List PyData) : Prop where
  nm : ns ∈ menuN
  mm : ∃ M ∈ menuM, ∃ j, 1 ≤ j ∧ j ≤ 3 ∧ ms = M.take j
  dr : ∀ r ∈ rs, DrR d g ms (sx "" :: ns) r
  sb : (keysL rs).Sublist (prodK ms (sx "" :: ns))
def spLTur : SpD := fun ds S Q _ => ∃ (n k most g d : Nat) (ns : List Str), ds = [cel n, strL ns, .int (most : Nat), .int (g : Nat), .int (d : Nat)] ∧ DealD S n k ∧ 1 ≤ most ∧ most ≤ 3 ∧ g ≤ 1000 ∧ d < 3 ∧ ns ∈ menuN ∧
  ∀ ms m rs S', Tur d g ms ns rs → m ∈ ms → MvD n k S S' → Q (.tuple [.tuple rs, .str m]) S'
theorem lt_all : ∀ M ∈ menuM, ∀ N ∈ menuN, (prodK M (sx "" :: N)).Pairwise fun p q => ltK p q = true ∧ p ≠ q := by decide +kernel
theorem menu_names : ∀ N ∈ menuN, (∀ x ∈ N, nameD (.str x) = true) ∧ N.length ≤ 3 ∧ 0 < N.length := by decide +kernel
theorem menu_modes : ∀ N ∈ menuM, (∀ x ∈ N, nameD (.str x) = true) ∧ N.length = 3 := by decide +kernel
theorem cutL_preV {l : List PyData} {i : Nat} (h : i ≤ l.length) : cutD l none (some ((i : Nat) : Int)) = l.take i := by
  unfold cutD
  rw [HT.sIx_nat, HT.sIx_none, Nat.min_eq_left h]
  rfl
structure VlTxt (K : PySem.W.Frag) (mg : Str → Option Value) (a_law_any a_law_of a_law_parts : Addr) : Prop where
  n_tuple : mg "tuple" = none
  g_law_any : mg "_law_any" = some (.ref a_law_any)
  k_law_any : PySem.W.keepIn K (.ref a_law_any) = true
  g_law_of : mg "_law_of" = some (.ref a_law_of)
  k_law_of : PySem.W.keepIn K (.ref a_law_of) = true
  g_law_parts : mg "_law_parts" = some (.ref a_law_parts)
  k_law_parts : PySem.W.keepIn K (.ref a_law_parts) = true
section
variable {P : Program} {w : World} {K : PySem.W.Frag} {mg : Str → Option Value} {base : Heap} {a_law_any a_law_of a_law_parts : Addr} {d1 d2 d3 : FuncData}
theorem ok_ltur {f : Addr} {fd : FuncData} (F : Fun K "_law_turning" "_law_turning" sLTur f fd) (T : VlTxt K mg a_law_any a_law_of a_law_parts)
    (G_law_any : FnOk P w K mg base CX0 1 a_law_any d1 ["deal", "bound"] (spD K spAnyD)) (b_law_any : Binds K d1 ["deal", "bound"] [])
    (G_law_of : FnOk P w K mg base CX0 2 a_law_of d2 ["deal", "some"] (spD K spOfD)) (b_law_of : Binds K d2 ["deal", "some"] [])
    (G_law_parts : FnOk P w K mg base CX0 (3 + 3) a_law_parts d3 ["deal", "modes", "names", "letter", "deep", "room"] (spD K (spLPts 3))) (b_law_parts : Binds K d3 ["deal", "modes", "names", "letter", "deep", "room"] []) : FnOk P w K mg base CX0 7 f fd ["deal", "names", "most", "goes", "deep"] (spD K spLTur) := by
  refine dok F scLTur (fun ds S Q E h => ?_) fun cdv A outer s H Q E (hr : Room 6 _) => ⟨_, (qss_cons (qs_set (i := 5) scLTur.nd rfl (Or.inl rfl) (q_sl false (q_call hr G_law_of T.g_law_of T.k_law_of b_law_of (by rfl) (by omega) (q_cons (q_var (pv 0)) (q_cons (q_lst (q_cons (q_lst (q_cons q_str (q_cons q_str (q_cons q_str q_nil)))) (q_cons (q_lst (q_cons q_str (q_cons q_str (q_cons q_str q_nil)))) (q_cons (q_lst (q_cons q_str (q_cons q_str (q_cons q_str q_nil)))) q_nil)))) q_nil))) qo_none (qo_some (q_add q_int (q_call hr G_law_any T.g_law_any T.k_law_any b_law_any (by rfl) (by omega) (q_cons (q_var (pv 0)) (q_cons (q_var (pv 2)) q_nil)))))))
      (qss_cons (qs_set (i := 6) scLTur.nd rfl (Or.inl rfl) (q_cel q_nil))
      (qss_cons (qs_for PassesOwn.never rfl (qi_any (q_var (pv 5))) (qg_name (pg_name (i := 7) scLTur.nd rfl (Or.inl rfl)))
      (qss_one (qs_for PassesOwn.never rfl (qi_any (q_add (q_lst (q_cons q_str q_nil)) (q_var (pv 1)))) (qg_name (pg_name (i := 8) scLTur.nd rfl (Or.inl rfl)))
      (qss_one (qs_if (qt_cmp op_gt snd_lt (q_call hr G_law_any T.g_law_any T.k_law_any b_law_any (by rfl) (by omega) (q_cons (q_var (pv 0)) (q_cons q_int q_nil))) q_int (nomark _))
      (qss_one (qs_expr (q_append (q_var (pv 6)) (q_cons (q_tup (q_cons (q_var (pv 7)) (q_cons (q_var (pv 8)) (q_cons (q_call hr G_law_parts T.g_law_parts T.k_law_parts b_law_parts (by rfl) (by omega) (q_cons (q_var (pv 0)) (q_cons (q_var (pv 5)) (q_cons (q_add (q_var (pv 1)) (q_lst (q_cons q_str q_nil))) (q_cons (q_var (pv 8)) (q_cons (q_var (pv 4)) (q_cons (q_cel (q_cons (q_var (pv 3)) q_nil)) q_nil))))))) q_nil)))) q_nil))))
      qss_nil)))))
      (qss_one (qs_ret (q_tup (q_cons (q_tuple T.n_tuple (by rfl) (q_cons (q_var (pv 6)) q_nil)) (q_cons (q_call hr G_law_of T.g_law_of T.k_law_of b_law_of (by rfl) (by omega) (q_cons (q_var (pv 0)) (q_cons (q_var (pv 5)) q_nil))) q_nil)))))))), fun ds S Qd Er h => ?_⟩
  · obtain ⟨n, k, most, g, d, ns, rfl, _⟩ := h
    rfl
  · obtain ⟨n, k, most, g, d, ns, rfl, D, hm0, hm1, hg, hd, hns, q⟩ := h
    (dsimp only [dTryAsX, dRetX, dDropX, dSetX, dAsgX, dFnX, dRaise, dTryAs, dTryOnly, dXf, dIsX, dPar3, dFnR, List.reverse_cons, List.reverse_nil, dDelT, mPop0, mPop, mApp, mExt, dFld, dNew, dDGet, dDIn, dZipT, dAll, dTupF, dIdx, dTupRg, dDc, dReprT, dEqT, dNeT, dFor, dLc, dWhile, dRange1, dRange2, dRange3, dEnumT, e_isB, e_tupD, dgUnl, dSeq, dIfS, dSet, dAsg, dRet, dRetN, dDrop, dNext, dPar, dVar, dC, dOp, dB, dTru, dtNot, dtAnd, dtOr, dAnd, dOr, dNot, dIfE, dNeg, dNil, dCons, dTup, dLst, dCel, dNoP, dPart, dSlice, dRevT, dRevL, dCall, on1, dTupOf, dLstOf, dCelOf, dIsi, dName, dgNil, dgCons, dgTup, dFn, dMet, dMet0, gt, st, startD, wh_some, dYes, dEq, dNe, List.map, List.length, List.replicate, List.append, List.cons_append, List.nil_append, dWalk, uns, un, tupNms, dNms, ifT, ifF, List.replicate_succ, List.replicate_zero, Nat.sub_self, Nat.reduceSub, Nat.reduceAdd, Nat.zero_add, Bool.not_true, Bool.not_false, e_addI, e_addS, e_addT, e_addL, e_i2, e_i2c, e_is, e_bool, e_cel, e_strD, e_lenS, e_lenT, e_lenL, e_lenC, e_ixS, e_ixT, e_ixL, e_ixC, e_slS, e_slT, e_slL, e_slC, e_itT, e_itL, e_truN, e_truI, e_truB, e_truL, e_truT, e_okN, e_okB, e_okI, e_okS, e_okL, e_okT, e_okC, e_tupN, e_tupB, e_tupI, e_tupS, e_tupL, e_tupT, e_tupC, e_strN, e_strB, e_strI, e_strS, e_strL, e_strT, e_strC, e_intN, e_intB, e_intI, e_intS, e_intL, e_intT, e_intC, e_boolN, e_boolB, e_boolI, e_boolS, e_boolL, e_boolT, e_boolC, e_lstN, e_lstB, e_lstI, e_lstS, e_lstL, e_lstT, e_lstC, e_nonN, e_nonB, e_nonI, e_nonS, e_nonL, e_nonT, e_wkS, e_wkL, e_wkT, e_wkC, e_join, e_inS, e_ninS, e_ofI, e_ofB, e_abs, e_lenF, e_ixF, e_itF, e_wkF, e_tfF, e_truF, e_repT, e_keyI, e_keyS]; try simp only [true_and, and_true, Nat.reduceLeDiff, reduceIte, reduceCtorEq, Bool.false_eq_true, if_true, if_false, not_false_eq_true, ite_true, ite_false, and_self])
    refine ⟨n, k, _, rfl, D, .inl ⟨_, rfl, by decide, by decide, fun dM S1 hdM mv1 => ?_⟩⟩
    obtain ⟨M, hM, rfl⟩ : ∃ M ∈ menuM, dM = strL M := by
      have hd' : dM ∈ menuM.map strL := hdM
      obtain ⟨ns, h1, h2⟩ := List.mem_map.mp hd'
      exact ⟨ns, h1, h2.symm⟩
    have lM := (menu_modes M hM).2
    refine ⟨n, k, _, rfl, mv1.D, by omega, by omega, fun r S2 r0 r1 mv2 => ?_⟩
    dsimp only
    rw [e_addI]
    dsimp only
    obtain ⟨j, rfl⟩ : ∃ j : Nat, r = j := ⟨r.toNat, by omega⟩
    show dSl false (PyData.list (M.map PyData.str)) none (some (1 + (j : Nat))) S2 _
    rw [e_slL, show (1 : Int) + (j : Nat) = ((j + 1 : Nat) : Int) by omega, cutL_preV (by rw [List.length_map]; omega), ← List.map_take]
    generalize hms : M.take (j + 1) = ms
    have tm : ∃ M ∈ menuM, ∃ j, 1 ≤ j ∧ j ≤ 3 ∧ ms = M.take j := ⟨M, hM, j + 1, by omega, by omega, hms.symm⟩
    have lms : ms.length = j + 1 := by rw [← hms, List.length_take]; omega
    have nms : ∀ x ∈ ms, nameD (.str x) = true := fun x hx => (menu_modes M hM).1 x (List.mem_of_mem_take (by rw [hms]; exact hx))
    obtain ⟨nns, lns, pns⟩ := menu_names ns hns
    intro c hc
    have mvS : MvD n k S S2 := mv1.trans mv2
    have cS : S c = none := by
      cases e : S c with
      | none => rfl
      | some cc =>
        exfalso
        obtain ⟨cs, b, w1, w2, _⟩ := D.ex
        obtain ⟨cs', b', w1', w2', _⟩ := mvS.D.ex
        by_cases z1 : c = n
        · rw [z1, w1'] at hc; cases hc
        · by_cases z2 : c = k
          · rw [z2, w2'] at hc; cases hc
          · rw [mvS.kp _ _ e z1 z2] at hc; cases hc
    obtain ⟨cs, b, hN, hK, _⟩ := mvS.D.ex
    have cn : c ≠ n := fun z => by rw [z, hN] at hc; cases hc
    have ck : c ≠ k := fun z => by rw [z, hK] at hc; cases hc
    have e0 : Ext S2 (put S2 c (.lst [])) := Ext.refl.cell hc
    have h0 : put S2 c (.lst []) c = some (.lst []) := put_same
    have m0 : MvD n k S (put S2 c (.lst [])) := mvS.ext e0
    generalize put S2 c (.lst []) = S0 at e0 h0 m0 ⊢
    let ls := sx "" :: ns
    have hw0 : walkD S0 (.list (ms.map PyData.str)) = some (ms.map PyData.str, fun _ => True) := rfl
    refine wh_mk hw0 ⟨fun i ρ S1 => i ≤ ms.length ∧ ∃ (rs : List PyData) (y7 y8 : Option PyData), MvD n k S S1 ∧ S1 c = some (.lst rs) ∧ rs.length ≤ i * ls.length ∧ (∀ r ∈ rs, DrR d g ms ls r) ∧ (keysL rs).Sublist (prodK (ms.take i) ls) ∧ ρ = [some (cel n), some (strL ns), some (.int (most : Nat)), some (.int (g : Nat)), some (.int (d : Nat)), some (strL ms), some (cel c), y7, y8], ⟨Nat.zero_le _, [], none, none, m0, h0, Nat.zero_le _, (fun p hp => by cases hp), List.Sublist.slnil, rfl⟩, fun _ _ _ _ => trivial, ?_, ?_⟩
    · rintro i o ρ S1 ho ⟨hi, rs, y7, y8, m1, h1, hl, hrs, hsb, rfl⟩
      obtain ⟨mo, hmo, rfl⟩ : ∃ mo, ms[i]? = some mo ∧ o = .str mo := by
        have ho' : (ms.map PyData.str)[i]? = some o := ho
        rw [List.getElem?_map] at ho'
        cases e : ms[i]? with
        | none => rw [e] at ho'; cases ho'
        | some z => rw [e] at ho'; cases ho'; exact ⟨z, rfl, rfl⟩
      have hi2 : i < ms.length := (List.getElem?_eq_some_iff.mp hmo).1
      have tk : ms.take (i + 1) = ms.take i ++ [mo] := by rw [List.take_succ, hmo]; rfl
      have pk : prodK (ms.take (i + 1)) ls = prodK (ms.take i) ls ++ ls.map fun l => (mo, l) := by
        rw [tk]
        unfold prodK
        rw [List.flatMap_append]
        simp
      try (dsimp only [dTryAsX, dRetX, dDropX, dSetX, dAsgX, dFnX, dRaise, dTryAs, dTryOnly, dXf, dIsX, dPar3, dFnR, List.reverse_cons, List.reverse_nil, dDelT, mPop0, mPop, mApp, mExt, dFld, dNew, dDGet, dDIn, dZipT, dAll, dTupF, dIdx, dTupRg, dDc, dReprT, dEqT, dNeT, dFor, dLc, dWhile, dRange1, dRange2, dRange3, dEnumT, e_isB, e_tupD, dgUnl, dSeq, dIfS, dSet, dAsg, dRet, dRetN, dDrop, dNext, dPar, dVar, dC, dOp, dB, dTru, dtNot, dtAnd, dtOr, dAnd, dOr, dNot, dIfE, dNeg, dNil, dCons, dTup, dLst, dCel, dNoP, dPart, dSlice, dRevT, dRevL, dCall, on1, dTupOf, dLstOf, dCelOf, dIsi, dName, dgNil, dgCons, dgTup, dFn, dMet, dMet0, gt, st, startD, wh_some, dYes, dEq, dNe, List.map, List.length, List.replicate, List.append, List.cons_append, List.nil_append, dWalk, uns, un, tupNms, dNms, ifT, ifF, List.replicate_succ, List.replicate_zero, Nat.sub_self, Nat.reduceSub, Nat.reduceAdd, Nat.zero_add, Bool.not_true, Bool.not_false, e_addI, e_addS, e_addT, e_addL, e_i2, e_i2c, e_is, e_bool, e_cel, e_strD, e_lenS, e_lenT, e_lenL, e_lenC, e_ixS, e_ixT, e_ixL, e_ixC, e_slS, e_slT, e_slL, e_slC, e_itT, e_itL, e_truN, e_truI, e_truB, e_truL, e_truT, e_okN, e_okB, e_okI, e_okS, e_okL, e_okT, e_okC, e_tupN, e_tupB, e_tupI, e_tupS, e_tupL, e_tupT, e_tupC, e_strN, e_strB, e_strI, e_strS, e_strL, e_strT, e_strC, e_intN, e_intB, e_intI, e_intS, e_intL, e_intT, e_intC, e_boolN, e_boolB, e_boolI, e_boolS, e_boolL, e_boolT, e_boolC, e_lstN, e_lstB, e_lstI, e_lstS, e_lstL, e_lstT, e_lstC, e_nonN, e_nonB, e_nonI, e_nonS, e_nonL, e_nonT, e_wkS, e_wkL, e_wkT, e_wkC, e_join, e_inS, e_ninS, e_ofI, e_ofB, e_abs, e_lenF, e_ixF, e_itF, e_wkF, e_tfF, e_truF, e_repT, e_keyI, e_keyS]; try simp only [true_and, and_true, Nat.reduceLeDiff, reduceIte, reduceCtorEq, Bool.false_eq_true, if_true, if_false, not_false_eq_true, ite_true, ite_false, and_self])
      show dAdd (PyData.list [PyData.str (Str.ofString "")]) (PyData.list (ns.map PyData.str)) S1 _
      rw [e_addL]
      refine ⟨by rw [List.length_map]; show 1 + _ ≤ _; omega, ?_⟩
      have hw1 : walkD S1 (.list ([PyData.str (Str.ofString "")] ++ ns.map PyData.str)) = some (ls.map PyData.str, fun _ => True) := rfl
      refine wh_mk hw1 ⟨fun j ρ S1 => j ≤ ls.length ∧ ∃ (rs : List PyData) (y8 : Option PyData), MvD n k S S1 ∧ S1 c = some (.lst rs) ∧ rs.length ≤ i * ls.length + j ∧ (∀ r ∈ rs, DrR d g ms ls r) ∧ (keysL rs).Sublist (prodK (ms.take i) ls ++ (ls.take j).map fun l => (mo, l)) ∧ ρ = [some (cel n), some (strL ns), some (.int (most : Nat)), some (.int (g : Nat)), some (.int (d : Nat)), some (strL ms), some (cel c), some (.str mo), y8], ⟨Nat.zero_le _, rs, y8, m1, h1, hl, hrs, by simpa using hsb, rfl⟩, fun _ _ _ _ => trivial, ?_, ?_⟩
      · rintro j2 o ρ S3 ho ⟨hj, rs, y8, m3, h3, hl3, hrs3, hsb3, rfl⟩
        obtain ⟨le, hle, rfl⟩ : ∃ le, ls[j2]? = some le ∧ o = .str le := by
          have ho' : (ls.map PyData.str)[j2]? = some o := ho
          rw [List.getElem?_map] at ho'
          cases e : ls[j2]? with
          | none => rw [e] at ho'; cases ho'
          | some z => rw [e] at ho'; cases ho'; exact ⟨z, rfl, rfl⟩
        have hj2 : j2 < ls.length := (List.getElem?_eq_some_iff.mp hle).1
        have tk2 : ls.take (j2 + 1) = ls.take j2 ++ [le] := by rw [List.take_succ, hle]; rfl
        have lls : ls.length ≤ 4 := by show ns.length + 1 ≤ 4; omega
        have lrs : rs.length ≤ 20 := by
          have : i * ls.length ≤ 3 * 4 := Nat.mul_le_mul (by omega) lls
          omega
        try (dsimp only [dTryAsX, dRetX, dDropX, dSetX, dAsgX, dFnX, dRaise, dTryAs, dTryOnly, dXf, dIsX, dPar3, dFnR, List.reverse_cons, List.reverse_nil, dDelT, mPop0, mPop, mApp, mExt, dFld, dNew, dDGet, dDIn, dZipT, dAll, dTupF, dIdx, dTupRg, dDc, dReprT, dEqT, dNeT, dFor, dLc, dWhile, dRange1, dRange2, dRange3, dEnumT, e_isB, e_tupD, dgUnl, dSeq, dIfS, dSet, dAsg, dRet, dRetN, dDrop, dNext, dPar, dVar, dC, dOp, dB, dTru, dtNot, dtAnd, dtOr, dAnd, dOr, dNot, dIfE, dNeg, dNil, dCons, dTup, dLst, dCel, dNoP, dPart, dSlice, dRevT, dRevL, dCall, on1, dTupOf, dLstOf, dCelOf, dIsi, dName, dgNil, dgCons, dgTup, dFn, dMet, dMet0, gt, st, startD, wh_some, dYes, dEq, dNe, List.map, List.length, List.replicate, List.append, List.cons_append, List.nil_append, dWalk, uns, un, tupNms, dNms, ifT, ifF, List.replicate_succ, List.replicate_zero, Nat.sub_self, Nat.reduceSub, Nat.reduceAdd, Nat.zero_add, Bool.not_true, Bool.not_false, e_addI, e_addS, e_addT, e_addL, e_i2, e_i2c, e_is, e_bool, e_cel, e_strD, e_lenS, e_lenT, e_lenL, e_lenC, e_ixS, e_ixT, e_ixL, e_ixC, e_slS, e_slT, e_slL, e_slC, e_itT, e_itL, e_truN, e_truI, e_truB, e_truL, e_truT, e_okN, e_okB, e_okI, e_okS, e_okL, e_okT, e_okC, e_tupN, e_tupB, e_tupI, e_tupS, e_tupL, e_tupT, e_tupC, e_strN, e_strB, e_strI, e_strS, e_strL, e_strT, e_strC, e_intN, e_intB, e_intI, e_intS, e_intL, e_intT, e_intC, e_boolN, e_boolB, e_boolI, e_boolS, e_boolL, e_boolT, e_boolC, e_lstN, e_lstB, e_lstI, e_lstS, e_lstL, e_lstT, e_lstC, e_nonN, e_nonB, e_nonI, e_nonS, e_nonL, e_nonT, e_wkS, e_wkL, e_wkT, e_wkC, e_join, e_inS, e_ninS, e_ofI, e_ofB, e_abs, e_lenF, e_ixF, e_itF, e_wkF, e_tfF, e_truF, e_repT, e_keyI, e_keyS]; try simp only [true_and, and_true, Nat.reduceLeDiff, reduceIte, reduceCtorEq, Bool.false_eq_true, if_true, if_false, not_false_eq_true, ite_true, ite_false, and_self])
        refine ⟨n, k, _, rfl, m3.D, by decide, by decide, fun t S4 t0 t1 mv4 => ?_⟩
        dsimp only [dI2]
        have m4 := m3.trans mv4
        have h4 := mv4.kp _ _ h3 cn ck
        have skip : (keysL rs).Sublist (prodK (ms.take i) ls ++ (ls.take (j2 + 1)).map fun l => (mo, l)) := by
          rw [tk2, List.map_append, ← List.append_assoc]
          exact hsb3.trans (List.sublist_append_left _ _)
        refine wh_mk rfl ?_
        by_cases ht : (0 : Int) < t
        · refine iteY (decide_eq_true ht) ?_
          try (dsimp only [dTryAsX, dRetX, dDropX, dSetX, dAsgX, dFnX, dRaise, dTryAs, dTryOnly, dXf, dIsX, dPar3, dFnR, List.reverse_cons, List.reverse_nil, dDelT, mPop0, mPop, mApp, mExt, dFld, dNew, dDGet, dDIn, dZipT, dAll, dTupF, dIdx, dTupRg, dDc, dReprT, dEqT, dNeT, dFor, dLc, dWhile, dRange1, dRange2, dRange3, dEnumT, e_isB, e_tupD, dgUnl, dSeq, dIfS, dSet, dAsg, dRet, dRetN, dDrop, dNext, dPar, dVar, dC, dOp, dB, dTru, dtNot, dtAnd, dtOr, dAnd, dOr, dNot, dIfE, dNeg, dNil, dCons, dTup, dLst, dCel, dNoP, dPart, dSlice, dRevT, dRevL, dCall, on1, dTupOf, dLstOf, dCelOf, dIsi, dName, dgNil, dgCons, dgTup, dFn, dMet, dMet0, gt, st, startD, wh_some, dYes, dEq, dNe, List.map, List.length, List.replicate, List.append, List.cons_append, List.nil_append, dWalk, uns, un, tupNms, dNms, ifT, ifF, List.replicate_succ, List.replicate_zero, Nat.sub_self, Nat.reduceSub, Nat.reduceAdd, Nat.zero_add, Bool.not_true, Bool.not_false, e_addI, e_addS, e_addT, e_addL, e_i2, e_i2c, e_is, e_bool, e_cel, e_strD, e_lenS, e_lenT, e_lenL, e_lenC, e_ixS, e_ixT, e_ixL, e_ixC, e_slS, e_slT, e_slL, e_slC, e_itT, e_itL, e_truN, e_truI, e_truB, e_truL, e_truT, e_okN, e_okB, e_okI, e_okS, e_okL, e_okT, e_okC, e_tupN, e_tupB, e_tupI, e_tupS, e_tupL, e_tupT, e_tupC, e_strN, e_strB, e_strI, e_strS, e_strL, e_strT, e_strC, e_intN, e_intB, e_intI, e_intS, e_intL, e_intT, e_intC, e_boolN, e_boolB, e_boolI, e_boolS, e_boolL, e_boolT, e_boolC, e_lstN, e_lstB, e_lstI, e_lstS, e_lstL, e_lstT, e_lstC, e_nonN, e_nonB, e_nonI, e_nonS, e_nonL, e_nonT, e_wkS, e_wkL, e_wkT, e_wkC, e_join, e_inS, e_ninS, e_ofI, e_ofB, e_abs, e_lenF, e_ixF, e_itF, e_wkF, e_tfF, e_truF, e_repT, e_keyI, e_keyS]; try simp only [true_and, and_true, Nat.reduceLeDiff, reduceIte, reduceCtorEq, Bool.false_eq_true, if_true, if_false, not_false_eq_true, ite_true, ite_false, and_self])
          refine ⟨⟨_, h4⟩, ?_⟩
          show dAdd (PyData.list (ns.map PyData.str)) (PyData.list [PyData.str (Str.ofString "w")]) S4 _
          rw [e_addL]
          refine ⟨by rw [List.length_map]; show _ + 1 ≤ _; omega, fun rm hrm => ?_⟩
          have e5 : Ext S4 (put S4 rm (.lst [.int (g : Nat)])) := Ext.refl.cell hrm
          have h5 : put S4 rm (.lst [.int (g : Nat)]) rm = some (.lst [.int (g : Nat)]) := put_same
          have m5 : MvD n k S (put S4 rm (.lst [.int (g : Nat)])) := m4.ext e5
          have c5 := e5 _ _ h4
          generalize put S4 rm (.lst [.int (g : Nat)]) = S5 at e5 h5 m5 c5 ⊢
          obtain ⟨cs4, b4, hN4, hK4, _⟩ := m4.D.ex
          have rn : rm ≠ n := fun z => by rw [z, hN4] at hrm; cases hrm
          have rk : rm ≠ k := fun z => by rw [z, hK4] at hrm; cases hrm
          have rc : c ≠ rm := fun z => by rw [← z, h4] at hrm; cases hrm
          have rS : S rm = none := by
            cases e : S rm with
            | none => rfl
            | some cc => rw [m4.kp _ _ e rn rk] at hrm; cases hrm
          have w1 : ∀ x ∈ ns ++ [sx "w"], nameD (.str x) = true := fun x hx => by
            rcases List.mem_append.mp hx with h | h
            · exact nns x h
            · rw [List.mem_singleton.mp h]
              decide +kernel
          refine ⟨n, k, rm, d, g, ms, ns ++ [sx "w"], le, ?_, hd, m5.D, rn, rk, h5, hg, nms, by omega, by omega, w1, by rw [List.length_append]; show 0 < _ + 1; omega, by rw [List.length_append]; show _ + 1 < _; omega, fun ps g1 S6 hp hgo m6 r6 => ?_⟩
          · unfold strL
            rw [List.map_append]
            rfl
          have c6 := m6.kp _ _ c5 cn ck rc
          have jS : ∀ jj cc, S jj = some cc → jj ≠ c ∧ jj ≠ rm := fun jj cc h => ⟨fun z => (by rw [z, cS] at h; cases h), fun z => (by rw [z, rS] at h; cases h)⟩
          refine wh_mk (lstC_of c6) ⟨by omega, hj2, rs ++ [.tuple [.str mo, .str le, .tuple ps]], _, ⟨?_, fun jj cc h x y => ?_⟩, put_same, by rw [List.length_append]; show _ + 1 ≤ _; omega, fun r hr => ?_, ?_, rfl⟩
          · obtain ⟨cs, b, q1, q2, q3⟩ := m6.D.ex
            exact ⟨cs, b, by rw [put_ne (Ne.symm cn)]; exact q1, by rw [put_ne (Ne.symm ck)]; exact q2, q3⟩
          · obtain ⟨z1, z2⟩ := jS jj cc h
            rw [put_ne z1]
            exact m6.kp _ _ (m5.kp _ _ h x y) x y z2
          · rcases List.mem_append.mp hr with h | h
            · exact hrs3 r h
            · rw [List.mem_singleton.mp h]
              exact ⟨mo, le, ps, rfl, List.mem_of_getElem? hmo, List.mem_of_getElem? hle, hp, by omega⟩
          · rw [tk2, List.map_append, ← List.append_assoc]
            unfold keysL
            rw [List.map_append]
            exact hsb3.append (List.Sublist.refl _)
        · refine iteN (by rw [decide_eq_false ht]; decide) ?_
          exact ⟨hj2, rs, _, m4, h4, by omega, hrs3, skip, rfl⟩
      · rintro ρ S3 ⟨hj, rs, y8, m3, h3, hl3, hrs3, hsb3, rfl⟩
        rw [List.length_map] at hl3 hsb3
        rw [List.take_length, ← pk] at hsb3
        exact ⟨hi2, rs, _, _, m3, h3, by rw [Nat.succ_mul]; omega, hrs3, hsb3, rfl⟩
    · rintro ρ S1 ⟨hi, rs, y7, y8, m1, h1, hl, hrs, hsb, rfl⟩
      rw [List.length_map, List.take_length] at hsb
      try (dsimp only [dTryAsX, dRetX, dDropX, dSetX, dAsgX, dFnX, dRaise, dTryAs, dTryOnly, dXf, dIsX, dPar3, dFnR, List.reverse_cons, List.reverse_nil, dDelT, mPop0, mPop, mApp, mExt, dFld, dNew, dDGet, dDIn, dZipT, dAll, dTupF, dIdx, dTupRg, dDc, dReprT, dEqT, dNeT, dFor, dLc, dWhile, dRange1, dRange2, dRange3, dEnumT, e_isB, e_tupD, dgUnl, dSeq, dIfS, dSet, dAsg, dRet, dRetN, dDrop, dNext, dPar, dVar, dC, dOp, dB, dTru, dtNot, dtAnd, dtOr, dAnd, dOr, dNot, dIfE, dNeg, dNil, dCons, dTup, dLst, dCel, dNoP, dPart, dSlice, dRevT, dRevL, dCall, on1, dTupOf, dLstOf, dCelOf, dIsi, dName, dgNil, dgCons, dgTup, dFn, dMet, dMet0, gt, st, startD, wh_some, dYes, dEq, dNe, List.map, List.length, List.replicate, List.append, List.cons_append, List.nil_append, dWalk, uns, un, tupNms, dNms, ifT, ifF, List.replicate_succ, List.replicate_zero, Nat.sub_self, Nat.reduceSub, Nat.reduceAdd, Nat.zero_add, Bool.not_true, Bool.not_false, e_addI, e_addS, e_addT, e_addL, e_i2, e_i2c, e_is, e_bool, e_cel, e_strD, e_lenS, e_lenT, e_lenL, e_lenC, e_ixS, e_ixT, e_ixL, e_ixC, e_slS, e_slT, e_slL, e_slC, e_itT, e_itL, e_truN, e_truI, e_truB, e_truL, e_truT, e_okN, e_okB, e_okI, e_okS, e_okL, e_okT, e_okC, e_tupN, e_tupB, e_tupI, e_tupS, e_tupL, e_tupT, e_tupC, e_strN, e_strB, e_strI, e_strS, e_strL, e_strT, e_strC, e_intN, e_intB, e_intI, e_intS, e_intL, e_intT, e_intC, e_boolN, e_boolB, e_boolI, e_boolS, e_boolL, e_boolT, e_boolC, e_lstN, e_lstB, e_lstI, e_lstS, e_lstL, e_lstT, e_lstC, e_nonN, e_nonB, e_nonI, e_nonS, e_nonL, e_nonT, e_wkS, e_wkL, e_wkT, e_wkC, e_join, e_inS, e_ninS, e_ofI, e_ofB, e_abs, e_lenF, e_ixF, e_itF, e_wkF, e_tfF, e_truF, e_repT, e_keyI, e_keyS]; try simp only [true_and, and_true, Nat.reduceLeDiff, reduceIte, reduceCtorEq, Bool.false_eq_true, if_true, if_false, not_false_eq_true, ite_true, ite_false, and_self])
      refine wh_mk (lstC_of h1) ⟨n, k, _, rfl, m1.D, .inl ⟨_, rfl, by rw [List.length_map]; omega, by rw [List.length_map]; omega, fun dm S3 hdm mv3 => ?_⟩⟩
      obtain ⟨m, hm, rfl⟩ := List.mem_map.mp hdm
      exact q ms m rs S3 ⟨hns, tm, hrs, hsb⟩ hm (m1.trans mv3)
end
end K3

/-! the plain layer: text * number -/
namespace K3
open PySem L2 Xr K1
section
variable {X : Cx} {a b : Expr} {ta tb : DE} {pos : Pos}
def rMulS : R2 := fun x y H Q => ∃ z n, x = .str z ∧ y = .int n ∧ MulOk z n ∧ Q (.str (Txt.mul z n)) H
theorem op_mulS : OpR X (binaryOp .Mult) rMulS := by
  intro pins s σ H x y v u Q I rx ry h
  obtain ⟨z, n, rfl, rfl, hok, q⟩ := h
  obtain ⟨t, rfl⟩ := rx
  obtain ⟨t', rfl⟩ := ry
  exact SB.mul hok fun t2 k => ⟨.str _, H, I.tok k, ⟨_, rfl⟩, q⟩
def dMulS : D2 := fun a b S Q => match a, b with
  | .str z, .int n => MulOk z n ∧ Q (.str (Txt.mul z n)) S
  | _, _ => False
theorem snd_mulS {K : PySem.W.Frag} : Snd2 K dMulS rMulS := fun m H S x y a b Q Qd w dx dy h k => by
  cases a <;> first | exact False.elim h | skip
  cases b <;> first | exact False.elim h | skip
  cases dx
  cases dy
  exact ⟨_, _, rfl, rfl, h.1, k _ _ _ _ _ h.2 Evo.refl w (.str _)⟩
theorem q_mulS (ha : QE X a ta) (hb : QE X b tb) : QE X (.BinOp a .Mult b pos) (dOp dMulS ta tb) := q_op op_mulS snd_mulS ha hb
end
theorem mulOk_one (ch : Nat) {j : Nat} (h : j < 19) : MulOk (⟨#[ch]⟩ : Str) (j : Int) := by
  have all : ∀ j : Fin 19, ((decide (((j.val : Nat) : Int) < -(2 ^ 63 : Int)) || decide (((j.val : Nat) : Int) ≥ 2 ^ 63)) = false) ∧ (j.val = 0 ∨ ¬ (((1 : Nat) : Int) > (2 ^ 63 - 1) / ((j.val : Nat) : Int))) ∧ Builtin.Str.tooLong (1 * ((j.val : Nat) : Int).toNat) = false := by decide +kernel
  obtain ⟨a, b, c⟩ := all ⟨j, h⟩
  refine ⟨a, fun h1 _ => ?_, fun _ _ => c⟩
  rcases b with b | b
  · have b' : j = 0 := b
    omega
  · exact b
end K3

/-! a turning with one thing spoilt -/
namespace K3
open PySem L2 Xr K1 Exv
abbrev sLTud : Stmt := top 37
theorem scLTud : FnScope ["deal", "rules", "mode", "at", "sort", "first", "letter", "parts", "some", "bad"] ["deal", "rules", "mode"] (defScope sLTud) := ⟨rfl, rfl, rfl, by decide +kernel, rfl, by decide +kernel, by decide +kernel⟩
/-- how great data are -/
structure Sz (m w : Nat) (d : PyData) : Prop where
  vd : Vd m d
  ws : wt d ≤ w
structure SzA (m w : Nat) (ds : List PyData) : Prop where
  vd : ∀ x ∈ ds, Vd m x
  ws : wtAll ds ≤ w
theorem Sz.mono {m m' w w' : Nat} {d : PyData} (h : Sz m w d) (a : m ≤ m') (b : w ≤ w') : Sz m' w' d := ⟨h.vd.mono a, Nat.le_trans h.ws b⟩
theorem sz_t {m w : Nat} {ds : List PyData} (h : SzA m w ds) : Sz (m + 1) (w + 1) (.tuple ds) := ⟨vd_tup h.vd, by have := h.ws; have e : wt (.tuple ds) = 1 + wtAll ds := rfl; omega⟩
theorem sz_l {m w : Nat} {ds : List PyData} (h : SzA m w ds) : Sz (m + 1) (w + 1) (.list ds) := ⟨vd_lst h.vd, by have := h.ws; have e : wt (.list ds) = 1 + wtAll ds := rfl; omega⟩
theorem sza_nil {m : Nat} : SzA m 0 [] := ⟨fun x hx => (by cases hx), Nat.le_refl _⟩
theorem sza_cons {m m' w v : Nat} {d : PyData} {ds : List PyData} (h : Sz m' w d) (hs : SzA m v ds) (l : m' ≤ m := by decide) : SzA m (w + v) (d :: ds) := ⟨fun x hx => by
  rcases List.mem_cons.mp hx with q | q
  · rw [q]; exact h.vd.mono l
  · exact hs.vd x q, by have := h.ws; have := hs.ws; have e : wtAll (d :: ds) = wt d + wtAll ds := rfl; omega⟩
theorem sza_app {m w v : Nat} {a b : List PyData} (h : SzA m w a) (hs : SzA m v b) : SzA m (w + v) (a ++ b) := ⟨fun x hx => (List.mem_append.mp hx).elim (h.vd x) (hs.vd x), by rw [wtAll_app]; have := h.ws; have := hs.ws; omega⟩
def szB (m n : Nat) (d : PyData) : Bool := d.canLay0 && (decide (d.depth ≤ m) && decide (wt d ≤ n))
theorem sz_of {m n : Nat} {d : PyData} (h : szB m n d = true) : Sz m n d := by
  unfold szB at h
  rw [Bool.and_eq_true, Bool.and_eq_true] at h
  exact ⟨⟨h.1, of_decide_eq_true h.2.1⟩, of_decide_eq_true h.2.2⟩
theorem sz_all {m n : Nat} {ds : List PyData} (h : ds.all (szB m n) = true) {d : PyData} (hd : d ∈ ds) : Sz m n d := sz_of (List.all_eq_true.mp h d hd)
theorem all0 {P : PyData → Prop} : ∀ x ∈ ([] : List PyData), P x := fun x hx => by cases hx
theorem all1 {P : PyData → Prop} {a : PyData} {l : List PyData} (h : P a) (t : ∀ x ∈ l, P x) : ∀ x ∈ a :: l, P x := fun x hx => by
  rcases List.mem_cons.mp hx with q | q
  · rw [q]; exact h
  · exact t x q
theorem atI_prev {rs : List PyData} {i : Nat} (h : i < rs.length) : ∃ r ∈ rs, atI rs ((i : Int) - 1) = some r := by
  by_cases h0 : i = 0
  · subst h0
    have hl : rs.length - 1 < rs.length := by omega
    refine ⟨rs[rs.length - 1], List.getElem_mem hl, ?_⟩
    unfold atI ixN
    rw [if_neg (by omega), if_pos (by omega)]
    have e : (((0 : Nat) : Int) - 1 + (rs.length : Nat)).toNat = rs.length - 1 := by omega
    rw [e]
    show rs[rs.length - 1]? = _
    exact List.getElem?_eq_getElem hl
  · have hl : i - 1 < rs.length := by omega
    refine ⟨rs[i - 1], List.getElem_mem hl, ?_⟩
    rw [show (i : Int) - 1 = ((i - 1 : Nat) : Int) by omega]
    exact atI_nat (List.getElem?_eq_getElem hl)
theorem cutL_sufV {l : List PyData} {i : Nat} (h : i ≤ l.length) : cutD l (some ((i : Nat) : Int)) none = l.drop i := by
  unfold cutD
  rw [HT.sIx_nat, HT.sIx_none, Nat.min_eq_left h]
  exact List.take_of_length_le (by rw [List.length_drop]; exact Nat.le_refl _)
def spLTud : SpD := fun ds S Q _ => ∃ (n k w : Nat) (rs : List PyData) (mo : PyData), ds = [cel n, .tuple rs, mo] ∧ DealD S n k ∧ Sz 30 100 mo ∧ w ≤ 20000 ∧ rs.length ≤ 100 ∧ (∀ r ∈ rs, ruleB r = true ∧ Sz 30 w r) ∧
  ∀ (rs' : List PyData) (mo' : PyData) S', Sz 30 100 mo' → rs'.length = rs.length → (∀ r ∈ rs', Sz 30 (w + 200) r) → MvD n k S S' → Q (.tuple [.tuple rs', mo']) S'
structure VmTxt (K : PySem.W.Frag) (mg : Str → Option Value) (a_law_any a_law_of : Addr) : Prop where
  n_list : mg "list" = none
  n_len : mg "len" = none
  g_law_any : mg "_law_any" = some (.ref a_law_any)
  k_law_any : PySem.W.keepIn K (.ref a_law_any) = true
  g_law_of : mg "_law_of" = some (.ref a_law_of)
  k_law_of : PySem.W.keepIn K (.ref a_law_of) = true
section
variable {P : Program} {w : World} {K : PySem.W.Frag} {mg : Str → Option Value} {base : Heap} {a_law_any a_law_of : Addr} {d1 d2 d3 : FuncData}
theorem ok_ltud {f : Addr} {fd : FuncData} (F : Fun K "_law_turned" "_law_turned" sLTud f fd) (T : VmTxt K mg a_law_any a_law_of)
    (G_law_any : FnOk P w K mg base CX0 1 a_law_any d1 ["deal", "bound"] (spD K spAnyD)) (b_law_any : Binds K d1 ["deal", "bound"] [])
    (G_law_of : FnOk P w K mg base CX0 2 a_law_of d2 ["deal", "some"] (spD K spOfD)) (b_law_of : Binds K d2 ["deal", "some"] []) : FnOk P w K mg base CX0 3 f fd ["deal", "rules", "mode"] (spD K spLTud) := by
  refine dok F scLTud (fun ds S Q E h => ?_) fun cdv A outer s H Q E (hr : Room 2 _) => ⟨_, (qss_cons (qs_if (PW.pt (qw_or (qt_cmp (op_eqA (u64 hr)) snd_eq (q_var (pv 1)) (q_tup q_nil) (nomark _)) (qw_or1 (qt_cmp (op_eqA (u64 hr)) snd_eq (q_call hr G_law_any T.g_law_any T.k_law_any b_law_any (by rfl) (by omega) (q_cons (q_var (pv 0)) (q_cons q_int q_nil))) q_int (nomark _)))))
      (qss_one (qs_ret (q_tup (q_cons (q_var (pv 1)) (q_cons (q_call hr G_law_of T.g_law_of T.k_law_of b_law_of (by rfl) (by omega) (q_cons (q_var (pv 0)) (q_cons (q_lst (q_cons q_str (q_cons q_non (q_cons q_str (q_cons q_int (q_cons q_str (q_cons q_str (q_cons (q_tup (q_cons q_str q_nil)) q_nil)))))))) q_nil))) q_nil)))))
      qss_nil)
      (qss_cons (qs_par (i := 3) (j := 4) (by rfl) scLTud.nd rfl rfl (by decide) rfl rfl (q_cons (q_call hr G_law_any T.g_law_any T.k_law_any b_law_any (by rfl) (by omega) (q_cons (q_var (pv 0)) (q_cons (q_len T.n_len (by rfl) (q_cons (q_var (pv 1)) q_nil)) q_nil))) (q_cons (q_call hr G_law_any T.g_law_any T.k_law_any b_law_any (by rfl) (by omega) (q_cons (q_var (pv 0)) (q_cons q_int q_nil))) q_nil)) (by rfl))
      (qss_cons (qs_asg (q_at (q_var (pv 1)) (q_var (pv 3)) (fun _ _ => rfl)) (qg_tup (n := 3) (by rfl) (qgs_cons (qg_name (pg_name (i := 5) scLTud.nd rfl (Or.inl rfl))) (qgs_cons (qg_name (pg_name (i := 6) scLTud.nd rfl (Or.inl rfl))) (qgs_cons (qg_name (pg_name (i := 7) scLTud.nd rfl (Or.inl rfl))) qgs_nil)))))
      (qss_cons (qs_set (i := 8) scLTud.nd rfl (Or.inl rfl) (q_at (q_var (pv 1)) (q_var (pv 3)) (fun _ _ => rfl)))
      (qss_cons (qs_if (qt_cmp (op_eqA (u64 hr)) snd_eq (q_var (pv 4)) q_int (nomark _))
      (qss_one (qs_set (i := 8) scLTud.nd rfl (Or.inl rfl) (q_call hr G_law_of T.g_law_of T.k_law_of b_law_of (by rfl) (by omega) (q_cons (q_var (pv 0)) (q_cons (q_lst (q_cons q_non (q_cons (q_tup q_nil) (q_cons (q_var (pv 5)) (q_cons (q_tup (q_cons (q_var (pv 5)) (q_cons (q_var (pv 6)) q_nil))) (q_cons (q_tup (q_cons (q_var (pv 5)) (q_cons (q_var (pv 6)) (q_cons (q_var (pv 7)) (q_cons q_int q_nil))))) (q_cons (q_lst (q_cons (q_var (pv 5)) (q_cons (q_var (pv 6)) (q_cons (q_var (pv 7)) q_nil)))) (q_cons (q_tup (q_cons (q_var (pv 5)) (q_cons (q_var (pv 6)) (q_cons q_non q_nil)))) (q_cons (q_tup (q_cons (q_var (pv 5)) (q_cons (q_var (pv 6)) (q_cons (q_list T.n_list (by rfl) (q_cons (q_var (pv 7)) q_nil)) q_nil)))) q_nil))))))))) q_nil)))))
      qss_nil)
      (qss_cons (qs_if (qt_cmp (op_eqA (u64 hr)) snd_eq (q_var (pv 4)) q_int (nomark _))
      (qss_cons (qs_set (i := 9) scLTud.nd rfl (Or.inl rfl) (q_call hr G_law_of T.g_law_of T.k_law_of b_law_of (by rfl) (by omega) (q_cons (q_var (pv 0)) (q_cons (q_lst (q_cons q_str (q_cons q_str (q_cons q_int (q_cons q_non (q_cons q_str (q_cons (q_tup (q_cons q_str q_nil)) (q_cons q_bl (q_cons q_str q_nil))))))))) q_nil))))
      (qss_one (qs_set (i := 8) scLTud.nd rfl (Or.inl rfl) (q_call hr G_law_of T.g_law_of T.k_law_of b_law_of (by rfl) (by omega) (q_cons (q_var (pv 0)) (q_cons (q_lst (q_cons (q_tup (q_cons (q_var (pv 9)) (q_cons (q_var (pv 6)) (q_cons (q_var (pv 7)) q_nil)))) (q_cons (q_tup (q_cons (q_var (pv 5)) (q_cons (q_var (pv 9)) (q_cons (q_var (pv 7)) q_nil)))) (q_cons (q_tup (q_cons q_str (q_cons (q_var (pv 6)) (q_cons (q_var (pv 7)) q_nil)))) (q_cons (q_tup (q_cons (q_var (pv 5)) (q_cons (q_var (pv 6)) (q_cons (q_add (q_var (pv 7)) (q_tup (q_cons (q_tup (q_cons q_str (q_cons (q_var (pv 9)) (q_cons (q_tup q_nil) q_nil)))) q_nil))) q_nil)))) q_nil))))) q_nil))))))
      qss_nil)
      (qss_cons (qs_if (PW.pt (qw_and (qt_cmp op_gt snd_lt (q_var (pv 4)) q_int (nomark _)) (qw_and1 (qt_cmp op_lt snd_lt (q_var (pv 4)) q_int (nomark _)))))
      (qss_cons (qs_set (i := 9) scLTud.nd rfl (Or.inl rfl) (q_call hr G_law_of T.g_law_of T.k_law_of b_law_of (by rfl) (by omega) (q_cons (q_var (pv 0)) (q_cons (q_lst (q_cons (q_tup (q_cons q_str q_nil)) (q_cons (q_tup (q_cons q_str (q_cons q_str q_nil))) (q_cons (q_tup (q_cons q_str (q_cons q_str q_nil))) (q_cons (q_tup (q_cons q_str (q_cons q_int q_nil))) (q_cons (q_tup (q_cons q_str q_nil)) (q_cons (q_tup (q_cons q_str (q_cons q_str q_nil))) (q_cons (q_tup (q_cons q_str q_nil)) (q_cons (q_tup q_nil) (q_cons q_str (q_cons (q_lst (q_cons q_str q_nil)) q_nil))))))))))) q_nil))))
      (qss_cons (qs_set (i := 9) scLTud.nd rfl (Or.inl rfl) (q_call hr G_law_of T.g_law_of T.k_law_of b_law_of (by rfl) (by omega) (q_cons (q_var (pv 0)) (q_cons (q_lst (q_cons (q_var (pv 9)) (q_cons (q_tup (q_cons q_str (q_cons q_str q_nil))) (q_cons (q_tup (q_cons q_str (q_cons q_str (q_cons q_non q_nil)))) (q_cons (q_tup (q_cons q_str (q_cons q_str (q_cons (q_tup q_nil) q_nil)))) (q_cons (q_tup (q_cons q_str (q_cons q_str q_nil))) (q_cons (q_tup (q_cons q_str (q_cons (q_mulS q_str q_int) q_nil))) (q_cons (q_tup (q_cons q_str (q_cons (q_mulS q_str q_int) q_nil))) (q_cons (q_tup (q_cons q_str (q_cons q_str (q_cons (q_tup (q_cons (q_var (pv 9)) q_nil)) q_nil)))) q_nil))))))))) q_nil))))
      (qss_one (qs_set (i := 8) scLTud.nd rfl (Or.inl rfl) (q_tup (q_cons (q_var (pv 5)) (q_cons (q_var (pv 6)) (q_cons (q_call hr G_law_of T.g_law_of T.k_law_of b_law_of (by rfl) (by omega) (q_cons (q_var (pv 0)) (q_cons (q_lst (q_cons (q_tup (q_cons (q_var (pv 9)) q_nil)) (q_cons (q_add (q_var (pv 7)) (q_tup (q_cons (q_var (pv 9)) q_nil))) (q_cons (q_add (q_tup (q_cons (q_var (pv 9)) q_nil)) (q_var (pv 7))) (q_cons (q_tup (q_cons (q_tup (q_cons q_str (q_cons q_str (q_cons (q_tup (q_cons (q_tup (q_cons q_str (q_cons q_str q_nil))) (q_cons (q_var (pv 9)) q_nil))) q_nil)))) q_nil)) q_nil))))) q_nil))) q_nil))))))))
      qss_nil)
      (qss_cons (qs_if (qt_cmp (op_eqA (u64 hr)) snd_eq (q_var (pv 4)) q_int (nomark _))
      (qss_one (qs_set (i := 8) scLTud.nd rfl (Or.inl rfl) (q_call hr G_law_of T.g_law_of T.k_law_of b_law_of (by rfl) (by omega) (q_cons (q_var (pv 0)) (q_cons (q_lst (q_cons (q_tup (q_cons (q_at (q_at (q_var (pv 1)) (q_sub (q_var (pv 3)) q_int) (fun _ _ => rfl)) q_int (fun _ _ => rfl)) (q_cons (q_at (q_at (q_var (pv 1)) (q_sub (q_var (pv 3)) q_int) (fun _ _ => rfl)) q_int (fun _ _ => rfl)) (q_cons (q_var (pv 7)) q_nil)))) (q_cons (q_tup (q_cons q_str (q_cons q_str (q_cons (q_tup q_nil) q_nil)))) (q_cons (q_tup (q_cons (q_var (pv 5)) (q_cons q_str (q_cons (q_tup q_nil) q_nil)))) (q_cons (q_tup (q_cons (q_var (pv 5)) (q_cons q_str (q_cons (q_var (pv 7)) q_nil)))) (q_cons (q_tup (q_cons q_str (q_cons (q_var (pv 6)) (q_cons (q_var (pv 7)) q_nil)))) q_nil)))))) q_nil)))))
      qss_nil)
      (qss_one (qs_ret (q_tup (q_cons (q_add (q_add (q_sl false (q_var (pv 1)) qo_none (qo_some (q_var (pv 3)))) (q_tup (q_cons (q_var (pv 8)) q_nil))) (q_sl false (q_var (pv 1)) (qo_some (q_add (q_var (pv 3)) q_int)) qo_none)) (q_cons (q_var (pv 2)) q_nil))))))))))))), fun ds S Qd Er h => ?_⟩
  · obtain ⟨n, k, w, rs, mo, rfl, _⟩ := h
    rfl
  · obtain ⟨n, k, w, rs, mo, rfl, D, hmo, hw, hl, hrs, q⟩ := h
    (dsimp only [dTryAsX, dRetX, dDropX, dSetX, dAsgX, dFnX, dRaise, dTryAs, dTryOnly, dXf, dIsX, dPar3, dFnR, List.reverse_cons, List.reverse_nil, dDelT, mPop0, mPop, mApp, mExt, dFld, dNew, dDGet, dDIn, dZipT, dAll, dTupF, dIdx, dTupRg, dDc, dReprT, dEqT, dNeT, dFor, dLc, dWhile, dRange1, dRange2, dRange3, dEnumT, e_isB, e_tupD, dgUnl, dSeq, dIfS, dSet, dAsg, dRet, dRetN, dDrop, dNext, dPar, dVar, dC, dOp, dB, dTru, dtNot, dtAnd, dtOr, dAnd, dOr, dNot, dIfE, dNeg, dNil, dCons, dTup, dLst, dCel, dNoP, dPart, dSlice, dRevT, dRevL, dCall, on1, dTupOf, dLstOf, dCelOf, dIsi, dName, dgNil, dgCons, dgTup, dFn, dMet, dMet0, gt, st, startD, wh_some, dYes, dEq, dNe, List.map, List.length, List.replicate, List.append, List.cons_append, List.nil_append, dWalk, uns, un, tupNms, dNms, ifT, ifF, List.replicate_succ, List.replicate_zero, Nat.sub_self, Nat.reduceSub, Nat.reduceAdd, Nat.zero_add, Bool.not_true, Bool.not_false, e_addI, e_addS, e_addT, e_addL, e_i2, e_i2c, e_is, e_bool, e_cel, e_strD, e_lenS, e_lenT, e_lenL, e_lenC, e_ixS, e_ixT, e_ixL, e_ixC, e_slS, e_slT, e_slL, e_slC, e_itT, e_itL, e_truN, e_truI, e_truB, e_truL, e_truT, e_okN, e_okB, e_okI, e_okS, e_okL, e_okT, e_okC, e_tupN, e_tupB, e_tupI, e_tupS, e_tupL, e_tupT, e_tupC, e_strN, e_strB, e_strI, e_strS, e_strL, e_strT, e_strC, e_intN, e_intB, e_intI, e_intS, e_intL, e_intT, e_intC, e_boolN, e_boolB, e_boolI, e_boolS, e_boolL, e_boolT, e_boolC, e_lstN, e_lstB, e_lstI, e_lstS, e_lstL, e_lstT, e_lstC, e_nonN, e_nonB, e_nonI, e_nonS, e_nonL, e_nonT, e_wkS, e_wkL, e_wkT, e_wkC, e_join, e_inS, e_ninS, e_ofI, e_ofB, e_abs, e_lenF, e_ixF, e_itF, e_wkF, e_tfF, e_truF, e_repT, e_keyI, e_keyS]; try simp only [true_and, and_true, Nat.reduceLeDiff, reduceIte, reduceCtorEq, Bool.false_eq_true, if_true, if_false, not_false_eq_true, ite_true, ite_false, and_self])
    have vrs : ∀ x ∈ rs, Vd 30 x := fun x hx => (hrs x hx).2.vd
    refine ⟨.inr ⟨(vd_tup (m := 30) vrs).shaped (by decide), by decide +kernel⟩, ?_⟩
    have same : ∀ (x : PyData) (S4 : Sto), x ∈ [PyData.str (sx ""), .none, .str (sx "A"), .int 0, .str (sx "abcdefghi"), .str (sx "q"), .tuple [.str (sx "a")]] → MvD n k S S4 → Qd (.tuple [.tuple rs, x]) S4 := fun x S4 hx mv =>
      q rs x S4 ((sz_all (m := 30) (n := 100) (by decide +kernel) hx)) rfl (fun r hr => (hrs r hr).2.mono (by decide) (by omega)) mv
    by_cases he : PyData.eqv (.tuple rs) (.tuple []) = true
    · exact iteY he ⟨n, k, _, rfl, D, .inl ⟨_, rfl, by decide, by decide, fun x S4 hx mv => same x S4 hx mv⟩⟩
    have hlen : 0 < rs.length := by
      cases rs with
      | nil => exact absurd (by decide) he
      | cons x r => exact Nat.succ_pos _
    refine iteN he ⟨n, k, _, rfl, D, by decide, by decide, fun r1 S1 _ _ mv1 => ⟨eqOk_int _ _, ?_⟩⟩
    by_cases h0 : PyData.eqv (.int r1) (.int 0) = true
    · exact iteY h0 ⟨n, k, _, rfl, mv1.D, .inl ⟨_, rfl, by decide, by decide, fun x S4 hx mv => same x S4 hx (mv1.trans mv)⟩⟩
    refine iteN h0 ⟨n, k, _, rfl, mv1.D, by omega, by omega, fun r2 S2 r20 r21 mv2 => ⟨n, k, _, rfl, mv2.D, by decide, by decide, fun s2 S3 s20 s21 mv3 => ?_⟩⟩
    obtain ⟨i, rfl⟩ : ∃ i : Nat, r2 = i := ⟨r2.toNat, by omega⟩
    have hi : i < rs.length := by omega
    have mvS : MvD n k S S3 := (mv1.trans mv2).trans mv3
    have hd : rs[i]? = some rs[i] := List.getElem?_eq_getElem hi
    obtain ⟨hb, hz⟩ := hrs rs[i] (List.getElem_mem hi)
    obtain ⟨rp, hrp, hat⟩ := atI_prev hi
    obtain ⟨hbp, hzp⟩ := hrs rp hrp
    generalize rs[i] = g at hd hb hz
    obtain ⟨a, l, ps, rfl, hna, hnl, _⟩ := rule_tup hb
    obtain ⟨a2, l2, ps2, rfl, hna2, hnl2, _⟩ := rule_tup hbp
    have za : Sz 0 9 (.str a) := ⟨vd_str (Vd.sg (vd_mem hz.vd _ (by simp))), by have := (name_plain hna).len; have e : wt (.str a) = 1 + a.length := rfl; omega⟩
    have za2 : Sz 0 9 (.str a2) := ⟨vd_str (Vd.sg (vd_mem hzp.vd _ (by simp))), by have := (name_plain hna2).len; have e : wt (.str a2) = 1 + a2.length := rfl; omega⟩
    have ll : ∀ {z : Str}, letD (.str z) = true → z.length ≤ 8 := fun {z} h => by
      unfold letD at h
      rcases Bool.or_eq_true_iff.mp h with h | h
      · exact (name_plain h).len
      · have := PyData.str.inj (eqv_word h)
        rw [this]
        decide
    have zl : Sz 0 9 (.str l) := ⟨vd_str (Vd.sg (vd_mem hz.vd _ (by simp))), by have := ll hnl; have e : wt (.str l) = 1 + l.length := rfl; omega⟩
    have zl2 : Sz 0 9 (.str l2) := ⟨vd_str (Vd.sg (vd_mem hzp.vd _ (by simp))), by have := ll hnl2; have e : wt (.str l2) = 1 + l2.length := rfl; omega⟩
    have e3 : wt (.tuple [.str a, .str l, .tuple ps]) = 1 + ((1 + a.length) + ((1 + l.length) + ((1 + wtAll ps) + 0))) := rfl
    have hw1 := hz.ws
    have hzp : SzA 28 w ps := ⟨((hz.vd.tup.2 (.tuple ps) (by simp)).tup).2, by omega⟩
    have zp : Sz 29 (w + 1) (.tuple ps) := sz_t hzp
    have zpl : Sz 29 (w + 1) (.list ps) := sz_l hzp
    have fin : ∀ (x : PyData) (S4 : Sto), Sz 30 (w + 200) x → MvD n k S S4 → ((cutD rs none (some (i : Int))).length ≤ 999999 ∧ (cutD rs none (some (i : Int)) ++ [x]).length + (cutD rs (some ((i : Int) + 1)) none).length ≤ 1000000 ∧ Qd (.tuple [.tuple (cutD rs none (some (i : Int)) ++ [x] ++ cutD rs (some ((i : Int) + 1)) none), mo]) S4) := fun x S4 hx mv => by
      rw [cutL_preV (by omega), show ((i : Int) + 1) = ((i + 1 : Nat) : Int) by omega, cutL_sufV (by omega)]
      refine ⟨by rw [List.length_take]; omega, by rw [List.length_append, List.length_take, List.length_drop]; show _ + 1 + _ ≤ _; omega, q _ _ _ hmo ?_ (fun r hr => ?_) mv⟩
      · rw [List.length_append, List.length_append, List.length_take, List.length_drop]
        show _ + 1 + _ = _
        omega
      · rcases List.mem_append.mp hr with h | h
        · rcases List.mem_append.mp h with h | h
          · exact (hrs r (List.mem_of_mem_take h)).2.mono (by decide) (by omega)
          · rw [List.mem_singleton.mp h]; exact hx
        · exact (hrs r (List.mem_of_mem_drop h)).2.mono (by decide) (by omega)
    have lps : ps.length ≤ 20000 := by have := wtAll_len ps; have := hzp.ws; omega
    have kk : ∀ {d : PyData}, szB 5 100 d = true → Sz 30 (w + 200) d := fun h => (sz_of h).mono (by decide) (by omega)
    have T : ∀ {v : Nat} {ds : List PyData}, SzA 29 v ds → v ≤ w + 199 → Sz 30 (w + 200) (.tuple ds) := fun h l => (sz_t h).mono (by decide) (by omega)
    have kc : ∀ {d : PyData}, szB 10 100 d = true → Sz 10 100 d := sz_of
    have U : ∀ {v : Nat} {ds : List PyData}, SzA 28 v ds → v ≤ w + 169 → Sz 29 (w + 170) (.tuple ds) := fun h l => (sz_t h).mono (by decide) (by omega)
    have k5 : ∀ {d : PyData}, szB 5 20 d = true → Sz 5 20 d := sz_of
    (dsimp only [dMulS, dTryAsX, dRetX, dDropX, dSetX, dAsgX, dFnX, dRaise, dTryAs, dTryOnly, dXf, dIsX, dPar3, dFnR, List.reverse_cons, List.reverse_nil, dDelT, mPop0, mPop, mApp, mExt, dFld, dNew, dDGet, dDIn, dZipT, dAll, dTupF, dIdx, dTupRg, dDc, dReprT, dEqT, dNeT, dFor, dLc, dWhile, dRange1, dRange2, dRange3, dEnumT, e_isB, e_tupD, dgUnl, dSeq, dIfS, dSet, dAsg, dRet, dRetN, dDrop, dNext, dPar, dVar, dC, dOp, dB, dTru, dtNot, dtAnd, dtOr, dAnd, dOr, dNot, dIfE, dNeg, dNil, dCons, dTup, dLst, dCel, dNoP, dPart, dSlice, dRevT, dRevL, dCall, on1, dTupOf, dLstOf, dCelOf, dIsi, dName, dgNil, dgCons, dgTup, dFn, dMet, dMet0, gt, st, startD, wh_some, dYes, dEq, dNe, List.map, List.length, List.replicate, List.append, List.cons_append, List.nil_append, dWalk, uns, un, tupNms, dNms, ifT, ifF, List.replicate_succ, List.replicate_zero, Nat.sub_self, Nat.reduceSub, Nat.reduceAdd, Nat.zero_add, Bool.not_true, Bool.not_false, e_addI, e_addS, e_addT, e_addL, e_i2, e_i2c, e_is, e_bool, e_cel, e_strD, e_lenS, e_lenT, e_lenL, e_lenC, e_ixS, e_ixT, e_ixL, e_ixC, e_slS, e_slT, e_slL, e_slC, e_itT, e_itL, e_truN, e_truI, e_truB, e_truL, e_truT, e_okN, e_okB, e_okI, e_okS, e_okL, e_okT, e_okC, e_tupN, e_tupB, e_tupI, e_tupS, e_tupL, e_tupT, e_tupC, e_strN, e_strB, e_strI, e_strS, e_strL, e_strT, e_strC, e_intN, e_intB, e_intI, e_intS, e_intL, e_intT, e_intC, e_boolN, e_boolB, e_boolI, e_boolS, e_boolL, e_boolT, e_boolC, e_lstN, e_lstB, e_lstI, e_lstS, e_lstL, e_lstT, e_lstC, e_nonN, e_nonB, e_nonI, e_nonS, e_nonL, e_nonT, e_wkS, e_wkL, e_wkT, e_wkC, e_join, e_inS, e_ninS, e_ofI, e_ofB, e_abs, e_lenF, e_ixF, e_itF, e_wkF, e_tfF, e_truF, e_repT, e_keyI, e_keyS]; try simp only [true_and, and_true, Nat.reduceLeDiff, reduceIte, reduceCtorEq, Bool.false_eq_true, if_true, if_false, not_false_eq_true, ite_true, ite_false, and_self])
    refine wh_mk (atI_nat hd) ?_
    (dsimp only [dMulS, dTryAsX, dRetX, dDropX, dSetX, dAsgX, dFnX, dRaise, dTryAs, dTryOnly, dXf, dIsX, dPar3, dFnR, List.reverse_cons, List.reverse_nil, dDelT, mPop0, mPop, mApp, mExt, dFld, dNew, dDGet, dDIn, dZipT, dAll, dTupF, dIdx, dTupRg, dDc, dReprT, dEqT, dNeT, dFor, dLc, dWhile, dRange1, dRange2, dRange3, dEnumT, e_isB, e_tupD, dgUnl, dSeq, dIfS, dSet, dAsg, dRet, dRetN, dDrop, dNext, dPar, dVar, dC, dOp, dB, dTru, dtNot, dtAnd, dtOr, dAnd, dOr, dNot, dIfE, dNeg, dNil, dCons, dTup, dLst, dCel, dNoP, dPart, dSlice, dRevT, dRevL, dCall, on1, dTupOf, dLstOf, dCelOf, dIsi, dName, dgNil, dgCons, dgTup, dFn, dMet, dMet0, gt, st, startD, wh_some, dYes, dEq, dNe, List.map, List.length, List.replicate, List.append, List.cons_append, List.nil_append, dWalk, uns, un, tupNms, dNms, ifT, ifF, List.replicate_succ, List.replicate_zero, Nat.sub_self, Nat.reduceSub, Nat.reduceAdd, Nat.zero_add, Bool.not_true, Bool.not_false, e_addI, e_addS, e_addT, e_addL, e_i2, e_i2c, e_is, e_bool, e_cel, e_strD, e_lenS, e_lenT, e_lenL, e_lenC, e_ixS, e_ixT, e_ixL, e_ixC, e_slS, e_slT, e_slL, e_slC, e_itT, e_itL, e_truN, e_truI, e_truB, e_truL, e_truT, e_okN, e_okB, e_okI, e_okS, e_okL, e_okT, e_okC, e_tupN, e_tupB, e_tupI, e_tupS, e_tupL, e_tupT, e_tupC, e_strN, e_strB, e_strI, e_strS, e_strL, e_strT, e_strC, e_intN, e_intB, e_intI, e_intS, e_intL, e_intT, e_intC, e_boolN, e_boolB, e_boolI, e_boolS, e_boolL, e_boolT, e_boolC, e_lstN, e_lstB, e_lstI, e_lstS, e_lstL, e_lstT, e_lstC, e_nonN, e_nonB, e_nonI, e_nonS, e_nonL, e_nonT, e_wkS, e_wkL, e_wkT, e_wkC, e_join, e_inS, e_ninS, e_ofI, e_ofB, e_abs, e_lenF, e_ixF, e_itF, e_wkF, e_tfF, e_truF, e_repT, e_keyI, e_keyS]; try simp only [true_and, and_true, Nat.reduceLeDiff, reduceIte, reduceCtorEq, Bool.false_eq_true, if_true, if_false, not_false_eq_true, ite_true, ite_false, and_self])
    refine wh_mk (atI_nat hd) ?_
    have five : s2 = 0 ∨ s2 = 1 ∨ s2 = 2 ∨ s2 = 3 ∨ s2 = 4 := by omega
    rcases five with rfl | rfl | rfl | rfl | rfl
    · refine ⟨eqOk_int _ _, iteY rfl ?_⟩
      refine wh_mk rfl ⟨n, k, _, rfl, mvS.D, .inl ⟨_, rfl, Nat.succ_pos _, (by show 8 < 1000000; decide), fun x S4 hx mv4 => ?_⟩⟩
      have zx : Sz 30 (w + 200) x := all1 (kk (by decide +kernel)) (all1 (kk (by decide +kernel)) (all1 (za.mono (by decide) (by omega)) (all1 (T (sza_cons za (sza_cons zl sza_nil)) (by omega)) (all1 (T (sza_cons za (sza_cons zl (sza_cons zp (sza_cons (k5 (d := .int 0) (by decide +kernel)) sza_nil)))) (by omega)) (all1 ((sz_l (m := 29) (sza_cons za (sza_cons zl (sza_cons zp sza_nil)))).mono (by decide) (by omega)) (all1 (T (sza_cons za (sza_cons zl (sza_cons (k5 (d := .none) (by decide +kernel)) sza_nil))) (by omega)) (all1 (T (sza_cons za (sza_cons zl (sza_cons zpl sza_nil))) (by omega)) all0))))))) x hx
      refine ⟨eqOk_int _ _, iteN (by decide) (iteN (by decide) ⟨eqOk_int _ _, iteN (by decide) ?_⟩)⟩
      exact fin x S4 zx (mvS.trans mv4)
    · refine ⟨eqOk_int _ _, iteN (by decide) ⟨eqOk_int _ _, iteY rfl ?_⟩⟩
      refine ⟨n, k, _, rfl, mvS.D, .inl ⟨_, rfl, by decide, by decide, fun y S4 hy mv4 => ?_⟩⟩
      have zy : Sz 5 20 y := sz_all (by decide +kernel) hy
      have m4 := mvS.trans mv4
      refine ⟨by omega, n, k, _, rfl, m4.D, .inl ⟨_, rfl, Nat.succ_pos _, (by show 4 < 1000000; decide), fun x S5 hx mv5 => ?_⟩⟩
      have zx : Sz 30 (w + 200) x := all1 (T (sza_cons zy (sza_cons zl (sza_cons zp sza_nil))) (by omega)) (all1 (T (sza_cons za (sza_cons zy (sza_cons zp sza_nil))) (by omega)) (all1 (T (sza_cons (k5 (d := .str (sx "")) (by decide +kernel)) (sza_cons zl (sza_cons zp sza_nil))) (by omega)) (all1 (T (sza_cons za (sza_cons zl (sza_cons (sz_t (m := 28) (sza_app hzp (sza_cons (sz_t (m := 5) (sza_cons (k5 (d := .str (sx "node")) (by decide +kernel)) (sza_cons zy (sza_cons (k5 (d := .tuple []) (by decide +kernel)) sza_nil)))) sza_nil))) sza_nil))) (by omega)) all0))) x hx
      refine iteN (by decide) ⟨eqOk_int _ _, iteN (by decide) ?_⟩
      exact fin x S5 zx (m4.trans mv5)
    · refine ⟨eqOk_int _ _, iteN (by decide) ⟨eqOk_int _ _, iteN (by decide) ?_⟩⟩
      refine iteY (by decide) (iteY (by decide) ⟨n, k, _, rfl, mvS.D, .inl ⟨_, rfl, by decide, by decide, fun y S4 hy mv4 => ?_⟩⟩)
      have zy : Sz 5 20 y := sz_all (by decide +kernel) hy
      have m4 := mvS.trans mv4
      dsimp only
      refine ⟨mulOk_one 97 (j := 17) (by decide), mulOk_one 97 (j := 16) (by decide), n, k, _, rfl, m4.D, .inl ⟨_, rfl, Nat.succ_pos _, (by show 8 < 1000000; decide), fun t S5 ht mv5 => ?_⟩⟩
      have zt : Sz 10 100 t := all1 (zy.mono (by decide) (by decide)) (all1 (kc (by decide +kernel)) (all1 (kc (by decide +kernel)) (all1 (kc (by decide +kernel)) (all1 (kc (by decide +kernel)) (all1 (kc (by decide +kernel)) (all1 (kc (by decide +kernel)) (all1 ((sz_t (m := 7) (sza_cons (k5 (d := .str (sx "node")) (by decide +kernel)) (sza_cons (k5 (d := .str (sx "x")) (by decide +kernel)) (sza_cons (sz_t (m := 5) (sza_cons zy sza_nil)) sza_nil)))).mono (by decide) (by decide)) all0))))))) t ht
      have m5 := m4.trans mv5
      refine ⟨by omega, by omega, n, k, _, rfl, m5.D, .inl ⟨_, rfl, Nat.succ_pos _, (by show 4 < 1000000; decide), fun u S6 hu mv6 => ?_⟩⟩
      have zu : Sz 29 (w + 170) u := all1 (U (sza_cons zt sza_nil) (by omega)) (all1 (U (sza_app hzp (sza_cons zt sza_nil)) (by omega)) (all1 (U (sza_cons zt hzp) (by omega)) (all1 (U (sza_cons (sz_t (m := 15) (sza_cons (k5 (d := .str (sx "node")) (by decide +kernel)) (sza_cons (k5 (d := .str (sx "y")) (by decide +kernel)) (sza_cons (sz_t (m := 12) (sza_cons (k5 (d := .tuple [.str (sx "say"), .str (sx "")]) (by decide +kernel)) (sza_cons zt sza_nil))) sza_nil)))) sza_nil) (by omega)) all0))) u hu
      refine ⟨eqOk_int _ _, iteN (by decide) ?_⟩
      exact fin _ S6 (T (sza_cons za (sza_cons zl (sza_cons zu sza_nil))) (by omega)) (m5.trans mv6)
    · refine ⟨eqOk_int _ _, iteN (by decide) ⟨eqOk_int _ _, iteN (by decide) ?_⟩⟩
      refine iteY (by decide) (iteY (by decide) ⟨n, k, _, rfl, mvS.D, .inl ⟨_, rfl, by decide, by decide, fun y S4 hy mv4 => ?_⟩⟩)
      have zy : Sz 5 20 y := sz_all (by decide +kernel) hy
      have m4 := mvS.trans mv4
      dsimp only
      refine ⟨mulOk_one 97 (j := 17) (by decide), mulOk_one 97 (j := 16) (by decide), n, k, _, rfl, m4.D, .inl ⟨_, rfl, Nat.succ_pos _, (by show 8 < 1000000; decide), fun t S5 ht mv5 => ?_⟩⟩
      have zt : Sz 10 100 t := all1 (zy.mono (by decide) (by decide)) (all1 (kc (by decide +kernel)) (all1 (kc (by decide +kernel)) (all1 (kc (by decide +kernel)) (all1 (kc (by decide +kernel)) (all1 (kc (by decide +kernel)) (all1 (kc (by decide +kernel)) (all1 ((sz_t (m := 7) (sza_cons (k5 (d := .str (sx "node")) (by decide +kernel)) (sza_cons (k5 (d := .str (sx "x")) (by decide +kernel)) (sza_cons (sz_t (m := 5) (sza_cons zy sza_nil)) sza_nil)))).mono (by decide) (by decide)) all0))))))) t ht
      have m5 := m4.trans mv5
      refine ⟨by omega, by omega, n, k, _, rfl, m5.D, .inl ⟨_, rfl, Nat.succ_pos _, (by show 4 < 1000000; decide), fun u S6 hu mv6 => ?_⟩⟩
      have zu : Sz 29 (w + 170) u := all1 (U (sza_cons zt sza_nil) (by omega)) (all1 (U (sza_app hzp (sza_cons zt sza_nil)) (by omega)) (all1 (U (sza_cons zt hzp) (by omega)) (all1 (U (sza_cons (sz_t (m := 15) (sza_cons (k5 (d := .str (sx "node")) (by decide +kernel)) (sza_cons (k5 (d := .str (sx "y")) (by decide +kernel)) (sza_cons (sz_t (m := 12) (sza_cons (k5 (d := .tuple [.str (sx "say"), .str (sx "")]) (by decide +kernel)) (sza_cons zt sza_nil))) sza_nil)))) sza_nil) (by omega)) all0))) u hu
      refine ⟨eqOk_int _ _, iteN (by decide) ?_⟩
      exact fin _ S6 (T (sza_cons za (sza_cons zl (sza_cons zu sza_nil))) (by omega)) (m5.trans mv6)
    · refine ⟨eqOk_int _ _, iteN (by decide) ⟨eqOk_int _ _, iteN (by decide) ?_⟩⟩
      refine iteY (by decide) (iteN (by decide) ⟨eqOk_int _ _, iteY (by decide) (wh_mk hat ?_)⟩)
      (dsimp only [dTryAsX, dRetX, dDropX, dSetX, dAsgX, dFnX, dRaise, dTryAs, dTryOnly, dXf, dIsX, dPar3, dFnR, List.reverse_cons, List.reverse_nil, dDelT, mPop0, mPop, mApp, mExt, dFld, dNew, dDGet, dDIn, dZipT, dAll, dTupF, dIdx, dTupRg, dDc, dReprT, dEqT, dNeT, dFor, dLc, dWhile, dRange1, dRange2, dRange3, dEnumT, e_isB, e_tupD, dgUnl, dSeq, dIfS, dSet, dAsg, dRet, dRetN, dDrop, dNext, dPar, dVar, dC, dOp, dB, dTru, dtNot, dtAnd, dtOr, dAnd, dOr, dNot, dIfE, dNeg, dNil, dCons, dTup, dLst, dCel, dNoP, dPart, dSlice, dRevT, dRevL, dCall, on1, dTupOf, dLstOf, dCelOf, dIsi, dName, dgNil, dgCons, dgTup, dFn, dMet, dMet0, gt, st, startD, wh_some, dYes, dEq, dNe, List.map, List.length, List.replicate, List.append, List.cons_append, List.nil_append, dWalk, uns, un, tupNms, dNms, ifT, ifF, List.replicate_succ, List.replicate_zero, Nat.sub_self, Nat.reduceSub, Nat.reduceAdd, Nat.zero_add, Bool.not_true, Bool.not_false, e_addI, e_addS, e_addT, e_addL, e_i2, e_i2c, e_is, e_bool, e_cel, e_strD, e_lenS, e_lenT, e_lenL, e_lenC, e_ixS, e_ixT, e_ixL, e_ixC, e_slS, e_slT, e_slL, e_slC, e_itT, e_itL, e_truN, e_truI, e_truB, e_truL, e_truT, e_okN, e_okB, e_okI, e_okS, e_okL, e_okT, e_okC, e_tupN, e_tupB, e_tupI, e_tupS, e_tupL, e_tupT, e_tupC, e_strN, e_strB, e_strI, e_strS, e_strL, e_strT, e_strC, e_intN, e_intB, e_intI, e_intS, e_intL, e_intT, e_intC, e_boolN, e_boolB, e_boolI, e_boolS, e_boolL, e_boolT, e_boolC, e_lstN, e_lstB, e_lstI, e_lstS, e_lstL, e_lstT, e_lstC, e_nonN, e_nonB, e_nonI, e_nonS, e_nonL, e_nonT, e_wkS, e_wkL, e_wkT, e_wkC, e_join, e_inS, e_ninS, e_ofI, e_ofB, e_abs, e_lenF, e_ixF, e_itF, e_wkF, e_tfF, e_truF, e_repT, e_keyI, e_keyS]; try simp only [true_and, and_true, Nat.reduceLeDiff, reduceIte, reduceCtorEq, Bool.false_eq_true, if_true, if_false, not_false_eq_true, ite_true, ite_false, and_self])
      refine wh_mk (atI_nat (j := 0) rfl) (wh_mk hat ?_)
      (dsimp only [dTryAsX, dRetX, dDropX, dSetX, dAsgX, dFnX, dRaise, dTryAs, dTryOnly, dXf, dIsX, dPar3, dFnR, List.reverse_cons, List.reverse_nil, dDelT, mPop0, mPop, mApp, mExt, dFld, dNew, dDGet, dDIn, dZipT, dAll, dTupF, dIdx, dTupRg, dDc, dReprT, dEqT, dNeT, dFor, dLc, dWhile, dRange1, dRange2, dRange3, dEnumT, e_isB, e_tupD, dgUnl, dSeq, dIfS, dSet, dAsg, dRet, dRetN, dDrop, dNext, dPar, dVar, dC, dOp, dB, dTru, dtNot, dtAnd, dtOr, dAnd, dOr, dNot, dIfE, dNeg, dNil, dCons, dTup, dLst, dCel, dNoP, dPart, dSlice, dRevT, dRevL, dCall, on1, dTupOf, dLstOf, dCelOf, dIsi, dName, dgNil, dgCons, dgTup, dFn, dMet, dMet0, gt, st, startD, wh_some, dYes, dEq, dNe, List.map, List.length, List.replicate, List.append, List.cons_append, List.nil_append, dWalk, uns, un, tupNms, dNms, ifT, ifF, List.replicate_succ, List.replicate_zero, Nat.sub_self, Nat.reduceSub, Nat.reduceAdd, Nat.zero_add, Bool.not_true, Bool.not_false, e_addI, e_addS, e_addT, e_addL, e_i2, e_i2c, e_is, e_bool, e_cel, e_strD, e_lenS, e_lenT, e_lenL, e_lenC, e_ixS, e_ixT, e_ixL, e_ixC, e_slS, e_slT, e_slL, e_slC, e_itT, e_itL, e_truN, e_truI, e_truB, e_truL, e_truT, e_okN, e_okB, e_okI, e_okS, e_okL, e_okT, e_okC, e_tupN, e_tupB, e_tupI, e_tupS, e_tupL, e_tupT, e_tupC, e_strN, e_strB, e_strI, e_strS, e_strL, e_strT, e_strC, e_intN, e_intB, e_intI, e_intS, e_intL, e_intT, e_intC, e_boolN, e_boolB, e_boolI, e_boolS, e_boolL, e_boolT, e_boolC, e_lstN, e_lstB, e_lstI, e_lstS, e_lstL, e_lstT, e_lstC, e_nonN, e_nonB, e_nonI, e_nonS, e_nonL, e_nonT, e_wkS, e_wkL, e_wkT, e_wkC, e_join, e_inS, e_ninS, e_ofI, e_ofB, e_abs, e_lenF, e_ixF, e_itF, e_wkF, e_tfF, e_truF, e_repT, e_keyI, e_keyS]; try simp only [true_and, and_true, Nat.reduceLeDiff, reduceIte, reduceCtorEq, Bool.false_eq_true, if_true, if_false, not_false_eq_true, ite_true, ite_false, and_self])
      refine wh_mk (atI_nat (j := 1) rfl) ⟨n, k, _, rfl, mvS.D, .inl ⟨_, rfl, Nat.succ_pos _, (by show 5 < 1000000; decide), fun x S4 hx mv4 => ?_⟩⟩
      have zx : Sz 30 (w + 200) x := all1 (T (sza_cons za2 (sza_cons zl2 (sza_cons zp sza_nil))) (by omega)) (all1 (kk (by decide +kernel)) (all1 (T (sza_cons za (sza_cons (k5 (d := .str (sx "")) (by decide +kernel)) (sza_cons (k5 (d := .tuple []) (by decide +kernel)) sza_nil))) (by omega)) (all1 (T (sza_cons za (sza_cons (k5 (d := .str (sx "zz")) (by decide +kernel)) (sza_cons zp sza_nil))) (by omega)) (all1 (T (sza_cons (k5 (d := .str (sx "zz")) (by decide +kernel)) (sza_cons zl (sza_cons zp sza_nil))) (by omega)) all0)))) x hx
      exact fin x S4 zx (mvS.trans mv4)
end
end K3

/-! sets of any kind of keys whose members can be walked; set(xs) and sorted(s) of texts -/
namespace SetW
open PySem L2 PyProof.Rows
section
variable {P : Program} {w : World} {K : Type} [DecidableEq K] {knd : PySem.KeyKind P w K}
/-- at a: a set whose members are those of L, in some order -/
def At (knd : PySem.KeyKind P w K) (h : Heap) (a : Addr) (L : List Value) : Prop :=
  ∃ o es ep t, h.get? a = some o ∧ o.ExactSet ∧ o.data = .set es ep t ∧ ElemsOf knd es.toList ∧ (es.toList.map (·.2)).Perm L ∧ es.size < scanBound ∧ t.fits es.size = true ∧ Ris t.place.toList ∧ (w.params.followText "set-order" = true ∨ t.led = true)
theorem At.keep {h h' : Heap} {a : Addr} {L : List Value} (x : At knd h a L) (k : ∀ o, h.get? a = some o → h'.get? a = some o) : At knd h' a L := by
  obtain ⟨o, es, ep, t, ho, r⟩ := x
  exact ⟨o, es, ep, t, k o ho, r⟩
theorem len_of {es : Array (Int × Value)} {L : List Value} (p : (es.toList.map (·.2)).Perm L) : es.size = L.length := by
  have := p.length_eq
  rw [List.length_map, Array.length_toList] at this
  exact this
variable {A : Around} {E : Value → Shared → Prop} {s : Shared} {a : Addr} {L : List Value}
/-- what stands behind the laying of a new member -/
theorem tail_at {g : Bool → Sem Unit} (hg : ∀ (b : Bool) (s₁ : Shared) (Q' : Unit → Shared → Prop), Q' () s₁ → wpAny (model P w) A (g b) Q' E s₁)
    {o : Obj} {es es1 : Array (Int × Value)} {ep : Nat} {t t2 : SetTable} (ho : s.heap.get? a = some o) (hex : o.ExactSet) (hd : o.data = .set es ep t)
    (hel : ElemsOf knd es1.toList) (hp : (es1.toList.map (·.2)).Perm L) (hb : es1.size < scanBound) (hf : t2.fits es1.size = true) (hr : Ris t2.place.toList) (hl : w.params.followText "set-order" = true ∨ t2.led = true) {wasDummy : Bool} {R : Option Bool → Shared → Prop}
    (hR : ∀ h', Heap.SameBut a s.heap h' → At knd h' a L → R (some true) { s with heap := h' }) :
    wpAny (model P w) A (do
        storeSet a es1 t2
        if (!wasDummy && t2.tooFull) = true then do
            g (relayAll t2 es1 (SetTable.grown es1.size)).2.2
            storeSet a (relayAll t2 es1 (SetTable.grown es1.size)).1 (relayAll t2 es1 (SetTable.grown es1.size)).2.1
            pure (some true)
          else pure (some true)) R E s := by
  refine wpAny_bind (wpAny_storeSet_of ho hd ?_ (fits_of_scanBound hb))
  have ho1 := store_at (es' := es1) (t' := t2) ho hd
  have sb := Heap.SameBut.update s.heap a (Obj.putSet es1 t2)
  split
  · have a1 := relayAll_perm t2 es1 (SetTable.grown es1.size)
    have a2 := relayAll_fits t2 es1 (SetTable.grown es1.size)
    have a3 := relayAll_ris t2 es1 (SetTable.grown es1.size)
    have a4 := relayAll_led t2 es1 (SetTable.grown es1.size)
    generalize relayAll t2 es1 (SetTable.grown es1.size) = Z at a1 a2 a3 a4 ⊢
    obtain ⟨es2, t3, gave⟩ := Z
    dsimp only at a1 a2 a3 a4 ⊢
    have hz : es2.size = es1.size := by rw [← Array.length_toList, a1.length_eq, Array.length_toList]
    have hb2 : es2.size < scanBound := by rw [hz]; exact hb
    refine wpAny_bind (hg _ _ _ (wpAny_bind (wpAny_storeSet_of ho1 rfl ?_ (fits_of_scanBound hb2))))
    have ho2 := store_at (es' := es2) (t' := t3) ho1 rfl
    exact wpAny_pure (hR _ (sb.trans (Heap.SameBut.update _ a _)) ⟨_, es2, _, t3, ho2, hex, rfl, hel.perm a1, (a1.map (·.2)).trans hp, hb2, a2, a3, hl.imp id fun z => by rw [a4]; exact z⟩)
  · exact wpAny_pure (hR _ sb ⟨_, es1, _, t2, ho1, hex, rfl, hel, hp, hb, hf, hr, hl⟩)
/-- a key is added -/
theorem add_at {k : K} {v : Value} {Q : Bool → Shared → Prop} (x : At knd s.heap a L) (hkey : knd.is k v = true) (hsc : v.scannable = true) (room : L.length + 1 < scanBound)
    (h1 : (∃ u ∈ L, knd.is k u = true) → Q false s) (h2 : (∀ u ∈ L, knd.is k u = false) → ∀ h', Heap.SameBut a s.heap h' → At knd h' a (v :: L) → Q true { s with heap := h' }) :
    wpAny (model P w) A (setAddHashed a v (knd.hash k)) Q E s := by
  obtain ⟨o, es, ep, t, ho, hex, hd, hel, hp, hb, hf, hr, hl⟩ := x
  unfold setAddHashed setAddHashedIn
  refine wpAny_holding (wpAny_bind (wpAny_setState_of ho hd hf ?_))
  dsimp only
  rw [byScan_of hsc hb hel]
  simp only [↓reduceIte]
  unfold setAddByScan
  refine wpAny_bind (wpAny_bind (wpAny_rule (wpAny_bind (wpAny_setScan_of hkey ho hd hf hel ?_))))
  cases hfi : List.findIdx? (fun e => knd.is k e.2) es.toList with
  | some j =>
    obtain ⟨hj, pj, _⟩ := List.findIdx?_eq_some_iff_getElem.mp hfi
    exact wpAny_pure (wpAny_pure (h1 ⟨es.toList[j].2, hp.mem_iff.mp (List.mem_map.mpr ⟨_, List.getElem_mem hj, rfl⟩), pj⟩))
  | none =>
    dsimp only
    have hno : ∀ u ∈ L, knd.is k u = false := fun u hu => by
      obtain ⟨e, he, rfl⟩ := List.mem_map.mp (hp.mem_iff.mpr hu)
      exact List.findIdx?_eq_none_iff.mp hfi e he
    have a1 := layNew_perm t es (knd.hash k) v
    have a2 := layNew_fits t es (knd.hash k) v
    have a3 := layNew_ris t es (knd.hash k) v hr
    have a4 := layNew_led t es (knd.hash k) v
    generalize layNew t es (knd.hash k) v = Z at a1 a2 a3 a4 ⊢
    obtain ⟨es1, t1, wasDummy, gave⟩ := Z
    dsimp only at a1 a2 a3 a4 ⊢
    rw [Array.toList_push] at a1
    have pc : (es1.toList.map (·.2)).Perm (v :: L) := by
      have z := (a1.trans (List.perm_append_singleton _ _)).map (·.2)
      rw [List.map_cons] at z
      exact z.trans (hp.cons v)
    have hel1 : ElemsOf knd es1.toList := (hel.push hkey hsc).perm a1
    have hz : es1.size = L.length + 1 := by rw [len_of pc, List.length_cons]
    have hb1 : es1.size < scanBound := by rw [hz]; exact room
    have hl1 : w.params.followText "set-order" = true ∨ t1.led = true := hl.imp id fun z => by rw [a4]; exact z
    have gw : ∀ (b : Bool) {s₁ : Shared} {Q' : Unit → Shared → Prop}, Q' () s₁ → wpAny (model P w) A (match b with | true => rule "set.scan.the-table-gave-way" | false => pure ()) Q' E s₁ := fun b s₁ Q' q => by
      cases b <;> first | exact wpAny_pure q | exact wpAny_rule q
    refine wpAny_bind (gw _ ?_)
    split
    · refine wpAny_bind ?_
      rw [hashByValue_scannable 8 hsc]
      refine wpAny_pure ?_
      refine tail_at ?_ ho hex hd hel1 pc hb1 ?_ ?_ ?_ ?_
      · intro b s₁ Q' q
        cases b <;> first | exact wpAny_pure q | exact wpAny_rule q
      · first | (split <;> first | exact a2 | exact SetTable.fits_plain_off a2) | exact a2
      · first | (split <;> exact a3) | exact a3
      · first | (split <;> exact hl1) | exact hl1
      · intro h' sb r
        dsimp only
        exact wpAny_pure (h2 hno h' sb r)
    · refine wpAny_bind (wpAny_pure ?_)
      simp only [↓reduceIte]
      refine tail_at ?_ ho hex hd hel1 pc hb1 a2 a3 hl1 ?_
      · intro b s₁ Q' q
        cases b <;> first | exact wpAny_pure q | exact wpAny_rule q
      · intro h' sb r
        dsimp only
        exact wpAny_pure (h2 hno h' sb r)
/-- L holds one of each key of vs -/
structure Of (ky : Value → K) (vs L : List Value) : Prop where
  sub : ∀ u ∈ L, u ∈ vs
  all : ∀ v ∈ vs, ∃ u ∈ L, ky u = ky v
  nd : (L.map ky).Nodup
theorem Of.nil {ky : Value → K} : Of ky [] [] := ⟨fun _ h => h, fun _ h => by simp at h, List.nodup_nil⟩
theorem Of.same {ky : Value → K} {vs L : List Value} {v u : Value} (o : Of ky vs L) (hu : u ∈ L) (e : ky u = ky v) : Of ky (vs ++ [v]) L := ⟨fun x hx => List.mem_append_left _ (o.sub x hx), fun x hx => by
  rcases List.mem_append.mp hx with h | h
  · exact o.all x h
  · rw [List.mem_singleton.mp h]; exact ⟨u, hu, e⟩, o.nd⟩
theorem Of.more {ky : Value → K} {vs L : List Value} {v : Value} (o : Of ky vs L) (n : ∀ u ∈ L, ky u ≠ ky v) : Of ky (vs ++ [v]) (v :: L) := ⟨fun x hx => by
  rcases List.mem_cons.mp hx with h | h
  · rw [h]; exact List.mem_append_right _ (List.mem_singleton.mpr rfl)
  · exact List.mem_append_left _ (o.sub x h), fun x hx => by
  rcases List.mem_append.mp hx with h | h
  · obtain ⟨u, hu, e⟩ := o.all x h
    exact ⟨u, List.mem_cons_of_mem _ hu, e⟩
  · rw [List.mem_singleton.mp h]; exact ⟨v, List.mem_cons_self, rfl⟩, by
  rw [List.map_cons]
  refine List.nodup_cons.mpr ⟨fun h => ?_, o.nd⟩
  obtain ⟨u, hu, e⟩ := List.mem_map.mp h
  exact n u hu e⟩
end
section
variable {P : Program} {w : World} {K : Type} [DecidableEq K] {knd : PySem.KeyKind P w K} {A : Around} {R : Result → Shared → Prop} {I : Addr} {fp wr : List Addr} {G : Array GenState → Array GenState → Prop} {n : Nat} {Pv : Nat → Value → Prop} {St : Nat → Shared → Prop}
/-- all that an iterator gives is added -/
theorem loop_at (W : WalksS P w A.in1 I fp wr G n Pv St) (S : Addr) (hSf : S ∉ fp) {vs : List Value} {ky : Value → K} (hval : ∀ i v, Pv i v → vs[i]? = some v) (hk : ∀ v ∈ vs, knd.is (ky v) v = true ∧ v.scannable = true) (hb : n + 1 < scanBound) :
    ∀ (k i : Nat) (s : Shared) (L : List Value), n - i = k → i ≤ n → St i s → At knd s.heap S L → Of ky (vs.take i) L → L.length ≤ i →
      (∀ s' L', Moved (S :: wr) G s s' → At knd s'.heap S L' → Of ky (vs.take n) L' → R (.ok (.ret .none)) s') →
      codeAny (model P w) A (.builtin "set.update.loop" ⟨[.ref S, .ref I], []⟩) R s := by
  have hSw : S ∉ wr := fun h => hSf (W.sub _ h)
  have hsub : ∀ b ∈ wr, b ∈ S :: wr := fun b hb => List.mem_cons_of_mem _ hb
  intro k
  induction k with
  | zero =>
    intro i s L hn hi hst hS hO hl hR
    have hin : i = n := by omega
    subst hin
    refine codeAny_builtin F.entry_set_update_loop ?_
    rw [Around.under_plainId F.plain_set_update_loop _]
    show wpAny _ A.in1 (pyNext (.ref I) >>= _) _ _ s
    refine wpAny_bind (W.done s _ _ hst fun s' hm => ?_)
    show wpAny _ A.in1 (ret Value.none) _ _ s'
    exact wpAny_pure (hR s' L (hm.mono hsub) (hS.keep fun o e => hm.heap S _ hSw e) hO)
  | succ k ih =>
    intro i s L hn hi hst hS hO hl hR
    have hlt : i < n := by omega
    refine codeAny_builtin F.entry_set_update_loop ?_
    rw [Around.under_plainId F.plain_set_update_loop _]
    show wpAny _ A.in1 (pyNext (.ref I) >>= _) _ _ s
    refine wpAny_bind (W.item i s _ _ hlt hst fun v s' hP hst' hm => ?_)
    have hv := hval i v hP
    have hvm : v ∈ vs := List.mem_of_getElem? hv
    obtain ⟨hkey, hsc⟩ := hk v hvm
    have hS' : At knd s'.heap S L := hS.keep fun o e => hm.heap S _ hSw e
    have et : vs.take (i + 1) = vs.take i ++ [v] := by
      rw [List.take_succ, hv]
      rfl
    show wpAny _ A.in1 (holding [v] (setAdd S v) >>= _) _ _ s'
    refine wpAny_bind (wpAny_holding ?_)
    unfold setAdd
    refine wpAny_holding ?_
    refine wpAny_bind (knd.pyHash (k := ky v) hkey ?_)
    have iself : ∀ u ∈ L, knd.is (ky u) u = true := fun u hu => (hk u (List.mem_of_mem_take (hO.sub u hu))).1
    refine add_at (s := { s' with toks := s'.toks + 1 }) hS' hkey hsc (by omega) (fun hx => ?_) fun hno h' sb hS2 => ?_
    · obtain ⟨u, hu, e⟩ := hx
      have ek : ky u = ky v := knd.inj u _ _ (iself u hu) e
      refine wpAny_pure ⟨plainId_quiet F.plain_set_update_loop _, ih (i + 1) _ L (by omega) hlt (W.frame _ s' _ _ hst' (Nat.le_succ _) fun b hb o e => e) hS' (by rw [et]; exact hO.same hu ek) (by omega) fun s'' L' hm'' hS'' hO' => ?_⟩
      exact hR s'' L' (Moved.trans W.gtrans ((hm.mono hsub).then_heap (Nat.le_succ _) fun b o hb e => e) hm'') hS'' hO'
    · have ne : ∀ u ∈ L, ky u ≠ ky v := fun u hu e => by
        have a := iself u hu
        rw [e, hno u hu] at a
        cases a
      refine wpAny_pure ⟨plainId_quiet F.plain_set_update_loop _, ih (i + 1) _ (v :: L) (by omega) hlt (W.frame _ s' _ _ hst' (Nat.le_succ _) fun b hb o e => ?_) hS2 (by rw [et]; exact hO.more ne) (by rw [List.length_cons]; omega) fun s'' L' hm'' hS'' hO' => ?_⟩
      · rw [sb.2 b (fun h : b = S => hSf (by rw [← h]; exact hb))]; exact e
      · refine hR s'' L' (Moved.trans W.gtrans ((hm.mono hsub).then_heap (Nat.le_succ _) fun b o hb e => ?_) hm'') hS'' hO'
        rw [sb.2 b (fun h : b = S => hb (by rw [h]; exact List.mem_cons_self))]; exact e
end
section
variable {P : Program} {w : World} {K : Type} [DecidableEq K] {knd : PySem.KeyKind P w K} {A : Around} {E : Value → Shared → Prop} {s : Shared}
/-- a set without members, as it is made -/
abbrev freshO (w : World) : Obj := { cls := .type "set", dict := none, data := .set #[] 0 (.fresh 0 0 (!w.params.followText "set-order")) }
theorem fresh_at {h : Heap} {a : Addr} (e : h.get? a = some (freshO w)) : At knd h a [] := ⟨_, #[], 0, _, e, ⟨rfl, rfl, rfl⟩, rfl, (fun e he => by simp at he), List.Perm.refl _, by decide, by rfl, List.Pairwise.nil, by
  show _ ∨ (!w.params.followText "set-order") = true
  cases w.params.followText "set-order"
  · exact .inr rfl
  · exact .inl rfl⟩
theorem new_at (a : Value) {Q₁ : Value → Shared → Prop} (h : Q₁ (.ref s.heap.objs.size) { s with heap := s.heap.push (freshO w) }) :
    codeAny (model P w) A (.call (.builtin "set.__new__") ⟨[.type "set", a], []⟩) (wants Q₁ E) s := by
  refine codeAny_of_tree ?_
  show wpAny _ A.in1 (do checkBuiltinCall "set.__new__" ⟨[.type "set", a], []⟩; again (.builtin "set.__new__" ⟨[.type "set", a], []⟩)) _ _ s
  refine wpAny_bind (wpAny_of_eq (PySem.F.newCall_set_1 a) (wpAny_pure ⟨plainId_quiet PySem.F.plain_set_new _, codeAny_builtin PySem.F.entry_set_new ?_⟩))
  rw [Around.under_plainId PySem.F.plain_set_new _]
  unfold Builtin.«set.__new__» Builtin.Frozenset.newClass
  have hsub := sub_set_self
  obtain ⟨hp, g, d, tk, os⟩ := s
  dsimp only
  wp_walk
  refine wpAny_askSetting (wpAny_pure ?_)
  dsimp only
  simp only [newObj]
  exact wpAny_bind (wpAny_alloc (wpAny_pure (wpAny_pure h)))
/-- set(xs), xs a list -/
theorem call_list {l : Addr} {items : Array Value} {ky : Value → K} {Q : Value → Shared → Prop} (hh : A.handled = none) (hl : s.heap.IsList l items) (hk : ∀ v ∈ items.toList, knd.is (ky v) v = true ∧ v.scannable = true) (hb : items.size + 1 < scanBound)
    (h : ∀ (h' : Heap) (tk : Nat) (L : List Value), At knd h' s.heap.objs.size L → Of ky items.toList L → (∀ b o, b < s.heap.objs.size → s.heap.get? b = some o → h'.get? b = some o) → Q (.ref s.heap.objs.size) { s with heap := h', toks := tk }) :
    wpAny (model P w) A (call (.type "set") [.ref l]) Q E s := by
  obtain ⟨c, tl, hmro⟩ := PySem.F.called_set.mro
  have hmade := PySem.F.called_set.made
  have hsub := PySem.F.called_set.sub
  refine wpAny_call (codeAny_of_tree ?_)
  show wpAny _ _ (callAny (.type "set") _) _ _ _
  refine wpAny_pure ⟨Code.quiet_builtin _ (by decide +kernel), codeAny_builtin PySem.F.entry_type_call ?_⟩
  rw [Around.under_plain (weight_type_call_type "set" [.ref l] []) rfl]
  have h1 := PySem.F.called_set.notType
  have h2 := PySem.F.called_set.canCreate
  have hct := PySem.F.typeCall_set_1 (.ref l)
  repeat (any_goals (first | assumption | wp_step))
  refine codeAny_mono (new_at (.ref l) (E := E) (Q₁ := fun obj s₁ => obj = .ref s.heap.objs.size ∧ s₁ = { s with heap := s.heap.push (freshO w) }) ⟨rfl, rfl⟩) fun r s₁ hr => ?_
  cases r with
  | error e => exact hr
  | ok fl =>
    cases fl with
    | ret obj =>
      obtain ⟨rfl, rfl⟩ := hr
      have hS : (s.heap.push (freshO w)).get? s.heap.objs.size = some (freshO w) := Heap.get?_push_size _ rfl
      have hT : Shared.TypeIs { s with heap := s.heap.push (freshO w) } (.ref s.heap.objs.size) "set" := ⟨_, hS, rfl⟩
      have hli := PySem.F.called_set.init.lookup
      have hbi := PySem.F.called_set.init.bind (.ref s.heap.objs.size)
      repeat (any_goals (first | assumption | wp_step))
      refine codeAny_mono (codeAny_call_builtin (R := wants (fun r s₂ => r = .none ∧ ∃ h' tk L, s₂ = { s with heap := h', toks := tk } ∧ At knd h' s.heap.objs.size L ∧ Of ky items.toList L ∧
          (∀ b o, b < s.heap.objs.size → s.heap.get? b = some o → h'.get? b = some o)) E) PySem.F.called_set.init.plain PySem.F.entry_set_init (check_set_init_1 hT ?_)) fun r₂ s₂ hr₂ => ?_
      · obtain ⟨ol, hol, hcl, nl, hdl⟩ := hl
        obtain ⟨ocls, odict, odata, oslots⟩ := ol
        simp only at hcl hdl
        subst hcl; subst hdl
        have hol' : (s.heap.push (freshO w)).get? l = some { cls := .type "list", dict := odict, data := .seq items nl, slots := oslots } := Heap.get?_push_of_some _ hol
        have hsls := PySem.F.sub_list_set
        have hslf := PySem.F.sub_list_frozenset
        have hne : (Value.type "list" == Value.type "dict") = false := by decide
        have hl1 : (s.heap.push (freshO w)).IsList l items := ⟨_, hol', rfl, nl, rfl⟩
        unfold Builtin.«set.__init__» noKeywords Builtin.Frozenset.updateFrom
        generalize hPI : pyIter = PI
        wp_walk
        subst hPI
        refine wpAny_pyIter_list hl1 ?_
        refine wpAny_bind (wpAny_runValue ?_)
        have hlS : l < s.heap.objs.size := Heap.lt_size hol
        have hh3 : A.in1.in1.in1.handled = none := by simp [hh]
        have hneI : l ≠ (s.heap.push (freshO w)).objs.size := by
          rw [Heap.size_push]; exact Nat.ne_of_lt (Nat.lt_succ_of_lt hlS)
        have hSf : s.heap.objs.size ∉ [(s.heap.push (freshO w)).objs.size, l] := by
          rw [Heap.size_push]; simp only [List.mem_cons, List.mem_singleton, List.not_mem_nil, or_false, not_or]
          exact ⟨Nat.ne_of_lt (Nat.lt_succ_self _), Nat.ne_of_gt hlS⟩
        refine loop_at (knd := knd) (ky := ky) (vs := items.toList) ((Walks.list hh3 _ l hneI items).toS) s.heap.objs.size hSf (fun i v hv => by rw [Array.getElem?_toList]; exact hv) hk hb (items.size - 0) 0 _ [] (by omega) (Nat.zero_le _)
          ⟨⟨_, Heap.get?_push_size _ rfl, rfl, rfl⟩, (hl1.push _)⟩ (fresh_at (Heap.get?_push_of_some _ hS)) (by rw [List.take_zero]; exact Of.nil) (Nat.le_refl _) fun s' L' hm hS' hO' => ?_
        obtain ⟨h', g', d', tk', os'⟩ := s'
        have eg : g' = s.gens := hm.gens
        have ed : d' = s.drawn := hm.drawn
        have eo : os' = s.os := hm.os
        subst eg; subst ed; subst eo
        rw [List.take_of_length_le (by rw [Array.length_toList]; exact Nat.le_refl _)] at hO'
        show wpAny _ _ _ _ _ _
        refine wpAny_pure ?_
        show wpAny _ _ (ret Value.none) _ _ _
        refine wpAny_pure ⟨rfl, h', tk', L', rfl, hS', hO', fun b o hb e => ?_⟩
        have hb1 : b ≠ s.heap.objs.size := Nat.ne_of_lt hb
        have hb2 : b ≠ (s.heap.push (freshO w)).objs.size := by
          rw [Heap.size_push]; exact Nat.ne_of_lt (Nat.lt_succ_of_lt hb)
        exact hm.heap b o (by simp only [List.mem_cons, List.mem_singleton, List.not_mem_nil, or_false, not_or]; exact ⟨hb1, hb2⟩) (Heap.get?_push_of_some _ (Heap.get?_push_of_some _ e))
      · cases r₂ with
        | error e => exact hr₂
        | ok fl₂ =>
          cases fl₂ with
          | ret r =>
            obtain ⟨rfl, h', tk, L, rfl, hS', hO', hk'⟩ := hr₂
            repeat (any_goals (first | assumption | wp_step))
            exact h _ _ _ hS' hO' hk'
          | _ => exact hr₂.elim
    | _ => exact hr.elim
end
end SetW

/-! sorted(set(xs)), xs a list of texts -/
namespace SetW
open PySem L2 PyProof.Rows
section
variable {P : Program} {w : World} {A : Around} {E : Value → Shared → Prop} {s : Shared} {a : Addr} {L : List Value}
theorem sorted_at {ss : List Str} {Q : Value → Shared → Prop} (x : At (PySem.strKind P w) s.heap a L) (hs : StrsAre L ss) (hh : A.handled = none) (h64 : L.length < 64)
    (hQ : ∀ s' p (out : Array Value) (c : Nat) (ys : List Str), (∀ b o, s.heap.get? b = some o → s'.heap.get? b = some o) → s'.gens = s.gens → s'.os = s.os → s.heap.objs.size ≤ p →
      s'.heap.get? p = some (seqObj "list" out c) → StrsAre out.toList ys → ys.Perm ss → sortedS ys = true → Q (.ref p) s') :
    wpAny (model P w) A (call (.builtin "sorted") [.ref a]) Q E s := by
  obtain ⟨o, es, ep, t, ho, hex, hd, hel, hp, hb, hf, hr, hl⟩ := x
  refine Calls.call_function_entry kind_sorted plain_sorted entry_sorted (args_sorted1 _) ?_
  unfold Builtin.«sorted»
  refine wpAny_bind (m := checkCount "sorted" 1 1 _) (wpAny_pure ?_)
  refine wpAny_bind (collect_set (A := A.in1) hh ⟨o, ho, hex.1, hd⟩ hf hb hr hl fun s1 vs k1 hz g1 o1 pm => ?_)
  have pL : vs.Perm L := pm.trans hp
  have hvs : StrsAre vs (vs.map strOf) := strsAre_map vs fun v hv => hs.all v (pL.mem_iff.mp hv)
  have ps : (vs.map strOf).Perm ss := by
    have z := pL.map strOf
    rw [hs.strs] at z
    exact z
  have hvl : vs.length < 64 := by rw [pL.length_eq]; exact h64
  refine wpAny_bind (wpAny_newList ?_ (by rw [sizeLine_eq]; omega))
  have hoL : (s1.heap.push (seqObj "list" vs.toArray 0)).get? s1.heap.objs.size = some (seqObj "list" vs.toArray 0) := Heap.get?_push_size _ rfl
  refine wpAny_bind (wpAny_holding (wpAny_call_entry slot_list_sort ⟨_, hoL, rfl⟩ entry_list_sort (list_sort_treeK strKind_oneLt hoL hvs.keysOf (fun v₁ v₂ rest e => keyKind_strs (by rw [← e]; exact hvs)) hvl fun st' a1 a2 => ⟨_, rfl, ?_⟩) (args_list_sort _)))
  obtain ⟨ys, b1, b2, b3⟩ := sorted_out_str hvs a1 a2
  generalize (arrOf st').map (·.2) = out at b1 ⊢
  obtain ⟨c, hc⟩ := sortedHeap_at (vs := vs) (out := out) hoL
  refine wpAny_pure ⟨_, rfl, hQ _ s1.heap.objs.size out c ys (fun b u e => ?_) g1 o1 hz hc b1 (b2.trans ps) b3⟩
  have q := k1 b u e
  have hlt := Heap.lt_size q
  show (sortedHeap (s1.heap.push (seqObj "list" vs.toArray 0)) s1.heap.objs.size vs out).get? b = some u
  rw [sortedHeap_old (Nat.ne_of_lt hlt) (by rw [size_push']; exact Nat.lt_succ_of_lt hlt)]
  exact Heap.get?_push_of_some _ q
end
end SetW
namespace K3
open PySem L2 Xr K1
theorem nodup_le {α : Type} [DecidableEq α] : ∀ (l D : List α), l.Nodup → (∀ x ∈ l, x ∈ D) → l.length ≤ D.length
  | [], D, _, _ => Nat.zero_le _
  | x :: l, D, h, m => by
    obtain ⟨n, h⟩ := List.nodup_cons.mp h
    have hx : x ∈ D := m x List.mem_cons_self
    have := nodup_le l (D.erase x) h fun y hy => by
      have ne : y ≠ x := fun e => n (e ▸ hy)
      exact (List.mem_erase_of_ne ne).mpr (m y (List.mem_cons_of_mem _ hy))
    rw [List.length_erase_of_mem hx] at this
    have p := List.length_pos_of_mem hx
    show l.length + 1 ≤ D.length
    omega
/-- at a: a set of these texts (xs may hold one of them twice) -/
def SetT (P : Program) (w : World) (a : Addr) (xs : List Str) : HO := .ext fun h => ∃ (L : List Value) (ss : List Str), SetW.At (PySem.strKind P w) h a L ∧ PyProof.Rows.StrsAre L ss ∧ ss.Nodup ∧ (∀ z, z ∈ ss ↔ z ∈ xs) ∧ ss.length ≤ xs.length
def rSetT (P : Program) (w : World) (K : PySem.W.Frag) : List V → Hp → VK → Prop := fun vs H Q => ∃ (l : Addr) (xs : List Str), vs = [V.ref l] ∧ SqL K H l (xs.map V.str) ∧ xs.length < 1000 ∧ ∀ p, H p = none → Q (.ref p) (upd H p (SetT P w p xs))
def rSortSetT (P : Program) (w : World) : List V → Hp → VK → Prop := fun vs H Q => ∃ (a : Addr) (xs : List Str), vs = [V.ref a] ∧ H a = some (SetT P w a xs) ∧ xs.length < 64 ∧
  ∀ (ys : List Str) (p : Addr), ys.Nodup → (∀ z, z ∈ ys ↔ z ∈ xs) → PyProof.Rows.sortedS ys = true → H p = none → Q (.ref p) (upd H p (.lst (ys.map V.str)))
section
variable {X : Cx}
theorem setT_new {P : Program} {w : World} {H : Hp} {h : Heap} {a : Addr} {xs : List Str} (R : ∃ (L : List Value) (ss : List Str), SetW.At (PySem.strKind P w) h a L ∧ PyProof.Rows.StrsAre L ss ∧ ss.Nodup ∧ (∀ z, z ∈ ss ↔ z ∈ xs) ∧ ss.length ≤ xs.length) : ObjOk P w H h a (SetT P w a xs) := by
  have ⟨L, ss, ⟨o, _, _, _, ho, _⟩, _⟩ := R
  exact ⟨R, ⟨o, ho⟩, fun h1 h2 p k => by
    obtain ⟨L, ss, x, r⟩ := p
    exact ⟨L, ss, x.keep k, r⟩⟩
theorem strs_all {vs : List Value} {xs : List Str} (h : PyProof.Rows.StrsAre vs xs) : ∀ v ∈ vs, (PySem.strKind P w).is (PyProof.Rows.strOf v) v = true ∧ v.scannable = true := fun v hv => by
  obtain ⟨z, t, rfl⟩ := h.all v hv
  exact ⟨strKind_is _ _ _ _, rfl⟩
theorem cr_setT (hc : X.calm = true) : CallR X (.type "set") (rSetT X.prog X.w X.K) := by
  intro pins s σ H vs us Q I r h
  obtain ⟨l, xs, rfl, hs, hx, q⟩ := h
  obtain ⟨its, rv, hl, hz⟩ := I.list hs
  rw [Vals.ref1 r]
  have hi := rv.strs
  have len := rv.length
  rw [List.length_map] at len
  refine SetW.call_list (knd := PySem.strKind X.prog X.w) (ky := PyProof.Rows.strOf) (I.ok.hd hc) hl.isList (strs_all hi) (by show its.toArray.size + 1 < scanBound; unfold scanBound; simp; omega) fun h' tk L hS hO k => ?_
  have hL : PyProof.Rows.StrsAre L (L.map PyProof.Rows.strOf) := PyProof.Rows.strsAre_map L fun v hv => hi.all v (hO.sub v hv)
  have mem : ∀ z, z ∈ L.map PyProof.Rows.strOf ↔ z ∈ xs := fun z => by
    constructor
    · intro hz
      obtain ⟨v, hv, rfl⟩ := List.mem_map.mp hz
      rw [← hi.strs]
      exact List.mem_map.mpr ⟨v, hO.sub v hv, rfl⟩
    · intro hz
      rw [← hi.strs] at hz
      obtain ⟨v, hv, rfl⟩ := List.mem_map.mp hz
      obtain ⟨u, hu, e⟩ := hO.all v hv
      exact List.mem_map.mpr ⟨u, hu, e⟩
  have le : (L.map PyProof.Rows.strOf).length ≤ xs.length := nodup_le _ _ hO.nd fun z hz => (mem z).mp hz
  exact ⟨.ref _, upd H s.heap.objs.size (SetT X.prog X.w s.heap.objs.size xs), I.laid (t' := tk) (fun b u e => k b u (Heap.lt_size e) e) (Nat.le_refl _) (setT_new ⟨L, _, hS, hL, hO.nd, mem, le⟩), rfl, q _ (I.hok.fresh (Nat.le_refl _))⟩
theorem cr_sortSetT (hc : X.calm = true) : CallR X (.builtin "sorted") (rSortSetT X.prog X.w) := by
  intro pins s σ H vs us Q I r h
  obtain ⟨a, xs, rfl, ha, h64, q⟩ := h
  obtain ⟨L, ss, x, hs, nd, mem, le⟩ := (I.hok a _ ha).1
  rw [Vals.ref1 r]
  have lL : L.length = ss.length := hs.length
  refine SetW.sorted_at x hs (I.ok.hd hc) (by omega) fun s' p out c ys k g o hp hg hi pm so => ?_
  have hlen : (ys.map V.str).length ≤ sizeLine := by rw [List.length_map, pm.length_eq, sizeLine_eq]; omega
  have hn : H p = none := I.hok.fresh hp
  have J : Inv X pins σ (upd H p (.lst (ys.map V.str))) { s with heap := s'.heap, gens := s'.gens, drawn := s'.drawn, toks := s'.toks } :=
    I.call (ch := []) (Un.laid k hp hn) (I.hok.laid k hp ⟨hlen, out.toList, c, vals_of_strs hi, hg⟩) (by rw [g]; exact I.bare) (fun _ z => nomatch z)
  have e : s' = { s with heap := s'.heap, gens := s'.gens, drawn := s'.drawn, toks := s'.toks } := by
    cases s'
    cases s
    cases o
    rfl
  rw [e]
  exact ⟨.ref p, _, J, rfl, q ys p (pm.nodup_iff.mpr nd) (fun z => (pm.mem_iff).trans (mem z)) so hn⟩
end
end K3
namespace K3
open PySem L2 Xr K1
section
variable {X : Cx} {a : Expr} {t : DE} {p p2 q pos : Pos}
/-- sorted(set(xs)), texts -/
def dSortSet (t : DE) : DE := fun ρ S Q => t ρ S fun o S1 => isTupD o = false ∧ wh (itemsD S1 o) fun ds => wh (strsD ds) fun xs => xs.length < 64 ∧
  ∀ ys : List Str, ys.Nodup → (∀ z, z ∈ ys ↔ z ∈ xs) → PyProof.Rows.sortedS ys = true → Q (.list (ys.map PyData.str)) S1
theorem q_sortSet (hc : X.calm = true) (hm : X.mg "sorted" = none) (hg : Gl X "sorted") (hm2 : X.mg "set" = none) (hg2 : Gl X "set") (ha : QE X a t) (he : starEach [a] X.env = (false, eval a X.env) :: starEach [] X.env := by rfl)
    (he2 : starEach [.Call (.Name "set" p2) [a] [] q] X.env = (false, eval (.Call (.Name "set" p2) [a] [] q) X.env) :: starEach [] X.env := by rfl) :
    QE X (.Call (.Name "sorted" p) [.Call (.Name "set" p2) [a] [] q] [] pos) (dSortSet t) :=
  pe_weak (pe_callB (cr_sortSetT hc) hg hm (by decide +kernel) (pa_cons (pe_callTy (cr_setT hc) hg2 hm2 (by decide +kernel) (pa_cons ha pa_nil he) (by decide) (by decide) he rfl) pa_nil he2) (by decide) (by decide) he2 rfl) fun σ H Q ⟨B, ρ, S, m, Qd, at_, qd, k⟩ =>
  ⟨B, ρ, S, m, _, at_, qd, fun o S1 v H1 m1 q1 e1 w1 dv => by
    obtain ⟨nt, q1⟩ := q1
    obtain ⟨ds, h1, q1⟩ := wh_of q1
    obtain ⟨xs, h2, hl, q1⟩ := wh_of q1
    obtain ⟨l, vs, rfl, hq, al⟩ := dv.items2 w1 h1
    rcases hq with ⟨_, hq⟩ | ⟨z, _⟩
    · have ev := strs_dv al h2
      subst ev
      refine ⟨l, xs, rfl, hq, by omega, fun r hr => ?_⟩
      have e2 := Evo.new (o := SetT X.prog X.w r xs) w1 hr
      have w2 := w1.new (o := SetT X.prog X.w r xs) hr
      refine ⟨r, xs, rfl, upd_same, hl, fun ys b nd mem so hb => ?_⟩
      exact ((k.up e1).up e2).newL w2 (strs_dvs ys) (q1 ys nd mem so) b hb
    · rw [nt] at z; cases z⟩
end
end K3

/-! a sorted row of texts without doubles is the only one with its members -/
namespace K3
open PySem L2 Xr K1
theorem lt_nil (a : List Nat) : Spec.ltCps a [] = false := by cases a <;> rfl
theorem lt_cons (x y : Nat) (a b : List Nat) : Spec.ltCps (x :: a) (y :: b) = (decide (x < y) || (x == y && Spec.ltCps a b)) := rfl
theorem lt_anti : ∀ a b : List Nat, Spec.ltCps a b = false → Spec.ltCps b a = false → a = b
  | [], [], _, _ => rfl
  | [], _ :: _, h, _ => by cases h
  | _ :: _, [], _, h => by cases h
  | x :: a, y :: b, h1, h2 => by
    rw [lt_cons, Bool.or_eq_false_iff] at h1 h2
    have e : x = y := by
      have := of_decide_eq_false h1.1
      have := of_decide_eq_false h2.1
      omega
    subst e
    have h3 := h1.2
    have h4 := h2.2
    rw [beq_self_eq_true, Bool.true_and] at h3 h4
    rw [lt_anti a b h3 h4]
theorem le_trans : ∀ a b c : List Nat, Spec.ltCps b a = false → Spec.ltCps c b = false → Spec.ltCps c a = false
  | [], _, _, _, _ => lt_nil _
  | _ :: _, [], c, h, _ => by cases h
  | _ :: _, _ :: _, [], _, h => by cases h
  | x :: a, y :: b, z :: c, h1, h2 => by
    rw [lt_cons, Bool.or_eq_false_iff] at h1 h2 ⊢
    have l1 := of_decide_eq_false h1.1
    have l2 := of_decide_eq_false h2.1
    refine ⟨decide_eq_false (by omega), ?_⟩
    by_cases e : z = x
    · have e1 : y = x := by omega
      subst e
      subst e1
      have h3 := h1.2
      have h4 := h2.2
      rw [beq_self_eq_true, Bool.true_and] at h3 h4 ⊢
      exact le_trans a b c h3 h4
    · rw [beq_eq_false_iff_ne.mpr e, Bool.false_and]
def leS (a b : Str) : Prop := Spec.ltCps b.cps.toList a.cps.toList = false
theorem leS_anti {a b : Str} (h1 : leS a b) (h2 : leS b a) : a = b := by
  have e := lt_anti _ _ h2 h1
  cases a
  cases b
  have e2 := Array.toList_inj.mp e
  exact congrArg _ e2
theorem rising_pw : ∀ (r : List Str) (p : Str), PyProof.Rows.risingS p r = true → (p :: r).Pairwise leS
  | [], p, _ => List.pairwise_singleton _ _
  | x :: r, p, h => by
    have h' : (!Spec.ltCps x.cps.toList p.cps.toList && PyProof.Rows.risingS x r) = true := h
    rw [Bool.and_eq_true] at h'
    have ih := rising_pw r x h'.2
    have px : leS p x := by
      have := h'.1
      show Spec.ltCps x.cps.toList p.cps.toList = false
      simpa using this
    refine List.pairwise_cons.mpr ⟨fun y hy => ?_, ih⟩
    rcases List.mem_cons.mp hy with q | q
    · rw [q]; exact px
    · exact le_trans _ _ _ px ((List.pairwise_cons.mp ih).1 y q)
theorem sorted_pw {xs : List Str} (h : PyProof.Rows.sortedS xs = true) : xs.Pairwise leS := by
  cases xs with
  | nil => exact List.Pairwise.nil
  | cons x r => exact rising_pw r x h
theorem pw_uniq : ∀ (a b : List Str), a.Pairwise leS → b.Pairwise leS → a.Nodup → b.Nodup → (∀ z, z ∈ a ↔ z ∈ b) → a = b
  | [], [], _, _, _, _, _ => rfl
  | [], y :: b, _, _, _, _, m => by
    have := (m y).mpr List.mem_cons_self
    cases this
  | x :: a, [], _, _, _, _, m => by
    have := (m x).mp List.mem_cons_self
    cases this
  | x :: a, y :: b, pa, pb, na, nb, m => by
    have e : x = y := by
      rcases List.mem_cons.mp ((m x).mp List.mem_cons_self) with q | q
      · exact q
      · rcases List.mem_cons.mp ((m y).mpr List.mem_cons_self) with q2 | q2
        · exact q2.symm
        · exact leS_anti ((List.pairwise_cons.mp pa).1 y q2) ((List.pairwise_cons.mp pb).1 x q)
    subst e
    have na' := List.nodup_cons.mp na
    have nb' := List.nodup_cons.mp nb
    rw [pw_uniq a b (List.pairwise_cons.mp pa).2 (List.pairwise_cons.mp pb).2 na'.2 nb'.2 fun z => ?_]
    constructor
    · intro hz
      rcases List.mem_cons.mp ((m z).mp (List.mem_cons_of_mem _ hz)) with q | q
      · rw [q] at hz; exact absurd hz na'.1
      · exact q
    · intro hz
      rcases List.mem_cons.mp ((m z).mpr (List.mem_cons_of_mem _ hz)) with q | q
      · rw [q] at hz; exact absurd hz nb'.1
      · exact q
theorem sorted_uniq {a b : List Str} (sa : PyProof.Rows.sortedS a = true) (sb : PyProof.Rows.sortedS b = true) (na : a.Nodup) (nb : b.Nodup) (m : ∀ z, z ∈ a ↔ z ∈ b) : a = b := pw_uniq a b (sorted_pw sa) (sorted_pw sb) na nb m
mutual
theorem eqv_refl : ∀ d : PyData, pureD d = true → PyData.eqv d d = true
  | .none, _ => rfl
  | .bool b, _ => by show (b == b) = true; simp
  | .int i, _ => by show (i == i) = true; simp
  | .str z, _ => by show (z == z) = true; simp
  | .list ds, h => eqv_reflAll ds h
  | .tuple ds, h => eqv_reflAll ds h
  | .dict _, h => nomatch h
theorem eqv_reflAll : ∀ ds : List PyData, pureAll ds = true → PyData.eqvAll ds ds = true
  | [], _ => rfl
  | d :: ds, h => by
    have h' : (pureD d && pureAll ds) = true := h
    rw [Bool.and_eq_true] at h'
    show (PyData.eqv d d && PyData.eqvAll ds ds) = true
    rw [eqv_refl d h'.1, eqv_reflAll ds h'.2]
    rfl
end
theorem eqv_len : ∀ a b : List PyData, PyData.eqv (.tuple a) (.tuple b) = true → a.length = b.length
  | [], [], _ => rfl
  | [], _ :: _, h => by cases h
  | _ :: _, [], h => by cases h
  | x :: a, y :: b, h => by
    have h' : (PyData.eqv x y && PyData.eqv (.tuple a) (.tuple b)) = true := h
    rw [Bool.and_eq_true] at h'
    rw [List.length_cons, List.length_cons, eqv_len a b h'.2]
end K3

/-! C(k = v, ..): a class called by keywords alone; by two keywords the other way round -/
namespace K3
open PySem L2 Xr K1
section
variable {X : Cx} {CX : CXT} {k j : Nat} {f C : Addr} {fd : FuncData} {ps ks : List Str} {sp : Sp} {E : XK} {x : Str} {p pos : Pos} {kws : List Keyword} {tk : TA} {aa : DA} {g : List Value → List Value → List Value} {gV : List V → List V → List V}
theorem pe_makeK (M : Mk X.K C f) (F : FnOk X.prog X.w X.K X.mg X.base CX k f fd ps sp) (hr : Room (k + 1) X.A) (hg : Gl X x) (hm : X.mg x = some (.ref C)) (hb : KBn X.K fd ps 1 ks g gV) (hx : Passes CX X E)
    (hkw : PK X kws tk) (hall : (backToKw pos (keywordEach kws X.env)).all (·.1.isSome) = true := by rfl) (hks : (backToKw pos (keywordEach kws X.env)).filterMap (·.1) = ks := by rfl)
    (hdb : (x == ("__debug__" : Str)) = false := by decide) (hpl : ((backTo pos (starEach [] X.env)).any (·.1) || (backToKw pos (keywordEach kws X.env)).any (·.1.isNone)) = false := by rfl) :
    PE X (.Call (.Name x p) [] kws pos) (tMakeN C 0 ks.length sp gV E (fun _ H Q => Q [] H) tk) := by
  refine ⟨fun pins s σ H Q I h => ?_⟩
  refine PySem.wpAny_Call_Name_kw (ld_glob I hg hm ?_ hdb)
  refine PySem.W.callWith_KW0 (h₀ := X.base) I.ok.mod.kin M.kp hall ?_ hpl
  refine thn (hkw.run pos pins s σ H _ I h) fun ws s2 ⟨zs, H2, I2, rz, l1, l2, q2⟩ => ⟨I2.kIn, ?_⟩
  rw [hks]
  exact run_makeN (n := 0) M F hr hb hx I2 .nil rz l1 l2 q2
/-- C(b = v, a = u), __init__(self, a, b) -/
def dNewR (C : Addr) (ns : List Str) (aa : DA) : DE := fun ρ S Q => aa ρ S fun ds S1 => ds.length = ns.length ∧ Q (obj C ns ds.reverse) S1
def KbR (K : PySem.W.Frag) (fd : FuncData) (ps ks : List Str) : Prop := KBn K fd ps 1 ks (fun us ws => us ++ ws.reverse) (fun vs zs => vs ++ zs.reverse)
theorem q_newR {ns : List Str} (M : Mk X.K C f) (F : FnOk X.prog X.w X.K X.mg X.base CX0 j f fd ps (spIni C ns)) (hr : Room k X.A) (hl : j + 1 ≤ k) (hg : Gl X x) (hm : X.mg x = some (.ref C)) (hb : KbR X.K fd ps ks) (hlen : ks.length = ns.length)
    (hkw : QK X kws aa) (hall : (backToKw pos (keywordEach kws X.env)).all (·.1.isSome) = true := by rfl) (hks : (backToKw pos (keywordEach kws X.env)).filterMap (·.1) = ks := by rfl)
    (hdb : (x == ("__debug__" : Str)) = false := by decide) (hpl : ((backTo pos (starEach [] X.env)).any (·.1) || (backToKw pos (keywordEach kws X.env)).any (·.1.isNone)) = false := by rfl) :
    QE X (.Call (.Name x p) [] kws pos) (dNewR C ns aa) := pe_weak (pe_makeK M F (hr.mono hl) hg hm hb pass0 hkw.p hall hks hdb hpl) fun σ H Q ⟨B, ρ, S, m, Qd, at_, q, k⟩ =>
  ⟨B, ρ, S, m, _, at_, q, fun ds S1 vs H1 m1 q1 e1 w1 dv => by
    obtain ⟨hl, q1⟩ := q1
    have lv := dv.len
    refine ⟨rfl, by omega, fun o dx ho hd ne => ?_⟩
    refine ⟨o, dx, vs.reverse, rfl, by rw [List.length_reverse]; omega, upd_same, fun H2 h1 h2 => ⟨rfl, ?_⟩⟩
    have sm : Same H1 H2 := fun b u hb => by
      have n1 : b ≠ o := fun z => by rw [z, ho] at hb; cases hb
      have n2 : b ≠ dx := fun z => by rw [z, hd] at hb; cases hb
      rw [h2 b n1, upd_ne n1, upd_ne n2]
      exact hb
    have hx : H2 dx = some (.own o) := by
      rw [h2 dx ne, upd_ne ne, upd_same]
    have ev := Evo.same w1 sm
    refine k _ _ _ _ _ q1 (e1.trans ev) (w1.same sm) (.ins h1 hx (w1.noCe ho) (w1.noCe hd) ?_ ?_)
    · rw [map_fst_zip (by rw [List.length_reverse]; omega), map_fst_zip (by rw [List.length_reverse]; omega)]
    · rw [map_snd_zip (by rw [List.length_reverse]; omega), map_snd_zip (by rw [List.length_reverse]; omega)]
      exact dv.rev.up ev⟩
end
end K3

/-! what a turning tells of its rules -/
namespace K3
open PySem L2 Xr K1 Exv
abbrev sLTel : Stmt := top 40
theorem scLTel : FnScope ["rules", "mode", "turning", "modes", "first", "letter", "parts"] ["rules", "mode"] (defScope sLTel) := ⟨rfl, rfl, rfl, by decide +kernel, rfl, by decide +kernel, by decide +kernel⟩
theorem ask_rpN {n B : Nat} {d : PyData} {S : Sto} {Q : DK} (r : Rp n B d) (hn : n ≤ 150) (hB : B ≤ 10000000) (q : Q (.str d.shown) S) : dRepr d S Q := ⟨⟨r.sh, r.lay, Nat.le_trans r.dep hn, Nat.le_trans r.len hB⟩, q⟩
theorem ask_bothN {n B : Nat} {d : PyData} {S : Sto} {R : PyData → PyData → Sto → Prop} (r : Rp n B d) (hn : n ≤ 150) (hB : B ≤ 10000000) (q : ∀ z : Str, R (.str z) (.str z) S) : dRepr d S fun a S1 => dRepr d S1 fun b S2 => eqOk a b ∧ R a b S2 := by
  refine ask_rpN r hn hB (ask_rpN r hn hB ?_)
  generalize d.shown = z
  exact ⟨eqOk_str _ _, q z⟩
theorem three {d : Nat} (h : d < 3) : WB d ≤ 3000 ∧ RB d ≤ 1000000 := by
  match d, h with
  | 0, _ => exact ⟨by decide, by decide⟩
  | 1, _ => exact ⟨by decide, by decide⟩
  | 2, _ => exact ⟨by decide, by decide⟩
theorem drp_vd {e : Bool} {d : Nat} {ps : List PyData} (h : DrP e d ps) (hd : d < 3) : Vd 6 (.tuple ps) := ⟨h.rp.lay, Nat.le_trans h.rp.dep (by omega)⟩
theorem let_ok {ns : List Str} (hns : ns ∈ menuN) {le : Str} (h : le ∈ sx "" :: ns) : letD (.str le) = true ∧ Vd 0 (.str le) ∧ le.length ≤ 8 := by
  rcases List.mem_cons.mp h with q | q
  · rw [q]
    exact ⟨by decide +kernel, vd_str (fun c hc => by cases hc), by decide⟩
  · have hn := (menu_names ns hns).1 le q
    refine ⟨by unfold letD; rw [hn, Bool.true_or], ⟨(rp_name hn).lay, (rp_name hn).dep⟩, (name_plain hn).len⟩
theorem tur_modes {d g : Nat} {ms ns : List Str} {rs : List PyData} (t : Tur d g ms ns rs) : (∀ x ∈ ms, nameD (.str x) = true ∧ x ≠ sx "zzz") ∧ ms.length ≤ 3 := by
  obtain ⟨M, hM, j, h1, h3, rfl⟩ := t.mm
  have all : ∀ M ∈ menuM, ∀ x ∈ M, nameD (.str x) = true ∧ x ≠ sx "zzz" := by decide +kernel
  refine ⟨fun x hx => all M hM x (List.mem_of_mem_take hx), ?_⟩
  rw [List.length_take]
  omega
theorem tur_rule {d g : Nat} {ms ns : List Str} {rs : List PyData} (t : Tur d g ms ns rs) (hd : d < 3) {r : PyData} (h : r ∈ rs) : ruleB r = true ∧ Vd 7 r ∧ wt r ≤ 3100 := by
  obtain ⟨mo, le, ps, rfl, hmo, hle, hp, _⟩ := t.dr r h
  have nmo := ((tur_modes t).1 mo hmo).1
  obtain ⟨l1, l2, l3⟩ := let_ok t.nm hle
  refine ⟨?_, vd_tup (m := 6) fun y hy => ?_, ?_⟩
  · rw [rule_three, nmo, l1]
    show (true && (true && deepAll _ ps)) = true
    rw [show deepAll (PyData.eqv (.str le) (.str (Str.ofString ""))) ps = true from hp.ok]
    rfl
  · rcases List.mem_cons.mp hy with q | q
    · rw [q]; exact (Vd.mono (m := 0) ⟨(rp_name nmo).lay, (rp_name nmo).dep⟩ (by decide))
    rcases List.mem_cons.mp q with q | q
    · rw [q]; exact l2.mono (by decide)
    · rw [List.mem_singleton.mp q]; exact drp_vd hp hd
  · have e : wt (.tuple [.str mo, .str le, .tuple ps]) = 1 + ((1 + mo.length) + ((1 + le.length) + ((1 + wtAll ps) + 0))) := rfl
    have := (three hd).1
    have := hp.wt
    have := (name_plain nmo).len
    omega
theorem tur_ok {d g : Nat} {ms ns : List Str} {rs : List PyData} (t : Tur d g ms ns rs) (hd : d < 3) : rulesOk rs := fun r hr => by
  obtain ⟨a, b, c⟩ := tur_rule t hd hr
  exact ⟨a, b.mono (by decide), by omega⟩
theorem prodK_len (ls : List Str) : ∀ ms : List Str, (prodK ms ls).length = ms.length * ls.length
  | [] => by show 0 = 0 * _; rw [Nat.zero_mul]
  | m :: ms => by
    have e : prodK (m :: ms) ls = ls.map (fun l => (m, l)) ++ prodK ms ls := rfl
    rw [e, List.length_append, List.length_map, prodK_len ls ms, List.length_cons, Nat.succ_mul, Nat.add_comm]
theorem tur_len {d g : Nat} {ms ns : List Str} {rs : List PyData} (t : Tur d g ms ns rs) : rs.length ≤ 12 := by
  have h := t.sb.length_le
  have l1 := (tur_modes t).2
  have l2 := (menu_names ns t.nm).2.1
  rw [prodK_len] at h
  have e : (keysL rs).length = rs.length := by unfold keysL; rw [List.length_map]
  rw [e] at h
  have : ms.length * (sx "" :: ns).length ≤ 3 * 4 := Nat.mul_le_mul l1 (by show ns.length + 1 ≤ 4; omega)
  omega
theorem tur_pw {d g : Nat} {ms ns : List Str} {rs : List PyData} (t : Tur d g ms ns rs) : (keysL rs).Pairwise fun p q => ltK p q = true ∧ p ≠ q := by
  obtain ⟨M, hM, j, h1, h3, e⟩ := t.mm
  refine List.Pairwise.sublist ?_ (lt_all M hM ns t.nm)
  refine t.sb.trans ?_
  have e2 : prodK M (sx "" :: ns) = prodK (M.take j) (sx "" :: ns) ++ prodK (M.drop j) (sx "" :: ns) := by
    unfold prodK
    rw [← List.flatMap_append, List.take_append_drop]
  rw [e2, e]
  exact List.sublist_append_left _ _
theorem modes_len {d g : Nat} {ms ls : List Str} : ∀ {rs : List PyData}, (∀ r ∈ rs, DrR d g ms ls r) → (modesD rs).length ≤ rs.length * (g + 1)
  | [], _ => Nat.zero_le _
  | r :: rs, h => by
    have ih := modes_len (rs := rs) fun x hx => h x (List.mem_cons_of_mem _ hx)
    obtain ⟨mo, le, ps, rfl, _, _, _, hg⟩ := h r List.mem_cons_self
    show (PyData.str mo :: goesD ps ++ modesD rs).length ≤ (rs.length + 1) * (g + 1)
    rw [List.length_append, List.length_cons, Nat.succ_mul]
    omega
theorem find_key {mo le : Str} : ∀ {rs : List PyData} {r : PyData}, (keysL rs).Nodup → (∀ x ∈ rs, ∃ a b ps, x = .tuple [.str a, .str b, .tuple ps]) → r ∈ rs → keyP r = (mo, le) → rs.find? (hasR mo le) = some r
  | [], _, _, _, h, _ => by cases h
  | x :: rs, r, nd, hx, h, hk => by
    have nd' := List.nodup_cons.mp (show (keyP x :: keysL rs).Nodup from nd)
    obtain ⟨a, b, ps, rfl⟩ := hx x List.mem_cons_self
    have eh : hasR mo le (.tuple [.str a, .str b, .tuple ps]) = (PyData.eqv (.str a) (.str mo) && PyData.eqv (.str b) (.str le)) := rfl
    rw [List.find?_cons]
    rcases List.mem_cons.mp h with q | q
    · rw [q] at hk ⊢
      cases hk
      rw [eh, eqv_refl _ rfl, eqv_refl _ rfl]
      rfl
    · have hn : hasR mo le (.tuple [.str a, .str b, .tuple ps]) = false := by
        cases hh : hasR mo le (.tuple [.str a, .str b, .tuple ps]) with
        | false => rfl
        | true =>
          exfalso
          rw [eh, Bool.and_eq_true] at hh
          have e1 := PyData.str.inj (eqv_word hh.1)
          have e2 := PyData.str.inj (eqv_word hh.2)
          refine nd'.1 ?_
          have : keyP (.tuple [.str a, .str b, .tuple ps]) = keyP r := by rw [hk, ← e1, ← e2]; rfl
          rw [this]
          exact List.mem_map.mpr ⟨r, q, rfl⟩
      rw [hn]
      exact find_key nd'.2 (fun y hy => hx y (List.mem_cons_of_mem _ hy)) q hk
theorem goes_name {e : Bool} {ps : List PyData} (h : deepAll e ps = true) (hv : ∀ x ∈ ps, Vd 60 x) {d : PyData} (hd : d ∈ goesD ps) : ∃ z : Str, d = .str z ∧ nameD (.str z) = true := by
  obtain ⟨q, hq, e1⟩ := List.mem_filterMap.mp hd
  obtain ⟨hb, _⟩ := flat_mem e _ ps (Nat.le_refl _) h hv q hq
  obtain ⟨a, r, rfl⟩ := part_tup hb
  unfold goW at e1
  split at e1
  · rename_i a' x r' heq
    cases heq
    split at e1
    · rename_i ha
      obtain ⟨y, e2, hn⟩ := part_go hb ha
      cases e2
      cases e1
      cases d <;> first | exact ⟨_, rfl, hn⟩ | cases hn
    · cases e1
  · cases e1
theorem modes_name {d g : Nat} {ms ns : List Str} {rs : List PyData} (t : Tur d g ms ns rs) (hd : d < 3) {x : PyData} (h : x ∈ modesD rs) : ∃ z : Str, x = .str z ∧ nameD (.str z) = true := by
  obtain ⟨r, hr, hx⟩ := List.mem_flatMap.mp h
  obtain ⟨mo, le, ps, rfl, hmo, _, hp, _⟩ := t.dr r hr
  rcases List.mem_cons.mp (show x ∈ PyData.str mo :: goesD ps from hx) with q | q
  · exact ⟨mo, q, ((tur_modes t).1 mo hmo).1⟩
  · exact goes_name hp.ok (fun x hx => ((drp_vd hp hd).tup.2 x hx).mono (by decide)) q
theorem find_no {mo le : Str} {rs : List PyData} (h : ∀ x ∈ rs, hasR mo le x = false) : ruleFor rs mo le = .none := by
  unfold ruleFor
  rw [List.find?_eq_none.mpr fun x hx => by rw [h x hx]; exact Bool.false_ne_true]
def spLTel : SpD := fun ds S Q _ => ∃ (d g : Nat) (ms ns : List Str) (rs : List PyData) (m : Str), ds = [.tuple rs, .str m] ∧ d < 3 ∧ g ≤ 3 ∧ Tur d g ms ns rs ∧ m ∈ ms ∧ ∀ S', Ext S S' → Q (.bool true) S'
structure VnTxt (K : PySem.W.Frag) (mg : Str → Option Value) (CT fI fE a_rule_for a_goes_of a_modes_of a_law_goes : Addr) : Prop where
  n_repr : mg "repr" = none
  n_tuple : mg "tuple" = none
  n_list : mg "list" = none
  n_sorted : mg "sorted" = none
  n_set : mg "set" = none
  io : IsO K CT
  oe : OwnE K CT fE
  nf1 : PySem.W.notFirst K CT (.type "tuple") = true
  nf2 : PySem.W.notFirst K CT (.ref CT) = true
  na_rules : NoAttr K CT "rules"
  na_mode : NoAttr K CT "mode"
  g_Turning : mg "Turning" = some (.ref CT)
  mk_Turning : Mk K CT fI
  g_rule_for : mg "rule_for" = some (.ref a_rule_for)
  k_rule_for : PySem.W.keepIn K (.ref a_rule_for) = true
  g_goes_of : mg "goes_of" = some (.ref a_goes_of)
  k_goes_of : PySem.W.keepIn K (.ref a_goes_of) = true
  g_modes_of : mg "modes_of" = some (.ref a_modes_of)
  k_modes_of : PySem.W.keepIn K (.ref a_modes_of) = true
  g_law_goes : mg "_law_goes" = some (.ref a_law_goes)
  k_law_goes : PySem.W.keepIn K (.ref a_law_goes) = true
section
variable {P : Program} {w : World} {K : PySem.W.Frag} {mg : Str → Option Value} {base : Heap} {CT fI fE a_rule_for a_goes_of a_modes_of a_law_goes : Addr} {d1 d2 d3 d4 d5 d6 : FuncData}
theorem ok_ltel {f : Addr} {fd : FuncData} (F : Fun K "_law_tells" "_law_tells" sLTel f fd) (T : VnTxt K mg CT fI fE a_rule_for a_goes_of a_modes_of a_law_goes)
    (G_Turning : FnOk P w K mg base CX0 1 fI d1 ["self", "rules", "mode"] (spIni CT ["rules", "mode"])) (b_Turning : Binds K d1 ["self", "rules", "mode"] []) (kr_Turning : KbR K d1 ["self", "rules", "mode"] ["mode", "rules"])
    (G_eq : FnOk P w K mg base CX0 1 fE d2 ["self", "other"] (spD K (spEqT CT))) (b_eq : Binds K d2 ["self", "other"] [])
    (G_rule_for : FnOk P w K mg base CX0 1 a_rule_for d3 ["turning", "mode", "letter"] (spD K (spRuleFor CT))) (b_rule_for : Binds K d3 ["turning", "mode", "letter"] []) (kb_rule_for : BindsK d3 ["turning", "mode", "letter"] ["turning", "mode", "letter"])
    (G_goes_of : FnOk P w K mg base CX0 4 a_goes_of d4 ["parts"] (spD K spGoOf)) (kb_goes_of : BindsK d4 ["parts"] ["parts"])
    (G_modes_of : FnOk P w K mg base CX0 4 a_modes_of d5 ["turning"] (spD K (spModes CT))) (kb_modes_of : BindsK d5 ["turning"] ["turning"])
    (G_law_goes : FnOk P w K mg base CX0 (1 + 7) a_law_goes d6 ["parts"] (spD K (spLGoe 7))) (b_law_goes : Binds K d6 ["parts"] []) : Grd.FnG P w K mg base CX0 9 f fd ["rules", "mode"] (spD K spLTel) := by
  refine dokG F scLTel (fun ds S Q E h => ?_) fun cdv A outer s H Q E gd (hr : Room 8 _) => ⟨_, (qss_cons (qs_par (i := 2) (j := 3) (by rfl) scLTel.nd rfl rfl (by decide) rfl rfl (q_cons (q_newR T.mk_Turning G_Turning hr (by omega) (by rfl) T.g_Turning kr_Turning (by rfl) (qk_cons (q_var (pv 1)) (qk_cons (q_var (pv 0)) qk_nil))) (q_cons (q_lst (q_cons (q_var (pv 1)) q_nil)) q_nil)) (by rfl))
      (qss_cons (qs_for PassesOwn.leaving rfl (qi_any (q_var (pv 0))) (qg_tup (n := 3) (by rfl) (qgs_cons (qg_name (pg_name (i := 4) scLTel.nd rfl (Or.inl rfl))) (qgs_cons (qg_name (pg_name (i := 5) scLTel.nd rfl (Or.inl rfl))) (qgs_cons (qg_name (pg_name (i := 6) scLTel.nd rfl (Or.inl rfl))) qgs_nil))))
      (qss_cons (qs_set (i := 3) scLTel.nd rfl (Or.inl rfl) (q_add (q_add (q_var (pv 3)) (q_lst (q_cons (q_var (pv 4)) q_nil))) (q_call hr G_law_goes T.g_law_goes T.k_law_goes b_law_goes (by rfl) (by omega) (q_cons (q_var (pv 6)) q_nil))))
      (qss_cons (qs_if (PW.pt (qw_or (qt_cmp (op_neA (u64 hr)) snd_ne (q_repr gd (Grd.u200 hr) T.n_repr (by rfl) (q_cons (q_kw hr G_rule_for T.g_rule_for T.k_rule_for kb_rule_for (by rfl) (by omega) (qk_cons (q_var (pv 2)) (qk_cons (q_var (pv 4)) (qk_cons (q_var (pv 5)) qk_nil)))) q_nil)) (q_repr gd (Grd.u200 hr) T.n_repr (by rfl) (q_cons (q_var (pv 6)) q_nil)) (nomark _)) (qw_or1 (qt_cmp (op_neA (u64 hr)) snd_ne (q_kw hr G_goes_of T.g_goes_of T.k_goes_of kb_goes_of (by rfl) (by omega) (qk_cons (q_var (pv 6)) qk_nil)) (q_tuple T.n_tuple (by rfl) (q_cons (q_call hr G_law_goes T.g_law_goes T.k_law_goes b_law_goes (by rfl) (by omega) (q_cons (q_var (pv 6)) q_nil)) q_nil)) (nomark _)))))
      (qss_one (qs_ret q_bl))
      qss_nil)
      (qss_one (qs_if (PW.pt (qw_or (qt_cmp op_notN snd_notN (q_call hr G_rule_for T.g_rule_for T.k_rule_for b_rule_for (by rfl) (by omega) (q_cons (q_var (pv 2)) (q_cons (q_var (pv 4)) (q_cons q_str q_nil)))) q_non (nomark _)) (qw_or1 (qt_cmp op_notN snd_notN (q_call hr G_rule_for T.g_rule_for T.k_rule_for b_rule_for (by rfl) (by omega) (q_cons (q_var (pv 2)) (q_cons q_str (q_cons (q_var (pv 5)) q_nil)))) q_non (nomark _)))))
      (qss_one (qs_ret q_bl))
      qss_nil)))))
      (qss_cons (qs_if (PW.pt (qw_or (qt_cmp (op_neA (u64 hr)) snd_ne (q_fld T.io.cl T.na_rules (q_var (pv 2))) (q_var (pv 0)) (nomark _)) (qw_or (qt_cmp (op_neA (u64 hr)) snd_ne (q_fld T.io.cl T.na_mode (q_var (pv 2))) (q_var (pv 1)) (nomark _)) (qw_or1 (qt_cmp (op_neA (u64 hr)) snd_ne (q_kw hr G_modes_of T.g_modes_of T.k_modes_of kb_modes_of (by rfl) (by omega) (qk_cons (q_var (pv 2)) qk_nil)) (q_tuple T.n_tuple (by rfl) (q_cons (q_sortSet (by rfl) T.n_sorted (by rfl) T.n_set (by rfl) (q_var (pv 3))) q_nil)) (nomark _))))))
      (qss_one (qs_ret q_bl))
      qss_nil)
      (qss_cons (qs_if (PW.pt (qw_or (qt_cmp (op_own G_eq hr (by omega) T.oe.eq T.oe.fn b_eq) snd_own (q_var (pv 2)) (q_tup (q_cons (q_var (pv 0)) (q_cons (q_var (pv 1)) q_nil))) (nomark _)) (qw_or (qt_cmp (op_own G_eq hr (by omega) T.oe.eq T.oe.fn b_eq) snd_own (q_var (pv 2)) (q_new T.mk_Turning G_Turning hr (by omega) (by rfl) T.g_Turning b_Turning (q_cons (q_var (pv 0)) (q_cons q_str q_nil))) (nomark _)) (qw_or1 (qt_cmp (op_own G_eq hr (by omega) T.oe.eq T.oe.fn b_eq) snd_own (q_var (pv 2)) (q_new T.mk_Turning G_Turning hr (by omega) (by rfl) T.g_Turning b_Turning (q_cons (q_add (q_var (pv 0)) (q_tup (q_cons (q_tup (q_cons q_str (q_cons q_str (q_cons (q_tup q_nil) q_nil)))) q_nil))) (q_cons (q_var (pv 1)) q_nil))) (nomark _))))))
      (qss_one (qs_ret q_bl))
      qss_nil)
      (qss_one (qs_ret (q_and (q_cmp (op_own G_eq hr (by omega) T.oe.eq T.oe.fn b_eq) snd_own (q_var (pv 2)) (q_var (pv 2)) (nomark _)) (q_one (q_cmp (op_own G_eq hr (by omega) T.oe.eq T.oe.fn b_eq) snd_own (q_var (pv 2)) (q_new T.mk_Turning G_Turning hr (by omega) (by rfl) T.g_Turning b_Turning (q_cons (q_tuple T.n_tuple (by rfl) (q_cons (q_list T.n_list (by rfl) (q_cons (q_var (pv 0)) q_nil)) q_nil)) (q_cons (q_var (pv 1)) q_nil))) (nomark _)))))))))), fun ds S Qd Er h => ?_⟩
  · obtain ⟨d, g, ms, ns, rs, m, rfl, _⟩ := h
    rfl
  · obtain ⟨d, g, ms, ns, rs, m, rfl, hd, hg, ht, hm, q⟩ := h
    (dsimp only [dNewR, dOwn, dSortSet, dTryAsX, dRetX, dDropX, dSetX, dAsgX, dFnX, dRaise, dTryAs, dTryOnly, dXf, dIsX, dPar3, dFnR, List.reverse_cons, List.reverse_nil, dDelT, mPop0, mPop, mApp, mExt, dFld, dNew, dDGet, dDIn, dZipT, dAll, dTupF, dIdx, dTupRg, dDc, dReprT, dEqT, dNeT, dFor, dLc, dWhile, dRange1, dRange2, dRange3, dEnumT, e_isB, e_tupD, dgUnl, dSeq, dIfS, dSet, dAsg, dRet, dRetN, dDrop, dNext, dPar, dVar, dC, dOp, dB, dTru, dtNot, dtAnd, dtOr, dAnd, dOr, dNot, dIfE, dNeg, dNil, dCons, dTup, dLst, dCel, dNoP, dPart, dSlice, dRevT, dRevL, dCall, on1, dTupOf, dLstOf, dCelOf, dIsi, dName, dgNil, dgCons, dgTup, dFn, dMet, dMet0, gt, st, startD, wh_some, dYes, dEq, dNe, List.map, List.length, List.replicate, List.append, List.cons_append, List.nil_append, dWalk, uns, un, tupNms, dNms, ifT, ifF, List.replicate_succ, List.replicate_zero, Nat.sub_self, Nat.reduceSub, Nat.reduceAdd, Nat.zero_add, Bool.not_true, Bool.not_false, e_addI, e_addS, e_addT, e_addL, e_i2, e_i2c, e_is, e_bool, e_cel, e_strD, e_lenS, e_lenT, e_lenL, e_lenC, e_ixS, e_ixT, e_ixL, e_ixC, e_slS, e_slT, e_slL, e_slC, e_itT, e_itL, e_truN, e_truI, e_truB, e_truL, e_truT, e_okN, e_okB, e_okI, e_okS, e_okL, e_okT, e_okC, e_tupN, e_tupB, e_tupI, e_tupS, e_tupL, e_tupT, e_tupC, e_strN, e_strB, e_strI, e_strS, e_strL, e_strT, e_strC, e_intN, e_intB, e_intI, e_intS, e_intL, e_intT, e_intC, e_boolN, e_boolB, e_boolI, e_boolS, e_boolL, e_boolT, e_boolC, e_lstN, e_lstB, e_lstI, e_lstS, e_lstL, e_lstT, e_lstC, e_nonN, e_nonB, e_nonI, e_nonS, e_nonL, e_nonT, e_wkS, e_wkL, e_wkT, e_wkC, e_join, e_inS, e_ninS, e_ofI, e_ofB, e_abs, e_lenF, e_ixF, e_itF, e_wkF, e_tfF, e_truF, e_repT, e_keyI, e_keyS]; try simp only [true_and, and_true, Nat.reduceLeDiff, reduceIte, reduceCtorEq, Bool.false_eq_true, if_true, if_false, not_false_eq_true, ite_true, ite_false, and_self])
    have ro := tur_ok ht hd
    have l12 := tur_len ht
    have pw := tur_pw ht
    have nd : (keysL rs).Nodup := by
      refine List.Pairwise.imp ?_ pw
      intro p q h
      exact h.2
    have ml := modes_len ht.dr
    have ml' : (modesD rs).length ≤ 48 := by
      have : rs.length * (g + 1) ≤ 12 * 4 := Nat.mul_le_mul l12 (by omega)
      omega
    obtain ⟨mst, emst⟩ := modes_strs ro
    have lmst : mst.length ≤ 48 := by
      rw [emst, List.length_map] at ml'
      exact ml'
    have nm := ((tur_modes ht).1 m hm)
    have frm : ∀ x ∈ rs, ∃ a b ps, x = .tuple [.str a, .str b, .tuple ps] := fun x hx => by
      obtain ⟨mo, le, ps, e, _⟩ := ht.dr x hx
      exact ⟨mo, le, ps, e⟩
    have vrs : Vd 8 (.tuple rs) := vd_tup (m := 7) fun x hx => (tur_rule ht hd hx).2.1
    have prs : pureD (.tuple rs) = true := layPure _ vrs.lay
    show ∃ W : Nat → Rho → Sto → Prop, W 0 [some (.tuple rs), some (.str m), some (turnD CT (.tuple rs) (.str m)), some (.list [.str m]), none, none, none] S ∧ _
    refine ⟨fun i ρ S1 => i ≤ rs.length ∧ Ext S S1 ∧ ∃ y4 y5 y6 : Option PyData, ρ = [some (.tuple rs), some (.str m), some (turnD CT (.tuple rs) (.str m)), some (.list (.str m :: modesD (rs.take i))), y4, y5, y6], ⟨Nat.zero_le _, Ext.refl, none, none, none, rfl⟩, fun _ _ _ _ => trivial, ?_, ?_⟩
    · rintro i o ρ S1 ho ⟨hi, e1, y4, y5, y6, rfl⟩
      have hi2 : i < rs.length := (List.getElem?_eq_some_iff.mp ho).1
      have tk : rs.take (i + 1) = rs.take i ++ [o] := by rw [List.take_succ, ho]; rfl
      have mo' : o ∈ rs := List.mem_of_getElem? ho
      obtain ⟨mo, le, ps, rfl, hmo, hle, hp, hgo⟩ := ht.dr o mo'
      have nmo := (tur_modes ht).1 mo hmo
      have lti : (modesD (rs.take i)).length ≤ 48 := by
        have e : modesD rs = modesD (rs.take i) ++ modesD (rs.drop i) := by
          unfold modesD
          rw [← List.flatMap_append, List.take_append_drop]
        rw [e, List.length_append] at ml'
        omega
      have eM : modesD (rs.take (i + 1)) = modesD (rs.take i) ++ (.str mo :: goesD ps) := by
        rw [tk]
        unfold modesD
        rw [List.flatMap_append]
        show _ ++ (PyData.str mo :: goesD ps ++ []) = _
        rw [List.append_nil]
      have vps := drp_vd hp hd
      have wps : wtAll ps ≤ 20000 := by
        have := hp.wt
        have := (three hd).1
        omega
      have rf : ruleFor rs mo le = .tuple ps := by
        have h := find_key nd frm mo' (show keyP _ = (mo, le) from rfl)
        unfold ruleFor
        rw [h]
      have rz1 : ruleFor rs mo (sx "zzz") = .none := find_no fun x hx => by
        obtain ⟨a, b, ps, rfl, _, hb, _⟩ := ht.dr x hx
        have : b ≠ sx "zzz" := by
          have all : ∀ N ∈ menuN, ∀ x ∈ sx "" :: N, x ≠ sx "zzz" := by decide +kernel
          exact all ns ht.nm b hb
        show (PyData.eqv (.str a) (.str mo) && PyData.eqv (.str b) (.str (sx "zzz"))) = false
        rw [eqv_strD b, decide_eq_false this, Bool.and_false]
      have rz2 : ruleFor rs (sx "zzz") le = .none := find_no fun x hx => by
        obtain ⟨a, b, ps, rfl, ha, _, _⟩ := ht.dr x hx
        show (PyData.eqv (.str a) (.str (sx "zzz")) && PyData.eqv (.str b) (.str le)) = false
        rw [eqv_strD a, decide_eq_false ((tur_modes ht).1 a ha).2, Bool.false_and]
      (dsimp only [dTryAsX, dRetX, dDropX, dSetX, dAsgX, dFnX, dRaise, dTryAs, dTryOnly, dXf, dIsX, dPar3, dFnR, List.reverse_cons, List.reverse_nil, dDelT, mPop0, mPop, mApp, mExt, dFld, dNew, dDGet, dDIn, dZipT, dAll, dTupF, dIdx, dTupRg, dDc, dReprT, dEqT, dNeT, dFor, dLc, dWhile, dRange1, dRange2, dRange3, dEnumT, e_isB, e_tupD, dgUnl, dSeq, dIfS, dSet, dAsg, dRet, dRetN, dDrop, dNext, dPar, dVar, dC, dOp, dB, dTru, dtNot, dtAnd, dtOr, dAnd, dOr, dNot, dIfE, dNeg, dNil, dCons, dTup, dLst, dCel, dNoP, dPart, dSlice, dRevT, dRevL, dCall, on1, dTupOf, dLstOf, dCelOf, dIsi, dName, dgNil, dgCons, dgTup, dFn, dMet, dMet0, gt, st, startD, wh_some, dYes, dEq, dNe, List.map, List.length, List.replicate, List.append, List.cons_append, List.nil_append, dWalk, uns, un, tupNms, dNms, ifT, ifF, List.replicate_succ, List.replicate_zero, Nat.sub_self, Nat.reduceSub, Nat.reduceAdd, Nat.zero_add, Bool.not_true, Bool.not_false, e_addI, e_addS, e_addT, e_addL, e_i2, e_i2c, e_is, e_bool, e_cel, e_strD, e_lenS, e_lenT, e_lenL, e_lenC, e_ixS, e_ixT, e_ixL, e_ixC, e_slS, e_slT, e_slL, e_slC, e_itT, e_itL, e_truN, e_truI, e_truB, e_truL, e_truT, e_okN, e_okB, e_okI, e_okS, e_okL, e_okT, e_okC, e_tupN, e_tupB, e_tupI, e_tupS, e_tupL, e_tupT, e_tupC, e_strN, e_strB, e_strI, e_strS, e_strL, e_strT, e_strC, e_intN, e_intB, e_intI, e_intS, e_intL, e_intT, e_intC, e_boolN, e_boolB, e_boolI, e_boolS, e_boolL, e_boolT, e_boolC, e_lstN, e_lstB, e_lstI, e_lstS, e_lstL, e_lstT, e_lstC, e_nonN, e_nonB, e_nonI, e_nonS, e_nonL, e_nonT, e_wkS, e_wkL, e_wkT, e_wkC, e_join, e_inS, e_ninS, e_ofI, e_ofB, e_abs, e_lenF, e_ixF, e_itF, e_wkF, e_tfF, e_truF, e_repT, e_keyI, e_keyS]; try simp only [true_and, and_true, Nat.reduceLeDiff, reduceIte, reduceCtorEq, Bool.false_eq_true, if_true, if_false, not_false_eq_true, ite_true, ite_false, and_self])
      rw [eM]
      generalize modesD (rs.take i) = M at lti ⊢
      refine ⟨by omega, 6, ps, _, rfl, by decide, by decide, vps, hp.ok, wps, ?_⟩
      show dAdd (PyData.list (.str m :: (M ++ [.str mo]))) (.list (goesD ps)) S1 _
      rw [e_addL]
      refine ⟨by rw [List.length_cons, List.length_append]; show _ + 1 + 1 + _ ≤ _; omega, ?_⟩
      refine ⟨rs, _, mo, le, rfl, fun r hr => (ro r hr).1, ?_⟩
      rw [rf]
      refine ask_bothN hp.rp (by omega) (by have := (three hd).2; omega) fun z => iteN (by rw [eqv_refl _ rfl]; decide) ?_
      refine ⟨ps, _, rfl, hp.ok, fun x hx => (vps.tup.2 x hx).mono (by decide), wps, fun S2 e2 => ⟨6, ps, _, rfl, by decide, by decide, vps, hp.ok, wps, ?_⟩⟩
      have vg : Vd 1 (.tuple (goesD ps)) := vd_tup (m := 0) fun x hx => by
        obtain ⟨z, rfl, hz⟩ := goes_name hp.ok (fun x hx => (vps.tup.2 x hx).mono (by decide)) hx
        exact ⟨(rp_name hz).lay, (rp_name hz).dep⟩
      refine wh_mk (show itemsD S2 (.list (goesD ps)) = some (goesD ps) from rfl) ⟨.inr ⟨vg.shaped (by decide), vg.shaped (by decide)⟩, iteN (by rw [eqv_refl _ (layPure _ vg.lay)]; decide) ?_⟩
      refine ⟨rs, _, mo, sx "zzz", rfl, fun r hr => (ro r hr).1, ?_⟩
      rw [rz1]
      refine iteN (by decide) ⟨rs, _, sx "zzz", le, rfl, fun r hr => (ro r hr).1, ?_⟩
      rw [rz2]
      refine iteN (by decide) ⟨hi2, e1.trans e2, some (.str mo), some (.str le), some (.tuple ps), ?_⟩
      rw [List.cons_append, List.append_assoc]
      rfl
    · rintro ρ S1 ⟨hi, e1, y4, y5, y6, rfl⟩
      rw [List.take_length, emst]
      try (dsimp only [dTryAsX, dRetX, dDropX, dSetX, dAsgX, dFnX, dRaise, dTryAs, dTryOnly, dXf, dIsX, dPar3, dFnR, List.reverse_cons, List.reverse_nil, dDelT, mPop0, mPop, mApp, mExt, dFld, dNew, dDGet, dDIn, dZipT, dAll, dTupF, dIdx, dTupRg, dDc, dReprT, dEqT, dNeT, dFor, dLc, dWhile, dRange1, dRange2, dRange3, dEnumT, e_isB, e_tupD, dgUnl, dSeq, dIfS, dSet, dAsg, dRet, dRetN, dDrop, dNext, dPar, dVar, dC, dOp, dB, dTru, dtNot, dtAnd, dtOr, dAnd, dOr, dNot, dIfE, dNeg, dNil, dCons, dTup, dLst, dCel, dNoP, dPart, dSlice, dRevT, dRevL, dCall, on1, dTupOf, dLstOf, dCelOf, dIsi, dName, dgNil, dgCons, dgTup, dFn, dMet, dMet0, gt, st, startD, wh_some, dYes, dEq, dNe, List.map, List.length, List.replicate, List.append, List.cons_append, List.nil_append, dWalk, uns, un, tupNms, dNms, ifT, ifF, List.replicate_succ, List.replicate_zero, Nat.sub_self, Nat.reduceSub, Nat.reduceAdd, Nat.zero_add, Bool.not_true, Bool.not_false, e_addI, e_addS, e_addT, e_addL, e_i2, e_i2c, e_is, e_bool, e_cel, e_strD, e_lenS, e_lenT, e_lenL, e_lenC, e_ixS, e_ixT, e_ixL, e_ixC, e_slS, e_slT, e_slL, e_slC, e_itT, e_itL, e_truN, e_truI, e_truB, e_truL, e_truT, e_okN, e_okB, e_okI, e_okS, e_okL, e_okT, e_okC, e_tupN, e_tupB, e_tupI, e_tupS, e_tupL, e_tupT, e_tupC, e_strN, e_strB, e_strI, e_strS, e_strL, e_strT, e_strC, e_intN, e_intB, e_intI, e_intS, e_intL, e_intT, e_intC, e_boolN, e_boolB, e_boolI, e_boolS, e_boolL, e_boolT, e_boolC, e_lstN, e_lstB, e_lstI, e_lstS, e_lstL, e_lstT, e_lstC, e_nonN, e_nonB, e_nonI, e_nonS, e_nonL, e_nonT, e_wkS, e_wkL, e_wkT, e_wkC, e_join, e_inS, e_ninS, e_ofI, e_ofB, e_abs, e_lenF, e_ixF, e_itF, e_wkF, e_tfF, e_truF, e_repT, e_keyI, e_keyS]; try simp only [true_and, and_true, Nat.reduceLeDiff, reduceIte, reduceCtorEq, Bool.false_eq_true, if_true, if_false, not_false_eq_true, ite_true, ite_false, and_self])
      have esd : strsD (PyData.str m :: mst.map PyData.str) = some (m :: mst) := strsD_map (m :: mst)
      have nall : ∀ z ∈ m :: mst, nameD (.str z) = true := fun z hz => by
        rcases List.mem_cons.mp hz with q | q
        · rw [q]; exact nm.1
        · have : PyData.str z ∈ modesD rs := by rw [emst]; exact List.mem_map.mpr ⟨z, q, rfl⟩
          obtain ⟨z', e, h⟩ := modes_name ht hd this
          cases e
          exact h
      have sh := vrs.shaped (by decide)
      refine ⟨_, rfl, wh_mk rfl ⟨.inr ⟨sh, sh⟩, iteN (by rw [eqv_refl _ prs]; decide) ⟨_, rfl, wh_mk rfl ⟨eqOk_str _ _, iteN (by rw [eqv_refl _ rfl]; decide) ?_⟩⟩⟩⟩
      refine ⟨rs, m, mst, rfl, ro, emst, by omega, fun ys S2 n1 m1 s1 e2 => wh_mk esd ⟨by rw [List.length_cons]; omega, fun ys2 n2 m2 s2 => ?_⟩⟩
      have ey : ys = ys2 := sorted_uniq s1 s2 n1 n2 fun z => by rw [m1, m2]
      subst ey
      have vy : Vd 1 (.tuple (ys.map PyData.str)) := vd_tup (m := 0) fun x hx => by
        obtain ⟨z, hz, rfl⟩ := List.mem_map.mp hx
        have h := nall z ((m1 z).mp hz)
        exact ⟨(rp_name h).lay, (rp_name h).dep⟩
      refine ⟨.inr ⟨vy.shaped (by decide), vy.shaped (by decide)⟩, iteN (by rw [eqv_refl _ (layPure _ vy.lay)]; decide) ?_⟩
      have pt : pureD (.tuple [.tuple rs, .str m]) = true := by
        show (pureD (.tuple rs) && (true && true)) = true
        rw [prs]
        rfl
      have eQ : eqOk (.tuple rs) (.tuple rs) := .inr ⟨sh, sh⟩
      refine ⟨⟨_, rfl⟩, ⟨_, .inl ⟨okTy_pure pt, rfl⟩, T.nf1⟩, _, _, .inl ⟨_, rfl, pt, false, rfl, iteN (by decide) ?_⟩⟩
      refine ⟨⟨_, rfl⟩, ⟨.ref CT, .inr (.inr ⟨CT, _, rfl, rfl⟩), T.nf2⟩, _, _, .inr ⟨_, _, rfl, eQ, eqOk_str _ _, _, rfl, ?_⟩⟩
      rw [eqv_strD m, decide_eq_false nm.2, Bool.and_false]
      refine iteN (by decide) ⟨by omega, ⟨_, rfl⟩, ⟨.ref CT, .inr (.inr ⟨CT, _, rfl, rfl⟩), T.nf2⟩, _, _, .inr ⟨_, _, rfl, ?_, eqOk_str _ _, _, rfl, ?_⟩⟩
      · refine .inr ⟨sh, (vd_tup (m := 7) fun x hx => ?_).shaped (by decide)⟩
        rcases List.mem_append.mp hx with h | h
        · exact (tur_rule ht hd h).2.1
        · rw [List.mem_singleton.mp h]
          exact (sz_of (m := 7) (n := 100) (by decide +kernel)).vd
      have en : PyData.eqv (.tuple rs) (.tuple (rs ++ [PyData.tuple [PyData.str (Str.ofString "zzz"), PyData.str (Str.ofString ""), PyData.tuple []]])) = false := by
        cases h : PyData.eqv (.tuple rs) (.tuple (rs ++ [PyData.tuple [PyData.str (Str.ofString "zzz"), PyData.str (Str.ofString ""), PyData.tuple []]])) with
        | false => rfl
        | true =>
          have := eqv_len _ _ h
          rw [List.length_append] at this
          have e : ∀ x : PyData, [x].length = 1 := fun _ => rfl
          rw [e] at this
          omega
      rw [en, Bool.false_and]
      refine iteN (by decide) ?_
      refine ⟨⟨_, rfl⟩, ⟨.ref CT, .inr (.inr ⟨CT, _, rfl, rfl⟩), T.nf2⟩, _, _, .inr ⟨_, _, rfl, eQ, eqOk_str _ _, _, rfl, ?_⟩⟩
      rw [eqv_refl _ prs, eqv_refl (.str m) rfl]
      refine iteY rfl ⟨⟨_, rfl⟩, ⟨.ref CT, .inr (.inr ⟨CT, _, rfl, rfl⟩), T.nf2⟩, _, _, .inr ⟨_, _, rfl, eQ, eqOk_str _ _, _, rfl, ?_⟩⟩
      rw [eqv_refl _ prs, eqv_refl (.str m) rfl]
      exact q S2 (e1.trans e2)
end
end K3

/-! the deal of a script and of a law's own number -/
namespace K1
open PySem L2
abbrev sDeal : Stmt := top 27
def spDeal (K : PySem.W.Frag) : Sp := fun vs H Q _ => ∃ (a : Addr) (ns : List Int) (b0 : Int), vs = [.ref a, .int b0] ∧ SqL K H a (ns.map V.int) ∧ ns.length ≤ 63 ∧ 0 ≤ b0 ∧ b0 ≤ 1000 ∧
  ∀ (d c : Addr) (H' : Hp), DealAt H' d c → Same H H' → H d = none → H c = none → Q (.ref d) H'
theorem scDeal : FnScope ["script", "base", "cells", "mix", "cell"] ["script", "base"] (defScope sDeal) := ⟨rfl, rfl, rfl, by decide +kernel, rfl, by decide +kernel, by decide +kernel⟩
structure DealTxt (K : PySem.W.Frag) (mg : Str → Option Value) : Prop where
  int : mg "int" = none
  abs : mg "abs" = none
section
variable {P : Program} {w : World} {K : PySem.W.Frag} {mg : Str → Option Value} {base : Heap}
theorem ok_deal {f : Addr} {fd : FuncData} (F : Fun K "_law_deal" "_law_deal" sDeal f fd) (T : DealTxt K mg) : FnOk P w K mg base CX0 1 f fd ["script", "base"] (spDeal K) := by
  refine F.ok scDeal (fun vs H Q E h => ?_) (fun cdv A outer s H vs Q E hr h => ?_)
  · obtain ⟨a, ns, b0, rfl, _⟩ := h
    rfl
  · obtain ⟨a, ns, b0, rfl, hS, l, hb0, hb1, k⟩ := h
    refine ⟨_, pss_cons (ps_setLc (i := 2) (own := [("cell", 4)]) (g := gName 4) (tt := tYes) (by rfl) scDeal.nd rfl rfl (sw_true rfl rfl rfl (by decide +kernel)) (pi_list (pe_slice sl_list (pv 0) po_none (po_some pe_int)))
        (blkOk_by (own := [("cell", 4)]) (N := ["script", "base", "cells", "mix", "cell"]) (sc := defScope sDeal) (by decide +kernel)) (fun _ _ _ _ _ => pg_name (i := 4) scDeal.nd rfl (Or.inl rfl)) (fun _ _ _ _ _ => pts_nil)
        (fun _ _ _ _ _ => pe_callB call_abs (by rfl) T.abs (by decide +kernel) (pa_cons (pe_callTy call_int1 (by rfl) T.int (by decide +kernel) (pa_cons (pv 4) pa_nil)) pa_nil)))
      (pss_cons (ps_set (i := 3) scDeal.nd rfl (Or.inl rfl) (pe_op op_add (pe_op op_mul pe_int (pv 1)) pe_int))
      (pss_cons (ps_for PassesOwn.never rfl (pi_list (pv 2)) (pg_name (i := 4) scDeal.nd rfl (Or.inl rfl))
        (pss_one (ps_set (i := 3) scDeal.nd rfl (Or.inl rfl) (pe_op op_mod (pe_callTy call_int1 (by rfl) T.int (by decide +kernel) (pa_cons (pe_op op_add (pe_op op_add (pe_op op_mul (pv 3) pe_int) (pe_op op_mod (pv 4) pe_int)) pe_int) pa_nil)) pe_int))))
      (pss_one (ps_ret (pe_lst (pa_cons (pe_revL (pe_lc (own := [("cell", 4)]) (g := gName 4) (by rfl) scDeal.nd (pi_list (pv 2))
          (blkOk_by (own := [("cell", 4)]) (N := ["script", "base", "cells", "mix", "cell"]) (sc := defScope sDeal) (by decide +kernel)) (fun _ _ _ _ _ => pg_name (i := 4) scDeal.nd rfl (Or.inl rfl))
          (fun _ _ _ _ _ => pts_one (pt_cmpR op_ge (pv 4) (pe_op op_pow pe_int pe_int) (nomark _))) (fun _ _ _ _ _ => pv 4))) (pa_cons (pv 3) pa_nil))))))), ?_⟩
    obtain ⟨ms, em, lm⟩ := cut_ints ns none (some 63)
    refine ⟨_, rfl, 63, rfl, _, _, rfl, hS, fun p hp => ⟨p, rfl, ⟨_, SqL.of upd_same⟩, fun D hD => ?_⟩⟩
    have pD : p ≠ D := ne_of_none upd_same hD
    have hD0 : H D = none := by
      have z := hD
      rw [upd_ne (Ne.symm pD)] at z
      exact z
    rw [em] at hD ⊢
    refine lc_list (K := K) (a := p) (xs := ms.map V.int) (fun i H1 => Same H H1 ∧ H1 p = some (.lst (ms.map V.int)) ∧ H1 D = some (.lst (((ms.take i).map absI).map V.int))) ⟨?_, ?_, upd_same⟩ (fun i H1 _ q => SqL.of q.2.1) ?_ ?_
    · intro q o hq
      rw [upd_ne (ne_of_none hq hD0), upd_ne (ne_of_none hq hp)]
      exact hq
    · rw [upd_ne pD, upd_same]
    · rintro i x H1 hx ⟨q1, q2, q3⟩
      obtain ⟨z, hz, rfl⟩ := map_at hx
      have li : i < ms.length := (List.getElem?_eq_some_iff.mp hz).1
      refine ⟨rfl, ?_⟩
      refine ⟨_, rfl, .inl ⟨_, rfl, _, rfl, _, q3, small1000 (by simp; omega), ?_, ?_, ?_⟩⟩
      · intro q o hq
        rw [upd_ne (ne_of_none hq hD0)]
        exact q1 q o hq
      · rw [upd_ne pD]
        exact q2
      · rw [upd_same, take_more hz]
        simp [absI]
    · rintro H1 ⟨q1, q2, q3⟩
      rw [List.length_map, List.take_length] at q3
      have gc : ∀ x ∈ ms.map absI, 0 ≤ x := fun x hx => by
        obtain ⟨y, _, rfl⟩ := List.mem_map.mp hx
        exact absI_nn y
      have lc : (ms.map absI).length ≤ 63 := by rw [List.length_map]; omega
      generalize ms.map absI = cs at q3 gc lc
      -- the blend
      refine ⟨_, rfl, _, _, rfl, rfl, .inl ⟨by decide, by decide⟩, _, _, rfl, rfl, _, rfl, D, rfl, ⟨_, SqL.of q3⟩, for_list (K := K) (a := D) (xs := cs.map V.int) (fun i σ H2 => ∃ (b : Int) (v : Option V), σ = [some (.ref a), some (.int b0), some (.ref D), some (.int b), v] ∧ H2 = H1 ∧ 0 ≤ b ∧ b < 2147483647)
        ⟨51869 * b0 + 977, none, rfl, rfl, by omega, by omega⟩ (fun i σ H2 _ ⟨_, _, _, e, _⟩ => by rw [e]; exact SqL.of q3) ?_ ?_⟩
      · rintro i x σ H2 hx ⟨b, v, rfl, rfl, b0, b1⟩
        obtain ⟨z, hz, rfl⟩ := map_at hx
        refine ⟨_, rfl, _, _, rfl, rfl, .inr ⟨by decide, by decide⟩, _, rfl, _, _, rfl, rfl, (by show (0 : Int) < 2147483563; decide), _, _, rfl, rfl, _, _, rfl, rfl, .inl ⟨_, rfl, _, _, rfl, rfl, (by show (0 : Int) < 2147483647; decide), ?_⟩⟩
        exact ⟨_, _, rfl, rfl, Int.emod_nonneg _ (by decide), Int.emod_lt_of_pos _ (by decide)⟩
      · rintro σ H2 ⟨b, v, rfl, rfl, b0, b1⟩
        refine ⟨_, rfl, D, rfl, ⟨_, SqL.of q3⟩, fun D2 hD2 => ?_⟩
        have n2 : D ≠ D2 := ne_of_none q3 hD2
        refine lc_list (K := K) (a := D) (xs := cs.map V.int) (fun i H3 => ∃ fs : List Int, Same H2 H3 ∧ H3 D2 = some (.lst (fs.map V.int)) ∧ (∀ x ∈ fs, 0 ≤ x) ∧ fs.length ≤ i) ⟨[], fun q o hq => by rw [upd_ne (ne_of_none hq hD2)]; exact hq, upd_same, by simp, by simp⟩
          (fun i H3 _ ⟨_, s3, _⟩ => SqL.of (s3 _ _ q3)) ?_ ?_
        · rintro i x H3 hx ⟨fs, s3, f3, g3, l3⟩
          obtain ⟨z, hz, rfl⟩ := map_at hx
          have li : i < cs.length := (List.getElem?_eq_some_iff.mp hz).1
          refine ⟨rfl, _, rfl, _, _, rfl, rfl, ⟨by decide, by decide, by decide⟩, _, _, rfl, rfl, _, rfl, ?_⟩
          refine ite2 (fun _ => ?_) (fun _ => ?_)
          · refine ⟨_, rfl, _, f3, small1000 (by simp; omega), fs ++ [z], ?_, ?_, ?_, ?_⟩
            · intro q o hq
              rw [upd_ne (ne_of_none hq hD2)]
              exact s3 q o hq
            · rw [upd_same]
              simp
            · intro y hy
              rcases List.mem_append.mp hy with hy | hy
              · exact g3 y hy
              · rw [List.mem_singleton] at hy
                subst hy
                exact gc _ (List.mem_of_getElem? hz)
            · simp
              omega
          · exact ⟨fs, s3, f3, g3, by omega⟩
        · rintro H3 ⟨fs, s3, f3, g3, l3⟩
          rw [List.length_map] at l3
          refine ⟨D2, _, rfl, SqL.of f3, fun r hr => ⟨_, rfl, (by show 2 ≤ sizeLine; decide), fun t ht => ?_⟩⟩
          have nt : r ≠ t := ne_of_none upd_same ht
          have s4 : Same H (upd (upd H3 r (.lst (fs.map V.int).reverse)) t (.lst [.ref r, .int b])) := fun q o hq => by
            have z := s3 _ _ (q1 q o hq)
            have zr := ne_of_none z hr
            rw [upd_ne (ne_of_none (by rw [upd_ne zr]; exact z) ht), upd_ne zr]
            exact z
          refine k t r _ ⟨fs.reverse, b, upd_same, ?_, ?_, ?_, b0, b1⟩ s4 ?_ ?_
          · rw [upd_ne nt, upd_same, List.map_reverse]
          · intro x hx
            exact g3 x (List.mem_reverse.mp hx)
          · rw [List.length_reverse]
            omega
          · have ht3 : H3 t = none := by
              have z := ht
              rw [upd_ne (Ne.symm nt)] at z
              exact z
            exact (q1.trans s3).free ht3
          · exact (q1.trans s3).free hr
end
end K1

/-! a law's begin, the deal made of the script and a number -/
namespace K3
open PySem L2 Xr K1
/-- a law whose first row makes the deal, of the script and a number -/
theorem law_goD {K : PySem.W.Frag} {W : WZ} {t2 : DS} {N : List Str} {a : Addr} {ns : List Int} {b0 : Int} {H : Hp} {Q : VK} (hb0 : 0 ≤ b0) (hb1 : b0 ≤ 1000) (hS : SqL K H a (ns.map V.int)) (l : ns.length ≤ 63) (hz : ∀ a, H a = none → W.2 a) (k : ∀ H', Q (.bl true) H') (hN : 2 ≤ N.length)
    (p : ∀ S n k', DealD S n k' → t2 { nx := fun _ _ => False, rt := fun d _ => d = .bool true } (none :: some (cel n) :: List.replicate (N.length - 2) none) S) :
    tSeq (tAsg (tCall (spDeal K) [] E0 (tCons (tVar 0) (tCons (tC (.int b0)) tNil))) (gName 1)) (lftS K W t2) { nx := fun _ H' => Q .non H', rt := Q } (L2.start N [.ref a]) H := by
  have e : L2.start N [.ref a] = some (.ref a) :: none :: List.replicate (N.length - 2) none := by
    unfold L2.start
    obtain ⟨n, hn⟩ : ∃ n, N.length = n + 2 := ⟨N.length - 2, by omega⟩
    rw [hn]
    rfl
  rw [e]
  refine ⟨.ref a, rfl, a, ns, b0, rfl, hS, l, hb0, hb1, fun d c H' D s h1 h2 => ?_⟩
  obtain ⟨m, S, w, DD, md⟩ := deal_wd (K := K) D
  refine ⟨(m, H'), none :: some (cel 0) :: List.replicate (N.length - 2) none, S, m, _, ⟨Evo.refl, w, ?_⟩, p S 0 1 DD, ?_⟩
  · refine ⟨fun z q => (nomatch q), fun z q => ?_, Fr.none _⟩
    cases q
    exact ⟨_, rfl, .cel md⟩
  · exact ⟨fun _ _ _ _ _ q _ => q.elim, fun d S v H2 m2 q e w dv => by
      subst q
      cases dv
      exact k H2, fun _ _ _ _ _ q _ => q.elim, fun _ _ _ _ _ q _ => q.elim, Lk.no fun q z => hz q (s.free z)⟩
end K3

/-! the law -/
namespace K3
open PySem L2 Xr K1 Exv Grd
abbrev sLaw : Stmt := top 41
theorem scLaw : FnScope ["script", "deal", "rules", "mode", "value", "turn", "worse", "start", "due", "told"] ["script"] (defScope sLaw) := ⟨rfl, rfl, rfl, by decide +kernel, rfl, by decide +kernel, by decide +kernel⟩
theorem textFrom_leV : ∀ (ts : List Str) (k : Nat) (acc : Str), (textFrom k acc ts).length ≤ acc.length + piled ts
  | [], k, acc => Nat.le_refl _
  | t :: ts, k, acc => by
    have ih := textFrom_leV ts (k + 1) (acc ++ Str.ofString (if k > 0 then ", " else "") ++ t)
    have l : (Str.ofString (if k > 0 then ", " else "")).length ≤ 2 := by split <;> decide +kernel
    rw [strLen_append, strLen_append] at ih
    rw [piled_cons]
    show (textFrom (k + 1) (acc ++ Str.ofString (if k > 0 then ", " else "") ++ t) ts).length ≤ _
    omega
theorem rp_lstV {n B : Nat} {ds : List PyData} (h : ∀ x ∈ ds, Rp n B x) : Rp (n + 1) (ds.length * (B + 2) + 3) (.list ds) := by
  obtain ⟨a, b, c, e⟩ := rp_all ds h
  refine ⟨?_, ?_, ?_, ?_⟩
  · unfold PyData.canLay0
    exact a
  · unfold PyData.depth
    omega
  · unfold PyData.showable
    exact c
  · unfold PyData.shown listText
    rw [strLen_append]
    have j := textFrom_leV (PyData.shownAll ds) 0 (Str.ofString "[")
    have e1 : (Str.ofString "[").length = 1 := rfl
    have e2 : (Str.ofString "]").length = 1 := rfl
    rw [e2]
    omega

theorem tur_due {d g : Nat} {ms ns : List Str} {rs : List PyData} {m : Str} (t : Tur d g ms ns rs) (hd : d < 3) (hm : m ∈ ms) : dueO (.tuple rs) (.str m) = none := by
  have nm := ((tur_modes t).1 m hm).1
  show (if nameD (.str m) = true then _ else _) = _
  rw [if_pos nm, fb_none fun j hj => ?_]
  · rfl
  have pw := tur_pw t
  have lk : (keysL rs).length = rs.length := by unfold keysL; rw [List.length_map]
  unfold badAt
  rw [List.getElem?_eq_getElem hj]
  have mj := List.getElem_mem hj
  dsimp only
  rw [(tur_rule t hd mj).1]
  by_cases h0 : 0 < j
  · have hp : j - 1 < rs.length := by omega
    rw [List.getElem?_eq_getElem hp]
    have h := (List.pairwise_iff_getElem.mp pw (j - 1) j (by omega) (by omega) (by omega)).1
    have e1 : (keysL rs)[j - 1]'(by omega) = keyP rs[j - 1] := by unfold keysL; rw [List.getElem_map]
    have e2 : (keysL rs)[j]'(by omega) = keyP rs[j] := by unfold keysL; rw [List.getElem_map]
    rw [e1, e2] at h
    obtain ⟨a, l, ps, e3, _⟩ := t.dr _ mj
    obtain ⟨a2, l2, ps2, e4, _⟩ := t.dr _ (List.getElem_mem hp)
    rw [e3, e4] at h
    dsimp only
    rw [e3, e4]
    have h' : PySem.W.dataLt (.tuple [.str a2, .str l2]) (.tuple [.str a, .str l]) = true := h
    show (!true || (decide (0 < j) && !PySem.W.dataLt (.tuple [.str a2, .str l2]) (.tuple [.str a, .str l]))) = false
    rw [h', decide_eq_true h0]
    rfl
  · rw [decide_eq_false h0]
    rfl
theorem tur_dueV {C : Addr} {r m : PyData} (hr : Vd 50 r) (hm : Sz 30 100 m) (hw : ∀ rs, r = .tuple rs → ∀ x ∈ rs, wt x ≤ 20000) : DueV C (turnD C r m) (dueO r m) :=
  .tur (layPure _ hr.lay) (layPure _ hm.vd.lay) (fun z e => by
    have := hm.ws
    rw [e] at this
    have e2 : wt (.str z) = 1 + z.length := rfl
    omega) fun rs e x hx => ⟨(vd_mem (m := 50) (by rw [← e]; exact hr) x hx).mono (by decide), hw rs e x hx⟩
theorem toldD_rp {o : Option Int} (h : ∀ i, o = some i → i.natAbs < 1000000000) : Rp 2 2000 (toldD o) := by
  cases o with
  | none => exact rp_none.mono (by decide) (by decide)
  | some i =>
    refine (rp_lstV (n := 0) (B := 300) (ds := [.int i, .bool true, .bool false]) fun x hx => ?_).mono (by decide) (by show 3 * (300 + 2) + 3 ≤ 2000; decide)
    rcases List.mem_cons.mp hx with q | q
    · rw [q]; exact rp_int (h i rfl)
    rcases List.mem_cons.mp q with q | q
    · rw [q]; exact rp_bool _
    · rw [List.mem_singleton.mp q]; exact rp_bool _
theorem shown_m1 : (toldD (some (-1))).shown = Str.ofString "[-1, True, False]" := by decide +kernel
theorem ask_due {o : Option Int} {S : Sto} {R : PyData → PyData → Sto → Prop} (r : Rp 2 2000 (toldD o)) (q : ∀ z : Str, R (.str z) (.str z) S) : dRepr (toldD o) S fun a S1 => if isNon (optD o) = true then dRepr .none S1 fun b S2 => eqOk a b ∧ R a b S2 else dRepr (.list [optD o, .bool true, .bool false]) S1 fun b S2 => eqOk a b ∧ R a b S2 := by
  have fin : ∀ z : Str, eqOk (.str z) (.str z) ∧ R (.str z) (.str z) S := fun z => ⟨eqOk_str z z, q z⟩
  cases o with
  | none => exact ask_rpN r (by decide) (by decide) (iteY rfl (ask_rpN (d := toldD none) r (by decide) (by decide) (fin _)))
  | some i => exact ask_rpN r (by decide) (by decide) (iteN (by intro h; cases h) (ask_rpN (d := toldD (some i)) r (by decide) (by decide) (fin _)))
theorem due_small {rs : List PyData} {m : PyData} {i : Int} (h : dueO (.tuple rs) m = some i) (l : rs.length ≤ 1000) : i.natAbs < 1000000000 := by
  have h' : (if nameD m = true then (firstBad rs).map fun (n : Nat) => (n : Int) else some (-1)) = some i := h
  split at h'
  · cases e : firstBad rs with
    | none => rw [e] at h'; cases h'
    | some j =>
      rw [e] at h'
      have := fb_lt e
      have e2 : ((j : Nat) : Int) = i := Option.some.inj h'
      omega
  · have e2 : (-1 : Int) = i := Option.some.inj h'
    omega
theorem due_rules {rs : List PyData} {m : PyData} (h : dueO (.tuple rs) m = none) : ∀ r ∈ rs, ruleB r = true := by
  have h' : (if nameD m = true then (firstBad rs).map fun (n : Nat) => (n : Int) else some (-1)) = none := h
  split at h'
  · intro r hr
    obtain ⟨j, hj, e⟩ := List.getElem_of_mem hr
    have hb : badAt rs j = false := by
      cases hh : badAt rs j with
      | false => rfl
      | true =>
        exfalso
        have e2 : firstBad rs = none := by
          cases e : firstBad rs with
          | none => rfl
          | some k => rw [e] at h'; cases h'
        unfold firstBad at e2
        rw [List.find?_eq_none] at e2
        exact e2 j (List.mem_range.mpr hj) hh
    unfold badAt at hb
    rw [List.getElem?_eq_getElem hj, e] at hb
    have := (Bool.or_eq_false_iff.mp hb).1
    simpa using this
  · cases h'
structure LawTxt (K : PySem.W.Frag) (mg : Str → Option Value) (CT fI a_law_deal a_law_names a_law_turning a_law_tells a_law_turned a_law_due a_law_told a_is_turning a_need_turning : Addr) : Prop where
  n_range : mg "range" = none
  n_repr : mg "repr" = none
  n_list : mg "list" = none
  g_Turning : mg "Turning" = some (.ref CT)
  mk_Turning : Mk K CT fI
  g_law_deal : mg "_law_deal" = some (.ref a_law_deal)
  k_law_deal : PySem.W.keepIn K (.ref a_law_deal) = true
  g_law_names : mg "_law_names" = some (.ref a_law_names)
  k_law_names : PySem.W.keepIn K (.ref a_law_names) = true
  g_law_turning : mg "_law_turning" = some (.ref a_law_turning)
  k_law_turning : PySem.W.keepIn K (.ref a_law_turning) = true
  g_law_tells : mg "_law_tells" = some (.ref a_law_tells)
  k_law_tells : PySem.W.keepIn K (.ref a_law_tells) = true
  g_law_turned : mg "_law_turned" = some (.ref a_law_turned)
  k_law_turned : PySem.W.keepIn K (.ref a_law_turned) = true
  g_law_due : mg "_law_due" = some (.ref a_law_due)
  k_law_due : PySem.W.keepIn K (.ref a_law_due) = true
  g_law_told : mg "_law_told" = some (.ref a_law_told)
  k_law_told : PySem.W.keepIn K (.ref a_law_told) = true
  g_is_turning : mg "is_turning" = some (.ref a_is_turning)
  k_is_turning : PySem.W.keepIn K (.ref a_is_turning) = true
  g_need_turning : mg "need_turning" = some (.ref a_need_turning)
  k_need_turning : PySem.W.keepIn K (.ref a_need_turning) = true
section
variable {P : Program} {w : World} {K : PySem.W.Frag} {mg : Str → Option Value} {base : Heap} {CT CE fI a_law_deal a_law_names a_law_turning a_law_tells a_law_turned a_law_due a_law_told a_is_turning a_need_turning : Addr} {dI d0 d1 d2 d3 d4 d5 d6 d7 d8 : FuncData}
theorem ok_law {f : Addr} {fd : FuncData} (F : Fun K "law" "law" sLaw f fd) (T : LawTxt K mg CT fI a_law_deal a_law_names a_law_turning a_law_tells a_law_turned a_law_due a_law_told a_is_turning a_need_turning)
    (G_Turning : FnOk P w K mg base CX0 1 fI dI ["self", "rules", "mode"] (spIni CT ["rules", "mode"])) (b_Turning : Binds K dI ["self", "rules", "mode"] [])
    (G_law_deal : FnOk P w K mg base CX0 1 a_law_deal d0 ["script", "base"] (spDeal K)) (b_law_deal : Binds K d0 ["script", "base"] [])
    (G_law_names : FnOk P w K mg base CX0 3 a_law_names d1 ["deal"] (spD K spLNms)) (b_law_names : Binds K d1 ["deal"] [])
    (G_law_turning : FnOk P w K mg base CX0 7 a_law_turning d2 ["deal", "names", "most", "goes", "deep"] (spD K spLTur)) (b_law_turning : Binds K d2 ["deal", "names", "most", "goes", "deep"] [])
    (G_law_tells : FnG P w K mg base CX0 9 a_law_tells d3 ["rules", "mode"] (spD K spLTel)) (b_law_tells : Binds K d3 ["rules", "mode"] [])
    (G_law_turned : FnOk P w K mg base CX0 3 a_law_turned d4 ["deal", "rules", "mode"] (spD K spLTud)) (b_law_turned : Binds K d4 ["deal", "rules", "mode"] [])
    (G_law_due : FnOk P w K mg base CX0 65 a_law_due d5 ["rules", "mode"] (spD K spLDue)) (b_law_due : Binds K d5 ["rules", "mode"] [])
    (G_law_told : FnOk P w K mg base CX0 7 a_law_told d6 ["value"] (spD K (spLTold CT))) (b_law_told : Binds K d6 ["value"] [])
    (G_is_turning : FnOk P w K mg base CX0 7 a_is_turning d7 ["value"] (spD K (spIsTu CT))) (b_is_turning : Binds K d7 ["value"] []) (kb_is_turning : BindsK d7 ["value"] ["value"])
    (G_need_turning : FnOk P w K mg base (L2.CX P w) 6 a_need_turning d8 ["value"] (spD K (spNeedTu CT CE))) (b_need_turning : Binds K d8 ["value"] []) :
    FnG P w K mg base CX0 68 f fd ["script"] (spLaw K) := by
  refine Grd.fng_of F scLaw (fun vs H Q E h => ?_) (fun cdv A outer s H vs Q E gd (hr : Room 67 _) h => ?_)
  · obtain ⟨a, ns, rfl, _⟩ := h
    rfl
  · obtain ⟨a, ns, rfl, hS, l, kq⟩ := h
    obtain ⟨t2, h2, p2⟩ : ∃ t2, QSs (cxOf CX0 P w K mg base ["script", "deal", "rules", "mode", "value", "turn", "worse", "start", "due", "told"] "law" (defScope sLaw) _ cdv A outer s H E) ((defBody sLaw).drop 1) t2 ∧ ∀ S n k', DealD S n k' → t2 { nx := fun _ _ => False, rt := fun d _ => d = .bool true } (none :: some (cel n) :: List.replicate (10 - 2) none) S := by
      refine ⟨_, (qss_cons (qs_asg (q_call hr G_law_turning T.g_law_turning T.k_law_turning b_law_turning (by rfl) (by decide) (q_cons (q_var (pv 1)) (q_cons (q_call hr G_law_names T.g_law_names T.k_law_names b_law_names (by rfl) (by decide) (q_cons (q_var (pv 1)) q_nil)) (q_cons q_int (q_cons q_int (q_cons q_int q_nil)))))) (qg_tup (n := 2) (by rfl) (qgs_cons (qg_name (pg_name (i := 2) scLaw.nd rfl (Or.inl rfl))) (qgs_cons (qg_name (pg_name (i := 3) scLaw.nd rfl (Or.inl rfl))) qgs_nil))))
      (qss_cons (qs_if (PW.pt (qw_or (qt_not (qt_tru (q_callG gd hr G_law_tells T.g_law_tells T.k_law_tells b_law_tells (by rfl) (by decide) (q_cons (q_var (pv 2)) (q_cons (q_var (pv 3)) q_nil))) (by intro _; rfl))) (qw_or (qt_cmp op_notBl snd_notB (q_kw hr G_is_turning T.g_is_turning T.k_is_turning kb_is_turning (by rfl) (by decide) (qk_cons (q_new T.mk_Turning G_Turning hr (by decide) (by rfl) T.g_Turning b_Turning (q_cons (q_tup q_nil) (q_cons q_str q_nil))) qk_nil)) q_bl (nomark _)) (qw_or1 (qt_cmp op_notN snd_notN (q_callN hr G_need_turning T.g_need_turning T.k_need_turning b_need_turning (by rfl) (by decide) (q_cons (q_new T.mk_Turning G_Turning hr (by decide) (by rfl) T.g_Turning b_Turning (q_cons (q_var (pv 2)) (q_cons (q_var (pv 3)) q_nil))) q_nil)) q_non (nomark _))))))
      (qss_one (qs_ret q_bl))
      qss_nil)
      (qss_cons (qs_for PassesOwn.leaving rfl (qi_any (q_lst (q_cons q_non (q_cons (q_tup (q_cons (q_var (pv 2)) (q_cons (q_var (pv 3)) q_nil))) (q_cons q_int (q_cons q_str (q_cons (q_new T.mk_Turning G_Turning hr (by decide) (by rfl) T.g_Turning b_Turning (q_cons (q_list T.n_list (by rfl) (q_cons (q_var (pv 2)) q_nil)) (q_cons (q_var (pv 3)) q_nil))) (q_cons (q_new T.mk_Turning G_Turning hr (by decide) (by rfl) T.g_Turning b_Turning (q_cons q_non (q_cons (q_var (pv 3)) q_nil))) (q_cons q_bl q_nil))))))))) (qg_name (pg_name (i := 4) scLaw.nd rfl (Or.inl rfl)))
      (qss_one (qs_if (PW.pt (qw_or (qt_cmp op_notBl snd_notB (q_call hr G_is_turning T.g_is_turning T.k_is_turning b_is_turning (by rfl) (by decide) (q_cons (q_var (pv 4)) q_nil)) q_bl (nomark _)) (qw_or1 (qt_cmp (op_neA (u64 hr)) snd_ne (q_repr gd (Grd.u200 hr) T.n_repr (by rfl) (q_cons (q_call hr G_law_told T.g_law_told T.k_law_told b_law_told (by rfl) (by decide) (q_cons (q_var (pv 4)) q_nil)) q_nil)) q_str (nomark _)))))
      (qss_one (qs_ret q_bl))
      qss_nil)))
      (qss_cons (qs_for PassesOwn.leaving rfl (qi_range1 T.n_range (by rfl) (q_cons q_int q_nil)) (qg_name (pg_name (i := 5) scLaw.nd rfl (Or.inl rfl)))
      (qss_cons (qs_asg (q_call hr G_law_turned T.g_law_turned T.k_law_turned b_law_turned (by rfl) (by decide) (q_cons (q_var (pv 1)) (q_cons (q_var (pv 2)) (q_cons (q_var (pv 3)) q_nil)))) (qg_tup (n := 2) (by rfl) (qgs_cons (qg_name (pg_name (i := 6) scLaw.nd rfl (Or.inl rfl))) (qgs_cons (qg_name (pg_name (i := 7) scLaw.nd rfl (Or.inl rfl))) qgs_nil))))
      (qss_cons (qs_if (PW.pt (qw_and (qt_cmp op_gt snd_lt (q_var (pv 5)) q_int (nomark _)) (qw_and1 (qt_cmp op_isN snd_isN (q_call hr G_law_due T.g_law_due T.k_law_due b_law_due (by rfl) (by decide) (q_cons (q_var (pv 6)) (q_cons (q_var (pv 3)) q_nil))) q_non (nomark _)))))
      (qss_one (qs_asg (q_call hr G_law_turned T.g_law_turned T.k_law_turned b_law_turned (by rfl) (by decide) (q_cons (q_var (pv 1)) (q_cons (q_var (pv 6)) (q_cons (q_var (pv 7)) q_nil)))) (qg_tup (n := 2) (by rfl) (qgs_cons (qg_name (pg_name (i := 6) scLaw.nd rfl (Or.inl rfl))) (qgs_cons (qg_name (pg_name (i := 7) scLaw.nd rfl (Or.inl rfl))) qgs_nil)))))
      qss_nil)
      (qss_cons (qs_par (i := 8) (j := 4) (by rfl) scLaw.nd rfl rfl (by decide) rfl rfl (q_cons (q_call hr G_law_due T.g_law_due T.k_law_due b_law_due (by rfl) (by decide) (q_cons (q_var (pv 6)) (q_cons (q_var (pv 7)) q_nil))) (q_cons (q_new T.mk_Turning G_Turning hr (by decide) (by rfl) T.g_Turning b_Turning (q_cons (q_var (pv 6)) (q_cons (q_var (pv 7)) q_nil))) q_nil)) (by rfl))
      (qss_cons (qs_set (i := 9) scLaw.nd rfl (Or.inl rfl) (q_call hr G_law_told T.g_law_told T.k_law_told b_law_told (by rfl) (by decide) (q_cons (q_var (pv 4)) q_nil)))
      (qss_one (qs_if (PW.pt (qw_or (qt_cmp (op_neA (u64 hr)) snd_ne (q_repr gd (Grd.u200 hr) T.n_repr (by rfl) (q_cons (q_var (pv 9)) q_nil)) (q_repr gd (Grd.u200 hr) T.n_repr (by rfl) (q_cons (q_if (qt_cmp op_isN snd_isN (q_var (pv 8)) q_non (nomark _)) q_non (q_lst (q_cons (q_var (pv 8)) (q_cons q_bl (q_cons q_bl q_nil))))) q_nil)) (nomark _)) (qw_or1 (qt_cmp (op_neA (u64 hr)) snd_ne (q_repr gd (Grd.u200 hr) T.n_repr (by rfl) (q_cons (q_call hr G_is_turning T.g_is_turning T.k_is_turning b_is_turning (by rfl) (by decide) (q_cons (q_var (pv 4)) q_nil)) q_nil)) (q_repr gd (Grd.u200 hr) T.n_repr (by rfl) (q_cons (q_cmp op_isN snd_isN (q_var (pv 8)) q_non (nomark _)) q_nil)) (nomark _)))))
      (qss_one (qs_ret q_bl))
      qss_nil)))))))
      (qss_one (qs_ret q_bl)))))), ?_⟩
      intro S n k D
      (dsimp only [dTryAsX, dRetX, dDropX, dSetX, dAsgX, dFnX, dRaise, dTryAs, dTryOnly, dXf, dIsX, dPar3, dFnR, List.reverse_cons, List.reverse_nil, dDelT, mPop0, mPop, mApp, mExt, dFld, dNew, dDGet, dDIn, dZipT, dAll, dTupF, dIdx, dTupRg, dDc, dReprT, dEqT, dNeT, dFor, dLc, dWhile, dRange1, dRange2, dRange3, dEnumT, e_isB, e_tupD, dgUnl, dSeq, dIfS, dSet, dAsg, dRet, dRetN, dDrop, dNext, dPar, dVar, dC, dOp, dB, dTru, dtNot, dtAnd, dtOr, dAnd, dOr, dNot, dIfE, dNeg, dNil, dCons, dTup, dLst, dCel, dNoP, dPart, dSlice, dRevT, dRevL, dCall, on1, dTupOf, dLstOf, dCelOf, dIsi, dName, dgNil, dgCons, dgTup, dFn, dMet, dMet0, gt, st, startD, wh_some, dYes, dEq, dNe, List.map, List.length, List.replicate, List.append, List.cons_append, List.nil_append, dWalk, uns, un, tupNms, dNms, ifT, ifF, List.replicate_succ, List.replicate_zero, Nat.sub_self, Nat.reduceSub, Nat.reduceAdd, Nat.zero_add, Bool.not_true, Bool.not_false, e_addI, e_addS, e_addT, e_addL, e_i2, e_i2c, e_is, e_bool, e_cel, e_strD, e_lenS, e_lenT, e_lenL, e_lenC, e_ixS, e_ixT, e_ixL, e_ixC, e_slS, e_slT, e_slL, e_slC, e_itT, e_itL, e_truN, e_truI, e_truB, e_truL, e_truT, e_okN, e_okB, e_okI, e_okS, e_okL, e_okT, e_okC, e_tupN, e_tupB, e_tupI, e_tupS, e_tupL, e_tupT, e_tupC, e_strN, e_strB, e_strI, e_strS, e_strL, e_strT, e_strC, e_intN, e_intB, e_intI, e_intS, e_intL, e_intT, e_intC, e_boolN, e_boolB, e_boolI, e_boolS, e_boolL, e_boolT, e_boolC, e_lstN, e_lstB, e_lstI, e_lstS, e_lstL, e_lstT, e_lstC, e_nonN, e_nonB, e_nonI, e_nonS, e_nonL, e_nonT, e_wkS, e_wkL, e_wkT, e_wkC, e_join, e_inS, e_ninS, e_ofI, e_ofB, e_abs, e_lenF, e_ixF, e_itF, e_wkF, e_tfF, e_truF, e_repT, e_keyI, e_keyS]; try simp only [true_and, and_true, Nat.reduceLeDiff, reduceIte, reduceCtorEq, Bool.false_eq_true, if_true, if_false, not_false_eq_true, ite_true, ite_false, and_self])
      refine ⟨n, k, rfl, D, fun ns S1 hns mv1 => ⟨n, k, 3, 3, 2, ns, rfl, mv1.D, by decide, by decide, by decide, by decide, hns, fun ms m rs S2 ht hm mv2 => ?_⟩⟩
      have l12 := tur_len ht
      have hrs : ∀ r ∈ rs, ruleB r = true ∧ Sz 30 3100 r := fun r hr => by
        obtain ⟨a, b, c⟩ := tur_rule ht (by decide) hr
        exact ⟨a, b.mono (by decide), c⟩
      have nm := ((tur_modes ht).1 m hm).1
      have zm : Sz 30 100 (.str m) := ⟨Vd.mono (m := 0) ⟨(rp_name nm).lay, (rp_name nm).dep⟩ (by decide), by have := (name_plain nm).len; have e : wt (.str m) = 1 + m.length := rfl; omega⟩
      have vrs : Vd 50 (.tuple rs) := (vd_tup (m := 30) fun x hx => (hrs x hx).2.vd).mono (by decide)
      have vls : Vd 50 (.list rs) := (vd_lst (m := 30) fun x hx => (hrs x hx).2.vd).mono (by decide)
      have prs := layPure _ vrs.lay
      have due0 := tur_due ht (by decide) hm
      have va : Vd 50 (PyData.tuple []) := (sz_of (m := 50) (n := 10) (by decide +kernel)).vd
      refine ⟨rfl, rfl, 2, 3, ms, ns, rs, m, rfl, by decide, by decide, ht, hm, fun S3 e3 => wh_mk rfl (iteN (by decide) ⟨_, _, rfl, tur_dueV va ((sz_of (m := 30) (n := 100) (d := .str (sx "a")) (by decide +kernel))) (fun rs e x hx => by cases e; cases hx), fun S4 e4 => ?_⟩)⟩
      rw [show dueO (PyData.tuple []) (.str (sx "a")) = none by decide +kernel]
      (dsimp only [dTryAsX, dRetX, dDropX, dSetX, dAsgX, dFnX, dRaise, dTryAs, dTryOnly, dXf, dIsX, dPar3, dFnR, List.reverse_cons, List.reverse_nil, dDelT, mPop0, mPop, mApp, mExt, dFld, dNew, dDGet, dDIn, dZipT, dAll, dTupF, dIdx, dTupRg, dDc, dReprT, dEqT, dNeT, dFor, dLc, dWhile, dRange1, dRange2, dRange3, dEnumT, e_isB, e_tupD, dgUnl, dSeq, dIfS, dSet, dAsg, dRet, dRetN, dDrop, dNext, dPar, dVar, dC, dOp, dB, dTru, dtNot, dtAnd, dtOr, dAnd, dOr, dNot, dIfE, dNeg, dNil, dCons, dTup, dLst, dCel, dNoP, dPart, dSlice, dRevT, dRevL, dCall, on1, dTupOf, dLstOf, dCelOf, dIsi, dName, dgNil, dgCons, dgTup, dFn, dMet, dMet0, gt, st, startD, wh_some, dYes, dEq, dNe, List.map, List.length, List.replicate, List.append, List.cons_append, List.nil_append, dWalk, uns, un, tupNms, dNms, ifT, ifF, List.replicate_succ, List.replicate_zero, Nat.sub_self, Nat.reduceSub, Nat.reduceAdd, Nat.zero_add, Bool.not_true, Bool.not_false, e_addI, e_addS, e_addT, e_addL, e_i2, e_i2c, e_is, e_bool, e_cel, e_strD, e_lenS, e_lenT, e_lenL, e_lenC, e_ixS, e_ixT, e_ixL, e_ixC, e_slS, e_slT, e_slL, e_slC, e_itT, e_itL, e_truN, e_truI, e_truB, e_truL, e_truT, e_okN, e_okB, e_okI, e_okS, e_okL, e_okT, e_okC, e_tupN, e_tupB, e_tupI, e_tupS, e_tupL, e_tupT, e_tupC, e_strN, e_strB, e_strI, e_strS, e_strL, e_strT, e_strC, e_intN, e_intB, e_intI, e_intS, e_intL, e_intT, e_intC, e_boolN, e_boolB, e_boolI, e_boolS, e_boolL, e_boolT, e_boolC, e_lstN, e_lstB, e_lstI, e_lstS, e_lstL, e_lstT, e_lstC, e_nonN, e_nonB, e_nonI, e_nonS, e_nonL, e_nonT, e_wkS, e_wkL, e_wkT, e_wkC, e_join, e_inS, e_ninS, e_ofI, e_ofB, e_abs, e_lenF, e_ixF, e_itF, e_wkF, e_tfF, e_truF, e_repT, e_keyI, e_keyS]; try simp only [true_and, and_true, Nat.reduceLeDiff, reduceIte, reduceCtorEq, Bool.false_eq_true, if_true, if_false, not_false_eq_true, ite_true, ite_false, and_self])
      refine iteN (by decide) ⟨_, _, rfl, tur_dueV vrs zm (fun rs' e x hx => by cases e; have := (hrs x hx).2.ws; omega), fun i hi => (by rw [due0] at hi; cases hi), fun _ S5 e5 => ?_⟩
      have m5 : MvD n k S S5 := (mv1.trans mv2).ext ((e3.trans e4).trans e5)
      have pt : pureD (.tuple [.tuple rs, .str m]) = true := by
        show (pureD (.tuple rs) && (true && true)) = true
        rw [prs]
        rfl
      refine ⟨fun i ρ S' => Ext S5 S' ∧ ∃ x4 x5 x6 x7 x8 x9 : Option PyData, ρ = [none, some (cel n), some (.tuple rs), some (.str m), x4, x5, x6, x7, x8, x9], ⟨Ext.refl, _, _, _, _, _, _, rfl⟩, fun _ _ _ _ => trivial, ?_, ?_⟩
      · rintro i d ρ S6 hd ⟨e6, x4, x5, x6, x7, x8, x9, rfl⟩
        have dv : DueV CT d (some (-1)) := by
          have hmem := List.mem_of_getElem? hd
          rcases List.mem_cons.mp hmem with q | hmem
          · rw [q]; exact .oth rfl
          rcases List.mem_cons.mp hmem with q | hmem
          · rw [q]; exact .oth pt
          rcases List.mem_cons.mp hmem with q | hmem
          · rw [q]; exact .oth rfl
          rcases List.mem_cons.mp hmem with q | hmem
          · rw [q]; exact .oth rfl
          rcases List.mem_cons.mp hmem with q | hmem
          · rw [q]; exact tur_dueV (r := .list rs) vls zm (fun rs' e x hx => by cases e)
          rcases List.mem_cons.mp hmem with q | hmem
          · rw [q]; exact tur_dueV (r := .none) ⟨rfl, Nat.zero_le _⟩ zm (fun rs' e x hx => by cases e)
          · rw [List.mem_singleton.mp hmem]; exact .oth rfl
        try (dsimp only [dTryAsX, dRetX, dDropX, dSetX, dAsgX, dFnX, dRaise, dTryAs, dTryOnly, dXf, dIsX, dPar3, dFnR, List.reverse_cons, List.reverse_nil, dDelT, mPop0, mPop, mApp, mExt, dFld, dNew, dDGet, dDIn, dZipT, dAll, dTupF, dIdx, dTupRg, dDc, dReprT, dEqT, dNeT, dFor, dLc, dWhile, dRange1, dRange2, dRange3, dEnumT, e_isB, e_tupD, dgUnl, dSeq, dIfS, dSet, dAsg, dRet, dRetN, dDrop, dNext, dPar, dVar, dC, dOp, dB, dTru, dtNot, dtAnd, dtOr, dAnd, dOr, dNot, dIfE, dNeg, dNil, dCons, dTup, dLst, dCel, dNoP, dPart, dSlice, dRevT, dRevL, dCall, on1, dTupOf, dLstOf, dCelOf, dIsi, dName, dgNil, dgCons, dgTup, dFn, dMet, dMet0, gt, st, startD, wh_some, dYes, dEq, dNe, List.map, List.length, List.replicate, List.append, List.cons_append, List.nil_append, dWalk, uns, un, tupNms, dNms, ifT, ifF, List.replicate_succ, List.replicate_zero, Nat.sub_self, Nat.reduceSub, Nat.reduceAdd, Nat.zero_add, Bool.not_true, Bool.not_false, e_addI, e_addS, e_addT, e_addL, e_i2, e_i2c, e_is, e_bool, e_cel, e_strD, e_lenS, e_lenT, e_lenL, e_lenC, e_ixS, e_ixT, e_ixL, e_ixC, e_slS, e_slT, e_slL, e_slC, e_itT, e_itL, e_truN, e_truI, e_truB, e_truL, e_truT, e_okN, e_okB, e_okI, e_okS, e_okL, e_okT, e_okC, e_tupN, e_tupB, e_tupI, e_tupS, e_tupL, e_tupT, e_tupC, e_strN, e_strB, e_strI, e_strS, e_strL, e_strT, e_strC, e_intN, e_intB, e_intI, e_intS, e_intL, e_intT, e_intC, e_boolN, e_boolB, e_boolI, e_boolS, e_boolL, e_boolT, e_boolC, e_lstN, e_lstB, e_lstI, e_lstS, e_lstL, e_lstT, e_lstC, e_nonN, e_nonB, e_nonI, e_nonS, e_nonL, e_nonT, e_wkS, e_wkL, e_wkT, e_wkC, e_join, e_inS, e_ninS, e_ofI, e_ofB, e_abs, e_lenF, e_ixF, e_itF, e_wkF, e_tfF, e_truF, e_repT, e_keyI, e_keyS]; try simp only [true_and, and_true, Nat.reduceLeDiff, reduceIte, reduceCtorEq, Bool.false_eq_true, if_true, if_false, not_false_eq_true, ite_true, ite_false, and_self])
        refine ⟨d, _, rfl, dv, fun S7 e7 => ?_⟩
        (dsimp only [dTryAsX, dRetX, dDropX, dSetX, dAsgX, dFnX, dRaise, dTryAs, dTryOnly, dXf, dIsX, dPar3, dFnR, List.reverse_cons, List.reverse_nil, dDelT, mPop0, mPop, mApp, mExt, dFld, dNew, dDGet, dDIn, dZipT, dAll, dTupF, dIdx, dTupRg, dDc, dReprT, dEqT, dNeT, dFor, dLc, dWhile, dRange1, dRange2, dRange3, dEnumT, e_isB, e_tupD, dgUnl, dSeq, dIfS, dSet, dAsg, dRet, dRetN, dDrop, dNext, dPar, dVar, dC, dOp, dB, dTru, dtNot, dtAnd, dtOr, dAnd, dOr, dNot, dIfE, dNeg, dNil, dCons, dTup, dLst, dCel, dNoP, dPart, dSlice, dRevT, dRevL, dCall, on1, dTupOf, dLstOf, dCelOf, dIsi, dName, dgNil, dgCons, dgTup, dFn, dMet, dMet0, gt, st, startD, wh_some, dYes, dEq, dNe, List.map, List.length, List.replicate, List.append, List.cons_append, List.nil_append, dWalk, uns, un, tupNms, dNms, ifT, ifF, List.replicate_succ, List.replicate_zero, Nat.sub_self, Nat.reduceSub, Nat.reduceAdd, Nat.zero_add, Bool.not_true, Bool.not_false, e_addI, e_addS, e_addT, e_addL, e_i2, e_i2c, e_is, e_bool, e_cel, e_strD, e_lenS, e_lenT, e_lenL, e_lenC, e_ixS, e_ixT, e_ixL, e_ixC, e_slS, e_slT, e_slL, e_slC, e_itT, e_itL, e_truN, e_truI, e_truB, e_truL, e_truT, e_okN, e_okB, e_okI, e_okS, e_okL, e_okT, e_okC, e_tupN, e_tupB, e_tupI, e_tupS, e_tupL, e_tupT, e_tupC, e_strN, e_strB, e_strI, e_strS, e_strL, e_strT, e_strC, e_intN, e_intB, e_intI, e_intS, e_intL, e_intT, e_intC, e_boolN, e_boolB, e_boolI, e_boolS, e_boolL, e_boolT, e_boolC, e_lstN, e_lstB, e_lstI, e_lstS, e_lstL, e_lstT, e_lstC, e_nonN, e_nonB, e_nonI, e_nonS, e_nonL, e_nonT, e_wkS, e_wkL, e_wkT, e_wkC, e_join, e_inS, e_ninS, e_ofI, e_ofB, e_abs, e_lenF, e_ixF, e_itF, e_wkF, e_tfF, e_truF, e_repT, e_keyI, e_keyS]; try simp only [true_and, and_true, Nat.reduceLeDiff, reduceIte, reduceCtorEq, Bool.false_eq_true, if_true, if_false, not_false_eq_true, ite_true, ite_false, and_self])
        refine iteN (by decide) ⟨d, _, rfl, dv, fun S8 e8 => ?_⟩
        refine ask_rpN (toldD_rp (o := some (-1)) fun i e => by cases e; decide) (by decide) (by decide) ?_
        rw [shown_m1]
        generalize Str.ofString "[-1, True, False]" = z
        exact ⟨eqOk_str _ _, iteN (by rw [eqv_refl _ rfl]; decide) ⟨(e6.trans e7).trans e8, _, _, _, _, _, _, rfl⟩⟩
      rintro ρ S6 ⟨e6, x4, x5, x6, x7, x8, x9, rfl⟩
      refine ⟨small_nat (n := 5) (by decide), fun i ρ S' => DealD S' n k ∧ ∃ x4 x5 x6 x7 x8 x9 : Option PyData, ρ = [none, some (cel n), some (.tuple rs), some (.str m), x4, x5, x6, x7, x8, x9], ⟨(m5.ext e6).D, _, _, _, _, _, _, rfl⟩, fun _ _ _ _ => trivial, ?_, fun _ _ _ => trivial⟩
      rintro i o ρ S7 ho ⟨D7, x4, x5, x6, x7, x8, x9, rfl⟩
      obtain ⟨hi2, rfl⟩ := rangeD_at ho
      try (dsimp only [dTryAsX, dRetX, dDropX, dSetX, dAsgX, dFnX, dRaise, dTryAs, dTryOnly, dXf, dIsX, dPar3, dFnR, List.reverse_cons, List.reverse_nil, dDelT, mPop0, mPop, mApp, mExt, dFld, dNew, dDGet, dDIn, dZipT, dAll, dTupF, dIdx, dTupRg, dDc, dReprT, dEqT, dNeT, dFor, dLc, dWhile, dRange1, dRange2, dRange3, dEnumT, e_isB, e_tupD, dgUnl, dSeq, dIfS, dSet, dAsg, dRet, dRetN, dDrop, dNext, dPar, dVar, dC, dOp, dB, dTru, dtNot, dtAnd, dtOr, dAnd, dOr, dNot, dIfE, dNeg, dNil, dCons, dTup, dLst, dCel, dNoP, dPart, dSlice, dRevT, dRevL, dCall, on1, dTupOf, dLstOf, dCelOf, dIsi, dName, dgNil, dgCons, dgTup, dFn, dMet, dMet0, gt, st, startD, wh_some, dYes, dEq, dNe, List.map, List.length, List.replicate, List.append, List.cons_append, List.nil_append, dWalk, uns, un, tupNms, dNms, ifT, ifF, List.replicate_succ, List.replicate_zero, Nat.sub_self, Nat.reduceSub, Nat.reduceAdd, Nat.zero_add, Bool.not_true, Bool.not_false, e_addI, e_addS, e_addT, e_addL, e_i2, e_i2c, e_is, e_bool, e_cel, e_strD, e_lenS, e_lenT, e_lenL, e_lenC, e_ixS, e_ixT, e_ixL, e_ixC, e_slS, e_slT, e_slL, e_slC, e_itT, e_itL, e_truN, e_truI, e_truB, e_truL, e_truT, e_okN, e_okB, e_okI, e_okS, e_okL, e_okT, e_okC, e_tupN, e_tupB, e_tupI, e_tupS, e_tupL, e_tupT, e_tupC, e_strN, e_strB, e_strI, e_strS, e_strL, e_strT, e_strC, e_intN, e_intB, e_intI, e_intS, e_intL, e_intT, e_intC, e_boolN, e_boolB, e_boolI, e_boolS, e_boolL, e_boolT, e_boolC, e_lstN, e_lstB, e_lstI, e_lstS, e_lstL, e_lstT, e_lstC, e_nonN, e_nonB, e_nonI, e_nonS, e_nonL, e_nonT, e_wkS, e_wkL, e_wkT, e_wkC, e_join, e_inS, e_ninS, e_ofI, e_ofB, e_abs, e_lenF, e_ixF, e_itF, e_wkF, e_tfF, e_truF, e_repT, e_keyI, e_keyS]; try simp only [true_and, and_true, Nat.reduceLeDiff, reduceIte, reduceCtorEq, Bool.false_eq_true, if_true, if_false, not_false_eq_true, ite_true, ite_false, and_self])
      refine ⟨n, k, 3100, rs, .str m, rfl, D7, zm, by decide, by omega, hrs, fun rs1 mo1 S8 zm1 hl1 hz1 mv8 => ?_⟩
      have sm1 : ∀ x ∈ rs1, wt x ≤ 20000 := fun x hx => by have := (hz1 x hx).ws; omega
      have v1 : Vd 31 (.tuple rs1) := vd_tup (m := 30) fun x hx => (hz1 x hx).vd
      try (dsimp only [dTryAsX, dRetX, dDropX, dSetX, dAsgX, dFnX, dRaise, dTryAs, dTryOnly, dXf, dIsX, dPar3, dFnR, List.reverse_cons, List.reverse_nil, dDelT, mPop0, mPop, mApp, mExt, dFld, dNew, dDGet, dDIn, dZipT, dAll, dTupF, dIdx, dTupRg, dDc, dReprT, dEqT, dNeT, dFor, dLc, dWhile, dRange1, dRange2, dRange3, dEnumT, e_isB, e_tupD, dgUnl, dSeq, dIfS, dSet, dAsg, dRet, dRetN, dDrop, dNext, dPar, dVar, dC, dOp, dB, dTru, dtNot, dtAnd, dtOr, dAnd, dOr, dNot, dIfE, dNeg, dNil, dCons, dTup, dLst, dCel, dNoP, dPart, dSlice, dRevT, dRevL, dCall, on1, dTupOf, dLstOf, dCelOf, dIsi, dName, dgNil, dgCons, dgTup, dFn, dMet, dMet0, gt, st, startD, wh_some, dYes, dEq, dNe, List.map, List.length, List.replicate, List.append, List.cons_append, List.nil_append, dWalk, uns, un, tupNms, dNms, ifT, ifF, List.replicate_succ, List.replicate_zero, Nat.sub_self, Nat.reduceSub, Nat.reduceAdd, Nat.zero_add, Bool.not_true, Bool.not_false, e_addI, e_addS, e_addT, e_addL, e_i2, e_i2c, e_is, e_bool, e_cel, e_strD, e_lenS, e_lenT, e_lenL, e_lenC, e_ixS, e_ixT, e_ixL, e_ixC, e_slS, e_slT, e_slL, e_slC, e_itT, e_itL, e_truN, e_truI, e_truB, e_truL, e_truT, e_okN, e_okB, e_okI, e_okS, e_okL, e_okT, e_okC, e_tupN, e_tupB, e_tupI, e_tupS, e_tupL, e_tupT, e_tupC, e_strN, e_strB, e_strI, e_strS, e_strL, e_strT, e_strC, e_intN, e_intB, e_intI, e_intS, e_intL, e_intT, e_intC, e_boolN, e_boolB, e_boolI, e_boolS, e_boolL, e_boolT, e_boolC, e_lstN, e_lstB, e_lstI, e_lstS, e_lstL, e_lstT, e_lstC, e_nonN, e_nonB, e_nonI, e_nonS, e_nonL, e_nonT, e_wkS, e_wkL, e_wkT, e_wkC, e_join, e_inS, e_ninS, e_ofI, e_ofB, e_abs, e_lenF, e_ixF, e_itF, e_wkF, e_tfF, e_truF, e_repT, e_keyI, e_keyS]; try simp only [true_and, and_true, Nat.reduceLeDiff, reduceIte, reduceCtorEq, Bool.false_eq_true, if_true, if_false, not_false_eq_true, ite_true, ite_false, and_self])
      by_cases h2 : (2 : Int) < 0 + (i : Nat) * 1
      · refine iteY (decide_eq_true h2) ⟨.tuple rs1, .str m, rfl, v1.mono (by decide), zm.vd.mono (by decide), (fun rs' e => by cases e; exact ⟨by omega, sm1⟩), (fun z e => by
          cases e
          have := (name_plain nm).len
          omega), ?_⟩
        cases hd1 : dueO (.tuple rs1) (.str m) with
        | none =>
          refine iteY rfl ⟨n, k, 3300, rs1, mo1, rfl, mv8.D, zm1, by decide, by omega, fun r hr => ⟨due_rules hd1 r hr, hz1 r hr⟩, fun rs2 mo2 S9 zm2 hl2 hz2 mv9 => ⟨rfl, rfl, ?_⟩⟩
          have sm2 : ∀ x ∈ rs2, wt x ≤ 20000 := fun x hx => by have := (hz2 x hx).ws; omega
          have v2 : Vd 31 (.tuple rs2) := vd_tup (m := 30) fun x hx => (hz2 x hx).vd
          have lX : rs2.length ≤ 1000 := by omega
          refine ⟨.tuple rs2, mo2, rfl, v2.mono (by decide), zm2.vd.mono (by decide), (fun rs' e => by cases e; exact ⟨lX, sm2⟩), (fun z e => by
            have h1 := zm2.ws
            rw [e] at h1
            have h2 : wt (.str z) = 1 + z.length := rfl
            omega), ?_⟩
          have dv : DueV CT (turnD CT (.tuple rs2) mo2) (dueO (.tuple rs2) mo2) := tur_dueV (v2.mono (by decide)) zm2 (fun rs' e x hx => by cases e; exact sm2 x hx)
          have rp := toldD_rp (o := dueO (.tuple rs2) mo2) fun i h => due_small h lX
          generalize dueO (.tuple rs2) mo2 = o at dv rp ⊢
          refine ⟨_, _, rfl, dv, fun Sa ea => ?_⟩
          refine ask_due rp fun z => iteN (by rw [eqv_refl _ rfl]; decide) ⟨_, _, rfl, dv, fun Sb eb => ?_⟩
          rw [show isNon (optD o) = o.isNone by cases o <;> rfl]
          exact ask_bothN (rp_bool _) (by decide) (by decide) fun z => iteN (by rw [eqv_refl _ rfl]; decide) ⟨mv9.D.ext (ea.trans eb), _, _, _, _, _, _, rfl⟩
        | some i1 =>
          refine iteN (by intro h; cases h) ?_
          have lX : rs1.length ≤ 1000 := by omega
          refine ⟨.tuple rs1, mo1, rfl, v1.mono (by decide), zm1.vd.mono (by decide), (fun rs' e => by cases e; exact ⟨lX, sm1⟩), (fun z e => by
            have h1 := zm1.ws
            rw [e] at h1
            have h2 : wt (.str z) = 1 + z.length := rfl
            omega), ?_⟩
          have dv : DueV CT (turnD CT (.tuple rs1) mo1) (dueO (.tuple rs1) mo1) := tur_dueV (v1.mono (by decide)) zm1 (fun rs' e x hx => by cases e; exact sm1 x hx)
          have rp := toldD_rp (o := dueO (.tuple rs1) mo1) fun i h => due_small h lX
          generalize dueO (.tuple rs1) mo1 = o at dv rp ⊢
          refine ⟨_, _, rfl, dv, fun Sa ea => ?_⟩
          refine ask_due rp fun z => iteN (by rw [eqv_refl _ rfl]; decide) ⟨_, _, rfl, dv, fun Sb eb => ?_⟩
          rw [show isNon (optD o) = o.isNone by cases o <;> rfl]
          exact ask_bothN (rp_bool _) (by decide) (by decide) fun z => iteN (by rw [eqv_refl _ rfl]; decide) ⟨mv8.D.ext (ea.trans eb), _, _, _, _, _, _, rfl⟩
      · refine iteN (by rw [decide_eq_false h2]; decide) ?_
        have lX : rs1.length ≤ 1000 := by omega
        refine ⟨.tuple rs1, mo1, rfl, v1.mono (by decide), zm1.vd.mono (by decide), (fun rs' e => by cases e; exact ⟨lX, sm1⟩), (fun z e => by
          have h1 := zm1.ws
          rw [e] at h1
          have h2 : wt (.str z) = 1 + z.length := rfl
          omega), ?_⟩
        have dv : DueV CT (turnD CT (.tuple rs1) mo1) (dueO (.tuple rs1) mo1) := tur_dueV (v1.mono (by decide)) zm1 (fun rs' e x hx => by cases e; exact sm1 x hx)
        have rp := toldD_rp (o := dueO (.tuple rs1) mo1) fun i h => due_small h lX
        generalize dueO (.tuple rs1) mo1 = o at dv rp ⊢
        refine ⟨_, _, rfl, dv, fun Sa ea => ?_⟩
        refine ask_due rp fun z => iteN (by rw [eqv_refl _ rfl]; decide) ⟨_, _, rfl, dv, fun Sb eb => ?_⟩
        rw [show isNon (optD o) = o.isNone by cases o <;> rfl]
        exact ask_bothN (rp_bool _) (by decide) (by decide) fun z => iteN (by rw [eqv_refl _ rfl]; decide) ⟨mv8.D.ext (ea.trans eb), _, _, _, _, _, _, rfl⟩
    exact ⟨_, pss_cons (ps_set (i := 1) scLaw.nd rfl (Or.inl rfl) (pe_call G_law_deal (hr.mono (by decide)) rfl T.g_law_deal T.k_law_deal b_law_deal .nil pass0 (pa_cons (pv 0) (pa_cons pe_int pa_nil)))) h2, law_goD (b0 := 49) (by decide) (by decide) hS l (fun _ z => z) kq (by decide) p2⟩
end
end K3

/-! the program's own error -/
namespace K3
open PySem L2 Xr K1 Exv
abbrev sI0T : Stmt := inClass (top 3) 0
theorem scI0T : FnScope ["self", "at"] ["self", "at"] (defScope sI0T) := ⟨rfl, rfl, rfl, by decide +kernel, rfl, by decide +kernel, by decide +kernel⟩
section
variable {P : Program} {w : World} {K : PySem.W.Frag} {mg : Str → Option Value} {base : Heap}
theorem ok_init0T {f C : Addr} {fd : FuncData} (F : Fun K "__init__" "InvalidTurning.__init__" sI0T f fd) (T : ExT K C f "at" bmExc "Exception.__new__") : FnOk P w K mg base CX0 1 f fd ["self", "at"] (spInit C "at") := by
  refine F.ok scI0T (fun vs H Q E h => ?_) (fun cdv A outer s H vs Q E hr h => ?_)
  · obtain ⟨a, v, rfl, _⟩ := h
    rfl
  · obtain ⟨a, v, rfl, ha, k⟩ := h
    exact ⟨_, pss_one (ps_putE T PySem.F.store_Exception (pv 0) (pv 1)), _, rfl, _, rfl, a, rfl, ha, fun dx n ne => k dx n ne⟩
theorem bp0T {f : Addr} {fd : FuncData} (F : Fun K "__init__" "InvalidTurning.__init__" sI0T f fd) (s : Shared) (a : Addr) (u : Value) : BindsTo s fd ⟨[.ref a, u], []⟩ ((["self", "at"] : List Str).zip [.ref a, u]) := by
  obtain ⟨_, _, _, _, _, _, _, _, _, rfl, _, _⟩ := F.ex
  exact .of_eq rfl
theorem vals_appV : ∀ {a : List V} {b : List Value} {c : List V} {d : List Value}, Vals a b → Vals c d → Vals (a ++ c) (b ++ d)
  | _, _, _, _, .nil, h => h
  | _, _, _, _, .cons x r, h => .cons x (vals_appV r h)
theorem vals_revV : ∀ {a : List V} {b : List Value}, Vals a b → Vals a.reverse b.reverse
  | _, _, .nil => .nil
  | _, _, .cons x r => by
    rw [List.reverse_cons, List.reverse_cons]
    exact vals_appV (vals_revV r) (.cons x .nil)
theorem kbr_T {f : Addr} {fd : FuncData} (F : Fun K "__init__" "Turning.__init__" sIniT f fd) : KbR K fd ["self", "rules", "mode"] ["mode", "rules"] := by
  refine ⟨fun s us ws _ hu hw => ?_, fun hv hz => vals_appV hv (vals_revV hz)⟩
  obtain ⟨_, _, _, _, _, _, _, _, _, rfl, _, _⟩ := F.ex
  match us, ws, hu, hw with
  | [u], [a, b], _, _ => exact .of_eq rfl
theorem ok_lfor {a_law_string a_law_name a_law_formed a_law_goes : Addr} {d1 d2 fd : FuncData} (F : Fun K "_law_formed" "_law_formed" sLFor a_law_formed fd) (T : ViTxt K mg a_law_string a_law_name a_law_formed a_law_goes) (b_law_formed : Binds K fd ["value", "letter"] [])
    (G_law_string : FnOk P w K mg base CX0 1 a_law_string d1 ["value", "most", "signs"] (spD K spLStr)) (b_law_string : Binds K d1 ["value", "most", "signs"] [])
    (G_law_name : FnOk P w K mg base CX0 2 a_law_name d2 ["value"] (spD K spLNam)) (b_law_name : Binds K d2 ["value"] []) : ∀ n, FnOk P w K mg base CX0 (3 + n) a_law_formed fd ["value", "letter"] (spD K (spLFor n))
  | 0 => ok_lfor0 F
  | n + 1 => ok_lforS F T b_law_formed G_law_string b_law_string G_law_name b_law_name (ok_lfor F T b_law_formed G_law_string b_law_string G_law_name b_law_name n)
theorem ok_lgoe {a_law_string a_law_name a_law_formed a_law_goes : Addr} {fd : FuncData} (F : Fun K "_law_goes" "_law_goes" sLGoe a_law_goes fd) (T : ViTxt K mg a_law_string a_law_name a_law_formed a_law_goes) (b_law_goes : Binds K fd ["parts"] []) : ∀ n, FnOk P w K mg base CX0 (1 + n) a_law_goes fd ["parts"] (spD K (spLGoe n))
  | 0 => ok_lgoe0 F
  | n + 1 => ok_lgoeS F T b_law_goes (ok_lgoe F T b_law_goes n)
theorem ok_lpts {a_law_any a_law_of a_law_parts : Addr} {d1 d2 fd : FuncData} (F : Fun K "_law_parts" "_law_parts" sLPts a_law_parts fd) (T : VkTxt K mg a_law_any a_law_of a_law_parts) (b_law_parts : Binds K fd ["deal", "modes", "names", "letter", "deep", "room"] [])
    (G_law_any : FnOk P w K mg base CX0 1 a_law_any d1 ["deal", "bound"] (spD K spAnyD)) (b_law_any : Binds K d1 ["deal", "bound"] [])
    (G_law_of : FnOk P w K mg base CX0 2 a_law_of d2 ["deal", "some"] (spD K spOfD)) (b_law_of : Binds K d2 ["deal", "some"] []) : ∀ n, FnOk P w K mg base CX0 (3 + n) a_law_parts fd ["deal", "modes", "names", "letter", "deep", "room"] (spD K (spLPts n))
  | 0 => ok_lpts0 F
  | n + 1 => ok_lptsS F T b_law_parts G_law_any b_law_any G_law_of b_law_of (ok_lpts F T b_law_parts G_law_any b_law_any G_law_of b_law_of n)
end
end K3

namespace K3
open PySem L2 Exv Grd Xr K1
/-! what the top leaves, as one answer each -/
def isB (K : PySem.W.Frag) (C : Addr) : Bool :=
  PySem.W.hasDictIn K C && (decide (PySem.W.findIn K (.ref C) "__getattribute__" = some (some (.builtin "BaseException.__getattribute__"))) && (decide (PySem.W.findIn K (.ref C) "__getattr__" = some none) &&
  (decide (PySem.W.subIn K (.ref C) (.type "BaseException") = some true) && (decide (PySem.W.findIn K (.ref C) "__class__" = some (some (.builtin "object.__class__"))) &&
  (decide (PySem.W.specialIn K (.builtin "object.__class__") "__get__" = some (some (.builtin "getset_descriptor.__get__"))) && (decide (PySem.W.takesIn K (.builtin "object.__class__") = some true) &&
  (decide (PySem.W.mroIn K C (.type "object") = some true) && decide (PySem.W.typeIn K (.ref C) = some (.type "type")))))))))
theorem isB_ok {K : PySem.W.Frag} {C : Addr} (h : isB K C = true) : IsT K C ∧ PySem.W.typeIn K (.ref C) = some (.type "type") := by
  unfold isB at h
  simp only [Bool.and_eq_true, decide_eq_true_eq] at h
  obtain ⟨h1, h2, h3, h4, h5, h6, h7, h8, h9⟩ := h
  exact ⟨⟨h1, h2, h3, h4, h5, h6, h7, h8⟩, h9⟩
def exB (K : PySem.W.Frag) (C fI : Addr) (f : Str) (bm : List Value) (newId : String) : Bool :=
  PySem.W.excInitIn K C bm newId && (PySem.W.excOver K C bm && (decide (PySem.W.findIn K (.ref C) "__init__" = some (some (.ref fI))) && (decide (PySem.W.typeIn K (.ref fI) = some (.type "function")) &&
  (decide (PySem.W.findIn K (.ref C) "__setattr__" = some (some (.builtin "object.__setattr__"))) && (decide (PySem.W.findIn K (.ref C) f = some none) && PySem.W.keepIn K (.ref C))))))
theorem exB_ok {K : PySem.W.Frag} {C fI : Addr} {f : Str} {bm : List Value} {newId : String} (h : exB K C fI f bm newId = true) (t : IsT K C) : ExT K C fI f bm newId := by
  unfold exB at h
  simp only [Bool.and_eq_true, decide_eq_true_eq] at h
  obtain ⟨h1, h2, h3, h4, h5, h6, h7⟩ := h
  exact ⟨h1, h2, h3, h4, h5, h6, t.hd, t.ga, t.gg, t.ex, h7⟩
theorem all_mk {P : Program} {w : World} {K : PySem.W.Frag} {h : Heap} {mg : Str → Option Value} {fa f0 f1 f2 f3 f4 f5 f6 f7 f8 f9 f10 f11 f12 f13 f14 f15 f16 f17 f18 f19 f20 f21 f22 f23 f24 f25 f26 f27 f28 : Addr} {CT CE CF CN fT fEq fX : Addr} {t1 t2 t3 t4 : Tok} (X : K.In h) (G : h.Ns mainGlobals mg) (hfa : mg "law" = some (.ref fa))
    (a0 : PySem.W.nsIn K mainGlobals "_law_deal" = some (some (.ref f0))) (h0 : ∃ fd, Fun K "_law_deal" "_law_deal" K1.sDeal f0 fd)
    (a1 : PySem.W.nsIn K mainGlobals "_law_any" = some (some (.ref f1))) (h1 : ∃ fd, Fun K "_law_any" "_law_any" K1.sAny f1 fd)
    (a2 : PySem.W.nsIn K mainGlobals "_law_of" = some (some (.ref f2))) (h2 : ∃ fd, Fun K "_law_of" "_law_of" K1.sOf f2 fd)
    (a3 : PySem.W.nsIn K mainGlobals "_law_names" = some (some (.ref f3))) (h3 : ∃ fd, Fun K "_law_names" "_law_names" K3.sLNms f3 fd)
    (a4 : PySem.W.nsIn K mainGlobals "_law_parts" = some (some (.ref f4))) (h4 : ∃ fd, Fun K "_law_parts" "_law_parts" K3.sLPts f4 fd)
    (a5 : PySem.W.nsIn K mainGlobals "_law_turning" = some (some (.ref f5))) (h5 : ∃ fd, Fun K "_law_turning" "_law_turning" K3.sLTur f5 fd)
    (a6 : PySem.W.nsIn K mainGlobals "_law_string" = some (some (.ref f6))) (h6 : ∃ fd, Fun K "_law_string" "_law_string" K3.sLStr f6 fd)
    (a7 : PySem.W.nsIn K mainGlobals "_law_name" = some (some (.ref f7))) (h7 : ∃ fd, Fun K "_law_name" "_law_name" K3.sLNam f7 fd)
    (a8 : PySem.W.nsIn K mainGlobals "_law_formed" = some (some (.ref f8))) (h8 : ∃ fd, Fun K "_law_formed" "_law_formed" K3.sLFor f8 fd)
    (a9 : PySem.W.nsIn K mainGlobals "_law_due" = some (some (.ref f9))) (h9 : ∃ fd, Fun K "_law_due" "_law_due" K3.sLDue f9 fd)
    (a10 : PySem.W.nsIn K mainGlobals "_law_turned" = some (some (.ref f10))) (h10 : ∃ fd, Fun K "_law_turned" "_law_turned" K3.sLTud f10 fd)
    (a11 : PySem.W.nsIn K mainGlobals "_law_told" = some (some (.ref f11))) (h11 : ∃ fd, Fun K "_law_told" "_law_told" K3.sLTold f11 fd)
    (a12 : PySem.W.nsIn K mainGlobals "_law_goes" = some (some (.ref f12))) (h12 : ∃ fd, Fun K "_law_goes" "_law_goes" K3.sLGoe f12 fd)
    (a13 : PySem.W.nsIn K mainGlobals "_law_tells" = some (some (.ref f13))) (h13 : ∃ fd, Fun K "_law_tells" "_law_tells" K3.sLTel f13 fd)
    (a14 : PySem.W.nsIn K mainGlobals "is_name" = some (some (.ref f14))) (h14 : ∃ fd, Fun K "is_name" "is_name" K1.sName f14 fd)
    (a15 : PySem.W.nsIn K mainGlobals "is_text" = some (some (.ref f15))) (h15 : ∃ fd, Fun K "is_text" "is_text" K1.sText f15 fd)
    (a16 : PySem.W.nsIn K mainGlobals "_has_only" = some (some (.ref f16))) (h16 : ∃ fd, Fun K "_has_only" "_has_only" K1.sHas f16 fd)
    (a17 : PySem.W.nsIn K mainGlobals "is_letter" = some (some (.ref f17))) (h17 : ∃ fd, Fun K "is_letter" "is_letter" K3.sIsLet f17 fd)
    (a18 : PySem.W.nsIn K mainGlobals "is_rule" = some (some (.ref f18))) (h18 : ∃ fd, Fun K "is_rule" "is_rule" K3.sIsRule f18 fd)
    (a19 : PySem.W.nsIn K mainGlobals "_is_part" = some (some (.ref f19))) (h19 : ∃ fd, Fun K "_is_part" "_is_part" K3.sIsPart f19 fd)
    (a20 : PySem.W.nsIn K mainGlobals "parts_within" = some (some (.ref f20))) (h20 : ∃ fd, Fun K "parts_within" "parts_within" K3.sPtW f20 fd)
    (a21 : PySem.W.nsIn K mainGlobals "all_parts" = some (some (.ref f21))) (h21 : ∃ fd, Fun K "all_parts" "all_parts" K3.sAllP f21 fd)
    (a22 : PySem.W.nsIn K mainGlobals "goes_within" = some (some (.ref f22))) (h22 : ∃ fd, Fun K "goes_within" "goes_within" K3.sGoW f22 fd)
    (a23 : PySem.W.nsIn K mainGlobals "goes_of" = some (some (.ref f23))) (h23 : ∃ fd, Fun K "goes_of" "goes_of" K3.sGoOf f23 fd)
    (a24 : PySem.W.nsIn K mainGlobals "need_turning" = some (some (.ref f24))) (h24 : ∃ fd, Fun K "need_turning" "need_turning" K3.sNeedTu f24 fd)
    (a25 : PySem.W.nsIn K mainGlobals "is_turning" = some (some (.ref f25))) (h25 : ∃ fd, Fun K "is_turning" "is_turning" K3.sIsTu f25 fd)
    (a26 : PySem.W.nsIn K mainGlobals "modes_of" = some (some (.ref f26))) (h26 : ∃ fd, Fun K "modes_of" "modes_of" K3.sModesOf f26 fd)
    (a27 : PySem.W.nsIn K mainGlobals "rule_for" = some (some (.ref f27))) (h27 : ∃ fd, Fun K "rule_for" "rule_for" K3.sRuleFor f27 fd)
    (a28 : PySem.W.nsIn K mainGlobals "law" = some (some (.ref f28))) (h28 : ∃ fd, Fun K "law" "law" K3.sLaw f28 fd)
    (b_CE : PySem.W.nsIn K mainGlobals "InvalidTurning" = some (some (.ref CE)))
    (j_CE : PySem.W.findIn K (.ref CE) "__init__" = some (some (.ref fX)))
    (g_CE : ∃ fd, Fun K "__init__" "InvalidTurning.__init__" K3.sI0T fX fd)
    (e1_CE : isB K CE = true)
    (e2_CE : exB K CE fX "at" bmExc "Exception.__new__" = true)
    (y_CE : PySem.W.exmOne K (.ref CE) (.ref CE) = some true)
    (b_CF : PySem.W.nsIn K mainGlobals "FitError" = some (some (.ref CF)))
    (b_CN : PySem.W.nsIn K mainGlobals "InvalidNode" = some (some (.ref CN)))
    (b_CT : PySem.W.nsIn K mainGlobals "Turning" = some (some (.ref CT)))
    (y1 : PySem.W.kitOne K (.ref CE) (.ref CF) = some true)
    (y2 : PySem.W.kitOne K (.ref CE) (.ref CN) = some false)
    (j_CT : PySem.W.findIn K (.ref CT) "__init__" = some (some (.ref fT)))
    (g_CT : ∃ fd, Fun K "__init__" "Turning.__init__" K3.sIniT fT fd)
    (j_EQ : PySem.W.findIn K (.ref CT) "__eq__" = some (some (.ref fEq)))
    (g_EQ : ∃ fd, Fun K "__eq__" "Turning.__eq__" K3.sEqT fEq fd)
    (p1 : PySem.W.plainGet K CT Str.empty = true)
    (p2 : PySem.W.hasDictIn K CT = true)
    (p3 : PySem.W.plainOver K CT = true)
    (p4 : PySem.W.findIn K (.ref CT) "__setattr__" = some (some (.builtin "object.__setattr__")))
    (p5 : PySem.W.makesIn K CT = true)
    (p6 : PySem.W.isFn K (.ref fT) = true)
    (p7 : PySem.W.keepIn K (.ref CT) = true)
    (q1 : PySem.W.findIn K (.ref CT) "__class__" = some (some (.builtin "object.__class__")))
    (q2 : PySem.W.specialIn K (.builtin "object.__class__") "__get__" = some (some (.builtin "getset_descriptor.__get__")))
    (q3 : PySem.W.takesIn K (.builtin "object.__class__") = some true)
    (q4 : PySem.W.mroIn K CT (.type "object") = some true)
    (q5 : PySem.W.kitOne K (.ref CT) (.ref CT) = some true)
    (r0 : PySem.W.kitOne K (.type "NoneType") (.ref CT) = some false)
    (r1 : PySem.W.kitOne K (.type "bool") (.ref CT) = some false)
    (r2 : PySem.W.kitOne K (.type "int") (.ref CT) = some false)
    (r3 : PySem.W.kitOne K (.type "str") (.ref CT) = some false)
    (r4 : PySem.W.kitOne K (.type "list") (.ref CT) = some false)
    (r5 : PySem.W.kitOne K (.type "tuple") (.ref CT) = some false)
    (w1 : PySem.W.isFn K (.ref fEq) = true)
    (w2 : PySem.W.findIn K (.ref CT) "__ne__" = some (some (.builtin "object.__ne__")))
    (w3 : PySem.W.notFirst K CT (.type "tuple") = true)
    (w4 : PySem.W.notFirst K CT (.ref CT) = true)
    (m0 : PySem.W.findIn K (.ref CT) "rules" = some none)
    (m1 : PySem.W.findIn K (.ref CT) "mode" = some none)
    (c1 : PySem.W.nsIn K mainGlobals "NAME_MOST" = some (some (.int 8 t1)))
    (c2 : PySem.W.nsIn K mainGlobals "TEXT_MOST" = some (some (.int 16 t2)))
    (c3 : PySem.W.nsIn K mainGlobals "NAME_SIGNS" = some (some (.str abc t3)))
    (c4 : PySem.W.nsIn K mainGlobals "TEXT_SIGNS" = some (some (.str abc9 t4)))
    (z_int : PySem.W.nsIn K mainGlobals "int" = some none)
    (z_abs : PySem.W.nsIn K mainGlobals "abs" = some none)
    (z_len : PySem.W.nsIn K mainGlobals "len" = some none)
    (z_isinstance : PySem.W.nsIn K mainGlobals "isinstance" = some none)
    (z_str : PySem.W.nsIn K mainGlobals "str" = some none)
    (z_all : PySem.W.nsIn K mainGlobals "all" = some none)
    (z_tuple : PySem.W.nsIn K mainGlobals "tuple" = some none)
    (z_list : PySem.W.nsIn K mainGlobals "list" = some none)
    (z_enumerate : PySem.W.nsIn K mainGlobals "enumerate" = some none)
    (z_sorted : PySem.W.nsIn K mainGlobals "sorted" = some none)
    (z_range : PySem.W.nsIn K mainGlobals "range" = some none)
    (z_repr : PySem.W.nsIn K mainGlobals "repr" = some none)
    (z_set : PySem.W.nsIn K mainGlobals "set" = some none)
    :
    ∃ fd : FuncData, (∀ (s : Shared) (v : Value), BindsTo s fd ⟨[v], []⟩ [("script", v)]) ∧ ∀ base : Heap, K.In base → base.Ns mainGlobals mg → FnG P w K mg base CX0 68 fa fd ["script"] (spLaw K) := by
  have e := hfa.symm.trans (PySem.W.mg_of X G a28)
  cases e
  obtain ⟨d0, F0⟩ := h0
  obtain ⟨d1, F1⟩ := h1
  obtain ⟨d2, F2⟩ := h2
  obtain ⟨d3, F3⟩ := h3
  obtain ⟨d4, F4⟩ := h4
  obtain ⟨d5, F5⟩ := h5
  obtain ⟨d6, F6⟩ := h6
  obtain ⟨d7, F7⟩ := h7
  obtain ⟨d8, F8⟩ := h8
  obtain ⟨d9, F9⟩ := h9
  obtain ⟨d10, F10⟩ := h10
  obtain ⟨d11, F11⟩ := h11
  obtain ⟨d12, F12⟩ := h12
  obtain ⟨d13, F13⟩ := h13
  obtain ⟨d14, F14⟩ := h14
  obtain ⟨d15, F15⟩ := h15
  obtain ⟨d16, F16⟩ := h16
  obtain ⟨d17, F17⟩ := h17
  obtain ⟨d18, F18⟩ := h18
  obtain ⟨d19, F19⟩ := h19
  obtain ⟨d20, F20⟩ := h20
  obtain ⟨d21, F21⟩ := h21
  obtain ⟨d22, F22⟩ := h22
  obtain ⟨d23, F23⟩ := h23
  obtain ⟨d24, F24⟩ := h24
  obtain ⟨d25, F25⟩ := h25
  obtain ⟨d26, F26⟩ := h26
  obtain ⟨d27, F27⟩ := h27
  obtain ⟨d28, F28⟩ := h28
  have v0 := F0.binds (ps := ["script", "base"]) fun _ _ _ _ _ _ us hl => match us, hl with | [_, _], _ => rfl
  have v1 := F1.binds (ps := ["deal", "bound"]) fun _ _ _ _ _ _ us hl => match us, hl with | [_, _], _ => rfl
  have v2 := F2.binds (ps := ["deal", "some"]) fun _ _ _ _ _ _ us hl => match us, hl with | [_, _], _ => rfl
  have v3 := F3.binds (ps := ["deal"]) fun _ _ _ _ _ _ us hl => match us, hl with | [_], _ => rfl
  have v4 := F4.binds (ps := ["deal", "modes", "names", "letter", "deep", "room"]) fun _ _ _ _ _ _ us hl => match us, hl with | [_, _, _, _, _, _], _ => rfl
  have v5 := F5.binds (ps := ["deal", "names", "most", "goes", "deep"]) fun _ _ _ _ _ _ us hl => match us, hl with | [_, _, _, _, _], _ => rfl
  have v6 := F6.binds (ps := ["value", "most", "signs"]) fun _ _ _ _ _ _ us hl => match us, hl with | [_, _, _], _ => rfl
  have v7 := F7.binds (ps := ["value"]) fun _ _ _ _ _ _ us hl => match us, hl with | [_], _ => rfl
  have v8 := F8.binds (ps := ["value", "letter"]) fun _ _ _ _ _ _ us hl => match us, hl with | [_, _], _ => rfl
  have v9 := F9.binds (ps := ["rules", "mode"]) fun _ _ _ _ _ _ us hl => match us, hl with | [_, _], _ => rfl
  have v10 := F10.binds (ps := ["deal", "rules", "mode"]) fun _ _ _ _ _ _ us hl => match us, hl with | [_, _, _], _ => rfl
  have v11 := F11.binds (ps := ["value"]) fun _ _ _ _ _ _ us hl => match us, hl with | [_], _ => rfl
  have v12 := F12.binds (ps := ["parts"]) fun _ _ _ _ _ _ us hl => match us, hl with | [_], _ => rfl
  have v13 := F13.binds (ps := ["rules", "mode"]) fun _ _ _ _ _ _ us hl => match us, hl with | [_, _], _ => rfl
  have v14 := F14.binds (ps := ["value"]) fun _ _ _ _ _ _ us hl => match us, hl with | [_], _ => rfl
  have v15 := F15.binds (ps := ["value"]) fun _ _ _ _ _ _ us hl => match us, hl with | [_], _ => rfl
  have v16 := F16.binds (ps := ["value", "signs"]) fun _ _ _ _ _ _ us hl => match us, hl with | [_, _], _ => rfl
  have v17 := F17.binds (ps := ["value"]) fun _ _ _ _ _ _ us hl => match us, hl with | [_], _ => rfl
  have v18 := F18.binds (ps := ["value"]) fun _ _ _ _ _ _ us hl => match us, hl with | [_], _ => rfl
  have v19 := F19.binds (ps := ["value", "letter"]) fun _ _ _ _ _ _ us hl => match us, hl with | [_, _], _ => rfl
  have v20 := F20.binds (ps := ["part"]) fun _ _ _ _ _ _ us hl => match us, hl with | [_], _ => rfl
  have v21 := F21.binds (ps := ["parts"]) fun _ _ _ _ _ _ us hl => match us, hl with | [_], _ => rfl
  have v22 := F22.binds (ps := ["parts"]) fun _ _ _ _ _ _ us hl => match us, hl with | [_], _ => rfl
  have v23 := F23.binds (ps := ["parts"]) fun _ _ _ _ _ _ us hl => match us, hl with | [_], _ => rfl
  have v24 := F24.binds (ps := ["value"]) fun _ _ _ _ _ _ us hl => match us, hl with | [_], _ => rfl
  have v25 := F25.binds (ps := ["value"]) fun _ _ _ _ _ _ us hl => match us, hl with | [_], _ => rfl
  have v26 := F26.binds (ps := ["turning"]) fun _ _ _ _ _ _ us hl => match us, hl with | [_], _ => rfl
  have v27 := F27.binds (ps := ["turning", "mode", "letter"]) fun _ _ _ _ _ _ us hl => match us, hl with | [_, _, _], _ => rfl
  obtain ⟨dI_CE, FI_CE⟩ := g_CE
  have it_CE := isB_ok e1_CE
  have et_CE := exB_ok e2_CE it_CE.1
  obtain ⟨dT, FT⟩ := g_CT
  obtain ⟨dQ, FQ⟩ := g_EQ
  have MK : Mk K CT fT := ⟨p5, j_CT, p6, p7⟩
  have vT := FT.binds (ps := ["self", "rules", "mode"]) fun _ _ _ _ _ _ us hl => match us, hl with | [_, _, _], _ => rfl
  have vQ := FQ.binds (ps := ["self", "other"]) fun _ _ _ _ _ _ us hl => match us, hl with | [_, _], _ => rfl
  have IO : IsO K CT := ⟨⟨p1, p2, p3, p4⟩, q1, q2, q3, q4, q5, r0, r1, r2, r3, r4, r5⟩
  have OE : OwnE K CT fEq := ⟨j_EQ, w1, w2, q4⟩
  have T1 : DealTxt K mg  := { int := PySem.W.mg_none_of X G z_int, abs := PySem.W.mg_none_of X G z_abs }
  have T2 : AnyTxt K mg  := { int := PySem.W.mg_none_of X G z_int }
  have T3 : OfTxt K mg f1 := { len := PySem.W.mg_none_of X G z_len, any := PySem.W.mg_of X G a1, kAny := F1.kp }
  have T4 : WordTxt K mg f16 t1 t2 t3 t4 := { n_isinstance := PySem.W.mg_none_of X G z_isinstance, n_str := PySem.W.mg_none_of X G z_str, n_len := PySem.W.mg_none_of X G z_len, n_all := PySem.W.mg_none_of X G z_all, g_NAME_MOST := PySem.W.mg_of X G c1, g_TEXT_MOST := PySem.W.mg_of X G c2, g_NAME_SIGNS := PySem.W.mg_of X G c3, g_TEXT_SIGNS := PySem.W.mg_of X G c4, g_has_only := PySem.W.mg_of X G a16, k_has_only := F16.kp }
  have TA : VaTxt K mg f14 f15 := { n_isinstance := PySem.W.mg_none_of X G z_isinstance, n_str := PySem.W.mg_none_of X G z_str, n_tuple := PySem.W.mg_none_of X G z_tuple, n_len := PySem.W.mg_none_of X G z_len, g_is_name := PySem.W.mg_of X G a14, k_is_name := F14.kp, g_is_text := PySem.W.mg_of X G a15, k_is_text := F15.kp }
  have TB : VbTxt K mg f14 f17 f19 := { n_isinstance := PySem.W.mg_none_of X G z_isinstance, n_tuple := PySem.W.mg_none_of X G z_tuple, n_list := PySem.W.mg_none_of X G z_list, n_len := PySem.W.mg_none_of X G z_len, g_is_name := PySem.W.mg_of X G a14, k_is_name := F14.kp, g_is_letter := PySem.W.mg_of X G a17, k_is_letter := F17.kp, g_is_part := PySem.W.mg_of X G a19, k_is_part := F19.kp }
  have TD : VdTxt K mg f20 := { n_list := PySem.W.mg_none_of X G z_list, g_parts_within := PySem.W.mg_of X G a20, k_parts_within := F20.kp }
  have TE : VeTxt K mg f21 f22 := { n_tuple := PySem.W.mg_none_of X G z_tuple, g_all_parts := PySem.W.mg_of X G a21, k_all_parts := F21.kp, g_goes_within := PySem.W.mg_of X G a22, k_goes_within := F22.kp }
  have TF : VfTxt K mg CT CE fX f14 f18 f24 := { n_isinstance := PySem.W.mg_none_of X G z_isinstance, n_tuple := PySem.W.mg_none_of X G z_tuple, n_enumerate := PySem.W.mg_none_of X G z_enumerate, io := IO, na_rules := m0, na_mode := m1, g_Turning := PySem.W.mg_of X G b_CT, m_InvalidTurning := PySem.W.mg_of X G b_CE, t_InvalidTurning := et_CE, ty_InvalidTurning := it_CE.2, one := y_CE, g_is_name := PySem.W.mg_of X G a14, k_is_name := F14.kp, g_is_rule := PySem.W.mg_of X G a18, k_is_rule := F18.kp, g_need_turning := PySem.W.mg_of X G a24, k_need_turning := F24.kp }
  have TG : VgTxt K mg CT f22 := { n_tuple := PySem.W.mg_none_of X G z_tuple, n_sorted := PySem.W.mg_none_of X G z_sorted, io := IO, na_rules := m0, na_mode := m1, g_goes_within := PySem.W.mg_of X G a22, k_goes_within := F22.kp }
  have TH : VhTxt K mg CT := { n_isinstance := PySem.W.mg_none_of X G z_isinstance, io := IO, na_rules := m0, na_mode := m1, g_Turning := PySem.W.mg_of X G b_CT }
  have TI : ViTxt K mg f6 f7 f8 f12 := { n_isinstance := PySem.W.mg_none_of X G z_isinstance, n_tuple := PySem.W.mg_none_of X G z_tuple, n_str := PySem.W.mg_none_of X G z_str, n_len := PySem.W.mg_none_of X G z_len, g_law_string := PySem.W.mg_of X G a6, k_law_string := F6.kp, g_law_name := PySem.W.mg_of X G a7, k_law_name := F7.kp, g_law_formed := PySem.W.mg_of X G a8, k_law_formed := F8.kp, g_law_goes := PySem.W.mg_of X G a12, k_law_goes := F12.kp }
  have TJ : VjTxt K mg CE CF CN f7 f8 f24 := { n_isinstance := PySem.W.mg_none_of X G z_isinstance, n_tuple := PySem.W.mg_none_of X G z_tuple, n_str := PySem.W.mg_none_of X G z_str, n_len := PySem.W.mg_none_of X G z_len, n_range := PySem.W.mg_none_of X G z_range, m_InvalidTurning := PySem.W.mg_of X G b_CE, m_FitError := PySem.W.mg_of X G b_CF, m_InvalidNode := PySem.W.mg_of X G b_CN, k1 := y1, k2 := y2, one := y_CE, it := it_CE.1, xf := ⟨it_CE.1.ga, it_CE.1.gg, it_CE.1.ex, it_CE.1.hd⟩, no_at := et_CE.no, g_law_name := PySem.W.mg_of X G a7, k_law_name := F7.kp, g_law_formed := PySem.W.mg_of X G a8, k_law_formed := F8.kp, g_need_turning := PySem.W.mg_of X G a24, k_need_turning := F24.kp }
  have TK : VkTxt K mg f1 f2 f4 := { n_range := PySem.W.mg_none_of X G z_range, n_tuple := PySem.W.mg_none_of X G z_tuple, g_law_any := PySem.W.mg_of X G a1, k_law_any := F1.kp, g_law_of := PySem.W.mg_of X G a2, k_law_of := F2.kp, g_law_parts := PySem.W.mg_of X G a4, k_law_parts := F4.kp }
  have TL : VlTxt K mg f1 f2 f4 := { n_tuple := PySem.W.mg_none_of X G z_tuple, g_law_any := PySem.W.mg_of X G a1, k_law_any := F1.kp, g_law_of := PySem.W.mg_of X G a2, k_law_of := F2.kp, g_law_parts := PySem.W.mg_of X G a4, k_law_parts := F4.kp }
  have TM : VmTxt K mg f1 f2 := { n_list := PySem.W.mg_none_of X G z_list, n_len := PySem.W.mg_none_of X G z_len, g_law_any := PySem.W.mg_of X G a1, k_law_any := F1.kp, g_law_of := PySem.W.mg_of X G a2, k_law_of := F2.kp }
  have TN : VnTxt K mg CT fT fEq f27 f23 f26 f12 := { n_repr := PySem.W.mg_none_of X G z_repr, n_tuple := PySem.W.mg_none_of X G z_tuple, n_list := PySem.W.mg_none_of X G z_list, n_sorted := PySem.W.mg_none_of X G z_sorted, n_set := PySem.W.mg_none_of X G z_set, io := IO, oe := OE, nf1 := w3, nf2 := w4, na_rules := m0, na_mode := m1, g_Turning := PySem.W.mg_of X G b_CT, mk_Turning := MK, g_rule_for := PySem.W.mg_of X G a27, k_rule_for := F27.kp, g_goes_of := PySem.W.mg_of X G a23, k_goes_of := F23.kp, g_modes_of := PySem.W.mg_of X G a26, k_modes_of := F26.kp, g_law_goes := PySem.W.mg_of X G a12, k_law_goes := F12.kp }
  have TO : LawTxt K mg CT fT f0 f3 f5 f13 f10 f9 f11 f25 f24 := { n_range := PySem.W.mg_none_of X G z_range, n_repr := PySem.W.mg_none_of X G z_repr, n_list := PySem.W.mg_none_of X G z_list, g_Turning := PySem.W.mg_of X G b_CT, mk_Turning := MK, g_law_deal := PySem.W.mg_of X G a0, k_law_deal := F0.kp, g_law_names := PySem.W.mg_of X G a3, k_law_names := F3.kp, g_law_turning := PySem.W.mg_of X G a5, k_law_turning := F5.kp, g_law_tells := PySem.W.mg_of X G a13, k_law_tells := F13.kp, g_law_turned := PySem.W.mg_of X G a10, k_law_turned := F10.kp, g_law_due := PySem.W.mg_of X G a9, k_law_due := F9.kp, g_law_told := PySem.W.mg_of X G a11, k_law_told := F11.kp, g_is_turning := PySem.W.mg_of X G a25, k_is_turning := F25.kp, g_need_turning := PySem.W.mg_of X G a24, k_need_turning := F24.kp }
  have kK24 : BindsK d24 ["value"] ["value"] := fun s us hl => by
    match us, hl with
    | [u0], _ =>
      obtain ⟨_, _, _, _, _, _, _, _, _, rfl, _, _⟩ := F24.ex
      exact .of_eq rfl
  have kK25 : BindsK d25 ["value"] ["value"] := fun s us hl => by
    match us, hl with
    | [u0], _ =>
      obtain ⟨_, _, _, _, _, _, _, _, _, rfl, _, _⟩ := F25.ex
      exact .of_eq rfl
  have kK27 : BindsK d27 ["turning", "mode", "letter"] ["turning", "mode", "letter"] := fun s us hl => by
    match us, hl with
    | [u0, u1, u2], _ =>
      obtain ⟨_, _, _, _, _, _, _, _, _, rfl, _, _⟩ := F27.ex
      exact .of_eq rfl
  have kK23 : BindsK d23 ["parts"] ["parts"] := fun s us hl => by
    match us, hl with
    | [u0], _ =>
      obtain ⟨_, _, _, _, _, _, _, _, _, rfl, _, _⟩ := F23.ex
      exact .of_eq rfl
  have kK26 : BindsK d26 ["turning"] ["turning"] := fun s us hl => by
    match us, hl with
    | [u0], _ =>
      obtain ⟨_, _, _, _, _, _, _, _, _, rfl, _, _⟩ := F26.ex
      exact .of_eq rfl
  refine ⟨d28, fun s v => ?_, fun base _ _ => ?_⟩
  · obtain ⟨_, _, _, _, _, _, _, _, _, rfl, _, _⟩ := F28.ex
    exact .of_eq rfl
  · have GS : FnOk P w K mg base CX0 1 f0 d0 ["script", "base"] (spDeal K) := ok_deal F0 T1
    have GA : FnOk P w K mg base CX0 1 f1 d1 ["deal", "bound"] (spAny) := ok_any F1 T2
    have GO : FnOk P w K mg base CX0 2 f2 d2 ["deal", "some"] (spOf) := ok_of F2 T3 GA v1
    have Gho : FnOk P w K mg base CX0 1 f16 d16 ["value", "signs"] (spHas) := ok_has F16 T4
    have Gna : FnOk P w K mg base CX0 2 f14 d14 ["value"] (spName K) := ok_name F14 T4 Gho v16
    have Gte : FnOk P w K mg base CX0 2 f15 d15 ["value"] (spText K) := ok_text F15 T4 Gho v16
    have DA : FnOk P w K mg base CX0 1 f1 d1 ["deal", "bound"] (spD K spAnyD) := GA.imp any_imp
    have DO : FnOk P w K mg base CX0 2 f2 d2 ["deal", "some"] (spD K spOfD) := GO.imp of_imp
    have Dna : FnOk P w K mg base CX0 2 f14 d14 ["value"] (spD K spNameD) := Gna.imp name_imp
    have Dte : FnOk P w K mg base CX0 2 f15 d15 ["value"] (spD K spTextD) := Gte.imp text_imp
    have GIE : FnOk P w K mg base CX0 1 fX dI_CE ["self", "at"] (K3.spInit CE "at") := ok_init0T FI_CE et_CE
    have GT : FnOk P w K mg base CX0 1 fT dT ["self", "rules", "mode"] (spIni CT ["rules", "mode"]) := ok_iniT FT TH
    have GQ : FnOk P w K mg base CX0 1 fEq dQ ["self", "other"] (spD K (spEqT CT)) := ok_eqT FQ TH
    have Hle : FnOk P w K mg base CX0 3 f17 d17 ["value"] (spD K spLetD) := ok_isLet F17 TA Dna v14
    have Hpa : FnOk P w K mg base CX0 3 f19 d19 ["value", "letter"] (spD K spPartD) := ok_isPart F19 TA Dna v14 Dte v15
    have Hru : FnOk P w K mg base CX0 4 f18 d18 ["value"] (spD K spRuleD) := ok_isRule F18 TB Dna v14 Hle v17 Hpa v19
    have Hpw : FnOk P w K mg base CX0 1 f20 d20 ["part"] (spD K spPtW) := ok_ptW F20
    have Hap : FnOk P w K mg base CX0 2 f21 d21 ["parts"] (spD K spAllP) := ok_allP F21 TD Hpw v20
    have Hgw : FnOk P w K mg base CX0 3 f22 d22 ["parts"] (spD K spGoW) := ok_goW F22 TE Hap v21
    have Hgo : FnOk P w K mg base CX0 4 f23 d23 ["parts"] (spD K spGoOf) := ok_goOf F23 TE Hgw v22
    have Hnt : FnOk P w K mg base (L2.CX P w) 6 f24 d24 ["value"] (spD K (spNeedTu CT CE)) := ok_needTu F24 TF GIE (bp0T FI_CE) Dna v14 Hru v18
    have Hit : FnOk P w K mg base CX0 7 f25 d25 ["value"] (spD K (spIsTu CT)) := ok_isTu F25 TF Hnt v24
    have Hmo : FnOk P w K mg base CX0 4 f26 d26 ["turning"] (spD K (spModes CT)) := ok_modes F26 TG Hgw v22
    have Hrf : FnOk P w K mg base CX0 1 f27 d27 ["turning", "mode", "letter"] (spD K (spRuleFor CT)) := ok_ruleFor F27 TH
    have Jst : FnOk P w K mg base CX0 1 f6 d6 ["value", "most", "signs"] (spD K spLStr) := ok_lstr F6 TI
    have Jna : FnOk P w K mg base CX0 2 f7 d7 ["value"] (spD K spLNam) := ok_lnam F7 TI Jst v6
    have Jfo : FnOk P w K mg base CX0 (3 + 61) f8 d8 ["value", "letter"] (spD K (spLFor 61)) := ok_lfor F8 TI v8 Jst v6 Jna v7 61
    have Jgo : FnOk P w K mg base CX0 (1 + 7) f12 d12 ["parts"] (spD K (spLGoe 7)) := ok_lgoe F12 TI v12 7
    have Jdu : FnOk P w K mg base CX0 65 f9 d9 ["rules", "mode"] (spD K spLDue) := ok_ldue F9 TJ Jna v7 Jfo v8
    have Jto : FnOk P w K mg base CX0 7 f11 d11 ["value"] (spD K (spLTold CT)) := ok_ltold F11 TJ Hnt kK24
    have Jnm : FnOk P w K mg base CX0 3 f3 d3 ["deal"] (spD K spLNms) := ok_lnms F3 TK DO v2
    have Jpt : FnOk P w K mg base CX0 (3 + 3) f4 d4 ["deal", "modes", "names", "letter", "deep", "room"] (spD K (spLPts 3)) := ok_lpts F4 TK v4 DA v1 DO v2 3
    have Jtu : FnOk P w K mg base CX0 7 f5 d5 ["deal", "names", "most", "goes", "deep"] (spD K spLTur) := ok_ltur F5 TL DA v1 DO v2 Jpt v4
    have Jtd : FnOk P w K mg base CX0 3 f10 d10 ["deal", "rules", "mode"] (spD K spLTud) := ok_ltud F10 TM DA v1 DO v2
    have Jte : FnG P w K mg base CX0 9 f13 d13 ["rules", "mode"] (spD K spLTel) := ok_ltel F13 TN GT vT (kbr_T FT) GQ vQ Hrf v27 kK27 Hgo kK23 Hmo kK26 Jgo v12
    exact ok_law F28 TO GT vT GS v0 Jnm v3 Jtu v5 Jte v13 Jtd v10 Jdu v9 Jto v11 Hit v25 kK25 Hnt v24
end K3

open PySem PySem.W PyProof.Rows
set_option maxRecDepth 100000 in
set_option maxHeartbeats 0 in
theorem PySem.Challenge.cw_turnsfit_k49_any_values_as_turnings_holds : PySem.Challenge.rw_turnsfit_k49_any_values_as_turnings.Holds := by
  w_on; o_law; k_head; (case hw => w_witness2)
  k_fill
  refine Grd.walkG (l := PySem.Challenge.rw_turnsfit_k49_any_values_as_turnings) (sp := K3.spLaw) (x := "script") (k := 68) rfl (by decide) rfl ⟨rfl, by decide, by decide⟩ (fun w h Y => PySem.W.kIn_of Y) ?F (fun K H a ns hl hS => ⟨a, ns, rfl, hS, hl, fun _ => rfl⟩)
  case F =>
    intro w mg fa h KX G hmg
    refine' K3.all_mk KX G hmg ?kq_a0 ?kq_h0 ?kq_a1 ?kq_h1 ?kq_a2 ?kq_h2 ?kq_a3 ?kq_h3 ?kq_a4 ?kq_h4 ?kq_a5 ?kq_h5 ?kq_a6 ?kq_h6 ?kq_a7 ?kq_h7 ?kq_a8 ?kq_h8 ?kq_a9 ?kq_h9 ?kq_a10 ?kq_h10 ?kq_a11 ?kq_h11 ?kq_a12 ?kq_h12 ?kq_a13 ?kq_h13 ?kq_a14 ?kq_h14 ?kq_a15 ?kq_h15 ?kq_a16 ?kq_h16 ?kq_a17 ?kq_h17 ?kq_a18 ?kq_h18 ?kq_a19 ?kq_h19 ?kq_a20 ?kq_h20 ?kq_a21 ?kq_h21 ?kq_a22 ?kq_h22 ?kq_a23 ?kq_h23 ?kq_a24 ?kq_h24 ?kq_a25 ?kq_h25 ?kq_a26 ?kq_h26 ?kq_a27 ?kq_h27 ?kq_a28 ?kq_h28 ?kq_b_CE ?kq_j_CE ?kq_g_CE ?kq_e1_CE ?kq_e2_CE ?kq_y_CE ?kq_b_CF ?kq_b_CN ?kq_b_CT ?kq_y1 ?kq_y2 ?kq_j_CT ?kq_g_CT ?kq_j_EQ ?kq_g_EQ ?kq_p1 ?kq_p2 ?kq_p3 ?kq_p4 ?kq_p5 ?kq_p6 ?kq_p7 ?kq_q1 ?kq_q2 ?kq_q3 ?kq_q4 ?kq_q5 ?kq_r0 ?kq_r1 ?kq_r2 ?kq_r3 ?kq_r4 ?kq_r5 ?kq_w1 ?kq_w2 ?kq_w3 ?kq_w4 ?kq_m0 ?kq_m1 ?kq_c1 ?kq_c2 ?kq_c3 ?kq_c4 ?kq_z_int ?kq_z_abs ?kq_z_len ?kq_z_isinstance ?kq_z_str ?kq_z_all ?kq_z_tuple ?kq_z_list ?kq_z_enumerate ?kq_z_sorted ?kq_z_range ?kq_z_repr ?kq_z_set
    (case kq_a0 => k_is)
    (case kq_h0 => refine' ⟨_, L2.fun_mk (st := K1.sDeal) ?kql ?kqc ?kqk⟩; (case kql => k_is); (case kqc => k_is); (case kqk => k_is))
    (case kq_a1 => k_is)
    (case kq_h1 => refine' ⟨_, L2.fun_mk (st := K1.sAny) ?kql ?kqc ?kqk⟩; (case kql => k_is); (case kqc => k_is); (case kqk => k_is))
    (case kq_a2 => k_is)
    (case kq_h2 => refine' ⟨_, L2.fun_mk (st := K1.sOf) ?kql ?kqc ?kqk⟩; (case kql => k_is); (case kqc => k_is); (case kqk => k_is))
    (case kq_a3 => k_is)
    (case kq_h3 => refine' ⟨_, L2.fun_mk (st := K3.sLNms) ?kql ?kqc ?kqk⟩; (case kql => k_is); (case kqc => k_is); (case kqk => k_is))
    (case kq_a4 => k_is)
    (case kq_h4 => refine' ⟨_, L2.fun_mk (st := K3.sLPts) ?kql ?kqc ?kqk⟩; (case kql => k_is); (case kqc => k_is); (case kqk => k_is))
    (case kq_a5 => k_is)
    (case kq_h5 => refine' ⟨_, L2.fun_mk (st := K3.sLTur) ?kql ?kqc ?kqk⟩; (case kql => k_is); (case kqc => k_is); (case kqk => k_is))
    (case kq_a6 => k_is)
    (case kq_h6 => refine' ⟨_, L2.fun_mk (st := K3.sLStr) ?kql ?kqc ?kqk⟩; (case kql => k_is); (case kqc => k_is); (case kqk => k_is))
    (case kq_a7 => k_is)
    (case kq_h7 => refine' ⟨_, L2.fun_mk (st := K3.sLNam) ?kql ?kqc ?kqk⟩; (case kql => k_is); (case kqc => k_is); (case kqk => k_is))
    (case kq_a8 => k_is)
    (case kq_h8 => refine' ⟨_, L2.fun_mk (st := K3.sLFor) ?kql ?kqc ?kqk⟩; (case kql => k_is); (case kqc => k_is); (case kqk => k_is))
    (case kq_a9 => k_is)
    (case kq_h9 => refine' ⟨_, L2.fun_mk (st := K3.sLDue) ?kql ?kqc ?kqk⟩; (case kql => k_is); (case kqc => k_is); (case kqk => k_is))
    (case kq_a10 => k_is)
    (case kq_h10 => refine' ⟨_, L2.fun_mk (st := K3.sLTud) ?kql ?kqc ?kqk⟩; (case kql => k_is); (case kqc => k_is); (case kqk => k_is))
    (case kq_a11 => k_is)
    (case kq_h11 => refine' ⟨_, L2.fun_mk (st := K3.sLTold) ?kql ?kqc ?kqk⟩; (case kql => k_is); (case kqc => k_is); (case kqk => k_is))
    (case kq_a12 => k_is)
    (case kq_h12 => refine' ⟨_, L2.fun_mk (st := K3.sLGoe) ?kql ?kqc ?kqk⟩; (case kql => k_is); (case kqc => k_is); (case kqk => k_is))
    (case kq_a13 => k_is)
    (case kq_h13 => refine' ⟨_, L2.fun_mk (st := K3.sLTel) ?kql ?kqc ?kqk⟩; (case kql => k_is); (case kqc => k_is); (case kqk => k_is))
    (case kq_a14 => k_is)
    (case kq_h14 => refine' ⟨_, L2.fun_mk (st := K1.sName) ?kql ?kqc ?kqk⟩; (case kql => k_is); (case kqc => k_is); (case kqk => k_is))
    (case kq_a15 => k_is)
    (case kq_h15 => refine' ⟨_, L2.fun_mk (st := K1.sText) ?kql ?kqc ?kqk⟩; (case kql => k_is); (case kqc => k_is); (case kqk => k_is))
    (case kq_a16 => k_is)
    (case kq_h16 => refine' ⟨_, L2.fun_mk (st := K1.sHas) ?kql ?kqc ?kqk⟩; (case kql => k_is); (case kqc => k_is); (case kqk => k_is))
    (case kq_a17 => k_is)
    (case kq_h17 => refine' ⟨_, L2.fun_mk (st := K3.sIsLet) ?kql ?kqc ?kqk⟩; (case kql => k_is); (case kqc => k_is); (case kqk => k_is))
    (case kq_a18 => k_is)
    (case kq_h18 => refine' ⟨_, L2.fun_mk (st := K3.sIsRule) ?kql ?kqc ?kqk⟩; (case kql => k_is); (case kqc => k_is); (case kqk => k_is))
    (case kq_a19 => k_is)
    (case kq_h19 => refine' ⟨_, L2.fun_mk (st := K3.sIsPart) ?kql ?kqc ?kqk⟩; (case kql => k_is); (case kqc => k_is); (case kqk => k_is))
    (case kq_a20 => k_is)
    (case kq_h20 => refine' ⟨_, L2.fun_mk (st := K3.sPtW) ?kql ?kqc ?kqk⟩; (case kql => k_is); (case kqc => k_is); (case kqk => k_is))
    (case kq_a21 => k_is)
    (case kq_h21 => refine' ⟨_, L2.fun_mk (st := K3.sAllP) ?kql ?kqc ?kqk⟩; (case kql => k_is); (case kqc => k_is); (case kqk => k_is))
    (case kq_a22 => k_is)
    (case kq_h22 => refine' ⟨_, L2.fun_mk (st := K3.sGoW) ?kql ?kqc ?kqk⟩; (case kql => k_is); (case kqc => k_is); (case kqk => k_is))
    (case kq_a23 => k_is)
    (case kq_h23 => refine' ⟨_, L2.fun_mk (st := K3.sGoOf) ?kql ?kqc ?kqk⟩; (case kql => k_is); (case kqc => k_is); (case kqk => k_is))
    (case kq_a24 => k_is)
    (case kq_h24 => refine' ⟨_, L2.fun_mk (st := K3.sNeedTu) ?kql ?kqc ?kqk⟩; (case kql => k_is); (case kqc => k_is); (case kqk => k_is))
    (case kq_a25 => k_is)
    (case kq_h25 => refine' ⟨_, L2.fun_mk (st := K3.sIsTu) ?kql ?kqc ?kqk⟩; (case kql => k_is); (case kqc => k_is); (case kqk => k_is))
    (case kq_a26 => k_is)
    (case kq_h26 => refine' ⟨_, L2.fun_mk (st := K3.sModesOf) ?kql ?kqc ?kqk⟩; (case kql => k_is); (case kqc => k_is); (case kqk => k_is))
    (case kq_a27 => k_is)
    (case kq_h27 => refine' ⟨_, L2.fun_mk (st := K3.sRuleFor) ?kql ?kqc ?kqk⟩; (case kql => k_is); (case kqc => k_is); (case kqk => k_is))
    (case kq_a28 => k_is)
    (case kq_h28 => refine' ⟨_, L2.fun_mk (st := K3.sLaw) ?kql ?kqc ?kqk⟩; (case kql => k_is); (case kqc => k_is); (case kqk => k_is))
    (case kq_b_CE => k_is)
    (case kq_j_CE => k_is)
    (case kq_g_CE => refine' ⟨_, L2.fun_mk (st := K3.sI0T) ?kql ?kqc ?kqk⟩; (case kql => k_is); (case kqc => k_is); (case kqk => k_is))
    (case kq_e1_CE => kernel_rfl)
    (case kq_e2_CE => kernel_rfl)
    (case kq_y_CE => kernel_rfl)
    (case kq_b_CF => k_is)
    (case kq_b_CN => k_is)
    (case kq_b_CT => k_is)
    (case kq_y1 => kernel_rfl)
    (case kq_y2 => kernel_rfl)
    (case kq_j_CT => k_is)
    (case kq_g_CT => refine' ⟨_, L2.fun_mk (st := K3.sIniT) ?kql ?kqc ?kqk⟩; (case kql => k_is); (case kqc => k_is); (case kqk => k_is))
    (case kq_j_EQ => k_is)
    (case kq_g_EQ => refine' ⟨_, L2.fun_mk (st := K3.sEqT) ?kql ?kqc ?kqk⟩; (case kql => k_is); (case kqc => k_is); (case kqk => k_is))
    (case kq_p1 => kernel_rfl)
    (case kq_p2 => kernel_rfl)
    (case kq_p3 => kernel_rfl)
    (case kq_p4 => kernel_rfl)
    (case kq_p5 => kernel_rfl)
    (case kq_p6 => kernel_rfl)
    (case kq_p7 => kernel_rfl)
    (case kq_q1 => kernel_rfl)
    (case kq_q2 => kernel_rfl)
    (case kq_q3 => kernel_rfl)
    (case kq_q4 => kernel_rfl)
    (case kq_q5 => kernel_rfl)
    (case kq_r0 => kernel_rfl)
    (case kq_r1 => kernel_rfl)
    (case kq_r2 => kernel_rfl)
    (case kq_r3 => kernel_rfl)
    (case kq_r4 => kernel_rfl)
    (case kq_r5 => kernel_rfl)
    (case kq_w1 => kernel_rfl)
    (case kq_w2 => kernel_rfl)
    (case kq_w3 => kernel_rfl)
    (case kq_w4 => kernel_rfl)
    (case kq_m0 => kernel_rfl)
    (case kq_m1 => kernel_rfl)
    (case kq_c1 => k_is)
    (case kq_c2 => k_is)
    (case kq_c3 => k_is)
    (case kq_c4 => k_is)
    (case kq_z_int => k_is)
    (case kq_z_abs => k_is)
    (case kq_z_len => k_is)
    (case kq_z_isinstance => k_is)
    (case kq_z_str => k_is)
    (case kq_z_all => k_is)
    (case kq_z_tuple => k_is)
    (case kq_z_list => k_is)
    (case kq_z_enumerate => k_is)
    (case kq_z_sorted => k_is)
    (case kq_z_range => k_is)
    (case kq_z_repr => k_is)
    (case kq_z_set => k_is)

