import PyProof.Rows.All
import Wide.All
import OpenK.AllK
import Wide.FinOn
import HandS.ForMost
import HandS.Style
import HandS.TupAny
import HandS.Walk
import HandS.Wide
import HandS.Flow
import HandS.IsInst
import KE.GoesEnum
import PyProof.FactsAll.list_1
import HandS.ExcOwn
import HandS.Text
import HandS.Iter
import HandS.More
import HandS.Deep
import HandS.Strs
import HandS.ReCall
import HandS.Zip
import HandS.Dict
import HandS.DictComp
import HandS.TupMul
import HandS.Conv
import HandS.NoneIn
import HandS.Ends
import KE.KExcInit
import HandS.ForExc
import HandS.ExcInit
import HandS.ExcIs
import KE.KExcIs
import HandS.ExcValue
import HandS.CallSlots
import HandS.ExcField
import HandS.TryOnly
import HandS.CallLocal
import PySem.Challenge.RW_turnsfit_k07_whole_any_string_read_or_re
set_option Elab.async false
set_option linter.all false
set_option maxRecDepth 100000
set_option maxHeartbeats 16000000
/-! rules of general use: t[::-1], xs.extend(t), enumerate(t) of tuples -/
namespace Xr
open PySem PySem.Spec PyProof.Rows L2 HT
section
variable {prog : Program} {w : World} {A : Around} {E : Value → Shared → Prop} {s : Shared}
theorem adjust_back (n : Nat) : Builtin.Slice.sliceAdjust none none (-1) (n : Int) = ((n : Int) - 1, -1) := by
  unfold Builtin.Slice.sliceAdjust
  have h1 : ((-1 : Int) < 0) := by omega
  simp only [h1, if_true]
theorem places_back (n : Nat) : Builtin.Slice.slicePlaces ((n : Int) - 1) (-1) (-1) = n := by
  unfold Builtin.Slice.slicePlaces
  have h1 : ¬ (-1 : Int) > 0 := by omega
  simp only [h1, if_false]
  have e : (-(-1) : Int) = 1 := rfl
  rw [e, Int.ediv_one]
  split <;> omega
theorem sliceApplied_back {sl : Addr} {t : Tok} {n : Nat} {Q : Int × Int × Nat → Shared → Prop} (hs : s.heap.IsSliceOf sl .none .none (.int (-1) t)) (h : Q ((n : Int) - 1, -1, n) s) :
    wpAny (model prog w) A (Builtin.Slice.sliceApplied (.ref sl) (pure (n : Int))) Q E s := by
  obtain ⟨os, hos, hcs, hds⟩ := id hs
  unfold Builtin.Slice.sliceApplied Builtin.Slice.sliceFields
  refine wpAny_bind (wpAny_bind (wpAny_field hos hds (x := .none) rfl (wpAny_bind (wpAny_field hos hds (x := .none) rfl (wpAny_bind (wpAny_field hos hds (x := .int (-1) t) rfl (wpAny_pure ?_)))))))
  refine wpAny_bind (slicePart_int ?_)
  show wpAny _ _ (if ((-1 : Int) == 0) = true then _ else _) _ _ s
  rw [if_neg (by decide)]
  refine wpAny_bind (slicePart_none (wpAny_bind (slicePart_none (wpAny_bind (wpAny_pure ?_)))))
  show wpAny _ _ (match Builtin.Slice.sliceAdjust none none (-1) (n : Int) with | (lo, hi) => pure (lo, (-1 : Int), Builtin.Slice.slicePlaces lo hi (-1))) _ _ s
  rw [adjust_back n]
  show wpAny _ _ (pure ((n : Int) - 1, (-1 : Int), Builtin.Slice.slicePlaces ((n : Int) - 1) (-1) (-1))) _ _ s
  rw [places_back]
  exact wpAny_pure h
theorem fm_congr {α β : Type} {f g : α → Option β} : ∀ {l : List α}, (∀ x ∈ l, f x = g x) → l.filterMap f = l.filterMap g
  | [], _ => rfl
  | a :: l, h => by
    rw [List.filterMap_cons, List.filterMap_cons, h a (by simp), fm_congr fun x hx => h x (List.mem_cons_of_mem _ hx)]
theorem pick_back (xs : Array Value) : ((List.range xs.size).filterMap fun (m : Nat) => xs[(((xs.size : Int) - 1) + (m : Int) * (-1)).toNat]?).toArray = xs.toList.reverse.toArray := by
  have e := PySem.W.krv_pick xs
  rw [← e]
  unfold slicePick
  rw [PySem.W.krv_bounds]
  show _ = ((sliceRange ((xs.size : Int) - 1) (-1) (-1)).filterMap _).toArray
  rw [PySem.W.krv_sliceRange, List.filterMap_map]
  congr 1
  refine fm_congr fun m hm => ?_
  have h : m < xs.size := List.mem_range.mp hm
  have e2 : (((xs.size : Int) - 1) + (m : Int) * (-1)).toNat = xs.size - 1 - m := by omega
  rw [e2]
  rfl
theorem getItem_tuple_back {t sl : Addr} {items : Array Value} {u : Tok} {Q : Value → Shared → Prop} (ht : IsTup s.heap t items) (hs : s.heap.IsSliceOf sl .none .none (.int (-1) u))
    (h : Q (.ref s.heap.objs.size) { s with heap := s.heap.push { cls := .type "tuple", data := .seq items.toList.reverse.toArray } })
    (hsz : items.size ≤ sizeLine) : wpAny (model prog w) A (getItem (.ref t) (.ref sl)) Q E s := by
  have htake : sizeOk (.seq items.toList.reverse.toArray) := by
    show items.toList.reverse.toArray.size ≤ sizeLine
    rw [List.size_toArray, List.length_reverse, Array.length_toList]
    exact hsz
  obtain ⟨os, hos, hcs, hds⟩ := id hs
  have hTs : s.TypeIs (.ref sl) "slice" := ⟨os, hos, hcs⟩
  unfold getItem
  try with_reducible refine wpAny_holding ?_
  first | refine wpAny_bind (wpAny_pure ?_) | skip
  refine wpAny_bind (wpAny_sequenceKey ht.typeIs (by decide) ?_)
  refine wpAny_bind (wpAny_callSpecial?_slot (name := Str.ofString "__getitem__") ht.typeIs PyProof.Rows.slot_tuple_getitem
    (wpAny_call_entry PyProof.Rows.slot_tuple_getitem ht.typeIs entry_tuple_getitem ?_ (args_tuple_getitem _ _)))
  show wpAny _ _ (Builtin.Tuple.tupleItemsOf (.ref t) >>= _) _ _ s
  refine wpAny_bind (tupleItemsOf_ ht ?_)
  refine wpAny_bind (wpAny_typeOf hTs ?_)
  rw [if_pos (by decide)]
  refine wpAny_bind (sliceApplied_back hs ?_)
  have hno : ¬ ((((items.size : Int) - 1) == 0 && (-1 : Int) == 1 && items.size == items.size) = true) := by
    intro q
    rw [Bool.and_eq_true, Bool.and_eq_true] at q
    have q1 : (-1 : Int) = 1 := eq_of_beq q.1.2
    omega
  show wpAny _ _ (if (((items.size : Int) - 1) == 0 && (-1 : Int) == 1 && items.size == items.size) = true then _ else _) _ _ s
  rw [if_neg hno, pick_back]
  first
    | exact wpAny_bind (m := Builtin.Tuple.tupleExact _) (wpAny_newObj_type (wpAny_pure ⟨_, rfl, wpAny_pure h⟩) htake)
    | exact wpAny_bind (m := Builtin.Tuple.tupleExact _) (wpAny_newObj_type (wpAny_bind (wpAny_pure (wpAny_pure ⟨_, rfl, wpAny_pure h⟩))) htake)
    | exact wpAny_bind (wpAny_bind (m := Builtin.Tuple.tupleExact _) (wpAny_newObj_type (wpAny_pure (wpAny_pure ⟨_, rfl, wpAny_pure h⟩)) htake))
    | exact wpAny_bind (wpAny_bind (m := Builtin.Tuple.tupleExact _) (wpAny_newObj_type (wpAny_pure ⟨_, rfl, wpAny_pure h⟩) htake))
end
/-- list.extend by a tuple, whatever else the tuple's object bears -/
theorem extend_tupW (l b : Addr) (xs ys : Array Value) (n n2 : Nat) (dd : Option Addr) (sl : Array (Option Value)) (h0 : ¬(!xs.isEmpty && Builtin.List.listTooLong (xs.size + ys.size)) = true) (h1 : xs.size ≤ sizeLine) (h2 : xs.size + ys.size ≤ sizeLine + 1) :
    Meets (Builtin.«list.extend» ⟨[.ref l, .ref b], []⟩) (fun _ R s => s.heap.get? l = some { cls := .type "list", dict := none, data := .seq xs n, slots := #[] } ∧ s.heap.get? b = some { cls := .type "tuple", dict := dd, data := .seq ys n2, slots := sl } ∧ R (.ok (.ret Value.none)) { s with heap := s.heap.update l (Obj.mapSeq fun z => z ++ ys), toks := s.toks }) :=
  .of_wp fun prog w A R s h => by
    obtain ⟨hp, g, d, tk, os⟩ := s
    obtain ⟨hl, hb, h⟩ := h
    have f1 := AutoSeq1.idx_int
    have f2 := AutoSeq1.sub_tuple_tuple
    have f3 := AutoSeq1.sub_list_list
    have f4 := AutoSeq1.sub_tuple_list
    have f5 := AutoSeq1.sub_list_tuple
    have hz' : (xs ++ ys).size ≤ sizeLine + 1 := by rw [Array.size_append]; exact h2
    wp_walk using (wpAny_updateSeq hl rfl (hz := h1) (_hz' := hz')), AutoSeq1.wpAny_loadPart' hl, AutoSeq1.wpAny_loadPart' hb
    exact ⟨_, rfl, h⟩
section
variable {X : Cx}
/-- t[::-1] -/
def tRevT (K : PySem.W.Frag) (te : TE) : TE := fun σ H Q => te σ H fun x H1 => ∃ a xs, x = .ref a ∧ SqT K H1 a xs ∧ ∀ p, H1 p = none → Q (.ref p) (upd H1 p (.tup xs.reverse))
theorem pe_revT {e : Expr} {te : TE} {k : Nat} {p1 p2 p3 pos : Pos} (he : PE X e te) : PE X (.Subscript e (.Slice none none (some (.UnaryOp .USub (.Constant (.int 1) k p1) p2)) p3) pos) (tRevT X.K te) := by
  refine ⟨fun pins s σ H Q I h => ?_⟩
  refine Subscript_ (thn (he.run pins s σ H _ I h) fun v s1 ⟨x, H1, I1, r1, q1⟩ => ?_)
  obtain ⟨a, xs, ex, hx, q⟩ := q1
  subst ex
  cases r1
  have hst : PO X (some (.UnaryOp .USub (.Constant (.int 1) k p1) p2)) (tPart (tUn (rU fun i => .int (-i)) (tC (.int 1)))) := po_some (pe_un un_neg pe_int)
  refine wpAny_Slice (thn (po_none.run pins s1 σ H1 (fun o H2 => o = none ∧ H2 = H1) I1 ⟨rfl, rfl⟩) fun vl s2 ⟨l, H2, I2, pl, el, e2⟩ => ?_)
  subst el e2
  refine thn (po_none.run pins s2 σ H2 (fun o H3 => o = none ∧ H3 = H2) I2 ⟨rfl, rfl⟩) fun vu s3 ⟨u, H3, I3, pu, eu, e3⟩ => ?_
  subst eu e3
  refine thn (hst.run pins s3 σ H3 (fun o H4 => o = some (-1) ∧ H4 = H3) I3 ⟨1, rfl, -1, rfl, rfl, rfl⟩) fun vs s4 ⟨o, H4, I4, ps, eo, e4⟩ => ?_
  subst eo e4
  cases pl
  cases pu
  obtain ⟨tk, rfl⟩ : ∃ tk, vs = .int (-1) tk := by
    cases ps
    exact ⟨_, rfl⟩
  have I5 : L2.Inv X pins σ H4 { s4 with heap := s4.heap.push { cls := .type "slice", data := .fields #[.none, .none, .int (-1) tk] } } := I4.kept (t' := s4.toks) fun b ob q => Heap.get?_push_of_some _ q
  obtain ⟨its, r, ht, hz⟩ := I5.tuple hx
  have hlen := r.length
  show wpAny (model X.prog X.w) X.A (subscriptTail e (.Slice none none (some (.UnaryOp .USub (.Constant (.int 1) k p1) p2)) p3) (.ref a) (.ref s4.heap.objs.size)) (EP X pins σ Q) X.xe { s4 with heap := s4.heap.push { cls := .type "slice", data := .fields #[.none, .none, .int (-1) tk] } }
  refine tail_any (ops := [.ref a, .ref s4.heap.objs.size]) ht.typeIs (PyProof.Rows.slot_tuple_getitem.lookup) ?_ (by with_unfolding_all rfl)
  refine getItem_tuple_back ht (Heap.IsSliceOf.new _ .none .none (.int (-1) tk)) ?_ (by rw [List.size_toArray]; omega)
  refine ⟨.ref _, _, I5.laid (t' := s4.toks) (o := .tup xs.reverse) (fun b ob q => Heap.get?_push_of_some _ q) (Nat.le_refl _) ?_, rfl, q _ (I5.hok.fresh (Nat.le_refl _))⟩
  exact ⟨by show xs.reverse.length ≤ sizeLine; rw [List.length_reverse]; exact hz, _, r.reverse, ⟨_, Heap.get?_push_size _ rfl, rfl, _, rfl⟩⟩
/-- xs.extend(t), t a tuple -/
def rExtT (K : PySem.W.Frag) : V → List V → Hp → VK → Prop := fun x vs H Q => ∃ l b xs zs, x = .ref l ∧ vs = [.ref b] ∧ H l = some (.lst xs) ∧ H b = some (.tup zs) ∧ xs.length + zs.length ≤ sizeLine ∧ Q .non (upd H l (.lst (xs ++ zs)))
theorem mt_extendT : MtM X "list.extend" (rExtT X.K) := by
  intro pins s σ H x vs v us Q I rx rv h
  obtain ⟨l, b, xs, zs, rfl, rfl, hH, hB, hz, q⟩ := h
  cases rx
  obtain ⟨u, rfl, ru⟩ := rv.one
  cases ru
  obtain ⟨z, its, n, r, hl, e⟩ := I.lstM hH
  obtain ⟨its2, r2, p2, z2⟩ := I.tuple (SqT.of (K := X.K) hB)
  obtain ⟨⟨cls2, dd2, data2, sl2⟩, ho2, hc2, n2, hd2⟩ := id p2
  simp only at hc2 hd2
  subst hc2 hd2
  have hl2 := r2.length
  have hsz : its.toArray.size + its2.toArray.size ≤ sizeLine := by rw [List.size_toArray, List.size_toArray]; omega
  have hlong : ¬ (!its.toArray.isEmpty && Builtin.List.listTooLong (its.toArray.size + its2.toArray.size)) = true := by
    rw [notLongL hsz, Bool.and_false]
    exact Bool.false_ne_true
  refine call_meets PySem.F.slot_list_extend ⟨_, e, rfl⟩ PySem.F.entry_list_extend (PySem.F.args_list_extend_2 _ _)
    (extend_tupW l b its.toArray its2.toArray n n2 dd2 sl2 hlong (by rw [List.size_toArray]; omega) (by omega)) ⟨e, ho2, ?_⟩
  refine ⟨.non, _, I.lset (its' := its ++ its2) hH e (by simp) (r.append r2) ?_, rfl, q⟩
  rw [List.length_append]
  omega
end
end Xr

/-! k01, part A: the text by places; the deal of draws: _law_any -/
namespace K1
open PySem L2
def top (i : Nat) : Stmt := PySem.Challenge.pw_turnsfit_k07_whole_any_string_read_or_re.main.body.getD i (.Pass ⟨0, 0, 0, 0⟩)
abbrev sSource : Stmt := top 27
abbrev sAny : Stmt := top 28
abbrev sOf : Stmt := top 29

/-- the deal stands at d: its great cells at c, its blend -/
structure DealAt (H : Hp) (d c : Addr) : Prop where
  ex : ∃ (cs : List Int) (b : Int), H d = some (.lst [.ref c, .int b]) ∧ H c = some (.lst (cs.map V.int)) ∧ (∀ x ∈ cs, 0 ≤ x) ∧ cs.length ≤ 63 ∧ 0 ≤ b ∧ b < 2147483647
/-- all tracked things but the deal's own two stand as before -/
def But (d c : Addr) (H H' : Hp) : Prop := ∀ q o, H q = some o → q ≠ d → q ≠ c → H' q = some o
theorem But.refl {d c : Addr} {H : Hp} : But d c H H := fun _ _ h _ _ => h
theorem But.trans {d c : Addr} {H H1 H2 : Hp} (a : But d c H H1) (b : But d c H1 H2) : But d c H H2 := fun q o h n m => b q o (a q o h n m) n m
/-- a promise of _law_any -/
def spAny : Sp := fun vs H Q _ => ∃ (d c : Addr) (n : Int), vs = [.ref d, .int n] ∧ DealAt H d c ∧ 0 < n ∧ n < 1073741824 ∧
  ∀ (r : Int) (H' : Hp), 0 ≤ r → r < n → DealAt H' d c → But d c H H' → Q (.int r) H'
theorem last_at {l : List Int} {x : Int} : atI ((l ++ [x]).map V.int) (-1) = some (.int x) := by
  have e : (l ++ [x]).map V.int = l.map V.int ++ [V.int x] := by simp
  rw [e]
  unfold atI ixN
  have h1 : ¬ (0 : Int) ≤ -1 := by omega
  have h2 : -(((l.map V.int ++ [V.int x]).length : Nat) : Int) ≤ -1 := by
    rw [List.length_append]
    simp
    omega
  rw [if_neg h1, if_pos h2]
  have e2 : (-1 + (((l.map V.int ++ [V.int x]).length : Nat) : Int)).toNat = (l.map V.int).length := by
    rw [List.length_append]
    simp
    omega
  rw [e2]
  simp
theorem canLayAll_ints : ∀ l : List Int, PyData.canLayAll0 (l.map PyData.int) = true
  | [] => rfl
  | x :: l => by
    have ih := canLayAll_ints l
    rw [List.map_cons]
    unfold PyData.canLayAll0
    rw [ih]
    rfl
theorem depthAll_ints : ∀ l : List Int, PyData.depthAll (l.map PyData.int) = 0
  | [] => rfl
  | x :: l => by
    have ih := depthAll_ints l
    rw [List.map_cons]
    unfold PyData.depthAll
    rw [ih]
    rfl
theorem shaped_ints (l : List Int) : SeqAt.shaped (.list (l.map PyData.int)) = true := by
  unfold SeqAt.shaped PyData.canLay0 PyData.depth
  rw [canLayAll_ints, depthAll_ints]
  rfl
theorem dp_ints {K : PySem.W.Frag} {H : Hp} : ∀ l : List Int, DpAll K H (l.map V.int) (l.map PyData.int)
  | [] => .nil
  | x :: l => .cons (.int x) (dp_ints l)
theorem eqv_nil_nil : PyData.eqv (.list []) (.list []) = true := rfl
theorem eqv_cons_nil {d : PyData} {ds : List PyData} : PyData.eqv (.list (d :: ds)) (.list []) = false := rfl
theorem scAny : FnScope ["deal", "bound", "rest"] ["deal", "bound"] (defScope sAny) := ⟨rfl, rfl, rfl, by decide +kernel, rfl, by decide +kernel, by decide +kernel⟩
structure AnyTxt (K : PySem.W.Frag) (mg : Str → Option Value) : Prop where
  int : mg "int" = none
section
variable {P : Program} {w : World} {K : PySem.W.Frag} {mg : Str → Option Value} {base : Heap}
theorem ok_any {f : Addr} {fd : FuncData} (F : Fun K "_law_any" "_law_any" sAny f fd) (T : AnyTxt K mg) : FnOk P w K mg base CX0 1 f fd ["deal", "bound"] spAny := by
  refine F.ok scAny (fun vs H Q E h => ?_) (fun cdv A outer s H vs Q E hr h => ?_)
  · obtain ⟨d, c, n, rfl, _⟩ := h
    rfl
  · obtain ⟨d, c, n, rfl, D, n0, n1, k⟩ := h
    refine ⟨_, pss_cons (ps_while PassesOwn.never
        (PW.pt (pw_and (pt_cmpR (op_neD hr.units) (pe_ix ix_list (pv 0) pe_int (fun _ _ => rfl)) (pe_lst pa_nil) (nomark _))
          (pw_and1 (pt_cmpR op_eq (pe_ix ix_list (pe_ix ix_list (pv 0) pe_int (fun _ _ => rfl)) (pe_un un_neg pe_int) (fun _ _ => rfl)) pe_int (nomark _)))))
        (pss_one (ps_expr (pe_bm0 PySem.F.plainAttrs_list PySem.F.slot_list_pop PySem.F.type_list_pop mt_pop (pe_ix ix_list (pv 0) pe_int (fun _ _ => rfl))))))
      (pss_cons (ps_if (pt_cmpR (op_neD hr.units) (pe_ix ix_list (pv 0) pe_int (fun _ _ => rfl)) (pe_lst pa_nil) (nomark _))
        (pss_cons (ps_set (i := 2) scAny.nd rfl (Or.inl rfl) (pe_callTy call_int1 (by rfl) T.int (by decide +kernel) (pa_cons (pe_bm0 PySem.F.plainAttrs_list PySem.F.slot_list_pop PySem.F.type_list_pop mt_pop (pe_ix ix_list (pv 0) pe_int (fun _ _ => rfl))) pa_nil)))
        (pss_cons (ps_expr (pe_bm PySem.F.plainAttrs_list PySem.F.slot_list_append PySem.F.type_list_append mt_append (pe_ix ix_list (pv 0) pe_int (fun _ _ => rfl)) (pa_cons (pe_op op_fdivW (pv 2) (pv 1)) pa_nil)))
        (pss_one (ps_ret (pe_op op_mod (pv 2) (pv 1))))))
        pss_nil)
      (pss_cons (ps_asg (pe_op op_mod (pe_callTy call_int1 (by rfl) T.int (by decide +kernel) (pa_cons (pe_op op_add (pe_op op_mul (pe_ix ix_list (pv 0) pe_int (fun _ _ => rfl)) pe_int) pe_int) pa_nil)) pe_int) (pg_sub (pv 0) pe_int set_list))
      (pss_one (ps_ret (pe_op op_mod (pe_callTy call_int1 (by rfl) T.int (by decide +kernel) (pa_cons (pe_op op_fdiv (pe_ix ix_list (pv 0) pe_int (fun _ _ => rfl)) pe_int) pa_nil)) (pv 1)))))), ?_⟩
    obtain ⟨cs0, b0, hd0, hc0, g0, l0, b1, b2⟩ := D.ex
    refine ⟨fun m σ H1 => ∃ (cs : List Int), σ = [some (.ref d), some (.int n), none] ∧ m = cs.length ∧ H1 d = some (.lst [.ref c, .int b0]) ∧ H1 c = some (.lst (cs.map V.int)) ∧ (∀ x ∈ cs, 0 ≤ x) ∧ cs.length ≤ 63 ∧ But d c H H1,
      ⟨cs0.length, cs0, rfl, rfl, hd0, hc0, g0, l0, But.refl⟩, ?_⟩
    rintro m σ H1 ⟨cs, rfl, rfl, hd, hc, g, l, bu⟩
    have dc : d ≠ c := by
      intro e
      subst e
      rw [hd] at hc
      have z := Option.some.inj hc
      injection z with z
      cases cs with
      | nil => cases z
      | cons x r => cases z
    -- deal[0] != []
    refine ⟨_, rfl, _, _, _, _, rfl, rfl, SqL.of hd, atI_nat (j := 0) rfl, Nat.zero_le _, fun p hp => ?_⟩
    have pd : d ≠ p := ne_of_none hd hp
    have pc : c ≠ p := ne_of_none hc hp
    have hd' : (upd H1 p (.lst [])) d = some (.lst [.ref c, .int b0]) := by rw [upd_ne pd]; exact hd
    have hc' : (upd H1 p (.lst [])) c = some (.lst (cs.map V.int)) := by rw [upd_ne pc]; exact hc
    have bu' : But d c H (upd H1 p (.lst [])) := fun q o hq n1 n2 => by
      have z := bu q o hq n1 n2
      rw [upd_ne (ne_of_none z hp)]
      exact z
    refine ⟨_, _, .lst (SqL.of hc') (dp_ints cs), .lst (SqL.of upd_same) .nil, shaped_ints cs, shaped_ints [], _, rfl, ?_⟩
    rcases List.eq_nil_or_concat cs with e | ⟨cs', x, e⟩
    · subst e
      refine iteF (iteF ?_)
      -- deal[0] != [] again: no
      refine ⟨_, rfl, _, _, _, _, rfl, rfl, SqL.of hd', atI_nat (j := 0) rfl, Nat.zero_le _, fun p2 hp2 => ?_⟩
      have qd : d ≠ p2 := ne_of_none hd' hp2
      have qc : c ≠ p2 := ne_of_none hc' hp2
      have hd2 : (upd (upd H1 p (.lst [])) p2 (.lst [])) d = some (.lst [.ref c, .int b0]) := by rw [upd_ne qd]; exact hd'
      have hc2 : (upd (upd H1 p (.lst [])) p2 (.lst [])) c = some (.lst []) := by rw [upd_ne qc]; exact hc'
      have bu2 : But d c H (upd (upd H1 p (.lst [])) p2 (.lst [])) := fun q o hq n1 n2 => by
        have z := bu' q o hq n1 n2
        rw [upd_ne (ne_of_none z hp2)]
        exact z
      refine ⟨_, _, .lst (SqL.of hc2) .nil, .lst (SqL.of upd_same) .nil, shaped_ints [], shaped_ints [], _, rfl, iteF ?_⟩
      -- deal[1] = int(deal[1] * 48271 + 41) % 2147483647
      generalize upd (upd H1 p (.lst [])) p2 (.lst []) = H3 at hd2 hc2 bu2 ⊢
      refine ⟨_, rfl, _, _, _, _, rfl, rfl, SqL.of hd2, atI_nat (j := 1) rfl, _, _, rfl, rfl, .inr ⟨by decide, by decide⟩, _, _, rfl, rfl, .inl ⟨_, rfl, _, _, rfl, rfl, (by show (0 : Int) < 2147483647; decide), ?_⟩⟩
      refine ⟨_, rfl, _, _, _, 1, rfl, rfl, hd2, rfl, ?_⟩
      refine ⟨_, rfl, _, _, _, _, rfl, rfl, SqL.of upd_same, atI_nat (j := 1) rfl, _, _, rfl, rfl, ⟨by decide, by decide⟩, .inl ⟨_, rfl, _, rfl, _, _, rfl, rfl, n0, ?_⟩⟩
      refine k _ _ (Int.emod_nonneg _ (by omega)) (Int.emod_lt_of_pos _ n0) ⟨[], _, upd_same, by rw [upd_ne (Ne.symm dc)]; exact hc2, by simp, by simp, Int.emod_nonneg _ (by decide), Int.emod_lt_of_pos _ (by decide)⟩ ?_
      intro q o hq n1 n2
      rw [upd_ne n1]
      exact bu2 q o hq n1 n2
    · rw [List.concat_eq_append] at e
      subst e
      have ec : (cs' ++ [x]).map V.int = cs'.map V.int ++ [V.int x] := by simp
      have e1 : PyData.eqv (.list ((cs' ++ [x]).map PyData.int)) (.list []) = false := by
        cases cs' with
        | nil => rfl
        | cons y r => rfl
      have gx : 0 ≤ x := g x (by simp)
      have lx : cs'.length + 1 ≤ 63 := by simpa using l
      rw [e1]
      refine iteT ?_
      -- deal[0][-1] == 0
      refine ⟨_, rfl, _, _, _, _, rfl, rfl, SqL.of hd', atI_nat (j := 0) rfl, _, rfl, _, _, _, _, rfl, rfl, SqL.of hc', last_at, rfl, _, rfl, ?_⟩
      by_cases hx : x = 0
      · subst hx
        refine iteT ?_
        refine ⟨fun σ' H' => σ' = [some (.ref d), some (.int n), none] ∧ H' d = some (.lst [.ref c, .int b0]) ∧ H' c = some (.lst (cs'.map V.int)) ∧ But d c H H', fun σ' H' ⟨e1, e2, e3, e4⟩ => ⟨cs'.length, by simp, cs', e1, rfl, e2, e3, fun y hy => g y (by simp [hy]), by omega, e4⟩, ?_⟩
        refine ⟨_, rfl, _, _, _, _, rfl, rfl, SqL.of hd', atI_nat (j := 0) rfl, .inl ⟨rfl, _, SqL.of hc'⟩, _, _, V.int 0, rfl, rfl, hc', (by rw [ec]; simp), rfl, ?_, ?_, ?_⟩
        · rw [upd_ne dc]
          exact hd'
        · rw [upd_same, ec, List.dropLast_concat]
        · intro q o hq n1 n2
          rw [upd_ne n2]
          exact bu' q o hq n1 n2
      · have dx : decide (V.int x = V.int 0) = false := decide_eq_false fun z => hx (V.int.inj z)
        rw [dx]
        refine iteF ?_
        -- deal[0] != []: yes
        refine ⟨_, rfl, _, _, _, _, rfl, rfl, SqL.of hd', atI_nat (j := 0) rfl, Nat.zero_le _, fun p2 hp2 => ?_⟩
        have qd : d ≠ p2 := ne_of_none hd' hp2
        have qc : c ≠ p2 := ne_of_none hc' hp2
        have hd2 : (upd (upd H1 p (.lst [])) p2 (.lst [])) d = some (.lst [.ref c, .int b0]) := by rw [upd_ne qd]; exact hd'
        have hc2 : (upd (upd H1 p (.lst [])) p2 (.lst [])) c = some (.lst ((cs' ++ [x]).map V.int)) := by rw [upd_ne qc]; exact hc'
        have bu2 : But d c H (upd (upd H1 p (.lst [])) p2 (.lst [])) := fun q o hq n1 n2 => by
          have z := bu' q o hq n1 n2
          rw [upd_ne (ne_of_none z hp2)]
          exact z
        refine ⟨_, _, .lst (SqL.of hc2) (dp_ints _), .lst (SqL.of upd_same) .nil, shaped_ints _, shaped_ints [], _, rfl, ?_⟩
        rw [e1]
        refine iteT ?_
        generalize upd (upd H1 p (.lst [])) p2 (.lst []) = H3 at hd2 hc2 bu2 ⊢
        -- rest = int(deal[0].pop())
        refine ⟨_, rfl, _, _, _, _, rfl, rfl, SqL.of hd2, atI_nat (j := 0) rfl, .inl ⟨rfl, _, SqL.of hc2⟩, _, _, .int x, rfl, rfl, hc2, (by rw [ec]; simp), .inl ⟨_, rfl, ?_⟩⟩
        have hd3 : ∀ o, (upd H3 c o) d = some (.lst [.ref c, .int b0]) := fun o => by rw [upd_ne dc]; exact hd2
        have ed : ((cs' ++ [x]).map V.int).dropLast = cs'.map V.int := by rw [ec, List.dropLast_concat]
        rw [ed]
        -- deal[0].append(rest // bound)
        refine ⟨_, rfl, _, _, _, _, rfl, rfl, SqL.of (hd3 _), atI_nat (j := 0) rfl, .inl ⟨rfl, _, SqL.of upd_same⟩, _, rfl, _, rfl, _, _, rfl, rfl, wide_div n0 (b := 31) (by omega) (by decide) (by decide), _, _, _, rfl, rfl, upd_same, small1000 (by simp; omega), ?_⟩
        refine ⟨_, rfl, _, rfl, _, _, rfl, rfl, n0, ?_⟩
        rw [upd_upd]
        refine k _ _ (Int.emod_nonneg _ (by omega)) (Int.emod_lt_of_pos _ n0) ⟨cs' ++ [x / n], b0, by rw [upd_ne dc]; exact hd2, by rw [upd_same]; simp, ?_, by simp; omega, b1, b2⟩ ?_
        · intro y hy
          rcases List.mem_append.mp hy with hy | hy
          · exact g y (by simp [hy])
          · rw [List.mem_singleton] at hy
            subst hy
            exact Int.ediv_nonneg gx (by omega)
        · intro q o hq n1 n2
          rw [upd_ne n2]
          exact bu2 q o hq n1 n2
end
end K1

namespace K1
open PySem L2
/-- _law_of(deal, some), some a list at a | a text -/
def spOf : Sp := fun vs H Q _ => ∃ (d c : Addr), DealAt H d c ∧
  ((∃ (a : Addr) (xs : List V), vs = [.ref d, .ref a] ∧ H a = some (.lst xs) ∧ a ≠ d ∧ a ≠ c ∧ 0 < xs.length ∧ xs.length < 1000000 ∧
      ∀ (v : V) (H' : Hp), v ∈ xs → DealAt H' d c → But d c H H' → Q v H') ∨
    (∃ z : Str, vs = [.ref d, .str z] ∧ 0 < z.length ∧ z.length < 1000000 ∧ ∀ (ch : Nat) (H' : Hp), ch ∈ z.cps.toList → DealAt H' d c → But d c H H' → Q (.str ⟨#[ch]⟩) H'))
theorem scOf : FnScope ["deal", "some"] ["deal", "some"] (defScope sOf) := ⟨rfl, rfl, rfl, by decide +kernel, rfl, by decide +kernel, by decide +kernel⟩
structure OfTxt (K : PySem.W.Frag) (mg : Str → Option Value) (fAny : Addr) : Prop where
  len : mg "len" = none
  any : mg "_law_any" = some (.ref fAny)
  kAny : PySem.W.keepIn K (.ref fAny) = true
section
variable {P : Program} {w : World} {K : PySem.W.Frag} {mg : Str → Option Value} {base : Heap}
theorem ok_of {f fA : Addr} {fd fdA : FuncData} (F : Fun K "_law_of" "_law_of" sOf f fd) (T : OfTxt K mg fA) (G : FnOk P w K mg base CX0 1 fA fdA ["deal", "bound"] spAny) (bA : Binds K fdA ["deal", "bound"] []) :
    FnOk P w K mg base CX0 2 f fd ["deal", "some"] spOf := by
  refine F.ok scOf (fun vs H Q E h => ?_) (fun cdv A outer s H vs Q E hr h => ?_)
  · obtain ⟨d, c, _, ⟨a, xs, rfl, _⟩ | ⟨z, rfl, _⟩⟩ := h <;> rfl
  · obtain ⟨d, c, D, h⟩ := h
    rcases h with ⟨a, xs, rfl, ha, nd, nc, l0, l1, k⟩ | ⟨z, rfl, l0, l1, k⟩
    · refine ⟨_, pss_one (ps_ret (pe_ix ix_list (pv 1) (pe_call G hr rfl T.any T.kAny bA .nil pass0 (pa_cons (pv 0) (pa_cons (pe_callB call_len_seq (by rfl) T.len PySem.boot_len (pa_cons (pv 1) pa_nil)) pa_nil))) (fun _ _ => rfl))), ?_⟩
      refine ⟨_, rfl, _, rfl, _, rfl, _, _, rfl, .inl (SqL.of ha), d, c, _, rfl, D, by omega, by omega, fun r H' r0 r1 D' bu => ?_⟩
      have ha' := bu a _ ha nd nc
      obtain ⟨j, rfl⟩ := Int.eq_ofNat_of_zero_le r0
      have hj : j < xs.length := by omega
      refine ⟨_, _, _, xs[j], rfl, rfl, SqL.of ha', atI_nat (by simp [hj]), k _ _ (List.getElem_mem hj) D' bu⟩
    · refine ⟨_, pss_one (ps_ret (pe_ix ix_str (pv 1) (pe_call G hr rfl T.any T.kAny bA .nil pass0 (pa_cons (pv 0) (pa_cons (pe_callB call_len_str (by rfl) T.len PySem.boot_len (pa_cons (pv 1) pa_nil)) pa_nil))) (fun _ _ => rfl))), ?_⟩
      refine ⟨_, rfl, _, rfl, _, rfl, _, rfl, (by show z.length ≤ sizeLine; rw [sizeLine_eq]; omega), d, c, _, rfl, D, by omega, by omega, fun r H' r0 r1 D' bu => ?_⟩
      obtain ⟨j, rfl⟩ := Int.eq_ofNat_of_zero_le r0
      have hz : z.length = z.cps.toList.length := by
        show z.cps.size = _
        simp
      have hj : j < z.cps.toList.length := by omega
      refine ⟨_, _, z.cps.toList[j], rfl, rfl, (by show z.length ≤ sizeLine; rw [sizeLine_eq]; omega), atI_nat (by rw [List.getElem?_eq_getElem hj]), k _ _ (List.getElem_mem hj) D' bu⟩
end
end K1

namespace K1
open PySem L2
def spSource (K : PySem.W.Frag) : Sp := fun vs H Q _ => ∃ (a : Addr) (ns : List Int), vs = [.ref a] ∧ SqL K H a (ns.map V.int) ∧ ns.length ≤ 63 ∧
  ∀ (d c : Addr) (H' : Hp), DealAt H' d c → Same H H' → H d = none → H c = none → Q (.ref d) H'
theorem scSource : FnScope ["script", "cells", "blend", "cell"] ["script"] (defScope sSource) := ⟨rfl, rfl, rfl, by decide +kernel, rfl, by decide +kernel, by decide +kernel⟩
structure SourceTxt (K : PySem.W.Frag) (mg : Str → Option Value) : Prop where
  int : mg "int" = none
  abs : mg "abs" = none
def absI (i : Int) : Int := if i < 0 then -i else i
theorem absI_nn (i : Int) : 0 ≤ absI i := by unfold absI; split <;> omega
theorem take_more {α : Type} : ∀ {l : List α} {i : Nat} {x : α}, l[i]? = some x → l.take (i + 1) = l.take i ++ [x]
  | [], i, x, h => by simp at h
  | a :: l, 0, x, h => by
    have e : a = x := Option.some.inj h
    subst e
    rfl
  | a :: l, i + 1, x, h => by
    have ih := take_more (l := l) (i := i) (x := x) h
    show a :: l.take (i + 1) = a :: l.take i ++ [x]
    rw [ih]
    rfl
theorem cut_ints (ns : List Int) (lo hi : Option Int) : ∃ ms : List Int, cutV (ns.map V.int) lo hi = ms.map V.int ∧ ms.length ≤ ns.length := by
  refine ⟨(ns.drop (HT.sIx (ns.map V.int).length 0 lo)).take (HT.sIx (ns.map V.int).length (ns.map V.int).length hi - HT.sIx (ns.map V.int).length 0 lo), ?_, ?_⟩
  · unfold cutV
    simp [List.map_take, List.map_drop]
  · rw [List.length_take, List.length_drop]
    omega
theorem map_at {l : List Int} {i : Nat} {x : V} (h : (l.map V.int)[i]? = some x) : ∃ z, l[i]? = some z ∧ x = V.int z := by
  rw [List.getElem?_map] at h
  cases e : l[i]? with
  | none =>
    rw [e] at h
    cases h
  | some z =>
    rw [e] at h
    exact ⟨z, rfl, (Option.some.inj h).symm⟩
section
variable {P : Program} {w : World} {K : PySem.W.Frag} {mg : Str → Option Value} {base : Heap}
theorem ok_source {f : Addr} {fd : FuncData} (F : Fun K "_law_source" "_law_source" sSource f fd) (T : SourceTxt K mg) : FnOk P w K mg base CX0 1 f fd ["script"] (spSource K) := by
  refine F.ok scSource (fun vs H Q E h => ?_) (fun cdv A outer s H vs Q E hr h => ?_)
  · obtain ⟨a, ns, rfl, _⟩ := h
    rfl
  · obtain ⟨a, ns, rfl, hS, l, k⟩ := h
    refine ⟨_, pss_cons (ps_setLc (i := 1) (own := [("cell", 3)]) (g := gName 3) (tt := tYes) (by rfl) scSource.nd rfl rfl (sw_true rfl rfl rfl (by decide +kernel)) (pi_list (pe_slice sl_list (pv 0) po_none (po_some pe_int)))
        (blkOk_by (own := [("cell", 3)]) (N := ["script", "cells", "blend", "cell"]) (sc := defScope sSource) (by decide +kernel)) (fun _ _ _ _ _ => pg_name (i := 3) scSource.nd rfl (Or.inl rfl)) (fun _ _ _ _ _ => pts_nil)
        (fun _ _ _ _ _ => pe_callB call_abs (by rfl) T.abs (by decide +kernel) (pa_cons (pe_callTy call_int1 (by rfl) T.int (by decide +kernel) (pa_cons (pv 3) pa_nil)) pa_nil)))
      (pss_cons (ps_set (i := 2) scSource.nd rfl (Or.inl rfl) pe_int)
      (pss_cons (ps_for PassesOwn.never rfl (pi_list (pv 1)) (pg_name (i := 3) scSource.nd rfl (Or.inl rfl))
        (pss_one (ps_set (i := 2) scSource.nd rfl (Or.inl rfl) (pe_op op_mod (pe_callTy call_int1 (by rfl) T.int (by decide +kernel) (pa_cons (pe_op op_add (pe_op op_add (pe_op op_mul (pv 2) pe_int) (pe_op op_mod (pv 3) pe_int)) pe_int) pa_nil)) pe_int))))
      (pss_one (ps_ret (pe_lst (pa_cons (pe_revL (pe_lc (own := [("cell", 3)]) (g := gName 3) (by rfl) scSource.nd (pi_list (pv 1))
          (blkOk_by (own := [("cell", 3)]) (N := ["script", "cells", "blend", "cell"]) (sc := defScope sSource) (by decide +kernel)) (fun _ _ _ _ _ => pg_name (i := 3) scSource.nd rfl (Or.inl rfl))
          (fun _ _ _ _ _ => pts_one (pt_cmpR op_ge (pv 3) (pe_op op_pow pe_int pe_int) (nomark _))) (fun _ _ _ _ _ => pv 3))) (pa_cons (pv 2) pa_nil))))))), ?_⟩
    obtain ⟨ms, em, lm⟩ := cut_ints ns none (some 63)
    refine ⟨_, rfl, 63, rfl, _, _, rfl, hS, fun p hp => ⟨p, rfl, ⟨_, SqL.of upd_same⟩, fun D hD => ?_⟩⟩
    have pD : p ≠ D := ne_of_none upd_same hD
    have hD0 : H D = none := by
      have z := hD
      rw [upd_ne (Ne.symm pD)] at z
      exact z
    rw [em] at hD ⊢
    refine lc_list (K := K) (a := p) (xs := ms.map V.int) (fun i H1 => Same H H1 ∧ H1 p = some (.lst (ms.map V.int)) ∧ H1 D = some (.lst (((ms.take i).map absI).map V.int))) ⟨?_, ?_, upd_same⟩ (fun i H1 _ q => SqL.of q.2.1) ?_ ?_
    · intro q o hq
      rw [upd_ne (ne_of_none hq hD0), upd_ne (ne_of_none hq hp)]
      exact hq
    · rw [upd_ne pD, upd_same]
    · rintro i x H1 hx ⟨q1, q2, q3⟩
      obtain ⟨z, hz, rfl⟩ := map_at hx
      have li : i < ms.length := (List.getElem?_eq_some_iff.mp hz).1
      refine ⟨rfl, ?_⟩
      refine ⟨_, rfl, .inl ⟨_, rfl, _, rfl, _, q3, small1000 (by simp; omega), ?_, ?_, ?_⟩⟩
      · intro q o hq
        rw [upd_ne (ne_of_none hq hD0)]
        exact q1 q o hq
      · rw [upd_ne pD]
        exact q2
      · rw [upd_same, take_more hz]
        simp [absI]
    · rintro H1 ⟨q1, q2, q3⟩
      rw [List.length_map, List.take_length] at q3
      have gc : ∀ x ∈ ms.map absI, 0 ≤ x := fun x hx => by
        obtain ⟨y, _, rfl⟩ := List.mem_map.mp hx
        exact absI_nn y
      have lc : (ms.map absI).length ≤ 63 := by rw [List.length_map]; omega
      generalize ms.map absI = cs at q3 gc lc
      -- the blend
      refine ⟨_, rfl, D, rfl, ⟨_, SqL.of q3⟩, for_list (K := K) (a := D) (xs := cs.map V.int) (fun i σ H2 => ∃ (b : Int) (v : Option V), σ = [some (.ref a), some (.ref D), some (.int b), v] ∧ H2 = H1 ∧ 0 ≤ b ∧ b < 2147483647)
        ⟨1407023, none, rfl, rfl, by decide, by decide⟩ (fun i σ H2 _ ⟨_, _, _, e, _⟩ => by rw [e]; exact SqL.of q3) ?_ ?_⟩
      · rintro i x σ H2 hx ⟨b, v, rfl, rfl, b0, b1⟩
        obtain ⟨z, hz, rfl⟩ := map_at hx
        refine ⟨_, rfl, _, _, rfl, rfl, .inr ⟨by decide, by decide⟩, _, rfl, _, _, rfl, rfl, (by show (0 : Int) < 2147483549; decide), _, _, rfl, rfl, _, _, rfl, rfl, .inl ⟨_, rfl, _, _, rfl, rfl, (by show (0 : Int) < 2147483647; decide), ?_⟩⟩
        exact ⟨_, _, rfl, rfl, Int.emod_nonneg _ (by decide), Int.emod_lt_of_pos _ (by decide)⟩
      · rintro σ H2 ⟨b, v, rfl, rfl, b0, b1⟩
        refine ⟨_, rfl, D, rfl, ⟨_, SqL.of q3⟩, fun D2 hD2 => ?_⟩
        have n2 : D ≠ D2 := ne_of_none q3 hD2
        refine lc_list (K := K) (a := D) (xs := cs.map V.int) (fun i H3 => ∃ fs : List Int, Same H2 H3 ∧ H3 D2 = some (.lst (fs.map V.int)) ∧ (∀ x ∈ fs, 0 ≤ x) ∧ fs.length ≤ i) ⟨[], fun q o hq => by rw [upd_ne (ne_of_none hq hD2)]; exact hq, upd_same, by simp, by simp⟩
          (fun i H3 _ ⟨_, s3, _⟩ => SqL.of (s3 _ _ q3)) ?_ ?_
        · rintro i x H3 hx ⟨fs, s3, f3, g3, l3⟩
          obtain ⟨z, hz, rfl⟩ := map_at hx
          have li : i < cs.length := (List.getElem?_eq_some_iff.mp hz).1
          refine ⟨rfl, _, rfl, _, _, rfl, rfl, ⟨by decide, by decide, by decide⟩, _, _, rfl, rfl, _, rfl, ?_⟩
          refine ite2 (fun _ => ?_) (fun _ => ?_)
          · refine ⟨_, rfl, _, f3, small1000 (by simp; omega), fs ++ [z], ?_, ?_, ?_, ?_⟩
            · intro q o hq
              rw [upd_ne (ne_of_none hq hD2)]
              exact s3 q o hq
            · rw [upd_same]
              simp
            · intro y hy
              rcases List.mem_append.mp hy with hy | hy
              · exact g3 y hy
              · rw [List.mem_singleton] at hy
                subst hy
                exact gc _ (List.mem_of_getElem? hz)
            · simp
              omega
          · exact ⟨fs, s3, f3, g3, by omega⟩
        · rintro H3 ⟨fs, s3, f3, g3, l3⟩
          rw [List.length_map] at l3
          refine ⟨D2, _, rfl, SqL.of f3, fun r hr => ⟨_, rfl, (by show 2 ≤ sizeLine; decide), fun t ht => ?_⟩⟩
          have nt : r ≠ t := ne_of_none upd_same ht
          have s4 : Same H (upd (upd H3 r (.lst (fs.map V.int).reverse)) t (.lst [.ref r, .int b])) := fun q o hq => by
            have z := s3 _ _ (q1 q o hq)
            have zr := ne_of_none z hr
            rw [upd_ne (ne_of_none (by rw [upd_ne zr]; exact z) ht), upd_ne zr]
            exact z
          refine k t r _ ⟨fs.reverse, b, upd_same, ?_, ?_, ?_, b0, b1⟩ s4 ?_ ?_
          · rw [upd_ne nt, upd_same, List.map_reverse]
          · intro x hx
            exact g3 x (List.mem_reverse.mp hx)
          · rw [List.length_reverse]
            omega
          · have ht3 : H3 t = none := by
              have z := ht
              rw [upd_ne (Ne.symm nt)] at z
              exact z
            exact (q1.trans s3).free ht3
          · exact (q1.trans s3).free hr
end
end K1

/-! data whose objects stand still: all but the cells N that may change -/
namespace K1
open PySem L2
/-- tracked -/
def Trk (H : Hp) : Addr → Prop := fun a => ∃ o, H a = some o
/-- what is no cell of N stays -/
def Bt (N : Addr → Prop) (H H' : Hp) : Prop := ∀ a o, ¬ N a → H a = some o → H' a = some o
theorem Bt.refl {N : Addr → Prop} {H : Hp} : Bt N H H := fun _ _ _ h => h
theorem Bt.trans {N : Addr → Prop} {H H1 H2 : Hp} (a : Bt N H H1) (b : Bt N H1 H2) : Bt N H H2 := fun q o n h => b q o n (a q o n h)
theorem Bt.mono {N N' : Addr → Prop} {H H' : Hp} (b : Bt N' H H') (h : ∀ a, N' a → N a) : Bt N H H' := fun q o n e => b q o (fun z => n (h _ z)) e
theorem Bt.same {N : Addr → Prop} {H H' : Hp} (s : Same H H') : Bt N H H' := fun q o _ h => s q o h
theorem Bt.new {N : Addr → Prop} {H H1 : Hp} {l : Addr} {o : HO} (b : Bt N H H1) (hl : H1 l = none) : Bt N H (upd H1 l o) := fun q u n e => by
  have z := b q u n e
  rw [upd_ne (ne_of_none z hl)]
  exact z
theorem Bt.cell {N : Addr → Prop} {H H1 : Hp} {l : Addr} {o : HO} (b : Bt N H H1) (hl : N l) : Bt N H (upd H1 l o) := fun q u n e => by
  have z := b q u n e
  have ne : q ≠ l := fun h => n (by rw [h]; exact hl)
  rw [upd_ne ne]
  exact z
theorem _root_.L2.Same.new {H H1 : Hp} {l : Addr} {o : HO} (b : Same H H1) (hl : H1 l = none) : Same H (upd H1 l o) := fun q u e => by
  have z := b q u e
  rw [upd_ne (ne_of_none z hl)]
  exact z
theorem _root_.L2.Same.cell {H H1 : Hp} {l : Addr} {o : HO} (b : Same H H1) (hl : H l = none) : Same H (upd H1 l o) := fun q u e => by
  have z := b q u e
  rw [upd_ne (ne_of_none e hl)]
  exact z
theorem Trk.same {H H' : Hp} (s : Same H H') {a : Addr} (h : Trk H a) : Trk H' a := by
  obtain ⟨o, e⟩ := h
  exact ⟨o, s a o e⟩
/-- a tuple of the text's own -/
def KTup (K : PySem.W.Frag) (a : Addr) (xs : List V) : Prop := ∃ (o : Obj) (its : Array Value) (n : Nat), K.lookup a = some o ∧ o.cls = .type "tuple" ∧ o.data = .seq its n ∧ its.size ≤ sizeLine ∧ Vals xs its.toList
theorem KTup.sq {K : PySem.W.Frag} {H : Hp} {a : Addr} {xs : List V} (h : KTup K a xs) : SqT K H a xs := .inr h
mutual
inductive Dm (K : PySem.W.Frag) (N : Addr → Prop) (H : Hp) : V → PyData → Prop
  | non : Dm K N H .non .none
  | bl (b : Bool) : Dm K N H (.bl b) (.bool b)
  | int (i : Int) : Dm K N H (.int i) (.int i)
  | str (x : Str) : Dm K N H (.str x) (.str x)
  | lst {a : Addr} {xs : List V} {ds : List PyData} : H a = some (.lst xs) → ¬ N a → DmAll K N H xs ds → Dm K N H (.ref a) (.list ds)
  | tup {a : Addr} {xs : List V} {ds : List PyData} : H a = some (.tup xs) → ¬ N a → DmAll K N H xs ds → Dm K N H (.ref a) (.tuple ds)
  | con {a : Addr} {xs : List V} {ds : List PyData} : KTup K a xs → DmAll K N H xs ds → Dm K N H (.ref a) (.tuple ds)
inductive DmAll (K : PySem.W.Frag) (N : Addr → Prop) (H : Hp) : List V → List PyData → Prop
  | nil : DmAll K N H [] []
  | cons {v : V} {vs : List V} {d : PyData} {ds : List PyData} : Dm K N H v d → DmAll K N H vs ds → DmAll K N H (v :: vs) (d :: ds)
end
section
variable {K : PySem.W.Frag}
mutual
theorem Dm.mono {N N' : Addr → Prop} {H H' : Hp} (hn : ∀ a, Trk H a → N' a → N a) (hh : Bt N H H') : ∀ (d : PyData) (v : V), Dm K N H v d → Dm K N' H' v d
  | .none, _, h => by
    cases h
    exact .non
  | .bool b, _, h => by
    cases h
    exact .bl b
  | .int i, _, h => by
    cases h
    exact .int i
  | .str x, _, h => by
    cases h
    exact .str x
  | .list ds, _, h => by
    cases h with
    | lst e n a => exact .lst (hh _ _ n e) (fun z => n (hn _ ⟨_, e⟩ z)) (DmAll.mono hn hh ds _ a)
  | .tuple ds, _, h => by
    cases h with
    | tup e n a => exact .tup (hh _ _ n e) (fun z => n (hn _ ⟨_, e⟩ z)) (DmAll.mono hn hh ds _ a)
    | con e a => exact .con e (DmAll.mono hn hh ds _ a)
  | .dict _, _, h => by cases h
theorem DmAll.mono {N N' : Addr → Prop} {H H' : Hp} (hn : ∀ a, Trk H a → N' a → N a) (hh : Bt N H H') : ∀ (ds : List PyData) (vs : List V), DmAll K N H vs ds → DmAll K N' H' vs ds
  | [], _, h => by
    cases h
    exact .nil
  | d :: ds, _, h => by
    cases h with
    | cons a b => exact .cons (Dm.mono hn hh d _ a) (DmAll.mono hn hh ds _ b)
end
mutual
theorem Dm.dp {N : Addr → Prop} {H : Hp} : ∀ (d : PyData) (v : V), Dm K N H v d → Dp K H v d
  | .none, _, h => by
    cases h
    exact .non
  | .bool b, _, h => by
    cases h
    exact .bl b
  | .int i, _, h => by
    cases h
    exact .int i
  | .str x, _, h => by
    cases h
    exact .str x
  | .list ds, _, h => by
    cases h with
    | lst e n a => exact .lst (SqL.of e) (DmAll.dp ds _ a)
  | .tuple ds, _, h => by
    cases h with
    | tup e n a => exact .tup (SqT.of e) (DmAll.dp ds _ a)
    | con e a => exact .tup e.sq (DmAll.dp ds _ a)
  | .dict _, _, h => by cases h
theorem DmAll.dp {N : Addr → Prop} {H : Hp} : ∀ (ds : List PyData) (vs : List V), DmAll K N H vs ds → DpAll K H vs ds
  | [], _, h => by
    cases h
    exact .nil
  | d :: ds, _, h => by
    cases h with
    | cons a b => exact .cons (Dm.dp d _ a) (DmAll.dp ds _ b)
end
variable {N : Addr → Prop} {H : Hp}
theorem Dm.up {d : PyData} {v : V} {H' : Hp} (h : Dm K N H v d) (b : Bt N H H') : Dm K N H' v d := Dm.mono (fun _ _ z => z) b _ _ h
theorem DmAll.up {ds : List PyData} {vs : List V} {H' : Hp} (h : DmAll K N H vs ds) (b : Bt N H H') : DmAll K N H' vs ds := DmAll.mono (fun _ _ z => z) b _ _ h
theorem DmAll.app : ∀ {vs ws : List V} {ds es : List PyData}, DmAll K N H vs ds → DmAll K N H ws es → DmAll K N H (vs ++ ws) (ds ++ es)
  | _, _, _, _, .nil, h => h
  | _, _, _, _, .cons a b, h => .cons a (DmAll.app b h)
theorem DmAll.snoc {vs : List V} {ds : List PyData} {w : V} {e : PyData} (h : DmAll K N H vs ds) (x : Dm K N H w e) : DmAll K N H (vs ++ [w]) (ds ++ [e]) := h.app (.cons x .nil)
theorem DmAll.len : ∀ {vs : List V} {ds : List PyData}, DmAll K N H vs ds → vs.length = ds.length
  | _, _, .nil => rfl
  | _, _, .cons _ b => by rw [List.length_cons, List.length_cons, DmAll.len b]
theorem DmAll.get : ∀ {vs : List V} {ds : List PyData} {i : Nat} {d : PyData}, DmAll K N H vs ds → ds[i]? = some d → ∃ v, vs[i]? = some v ∧ Dm K N H v d
  | _, _, i, d, .nil, h => by simp at h
  | _, _, 0, d, .cons a b, h => by
    have e := Option.some.inj h
    subst e
    exact ⟨_, rfl, a⟩
  | _, _, i + 1, d, .cons a b, h => DmAll.get (i := i) b h
theorem DmAll.getV : ∀ {vs : List V} {ds : List PyData} {i : Nat} {v : V}, DmAll K N H vs ds → vs[i]? = some v → ∃ d, ds[i]? = some d ∧ Dm K N H v d
  | _, _, i, d, .nil, h => by simp at h
  | _, _, 0, d, .cons a b, h => by
    have e := Option.some.inj h
    subst e
    exact ⟨_, rfl, a⟩
  | _, _, i + 1, d, .cons a b, h => DmAll.getV (i := i) b h
theorem DmAll.take : ∀ {vs : List V} {ds : List PyData} (i : Nat), DmAll K N H vs ds → DmAll K N H (vs.take i) (ds.take i)
  | _, _, _, .nil => by simp; exact .nil
  | _, _, 0, .cons a b => .nil
  | _, _, i + 1, .cons a b => .cons a (DmAll.take i b)
theorem DmAll.drop : ∀ {vs : List V} {ds : List PyData} (i : Nat), DmAll K N H vs ds → DmAll K N H (vs.drop i) (ds.drop i)
  | _, _, _, .nil => by simp; exact .nil
  | _, _, 0, .cons a b => .cons a b
  | _, _, i + 1, .cons a b => DmAll.drop i b
theorem DmAll.rev : ∀ {vs : List V} {ds : List PyData}, DmAll K N H vs ds → DmAll K N H vs.reverse ds.reverse
  | _, _, .nil => .nil
  | _, _, .cons a b => by
    rw [List.reverse_cons, List.reverse_cons]
    exact (DmAll.rev b).snoc a
/-- the tuple behind data that is one -/
theorem Dm.seqT {v : V} {ds : List PyData} (h : Dm K N H v (.tuple ds)) : ∃ a xs, v = .ref a ∧ SqT K H a xs ∧ DmAll K N H xs ds := by
  cases h with
  | tup e n a => exact ⟨_, _, rfl, SqT.of e, a⟩
  | con e a => exact ⟨_, _, rfl, e.sq, a⟩
/-- a tuple that stands -/
def Tp (K : PySem.W.Frag) (N : Addr → Prop) (H : Hp) (a : Addr) (xs : List V) : Prop := (H a = some (.tup xs) ∧ ¬ N a) ∨ KTup K a xs
theorem Tp.sq {a : Addr} {xs : List V} (h : Tp K N H a xs) : SqT K H a xs := h.elim (fun z => SqT.of z.1) fun z => z.sq
theorem Tp.up {H' : Hp} {a : Addr} {xs : List V} (h : Tp K N H a xs) (b : Bt N H H') : Tp K N H' a xs := h.elim (fun z => .inl ⟨b _ _ z.2 z.1, z.2⟩) .inr
theorem Tp.ty {a : Addr} {xs : List V} (h : Tp K N H a xs) : TyX K H (.ref a) (.type "tuple") := h.elim (fun z => .base (.tup z.1)) fun ⟨_, _, _, h1, h2, _⟩ => .kTuple h1 h2
theorem Dm.seq {v : V} {ds : List PyData} (h : Dm K N H v (.tuple ds)) : ∃ a xs, v = .ref a ∧ Tp K N H a xs ∧ DmAll K N H xs ds := by
  cases h with
  | tup e n a => exact ⟨_, _, rfl, .inl ⟨e, n⟩, a⟩
  | con e a => exact ⟨_, _, rfl, .inr e, a⟩
/-- a pair of a text and another thing -/
theorem Dm.pair {v : V} {x : Str} {d : PyData} (h : Dm K N H v (.tuple [.str x, d])) : ∃ a y, v = .ref a ∧ Tp K N H a [.str x, y] ∧ Dm K N H y d := by
  obtain ⟨a, xs, e, t, al⟩ := h.seq
  cases al with
  | cons h1 r =>
    cases r with
    | cons h2 r =>
      cases r
      cases h1
      exact ⟨a, _, e, t, h2⟩
theorem Dm.strV {v : V} {z : Str} (h : Dm K N H v (.str z)) : v = .str z := by
  cases h
  rfl
/-- the name of the type -/
def tyN : PyData → String
  | .none => "NoneType"
  | .bool _ => "bool"
  | .int _ => "int"
  | .str _ => "str"
  | .list _ => "list"
  | .tuple _ => "tuple"
  | .dict _ => "dict"
theorem Dm.ty {v : V} {d : PyData} (h : Dm K N H v d) : TyX K H v (.type (tyN d)) := by
  cases h with
  | non => exact .base .non
  | bl b => exact .base (.bl b)
  | int i => exact .base (.int i)
  | str x => exact .base (.str x)
  | lst e n a => exact .base (.lst e)
  | tup e n a => exact .base (.tup e)
  | con e a =>
    obtain ⟨o, its, n, h1, h2, _⟩ := e
    exact .kTuple h1 h2
def isTup : PyData → Bool
  | .tuple _ => true
  | _ => false
def isStr : PyData → Bool
  | .str _ => true
  | _ => false
theorem kit_tup (d : PyData) : PySem.W.kitOne K (.type (tyN d)) (.type "tuple") = some (isTup d) := by
  cases d
  · exact kit_ty (a := "NoneType") (b := "tuple") (r := false) (by decide +kernel)
  · exact kit_ty (a := "bool") (b := "tuple") (r := false) (by decide +kernel)
  · exact kit_ty (a := "int") (b := "tuple") (r := false) (by decide +kernel)
  · exact kit_ty (a := "str") (b := "tuple") (r := false) (by decide +kernel)
  · exact kit_ty (a := "list") (b := "tuple") (r := false) (by decide +kernel)
  · exact kit_ty (a := "tuple") (b := "tuple") (r := true) (by decide +kernel)
  · exact kit_ty (a := "dict") (b := "tuple") (r := false) (by decide +kernel)
theorem kit_str (d : PyData) : PySem.W.kitOne K (.type (tyN d)) (.type "str") = some (isStr d) := by
  cases d
  · exact kit_ty (a := "NoneType") (b := "str") (r := false) (by decide +kernel)
  · exact kit_ty (a := "bool") (b := "str") (r := false) (by decide +kernel)
  · exact kit_ty (a := "int") (b := "str") (r := false) (by decide +kernel)
  · exact kit_ty (a := "str") (b := "str") (r := true) (by decide +kernel)
  · exact kit_ty (a := "list") (b := "str") (r := false) (by decide +kernel)
  · exact kit_ty (a := "tuple") (b := "str") (r := false) (by decide +kernel)
  · exact kit_ty (a := "dict") (b := "str") (r := false) (by decide +kernel)
theorem Dm.tupV {v : V} {d : PyData} (h : Dm K N H v d) (e : isTup d = true) : ∃ ds, d = .tuple ds := by
  cases d <;> first | exact ⟨_, rfl⟩ | cases e
end
/-! documents -/
inductive Doc where
  | txt (z : Str)
  | nod (x : Str) (ts : List Doc)
def mOpen (x : Str) : PyData := .tuple [.str "open", .str x]
def mText (z : Str) : PyData := .tuple [.str "text", .str z]
def mClose : PyData := .tuple [.str "close"]
mutual
def Doc.dat : Doc → PyData
  | .txt z => .str z
  | .nod x ts => .tuple [.str x, .tuple (datAll ts)]
def datAll : List Doc → List PyData
  | [] => []
  | t :: ts => t.dat :: datAll ts
end
mutual
def Doc.marks : Doc → List PyData
  | .txt z => [mText z]
  | .nod x ts => mOpen x :: (marksAll ts ++ [mClose])
def marksAll : List Doc → List PyData
  | [] => []
  | t :: ts => t.marks ++ marksAll ts
end
theorem datAll_map : ∀ ts : List Doc, datAll ts = ts.map Doc.dat
  | [] => rfl
  | t :: ts => by
    unfold datAll
    rw [datAll_map ts]
    rfl
theorem datAll_length (ts : List Doc) : (datAll ts).length = ts.length := by rw [datAll_map, List.length_map]
theorem marks_pos (t : Doc) : 0 < t.marks.length := by
  cases t <;> unfold Doc.marks <;> simp
theorem marksAll_app : ∀ ts us : List Doc, marksAll (ts ++ us) = marksAll ts ++ marksAll us
  | [], us => rfl
  | t :: ts, us => by
    show t.marks ++ marksAll (ts ++ us) = (t.marks ++ marksAll ts) ++ marksAll us
    rw [marksAll_app ts us, List.append_assoc]
theorem marksAll_len : ∀ ts : List Doc, ts.length ≤ (marksAll ts).length
  | [] => Nat.le_refl _
  | t :: ts => by
    show ts.length + 1 ≤ (t.marks ++ marksAll ts).length
    have h1 := marks_pos t
    have h2 := marksAll_len ts
    rw [List.length_append]
    omega
end K1

/-! enumerate(t), t a tuple -/
namespace Xr
open PySem PySem.Spec PyProof.Rows L2 HT
theorem meets_enum_one {v : Value} {o : Obj} {H : Heap → Prop} (B : Begins v o H) :
    Meets (Builtin.«enumerate.__new__» ⟨[.type "enumerate", v], []⟩) (fun _ R s => H s.heap ∧
      R (.ok (.ret (.ref (s.heap.push o).objs.size))) { s with heap := (s.heap.push o).push { cls := .type "enumerate", data := .fields #[.none, .bool false, .ref s.heap.objs.size, rawInt 0, .none, .none] } }) :=
  .of_wp fun prog w A R s h => by
    obtain ⟨hp, g, d, tk, os⟩ := s
    obtain ⟨h1, h⟩ := h
    have hsub := sub_enumerate
    have q1 : ∀ {A' : Around} {E : Value → Shared → Prop} {Q : Value → Shared → Prop}, Q (.ref hp.objs.size) ⟨hp.push o, g, d, tk, os⟩ → wpAny (model prog w) A' (pyIter v) Q E ⟨hp, g, d, tk, os⟩ :=
      fun q => B.iter prog w _ _ ⟨hp, g, d, tk, os⟩ _ h1 q
    wp_walk using q1
    refine wpAny_stack_any fun st => wpAny_pure ?_
    split
    · rename_i c _ _ _ _ _
      cases (c == Value.type "enumerate") <;> (wp_walk using q1; exact ⟨_, rfl, h⟩)
    · wp_walk using q1
      exact ⟨_, rfl, h⟩
section
variable {prog : Program} {w : World} {A : Around} {E : Value → Shared → Prop} {s : Shared}
theorem call_enum_one {v : Value} {o : Obj} {H : Heap → Prop} {Q : Value → Shared → Prop} (B : Begins v o H) (h1 : H s.heap)
    (h : ∀ h', IsEnum h' (s.heap.objs.size + 1) s.heap.objs.size 0 .none → h'.get? s.heap.objs.size = some o → h'.objs.size = s.heap.objs.size + 2 →
      (∀ b o, s.heap.get? b = some o → h'.get? b = some o) → Q (.ref (s.heap.objs.size + 1)) { s with heap := h' }) :
    wpAny (model prog w) A (call (.type "enumerate") [v]) Q E s := by
  refine callType_new F.called_enumerate (by decide) (F.typeCall_enumerate_1 _) (F.newCall_enumerate_1 _) (fun obj => F.args_object_init_2 obj _) F.entry_enumerate_new (meets_enum_one B) ⟨h1, ?_⟩
  have hz : (s.heap.push o).objs.size = s.heap.objs.size + 1 := Heap.size_push ..
  show _ ∧ _
  rw [hz]
  have he : IsEnum ((s.heap.push o).push { cls := .type "enumerate", data := .fields #[.none, .bool false, .ref s.heap.objs.size, rawInt 0, .none, .none] }) (s.heap.objs.size + 1) s.heap.objs.size 0 .none := by
    have := Heap.get?_push_size (s.heap.push o) (o := { cls := .type "enumerate", data := .fields #[.none, .bool false, .ref s.heap.objs.size, rawInt 0, .none, .none] }) rfl
    rw [hz] at this
    exact this
  exact ⟨⟨_, he, rfl⟩, h _ he (Heap.get?_push_of_some _ (Heap.get?_push_size _ B.free)) (by rw [Heap.size_push, hz]) fun b o x => Heap.get?_push_of_some _ (Heap.get?_push_of_some _ x)⟩
end
/-- the tuple at a as it stands at each turn, each item in a new pair -/
def IteT (K : PySem.W.Frag) (a : Addr) : It :=
  ⟨fun i H => ∃ (xs : List V) (x : V), SqT K H a xs ∧ xs[i]? = some x, fun i H v H' => ∃ T x, v = .ref T ∧ H T = none ∧ H' = upd H T (.tup [.int (i : Nat), x]) ∧ ∀ xs, SqT K H a xs → xs[i]? = some x, fun i H => ∃ xs : List V, SqT K H a xs ∧ xs.length = i⟩
theorem turn_enumT {P : Program} {w : World} {K : PySem.W.Frag} {elts : List Expr} {kk : Nat} {tpos : Pos} (a e it : Addr) :
    Turn P w K (.Tuple elts kk tpos) (IteT K a) [e, it] e (fun i h => (∃ old, IsEnum h e it ((i : Nat) : Int) old) ∧ h.IsTupleIter it a i ∧ e ≠ it ∧ a ≠ it ∧ e ≠ a) where
  mem := by simp
  obj := fun i h st b hb => by
    obtain ⟨⟨old, he⟩, ⟨o, ho, hc, hd⟩, _⟩ := st
    have e' : b = e ∨ b = it := by simpa using hb
    rcases e' with z | z
    · rw [z]; exact ⟨_, he, fun v q => nomatch q⟩
    · rw [z]; exact ⟨o, ho, fun v q => by rw [hd] at q; cases q⟩
  keep := fun i h h' st k => let ⟨⟨old, he⟩, hi, hne⟩ := st; ⟨⟨old, k e (by simp) _ he⟩, hi.at fun o q => k it (by simp) o q, hne⟩
  item := by
    intro X hP hw hK hc i pins s σ H E I hf st hg
    subst hP hw hK
    obtain ⟨⟨old, he⟩, hit, hne, hai, hea⟩ := st
    obtain ⟨xs, x, hq, hx⟩ := hg
    obtain ⟨its, rv, p, hz⟩ := I.tuple hq
    obtain ⟨u, hu, ru⟩ := rv.get hx
    have hel : e < s.heap.objs.size := Heap.lt_size he
    have hil : it < s.heap.objs.size := by obtain ⟨_, q, _⟩ := hit; exact Heap.lt_size q
    have hin : i < its.toArray.size := by
      rw [List.size_toArray]
      exact (List.getElem?_eq_some_iff.mp hu).1
    refine wpAny_pyNext_enum_itemC (Draws.tuple (prog := X.prog) (w := X.w) (A := X.A.in1) (I.ok.hd hc) it a hai its.toArray) he ⟨hit, p⟩ hin hne (by simp [hne, hea]) fun y h' tk hy ho hst' hT hsz hk => ?_
    have ey : y = u := by
      have z : its[i]? = some y := by simpa using hy
      rw [hu] at z
      exact (Option.some.inj z).symm
    subst ey
    refine ⟨_, rfl, wpAny_letOwnedTupleGo_enum (s := { s with heap := h', toks := tk + 1 }) ho fun h'' he' sb => ?_⟩
    have hT2 : h''.get? s.heap.objs.size = some { cls := .type "tuple", data := .seq #[.int i tk, y] } := (sb.2 _ (Nat.ne_of_gt hel)).trans hT
    have new : ObjOk X.prog X.w (upd H s.heap.objs.size (.tup [.int (i : Nat), x])) h'' s.heap.objs.size (.tup [.int (i : Nat), x]) :=
      ⟨by show 2 ≤ sizeLine; decide, [.int i tk, y], .cons ⟨_, rfl⟩ (.cons ru .nil), ⟨_, hT2, rfl, _, rfl⟩⟩
    have I1 : L2.Inv X pins σ (upd H s.heap.objs.size (.tup [.int (i : Nat), x])) { s with heap := h'', toks := tk + 1 } :=
      I.turnedNew (ch := [e, it]) (fun b ob hb q => (sb.2 b (fun z => hb (by simp [z]))).trans (hk b ob (fun z => hb (by simp [z])) (fun z => hb (by simp [z])) q)) hf (Nat.le_refl _) new
    refine ⟨.ref s.heap.objs.size, _, I1, rfl, ⟨_, x, rfl, I.hok.fresh (Nat.le_refl _), rfl, fun ys hy => ?_⟩, ⟨⟨y, ?_⟩, hst'.1.at fun o q => (sb.2 it (Ne.symm hne)).trans q, hne, hai, hea⟩, fun b hb => ?_⟩
    · obtain ⟨its2, rv2, p2, _⟩ := I.tuple hy
      have e1 : ys = xs := by
        first
          | exact I.tuple_inj hy hq
          | exact (I.tup_inj hy hq)
      rw [e1]
      exact hx
    · have e1 : ((i + 1 : Nat) : Int) = (i : Int) + 1 := by omega
      rw [e1]; exact he'
    · have hb' : b < s.heap.objs.size := by
        have e' : b = e ∨ b = it := by simpa using hb
        rcases e' with z | z
        · rw [z]; exact hel
        · rw [z]; exact hil
      rw [upd_ne (Nat.ne_of_lt hb')]
      exact (hf b hb).1
  done := by
    intro X hP hw hK hc i pins s σ H E I hf st hg
    subst hP hw hK
    obtain ⟨⟨old, he⟩, hit, hne, hai, hea⟩ := st
    obtain ⟨xs, hq, hx⟩ := hg
    obtain ⟨its, rv, p, hz⟩ := I.tuple hq
    obtain ⟨f0, f1, f2, f3, f4, f5⟩ := hf it (by simp)
    have hl := rv.length
    have hsz : its.toArray.size = i := by rw [List.size_toArray]; omega
    have D := Draws.tuple (prog := X.prog) (w := X.w) (A := X.A.in1) (I.ok.hd hc) it a hai its.toArray
    rw [hsz] at D
    exact wpAny_pyNext_enum_endD D he ⟨hit, p⟩ fun h' eb => ⟨rfl, I.turned (t' := s.toks) (fun b o hb q => eb b o hb q) f0 f1 f3 f4 f5⟩
  self := fun A i s Q E st h => let ⟨⟨_, he⟩, _⟩ := st; wpAny_pyIter_enum he h
def iEnumT (K : PySem.W.Frag) (ta : TA) : TI := fun σ H R => ta σ H fun vs H1 => ∃ a xs, vs = [.ref a] ∧ SqT K H1 a xs ∧ R (IteT K a) H1
theorem pi_enumT {X : Cx} {e : Expr} {ta : TA} {p pos tpos : Pos} {elts : List Expr} {kk : Nat} (hg : Gl X "enumerate") (hm : X.mg "enumerate" = none) (ha : PA X [e] ta) (hs : starEach [e] X.env = [(false, eval e X.env)] := by rfl) :
    PI X (.Tuple elts kk tpos) (.Call (.Name "enumerate" p) [e] [] pos) (iEnumT X.K ta) := by
  refine ⟨fun pins s σ H R I h => ?_⟩
  refine Call_ (ld_blt I hg hm boot_enumerate (PyProof.Rows.callWith_type1 (thn (ha.run pos pins s σ H _ I h) fun us s1 ⟨vs, H1, I1, r1, q1⟩ => ?_) hs rfl))
  obtain ⟨a, xs, ex, hq, q⟩ := q1
  subst ex
  cases r1 with
  | cons r rr =>
    cases rr
    cases r
    obtain ⟨its, rv, p', hz⟩ := I1.tuple hq
    have al : a < s1.heap.objs.size := by obtain ⟨_, q, _⟩ := p'; exact Heap.lt_size q
    refine call_enum_one (begins_tuple a its.toArray) p' fun h' he hit hsz hk => wpAny_pyIter_enum he ?_
    have I2 : L2.Inv X pins σ H1 { s1 with heap := h' } := I1.kept (t' := s1.toks) hk
    refine ⟨s1.heap.objs.size + 1, [s1.heap.objs.size + 1, s1.heap.objs.size], _, _, H1, rfl, I2, turn_enumT a (s1.heap.objs.size + 1) s1.heap.objs.size, ⟨⟨.none, he⟩, ⟨_, hit, rfl, rfl⟩, Nat.succ_ne_self _, Nat.ne_of_lt al, Ne.symm (Nat.ne_of_lt (Nat.lt_succ_of_lt al))⟩, fun b hb => ?_, q⟩
    have e' : b = s1.heap.objs.size + 1 ∨ b = s1.heap.objs.size := by simpa using hb
    have hle : s1.heap.objs.size ≤ b := by
      rcases e' with z | z
      · rw [z]; exact Nat.le_add_right _ _
      · rw [z]; exact Nat.le_refl _
    exact I1.fpOk hle (I1.hok.fresh hle)
theorem walk_enumT {K : PySem.W.Frag} {a : Addr} {xs : List V} : Walk (IteT K a) xs.length (fun H => SqT K H a xs) (YPair (fun i => some (.int (i : Nat))) (fun i => xs[i]?)) := by
  refine ⟨fun i _ hi q => ⟨xs, xs[i], q, by simp [hi]⟩, fun _ q => ⟨xs, q, rfl⟩, fun i H v H' _ q y => ?_⟩
  obtain ⟨T, x, h1, h2, h3, h4⟩ := y
  exact ⟨T, .int (i : Nat), x, h1, h2, h3, rfl, h4 xs q⟩
end Xr

/-! del xs[a:] -/
namespace Xr
open PySem PySem.Spec PyProof.Rows L2 HT
def selV (a n : Int) (i : Nat) : Bool := if (1 : Int) > 0 then (decide (a ≤ (i : Int)) && decide ((i : Int) < n) && (((i : Int) - a) % 1 == 0)) else (decide (n < (i : Int)) && decide ((i : Int) ≤ a) && ((a - (i : Int)) % (-1) == 0))
theorem selV_eq (a n : Nat) (i : Nat) : selV (a : Int) (n : Int) i = (decide (a ≤ i) && decide (i < n)) := by
  unfold selV
  rw [if_pos (by decide)]
  have e1 : ((((i : Int) - (a : Int)) % 1 == 0) : Bool) = true := by
    rw [Int.emod_one]
    rfl
  rw [e1, Bool.and_true]
  have e2 : decide ((a : Int) ≤ (i : Int)) = decide (a ≤ i) := decide_eq_decide.mpr (by omega)
  have e3 : decide ((i : Int) < (n : Int)) = decide (i < n) := decide_eq_decide.mpr (by omega)
  rw [e2, e3]
theorem filt_take (a n : Nat) : ∀ (its : List Value) (j : Nat), j + its.length = n → ((its.zipIdx j).filterMap fun (p : Value × Nat) => if selV (a : Int) (n : Int) p.2 = true then none else some p.1) = its.take (a - j)
  | [], j, _ => by simp
  | x :: its, j, h => by
    rw [List.length_cons] at h
    have ih := filt_take a n its (j + 1) (by omega)
    rw [List.zipIdx_cons, List.filterMap_cons, selV_eq]
    by_cases hj : a ≤ j
    · have e : (decide (a ≤ j) && decide (j < n)) = true := by
        rw [decide_eq_true hj, decide_eq_true (by omega)]
        rfl
      simp only [e, if_true]
      rw [ih]
      have e1 : a - j = 0 := by omega
      have e2 : a - (j + 1) = 0 := by omega
      rw [e1, e2]
      rfl
    · have e : (decide (a ≤ j) && decide (j < n)) = false := by
        rw [decide_eq_false hj]
        rfl
      simp only [e, Bool.false_eq_true, if_false]
      rw [ih]
      have e1 : a - j = (a - (j + 1)) + 1 := by omega
      rw [e1]
      rfl
theorem bounds_tail {a n : Nat} (hc : a ≤ n) : sliceBounds (some (a : Int)) none none n = ((a : Int), (n : Int), 1) := by
  simp only [sliceBounds, Option.getD_none]
  have h1 : ¬ ((a : Int) < 0) := by omega
  simp only [h1, if_false, show (1 : Int) > 0 by decide, if_true]
  congr 1
  · omega
section
variable {prog : Program} {w : World} {A : Around} {E : Value → Shared → Prop} {s : Shared}
theorem delItem_tail {l sl : Addr} {items : List Value} {n : Nat} {vl : Value} {a : Nat} {Q : Unit → Shared → Prop}
    (e : s.heap.get? l = some { cls := .type "list", data := .seq items.toArray n }) (hs : s.heap.IsSliceOf sl vl .none .none) (pl : IsPart vl (some (a : Int))) (hc : a ≤ items.length)
    (hsz : items.length ≤ sizeLine) (h : Q () { s with heap := s.heap.update l (Obj.mapSeq fun xs => (xs.toList.zipIdx.filterMap fun (p : Value × Nat) => if selV (a : Int) (items.length : Int) p.2 = true then none else some p.1).toArray) }) :
    wpAny (model prog w) A (delItem (.ref l) (.ref sl)) Q E s := by
  have hl : s.heap.IsList l items.toArray := PySem.IsL.isList e
  obtain ⟨os, hos, hcs, hds⟩ := id hs
  have hTs : s.TypeIs (.ref sl) "slice" := ⟨os, hos, hcs⟩
  have hstep : ¬ ((rawPart none == rawInt 0) = true) := Bool.false_ne_true
  have hz' : ((fun xs : Array Value => (xs.toList.zipIdx.filterMap fun (p : Value × Nat) => if selV (a : Int) (items.length : Int) p.2 = true then none else some p.1).toArray) items.toArray).size ≤ sizeLine + 1 := by
    show ((items.toArray.toList.zipIdx 0).filterMap _).toArray.size ≤ _
    have e0 : items.toArray.toList = items := by simp
    rw [e0, filt_take a items.length items 0 (by omega), List.size_toArray, List.length_take]
    omega
  unfold delItem
  try with_reducible refine wpAny_holding ?_
  first | refine wpAny_bind (wpAny_pure ?_) | skip
  refine wpAny_bind (wpAny_sequenceKey hl.typeIs (by decide) ?_)
  refine wpAny_bind (wpAny_callSpecial?_slot (name := Str.ofString "__delitem__") hl.typeIs F.slot_list_delitem
    (wpAny_call_entry F.slot_list_delitem hl.typeIs F.entry_list_delitem ?_ (F.args_list_delitem_2 _ _)))
  show wpAny _ _ (Builtin.List.listSubscript? (.ref sl) >>= _) _ _ s
  refine wpAny_bind ?_
  unfold Builtin.List.listSubscript?
  refine wpAny_bind (wpAny_specialOf hTs slice_no_index ?_)
  simp only [Option.isNone_none, if_true]
  refine wpAny_pure ?_
  show wpAny _ _ (typeOf (.ref sl) >>= _) _ _ s
  refine wpAny_bind (wpAny_typeOf hTs ?_)
  first
    | rw [if_neg (by decide)]
    | refine PySem.W.KFB.if_not (by decide) ?_
  rw [listSliceParts_eq]
  refine wpAny_bind (wpAny_bind (wpAny_field hos hds (x := .none) rfl (wpAny_bind (wpAny_listPart .none ?_))))
  rw [if_neg hstep]
  refine wpAny_bind (wpAny_field hos hds (x := vl) rfl (wpAny_bind (wpAny_listPart pl ?_)))
  refine wpAny_bind (wpAny_field hos hds (x := .none) rfl (wpAny_bind (wpAny_listPart .none (wpAny_pure ?_))))
  unfold Builtin.List.listItems
  refine wpAny_bind (wpAny_bind (wpAny_seqItems e rfl (wpAny_pure ?_)))
  have hz : items.toArray.size = items.length := by simp
  rw [hz]
  refine wpAny_bind (wpAny_of_eq ((sliceIndices_raw (some (a : Int)) none none items.length (by simp)).trans (congrArg (pure : Int × Int × Int → Sem (Int × Int × Int)) (bounds_tail hc))) ?_)
  refine wpAny_bind (wpAny_rule ?_)
  show wpAny _ _ (updateSeq l (fun xs => (xs.toList.zipIdx.filterMap fun (p : Value × Nat) => if selV (a : Int) (items.length : Int) p.2 = true then none else some p.1).toArray) >>= _) _ _ s
  refine wpAny_bind (wpAny_updateSeq (hz := by rw [hz]; exact hsz) (_hz' := hz') e rfl ?_)
  refine wpAny_bind (wpAny_letGo ?_)
  first
    | exact wpAny_bind (wpAny_pure (wpAny_pure ⟨.none, rfl, wpAny_pure h⟩))
    | exact wpAny_pure ⟨.none, rfl, wpAny_pure h⟩
end
section
variable {X : Cx}
/-- del xs[lo:] of a list -/
def tDelTail (to : TE) (tl : TO) : TS := fun D σ H => to σ H fun x H1 => tl σ H1 fun o H2 => ∃ (l : Addr) (xs : List V) (a : Nat), x = .ref l ∧ o = some (a : Int) ∧ H2 l = some (.lst xs) ∧ a ≤ xs.length ∧ D.nx σ (upd H2 l (.lst (xs.take a)))
theorem ps_delTail {o lo : Expr} {to : TE} {tl : TO} {tpos pos p2 : Pos} (ho : PE X o to) (hl : PO X (some lo) tl) : PS X (.Delete [.Subscript o (.Slice (some lo) none none p2) tpos] pos) (tDelTail to tl) := by
  refine ⟨fun pins s σ H D I h => ?_⟩
  refine wpAny_Delete (wpAny_deleteEach_cons (wpAny_delete_Subscript (thn (ho.run pins s σ H _ I h) fun u s1 ⟨x, H1, I1, rx, q1⟩ => ?_)))
  refine wpAny_Slice (thn (hl.run pins s1 σ H1 _ I1 q1) fun vl s2 ⟨o2, H2, I2, pl, q2⟩ => ?_)
  refine thn (po_none.run pins s2 σ H2 (fun o H3 => o = none ∧ H3 = H2) I2 ⟨rfl, rfl⟩) fun vu s3 ⟨u2, H3, I3, pu, eu, e3⟩ => ?_
  subst eu e3
  refine thn (po_none.run pins s3 σ H3 (fun o H4 => o = none ∧ H4 = H3) I3 ⟨rfl, rfl⟩) fun vs s4 ⟨o4, H4, I4, ps, eo, e4⟩ => ?_
  subst eo e4
  cases pu
  cases ps
  obtain ⟨l, xs, a, rfl, rfl, hH, ha, q⟩ := q2
  cases (show u = Value.ref l from rx)
  have I5 : L2.Inv X pins σ H4 { s4 with heap := s4.heap.push { cls := .type "slice", data := .fields #[vl, .none, .none] } } := I4.kept (t' := s4.toks) fun b ob q => Heap.get?_push_of_some _ q
  obtain ⟨z, its, n, r, hlen, e⟩ := I5.lstM hH
  refine delItem_tail (a := a) e (Heap.IsSliceOf.new _ vl .none .none) pl (by omega) (by omega) ?_
  refine wpAny_deleteEach_nil ⟨σ, _, ?_, q⟩
  refine I5.lset (its' := its.take a) (t' := s4.toks) hH e ?_ (r.take _) ?_
  · show (((its.toArray.toList.zipIdx 0).filterMap fun (p : Value × Nat) => if selV (a : Int) (its.length : Int) p.2 = true then none else some p.1)).toArray = _
    have e0 : its.toArray.toList = its := by simp
    rw [e0, filt_take a its.length its 0 (by omega)]
    rfl
  · rw [List.length_take]
    omega
end
end Xr

/-! defs that ask repr of data: promises kept where no repr runs around -/
namespace Grd
open PySem PySem.Spec PyProof.Rows L2
/-- as FnOk, where no guard stands around -/
structure FnG (P : Program) (w : World) (K : PySem.W.Frag) (mg : Str → Option Value) (base : Heap) (CX : CXT) (k : Nat) (f : Addr) (fd : FuncData) (ps : List Str) (sp : Sp) : Prop where
  len : ∀ vs H Q E, sp vs H Q E → vs.length = ps.length
  run : ∀ (A : Around) (outer : List Env) (s : Shared) (H : Hp) (args : Args) (us : List Value) (vs : List V) (Q : VK) (E : XK), A.guards = some [] → Room k A → Env0 P w K mg base A outer s H → BindsTo s fd args (ps.zip us) → Vals vs us → sp vs H Q E →
    codeAny (model P w) A (.call (.ref f) args) (CR CX outer P w H s Q E) s
section
variable {P : Program} {w : World} {K : PySem.W.Frag} {mg : Str → Option Value} {base : Heap}
theorem fng_of {CX : CXT} {k : Nat} {f : Addr} {x qual : Str} {st : Stmt} {fd : FuncData} {N ps : List Str} {sp : Sp} (F : Fun K x qual st f fd) (S : FnScope N ps (defScope st)) (len : ∀ vs H Q E, sp vs H Q E → vs.length = ps.length)
    (body : ∀ (cdv : Value) (A : Around) (outer : List Env) (s : Shared) (H : Hp) (vs : List V) (Q : VK) (E : XK), A.guards = some [] → Room k (A.deeper (envOfC qual (defScope st) s.heap.objs.size f cdv)) → sp vs H Q E →
      ∃ t, PSs (cxOf CX P w K mg base N qual (defScope st) f cdv A outer s H E) (defBody st) t ∧ t { nx := fun _ H' => Q .non H', rt := Q } (L2.start N vs) H) : FnG P w K mg base CX (k + 1) f fd ps sp := by
  obtain ⟨oc, od, kV, doc, pm, an, cdv, ct, osl, rfl, lk, hcd⟩ := F.ex
  refine ⟨len, fun A outer s H args us vs Q E gd hr e0 hb r hs => ?_⟩
  have lens := len _ _ _ _ hs
  have inK : K.In s.heap := e0.mod.kin.keeps fun b o e => (e0.bs b o e).1
  have free : s.heap.NoLimit := e0.mod.nolimit.keeps fun b o e => (e0.bs b o e).1
  have kinds : ∀ y ∈ ps.zip us, (defScope st).names.lookup y.1 = some .local ∨ ((defScope st).names.lookup y.1 = some .cell ∧ ((cellsFrom (s.heap.objs.size + 1) (defScope st).names []).lookup y.1).isSome = true) := fun ⟨n, v⟩ hy =>
    (S.par n (List.of_mem_zip hy).1).elim (fun q => .inl q) fun q => .inr ⟨q, PySem.W.cellsFrom_some _ _ _ (.inl q)⟩
  refine codeAny_call_function hr.depth (inK _ _ lk) rfl S.co S.gen rfl (PySem.W.codeRec_of inK hcd) (hb _ _ _ _ ?_)
  refine wpAny_newFunctionEnv_cells S.kind kinds fun env he s1 ic => ?_
  subst he
  refine ⟨free.keeps ic.toInCall.keep, codeAny_func ?_⟩
  obtain ⟨t, ht, hq⟩ := body cdv A outer s H vs Q E gd (hr.deeper _) hs
  have I := inv_start (CX := CX) (P := P) (K := K) (mg := mg) (base := base) (E := E) S hr.hd e0 lens r ic
  refine wpAny_mono (ht.run [] s1 _ H _ I hq) (fun fl s' z => ?_) fun e s' z => z
  cases fl with
  | ret u =>
    obtain ⟨v, σ', H', J, rv, q⟩ := z
    exact ⟨v, H', J.os, J.bare, J.base, J.hok, rv, q⟩
  | next =>
    obtain ⟨σ', H', J, q⟩ := z
    exact ⟨V.non, H', J.os, J.bare, J.base, J.hok, rfl, q⟩
  | brk =>
    obtain ⟨_, _, _, q⟩ := z
    exact q.elim
  | cont =>
    obtain ⟨_, _, _, q⟩ := z
    exact q.elim
end
section
variable {X : Cx} {CX : CXT} {k : Nat} {f : Addr} {fd : FuncData} {ps : List Str} {sp : Sp} {dvs : List V} {ds : List Value} {E : XK} {x : Str} {p pos : Pos} {e : Expr} {es : List Expr} {t : TA}
/-- f(e, ..) where f keeps its promise with no guard around -/
theorem pe_callG (F : FnG X.prog X.w X.K X.mg X.base CX k f fd ps sp) (gd : X.A.guards = some []) (hr : Room k X.A) (hg : Gl X x) (hm : X.mg x = some (.ref f)) (kp : PySem.W.keepIn X.K (.ref f) = true) (hb : Binds X.K fd ps []) (hx : Passes CX X E)
    (ha : PA X (e :: es) t) (hdb : (x == ("__debug__" : Str)) = false := by decide) (he : starEach (e :: es) X.env = (false, eval e X.env) :: starEach es X.env := by rfl) (hpl : (backTo pos (starEach es X.env)).any (·.1) = false := by rfl) :
    PE X (.Call (.Name x p) (e :: es) [] pos) (tCall sp [] E t) := by
  refine ⟨fun pins s σ H Q I h => ?_⟩
  refine wpAny_Call_Name_kw (ld_glob I hg hm ?_ hdb)
  refine PySem.W.callWith_K (h₀ := X.base) I.ok.mod.kin kp (thn (ha.run pos pins s σ H _ I h) fun us s1 ⟨vs, H1, I1, r, q⟩ => ⟨I1.kIn, ?_⟩) he hpl
  have q' : sp vs H1 Q E := by
    have z : sp (vs ++ []) H1 Q E := q
    rw [List.append_nil] at z
    exact z
  have lens : us.length = ps.length := by
    rw [← r.length]
    exact F.len _ _ _ _ q'
  have b := hb s1 us I1.kIn (by rw [List.append_nil]; exact lens)
  rw [List.append_nil] at b
  refine wpAny_call (codeAny_mono (F.run X.A X.stack s1 H1 ⟨us, []⟩ us vs Q E gd hr I1.env0 b r q') fun z s' hq => ?_)
  cases z with
  | error e => exact hx pins σ H1 s1 e s' I1 hq
  | ok fl =>
    cases fl with
    | ret u => exact I1.after hq
    | next => exact hq.elim
    | brk => exact hq.elim
    | cont => exact hq.elim
/-- repr of data -/
def rRepr (K : PySem.W.Frag) : List V → Hp → VK → Prop := fun xs H Q => ∃ (v : V) (d : PyData), xs = [v] ∧ Dp K H v d ∧ d.showable = true ∧ d.hasDict = false ∧ d.depth ≤ 150 ∧ d.shown.length ≤ sizeLine ∧ Q (.str d.shown) H
theorem call_repr (gd : X.A.guards = some []) (hu : X.A.units + 200 < cLine) : CallR X (.builtin "repr") (rRepr X.K) := by
  intro pins s σ H xs us Q I r h
  obtain ⟨v, d, rfl, hd, sh, nd, dep, len, q⟩ := h
  obtain ⟨u, rfl, ru⟩ := vals1 r
  cases hd with
  | non =>
    cases (show u = Value.none from ru)
    exact PySem.P.repr_of_none ⟨.str _, H, I.tok _, ⟨_, rfl⟩, q⟩
  | bl b =>
    cases (show u = Value.bool b from ru)
    exact PySem.P.repr_of_bool ⟨.str _, H, I.tok _, ⟨_, rfl⟩, q⟩
  | int i =>
    obtain ⟨t, rfl⟩ := ru
    have hz : i.natAbs.log2 < 1920 := by
      unfold PyData.showable at sh
      exact of_decide_eq_true sh
    exact PySem.P.repr_of_int hz ⟨.str _, H, I.tok _, ⟨_, rfl⟩, q⟩
  | str x =>
    obtain ⟨t, rfl⟩ := ru
    exact PySem.P.repr_of_str ⟨.str _, H, I.tok _, ⟨_, rfl⟩, q⟩ len
  | lst hs ha =>
    obtain ⟨as, rd⟩ := Dp.reads I _ _ _ (Dp.lst hs ha) ru
    cases (show u = Value.ref _ from ru)
    exact repr_of_reads' rd sh (PyData.noDict_hsm nd) gd (by omega) (fun _ _ e => e) (fun h' tk n up => ⟨.str _, H, I.kept (t' := n) up, ⟨_, rfl⟩, q⟩) len
  | tup hs ha =>
    obtain ⟨as, rd⟩ := Dp.reads I _ _ _ (Dp.tup hs ha) ru
    cases (show u = Value.ref _ from ru)
    exact repr_of_reads' rd sh (PyData.noDict_hsm nd) gd (by omega) (fun _ _ e => e) (fun h' tk n up => ⟨.str _, H, I.kept (t' := n) up, ⟨_, rfl⟩, q⟩) len
theorem u200 {k : Nat} {A : Around} (hr : Room k A) : A.units + 200 < cLine := by
  have := hr.un
  omega
end
end Grd

/-! the plain layer: values as data, changing things as numbered cells of a store -/
namespace K3
open PySem L2 Xr K1
/-- a cell, by its number; a thing of the text (a def, a class), by its address -/
abbrev cel (n : Nat) : PyData := .dict [(.int n, .none)]
abbrev glo (a : Addr) : PyData := .dict [(.int a, .bool true)]
/-- a tuple without a dict of its own; an object of an own class that stays; an error that is held -/
abbrev frz (ds : List PyData) : PyData := .dict [(.none, .tuple ds)]
abbrev fldD (fs : List (Str × PyData)) : List (PyData × PyData) := fs.map fun p => (.str p.1, p.2)
abbrev ind (C : Addr) (fs : List (Str × PyData)) : PyData := .dict ((.str "", .int C) :: fldD fs)
abbrev exd (a C dd : Addr) (fs : List (Str × PyData)) : PyData := .dict ((.int a, .int dd) :: (.int C, .none) :: fldD fs)
/-- where the cells stand; what is hidden (lists that are being made) -/
structure Mp where
  c : Nat → Option Addr
  z : Addr → Prop
def Ce (m : Mp) (a : Addr) : Prop := (∃ n, m.c n = some a) ∨ m.z a
mutual
inductive Dv (K : PySem.W.Frag) (m : Mp) (H : Hp) : V → PyData → Prop
  | non : Dv K m H .non .none
  | bl (b : Bool) : Dv K m H (.bl b) (.bool b)
  | int (i : Int) : Dv K m H (.int i) (.int i)
  | str (x : Str) : Dv K m H (.str x) (.str x)
  | lst {a : Addr} {xs : List V} {ds : List PyData} : H a = some (.lst xs) → ¬ Ce m a → DvAll K m H xs ds → Dv K m H (.ref a) (.list ds)
  | tup {a : Addr} {xs : List V} {ds : List PyData} : H a = some (.tup xs) → ¬ Ce m a → DvAll K m H xs ds → Dv K m H (.ref a) (.tuple ds)
  | con {a : Addr} {xs : List V} {ds : List PyData} : KTup K a xs → DvAll K m H xs ds → Dv K m H (.ref a) (.tuple ds)
  | cel {a : Addr} {n : Nat} : m.c n = some a → Dv K m H (.ref a) (cel n)
  | frz {a : Addr} {o : Obj} {xs : List V} {ds : List PyData} : H a = some (.frz o (.tup xs)) → o.dict = none → ¬ Ce m a → DvAll K m H xs ds → Dv K m H (.ref a) (frz ds)
  | ins {a dx C : Addr} {ys : List (Str × V)} {fs : List (Str × PyData)} : H a = some (.ins C dx ys) → H dx = some (.own a) → ¬ Ce m a → ¬ Ce m dx → ys.map Prod.fst = fs.map Prod.fst → DvAll K m H (ys.map Prod.snd) (fs.map Prod.snd) → Dv K m H (.ref a) (ind C fs)
  | exd {a C dd : Addr} {ys : List (Str × V)} {fs : List (Str × PyData)} : H dd = some (.xd ys) → ¬ Ce m dd → ys.map Prod.fst = fs.map Prod.fst → DvAll K m H (ys.map Prod.snd) (fs.map Prod.snd) → Dv K m H (.ref a) (exd a C dd fs)
  | glo (a : Addr) : Dv K m H (.ref a) (glo a)
inductive DvAll (K : PySem.W.Frag) (m : Mp) (H : Hp) : List V → List PyData → Prop
  | nil : DvAll K m H [] []
  | cons {v : V} {vs : List V} {d : PyData} {ds : List PyData} : Dv K m H v d → DvAll K m H vs ds → DvAll K m H (v :: vs) (d :: ds)
end
/-- from one moment to a later one: cells stay cells, all else stays as it is -/
structure Ev0 (m : Mp) (H : Hp) (m' : Mp) (H' : Hp) : Prop where
  ext : ∀ n a, m.c n = some a → m'.c n = some a
  kp : ∀ a o, H a = some o → ¬ Ce m a → H' a = some o ∧ ¬ Ce m' a
/-- the same, and what is hidden stays hidden, as it is -/
structure Evo (m : Mp) (H : Hp) (m' : Mp) (H' : Hp) : Prop extends Ev0 m H m' H' where
  hz : ∀ a, m'.z a ↔ m.z a
  zk : ∀ a o, m.z a → H a = some o → H' a = some o
theorem Ev0.refl {m : Mp} {H : Hp} : Ev0 m H m H := ⟨fun _ _ h => h, fun _ _ h n => ⟨h, n⟩⟩
theorem Ev0.trans {m m1 m2 : Mp} {H H1 H2 : Hp} (a : Ev0 m H m1 H1) (b : Ev0 m1 H1 m2 H2) : Ev0 m H m2 H2 :=
  ⟨fun n q h => b.ext n q (a.ext n q h), fun q o h n => by
    obtain ⟨h1, n1⟩ := a.kp q o h n
    exact b.kp q o h1 n1⟩
theorem Evo.refl {m : Mp} {H : Hp} : Evo m H m H := ⟨Ev0.refl, fun _ => Iff.rfl, fun _ _ _ h => h⟩
theorem Evo.trans {m m1 m2 : Mp} {H H1 H2 : Hp} (a : Evo m H m1 H1) (b : Evo m1 H1 m2 H2) : Evo m H m2 H2 :=
  ⟨a.toEv0.trans b.toEv0, fun q => (b.hz q).trans (a.hz q), fun q o z h => b.zk q o ((a.hz q).mpr z) (a.zk q o z h)⟩
section
variable {K : PySem.W.Frag}
theorem Dv.mono {m m' : Mp} {H H' : Hp} (e : Ev0 m H m' H') (d : PyData) (v : V) (h : Dv K m H v d) : Dv K m' H' v d :=
  Dv.rec (motive_1 := fun v d _ => Dv K m' H' v d) (motive_2 := fun vs ds _ => DvAll K m' H' vs ds) .non .bl .int .str
    (fun h1 n _ a => .lst (e.kp _ _ h1 n).1 (e.kp _ _ h1 n).2 a) (fun h1 n _ a => .tup (e.kp _ _ h1 n).1 (e.kp _ _ h1 n).2 a) (fun h1 _ a => .con h1 a) (fun h1 => .cel (e.ext _ _ h1))
    (fun h1 od n _ a => .frz (e.kp _ _ h1 n).1 od (e.kp _ _ h1 n).2 a)
    (fun h1 h2 n1 n2 q _ a => .ins (e.kp _ _ h1 n1).1 (e.kp _ _ h2 n2).1 (e.kp _ _ h1 n1).2 (e.kp _ _ h2 n2).2 q a)
    (fun h1 n q _ a => .exd (e.kp _ _ h1 n).1 (e.kp _ _ h1 n).2 q a)
    .glo .nil (fun _ _ a b => .cons a b) h
theorem DvAll.mono {m m' : Mp} {H H' : Hp} (e : Ev0 m H m' H') : ∀ (ds : List PyData) (vs : List V), DvAll K m H vs ds → DvAll K m' H' vs ds
  | [], _, h => by
    cases h
    exact .nil
  | d :: ds, _, h => by
    cases h with
    | cons a b => exact .cons (Dv.mono e d _ a) (DvAll.mono e ds _ b)
variable {m m' : Mp} {H H' : Hp}
theorem Dv.up0 {v : V} {d : PyData} (h : Dv K m H v d) (e : Ev0 m H m' H') : Dv K m' H' v d := Dv.mono e _ _ h
theorem Dv.up {v : V} {d : PyData} (h : Dv K m H v d) (e : Evo m H m' H') : Dv K m' H' v d := Dv.mono e.toEv0 _ _ h
theorem DvAll.up0 {vs : List V} {ds : List PyData} (h : DvAll K m H vs ds) (e : Ev0 m H m' H') : DvAll K m' H' vs ds := DvAll.mono e _ _ h
theorem DvAll.up {vs : List V} {ds : List PyData} (h : DvAll K m H vs ds) (e : Evo m H m' H') : DvAll K m' H' vs ds := DvAll.mono e.toEv0 _ _ h
theorem DvAll.app : ∀ {vs ws : List V} {ds es : List PyData}, DvAll K m H vs ds → DvAll K m H ws es → DvAll K m H (vs ++ ws) (ds ++ es)
  | _, _, _, _, .nil, h => h
  | _, _, _, _, .cons a b, h => .cons a (DvAll.app b h)
theorem DvAll.len : ∀ {vs : List V} {ds : List PyData}, DvAll K m H vs ds → vs.length = ds.length
  | _, _, .nil => rfl
  | _, _, .cons _ b => by rw [List.length_cons, List.length_cons, DvAll.len b]
theorem DvAll.getV : ∀ {vs : List V} {ds : List PyData} {i : Nat} {v : V}, DvAll K m H vs ds → vs[i]? = some v → ∃ d, ds[i]? = some d ∧ Dv K m H v d
  | _, _, i, d, .nil, h => by simp at h
  | _, _, 0, d, .cons a b, h => by
    have e := Option.some.inj h
    subst e
    exact ⟨_, rfl, a⟩
  | _, _, i + 1, d, .cons a b, h => DvAll.getV (i := i) b h
theorem DvAll.get : ∀ {vs : List V} {ds : List PyData} {i : Nat} {d : PyData}, DvAll K m H vs ds → ds[i]? = some d → ∃ v, vs[i]? = some v ∧ Dv K m H v d
  | _, _, i, d, .nil, h => by simp at h
  | _, _, 0, d, .cons a b, h => by
    have e := Option.some.inj h
    subst e
    exact ⟨_, rfl, a⟩
  | _, _, i + 1, d, .cons a b, h => DvAll.get (i := i) b h
theorem DvAll.take : ∀ {vs : List V} {ds : List PyData} (i : Nat), DvAll K m H vs ds → DvAll K m H (vs.take i) (ds.take i)
  | _, _, _, .nil => by simp; exact .nil
  | _, _, 0, .cons a b => .nil
  | _, _, i + 1, .cons a b => .cons a (DvAll.take i b)
theorem DvAll.drop : ∀ {vs : List V} {ds : List PyData} (i : Nat), DvAll K m H vs ds → DvAll K m H (vs.drop i) (ds.drop i)
  | _, _, _, .nil => by simp; exact .nil
  | _, _, 0, .cons a b => .cons a b
  | _, _, i + 1, .cons a b => DvAll.drop i b
theorem DvAll.rev : ∀ {vs : List V} {ds : List PyData}, DvAll K m H vs ds → DvAll K m H vs.reverse ds.reverse
  | _, _, .nil => .nil
  | _, _, .cons a b => by
    rw [List.reverse_cons, List.reverse_cons]
    exact (DvAll.rev b).app (.cons a .nil)
theorem DvAll.dropLast {vs : List V} {ds : List PyData} (h : DvAll K m H vs ds) : DvAll K m H vs.dropLast ds.dropLast := by
  rw [List.dropLast_eq_take, List.dropLast_eq_take, h.len]
  exact h.take _
/-- the tuple behind data that is one -/
theorem Dv.seqT {v : V} {ds : List PyData} (h : Dv K m H v (.tuple ds)) : ∃ a xs, v = .ref a ∧ SqT K H a xs ∧ DvAll K m H xs ds := by
  cases h with
  | tup e n a => exact ⟨_, _, rfl, SqT.of e, a⟩
  | con e a => exact ⟨_, _, rfl, e.sq, a⟩
theorem Dv.seqL {v : V} {ds : List PyData} (h : Dv K m H v (.list ds)) : ∃ a xs, v = .ref a ∧ H a = some (.lst xs) ∧ ¬ Ce m a ∧ DvAll K m H xs ds := by
  cases h with
  | lst e n a => exact ⟨_, _, rfl, e, n, a⟩
/-! no cells, no things of the text within -/
mutual
def pureD : PyData → Bool
  | .list ds => pureAll ds
  | .tuple ds => pureAll ds
  | .dict _ => false
  | _ => true
def pureAll : List PyData → Bool
  | [] => true
  | d :: ds => pureD d && pureAll ds
end
mutual
theorem Dv.dm : ∀ (d : PyData) (v : V), pureD d = true → Dv K m H v d → Dm K (Ce m) H v d
  | .none, _, _, h => by
    cases h
    exact .non
  | .bool b, _, _, h => by
    cases h
    exact .bl b
  | .int i, _, _, h => by
    cases h
    exact .int i
  | .str x, _, _, h => by
    cases h
    exact .str x
  | .list ds, _, p, h => by
    cases h with
    | lst h1 n a => exact .lst h1 n (DvAll.dm ds _ p a)
  | .tuple ds, _, p, h => by
    cases h with
    | tup h1 n a => exact .tup h1 n (DvAll.dm ds _ p a)
    | con h1 a => exact .con h1 (DvAll.dm ds _ p a)
  | .dict _, _, p, _ => by cases p
theorem DvAll.dm : ∀ (ds : List PyData) (vs : List V), pureAll ds = true → DvAll K m H vs ds → DmAll K (Ce m) H vs ds
  | [], _, _, h => by
    cases h
    exact .nil
  | d :: ds, _, p, h => by
    have p' : (pureD d && pureAll ds) = true := p
    rw [Bool.and_eq_true] at p'
    cases h with
    | cons a b => exact .cons (Dv.dm d _ p'.1 a) (DvAll.dm ds _ p'.2 b)
end
mutual
theorem Dv.of {N : Addr → Prop} (hn : ∀ a, Ce m a → N a) : ∀ (d : PyData) (v : V), Dm K N H v d → Dv K m H v d
  | .none, _, h => by
    cases h
    exact .non
  | .bool b, _, h => by
    cases h
    exact .bl b
  | .int i, _, h => by
    cases h
    exact .int i
  | .str x, _, h => by
    cases h
    exact .str x
  | .list ds, _, h => by
    cases h with
    | lst h1 n a => exact .lst h1 (fun z => n (hn _ z)) (DvAll.of hn ds _ a)
  | .tuple ds, _, h => by
    cases h with
    | tup h1 n a => exact .tup h1 (fun z => n (hn _ z)) (DvAll.of hn ds _ a)
    | con h1 a => exact .con h1 (DvAll.of hn ds _ a)
  | .dict _, _, h => by cases h
theorem DvAll.of {N : Addr → Prop} (hn : ∀ a, Ce m a → N a) : ∀ (ds : List PyData) (vs : List V), DmAll K N H vs ds → DvAll K m H vs ds
  | [], _, h => by
    cases h
    exact .nil
  | d :: ds, _, h => by
    cases h with
    | cons a b => exact .cons (Dv.of hn d _ a) (DvAll.of hn ds _ b)
end
mutual
theorem layPure : ∀ d : PyData, d.canLay0 = true → pureD d = true
  | .none, _ => rfl
  | .bool _, _ => rfl
  | .int _, _ => rfl
  | .str _, _ => rfl
  | .list ds, h => layPureAll ds (by unfold PyData.canLay0 at h; exact h)
  | .tuple ds, h => layPureAll ds (by unfold PyData.canLay0 at h; exact h)
  | .dict _, h => by unfold PyData.canLay0 at h; cases h
theorem layPureAll : ∀ ds : List PyData, PyData.canLayAll0 ds = true → pureAll ds = true
  | [], _ => rfl
  | d :: ds, h => by
    have e : PyData.canLayAll0 (d :: ds) = (PyData.canLay0 d && PyData.canLayAll0 ds) := by
      conv => lhs; unfold PyData.canLayAll0
    rw [e, Bool.and_eq_true] at h
    show (pureD d && pureAll ds) = true
    rw [layPure d h.1, layPureAll ds h.2]
    rfl
end
end
/-- what a cell holds -/
inductive Cell where
  | lst (ds : List PyData)
  | ins (C : Addr) (fs : List (Str × PyData))
  | dk (kvs : List (L2.Key × PyData))
  | dt (kvs : List (List L2.Key × PyData))
abbrev Sto := Nat → Option Cell
def CellR (K : PySem.W.Frag) (m : Mp) (H : Hp) (a : Addr) : Cell → Prop
  | .lst ds => ∃ xs, H a = some (.lst xs) ∧ DvAll K m H xs ds
  | .ins C fs => ∃ dx gs, H a = some (.ins C dx gs) ∧ gs.map Prod.fst = fs.map Prod.fst ∧ DvAll K m H (gs.map Prod.snd) (fs.map Prod.snd)
  | .dk kvs => ∃ gs, H a = some (.dK gs) ∧ gs.map Prod.fst = kvs.map Prod.fst ∧ DvAll K m H (gs.map Prod.snd) (kvs.map Prod.snd)
  | .dt kvs => ∃ gs, H a = some (.dT gs) ∧ gs.map Prod.fst = kvs.map Prod.fst ∧ DvAll K m H (gs.map Prod.snd) (kvs.map Prod.snd)
theorem CellR.up {K : PySem.W.Frag} {m m' : Mp} {H H' : Hp} {a : Addr} {c : Cell} (h : CellR K m H a c) (e : Ev0 m H m' H') (s : H' a = H a) : CellR K m' H' a c := by
  cases c with
  | lst ds =>
    obtain ⟨xs, h1, h2⟩ := h
    exact ⟨xs, by rw [s]; exact h1, h2.up0 e⟩
  | ins C fs =>
    obtain ⟨dx, gs, h1, h2, h3⟩ := h
    exact ⟨dx, gs, by rw [s]; exact h1, h2, h3.up0 e⟩
  | dk kvs =>
    obtain ⟨gs, h1, h2, h3⟩ := h
    exact ⟨gs, by rw [s]; exact h1, h2, h3.up0 e⟩
  | dt kvs =>
    obtain ⟨gs, h1, h2, h3⟩ := h
    exact ⟨gs, by rw [s]; exact h1, h2, h3.up0 e⟩
/-- the store is held -/
structure Wd (K : PySem.W.Frag) (m : Mp) (H : Hp) (S : Sto) : Prop where
  inj : ∀ i j a, m.c i = some a → m.c j = some a → i = j
  trk : ∀ n a, m.c n = some a → ∃ o, H a = some o
  bd : ∃ b, ∀ n, b ≤ n → m.c n = none
  has : ∀ n c, S n = some c → ∃ a, m.c n = some a ∧ CellR K m H a c
  hid : ∀ n a, m.c n = some a → ¬ m.z a
  ztr : ∀ a, m.z a → ∃ o, H a = some o
def put (S : Sto) (n : Nat) (c : Cell) : Sto := fun k => if k = n then some c else S k
def mput (m : Mp) (n : Nat) (a : Addr) : Mp := ⟨fun k => if k = n then some a else m.c k, m.z⟩
theorem put_same {S : Sto} {n : Nat} {c : Cell} : put S n c n = some c := by unfold put; rw [if_pos rfl]
theorem put_ne {S : Sto} {n k : Nat} {c : Cell} (h : k ≠ n) : put S n c k = S k := by unfold put; rw [if_neg h]
theorem put_put {S : Sto} {n : Nat} {c d : Cell} : put (put S n c) n d = put S n d := by
  funext k; unfold put; split <;> rfl
theorem mput_same {m : Mp} {n : Nat} {a : Addr} : (mput m n a).c n = some a := by unfold mput; simp
theorem mput_ne {m : Mp} {n k : Nat} {a : Addr} (h : k ≠ n) : (mput m n a).c k = m.c k := by unfold mput; simp [h]
section
variable {K : PySem.W.Frag} {m : Mp} {H : Hp} {S : Sto} {p : Addr} {o : HO} {n : Nat} {c : Cell}
theorem Wd.noCe (w : Wd K m H S) (hp : H p = none) : ¬ Ce m p := fun h => by
  rcases h with ⟨n, e⟩ | e
  · obtain ⟨o, h⟩ := w.trk n p e
    rw [hp] at h
    cases h
  · obtain ⟨o, h⟩ := w.ztr p e
    rw [hp] at h
    cases h
theorem Wd.free (w : Wd K m H S) : ∃ n, m.c n = none := let ⟨b, h⟩ := w.bd; ⟨b, h b (Nat.le_refl _)⟩
theorem Wd.sfree (w : Wd K m H S) (h : m.c n = none) : S n = none := by
  cases e : S n with
  | none => rfl
  | some c =>
    obtain ⟨a, ha, _⟩ := w.has n c e
    rw [h] at ha
    cases ha
/-- a new thing that is no cell -/
theorem Evo.new (w : Wd K m H S) (hp : H p = none) : Evo m H m (upd H p o) := ⟨⟨fun _ _ h => h, fun q u e n => ⟨by rw [upd_ne (ne_of_none e hp)]; exact e, n⟩⟩, fun _ => Iff.rfl, fun q u _ e => by rw [upd_ne (ne_of_none e hp)]; exact e⟩
theorem Wd.new (w : Wd K m H S) (hp : H p = none) : Wd K m (upd H p o) S := by
  refine ⟨w.inj, fun n a e => ?_, w.bd, fun n c e => ?_, w.hid, fun a e => ?_⟩
  · obtain ⟨u, h⟩ := w.trk n a e
    exact ⟨u, by rw [upd_ne (ne_of_none h hp)]; exact h⟩
  · obtain ⟨a, h1, h2⟩ := w.has n c e
    obtain ⟨u, h⟩ := w.trk n a h1
    exact ⟨a, h1, h2.up (Evo.new w hp).toEv0 (upd_ne (ne_of_none h hp))⟩
  · obtain ⟨u, h⟩ := w.ztr a e
    exact ⟨u, by rw [upd_ne (ne_of_none h hp)]; exact h⟩
/-- a new cell -/
theorem Evo.alloc (w : Wd K m H S) (hp : H p = none) (hn : m.c n = none) : Evo m H (mput m n p) (upd H p o) := by
  refine ⟨⟨fun k a e => ?_, fun q u e ne => ⟨by rw [upd_ne (ne_of_none e hp)]; exact e, fun h => ?_⟩⟩, fun _ => Iff.rfl, fun q u _ e => by rw [upd_ne (ne_of_none e hp)]; exact e⟩
  · have : k ≠ n := fun z => by rw [z, hn] at e; cases e
    rw [mput_ne this]
    exact e
  · rcases h with ⟨k, ek⟩ | ek
    · by_cases z : k = n
      · rw [z, mput_same] at ek
        have := Option.some.inj ek
        rw [← this, hp] at e
        cases e
      · rw [mput_ne z] at ek
        exact ne (.inl ⟨k, ek⟩)
    · exact ne (.inr ek)
theorem Wd.alloc (w : Wd K m H S) (hp : H p = none) (hn : m.c n = none) (hc : CellR K (mput m n p) (upd H p o) p c) : Wd K (mput m n p) (upd H p o) (put S n c) := by
  have np := w.noCe hp
  refine ⟨fun i j a h1 h2 => ?_, fun k a e => ?_, ?_, fun k d e => ?_, fun k a e za => ?_, fun a e => ?_⟩
  · by_cases zi : i = n
    · by_cases zj : j = n
      · rw [zi, zj]
      · rw [zi, mput_same] at h1
        rw [mput_ne zj] at h2
        exact absurd (.inl ⟨j, by rw [Option.some.inj h1]; exact h2⟩) np
    · by_cases zj : j = n
      · rw [zj, mput_same] at h2
        rw [mput_ne zi] at h1
        exact absurd (.inl ⟨i, by rw [Option.some.inj h2]; exact h1⟩) np
      · rw [mput_ne zi] at h1
        rw [mput_ne zj] at h2
        exact w.inj i j a h1 h2
  · by_cases z : k = n
    · rw [z, mput_same] at e
      rw [← Option.some.inj e]
      exact ⟨o, upd_same⟩
    · rw [mput_ne z] at e
      obtain ⟨u, h⟩ := w.trk k a e
      exact ⟨u, by rw [upd_ne (ne_of_none h hp)]; exact h⟩
  · obtain ⟨b, hb⟩ := w.bd
    refine ⟨max b (n + 1), fun k hk => ?_⟩
    have h1 : b ≤ k := Nat.le_trans (Nat.le_max_left _ _) hk
    have h2 : n + 1 ≤ k := Nat.le_trans (Nat.le_max_right _ _) hk
    rw [mput_ne (by omega)]
    exact hb k h1
  · by_cases z : k = n
    · rw [z, put_same] at e
      rw [← Option.some.inj e]
      exact ⟨p, by rw [z]; exact mput_same, hc⟩
    · rw [put_ne z] at e
      obtain ⟨a, h1, h2⟩ := w.has k d e
      obtain ⟨u, h⟩ := w.trk k a h1
      exact ⟨a, by rw [mput_ne z]; exact h1, h2.up (Evo.alloc w hp hn).toEv0 (upd_ne (ne_of_none h hp))⟩
  · by_cases z : k = n
    · rw [z, mput_same] at e
      rw [← Option.some.inj e] at za
      exact np (.inr za)
    · rw [mput_ne z] at e
      exact w.hid k a e za
  · obtain ⟨u, h⟩ := w.ztr a e
    exact ⟨u, by rw [upd_ne (ne_of_none h hp)]; exact h⟩
/-- a cell changed -/
theorem Evo.set (w : Wd K m H S) (h : m.c n = some p) : Evo m H m (upd H p o) := ⟨⟨fun _ _ e => e, fun q u e ne => ⟨by
  have : q ≠ p := fun z => ne (.inl ⟨n, by rw [z]; exact h⟩)
  rw [upd_ne this]
  exact e, ne⟩⟩, fun _ => Iff.rfl, fun q u z e => by
    have : q ≠ p := fun y => w.hid n p h (by rw [← y]; exact z)
    rw [upd_ne this]
    exact e⟩
theorem Wd.set (w : Wd K m H S) (h : m.c n = some p) (hc : CellR K m (upd H p o) p c) : Wd K m (upd H p o) (put S n c) := by
  have tr : ∀ a, (∃ u, H a = some u) → ∃ u, upd H p o a = some u := fun a ⟨u, e⟩ => by
    by_cases z : a = p
    · rw [z]
      exact ⟨o, upd_same⟩
    · exact ⟨u, by rw [upd_ne z]; exact e⟩
  refine ⟨w.inj, fun k a e => tr a (w.trk k a e), w.bd, fun k d e => ?_, w.hid, fun a e => tr a (w.ztr a e)⟩
  by_cases z : k = n
  · rw [z, put_same] at e
    rw [← Option.some.inj e]
    exact ⟨p, by rw [z]; exact h, hc⟩
  · rw [put_ne z] at e
    obtain ⟨a, h1, h2⟩ := w.has k d e
    have : a ≠ p := fun q => z (w.inj k n p (by rw [← q]; exact h1) h)
    exact ⟨a, h1, h2.up (Evo.set w h).toEv0 (upd_ne this)⟩
/-- hidden: a new list that is being made -/
def hide (m : Mp) (p : Addr) : Mp := ⟨m.c, fun a => a = p ∨ m.z a⟩
def bare (m : Mp) (p : Addr) : Mp := ⟨m.c, fun a => a ≠ p ∧ m.z a⟩
theorem Ev0.hide (w : Wd K m H S) (hp : H p = none) : Ev0 m H (hide m p) (upd H p o) := ⟨fun _ _ h => h, fun q u e ne => ⟨by rw [upd_ne (ne_of_none e hp)]; exact e, fun h => by
  rcases h with h | h | h
  · exact ne (.inl h)
  · rw [h, hp] at e
    cases e
  · exact ne (.inr h)⟩⟩
theorem Wd.hide (w : Wd K m H S) (hp : H p = none) : Wd K (hide m p) (upd H p o) S := by
  have tr : ∀ a, (∃ u, H a = some u) → ∃ u, upd H p o a = some u := fun a ⟨u, e⟩ => ⟨u, by rw [upd_ne (ne_of_none e hp)]; exact e⟩
  refine ⟨w.inj, fun n a e => tr a (w.trk n a e), w.bd, fun n c e => ?_, fun n a e za => ?_, fun a e => ?_⟩
  · obtain ⟨a, h1, h2⟩ := w.has n c e
    obtain ⟨u, h⟩ := w.trk n a h1
    exact ⟨a, h1, h2.up (Ev0.hide w hp) (upd_ne (ne_of_none h hp))⟩
  · rcases za with za | za
    · exact w.noCe hp (.inl ⟨n, by rw [← za]; exact e⟩)
    · exact w.hid n a e za
  · rcases e with e | e
    · rw [e]
      exact ⟨o, upd_same⟩
    · exact tr a (w.ztr a e)
/-- a hidden list goes on -/
theorem Ev0.turn (hz : m.z p) : Ev0 m H m (upd H p o) := ⟨fun _ _ e => e, fun q u e ne => ⟨by
  have : q ≠ p := fun z => ne (.inr (by rw [z]; exact hz))
  rw [upd_ne this]
  exact e, ne⟩⟩
theorem Wd.turn (w : Wd K m H S) (hz : m.z p) : Wd K m (upd H p o) S := by
  have tr : ∀ a, (∃ u, H a = some u) → ∃ u, upd H p o a = some u := fun a ⟨u, e⟩ => by
    by_cases z : a = p
    · rw [z]
      exact ⟨o, upd_same⟩
    · exact ⟨u, by rw [upd_ne z]; exact e⟩
  refine ⟨w.inj, fun n a e => tr a (w.trk n a e), w.bd, fun n c e => ?_, w.hid, fun a e => tr a (w.ztr a e)⟩
  obtain ⟨a, h1, h2⟩ := w.has n c e
  have : a ≠ p := fun z => w.hid n a h1 (by rw [z]; exact hz)
  exact ⟨a, h1, h2.up (Ev0.turn hz) (upd_ne this)⟩
/-- .. and is made -/
theorem Ev0.bare : Ev0 m H (bare m p) H := ⟨fun _ _ e => e, fun q u e ne => ⟨e, fun h => by
  rcases h with h | h
  · exact ne (.inl h)
  · exact ne (.inr h.2)⟩⟩
theorem Wd.bare (w : Wd K m H S) : Wd K (bare m p) H S := by
  refine ⟨w.inj, w.trk, w.bd, fun n c e => ?_, fun n a e za => w.hid n a e za.2, fun a e => w.ztr a e.2⟩
  obtain ⟨a, h1, h2⟩ := w.has n c e
  exact ⟨a, h1, h2.up Ev0.bare rfl⟩
/-- a store with less in it -/
def Ext (S S' : Sto) : Prop := ∀ n c, S n = some c → S' n = some c
theorem Ext.refl : Ext S S := fun _ _ h => h
theorem Ext.trans {S1 S2 : Sto} (a : Ext S S1) (b : Ext S1 S2) : Ext S S2 := fun n c h => b n c (a n c h)
theorem Ext.new (h : S n = none) : Ext S (put S n c) := fun k d e => by
  have : k ≠ n := fun z => by rw [z, h] at e; cases e
  rw [put_ne this]
  exact e
theorem Ext.put {S1 : Sto} (a : Ext S S1) (h : S n = none) : Ext S (put S1 n c) := fun k d e => by
  have : k ≠ n := fun z => by rw [z, h] at e; cases e
  rw [put_ne this]
  exact a k d e
theorem Wd.less {S' : Sto} (w : Wd K m H S') (e : Ext S S') : Wd K m H S := ⟨w.inj, w.trk, w.bd, fun n c h => w.has n c (e n c h), w.hid, w.ztr⟩
theorem Wd.lst (w : Wd K m H S) {ds : List PyData} (e : S n = some (.lst ds)) : ∃ a xs, m.c n = some a ∧ H a = some (.lst xs) ∧ DvAll K m H xs ds := by
  obtain ⟨a, h1, xs, h2, h3⟩ := w.has n _ e
  exact ⟨a, xs, h1, h2, h3⟩
/-- old promises that leave all as it was -/
theorem Evo.same {H' : Hp} (w : Wd K m H S) (s : Same H H') : Evo m H m H' := ⟨⟨fun _ _ h => h, fun q u e n => ⟨s q u e, n⟩⟩, fun _ => Iff.rfl, fun q u _ e => s q u e⟩
theorem Wd.same {H' : Hp} (w : Wd K m H S) (s : Same H H') : Wd K m H' S := by
  have tr : ∀ a, (∃ u, H a = some u) → ∃ u, H' a = some u := fun a ⟨u, e⟩ => ⟨u, s _ _ e⟩
  refine ⟨w.inj, fun n a e => tr a (w.trk n a e), w.bd, fun n c e => ?_, w.hid, fun a e => tr a (w.ztr a e)⟩
  obtain ⟨a, h1, h2⟩ := w.has n c e
  obtain ⟨u, h⟩ := w.trk n a h1
  exact ⟨a, h1, h2.up (Evo.same w s).toEv0 (by rw [h, s _ _ h])⟩
/-- where nothing is held -/
def M0 : Mp := ⟨fun _ => none, fun _ => False⟩
def S0 : Sto := fun _ => none
theorem Wd.zero : Wd K M0 H S0 := ⟨fun _ _ _ h => (nomatch h), fun _ _ h => (nomatch h), ⟨0, fun _ _ => rfl⟩, fun _ _ h => (nomatch h), fun _ _ h => (nomatch h), fun _ h => h.elim⟩
end
end K3

/-! the plain layer: expressions -/
namespace K3
open PySem L2 Xr K1
theorem pe_weak {X : Cx} {e : Expr} {t t' : TE} (h : PE X e t) (i : ∀ σ H Q, t' σ H Q → t σ H Q) : PE X e t' := ⟨fun pins s σ H Q I q => h.run pins s σ H Q I (i _ _ _ q)⟩
theorem pt_weak {X : Cx} {e : Expr} {t t' : TT} (h : PT X e t) (i : ∀ σ H Q, t' σ H Q → t σ H Q) : PT X e t' := ⟨fun pins s σ H Q I q => h.run pins s σ H Q I (i _ _ _ q)⟩
theorem pw_weak {X : Cx} {e : Expr} {t t' : TT} (h : PW X e t) (i : ∀ σ H Q, t' σ H Q → t σ H Q) : PW X e t' := ⟨fun w pins s σ H Q I q => h.run w pins s σ H Q I (i _ _ _ q)⟩
theorem pa_weak {X : Cx} {e : List Expr} {t t' : TA} (h : PA X e t) (i : ∀ σ H Q, t' σ H Q → t σ H Q) : PA X e t' := ⟨fun w pins s σ H Q I q => h.run w pins s σ H Q I (i _ _ _ q)⟩
theorem ps_weak {X : Cx} {e : Stmt} {t t' : TS} (h : PS X e t) (i : ∀ D σ H, t' D σ H → t D σ H) : PS X e t' := ⟨fun pins s σ H Q I q => h.run pins s σ H Q I (i _ _ _ q)⟩
theorem pss_weak {X : Cx} {e : List Stmt} {t t' : TS} (h : PSs X e t) (i : ∀ D σ H, t' D σ H → t D σ H) : PSs X e t' := ⟨fun pins s σ H Q I q => h.run pins s σ H Q I (i _ _ _ q)⟩
abbrev Rho := List (Option PyData)
abbrev DK := PyData → Sto → Prop
abbrev DB := Bool → Sto → Prop
abbrev DL := List PyData → Sto → Prop
abbrev DE := Rho → Sto → DK → Prop
abbrev DT := Rho → Sto → DB → Prop
abbrev DA := Rho → Sto → DL → Prop
def Fr (K : PySem.W.Frag) (m : Mp) (H : Hp) : L2.St → Rho → Prop
  | [], [] => True
  | x :: σ, d :: ρ => (∀ e, d = some e → ∃ v, x = some v ∧ Dv K m H v e) ∧ Fr K m H σ ρ
  | _, _ => False
def gt : Rho → Nat → Option PyData
  | [], _ => none
  | d :: _, 0 => d
  | _ :: ρ, i + 1 => gt ρ i
def st : Rho → Nat → PyData → Rho
  | [], _, _ => []
  | _ :: ρ, 0, e => some e :: ρ
  | d :: ρ, i + 1, e => d :: st ρ i e
/-- forget what stands in a slot -/
def un : Rho → Nat → Rho
  | [], _ => []
  | _ :: ρ, 0 => none :: ρ
  | d :: ρ, i + 1 => d :: un ρ i
def uns (ρ : Rho) : List Nat → Rho
  | [] => ρ
  | v :: vs => un (uns ρ vs) v
section
variable {K : PySem.W.Frag} {m m' : Mp} {H H' : Hp}
theorem Fr.up (e : Evo m H m' H') : ∀ (σ : L2.St) (ρ : Rho), Fr K m H σ ρ → Fr K m' H' σ ρ
  | [], [], _ => trivial
  | x :: σ, d :: ρ, h => ⟨fun z q => by
      obtain ⟨v, h1, h2⟩ := h.1 z q
      exact ⟨v, h1, h2.up e⟩, Fr.up e σ ρ h.2⟩
  | [], _ :: _, h => h.elim
  | _ :: _, [], h => h.elim
theorem Fr.get : ∀ (σ : L2.St) (ρ : Rho) (i : Nat) (d : PyData), Fr K m H σ ρ → gt ρ i = some d → ∃ v, σ[i]? = some (some v) ∧ Dv K m H v d
  | [], [], _, _, _, e => by cases e
  | x :: σ, d :: ρ, 0, e, h, q => by
    obtain ⟨v, h1, h2⟩ := h.1 e q
    exact ⟨v, by rw [h1]; rfl, h2⟩
  | x :: σ, d :: ρ, i + 1, e, h, q => Fr.get σ ρ i e h.2 q
  | [], _ :: _, _, _, h, _ => h.elim
  | _ :: _, [], _, _, h, _ => h.elim
theorem Fr.set {v : V} {e : PyData} (hv : Dv K m H v e) : ∀ (σ : L2.St) (ρ : Rho) (i : Nat), Fr K m H σ ρ → Fr K m H (σ.set i (some v)) (st ρ i e)
  | [], [], _, _ => trivial
  | x :: σ, d :: ρ, 0, h => ⟨fun z q => ⟨v, rfl, by cases q; exact hv⟩, h.2⟩
  | x :: σ, d :: ρ, i + 1, h => ⟨h.1, Fr.set hv σ ρ i h.2⟩
  | [], _ :: _, _, h => h.elim
  | _ :: _, [], _, h => h.elim
theorem Fr.un : ∀ (σ : L2.St) (ρ : Rho) (i : Nat), Fr K m H σ ρ → Fr K m H (σ.set i none) (un ρ i)
  | [], [], _, _ => trivial
  | x :: σ, d :: ρ, 0, h => ⟨fun z q => (nomatch q), h.2⟩
  | x :: σ, d :: ρ, i + 1, h => ⟨h.1, Fr.un σ ρ i h.2⟩
  | [], _ :: _, _, h => h.elim
  | _ :: _, [], _, h => h.elim
theorem Fr.wipe (σ : L2.St) (ρ : Rho) (h : Fr K m H σ ρ) : ∀ vs : List Nat, Fr K m H (wipe σ vs) (uns ρ vs)
  | [] => h
  | v :: vs => Fr.un _ _ _ (Fr.wipe σ ρ h vs)
theorem Fr.none : ∀ (n : Nat), Fr K m H (List.replicate n none) (List.replicate n none)
  | 0 => trivial
  | n + 1 => ⟨fun z q => (nomatch q), Fr.none n⟩
theorem Fr.app : ∀ {vs : List V} {ds : List PyData} {σ : L2.St} {ρ : Rho}, DvAll K m H vs ds → Fr K m H σ ρ → Fr K m H (vs.map some ++ σ) (ds.map some ++ ρ)
  | _, _, _, _, .nil, h => h
  | _, _, _, _, .cons a b, h => ⟨fun z q => by cases q; exact ⟨_, rfl, a⟩, Fr.app b h⟩
end
/-- at a moment of a def that began at B -/
structure At (K : PySem.W.Frag) (B : Mp × Hp) (σ : L2.St) (H : Hp) (ρ : Rho) (S : Sto) (m : Mp) : Prop where
  ev : Evo B.1 B.2 m H
  wd : Wd K m H S
  fr : Fr K m H σ ρ
theorem At.step {K : PySem.W.Frag} {σ : L2.St} {H H' : Hp} {ρ : Rho} {S S' : Sto} {m m' : Mp} (a : At K B σ H ρ S m) (e : Evo m H m' H') (w : Wd K m' H' S') : At K B σ H' ρ S' m' := ⟨a.ev.trans e, w, a.fr.up e⟩
def Kq (K : PySem.W.Frag) (m : Mp) (H : Hp) (Q : VK) (Qd : DK) : Prop := ∀ d S' v H' m', Qd d S' → Evo m H m' H' → Wd K m' H' S' → Dv K m' H' v d → Q v H'
def Kb (K : PySem.W.Frag) (m : Mp) (H : Hp) (Q : Bool → Hp → Prop) (Qd : DB) : Prop := ∀ d S' H' m', Qd d S' → Evo m H m' H' → Wd K m' H' S' → Q d H'
def Ka (K : PySem.W.Frag) (m : Mp) (H : Hp) (Q : List V → Hp → Prop) (Qd : DL) : Prop := ∀ ds S' vs H' m', Qd ds S' → Evo m H m' H' → Wd K m' H' S' → DvAll K m' H' vs ds → Q vs H'
def lft (K : PySem.W.Frag) (t : DE) : TE := fun σ H Q => ∃ B ρ S m Qd, At K B σ H ρ S m ∧ t ρ S Qd ∧ Kq K m H Q Qd
def lftT (K : PySem.W.Frag) (t : DT) : TT := fun σ H Q => ∃ B ρ S m Qd, At K B σ H ρ S m ∧ t ρ S Qd ∧ Kb K m H Q Qd
def lftA (K : PySem.W.Frag) (t : DA) : TA := fun σ H Q => ∃ B ρ S m Qd, At K B σ H ρ S m ∧ t ρ S Qd ∧ Ka K m H Q Qd
abbrev QE (X : Cx) (e : Expr) (t : DE) : Prop := PE X e (lft X.K t)
abbrev QT (X : Cx) (e : Expr) (t : DT) : Prop := PT X e (lftT X.K t)
abbrev QW (X : Cx) (e : Expr) (t : DT) : Prop := PW X e (lftT X.K t)
abbrev QA (X : Cx) (es : List Expr) (t : DA) : Prop := PA X es (lftA X.K t)
theorem Kq.up {K : PySem.W.Frag} {m m' : Mp} {H H' : Hp} {Q : VK} {Qd : DK} (k : Kq K m H Q Qd) (e : Evo m H m' H') : Kq K m' H' Q Qd := fun d S' v H2 m2 q e2 w dv => k d S' v H2 m2 q (e.trans e2) w dv
theorem Kb.up {K : PySem.W.Frag} {m m' : Mp} {H H' : Hp} {Q : Bool → Hp → Prop} {Qd : DB} (k : Kb K m H Q Qd) (e : Evo m H m' H') : Kb K m' H' Q Qd := fun d S' H2 m2 q e2 w => k d S' H2 m2 q (e.trans e2) w
theorem Ka.up {K : PySem.W.Frag} {m m' : Mp} {H H' : Hp} {Q : List V → Hp → Prop} {Qd : DL} (k : Ka K m H Q Qd) (e : Evo m H m' H') : Ka K m' H' Q Qd := fun d S' v H2 m2 q e2 w dv => k d S' v H2 m2 q (e.trans e2) w dv
/-- it is there, and so on -/
def wh {α : Type} : Option α → (α → Prop) → Prop
  | some a, k => k a
  | none, _ => False
theorem wh_some {α : Type} {a : α} {k : α → Prop} : wh (some a) k = k a := rfl
theorem wh_of {α : Type} {o : Option α} {k : α → Prop} (h : wh o k) : ∃ a, o = some a ∧ k a := by
  cases o with
  | none => exact h.elim
  | some a => exact ⟨a, rfl, h⟩
theorem wh_mk {α : Type} {o : Option α} {a : α} {k : α → Prop} (e : o = some a) (h : k a) : wh o k := by
  rw [e]
  exact h
/-! names, constants -/
def dVar (i : Nat) : DE := fun ρ S Q => wh (gt ρ i) fun d => Q d S
def dC (d : PyData) : DE := fun _ S Q => Q d S
section
variable {X : Cx} {e a b c : Expr} {es : List Expr} {t ta tb tc : DE} {pos : Pos}
theorem q_var {i : Nat} (h : PE X e (tVar i)) : QE X e (dVar i) := pe_weak h fun σ H Q ⟨B, ρ, S, m, Qd, at_, q, k⟩ => by
  obtain ⟨d, e1, q⟩ := wh_of q
  obtain ⟨v, e2, dv⟩ := at_.fr.get _ _ _ _ e1
  exact ⟨v, e2, k d S v H m q Evo.refl at_.wd dv⟩
inductive Dc : V → PyData → Prop
  | non : Dc .non .none
  | bl (b : Bool) : Dc (.bl b) (.bool b)
  | int (i : Int) : Dc (.int i) (.int i)
  | str (x : Str) : Dc (.str x) (.str x)
  | glo (a : Addr) : Dc (.ref a) (glo a)
theorem Dc.dv {K : PySem.W.Frag} {m : Mp} {H : Hp} {v : V} {d : PyData} (h : Dc v d) : Dv K m H v d := by
  cases h
  · exact .non
  · exact .bl _
  · exact .int _
  · exact .str _
  · exact .glo _
theorem q_con {v : V} {d : PyData} (h : PE X e (tC v)) (hd : Dc v d) : QE X e (dC d) := pe_weak h fun σ H Q ⟨B, ρ, S, m, Qd, at_, q, k⟩ => k d S v H m q Evo.refl at_.wd hd.dv
theorem q_int {i : Int} {j} : QE X (.Constant (.int i) j pos) (dC (.int i)) := q_con pe_int (.int i)
theorem q_bl {i : Bool} {j} : QE X (.Constant (.bool i) j pos) (dC (.bool i)) := q_con pe_bl (.bl i)
theorem q_str {x : Str} {j} : QE X (.Constant (.str x) j pos) (dC (.str x)) := q_con pe_str (.str x)
theorem q_non {j} : QE X (.Constant .none j pos) (dC .none) := q_con pe_non .non
/-! operators -/
abbrev D2 := PyData → PyData → Sto → DK → Prop
def dOp (f : D2) (ta tb : DE) : DE := fun ρ S Q => ta ρ S fun a S1 => tb ρ S1 fun b S2 => f a b S2 Q
def Snd2 (K : PySem.W.Frag) (f : D2) (r : R2) : Prop := ∀ (m : Mp) (H : Hp) (S : Sto) (x y : V) (a b : PyData) (Q : VK) (Qd : DK), Wd K m H S → Dv K m H x a → Dv K m H y b → f a b S Qd → Kq K m H Q Qd → r x y H Q
theorem bin2 {K : PySem.W.Frag} {f : D2} {r : R2} (hs : Snd2 K f r) {σ : L2.St} {H : Hp} {Q : VK} (h : lft K (dOp f ta tb) σ H Q) : tOp r (lft K ta) (lft K tb) σ H Q := by
  obtain ⟨B, ρ, S, m, Qd, at_, q, k⟩ := h
  refine ⟨B, ρ, S, m, _, at_, q, fun a S1 x H1 m1 q1 e1 w1 d1 => ⟨B, ρ, S1, m1, _, at_.step e1 w1, q1, fun b S2 y H2 m2 q2 e2 w2 d2 => ?_⟩⟩
  exact hs m2 H2 S2 x y a b Q Qd w2 (d1.up e2) d2 q2 ((k.up e1).up e2)
theorem q_op {op : Operator} {r : R2} {f : D2} (ho : OpR X (binaryOp op) r) (hs : Snd2 X.K f r) (ha : QE X a ta) (hb : QE X b tb) : QE X (.BinOp a op b pos) (dOp f ta tb) := pe_weak (pe_op ho ha hb) fun _ _ _ h => bin2 hs h
theorem q_cmp {op : CmpOp} {r : R2} {f : D2} (ho : OpR X (compareOp op) r) (hs : Snd2 X.K f r) (ha : QE X a ta) (hb : QE X b tb) (hm : behindInMarks op b = false) : QE X (.Compare a [op] [b] pos) (dOp f ta tb) := pe_weak (pe_cmpR ho ha hb hm) fun _ _ _ h => bin2 hs h
theorem q_ix {r : R2} {f : D2} (hr : IxR X r) (hs : Snd2 X.K f r) (ha : QE X a ta) (hb : QE X b tb) (hp : PlainIx b) : QE X (.Subscript a b pos) (dOp f ta tb) := pe_weak (pe_ix hr ha hb hp) fun _ _ _ h => bin2 hs h
/-- two ints -/
def dI2 (g : Int → Int → PyData) : D2
  | .int i, .int j, S, Q => Q (g i j) S
  | _, _, _, _ => False
def dI2c (c : Int → Int → Prop) (g : Int → Int → PyData) : D2
  | .int i, .int j, S, Q => c i j ∧ Q (g i j) S
  | _, _, _, _ => False
theorem snd_I2 {K : PySem.W.Frag} {g : Int → Int → PyData} {gv : Int → Int → V} (hg : ∀ i j, Dc (gv i j) (g i j)) : Snd2 K (dI2 g) (rI0 gv) := fun m H S x y a b Q Qd w dx dy h k => by
  cases dx with
  | int i =>
    cases dy with
    | int j => exact ⟨i, j, rfl, rfl, k _ _ _ _ _ h Evo.refl w (hg i j).dv⟩
    | _ => exact False.elim h
  | _ => exact False.elim h
theorem snd_I2c {K : PySem.W.Frag} {c : Int → Int → Prop} {g : Int → Int → PyData} {gv : Int → Int → V} (hg : ∀ i j, Dc (gv i j) (g i j)) : Snd2 K (dI2c c g) (rI c gv) := fun m H S x y a b Q Qd w dx dy h k => by
  cases dx with
  | int i =>
    cases dy with
    | int j => exact ⟨i, j, rfl, rfl, h.1, k _ _ _ _ _ h.2 Evo.refl w (hg i j).dv⟩
    | _ => exact False.elim h
  | _ => exact False.elim h
/-- + -/
def dAdd : D2
  | .int i, .int j, S, Q => Q (.int (i + j)) S
  | .str x, .str y, S, Q => x.length + y.length ≤ 1000000 ∧ Q (.str (x ++ y)) S
  | .tuple xs, .tuple ys, S, Q => xs.length + ys.length ≤ 1000000 ∧ Q (.tuple (xs ++ ys)) S
  | .list xs, .list ys, S, Q => xs.length + ys.length ≤ 1000000 ∧ Q (.list (xs ++ ys)) S
  | _, _, _, _ => False
theorem line_of {n : Nat} (h : n ≤ 1000000) : n ≤ sizeLine := by
  rw [sizeLine_eq]
  omega
/-- what + is, by values -/
def rAdd (K : PySem.W.Frag) : R2 := fun x y H Q => (rI0 (fun i j => .int (i + j)) x y H Q ∨ ∃ i j, x = .str i ∧ y = .str j ∧ i.length + j.length ≤ sizeLine ∧ Q (.str (i ++ j)) H) ∨ (rCatA K x y H Q ∨ rCat x y H Q)
theorem op_addD : OpR X (binaryOp .Add) (rAdd X.K) := (op_add.or op_add_str).or (op_catA.or op_cat)
theorem snd_add {K : PySem.W.Frag} : Snd2 K dAdd (rAdd K) := fun m H S x y a b Q Qd w dx dy h k => by
  cases a <;> cases b <;> first | exact False.elim h | skip
  · cases dx
    cases dy
    exact .inl (.inl ⟨_, _, rfl, rfl, k _ _ _ _ _ h Evo.refl w (.int _)⟩)
  · cases dx
    cases dy
    exact .inl (.inr ⟨_, _, rfl, rfl, line_of h.1, k _ _ _ _ _ h.2 Evo.refl w (.str _)⟩)
  · obtain ⟨p, xs, rfl, hx, nx, ax⟩ := dx.seqL
    obtain ⟨q, ys, rfl, hy, ny, ay⟩ := dy.seqL
    have lx := ax.len
    have ly := ay.len
    refine .inr (.inr ⟨p, q, xs, ys, rfl, rfl, hx, hy, by rw [lx, ly]; exact line_of h.1, fun r hr => ?_⟩)
    exact k _ _ _ _ _ h.2 (Evo.new w hr) (w.new hr) (.lst upd_same (w.noCe hr) ((ax.app ay).up (Evo.new w hr)))
  · obtain ⟨p, xs, rfl, hx, ax⟩ := dx.seqT
    obtain ⟨q, ys, rfl, hy, ay⟩ := dy.seqT
    have lx := ax.len
    have ly := ay.len
    refine .inr (.inl ⟨p, q, xs, ys, rfl, rfl, hx, hy, by rw [lx, ly]; exact line_of h.1, fun e => ?_, fun _ e => ?_, fun _ _ r hr => ?_⟩)
    · subst e
      cases ax
      exact k _ _ _ _ _ h.2 Evo.refl w dy
    · subst e
      cases ay
      refine k _ _ _ _ _ h.2 Evo.refl w ?_
      rw [List.append_nil]
      exact dx
    · exact k _ _ _ _ _ h.2 (Evo.new w hr) (w.new hr) (.tup upd_same (w.noCe hr) ((ax.app ay).up (Evo.new w hr)))
abbrev dSub : D2 := dI2 fun i j => .int (i - j)
abbrev dMul : D2 := dI2c CMul fun i j => .int (i * j)
abbrev dMulW : D2 := dI2c CMulW fun i j => .int (i * j)
abbrev dMod : D2 := dI2c (fun _ j => 0 < j) fun i j => .int (i % j)
abbrev dDiv : D2 := dI2c CDiv fun i j => .int (i / j)
abbrev dDivW : D2 := dI2c CDivW fun i j => .int (i / j)
abbrev dPow : D2 := dI2c CPow fun i j => .int (i ^ j.toNat)
theorem q_add (ha : QE X a ta) (hb : QE X b tb) : QE X (.BinOp a .Add b pos) (dOp dAdd ta tb) := q_op op_addD snd_add ha hb
theorem q_sub (ha : QE X a ta) (hb : QE X b tb) : QE X (.BinOp a .Sub b pos) (dOp dSub ta tb) := q_op op_sub (snd_I2 fun _ _ => .int _) ha hb
theorem q_mul (ha : QE X a ta) (hb : QE X b tb) : QE X (.BinOp a .Mult b pos) (dOp dMul ta tb) := q_op op_mul (snd_I2c fun _ _ => .int _) ha hb
theorem q_mulW (ha : QE X a ta) (hb : QE X b tb) : QE X (.BinOp a .Mult b pos) (dOp dMulW ta tb) := q_op op_mulW (snd_I2c fun _ _ => .int _) ha hb
theorem q_mod (ha : QE X a ta) (hb : QE X b tb) : QE X (.BinOp a .Mod b pos) (dOp dMod ta tb) := q_op op_mod (snd_I2c fun _ _ => .int _) ha hb
theorem q_div (ha : QE X a ta) (hb : QE X b tb) : QE X (.BinOp a .FloorDiv b pos) (dOp dDiv ta tb) := q_op op_fdiv (snd_I2c fun _ _ => .int _) ha hb
theorem q_divW (ha : QE X a ta) (hb : QE X b tb) : QE X (.BinOp a .FloorDiv b pos) (dOp dDivW ta tb) := q_op op_fdivW (snd_I2c fun _ _ => .int _) ha hb
theorem q_pow (ha : QE X a ta) (hb : QE X b tb) : QE X (.BinOp a .Pow b pos) (dOp dPow ta tb) := q_op op_pow (snd_I2c fun _ _ => .int _) ha hb
/-! order of ints -/
theorem snd_lt {K : PySem.W.Frag} {p : Int → Int → Bool} : Snd2 K (dI2 fun i j => .bool (p i j)) (rI0 fun i j => .bl (p i j)) := snd_I2 fun _ _ => .bl _
abbrev dLt : D2 := dI2 fun i j => .bool (decide (i < j))
abbrev dLe : D2 := dI2 fun i j => .bool (decide (i ≤ j))
abbrev dGt : D2 := dI2 fun i j => .bool (decide (j < i))
abbrev dGe : D2 := dI2 fun i j => .bool (decide (j ≤ i))
/-! equality: of plain values at once; else of data -/
def scalD : PyData → Bool
  | .none => true
  | .bool _ => true
  | .int _ => true
  | .str _ => true
  | _ => false
def eqOk (a b : PyData) : Prop := (scalD a = true ∧ scalD b = true ∧ (∀ x y, a = .bool x → b ≠ .int y) ∧ (∀ x y, a = .int x → b ≠ .bool y)) ∨ (SeqAt.shaped a = true ∧ SeqAt.shaped b = true)
def dEq : D2 := fun a b S Q => eqOk a b ∧ Q (.bool (PyData.eqv a b)) S
def dNe : D2 := fun a b S Q => eqOk a b ∧ Q (.bool (!PyData.eqv a b)) S
theorem eq_scal {K : PySem.W.Frag} {m : Mp} {H : Hp} {x y : V} {a b : PyData} (dx : Dv K m H x a) (dy : Dv K m H y b) (h : scalD a = true ∧ scalD b = true ∧ (∀ x y, a = .bool x → b ≠ .int y) ∧ (∀ x y, a = .int x → b ≠ .bool y)) : scal x y = true ∧ decide (x = y) = PyData.eqv a b := by
  obtain ⟨h1, h2, h3, h4⟩ := h
  cases dx with
  | lst _ _ _ => cases h1
  | tup _ _ _ => cases h1
  | con _ _ => cases h1
  | cel _ => cases h1
  | glo _ => cases h1
  | frz => cases h1
  | ins => cases h1
  | exd => cases h1
  | non =>
    cases dy with
    | lst _ _ _ => cases h2
    | tup _ _ _ => cases h2
    | con _ _ => cases h2
    | cel _ => cases h2
    | glo _ => cases h2
    | frz => cases h2
    | ins => cases h2
    | exd => cases h2
    | non => exact ⟨rfl, rfl⟩
    | bl j => exact ⟨rfl, rfl⟩
    | int j => exact ⟨rfl, rfl⟩
    | str j => exact ⟨rfl, rfl⟩
  | bl i =>
    cases dy with
    | lst _ _ _ => cases h2
    | tup _ _ _ => cases h2
    | con _ _ => cases h2
    | cel _ => cases h2
    | glo _ => cases h2
    | frz => cases h2
    | ins => cases h2
    | exd => cases h2
    | non => exact ⟨rfl, rfl⟩
    | bl j => exact ⟨rfl, by
        show decide (V.bl i = V.bl j) = (i == j)
        rw [dec_bl]⟩
    | int j => exact absurd rfl (h3 i j rfl)
    | str j => exact ⟨rfl, rfl⟩
  | int i =>
    cases dy with
    | lst _ _ _ => cases h2
    | tup _ _ _ => cases h2
    | con _ _ => cases h2
    | cel _ => cases h2
    | glo _ => cases h2
    | frz => cases h2
    | ins => cases h2
    | exd => cases h2
    | non => exact ⟨rfl, rfl⟩
    | bl j => exact absurd rfl (h4 i j rfl)
    | int j => exact ⟨rfl, by
        show decide (V.int i = V.int j) = (i == j)
        rw [dec_int]⟩
    | str j => exact ⟨rfl, rfl⟩
  | str i =>
    cases dy with
    | lst _ _ _ => cases h2
    | tup _ _ _ => cases h2
    | con _ _ => cases h2
    | cel _ => cases h2
    | glo _ => cases h2
    | frz => cases h2
    | ins => cases h2
    | exd => cases h2
    | non => exact ⟨rfl, rfl⟩
    | bl j => exact ⟨rfl, rfl⟩
    | int j => exact ⟨rfl, rfl⟩
    | str j => exact ⟨rfl, by
        show decide (V.str i = V.str j) = (i == j)
        by_cases e : i = j
        · subst e; simp
        · rw [decide_eq_false fun z => e (V.str.inj z)]
          exact (beq_eq_false_iff_ne.mpr e).symm⟩
theorem Dv.dp {K : PySem.W.Frag} {m : Mp} {H : Hp} {x : V} {a : PyData} (h : Dv K m H x a) (p : a.canLay0 = true) : Dp K H x a := (Dv.dm a x (layPure a p) h).dp
theorem snd_eq {K : PySem.W.Frag} : Snd2 K dEq (fun x y H Q => rEq x y H Q ∨ rEqD K x y H Q) := fun m H S x y a b Q Qd w dx dy h k => by
  obtain ⟨h1, h2⟩ := h
  rcases h1 with h1 | ⟨h3, h4⟩
  · obtain ⟨e1, e2⟩ := eq_scal dx dy h1
    exact .inl ⟨e1, k _ _ _ _ _ h2 Evo.refl w (by rw [e2]; exact .bl _)⟩
  · exact .inr ⟨a, b, dx.dp (SeqAt.canLay_of_shaped h3), dy.dp (SeqAt.canLay_of_shaped h4), h3, h4, k _ _ _ _ _ h2 Evo.refl w (.bl _)⟩
theorem snd_ne {K : PySem.W.Frag} : Snd2 K dNe (fun x y H Q => rNe x y H Q ∨ rNeD K x y H Q) := fun m H S x y a b Q Qd w dx dy h k => by
  obtain ⟨h1, h2⟩ := h
  rcases h1 with h1 | ⟨h3, h4⟩
  · obtain ⟨e1, e2⟩ := eq_scal dx dy h1
    exact .inl ⟨e1, k _ _ _ _ _ h2 Evo.refl w (by rw [e2]; exact .bl _)⟩
  · exact .inr ⟨a, b, dx.dp (SeqAt.canLay_of_shaped h3), dy.dp (SeqAt.canLay_of_shaped h4), h3, h4, k _ _ _ _ _ h2 Evo.refl w (.bl _)⟩
/-- is None -/
def isNon : PyData → Bool
  | .none => true
  | _ => false
def dIsN : D2 := fun a b S Q => Q (.bool (isNon a)) S
def dNotN : D2 := fun a b S Q => Q (.bool (!isNon a)) S
/-- one sign in a text -/
def dInS : D2
  | .str x, .str z, S, Q => wh (match x.cps.toList with | [c] => some c | _ => none) fun c => Q (.bool (decide (c ∈ z.cps.toList))) S
  | _, _, _, _ => False
def dNotInS : D2
  | .str x, .str z, S, Q => wh (match x.cps.toList with | [c] => some c | _ => none) fun c => Q (.bool (!decide (c ∈ z.cps.toList))) S
  | _, _, _, _ => False
/-! what stands in a sequence -/
def itemsD (S : Sto) : PyData → Option (List PyData)
  | .tuple ds => some ds
  | .list ds => some ds
  | .dict [(.none, .tuple ds)] => some ds
  | .dict [(.int (.ofNat n), .none)] => (S n).bind fun c => match c with
    | .lst ds => some ds
    | _ => none
  | _ => none
theorem items_cel {S : Sto} {n : Nat} {ds : List PyData} (h : S n = some (.lst ds)) : itemsD S (cel n) = some ds := by
  show (S n).bind _ = _
  rw [h]
  rfl
def isTupD : PyData → Bool
  | .tuple _ => true
  | .dict [(.none, .tuple _)] => true
  | _ => false
theorem Dv.items2 {K : PySem.W.Frag} {m : Mp} {H : Hp} {S : Sto} {x : V} {d : PyData} {ds : List PyData} (w : Wd K m H S) (dx : Dv K m H x d) (h : itemsD S d = some ds) : ∃ a xs, x = .ref a ∧ ((isTupD d = false ∧ SqL K H a xs) ∨ (isTupD d = true ∧ SqT K H a xs)) ∧ DvAll K m H xs ds := by
  cases dx with
  | non => cases h
  | bl _ => cases h
  | int _ => cases h
  | str _ => cases h
  | glo _ => cases h
  | ins => cases h
  | exd => cases h
  | frz e _ n a =>
    cases h
    exact ⟨_, _, rfl, .inr ⟨rfl, .inl (.inr ⟨_, e⟩)⟩, a⟩
  | lst e n a =>
    cases h
    exact ⟨_, _, rfl, .inl ⟨rfl, SqL.of e⟩, a⟩
  | tup e n a =>
    cases h
    exact ⟨_, _, rfl, .inr ⟨rfl, SqT.of e⟩, a⟩
  | con e a =>
    cases h
    exact ⟨_, _, rfl, .inr ⟨rfl, e.sq⟩, a⟩
  | @cel a n e =>
    have h' : (S n).bind (fun c => match c with
      | .lst ds => some ds
      | _ => none) = some ds := h
    cases hs : S n with
    | none => rw [hs] at h'; cases h'
    | some c =>
      rw [hs] at h'
      cases c with
      | lst es =>
        cases h'
        obtain ⟨a', xs, e1, e2, e3⟩ := w.lst hs
        rw [e] at e1
        cases e1
        exact ⟨_, _, rfl, .inl ⟨rfl, SqL.of e2⟩, e3⟩
      | ins _ _ => cases h'
      | dk _ => cases h'
      | dt _ => cases h'
theorem Dv.items {K : PySem.W.Frag} {m : Mp} {H : Hp} {S : Sto} {x : V} {d : PyData} {ds : List PyData} (w : Wd K m H S) (dx : Dv K m H x d) (h : itemsD S d = some ds) : ∃ a xs, x = .ref a ∧ (SqL K H a xs ∨ SqT K H a xs) ∧ DvAll K m H xs ds := by
  obtain ⟨a, xs, e, q, al⟩ := dx.items2 w h
  exact ⟨a, xs, e, q.elim (fun z => .inl z.2) (fun z => .inr z.2), al⟩
def isStrD : PyData → Option Str
  | .str z => some z
  | _ => none
/-- o[i] -/
def dIx : D2
  | .str z, .int i, S, Q => z.length ≤ 1000000 ∧ wh (atI z.cps.toList i) fun c => Q (.str ⟨#[c]⟩) S
  | o, .int i, S, Q => wh (itemsD S o) fun ds => wh (atI ds i) fun d => Q d S
  | _, _, _, _ => False
theorem atI_dv {K : PySem.W.Frag} {m : Mp} {H : Hp} {xs : List V} {ds : List PyData} {i : Int} {d : PyData} (h : DvAll K m H xs ds) (e : atI ds i = some d) : ∃ v, atI xs i = some v ∧ Dv K m H v d := by
  unfold atI at e ⊢
  rw [h.len]
  cases hn : ixN ds.length i with
  | none => rw [hn] at e; cases e
  | some j =>
    rw [hn] at e
    exact h.get e
theorem snd_ixs {K : PySem.W.Frag} {m : Mp} {H : Hp} {S : Sto} {x : V} {a : PyData} {i : Int} {Q : VK} {Qd : DK} (w : Wd K m H S) (dx : Dv K m H x a) (h : wh (itemsD S a) fun ds => wh (atI ds i) fun d => Qd d S) (k : Kq K m H Q Qd) : rIx K x (.int i) H Q := by
  obtain ⟨ds, h1, h2⟩ := wh_of h
  obtain ⟨d, h3, h4⟩ := wh_of h2
  obtain ⟨p, xs, rfl, hq, al⟩ := dx.items w h1
  obtain ⟨v, e, dv⟩ := atI_dv al h3
  rcases hq with hq | hq
  · exact .inl ⟨p, xs, i, v, rfl, rfl, hq, e, k _ _ _ _ _ h4 Evo.refl w dv⟩
  · exact .inr (.inl ⟨p, xs, i, v, rfl, rfl, hq, e, k _ _ _ _ _ h4 Evo.refl w dv⟩)
theorem snd_ix {K : PySem.W.Frag} : Snd2 K dIx (rIx K) := fun m H S x y a b Q Qd w dx dy h k => by
  cases b with
  | int i =>
    cases dy
    cases a with
    | str z =>
      cases dx
      obtain ⟨h1, h2⟩ := h
      obtain ⟨c, h3, h4⟩ := wh_of h2
      exact .inr (.inr ⟨z, i, c, rfl, rfl, line_of h1, h3, k _ _ _ _ _ h4 Evo.refl w (.str _)⟩)
    | none => exact snd_ixs w dx h k
    | bool _ => exact snd_ixs w dx h k
    | int _ => exact snd_ixs w dx h k
    | list _ => exact snd_ixs w dx h k
    | tuple _ => exact snd_ixs w dx h k
    | dict _ => exact snd_ixs w dx h k
  | _ => cases a <;> exact False.elim h
theorem q_at (ha : QE X a ta) (hb : QE X b tb) (hp : PlainIx b) : QE X (.Subscript a b pos) (dOp dIx ta tb) := q_ix ix_seq snd_ix ha hb hp
end
end K3

/-! the plain layer: tests, displays, slices, built-in calls -/
namespace K3
open PySem L2 Xr K1
section
variable {X : Cx} {e a b c : Expr} {es rest : List Expr} {t ta tb tc : DE} {u v : DT} {pos : Pos}
/-! comparisons -/
def dIs (g : PyData → Bool) : D2
  | a, .none, S, Q => Q (.bool (g a)) S
  | _, _, _, _ => False
theorem isNon_eq {K : PySem.W.Frag} {m : Mp} {H : Hp} {x : V} {a : PyData} (dx : Dv K m H x a) : decide (x = .non) = isNon a := by
  cases dx <;> rfl
theorem snd_isN {K : PySem.W.Frag} : Snd2 K (dIs isNon) (fun x y H Q => y = .non ∧ Q (.bl (decide (x = .non))) H) := fun m H S x y a b Q Qd w dx dy h k => by
  cases b with
  | none =>
    cases dy
    exact ⟨rfl, k _ _ _ _ _ h Evo.refl w (by rw [isNon_eq dx]; exact .bl _)⟩
  | _ => exact False.elim h
theorem snd_notN {K : PySem.W.Frag} : Snd2 K (dIs fun d => !isNon d) (fun x y H Q => y = .non ∧ Q (.bl (!decide (x = .non))) H) := fun m H S x y a b Q Qd w dx dy h k => by
  cases b with
  | none =>
    cases dy
    exact ⟨rfl, k _ _ _ _ _ h Evo.refl w (by rw [isNon_eq dx]; exact .bl _)⟩
  | _ => exact False.elim h
theorem one_of {l : List Nat} {k : Nat → Prop} (h : wh (match l with | [c] => some c | _ => none) k) : ∃ c, l = [c] ∧ k c := by
  match l, h with
  | [c], h => exact ⟨c, rfl, h⟩
theorem str_one {x : Str} {c : Nat} (h : x.cps.toList = [c]) : x = ⟨#[c]⟩ := by
  obtain ⟨a⟩ := x
  have : a = #[c] := by
    apply Array.ext'
    exact h
  rw [this]
theorem snd_inS {K : PySem.W.Frag} : Snd2 K dInS (fun x y H Q => ∃ (c : Nat) (z : Str), x = .str ⟨#[c]⟩ ∧ y = .str z ∧ Q (.bl (decide (c ∈ z.cps.toList))) H) := fun m H S x y a b Q Qd w dx dy h k => by
  cases a <;> cases b <;> first | exact False.elim h | skip
  cases dx
  cases dy
  obtain ⟨c, e, q⟩ := one_of h
  exact ⟨c, _, by rw [str_one e], rfl, k _ _ _ _ _ q Evo.refl w (.bl _)⟩
theorem snd_notInS {K : PySem.W.Frag} : Snd2 K dNotInS (fun x y H Q => ∃ (c : Nat) (z : Str), x = .str ⟨#[c]⟩ ∧ y = .str z ∧ Q (.bl (!decide (c ∈ z.cps.toList))) H) := fun m H S x y a b Q Qd w dx dy h k => by
  cases a <;> cases b <;> first | exact False.elim h | skip
  cases dx
  cases dy
  obtain ⟨c, e, q⟩ := one_of h
  exact ⟨c, _, by rw [str_one e], rfl, k _ _ _ _ _ q Evo.refl w (.bl _)⟩
/-! tests -/
def boolD : PyData → Option Bool
  | .bool b => some b
  | _ => none
def dB (t : DE) : DT := fun ρ S Q => t ρ S fun d S1 => wh (boolD d) fun b => Q b S1
theorem boolD_dv {K : PySem.W.Frag} {m : Mp} {H : Hp} {x : V} {d : PyData} {b : Bool} (dx : Dv K m H x d) (h : boolD d = some b) : x = .bl b := by
  cases dx <;> first | cases h; rfl | cases h
theorem qt_cmp {op : CmpOp} {r : R2} {f : D2} (ho : OpR X (compareOp op) r) (hs : Snd2 X.K f r) (ha : QE X a ta) (hb : QE X b tb) (hm : behindInMarks op b = false) : QT X (.Compare a [op] [b] pos) (dB (dOp f ta tb)) := pt_weak (pt_cmpR ho ha hb hm) fun σ H Q h => by
  obtain ⟨B, ρ, S, m, Qd, at_, q, k⟩ := h
  refine bin2 (f := f) hs ⟨B, ρ, S, m, _, at_, q, fun d S' v H' m' q' e w dv => ?_⟩
  obtain ⟨b, e1, q1⟩ := wh_of q'
  exact ⟨b, boolD_dv dv e1, k b S' H' m' q1 e w⟩
def truD (S : Sto) : PyData → Option Bool
  | .none => some false
  | .bool b => some b
  | .int i => some (i != 0)
  | .str z => if z.length ≤ 1000000 then some ((z.length : Int) != 0) else none
  | .dict [(.int (.ofNat n), .none)] => (S n).bind fun c => match c with
    | .lst ds => some !ds.isEmpty
    | .dk kvs => some !kvs.isEmpty
    | .dt kvs => none
    | .ins _ _ => none
  | .dict [(.none, .tuple ds)] => some !ds.isEmpty
  | .dict _ => none
  | .list ds => some !ds.isEmpty
  | .tuple ds => some !ds.isEmpty
theorem empty_dv {K : PySem.W.Frag} {m : Mp} {H : Hp} {xs : List V} {ds : List PyData} (h : DvAll K m H xs ds) : (!ds.isEmpty) = !xs.isEmpty := by cases h <;> rfl
theorem tru_dv {K : PySem.W.Frag} {m : Mp} {H : Hp} {S : Sto} {x : V} {d : PyData} {b : Bool} (w : Wd K m H S) (dx : Dv K m H x d) (h : truD S d = some b) : TruV K x H b := by
  cases dx with
  | non => cases h; rfl
  | bl b => cases h; rfl
  | int i => cases h; rfl
  | str z =>
    have h' : (if z.length ≤ 1000000 then some ((z.length : Int) != 0) else none) = some b := h
    split at h'
    · rename_i l
      cases h'
      exact ⟨line_of l, rfl⟩
    · cases h'
  | glo a => cases h
  | ins => cases h
  | exd => cases h
  | frz e _ n al =>
    cases h
    exact .inr (.inl ⟨_, .inl (.inr ⟨_, e⟩), empty_dv al⟩)
  | lst e n al =>
    cases h
    exact .inl ⟨_, SqL.of e, empty_dv al⟩
  | tup e n al =>
    cases h
    exact .inr (.inl ⟨_, SqT.of e, empty_dv al⟩)
  | con e al =>
    cases h
    exact .inr (.inl ⟨_, e.sq, empty_dv al⟩)
  | @cel a n e =>
    cases hs : S n with
    | none =>
      have h' : (S n).bind _ = some b := h
      rw [hs] at h'
      cases h'
    | some c =>
      have h' : (S n).bind _ = some b := h
      rw [hs] at h'
      obtain ⟨a', e1, cr⟩ := w.has n c hs
      rw [e] at e1
      cases e1
      cases c with
      | lst ds =>
        cases h'
        obtain ⟨xs, e2, al⟩ := cr
        exact .inl ⟨xs, SqL.of e2, empty_dv al⟩
      | dk kvs =>
        cases h'
        obtain ⟨gs, e2, e3, al⟩ := cr
        refine .inr (.inr ⟨gs, e2, ?_⟩)
        have l := congrArg List.length e3
        rw [List.length_map, List.length_map] at l
        cases kvs <;> cases gs <;> first | rfl | cases l
      | dt kvs => cases h'
      | ins _ _ => cases h'
def dTru (t : DE) : DT := fun ρ S Q => t ρ S fun d S1 => wh (truD S1 d) fun b => Q b S1
theorem qt_tru (ha : QE X a ta) (he : ∀ whole, isTrue a X.env whole = (do let v ← whole; standAt a.pos; holding [v] (truthy v))) : QT X a (dTru ta) := pt_weak (pt_truth ha he) fun σ H Q h => by
  obtain ⟨B, ρ, S, m, Qd, at_, q, k⟩ := h
  refine ⟨B, ρ, S, m, _, at_, q, fun d S' v H' m' q' e w dv => ?_⟩
  obtain ⟨b, e1, q1⟩ := wh_of q'
  exact ⟨b, tru_dv w dv e1, k b S' H' m' q1 e w⟩
def dtNot (u : DT) : DT := fun ρ S Q => u ρ S fun b S1 => Q (!b) S1
def dtAnd (u v : DT) : DT := fun ρ S Q => u ρ S fun b S1 => if b = true then v ρ S1 Q else Q false S1
def dtOr (u v : DT) : DT := fun ρ S Q => u ρ S fun b S1 => if b = true then Q true S1 else v ρ S1 Q
theorem qt_not (ha : QT X a u) : QT X (.UnaryOp .Not a pos) (dtNot u) := pt_weak (pt_not ha) fun σ H Q ⟨B, ρ, S, m, Qd, at_, q, k⟩ => ⟨B, ρ, S, m, _, at_, q, fun b S' H' m' q e w => k _ S' H' m' q e w⟩
theorem qw_and1 (ha : QT X a u) : QW X (.BoolOp .And [a] pos) u := pw_and1 ha
theorem qw_or1 (ha : QT X a u) : QW X (.BoolOp .Or [a] pos) u := pw_or1 ha
theorem qw_and (ha : QT X a u) (hb : QW X (.BoolOp .And (b :: rest) pos) v) : QW X (.BoolOp .And (a :: b :: rest) pos) (dtAnd u v) := pw_weak (pw_and ha hb) fun σ H Q ⟨B, ρ, S, m, Qd, at_, q, k⟩ => ⟨B, ρ, S, m, _, at_, q, fun b S' H' m' q e w => by
  cases b with
  | true => exact iteT ⟨B, ρ, S', m', Qd, at_.step e w, q, k.up e⟩
  | false => exact iteF (k _ S' H' m' q e w)⟩
theorem qw_or (ha : QT X a u) (hb : QW X (.BoolOp .Or (b :: rest) pos) v) : QW X (.BoolOp .Or (a :: b :: rest) pos) (dtOr u v) := pw_weak (pw_or ha hb) fun σ H Q ⟨B, ρ, S, m, Qd, at_, q, k⟩ => ⟨B, ρ, S, m, _, at_, q, fun b S' H' m' q e w => by
  cases b with
  | true => exact iteT (k _ S' H' m' q e w)
  | false => exact iteF ⟨B, ρ, S', m', Qd, at_.step e w, q, k.up e⟩⟩
/-! and, or, not of bools as values -/
def dAnd (ta tb : DE) : DE := fun ρ S Q => ta ρ S fun d S1 => wh (boolD d) fun c => if c = true then tb ρ S1 Q else Q (.bool false) S1
def dOr (ta tb : DE) : DE := fun ρ S Q => ta ρ S fun d S1 => wh (boolD d) fun c => if c = true then Q (.bool true) S1 else tb ρ S1 Q
def dNot (ta : DE) : DE := fun ρ S Q => ta ρ S fun d S1 => wh (boolD d) fun c => Q (.bool (!c)) S1
theorem q_one {op} (h : QE X a ta) : QE X (.BoolOp op [a] pos) ta := pe_one h
theorem q_and (ha : QE X a ta) (hb : QE X (.BoolOp .And (b :: rest) pos) tb) : QE X (.BoolOp .And (a :: b :: rest) pos) (dAnd ta tb) := pe_weak (pe_and ha hb) fun σ H Q ⟨B, ρ, S, m, Qd, at_, q, k⟩ => ⟨B, ρ, S, m, _, at_, q, fun d S' v H' m' q e w dv => by
  obtain ⟨c, e1, q⟩ := wh_of q
  refine ⟨c, boolD_dv dv e1, ?_⟩
  cases c with
  | true => exact iteT ⟨B, ρ, S', m', Qd, at_.step e w, q, k.up e⟩
  | false => exact iteF (k _ S' _ H' m' q e w (.bl _))⟩
theorem q_or (ha : QE X a ta) (hb : QE X (.BoolOp .Or (b :: rest) pos) tb) : QE X (.BoolOp .Or (a :: b :: rest) pos) (dOr ta tb) := pe_weak (pe_or ha hb) fun σ H Q ⟨B, ρ, S, m, Qd, at_, q, k⟩ => ⟨B, ρ, S, m, _, at_, q, fun d S' v H' m' q e w dv => by
  obtain ⟨c, e1, q⟩ := wh_of q
  refine ⟨c, boolD_dv dv e1, ?_⟩
  cases c with
  | true => exact iteT (k _ S' _ H' m' q e w (.bl _))
  | false => exact iteF ⟨B, ρ, S', m', Qd, at_.step e w, q, k.up e⟩⟩
theorem q_not (ha : QE X a ta) : QE X (.UnaryOp .Not a pos) (dNot ta) := pe_weak (pe_not ha) fun σ H Q ⟨B, ρ, S, m, Qd, at_, q, k⟩ => ⟨B, ρ, S, m, _, at_, q, fun d S' v H' m' q e w dv => by
  obtain ⟨c, e1, q⟩ := wh_of q
  exact ⟨c, boolD_dv dv e1, k _ S' _ H' m' q e w (.bl _)⟩⟩
def dIfE (u : DT) (ta tb : DE) : DE := fun ρ S Q => u ρ S fun c S1 => if c = true then ta ρ S1 Q else tb ρ S1 Q
theorem q_if (hc : QT X c u) (ha : QE X a ta) (hb : QE X b tb) : QE X (.IfExp c a b pos) (dIfE u ta tb) := pe_weak (pe_ifExp hc ha hb) fun σ H Q ⟨B, ρ, S, m, Qd, at_, q, k⟩ => ⟨B, ρ, S, m, _, at_, q, fun c S' H' m' q e w => by
  cases c with
  | true => exact iteT ⟨B, ρ, S', m', Qd, at_.step e w, q, k.up e⟩
  | false => exact iteF ⟨B, ρ, S', m', Qd, at_.step e w, q, k.up e⟩⟩
def dNeg (ta : DE) : DE := fun ρ S Q => ta ρ S fun d S1 => match d with
  | .int i => Q (.int (-i)) S1
  | _ => False
theorem q_neg (ha : QE X a ta) : QE X (.UnaryOp .USub a pos) (dNeg ta) := pe_weak (pe_un un_neg ha) fun σ H Q ⟨B, ρ, S, m, Qd, at_, q, k⟩ => ⟨B, ρ, S, m, _, at_, q, fun d S' v H' m' q e w dv => by
  cases dv <;> first | exact False.elim q | skip
  exact ⟨_, rfl, k _ S' _ H' m' q e w (.int _)⟩⟩
/-! arguments, displays -/
variable {aa : DA}
def dNil : DA := fun _ S Q => Q [] S
def dCons (t : DE) (aa : DA) : DA := fun ρ S Q => t ρ S fun d S1 => aa ρ S1 fun ds S2 => Q (d :: ds) S2
theorem q_nil : QA X [] dNil := pa_weak pa_nil fun σ H Q ⟨B, ρ, S, m, Qd, at_, q, k⟩ => k [] S [] H m q Evo.refl at_.wd .nil
theorem q_cons (he : QE X e t) (ha : QA X es aa) (hs : starEach (e :: es) X.env = (false, eval e X.env) :: starEach es X.env := by rfl) : QA X (e :: es) (dCons t aa) := pa_weak (pa_cons he ha hs) fun σ H Q ⟨B, ρ, S, m, Qd, at_, q, k⟩ =>
  ⟨B, ρ, S, m, _, at_, q, fun d S' v H' m' q e w dv => ⟨B, ρ, S', m', _, at_.step e w, q, fun ds S2 vs H2 m2 q2 e2 w2 dvs => k _ S2 _ H2 m2 q2 (e.trans e2) w2 (.cons (dv.up e2) dvs)⟩⟩
def dTup (aa : DA) : DE := fun ρ S Q => aa ρ S fun ds S1 => ds.length ≤ 1000000 ∧ Q (.tuple ds) S1
def dLst (aa : DA) : DE := fun ρ S Q => aa ρ S fun ds S1 => ds.length ≤ 1000000 ∧ Q (.list ds) S1
def dCel (aa : DA) : DE := fun ρ S Q => aa ρ S fun ds S1 => ds.length ≤ 1000000 ∧ ∀ n, S1 n = none → Q (cel n) (put S1 n (.lst ds))
theorem Kq.newT {K : PySem.W.Frag} {m : Mp} {H : Hp} {S : Sto} {Q : VK} {Qd : DK} {vs : List V} {ds : List PyData} (k : Kq K m H Q Qd) (w : Wd K m H S) (h : DvAll K m H vs ds) (q : Qd (.tuple ds) S) (p : Addr) (hp : H p = none) : Q (.ref p) (upd H p (.tup vs)) :=
  k _ _ _ _ _ q (Evo.new w hp) (w.new hp) (.tup upd_same (w.noCe hp) (h.up (Evo.new w hp)))
theorem Kq.newL {K : PySem.W.Frag} {m : Mp} {H : Hp} {S : Sto} {Q : VK} {Qd : DK} {vs : List V} {ds : List PyData} (k : Kq K m H Q Qd) (w : Wd K m H S) (h : DvAll K m H vs ds) (q : Qd (.list ds) S) (p : Addr) (hp : H p = none) : Q (.ref p) (upd H p (.lst vs)) :=
  k _ _ _ _ _ q (Evo.new w hp) (w.new hp) (.lst upd_same (w.noCe hp) (h.up (Evo.new w hp)))
theorem Kq.newC {K : PySem.W.Frag} {m : Mp} {H : Hp} {S : Sto} {Q : VK} {Qd : DK} {vs : List V} {ds : List PyData} (k : Kq K m H Q Qd) (w : Wd K m H S) (h : DvAll K m H vs ds) (q : ∀ n, S n = none → Qd (cel n) (put S n (.lst ds))) (p : Addr) (hp : H p = none) : Q (.ref p) (upd H p (.lst vs)) := by
  obtain ⟨n, hn⟩ := w.free
  have e := Evo.alloc (o := .lst vs) w hp hn
  exact k _ _ _ _ _ (q n (w.sfree hn)) e (w.alloc hp hn ⟨vs, upd_same, h.up e⟩) (.cel mput_same)
theorem q_tup {x1} (ha : QA X es aa) : QE X (.Tuple es x1 pos) (dTup aa) := pe_weak (pe_tup ha) fun σ H Q ⟨B, ρ, S, m, Qd, at_, q, k⟩ =>
  ⟨B, ρ, S, m, _, at_, q, fun ds S' vs H' m' q e w dv => ⟨by rw [dv.len]; exact line_of q.1, (k.up e).newT w dv q.2⟩⟩
theorem q_lst (ha : QA X es aa) : QE X (.List es pos) (dLst aa) := pe_weak (pe_lst ha) fun σ H Q ⟨B, ρ, S, m, Qd, at_, q, k⟩ =>
  ⟨B, ρ, S, m, _, at_, q, fun ds S' vs H' m' q e w dv => ⟨by rw [dv.len]; exact line_of q.1, (k.up e).newL w dv q.2⟩⟩
theorem q_cel (ha : QA X es aa) : QE X (.List es pos) (dCel aa) := pe_weak (pe_lst ha) fun σ H Q ⟨B, ρ, S, m, Qd, at_, q, k⟩ =>
  ⟨B, ρ, S, m, _, at_, q, fun ds S' vs H' m' q e w dv => ⟨by rw [dv.len]; exact line_of q.1, (k.up e).newC w dv q.2⟩⟩
/-! slices -/
abbrev DO := Rho → Sto → (Option Int → Sto → Prop) → Prop
def lftO (K : PySem.W.Frag) (t : DO) : TO := fun σ H Q => ∃ B ρ S m Qd, At K B σ H ρ S m ∧ t ρ S Qd ∧ ∀ d S' H' m', Qd d S' → Evo m H m' H' → Wd K m' H' S' → Q d H'
theorem po_weak {e : Option Expr} {t t' : TO} (h : PO X e t) (i : ∀ σ H Q, t' σ H Q → t σ H Q) : PO X e t' := ⟨fun pins s σ H Q I q => h.run pins s σ H Q I (i _ _ _ q)⟩
def dNoP : DO := fun _ S Q => Q none S
def dPart (t : DE) : DO := fun ρ S Q => t ρ S fun d S1 => match d with
  | .int i => Q (some i) S1
  | _ => False
abbrev QO (X : Cx) (e : Option Expr) (t : DO) : Prop := PO X e (lftO X.K t)
theorem qo_none : QO X none dNoP := po_weak po_none fun σ H Q ⟨B, ρ, S, m, Qd, at_, q, k⟩ => k none S H m q Evo.refl at_.wd
theorem qo_some (h : QE X e t) : QO X (some e) (dPart t) := po_weak (po_some h) fun σ H Q ⟨B, ρ, S, m, Qd, at_, q, k⟩ => ⟨B, ρ, S, m, _, at_, q, fun d S' v H' m' q e w dv => by
  cases dv <;> first | exact False.elim q | skip
  exact ⟨_, rfl, k _ S' H' m' q e w⟩⟩
def cutD (ds : List PyData) (lo hi : Option Int) : List PyData := (ds.drop (HT.sIx ds.length 0 lo)).take (HT.sIx ds.length ds.length hi - HT.sIx ds.length 0 lo)
theorem cut_dv {K : PySem.W.Frag} {m : Mp} {H : Hp} {xs : List V} {ds : List PyData} {lo hi : Option Int} (h : DvAll K m H xs ds) : DvAll K m H (cutV xs lo hi) (cutD ds lo hi) := by
  unfold cutV cutD
  rw [h.len]
  exact (h.drop _).take _
theorem cut_all {xs : List PyData} {lo hi : Option Int} (h : HT.sIx xs.length 0 lo = 0 ∧ HT.sIx xs.length xs.length hi = xs.length) : cutD xs lo hi = xs := by
  unfold cutD
  rw [h.1, h.2]
  simp
def dSl (new : Bool) : PyData → Option Int → Option Int → Sto → DK → Prop
  | .str z, lo, hi, S, Q => z.length ≤ 1000000 ∧ Q (.str (cutS z lo hi)) S
  | .tuple ds, lo, hi, S, Q => Q (.tuple (cutD ds lo hi)) S
  | .dict [(.none, .tuple _)], _, _, _, _ => False
  | o, lo, hi, S, Q => wh (itemsD S o) fun ds => if new = true then ∀ n, S n = none → Q (cel n) (put S n (.lst (cutD ds lo hi))) else Q (.list (cutD ds lo hi)) S
theorem dict_nt {kvs : List (PyData × PyData)} (n : ∀ ds, kvs ≠ [(.none, .tuple ds)]) : isTupD (.dict kvs) = false := by
  unfold isTupD
  split
  · rename_i e
    cases e
  · rename_i e
    cases e
    exact absurd rfl (n _)
  · rfl
def rSlAny (K : PySem.W.Frag) : V → Option Int → Option Int → Hp → VK → Prop := fun x lo hi H Q => rSlA K x lo hi H Q ∨ (rSlL K x lo hi H Q ∨ rSlS x lo hi H Q)
theorem sl_any : SlR X (rSlAny X.K) := sl_tupA.or (sl_list.or sl_str)
theorem snd_slL {K : PySem.W.Frag} {new : Bool} {m : Mp} {H : Hp} {S : Sto} {x : V} {d : PyData} {lo hi : Option Int} {Q : VK} {Qd : DK} (w : Wd K m H S) (dx : Dv K m H x d) (nt : isTupD d = false) (h : wh (itemsD S d) fun ds => if new = true then ∀ n, S n = none → Qd (cel n) (put S n (.lst (cutD ds lo hi))) else Qd (.list (cutD ds lo hi)) S) (k : Kq K m H Q Qd) : rSlAny K x lo hi H Q := by
  obtain ⟨ds, h1, h2⟩ := wh_of h
  obtain ⟨p, xs, rfl, hq, al⟩ := dx.items2 w h1
  have hl : SqL K H p xs := by
    rcases hq with hq | hq
    · exact hq.2
    · rw [nt] at hq
      cases hq.1
  cases new with
  | false => exact .inr (.inl ⟨p, xs, rfl, hl, k.newL w (cut_dv al) h2⟩)
  | true => exact .inr (.inl ⟨p, xs, rfl, hl, k.newC w (cut_dv al) h2⟩)
end
end K3

/-! the plain layer: slices, built-in calls, methods of texts -/
namespace K3
open PySem L2 Xr K1
section
variable {X : Cx} {e a b c : Expr} {es rest : List Expr} {t ta tb tc : DE} {u v : DT} {pos : Pos} {aa : DA}
theorem snd_sl {K : PySem.W.Frag} {new : Bool} {m : Mp} {H : Hp} {S : Sto} {x : V} {d : PyData} {lo hi : Option Int} {Q : VK} {Qd : DK} (w : Wd K m H S) (dx : Dv K m H x d) (h : dSl new d lo hi S Qd) (k : Kq K m H Q Qd) : rSlAny K x lo hi H Q := by
  cases d with
  | str z =>
    cases dx
    exact .inr (.inr ⟨z, rfl, line_of h.1, k _ _ _ _ _ h.2 Evo.refl w (.str _)⟩)
  | tuple ds =>
    obtain ⟨p, xs, rfl, hx, ax⟩ := dx.seqT
    refine .inl ⟨p, xs, rfl, hx, fun hw => ?_, fun hw => k.newT w (cut_dv ax) h⟩
    rw [ax.len] at hw
    refine k _ _ _ _ _ h Evo.refl w ?_
    rw [cut_all hw]
    exact dx
  | none => exact snd_slL (new := new) w dx rfl h k
  | bool _ => exact snd_slL (new := new) w dx rfl h k
  | int _ => exact snd_slL (new := new) w dx rfl h k
  | list _ => exact snd_slL (new := new) w dx rfl h k
  | dict kvs =>
    by_cases f : ∃ ds, kvs = [(.none, .tuple ds)]
    · obtain ⟨ds, rfl⟩ := f
      exact False.elim h
    · have n : ∀ ds, kvs ≠ [(.none, .tuple ds)] := fun ds z => f ⟨ds, z⟩
      refine snd_slL (new := new) w dx (dict_nt n) ?_ k
      unfold dSl at h
      split at h
      · rename_i e
        cases e
      · rename_i e
        cases e
      · rename_i e
        exact h.elim
      · exact h
def dSlice (new : Bool) (t : DE) (lo hi : DO) : DE := fun ρ S Q => t ρ S fun d S1 => lo ρ S1 fun l S2 => hi ρ S2 fun u S3 => dSl new d l u S3 Q
theorem q_sl (new : Bool) {lo hi : Option Expr} {tl th : DO} {p2 : Pos} (he : QE X e t) (hl : QO X lo tl) (hu : QO X hi th) : QE X (.Subscript e (.Slice lo hi none p2) pos) (dSlice new t tl th) := pe_weak (pe_slice sl_any he hl hu) fun σ H Q ⟨B, ρ, S, m, Qd, at_, q, k⟩ =>
  ⟨B, ρ, S, m, _, at_, q, fun d S1 v H1 m1 q1 e1 w1 dv => ⟨B, ρ, S1, m1, _, at_.step e1 w1, q1, fun l S2 H2 m2 q2 e2 w2 => ⟨B, ρ, S2, m2, _, (at_.step e1 w1).step e2 w2, q2, fun u S3 H3 m3 q3 e3 w3 => snd_sl w3 ((dv.up e2).up e3) q3 (((k.up e1).up e2).up e3)⟩⟩⟩
/-- the other way round -/
def dRevT (t : DE) : DE := fun ρ S Q => t ρ S fun d S1 => match d with
  | .tuple ds => Q (.tuple ds.reverse) S1
  | _ => False
theorem q_revT {k : Nat} {p1 p2 p3 : Pos} (he : QE X e t) : QE X (.Subscript e (.Slice none none (some (.UnaryOp .USub (.Constant (.int 1) k p1) p2)) p3) pos) (dRevT t) := pe_weak (pe_revT he) fun σ H Q ⟨B, ρ, S, m, Qd, at_, q, k⟩ => ⟨B, ρ, S, m, _, at_, q, fun d S' v H' m' q e w dv => by
  cases d <;> first | exact False.elim q | skip
  obtain ⟨p, xs, rfl, hx, ax⟩ := dv.seqT
  exact ⟨p, xs, rfl, hx, (k.up e).newT w ax.rev q⟩⟩
def dRevL (t : DE) : DE := fun ρ S Q => t ρ S fun d S1 => isTupD d = false ∧ wh (itemsD S1 d) fun ds => Q (.list ds.reverse) S1
theorem q_revL {k : Nat} {p1 p2 p3 : Pos} (he : QE X e t) : QE X (.Subscript e (.Slice none none (some (.UnaryOp .USub (.Constant (.int 1) k p1) p2)) p3) pos) (dRevL t) := pe_weak (pe_revL he) fun σ H Q ⟨B, ρ, S, m, Qd, at_, q, k⟩ => ⟨B, ρ, S, m, _, at_, q, fun d S' v H' m' q e w dv => by
  obtain ⟨nt, q⟩ := q
  obtain ⟨ds, h1, h2⟩ := wh_of q
  obtain ⟨p, xs, rfl, hq, al⟩ := dv.items2 w h1
  rcases hq with hq | hq
  · exact ⟨p, xs, rfl, hq.2, (k.up e).newL w al.rev h2⟩
  · rw [nt] at hq
    cases hq.1⟩
/-! calls of built-ins -/
abbrev D1 := List PyData → Sto → DK → Prop
def SndL (K : PySem.W.Frag) (f : D1) (r : List V → Hp → VK → Prop) : Prop := ∀ (m : Mp) (H : Hp) (S : Sto) (xs : List V) (ds : List PyData) (Q : VK) (Qd : DK), Wd K m H S → DvAll K m H xs ds → f ds S Qd → Kq K m H Q Qd → r xs H Q
def dCall (f : D1) (aa : DA) : DE := fun ρ S Q => aa ρ S fun ds S1 => f ds S1 Q
theorem q_callB {id : String} {r : List V → Hp → VK → Prop} {f : D1} {x : Str} {p : Pos} (hc : CallR X (.builtin id) r) (hs : SndL X.K f r) (hg : Gl X x) (hm : X.mg x = none) (hv : bootBuiltins x = some (.builtin id)) (ha : QA X (e :: es) aa) (hn : x ≠ "__name__" := by decide) (hdb : (x == ("__debug__" : Str)) = false := by decide)
    (he : starEach (e :: es) X.env = (false, eval e X.env) :: starEach es X.env := by rfl) (hpl : (backTo pos (starEach es X.env)).any (·.1) = false := by rfl) : QE X (.Call (.Name x p) (e :: es) [] pos) (dCall f aa) :=
  pe_weak (pe_callB hc hg hm hv ha hn hdb he hpl) fun σ H Q ⟨B, ρ, S, m, Qd, at_, q, k⟩ => ⟨B, ρ, S, m, _, at_, q, fun ds S' vs H' m' q e w dv => hs m' H' S' vs ds Q Qd w dv q (k.up e)⟩
theorem q_callTy {T : String} {r : List V → Hp → VK → Prop} {f : D1} {x : Str} {p : Pos} (hc : CallR X (.type T) r) (hs : SndL X.K f r) (hg : Gl X x) (hm : X.mg x = none) (hv : bootBuiltins x = some (.type T)) (ha : QA X (e :: es) aa) (hn : x ≠ "__name__" := by decide) (hdb : (x == ("__debug__" : Str)) = false := by decide)
    (he : starEach (e :: es) X.env = (false, eval e X.env) :: starEach es X.env := by rfl) (hpl : (backTo pos (starEach es X.env)).any (·.1) = false := by rfl) : QE X (.Call (.Name x p) (e :: es) [] pos) (dCall f aa) :=
  pe_weak (pe_callTy hc hg hm hv ha hn hdb he hpl) fun σ H Q ⟨B, ρ, S, m, Qd, at_, q, k⟩ => ⟨B, ρ, S, m, _, at_, q, fun ds S' vs H' m' q e w dv => hs m' H' S' vs ds Q Qd w dv q (k.up e)⟩
theorem dv1 {K : PySem.W.Frag} {m : Mp} {H : Hp} {xs : List V} {d : PyData} (h : DvAll K m H xs [d]) : ∃ x, xs = [x] ∧ Dv K m H x d := by
  cases h with
  | cons a r =>
    cases r
    exact ⟨_, rfl, a⟩
theorem dv2 {K : PySem.W.Frag} {m : Mp} {H : Hp} {xs : List V} {d d' : PyData} (h : DvAll K m H xs [d, d']) : ∃ x y, xs = [x, y] ∧ Dv K m H x d ∧ Dv K m H y d' := by
  cases h with
  | cons a r =>
    obtain ⟨y, rfl, b⟩ := dv1 r
    exact ⟨_, _, rfl, a, b⟩
theorem dv3 {K : PySem.W.Frag} {m : Mp} {H : Hp} {xs : List V} {d d' d'' : PyData} (h : DvAll K m H xs [d, d', d'']) : ∃ x y z, xs = [x, y, z] ∧ Dv K m H x d ∧ Dv K m H y d' ∧ Dv K m H z d'' := by
  cases h with
  | cons a r =>
    obtain ⟨y, z, rfl, b, c⟩ := dv2 r
    exact ⟨_, _, _, rfl, a, b, c⟩
/-- one argument -/
def on1 (f : PyData → Sto → DK → Prop) : D1
  | [d], S, Q => f d S Q
  | _, _, _ => False
theorem snd_1 {K : PySem.W.Frag} {f : PyData → Sto → DK → Prop} {r : List V → Hp → VK → Prop} (h : ∀ (m : Mp) (H : Hp) (S : Sto) (x : V) (d : PyData) (Q : VK) (Qd : DK), Wd K m H S → Dv K m H x d → f d S Qd → Kq K m H Q Qd → r [x] H Q) : SndL K (on1 f) r := fun m H S xs ds Q Qd w dv q k => by
  match ds, dv, q with
  | [d], dv, q =>
    obtain ⟨x, rfl, dx⟩ := dv1 dv
    exact h m H S x d Q Qd w dx q k
/-- len -/
def dLen : PyData → Sto → DK → Prop
  | .str z, S, Q => z.length ≤ 1000000 ∧ Q (.int z.length) S
  | o, S, Q => wh (itemsD S o) fun ds => Q (.int ds.length) S
def rLenA (K : PySem.W.Frag) : List V → Hp → VK → Prop := fun xs H Q => (∃ p ys, xs = [.ref p] ∧ (SqL K H p ys ∨ SqT K H p ys) ∧ Q (.int ys.length) H) ∨ ∃ z, xs = [.str z] ∧ z.length ≤ sizeLine ∧ Q (.int z.length) H
theorem call_lenA : CallR X (.builtin "len") (rLenA X.K) := call_len_seq.or call_len_str
theorem snd_lens {K : PySem.W.Frag} {m : Mp} {H : Hp} {S : Sto} {x : V} {d : PyData} {Q : VK} {Qd : DK} (w : Wd K m H S) (dx : Dv K m H x d) (h : wh (itemsD S d) fun ds => Qd (.int ds.length) S) (k : Kq K m H Q Qd) : rLenA K [x] H Q := by
  obtain ⟨ds, h1, h2⟩ := wh_of h
  obtain ⟨p, xs, rfl, hq, al⟩ := dx.items w h1
  exact .inl ⟨p, xs, rfl, hq, k _ _ _ _ _ h2 Evo.refl w (by rw [al.len]; exact .int _)⟩
theorem snd_len {K : PySem.W.Frag} : SndL K (on1 dLen) (rLenA K) := snd_1 fun m H S x d Q Qd w dx h k => by
  cases d with
  | str z =>
    cases dx
    exact .inr ⟨z, rfl, line_of h.1, k _ _ _ _ _ h.2 Evo.refl w (.int _)⟩
  | none => exact snd_lens w dx h k
  | bool _ => exact snd_lens w dx h k
  | int _ => exact snd_lens w dx h k
  | list _ => exact snd_lens w dx h k
  | tuple _ => exact snd_lens w dx h k
  | dict _ => exact snd_lens w dx h k
theorem q_len {p : Pos} (hm : X.mg "len" = none) (hg : Gl X "len") (ha : QA X [e] aa) (he : starEach [e] X.env = (false, eval e X.env) :: starEach [] X.env := by rfl) : QE X (.Call (.Name "len" p) [e] [] pos) (dCall (on1 dLen) aa) :=
  q_callB call_lenA snd_len hg hm PySem.boot_len ha (by decide) (by decide) he rfl
/-- tuple -/
def dTupOf : PyData → Sto → DK → Prop
  | .dict [(.none, .tuple ds)], S, Q => Q (frz ds) S
  | o, S, Q => wh (itemsD S o) fun ds => Q (.tuple ds) S
theorem snd_tup {K : PySem.W.Frag} : SndL K (on1 dTupOf) (fun xs H Q => ∃ p ys, xs = [.ref p] ∧ ((SqL K H p ys ∧ ∀ l, H l = none → Q (.ref l) (upd H l (.tup ys))) ∨ (SqT K H p ys ∧ Q (.ref p) H))) := snd_1 fun m H S x d Q Qd w dx h k => by
  by_cases f : ∃ ds, d = frz ds
  · obtain ⟨ds, rfl⟩ := f
    obtain ⟨p, xs, rfl, hq, al⟩ := dx.items2 (S := S) w rfl
    rcases hq with ⟨ht, hq⟩ | ⟨ht, hq⟩
    · cases ht
    · exact ⟨p, xs, rfl, .inr ⟨hq, k _ _ _ _ _ h Evo.refl w dx⟩⟩
  have h : wh (itemsD S d) fun ds => Qd (.tuple ds) S := by
    unfold dTupOf at h
    split at h
    · exact absurd ⟨_, rfl⟩ f
    · exact h
  obtain ⟨ds, h1, h2⟩ := wh_of h
  obtain ⟨p, xs, rfl, hq, al⟩ := dx.items2 w h1
  refine ⟨p, xs, rfl, ?_⟩
  rcases hq with ⟨_, hq⟩ | ⟨ht, hq⟩
  · exact .inl ⟨hq, k.newT w al h2⟩
  · refine .inr ⟨hq, k _ _ _ _ _ h2 Evo.refl w ?_⟩
    cases d with
    | tuple es =>
      cases h1
      exact dx
    | dict kvs =>
      rw [dict_nt fun ds z => f ⟨ds, by rw [z]⟩] at ht
      cases ht
    | _ => cases ht
theorem q_tuple {p : Pos} (hm : X.mg "tuple" = none) (hg : Gl X "tuple") (ha : QA X [e] aa) (he : starEach [e] X.env = (false, eval e X.env) :: starEach [] X.env := by rfl) : QE X (.Call (.Name "tuple" p) [e] [] pos) (dCall (on1 dTupOf) aa) :=
  q_callTy call_tuple_of snd_tup hg hm (by decide +kernel) ha (by decide) (by decide) he rfl
/-- list -/
def dLstOf : PyData → Sto → DK → Prop := fun o S Q => wh (itemsD S o) fun ds => Q (.list ds) S
def dCelOf : PyData → Sto → DK → Prop := fun o S Q => wh (itemsD S o) fun ds => ∀ n, S n = none → Q (cel n) (put S n (.lst ds))
abbrev rLstOf (K : PySem.W.Frag) : List V → Hp → VK → Prop := fun xs H Q => ∃ p ys, xs = [.ref p] ∧ (SqL K H p ys ∨ SqT K H p ys) ∧ ∀ l, H l = none → Q (.ref l) (upd H l (.lst ys))
theorem snd_lst {K : PySem.W.Frag} : SndL K (on1 dLstOf) (rLstOf K) := snd_1 fun m H S x d Q Qd w dx h k => by
  obtain ⟨ds, h1, h2⟩ := wh_of h
  obtain ⟨p, xs, rfl, hq, al⟩ := dx.items w h1
  exact ⟨p, xs, rfl, hq, k.newL w al h2⟩
theorem snd_cel {K : PySem.W.Frag} : SndL K (on1 dCelOf) (rLstOf K) := snd_1 fun m H S x d Q Qd w dx h k => by
  obtain ⟨ds, h1, h2⟩ := wh_of h
  obtain ⟨p, xs, rfl, hq, al⟩ := dx.items w h1
  exact ⟨p, xs, rfl, hq, k.newC w al h2⟩
theorem q_list {p : Pos} (hm : X.mg "list" = none) (hg : Gl X "list") (ha : QA X [e] aa) (he : starEach [e] X.env = (false, eval e X.env) :: starEach [] X.env := by rfl) : QE X (.Call (.Name "list" p) [e] [] pos) (dCall (on1 dLstOf) aa) :=
  q_callTy call_list_of snd_lst hg hm (by decide +kernel) ha (by decide) (by decide) he rfl
theorem q_listC {p : Pos} (hm : X.mg "list" = none) (hg : Gl X "list") (ha : QA X [e] aa) (he : starEach [e] X.env = (false, eval e X.env) :: starEach [] X.env := by rfl) : QE X (.Call (.Name "list" p) [e] [] pos) (dCall (on1 dCelOf) aa) :=
  q_callTy call_list_of snd_cel hg hm (by decide +kernel) ha (by decide) (by decide) he rfl
/-- int of an int or bool; abs -/
def dIntOf : PyData → Sto → DK → Prop
  | .int i, S, Q => Q (.int i) S
  | .bool b, S, Q => Q (.int (if b = true then 1 else 0)) S
  | _, _, _ => False
theorem snd_int {K : PySem.W.Frag} : SndL K (on1 dIntOf) (fun xs H Q => (∃ i, xs = [.int i] ∧ Q (.int i) H) ∨ ∃ k, xs = [.bl k] ∧ Q (.int (if k then 1 else 0)) H) := snd_1 fun m H S x d Q Qd w dx h k => by
  cases d <;> first | exact False.elim h | skip
  · cases dx
    exact .inr ⟨_, rfl, k _ _ _ _ _ h Evo.refl w (.int _)⟩
  · cases dx
    exact .inl ⟨_, rfl, k _ _ _ _ _ h Evo.refl w (.int _)⟩
theorem q_int1 {p : Pos} (hm : X.mg "int" = none) (hg : Gl X "int") (ha : QA X [e] aa) (he : starEach [e] X.env = (false, eval e X.env) :: starEach [] X.env := by rfl) : QE X (.Call (.Name "int" p) [e] [] pos) (dCall (on1 dIntOf) aa) :=
  q_callTy call_int1 snd_int hg hm (by decide +kernel) ha (by decide) (by decide) he rfl
def dAbs : PyData → Sto → DK → Prop
  | .int i, S, Q => Q (.int (if i < 0 then -i else i)) S
  | _, _, _ => False
theorem snd_abs {K : PySem.W.Frag} : SndL K (on1 dAbs) (fun xs H Q => ∃ i, xs = [.int i] ∧ Q (.int (if i < 0 then -i else i)) H) := snd_1 fun m H S x d Q Qd w dx h k => by
  cases d <;> first | exact False.elim h | skip
  cases dx
  exact ⟨_, rfl, k _ _ _ _ _ h Evo.refl w (.int _)⟩
theorem q_abs {p : Pos} (hm : X.mg "abs" = none) (hg : Gl X "abs") (ha : QA X [e] aa) (he : starEach [e] X.env = (false, eval e X.env) :: starEach [] X.env := by rfl) : QE X (.Call (.Name "abs" p) [e] [] pos) (dCall (on1 dAbs) aa) :=
  q_callB call_abs snd_abs hg hm (by decide +kernel) ha (by decide) (by decide) he rfl
/-! isinstance -/
inductive Ty6 | tup | str | int | bool | lst
def Ty6.nm : Ty6 → String
  | .tup => "tuple" | .str => "str" | .int => "int" | .bool => "bool" | .lst => "list"
/-- the type of a thing that is none of one's own -/
def okTy (S : Sto) : PyData → Prop
  | .dict [(.int (.ofNat n), .none)] => ∃ ds, S n = some (.lst ds)
  | .dict _ => False
  | _ => True
def isT : Ty6 → PyData → Bool
  | .tup, .tuple _ => true
  | .str, .str _ => true
  | .int, .int _ => true
  | .int, .bool _ => true
  | .bool, .bool _ => true
  | .lst, .list _ => true
  | .lst, .dict _ => true
  | _, _ => false
def tyW : PyData → String
  | .dict _ => "list"
  | d => tyN d
theorem tyW_dv {K : PySem.W.Frag} {m : Mp} {H : Hp} {S : Sto} {x : V} {d : PyData} (w : Wd K m H S) (dx : Dv K m H x d) (h : okTy S d) : TyX K H x (.type (tyW d)) := by
  cases dx with
  | non => exact .base .non
  | bl b => exact .base (.bl b)
  | int i => exact .base (.int i)
  | str x => exact .base (.str x)
  | lst e n a => exact .base (.lst e)
  | tup e n a => exact .base (.tup e)
  | con e a =>
    obtain ⟨o, its, n, h1, h2, _⟩ := e
    exact .kTuple h1 h2
  | cel e =>
    obtain ⟨ds, h1⟩ := h
    obtain ⟨a', xs, e1, e2, e3⟩ := w.lst h1
    rw [e] at e1
    cases e1
    exact .base (.lst e2)
  | glo a => exact False.elim h
  | frz => exact False.elim h
  | ins => exact False.elim h
  | exd => exact False.elim h
theorem kit_w {K : PySem.W.Frag} : ∀ (T : Ty6) (d : PyData), PySem.W.kitOne K (.type (tyW d)) (.type T.nm) = some (isT T d)
  | .tup, .none => kit_ty (a := "NoneType") (b := "tuple") (r := false) (by decide +kernel)
  | .tup, .bool _ => kit_ty (a := "bool") (b := "tuple") (r := false) (by decide +kernel)
  | .tup, .int _ => kit_ty (a := "int") (b := "tuple") (r := false) (by decide +kernel)
  | .tup, .str _ => kit_ty (a := "str") (b := "tuple") (r := false) (by decide +kernel)
  | .tup, .list _ => kit_ty (a := "list") (b := "tuple") (r := false) (by decide +kernel)
  | .tup, .tuple _ => kit_ty (a := "tuple") (b := "tuple") (r := true) (by decide +kernel)
  | .tup, .dict _ => kit_ty (a := "list") (b := "tuple") (r := false) (by decide +kernel)
  | .str, .none => kit_ty (a := "NoneType") (b := "str") (r := false) (by decide +kernel)
  | .str, .bool _ => kit_ty (a := "bool") (b := "str") (r := false) (by decide +kernel)
  | .str, .int _ => kit_ty (a := "int") (b := "str") (r := false) (by decide +kernel)
  | .str, .str _ => kit_ty (a := "str") (b := "str") (r := true) (by decide +kernel)
  | .str, .list _ => kit_ty (a := "list") (b := "str") (r := false) (by decide +kernel)
  | .str, .tuple _ => kit_ty (a := "tuple") (b := "str") (r := false) (by decide +kernel)
  | .str, .dict _ => kit_ty (a := "list") (b := "str") (r := false) (by decide +kernel)
  | .int, .none => kit_ty (a := "NoneType") (b := "int") (r := false) (by decide +kernel)
  | .int, .bool _ => kit_ty (a := "bool") (b := "int") (r := true) (by decide +kernel)
  | .int, .int _ => kit_ty (a := "int") (b := "int") (r := true) (by decide +kernel)
  | .int, .str _ => kit_ty (a := "str") (b := "int") (r := false) (by decide +kernel)
  | .int, .list _ => kit_ty (a := "list") (b := "int") (r := false) (by decide +kernel)
  | .int, .tuple _ => kit_ty (a := "tuple") (b := "int") (r := false) (by decide +kernel)
  | .int, .dict _ => kit_ty (a := "list") (b := "int") (r := false) (by decide +kernel)
  | .bool, .none => kit_ty (a := "NoneType") (b := "bool") (r := false) (by decide +kernel)
  | .bool, .bool _ => kit_ty (a := "bool") (b := "bool") (r := true) (by decide +kernel)
  | .bool, .int _ => kit_ty (a := "int") (b := "bool") (r := false) (by decide +kernel)
  | .bool, .str _ => kit_ty (a := "str") (b := "bool") (r := false) (by decide +kernel)
  | .bool, .list _ => kit_ty (a := "list") (b := "bool") (r := false) (by decide +kernel)
  | .bool, .tuple _ => kit_ty (a := "tuple") (b := "bool") (r := false) (by decide +kernel)
  | .bool, .dict _ => kit_ty (a := "list") (b := "bool") (r := false) (by decide +kernel)
  | .lst, .none => kit_ty (a := "NoneType") (b := "list") (r := false) (by decide +kernel)
  | .lst, .bool _ => kit_ty (a := "bool") (b := "list") (r := false) (by decide +kernel)
  | .lst, .int _ => kit_ty (a := "int") (b := "list") (r := false) (by decide +kernel)
  | .lst, .str _ => kit_ty (a := "str") (b := "list") (r := false) (by decide +kernel)
  | .lst, .list _ => kit_ty (a := "list") (b := "list") (r := true) (by decide +kernel)
  | .lst, .tuple _ => kit_ty (a := "tuple") (b := "list") (r := false) (by decide +kernel)
  | .lst, .dict _ => kit_ty (a := "list") (b := "list") (r := true) (by decide +kernel)
def dIsi (T : Ty6) (t : DE) : DE := fun ρ S Q => t ρ S fun d S1 => okTy S1 d ∧ Q (.bool (isT T d)) S1
theorem q_isi (T : Ty6) {p : Pos} {e2 : Expr} (hm : X.mg "isinstance" = none) (hg : Gl X "isinstance") (ha : QE X e t) (hb : PE X e2 (tC (.ty T.nm))) (he : starEach [e, e2] X.env = (false, eval e X.env) :: starEach [e2] X.env := by rfl) (he2 : starEach [e2] X.env = (false, eval e2 X.env) :: starEach [] X.env := by rfl)
    (hpl : (backTo pos (starEach [e2] X.env)).any (·.1) = false := by rfl) : QE X (.Call (.Name "isinstance" p) [e, e2] [] pos) (dIsi T t) :=
  pe_weak (pe_callB call_isi hg hm (by decide +kernel) (pa_cons ha (pa_cons hb pa_nil he2) he) (by decide) (by decide) he hpl) fun σ H Q ⟨B, ρ, S, m, Qd, at_, q, k⟩ =>
    ⟨B, ρ, S, m, _, at_, q, fun d S' v H' m' q e w dv => ⟨v, .ty T.nm, _, _, _, rfl, .ty _, tyW_dv w dv q.1, kit_w T d, k _ S' _ H' m' q.2 e w (.bl _)⟩⟩
/-! repr, join -/
def dRepr : PyData → Sto → DK → Prop := fun d S Q => (d.showable = true ∧ d.canLay0 = true ∧ d.depth ≤ 150 ∧ d.shown.length ≤ 10000000) ∧ Q (.str d.shown) S
mutual
theorem layNoDict : ∀ d : PyData, d.canLay0 = true → d.hasDict = false
  | .none, _ => rfl
  | .bool _, _ => rfl
  | .int _, _ => rfl
  | .str _, _ => rfl
  | .list ds, h => by
    unfold PyData.hasDict
    exact layNoDictAll ds (by unfold PyData.canLay0 at h; exact h)
  | .tuple ds, h => by
    unfold PyData.hasDict
    exact layNoDictAll ds (by unfold PyData.canLay0 at h; exact h)
  | .dict _, h => by unfold PyData.canLay0 at h; cases h
theorem layNoDictAll : ∀ ds : List PyData, PyData.canLayAll0 ds = true → PyData.hasDictAll ds = false
  | [], _ => rfl
  | d :: ds, h => by
    have e : PyData.canLayAll0 (d :: ds) = (PyData.canLay0 d && PyData.canLayAll0 ds) := by
      conv => lhs; unfold PyData.canLayAll0
    rw [e, Bool.and_eq_true] at h
    unfold PyData.hasDictAll
    rw [layNoDict d h.1, layNoDictAll ds h.2]
    rfl
end
theorem snd_repr {K : PySem.W.Frag} : SndL K (on1 dRepr) (Grd.rRepr K) := snd_1 fun m H S x d Q Qd w dx h k => by
  obtain ⟨⟨h1, h2, h3, h4⟩, q⟩ := h
  exact ⟨x, d, rfl, dx.dp h2, h1, layNoDict d h2, h3, by rw [sizeLine_eq]; omega, k _ _ _ _ _ q Evo.refl w (.str _)⟩
theorem q_repr {p : Pos} (gd : X.A.guards = some []) (hu : X.A.units + 200 < cLine) (hm : X.mg "repr" = none) (hg : Gl X "repr") (ha : QA X [e] aa) (he : starEach [e] X.env = (false, eval e X.env) :: starEach [] X.env := by rfl) : QE X (.Call (.Name "repr" p) [e] [] pos) (dCall (on1 dRepr) aa) :=
  q_callB (Grd.call_repr gd hu) snd_repr hg hm (by decide +kernel) ha (by decide) (by decide) he rfl
/-- the texts of a list -/
def strsD : List PyData → Option (List Str)
  | [] => some []
  | .str z :: ds => (strsD ds).map (z :: ·)
  | _ => none
theorem strs_dv {K : PySem.W.Frag} {m : Mp} {H : Hp} : ∀ {ds : List PyData} {xs : List V} {zs : List Str}, DvAll K m H xs ds → strsD ds = some zs → xs = zs.map V.str
  | [], _, _, h, e => by
    cases h
    cases e
    rfl
  | .str z :: ds, _, zs, h, e => by
    cases h with
    | cons a r =>
      cases a
      have e' : (strsD ds).map (z :: ·) = some zs := e
      cases hs : strsD ds with
      | none => rw [hs] at e'; cases e'
      | some ys =>
        rw [hs] at e'
        cases e'
        rw [strs_dv r hs]
        rfl
  | .none :: _, _, _, _, e => nomatch e
  | .bool _ :: _, _, _, _, e => nomatch e
  | .int _ :: _, _, _, _, e => nomatch e
  | .list _ :: _, _, _, _, e => nomatch e
  | .tuple _ :: _, _, _, _, e => nomatch e
  | .dict _ :: _, _, _, _, e => nomatch e
def dJoin : D2
  | .str z, d, S, Q => wh (itemsD S d) fun ds => wh (strsD ds) fun zs => (zs.map (·.length)).sum + zs.length * z.length ≤ 1000000 ∧ Q (.str (Txt.join z zs)) S
  | _, _, _, _ => False
theorem q_join {apos : Pos} (ha : QE X a ta) (hb : QE X e tb) (hs : starEach [e] X.env = [(false, eval e X.env)] := by rfl) (hbase : attributeBase a "join" X.env (eval a X.env) = eval a X.env := by rfl) (hline : (apos.endLine == pos.line) = true := by rfl) :
    QE X (.Call (.Attribute a "join" apos) [e] [] pos) (dOp dJoin (fun ρ S Q => ta ρ S fun d S1 => wh (isStrD d) fun z => Q (.str z) S1) tb) := pe_weak (pe_join ha hb hs hbase hline) fun σ H Q ⟨B, ρ, S, m, Qd, at_, q, k⟩ =>
  ⟨B, ρ, S, m, _, at_, q, fun d S1 v H1 m1 q1 e1 w1 dv => by
    obtain ⟨z, ez, q1⟩ := wh_of q1
    cases d <;> cases ez
    cases dv
    refine ⟨⟨_, rfl⟩, B, ρ, S1, m1, _, at_.step e1 w1, q1, fun d2 S2 v2 H2 m2 q2 e2 w2 dv2 => ?_⟩
    obtain ⟨ds, h1, h2⟩ := wh_of q2
    obtain ⟨zs, h3, h4, h5⟩ := wh_of h2
    obtain ⟨p, xs, rfl, hq, al⟩ := dv2.items w2 h1
    have := strs_dv al h3
    subst this
    exact ⟨_, p, zs, rfl, rfl, hq, Nat.le_trans h4 (by decide), k _ S2 _ H2 m2 h5 (e1.trans e2) w2 (.str _)⟩⟩
end
end K3

/-! the plain layer: statements -/
namespace K3
open PySem L2 Xr K1
/-- what is wanted of an error: its class, its fields, the variables, the store -/
abbrev DXr := Addr → List (Str × PyData) → Rho → Sto → Prop
structure DEnds where
  nx : Rho → Sto → Prop
  rt : DK
  bk : Rho → Sto → Prop := fun _ _ => False
  ct : Rho → Sto → Prop := fun _ _ => False
  xt : DXr := fun _ _ _ _ => False
abbrev DS := DEnds → Rho → Sto → Prop
/-- what may be let out of X; what was not there when X began -/
abbrev WZ := L2.WX × (Addr → Prop)
def Wm (X : Cx) : WZ := (fun c d σ H => ∀ u s', L2.XE X (fun c' d' σ' H' => c' = c ∧ d' = d ∧ σ' = σ ∧ H' = H) u s' → X.xe u s', fun a => X.H_0 a = none)
theorem takesWm (X : Cx) : L2.Takes X (Wm X).1 := fun u s' ⟨a, B, sI, pins, σ, H, cls, d, e, I, nb, up, sky, na, os, ag, w⟩ => w u s' ⟨a, B, sI, pins, σ, H, cls, d, e, I, nb, up, sky, na, os, ag, rfl, rfl, rfl, rfl⟩
theorem Wm.of {X : Cx} {W : L2.WX} (tk : L2.Takes X W) {c : Value} {d : Option Addr} {σ : L2.St} {H : Hp} (h : W c d σ H) : (Wm X).1 c d σ H := fun u s' ⟨a, B, sI, pins, σ', H', cls, d', e, I, nb, up, sky, na, os, ag, e1, e2, e3, e4⟩ =>
  tk u s' ⟨a, B, sI, pins, σ', H', cls, d', e, I, nb, up, sky, na, os, ag, by rw [e1, e2, e3, e4]; exact h⟩
/-- an error with these fields may be let out wherever it is wanted; what is new was not there at the beginning -/
structure Lk (K : PySem.W.Frag) (W : WZ) (B : Mp × Hp) (x : DXr) : Prop where
  run : ∀ C fs ρ S σ H m dd ys, x C fs ρ S → At K B σ H ρ S m → H dd = some (.xd ys) → ¬ Ce m dd → ys.map Prod.fst = fs.map Prod.fst → DvAll K m H (ys.map Prod.snd) (fs.map Prod.snd) → W.1 (.ref C) (some dd) σ H
  new : ∀ ρ S σ H m a, At K B σ H ρ S m → H a = none → W.2 a
theorem At.base {K : PySem.W.Frag} {B B1 : Mp × Hp} {σ : L2.St} {H : Hp} {ρ : Rho} {S : Sto} {m : Mp} (e : Evo B.1 B.2 B1.1 B1.2) (a : At K B1 σ H ρ S m) : At K B σ H ρ S m := ⟨e.trans a.ev, a.wd, a.fr⟩
theorem Lk.base {K : PySem.W.Frag} {W : WZ} {B B1 : Mp × Hp} {x : DXr} (e : Evo B.1 B.2 B1.1 B1.2) (l : Lk K W B x) : Lk K W B1 x := ⟨fun C fs ρ S σ H m dd ys q a => l.run C fs ρ S σ H m dd ys q (a.base e), fun ρ S σ H m a at_ h => l.new ρ S σ H m a (at_.base e) h⟩
theorem At.gone {K : PySem.W.Frag} {B : Mp × Hp} {σ : L2.St} {H : Hp} {ρ : Rho} {S : Sto} {m : Mp} (a : At K B σ H ρ S m) {p : Addr} (h : H p = none) : B.2 p = none := by
  cases e : B.2 p with
  | none => rfl
  | some o =>
    exfalso
    by_cases c : Ce B.1 p
    · rcases c with ⟨n, c⟩ | c
      · obtain ⟨u, z⟩ := a.wd.trk n p (a.ev.ext n p c)
        rw [h] at z
        cases z
      · have z := a.ev.zk p o c e
        rw [h] at z
        cases z
    · have z := (a.ev.kp p o e c).1
      rw [h] at z
      cases z
theorem Lk.no {K : PySem.W.Frag} {W : WZ} {B : Mp × Hp} (hz : ∀ a, B.2 a = none → W.2 a) : Lk K W B (fun _ _ _ _ => False) := ⟨fun _ _ _ _ _ _ _ _ _ q => q.elim, fun _ _ _ _ _ a at_ h => hz a (at_.gone h)⟩
structure Ke (K : PySem.W.Frag) (W : WZ) (B : Mp × Hp) (D : Ends) (Dd : DEnds) : Prop where
  nx : ∀ ρ S σ H m, Dd.nx ρ S → At K B σ H ρ S m → D.nx σ H
  rt : ∀ d S v H m, Dd.rt d S → Evo B.1 B.2 m H → Wd K m H S → Dv K m H v d → D.rt v H
  bk : ∀ ρ S σ H m, Dd.bk ρ S → At K B σ H ρ S m → D.bk σ H
  ct : ∀ ρ S σ H m, Dd.ct ρ S → At K B σ H ρ S m → D.ct σ H
  xt : Lk K W B Dd.xt
def lftS (K : PySem.W.Frag) (W : WZ) (t : DS) : TS := fun D σ H => ∃ B ρ S m Dd, At K B σ H ρ S m ∧ t Dd ρ S ∧ Ke K W B D Dd
abbrev QS (X : Cx) (s : Stmt) (t : DS) : Prop := PS X s (lftS X.K (Wm X) t)
abbrev QSs (X : Cx) (s : List Stmt) (t : DS) : Prop := PSs X s (lftS X.K (Wm X) t)
abbrev DG := PyData → Rho → Sto → (Rho → Sto → Prop) → Prop
abbrev DGs := List PyData → Rho → Sto → (Rho → Sto → Prop) → Prop
def lftG (K : PySem.W.Frag) (g : DG) : TG := fun v σ H Q => ∃ d B ρ S m Qd, At K B σ H ρ S m ∧ Dv K m H v d ∧ g d ρ S Qd ∧ ∀ ρ' S' σ' H' m', Qd ρ' S' → Evo m H m' H' → At K B σ' H' ρ' S' m' → Q σ' H'
def lftGs (K : PySem.W.Frag) (g : DGs) : TGs := fun v σ H Q => ∃ d B ρ S m Qd, At K B σ H ρ S m ∧ DvAll K m H v d ∧ g d ρ S Qd ∧ ∀ ρ' S' σ' H' m', Qd ρ' S' → Evo m H m' H' → At K B σ' H' ρ' S' m' → Q σ' H'
abbrev QG (X : Cx) (e : Expr) (g : DG) : Prop := PG X e (lftG X.K g)
abbrev QGs (X : Cx) (e : List Expr) (g : DGs) : Prop := PGs X e (lftGs X.K g)
theorem pg_weak {X : Cx} {e : Expr} {t t' : TG} (h : PG X e t) (i : ∀ v σ H Q, t' v σ H Q → t v σ H Q) : PG X e t' := ⟨fun pins s σ H v u Q I r q => h.run pins s σ H v u Q I r (i _ _ _ _ q)⟩
theorem pgs_weak {X : Cx} {e : List Expr} {t t' : TGs} (h : PGs X e t) (i : ∀ v σ H Q, t' v σ H Q → t v σ H Q) : PGs X e t' := ⟨fun pins s σ H v u Q I r q => h.run pins s σ H v u Q I r (i _ _ _ _ q)⟩
theorem At.setv {K : PySem.W.Frag} {σ : L2.St} {H : Hp} {ρ : Rho} {S : Sto} {m : Mp} {i : Nat} {v : V} {d : PyData} (a : At K B σ H ρ S m) (h : Dv K m H v d) : At K B (σ.set i (some v)) H (st ρ i d) S m := ⟨a.ev, a.wd, a.fr.set h _ _ i⟩
section
variable {X : Cx} {e a b c : Expr} {es rest : List Expr} {t ta tb tc : DE} {u v : DT} {pos : Pos} {aa : DA} {s1 : Stmt} {sts : List Stmt} {d1 d2 : DS} {g : DG} {gs : DGs}
def dNext : DS := fun D ρ S => D.nx ρ S
def dSeq (t u : DS) : DS := fun D ρ S => t { D with nx := u D } ρ S
theorem qss_nil : QSs X [] dNext := pss_weak pss_nil fun D σ H ⟨B, ρ, S, m, Dd, at_, q, k⟩ => k.nx _ _ _ _ _ q at_
theorem Ke.seq {K : PySem.W.Frag} {W : WZ} {D : Ends} {Dd : DEnds} (k : Ke K W B D Dd) : Ke K W B { D with nx := lftS K W d2 D } { Dd with nx := d2 Dd } := ⟨fun ρ S σ H m q at_ => ⟨B, ρ, S, m, Dd, at_, q, k⟩, k.rt, k.bk, k.ct, k.xt⟩
theorem qss_cons (h1 : QS X s1 d1) (h2 : QSs X sts d2) : QSs X (s1 :: sts) (dSeq d1 d2) := pss_weak (pss_cons h1 h2) fun D σ H ⟨B, ρ, S, m, Dd, at_, q, k⟩ => ⟨B, ρ, S, m, _, at_, q, k.seq⟩
theorem qss_one (h1 : QS X s1 d1) : QSs X [s1] d1 := pss_one h1
def dBreak : DS := fun D ρ S => D.bk ρ S
def dCont : DS := fun D ρ S => D.ct ρ S
theorem qs_pass : QS X (.Pass pos) dNext := ps_weak ps_pass fun D σ H ⟨B, ρ, S, m, Dd, at_, q, k⟩ => k.nx _ _ _ _ _ q at_
theorem qs_break : QS X (.Break pos) dBreak := ps_weak ps_break fun D σ H ⟨B, ρ, S, m, Dd, at_, q, k⟩ => k.bk _ _ _ _ _ q at_
theorem qs_continue : QS X (.Continue pos) dCont := ps_weak ps_continue fun D σ H ⟨B, ρ, S, m, Dd, at_, q, k⟩ => k.ct _ _ _ _ _ q at_
def dNever : DS := fun _ _ _ => False
theorem qs_never : QS X s1 dNever := ps_weak ps_never fun D σ H ⟨B, ρ, S, m, Dd, at_, q, k⟩ => q.elim
def dDrop (t : DE) : DS := fun D ρ S => t ρ S fun _ S1 => D.nx ρ S1
theorem qs_expr (he : QE X e t) (hs : swapsWith e none pos.line X.env = pure false := by rfl) : QS X (.Expr e pos) (dDrop t) := ps_weak (ps_expr he hs) fun D σ H ⟨B, ρ, S, m, Dd, at_, q, k⟩ =>
  ⟨B, ρ, S, m, _, at_, q, fun d S' v H' m' q e w dv => k.nx _ _ _ _ _ q (at_.step e w)⟩
def dRet (t : DE) : DS := fun D ρ S => t ρ S D.rt
theorem qs_ret (he : QE X e t) : QS X (.Return (some e) pos) (dRet t) := ps_weak (ps_ret he) fun D σ H ⟨B, ρ, S, m, Dd, at_, q, k⟩ =>
  ⟨B, ρ, S, m, _, at_, q, fun d S' v H' m' q e w dv => k.rt _ _ _ _ _ q (at_.ev.trans e) w dv⟩
def dRetN : DS := fun D ρ S => D.rt .none S
theorem qs_retN : QS X (.Return none pos) dRetN := ps_weak ps_retN fun D σ H ⟨B, ρ, S, m, Dd, at_, q, k⟩ => k.rt _ _ _ _ _ q at_.ev at_.wd .non
def dIfS (u : DT) (d1 d2 : DS) : DS := fun D ρ S => u ρ S fun b S1 => if b = true then d1 D ρ S1 else d2 D ρ S1
theorem qs_if {st1 st2 : List Stmt} (hc : QT X c u) (ha : QSs X st1 d1) (hb : QSs X st2 d2) : QS X (.If c st1 st2 pos) (dIfS u d1 d2) := ps_weak (ps_if hc ha hb) fun D σ H ⟨B, ρ, S, m, Dd, at_, q, k⟩ =>
  ⟨B, ρ, S, m, _, at_, q, fun b S' H' m' q e w => by
    cases b with
    | true => exact iteT ⟨B, ρ, S', m', Dd, at_.step e w, q, k⟩
    | false => exact iteF ⟨B, ρ, S', m', Dd, at_.step e w, q, k⟩⟩
/-! targets -/
def dName (i : Nat) : DG := fun d ρ S Q => Q (st ρ i d) S
theorem qg_name {i : Nat} (h : PG X e (gName i)) : QG X e (dName i) := pg_weak h fun v σ H Q ⟨d, B, ρ, S, m, Qd, at_, dv, q, k⟩ => k _ _ _ _ m q Evo.refl (at_.setv dv)
def dgNil : DGs := fun ds ρ S Q => ds = [] ∧ Q ρ S
def dgCons (g : DG) (gs : DGs) : DGs := fun ds ρ S Q => match ds with
  | d :: r => g d ρ S fun ρ' S' => gs r ρ' S' Q
  | [] => False
theorem qgs_nil : QGs X [] dgNil := pgs_weak pgs_nil fun v σ H Q ⟨d, B, ρ, S, m, Qd, at_, dv, q, k⟩ => by
  obtain ⟨rfl, q⟩ := q
  cases dv
  exact ⟨rfl, k _ _ _ _ m q Evo.refl at_⟩
theorem qgs_cons (h1 : QG X e g) (h2 : QGs X es gs) (hs : (assignEach (e :: es) X.env).map (·.2) = assign e X.env :: (assignEach es X.env).map (·.2) := by rfl) : QGs X (e :: es) (dgCons g gs) := pgs_weak (pgs_cons h1 h2 hs) fun v σ H Q ⟨ds, B, ρ, S, m, Qd, at_, dv, q, k⟩ => by
  match ds, dv, q with
  | d :: r, .cons a al, q => exact ⟨_, _, rfl, d, B, ρ, S, m, _, at_, a, q, fun ρ' S' σ' H' m' q' e' at' => ⟨r, B, ρ', S', m', Qd, at', al.up e', q', fun ρ2 S2 σ2 H2 m2 q2 e2 at2 => k ρ2 S2 σ2 H2 m2 q2 (e'.trans e2) at2⟩⟩
def dgTup (n : Nat) (gs : DGs) : DG := fun d ρ S Q => match d with
  | .tuple ds => ds.length = n ∧ gs ds ρ S Q
  | _ => False
theorem qg_tup {k : Nat} {n : Nat} (hc : X.calm = true) (h : QGs X es gs)
    (hn : (assignEach es X.env).length = n := by rfl) (hst : (assignEach es X.env).findIdx? (·.1) = none := by rfl) : QG X (.Tuple es k pos) (dgTup n gs) := pg_weak (pg_tup hc h hn hst) fun v σ H Q ⟨d, B, ρ, S, m, Qd, at_, dv, q, k⟩ => by
  cases d <;> first | exact False.elim q | skip
  obtain ⟨l, q⟩ := q
  obtain ⟨p, xs, rfl, hx, ax⟩ := dv.seqT
  exact ⟨p, xs, rfl, hx, by rw [ax.len]; exact l, _, B, ρ, S, m, Qd, at_, ax, q, k⟩
theorem wipe_set_notin {x : Option V} : ∀ (ws : List Nat) (σ : L2.St) (i : Nat), i ∉ ws → wipe (σ.set i x) ws = (wipe σ ws).set i x
  | [], σ, i, _ => rfl
  | w :: ws, σ, i, h => by
    have h1 : i ≠ w := fun e => h (by rw [e]; exact List.mem_cons_self)
    have h2 : i ∉ ws := fun e => h (List.mem_cons_of_mem _ e)
    show (wipe (σ.set i x) ws).set w none = ((wipe σ ws).set w none).set i x
    rw [wipe_set_notin ws σ i h2, List.set_comm _ _ h1]
theorem wipe_set_mem {x : Option V} : ∀ (ws : List Nat) (σ : L2.St) (i : Nat), i ∈ ws → wipe (σ.set i x) ws = wipe σ ws
  | w :: ws, σ, i, h => by
    show (wipe (σ.set i x) ws).set w none = (wipe σ ws).set w none
    by_cases z : i ∈ ws
    · rw [wipe_set_mem ws σ i z]
    · have e : i = w := (List.mem_cons.mp h).resolve_right z
      subst e
      rw [wipe_set_notin ws σ i z, List.set_set]
  | [], _, _, h => nomatch h
/-- a, b: plain names -/
def gNms : List Nat → TGs
  | [] => gNil
  | i :: is => gCons (gName i) (gNms is)
def dNms : List Nat → List PyData → Rho → Option Rho
  | [], [], ρ => some ρ
  | i :: is, d :: ds, ρ => dNms is ds (st ρ i d)
  | _, _, _ => none
theorem nms_dv {K : PySem.W.Frag} {m : Mp} {H : Hp} : ∀ (is : List Nat) (ds : List PyData) (ρ ρ' : Rho) (vs : List V) (σ : L2.St) (Q : L2.St → Hp → Prop), DvAll K m H vs ds → Fr K m H σ ρ → dNms is ds ρ = some ρ' → (∀ σ', Fr K m H σ' ρ' → (∀ ws : List Nat, (∀ i ∈ is, i ∈ ws) → wipe σ' ws = wipe σ ws) → Q σ' H) → gNms is vs σ H Q
  | [], [], ρ, ρ', _, σ, Q, h, f, e, k => by
    cases h
    cases e
    exact ⟨rfl, k σ f fun _ _ => rfl⟩
  | i :: is, d :: ds, ρ, ρ', _, σ, Q, h, f, e, k => by
    cases h with
    | cons a r =>
      refine ⟨_, _, rfl, ?_⟩
      refine nms_dv is ds _ ρ' _ _ Q r (f.set a _ _ i) e fun σ' f' hw => k σ' f' fun ws hm => ?_
      rw [hw ws fun j hj => hm j (List.mem_cons_of_mem _ hj)]
      exact wipe_set_mem ws _ i (hm i List.mem_cons_self)
  | [], _ :: _, _, _, _, _, _, _, _, e, _ => nomatch e
  | _ :: _, [], _, _, _, _, _, _, _, e, _ => nomatch e
def dAsg (t : DE) (g : DG) : DS := fun D ρ S => t ρ S fun d S1 => g d ρ S1 D.nx
theorem qs_asg (he : QE X e t) (hg : QG X a g) (hs : swapsWithSole [a] e pos.line X.env = pure false := by rfl) (hw : swappedStores [a] e X.env = pure none := by rfl)
    (h1 : (assignEach [a] X.env).map (·.2) = [assign a X.env] := by rfl) : QS X (.Assign [a] e pos) (dAsg t g) := ps_weak (ps_asg he hg hs hw h1) fun D σ H ⟨B, ρ, S, m, Dd, at_, q, k⟩ =>
  ⟨B, ρ, S, m, _, at_, q, fun d S' v H' m' q e w dv => ⟨d, B, ρ, S', m', _, at_.step e w, dv, q, fun ρ' S' σ' H' m' q _ at_ => k.nx _ _ _ _ _ q at_⟩⟩
/-- name = value -/
def dSet (i : Nat) (t : DE) : DS := fun D ρ S => t ρ S fun d S1 => D.nx (st ρ i d) S1
theorem qs_set {i : Nat} {x : Str} {pos' : Pos} (hN : X.N.Nodup) (hi : X.N[i]? = some x) (hx : Loc X.env.scope x) (he : QE X e t) (hs : swapsWith e (some (.Name x pos')) pos.line X.env = pure false := by rfl) (hf : X.fn x = true ∨ X.env.scope.names.lookup x = some .local := by first | exact .inl rfl | exact .inr rfl | assumption) :
    QS X (.Assign [.Name x pos'] e pos) (dSet i t) := ps_weak (ps_set hN hi hx he hs hf) fun D σ H ⟨B, ρ, S, m, Dd, at_, q, k⟩ =>
  ⟨B, ρ, S, m, _, at_, q, fun d S' v H' m' q e w dv => k.nx _ _ _ _ _ q ((at_.step e w).setv dv)⟩
/-- a, b = x, y: plain names -/
def dPar (i j : Nat) (aa : DA) : DS := fun D ρ S => aa ρ S fun ds S1 => match ds with
  | [d, d'] => D.nx (st (st ρ i d) j d') S1
  | _ => False
theorem qs_par {i j : Nat} {x y : Str} {px py pt : Pos} {kt k2 pt2} (hc : X.calm = true) (hN : X.N.Nodup) (hi : X.N[i]? = some x) (hj : X.N[j]? = some y) (hij : i ≠ j)
    (hx : X.env.scope.names.lookup x = some .local) (hy : X.env.scope.names.lookup y = some .local) (ha : QA X [a, b] aa)
    (hw : swappedStores [.Tuple [.Name x px, .Name y py] kt pt] (.Tuple [a, b] k2 pt2) X.env = pure (some [x, y]))
    (hs : swapsWithSole [.Tuple [.Name x px, .Name y py] kt pt] (.Tuple [a, b] k2 pt2) pos.line X.env = pure false := by rfl) :
    QS X (.Assign [.Tuple [.Name x px, .Name y py] kt pt] (.Tuple [a, b] k2 pt2) pos) (dPar i j aa) := ps_weak (ps_par hc hN hi hj hij hx hy ha hw hs) fun D σ H ⟨B, ρ, S, m, Dd, at_, q, k⟩ =>
  ⟨B, ρ, S, m, _, at_, q, fun ds S' vs H' m' q e w dv => by
    match ds, q, dv with
    | [d, d'], q, dv =>
      obtain ⟨x, y, rfl, dx, dy⟩ := dv2 dv
      exact ⟨x, y, rfl, k.nx _ _ _ _ _ q (((at_.step e w).setv dx).setv dy)⟩⟩
/-- name op= value, of ints -/
def dAugI (i : Nat) (f : Int → Int → Int) (t : DE) : DS := fun D ρ S => wh (gt ρ i) fun x => t ρ S fun y S1 => match x, y with
  | .int p, .int q => D.nx (st ρ i (.int (f p q))) S1
  | _, _ => False
theorem qs_augI {i : Nat} {x : Str} {op : Operator} {f : Int → Int → Int} {pos' : Pos} (ho : PIp X op (ipI f)) (hN : X.N.Nodup) (hi : X.N[i]? = some x) (hx : Loc X.env.scope x) (he : QE X e t) (hf : X.fn x = true ∨ X.env.scope.names.lookup x = some .local := by first | exact .inl rfl | exact .inr rfl | assumption) :
    QS X (.AugAssign (.Name x pos') op e pos) (dAugI i f t) := ps_weak (ps_aug hN hi hx he ho hf) fun D σ H ⟨B, ρ, S, m, Dd, at_, q, k⟩ => by
  obtain ⟨d, e1, q⟩ := wh_of q
  obtain ⟨v, e2, dv⟩ := at_.fr.get _ _ _ _ e1
  refine ⟨v, e2, B, ρ, S, m, _, at_, q, fun d' S' v' H' m' q e w dv' => ?_⟩
  cases d <;> cases d' <;> first | exact False.elim q | skip
  cases dv
  cases dv'
  exact ⟨_, _, rfl, rfl, k.nx _ _ _ _ _ q ((at_.step e w).setv (.int _))⟩
/-! lists that change -/
def celN : PyData → Option Nat
  | .dict [(.int (.ofNat n), .none)] => some n
  | _ => none
def lstC (S : Sto) (n : Nat) : Option (List PyData) := (S n).bind fun c => match c with
  | .lst ds => some ds
  | _ => none
theorem lstC_of {S : Sto} {n : Nat} {ds : List PyData} (h : S n = some (.lst ds)) : lstC S n = some ds := by
  unfold lstC
  rw [h]
  rfl
theorem lstC_is {S : Sto} {n : Nat} {ds : List PyData} (h : lstC S n = some ds) : S n = some (.lst ds) := by
  unfold lstC at h
  cases e : S n with
  | none => rw [e] at h; cases h
  | some c =>
    rw [e] at h
    cases c with
    | lst es => cases h; rfl
    | ins _ _ => cases h
    | dk _ => cases h
    | dt _ => cases h
theorem celN_dv {K : PySem.W.Frag} {m : Mp} {H : Hp} {x : V} {d : PyData} {n : Nat} (h : Dv K m H x d) (e : celN d = some n) : ∃ a, x = .ref a ∧ m.c n = some a := by
  cases h with
  | cel e1 =>
    cases e
    exact ⟨_, rfl, e1⟩
  | non => cases e
  | bl _ => cases e
  | int _ => cases e
  | str _ => cases e
  | lst _ _ _ => cases e
  | tup _ _ _ => cases e
  | con _ _ => cases e
  | frz => cases e
  | ins => cases e
  | exd => cases e
  | glo _ => cases e
/-- o.m(..) of a list: what it gives and leaves, by the list and the arguments -/
abbrev DM := List PyData → List PyData → (PyData → List PyData → Prop) → Sto → Prop
def dMet (f : DM) (t : DE) (aa : DA) : DE := fun ρ S Q => t ρ S fun o S1 => wh (celN o) fun n => (∃ es, S1 n = some (.lst es)) ∧ aa ρ S1 fun ds S2 => wh (lstC S2 n) fun es => f es ds (fun d es' => Q d (put S2 n (.lst es'))) S2
def SndM (K : PySem.W.Frag) (f : DM) (r : V → List V → Hp → VK → Prop) : Prop := ∀ (m : Mp) (H : Hp) (S : Sto) (l : Addr) (xs : List V) (es : List PyData) (vs : List V) (ds : List PyData) (Q : VK) (Qf : PyData → List PyData → Prop), Wd K m H S → H l = some (.lst xs) → DvAll K m H xs es → DvAll K m H vs ds → f es ds Qf S →
  (∀ d es' x ys, Qf d es' → DvAll K m H ys es' → Dv K m H x d → Q x (upd H l (.lst ys))) → r (.ref l) vs H Q
theorem met_k {K : PySem.W.Frag} {m : Mp} {H : Hp} {S : Sto} {n : Nat} {l : Addr} {Q : VK} {Qd : DK} (w : Wd K m H S) (hl : m.c n = some l) (k : Kq K m H Q Qd) : ∀ d es' x ys, Qd d (put S n (.lst es')) → DvAll K m H ys es' → Dv K m H x d → Q x (upd H l (.lst ys)) := fun d es' x ys q al dx =>
  k _ _ _ _ _ q (Evo.set w hl) (w.set hl ⟨ys, upd_same, al.up (Evo.set w hl)⟩) (dx.up (Evo.set w hl))
theorem q_met {name : Str} {apos : Pos} {id : String} {r : V → List V → Hp → VK → Prop} {f : DM} (pa : PlainAttrs "list") (slot : Slot "list" name id) (hty : typeOf (.builtin id) = pure (.type "method_descriptor")) (hm : MtR X id r) (hs : SndM X.K f r) (ho : QE X a t) (ha : QA X (e :: es) aa)
    (hbase : attributeBase a name X.env (eval a X.env) = eval a X.env := by rfl)
    (hfew : ((backTo pos (starEach (e :: es) X.env)).all (fun x => !x.1) && (backToKw pos (keywordEach [] X.env)).all (fun x => x.1.isSome)
      && decide ((e :: es).length + ([] : List Keyword).length + (if ([] : List Keyword).isEmpty then 0 else 1) < 30)) = true := by rfl)
    (hline : (apos.endLine == pos.line) = true := by rfl) (he : starEach (e :: es) X.env = (false, eval e X.env) :: starEach es X.env := by rfl) (hplain : (backTo pos (starEach es X.env)).any (·.1) = false := by rfl) :
    QE X (.Call (.Attribute a name apos) (e :: es) [] pos) (dMet f t aa) := pe_weak (pe_bm pa slot hty hm ho ha hbase hfew hline he hplain) fun σ H Q ⟨B, ρ, S, m, Qd, at_, q, k⟩ =>
  ⟨B, ρ, S, m, _, at_, q, fun d S1 v H1 m1 q1 e1 w1 dv => by
    obtain ⟨n, en, ⟨es0, q0⟩, q1⟩ := wh_of q1
    obtain ⟨l, rfl, hl⟩ := celN_dv dv en
    obtain ⟨l', xs0, h1, h2, _⟩ := w1.lst q0
    rw [hl] at h1
    cases h1
    refine ⟨.inl ⟨rfl, _, SqL.of h2⟩, B, ρ, S1, m1, _, at_.step e1 w1, q1, fun ds S2 vs H2 m2 q2 e2 w2 dvs => ?_⟩
    obtain ⟨es, h3, q2⟩ := wh_of q2
    obtain ⟨l', xs, h4, h5, al⟩ := w2.lst (lstC_is h3)
    have hl2 := e2.ext _ _ hl
    rw [hl2] at h4
    cases h4
    exact hs m2 H2 S2 l xs es vs ds Q _ w2 h5 al dvs q2 (met_k w2 hl2 ((k.up e1).up e2))⟩
def dMet0 (f : DM) (t : DE) : DE := fun ρ S Q => t ρ S fun o S1 => wh (celN o) fun n => wh (lstC S1 n) fun es => f es [] (fun d es' => Q d (put S1 n (.lst es'))) S1
theorem q_met0 {name : Str} {apos : Pos} {id : String} {r : V → List V → Hp → VK → Prop} {f : DM} (pa : PlainAttrs "list") (slot : Slot "list" name id) (hty : typeOf (.builtin id) = pure (.type "method_descriptor")) (hm : MtR X id r) (hs : SndM X.K f r) (ho : QE X a t)
    (hbase : attributeBase a name X.env (eval a X.env) = eval a X.env := by rfl) (hline : (apos.endLine == pos.line) = true := by rfl) :
    QE X (.Call (.Attribute a name apos) [] [] pos) (dMet0 f t) := pe_weak (pe_bm0 pa slot hty hm ho hbase hline) fun σ H Q ⟨B, ρ, S, m, Qd, at_, q, k⟩ =>
  ⟨B, ρ, S, m, _, at_, q, fun d S1 v H1 m1 q1 e1 w1 dv => by
    obtain ⟨n, en, q1⟩ := wh_of q1
    obtain ⟨es, h3, q1⟩ := wh_of q1
    obtain ⟨l, rfl, hl⟩ := celN_dv dv en
    obtain ⟨l', xs, h4, h5, al⟩ := w1.lst (lstC_is h3)
    rw [hl] at h4
    cases h4
    exact ⟨.inl ⟨rfl, _, SqL.of h5⟩, hs m1 H1 S1 l xs es [] [] Q _ w1 h5 al .nil q1 (met_k w1 hl (k.up e1))⟩⟩
def mApp : DM := fun es ds Q S => match ds with
  | [d] => es.length < 1000000 ∧ Q .none (es ++ [d])
  | _ => False
theorem snd_app {K : PySem.W.Frag} : SndM K mApp rAppend := fun m H S l xs es vs ds Q Qf w hl al dv h k => by
  match ds, h, dv with
  | [d], h, dv =>
    obtain ⟨x, rfl, dx⟩ := dv1 dv
    have h1 := h.1
    exact ⟨l, xs, x, rfl, rfl, hl, by rw [al.len, sizeLine_eq]; omega, k _ _ _ _ h.2 (al.app (.cons dx .nil)) .non⟩
theorem q_append {apos : Pos} (ho : QE X a t) (ha : QA X [e] aa) (hbase : attributeBase a "append" X.env (eval a X.env) = eval a X.env := by rfl)
    (hfew : ((backTo pos (starEach [e] X.env)).all (fun x => !x.1) && (backToKw pos (keywordEach [] X.env)).all (fun x => x.1.isSome)
      && decide ([e].length + ([] : List Keyword).length + (if ([] : List Keyword).isEmpty then 0 else 1) < 30)) = true := by rfl)
    (hline : (apos.endLine == pos.line) = true := by rfl) (he : starEach [e] X.env = (false, eval e X.env) :: starEach [] X.env := by rfl) :
    QE X (.Call (.Attribute a "append" apos) [e] [] pos) (dMet mApp t aa) := q_met PySem.F.plainAttrs_list PySem.F.slot_list_append PySem.F.type_list_append mt_append snd_app ho ha hbase hfew hline he rfl
def mPop : DM := fun es ds Q S => wh es.getLast? fun d => Q d es.dropLast
theorem snd_pop {K : PySem.W.Frag} : SndM K mPop (fun x vs H Q => vs = [] → rPop x vs H Q) := fun m H S l xs es vs ds Q Qf w hl al dv h k hv => by
  obtain ⟨d, h1, h2⟩ := wh_of h
  rw [List.getLast?_eq_getElem?] at h1
  obtain ⟨x, e, dx⟩ := al.get h1
  exact ⟨l, xs, x, rfl, hv, hl, by rw [al.len]; exact e, k _ _ _ _ h2 al.dropLast dx⟩
theorem mt_pop0 : MtR X "list.pop" (fun x vs H Q => vs = [] ∧ (vs = [] → rPop x vs H Q)) := fun pins s σ H x vs v us Q I r1 r2 h => mt_pop pins s σ H x vs v us Q I r1 r2 (h.2 h.1)
def mPop0 : DM := fun es ds Q S => ds = [] ∧ mPop es ds Q S
theorem snd_pop0 {K : PySem.W.Frag} : SndM K mPop0 (fun x vs H Q => vs = [] ∧ (vs = [] → rPop x vs H Q)) := fun m H S l xs es vs ds Q Qf w hl al dv h k => by
  obtain ⟨rfl, h⟩ := h
  cases dv
  exact ⟨rfl, snd_pop m H S l xs es [] [] Q Qf w hl al .nil h k⟩
theorem q_pop {apos : Pos} (ho : QE X a t) (hbase : attributeBase a "pop" X.env (eval a X.env) = eval a X.env := by rfl) (hline : (apos.endLine == pos.line) = true := by rfl) :
    QE X (.Call (.Attribute a "pop" apos) [] [] pos) (dMet0 mPop0 t) := q_met0 PySem.F.plainAttrs_list PySem.F.slot_list_pop PySem.F.type_list_pop mt_pop0 snd_pop0 ho hbase hline
def mExt : DM := fun es ds Q S => match ds with
  | [d] => wh (itemsD S d) fun xs => es.length + xs.length ≤ 1000000 ∧ Q .none (es ++ xs)
  | _ => False
def rExtA (K : PySem.W.Frag) : V → List V → Hp → VK → Prop := fun x vs H Q => ∃ l b xs zs, x = .ref l ∧ vs = [.ref b] ∧ H l = some (.lst xs) ∧ SqT K H b zs ∧ xs.length + zs.length ≤ sizeLine ∧ Q .non (upd H l (.lst (xs ++ zs)))
theorem mt_extT2 : MtM X "list.extend" (rExtA X.K) := by
  intro pins s σ H x vs v us Q I rx rv h
  obtain ⟨l, b, xs, zs, rfl, rfl, hH, hB, hz, q⟩ := h
  cases rx
  obtain ⟨u, rfl, ru⟩ := rv.one
  cases ru
  obtain ⟨z, its, n, r, hl, e⟩ := I.lstM hH
  obtain ⟨its2, r2, p2, z2⟩ := I.tuple hB
  obtain ⟨⟨cls2, dd2, data2, sl2⟩, ho2, hc2, n2, hd2⟩ := id p2
  simp only at hc2 hd2
  subst hc2 hd2
  have hl2 := r2.length
  have hsz : its.toArray.size + its2.toArray.size ≤ sizeLine := by rw [List.size_toArray, List.size_toArray]; omega
  have hlong : ¬ (!its.toArray.isEmpty && Builtin.List.listTooLong (its.toArray.size + its2.toArray.size)) = true := by
    rw [notLongL hsz, Bool.and_false]
    exact Bool.false_ne_true
  refine call_meets PySem.F.slot_list_extend ⟨_, e, rfl⟩ PySem.F.entry_list_extend (PySem.F.args_list_extend_2 _ _)
    (extend_tupW l b its.toArray its2.toArray n n2 dd2 sl2 hlong (by rw [List.size_toArray]; omega) (by omega)) ⟨e, ho2, ?_⟩
  refine ⟨.non, _, I.lset (its' := its ++ its2) hH e (by simp) (r.append r2) ?_, rfl, q⟩
  rw [List.length_append]
  omega
theorem mt_extA : MtR X "list.extend" (fun x vs H Q => rExtend x vs H Q ∨ rExtA X.K x vs H Q) := MtR.or mt_extend mt_extT2
theorem Dv.items3 {K : PySem.W.Frag} {m : Mp} {H : Hp} {S : Sto} {x : V} {d : PyData} {ds : List PyData} (w : Wd K m H S) (dx : Dv K m H x d) (h : itemsD S d = some ds) : ∃ a xs, x = .ref a ∧ ((isTupD d = false ∧ H a = some (.lst xs)) ∨ (isTupD d = true ∧ SqT K H a xs)) ∧ DvAll K m H xs ds := by
  cases dx with
  | non => cases h
  | bl _ => cases h
  | int _ => cases h
  | str _ => cases h
  | glo _ => cases h
  | ins => cases h
  | exd => cases h
  | frz e _ n a =>
    cases h
    exact ⟨_, _, rfl, .inr ⟨rfl, .inl (.inr ⟨_, e⟩)⟩, a⟩
  | lst e n a =>
    cases h
    exact ⟨_, _, rfl, .inl ⟨rfl, e⟩, a⟩
  | tup e n a =>
    cases h
    exact ⟨_, _, rfl, .inr ⟨rfl, SqT.of e⟩, a⟩
  | con e a =>
    cases h
    exact ⟨_, _, rfl, .inr ⟨rfl, e.sq⟩, a⟩
  | @cel a n e =>
    have h' : lstC S n = some ds := h
    obtain ⟨a', xs, e1, e2, e3⟩ := w.lst (lstC_is h')
    rw [e] at e1
    cases e1
    exact ⟨_, _, rfl, .inl ⟨rfl, e2⟩, e3⟩
theorem snd_ext : SndM X.K mExt (fun x vs H Q => rExtend x vs H Q ∨ rExtA X.K x vs H Q) := fun m H S l xs es vs ds Q Qf w hl al dv h k => by
  match ds, h, dv with
  | [d], h, dv =>
    obtain ⟨x, rfl, dx⟩ := dv1 dv
    obtain ⟨ys, h1, h2, h3⟩ := wh_of h
    obtain ⟨b, zs, rfl, hq, al2⟩ := dx.items3 w h1
    have hz : xs.length + zs.length ≤ sizeLine := by rw [al.len, al2.len]; exact line_of h2
    rcases hq with ⟨_, hq⟩ | ⟨_, hq⟩
    · exact .inl ⟨l, b, xs, zs, rfl, rfl, hl, hq, hz, k _ _ _ _ h3 (al.app al2) .non⟩
    · exact .inr ⟨l, b, xs, zs, rfl, rfl, hl, hq, hz, k _ _ _ _ h3 (al.app al2) .non⟩
theorem q_extend {apos : Pos} (ho : QE X a t) (ha : QA X [e] aa) (hbase : attributeBase a "extend" X.env (eval a X.env) = eval a X.env := by rfl)
    (hfew : ((backTo pos (starEach [e] X.env)).all (fun x => !x.1) && (backToKw pos (keywordEach [] X.env)).all (fun x => x.1.isSome)
      && decide ([e].length + ([] : List Keyword).length + (if ([] : List Keyword).isEmpty then 0 else 1) < 30)) = true := by rfl)
    (hline : (apos.endLine == pos.line) = true := by rfl) (he : starEach [e] X.env = (false, eval e X.env) :: starEach [] X.env := by rfl) :
    QE X (.Call (.Attribute a "extend" apos) [e] [] pos) (dMet mExt t aa) := q_met PySem.F.plainAttrs_list PySem.F.slot_list_extend PySem.F.type_list_extend mt_extA snd_ext ho ha hbase hfew hline he rfl
/-- xs.insert(i, e) -/
def mIns : DM := fun es ds Q S => match ds with
  | [.int i, d] => (es.length < 1000000 ∧ 0 ≤ i ∧ i < 2 ^ 63) ∧ Q .none (es.take i.toNat ++ [d] ++ es.drop i.toNat)
  | _ => False
theorem snd_ins {K : PySem.W.Frag} : SndM K mIns (fun x vs H Q => ∃ (l : Addr) (xs : List V) (i : Int) (y : V), x = .ref l ∧ vs = [.int i, y] ∧ H l = some (.lst xs) ∧ xs.length < sizeLine ∧ 0 ≤ i ∧ i < 2 ^ 63 ∧
    Q .non (upd H l (.lst (xs.take i.toNat ++ [y] ++ xs.drop i.toNat)))) := fun m H S l xs es vs ds Q Qf w hl al dv h k => by
  match ds, h, dv with
  | [.int i, d], h, dv =>
    obtain ⟨x, y, rfl, dx, dy⟩ := dv2 dv
    cases dx
    obtain ⟨⟨h1, h2, h3⟩, h4⟩ := h
    exact ⟨l, xs, i, y, rfl, rfl, hl, by rw [al.len, sizeLine_eq]; omega, h2, h3, k _ _ _ _ h4 (((al.take _).app (.cons dy .nil)).app (al.drop _)) .non⟩
theorem q_insert {apos : Pos} {e2 : Expr} (ho : QE X a t) (ha : QA X [e, e2] aa) (hbase : attributeBase a "insert" X.env (eval a X.env) = eval a X.env := by rfl)
    (hfew : ((backTo pos (starEach [e, e2] X.env)).all (fun x => !x.1) && (backToKw pos (keywordEach [] X.env)).all (fun x => x.1.isSome)
      && decide ([e, e2].length + ([] : List Keyword).length + (if ([] : List Keyword).isEmpty then 0 else 1) < 30)) = true := by rfl)
    (hline : (apos.endLine == pos.line) = true := by rfl) (he : starEach [e, e2] X.env = (false, eval e X.env) :: starEach [e2] X.env := by rfl) (hplain : (backTo pos (starEach [e2] X.env)).any (·.1) = false := by rfl) :
    QE X (.Call (.Attribute a "insert" apos) [e, e2] [] pos) (dMet mIns t aa) := q_met PySem.F.plainAttrs_list PySem.F.slot_list_insert PySem.F.type_list_insert mt_insert snd_ins ho ha hbase hfew hline he hplain
/-- xs[i] = e -/
def dgSub (to ti : DE) : DG := fun d ρ S Q => to ρ S fun o S1 => ti ρ S1 fun i S2 => wh (celN o) fun n => wh (lstC S2 n) fun es => match i with
  | .int k => wh (ixN es.length k) fun j => Q ρ (put S2 n (.lst (es.set j d)))
  | _ => False
theorem DvAll.set {K : PySem.W.Frag} {m : Mp} {H : Hp} {v : V} {d : PyData} (hv : Dv K m H v d) : ∀ {xs : List V} {ds : List PyData} (i : Nat), DvAll K m H xs ds → DvAll K m H (xs.set i v) (ds.set i d)
  | _, _, _, .nil => .nil
  | _, _, 0, .cons a r => .cons hv r
  | _, _, i + 1, .cons a r => .cons a (DvAll.set hv i r)
theorem qg_sub {o i : Expr} {to ti : DE} (ho : QE X o to) (hi : QE X i ti)
    (ha : ∀ v, assign (.Subscript o i pos) X.env v = (do
      let ov ← holding [v] (eval o X.env)
      let iv ← holding [v, ov] (eval i X.env)
      standAt pos
      holding [v, ov, iv] (setItem ov iv v)
      release [v, ov, iv] []) := by intro _; rfl) : QG X (.Subscript o i pos) (dgSub to ti) := pg_weak (pg_sub ho hi set_list ha) fun v σ H Q ⟨d, B, ρ, S, m, Qd, at_, dv, q, k⟩ =>
  ⟨B, ρ, S, m, _, at_, q, fun o S1 x H1 m1 q1 e1 w1 dx => ⟨B, ρ, S1, m1, _, at_.step e1 w1, q1, fun i S2 y H2 m2 q2 e2 w2 dy => by
    obtain ⟨n, en, q2⟩ := wh_of q2
    obtain ⟨es, h3, q2⟩ := wh_of q2
    cases i <;> first | exact False.elim q2 | skip
    obtain ⟨j, ej, q2⟩ := wh_of q2
    cases dy
    obtain ⟨l, rfl, hl⟩ := celN_dv (dx.up e2) en
    obtain ⟨l', xs, h4, h5, al⟩ := w2.lst (lstC_is h3)
    rw [hl] at h4
    cases h4
    have e3 := Evo.set (o := .lst (xs.set j v)) w2 hl
    refine ⟨l, xs, _, j, rfl, rfl, h5, by rw [al.len]; exact ej, k _ _ _ _ m2 q2 ((e1.trans e2).trans e3) (((at_.step e1 w1).step e2 w2).step e3 (w2.set hl ⟨_, upd_same, (DvAll.set ((dv.up e1).up e2) j al).up e3⟩))⟩⟩⟩
/-- del xs[a:] -/
def dDelT (t : DE) (lo : DO) : DS := fun D ρ S => t ρ S fun o S1 => lo ρ S1 fun l S2 => wh (celN o) fun n => wh (lstC S2 n) fun es => match l with
  | some (.ofNat a) => a ≤ es.length ∧ D.nx ρ (put S2 n (.lst (es.take a)))
  | _ => False
theorem qs_delT {o lo : Expr} {to : DE} {tl : DO} {tpos p2 : Pos} (ho : QE X o to) (hl : QO X (some lo) tl) : QS X (.Delete [.Subscript o (.Slice (some lo) none none p2) tpos] pos) (dDelT to tl) := ps_weak (ps_delTail ho hl) fun D σ H ⟨B, ρ, S, m, Dd, at_, q, k⟩ =>
  ⟨B, ρ, S, m, _, at_, q, fun o S1 x H1 m1 q1 e1 w1 dx => ⟨B, ρ, S1, m1, _, at_.step e1 w1, q1, fun l S2 H2 m2 q2 e2 w2 => by
    obtain ⟨n, en, q2⟩ := wh_of q2
    obtain ⟨es, h3, q2⟩ := wh_of q2
    match l, q2 with
    | some (.ofNat a), q2 =>
      obtain ⟨la, q2⟩ := q2
      obtain ⟨l, rfl, hl⟩ := celN_dv (dx.up e2) en
      obtain ⟨l', xs, h4, h5, al⟩ := w2.lst (lstC_is h3)
      rw [hl] at h4
      cases h4
      have e3 := Evo.set (o := .lst (xs.take a)) w2 hl
      exact ⟨l, xs, a, rfl, rfl, h5, by rw [al.len]; exact la, k.nx _ _ _ _ m2 q2 (((at_.step e1 w1).step e2 w2).step e3 (w2.set hl ⟨_, upd_same, (al.take a).up e3⟩))⟩⟩⟩
end
end K3
namespace K3
open PySem L2
theorem pss_never_q {X : Cx} {sts : List Stmt} : QSs X sts dNever := pss_weak (pss_never) fun D σ H ⟨B, ρ, S, m, Dd, at_, q, k⟩ => q
end K3

/-! the plain layer: loops, comprehensions -/
namespace K3
open PySem L2 Xr K1
/-- an iterator that gives such items while the store is so -/
structure WkD (K : PySem.W.Frag) (m1 : Mp) (H1 : Hp) (J : It) (items : List PyData) (stay : Sto → Prop) : Prop where
  ex : ∃ (G : Hp → Prop) (Y : Nat → Hp → V → Hp → Prop), Walk J items.length G Y ∧ (∀ m H S, Ev0 m1 H1 m H → Wd K m H S → stay S → G H) ∧
    ∀ i m H S x H', Ev0 m1 H1 m H → Wd K m H S → stay S → i < items.length → Y i H x H' → ∃ d, items[i]? = some d ∧ Dv K m H' x d ∧ Evo m H m H' ∧ Wd K m H' S
abbrev DI := Rho → Sto → (List PyData → (Sto → Prop) → Sto → Prop) → Prop
def lftI (K : PySem.W.Frag) (t : DI) : TI := fun σ H R => ∃ B ρ S m Qi, At K B σ H ρ S m ∧ t ρ S Qi ∧ ∀ items stay S1 H1 m1 J, Qi items stay S1 → Evo m H m1 H1 → Wd K m1 H1 S1 → stay S1 → WkD K m1 H1 J items stay → R J H1
abbrev QI (X : Cx) (tg e : Expr) (t : DI) : Prop := PI X tg e (lftI X.K t)
theorem pi_weak {X : Cx} {tg e : Expr} {t t' : TI} (h : PI X tg e t) (i : ∀ σ H R, t' σ H R → t σ H R) : PI X tg e t' := ⟨fun pins s σ H R I q => h.run pins s σ H R I (i _ _ _ q)⟩
section
variable {X : Cx} {e a b c tg : Expr} {es rest : List Expr} {t ta tb tc : DE} {u v : DT} {pos : Pos} {aa : DA} {s1 : Stmt} {sts : List Stmt} {d1 d2 : DS} {g : DG} {gs : DGs} {di : DI}
/-- a list, a tuple, a text -/
def iAny (K : PySem.W.Frag) (tl : TE) : TI := fun σ H R => tl σ H fun x H1 => (∃ a, x = .ref a ∧ (((∃ xs, SqL K H1 a xs) ∧ R (Itl K a) H1) ∨ ((∃ xs, SqT K H1 a xs) ∧ R (Itt K a) H1))) ∨ ∃ z, x = .str z ∧ R (Its z) H1
theorem pi_any {l : Expr} {tl : TE} (hl : PE X l tl) : PI X tg l (iAny X.K tl) := by
  refine ⟨fun pins s σ H R I h => ?_⟩
  refine thn (hl.run pins s σ H _ I h) fun v s1 ⟨x, H1, I1, r1, q1⟩ => ?_
  rcases q1 with ⟨a, e, q1⟩ | ⟨z, e, q⟩
  · subst e
    cases r1
    rcases q1 with ⟨⟨xs, hq⟩, q⟩ | ⟨⟨xs, hq⟩, q⟩
    · obtain ⟨its, rv, p, hz⟩ := I1.list hq
      refine wpAny_pyIter_list p.isList ?_
      refine ⟨s1.heap.objs.size, [s1.heap.objs.size], _, _, H1, rfl, I1.kept (t' := s1.toks) fun b o e => Heap.get?_push_of_some _ e, turn_list a _, ⟨_, Heap.get?_push_size _ rfl, rfl, rfl⟩, fun b hb => ?_, q⟩
      have e : b = s1.heap.objs.size := by simpa using hb
      subst e
      exact I1.fpOk (Nat.le_refl _) (I1.hok.fresh (Nat.le_refl _))
    · obtain ⟨its, rv, p, hz⟩ := I1.tuple hq
      refine wpAny_pyIter_tuple (show s1.heap.IsTuple a its.toArray from p) ?_
      refine ⟨s1.heap.objs.size, [s1.heap.objs.size], _, _, H1, rfl, I1.kept (t' := s1.toks) fun b o e => Heap.get?_push_of_some _ e, turn_tuple a _, ⟨_, Heap.get?_push_size _ rfl, rfl, rfl⟩, fun b hb => ?_, q⟩
      have e : b = s1.heap.objs.size := by simpa using hb
      subst e
      exact I1.fpOk (Nat.le_refl _) (I1.hok.fresh (Nat.le_refl _))
  · subst e
    obtain ⟨t, rfl⟩ := r1
    cases ha : z.cps.all (· < 128)
    · exact wpAny_pyIter_wide ha (pi_one (tk := s1.toks) I1 _ (turn_str _ z t "str_iterator" (.inr rfl)) ⟨_, Heap.get?_push_size _ rfl, rfl, rfl⟩ q)
    · exact wpAny_pyIter_ascii ha (pi_one (tk := s1.toks) I1 _ (turn_str _ z t "str_ascii_iterator" (.inl rfl)) ⟨_, Heap.get?_push_size _ rfl, rfl, rfl⟩ q)
/-- what a for walks, and while what is so -/
def signs (z : Str) : List PyData := z.cps.toList.map fun c => .str ⟨#[c]⟩
def walkD (S : Sto) : PyData → Option (List PyData × (Sto → Prop))
  | .str z => some (signs z, fun _ => True)
  | .dict [(.int (.ofNat n), .none)] => (lstC S n).map fun ds => (ds, fun S' => S' n = some (.lst ds))
  | o => (itemsD S o).map fun ds => (ds, fun _ => True)
theorem wk_tup {K : PySem.W.Frag} {m : Mp} {H : Hp} {p : Addr} {xs : List V} {ds : List PyData} {stay : Sto → Prop} (hs : ∀ m' H', Ev0 m H m' H' → SqT K H' p xs) (al : DvAll K m H xs ds) : WkD K m H (Itt K p) ds stay := by
  refine ⟨fun H => SqT K H p xs, YAt xs, by rw [← al.len]; exact walk_tup, fun m' H' S e w st => hs _ _ e, fun i m' H' S x H2 e w st hi y => ?_⟩
  obtain ⟨rfl, hx⟩ := y
  obtain ⟨d, hd, dv⟩ := (al.up0 e).getV hx
  exact ⟨d, hd, dv, Evo.refl, w⟩
theorem sqT_up {K : PySem.W.Frag} {m : Mp} {H : Hp} {v : V} {ds : List PyData} (dx : Dv K m H v (.tuple ds)) : ∃ p xs, v = .ref p ∧ SqT K H p xs ∧ DvAll K m H xs ds ∧ ∀ m' H', Ev0 m H m' H' → SqT K H' p xs := by
  cases dx with
  | tup e n al => exact ⟨_, _, rfl, SqT.of e, al, fun m' H' ev => SqT.of (ev.kp _ _ e n).1⟩
  | con e al => exact ⟨_, _, rfl, e.sq, al, fun m' H' ev => e.sq⟩
theorem walk_ok {K : PySem.W.Frag} {m : Mp} {H : Hp} {S : Sto} {x : V} {d : PyData} {items : List PyData} {stay : Sto → Prop} (w : Wd K m H S) (dx : Dv K m H x d) (h : walkD S d = some (items, stay)) :
    stay S ∧ ((∃ a, x = .ref a ∧ (((∃ xs, SqL K H a xs) ∧ WkD K m H (Itl K a) items stay) ∨ ((∃ xs, SqT K H a xs) ∧ WkD K m H (Itt K a) items stay))) ∨ ∃ z, x = .str z ∧ WkD K m H (Its z) items stay) := by
  cases dx with
  | non => cases h
  | bl _ => cases h
  | int _ => cases h
  | glo _ => cases h
  | ins => cases h
  | exd => cases h
  | frz e _ n al =>
    cases h
    exact ⟨trivial, .inl ⟨_, rfl, .inr ⟨⟨_, .inl (.inr ⟨_, e⟩)⟩, wk_tup (fun m' H' ev => .inl (.inr ⟨_, (ev.kp _ _ e n).1⟩)) al⟩⟩⟩
  | str z =>
    cases h
    refine ⟨trivial, .inr ⟨z, rfl, fun _ => True, fun i H v H' => H' = H ∧ ∃ c, z.cps[i]? = some c ∧ v = .str ⟨#[c]⟩, ?_, fun _ _ _ _ _ _ => trivial, fun i m' H' S x H2 e w st hi y => ?_⟩⟩
    · have : (signs z).length = z.cps.size := by unfold signs; simp
      rw [this]
      exact walk_str
    · obtain ⟨rfl, c, hc, rfl⟩ := y
      refine ⟨.str ⟨#[c]⟩, ?_, .str _, Evo.refl, w⟩
      unfold signs
      rw [List.getElem?_map]
      have : z.cps.toList[i]? = some c := by rw [Array.getElem?_toList]; exact hc
      rw [this]
      rfl
  | tup e n al =>
    cases h
    exact ⟨trivial, .inl ⟨_, rfl, .inr ⟨⟨_, SqT.of e⟩, wk_tup (fun m' H' ev => SqT.of (ev.kp _ _ e n).1) al⟩⟩⟩
  | con e al =>
    cases h
    exact ⟨trivial, .inl ⟨_, rfl, .inr ⟨⟨_, e.sq⟩, wk_tup (fun m' H' ev => e.sq) al⟩⟩⟩
  | @lst p xs ds e n al =>
    cases h
    refine ⟨trivial, .inl ⟨_, rfl, .inl ⟨⟨_, SqL.of e⟩, fun H => SqL K H p xs, YAt xs, by rw [← al.len]; exact walk_list, fun m' H' S ev w st => SqL.of (ev.kp _ _ e n).1, fun i m' H' S x H2 ev w st hi y => ?_⟩⟩⟩
    obtain ⟨rfl, hx⟩ := y
    obtain ⟨d, hd, dv⟩ := (al.up0 ev).getV hx
    exact ⟨d, hd, dv, Evo.refl, w⟩
  | @cel p n e =>
    have h' : (lstC S n).map (fun ds => (ds, fun S' : Sto => S' n = some (Cell.lst ds))) = some (items, stay) := h
    cases hs : lstC S n with
    | none => rw [hs] at h'; cases h'
    | some ds =>
      rw [hs] at h'
      cases h'
      have hc := lstC_is hs
      obtain ⟨p', xs0, e1, e2, al0⟩ := w.lst hc
      rw [e] at e1
      cases e1
      refine ⟨hc, .inl ⟨_, rfl, .inl ⟨⟨_, SqL.of e2⟩, fun H => ∃ xs, SqL K H p xs ∧ xs.length = items.length, fun i H1 x H2 => H2 = H1 ∧ ∀ xs, SqL K H1 p xs → xs[i]? = some x, ?_, ?_, ?_⟩⟩⟩
      · exact ⟨fun i H1 hi ⟨xs, q, l⟩ => ⟨xs, xs[i]'(by omega), q, by simp [show i < xs.length by omega]⟩, fun H1 ⟨xs, q, l⟩ => ⟨xs, q, by omega⟩, fun i H1 x H2 hi g y => ⟨y.1, y.2⟩⟩
      · intro m' H' S' ev w' st
        obtain ⟨p', xs, e3, e4, al⟩ := w'.lst st
        rw [ev.ext _ _ e] at e3
        cases e3
        exact ⟨xs, SqL.of e4, al.len⟩
      · intro i m' H' S' x H2 ev w' st hi y
        obtain ⟨rfl, y⟩ := y
        obtain ⟨p', xs, e3, e4, al⟩ := w'.lst st
        rw [ev.ext _ _ e] at e3
        cases e3
        obtain ⟨d, hd, dv⟩ := al.getV (y xs (SqL.of e4))
        exact ⟨d, hd, dv, Evo.refl, w'⟩
def dWalk (t : DE) : DI := fun ρ S Q => t ρ S fun d S1 => wh (walkD S1 d) fun w => Q w.1 w.2 S1
theorem qi_any (he : QE X e t) : QI X tg e (dWalk t) := pi_weak (pi_any he) fun σ H R ⟨B, ρ, S, m, Qi, at_, q, k⟩ => ⟨B, ρ, S, m, _, at_, q, fun d S1 x H1 m1 q1 e1 w1 dx => by
  obtain ⟨⟨items, stay⟩, h1, h2⟩ := wh_of q1
  obtain ⟨st, h3⟩ := walk_ok w1 dx h1
  rcases h3 with ⟨a, rfl, ⟨hx, wk⟩ | ⟨hx, wk⟩⟩ | ⟨z, rfl, wk⟩
  · exact .inl ⟨a, rfl, .inl ⟨hx, k _ _ _ _ _ _ h2 e1 w1 st wk⟩⟩
  · exact .inl ⟨a, rfl, .inr ⟨hx, k _ _ _ _ _ _ h2 e1 w1 st wk⟩⟩
  · exact .inr ⟨z, rfl, k _ _ _ _ _ _ h2 e1 w1 st wk⟩⟩
/-! ranges -/
def rangeD (lo c : Int) (n : Nat) : List PyData := (List.range n).map fun i => .int (lo + (i : Nat) * c)
theorem rangeD_len (lo c : Int) (n : Nat) : (rangeD lo c n).length = n := by unfold rangeD; simp
theorem rangeD_get {lo c : Int} {n i : Nat} (h : i < n) : (rangeD lo c n)[i]? = some (.int (lo + (i : Nat) * c)) := by
  unfold rangeD
  rw [List.getElem?_map, List.getElem?_range h]
  rfl
theorem wk_range {K : PySem.W.Frag} {m : Mp} {H : Hp} {lo : Int} {n : Nat} : WkD K m H (Itr lo n) (rangeD lo 1 n) fun _ => True := by
  refine ⟨fun _ => True, YFn fun i => .int (lo + i), by rw [rangeD_len]; exact walk_range, fun _ _ _ _ _ _ => trivial, fun i m' H' S x H2 e w st hi y => ?_⟩
  obtain ⟨rfl, rfl⟩ := y
  rw [rangeD_len] at hi
  refine ⟨_, rangeD_get hi, ?_, Evo.refl, w⟩
  rw [Int.mul_one]
  exact .int _
theorem wk_rangeC {K : PySem.W.Frag} {m : Mp} {H : Hp} {lo c : Int} {n : Nat} : WkD K m H (Itc lo c n) (rangeD lo c n) fun _ => True := by
  refine ⟨fun _ => True, YFn fun i => .int (lo + (i : Nat) * c), by rw [rangeD_len]; exact walk_rangeC, fun _ _ _ _ _ _ => trivial, fun i m' H' S x H2 e w st hi y => ?_⟩
  obtain ⟨rfl, rfl⟩ := y
  rw [rangeD_len] at hi
  exact ⟨_, rangeD_get hi, .int _, Evo.refl, w⟩
def small62 (i : Int) : Prop := -4611686018427387904 ≤ i ∧ i < 4611686018427387904
def dRange1 (aa : DA) : DI := fun ρ S Q => aa ρ S fun ds S1 => match ds with
  | [.int j] => small62 j ∧ Q (rangeD 0 1 j.toNat) (fun _ => True) S1
  | _ => False
def dRange2 (aa : DA) : DI := fun ρ S Q => aa ρ S fun ds S1 => match ds with
  | [.int i, .int j] => (small62 i ∧ small62 j) ∧ Q (rangeD i 1 (j - i).toNat) (fun _ => True) S1
  | _ => False
/-- counting down by one -/
def dRange3 (aa : DA) : DI := fun ρ S Q => aa ρ S fun ds S1 => match ds with
  | [.int i, .int j, .int c] => (c = -1 ∧ small62 i ∧ small62 j) ∧ Q (rangeD i (-1) (i - j).toNat) (fun _ => True) S1
  | _ => False
theorem qi_range1 {p : Pos} (hm : X.mg "range" = none) (hg : Gl X "range") (ha : QA X [a] aa) (hs : starEach [a] X.env = [(false, eval a X.env)] := by rfl) : QI X tg (.Call (.Name "range" p) [a] [] pos) (dRange1 aa) := pi_weak (pi_range1 hg hm ha hs) fun σ H R ⟨B, ρ, S, m, Qi, at_, q, k⟩ =>
  ⟨B, ρ, S, m, _, at_, q, fun ds S1 vs H1 m1 q1 e1 w1 dv => by
    match ds, q1, dv with
    | [.int j], q1, dv =>
      obtain ⟨x, rfl, dx⟩ := dv1 dv
      cases dx
      obtain ⟨⟨h1, h2⟩, h3⟩ := q1
      exact ⟨j, rfl, h1, h2, k _ _ _ _ _ _ h3 e1 w1 trivial wk_range⟩⟩
theorem qi_range2 {p : Pos} (hm : X.mg "range" = none) (hg : Gl X "range") (ha : QA X [a, b] aa) (hs : starEach [a, b] X.env = [(false, eval a X.env), (false, eval b X.env)] := by rfl) (hs2 : starEach [b] X.env = [(false, eval b X.env)] := by rfl) : QI X tg (.Call (.Name "range" p) [a, b] [] pos) (dRange2 aa) := pi_weak (pi_range2 hg hm ha hs hs2) fun σ H R ⟨B, ρ, S, m, Qi, at_, q, k⟩ =>
  ⟨B, ρ, S, m, _, at_, q, fun ds S1 vs H1 m1 q1 e1 w1 dv => by
    match ds, q1, dv with
    | [.int i, .int j], q1, dv =>
      obtain ⟨x, y, rfl, dx, dy⟩ := dv2 dv
      cases dx
      cases dy
      obtain ⟨⟨⟨h1, h2⟩, h3, h4⟩, h5⟩ := q1
      exact ⟨i, j, rfl, ⟨h1, h2, h3, h4⟩, k _ _ _ _ _ _ h5 e1 w1 trivial wk_range⟩⟩
theorem qi_range3 {p : Pos} (hm : X.mg "range" = none) (hg : Gl X "range") (ha : QA X [a, b, c] aa) (hs : starEach [a, b, c] X.env = (false, eval a X.env) :: starEach [b, c] X.env := by rfl) (hpl : (backTo pos (starEach [b, c] X.env)).any (·.1) = false := by rfl) : QI X tg (.Call (.Name "range" p) [a, b, c] [] pos) (dRange3 aa) := pi_weak (pi_range3 hg hm ha hs hpl) fun σ H R ⟨B, ρ, S, m, Qi, at_, q, k⟩ =>
  ⟨B, ρ, S, m, _, at_, q, fun ds S1 vs H1 m1 q1 e1 w1 dv => by
    match ds, q1, dv with
    | [.int i, .int j, .int c], q1, dv =>
      obtain ⟨x, y, z, rfl, dx, dy, dz⟩ := dv3 dv
      cases dx
      cases dy
      cases dz
      obtain ⟨⟨rfl, ⟨h1, h2⟩, h3, h4⟩, h5⟩ := q1
      exact ⟨i, j, -1, _, rfl, RgC.neg h1 h2 h3 h4, k _ _ _ _ _ _ h5 e1 w1 trivial wk_rangeC⟩⟩
/-! enumerate -/
def enumD (ds : List PyData) : List PyData := ds.zipIdx.map fun p => .tuple [.int (p.2 : Nat), p.1]
theorem enumD_len (ds : List PyData) : (enumD ds).length = ds.length := by unfold enumD; simp
theorem enumD_get {ds : List PyData} {i : Nat} {d : PyData} (h : ds[i]? = some d) : (enumD ds)[i]? = some (.tuple [.int (i : Nat), d]) := by
  unfold enumD
  rw [List.getElem?_map, List.getElem?_zipIdx, h]
  simp
theorem pair_new {K : PySem.W.Frag} {m : Mp} {H : Hp} {S : Sto} {T : Addr} {x y : V} {a b : PyData} (w : Wd K m H S) (hT : H T = none) (dx : Dv K m H x a) (dy : Dv K m H y b) : Dv K m (upd H T (.tup [x, y])) (.ref T) (.tuple [a, b]) :=
  .tup upd_same (w.noCe hT) (.cons (dx.up (Evo.new w hT)) (.cons (dy.up (Evo.new w hT)) .nil))
theorem wk_enumT {K : PySem.W.Frag} {m : Mp} {H : Hp} {p : Addr} {xs : List V} {ds : List PyData} (hs : ∀ m' H', Ev0 m H m' H' → SqT K H' p xs) (al : DvAll K m H xs ds) : WkD K m H (IteT K p) (enumD ds) fun _ => True := by
  refine ⟨fun H => SqT K H p xs, YPair (fun i => some (.int (i : Nat))) (fun i => xs[i]?), by rw [enumD_len, ← al.len]; exact walk_enumT, fun m' H' S e w st => hs _ _ e, fun i m' H' S x H2 e w st hi y => ?_⟩
  obtain ⟨T, u, v, rfl, hT, rfl, e1, e2⟩ := y
  cases e1
  obtain ⟨d, hd, dv⟩ := (al.up0 e).getV e2
  exact ⟨_, enumD_get hd, pair_new w hT (.int _) dv, Evo.new w hT, w.new hT⟩
def dEnumT (aa : DA) : DI := fun ρ S Q => aa ρ S fun ds S1 => match ds with
  | [.tuple es] => Q (enumD es) (fun _ => True) S1
  | _ => False
theorem qi_enumT {p tpos : Pos} {elts : List Expr} {kk : Nat} (hm : X.mg "enumerate" = none) (hg : Gl X "enumerate") (ha : QA X [e] aa) (hs : starEach [e] X.env = [(false, eval e X.env)] := by rfl) : QI X (.Tuple elts kk tpos) (.Call (.Name "enumerate" p) [e] [] pos) (dEnumT aa) := pi_weak (pi_enumT hg hm ha hs) fun σ H R ⟨B, ρ, S, m, Qi, at_, q, k⟩ =>
  ⟨B, ρ, S, m, _, at_, q, fun ds S1 vs H1 m1 q1 e1 w1 dv => by
    match ds, q1, dv with
    | [.tuple es], q1, dv =>
      obtain ⟨x, rfl, dx⟩ := dv1 dv
      obtain ⟨p, xs, rfl, hx, al, hs⟩ := sqT_up dx
      exact ⟨p, xs, rfl, hx, k _ _ _ _ _ _ q1 e1 w1 trivial (wk_enumT hs al)⟩⟩
/-! for -/
def dFor (di : DI) (g : DG) (tb : DS) : DS := fun D ρ S => di ρ S fun items stay S1 => ∃ W : Nat → Rho → Sto → Prop, W 0 ρ S1 ∧ (∀ i ρ S, W i ρ S → stay S) ∧
  (∀ i d ρ S, items[i]? = some d → W i ρ S → g d ρ S fun ρ2 S2 => tb { D with nx := W (i + 1), ct := W (i + 1), bk := D.nx } ρ2 S2) ∧ ∀ ρ S, W items.length ρ S → D.nx ρ S
theorem qs_for {body : List Stmt} (hp : PassesOwn (model X.prog X.w) X.A X.env X.xe) (hc : X.calm = true) (hi : QI X tg e di) (hg : QG X tg g) (hb : QSs X body d1)
    (hs : ∀ x, foldedSetIterable e X.env x = pure x := by intro _; rfl) : QS X (.For tg e body [] pos) (dFor di g d1) := ps_weak (ps_for hp hc hi hg hb hs) fun D σ H ⟨B, ρ, S, m, Dd, at_, q, k⟩ =>
  ⟨B, ρ, S, m, _, at_, q, fun items stay S1 H1 m1 J q1 e1 w1 st1 wk => by
    obtain ⟨W, h0, hst, hstep, hdone⟩ := q1
    obtain ⟨G, Y, walk, hG, hY⟩ := wk.ex
    have eb : Evo B.1 B.2 m1 H1 := at_.ev.trans e1
    refine for_it walk (fun i σ H => ∃ ρ S m, At X.K (m1, H1) σ H ρ S m ∧ W i ρ S) ⟨ρ, S1, m1, ⟨Evo.refl, w1, (at_.step e1 w1).fr⟩, h0⟩ ?_ ?_ ?_
    · rintro i σ H _ ⟨ρ, S, m, at_, hW⟩
      exact hG m H S at_.ev.toEv0 at_.wd (hst i ρ S hW)
    · rintro i x σ H H' hi ⟨ρ, S, m, at_, hW⟩ y
      obtain ⟨d, hd, dv, e2, w2⟩ := hY i m H S x H' at_.ev.toEv0 at_.wd (hst i ρ S hW) hi y
      refine ⟨d, (m1, H1), ρ, S, m, _, at_.step e2 w2, dv, hstep i d ρ S hd hW, fun ρ' S' σ' H2 m2 q2 _ at2 => ⟨(m1, H1), ρ', S', m2, _, at2, q2, ?_⟩⟩
      exact ⟨fun ρ S σ H m q a => ⟨ρ, S, m, a, q⟩, fun d S v H m q e w dv => k.rt _ _ _ _ _ q (eb.trans e) w dv, fun ρ S σ H m q a => k.nx _ _ _ _ _ q (At.base (B1 := (m1, H1)) eb a), fun ρ S σ H m q a => ⟨ρ, S, m, a, q⟩, k.xt.base (B1 := (m1, H1)) eb⟩
    · rintro σ H ⟨ρ, S, m, at_, hW⟩
      exact k.nx _ _ _ _ _ (hdone ρ S hW) (At.base (B1 := (m1, H1)) eb at_)⟩
/-! while -/
def dWhile (c : DT) (tb : DS) : DS := fun D ρ S => ∃ W : Nat → Rho → Sto → Prop, (∃ n, W n ρ S) ∧ ∀ n ρ S, W n ρ S →
  c ρ S fun b S1 => if b = true then tb { D with nx := fun ρ' S' => ∃ n', n' < n ∧ W n' ρ' S', ct := fun ρ' S' => ∃ n', n' < n ∧ W n' ρ' S', bk := D.nx } ρ S1 else D.nx ρ S1
theorem qs_while {body : List Stmt} (hp : PassesOwn (model X.prog X.w) X.A X.env X.xe) (hc : QT X c u) (hb : QSs X body d1) : QS X (.While c body [] pos) (dWhile u d1) := ps_weak (ps_while hp hc hb) fun D σ H ⟨B, ρ, S, m, Dd, at_, q, k⟩ => by
  obtain ⟨W, ⟨n0, h0⟩, hstep⟩ := q
  refine ⟨fun n σ H => ∃ ρ S m, At X.K B σ H ρ S m ∧ W n ρ S, ⟨n0, ρ, S, m, at_, h0⟩, ?_⟩
  rintro n σ H ⟨ρ, S, m, at_, hW⟩
  refine ⟨B, ρ, S, m, _, at_, hstep n ρ S hW, fun b S1 H1 m1 q e w => ?_⟩
  cases b with
  | true =>
    refine iteT ⟨fun σ' H' => ∃ n', n' < n ∧ ∃ ρ S m, At X.K B σ' H' ρ S m ∧ W n' ρ S, fun σ' H' z => z, B, ρ, S1, m1, _, at_.step e w, q, ?_⟩
    exact ⟨fun ρ S σ H m ⟨n', l, q⟩ a => ⟨n', l, ρ, S, m, a, q⟩, k.rt, k.nx, fun ρ S σ H m ⟨n', l, q⟩ a => ⟨n', l, ρ, S, m, a, q⟩, k.xt⟩
  | false => exact iteF (k.nx _ _ _ _ _ q (at_.step e w))
/-! comprehensions -/
theorem Fr.up0 {K : PySem.W.Frag} {m m' : Mp} {H H' : Hp} (e : Ev0 m H m' H') : ∀ (σ : L2.St) (ρ : Rho), Fr K m H σ ρ → Fr K m' H' σ ρ
  | [], [], _ => trivial
  | x :: σ, d :: ρ, h => ⟨fun z q => by
      obtain ⟨v, h1, h2⟩ := h.1 z q
      exact ⟨v, h1, h2.up0 e⟩, Fr.up0 e σ ρ h.2⟩
  | [], _ :: _, h => h.elim
  | _ :: _, [], h => h.elim
/-- what is bound at each turn -/
structure Bnd (K : PySem.W.Frag) (g : TG) (bd : PyData → Rho → Option Rho) (vs : List Nat) : Prop where
  ok : ∀ (m : Mp) (H : Hp) (d : PyData) (v : V) (ρ ρ' : Rho) (σ : L2.St) (Q : L2.St → Hp → Prop), Dv K m H v d → Fr K m H σ ρ → bd d ρ = some ρ' → (∀ σ', Fr K m H σ' ρ' → wipe σ' vs = wipe σ vs → Q σ' H) → g v σ H Q
theorem bnd_one {K : PySem.W.Frag} {i : Nat} {vs : List Nat} (h : i ∈ vs) : Bnd K (gName i) (fun d ρ => some (st ρ i d)) vs := ⟨fun m H d v ρ ρ' σ Q dv f e k => by
  cases e
  exact k _ (f.set dv _ _ i) (wipe_set_mem vs σ i h)⟩
def tupNms (is : List Nat) : PyData → Rho → Option Rho
  | .tuple ds, ρ => dNms is ds ρ
  | _, _ => none
theorem dNms_len : ∀ (is : List Nat) (ds : List PyData) (ρ ρ' : Rho), dNms is ds ρ = some ρ' → ds.length = is.length
  | [], [], _, _, _ => rfl
  | i :: is, d :: ds, ρ, ρ', e => by rw [List.length_cons, List.length_cons, dNms_len is ds _ ρ' e]
  | [], _ :: _, _, _, e => nomatch e
  | _ :: _, [], _, _, e => nomatch e
theorem bnd_tup {K : PySem.W.Frag} {is : List Nat} {vs : List Nat} (h : ∀ i ∈ is, i ∈ vs) : Bnd K (gTup K is.length (gNms is)) (tupNms is) vs := ⟨fun m H d v ρ ρ' σ Q dv f e k => by
  obtain ⟨ds, rfl⟩ : ∃ ds, d = .tuple ds := by
    cases d <;> first | exact ⟨_, rfl⟩ | cases e
  have e' : dNms is ds ρ = some ρ' := e
  obtain ⟨p, xs, rfl, hx, al⟩ := dv.seqT
  exact ⟨p, xs, rfl, hx, by rw [al.len, dNms_len is ds ρ ρ' e'], nms_dv is ds ρ ρ' xs σ Q al f e' fun σ' f' hw => k σ' f' (hw vs h)⟩⟩
/-- [elt for .. in .. if ..]: W by the turn, what is made so far, the store -/
def dLc (di : DI) (bd : PyData → Rho → Option Rho) (tt : DT) (te : DE) (vs : List Nat) : DE := fun ρ S Q => di ρ S fun items stay S1 => ∃ W : Nat → List PyData → Sto → Prop, W 0 [] S1 ∧ (∀ i acc S, W i acc S → stay S ∧ acc.length < 1000000) ∧
  (∀ i d acc S, items[i]? = some d → W i acc S → wh (bd d (uns ρ vs)) fun ρ2 => tt ρ2 S fun b S2 => if b = true then te ρ2 S2 fun y S3 => W (i + 1) (acc ++ [y]) S3 else W (i + 1) acc S2) ∧
  ∀ acc S, W items.length acc S → Q (.list acc) S
theorem wipe_wipe {σ : L2.St} {vs : List Nat} : ∀ {ws : List Nat}, (∀ i ∈ ws, i ∈ vs) → wipe (wipe σ ws) vs = wipe σ vs
  | [], _ => rfl
  | w :: ws, h => by
    show wipe ((wipe σ ws).set w none) vs = wipe σ vs
    rw [wipe_set_mem vs _ w (h w List.mem_cons_self), wipe_wipe fun i hi => h i (List.mem_cons_of_mem _ hi)]
theorem lc_dv {K : PySem.W.Frag} {g : TG} {bd : PyData → Rho → Option Rho} {tt : DT} {te : DE} {vs : List Nat} {σ : L2.St} {H : Hp} {Q : VK} (hb : Bnd K g bd vs) (h : lft K (dLc di bd tt te vs) σ H Q) : tLc (lftI K di) g (lftT K tt) (lft K te) vs σ H Q := by
  obtain ⟨B, ρ, S, m, Qd, at_, q, k⟩ := h
  refine ⟨B, ρ, S, m, _, at_, q, fun items stay S1 H1 m1 J q1 e1 w1 st1 wk => ?_⟩
  obtain ⟨W, h0, hst, hstep, hdone⟩ := q1
  obtain ⟨G, Y, walk, hG, hY⟩ := wk.ex
  intro D hD
  have ev1 : Ev0 m1 H1 (hide m1 D) (upd H1 D (.lst [])) := Ev0.hide w1 hD
  have fr1 := (at_.step e1 w1).fr
  -- at a turn: what is made so far stands hidden at D
  refine lc_it walk (fun i H => ∃ (acc : List PyData) (S : Sto) (m : Mp) (xs : List V), W i acc S ∧ Ev0 m1 H1 m H ∧ Wd K m H S ∧ (∀ a, m.z a ↔ (a = D ∨ m1.z a)) ∧ (∀ a o, m1.z a → H1 a = some o → H a = some o) ∧ H D = some (.lst xs) ∧ DvAll K m H xs acc) ?_ ?_ ?_ ?_
  · exact ⟨[], S1, hide m1 D, [], h0, ev1, w1.hide hD, fun a => Iff.rfl, fun a o z e => by rw [upd_ne (ne_of_none e hD)]; exact e, upd_same, .nil⟩
  · rintro i H _ ⟨acc, S, m, xs, hW, ev, w, _, _, _, _⟩
    exact hG m H S ev w (hst i acc S hW).1
  · rintro i x H H' hi ⟨acc, S, m, xs, hW, ev, w, hz, hk, hH, al⟩ y
    obtain ⟨d, hd, dv, e2, w2⟩ := hY i m H S x H' ev w (hst i acc S hW).1 hi y
    obtain ⟨ρ2, hb2, q2⟩ := wh_of (hstep i d acc S hd hW)
    have lacc := (hst i acc S hW).2
    have zD : m.z D := (hz D).mpr (.inl rfl)
    have H'D : H' D = some (.lst xs) := e2.zk D _ zD hH
    have ev2 : Ev0 m1 H1 m H' := ev.trans e2.toEv0
    have frw : Fr K m H' (wipe σ vs) (uns ρ vs) := (Fr.up0 ev2 _ _ fr1).wipe _ _ vs
    refine hb.ok m H' d x (uns ρ vs) ρ2 (wipe σ vs) _ dv frw hb2 fun σ' f' hw' => ⟨?_, ?_⟩
    · rw [hw', wipe_wipe fun _ z => z]
    · refine ⟨(m, H'), ρ2, S, m, _, ⟨Evo.refl, w2, f'⟩, q2, fun b S2 H2 m2 q3 e3 w3 => ?_⟩
      have hk2 : ∀ a o, m1.z a → H1 a = some o → H2 a = some o := fun a o z e => e3.zk a o ((hz a).mpr (.inr z)) (e2.zk a o ((hz a).mpr (.inr z)) (hk a o z e))
      have hz2 : ∀ a, m2.z a ↔ (a = D ∨ m1.z a) := fun a => (e3.hz a).trans (hz a)
      have H2D : H2 D = some (.lst xs) := e3.zk D _ zD H'D
      cases b with
      | false => exact iteF ⟨acc, S2, m2, xs, q3, ev2.trans e3.toEv0, w3, hz2, hk2, H2D, (al.up e2).up e3⟩
      | true =>
        refine iteT ⟨(m, H'), ρ2, S2, m2, _, ⟨e3, w3, f'.up e3⟩, q3, fun y S3 v H3 m3 q4 e4 w4 dy => ?_⟩
        have zD2 : m2.z D := (hz2 D).mpr (.inl rfl)
        have H3D : H3 D = some (.lst xs) := e4.zk D _ zD2 H2D
        have zD3 : m3.z D := (e4.hz D).mpr zD2
        have al3 := ((al.up e2).up e3).up e4
        refine ⟨xs, H3D, by rw [al3.len, sizeLine_eq]; omega, acc ++ [y], S3, m3, xs ++ [v], q4, ?_, w4.turn zD3, fun a => (e4.hz a).trans (hz2 a), fun a o z e => ?_, upd_same, (al3.app (.cons dy .nil)).up0 (Ev0.turn zD3)⟩
        · exact ((ev2.trans e3.toEv0).trans e4.toEv0).trans (Ev0.turn zD3)
        · have : a ≠ D := ne_of_none e hD
          rw [upd_ne this]
          exact e4.zk a o ((hz2 a).mpr (.inr z)) (hk2 a o z e)
  · rintro H ⟨acc, S, m, xs, hW, ev, w, hz, hk, hH, al⟩
    have q := hdone acc S hW
    have nz : ¬ m1.z D := fun z => by
      obtain ⟨o, e⟩ := w1.ztr D z
      rw [hD] at e
      cases e
    have e5 : Evo m1 H1 (bare m D) H := ⟨ev.trans Ev0.bare, fun a => by
      show (a ≠ D ∧ m.z a) ↔ m1.z a
      rw [hz a]
      constructor
      · rintro ⟨h1, h2⟩
        exact h2.resolve_left h1
      · intro h1
        exact ⟨fun e => nz (by rw [← e]; exact h1), .inr h1⟩, hk⟩
    have zD : m.z D := (hz D).mpr (.inl rfl)
    have nc : ∀ n, m.c n ≠ some D := fun n e => w.hid n D e zD
    refine k _ _ _ _ _ q (e1.trans e5) w.bare (.lst hH ?_ (al.up0 Ev0.bare))
    rintro (⟨n, e⟩ | e)
    · exact nc n e
    · exact e.1 rfl
end
section
variable {X : Cx} {e tg elt : Expr} {di : DI} {tt : DT} {te : DE} {pos : Pos}
def dYes : DT := fun _ S Q => Q true S
structure QTs (X : Cx) (ifs : List Expr) (t : DT) : Prop where
  p : PTs X ifs (lftT X.K t)
theorem qts_nil : QTs X [] dYes := ⟨⟨fun pins s σ H Q I ⟨B, ρ, S, m, Qd, at_, q, k⟩ => pts_nil.run pins s σ H Q I (k _ S H m q Evo.refl at_.wd)⟩⟩
theorem qts_one {c : Expr} {u : DT} (h : QT X c u) : QTs X [c] u := ⟨pts_one h⟩
theorem q_lc {ifs : List Expr} {scope : Scope} {own : List (Str × Nat)} {g : TG} {bd : PyData → Rho → Option Rho} (hc : X.calm = true) (hN : X.N.Nodup) (hi : QI X tg e di) (ok : BlkOk X.N X.env.scope scope own) (hbd : Bnd X.K g bd (own.map (·.2)))
    (hg : ∀ (s : Shared) (H : Hp) (C : Addr) (cl : List (Str × Addr)) (fp : List Addr), PG (X.blk s H scope (compEnvC scope cl C X.env) fp) tg g) (ht : ∀ (s : Shared) (H : Hp) (C : Addr) (cl : List (Str × Addr)) (fp : List Addr), QTs (X.blk s H scope (compEnvC scope cl C X.env) fp) ifs tt)
    (he : ∀ (s : Shared) (H : Hp) (C : Addr) (cl : List (Str × Addr)) (fp : List Addr), QE (X.blk s H scope (compEnvC scope cl C X.env) fp) elt te) (hs : ∀ x, foldedSetIterable e X.env x = pure x := by intro _; rfl) :
    QE X (.ListComp elt [⟨tg, e, ifs, 0⟩] scope pos) (dLc di bd tt te (own.map (·.2))) := pe_weak (pe_lc (own := own) (g := g) hc hN hi ok hg (fun s H C cl fp => (ht s H C cl fp).p) he hs) fun σ H Q h => lc_dv hbd h
theorem qs_setLc {i : Nat} {y : Str} {py spos : Pos} {ifs : List Expr} {scope : Scope} {own : List (Str × Nat)} {g : TG} {bd : PyData → Rho → Option Rho} (hc : X.calm = true) (hN : X.N.Nodup) (hy : X.N[i]? = some y) (hyl : X.env.scope.names.lookup y = some .local)
    (hsw : swapsWith (.ListComp elt [⟨tg, e, ifs, 0⟩] scope pos) (some (.Name y py)) spos.line X.env = pure true) (hi : QI X tg e di) (ok : BlkOk X.N X.env.scope scope own) (hbd : Bnd X.K g bd (own.map (·.2)))
    (hg : ∀ (s : Shared) (H : Hp) (C : Addr) (cl : List (Str × Addr)) (fp : List Addr), PG (X.blk s H scope (compEnvC scope cl C X.env) fp) tg g) (ht : ∀ (s : Shared) (H : Hp) (C : Addr) (cl : List (Str × Addr)) (fp : List Addr), QTs (X.blk s H scope (compEnvC scope cl C X.env) fp) ifs tt)
    (he : ∀ (s : Shared) (H : Hp) (C : Addr) (cl : List (Str × Addr)) (fp : List Addr), QE (X.blk s H scope (compEnvC scope cl C X.env) fp) elt te) (hs : ∀ x, foldedSetIterable e X.env x = pure x := by intro _; rfl) :
    QS X (.Assign [.Name y py] (.ListComp elt [⟨tg, e, ifs, 0⟩] scope pos) spos) (dSet i (dLc di bd tt te (own.map (·.2)))) := ps_weak (ps_setLc (own := own) (g := g) hc hN hy hyl hsw hi ok hg (fun s H C cl fp => (ht s H C cl fp).p) he hs) fun D σ H ⟨B, ρ, S, m, Dd, at_, q, k⟩ => by
  have q' : dLc di bd tt te (own.map (·.2)) ρ S (fun d S1 => Dd.nx (st ρ i d) S1) := q
  exact lc_dv hbd ⟨B, ρ, S, m, _, at_, q', fun d S' v H' m' q e w dv => k.nx _ _ _ _ _ q ((at_.step e w).setv dv)⟩
end
end K3

/-! the plain layer: defs and their calls -/
namespace K3
open PySem L2 Xr K1
/-- what is wanted of an error: its class, its fields, the store -/
abbrev DX := Addr → List (Str × PyData) → Sto → Prop
abbrev X0 : DX := fun _ _ _ => False
/-- a plain promise -/
abbrev SpD := List PyData → Sto → DK → DX → Prop
def Kx (K : PySem.W.Frag) (m : Mp) (H : Hp) (E : XK) (Ed : DX) : Prop := ∀ C fs S' H' m' dd ys, Ed C fs S' → Evo m H m' H' → Wd K m' H' S' → H' dd = some (.xd ys) → ¬ Ce m' dd → ys.map Prod.fst = fs.map Prod.fst → DvAll K m' H' (ys.map Prod.snd) (fs.map Prod.snd) → E (.ref C) (some dd) H'
def spD (K : PySem.W.Frag) (f : SpD) : Sp := fun vs H Q E => ∃ m S ds Qd Ed, Wd K m H S ∧ DvAll K m H vs ds ∧ f ds S Qd Ed ∧ Kq K m H Q Qd ∧ Kx K m H E Ed
theorem spD_len {K : PySem.W.Frag} {f : SpD} {n : Nat} (h : ∀ ds S Q E, f ds S Q E → ds.length = n) : ∀ vs H Q E, spD K f vs H Q E → vs.length = n := fun vs H Q E ⟨m, S, ds, Qd, Ed, w, dv, q, k, x⟩ => by
  rw [dv.len]
  exact h _ _ _ _ q
theorem Kx.no {K : PySem.W.Frag} {m : Mp} {H : Hp} {E : XK} : Kx K m H E X0 := fun _ _ _ _ _ _ _ h => h.elim
def startD (N : List Str) (ds : List PyData) : Rho := ds.map some ++ List.replicate (N.length - ds.length) none
theorem start_fr {K : PySem.W.Frag} {m : Mp} {H : Hp} {N : List Str} {vs : List V} {ds : List PyData} (h : DvAll K m H vs ds) : Fr K m H (L2.start N vs) (startD N ds) := by
  unfold L2.start startD
  rw [h.len]
  exact Fr.app h (Fr.none _)
/-- the calls of an exception-free body -/
theorem passE0 {X : Cx} : Passes (L2.CX X.prog X.w) X E0 := fun _ _ _ _ _ _ _ h => by
  obtain ⟨_, _, _, _, _, _, _, _, _, _, _, _, q⟩ := h
  exact q.elim
section
variable {P : Program} {w : World} {K : PySem.W.Frag} {mg : Str → Option Value} {base : Heap}
theorem body_dv {X : Cx} {t : DS} {N : List Str} {sp : SpD} {vs : List V} {H : Hp} {Q : VK} {E : XK} (hK : X.K = K)
    (hz : ∀ a, H a = none → X.H_0 a = none) (h : spD K sp vs H Q E) (hr : ∀ ds S Qd Ed, sp ds S Qd Ed → t { nx := fun _ S' => Qd .none S', rt := Qd } (startD N ds) S) : lftS X.K (Wm X) t { nx := fun _ H' => Q .non H', rt := Q } (L2.start N vs) H := by
  subst hK
  obtain ⟨m, S, ds, Qd, Ed, w, dv, q, k, x⟩ := h
  refine ⟨(m, H), startD N ds, S, m, _, ⟨Evo.refl, w, start_fr dv⟩, hr ds S Qd Ed q, ?_⟩
  exact ⟨fun ρ S σ H' m' q a => k _ S _ H' m' q a.ev a.wd .non, fun d S v H' m' q e w dv => k _ S _ H' m' q e w dv, fun _ _ _ _ _ q _ => q.elim, fun _ _ _ _ _ q _ => q.elim, Lk.no hz⟩
/-- a def by its body's term, and what is to be shown -/
theorem dok {x qual : Str} {s1 : Stmt} {f : Addr} {fd : FuncData} {N ps : List Str} {k : Nat} {sp : SpD} (F : Fun K x qual s1 f fd) (S : FnScope N ps (defScope s1)) (len : ∀ ds S Q E, sp ds S Q E → ds.length = ps.length)
    (hbody : ∀ (cdv : Value) (A : Around) (outer : List Env) (s : Shared) (H : Hp) (Q : VK) (E : XK), Room k (A.deeper (PyProof.Rows.envOfC qual (defScope s1) s.heap.objs.size f cdv)) →
      ∃ t, QSs (cxOf CX0 P w K mg base N qual (defScope s1) f cdv A outer s H E).nox (defBody s1) t ∧ ∀ ds S Qd Ed, sp ds S Qd Ed → t { nx := fun _ S' => Qd .none S', rt := Qd } (startD N ds) S) : FnOk P w K mg base CX0 (k + 1) f fd ps (spD K sp) := by
  refine F.ok S (spD_len len) fun cdv A outer s H vs Q E hr h => ?_
  obtain ⟨t, ht, hq⟩ := hbody cdv A outer s H Q E hr
  exact ⟨_, ht, body_dv rfl (fun _ z => z) h hq⟩
/-- the same where repr is asked -/
theorem dokG {x qual : Str} {s1 : Stmt} {f : Addr} {fd : FuncData} {N ps : List Str} {k : Nat} {sp : SpD} (F : Fun K x qual s1 f fd) (S : FnScope N ps (defScope s1)) (len : ∀ ds S Q E, sp ds S Q E → ds.length = ps.length)
    (hbody : ∀ (cdv : Value) (A : Around) (outer : List Env) (s : Shared) (H : Hp) (Q : VK) (E : XK), A.guards = some [] → Room k (A.deeper (PyProof.Rows.envOfC qual (defScope s1) s.heap.objs.size f cdv)) →
      ∃ t, QSs (cxOf CX0 P w K mg base N qual (defScope s1) f cdv A outer s H E) (defBody s1) t ∧ ∀ ds S Qd Ed, sp ds S Qd Ed → t { nx := fun _ S' => Qd .none S', rt := Qd } (startD N ds) S) : Grd.FnG P w K mg base CX0 (k + 1) f fd ps (spD K sp) := by
  refine Grd.fng_of F S (spD_len len) fun cdv A outer s H vs Q E gd hr h => ?_
  obtain ⟨t, ht, hq⟩ := hbody cdv A outer s H Q E gd hr
  exact ⟨_, ht, body_dv rfl (fun _ z => z) h hq⟩
end
theorem at0K {CX : CXT} {X : Cx} {E : XK} (h : Passes CX X E) (σ : L2.St) : PassesAt CX X σ E := fun pins H s e s' I c => h pins σ H s e s' I c
section
variable {X : Cx} {CX : CXT} {j k : Nat} {f : Addr} {fd : FuncData} {ps : List Str} {sp : SpD} {x : Str} {p pos : Pos} {e : Expr} {es : List Expr} {aa : DA}
def dFn (sp : SpD) (aa : DA) : DE := fun ρ S Q => aa ρ S fun ds S1 => sp ds S1 Q X0
theorem fn_dv {σ : L2.St} {H : Hp} {Q : VK} (h : lft X.K (dFn sp aa) σ H Q) : tCall (spD X.K sp) [] E0 (lftA X.K aa) σ H Q := by
  obtain ⟨B, ρ, S, m, Qd, at_, q, k⟩ := h
  refine ⟨B, ρ, S, m, _, at_, q, fun ds S' vs H' m' q e w dv => ?_⟩
  show spD X.K sp (vs ++ []) H' Q E0
  rw [List.append_nil]
  exact ⟨m', S', ds, Qd, X0, w, dv, q, k.up e, Kx.no⟩
/-- f(e, ..) -/
theorem q_call (hr : Room k X.A) (F : FnOk X.prog X.w X.K X.mg X.base CX0 j f fd ps (spD X.K sp)) (hm : X.mg x = some (.ref f)) (hk : PySem.W.keepIn X.K (.ref f) = true) (hb : Binds X.K fd ps []) (hg : Gl X x) (hl : j ≤ k)
    (ha : QA X (e :: es) aa) (hdb : (x == ("__debug__" : Str)) = false := by decide) (he : starEach (e :: es) X.env = (false, eval e X.env) :: starEach es X.env := by rfl) (hpl : (backTo pos (starEach es X.env)).any (·.1) = false := by rfl) :
    QE X (.Call (.Name x p) (e :: es) [] pos) (dFn sp aa) := pe_weak (pe_call F (hr.mono hl) hg hm hk hb .nil pass0 ha hdb he hpl) fun σ H Q h => fn_dv h
/-- f(e, ..), f one that may raise, but doesn't here -/
theorem q_callN (hr : Room k X.A) (F : FnOk X.prog X.w X.K X.mg X.base (L2.CX X.prog X.w) j f fd ps (spD X.K sp)) (hm : X.mg x = some (.ref f)) (hk : PySem.W.keepIn X.K (.ref f) = true) (hb : Binds X.K fd ps []) (hg : Gl X x) (hl : j ≤ k)
    (ha : QA X (e :: es) aa) (hdb : (x == ("__debug__" : Str)) = false := by decide) (he : starEach (e :: es) X.env = (false, eval e X.env) :: starEach es X.env := by rfl) (hpl : (backTo pos (starEach es X.env)).any (·.1) = false := by rfl) :
    QE X (.Call (.Name x p) (e :: es) [] pos) (dFn sp aa) := pe_weak (pe_call F (hr.mono hl) hg hm hk hb .nil passE0 ha hdb he hpl) fun σ H Q h => fn_dv h
/-- f(e, ..), f asks repr -/
theorem q_callG (gd : X.A.guards = some []) (hr : Room k X.A) (F : Grd.FnG X.prog X.w X.K X.mg X.base CX0 j f fd ps (spD X.K sp)) (hm : X.mg x = some (.ref f)) (hk : PySem.W.keepIn X.K (.ref f) = true) (hb : Binds X.K fd ps []) (hg : Gl X x) (hl : j ≤ k)
    (ha : QA X (e :: es) aa) (hdb : (x == ("__debug__" : Str)) = false := by decide) (he : starEach (e :: es) X.env = (false, eval e X.env) :: starEach es X.env := by rfl) (hpl : (backTo pos (starEach es X.env)).any (·.1) = false := by rfl) :
    QE X (.Call (.Name x p) (e :: es) [] pos) (dFn sp aa) := pe_weak (Grd.pe_callG F gd (hr.mono hl) hg hm hk hb pass0 ha hdb he hpl) fun σ H Q h => fn_dv h
/-- keywords -/
abbrev DKs := DA
structure QK (X : Cx) (ks : List Keyword) (t : DA) : Prop where
  p : PK X ks (lftA X.K t)
theorem pk_weak {X : Cx} {e : List Keyword} {t t' : TA} (h : PK X e t) (i : ∀ σ H Q, t' σ H Q → t σ H Q) : PK X e t' := ⟨fun w pins s σ H Q I q => h.run w pins s σ H Q I (i _ _ _ q)⟩
theorem qk_nil : QK X [] dNil := ⟨pk_weak pk_nil fun σ H Q ⟨B, ρ, S, m, Qd, at_, q, k⟩ => k [] S [] H m q Evo.refl at_.wd .nil⟩
theorem qk_cons {t : DE} {nm : Option Str} {kpos : Pos} {kws : List Keyword} (ha : QE X e t) (hr : QK X kws aa) : QK X (⟨nm, e, kpos⟩ :: kws) (dCons t aa) := ⟨pk_weak (pk_cons ha hr.p) fun σ H Q ⟨B, ρ, S, m, Qd, at_, q, k⟩ =>
  ⟨B, ρ, S, m, _, at_, q, fun d S' v H' m' q e w dv => ⟨B, ρ, S', m', _, at_.step e w, q, fun ds S2 vs H2 m2 q2 e2 w2 dvs => k _ S2 _ H2 m2 q2 (e.trans e2) w2 (.cons (dv.up e2) dvs)⟩⟩⟩
theorem q_call0 (hr : Room k X.A) (F : FnOk X.prog X.w X.K X.mg X.base CX0 j f fd ps (spD X.K sp)) (hm : X.mg x = some (.ref f)) (hk : PySem.W.keepIn X.K (.ref f) = true) (hb : Binds X.K fd ps []) (hg : Gl X x) (hl : j ≤ k) (hdb : (x == ("__debug__" : Str)) = false := by decide) :
    QE X (.Call (.Name x p) [] [] pos) (dFn sp dNil) := pe_weak (pe_call0 F (hr.mono hl) hg hm hk hb .nil pass0 hdb) fun σ H Q ⟨B, ρ, S, m, Qd, at_, q, k⟩ => ⟨m, S, [], Qd, X0, at_.wd, .nil, q, k, Kx.no⟩
/-- how keywords alone bind -/
def BindsK (fd : FuncData) (ps ks : List Str) : Prop := ∀ (s : Shared) (us : List Value), us.length = ps.length → BindsTo s fd ⟨[], ks.zip us⟩ (ps.zip us)
theorem pe_kwA {CX : CXT} {sp : Sp} {ks : List Str} {kws : List Keyword} {E : L2.St → XK} {ta : TA} (F : FnOk X.prog X.w X.K X.mg X.base CX k f fd ps sp) (hr : Room k X.A) (hg : Gl X x) (hm : X.mg x = some (.ref f)) (kp : PySem.W.keepIn X.K (.ref f) = true) (hb : BindsK fd ps ks)
    (hx : ∀ σ, PassesAt CX X σ (E σ)) (hkw : PK X kws ta)
    (hall : (backToKw pos (keywordEach kws X.env)).all (·.1.isSome) = true) (hks : (backToKw pos (keywordEach kws X.env)).filterMap (·.1) = ks) (hdb : (x == ("__debug__" : Str)) = false)
    (hpl : ((backTo pos (starEach [] X.env)).any (·.1) || (backToKw pos (keywordEach kws X.env)).any (·.1.isNone)) = false) :
    PE X (.Call (.Name x p) [] kws pos) (tCallS sp E ta) := by
  refine ⟨fun pins s σ H Q I h => ?_⟩
  refine PySem.wpAny_Call_Name_kw (ld_glob I hg hm ?_ hdb)
  refine PySem.W.callWith_KW0 (h₀ := X.base) I.ok.mod.kin kp hall ?_ hpl
  refine thn (hkw.run pos pins s σ H _ I h) fun ws s2 ⟨zs, H2, I2, rz, q⟩ => ⟨I2.kIn, ?_⟩
  rw [hks]
  have q' : sp zs H2 Q (E σ) := q
  have lens : ws.length = ps.length := by
    rw [← rz.length]
    exact F.len _ _ _ _ q'
  refine PySem.wpAny_call (codeAny_mono (F.run X.A X.stack s2 H2 ⟨[], ks.zip ws⟩ ws zs Q (E σ) hr I2.env0 (hb s2 ws lens) rz q') fun r s' hq => ?_)
  cases r with
  | error e => exact hx σ pins H2 s2 e s' I2 hq
  | ok fl =>
    cases fl with
    | ret u => exact I2.after hq
    | next => exact False.elim hq
    | brk => exact False.elim hq
    | cont => exact False.elim hq
/-- f(a=e, ..) -/
theorem q_kw {ks : List Str} {kws : List Keyword} (hr : Room k X.A) (F : FnOk X.prog X.w X.K X.mg X.base CX0 j f fd ps (spD X.K sp)) (hm : X.mg x = some (.ref f)) (hk : PySem.W.keepIn X.K (.ref f) = true) (hb : BindsK fd ps ks) (hg : Gl X x) (hl : j ≤ k) (hkw : QK X kws aa)
    (hall : (backToKw pos (keywordEach kws X.env)).all (·.1.isSome) = true := by rfl) (hks : (backToKw pos (keywordEach kws X.env)).filterMap (·.1) = ks := by rfl) (hdb : (x == ("__debug__" : Str)) = false := by decide)
    (hpl : ((backTo pos (starEach [] X.env)).any (·.1) || (backToKw pos (keywordEach kws X.env)).any (·.1.isNone)) = false := by rfl) : QE X (.Call (.Name x p) [] kws pos) (dFn sp aa) :=
  pe_weak (pe_kwA (E := fun _ => E0) F (hr.mono hl) hg hm hk hb (fun σ => at0K pass0 σ) hkw.p hall hks hdb hpl) fun σ H Q ⟨B, ρ, S, m, Qd, at_, q, k⟩ =>
    ⟨B, ρ, S, m, _, at_, q, fun ds S' vs H' m' q e w dv => ⟨m', S', ds, Qd, X0, w, dv, q, k.up e, Kx.no⟩⟩
/-- the same, f one that may raise, but doesn't here -/
theorem q_kwN {ks : List Str} {kws : List Keyword} (hr : Room k X.A) (F : FnOk X.prog X.w X.K X.mg X.base (L2.CX X.prog X.w) j f fd ps (spD X.K sp)) (hm : X.mg x = some (.ref f)) (hk : PySem.W.keepIn X.K (.ref f) = true) (hb : BindsK fd ps ks) (hg : Gl X x) (hl : j ≤ k) (hkw : QK X kws aa)
    (hall : (backToKw pos (keywordEach kws X.env)).all (·.1.isSome) = true := by rfl) (hks : (backToKw pos (keywordEach kws X.env)).filterMap (·.1) = ks := by rfl) (hdb : (x == ("__debug__" : Str)) = false := by decide)
    (hpl : ((backTo pos (starEach [] X.env)).any (·.1) || (backToKw pos (keywordEach kws X.env)).any (·.1.isNone)) = false := by rfl) : QE X (.Call (.Name x p) [] kws pos) (dFn sp aa) :=
  pe_weak (pe_kwA (E := fun _ => E0) F (hr.mono hl) hg hm hk hb (fun σ => at0K passE0 σ) hkw.p hall hks hdb hpl) fun σ H Q ⟨B, ρ, S, m, Qd, at_, q, k⟩ =>
    ⟨B, ρ, S, m, _, at_, q, fun ds S' vs H' m' q e w dv => ⟨m', S', ds, Qd, X0, w, dv, q, k.up e, Kx.no⟩⟩
end
end K3
namespace K3
open PySem L2
theorem u64 {k : Nat} {A : Around} (hr : Room k A) : A.units + 64 < cLine := by
  have := hr.un
  omega
theorem op_eqA {X : Cx} (hu : X.A.units + 64 < cLine) : OpR X (compareOp .Eq) (fun x y H Q => rEq x y H Q ∨ rEqD X.K x y H Q) := op_eq.or (op_eqD hu)
theorem op_neA {X : Cx} (hu : X.A.units + 64 < cLine) : OpR X (compareOp .NotEq) (fun x y H Q => rNe x y H Q ∨ rNeD X.K x y H Q) := op_ne.or (op_neD hu)
/-! short ways -/
theorem exQ {X : Cx} {b : List Stmt} {P : DS → Prop} (t : DS) (h : QSs X b t) (q : P t) : ∃ t, QSs X b t ∧ P t := ⟨t, h, q⟩
end K3

/-! the plain layer: the deal of draws; older promises -/
namespace K3
open PySem L2 Xr K1
/-- the deal at n, its great cells at k -/
structure DealD (S : Sto) (n k : Nat) : Prop where
  ex : ∃ (cs : List Int) (b : Int), S n = some (.lst [cel k, .int b]) ∧ S k = some (.lst (cs.map PyData.int)) ∧ (∀ x ∈ cs, 0 ≤ x) ∧ cs.length ≤ 63 ∧ 0 ≤ b ∧ b < 2147483647
/-- the deal went on, all else stands -/
structure MvD (n k : Nat) (S S' : Sto) : Prop where
  D : DealD S' n k
  kp : ∀ j c, S j = some c → j ≠ n → j ≠ k → S' j = some c
theorem MvD.refl {n k : Nat} {S : Sto} (D : DealD S n k) : MvD n k S S := ⟨D, fun _ _ h _ _ => h⟩
theorem MvD.trans {n k : Nat} {S S1 S2 : Sto} (a : MvD n k S S1) (b : MvD n k S1 S2) : MvD n k S S2 := ⟨b.D, fun j c h x y => b.kp j c (a.kp j c h x y) x y⟩
theorem DealD.ext {n k : Nat} {S S' : Sto} (D : DealD S n k) (e : Ext S S') : DealD S' n k := by
  obtain ⟨cs, b, h1, h2, r⟩ := D.ex
  exact ⟨cs, b, e _ _ h1, e _ _ h2, r⟩
theorem MvD.ext {n k : Nat} {S S1 S2 : Sto} (a : MvD n k S S1) (e : Ext S1 S2) : MvD n k S S2 := ⟨a.D.ext e, fun j c h x y => e _ _ (a.kp j c h x y)⟩
theorem MvD.of {n k : Nat} {S S1 S2 : Sto} (e : Ext S S1) (b : MvD n k S1 S2) : MvD n k S S2 := ⟨b.D, fun j c h x y => b.kp j c (e _ _ h) x y⟩
theorem Wd.ceTrk {K : PySem.W.Frag} {m : Mp} {H : Hp} {S : Sto} (w : Wd K m H S) : ∀ a, Ce m a → Trk H a := fun a h => by
  rcases h with ⟨n, e⟩ | e
  · exact w.trk n a e
  · exact w.ztr a e
theorem dv_ints {K : PySem.W.Frag} {m : Mp} {H : Hp} : ∀ {cs : List Int} {xs : List V}, DvAll K m H xs (cs.map PyData.int) → xs = cs.map V.int
  | [], _, h => by
    cases h
    rfl
  | c :: cs, _, h => by
    cases h with
    | cons a r =>
      cases a
      rw [dv_ints r]
      rfl
theorem ints_dv {K : PySem.W.Frag} {m : Mp} {H : Hp} : ∀ (cs : List Int), DvAll K m H (cs.map V.int) (cs.map PyData.int)
  | [] => .nil
  | c :: cs => .cons (.int c) (ints_dv cs)
theorem dv_strs {K : PySem.W.Frag} {m : Mp} {H : Hp} : ∀ {cs : List Str} {xs : List V}, DvAll K m H xs (cs.map PyData.str) → xs = cs.map V.str
  | [], _, h => by
    cases h
    rfl
  | c :: cs, _, h => by
    cases h with
    | cons a r =>
      cases a
      rw [dv_strs r]
      rfl
theorem strs_dvs {K : PySem.W.Frag} {m : Mp} {H : Hp} : ∀ (cs : List Str), DvAll K m H (cs.map V.str) (cs.map PyData.str)
  | [] => .nil
  | c :: cs => .cons (.str c) (strs_dvs cs)
section
variable {K : PySem.W.Frag} {m : Mp} {H : Hp} {S : Sto} {n k : Nat}
theorem DealD.at (D : DealD S n k) (w : Wd K m H S) : ∃ d c, m.c n = some d ∧ m.c k = some c ∧ DealAt H d c := by
  obtain ⟨cs, b, h1, h2, r⟩ := D.ex
  obtain ⟨d, xs, e1, e2, e3⟩ := w.lst h1
  obtain ⟨c, ys, f1, f2, f3⟩ := w.lst h2
  obtain ⟨x, y, rfl, dx, dy⟩ := dv2 e3
  cases dy
  have := dv_ints f3
  subst this
  obtain ⟨c', rfl, f4⟩ := celN_dv dx rfl
  rw [f1] at f4
  cases f4
  exact ⟨d, c, e1, f1, cs, b, e2, f2, r⟩
theorem DealD.moved (D : DealD S n k) (w : Wd K m H S) {d c : Addr} (hd : m.c n = some d) (hc : m.c k = some c) {H' : Hp} (D' : DealAt H' d c) (b : But d c H H') : ∃ S', MvD n k S S' ∧ Evo m H m H' ∧ Wd K m H' S' := by
  obtain ⟨cs, b', h1, h2, r⟩ := D'.ex
  have nk : n ≠ k := fun e => by
    rw [e, hc] at hd
    cases hd
    rw [h1] at h2
    have := HO.lst.inj (Option.some.inj h2)
    cases cs with
    | nil => cases this
    | cons x xs =>
      have e2 := (List.cons.inj this).1
      cases e2
  have ev : Evo m H m H' := by
    refine ⟨⟨fun _ _ h => h, fun q u e ne => ⟨b q u e (fun z => ne (.inl ⟨n, by rw [z]; exact hd⟩)) (fun z => ne (.inl ⟨k, by rw [z]; exact hc⟩)), ne⟩⟩, fun _ => Iff.rfl, fun q u z e => b q u e (fun y => w.hid n d hd (by rw [← y]; exact z)) (fun y => w.hid k c hc (by rw [← y]; exact z))⟩
  have tr : ∀ a, (∃ u, H a = some u) → ∃ u, H' a = some u := fun a ⟨u, e⟩ => by
    by_cases y : a = d
    · rw [y]; exact ⟨_, h1⟩
    · by_cases z : a = c
      · rw [z]; exact ⟨_, h2⟩
      · exact ⟨u, b a u e y z⟩
  refine ⟨put (put S n (.lst [cel k, .int b'])) k (.lst (cs.map PyData.int)), ⟨⟨cs, b', by rw [put_ne nk, put_same], put_same, r⟩, fun j c' h x y => by rw [put_ne y, put_ne x]; exact h⟩, ev, ?_⟩
  refine ⟨w.inj, fun i a e => tr a (w.trk i a e), w.bd, fun j cc e => ?_, w.hid, fun a e => tr a (w.ztr a e)⟩
  by_cases y : j = k
  · rw [y, put_same] at e
    cases e
    exact ⟨c, by rw [y]; exact hc, _, h2, ints_dv cs⟩
  · rw [put_ne y] at e
    by_cases x : j = n
    · rw [x, put_same] at e
      cases e
      exact ⟨d, by rw [x]; exact hd, _, h1, .cons (.cel hc) (.cons (.int _) .nil)⟩
    · rw [put_ne x] at e
      obtain ⟨a, ha, cr⟩ := w.has j cc e
      have nd : a ≠ d := fun z => x (w.inj j n a ha (by rw [z]; exact hd))
      have nc : a ≠ c := fun z => y (w.inj j k a ha (by rw [z]; exact hc))
      obtain ⟨u, hu⟩ := w.trk j a ha
      exact ⟨a, ha, cr.up ev.toEv0 (by rw [hu, b a u hu nd nc])⟩
/-- an old promise that gives data and leaves all as it was -/
theorem Kq.same {Q : VK} {Qd : DK} (k : Kq K m H Q Qd) (w : Wd K m H S) {d : PyData} (q : Qd d S) {u : V} {H' : Hp} (dm : Dm K (Ce m) H' u d) (s : Same H H') : Q u H' := k _ _ _ _ _ q (Evo.same w s) (w.same s) (Dv.of (fun _ z => z) _ _ dm)
theorem Kq.sameC {Q : VK} {Qd : DK} (k : Kq K m H Q Qd) (w : Wd K m H S) {d : PyData} {u : V} (c : Dc u d) (q : Qd d S) {H' : Hp} (s : Same H H') : Q u H' := k _ _ _ _ _ q (Evo.same w s) (w.same s) c.dv
end
/-! the law's own draws -/
def spAnyD : SpD := fun ds S Q _ => ∃ n k b, ds = [cel n, .int b] ∧ DealD S n k ∧ 0 < b ∧ b < 1073741824 ∧ ∀ r S', 0 ≤ r → r < b → MvD n k S S' → Q (.int r) S'
theorem any_imp {K : PySem.W.Frag} : ∀ vs H Q E, spD K spAnyD vs H Q E → spAny vs H Q E := fun vs H Q E ⟨m, S, ds, Qd, Ed, w, dv, q, kq, _⟩ => by
  obtain ⟨n, k, b, rfl, D, h1, h2, h3⟩ := q
  obtain ⟨x, y, rfl, dx, dy⟩ := dv2 dv
  cases dy
  obtain ⟨d, c, hd, hc, DA⟩ := D.at w
  obtain ⟨d', rfl, hd'⟩ := celN_dv dx rfl
  rw [hd] at hd'
  cases hd'
  refine ⟨d, c, b, rfl, DA, h1, h2, fun r H' r0 r1 D' b' => ?_⟩
  obtain ⟨S', mv, ev, w'⟩ := D.moved w hd hc D' b'
  exact kq _ _ _ _ _ (h3 r S' r0 r1 mv) ev w' (.int r)
def spOfD : SpD := fun ds S Q _ => ∃ n k o, ds = [cel n, o] ∧ DealD S n k ∧
  ((∃ es, o = .list es ∧ 0 < es.length ∧ es.length < 1000000 ∧ ∀ d S', d ∈ es → MvD n k S S' → Q d S') ∨
   (∃ z, o = .str z ∧ 0 < z.length ∧ z.length < 1000000 ∧ ∀ c S', c ∈ z.cps.toList → MvD n k S S' → Q (.str ⟨#[c]⟩) S'))
theorem of_imp {K : PySem.W.Frag} : ∀ vs H Q E, spD K spOfD vs H Q E → spOf vs H Q E := fun vs H Q E ⟨m, S, ds, Qd, Ed, w, dv, q, kq, _⟩ => by
  obtain ⟨n, k, o, rfl, D, h⟩ := q
  obtain ⟨x, y, rfl, dx, dy⟩ := dv2 dv
  obtain ⟨d, c, hd, hc, DA⟩ := D.at w
  obtain ⟨d', rfl, hd'⟩ := celN_dv dx rfl
  rw [hd] at hd'
  cases hd'
  refine ⟨d, c, DA, ?_⟩
  rcases h with ⟨es, rfl, h1, h2, h3⟩ | ⟨z, rfl, h1, h2, h3⟩
  · obtain ⟨a, xs, rfl, ha, na, al⟩ := dy.seqL
    have l := al.len
    refine .inl ⟨a, xs, rfl, ha, fun z => na (.inl ⟨n, by rw [z]; exact hd⟩), fun z => na (.inl ⟨k, by rw [z]; exact hc⟩), by omega, by omega, fun v H' hv D' b' => ?_⟩
    obtain ⟨S', mv, ev, w'⟩ := D.moved w hd hc D' b'
    obtain ⟨i, hi⟩ := List.getElem?_of_mem hv
    obtain ⟨d2, e2, dv2⟩ := al.getV hi
    exact kq _ _ _ _ _ (h3 d2 S' (List.mem_of_getElem? e2) mv) ev w' (dv2.up ev)
  · cases dy
    refine .inr ⟨z, rfl, h1, h2, fun ch H' hm D' b' => ?_⟩
    obtain ⟨S', mv, ev, w'⟩ := D.moved w hd hc D' b'
    exact kq _ _ _ _ _ (h3 ch S' hm mv) ev w' (.str _)
end K3

/-! the plain layer: objects of own classes that stay as they are -/
namespace K3
open PySem L2 Xr K1
abbrev obj (C : Addr) (ns : List Str) (ds : List PyData) : PyData := ind C (ns.zip ds)
theorem fldD_inj : ∀ {fs gs : List (Str × PyData)}, fldD fs = fldD gs → fs = gs
  | [], [], _ => rfl
  | [], _ :: _, h => nomatch h
  | _ :: _, [], h => nomatch h
  | (x, d) :: fs, (y, e) :: gs, h => by
    have h' : ((PyData.str x, d) :: fldD fs) = (PyData.str y, e) :: fldD gs := h
    have h1 := (List.cons.inj h').1
    have h2 := fldD_inj (List.cons.inj h').2
    cases h1
    rw [h2]
section
variable {K : PySem.W.Frag} {m : Mp} {H : Hp} {S : Sto}
theorem Dv.insI {v : V} {C : Addr} {fs : List (Str × PyData)} (h : Dv K m H v (ind C fs)) : ∃ (a dx : Addr) (ys : List (Str × V)), v = .ref a ∧ H a = some (.ins C dx ys) ∧ H dx = some (.own a) ∧ ¬ Ce m a ∧ ¬ Ce m dx ∧ ys.map Prod.fst = fs.map Prod.fst ∧ DvAll K m H (ys.map Prod.snd) (fs.map Prod.snd) := by
  generalize e : ind C fs = d at h
  cases h with
  | @ins a dx C' ys fs' h1 h2 n1 n2 q al =>
    have e1 := List.cons.inj (PyData.dict.inj e)
    have e2 := fldD_inj e1.2
    have e3 := e1.1
    cases e3
    subst e2
    exact ⟨a, dx, ys, rfl, h1, h2, n1, n2, q, al⟩
  | _ => cases e
theorem lookup_dv {f : Str} {d : PyData} : ∀ {ys : List (Str × V)} {fs : List (Str × PyData)}, ys.map Prod.fst = fs.map Prod.fst → DvAll K m H (ys.map Prod.snd) (fs.map Prod.snd) → fs.lookup f = some d → ∃ v, ys.lookup f = some v ∧ Dv K m H v d
  | [], [], _, _, e => by cases e
  | [], _ :: _, h, _, _ => nomatch h
  | _ :: _, [], h, _, _ => nomatch h
  | (x, v) :: ys, (y, e) :: fs, h, al, q => by
    have h' : x :: ys.map Prod.fst = y :: fs.map Prod.fst := h
    obtain ⟨h1, h2⟩ := List.cons.inj h'
    subst h1
    cases al with
    | cons a r =>
      by_cases z : f = x
      · subst z
        rw [List.lookup_cons_self] at q ⊢
        cases q
        exact ⟨v, rfl, a⟩
      · have nz : (f == x) = false := beq_eq_false_iff_ne.mpr z
        have q' : List.lookup f fs = some d := by
          rw [List.lookup_cons, nz] at q
          exact q
        obtain ⟨w, e1, e2⟩ := lookup_dv h2 r q'
        exact ⟨w, by rw [List.lookup_cons, nz]; exact e1, e2⟩
end
section
variable {X : Cx} {e a b c : Expr} {es rest : List Expr} {t ta tb tc : DE} {u v : DT} {pos : Pos} {aa : DA}
/-- e.f -/
def dFld (C : Addr) (f : Str) (t : DE) : DE := fun ρ S Q => t ρ S fun d S1 => ∃ fs, d = ind C fs ∧ wh (fs.lookup f) fun x => Q x S1
theorem q_fld {f : Str} {C : Addr} (cl : Cls X.K C) (na : NoAttr X.K C f) (he : QE X e t) (hb : attributeBase e f X.env (eval e X.env) = eval e X.env := by rfl) : QE X (.Attribute e f pos) (dFld C f t) := pe_weak (pe_fld he hb) fun σ H Q ⟨B, ρ, S, m, Qd, at_, q, k⟩ =>
  ⟨B, ρ, S, m, _, at_, q, fun d S1 v H1 m1 q1 e1 w1 dv => by
    obtain ⟨fs, rfl, q1⟩ := q1
    obtain ⟨x, h1, q2⟩ := wh_of q1
    obtain ⟨p, dx, ys, rfl, h2, _, _, _, h3, al⟩ := dv.insI
    obtain ⟨y, h4, dy⟩ := lookup_dv h3 al h1
    exact ⟨p, C, dx, ys, y, rfl, h2, cl, na, h4, k _ _ _ _ _ q2 e1 w1 dy⟩⟩
/-- what __init__ promises: each argument is kept under its name -/
def spIni (C : Addr) (ns : List Str) : Sp := fun vs H Q _ => ∃ (x dx : Addr) (as : List V), vs = .ref x :: as ∧ as.length = ns.length ∧ H x = some (.ins C dx []) ∧ ∀ H', H' x = some (.ins C dx (ns.zip as)) → (∀ b, b ≠ x → H' b = H b) → Q .non H'
theorem map_fst_zip {α β : Type} : ∀ {xs : List α} {ys : List β}, xs.length = ys.length → (xs.zip ys).map Prod.fst = xs
  | [], [], _ => rfl
  | _ :: _, [], h => nomatch h
  | [], _ :: _, h => nomatch h
  | x :: xs, y :: ys, h => by
    have := map_fst_zip (xs := xs) (ys := ys) (Nat.succ.inj h)
    rw [List.zip_cons_cons, List.map_cons, this]
theorem map_snd_zip {α β : Type} : ∀ {xs : List α} {ys : List β}, xs.length = ys.length → (xs.zip ys).map Prod.snd = ys
  | [], [], _ => rfl
  | _ :: _, [], h => nomatch h
  | [], _ :: _, h => nomatch h
  | x :: xs, y :: ys, h => by
    have := map_snd_zip (xs := xs) (ys := ys) (Nat.succ.inj h)
    rw [List.zip_cons_cons, List.map_cons, this]
/-- C(..) -/
def dNew (C : Addr) (ns : List Str) (aa : DA) : DE := fun ρ S Q => aa ρ S fun ds S1 => ds.length = ns.length ∧ Q (obj C ns ds) S1
theorem q_new {C f : Addr} {fd : FuncData} {ps ns : List Str} {j k : Nat} {x : Str} {p : Pos} (M : Mk X.K C f) (F : FnOk X.prog X.w X.K X.mg X.base CX0 j f fd ps (spIni C ns)) (hr : Room k X.A) (hl : j + 1 ≤ k) (hg : Gl X x) (hm : X.mg x = some (.ref C)) (hb : Binds X.K fd ps [])
    (ha : QA X (e :: es) aa) (hdb : (x == ("__debug__" : Str)) = false := by decide) (he : starEach (e :: es) X.env = (false, eval e X.env) :: starEach es X.env := by rfl) (hpl : (backTo pos (starEach es X.env)).any (·.1) = false := by rfl) :
    QE X (.Call (.Name x p) (e :: es) [] pos) (dNew C ns aa) := pe_weak (pe_make M F (hr.mono hl) hg hm hb .nil pass0 ha hdb he hpl) fun σ H Q ⟨B, ρ, S, m, Qd, at_, q, k⟩ =>
  ⟨B, ρ, S, m, _, at_, q, fun ds S1 vs H1 m1 q1 e1 w1 dv => fun o dx ho hd ne => by
    obtain ⟨hl, q1⟩ := q1
    have lv := dv.len
    rw [List.append_nil]
    refine ⟨o, dx, vs, rfl, by omega, upd_same, fun H2 h1 h2 => ⟨rfl, ?_⟩⟩
    have sm : Same H1 H2 := fun b u hb => by
      have n1 : b ≠ o := fun z => by rw [z, ho] at hb; cases hb
      have n2 : b ≠ dx := fun z => by rw [z, hd] at hb; cases hb
      rw [h2 b n1, upd_ne n1, upd_ne n2]
      exact hb
    have hx : H2 dx = some (.own o) := by
      rw [h2 dx ne, upd_ne ne, upd_same]
    have ev := Evo.same w1 sm
    refine k _ _ _ _ _ q1 (e1.trans ev) (w1.same sm) (.ins h1 hx (w1.noCe ho) (w1.noCe hd) ?_ ?_)
    · rw [map_fst_zip (by omega), map_fst_zip (by omega)]
    · rw [map_snd_zip (by omega), map_snd_zip (by omega)]
      exact dv.up ev⟩
end
end K3

/-! the plain layer: tuples without a dict of their own, and where something stands in them -/
namespace L2
open PySem PySem.Spec PyProof.Rows
section
variable {X : Cx}
/-- t.index(x): the first place of an equal one, t a tuple -/
def rIndexT (K : PySem.W.Frag) : V → List V → Hp → VK → Prop := fun x xs H Q => ∃ (a : Addr) (y : V) (d : PyData) (vs : List V) (ds : List PyData) (j : Nat) (z : PyData), x = V.ref a ∧ xs = [y] ∧ SqT K H a vs ∧ DpAll K H vs ds ∧ Dp K H y d ∧
  SeqAt.shaped (.list ds) = true ∧ SeqAt.shaped d = true ∧ ds[j]? = some z ∧ PyData.eqv z d = true ∧ (∀ (m : Nat) (z' : PyData), m < j → ds[m]? = some z' → PyData.eqv z' d = false) ∧ Q (.int (j : Nat)) H
theorem mt_indexT (hu : X.A.units + 65 < cLine) : MtR X "tuple.index" (rIndexT X.K) := by
  intro pins s σ H x xs v us Q I rx rxs h
  obtain ⟨a, y, d, vs, ds, j, z, rfl, rfl, hs, ha, hy, sl, sd, hz, hzj, hno, q⟩ := h
  cases rx
  cases rxs with
  | cons ry rt =>
    rename_i uy ut
    cases rt
    obtain ⟨bs, r1⟩ := Dp.reads I d y uy hy ry
    have hxs : PyData.canLayAll0 ds = true := SeqAt.canLay_of_shaped sl
    have hroom : X.A.units + 1 + min (PyData.depthAll ds) d.depth < cLine := room_in_shaped sd hu
    obtain ⟨its, rv, ⟨⟨cls, dd, data, sls⟩, ho, hc, n, hdt⟩, hlen⟩ := I.tuple hs
    simp only at hc hdt
    subst hc hdt
    obtain ⟨as, h4⟩ := Dp.readsAll I ds _ its ha rv
    have hn : its.length = ds.length := SeqAt.ReadsAll.length ds its as h4
    have hmap : its.map (SeqAt.readOf s.heap) = ds := SeqAt.readsAll_map ds its as hxs h4
    have hvl := rv.length
    have hsl := sizeLine_eq
    obtain ⟨hjd, _⟩ := List.getElem?_eq_some_iff.mp hz
    have hjl : j < its.length := by omega
    have hj : j < its.toArray.size := by simpa using hjl
    have at_ : ∀ (m : Nat) (hm : m < its.toArray.size) (z' : PyData), ds[m]? = some z' → SeqAt.readOf s.heap its.toArray[m] = z' := by
      intro m hm z' hz'
      have hml : m < its.length := by simpa using hm
      rw [← hmap, List.getElem?_map, List.getElem?_eq_getElem hml] at hz'
      have e1 : SeqAt.readOf s.heap its[m] = z' := Option.some.inj (show some (SeqAt.readOf s.heap its[m]) = some z' from hz')
      simpa using e1
    refine call_meets PySem.F.slot_tuple_index ⟨_, ho, rfl⟩ PySem.F.entry_tuple_index (PySem.F.args_tuple_index_2 _ _)
      (TI.tuple_indexAt a its.toArray n dd sls uy (fun u => PyData.eqv (SeqAt.readOf s.heap u) d) j hj ?_ ?_) ⟨ho, SeqAt.items_eqAt (vs := its.toArray) (show ReadsAll s.heap its.toArray.toList ds as from h4) r1 hxs (SeqAt.canLay_of_shaped sd) hroom, ?_⟩
    · show PyData.eqv (SeqAt.readOf s.heap its.toArray[j]) d = true
      rw [at_ j hj z hz]
      exact hzj
    · intro m hm hmj
      have hmd : m < ds.length := by omega
      have hz' : ds[m]? = some ds[m] := List.getElem?_eq_getElem hmd
      show PyData.eqv (SeqAt.readOf s.heap its.toArray[m]) d = false
      rw [at_ m hm _ hz']
      exact hno m _ hmj hz'
    · exact ⟨.int (j : Nat), H, I.tok _, ⟨_, rfl⟩, q⟩
/-- tuple(xs), xs a list: what is new has no dict -/
def rTupF (K : PySem.W.Frag) : List V → Hp → VK → Prop := fun xs H Q => ∃ p ys, xs = [.ref p] ∧ SqL K H p ys ∧ ∀ (l : Addr) (o : Obj), H l = none → o.dict = none → o.cls = .type "tuple" → Q (.ref l) (upd H l (.frz o (.tup ys)))
theorem call_tupF : CallR X (.type "tuple") (rTupF X.K) := by
  intro pins s σ H xs us Q I r h
  obtain ⟨p, ys, rfl, hq, q⟩ := h
  obtain ⟨u, rfl, rx⟩ := vals1 r
  cases rx
  obtain ⟨its, rv, pl, hz⟩ := I.list hq
  have hlen := rv.length
  refine call_tuple_list pl.isList (fun h' kp => ?_) (by simp only [List.size_toArray] <;> omega)
  have I1 : Inv X pins σ H { s with heap := h' } := I.kept (t' := s.toks) kp
  have hg : (h'.push { cls := .type "tuple", data := .seq its.toArray }).get? h'.objs.size = some { cls := .type "tuple", data := .seq its.toArray } := Heap.get?_push_size _ rfl
  have I2 := I1.laid (t' := s.toks) (a := h'.objs.size) (o := .frz { cls := .type "tuple", data := .seq its.toArray } (.tup ys)) (fun b o e => Heap.get?_push_of_some _ e) (Nat.le_refl _)
    (show ObjOk X.prog X.w _ _ _ (.frz _ (.tup ys)) from ⟨hg, hz, its, rv, IsTup.new _ _⟩)
  exact ⟨.ref h'.objs.size, _, I2, rfl, q _ _ (I1.hok.fresh (Nat.le_refl _)) rfl rfl⟩
/-- it is a tuple without a dict -/
def tyF (x : V) (H : Hp) : Prop := ∃ (a : Addr) (o : Obj) (xs : List V), x = .ref a ∧ H a = some (.frz o (.tup xs)) ∧ o.dict = none
theorem ty_frz : TyOk X "tuple" tyF := by
  intro pins σ H s x v I r ty
  obtain ⟨a, o, xs, rfl, h, hd⟩ := ty
  cases r
  obtain ⟨e, z⟩ := (show ObjOk X.prog X.w H s.heap a (.frz o (.tup xs)) from I.hok a _ h)
  obtain ⟨hz, its, rv, ⟨ob, ho, hc, n, hdt⟩⟩ := z
  rw [e] at ho
  have ho := Option.some.inj ho
  subst ho
  refine ⟨⟨_, e, hc⟩, fun b e2 => ?_⟩
  cases e2
  exact ⟨_, e, hd⟩
end
end L2

/-! the plain layer: tuples without a dict, read as tuples; where something stands -/
namespace K3
open PySem L2 Xr K1
mutual
def thaw : PyData → PyData
  | .list ds => .list (thawAll ds)
  | .tuple ds => .tuple (thawAll ds)
  | .dict [(.none, .tuple ds)] => .tuple (thawAll ds)
  | .dict kvs => .dict kvs
  | .none => .none
  | .bool b => .bool b
  | .int i => .int i
  | .str z => .str z
def thawAll : List PyData → List PyData
  | [] => []
  | d :: ds => thaw d :: thawAll ds
end
theorem thaw_frz (ds : List PyData) : thaw (frz ds) = .tuple (thawAll ds) := by simp [thaw]
theorem thaw_tup (ds : List PyData) : thaw (.tuple ds) = .tuple (thawAll ds) := by simp [thaw]
theorem thaw_lst (ds : List PyData) : thaw (.list ds) = .list (thawAll ds) := by simp [thaw]
theorem thawAll_cons (d : PyData) (ds : List PyData) : thawAll (d :: ds) = thaw d :: thawAll ds := by simp [thawAll]
theorem layAll_cons (d : PyData) (ds : List PyData) : PyData.canLayAll0 (d :: ds) = (PyData.canLay0 d && PyData.canLayAll0 ds) := by
  conv => lhs; unfold PyData.canLayAll0
example : thaw (.list [frz [.int 1], .none]) = .list [.tuple [.int 1], .none] := rfl
/-- read as a plain thing -/
theorem dv_thaw {K : PySem.W.Frag} {m : Mp} {H : Hp} {v : V} {d : PyData} (h : Dv K m H v d) : PyData.canLay0 (thaw d) = true → Dp K H v (thaw d) :=
  Dv.rec (motive_1 := fun v d _ => PyData.canLay0 (thaw d) = true → Dp K H v (thaw d)) (motive_2 := fun vs ds _ => PyData.canLayAll0 (thawAll ds) = true → DpAll K H vs (thawAll ds))
    (fun _ => by simp only [thaw]; exact .non) (fun b _ => by simp only [thaw]; exact .bl b) (fun i _ => by simp only [thaw]; exact .int i) (fun z _ => by simp only [thaw]; exact .str z)
    (fun e _ _ ih c => by
      rw [thaw_lst] at c ⊢
      exact .lst (SqL.of e) (ih (by unfold PyData.canLay0 at c; exact c)))
    (fun e _ _ ih c => by
      rw [thaw_tup] at c ⊢
      exact .tup (SqT.of e) (ih (by unfold PyData.canLay0 at c; exact c)))
    (fun e _ ih c => by
      rw [thaw_tup] at c ⊢
      exact .tup e.sq (ih (by unfold PyData.canLay0 at c; exact c)))
    (fun _ c => by simp only [thaw] at c; unfold PyData.canLay0 at c; cases c)
    (fun e _ _ _ ih c => by
      rw [thaw_frz] at c ⊢
      exact .tup (.inl (.inr ⟨_, e⟩)) (ih (by unfold PyData.canLay0 at c; exact c)))
    (fun _ _ _ _ _ _ _ c => by simp only [thaw] at c; unfold PyData.canLay0 at c; cases c)
    (fun _ _ _ _ _ c => by simp only [thaw] at c; unfold PyData.canLay0 at c; cases c)
    (fun _ c => by simp only [thaw] at c; unfold PyData.canLay0 at c; cases c)
    (fun _ => by simp only [thawAll]; exact .nil)
    (fun _ _ iha ihb c => by
      rw [thawAll_cons] at c ⊢
      rw [layAll_cons, Bool.and_eq_true] at c
      exact .cons (iha c.1) (ihb c.2)) h
/-! rules -/
section
variable {X : Cx} {e a b c : Expr} {es rest : List Expr} {t ta tb tc : DE} {u v : DT} {pos : Pos} {aa : DA}
theorem Kq.newF {K : PySem.W.Frag} {m : Mp} {H : Hp} {S : Sto} {Q : VK} {Qd : DK} {vs : List V} {ds : List PyData} (k : Kq K m H Q Qd) (w : Wd K m H S) (h : DvAll K m H vs ds) (q : Qd (frz ds) S) (p : Addr) (o : Obj) (hp : H p = none) (ho : o.dict = none) : Q (.ref p) (upd H p (.frz o (.tup vs))) :=
  k _ _ _ _ _ q (Evo.new w hp) (w.new hp) (.frz upd_same ho (w.noCe hp) (h.up (Evo.new w hp)))
/-- tuple(xs), xs a list: known to be without a dict -/
def dTupF : PyData → Sto → DK → Prop := fun o S Q => isTupD o = false ∧ wh (itemsD S o) fun ds => Q (frz ds) S
theorem snd_tupF {K : PySem.W.Frag} : SndL K (on1 dTupF) (rTupF K) := snd_1 fun m H S x d Q Qd w dx h k => by
  obtain ⟨nt, h⟩ := h
  obtain ⟨ds, h1, h2⟩ := wh_of h
  obtain ⟨p, xs, rfl, hq, al⟩ := dx.items2 w h1
  rcases hq with ⟨_, hq⟩ | ⟨ht, _⟩
  · exact ⟨p, xs, rfl, hq, fun l o hl ho _ => k.newF w al h2 l o hl ho⟩
  · rw [nt] at ht
    cases ht
theorem q_tupleF {p : Pos} (hm : X.mg "tuple" = none) (hg : Gl X "tuple") (ha : QA X [e] aa) (he : starEach [e] X.env = (false, eval e X.env) :: starEach [] X.env := by rfl) : QE X (.Call (.Name "tuple" p) [e] [] pos) (dCall (on1 dTupF) aa) :=
  q_callTy call_tupF snd_tupF hg hm (by decide +kernel) ha (by decide) (by decide) he rfl
/-- repr, of what may have tuples without a dict in it -/
def dReprT : PyData → Sto → DK → Prop := fun d S Q => ((thaw d).showable = true ∧ (thaw d).canLay0 = true ∧ (thaw d).depth ≤ 150 ∧ (thaw d).shown.length ≤ 10000000) ∧ Q (.str (thaw d).shown) S
theorem snd_reprT {K : PySem.W.Frag} : SndL K (on1 dReprT) (Grd.rRepr K) := snd_1 fun m H S x d Q Qd w dx h k => by
  obtain ⟨⟨h1, h2, h3, h4⟩, q⟩ := h
  exact ⟨x, thaw d, rfl, dv_thaw dx h2, h1, layNoDict (thaw d) h2, h3, by rw [sizeLine_eq]; omega, k _ _ _ _ _ q Evo.refl w (.str _)⟩
theorem q_reprT {p : Pos} (gd : X.A.guards = some []) (hu : X.A.units + 200 < cLine) (hm : X.mg "repr" = none) (hg : Gl X "repr") (ha : QA X [e] aa) (he : starEach [e] X.env = (false, eval e X.env) :: starEach [] X.env := by rfl) : QE X (.Call (.Name "repr" p) [e] [] pos) (dCall (on1 dReprT) aa) :=
  q_callB (Grd.call_repr gd hu) snd_reprT hg hm (by decide +kernel) ha (by decide) (by decide) he rfl
/-- ==, != likewise -/
def dEqT : D2 := fun a b S Q => (SeqAt.shaped (thaw a) = true ∧ SeqAt.shaped (thaw b) = true) ∧ Q (.bool (PyData.eqv (thaw a) (thaw b))) S
def dNeT : D2 := fun a b S Q => (SeqAt.shaped (thaw a) = true ∧ SeqAt.shaped (thaw b) = true) ∧ Q (.bool (!PyData.eqv (thaw a) (thaw b))) S
theorem snd_eqT {K : PySem.W.Frag} : Snd2 K dEqT (fun x y H Q => rEq x y H Q ∨ rEqD K x y H Q) := fun m H S x y a b Q Qd w dx dy h k => by
  obtain ⟨⟨h3, h4⟩, h2⟩ := h
  exact .inr ⟨thaw a, thaw b, dv_thaw dx (SeqAt.canLay_of_shaped h3), dv_thaw dy (SeqAt.canLay_of_shaped h4), h3, h4, k _ _ _ _ _ h2 Evo.refl w (.bl _)⟩
theorem snd_neT {K : PySem.W.Frag} : Snd2 K dNeT (fun x y H Q => rNe x y H Q ∨ rNeD K x y H Q) := fun m H S x y a b Q Qd w dx dy h k => by
  obtain ⟨⟨h3, h4⟩, h2⟩ := h
  exact .inr ⟨thaw a, thaw b, dv_thaw dx (SeqAt.canLay_of_shaped h3), dv_thaw dy (SeqAt.canLay_of_shaped h4), h3, h4, k _ _ _ _ _ h2 Evo.refl w (.bl _)⟩
/-- t.index(x), t a tuple known to be without a dict -/
def idxD (ds : List PyData) (d : PyData) : Option Nat := ds.findIdx? fun z => PyData.eqv z d
def dIdx (t : DE) (aa : DA) : DE := fun ρ S Q => t ρ S fun o S1 => match o with
  | .dict [(.none, .tuple ds)] => aa ρ S1 fun as S2 => match as with
    | [d] => (SeqAt.shaped (.list ds) = true ∧ SeqAt.shaped d = true) ∧ wh (idxD ds d) fun j => Q (.int (j : Nat)) S2
    | _ => False
  | _ => False
theorem DvAll.dp {K : PySem.W.Frag} {m : Mp} {H : Hp} : ∀ {vs : List V} {ds : List PyData}, DvAll K m H vs ds → PyData.canLayAll0 ds = true → DpAll K H vs ds
  | _, _, .nil, _ => .nil
  | _, _, .cons a b, c => by
    rw [layAll_cons, Bool.and_eq_true] at c
    exact .cons (a.dp c.1) (b.dp c.2)
theorem frz_ev {m : Mp} {H : Hp} {m' : Mp} {H' : Hp} (ev : Evo m H m' H') {a : Addr} {o : Obj} {xs : List V} (h : H a = some (.frz o (.tup xs))) (n : ¬ Ce m a) : H' a = some (.frz o (.tup xs)) := (ev.kp _ _ h n).1
theorem q_index {apos : Pos} (hu : X.A.units + 200 < cLine) (ho : QE X a t) (ha : QA X [e] aa) (hbase : attributeBase a "index" X.env (eval a X.env) = eval a X.env := by rfl)
    (hfew : ((backTo pos (starEach [e] X.env)).all (fun x => !x.1) && (backToKw pos (keywordEach [] X.env)).all (fun x => x.1.isSome)
      && decide ([e].length + ([] : List Keyword).length + (if ([] : List Keyword).isEmpty then 0 else 1) < 30)) = true := by rfl)
    (hline : (apos.endLine == pos.line) = true := by rfl) (he : starEach [e] X.env = (false, eval e X.env) :: starEach [] X.env := by rfl) :
    QE X (.Call (.Attribute a "index" apos) [e] [] pos) (dIdx t aa) := pe_weak (pe_mG ty_frz PySem.F.plainAttrs_tuple PySem.F.slot_tuple_index PySem.F.type_tuple_index (mt_indexT (by omega)) ho ha hbase hfew hline he rfl) fun σ H Q ⟨B, ρ, S, m, Qd, at_, q, k⟩ =>
  ⟨B, ρ, S, m, _, at_, q, fun o S1 v H1 m1 q1 e1 w1 dv => by
    by_cases f : ∃ ds, o = frz ds
    · obtain ⟨ds, rfl⟩ := f
      cases dv with
      | @frz p ob xs _ hp od nc al =>
        refine ⟨⟨p, ob, xs, rfl, hp, od⟩, B, ρ, S1, m1, _, at_.step e1 w1, q1, fun as S2 vs H2 m2 q2 e2 w2 dvs => ?_⟩
        match as, q2, dvs with
        | [d], q2, dvs =>
          obtain ⟨y, rfl, dy⟩ := dv1 dvs
          obtain ⟨⟨h1, h2⟩, q3⟩ := q2
          obtain ⟨j, ej, q3⟩ := wh_of q3
          obtain ⟨hj, hz, hno⟩ := List.findIdx?_eq_some_iff_getElem.mp ej
          have cl : PyData.canLayAll0 ds = true := SeqAt.canLay_of_shaped h1
          refine ⟨p, y, d, xs, ds, j, ds[j], rfl, rfl, .inl (.inr ⟨ob, frz_ev e2 hp nc⟩), (al.up e2).dp cl, dy.dp (SeqAt.canLay_of_shaped h2), h1, h2, List.getElem?_eq_getElem hj, hz, fun i z' hi hz' => ?_, k _ _ _ _ _ q3 (e1.trans e2) w2 (.int _)⟩
          obtain ⟨hl, e5⟩ := List.getElem?_eq_some_iff.mp hz'
          have := hno i hi
          rw [e5] at this
          simpa using this
    · exfalso
      revert q1
      split
      · exact fun _ => f ⟨_, rfl⟩
      · exact fun z => z⟩
end
end K3

/-! the plain layer: dicts, zip -/
namespace K3
open PySem L2 Xr K1
def keyD : PyData → Option L2.Key
  | .int i => some (.inl i)
  | .str z => some (.inr z)
  | _ => none
def dkC (S : Sto) (n : Nat) : Option (List (L2.Key × PyData)) := (S n).bind fun c => match c with
  | .dk kvs => some kvs
  | _ => none
theorem dkC_is {S : Sto} {n : Nat} {kvs : List (L2.Key × PyData)} (h : dkC S n = some kvs) : S n = some (.dk kvs) := by
  unfold dkC at h
  cases e : S n with
  | none => rw [e] at h; cases h
  | some c =>
    rw [e] at h
    cases c <;> first | (cases h; rfl) | cases h
def valP (kvs : List (L2.Key × PyData)) (k : L2.Key) : Option PyData := (kvs.find? fun kv => decide (kv.1 = k)).map (·.2)
def putP (kvs : List (L2.Key × PyData)) (k : L2.Key) (d : PyData) : List (L2.Key × PyData) :=
  if (kvs.any fun kv => decide (kv.1 = k)) = true then kvs.map (fun kv => if kv.1 = k then (kv.1, d) else kv) else kvs ++ [(k, d)]
section
variable {K : PySem.W.Frag} {m : Mp} {H : Hp}
theorem keyD_dv {v : V} {d : PyData} {k : L2.Key} (h : Dv K m H v d) (e : keyD d = some k) : v = kV k := by
  cases h <;> first | (cases e; rfl) | cases e
theorem val_dv {k : L2.Key} : ∀ {gs : List (L2.Key × V)} {kvs : List (L2.Key × PyData)}, gs.map Prod.fst = kvs.map Prod.fst → DvAll K m H (gs.map Prod.snd) (kvs.map Prod.snd) →
    (∀ d, valP kvs k = some d → ∃ v, valV gs k = some v ∧ Dv K m H v d) ∧ (valP kvs k = none → valV gs k = none)
  | [], [], _, _ => ⟨fun d h => (nomatch h), fun _ => rfl⟩
  | [], _ :: _, h, _ => nomatch h
  | _ :: _, [], h, _ => nomatch h
  | (x, v) :: gs, (y, e) :: kvs, h, al => by
    have h' : x :: gs.map Prod.fst = y :: kvs.map Prod.fst := h
    obtain ⟨h1, h2⟩ := List.cons.inj h'
    subst h1
    cases al with
    | cons a r =>
      obtain ⟨i1, i2⟩ := val_dv (k := k) h2 r
      by_cases z : x = k
      · have e1 : valP ((x, e) :: kvs) k = some e := by simp [valP, z]
        have e2 : valV ((x, v) :: gs) k = some v := by simp [valV, z]
        rw [e1, e2]
        exact ⟨fun d q => ⟨v, rfl, by cases q; exact a⟩, fun q => nomatch q⟩
      · have e1 : valP ((x, e) :: kvs) k = valP kvs k := by simp [valP, z]
        have e2 : valV ((x, v) :: gs) k = valV gs k := by simp [valV, z]
        rw [e1, e2]
        exact ⟨i1, i2⟩
theorem any_fst {α : Type} (k : L2.Key) (l : List (L2.Key × α)) : (l.any fun kv => decide (kv.1 = k)) = (l.map Prod.fst).any fun x => decide (x = k) := by
  induction l with
  | nil => rfl
  | cons p r ih => rw [List.map_cons, List.any_cons, List.any_cons, ih]
theorem map_put {k : L2.Key} {v : V} {d : PyData} (dv : Dv K m H v d) : ∀ {gs : List (L2.Key × V)} {kvs : List (L2.Key × PyData)}, gs.map Prod.fst = kvs.map Prod.fst → DvAll K m H (gs.map Prod.snd) (kvs.map Prod.snd) →
    (gs.map fun kv => if kv.1 = k then (kv.1, v) else kv).map Prod.fst = (kvs.map fun kv => if kv.1 = k then (kv.1, d) else kv).map Prod.fst ∧ DvAll K m H ((gs.map fun kv => if kv.1 = k then (kv.1, v) else kv).map Prod.snd) ((kvs.map fun kv => if kv.1 = k then (kv.1, d) else kv).map Prod.snd)
  | [], [], _, _ => ⟨rfl, .nil⟩
  | [], _ :: _, h, _ => nomatch h
  | _ :: _, [], h, _ => nomatch h
  | (x, v0) :: gs, (y, e) :: kvs, h, al => by
    have h' : x :: gs.map Prod.fst = y :: kvs.map Prod.fst := h
    obtain ⟨h1, h2⟩ := List.cons.inj h'
    subst h1
    cases al with
    | cons a r =>
      obtain ⟨i1, i2⟩ := map_put (k := k) dv h2 r
      by_cases z : x = k
      · simp only [List.map_cons, z, if_true]
        exact ⟨by rw [i1], .cons dv i2⟩
      · simp only [List.map_cons, z, if_false]
        exact ⟨by rw [i1], .cons a i2⟩
theorem put_dv {k : L2.Key} {v : V} {d : PyData} {gs : List (L2.Key × V)} {kvs : List (L2.Key × PyData)} (dv : Dv K m H v d) (h : gs.map Prod.fst = kvs.map Prod.fst) (al : DvAll K m H (gs.map Prod.snd) (kvs.map Prod.snd)) :
    (putK gs k v).map Prod.fst = (putP kvs k d).map Prod.fst ∧ DvAll K m H ((putK gs k v).map Prod.snd) ((putP kvs k d).map Prod.snd) := by
  have e : (gs.any fun kv => decide (kv.1 = k)) = kvs.any fun kv => decide (kv.1 = k) := by rw [any_fst, any_fst, h]
  unfold putK putP
  rw [e]
  split
  · exact map_put dv h al
  · refine ⟨?_, ?_⟩
    · rw [List.map_append, List.map_append, h]
      rfl
    · rw [List.map_append, List.map_append]
      exact al.app (.cons dv .nil)
theorem Wd.dk {S : Sto} {n : Nat} {kvs : List (L2.Key × PyData)} (w : Wd K m H S) (h : S n = some (.dk kvs)) : ∃ a gs, m.c n = some a ∧ H a = some (.dK gs) ∧ gs.map Prod.fst = kvs.map Prod.fst ∧ DvAll K m H (gs.map Prod.snd) (kvs.map Prod.snd) := by
  obtain ⟨a, e, gs, h1, h2, h3⟩ := w.has n _ h
  exact ⟨a, gs, e, h1, h2, h3⟩
end
end K3

/-! the plain layer: rules of dicts; zip; all; tuple(range(..)); tuples repeated -/
namespace K3
open PySem L2 Xr K1
section
variable {X : Cx} {e a b c o i tg : Expr} {es rest : List Expr} {t ta tb tc td ty : DE} {u v : DT} {pos : Pos} {aa : DA}
/-- d[k] -/
def dDGet (td ty : DE) : DE := fun ρ S Q => td ρ S fun o S1 => ty ρ S1 fun y S2 => wh (celN o) fun n => wh (dkC S2 n) fun kvs => wh (keyD y) fun k => wh (valP kvs k) fun d => Q d S2
theorem q_dget (hu : X.A.units + 1 < cLine) (ho : QE X o td) (hi : QE X i ty) (hs : NoSl i) : QE X (.Subscript o i pos) (dDGet td ty) := pe_weak (pe_dget hu ho hi hs) fun σ H Q ⟨B, ρ, S, m, Qd, at_, q, k⟩ =>
  ⟨B, ρ, S, m, _, at_, q, fun o S1 x H1 m1 q1 e1 w1 dx => ⟨B, ρ, S1, m1, _, at_.step e1 w1, q1, fun y S2 yv H2 m2 q2 e2 w2 dy => by
    obtain ⟨n, en, q2⟩ := wh_of q2
    obtain ⟨kvs, ek, q2⟩ := wh_of q2
    obtain ⟨kk, eky, q2⟩ := wh_of q2
    obtain ⟨d, ed, q2⟩ := wh_of q2
    obtain ⟨a, rfl, ha⟩ := celN_dv (dx.up e2) en
    obtain ⟨a', gs, h1, h2, h3, h4⟩ := w2.dk (dkC_is ek)
    rw [ha] at h1
    cases h1
    obtain ⟨v, hv, dv⟩ := (val_dv h3 h4).1 d ed
    have := keyD_dv dy eky
    subst this
    have g := DGet.k (k := kk) h2
    rw [hv] at g
    exact ⟨a, v, rfl, g, k _ _ _ _ _ q2 (e1.trans e2) w2 dv⟩⟩⟩
/-- k in d -/
def dDIn (neg : Bool) (ty td : DE) : DE := fun ρ S Q => ty ρ S fun y S1 => td ρ S1 fun o S2 => wh (celN o) fun n => wh (dkC S2 n) fun kvs => wh (keyD y) fun k => Q (.bool (xor neg (valP kvs k).isSome)) S2
theorem din_dv {σ : L2.St} {H : Hp} {neg : Bool} {y : V} {x : V} {yd od : PyData} {m : Mp} {S : Sto} {K : PySem.W.Frag} (w : Wd K m H S) (dy : Dv K m H y yd) (dx : Dv K m H x od) {n : Nat} {kvs : List (L2.Key × PyData)} {k : L2.Key} (en : celN od = some n) (ek : dkC S n = some kvs) (eky : keyD yd = some k) :
    ∃ a r, x = .ref a ∧ DGet H a y r ∧ r.isSome = (valP kvs k).isSome := by
  obtain ⟨a, rfl, ha⟩ := celN_dv dx en
  obtain ⟨a', gs, h1, h2, h3, h4⟩ := w.dk (dkC_is ek)
  rw [ha] at h1
  cases h1
  have := keyD_dv dy eky
  subst this
  refine ⟨a, _, rfl, DGet.k (k := k) h2, ?_⟩
  cases e : valP kvs k with
  | none =>
    rw [(val_dv h3 h4).2 e]
    rfl
  | some d =>
    obtain ⟨v, hv, _⟩ := (val_dv h3 h4).1 d e
    rw [hv]
    rfl
theorem q_din (hu : X.A.units + 1 < cLine) (hi : QE X i ty) (ho : QE X o td) (hm : behindInMarks .In o = false := by first | exact nobehind _ (by decide) (by decide) | rfl) : QE X (.Compare i [.In] [o] pos) (dDIn false ty td) := pe_weak (pe_cmp (pc_din hu hi ho) hm) fun σ H Q ⟨B, ρ, S, m, Qd, at_, q, k⟩ =>
  ⟨B, ρ, S, m, _, at_, q, fun y S1 yv H1 m1 q1 e1 w1 dy => ⟨B, ρ, S1, m1, _, at_.step e1 w1, q1, fun od S2 x H2 m2 q2 e2 w2 dx => by
    obtain ⟨n, en, q2⟩ := wh_of q2
    obtain ⟨kvs, ek, q2⟩ := wh_of q2
    obtain ⟨kk, eky, q2⟩ := wh_of q2
    obtain ⟨a, r, h1, h2, h3⟩ := din_dv (σ := σ) (neg := false) w2 (dy.up e2) dx en ek eky
    rw [Bool.false_xor, ← h3] at q2
    exact ⟨a, r, h1, h2, k _ _ _ _ _ q2 (e1.trans e2) w2 (.bl _)⟩⟩⟩
theorem q_dnin (hu : X.A.units + 1 < cLine) (hi : QE X i ty) (ho : QE X o td) (hm : behindInMarks .NotIn o = false := by first | exact nobehind _ (by decide) (by decide) | rfl) : QE X (.Compare i [.NotIn] [o] pos) (dDIn true ty td) := pe_weak (pe_cmp (pc_dnotin hu hi ho) hm) fun σ H Q ⟨B, ρ, S, m, Qd, at_, q, k⟩ =>
  ⟨B, ρ, S, m, _, at_, q, fun y S1 yv H1 m1 q1 e1 w1 dy => ⟨B, ρ, S1, m1, _, at_.step e1 w1, q1, fun od S2 x H2 m2 q2 e2 w2 dx => by
    obtain ⟨n, en, q2⟩ := wh_of q2
    obtain ⟨kvs, ek, q2⟩ := wh_of q2
    obtain ⟨kk, eky, q2⟩ := wh_of q2
    obtain ⟨a, r, h1, h2, h3⟩ := din_dv (σ := σ) (neg := true) w2 (dy.up e2) dx en ek eky
    rw [Bool.true_xor, ← h3] at q2
    exact ⟨a, r, h1, h2, k _ _ _ _ _ q2 (e1.trans e2) w2 (.bl _)⟩⟩⟩
/-- zip of two tuples -/
def zipD (xs ys : List PyData) : List PyData := (xs.zip ys).map fun p => .tuple [p.1, p.2]
theorem zipD_len {xs ys : List PyData} : (zipD xs ys).length = min xs.length ys.length := by unfold zipD; rw [List.length_map, List.length_zip]
theorem zipD_get {xs ys : List PyData} {i : Nat} {x y : PyData} (h1 : xs[i]? = some x) (h2 : ys[i]? = some y) : (zipD xs ys)[i]? = some (.tuple [x, y]) := by
  unfold zipD
  have z : (xs.zip ys)[i]? = some (x, y) := List.getElem?_zip_eq_some.mpr ⟨h1, h2⟩
  rw [List.getElem?_map, z]
  rfl
theorem zipD_in {xs ys : List PyData} {i : Nat} {d : PyData} (h : (zipD xs ys)[i]? = some d) : ∃ x y, xs[i]? = some x ∧ ys[i]? = some y ∧ d = .tuple [x, y] := by
  unfold zipD at h
  rw [List.getElem?_map] at h
  cases e : (xs.zip ys)[i]? with
  | none => rw [e] at h; cases h
  | some p =>
    rw [e] at h
    obtain ⟨h1, h2⟩ := List.getElem?_zip_eq_some.mp e
    exact ⟨p.1, p.2, h1, h2, (Option.some.inj h).symm⟩
theorem walk_zipT {K : PySem.W.Frag} {a b : Addr} {xs ys : List V} {n : Nat} (hn : n = min xs.length ys.length) : Walk (RZ.ItzT K a b) n (fun H => SqT K H a xs ∧ SqT K H b ys) (YPair (fun i => xs[i]?) (fun i => ys[i]?)) := by
  subst hn
  refine ⟨fun i _ hi q => ?_, fun _ q => ⟨xs, ys, q.1, q.2, by omega⟩, fun i H v H' _ q y => ?_⟩
  · have h1 : i < xs.length := by omega
    have h2 : i < ys.length := by omega
    exact ⟨xs, ys, xs[i], ys[i], q.1, q.2, by simp [h1], by simp [h2]⟩
  · obtain ⟨T, x, z, h1, h2, h3, h4, h5⟩ := y
    exact ⟨T, x, z, h1, h2, h3, h4 xs q.1, h5 ys q.2⟩
theorem tup_stay {K : PySem.W.Frag} {m : Mp} {H : Hp} {S : Sto} {x : V} {d : PyData} {ds : List PyData} (w : Wd K m H S) (dx : Dv K m H x d) (ht : isTupD d = true) (h : itemsD S d = some ds) : ∃ p xs, x = .ref p ∧ SqT K H p xs ∧ DvAll K m H xs ds ∧ ∀ m' H', Ev0 m H m' H' → SqT K H' p xs := by
  cases dx with
  | tup e n a =>
    cases h
    exact ⟨_, _, rfl, SqT.of e, a, fun m' H' ev => SqT.of (ev.kp _ _ e n).1⟩
  | con e a =>
    cases h
    exact ⟨_, _, rfl, e.sq, a, fun m' H' ev => e.sq⟩
  | frz e _ n a =>
    cases h
    exact ⟨_, _, rfl, .inl (.inr ⟨_, e⟩), a, fun m' H' ev => .inl (.inr ⟨_, (ev.kp _ _ e n).1⟩)⟩
  | _ => cases ht
def dZipT (aa : DA) : DI := fun ρ S Q => aa ρ S fun ds S1 => match ds with
  | [x, y] => (isTupD x = true ∧ isTupD y = true) ∧ wh (itemsD S1 x) fun xs => wh (itemsD S1 y) fun ys => Q (zipD xs ys) (fun _ => True) S1
  | _ => False
theorem qi_zipT {e2 : Expr} {p tpos : Pos} {elts : List Expr} {kk : Nat} (hm : X.mg "zip" = none) (hg : Gl X "zip") (ha : QA X [e, e2] aa) (hs : starEach [e, e2] X.env = (false, eval e X.env) :: starEach [e2] X.env := by rfl) (hpl : (backTo pos (starEach [e2] X.env)).any (·.1) = false := by rfl) :
    QI X (.Tuple elts kk tpos) (.Call (.Name "zip" p) [e, e2] [] pos) (dZipT aa) := pi_weak (RZ.pi_zipA hg hm ha hs hpl) fun σ H R ⟨B, ρ, S, m, Qi, at_, q, k⟩ =>
  ⟨B, ρ, S, m, _, at_, q, fun ds S1 vs H1 m1 q1 e1 w1 dv => by
    match ds, q1, dv with
    | [x, y], q1, dv =>
      obtain ⟨vx, vy, rfl, dx, dy⟩ := dv2 dv
      obtain ⟨⟨tx, ty⟩, q1⟩ := q1
      obtain ⟨xs, h1, q1⟩ := wh_of q1
      obtain ⟨ys, h2, q1⟩ := wh_of q1
      obtain ⟨p, as, rfl, hp, ap, sp⟩ := tup_stay w1 dx tx h1
      obtain ⟨r, bs, rfl, hr, ar, sr⟩ := tup_stay w1 dy ty h2
      refine ⟨p, r, as, bs, rfl, .inr ⟨hp, hr, k _ _ _ _ _ _ q1 e1 w1 trivial ⟨fun H => SqT X.K H p as ∧ SqT X.K H r bs, YPair (fun i => as[i]?) (fun i => bs[i]?), by rw [zipD_len, ← ap.len, ← ar.len]; exact walk_zipT rfl, fun m' H' S e w st => ⟨sp _ _ e, sr _ _ e⟩, fun i m' H' S x H2 e w st hi y => ?_⟩⟩⟩
      obtain ⟨T, u, v, rfl, hT, rfl, z1, z2⟩ := y
      obtain ⟨d1, g1, dv1⟩ := (ap.up0 e).getV z1
      obtain ⟨d2, g2, dv2⟩ := (ar.up0 e).getV z2
      exact ⟨_, zipD_get g1 g2, pair_new w hT dv1 dv2, Evo.new w hT, w.new hT⟩⟩
/-- all([..]) -/
def boolsD : List PyData → Option (List Bool)
  | [] => some []
  | .bool b :: ds => (boolsD ds).map (b :: ·)
  | _ => none
theorem bools_dv {K : PySem.W.Frag} {m : Mp} {H : Hp} : ∀ {ds : List PyData} {xs : List V} {bs : List Bool}, DvAll K m H xs ds → boolsD ds = some bs → xs = bs.map V.bl
  | [], _, _, h, e => by
    cases h
    cases e
    rfl
  | d :: ds, _, bs, h, e => by
    cases h with
    | cons a r =>
      cases a <;> first | cases e | skip
      rename_i b
      have e' : (boolsD ds).map (b :: ·) = some bs := e
      cases hs : boolsD ds with
      | none => rw [hs] at e'; cases e'
      | some cs =>
        rw [hs] at e'
        cases e'
        rw [bools_dv r hs]
        rfl
theorem bools_map {α : Type} (f : α → Bool) : ∀ xs : List α, boolsD (xs.map fun x => .bool (f x)) = some (xs.map f)
  | [] => rfl
  | x :: xs => by
    show (boolsD (xs.map fun x => .bool (f x))).map (f x :: ·) = _
    rw [bools_map f xs]
    rfl
def dAll : PyData → Sto → DK → Prop := fun o S Q => isTupD o = false ∧ wh (itemsD S o) fun ds => wh (boolsD ds) fun bs => Q (.bool (bs.all id)) S
def dAny : PyData → Sto → DK → Prop := fun o S Q => isTupD o = false ∧ wh (itemsD S o) fun ds => wh (boolsD ds) fun bs => Q (.bool (bs.any id)) S
theorem snd_all {K : PySem.W.Frag} : SndL K (on1 dAll) (rAll K) := snd_1 fun m H S x d Q Qd w dx h k => by
  obtain ⟨nt, h⟩ := h
  obtain ⟨ds, h1, h⟩ := wh_of h
  obtain ⟨bs, h2, q⟩ := wh_of h
  obtain ⟨p, xs, rfl, hq, al⟩ := dx.items2 w h1
  have := bools_dv al h2
  subst this
  rcases hq with ⟨_, hq⟩ | ⟨ht, _⟩
  · exact ⟨p, bs, rfl, hq, k _ _ _ _ _ q Evo.refl w (.bl _)⟩
  · rw [nt] at ht
    cases ht
theorem snd_any {K : PySem.W.Frag} : SndL K (on1 dAny) (rAny K) := snd_1 fun m H S x d Q Qd w dx h k => by
  obtain ⟨nt, h⟩ := h
  obtain ⟨ds, h1, h⟩ := wh_of h
  obtain ⟨bs, h2, q⟩ := wh_of h
  obtain ⟨p, xs, rfl, hq, al⟩ := dx.items2 w h1
  have := bools_dv al h2
  subst this
  rcases hq with ⟨_, hq⟩ | ⟨ht, _⟩
  · exact ⟨p, bs, rfl, hq, k _ _ _ _ _ q Evo.refl w (.bl _)⟩
  · rw [nt] at ht
    cases ht
theorem q_all {p : Pos} (hc : X.calm = true) (hm : X.mg "all" = none) (hg : Gl X "all") (ha : QA X [e] aa) (he : starEach [e] X.env = (false, eval e X.env) :: starEach [] X.env := by rfl) : QE X (.Call (.Name "all" p) [e] [] pos) (dCall (on1 dAll) aa) :=
  q_callB (cr_all hc) snd_all hg hm (by decide +kernel) ha (by decide) (by decide) he rfl
theorem q_any {p : Pos} (hc : X.calm = true) (hm : X.mg "any" = none) (hg : Gl X "any") (ha : QA X [e] aa) (he : starEach [e] X.env = (false, eval e X.env) :: starEach [] X.env := by rfl) : QE X (.Call (.Name "any" p) [e] [] pos) (dCall (on1 dAny) aa) :=
  q_callB (cr_any hc) snd_any hg hm (by decide +kernel) ha (by decide) (by decide) he rfl
/-- t * n, t a tuple -/
def dRep : D2
  | o, .int k, S, Q => isTupD o = true ∧ wh (itemsD S o) fun ds => (ds ≠ [] ∧ 2 ≤ k ∧ k ≤ 1000 ∧ ds.length ≤ 1000) ∧ Q (.tuple (List.replicate k.toNat ds).flatten) S
  | _, _, _, _ => False
theorem flat_rep {K : PySem.W.Frag} {m : Mp} {H : Hp} {xs : List V} {ds : List PyData} (h : DvAll K m H xs ds) : ∀ n, DvAll K m H (List.replicate n xs).flatten (List.replicate n ds).flatten
  | 0 => .nil
  | n + 1 => by
    rw [List.replicate_succ, List.replicate_succ, List.flatten_cons, List.flatten_cons]
    exact h.app (flat_rep h n)
theorem snd_rep {K : PySem.W.Frag} : Snd2 K dRep (rRepT K) := fun m H S x y a b Q Qd w dx dy h k => by
  cases b <;> first | exact False.elim h | skip
  cases dy
  obtain ⟨ht, h⟩ := h
  obtain ⟨ds, h1, ⟨h2, h3, h4, h5⟩, q⟩ := wh_of h
  obtain ⟨p, xs, rfl, hp, al, _⟩ := tup_stay w dx ht h1
  have l := al.len
  exact ⟨p, _, xs, rfl, rfl, hp, fun z => h2 (by rw [z] at l; exact List.eq_nil_of_length_eq_zero l.symm), h3, h4, by omega, k.newT w (flat_rep al _) q⟩
end
end K3

/-! the plain layer: dicts made by a comprehension -/
namespace K3
open PySem L2 Xr K1
section
variable {K : PySem.W.Frag} {m : Mp} {H : Hp} {S : Sto} {D : Addr} {n : Nat} {c : Cell}
/-- what was hidden becomes a cell -/
theorem Ev0.show (hz : m.z D) (hn : m.c n = none) : Ev0 m H (mput (K3.bare m D) n D) H := by
  refine ⟨fun k a e => ?_, fun q o e ne => ⟨e, fun h => ?_⟩⟩
  · have : k ≠ n := fun z => by rw [z, hn] at e; cases e
    rw [mput_ne this]
    exact e
  · rcases h with ⟨k, ek⟩ | ek
    · by_cases z : k = n
      · rw [z, mput_same] at ek
        have := Option.some.inj ek
        subst this
        exact ne (.inr hz)
      · rw [mput_ne z] at ek
        exact ne (.inl ⟨k, ek⟩)
    · exact ne (.inr ek.2)
theorem Wd.show (w : Wd K m H S) (hz : m.z D) (hn : m.c n = none) (hc : CellR K (mput (K3.bare m D) n D) H D c) : Wd K (mput (K3.bare m D) n D) H (put S n c) := by
  have nD : ∀ k, m.c k ≠ some D := fun k e => w.hid k D e hz
  refine ⟨fun i j a h1 h2 => ?_, fun k a e => ?_, ?_, fun k d e => ?_, fun k a e za => ?_, fun a e => ?_⟩
  · by_cases zi : i = n
    · by_cases zj : j = n
      · rw [zi, zj]
      · rw [zi, mput_same] at h1
        rw [mput_ne zj] at h2
        have := Option.some.inj h1
        subst this
        exact absurd h2 (nD j)
    · by_cases zj : j = n
      · rw [zj, mput_same] at h2
        rw [mput_ne zi] at h1
        have := Option.some.inj h2
        subst this
        exact absurd h1 (nD i)
      · rw [mput_ne zi] at h1
        rw [mput_ne zj] at h2
        exact w.inj i j a h1 h2
  · by_cases z : k = n
    · rw [z, mput_same] at e
      have := Option.some.inj e
      subst this
      exact w.ztr _ hz
    · rw [mput_ne z] at e
      exact w.trk k a e
  · obtain ⟨b, hb⟩ := w.bd
    refine ⟨max b (n + 1), fun k hk => ?_⟩
    have : k ≠ n := by omega
    rw [mput_ne this]
    exact hb k (by omega)
  · by_cases z : k = n
    · rw [z, put_same] at e
      cases e
      exact ⟨D, by rw [z, mput_same], hc⟩
    · rw [put_ne z] at e
      obtain ⟨a, ha, cr⟩ := w.has k d e
      exact ⟨a, by rw [mput_ne z]; exact ha, cr.up (Ev0.show hz hn) rfl⟩
  · have za' : a ≠ D ∧ m.z a := za
    by_cases z : k = n
    · rw [z, mput_same] at e
      exact za'.1 (Option.some.inj e).symm
    · rw [mput_ne z] at e
      exact w.hid k a e za'.2
  · exact w.ztr a e.2
end
/-- a walk of a dict comprehension, by a predicate of the turns -/
theorem dc_it {J : It} {N : Nat} {G : Hp → Prop} {Y : Nat → Hp → V → Hp → Prop} {g : TG} {tt : TT} {tk tv : TE} {vs : List Nat} {σ : L2.St} {H1 : Hp} {D : Addr} {Qd : Hp → Prop} (wk : Walk J N G Y) (Pv : Nat → Hp → Prop) (h0 : Pv 0 (upd H1 D (.dK []))) (hG : ∀ i H, i ≤ N → Pv i H → G H)
    (hs : ∀ i x H H', i < N → Pv i H → Y i H x H' → g x (wipe σ vs) H' fun σ2 H2 => wipe σ2 vs = wipe σ vs ∧ tt σ2 H2 fun b H3 =>
      if b = true then tk σ2 H3 fun y H4 => tv σ2 H4 fun z H5 => ∃ kvs k, y = kV k ∧ H5 D = some (.dK kvs) ∧ kvs.length < sizeLine ∧ Pv (i + 1) (upd H5 D (.dK (putK kvs k z))) else Pv (i + 1) H3) (hd : ∀ H, Pv N H → Qd H) :
    ∃ W : Nat → Nat → Hp → Prop, (∃ m, W 0 m (upd H1 D (.dK []))) ∧ ∀ i m H, W i m H →
      (J.stop i H ∧ Qd H) ∨ (J.go i H ∧ ∃ Nx : Hp → Prop, (∀ H', Nx H' → ∃ m', m' < m ∧ W (i + 1) m' H') ∧ ∀ x H', J.yld i H x H' → g x (wipe σ vs) H' fun σ2 H2 => wipe σ2 vs = wipe σ vs ∧ tt σ2 H2 fun b H3 =>
        if b = true then tk σ2 H3 fun y H4 => tv σ2 H4 fun z H5 => ∃ kvs k, y = kV k ∧ H5 D = some (.dK kvs) ∧ kvs.length < sizeLine ∧ Nx (upd H5 D (.dK (putK kvs k z))) else Nx H3) := by
  refine ⟨fun i m H => m = N - i ∧ i ≤ N ∧ Pv i H, ⟨N, by simp, Nat.zero_le _, h0⟩, ?_⟩
  rintro i m H ⟨rfl, hi, p⟩
  have gH := hG i H hi p
  by_cases hlt : i < N
  · exact .inr ⟨wk.goes i H hlt gH, Pv (i + 1), fun H' p' => ⟨N - (i + 1), by omega, rfl, hlt, p'⟩, fun x H' y => hs i x H H' hlt p (wk.yields i H x H' hlt gH y)⟩
  · have e : i = N := by omega
    subst e
    exact .inl ⟨wk.stops H gH, hd H p⟩
/-- {k: v for .. in .. if ..}: W by the turn, what is made so far, the store -/
def dDc (di : DI) (bd : PyData → Rho → Option Rho) (tt : DT) (tk te : DE) (vs : List Nat) : DE := fun ρ S Q => di ρ S fun items stay S1 => ∃ W : Nat → List (L2.Key × PyData) → Sto → Prop, W 0 [] S1 ∧ (∀ i acc S, W i acc S → stay S ∧ acc.length < 1000000) ∧
  (∀ i d acc S, items[i]? = some d → W i acc S → wh (bd d (uns ρ vs)) fun ρ2 => tt ρ2 S fun b S2 => if b = true then tk ρ2 S2 fun y S3 => wh (keyD y) fun k => te ρ2 S3 fun z S4 => W (i + 1) (putP acc k z) S4 else W (i + 1) acc S2) ∧
  ∀ acc S, W items.length acc S → ∀ n, S n = none → Q (cel n) (put S n (.dk acc))
theorem dc_dv {di : DI} {K : PySem.W.Frag} {g : TG} {bd : PyData → Rho → Option Rho} {tt : DT} {tk te : DE} {vs : List Nat} {σ : L2.St} {H : Hp} {Q : VK} (hb : Bnd K g bd vs) (h : lft K (dDc di bd tt tk te vs) σ H Q) : tDc (lftI K di) g (lftT K tt) (lft K tk) (lft K te) vs σ H Q := by
  obtain ⟨B, ρ, S, m, Qd, at_, q, k⟩ := h
  refine ⟨B, ρ, S, m, _, at_, q, fun items stay S1 H1 m1 J q1 e1 w1 st1 wk => ?_⟩
  obtain ⟨W, h0, hst, hstep, hdone⟩ := q1
  obtain ⟨G, Y, walk, hG, hY⟩ := wk.ex
  intro D hD
  have ev1 : Ev0 m1 H1 (hide m1 D) (upd H1 D (.dK [])) := Ev0.hide w1 hD
  have fr1 := (at_.step e1 w1).fr
  refine dc_it walk (fun i H => ∃ (acc : List (L2.Key × PyData)) (S : Sto) (m : Mp) (gs : List (L2.Key × V)), W i acc S ∧ Ev0 m1 H1 m H ∧ Wd K m H S ∧ (∀ a, m.z a ↔ (a = D ∨ m1.z a)) ∧ (∀ a o, m1.z a → H1 a = some o → H a = some o) ∧ H D = some (.dK gs) ∧ gs.map Prod.fst = acc.map Prod.fst ∧ DvAll K m H (gs.map Prod.snd) (acc.map Prod.snd)) ?_ ?_ ?_ ?_
  · exact ⟨[], S1, hide m1 D, [], h0, ev1, w1.hide hD, fun a => Iff.rfl, fun a o z e => by rw [upd_ne (ne_of_none e hD)]; exact e, upd_same, rfl, .nil⟩
  · rintro i H _ ⟨acc, S, m, gs, hW, ev, w, _, _, _, _⟩
    exact hG m H S ev w (hst i acc S hW).1
  · rintro i x H H' hi ⟨acc, S, m, gs, hW, ev, w, hz, hk, hH, hn, al⟩ y
    obtain ⟨d, hd, dv, e2, w2⟩ := hY i m H S x H' ev w (hst i acc S hW).1 hi y
    obtain ⟨ρ2, hb2, q2⟩ := wh_of (hstep i d acc S hd hW)
    have lacc := (hst i acc S hW).2
    have zD : m.z D := (hz D).mpr (.inl rfl)
    have H'D : H' D = some (.dK gs) := e2.zk D _ zD hH
    have ev2 : Ev0 m1 H1 m H' := ev.trans e2.toEv0
    have frw : Fr K m H' (wipe σ vs) (uns ρ vs) := (Fr.up0 ev2 _ _ fr1).wipe _ _ vs
    refine hb.ok m H' d x (uns ρ vs) ρ2 (wipe σ vs) _ dv frw hb2 fun σ' f' hw' => ⟨?_, ?_⟩
    · rw [hw', wipe_wipe fun _ z => z]
    · refine ⟨(m, H'), ρ2, S, m, _, ⟨Evo.refl, w2, f'⟩, q2, fun b S2 H2 m2 q3 e3 w3 => ?_⟩
      have hk2 : ∀ a o, m1.z a → H1 a = some o → H2 a = some o := fun a o z e => e3.zk a o ((hz a).mpr (.inr z)) (e2.zk a o ((hz a).mpr (.inr z)) (hk a o z e))
      have hz2 : ∀ a, m2.z a ↔ (a = D ∨ m1.z a) := fun a => (e3.hz a).trans (hz a)
      have H2D : H2 D = some (.dK gs) := e3.zk D _ zD H'D
      cases b with
      | false => exact iteF ⟨acc, S2, m2, gs, q3, ev2.trans e3.toEv0, w3, hz2, hk2, H2D, hn, (al.up e2).up e3⟩
      | true =>
        refine iteT ⟨(m, H'), ρ2, S2, m2, _, ⟨e3, w3, f'.up e3⟩, q3, fun y S3 v H3 m3 q4 e4 w4 dy => ?_⟩
        obtain ⟨kk, ekk, q4⟩ := wh_of q4
        refine ⟨(m, H'), ρ2, S3, m3, _, ⟨e3.trans e4, w4, (f'.up e3).up e4⟩, q4, fun zd S4 vz H4 m4 q5 e5 w5 dz => ?_⟩
        have e45 := e4.trans e5
        have zD2 : m2.z D := (hz2 D).mpr (.inl rfl)
        have H4D : H4 D = some (.dK gs) := e45.zk D _ zD2 H2D
        have zD4 : m4.z D := (e45.hz D).mpr zD2
        have al4 := ((al.up e2).up e3).up e45
        obtain ⟨p1, p2⟩ := put_dv (k := kk) dz hn al4
        have lg : gs.length = acc.length := by
          have := congrArg List.length hn
          rwa [List.length_map, List.length_map] at this
        refine ⟨gs, kk, keyD_dv dy ekk, H4D, by rw [lg, sizeLine_eq]; omega, putP acc kk zd, S4, m4, _, q5, ?_, w5.turn zD4, fun a => (e45.hz a).trans (hz2 a), fun a o z e => ?_, upd_same, p1, p2.up0 (Ev0.turn zD4)⟩
        · exact ((ev2.trans e3.toEv0).trans e45.toEv0).trans (Ev0.turn zD4)
        · have : a ≠ D := ne_of_none e hD
          rw [upd_ne this]
          exact e45.zk a o ((hz2 a).mpr (.inr z)) (hk2 a o z e)
  · rintro H ⟨acc, S, m, gs, hW, ev, w, hz, hk, hH, hn, al⟩
    have q := hdone acc S hW
    have nz : ¬ m1.z D := fun z => by
      obtain ⟨o, e⟩ := w1.ztr D z
      rw [hD] at e
      cases e
    have zD : m.z D := (hz D).mpr (.inl rfl)
    obtain ⟨n, hnn⟩ := w.free
    have e5 : Evo m1 H1 (mput (K3.bare m D) n D) H := ⟨ev.trans (Ev0.show zD hnn), fun a => by
      show (a ≠ D ∧ m.z a) ↔ m1.z a
      rw [hz a]
      constructor
      · rintro ⟨h1, h2⟩
        exact h2.resolve_left h1
      · intro h1
        exact ⟨fun e => nz (by rw [← e]; exact h1), .inr h1⟩, hk⟩
    exact k _ _ _ _ _ (q n (w.sfree hnn)) (e1.trans e5) (w.show zD hnn ⟨gs, hH, hn, al.up0 (Ev0.show zD hnn)⟩) (.cel mput_same)
section
variable {X : Cx} {e tg kx vx : Expr} {di : DI} {tt : DT} {tk te : DE} {pos : Pos}
theorem q_dc {ifs : List Expr} {scope : Scope} {own : List (Str × Nat)} {g : TG} {bd : PyData → Rho → Option Rho} (hc : X.calm = true) (hN : X.N.Nodup) (hi : QI X tg e di) (ok : BlkOk X.N X.env.scope scope own) (hbd : Bnd X.K g bd (own.map (·.2)))
    (hg : ∀ (s : Shared) (H : Hp) (C : Addr) (cl : List (Str × Addr)) (fp : List Addr), PG (X.blk s H scope (compEnvC scope cl C X.env) fp) tg g) (ht : ∀ (s : Shared) (H : Hp) (C : Addr) (cl : List (Str × Addr)) (fp : List Addr), QTs (X.blk s H scope (compEnvC scope cl C X.env) fp) ifs tt)
    (hk : ∀ (s : Shared) (H : Hp) (C : Addr) (cl : List (Str × Addr)) (fp : List Addr), QE (X.blk s H scope (compEnvC scope cl C X.env) fp) kx tk)
    (he : ∀ (s : Shared) (H : Hp) (C : Addr) (cl : List (Str × Addr)) (fp : List Addr), QE (X.blk s H scope (compEnvC scope cl C X.env) fp) vx te) (hs : ∀ x, foldedSetIterable e X.env x = pure x := by intro _; rfl) :
    QE X (.DictComp kx vx [⟨tg, e, ifs, 0⟩] scope pos) (dDc di bd tt tk te (own.map (·.2))) := pe_weak (pe_dc (own := own) (g := g) hc hN hi ok hg (fun s H C cl fp => (ht s H C cl fp).p) hk he hs) fun σ H Q h => dc_dv hbd h
end
end K3

/-! the plain layer: tuple(range(..)), a tuple repeated -/
namespace K3
open PySem L2 Xr K1
section
variable {X : Cx} {e a b : Expr} {t ta tb : DE} {pos : Pos}
theorem u1 {k : Nat} {A : Around} (hr : Room k A) : A.units + 1 < cLine := by
  have := hr.un
  omega
def rgD (n : Nat) : List PyData := (List.range n).map fun i => .int (i : Nat)
theorem rg_dv {K : PySem.W.Frag} {m : Mp} {H : Hp} {n : Int} (h : 0 ≤ n) : DvAll K m H (rgV 0 n) (rgD n.toNat) := by
  have e : rgV 0 n = ((List.range n.toNat).map fun i => ((i : Nat) : Int)).map V.int := by
    unfold rgV
    rw [List.map_map, Int.sub_zero]
    apply List.map_congr_left
    intro i _
    show V.int (0 + ((i : Nat) : Int)) = V.int ((i : Nat) : Int)
    rw [Int.zero_add]
  have e2 : rgD n.toNat = ((List.range n.toNat).map fun i => ((i : Nat) : Int)).map PyData.int := by
    unfold rgD
    rw [List.map_map]
    rfl
  rw [e, e2]
  exact ints_dv _
/-- tuple(range(n)) -/
def dTupRg (t : DE) : DE := fun ρ S Q => t ρ S fun d S1 => match d with
  | .int n => (0 ≤ n ∧ n ≤ 1000000) ∧ Q (.tuple (rgD n.toNat)) S1
  | _ => False
theorem q_tupRg {p p2 pos2 : Pos} (hc : X.calm = true) (hm : X.mg "tuple" = none) (hg : Gl X "tuple") (hm2 : X.mg "range" = none) (hg2 : Gl X "range") (ha : QE X a t) (na2 : starEach [a] X.env = (false, eval a X.env) :: starEach [] X.env := by rfl)
    (na : starEach [.Call (.Name "range" p2) [a] [] pos2] X.env = (false, eval (.Call (.Name "range" p2) [a] [] pos2) X.env) :: starEach [] X.env := by rfl) : QE X (.Call (.Name "tuple" p) [.Call (.Name "range" p2) [a] [] pos2] [] pos) (dTupRg t) :=
  pe_weak (pe_tupRg hc hg hm (prg_1 hg2 hm2 ha na2) na) fun σ H Q ⟨B, ρ, S, m, Qd, at_, q, k⟩ => ⟨B, ρ, S, m, _, at_, q, fun d S1 v H1 m1 q1 e1 w1 dv => by
    cases d <;> first | exact False.elim q1 | skip
    rename_i n
    cases dv
    obtain ⟨⟨h0, h1⟩, q1⟩ := q1
    exact ⟨n, rfl, RgOk.of_le (by omega) (by omega) (by omega) (by omega), (k.up e1).newT w1 (rg_dv h0) q1⟩⟩
theorem q_rep (ha : QE X a ta) (hb : QE X b tb) : QE X (.BinOp a .Mult b pos) (dOp dRep ta tb) := q_op op_repT snd_rep ha hb
end
end K3

/-! the plain layer: what is asked, when the values are known -/
namespace K3
open PySem L2 Xr K1
theorem e_addI {i j : Int} {S : Sto} {Q : DK} : dAdd (.int i) (.int j) S Q = Q (.int (i + j)) S := rfl
theorem e_addS {x y : Str} {S : Sto} {Q : DK} : dAdd (.str x) (.str y) S Q = (x.length + y.length ≤ 1000000 ∧ Q (.str (x ++ y)) S) := rfl
theorem e_addT {x y : List PyData} {S : Sto} {Q : DK} : dAdd (.tuple x) (.tuple y) S Q = (x.length + y.length ≤ 1000000 ∧ Q (.tuple (x ++ y)) S) := rfl
theorem e_addL {x y : List PyData} {S : Sto} {Q : DK} : dAdd (.list x) (.list y) S Q = (x.length + y.length ≤ 1000000 ∧ Q (.list (x ++ y)) S) := rfl
theorem e_i2 {g : Int → Int → PyData} {i j : Int} {S : Sto} {Q : DK} : dI2 g (.int i) (.int j) S Q = Q (g i j) S := rfl
theorem e_i2c {c : Int → Int → Prop} {g : Int → Int → PyData} {i j : Int} {S : Sto} {Q : DK} : dI2c c g (.int i) (.int j) S Q = (c i j ∧ Q (g i j) S) := rfl
theorem e_is {g : PyData → Bool} {a : PyData} {S : Sto} {Q : DK} : dIs g a .none S Q = Q (.bool (g a)) S := rfl
theorem e_bool {b : Bool} : boolD (.bool b) = some b := rfl
theorem e_cel {n : Nat} : celN (cel n) = some n := rfl
theorem e_strD {z : Str} : isStrD (.str z) = some z := rfl
theorem e_lenS {z : Str} {S : Sto} {Q : DK} : dLen (.str z) S Q = (z.length ≤ 1000000 ∧ Q (.int z.length) S) := rfl
theorem e_lenT {x : List PyData} {S : Sto} {Q : DK} : dLen (.tuple x) S Q = Q (.int x.length) S := rfl
theorem e_lenL {x : List PyData} {S : Sto} {Q : DK} : dLen (.list x) S Q = Q (.int x.length) S := rfl
theorem e_lenC {n : Nat} {S : Sto} {Q : DK} : dLen (cel n) S Q = wh (itemsD S (cel n)) fun ds => Q (.int ds.length) S := rfl
theorem e_ixS {z : Str} {i : Int} {S : Sto} {Q : DK} : dIx (.str z) (.int i) S Q = (z.length ≤ 1000000 ∧ wh (atI z.cps.toList i) fun c => Q (.str ⟨#[c]⟩) S) := rfl
theorem e_ixT {x : List PyData} {i : Int} {S : Sto} {Q : DK} : dIx (.tuple x) (.int i) S Q = wh (atI x i) fun d => Q d S := rfl
theorem e_ixL {x : List PyData} {i : Int} {S : Sto} {Q : DK} : dIx (.list x) (.int i) S Q = wh (atI x i) fun d => Q d S := rfl
theorem e_ixC {n : Nat} {i : Int} {S : Sto} {Q : DK} : dIx (cel n) (.int i) S Q = wh (itemsD S (cel n)) fun ds => wh (atI ds i) fun d => Q d S := rfl
theorem e_slS {b : Bool} {z : Str} {l u : Option Int} {S : Sto} {Q : DK} : dSl b (.str z) l u S Q = (z.length ≤ 1000000 ∧ Q (.str (cutS z l u)) S) := rfl
theorem e_slT {b : Bool} {x : List PyData} {l u : Option Int} {S : Sto} {Q : DK} : dSl b (.tuple x) l u S Q = Q (.tuple (cutD x l u)) S := rfl
theorem e_slL {x : List PyData} {l u : Option Int} {S : Sto} {Q : DK} : dSl false (.list x) l u S Q = Q (.list (cutD x l u)) S := rfl
theorem e_slC {n : Nat} {l u : Option Int} {S : Sto} {Q : DK} : dSl false (cel n) l u S Q = wh (itemsD S (cel n)) fun ds => if false = true then (∀ n, S n = none → Q (cel n) (put S n (.lst (cutD ds l u)))) else Q (.list (cutD ds l u)) S := rfl
theorem e_itT {S : Sto} {x : List PyData} : itemsD S (.tuple x) = some x := rfl
theorem e_itL {S : Sto} {x : List PyData} : itemsD S (.list x) = some x := rfl
theorem e_truN {S : Sto} {i : Int} {b : Bool} {x : List PyData} : truD S .none = some (false) := rfl
theorem e_truI {S : Sto} {i : Int} {b : Bool} {x : List PyData} : truD S (.int i) = some ((i != 0)) := rfl
theorem e_truB {S : Sto} {i : Int} {b : Bool} {x : List PyData} : truD S (.bool b) = some (b) := rfl
theorem e_truL {S : Sto} {i : Int} {b : Bool} {x : List PyData} : truD S (.list x) = some (!x.isEmpty) := rfl
theorem e_truT {S : Sto} {i : Int} {b : Bool} {x : List PyData} : truD S (.tuple x) = some (!x.isEmpty) := rfl
theorem e_okN {S : Sto}  : okTy S .none = True := rfl
theorem e_okB {S : Sto} {b : Bool}  : okTy S (.bool b) = True := rfl
theorem e_okI {S : Sto} {i : Int}  : okTy S (.int i) = True := rfl
theorem e_okS {S : Sto} {z : Str}  : okTy S (.str z) = True := rfl
theorem e_okL {S : Sto} {x : List PyData}  : okTy S (.list x) = True := rfl
theorem e_okT {S : Sto} {x : List PyData}  : okTy S (.tuple x) = True := rfl
theorem e_okC {S : Sto} {n : Nat} : okTy S (cel n) = ∃ ds, S n = some (.lst ds) := rfl
theorem e_tupN  : isT .tup .none = false := rfl
theorem e_tupB {b : Bool}  : isT .tup (.bool b) = false := rfl
theorem e_tupI {i : Int}  : isT .tup (.int i) = false := rfl
theorem e_tupS {z : Str}  : isT .tup (.str z) = false := rfl
theorem e_tupL {x : List PyData}  : isT .tup (.list x) = false := rfl
theorem e_tupT {x : List PyData}  : isT .tup (.tuple x) = true := rfl
theorem e_tupC {n : Nat}  : isT .tup (cel n) = false := rfl
theorem e_strN  : isT .str .none = false := rfl
theorem e_strB {b : Bool}  : isT .str (.bool b) = false := rfl
theorem e_strI {i : Int}  : isT .str (.int i) = false := rfl
theorem e_strS {z : Str}  : isT .str (.str z) = true := rfl
theorem e_strL {x : List PyData}  : isT .str (.list x) = false := rfl
theorem e_strT {x : List PyData}  : isT .str (.tuple x) = false := rfl
theorem e_strC {n : Nat}  : isT .str (cel n) = false := rfl
theorem e_intN  : isT .int .none = false := rfl
theorem e_intB {b : Bool}  : isT .int (.bool b) = true := rfl
theorem e_intI {i : Int}  : isT .int (.int i) = true := rfl
theorem e_intS {z : Str}  : isT .int (.str z) = false := rfl
theorem e_intL {x : List PyData}  : isT .int (.list x) = false := rfl
theorem e_intT {x : List PyData}  : isT .int (.tuple x) = false := rfl
theorem e_intC {n : Nat}  : isT .int (cel n) = false := rfl
theorem e_boolN  : isT .bool .none = false := rfl
theorem e_boolB {b : Bool}  : isT .bool (.bool b) = true := rfl
theorem e_boolI {i : Int}  : isT .bool (.int i) = false := rfl
theorem e_boolS {z : Str}  : isT .bool (.str z) = false := rfl
theorem e_boolL {x : List PyData}  : isT .bool (.list x) = false := rfl
theorem e_boolT {x : List PyData}  : isT .bool (.tuple x) = false := rfl
theorem e_boolC {n : Nat}  : isT .bool (cel n) = false := rfl
theorem e_lstN  : isT .lst .none = false := rfl
theorem e_lstB {b : Bool}  : isT .lst (.bool b) = false := rfl
theorem e_lstI {i : Int}  : isT .lst (.int i) = false := rfl
theorem e_lstS {z : Str}  : isT .lst (.str z) = false := rfl
theorem e_lstL {x : List PyData}  : isT .lst (.list x) = true := rfl
theorem e_lstT {x : List PyData}  : isT .lst (.tuple x) = false := rfl
theorem e_lstC {n : Nat}  : isT .lst (cel n) = true := rfl
theorem e_nonN  : isNon .none = true := rfl
theorem e_nonB {b : Bool}  : isNon (.bool b) = false := rfl
theorem e_nonI {i : Int}  : isNon (.int i) = false := rfl
theorem e_nonS {z : Str}  : isNon (.str z) = false := rfl
theorem e_nonL {x : List PyData}  : isNon (.list x) = false := rfl
theorem e_nonT {x : List PyData}  : isNon (.tuple x) = false := rfl
theorem e_wkS {S : Sto} {z : Str} : walkD S (.str z) = some (signs z, fun _ => True) := rfl
theorem e_wkL {S : Sto} {x : List PyData} : walkD S (.list x) = some (x, fun _ => True) := rfl
theorem e_wkT {S : Sto} {x : List PyData} : walkD S (.tuple x) = some (x, fun _ => True) := rfl
theorem e_wkC {S : Sto} {n : Nat} : walkD S (cel n) = (lstC S n).map fun ds => (ds, fun S' => S' n = some (.lst ds)) := rfl
theorem e_join {z : Str} {d : PyData} {S : Sto} {Q : DK} : dJoin (.str z) d S Q = wh (itemsD S d) fun ds => wh (strsD ds) fun zs => (zs.map (·.length)).sum + zs.length * z.length ≤ 1000000 ∧ Q (.str (Txt.join z zs)) S := rfl
theorem e_inS {x z : Str} {S : Sto} {Q : DK} : dInS (.str x) (.str z) S Q = wh (match x.cps.toList with | [c] => some c | _ => none) fun c => Q (.bool (decide (c ∈ z.cps.toList))) S := rfl
theorem e_ninS {x z : Str} {S : Sto} {Q : DK} : dNotInS (.str x) (.str z) S Q = wh (match x.cps.toList with | [c] => some c | _ => none) fun c => Q (.bool (!decide (c ∈ z.cps.toList))) S := rfl
theorem e_ofI {i : Int} {S : Sto} {Q : DK} : dIntOf (.int i) S Q = Q (.int i) S := rfl
theorem e_ofB {b : Bool} {S : Sto} {Q : DK} : dIntOf (.bool b) S Q = Q (.int (if b = true then 1 else 0)) S := rfl
theorem e_abs {i : Int} {S : Sto} {Q : DK} : dAbs (.int i) S Q = Q (.int (if i < 0 then -i else i)) S := rfl
theorem e_lenF {x : List PyData} {S : Sto} {Q : DK} : dLen (frz x) S Q = Q (.int x.length) S := rfl
theorem e_ixF {x : List PyData} {i : Int} {S : Sto} {Q : DK} : dIx (frz x) (.int i) S Q = wh (atI x i) fun d => Q d S := rfl
theorem e_itF {S : Sto} {x : List PyData} : itemsD S (frz x) = some x := rfl
theorem e_wkF {S : Sto} {x : List PyData} : walkD S (frz x) = some (x, fun _ => True) := rfl
theorem e_tfF {x : List PyData} {S : Sto} {Q : DK} : dTupOf (frz x) S Q = Q (frz x) S := rfl
theorem e_truF {S : Sto} {x : List PyData} : truD S (frz x) = some (!x.isEmpty) := rfl
theorem e_repT {x : List PyData} {k : Int} {S : Sto} {Q : DK} : dRep (.tuple x) (.int k) S Q = (true = true ∧ wh (some x) fun ds => (ds ≠ [] ∧ 2 ≤ k ∧ k ≤ 1000 ∧ ds.length ≤ 1000) ∧ Q (.tuple (List.replicate k.toNat ds).flatten) S) := rfl
theorem e_keyI {i : Int} : keyD (.int i) = some (.inl i) := rfl
theorem e_keyS {z : Str} : keyD (.str z) = some (.inr z) := rfl
theorem ifT {A B : Prop} : (if true = true then A else B) = A := if_pos rfl
theorem ifF {A B : Prop} : (if false = true then A else B) = B := if_neg Bool.false_ne_true
theorem pv_mono : True := trivial
end K3

/-! the plain layer: more rules -/
namespace K3
open PySem L2 Xr K1
section
variable {X : Cx} {e a b : Expr} {es : List Expr} {t ta tb : DE} {pos : Pos} {gs : DGs}
/-- a, b = a list -/
def dgUnl (n : Nat) (gs : DGs) : DG := fun d ρ S Q => isTupD d = false ∧ wh (itemsD S d) fun ds => ds.length = n ∧ gs ds ρ S Q
theorem qg_unl {k : Nat} {n : Nat} (hc : X.calm = true) (h : QGs X es gs)
    (hn : (assignEach es X.env).length = n := by rfl) (hst : (assignEach es X.env).findIdx? (·.1) = none := by rfl) : QG X (.Tuple es k pos) (dgUnl n gs) := pg_weak (pg_unl hc h hn hst) fun v σ H Q ⟨d, B, ρ, S, m, Qd, at_, dv, q, k⟩ => by
  obtain ⟨nt, q⟩ := q
  obtain ⟨ds, h1, l, q⟩ := wh_of q
  obtain ⟨p, xs, rfl, hq, al⟩ := dv.items2 at_.wd h1
  rcases hq with hq | hq
  · exact ⟨p, xs, rfl, hq.2, by rw [al.len]; exact l, _, B, ρ, S, m, Qd, at_, al, q, k⟩
  · rw [nt] at hq
    cases hq.1
/-- is True, is False -/
def dIsB (g : Bool → Bool → Bool) : D2
  | .bool p, .bool q, S, Q => Q (.bool (g p q)) S
  | _, _, _, _ => False
theorem snd_isB {K : PySem.W.Frag} : Snd2 K (dIsB fun p q => decide (p = q)) rIsB := fun m H S x y a b Q Qd w dx dy h k => by
  cases a <;> cases b <;> first | exact False.elim h | skip
  cases dx
  cases dy
  exact ⟨_, _, rfl, rfl, k _ _ _ _ _ h Evo.refl w (.bl _)⟩
theorem snd_notB {K : PySem.W.Frag} : Snd2 K (dIsB fun p q => !decide (p = q)) rNotB := fun m H S x y a b Q Qd w dx dy h k => by
  cases a <;> cases b <;> first | exact False.elim h | skip
  cases dx
  cases dy
  exact ⟨_, _, rfl, rfl, k _ _ _ _ _ h Evo.refl w (.bl _)⟩
end
theorem e_isB {g : Bool → Bool → Bool} {p q : Bool} {S : Sto} {Q : DK} : dIsB g (.bool p) (.bool q) S Q = Q (.bool (g p q)) S := rfl
theorem rangeD_at {lo c : Int} {n i : Nat} {d : PyData} (h : (rangeD lo c n)[i]? = some d) : i < n ∧ d = .int (lo + (i : Nat) * c) := by
  have l : i < n := by
    have := (List.getElem?_eq_some_iff.mp h).1
    rw [rangeD_len] at this
    exact this
  rw [rangeD_get l] at h
  exact ⟨l, (Option.some.inj h).symm⟩
theorem small_nat {n : Nat} (h : n ≤ 1000000000) : small62 (n : Int) := ⟨by omega, by omega⟩
theorem e_tupD {x : List PyData} : isTupD (.list x) = false := rfl
end K3

/-! the end of a law whose def asks repr -/
namespace Grd
open PySem PySem.Spec PyProof.Rows L2
theorem lawG {P : Program} {w : World} {K : PySem.W.Frag} {mg mb : Str → Option Value} {k : Nat} {fa a : Addr} {fd : FuncData} {x : Str} {sp : Sp} {st : Shared} {vs : List Value} {ns : List Int}
    (inK : K.In st.heap) (ng : st.heap.Ns mainGlobals mg) (nb : st.heap.Ns builtinsNs mb) (bb : ∀ x : Str, x ≠ "__name__" → mb x = bootBuiltins x) (nl : st.heap.NoLimit) (gn : st.gens = #[])
    (sa : st.heap.get? a = some { cls := .type "list", data := .seq vs.toArray }) (ia : IntsAre vs ns) (few : ns.length ≤ sizeLine) (hr : Room k callerA)
    (F : ∀ base : Heap, K.In base → base.Ns mainGlobals mg → FnG P w K mg base CX0 k fa fd [x] sp) (bi : ∀ (s : Shared) (u : Value), BindsTo s fd ⟨[u], []⟩ [(x, u)])
    (hs : ∀ H : Hp, SqL K H a (ns.map V.int) → sp [.ref a] H (fun v _ => v = .bl true) fun _ _ _ => False) :
    codeAny (model P w) callerA (.call (.ref fa) ⟨[.ref a], []⟩) (fun r s' => r = .ok (.ret (.bool true)) ∧ PySem.OldK st.heap s'.heap ∧ s'.os = st.os ∧ AllBare s'.gens) st := by
  have rel := vals_ints ia
  have lens := ia.length
  -- what is tracked at the entry: nothing, or the script alone
  have go : ∀ H : Hp, (∀ b, H b = none ∨ (b = a ∧ H b = some (.frz { cls := .type "list", data := .seq vs.toArray } (.lst (ns.map V.int))))) → SqL K H a (ns.map V.int) → HOk P w H st.heap → (H a ≠ none → K.lookup a = none) →
      codeAny (model P w) callerA (.call (.ref fa) ⟨[.ref a], []⟩) (fun r s' => r = .ok (.ret (.bool true)) ∧ PySem.OldK st.heap s'.heap ∧ s'.os = st.os ∧ AllBare s'.gens) st := by
    intro H only sq hok notK
    have isA : ∀ {b : Addr}, H b ≠ none → b = a := fun {b} h => (only b).elim (fun z => absurd z h) fun z => z.1
    have free : ∀ {b : Addr} {o : Obj} {es : Array DictEntry} {ep : Nat}, st.heap.get? b = some o → o.data = .dict es ep → H b = none := fun {b o es ep} e d => by
      rcases only b with z | ⟨rfl, z⟩
      · exact z
      · rw [sa] at e
        cases e
        have d' : Data.seq vs.toArray _ = Data.dict es ep := d
        cases d'
    have hid : ∀ {b : Addr} {m : Str → Option Value}, st.heap.Ns b m → (hidT st.heap H).Ns b m := fun {b m} ⟨o, es, ep, e, d, r⟩ => ⟨o, es, ep, hidT_get e (free e d), d, r⟩
    have kb : K.In (hidT st.heap H) := fun b o e => by
      refine hidT_get (inK b o e) ?_
      rcases only b with z | ⟨rfl, z⟩
      · exact z
      · rw [notK (by rw [z]; simp)] at e
        cases e
    have md : Mod K mg (hidT st.heap H) := by
      obtain ⟨mc, c1, c2⟩ := nl
      exact ⟨kb, hid ng, ⟨mb, hid nb, bb⟩, ⟨mc, hid c1, c2⟩⟩
    have ev : Env0 P w K mg (hidT st.heap H) callerA [] st H := ⟨rfl, md, fun b o e => of_hidT e, Nat.le_of_eq (hidT_size _ _), trivial, fun b hb => absurd (show b ∈ ([] : List Addr) from hb) (by simp), hok, .of_eq gn⟩
    have run := (F _ kb (hid ng)).run callerA [] st H ⟨[.ref a], []⟩ [.ref a] [.ref a] _ _ rfl hr ev (bi st (.ref a)) (.cons rfl .nil) (hs H sq)
    refine codeAny_mono run fun r s' q => ?_
    cases r with
    | error e => exact q.elim
    | ok fl =>
      cases fl with
      | next => exact q.elim
      | brk => exact q.elim
      | cont => exact q.elim
      | ret u =>
        obtain ⟨v, H', os, bare, un, hok', rv, ev⟩ := q
        have ev' : v = .bl true := ev
        subst ev'
        cases (show u = Value.bool true from rv)
        refine ⟨rfl, PySem.OldK.of_keep fun b o e => ?_, os, bare⟩
        rcases only b with z | ⟨rfl, z⟩
        · exact un.keep b o e z (by intro h; exact absurd (show b ∈ ([] : List Addr) from h) (by simp)) (by simp)
        · have z2 := un.frzs _ _ _ z
          obtain ⟨g1, _⟩ := hok _ _ z
          obtain ⟨g2, _⟩ := hok' _ _ z2
          rw [e] at g1
          cases g1
          exact g2
  cases hk : K.lookup a with
  | some o =>
    have e := inK a o hk
    rw [sa] at e
    cases e
    exact go (fun _ => none) (fun _ => .inl rfl) (.inr ⟨_, vs.toArray, _, hk, rfl, rfl, rfl, by rw [List.size_toArray, lens]; exact few, by simpa using rel⟩) (fun b u z => by
      have z' : (none : Option HO) = some u := z
      cases z') fun z => absurd rfl z
  | none =>
    refine go (fun b => if b = a then some (.frz { cls := .type "list", data := .seq vs.toArray } (.lst (ns.map V.int))) else none) (fun b => ?_) (.inl (.inr ⟨_, if_pos rfl⟩)) (fun b u z => ?_) fun _ => hk
    · by_cases hb : b = a
      · exact .inr ⟨hb, if_pos hb⟩
      · exact .inl (if_neg hb)
    · by_cases hb : b = a
      · have z' := (if_pos hb).symm.trans z
        cases z'
        subst hb
        exact ⟨sa, by rw [List.length_map]; exact few, vs, _, rel, sa⟩
      · have z' := (if_neg hb).symm.trans z
        cases z'
theorem walkG {l : PySem.W.OpenLaw} {n k : Nat} {q : Program} {loose : List Str} {XP : (Str → Option Value) → Heap → Prop} {YP : World → Heap → Prop} {d : DefRec} {K : Params → PySem.W.Frag} {sp : PySem.W.Frag → Sp} {x : Str}
    (hn : l.most = some n) (h2 : n ≤ sizeLine) (hd : d.params.defaults = []) (hr : Room k callerA) (hY : ∀ (w : World) (h : Heap), YP w h → (K w.params).In h)
    (F : ∀ (w : World) (mg : Str → Option Value) (fa : Addr) (h : Heap), (K w.params).In h → h.Ns mainGlobals mg → mg d.name = some (.ref fa) →
      ∃ fd : FuncData, (∀ (s : Shared) (u : Value), BindsTo s fd ⟨[u], []⟩ [(x, u)]) ∧ ∀ base : Heap, (K w.params).In base → base.Ns mainGlobals mg → FnG l.prog w (K w.params) mg base CX0 k fa fd [x] (sp (K w.params)))
    (hs : ∀ (K : PySem.W.Frag) (H : Hp) (a : Addr) (ns : List Int), ns.length ≤ n → SqL K H a (ns.map V.int) → sp K [.ref a] H (fun v _ => v = .bl true) fun _ _ _ => False) :
    PySem.W.WalkO q loose XP YP l.row.toRowW d [] (fun f vs => PySem.call f vs) := by
  refine Att.attach_call hn hd fun w s₀ st mg mb fa o pm cd doc a vs ns G Y ho hdt hcd hmg hobj hints hlen hg => ?_
  have inK := hY w _ Y
  obtain ⟨fd, hb, hF⟩ := F w mg fa _ inK G.T.g hmg
  exact lawG inK G.T.g G.T.b G.T.builtins G.T.nolimit hg hobj hints (Nat.le_trans hlen h2) hr hF hb fun H sq => hs _ H a ns hlen sq
end Grd

/-! the plain layer: a law's begin and end -/
namespace K3
open PySem L2 Xr K1
theorem deal_wd {K : PySem.W.Frag} {H : Hp} {d c : Addr} (D : DealAt H d c) : ∃ m S, Wd K m H S ∧ DealD S 0 1 ∧ m.c 0 = some d := by
  obtain ⟨cs, b, h1, h2, r⟩ := D.ex
  have dc : d ≠ c := fun e => by
    rw [e, h2] at h1
    have := HO.lst.inj (Option.some.inj h1)
    cases cs with
    | nil => cases this
    | cons x xs =>
      have e2 := (List.cons.inj this).1
      cases e2
  let m : Mp := ⟨fun k => if k = 0 then some d else if k = 1 then some c else none, fun _ => False⟩
  have m0 : m.c 0 = some d := rfl
  have m1 : m.c 1 = some c := rfl
  have mn : ∀ n a, m.c n = some a → (n = 0 ∧ a = d) ∨ (n = 1 ∧ a = c) := fun n a e => by
    have e' : (if n = 0 then some d else if n = 1 then some c else none) = some a := e
    by_cases z : n = 0
    · rw [if_pos z] at e'
      exact .inl ⟨z, (Option.some.inj e').symm⟩
    · rw [if_neg z] at e'
      by_cases y : n = 1
      · rw [if_pos y] at e'
        exact .inr ⟨y, (Option.some.inj e').symm⟩
      · rw [if_neg y] at e'
        cases e'
  refine ⟨m, put (put S0 0 (.lst [cel 1, .int b])) 1 (.lst (cs.map PyData.int)), ⟨?_, ?_, ⟨2, fun n hn => ?_⟩, ?_, fun _ _ _ h => h, fun _ h => h.elim⟩, ⟨cs, b, by rw [put_ne (by decide), put_same], put_same, r⟩, m0⟩
  · intro i j a h1 h2
    rcases mn i a h1 with ⟨rfl, rfl⟩ | ⟨rfl, rfl⟩ <;> rcases mn j _ h2 with ⟨rfl, e⟩ | ⟨rfl, e⟩
    · rfl
    · exact absurd e dc
    · exact absurd e.symm dc
    · rfl
  · intro n a h
    rcases mn n a h with ⟨rfl, rfl⟩ | ⟨rfl, rfl⟩
    · exact ⟨_, h1⟩
    · exact ⟨_, h2⟩
  · show (if n = 0 then some d else if n = 1 then some c else none) = none
    rw [if_neg (by omega), if_neg (by omega)]
  · intro n cc e
    by_cases z : n = 1
    · rw [z, put_same] at e
      cases e
      exact ⟨c, by rw [z]; exact m1, _, h2, ints_dv cs⟩
    · rw [put_ne z] at e
      by_cases y : n = 0
      · rw [y, put_same] at e
        cases e
        exact ⟨d, by rw [y]; exact m0, _, h1, .cons (.cel m1) (.cons (.int _) .nil)⟩
      · rw [put_ne y] at e
        cases e
/-- what a law promises -/
def spLaw (K : PySem.W.Frag) : Sp := fun vs H Q _ => ∃ (a : Addr) (ns : List Int), vs = [.ref a] ∧ SqL K H a (ns.map V.int) ∧ ns.length ≤ 63 ∧ ∀ H', Q (.bl true) H'
/-- a law whose first row makes the deal -/
theorem law_go {K : PySem.W.Frag} {W : WZ} {t2 : DS} {N : List Str} {a : Addr} {ns : List Int} {H : Hp} {Q : VK} (hS : SqL K H a (ns.map V.int)) (l : ns.length ≤ 63) (hz : ∀ a, H a = none → W.2 a) (k : ∀ H', Q (.bl true) H') (hN : 2 ≤ N.length)
    (p : ∀ S n k', DealD S n k' → t2 { nx := fun _ _ => False, rt := fun d _ => d = .bool true } (none :: some (cel n) :: List.replicate (N.length - 2) none) S) :
    tSeq (tAsg (tCall (spSource K) [] E0 (tCons (tVar 0) tNil)) (gName 1)) (lftS K W t2) { nx := fun _ H' => Q .non H', rt := Q } (L2.start N [.ref a]) H := by
  have e : L2.start N [.ref a] = some (.ref a) :: none :: List.replicate (N.length - 2) none := by
    unfold L2.start
    obtain ⟨n, hn⟩ : ∃ n, N.length = n + 2 := ⟨N.length - 2, by omega⟩
    rw [hn]
    rfl
  rw [e]
  refine ⟨.ref a, rfl, a, ns, rfl, hS, l, fun d c H' D s h1 h2 => ?_⟩
  obtain ⟨m, S, w, DD, md⟩ := deal_wd (K := K) D
  refine ⟨(m, H'), none :: some (cel 0) :: List.replicate (N.length - 2) none, S, m, _, ⟨Evo.refl, w, ?_⟩, p S 0 1 DD, ?_⟩
  · refine ⟨fun z q => (nomatch q), fun z q => ?_, Fr.none _⟩
    cases q
    exact ⟨_, rfl, .cel md⟩
  · exact ⟨fun _ _ _ _ _ q _ => q.elim, fun d S v H2 m2 q e w dv => by
      subst q
      cases dv
      exact k H2, fun _ _ _ _ _ q _ => q.elim, fun _ _ _ _ _ q _ => q.elim, Lk.no fun q z => hz q (s.free z)⟩
/-- the blocks within -/
def fbody : Stmt → List Stmt
  | .For _ _ b _ _ => b
  | .While _ b _ _ => b
  | .If _ b _ _ => b
  | _ => []
def orelse : Stmt → List Stmt
  | .If _ _ b _ => b
  | _ => []
theorem for_body {a b : Expr} {c d : List Stmt} {p : Pos} : fbody (.For a b c d p) = c := rfl
end K3

/-! own exception classes over any built-in one, made with values and keywords -/
namespace PySem
namespace Exm
open PyProof.Rows
section
variable {M : Model} {A : Around} {E : Value → Shared → Prop} {hp : Heap} {gs : Array GenState} {dr : Drawn} {tk : Nat} {os : OsState}
variable {nm q : Str} {C N : Addr} {bs bm bmB : List Value} {hdct : Bool} {sn : List Str} {sub : List Value} {ab : Bool} {col : Option Bool} {dd : Option Addr} {k0 k1 k2 k3 k5 : Option Value} {B newId initId : String}
theorem checkNew (FB : ExcBaseFacts B newId initId bmB) (tB : bm.contains (.type B) = true) (tA : bm.contains (.type "AttributeError") = false) (tN : bm.contains (.type "NameError") = false) {us : List Value} {kw : List (Str × Value)} {Q : Unit → Shared → Prop}
    (cls : hp.get? C = some (excClassObj nm q C N bs bm hdct sn sub ab col dd k0 k1 k2 k3 k5 newId)) (fin : Q () ⟨hp, gs, dr, tk, os⟩) :
    wpAny M A (checkBuiltinCall newId ⟨.ref C :: us, kw⟩) Q E ⟨hp, gs, dr, tk, os⟩ := by
  have hb : (Value.ref C :: bm).contains (.type B) = true := by
    rw [List.contains_cons, tB]
    simp
  have hs := FB.noStar
  simp only [checkBuiltinCall, FB.newKind, FB.newSplit, FB.newRow]
  repeat (first
    | refine wpAny_loadPart_at cls ?_
    | (refine wpAny_isSubtype_exc cls ?_; rw [hb])
    | refine wpAny_staticBase_exc cls ?_
    | refine wpAny_madeBy_exc cls ?_
    | simp only [bne_self_eq_false, Bool.false_eq_true, if_false]
    | wp_step)
  exact fin
end
section
variable {prog : Program} {w : World} {A : Around} {E : Value → Shared → Prop} {R : Result → Shared → Prop} {hp : Heap} {gs : Array GenState} {dr : Drawn} {tk : Nat} {os : OsState}
variable {nm q : Str} {C N : Addr} {bs bm bmB : List Value} {hdct : Bool} {sn : List Str} {sub : List Value} {ab : Bool} {col : Option Bool} {dd : Option Addr} {k0 k1 k2 k3 k5 : Option Value} {B newId initId : String}
theorem runNew (FB : ExcBaseFacts B newId initId bmB) (tB : bm.contains (.type B) = true) (tA : bm.contains (.type "AttributeError") = false) (tN : bm.contains (.type "NameError") = false) {us : List Value} {kw : List (Str × Value)}
    (cls : hp.get? C = some (excClassObj nm q C N bs bm hdct sn sub ab col dd k0 k1 k2 k3 k5 newId)) (few : us.length ≤ sizeLine)
    (fin : R (.ok (.ret (.ref (hp.objs.size + 1)))) ⟨(hp.push (W.kdv_tup us)).push (HandSPX.excO C hp.objs.size), gs, dr, tk, os⟩) :
    codeAny (model prog w) A (.builtin newId ⟨.ref C :: us, kw⟩) R ⟨hp, gs, dr, tk, os⟩ := by
  have en := FB.ends
  have c1 : (Value.ref C :: bm).contains (.type B) = true := by
    rw [List.contains_cons, tB]
    simp
  have c2 : (Value.ref C :: bm).contains (.type "AttributeError") = false := by
    rw [List.contains_cons, tA]
    rfl
  have c3 : (Value.ref C :: bm).contains (.type "NameError") = false := by
    rw [List.contains_cons, tN]
    rfl
  refine codeAny_builtinAt FB.entry ?_
  unfold Builtin.«BaseException.__new__»
  refine wpAt_bind ?_
  show wpAt _ _ _ (stack >>= _) _ _ _
  refine wpAt_bind (wpAt_stack fun top low => wpAt_of_wpAny ?_)
  wp_walk
  refine wpAt_of_wpAny ?_
  rw [FB.owner]
  repeat (first
    | with_reducible refine wpAny_madeHere_exc FB.canon cls ?_
    | with_reducible refine wpAny_loadPart_at cls ?_
    | (with_reducible refine wpAny_isSubtype_exc cls ?_; first | rw [c1] | rw [c2] | rw [c3])
    | wp_step)
  show R _ _
  rw [Heap.size_push]
  exact fin
theorem runTypeCall (FB : ExcBaseFacts B newId initId bmB) (tB : bm.contains (.type B) = true) (tA : bm.contains (.type "AttributeError") = false) (tN : bm.contains (.type "NameError") = false) {us : List Value} {kw : List (Str × Value)} {fI : Addr} {Q : Fin → Shared → Prop}
    (cls : hp.get? C = some (excClassObj nm q C N bs bm hdct sn sub ab col dd k0 k1 k2 k3 k5 newId)) (few : us.length ≤ sizeLine)
    (li : W.Looks (model prog w) hp (typeLookup (.ref C) "__init__") (some (.ref fI))) (bi : ∀ self, W.Looks (model prog w) hp (bindSpecial (.ref fI) self) (.ref fI, [self]))
    (fin : codeAny (model prog w) A (.call (.ref fI) ⟨.ref (hp.objs.size + 1) :: us, kw⟩)
      (fun r s' => match r with | .ok (.ret v) => v = .none ∧ Q (.done (.ret (.ref (hp.objs.size + 1)))) s' | .ok _ => False | .error x => E x s')
      ⟨(hp.push (W.kdv_tup us)).push (HandSPX.excO C hp.objs.size), gs, dr, tk, os⟩) :
    wpAny (model prog w) A (Builtin.«type.__call__» ⟨.ref C :: us, kw⟩) Q E ⟨hp, gs, dr, tk, os⟩ := by
  repeat (first
    | with_reducible refine wpAny_loadPart_at cls ?_
    | with_reducible refine wpAny_madeBy_exc cls ?_
    | wp_step)
  refine codeAny_call_builtin_code (Code.quiet_builtin _ FB.quiet) (checkNew FB tB tA tN cls ?_)
  refine runNew FB tB tA tN cls few ?_
  show wpAny _ _ _ _ _ _
  have up : ∀ b o, hp.get? b = some o → ((hp.push (W.kdv_tup us)).push (HandSPX.excO C hp.objs.size)).get? b = some o := fun b o e => Heap.get?_push_of_some _ (Heap.get?_push_of_some _ e)
  have cls2 := up _ _ cls
  have at2 : ((hp.push (W.kdv_tup us)).push (HandSPX.excO C hp.objs.size)).get? (hp.objs.size + 1) = some (HandSPX.excO C hp.objs.size) := by heap_get
  have cc : (Value.ref C :: bm).contains (.ref C) = true := by simp
  have li2 := li.keeps up
  have bi2 := (bi (.ref (hp.objs.size + 1))).keeps up
  unfold isInstance
  repeat (first
    | with_reducible refine wpAny_loadPart_at at2 ?_
    | (with_reducible refine wpAny_isSubtype_exc cls2 ?_; rw [cc])
    | wp_step)
  show wpAny _ _ (typeLookup (.ref C) _) _ _ _
  refine li2.at ?_
  refine wpAny_holding (wpAny_bind (bi2.at ?_))
  refine wpAny_bind (wpAny_call (codeAny_mono fin fun r s' z => ?_))
  cases r with
  | error x => exact z
  | ok fl =>
    cases fl with
    | ret v =>
      obtain ⟨rfl, z⟩ := z
      first
        | exact wpAny_pure (wpAny_pure z)
        | (wp_walk; exact z)
    | next => exact z.elim
    | brk => exact z.elim
    | cont => exact z.elim
theorem checkTypeCallE {M : Model} {us : List Value} {kw : List (Str × Value)} {Q : Unit → Shared → Prop} (cls : hp.get? C = some (excClassObj nm q C N bs bm hdct sn sub ab col dd k0 k1 k2 k3 k5 newId))
    (fin : Q () ⟨hp, gs, dr, tk, os⟩) : wpAny M A (checkBuiltinCall "type.__call__" ⟨.ref C :: us, kw⟩) Q E ⟨hp, gs, dr, tk, os⟩ := by
  have f3 := tc_sub
  have ty : (⟨hp, gs, dr, tk, os⟩ : Shared).TypeIs (.ref C) "type" := ⟨_, cls, rfl⟩
  simp only [checkBuiltinCall, tc_kind, tc_split]
  repeat (any_goals (first
    | assumption
    | with_reducible refine wpAny_loadPart_at cls ?_
    | with_reducible refine wpAny_onRaise ?_
    | with_reducible refine wpAny_map ?_
    | wp_step))
theorem runCls (FB : ExcBaseFacts B newId initId bmB) (tB : bm.contains (.type B) = true) (tA : bm.contains (.type "AttributeError") = false) (tN : bm.contains (.type "NameError") = false) {us : List Value} {kw : List (Str × Value)} {fI : Addr}
    (cls : hp.get? C = some (excClassObj nm q C N bs bm hdct sn sub ab col dd k0 k1 k2 k3 k5 newId)) (few : us.length ≤ sizeLine)
    (li : W.Looks (model prog w) hp (typeLookup (.ref C) "__init__") (some (.ref fI))) (bi : ∀ self, W.Looks (model prog w) hp (bindSpecial (.ref fI) self) (.ref fI, [self]))
    (fin : codeAny (model prog w) (A.under (.builtin "type.__call__" ⟨.ref C :: us, kw⟩)) (.call (.ref fI) ⟨.ref (hp.objs.size + 1) :: us, kw⟩) (W.InitBack (hp.objs.size + 1) R)
      ⟨(hp.push (W.kdv_tup us)).push (HandSPX.excO C hp.objs.size), gs, dr, tk, os⟩) :
    codeAny (model prog w) A (.call (.ref C) ⟨us, kw⟩) R ⟨hp, gs, dr, tk, os⟩ := by
  have f1 := tc_lookup
  have f2 := tc_bind (.ref C)
  have ty : (⟨hp, gs, dr, tk, os⟩ : Shared).TypeIs (.ref C) "type" := ⟨_, cls, rfl⟩
  refine codeAny_of_tree ?_
  show wpAny _ _ (callAny (.ref C) _) _ _ _
  repeat (any_goals (first
    | assumption
    | with_reducible refine wpAny_loadPart_at cls ?_
    | wp_step))
  refine ⟨rfl, ?_⟩
  refine codeAny_call_builtin_at (Code.quiet_builtin _ (by decide +kernel)) entry_typeCall (checkTypeCallE cls (runTypeCall FB tB tA tN cls few li bi ?_))
  refine codeAny_mono fin fun r s' z => ?_
  cases r with
  | error x => exact z
  | ok fl => cases fl <;> exact z
end
end Exm
end PySem

namespace PySem
namespace Exm
open PyProof.Rows Builtin Builtin.ObjectAttr
section
variable {prog : Program} {w : World} {A : Around} {E : Value → Shared → Prop} {R : Result → Shared → Prop} {hp : Heap} {gs : Array GenState} {dr : Drawn} {tk : Nat} {os : OsState} {bmB : List Value} {B : String}
/-- the first store into an exception's own dict -/
theorem storeFirst {K : W.Frag} {name : Str} {t1 : Tok} {v : Value} {x C : Addr} {fv : Array Value} {cd : ClassData} (SB : StoreFacts B bmB "object.__setattr__" "object")
    (X : K.In hp) (hx : hp.get? x = some { cls := .ref C, data := .fields fv }) (ov : W.excOver K C bmB = true) (hcd : W.clsIn K C = some cd) (hh : cd.hasDict = true) (ha : W.takerIn K C name = some none)
    (fin : ∀ h' t' dx, (∀ b o, b ≠ x → hp.get? b = some o → h'.get? b = some o) → hp.objs.size ≤ dx → dx ≠ x → h'.get? x = some { cls := .ref C, dict := some dx, data := .fields fv } →
      h'.Ns1 dx (fun y => if y = name then some v else none) → R (.ok (.ret .none)) ⟨h', gs, dr, t', os⟩) :
    codeAny (model prog w) A (.call (.builtin "object.__setattr__") ⟨[.ref x, .str name t1, v], []⟩) R ⟨hp, gs, dr, tk, os⟩ := by
  have I : W.InstAt hp x { cls := .ref C, data := .fields fv } C none := ⟨hx, rfl, rfl, trivial⟩
  have far : x ≠ hp.objs.size := Nat.ne_of_lt (Heap.lt_size hx)
  have cl : W.Looks (model prog w) hp (classData C) cd := W.looks_clsIn X hcd
  refine W.osa_openX SB X I ov ha fun b => ?_
  show wpAny _ _ (storeInOwnDict (.ref x) (.ref C) (.str name t1) name v b) _ _ _
  obtain ⟨nm, bs, mro, ns, qn, hd, sn, sb, ab, col, del⟩ := cd
  dsimp only at hh
  subst hh
  unfold storeInOwnDict ownDictForStores
  repeat (first
    | with_reducible refine HandSPX.store_in_new ?_ ?_
    | with_reducible refine wpAny_loadPart_at hx ?_
    | with_reducible refine cl.at ?_
    | wp_step)
  · exact ⟨_, #[], _, (Heap.get?_update_ne _ _ _ _ far.symm).trans (Heap.get?_push_at rfl rfl), rfl, fun e he => absurd he (by simp), fun _ => rfl⟩
  · intro h' t' hn hs
    have old : (hp.push { cls := .type "dict", data := .dict #[] }).get? x = some { cls := .ref C, data := .fields fv } := Heap.get?_push_of_some _ hx
    refine fin h' t' hp.objs.size (fun c o hc ho => ?_) (Nat.le_refl _) far.symm ?_ hn
    · have e1 := hs.2 c (Nat.ne_of_lt (Heap.lt_size ho))
      exact e1.trans ((Heap.get?_update_ne _ _ _ _ hc).trans (Heap.get?_push_of_some _ ho))
    · have e1 := hs.2 x far
      exact e1.trans (Heap.get?_update_self _ old rfl)
end
end Exm
end PySem

/-! own exceptions as values: rules over the hand layer -/
namespace Exv
open PySem L2
/-- what the written part says of such a class: at C, its __init__ at fI stores the one field -/
structure ExT (K : PySem.W.Frag) (C fI : Addr) (fld : Str) (bmB : List Value) (newId : String) : Prop where
  ini : PySem.W.excInitIn K C bmB newId = true
  over : PySem.W.excOver K C bmB = true
  init : PySem.W.findIn K (.ref C) "__init__" = some (some (.ref fI))
  fn : PySem.W.typeIn K (.ref fI) = some (.type "function")
  sa : PySem.W.findIn K (.ref C) "__setattr__" = some (some (.builtin "object.__setattr__"))
  no : PySem.W.findIn K (.ref C) fld = some none
  hd : PySem.W.hasDictIn K C = true
  ga : PySem.W.findIn K (.ref C) "__getattribute__" = some (some (.builtin "BaseException.__getattribute__"))
  gg : PySem.W.findIn K (.ref C) "__getattr__" = some none
  ex : PySem.W.subIn K (.ref C) (.type "BaseException") = some true
  kp : PySem.W.keepIn K (.ref C) = true
section
variable {X : Cx} {pins : List (Addr × Obj)} {σ : St} {H : Hp} {s : Shared} {a C fI : Addr} {f : Str} {y : V} {u : Value} {Q : Unit → Shared → Prop} {E : Value → Shared → Prop} {A : Around} {B newId initId : String} {bmB bmF : List Value}
theorem taker_none {K : PySem.W.Frag} (h : PySem.W.findIn K (.ref C) f = some none) : PySem.W.takerIn K C f = some none := by
  unfold PySem.W.takerIn
  rw [h]
  rfl
/-- self.f = y, the first store -/
theorem put_field (T : ExT X.K C fI f bmB newId) (SB : StoreFacts B bmB "object.__setattr__" "object") (I : Inv X pins σ H s) (e : H a = some (exo a C none)) (ry : RelV y u)
    (h : ∀ dx s', H dx = none → dx ≠ a → Inv X pins σ (upd (upd H dx (exd dx [(f, y)])) a (exo a C (some dx))) s' → Q () s') : wpAny (model X.prog X.w) A (setAttr (.ref a) f u) Q E s := by
  obtain ⟨cd, hcd, hh⟩ := PySem.W.any_some T.hd
  obtain ⟨t1, ho⟩ := exo_at I.hok e
  obtain ⟨hp, gs, dr, tk, os⟩ := s
  refine PySem.W.set_plain I.kIn (ox := HandSPX.excO C t1) (od := none) ⟨ho, rfl, rfl, trivial⟩ T.sa ?_
  refine PySem.Exm.storeFirst SB I.kIn ho T.over hcd hh (taker_none T.no) fun h' t' dx old far ne hx hn => ?_
  have free : H dx = none := I.hok.fresh far
  have notD : ∀ {b : Addr} {o : Obj}, hp.get? b = some o → b ≠ dx := fun {b o} q => Nat.ne_of_lt (Nat.lt_of_lt_of_le (Heap.lt_size q) far)
  have notA : ∀ {b : Addr}, H b = none → b ≠ a := fun {b} n z => by
    rw [z, e] at n
    exact absurd n (by simp)
  have un : Un X.fs [] H (upd (upd H dx (exd dx [(f, y)])) a (exo a C (some dx))) hp h' := {
    keep := fun b o q n _ _ => old b o (notA n) q
    slot := fun b o q n _ _ => ⟨_, old b o (notA n) q⟩
    free := fun b o q n _ => by
      rw [upd_ne (notA n), upd_ne (notD q)]
      exact n
    there := fun b o q _ => by
      by_cases hb : b = a
      · exact ⟨_, hb ▸ hx⟩
      · exact ⟨_, old b o hb q⟩
    tups := fun b xs q => by
      rw [upd_ne (at_ne e q exo_tup), upd_ne (ne_of_none q free)]
      exact q
    frzs := fun b o v q => by
      rw [upd_ne (at_ne e q exo_frz), upd_ne (ne_of_none q free)]
      exact q
    tbls := fun b ps q => ⟨#[], by
      rw [upd_ne (at_ne e q exo_tbl), upd_ne (ne_of_none q free), q]
      simp⟩ }
  refine h dx _ free ne (I.un (t' := t') un fun b o q => ?_)
  by_cases hb : b = a
  · subst hb
    rw [upd_same] at q
    cases q
    exact exo_ok hx
  · rw [upd_ne hb] at q
    by_cases hd : b = dx
    · subst hd
      rw [upd_same] at q
      cases q
      exact exd_ok hn (relO_put (fs := []) ry fun g => True.intro)
    · rw [upd_ne hd] at q
      refine (I.hok b o q).stay (fun c v hc z => old c v ?_ z) (fun c hc => ?_) fun c xs hc => ?_
      · rcases hc with rfl | hc
        · exact hb
        · exact at_ne e hc exo_own
      · rw [upd_ne (at_ne e hc exo_own), upd_ne (ne_of_none hc free)]
        exact hc
      · rw [upd_ne (at_ne e hc exo_tup), upd_ne (ne_of_none hc free)]
        exact hc
end
/-- the built-in classes behind an own one: the maker's class among them -/
structure Base3 (bm : List Value) (B : String) : Prop where
  b : bm.contains (.type B) = true
  a : bm.contains (.type "AttributeError") = false
  n : bm.contains (.type "NameError") = false
/-- self.f = e in an __init__ -/
def tPutE (C : Addr) (f : Str) (to te : TE) : TS := fun D σ H => te σ H fun y H1 => to σ H1 fun x H2 => ∃ a : Addr, x = .ref a ∧ H2 a = some (exo a C none) ∧
  ∀ dx, H2 dx = none → dx ≠ a → D.nx σ (upd (upd H2 dx (exd dx [(f, y)])) a (exo a C (some dx)))
section
variable {X : Cx} {o e : Expr} {es : List Expr} {to te : TE} {ta : TA} {f x : Str} {p p' p1 p2 pos : Pos} {C fI : Addr} {B newId initId : String} {bmB bmF : List Value}
theorem ps_putE (T : ExT X.K C fI f bmB newId) (SB : StoreFacts B bmB "object.__setattr__" "object") (ho : PE X o to) (he : PE X e te) (hs : swapsWith e (some (.Attribute o f p')) pos.line X.env = pure false := by rfl) :
    PS X (.Assign [.Attribute o f p'] e pos) (tPutE C f to te) := by
  refine ⟨fun pins s σ H D I h => ?_⟩
  refine plainObj_wpAny_Assign_Attribute (thn (he.run pins s σ H _ I h) fun v s1 ⟨y, H1, I1, r1, q1⟩ => thn (ho.run pins s1 σ H1 _ I1 q1) fun u s2 ⟨z, H2, I2, r2, a, ez, ea, q⟩ => ?_) hs
  subst ez
  cases (show u = Value.ref a from r2)
  exact put_field T SB I2 ea r1 fun dx s' n ne J => ⟨σ, _, J, q dx n ne⟩
/-- a call of the class: the new exception, its __init__ run -/
theorem run_ex {CX : CXT} {pins : List (Addr × Obj)} {σ : St} {H : Hp} {s : Shared} {Q : VK} {us : List Value} {v : V} {u : Value} {k : Nat} {fd : FuncData} {ps : List Str} {sp : Sp} {kw : List (Str × Value)}
    (T : ExT X.K C fI f bmB newId) (FB : ExcBaseFacts B newId initId bmF) (hB : Base3 bmB B) (F : FnOk X.prog X.w X.K X.mg X.base CX k fI fd ps sp) (hr : Room (k + 1) X.A) (hx : Passes CX X E0)
    (I : Inv X pins σ H s) (few : us.length ≤ 1000) (rv : RelV v u) (hb : ∀ (s : Shared) (a : Addr), X.K.In s.heap → BindsTo s fd ⟨.ref a :: us, kw⟩ (ps.zip [.ref a, u]))
    (h : ∀ a, H a = none → sp [.ref a, v] (upd H a (exo a C none)) (fun z H2 => z = .non ∧ Q (.ref a) H2) E0) :
    wpAny (model X.prog X.w) X.A (call (.ref C) us kw) (EP X pins σ Q) X.xe s := by
  obtain ⟨nm, N, qn, bs, bm, hdct, sn, sub, ab, col, dd, k0, k1, k2, k3, k5, hC, tl⟩ := PySem.W.excInit_of I.kIn T.ini
  obtain ⟨hp, gs, dr, tk, os⟩ := s
  have sz : hp.objs.size ≤ hp.objs.size + 1 := Nat.le_succ _
  have new : H (hp.objs.size + 1) = none := I.hok.fresh sz
  have hq := h _ new
  have up : ∀ b o, hp.get? b = some o → ((hp.push (PySem.W.kdv_tup us)).push (HandSPX.excO C hp.objs.size)).get? b = some o := fun b o e => Heap.get?_push_of_some _ (Heap.get?_push_of_some _ e)
  have at2 : ((hp.push (PySem.W.kdv_tup us)).push (HandSPX.excO C hp.objs.size)).get? (hp.objs.size + 1) = some (HandSPX.excO C hp.objs.size) := by heap_get
  have I2 : Inv X pins σ (upd H (hp.objs.size + 1) (exo (hp.objs.size + 1) C none)) ⟨(hp.push (PySem.W.kdv_tup us)).push (HandSPX.excO C hp.objs.size), gs, dr, tk, os⟩ :=
    I.laid (t' := tk) (a := hp.objs.size + 1) (o := exo (hp.objs.size + 1) C none) up sz (exo_ok at2)
  have r2 : Vals [V.ref (hp.objs.size + 1), v] [Value.ref (hp.objs.size + 1), u] := .cons rfl (.cons rv .nil)
  have fewS : us.length ≤ sizeLine := by
    rw [sizeLine_eq]
    omega
  refine wpAny_call (PySem.Exm.runCls FB ((tl B).trans hB.b) ((tl _).trans hB.a) ((tl _).trans hB.n) hC fewS (PySem.W.looks_findIn I.kIn T.init) (fun self => PySem.W.bind_fn I.kIn self T.fn)
    (codeAny_mono (F.run _ X.stack _ _ ⟨Value.ref (hp.objs.size + 1) :: us, kw⟩ _ _ _ E0 (hr.make C us kw) (I2.env0.make C us kw) (hb _ _ I2.kIn) r2 hq) fun r s' q => ?_))
  cases r with
  | error x => exact hx pins σ _ _ x s' I2 q
  | ok fl =>
    cases fl with
    | ret w =>
      obtain ⟨z, H', J, rz, ez, q3⟩ := I2.after q
      subst ez
      exact ⟨rz, ⟨V.ref (hp.objs.size + 1), H', J, rfl, q3⟩⟩
    | next => exact q.elim
    | brk => exact q.elim
    | cont => exact q.elim
end
end Exv

namespace Exv
open PySem L2
/-- C(v), C(f=v): what the new exception's __init__ is to bring -/
def tNewE (C : Addr) (sp : Sp) (ta : TA) : TE := fun σ H Q => ta σ H fun vs H1 => ∃ v, vs = [v] ∧ ∀ a, H1 a = none → sp [.ref a, v] (upd H1 a (exo a C none)) (fun z H2 => z = .non ∧ Q (.ref a) H2) E0
section
variable {X : Cx} {o e : Expr} {ta : TA} {f x : Str} {p pos kpos : Pos} {C fI : Addr} {B newId initId : String} {bmB bmF : List Value} {CX : CXT} {k : Nat} {fd : FuncData} {ps : List Str} {sp : Sp}
theorem pe_newE (T : ExT X.K C fI f bmB newId) (FB : ExcBaseFacts B newId initId bmF) (hB : Base3 bmB B) (F : FnOk X.prog X.w X.K X.mg X.base CX k fI fd ps sp) (hr : Room (k + 1) X.A) (hx : Passes CX X E0) (hg : Gl X x) (hm : X.mg x = some (.ref C))
    (hb : ∀ (s : Shared) (a : Addr) (u : Value), X.K.In s.heap → BindsTo s fd ⟨[.ref a, u], []⟩ (ps.zip [.ref a, u])) (ha : PA X [e] ta)
    (hdb : (x == ("__debug__" : Str)) = false := by decide) (hs : starEach [e] X.env = (false, eval e X.env) :: starEach [] X.env := by rfl) (hpl : (backTo pos (starEach [] X.env)).any (·.1) = false := by rfl) :
    PE X (.Call (.Name x p) [e] [] pos) (tNewE C sp ta) := by
  refine ⟨fun pins s σ H Q I h => ?_⟩
  refine wpAny_Call_Name_kw (ld_glob I hg hm ?_ hdb)
  refine PySem.W.callWith_K (h₀ := X.base) I.ok.mod.kin T.kp (thn (ha.run pos pins s σ H _ I h) fun us s1 ⟨vs, H1, I1, r, v, ev, q⟩ => ⟨I1.kIn, ?_⟩) hs hpl
  subst ev
  cases r with
  | cons rv rn =>
    cases rn
    exact run_ex T FB hB F hr hx I1 (by show 1 ≤ 1000; decide) rv (fun s a X' => hb s a _ X') q
theorem pe_newEK (T : ExT X.K C fI f bmB newId) (FB : ExcBaseFacts B newId initId bmF) (hB : Base3 bmB B) (F : FnOk X.prog X.w X.K X.mg X.base CX k fI fd ps sp) (hr : Room (k + 1) X.A) (hx : Passes CX X E0) (hg : Gl X x) (hm : X.mg x = some (.ref C))
    (hb : ∀ (s : Shared) (a : Addr) (u : Value), X.K.In s.heap → BindsTo s fd ⟨[.ref a], [(f, u)]⟩ (ps.zip [.ref a, u])) (hkw : PK X [⟨some f, e, kpos⟩] ta)
    (hall : (backToKw pos (keywordEach [⟨some f, e, kpos⟩] X.env)).all (·.1.isSome) = true := by rfl) (hks : (backToKw pos (keywordEach [⟨some f, e, kpos⟩] X.env)).filterMap (·.1) = [f] := by rfl) (hdb : (x == ("__debug__" : Str)) = false := by decide)
    (hpl : ((backTo pos (starEach [] X.env)).any (·.1) || (backToKw pos (keywordEach [⟨some f, e, kpos⟩] X.env)).any (·.1.isNone)) = false := by rfl) :
    PE X (.Call (.Name x p) [] [⟨some f, e, kpos⟩] pos) (tNewE C sp ta) := by
  refine ⟨fun pins s σ H Q I h => ?_⟩
  refine wpAny_Call_Name_kw (ld_glob I hg hm ?_ hdb)
  refine PySem.W.callWith_KW0 (h₀ := X.base) I.ok.mod.kin T.kp hall ?_ hpl
  refine thn (hkw.run pos pins s σ H _ I h) fun ws s2 ⟨zs, H2, I2, rz, v, ev, q⟩ => ⟨I2.kIn, ?_⟩
  rw [hks]
  subst ev
  cases rz with
  | cons rv rn =>
    cases rn
    exact run_ex (us := []) T FB hB F hr hx I2 (Nat.zero_le _) rv (fun s a X' => hb s a _ X') q
/-- C(), an own exception class without __init__ -/
theorem pe_new0 {bmC : List Value} (FB : ExcBaseFacts B newId initId bmB) (q : PySem.W.excIn X.K C bmB newId = true) (kp : PySem.W.keepIn X.K (.ref C) = true) (hg : Gl X x) (hm : X.mg x = some (.ref C)) (hdb : (x == ("__debug__" : Str)) = false := by decide) :
    PE X (.Call (.Name x p) [] [] pos) (fun _ H Q => ∀ a, H a = none → Q (.ref a) (upd H a (exo a C none))) := by
  refine ⟨fun pins s σ H Q I h => ?_⟩
  refine wpAny_Call_Name_kw (ld_glob I hg hm ?_ hdb)
  refine PySem.W.callWith_K0 I.kIn kp ?_
  obtain ⟨bm, N, nm, qn, bs, hdct, sn, sub, ab, col, dd, k0, k1, k2, k3, k5, mN, hC, hN, hni, T⟩ := exc_obj I.kIn q
  refine wpAny_call_exc_subT FB T hC hN hni (fun h' a hm => ?_) (Nat.zero_le _)
  have new : H a = none := I.hok.gone hm.new
  obtain ⟨t, ht, _, _⟩ := hm.there
  exact ⟨.ref a, upd H a (exo a C none), I.laidN hm.keeps hm.new new (exo_ok ht), rfl, h a new⟩
/-- what is asked of an own exception class whose instances are read, or asked about -/
structure IsT (K : PySem.W.Frag) (C : Addr) : Prop where
  hd : PySem.W.hasDictIn K C = true
  ga : PySem.W.findIn K (.ref C) "__getattribute__" = some (some (.builtin "BaseException.__getattribute__"))
  gg : PySem.W.findIn K (.ref C) "__getattr__" = some none
  ex : PySem.W.subIn K (.ref C) (.type "BaseException") = some true
  cl : PySem.W.findIn K (.ref C) "__class__" = some (some (.builtin "object.__class__"))
  sp : PySem.W.specialIn K (.builtin "object.__class__") "__get__" = some (some (.builtin "getset_descriptor.__get__"))
  tk : PySem.W.takesIn K (.builtin "object.__class__") = some true
  mr : PySem.W.mroIn K C (.type "object") = some true
/-- e.f, e an own exception that has the field -/
def tAtE (K : PySem.W.Frag) (f : Str) (te : TE) : TE := fun σ H Q => te σ H fun x H1 => ∃ (a C d : Addr) (fs : List (Str × V)) (v : V), x = .ref a ∧ IsT K C ∧ PySem.W.findIn K (.ref C) f = some none ∧
  H1 a = some (exo a C (some d)) ∧ H1 d = some (exd d fs) ∧ fs.lookup f = some v ∧ Q v H1
theorem pe_atE {te : TE} (he : PE X e te) (hb : attributeBase e f X.env (eval e X.env) = eval e X.env := by rfl) : PE X (.Attribute e f pos) (tAtE X.K f te) := by
  refine ⟨fun pins s σ H Q I h => ?_⟩
  refine attr_of hb (thn (he.run pins s σ H _ I h) fun u s1 ⟨z, H1, I1, r1, a, C, d, fs, v, ez, T, no, ea, ed, l, q⟩ => ?_)
  subst ez
  cases (show u = Value.ref a from r1)
  obtain ⟨t1, ha⟩ := exo_at I1.hok ea
  obtain ⟨mA, hns, rel⟩ := exd_at I1.hok ed
  obtain ⟨od, hod, hl⟩ := lookIn_ns hns
  obtain ⟨w, hw, rw'⟩ := RelO.some_of (v := v) (o := mA f) (by rw [← l]; exact rel f)
  have J : PySem.W.InstAt s1.heap a ({ cls := .ref C, dict := some d, data := .fields #[.ref t1, .none, .none, .none, .bool false, .none] } : Obj) C (some od) := ⟨ha, rfl, rfl, hod⟩
  exact HandSPX.exc_get I1.kIn J T.ga T.gg T.ex (PySem.W.findObj_own T.hd no rfl (by rw [hl, hw])) (handed_of rw') ⟨v, H1, I1.tok _, rw', q⟩
/-- isinstance(e, c) -/
def rIsX (K : PySem.W.Frag) : List V → Hp → VK → Prop := fun xs H Q => ∃ (a C : Addr) (c : V) (cv : Value) (b : Bool), xs = [.ref a, c] ∧ ClsV c cv ∧ IsT K C ∧ PySem.W.kitOne K (.ref C) cv = some b ∧
  (H a = some (exo a C none) ∨ ∃ d fs, H a = some (exo a C (some d)) ∧ H d = some (exd d fs)) ∧ Q (.bl b) H
theorem call_isX : CallR X (.builtin "isinstance") (rIsX X.K) := by
  intro pins s σ H xs us Q I r h
  obtain ⟨a, C, c, cv, b, rfl, k, T, e, ea, q⟩ := h
  obtain ⟨u1, u2, rfl, r1, r2⟩ := vals2 r
  cases (show u1 = Value.ref a from r1)
  have e2 := k.eq r2
  subst e2
  have hcl : (PySem.W.clsIn X.K C).isSome = true := by
    obtain ⟨cd, hcd, _⟩ := PySem.W.any_some T.hd
    rw [hcd]
    rfl
  rcases ea with ea | ⟨d, fs, ea, ed⟩
  · obtain ⟨t1, ha⟩ := exo_at I.hok ea
    have J : PySem.W.InstAt s.heap a (HandSPX.excO C t1) C none := ⟨ha, rfl, rfl, trivial⟩
    exact PySem.W.kia_one (PySem.W.kitx_exc hcl T.ga T.gg T.ex T.cl T.sp T.tk T.mr) I.kIn J e (fun z => nomatch z) fun tk => ⟨.bl b, H, I.tok tk, rfl, q⟩
  · obtain ⟨t1, ha⟩ := exo_at I.hok ea
    obtain ⟨mA, hns, rel⟩ := exd_at I.hok ed
    obtain ⟨od, hod, _⟩ := lookIn_ns hns
    have J : PySem.W.InstAt s.heap a ({ cls := .ref C, dict := some d, data := .fields #[.ref t1, .none, .none, .none, .bool false, .none] } : Obj) C (some od) := ⟨ha, rfl, rfl, hod⟩
    exact PySem.W.kia_one (PySem.W.kitx_exc hcl T.ga T.gg T.ex T.cl T.sp T.tk T.mr) I.kIn J e (fun z => nomatch z) fun tk => ⟨.bl b, H, I.tok tk, rfl, q⟩
end
end Exv

namespace Exv
open PySem L2
section
variable {X : Cx} {pins : List (Addr × Obj)} {σ : St} {H : Hp} {s : Shared}
/-- an exception's own dict, read as such -/
theorem Inv.asDict {d : Addr} {fs : List (Str × V)} (I : Inv X pins σ H s) (e : H d = some (exd d fs)) : Inv X pins σ (upd H d (.xd fs)) s := by
  have un : Un X.fs [] H (upd H d (.xd fs)) s.heap s.heap := {
    keep := fun b o q n _ _ => q
    slot := fun b o q n _ _ => ⟨_, q⟩
    free := fun b o q n _ => by
      rw [upd_ne (fun z => by rw [z, e] at n; cases n)]
      exact n
    there := fun b o q _ => ⟨_, q⟩
    tups := fun b xs q => by
      rw [upd_ne (at_ne e q exd_tup)]
      exact q
    frzs := fun b o v q => by
      rw [upd_ne (at_ne e q (fun z => by
        have z' : HO.ext _ = HO.frz o v := z
        cases z'))]
      exact q
    tbls := fun b ps q => ⟨#[], by
      rw [upd_ne (at_ne e q (fun z => by
        have z' : HO.ext _ = HO.tbl ps := z
        cases z')), q]
      simp⟩ }
  have J := I.un (t' := s.toks) un fun b o q => ?_
  · exact J
  · by_cases hb : b = d
    · subst hb
      rw [upd_same] at q
      cases q
      exact exd_at I.hok e
    · rw [upd_ne hb] at q
      refine (I.hok b o q).stay (fun c v _ z => z) (fun c hc => ?_) fun c xs hc => ?_
      · rw [upd_ne (at_ne e hc exd_own)]
        exact hc
      · rw [upd_ne (at_ne e hc exd_tup)]
        exact hc
end
/-- what is asked of a new own exception that is to be raised -/
def tMkE (K : PySem.W.Frag) (H0 : Hp) (te : TE) : St → Hp → XK → Prop := fun σ H Q => te σ H fun x H1 => ∃ (a C : Addr), x = .ref a ∧ Fr0 H0 a ∧ PySem.W.subIn K (.ref C) (.type "BaseException") = some true ∧ PySem.W.typeIn K (.ref C) = some (.type "type") ∧
  ((H1 a = some (exo a C none) ∧ Q (.ref C) none (delH H1 a)) ∨ ∃ d fs, d ≠ a ∧ H1 a = some (exo a C (some d)) ∧ H1 d = some (exd d fs) ∧ Q (.ref C) (some d) (upd (delH H1 a) d (.xd fs)))
/-- an expression that gives a new own exception makes an exception -/
theorem pmk_newE {X : Cx} {e : Expr} {te : TE} (hx : X.ex = []) (he : PE X e te) : PMk X e (tMkE X.K X.H_0 te) := by
  intro pins s σ H Q I h
  refine wpAny_mono (he.run pins s σ H _ I h) (fun u s1 hu => ?_) fun _ _ z => z
  obtain ⟨v, H1, I1, r1, a, C, rfl, h0, hr1, hr2, h1⟩ := hu
  cases (show u = Value.ref a from r1)
  have hr : Raises X (.ref C) := raises_own hr1 hr2
  rcases h1 with ⟨ea, q⟩ | ⟨d, fs, ne, ea, ed, q⟩
  · obtain ⟨t1, ha⟩ := exo_at I1.hok ea
    obtain ⟨G, gs, ga, J⟩ := Inv.untrack I1 ea h0 hx
    exact ⟨a, _, _, { s1 with heap := G }, delH H1 a, .ref C, none, rfl, J, gs, ga, ha, ⟨rfl, rfl⟩, rfl, rfl, delH_same, rfl, I1.bare, hr, q⟩
  · obtain ⟨t1, ha⟩ := exo_at I1.hok ea
    obtain ⟨G, gs, ga, J⟩ := Inv.untrack I1 ea h0 hx
    have ed' : delH H1 a d = some (exd d fs) := by rw [delH_ne ne]; exact ed
    have J2 := Inv.asDict J ed'
    exact ⟨a, _, _, { s1 with heap := G }, upd (delH H1 a) d (.xd fs), .ref C, some d, rfl, J2, gs, ga, ha, ⟨rfl, rfl⟩, rfl, rfl, by rw [upd_ne (Ne.symm ne), delH_same], rfl, I1.bare, hr, q⟩
end Exv

namespace Exv
open PySem
abbrev bmKey : List Value := [.type "KeyError", .type "LookupError", .type "Exception", .type "BaseException", .type "object"]
abbrev bmExc : List Value := [.type "Exception", .type "BaseException", .type "object"]
theorem base3E : Base3 bmExc "Exception" := ⟨by decide +kernel, by decide +kernel, by decide +kernel⟩
theorem base3K : Base3 bmKey "LookupError" := ⟨by decide +kernel, by decide +kernel, by decide +kernel⟩
theorem keyStore : StoreFacts "KeyError" bmKey "object.__setattr__" "object" where
  mro := by kernel_rfl
  slot := (.of (owner := "object") (n := "__setattr__") (by rw [typeLookup_type, builtinLookup_eq_fast]; kernel_rfl) (by decide +kernel) (by decide +kernel) (by decide +kernel) (by first | exact .inl (by decide +kernel) | exact .inr (by decide +kernel)) (by rw [isSubtype_type]; kernel_rfl))
  entry := PySem.F.entry_object_sa
  kind := by decide +kernel
  split := by decide +kernel
  hasOwner := by decide +kernel
  args := fun x y z => by { unfold argsOk; kernel_rfl }
  passes := fun x => by kernel_rfl
end Exv

/-! names and texts -/
namespace K1
open PySem L2 Xr
theorem smallM {n : Nat} (h : n ≤ 1000000) : n < sizeLine := Nat.lt_of_le_of_lt h (by decide)
def hasOnly (z g : Str) : Bool := z.cps.toList.all fun c => decide (c ∈ g.cps.toList)
abbrev abc : Str := Str.ofString "abcdefghijklmnopqrstuvwxyz"
abbrev abc9 : Str := Str.ofString "abcdefghijklmnopqrstuvwxyz0123456789 "
def nameD : PyData → Bool
  | .str z => decide (z.length ≠ 0) && (decide (z.length ≤ 8) && hasOnly z abc)
  | _ => false
def textD : PyData → Bool
  | .str z => decide (z.length ≤ 16) && hasOnly z abc9
  | _ => false
def spHas : Sp := fun vs H Q _ => ∃ (z g : Str), vs = [.str z, .str g] ∧ z.length ≤ 900000 ∧ ∀ H', Same H H' → Q (.bl (hasOnly z g)) H'
def spName (K : PySem.W.Frag) : Sp := fun vs H Q _ => ∃ (v : V) (d : PyData) (N : Addr → Prop), vs = [v] ∧ Dm K N H v d ∧ (∀ z, d = .str z → z.length ≤ 900000) ∧ ∀ H', Same H H' → Q (.bl (nameD d)) H'
def spText (K : PySem.W.Frag) : Sp := fun vs H Q _ => ∃ (v : V) (d : PyData) (N : Addr → Prop), vs = [v] ∧ Dm K N H v d ∧ (∀ z, d = .str z → z.length ≤ 900000) ∧ ∀ H', Same H H' → Q (.bl (textD d)) H'
structure WordTxt (K : PySem.W.Frag) (mg : Str → Option Value) (a_has_only : Addr) (t1 t2 t3 t4 : Tok) : Prop where
  n_isinstance : mg "isinstance" = none
  n_str : mg "str" = none
  n_len : mg "len" = none
  n_all : mg "all" = none
  g_NAME_MOST : mg "NAME_MOST" = some (.int 8 t1)
  g_TEXT_MOST : mg "TEXT_MOST" = some (.int 16 t2)
  g_NAME_SIGNS : mg "NAME_SIGNS" = some (.str abc t3)
  g_TEXT_SIGNS : mg "TEXT_SIGNS" = some (.str abc9 t4)
section
variable {P : Program} {w : World} {K : PySem.W.Frag} {mg : Str → Option Value} {base : Heap}
end
end K1

/-! a document that is still being made: lists of a name and a list of things, into which things are put -/
namespace K1
open PySem L2
inductive AT where
  | txt (z : Str)
  | nod (a k : Addr) (x : Str) (ts : List AT)
def AT.val : AT → V
  | .txt z => .str z
  | .nod a _ _ _ => .ref a
mutual
/-- the nodes' own lists -/
def AT.na : AT → List Addr
  | .txt _ => []
  | .nod a _ _ ts => a :: naAll ts
def naAll : List AT → List Addr
  | [] => []
  | t :: ts => t.na ++ naAll ts
end
mutual
/-- the lists of what stands in them -/
def AT.ka : AT → List Addr
  | .txt _ => []
  | .nod _ k _ ts => k :: kaAll ts
def kaAll : List AT → List Addr
  | [] => []
  | t :: ts => t.ka ++ kaAll ts
end
mutual
def AT.At (H : Hp) : AT → Prop
  | .txt _ => True
  | .nod a k x ts => H a = some (.lst [.str x, .ref k]) ∧ H k = some (.lst (ts.map AT.val)) ∧ atAll H ts
def atAll (H : Hp) : List AT → Prop
  | [] => True
  | t :: ts => t.At H ∧ atAll H ts
end
mutual
theorem AT.frame {H H' : Hp} : ∀ t : AT, (∀ q ∈ t.na, H' q = H q) → (∀ q ∈ t.ka, H' q = H q) → t.At H → t.At H'
  | .txt _, _, _, _ => trivial
  | .nod a k x ts, h1, h2, h => by
    obtain ⟨e1, e2, e3⟩ := h
    have m1 : ∀ q ∈ a :: naAll ts, H' q = H q := h1
    have m2 : ∀ q ∈ k :: kaAll ts, H' q = H q := h2
    refine ⟨by rw [m1 a (by simp)]; exact e1, by rw [m2 k (by simp)]; exact e2, ?_⟩
    exact atAll_frame ts (fun q hq => m1 q (by simp [hq])) (fun q hq => m2 q (by simp [hq])) e3
theorem atAll_frame {H H' : Hp} : ∀ ts : List AT, (∀ q ∈ naAll ts, H' q = H q) → (∀ q ∈ kaAll ts, H' q = H q) → atAll H ts → atAll H' ts
  | [], _, _, _ => trivial
  | t :: ts, h1, h2, h => by
    have m1 : ∀ q ∈ t.na ++ naAll ts, H' q = H q := h1
    have m2 : ∀ q ∈ t.ka ++ kaAll ts, H' q = H q := h2
    exact ⟨AT.frame t (fun q hq => m1 q (by simp [hq])) (fun q hq => m2 q (by simp [hq])) h.1, atAll_frame ts (fun q hq => m1 q (by simp [hq])) (fun q hq => m2 q (by simp [hq])) h.2⟩
end
mutual
/-- n put into the list k0, ahead of its i-th thing -/
def putT (k0 : Addr) (i : Nat) (n : AT) : AT → AT
  | .txt z => .txt z
  | .nod a k x ts => if k = k0 then .nod a k x (ts.take i ++ n :: ts.drop i) else .nod a k x (putAll k0 i n ts)
def putAll (k0 : Addr) (i : Nat) (n : AT) : List AT → List AT
  | [] => []
  | t :: ts => putT k0 i n t :: putAll k0 i n ts
end
theorem put_val {k0 : Addr} {i : Nat} {n : AT} : ∀ t : AT, (putT k0 i n t).val = t.val
  | .txt _ => rfl
  | .nod a k x ts => by
    unfold putT
    split <;> rfl
theorem putAll_vals {k0 : Addr} {i : Nat} {n : AT} : ∀ ts : List AT, (putAll k0 i n ts).map AT.val = ts.map AT.val
  | [] => rfl
  | t :: ts => by
    show (putT k0 i n t).val :: (putAll k0 i n ts).map AT.val = t.val :: ts.map AT.val
    rw [put_val, putAll_vals ts]
mutual
/-- where the list isn't, nothing changes -/
theorem put_out {k0 : Addr} {i : Nat} {n : AT} : ∀ t : AT, k0 ∉ t.ka → putT k0 i n t = t
  | .txt _, _ => rfl
  | .nod a k x ts, h => by
    have h' : k0 ∉ k :: kaAll ts := h
    unfold putT
    rw [if_neg (fun e => h' (by rw [e]; simp)), putAll_out ts (fun z => h' (by simp [z]))]
theorem putAll_out {k0 : Addr} {i : Nat} {n : AT} : ∀ ts : List AT, k0 ∉ kaAll ts → putAll k0 i n ts = ts
  | [], _ => rfl
  | t :: ts, h => by
    have h' : k0 ∉ t.ka ++ kaAll ts := h
    show putT k0 i n t :: putAll k0 i n ts = t :: ts
    rw [put_out t (fun z => h' (by simp [z])), putAll_out ts (fun z => h' (by simp [z]))]
end
theorem naAll_app : ∀ ts us : List AT, naAll (ts ++ us) = naAll ts ++ naAll us
  | [], _ => rfl
  | t :: ts, us => by
    show t.na ++ naAll (ts ++ us) = (t.na ++ naAll ts) ++ naAll us
    rw [naAll_app ts us, List.append_assoc]
theorem kaAll_app : ∀ ts us : List AT, kaAll (ts ++ us) = kaAll ts ++ kaAll us
  | [], _ => rfl
  | t :: ts, us => by
    show t.ka ++ kaAll (ts ++ us) = (t.ka ++ kaAll ts) ++ kaAll us
    rw [kaAll_app ts us, List.append_assoc]
theorem atAll_app {H : Hp} : ∀ ts us : List AT, atAll H (ts ++ us) ↔ atAll H ts ∧ atAll H us
  | [], us => ⟨fun h => ⟨trivial, h⟩, fun h => h.2⟩
  | t :: ts, us => ⟨fun h => ⟨⟨h.1, ((atAll_app ts us).mp h.2).1⟩, ((atAll_app ts us).mp h.2).2⟩, fun h => ⟨h.1.1, (atAll_app ts us).mpr ⟨h.1.2, h.2⟩⟩⟩
mutual
/-- the store of a list with one thing more makes the document with that thing put in -/
theorem put_at {H : Hp} {k0 : Addr} {i : Nat} {n : AT} {vs : List V} (hk : H k0 = some (.lst vs)) (hn : n.At H) (n1 : k0 ∉ n.na) (n2 : k0 ∉ n.ka) : ∀ t : AT, t.At H → k0 ∉ t.na → t.ka.Nodup →
    (putT k0 i n t).At (upd H k0 (.lst (vs.take i ++ n.val :: vs.drop i)))
  | .txt _, _, _, _ => trivial
  | .nod a k x ts, h, hna, nd => by
    obtain ⟨e1, e2, e3⟩ := h
    have hna' : k0 ∉ a :: naAll ts := hna
    have nd' : (k :: kaAll ts).Nodup := nd
    have ka0 : k ∉ kaAll ts := (List.nodup_cons.mp nd').1
    have nd2 : (kaAll ts).Nodup := (List.nodup_cons.mp nd').2
    have ane : a ≠ k0 := fun e => hna' (by rw [e]; simp)
    unfold putT
    by_cases hkk : k = k0
    · subst hkk
      rw [if_pos rfl]
      rw [hk] at e2
      have ev : vs = ts.map AT.val := by
        have z := Option.some.inj e2
        injection z
      refine ⟨by rw [upd_ne ane]; exact e1, ?_, ?_⟩
      · rw [upd_same, ev]
        simp
      · have fr : ∀ us : List AT, (∀ q ∈ naAll us, q ≠ k) → (∀ q ∈ kaAll us, q ≠ k) → atAll H us → atAll (upd H k (.lst (vs.take i ++ n.val :: vs.drop i))) us := fun us u1 u2 u => atAll_frame us (fun q hq => upd_ne (u1 q hq)) (fun q hq => upd_ne (u2 q hq)) u
        have all := fr ts (fun q hq e => hna' (by rw [← e]; simp [hq])) (fun q hq e => ka0 (by rw [← e]; exact hq)) e3
        have sp : ts = ts.take i ++ ts.drop i := (List.take_append_drop i ts).symm
        rw [sp] at all
        obtain ⟨a1, a2⟩ := (atAll_app _ _).mp all
        refine (atAll_app _ _).mpr ⟨a1, ?_, a2⟩
        exact AT.frame n (fun q hq => upd_ne (fun e => n1 (by rw [← e]; exact hq))) (fun q hq => upd_ne (fun e => n2 (by rw [← e]; exact hq))) hn
    · rw [if_neg hkk]
      refine ⟨by rw [upd_ne ane]; exact e1, ?_, putAll_at hk hn n1 n2 ts e3 (fun z => hna' (by simp [z])) nd2⟩
      rw [upd_ne hkk, putAll_vals]
      exact e2
theorem putAll_at {H : Hp} {k0 : Addr} {i : Nat} {n : AT} {vs : List V} (hk : H k0 = some (.lst vs)) (hn : n.At H) (n1 : k0 ∉ n.na) (n2 : k0 ∉ n.ka) : ∀ ts : List AT, atAll H ts → k0 ∉ naAll ts → (kaAll ts).Nodup →
    atAll (upd H k0 (.lst (vs.take i ++ n.val :: vs.drop i))) (putAll k0 i n ts)
  | [], _, _, _ => trivial
  | t :: ts, h, hna, nd => by
    have hna' : k0 ∉ t.na ++ naAll ts := hna
    have nd' : (t.ka ++ kaAll ts).Nodup := nd
    obtain ⟨d1, d2, _⟩ := List.nodup_append.mp nd'
    exact ⟨put_at hk hn n1 n2 t h.1 (fun z => hna' (by simp [z])) d1, putAll_at hk hn n1 n2 ts h.2 (fun z => hna' (by simp [z])) d2⟩
end
mutual
/-- how many things -/
def AT.cnt : AT → Nat
  | .txt _ => 1
  | .nod _ _ _ ts => 1 + cntAll ts
def cntAll : List AT → Nat
  | [] => 0
  | t :: ts => t.cnt + cntAll ts
end
theorem cntAll_app : ∀ ts us : List AT, cntAll (ts ++ us) = cntAll ts + cntAll us
  | [], us => by show cntAll us = 0 + cntAll us; omega
  | t :: ts, us => by
    show t.cnt + cntAll (ts ++ us) = t.cnt + cntAll ts + cntAll us
    rw [cntAll_app ts us]
    omega
mutual
theorem put_cnt {k0 : Addr} {i : Nat} {n : AT} : ∀ t : AT, t.ka.Nodup → (putT k0 i n t).cnt ≤ t.cnt + n.cnt
  | .txt _, _ => by
    show 1 ≤ 1 + n.cnt
    omega
  | .nod a k x ts, nd => by
    have nd' : (k :: kaAll ts).Nodup := nd
    unfold putT
    by_cases hkk : k = k0
    · rw [if_pos hkk]
      show 1 + cntAll (ts.take i ++ n :: ts.drop i) ≤ 1 + cntAll ts + n.cnt
      have e : cntAll ts = cntAll (ts.take i) + cntAll (ts.drop i) := by rw [← cntAll_app, List.take_append_drop]
      rw [cntAll_app, e]
      show 1 + (cntAll (ts.take i) + (n.cnt + cntAll (ts.drop i))) ≤ _
      omega
    · rw [if_neg hkk]
      have := putAll_cnt (k0 := k0) (i := i) (n := n) ts (List.nodup_cons.mp nd').2
      show 1 + cntAll (putAll k0 i n ts) ≤ 1 + cntAll ts + n.cnt
      omega
theorem putAll_cnt {k0 : Addr} {i : Nat} {n : AT} : ∀ ts : List AT, (kaAll ts).Nodup → cntAll (putAll k0 i n ts) ≤ cntAll ts + n.cnt
  | [], _ => Nat.zero_le _
  | t :: ts, nd => by
    have nd' : (t.ka ++ kaAll ts).Nodup := nd
    obtain ⟨d1, d2, d3⟩ := List.nodup_append.mp nd'
    show (putT k0 i n t).cnt + cntAll (putAll k0 i n ts) ≤ t.cnt + cntAll ts + n.cnt
    by_cases hk : k0 ∈ t.ka
    · have out : k0 ∉ kaAll ts := fun z => d3 k0 hk k0 z rfl
      rw [putAll_out ts out]
      have := put_cnt (k0 := k0) (i := i) (n := n) t d1
      omega
    · rw [put_out t hk]
      have := putAll_cnt (k0 := k0) (i := i) (n := n) ts d2
      omega
end
end K1

/-! frozen: lists made tuples -/
namespace K1
open PySem L2 Xr
abbrev sFrozen : Stmt := top 32
theorem scFrozen : FnScope ["thing", "part"] ["thing"] (defScope sFrozen) := ⟨rfl, rfl, rfl, by decide +kernel, rfl, by decide +kernel, by decide +kernel⟩
theorem take_snoc {α : Type} {l : List α} {i : Nat} {x : α} (h : l[i]? = some x) : l.take (i + 1) = l.take i ++ [x] := by
  induction l generalizing i with
  | nil => simp at h
  | cons a l ih =>
    cases i with
    | zero =>
      have e : a = x := Option.some.inj h
      subst e
      rfl
    | succ i =>
      show a :: l.take (i + 1) = a :: l.take i ++ [x]
      rw [ih h]
      rfl
theorem not_new {N : Addr → Prop} {H H1 : Hp} {p : Addr} (hN : ∀ a, N a → Trk H a) (s : Same H H1) (hp : H1 p = none) : ¬ N p := fun n => by
  obtain ⟨_, z⟩ := (hN p n).same s
  rw [hp] at z
  cases z
mutual
def AT.doc : AT → Doc
  | .txt z => .txt z
  | .nod _ _ x ts => .nod x (docAll ts)
def docAll : List AT → List Doc
  | [] => []
  | t :: ts => t.doc :: docAll ts
end
theorem docAll_map : ∀ ts : List AT, docAll ts = ts.map AT.doc
  | [] => rfl
  | t :: ts => by
    show t.doc :: docAll ts = t.doc :: ts.map AT.doc
    rw [docAll_map ts]
theorem datAll_snoc (ts : List Doc) (t : Doc) : datAll (ts ++ [t]) = datAll ts ++ [t.dat] := by
  rw [datAll_map, datAll_map, List.map_append]
  rfl
mutual
/-- how many nodes -/
def AT.nds : AT → Nat
  | .txt _ => 0
  | .nod _ _ _ ts => 1 + ndsAll ts
def ndsAll : List AT → Nat
  | [] => 0
  | t :: ts => t.nds + ndsAll ts
end
theorem nds_part : ∀ (ts : List AT) (t : AT), t ∈ ts → t.nds ≤ ndsAll ts
  | u :: ts, t, h => by
    show t.nds ≤ u.nds + ndsAll ts
    rcases List.mem_cons.mp h with h | h
    · rw [h]
      omega
    · have := nds_part ts t h
      omega
theorem cnt_len : ∀ ts : List AT, ts.length ≤ cntAll ts
  | [] => Nat.le_refl _
  | t :: ts => by
    have := cnt_len ts
    have p : 1 ≤ t.cnt := by
      cases t with
      | txt z => exact Nat.le_refl _
      | nod a k x ts =>
        show 1 ≤ 1 + cntAll ts
        omega
    show ts.length + 1 ≤ t.cnt + cntAll ts
    omega
theorem cnt_part : ∀ (ts : List AT) (t : AT), t ∈ ts → t.cnt ≤ cntAll ts
  | u :: ts, t, h => by
    show t.cnt ≤ u.cnt + cntAll ts
    rcases List.mem_cons.mp h with h | h
    · rw [h]
      omega
    · have := cnt_part ts t h
      omega
theorem at_part {H : Hp} : ∀ (ts : List AT) (t : AT), t ∈ ts → atAll H ts → t.At H
  | u :: ts, t, h, a => by
    rcases List.mem_cons.mp h with h | h
    · rw [h]
      exact a.1
    · exact at_part ts t h a.2
mutual
theorem AT.same {H H' : Hp} (s : Same H H') : ∀ t : AT, t.At H → t.At H'
  | .txt _, _ => trivial
  | .nod a k x ts, h => ⟨s _ _ h.1, s _ _ h.2.1, atAll_same s ts h.2.2⟩
theorem atAll_same {H H' : Hp} (s : Same H H') : ∀ ts : List AT, atAll H ts → atAll H' ts
  | [], _ => trivial
  | t :: ts, h => ⟨AT.same s t h.1, atAll_same s ts h.2⟩
end
def spFrozen (K : PySem.W.Frag) (n : Nat) : Sp := fun vs H Q _ => ∃ (t : AT) (N : Addr → Prop), vs = [t.val] ∧ (∀ a, N a → Trk H a) ∧ t.At H ∧ t.nds ≤ n ∧ t.cnt ≤ 900 ∧ ∀ (u : V) (H' : Hp), Dm K N H' u t.doc.dat → Same H H' → Q u H'
structure FrozenTxt (K : PySem.W.Frag) (mg : Str → Option Value) (a_law_frozen : Addr) : Prop where
  n_isinstance : mg "isinstance" = none
  n_str : mg "str" = none
  n_tuple : mg "tuple" = none
  g_law_frozen : mg "_law_frozen" = some (.ref a_law_frozen)
  k_law_frozen : PySem.W.keepIn K (.ref a_law_frozen) = true
section
variable {P : Program} {w : World} {K : PySem.W.Frag} {mg : Str → Option Value} {base : Heap} {a_law_frozen : Addr}
theorem ok_frozen {fd : FuncData} (F : Fun K "_law_frozen" "_law_frozen" sFrozen a_law_frozen fd) (T : FrozenTxt K mg a_law_frozen) (b_law_frozen : Binds K fd ["thing"] []) : ∀ n : Nat, FnOk P w K mg base CX0 (1 + n) a_law_frozen fd ["thing"] (spFrozen K n) := by
  intro n
  induction n with
  | zero =>
    refine F.ok scFrozen (fun vs H Q E h => ?_) (fun cdv A outer s H vs Q E hr h => ?_)
    · obtain ⟨t, N, rfl, _⟩ := h
      rfl
    · obtain ⟨t, N, rfl, hN, ht, hn, hc, k⟩ := h
      refine ⟨_, pss_cons (ps_if (pt_val (pe_callB call_isi (by rfl) T.n_isinstance (by decide +kernel) (pa_cons (pv 0) (pa_cons (pe_bltn (v := V.ty "str") (u := .type "str") (by rfl) T.n_str (by decide +kernel) (by rfl)) pa_nil))))
        (pss_one (ps_ret (pv 0))) pss_nil) pss_never, ?_⟩
      cases t with
      | nod a k0 x ts =>
        have z : 1 + ndsAll ts ≤ 0 := hn
        omega
      | txt z => exact ⟨_, rfl, _, _, _, _, true, rfl, .ty "str", .base (.str z), kit_ty (by decide +kernel), _, rfl, iteT ⟨_, rfl, k _ _ (.str z) (Same.refl H)⟩⟩
  | succ n G_law_frozen =>
    refine F.ok scFrozen (fun vs H Q E h => ?_) (fun cdv A outer s H vs Q E hr h => ?_)
    · obtain ⟨t, N, rfl, _⟩ := h
      rfl
    · obtain ⟨t, N, rfl, hN, ht, hn, hc, k⟩ := h
      refine ⟨_, (pss_cons (ps_if (pt_val (pe_callB call_isi (by rfl) T.n_isinstance (by decide +kernel) (pa_cons (pv 0) (pa_cons (pe_bltn (v := V.ty "str") (u := .type "str") (by rfl) T.n_str (by decide +kernel) (by rfl)) pa_nil))))
      (pss_one (ps_ret (pv 0)))
      pss_nil)
      (pss_one (ps_ret (pe_tup (pa_cons (pe_ix ix_list (pv 0) pe_int (fun _ _ => rfl)) (pa_cons (pe_callTy call_tuple_of (by rfl) T.n_tuple (by decide +kernel) (pa_cons (pe_lc (own := [("part", 1)]) (g := gName 1) (tt := tYes) (by rfl) scFrozen.nd (pi_list (pe_ix ix_list (pv 0) pe_int (fun _ _ => rfl))) (blkOk_by (own := [("part", 1)]) (N := ["thing", "part"]) (sc := defScope sFrozen) (by decide +kernel)) (fun _ _ _ _ _ => pg_name (i := 1) scFrozen.nd rfl (Or.inl rfl)) (fun _ _ _ _ _ => pts_nil) (fun _ _ _ _ _ => (pe_call G_law_frozen hr rfl T.g_law_frozen T.k_law_frozen b_law_frozen .nil pass0 (pa_cons (pv 1) pa_nil)))) pa_nil)) pa_nil)))))), ?_⟩
      cases t with
      | txt z => exact ⟨_, rfl, _, _, _, _, true, rfl, .ty "str", .base (.str z), kit_ty (by decide +kernel), _, rfl, iteT ⟨_, rfl, k _ _ (.str z) (Same.refl H)⟩⟩
      | nod a k0 x ts =>
        obtain ⟨h1, h2, h3⟩ := ht
        have hn' : 1 + ndsAll ts ≤ n + 1 := hn
        have hc' : 1 + cntAll ts ≤ 900 := hc
        have lt := cnt_len ts
        refine ⟨_, rfl, _, _, _, _, false, rfl, .ty "str", .base (.lst h1), kit_ty (by decide +kernel), _, rfl, iteF ?_⟩
        refine ⟨_, rfl, _, _, _, _, rfl, rfl, SqL.of h1, atI_nat (j := 0) rfl, _, rfl, _, _, _, _, rfl, rfl, SqL.of h1, atI_nat (j := 1) rfl, k0, rfl, ⟨_, SqL.of h2⟩, fun D hD => ?_⟩
        have D0 : Same H (upd H D (.lst [])) := (Same.refl H).new hD
        refine lc_list (K := K) (a := k0) (xs := ts.map AT.val) (fun i H1 => ∃ vs : List V, Same H H1 ∧ H1 D = some (.lst vs) ∧ DmAll K (fun a => N a ∨ a = D) H1 vs (datAll (docAll (ts.take i)))) ⟨[], D0, upd_same, by rw [List.take_zero]; exact .nil⟩ (fun i H1 _ ⟨_, s1, _⟩ => SqL.of (s1 _ _ h2)) ?_ ?_
        · rintro i y H1 hy ⟨vs, s1, d1, d2⟩
          rw [List.getElem?_map] at hy
          cases et : ts[i]? with
          | none =>
            rw [et] at hy
            cases hy
          | some t =>
            rw [et] at hy
            have ey := Option.some.inj hy
            subst ey
            have mem : t ∈ ts := List.mem_of_getElem? et
            have il : i < ts.length := (List.getElem?_eq_some_iff.mp et).1
            have p1 := nds_part ts t mem
            have p2 := cnt_part ts t mem
            refine ⟨rfl, _, rfl, t, (fun a => N a ∨ a = D), rfl, ?_, AT.same s1 t (at_part ts t mem h3), by omega, by omega, fun u H2 du s2 => ?_⟩
            · rintro q (z | z)
              · exact (hN q z).same s1
              · rw [z]
                exact ⟨_, d1⟩
            · have l2 := d2.len
              rw [datAll_length, docAll_map, List.length_map, List.length_take] at l2
              have bD : Bt (fun a => N a ∨ a = D) H2 (upd H2 D (.lst (vs ++ [u]))) := Bt.refl.cell (.inr rfl)
              refine ⟨vs, s2 _ _ d1, small1000 (by omega), vs ++ [u], (s1.trans s2).cell hD, upd_same, ?_⟩
              have e9 : docAll (ts.take (i + 1)) = docAll (ts.take i) ++ [t.doc] := by rw [docAll_map, docAll_map, take_snoc et, List.map_append]; rfl
              rw [e9, datAll_snoc]
              exact ((d2.up (Bt.same s2)).up bD).snoc (du.up bD)
        · rintro H1 ⟨vs, s1, d1, d2⟩
          rw [List.length_map, List.take_length] at d2
          refine ⟨D, vs, rfl, .inl ⟨SqL.of d1, fun p hp => ⟨(by show 2 ≤ sizeLine; decide), fun p2 hp2 => ?_⟩⟩⟩
          have pp : p ≠ p2 := ne_of_none upd_same hp2
          have s2 := s1.new (o := .tup vs) hp
          refine k _ _ ?_ (s2.new hp2)
          show Dm K N _ _ (.tuple [.str x, .tuple (datAll (docAll ts))])
          refine .tup upd_same (not_new hN s2 hp2) (.cons (.str x) (.cons (.tup (xs := vs) (by rw [upd_ne pp, upd_same]) (not_new hN s1 hp) ?_) .nil))
          exact DmAll.mono (fun a _ z => .inl z) ((Bt.refl.new hp).new hp2) _ _ d2
end
end K1

/-! drawn texts -/
namespace K1
open PySem L2 Xr
abbrev sLText : Stmt := top 31
theorem scLText : FnScope ["deal", "many", "turn"] ["deal"] (defScope sLText) := ⟨rfl, rfl, rfl, by decide +kernel, rfl, by decide +kernel, by decide +kernel⟩
theorem DealAt.upd {H : Hp} {d c l : Addr} {o : HO} (h : DealAt H d c) (n1 : l ≠ d) (n2 : l ≠ c) : DealAt (upd H l o) d c := by
  obtain ⟨cs, b, h1, h2, r⟩ := h.ex
  exact ⟨cs, b, by rw [upd_ne (Ne.symm n1)]; exact h1, by rw [upd_ne (Ne.symm n2)]; exact h2, r⟩
theorem DealAt.trk {H : Hp} {d c : Addr} (h : DealAt H d c) : Trk H d ∧ Trk H c := by
  obtain ⟨cs, b, h1, h2, r⟩ := h.ex
  exact ⟨⟨_, h1⟩, ⟨_, h2⟩⟩
theorem DealAt.ne {H : Hp} {d c l : Addr} (D : DealAt H d c) (hl : H l = none) : l ≠ d ∧ l ≠ c := by
  obtain ⟨⟨_, z1⟩, ⟨_, z2⟩⟩ := D.trk
  refine ⟨fun e => ?_, fun e => ?_⟩
  · rw [e, z1] at hl
    cases hl
  · rw [e, z2] at hl
    cases hl
theorem DealAt.new {H : Hp} {d c l : Addr} {o : HO} (h : DealAt H d c) (hl : H l = none) : DealAt (L2.upd H l o) d c := h.upd (h.ne hl).1 (h.ne hl).2
theorem But.cell0 {d c l : Addr} {H H1 : Hp} {o : HO} (b : But d c H H1) (hl : H l = none) : But d c H (upd H1 l o) := fun q u e n m => by
  have z := b q u e n m
  rw [upd_ne (ne_of_none e hl)]
  exact z
theorem But.none {d c l : Addr} {H H' : Hp} (b : But d c H H') (hl : H' l = none) (D : DealAt H' d c) : H l = none := by
  cases e : H l with
  | none => rfl
  | some o =>
    obtain ⟨n1, n2⟩ := D.ne hl
    rw [b l o e n1 n2] at hl
    cases hl
/-- a text of signs out of some -/
structure From (S : List Nat) (n : Nat) (z : Str) : Prop where
  len : z.length = n
  sub : ∀ ch ∈ z.cps.toList, ch ∈ S
theorem cps_app (a b : Str) : (a ++ b).cps.toList = a.cps.toList ++ b.cps.toList := by
  show (a.cps ++ b.cps).toList = _
  simp
theorem join_from {S : List Nat} : ∀ (ys : List Str), (∀ y ∈ ys, From S 1 y) → From S ys.length (Str.join (Str.ofString "") ys)
  | [], _ => ⟨rfl, fun ch h => by simp [Str.join, Str.empty] at h⟩
  | [y], h => h y (by simp)
  | y :: y2 :: r, h => by
    have ih := join_from (y2 :: r) fun x hx => h x (List.mem_cons_of_mem _ hx)
    have hy := h y (by simp)
    have e : Str.join (Str.ofString "") (y :: y2 :: r) = y ++ Str.ofString "" ++ Str.join (Str.ofString "") (y2 :: r) := rfl
    have l0 : (Str.ofString "").length = 0 := by decide
    have t0 : (Str.ofString "").cps.toList = [] := by decide +kernel
    rw [e]
    refine ⟨?_, fun ch hc => ?_⟩
    · rw [strLen_append, strLen_append, l0]
      have h1 := ih.len
      have h2 := hy.len
      simp only [List.length_cons] at h1 ⊢
      omega
    · rw [cps_app, cps_app, t0, List.append_nil] at hc
      rcases List.mem_append.mp hc with hc | hc
      · exact hy.sub ch hc
      · exact ih.sub ch hc
theorem From.has {g z : Str} {n : Nat} (h : From g.cps.toList n z) : hasOnly z g = true := by
  unfold hasOnly
  rw [List.all_eq_true]
  intro c hc
  exact decide_eq_true (h.sub c hc)
def spLText : Sp := fun vs H Q _ => ∃ (d c : Addr), vs = [.ref d] ∧ DealAt H d c ∧ ∀ (z : Str) (H' : Hp), textD (.str z) = true → DealAt H' d c → But d c H H' → Q (.str z) H'
structure LTextTxt (K : PySem.W.Frag) (mg : Str → Option Value) (a_law_any a_law_of : Addr) : Prop where
  n_range : mg "range" = none
  g_law_of : mg "_law_of" = some (.ref a_law_of)
  k_law_of : PySem.W.keepIn K (.ref a_law_of) = true
  g_law_any : mg "_law_any" = some (.ref a_law_any)
  k_law_any : PySem.W.keepIn K (.ref a_law_any) = true
section
variable {P : Program} {w : World} {K : PySem.W.Frag} {mg : Str → Option Value} {base : Heap} {a_law_any a_law_of : Addr} {fdA fdO : FuncData}
theorem ok_ltext {f : Addr} {fd : FuncData} (F : Fun K "_law_text" "_law_text" sLText f fd) (T : LTextTxt K mg a_law_any a_law_of)
    (G_law_any : FnOk P w K mg base CX0 1 a_law_any fdA ["deal", "bound"] spAny) (b_law_any : Binds K fdA ["deal", "bound"] [])
    (G_law_of : FnOk P w K mg base CX0 2 a_law_of fdO ["deal", "some"] spOf) (b_law_of : Binds K fdO ["deal", "some"] []) : FnOk P w K mg base CX0 3 f fd ["deal"] spLText := by
  refine F.ok scLText (fun vs H Q E h => ?_) (fun cdv A outer s H vs Q E hr h => ?_)
  · obtain ⟨d, c, rfl, _⟩ := h
    rfl
  · obtain ⟨d, c, rfl, D, k⟩ := h
    have hr1 : Room 1 _ := hr.mono (by decide)
    have hr2 : Room 2 _ := hr
    refine ⟨_, (pss_cons (ps_set (i := 1) scLText.nd rfl (Or.inl rfl) (pe_call G_law_of hr2 rfl T.g_law_of T.k_law_of b_law_of .nil pass0 (pa_cons (pv 0) (pa_cons (pe_lst (pa_cons pe_int (pa_cons pe_int (pa_cons pe_int (pa_cons pe_int (pa_cons (pe_call G_law_any hr1 rfl T.g_law_any T.k_law_any b_law_any .nil pass0 (pa_cons (pv 0) (pa_cons pe_int pa_nil))) pa_nil)))))) pa_nil))))
      (pss_one (ps_ret (pe_join pe_str (pe_lc (own := [("turn", 2)]) (g := gName 2) (tt := tYes) (by rfl) scLText.nd (pi_range1 (by rfl) T.n_range (pa_cons (pv 1) pa_nil)) (blkOk_by (own := [("turn", 2)]) (N := ["deal", "many", "turn"]) (sc := defScope sLText) (by decide +kernel)) (fun _ _ _ _ _ => pg_name (i := 2) scLText.nd rfl (Or.inl rfl)) (fun _ _ _ _ _ => pts_nil) (fun _ _ _ _ _ => (pe_call G_law_of hr2 rfl T.g_law_of T.k_law_of b_law_of .nil pass0 (pa_cons (pv 0) (pa_cons pe_str pa_nil))))))))), ?_⟩
    refine ⟨_, rfl, _, rfl, d, c, 17, rfl, D, by decide, by decide, fun r H1 r0 r1 D1 b1 => ⟨(by show 5 ≤ sizeLine; decide), fun l hl => ?_⟩⟩
    obtain ⟨ld, lc⟩ := D1.ne hl
    refine ⟨d, c, D1.new hl, .inl ⟨l, _, rfl, upd_same, ld, lc, (by show 0 < 5; decide), (by show 5 < 1000000; decide), fun v H2 hv D2 b2 => ?_⟩⟩
    have B2 : But d c H H2 := fun q o e n m => by
      have z := b1 q o e n m
      exact b2 q o (by rw [upd_ne (ne_of_none z hl)]; exact z) n m
    obtain ⟨z, rfl, z0⟩ : ∃ z : Nat, v = .int (z : Int) ∧ z ≤ 16 := by
      simp only [List.mem_cons, List.not_mem_nil, or_false] at hv
      rcases hv with rfl | rfl | rfl | rfl | rfl
      · exact ⟨0, rfl, by decide⟩
      · exact ⟨1, rfl, by decide⟩
      · exact ⟨1, rfl, by decide⟩
      · exact ⟨2, rfl, by decide⟩
      · obtain ⟨j, rfl⟩ := Int.eq_ofNat_of_zero_le r0
        exact ⟨j, rfl, by omega⟩
    refine ⟨⟨_, rfl⟩, _, rfl, _, rfl, by omega, by omega, fun L hL => ?_⟩
    obtain ⟨Ld, Lc⟩ := D2.ne hL
    have HL : H L = none := B2.none hL D2
    refine lc_range (lo := 0) (n := ((z : Int) - 0).toNat) (fun i H4 => ∃ ys : List Str, H4 L = some (.lst (ys.map V.str)) ∧ ys.length = i ∧ (∀ y ∈ ys, From abc9.cps.toList 1 y) ∧ DealAt H4 d c ∧ But d c H H4) ⟨[], upd_same, rfl, by simp, D2.new hL, B2.cell0 HL⟩ ?_ ?_
    · rintro i H4 hi ⟨ys, y1, y2, y3, D4, b4⟩
      refine ⟨rfl, _, rfl, d, c, D4, .inr ⟨_, rfl, by decide, by decide, fun ch H5 hc D5 b5 => ?_⟩⟩
      have y1' := b5 L _ y1 Ld Lc
      refine ⟨_, y1', small1000 (by rw [List.length_map]; omega), ys ++ [⟨#[ch]⟩], ?_, by simp [y2], ?_, D5.upd Ld Lc, (b4.trans b5).cell0 HL⟩
      · rw [upd_same]
        simp
      · intro y hy
        rcases List.mem_append.mp hy with hy | hy
        · exact y3 y hy
        · rw [List.mem_singleton] at hy
          subst hy
          refine ⟨rfl, fun c2 h2 => ?_⟩
          have e : c2 = ch := by simpa using h2
          rw [e]
          exact hc
    · rintro H4 ⟨ys, y1, y2, y3, D4, b4⟩
      have lj : ys.length ≤ 16 := by omega
      have sm : (ys.map (·.length)).sum + ys.length * (Str.ofString "").length ≤ 16777216 := by
        have l0 : (Str.ofString "").length = 0 := by decide
        have : ∀ l : List Str, (∀ y ∈ l, From abc9.cps.toList 1 y) → (l.map (·.length)).sum ≤ l.length := by
          intro l
          induction l with
          | nil => intro _; exact Nat.le_refl _
          | cons y l ih =>
            intro h
            have := ih fun x hx => h x (List.mem_cons_of_mem _ hx)
            have := (h y (by simp)).len
            simp only [List.map_cons, List.sum_cons, List.length_cons]
            omega
        have := this ys y3
        rw [l0]
        omega
      refine ⟨_, L, ys, rfl, rfl, .inl (SqL.of y1), sm, ?_⟩
      have pl : From abc9.cps.toList ys.length (Txt.join (Str.ofString "") ys) := by
        show From _ _ (Builtin.Str.glued (Str.ofString "") ys)
        rw [StrLaws.glued_eq_join]
        exact join_from ys y3
      refine k _ _ ?_ D4 b4
      show (decide ((Txt.join (Str.ofString "") ys).length ≤ 16) && hasOnly _ abc9) = true
      rw [pl.has, pl.len, decide_eq_true lj]
      rfl
end
end K1

/-! what putting in leaves of the addresses, the names and the texts -/
namespace K1
open PySem L2
mutual
theorem put_ka {k0 : Addr} {i : Nat} {n : AT} : ∀ t : AT, ∀ q ∈ (putT k0 i n t).ka, q ∈ t.ka ∨ q ∈ n.ka
  | .txt z, q, h => .inl h
  | .nod a k x ts, q, h => by
    unfold putT at h
    by_cases hk : k = k0
    · rw [if_pos hk] at h
      have h' : q ∈ k :: kaAll (ts.take i ++ n :: ts.drop i) := h
      have sp : kaAll ts = kaAll (ts.take i) ++ kaAll (ts.drop i) := by rw [← kaAll_app, List.take_append_drop]
      rcases List.mem_cons.mp h' with e | h'
      · exact .inl (by rw [e]; show k ∈ k :: kaAll ts; simp)
      · rw [kaAll_app] at h'
        rcases List.mem_append.mp h' with h' | h'
        · exact .inl (by show q ∈ k :: kaAll ts; rw [sp]; simp [h'])
        · have h2 : q ∈ n.ka ++ kaAll (ts.drop i) := h'
          rcases List.mem_append.mp h2 with h2 | h2
          · exact .inr h2
          · exact .inl (by show q ∈ k :: kaAll ts; rw [sp]; simp [h2])
    · rw [if_neg hk] at h
      have h' : q ∈ k :: kaAll (putAll k0 i n ts) := h
      rcases List.mem_cons.mp h' with e | h'
      · exact .inl (by rw [e]; show k ∈ k :: kaAll ts; simp)
      · exact (putAll_ka ts q h').imp (fun z => by show q ∈ k :: kaAll ts; simp [z]) id
theorem putAll_ka {k0 : Addr} {i : Nat} {n : AT} : ∀ ts : List AT, ∀ q ∈ kaAll (putAll k0 i n ts), q ∈ kaAll ts ∨ q ∈ n.ka
  | [], q, h => .inl h
  | t :: ts, q, h => by
    have h' : q ∈ (putT k0 i n t).ka ++ kaAll (putAll k0 i n ts) := h
    rcases List.mem_append.mp h' with h' | h'
    · exact (put_ka t q h').imp (fun z => by show q ∈ t.ka ++ kaAll ts; simp [z]) id
    · exact (putAll_ka ts q h').imp (fun z => by show q ∈ t.ka ++ kaAll ts; simp [z]) id
end
mutual
theorem put_ka' {k0 : Addr} {i : Nat} {n : AT} : ∀ t : AT, ∀ q ∈ t.ka, q ∈ (putT k0 i n t).ka
  | .txt z, q, h => h
  | .nod a k x ts, q, h => by
    have h' : q ∈ k :: kaAll ts := h
    unfold putT
    by_cases hk : k = k0
    · rw [if_pos hk]
      show q ∈ k :: kaAll (ts.take i ++ n :: ts.drop i)
      have sp : kaAll ts = kaAll (ts.take i) ++ kaAll (ts.drop i) := by rw [← kaAll_app, List.take_append_drop]
      rw [kaAll_app]
      show q ∈ k :: (kaAll (ts.take i) ++ (n.ka ++ kaAll (ts.drop i)))
      rw [sp] at h'
      rcases List.mem_cons.mp h' with e | h'
      · simp [e]
      · rcases List.mem_append.mp h' with h' | h' <;> simp [h']
    · rw [if_neg hk]
      show q ∈ k :: kaAll (putAll k0 i n ts)
      rcases List.mem_cons.mp h' with e | h'
      · simp [e]
      · simp [putAll_ka' ts q h']
theorem putAll_ka' {k0 : Addr} {i : Nat} {n : AT} : ∀ ts : List AT, ∀ q ∈ kaAll ts, q ∈ kaAll (putAll k0 i n ts)
  | [], q, h => h
  | t :: ts, q, h => by
    have h' : q ∈ t.ka ++ kaAll ts := h
    show q ∈ (putT k0 i n t).ka ++ kaAll (putAll k0 i n ts)
    rcases List.mem_append.mp h' with h' | h'
    · simp [put_ka' t q h']
    · simp [putAll_ka' ts q h']
end
mutual
theorem put_na {k0 : Addr} {i : Nat} {n : AT} : ∀ t : AT, ∀ q ∈ (putT k0 i n t).na, q ∈ t.na ∨ q ∈ n.na
  | .txt z, q, h => .inl h
  | .nod a k x ts, q, h => by
    unfold putT at h
    by_cases hk : k = k0
    · rw [if_pos hk] at h
      have h' : q ∈ a :: naAll (ts.take i ++ n :: ts.drop i) := h
      have sp : naAll ts = naAll (ts.take i) ++ naAll (ts.drop i) := by rw [← naAll_app, List.take_append_drop]
      rcases List.mem_cons.mp h' with e | h'
      · exact .inl (by rw [e]; show a ∈ a :: naAll ts; simp)
      · rw [naAll_app] at h'
        rcases List.mem_append.mp h' with h' | h'
        · exact .inl (by show q ∈ a :: naAll ts; rw [sp]; simp [h'])
        · have h2 : q ∈ n.na ++ naAll (ts.drop i) := h'
          rcases List.mem_append.mp h2 with h2 | h2
          · exact .inr h2
          · exact .inl (by show q ∈ a :: naAll ts; rw [sp]; simp [h2])
    · rw [if_neg hk] at h
      have h' : q ∈ a :: naAll (putAll k0 i n ts) := h
      rcases List.mem_cons.mp h' with e | h'
      · exact .inl (by rw [e]; show a ∈ a :: naAll ts; simp)
      · exact (putAll_na ts q h').imp (fun z => by show q ∈ a :: naAll ts; simp [z]) id
theorem putAll_na {k0 : Addr} {i : Nat} {n : AT} : ∀ ts : List AT, ∀ q ∈ naAll (putAll k0 i n ts), q ∈ naAll ts ∨ q ∈ n.na
  | [], q, h => .inl h
  | t :: ts, q, h => by
    have h' : q ∈ (putT k0 i n t).na ++ naAll (putAll k0 i n ts) := h
    rcases List.mem_append.mp h' with h' | h'
    · exact (put_na t q h').imp (fun z => by show q ∈ t.na ++ naAll ts; simp [z]) id
    · exact (putAll_na ts q h').imp (fun z => by show q ∈ t.na ++ naAll ts; simp [z]) id
end
mutual
theorem put_na' {k0 : Addr} {i : Nat} {n : AT} : ∀ t : AT, ∀ q ∈ t.na, q ∈ (putT k0 i n t).na
  | .txt z, q, h => h
  | .nod a k x ts, q, h => by
    have h' : q ∈ a :: naAll ts := h
    unfold putT
    by_cases hk : k = k0
    · rw [if_pos hk]
      show q ∈ a :: naAll (ts.take i ++ n :: ts.drop i)
      have sp : naAll ts = naAll (ts.take i) ++ naAll (ts.drop i) := by rw [← naAll_app, List.take_append_drop]
      rw [naAll_app]
      show q ∈ a :: (naAll (ts.take i) ++ (n.na ++ naAll (ts.drop i)))
      rw [sp] at h'
      rcases List.mem_cons.mp h' with e | h'
      · simp [e]
      · rcases List.mem_append.mp h' with h' | h' <;> simp [h']
    · rw [if_neg hk]
      show q ∈ a :: naAll (putAll k0 i n ts)
      rcases List.mem_cons.mp h' with e | h'
      · simp [e]
      · simp [putAll_na' ts q h']
theorem putAll_na' {k0 : Addr} {i : Nat} {n : AT} : ∀ ts : List AT, ∀ q ∈ naAll ts, q ∈ naAll (putAll k0 i n ts)
  | [], q, h => h
  | t :: ts, q, h => by
    have h' : q ∈ t.na ++ naAll ts := h
    show q ∈ (putT k0 i n t).na ++ naAll (putAll k0 i n ts)
    rcases List.mem_append.mp h' with h' | h'
    · simp [put_na' t q h']
    · simp [putAll_na' ts q h']
end
theorem nodup_app {l m : List Addr} (h1 : l.Nodup) (h2 : m.Nodup) (h : ∀ q ∈ l, q ∉ m) : (l ++ m).Nodup := List.nodup_append.mpr ⟨h1, h2, fun a ha b hb e => h a ha (e ▸ hb)⟩
mutual
theorem put_nd {k0 : Addr} {i : Nat} {n : AT} (hn : n.ka.Nodup) : ∀ t : AT, t.ka.Nodup → (∀ q ∈ n.ka, q ∉ t.ka) → (putT k0 i n t).ka.Nodup
  | .txt z, h, _ => h
  | .nod a k x ts, h, hd => by
    have h' : (k :: kaAll ts).Nodup := h
    have hd' : ∀ q ∈ n.ka, q ∉ k :: kaAll ts := hd
    obtain ⟨k1, k2⟩ := List.nodup_cons.mp h'
    unfold putT
    by_cases hk : k = k0
    · rw [if_pos hk]
      show (k :: kaAll (ts.take i ++ n :: ts.drop i)).Nodup
      have sp : kaAll ts = kaAll (ts.take i) ++ kaAll (ts.drop i) := by rw [← kaAll_app, List.take_append_drop]
      rw [kaAll_app]
      show (k :: (kaAll (ts.take i) ++ (n.ka ++ kaAll (ts.drop i)))).Nodup
      rw [sp] at k1 k2 hd'
      obtain ⟨d1, d2, d3⟩ := List.nodup_append.mp k2
      refine List.nodup_cons.mpr ⟨fun z => ?_, nodup_app d1 (nodup_app hn d2 fun q hq z => hd' q hq (by simp [z])) fun q hq z => ?_⟩
      · rcases List.mem_append.mp z with z | z
        · exact k1 (by simp [z])
        · rcases List.mem_append.mp z with z | z
          · exact hd' k z (by simp)
          · exact k1 (by simp [z])
      · rcases List.mem_append.mp z with z | z
        · exact hd' q z (by simp [hq])
        · exact d3 q hq q z rfl
    · rw [if_neg hk]
      show (k :: kaAll (putAll k0 i n ts)).Nodup
      refine List.nodup_cons.mpr ⟨fun z => ?_, putAll_nd hn ts k2 fun q hq z => hd' q hq (by simp [z])⟩
      rcases putAll_ka ts k z with z | z
      · exact k1 z
      · exact hd' k z (by simp)
theorem putAll_nd {k0 : Addr} {i : Nat} {n : AT} (hn : n.ka.Nodup) : ∀ ts : List AT, (kaAll ts).Nodup → (∀ q ∈ n.ka, q ∉ kaAll ts) → (kaAll (putAll k0 i n ts)).Nodup
  | [], h, _ => h
  | t :: ts, h, hd => by
    have h' : (t.ka ++ kaAll ts).Nodup := h
    have hd' : ∀ q ∈ n.ka, q ∉ t.ka ++ kaAll ts := hd
    obtain ⟨d1, d2, d3⟩ := List.nodup_append.mp h'
    show ((putT k0 i n t).ka ++ kaAll (putAll k0 i n ts)).Nodup
    by_cases hk : k0 ∈ t.ka
    · have out : k0 ∉ kaAll ts := fun z => d3 k0 hk k0 z rfl
      rw [putAll_out ts out]
      refine nodup_app (put_nd hn t d1 fun q hq z => hd' q hq (by simp [z])) d2 fun q hq z => ?_
      rcases put_ka t q hq with e | e
      · exact d3 q e q z rfl
      · exact hd' q e (by simp [z])
    · rw [put_out t hk]
      refine nodup_app d1 (putAll_nd hn ts d2 fun q hq z => hd' q hq (by simp [z])) fun q hq z => ?_
      rcases putAll_ka ts q z with e | e
      · exact d3 q hq q e rfl
      · exact hd' q e (by simp [hq])
end
mutual
/-- right names and texts -/
def AT.ok : AT → Prop
  | .txt z => textD (.str z) = true
  | .nod _ _ x ts => nameD (.str x) = true ∧ okAll ts
def okAll : List AT → Prop
  | [] => True
  | t :: ts => t.ok ∧ okAll ts
end
theorem okAll_app : ∀ ts us : List AT, okAll (ts ++ us) ↔ okAll ts ∧ okAll us
  | [], us => ⟨fun h => ⟨trivial, h⟩, fun h => h.2⟩
  | t :: ts, us => ⟨fun h => ⟨⟨h.1, ((okAll_app ts us).mp h.2).1⟩, ((okAll_app ts us).mp h.2).2⟩, fun h => ⟨h.1.1, (okAll_app ts us).mpr ⟨h.1.2, h.2⟩⟩⟩
mutual
theorem put_ok {k0 : Addr} {i : Nat} {n : AT} (hn : n.ok) : ∀ t : AT, t.ok → (putT k0 i n t).ok
  | .txt z, h => h
  | .nod a k x ts, h => by
    unfold putT
    split
    · refine ⟨h.1, (okAll_app _ _).mpr ?_⟩
      have h2 : okAll ts := h.2
      rw [← List.take_append_drop i ts] at h2
      obtain ⟨a1, a2⟩ := (okAll_app _ _).mp h2
      exact ⟨a1, hn, a2⟩
    · exact ⟨h.1, putAll_ok hn ts h.2⟩
theorem putAll_ok {k0 : Addr} {i : Nat} {n : AT} (hn : n.ok) : ∀ ts : List AT, okAll ts → okAll (putAll k0 i n ts)
  | [], _ => trivial
  | t :: ts, h => ⟨put_ok hn t h.1, putAll_ok hn ts h.2⟩
end
mutual
theorem ka_at {H : Hp} : ∀ t : AT, t.At H → ∀ k ∈ t.ka, ∃ vs, H k = some (.lst vs) ∧ vs.length ≤ t.cnt
  | .nod a k x ts, h, q, hq => by
    have h' : q ∈ k :: kaAll ts := hq
    rcases List.mem_cons.mp h' with e | h'
    · refine ⟨_, by rw [e]; exact h.2.1, ?_⟩
      rw [List.length_map]
      have := cnt_len ts
      show ts.length ≤ 1 + cntAll ts
      omega
    · obtain ⟨vs, e, l⟩ := kaAll_at ts h.2.2 q h'
      refine ⟨vs, e, ?_⟩
      show vs.length ≤ 1 + cntAll ts
      omega
  | .txt z, _, q, hq => by
    have h' : q ∈ ([] : List Addr) := hq
    simp at h'
theorem kaAll_at {H : Hp} : ∀ ts : List AT, atAll H ts → ∀ k ∈ kaAll ts, ∃ vs, H k = some (.lst vs) ∧ vs.length ≤ cntAll ts
  | [], _, q, hq => by
    have h' : q ∈ ([] : List Addr) := hq
    simp at h'
  | t :: ts, h, q, hq => by
    have h' : q ∈ t.ka ++ kaAll ts := hq
    rcases List.mem_append.mp h' with h' | h'
    · obtain ⟨vs, e, l⟩ := ka_at t h.1 q h'
      exact ⟨vs, e, by show vs.length ≤ t.cnt + cntAll ts; omega⟩
    · obtain ⟨vs, e, l⟩ := kaAll_at ts h.2 q h'
      exact ⟨vs, e, by show vs.length ≤ t.cnt + cntAll ts; omega⟩
end
mutual
theorem na_at {H : Hp} : ∀ t : AT, t.At H → ∀ a ∈ t.na, ∃ o, H a = some o
  | .nod a k x ts, h, q, hq => by
    have h' : q ∈ a :: naAll ts := hq
    rcases List.mem_cons.mp h' with e | h'
    · exact ⟨_, by rw [e]; exact h.1⟩
    · exact naAll_at ts h.2.2 q h'
  | .txt z, _, q, hq => by
    have h' : q ∈ ([] : List Addr) := hq
    simp at h'
theorem naAll_at {H : Hp} : ∀ ts : List AT, atAll H ts → ∀ a ∈ naAll ts, ∃ o, H a = some o
  | [], _, q, hq => by
    have h' : q ∈ ([] : List Addr) := hq
    simp at h'
  | t :: ts, h, q, hq => by
    have h' : q ∈ t.na ++ naAll ts := hq
    rcases List.mem_append.mp h' with h' | h'
    · exact na_at t h.1 q h'
    · exact naAll_at ts h.2 q h'
end
mutual
theorem nds_le : ∀ t : AT, t.nds ≤ t.cnt
  | .txt z => Nat.zero_le _
  | .nod a k x ts => by
    have := ndsAll_le ts
    show 1 + ndsAll ts ≤ 1 + cntAll ts
    omega
theorem ndsAll_le : ∀ ts : List AT, ndsAll ts ≤ cntAll ts
  | [] => Nat.le_refl _
  | t :: ts => by
    have := nds_le t
    have := ndsAll_le ts
    show t.nds + ndsAll ts ≤ t.cnt + cntAll ts
    omega
end
mutual
/-- every list k0 in it stands at level j, its own level being l -/
def AT.lv (k0 : Addr) : Nat → Nat → AT → Prop
  | _, _, .txt _ => True
  | l, j, .nod _ k _ ts => (k = k0 → j = l) ∧ lvAll k0 (l + 1) j ts
def lvAll (k0 : Addr) : Nat → Nat → List AT → Prop
  | _, _, [] => True
  | l, j, t :: ts => t.lv k0 l j ∧ lvAll k0 l j ts
end
mutual
def AT.hgt : AT → Nat
  | .txt _ => 0
  | .nod _ _ _ ts => 1 + hgtAll ts
def hgtAll : List AT → Nat
  | [] => 0
  | t :: ts => max t.hgt (hgtAll ts)
end
theorem lvAll_app {k0 : Addr} {l j : Nat} : ∀ ts us : List AT, lvAll k0 l j (ts ++ us) ↔ lvAll k0 l j ts ∧ lvAll k0 l j us
  | [], us => ⟨fun h => ⟨trivial, h⟩, fun h => h.2⟩
  | t :: ts, us => ⟨fun h => ⟨⟨h.1, ((lvAll_app ts us).mp h.2).1⟩, ((lvAll_app ts us).mp h.2).2⟩, fun h => ⟨h.1.1, (lvAll_app ts us).mpr ⟨h.1.2, h.2⟩⟩⟩
theorem hgtAll_app : ∀ ts us : List AT, hgtAll (ts ++ us) = max (hgtAll ts) (hgtAll us)
  | [], us => by show hgtAll us = max 0 (hgtAll us); omega
  | t :: ts, us => by
    show max t.hgt (hgtAll (ts ++ us)) = max (max t.hgt (hgtAll ts)) (hgtAll us)
    rw [hgtAll_app ts us]
    omega
mutual
theorem lv_out {k0 : Addr} {j : Nat} : ∀ (l : Nat) (t : AT), k0 ∉ t.ka → t.lv k0 l j
  | _, .txt _, _ => trivial
  | l, .nod a k x ts, h => by
    have h' : k0 ∉ k :: kaAll ts := h
    exact ⟨fun e => absurd (by rw [e]; simp) h', lvAll_out (l + 1) ts (fun z => h' (by simp [z]))⟩
theorem lvAll_out {k0 : Addr} {j : Nat} : ∀ (l : Nat) (ts : List AT), k0 ∉ kaAll ts → lvAll k0 l j ts
  | _, [], _ => trivial
  | l, t :: ts, h => by
    have h' : k0 ∉ t.ka ++ kaAll ts := h
    exact ⟨lv_out l t (fun z => h' (by simp [z])), lvAll_out l ts (fun z => h' (by simp [z]))⟩
end
mutual
theorem put_lv {k0 k1 : Addr} {i j : Nat} {n : AT} (hn : k1 ∉ n.ka) : ∀ (l : Nat) (t : AT), t.lv k1 l j → (putT k0 i n t).lv k1 l j
  | _, .txt _, _ => trivial
  | l, .nod a k x ts, h => by
    unfold putT
    split
    · refine ⟨h.1, (lvAll_app _ _).mpr ?_⟩
      have h2 : lvAll k1 (l + 1) j ts := h.2
      rw [← List.take_append_drop i ts] at h2
      obtain ⟨a1, a2⟩ := (lvAll_app _ _).mp h2
      exact ⟨a1, lv_out (l + 1) n hn, a2⟩
    · exact ⟨h.1, putAll_lv hn (l + 1) ts h.2⟩
theorem putAll_lv {k0 k1 : Addr} {i j : Nat} {n : AT} (hn : k1 ∉ n.ka) : ∀ (l : Nat) (ts : List AT), lvAll k1 l j ts → lvAll k1 l j (putAll k0 i n ts)
  | _, [], _ => trivial
  | l, t :: ts, h => ⟨put_lv hn l t h.1, putAll_lv hn l ts h.2⟩
end
mutual
theorem put_lvn {k0 k1 a1 : Addr} {x1 : Str} {i j : Nat} : ∀ (l : Nat) (t : AT), k1 ∉ t.ka → t.lv k0 l j → (putT k0 i (.nod a1 k1 x1 []) t).lv k1 l (j + 1)
  | _, .txt _, _, _ => trivial
  | l, .nod a k x ts, h, g => by
    have h' : k1 ∉ k :: kaAll ts := h
    have hk : k = k1 → j + 1 = l := fun e => absurd (by rw [e]; simp) h'
    have ho : k1 ∉ kaAll ts := fun z => h' (by simp [z])
    unfold putT
    by_cases e : k = k0
    · rw [if_pos e]
      refine ⟨hk, (lvAll_app _ _).mpr ?_⟩
      have h2 := lvAll_out (j := j + 1) (l + 1) ts ho
      rw [← List.take_append_drop i ts] at h2
      obtain ⟨a1, a2⟩ := (lvAll_app _ _).mp h2
      exact ⟨a1, ⟨fun _ => by rw [g.1 e], trivial⟩, a2⟩
    · rw [if_neg e]
      exact ⟨hk, putAll_lvn (l + 1) ts ho g.2⟩
theorem putAll_lvn {k0 k1 a1 : Addr} {x1 : Str} {i j : Nat} : ∀ (l : Nat) (ts : List AT), k1 ∉ kaAll ts → lvAll k0 l j ts → lvAll k1 l (j + 1) (putAll k0 i (.nod a1 k1 x1 []) ts)
  | _, [], _, _ => trivial
  | l, t :: ts, h, g => by
    have h' : k1 ∉ t.ka ++ kaAll ts := h
    exact ⟨put_lvn l t (fun z => h' (by simp [z])) g.1, putAll_lvn l ts (fun z => h' (by simp [z])) g.2⟩
end
mutual
theorem put_hgt {k0 : Addr} {i j : Nat} {n : AT} : ∀ (l : Nat) (t : AT), t.lv k0 l j → l + (putT k0 i n t).hgt ≤ max (l + t.hgt) (j + 1 + n.hgt)
  | l, .txt z, _ => by
    show l + 0 ≤ max (l + 0) _
    omega
  | l, .nod a k x ts, g => by
    unfold putT
    by_cases e : k = k0
    · rw [if_pos e]
      have hj := g.1 e
      show l + (1 + hgtAll (ts.take i ++ n :: ts.drop i)) ≤ max (l + (1 + hgtAll ts)) (j + 1 + n.hgt)
      have sp : hgtAll ts = max (hgtAll (ts.take i)) (hgtAll (ts.drop i)) := by rw [← hgtAll_app, List.take_append_drop]
      rw [hgtAll_app]
      show l + (1 + max (hgtAll (ts.take i)) (max n.hgt (hgtAll (ts.drop i)))) ≤ _
      omega
    · rw [if_neg e]
      have := putAll_hgt (i := i) (n := n) (l + 1) ts g.2
      show l + (1 + hgtAll (putAll k0 i n ts)) ≤ max (l + (1 + hgtAll ts)) (j + 1 + n.hgt)
      omega
theorem putAll_hgt {k0 : Addr} {i j : Nat} {n : AT} : ∀ (l : Nat) (ts : List AT), lvAll k0 l j ts → l + hgtAll (putAll k0 i n ts) ≤ max (l + hgtAll ts) (j + 1 + n.hgt)
  | l, [], _ => by
    show l + 0 ≤ max (l + 0) _
    omega
  | l, t :: ts, g => by
    have h1 := put_hgt (i := i) (n := n) l t g.1
    have h2 := putAll_hgt (i := i) (n := n) l ts g.2
    show l + max (putT k0 i n t).hgt (hgtAll (putAll k0 i n ts)) ≤ max (l + max t.hgt (hgtAll ts)) _
    omega
end
end K1

/-! the state of a document that is being made -/
namespace K1
open PySem L2 Xr
/-- the document t, with its nodes in the list Nd; H0: what stood before -/
structure GSt (H0 : Hp) (d c Nd : Addr) (H : Hp) (t : AT) (xs : List V) (m : Nat) (dm : Int) : Prop where
  at_ : t.At H
  nd : t.ka.Nodup
  dis : ∀ q ∈ t.na, q ∉ t.ka
  ok : t.ok
  cnt : t.cnt ≤ m ∧ m ≤ 100
  pos : 0 < xs.length
  few : xs.length ≤ m
  ndn : Nd ≠ d ∧ Nd ≠ c ∧ H0 Nd = none
  out : ∀ q, q ∈ t.na ∨ q ∈ t.ka → H0 q = none ∧ q ≠ d ∧ q ≠ c ∧ q ≠ Nd
  ent : ∀ e ∈ xs, ∃ (p a : Addr) (dp : Int) (k : Addr) (x : Str), e = .ref p ∧ H p = some (.tup [.ref a, .int dp]) ∧ k ∈ t.ka ∧ a ∈ t.na ∧ H a = some (.lst [.str x, .ref k]) ∧ ∃ j : Nat, dp = (j : Int) + 1 ∧ dp ≤ dm ∧ t.lv k 0 j
  hgt : (t.hgt : Int) ≤ dm
theorem AT.keep {H H' : Hp} {d c : Addr} (b : But d c H H') (t : AT) (h : t.At H) (n1 : ∀ q, q ∈ t.na ∨ q ∈ t.ka → q ≠ d) (n2 : ∀ q, q ∈ t.na ∨ q ∈ t.ka → q ≠ c) : t.At H' := by
  have e : ∀ q, q ∈ t.na ∨ q ∈ t.ka → (∃ o, H q = some o) → H' q = H q := fun q hq ⟨o, z⟩ => by rw [z]; exact b q o z (n1 q hq) (n2 q hq)
  refine AT.frame t (fun q hq => e q (.inl hq) (na_at t h q hq)) (fun q hq => e q (.inr hq) ?_) h
  obtain ⟨vs, z, _⟩ := ka_at t h q hq
  exact ⟨_, z⟩
section
variable {H0 H H' : Hp} {d c Nd : Addr} {t n : AT} {xs : List V} {m : Nat} {dm : Int}
theorem GSt.keepN {ys : List V} (g : GSt H0 d c Nd H t xs m dm) (hN : H Nd = some (.lst ys)) (D : DealAt H d c) (b : ∀ q o, H q = some o → q ≠ d → q ≠ c → q ≠ Nd → H' q = some o) : GSt H0 d c Nd H' t xs m dm := by
  have e : ∀ q, q ∈ t.na ∨ q ∈ t.ka → (∃ o, H q = some o) → H' q = H q := fun q hq ⟨o, z⟩ => by
    have n := g.out q hq
    rw [z]
    exact b q o z n.2.1 n.2.2.1 n.2.2.2
  refine ⟨AT.frame t (fun q hq => e q (.inl hq) (na_at t g.at_ q hq)) (fun q hq => e q (.inr hq) ?_) g.at_, g.nd, g.dis, g.ok, g.cnt, g.pos, g.few, g.ndn, g.out, fun e he => ?_, g.hgt⟩
  · obtain ⟨vs, z, _⟩ := ka_at t g.at_ q hq
    exact ⟨_, z⟩
  obtain ⟨p, a, dp, k, x, e1, e2, e3, e4, e5, e6⟩ := g.ent e he
  have pd : p ≠ d ∧ p ≠ c ∧ p ≠ Nd := by
    obtain ⟨cs, bb, h1, h2, _⟩ := D.ex
    refine ⟨fun z => ?_, fun z => ?_, fun z => ?_⟩
    · rw [z, h1] at e2
      cases e2
    · rw [z, h2] at e2
      cases e2
    · rw [z, hN] at e2
      cases e2
  have n := g.out a (.inl e4)
  exact ⟨p, a, dp, k, x, e1, b _ _ e2 pd.1 pd.2.1 pd.2.2, e3, e4, b _ _ e5 n.2.1 n.2.2.1 n.2.2.2, e6⟩
theorem GSt.keep {ys : List V} (g : GSt H0 d c Nd H t xs m dm) (b : But d c H H') (D : DealAt H d c) (hN : H Nd = some (.lst ys)) : GSt H0 d c Nd H' t xs m dm := g.keepN hN D fun q o e n1 n2 _ => b q o e n1 n2
/-- an entry more -/
theorem GSt.add {p a k : Addr} {dp : Int} {x : Str} (g : GSt H0 d c Nd H t xs m dm) (hp : H p = some (.tup [.ref a, .int dp])) (hk : k ∈ t.ka) (ha : a ∈ t.na) (h : H a = some (.lst [.str x, .ref k])) (hl : xs.length + 1 ≤ m) (hj : ∃ j : Nat, dp = (j : Int) + 1 ∧ dp ≤ dm ∧ t.lv k 0 j) : GSt H0 d c Nd H t (xs ++ [.ref p]) m dm :=
  ⟨g.at_, g.nd, g.dis, g.ok, g.cnt, by rw [List.length_append]; have := g.pos; omega, by rw [List.length_append]; exact hl, g.ndn, g.out, fun e he => by
    rcases List.mem_append.mp he with he | he
    · exact g.ent e he
    · rw [List.mem_singleton] at he
      exact ⟨p, a, dp, k, x, he, hp, hk, ha, h, hj⟩, g.hgt⟩
theorem GSt.put {k : Addr} {i : Nat} {vs : List V} (g : GSt H0 d c Nd H t xs m dm) (hk : k ∈ t.ka) (hv : H k = some (.lst vs)) (hn : n.At H) (hok : n.ok) (hnd : n.ka.Nodup) (hds : ∀ q ∈ n.na, q ∉ n.ka)
    (hout : ∀ q, q ∈ n.na ∨ q ∈ n.ka → H0 q = none ∧ q ≠ d ∧ q ≠ c ∧ q ≠ Nd ∧ q ∉ t.na ∧ q ∉ t.ka) (hm : t.cnt + n.cnt ≤ m) {j : Nat} (hlv : t.lv k 0 j) (hgn : (j : Int) + 1 + (n.hgt : Int) ≤ dm) :
    GSt H0 d c Nd (upd H k (.lst (vs.take i ++ n.val :: vs.drop i))) (putT k i n t) xs m dm := by
  have k1 : k ∉ n.na := fun z => (hout k (.inl z)).2.2.2.2.2 hk
  have k2 : k ∉ n.ka := fun z => (hout k (.inr z)).2.2.2.2.2 hk
  have k3 : k ∉ t.na := fun z => g.dis k z hk
  have kN : k ≠ Nd := (g.out k (.inr hk)).2.2.2
  refine ⟨put_at hv hn k1 k2 t g.at_ k3 g.nd, put_nd hnd t g.nd fun q hq => (hout q (.inr hq)).2.2.2.2.2, fun q hq z => ?_, put_ok hok t g.ok, ⟨?_, g.cnt.2⟩, g.pos, g.few, g.ndn, fun q hq => ?_, fun e he => ?_, ?_⟩
  · rcases put_na t q hq with h | h
    · rcases put_ka t q z with z | z
      · exact g.dis q h z
      · exact (hout q (.inr z)).2.2.2.2.1 h
    · rcases put_ka t q z with z | z
      · exact (hout q (.inl h)).2.2.2.2.2 z
      · exact hds q h z
  · have := put_cnt (k0 := k) (i := i) (n := n) t g.nd
    omega
  · rcases hq with hq | hq
    · rcases put_na t q hq with h | h
      · exact g.out q (.inl h)
      · have := hout q (.inl h)
        exact ⟨this.1, this.2.1, this.2.2.1, this.2.2.2.1⟩
    · rcases put_ka t q hq with h | h
      · exact g.out q (.inr h)
      · have := hout q (.inr h)
        exact ⟨this.1, this.2.1, this.2.2.1, this.2.2.2.1⟩
  · obtain ⟨p, a, dp, k', x, e1, e2, e3, e4, e5, jj, j1, j2, j3⟩ := g.ent e he
    have pk : p ≠ k := fun z => by
      rw [z, hv] at e2
      cases e2
    have ak : a ≠ k := fun z => k3 (by rw [← z]; exact e4)
    have a' : a ∈ (putT k i n t).na := put_na' t a e4
    exact ⟨p, a, dp, k', x, e1, by rw [upd_ne pk]; exact e2, put_ka' t k' e3, a', by rw [upd_ne ak]; exact e5, jj, j1, j2, put_lv (fun z => (hout k' (.inr z)).2.2.2.2.2 e3) 0 t j3⟩
  · have h1 := put_hgt (i := i) (n := n) 0 t hlv
    have h2 := g.hgt
    omega
end
end K1
namespace K1
open PySem L2
theorem GSt.mono {H0 H : Hp} {d c Nd : Addr} {t : AT} {xs : List V} {m m' : Nat} (g : GSt H0 d c Nd H t xs m dm) (h : m ≤ m') (l : m' ≤ 100) : GSt H0 d c Nd H t xs m' dm :=
  ⟨g.at_, g.nd, g.dis, g.ok, ⟨Nat.le_trans g.cnt.1 h, l⟩, g.pos, Nat.le_trans g.few h, g.ndn, g.out, g.ent, g.hgt⟩
end K1
namespace K1
open PySem L2
mutual
theorem put_in {k0 : Addr} {i : Nat} {n : AT} : ∀ t : AT, k0 ∈ t.ka → (∀ q ∈ n.ka, q ∈ (putT k0 i n t).ka) ∧ ∀ q ∈ n.na, q ∈ (putT k0 i n t).na
  | .txt z, h => by
    have h' : k0 ∈ ([] : List Addr) := h
    simp at h'
  | .nod a k x ts, h => by
    have h' : k0 ∈ k :: kaAll ts := h
    unfold putT
    by_cases hk : k = k0
    · rw [if_pos hk]
      refine ⟨fun q hq => ?_, fun q hq => ?_⟩
      · show q ∈ k :: kaAll (ts.take i ++ n :: ts.drop i)
        rw [kaAll_app]
        show q ∈ k :: (kaAll (ts.take i) ++ (n.ka ++ kaAll (ts.drop i)))
        simp [hq]
      · show q ∈ a :: naAll (ts.take i ++ n :: ts.drop i)
        rw [naAll_app]
        show q ∈ a :: (naAll (ts.take i) ++ (n.na ++ naAll (ts.drop i)))
        simp [hq]
    · rw [if_neg hk]
      have h2 : k0 ∈ kaAll ts := (List.mem_cons.mp h').resolve_left (fun e => hk e.symm)
      obtain ⟨a1, a2⟩ := putAll_in (i := i) (n := n) ts h2
      refine ⟨fun q hq => ?_, fun q hq => ?_⟩
      · show q ∈ k :: kaAll (putAll k0 i n ts)
        simp [a1 q hq]
      · show q ∈ a :: naAll (putAll k0 i n ts)
        simp [a2 q hq]
theorem putAll_in {k0 : Addr} {i : Nat} {n : AT} : ∀ ts : List AT, k0 ∈ kaAll ts → (∀ q ∈ n.ka, q ∈ kaAll (putAll k0 i n ts)) ∧ ∀ q ∈ n.na, q ∈ naAll (putAll k0 i n ts)
  | [], h => by
    have h' : k0 ∈ ([] : List Addr) := h
    simp at h'
  | t :: ts, h => by
    have h' : k0 ∈ t.ka ++ kaAll ts := h
    show (∀ q ∈ n.ka, q ∈ (putT k0 i n t).ka ++ kaAll (putAll k0 i n ts)) ∧ ∀ q ∈ n.na, q ∈ (putT k0 i n t).na ++ naAll (putAll k0 i n ts)
    rcases List.mem_append.mp h' with h' | h'
    · obtain ⟨a1, a2⟩ := put_in (i := i) (n := n) t h'
      exact ⟨fun q hq => by simp [a1 q hq], fun q hq => by simp [a2 q hq]⟩
    · obtain ⟨a1, a2⟩ := putAll_in (i := i) (n := n) ts h'
      exact ⟨fun q hq => by simp [a1 q hq], fun q hq => by simp [a2 q hq]⟩
end
end K1

/-! grown -/
namespace K1
open PySem L2 Xr
abbrev sGrown : Stmt := top 33
theorem scGrown : FnScope ["deal", "names", "many", "deep", "top", "nodes", "turn", "node", "depth", "new"] ["deal", "names", "many", "deep"] (defScope sGrown) := ⟨rfl, rfl, rfl, by decide +kernel, rfl, by decide +kernel, by decide +kernel⟩
def spGrown (K : PySem.W.Frag) (n : Nat) : Sp := fun vs H Q _ => ∃ (d c nm : Addr) (ns : List Str) (many : Nat) (deep : Int), vs = [.ref d, .ref nm, .int (many : Int), .int deep] ∧ DealAt H d c ∧ H nm = some (.lst (ns.map V.str)) ∧ nm ≠ d ∧ nm ≠ c ∧
  (∀ x ∈ ns, nameD (.str x) = true) ∧ 0 < ns.length ∧ ns.length < 1000 ∧ 1 ≤ many ∧ many ≤ 90 ∧ many ≤ n ∧ 1 ≤ deep ∧ ∀ (v : V) (a k : Addr) (x : Str) (ts : List AT) (H' : Hp), (AT.nod a k x ts).ok → (AT.nod a k x ts).cnt ≤ many → ((AT.nod a k x ts).hgt : Int) ≤ deep → Dm K (Trk H) H' v (AT.nod a k x ts).doc.dat → DealAt H' d c → But d c H H' → Q v H'
structure GrownTxt (K : PySem.W.Frag) (mg : Str → Option Value) (a_law_any a_law_of a_law_text a_law_frozen : Addr) : Prop where
  n_range : mg "range" = none
  n_len : mg "len" = none
  n_list : mg "list" = none
  n_isinstance : mg "isinstance" = none
  g_law_of : mg "_law_of" = some (.ref a_law_of)
  k_law_of : PySem.W.keepIn K (.ref a_law_of) = true
  g_law_any : mg "_law_any" = some (.ref a_law_any)
  k_law_any : PySem.W.keepIn K (.ref a_law_any) = true
  g_law_text : mg "_law_text" = some (.ref a_law_text)
  k_law_text : PySem.W.keepIn K (.ref a_law_text) = true
  g_law_frozen : mg "_law_frozen" = some (.ref a_law_frozen)
  k_law_frozen : PySem.W.keepIn K (.ref a_law_frozen) = true
section
variable {P : Program} {w : World} {K : PySem.W.Frag} {mg : Str → Option Value} {base : Heap} {a_law_any a_law_of a_law_text a_law_frozen : Addr} {fdA fdO fdT fdF : FuncData}
theorem ok_grown {f : Addr} {fd : FuncData} {n : Nat} (F : Fun K "_law_grown" "_law_grown" sGrown f fd) (T : GrownTxt K mg a_law_any a_law_of a_law_text a_law_frozen)
    (G_law_any : FnOk P w K mg base CX0 1 a_law_any fdA ["deal", "bound"] spAny) (b_law_any : Binds K fdA ["deal", "bound"] [])
    (G_law_of : FnOk P w K mg base CX0 2 a_law_of fdO ["deal", "some"] spOf) (b_law_of : Binds K fdO ["deal", "some"] [])
    (G_law_text : FnOk P w K mg base CX0 3 a_law_text fdT ["deal"] spLText) (b_law_text : Binds K fdT ["deal"] [])
    (G_law_frozen : FnOk P w K mg base CX0 (1 + n) a_law_frozen fdF ["thing"] (spFrozen K n)) (b_law_frozen : Binds K fdF ["thing"] []) : FnOk P w K mg base CX0 (4 + n) f fd ["deal", "names", "many", "deep"] (spGrown K n) := by
  have e4 : 4 + n = (3 + n) + 1 := by omega
  rw [e4]
  refine F.ok scGrown (fun vs H Q E h => ?_) (fun cdv A outer s H vs Q E hr h => ?_)
  · obtain ⟨d, c, nm, ns, many, deep, rfl, _⟩ := h
    rfl
  · obtain ⟨d, c, nm, ns, many, deep, rfl, D, hnm, nm1, nm2, nok, nl0, nl1, m1, m2, m3, m4, k⟩ := h
    have hr1 : Room 1 _ := hr.mono (by omega)
    have hr2 : Room 2 _ := hr.mono (by omega)
    have hr3 : Room 3 _ := hr.mono (by omega)
    have hrf : Room (1 + n) _ := hr.mono (by omega)
    refine ⟨_, (pss_cons (ps_set (i := 4) scGrown.nd rfl (Or.inl rfl) (pe_lst (pa_cons (pe_call G_law_of hr2 rfl T.g_law_of T.k_law_of b_law_of .nil pass0 (pa_cons (pv 0) (pa_cons (pv 1) pa_nil))) (pa_cons (pe_lst pa_nil) pa_nil))))
      (pss_cons (ps_set (i := 5) scGrown.nd rfl (Or.inl rfl) (pe_lst (pa_cons (pe_tup (pa_cons (pv 4) (pa_cons pe_int pa_nil))) pa_nil)))
      (pss_cons (ps_for PassesOwn.never rfl (pi_range1 (by rfl) T.n_range (pa_cons (pe_op op_sub (pv 2) pe_int) pa_nil)) (pg_name (i := 6) scGrown.nd rfl (Or.inl rfl))
      (pss_cons (ps_asg (pe_ix ix_list (pv 5) (pe_call G_law_of hr2 rfl T.g_law_of T.k_law_of b_law_of .nil pass0 (pa_cons (pv 0) (pa_cons (pe_lst (pa_cons (pe_op op_sub (pe_callB call_len_seq (by rfl) T.n_len PySem.boot_len (pa_cons (pv 5) pa_nil)) pe_int) (pa_cons (pe_call G_law_any hr1 rfl T.g_law_any T.k_law_any b_law_any .nil pass0 (pa_cons (pv 0) (pa_cons (pe_callB call_len_seq (by rfl) T.n_len PySem.boot_len (pa_cons (pv 5) pa_nil)) pa_nil))) pa_nil))) pa_nil))) (fun _ _ => rfl)) (pg_tup (by rfl) (pgs_cons (pg_name (i := 7) scGrown.nd rfl (Or.inl rfl)) (pgs_cons (pg_name (i := 8) scGrown.nd rfl (Or.inl rfl)) pgs_nil))))
      (pss_cons (ps_set (i := 9) scGrown.nd rfl (Or.inl rfl) (pe_ifExp (PW.pt (pw_and (pt_cmpR op_lt (pv 8) (pv 3) (nomark _)) (pw_and1 (pt_cmpR op_gt (pe_call G_law_any hr1 rfl T.g_law_any T.k_law_any b_law_any .nil pass0 (pa_cons (pv 0) (pa_cons pe_int pa_nil))) pe_int (nomark _))))) (pe_lst (pa_cons (pe_call G_law_of hr2 rfl T.g_law_of T.k_law_of b_law_of .nil pass0 (pa_cons (pv 0) (pa_cons (pv 1) pa_nil))) (pa_cons (pe_lst pa_nil) pa_nil))) (pe_call G_law_text hr3 rfl T.g_law_text T.k_law_text b_law_text .nil pass0 (pa_cons (pv 0) pa_nil))))
      (pss_cons (ps_if (pt_val (pe_callB call_isi (by rfl) T.n_isinstance (by decide +kernel) (pa_cons (pv 9) (pa_cons (pe_bltn (v := V.ty "list") (u := .type "list") (by rfl) T.n_list (by decide +kernel) (by rfl)) pa_nil))))
      (pss_one (ps_expr (pe_bm PySem.F.plainAttrs_list PySem.F.slot_list_append PySem.F.type_list_append mt_append (pv 5) (pa_cons (pe_tup (pa_cons (pv 9) (pa_cons (pe_op op_add (pv 8) pe_int) pa_nil))) pa_nil))))
      pss_nil)
      (pss_one (ps_expr (pe_bm PySem.F.plainAttrs_list PySem.F.slot_list_insert PySem.F.type_list_insert mt_insert (pe_ix ix_list (pv 7) pe_int (fun _ _ => rfl)) (pa_cons (pe_call G_law_any hr1 rfl T.g_law_any T.k_law_any b_law_any .nil pass0 (pa_cons (pv 0) (pa_cons (pe_op op_add (pe_callB call_len_seq (by rfl) T.n_len PySem.boot_len (pa_cons (pe_ix ix_list (pv 7) pe_int (fun _ _ => rfl)) pa_nil)) pe_int) pa_nil))) (pa_cons (pv 9) pa_nil)))))))))
      (pss_one (ps_ret (pe_call G_law_frozen hrf rfl T.g_law_frozen T.k_law_frozen b_law_frozen .nil pass0 (pa_cons (pv 4) pa_nil))))))), ?_⟩
    -- the top
    refine ⟨_, rfl, _, rfl, d, c, D, .inl ⟨nm, _, rfl, hnm, nm1, nm2, by rw [List.length_map]; exact nl0, by rw [List.length_map]; omega, fun y H1 hy D1 b1 => ⟨Nat.zero_le _, fun k0 hk0 => ⟨(by show 2 ≤ sizeLine; decide), fun top htop => ?_⟩⟩⟩⟩
    obtain ⟨x0, hx0, rfl⟩ := List.mem_map.mp hy
    have kt : k0 ≠ top := ne_of_none upd_same htop
    refine ⟨_, rfl, (by show 2 ≤ sizeLine; decide), fun p hp => ⟨(by show 1 ≤ sizeLine; decide), fun Nd hNd => ?_⟩⟩
    have tp : top ≠ p := ne_of_none upd_same hp
    have kp : k0 ≠ p := ne_of_none (by rw [upd_ne kt, upd_same]) hp
    have pN : p ≠ Nd := ne_of_none upd_same hNd
    have tN : top ≠ Nd := ne_of_none (by rw [upd_ne tp, upd_same]) hNd
    have kN : k0 ≠ Nd := ne_of_none (by rw [upd_ne kp, upd_ne kt, upd_same]) hNd
    have f1 : H1 top = none := by
      have z := htop
      rw [upd_ne (Ne.symm kt)] at z
      exact z
    have f2 : H1 p = none := by
      have z := hp
      rw [upd_ne (Ne.symm tp), upd_ne (Ne.symm kp)] at z
      exact z
    have f3 : H1 Nd = none := by
      have z := hNd
      rw [upd_ne (Ne.symm pN), upd_ne (Ne.symm tN), upd_ne (Ne.symm kN)] at z
      exact z
    have D5 := (((D1.new (o := .lst []) hk0).new (o := .lst [.str x0, .ref k0]) htop).new (o := .tup [.ref top, .int 1]) hp).new (o := .lst [.ref p]) hNd
    have b05 : But d c H (upd (upd (upd (upd H1 k0 (.lst [])) top (.lst [.str x0, .ref k0])) p (.tup [.ref top, .int 1])) Nd (.lst [.ref p])) := (((b1.cell0 (b1.none hk0 D1)).cell0 (b1.none f1 D1)).cell0 (b1.none f2 D1)).cell0 (b1.none f3 D1)
    have e1 : (upd (upd (upd (upd H1 k0 (.lst [])) top (.lst [.str x0, .ref k0])) p (.tup [.ref top, .int 1])) Nd (.lst [.ref p])) k0 = some (.lst []) := by rw [upd_ne kN, upd_ne kp, upd_ne kt, upd_same]
    have e2 : (upd (upd (upd (upd H1 k0 (.lst [])) top (.lst [.str x0, .ref k0])) p (.tup [.ref top, .int 1])) Nd (.lst [.ref p])) top = some (.lst [.str x0, .ref k0]) := by rw [upd_ne tN, upd_ne tp, upd_same]
    have e3 : (upd (upd (upd (upd H1 k0 (.lst [])) top (.lst [.str x0, .ref k0])) p (.tup [.ref top, .int 1])) Nd (.lst [.ref p])) p = some (.tup [.ref top, .int 1]) := by rw [upd_ne pN, upd_same]
    have e4 : (upd (upd (upd (upd H1 k0 (.lst [])) top (.lst [.str x0, .ref k0])) p (.tup [.ref top, .int 1])) Nd (.lst [.ref p])) Nd = some (.lst [.ref p]) := upd_same
    generalize upd (upd (upd (upd H1 k0 (.lst [])) top (.lst [.str x0, .ref k0])) p (.tup [.ref top, .int 1])) Nd (.lst [.ref p]) = H5 at D5 b05 e1 e2 e3 e4 ⊢
    have nN := D1.ne f3
    have g0 : GSt H d c Nd H5 (.nod top k0 x0 []) [.ref p] 1 deep := by
      refine ⟨⟨e2, e1, trivial⟩, by show [k0].Nodup; simp, fun q hq z => ?_, ⟨nok x0 hx0, trivial⟩, ⟨Nat.le_refl _, by decide⟩, Nat.one_pos, Nat.le_refl _, ⟨nN.1, nN.2, b1.none f3 D1⟩, fun q hq => ?_, fun e he => ?_, (by show ((1 + 0 : Nat) : Int) ≤ deep; omega)⟩
      · have h1 : q ∈ [top] := hq
        have h2 : q ∈ [k0] := z
        rw [List.mem_singleton] at h1 h2
        exact kt (h2.symm.trans h1)
      · rcases hq with hq | hq
        · have h1 : q ∈ [top] := hq
          rw [List.mem_singleton] at h1
          rw [h1]
          exact ⟨b1.none f1 D1, (D1.ne f1).1, (D1.ne f1).2, tN⟩
        · have h1 : q ∈ [k0] := hq
          rw [List.mem_singleton] at h1
          rw [h1]
          exact ⟨b1.none hk0 D1, (D1.ne hk0).1, (D1.ne hk0).2, kN⟩
      · rw [List.mem_singleton] at he
        exact ⟨p, top, 1, k0, x0, he, e3, by show k0 ∈ [k0]; simp, by show top ∈ [top]; simp, e2, 0, rfl, m4, ⟨fun _ => rfl, trivial⟩⟩
    refine ⟨_, rfl, _, _, rfl, rfl, _, rfl, by omega, by omega, ?_⟩
    refine for_range (lo := 0) (n := ((many : Int) - 1).toNat) (fun i σ H4 => ∃ (t : AT) (xs : List V) (x6 x7 x8 x9 : Option V), σ = [some (.ref d), some (.ref nm), some (.int (many : Int)), some (.int deep), some (.ref top), some (.ref Nd), x6, x7, x8, x9] ∧ t.val = .ref top ∧ GSt H d c Nd H4 t xs (1 + i) deep ∧ H4 Nd = some (.lst xs) ∧ DealAt H4 d c ∧ But d c H H4)
      ⟨_, _, none, none, none, none, rfl, rfl, g0, e4, D5, b05⟩ ?_ ?_
    · rintro i σ H2 hi ⟨t, xs, x6, x7, x8, x9, rfl, tv, g, hN2, D2, b02⟩
      have fw := g.few
      have ps := g.pos
      refine ⟨_, rfl, _, rfl, _, rfl, _, xs, rfl, .inl (SqL.of hN2), _, _, rfl, rfl, ?_⟩
      refine ⟨_, rfl, _, rfl, _, xs, rfl, .inl (SqL.of hN2), d, c, (xs.length : Int), rfl, D2, by omega, by omega, fun r H3 r0 r1 D3 b3 => ⟨(by show 2 ≤ sizeLine; decide), fun l hl => ?_⟩⟩
      have g3 := g.keep b3 D2 hN2
      have hN3 : H3 Nd = some (.lst xs) := b3 Nd _ hN2 g.ndn.1 g.ndn.2.1
      have hN3l : (upd H3 l (.lst [.int ((xs.length : Int) - 1), .int r])) Nd = some (.lst xs) := by rw [upd_ne (ne_of_none hN3 hl)]; exact hN3
      have ln := D3.ne hl
      have g3l : GSt H d c Nd (upd H3 l (.lst [.int ((xs.length : Int) - 1), .int r])) t xs (1 + i) deep := g3.keep (fun q o e _ _ => by rw [upd_ne (ne_of_none e hl)]; exact e) D3 hN3
      refine ⟨d, c, D3.new hl, .inl ⟨l, _, rfl, upd_same, ln.1, ln.2, (by show 0 < 2; decide), (by show 2 < 1000000; decide), fun v H4 hv D4 b4 => ?_⟩⟩
      have g4 := g3l.keep b4 (D3.new hl) hN3l
      have hN4 : H4 Nd = some (.lst xs) := b4 Nd _ hN3l g.ndn.1 g.ndn.2.1
      have b04 : But d c H H4 := fun q o e n1 n2 => by
        have z := b3 q o (b02 q o e n1 n2) n1 n2
        exact b4 q o (by rw [upd_ne (ne_of_none z hl)]; exact z) n1 n2
      obtain ⟨j, hj, rfl⟩ : ∃ j : Nat, j < xs.length ∧ v = .int (j : Int) := by
        simp only [List.mem_cons, List.not_mem_nil, or_false] at hv
        rcases hv with rfl | rfl
        · exact ⟨xs.length - 1, by omega, by congr 1; omega⟩
        · obtain ⟨jj, rfl⟩ := Int.eq_ofNat_of_zero_le r0
          exact ⟨jj, by omega, rfl⟩
      have hxj : xs[j]? = some xs[j] := List.getElem?_eq_getElem hj
      obtain ⟨pp, a1, dp, k1, x1, ee, hpp, hk1, ha1, ha4, j1, ej1, dj1, lj1⟩ := g4.ent xs[j] (List.getElem_mem hj)
      rw [ee] at hxj
      refine ⟨_, _, _, _, rfl, rfl, SqL.of hN4, atI_nat hxj, pp, _, rfl, SqT.of hpp, rfl, _, _, rfl, _, _, rfl, rfl, ?_⟩
      have i99 : 1 + i + 1 ≤ 100 := by omega
      -- the new thing
      refine ⟨_, rfl, _, rfl, _, _, rfl, rfl, _, rfl, ?_⟩
      refine ite2 (fun hdd => ?_) (fun _ => ?_)
      · refine ⟨_, rfl, d, c, 3, rfl, D4, by decide, by decide, fun r4 H4' _ _ D4' b4' => ?_⟩
        replace g4 := g4.keep b4' D4 hN4
        replace hN4 : H4' Nd = some (.lst xs) := b4' Nd _ hN4 g4.ndn.1 g4.ndn.2.1
        replace ha4 : H4' a1 = some (.lst [.str x1, .ref k1]) := b4' a1 _ ha4 (g4.out a1 (.inl ha1)).2.1 (g4.out a1 (.inl ha1)).2.2.1
        replace b04 := b04.trans b4'
        clear D4 hpp b4'
        rename DealAt H4' d c => D4
        refine ⟨_, _, rfl, rfl, _, rfl, ?_⟩
        refine ite2 (fun _ => ?_) (fun _ => ?_)
        · refine ⟨_, rfl, _, rfl, d, c, D4, .inl ⟨nm, _, rfl, b04 nm _ hnm nm1 nm2, nm1, nm2, by rw [List.length_map]; omega, by rw [List.length_map]; omega, fun y2 H4b hy2 D4b b4b => ⟨Nat.zero_le _, fun kn hkn => ⟨(by show 2 ≤ sizeLine; decide), fun an han => ?_⟩⟩⟩⟩
          obtain ⟨x2, hx2, rfl⟩ := List.mem_map.mp hy2
          have akn : kn ≠ an := ne_of_none upd_same han
          have g4b := g4.keep b4b D4 hN4
          have hN4b : H4b Nd = some (.lst xs) := b4b Nd _ hN4 g4.ndn.1 g4.ndn.2.1
          have bb : But d c H4b (upd (upd H4b kn (.lst [])) an (.lst [.str x2, .ref kn])) := fun q o e _ _ => by
            have z1 := ne_of_none e hkn
            rw [upd_ne (ne_of_none (by rw [upd_ne z1]; exact e) han), upd_ne z1]
            exact e
          have D5 := (D4b.new (o := .lst []) hkn).new (o := .lst [.str x2, .ref kn]) han
          have hN5a := bb Nd _ hN4b g4.ndn.1 g4.ndn.2.1
          have g5a := (g4b.keep bb D4b hN4b).mono (Nat.le_succ _) (by omega)
          have b05a := (b04.trans b4b).trans bb
          have hk5a : (upd (upd H4b kn (.lst [])) an (.lst [.str x2, .ref kn])) kn = some (.lst []) := by rw [upd_ne akn, upd_same]
          have hn5a : (upd (upd H4b kn (.lst [])) an (.lst [.str x2, .ref kn])) an = some (.lst [.str x2, .ref kn]) := upd_same
          have ha4b : H4b a1 = some (.lst [.str x1, .ref k1]) := b4b a1 _ ha4 (g4.out a1 (.inl ha1)).2.1 (g4.out a1 (.inl ha1)).2.2.1
          have ha5a := bb a1 _ ha4b (g4.out a1 (.inl ha1)).2.1 (g4.out a1 (.inl ha1)).2.2.1
          have fresh : ∀ q, q = kn ∨ q = an → H4b q = none := fun q h => by
            rcases h with h | h
            · rw [h]
              exact hkn
            · rw [h]
              have z := han
              rw [upd_ne (Ne.symm akn)] at z
              exact z
          have fo : ∀ q, q = kn ∨ q = an → H q = none ∧ q ≠ d ∧ q ≠ c ∧ q ≠ Nd ∧ q ∉ t.na ∧ q ∉ t.ka := fun q h => by
            have f := fresh q h
            refine ⟨(b04.trans b4b).none f D4b, (D4b.ne f).1, (D4b.ne f).2, fun e => ?_, fun m => ?_, fun m => ?_⟩
            · rw [e, hN4b] at f
              cases f
            · obtain ⟨o, z⟩ := na_at t g4b.at_ q m
              rw [f] at z
              cases z
            · obtain ⟨o, z, _⟩ := ka_at t g4b.at_ q m
              rw [f] at z
              cases z
          generalize upd (upd H4b kn (.lst [])) an (.lst [.str x2, .ref kn]) = H5a at D5 g5a b05a hk5a hn5a ha5a hN5a ⊢
          refine ⟨_, rfl, _, _, _, _, true, rfl, .ty "list", .base (.lst hn5a), kit_ty (by decide +kernel), _, rfl, iteT ?_⟩
          refine ⟨_, rfl, .inl ⟨rfl, _, SqL.of hN5a⟩, _, rfl, _, rfl, _, _, rfl, rfl, (by show 2 ≤ sizeLine; decide), fun pn hpn => ?_⟩
          have pnN : Nd ≠ pn := ne_of_none hN5a hpn
          refine ⟨_, _, _, rfl, rfl, (by rw [upd_ne pnN]; exact hN5a), small1000 (by omega), ?_⟩
          have anN := (fo an (.inr rfl)).2.2.2.1
          have knN := (fo kn (.inl rfl)).2.2.2.1
          have anp : an ≠ pn := ne_of_none hn5a hpn
          have knp : kn ≠ pn := ne_of_none hk5a hpn
          have k1n := (g4.out k1 (.inr hk1))
          have a1n := (g4.out a1 (.inl ha1))
          have old : ∀ q o, H5a q = some o → q ≠ d → q ≠ c → q ≠ Nd → (upd (upd H5a pn (.tup [.ref an, .int (dp + 1)])) Nd (.lst (xs ++ [.ref pn]))) q = some o := fun q o e _ _ n3 => by
            rw [upd_ne n3, upd_ne (ne_of_none e hpn)]
            exact e
          have g5 := g5a.keepN hN5a D5 old
          have D5' := (D5.new (o := .tup [.ref an, .int (dp + 1)]) hpn).upd (o := .lst (xs ++ [.ref pn])) g4.ndn.1 g4.ndn.2.1
          have b05 : But d c H (upd (upd H5a pn (.tup [.ref an, .int (dp + 1)])) Nd (.lst (xs ++ [.ref pn]))) := (b05a.cell0 (b05a.none hpn D5)).cell0 g4.ndn.2.2
          have hN5 : (upd (upd H5a pn (.tup [.ref an, .int (dp + 1)])) Nd (.lst (xs ++ [.ref pn]))) Nd = some (.lst (xs ++ [.ref pn])) := upd_same
          have hp5 : (upd (upd H5a pn (.tup [.ref an, .int (dp + 1)])) Nd (.lst (xs ++ [.ref pn]))) pn = some (.tup [.ref an, .int (dp + 1)]) := by rw [upd_ne (Ne.symm pnN), upd_same]
          have hn5x : (upd (upd H5a pn (.tup [.ref an, .int (dp + 1)])) Nd (.lst (xs ++ [.ref pn]))) an = some (.lst [.str x2, .ref kn]) := by rw [upd_ne anN, upd_ne anp]; exact hn5a
          have hk5x : (upd (upd H5a pn (.tup [.ref an, .int (dp + 1)])) Nd (.lst (xs ++ [.ref pn]))) kn = some (.lst []) := by rw [upd_ne knN, upd_ne knp]; exact hk5a
          have ha5 := old a1 _ ha5a a1n.2.1 a1n.2.2.1 a1n.2.2.2
          have pnd := D5.ne hpn
          generalize upd (upd H5a pn (.tup [.ref an, .int (dp + 1)])) Nd (.lst (xs ++ [.ref pn])) = H5 at g5 D5' b05 hN5 hp5 hn5x hk5x ha5 ⊢
          clear D5
          rename DealAt H5 d c => D5
          let nn : AT := .nod an kn x2 []
          have hn5 : nn.At H5 := ⟨hn5x, hk5x, trivial⟩
          have hout : ∀ q, q ∈ nn.na ∨ q ∈ nn.ka → H q = none ∧ q ≠ d ∧ q ≠ c ∧ q ≠ Nd ∧ q ∉ t.na ∧ q ∉ t.ka := fun q h => by
            have h' : q ∈ [an] ∨ q ∈ [kn] := h
            simp only [List.mem_singleton] at h'
            exact fo q h'.symm
          have hno : nn.ok := ⟨nok x2 hx2, trivial⟩
          have hnd : nn.ka.Nodup := by
            show [kn].Nodup
            simp
          have hnds : ∀ q ∈ nn.na, q ∉ nn.ka := fun q h z => by
            have h1 : q ∈ [an] := h
            have h2 : q ∈ [kn] := z
            rw [List.mem_singleton] at h1 h2
            exact akn (h2.symm.trans h1)
          have hcn : t.cnt + nn.cnt ≤ 1 + i + 1 := Nat.add_le_add_right g4.cnt.1 1
          have ank1 : an ≠ k1 := fun e => (fo an (.inr rfl)).2.2.2.2.2 (by rw [e]; exact hk1)
          have pk1 : pn ≠ k1 := fun e => by
            obtain ⟨vs, z, _⟩ := ka_at t g5.at_ k1 hk1
            rw [← e, hp5] at z
            cases z

          -- put in
          obtain ⟨vs, hk5, lv⟩ := ka_at t g5.at_ k1 hk1
          have cm := g5.cnt
          refine ⟨_, rfl, _, _, _, _, rfl, rfl, SqL.of ha5, atI_nat (j := 1) rfl, .inl ⟨rfl, _, SqL.of hk5⟩, ?_⟩
          refine ⟨_, rfl, _, rfl, _, _, _, _, rfl, rfl, SqL.of ha5, atI_nat (j := 1) rfl, _, vs, rfl, .inl (SqL.of hk5), _, _, rfl, rfl, ?_⟩
          refine ⟨d, c, (vs.length : Int) + 1, rfl, D5, by omega, by omega, fun r6 H6 q0 q1 D6 b6 => ?_⟩
          have g6 := g5.keep b6 D5 hN5
          have hN6 := b6 Nd _ hN5 g5.ndn.1 g5.ndn.2.1
          have n6 := AT.keep b6 nn hn5 (fun q hq => (hout q hq).2.1) (fun q hq => (hout q hq).2.2.1)
          have ko := g5.out k1 (.inr hk1)
          have hk6 : H6 k1 = some (.lst vs) := b6 k1 _ hk5 ko.2.1 ko.2.2.1
          have hp6 : H6 pn = some (.tup [.ref an, .int (dp + 1)]) := b6 pn _ hp5 pnd.1 pnd.2
          have hn6 : H6 an = some (.lst [.str x2, .ref kn]) := b6 an _ hn5x (fo an (.inr rfl)).2.1 (fo an (.inr rfl)).2.2.1
          refine ⟨_, rfl, _, _, r6, _, rfl, rfl, hk6, small1000 (by omega), q0, by omega, ?_⟩
          have e9 : vs.take r6.toNat ++ [V.ref an] ++ vs.drop r6.toNat = vs.take r6.toNat ++ nn.val :: vs.drop r6.toNat := by
            show _ = vs.take r6.toNat ++ V.ref an :: vs.drop r6.toNat
            simp
          rw [e9]
          have g7 := g6.put (i := r6.toNat) hk1 hk6 n6 hno hnd hnds hout hcn lj1 (by have := of_decide_eq_true hdd; show (j1 : Int) + 1 + ((1 + 0 : Nat) : Int) ≤ deep; omega)
          have hN7 : (upd H6 k1 (.lst (vs.take r6.toNat ++ nn.val :: vs.drop r6.toNat))) Nd = some (.lst (xs ++ [.ref pn])) := by rw [upd_ne (Ne.symm ko.2.2.2)]; exact hN6
          have pn7 : (upd H6 k1 (.lst (vs.take r6.toNat ++ nn.val :: vs.drop r6.toNat))) pn = some (.tup [.ref an, .int (dp + 1)]) := by rw [upd_ne pk1]; exact hp6
          have an7 : (upd H6 k1 (.lst (vs.take r6.toNat ++ nn.val :: vs.drop r6.toNat))) an = some (.lst [.str x2, .ref kn]) := by rw [upd_ne ank1]; exact hn6
          have pin := put_in (i := r6.toNat) (n := nn) t hk1
          exact ⟨putT k1 r6.toNat nn t, _, _, _, _, _, rfl, (put_val t).trans tv, g7.add pn7 (pin.1 kn (by show kn ∈ [kn]; simp)) (pin.2 an (by show an ∈ [an]; simp)) an7 (by omega) ⟨j1 + 1, by omega, (by have := of_decide_eq_true hdd; omega), put_lvn 0 t ((fo kn (.inl rfl)).2.2.2.2.2) lj1⟩, hN7, D6.upd ko.2.1 ko.2.2.1, (b05.trans b6).cell0 ko.1⟩

        · refine ⟨_, rfl, d, c, rfl, D4, fun z H5 hz D5 b5 => ?_⟩
          have hN5 : H5 Nd = some (.lst xs) := b5 Nd _ hN4 g4.ndn.1 g4.ndn.2.1
          have g5 := (g4.keep b5 D4 hN4).mono (Nat.le_succ _) (by omega)
          have b05 := b04.trans b5
          have ha5 : H5 a1 = some (.lst [.str x1, .ref k1]) := b5 a1 _ ha4 (g4.out a1 (.inl ha1)).2.1 (g4.out a1 (.inl ha1)).2.2.1
          refine ⟨_, rfl, _, _, _, _, false, rfl, .ty "list", .base (.str z), kit_ty (by decide +kernel), _, rfl, iteF ?_⟩
          let nn : AT := .txt z
          have hn5 : nn.At H5 := trivial
          have hout : ∀ q, q ∈ nn.na ∨ q ∈ nn.ka → H q = none ∧ q ≠ d ∧ q ≠ c ∧ q ≠ Nd ∧ q ∉ t.na ∧ q ∉ t.ka := fun q h => by
            have h' : q ∈ ([] : List Addr) ∨ q ∈ ([] : List Addr) := h
            simp at h'
          have hno : nn.ok := hz
          have hnd : nn.ka.Nodup := List.nodup_nil
          have hnds : ∀ q ∈ nn.na, q ∉ nn.ka := fun q h => by
            have h' : q ∈ ([] : List Addr) := h
            simp at h'
          have hcn : t.cnt + nn.cnt ≤ 1 + i + 1 := Nat.add_le_add_right g4.cnt.1 1

          -- put in
          obtain ⟨vs, hk5, lv⟩ := ka_at t g5.at_ k1 hk1
          have cm := g5.cnt
          refine ⟨_, rfl, _, _, _, _, rfl, rfl, SqL.of ha5, atI_nat (j := 1) rfl, .inl ⟨rfl, _, SqL.of hk5⟩, ?_⟩
          refine ⟨_, rfl, _, rfl, _, _, _, _, rfl, rfl, SqL.of ha5, atI_nat (j := 1) rfl, _, vs, rfl, .inl (SqL.of hk5), _, _, rfl, rfl, ?_⟩
          refine ⟨d, c, (vs.length : Int) + 1, rfl, D5, by omega, by omega, fun r6 H6 q0 q1 D6 b6 => ?_⟩
          have g6 := g5.keep b6 D5 hN5
          have hN6 := b6 Nd _ hN5 g5.ndn.1 g5.ndn.2.1
          have n6 := AT.keep b6 nn hn5 (fun q hq => (hout q hq).2.1) (fun q hq => (hout q hq).2.2.1)
          have ko := g5.out k1 (.inr hk1)
          have hk6 : H6 k1 = some (.lst vs) := b6 k1 _ hk5 ko.2.1 ko.2.2.1

          refine ⟨_, rfl, _, _, r6, _, rfl, rfl, hk6, small1000 (by omega), q0, by omega, ?_⟩
          have e9 : vs.take r6.toNat ++ [V.str z] ++ vs.drop r6.toNat = vs.take r6.toNat ++ nn.val :: vs.drop r6.toNat := by
            show _ = vs.take r6.toNat ++ V.str z :: vs.drop r6.toNat
            simp
          rw [e9]
          have g7 := g6.put (i := r6.toNat) hk1 hk6 n6 hno hnd hnds hout hcn lj1 (by show (j1 : Int) + 1 + ((0 : Nat) : Int) ≤ deep; omega)
          have hN7 : (upd H6 k1 (.lst (vs.take r6.toNat ++ nn.val :: vs.drop r6.toNat))) Nd = some (.lst (xs)) := by rw [upd_ne (Ne.symm ko.2.2.2)]; exact hN6
          exact ⟨putT k1 r6.toNat nn t, _, _, _, _, _, rfl, (put_val t).trans tv, g7, hN7, D6.upd ko.2.1 ko.2.2.1, (b05.trans b6).cell0 ko.1⟩

      · refine ⟨_, rfl, d, c, rfl, D4, fun z H5 hz D5 b5 => ?_⟩
        have hN5 : H5 Nd = some (.lst xs) := b5 Nd _ hN4 g4.ndn.1 g4.ndn.2.1
        have g5 := (g4.keep b5 D4 hN4).mono (Nat.le_succ _) (by omega)
        have b05 := b04.trans b5
        have ha5 : H5 a1 = some (.lst [.str x1, .ref k1]) := b5 a1 _ ha4 (g4.out a1 (.inl ha1)).2.1 (g4.out a1 (.inl ha1)).2.2.1
        refine ⟨_, rfl, _, _, _, _, false, rfl, .ty "list", .base (.str z), kit_ty (by decide +kernel), _, rfl, iteF ?_⟩
        let nn : AT := .txt z
        have hn5 : nn.At H5 := trivial
        have hout : ∀ q, q ∈ nn.na ∨ q ∈ nn.ka → H q = none ∧ q ≠ d ∧ q ≠ c ∧ q ≠ Nd ∧ q ∉ t.na ∧ q ∉ t.ka := fun q h => by
          have h' : q ∈ ([] : List Addr) ∨ q ∈ ([] : List Addr) := h
          simp at h'
        have hno : nn.ok := hz
        have hnd : nn.ka.Nodup := List.nodup_nil
        have hnds : ∀ q ∈ nn.na, q ∉ nn.ka := fun q h => by
          have h' : q ∈ ([] : List Addr) := h
          simp at h'
        have hcn : t.cnt + nn.cnt ≤ 1 + i + 1 := Nat.add_le_add_right g4.cnt.1 1

        -- put in
        obtain ⟨vs, hk5, lv⟩ := ka_at t g5.at_ k1 hk1
        have cm := g5.cnt
        refine ⟨_, rfl, _, _, _, _, rfl, rfl, SqL.of ha5, atI_nat (j := 1) rfl, .inl ⟨rfl, _, SqL.of hk5⟩, ?_⟩
        refine ⟨_, rfl, _, rfl, _, _, _, _, rfl, rfl, SqL.of ha5, atI_nat (j := 1) rfl, _, vs, rfl, .inl (SqL.of hk5), _, _, rfl, rfl, ?_⟩
        refine ⟨d, c, (vs.length : Int) + 1, rfl, D5, by omega, by omega, fun r6 H6 q0 q1 D6 b6 => ?_⟩
        have g6 := g5.keep b6 D5 hN5
        have hN6 := b6 Nd _ hN5 g5.ndn.1 g5.ndn.2.1
        have n6 := AT.keep b6 nn hn5 (fun q hq => (hout q hq).2.1) (fun q hq => (hout q hq).2.2.1)
        have ko := g5.out k1 (.inr hk1)
        have hk6 : H6 k1 = some (.lst vs) := b6 k1 _ hk5 ko.2.1 ko.2.2.1

        refine ⟨_, rfl, _, _, r6, _, rfl, rfl, hk6, small1000 (by omega), q0, by omega, ?_⟩
        have e9 : vs.take r6.toNat ++ [V.str z] ++ vs.drop r6.toNat = vs.take r6.toNat ++ nn.val :: vs.drop r6.toNat := by
          show _ = vs.take r6.toNat ++ V.str z :: vs.drop r6.toNat
          simp
        rw [e9]
        have g7 := g6.put (i := r6.toNat) hk1 hk6 n6 hno hnd hnds hout hcn lj1 (by show (j1 : Int) + 1 + ((0 : Nat) : Int) ≤ deep; omega)
        have hN7 : (upd H6 k1 (.lst (vs.take r6.toNat ++ nn.val :: vs.drop r6.toNat))) Nd = some (.lst (xs)) := by rw [upd_ne (Ne.symm ko.2.2.2)]; exact hN6
        exact ⟨putT k1 r6.toNat nn t, _, _, _, _, _, rfl, (put_val t).trans tv, g7, hN7, D6.upd ko.2.1 ko.2.2.1, (b05.trans b6).cell0 ko.1⟩

    · rintro σ H2 ⟨t, xs, x6, x7, x8, x9, rfl, tv, g, hN2, D2, b02⟩
      have ct := g.cnt
      have nt := nds_le t
      cases t with
      | txt z => cases tv
      | nod a1 k1 x1 ts =>
        refine ⟨_, rfl, _, (Trk H), (by rw [tv]; rfl), fun a h => ?_, g.at_, by omega, by omega, fun u H3 du s3 => k u a1 k1 x1 ts H3 g.ok (by omega) g.hgt du ?_ ?_⟩
        · obtain ⟨o, e⟩ := h
          by_cases h1 : a = d
          · rw [h1]
            exact D2.trk.1
          · by_cases h2 : a = c
            · rw [h2]
              exact D2.trk.2
            · exact ⟨o, b02 a o e h1 h2⟩
        · obtain ⟨cs, b, h1, h2, r⟩ := D2.ex
          exact ⟨cs, b, s3 _ _ h1, s3 _ _ h2, r⟩
        · exact fun q o e n1 n2 => s3 q o (b02 q o e n1 n2)
end
end K1

/-! drawn names -/
namespace K1
open PySem L2 Xr
abbrev sNames : Stmt := top 30
theorem scNames : FnScope ["deal", "many", "letters", "stem", "at", "first", "more", "found", "number", "tail", "turn"] ["deal", "many"] (defScope sNames) := ⟨rfl, rfl, rfl, by decide +kernel, rfl, by decide +kernel, by decide +kernel⟩
theorem From.app {S : List Nat} {n m : Nat} {a b : Str} (ha : From S n a) (hb : From S m b) : From S (n + m) (a ++ b) := by
  refine ⟨by rw [strLen_append, ha.len, hb.len], fun ch h => ?_⟩
  rw [cps_app] at h
  rcases List.mem_append.mp h with h | h
  · exact ha.sub ch h
  · exact hb.sub ch h
theorem cut_from {S : List Nat} {n i : Nat} {z : Str} (h : From S n z) (hi : i ≤ n) : From S i (cutS z none (some (i : Int))) ∧ From S (n - i) (cutS z (some (i : Int)) none) := by
  have e1 : HT.sIx z.length z.length (some (i : Int)) = i := by
    rw [HT.sIx_nat, h.len]
    omega
  have e2 : HT.sIx z.length 0 (some (i : Int)) = i := by
    rw [HT.sIx_nat, h.len]
    omega
  have l : z.cps.toList.length = n := by
    have := h.len
    show z.cps.toList.length = n
    rw [Array.length_toList]
    exact this
  have a1 : cutS z none (some (i : Int)) = ⟨((z.cps.toList.drop 0).take (i - 0)).toArray⟩ := by
    unfold cutS
    rw [e1]
    rfl
  have a2 : cutS z (some (i : Int)) none = ⟨((z.cps.toList.drop i).take (z.length - i)).toArray⟩ := by
    unfold cutS
    rw [e2]
    rfl
  refine ⟨⟨?_, fun ch hc => ?_⟩, ⟨?_, fun ch hc => ?_⟩⟩
  · rw [a1]
    show (((z.cps.toList.drop 0).take (i - 0)).toArray).size = i
    rw [List.size_toArray, List.length_take, List.length_drop]
    omega
  · rw [a1] at hc
    have hc' : ch ∈ ((z.cps.toList.drop 0).take (i - 0)) := by simpa using hc
    exact h.sub ch (List.mem_of_mem_drop (List.mem_of_mem_take hc'))
  · rw [a2]
    show (((z.cps.toList.drop i).take (z.length - i)).toArray).size = n - i
    rw [List.size_toArray, List.length_take, List.length_drop, h.len]
    omega
  · rw [a2] at hc
    have hc' : ch ∈ ((z.cps.toList.drop i).take (z.length - i)) := by simpa using hc
    exact h.sub ch (List.mem_of_mem_drop (List.mem_of_mem_take hc'))
theorem From.name {n : Nat} {z : Str} (h : From abc.cps.toList n z) (h1 : 1 ≤ n) (h8 : n ≤ 8) : nameD (.str z) = true := by
  show (decide (z.length ≠ 0) && (decide (z.length ≤ 8) && hasOnly z abc)) = true
  rw [h.has, h.len, decide_eq_true (show n ≠ 0 by omega), decide_eq_true h8]
  rfl
theorem sum_from {S : List Nat} : ∀ l : List Str, (∀ y ∈ l, From S 1 y) → (l.map (·.length)).sum + l.length * (Str.ofString "").length ≤ l.length := by
  intro l
  have l0 : (Str.ofString "").length = 0 := by decide
  rw [l0]
  induction l with
  | nil => intro _; exact Nat.le_refl _
  | cons y l ih =>
    intro h
    have := ih fun x hx => h x (List.mem_cons_of_mem _ hx)
    have := (h y (by simp)).len
    simp only [List.map_cons, List.sum_cons, List.length_cons] at *
    omega
def spNames : Sp := fun vs H Q _ => ∃ (d c : Addr) (many : Nat), vs = [.ref d, .int (many : Int)] ∧ DealAt H d c ∧ 1 ≤ many ∧ many < 60 ∧
  ∀ (p : Addr) (ns : List Str) (H' : Hp), H' p = some (.lst (ns.map V.str)) → H p = none → ns.length = many → (∀ x ∈ ns, nameD (.str x) = true) → DealAt H' d c → But d c H H' → Q (.ref p) H'
structure NamesTxt (K : PySem.W.Frag) (mg : Str → Option Value) (a_law_any a_law_of : Addr) : Prop where
  n_sorted : mg "sorted" = none
  n_range : mg "range" = none
  n_int : mg "int" = none
  n_len : mg "len" = none
  g_law_of : mg "_law_of" = some (.ref a_law_of)
  k_law_of : PySem.W.keepIn K (.ref a_law_of) = true
  g_law_any : mg "_law_any" = some (.ref a_law_any)
  k_law_any : PySem.W.keepIn K (.ref a_law_any) = true
section
variable {P : Program} {w : World} {K : PySem.W.Frag} {mg : Str → Option Value} {base : Heap} {a_law_any a_law_of : Addr} {fdA fdO : FuncData}
theorem ok_names {f : Addr} {fd : FuncData} (F : Fun K "_law_names" "_law_names" sNames f fd) (T : NamesTxt K mg a_law_any a_law_of)
    (G_law_any : FnOk P w K mg base CX0 1 a_law_any fdA ["deal", "bound"] spAny) (b_law_any : Binds K fdA ["deal", "bound"] [])
    (G_law_of : FnOk P w K mg base CX0 2 a_law_of fdO ["deal", "some"] spOf) (b_law_of : Binds K fdO ["deal", "some"] []) : FnOk P w K mg base CX0 3 f fd ["deal", "many"] spNames := by
  refine F.ok scNames (fun vs H Q E h => ?_) (fun cdv A outer s H vs Q E hr h => ?_)
  · obtain ⟨d, c, many, rfl, _⟩ := h
    rfl
  · obtain ⟨d, c, many, rfl, D, m1, m2, k⟩ := h
    have hr1 : Room 1 _ := hr.mono (by decide)
    have hr2 : Room 2 _ := hr
    refine ⟨_, (pss_cons (ps_set (i := 2) scNames.nd rfl (Or.inr rfl) pe_str)
      (pss_cons (ps_set (i := 3) scNames.nd rfl (Or.inl rfl) (pe_join pe_str (pe_lc (own := [("turn", 10)]) (g := gName 10) (tt := tYes) (by rfl) scNames.nd (pi_range1 (by rfl) T.n_range (pa_cons (pe_call G_law_any hr1 rfl T.g_law_any T.k_law_any b_law_any .nil pass0 (pa_cons (pv 0) (pa_cons pe_int pa_nil))) pa_nil)) (blkOk_by (own := [("turn", 10)]) (N := ["deal", "many", "letters", "stem", "at", "first", "more", "found", "number", "tail", "turn"]) (sc := defScope sNames) (by decide +kernel)) (fun _ _ _ _ _ => pg_name (i := 10) scNames.nd rfl (Or.inl rfl)) (fun _ _ _ _ _ => pts_nil) (fun _ _ _ _ _ => (pe_call G_law_of hr2 rfl T.g_law_of T.k_law_of b_law_of .nil pass0 (pa_cons (pv 0) (pa_cons (pv 2) pa_nil)))))))
      (pss_cons (ps_asg (pe_tup (pa_cons (pe_call G_law_any hr1 rfl T.g_law_any T.k_law_any b_law_any .nil pass0 (pa_cons (pv 0) (pa_cons (pe_op op_add (pe_callB call_len_str (by rfl) T.n_len PySem.boot_len (pa_cons (pv 3) pa_nil)) pe_int) pa_nil))) (pa_cons (pe_call G_law_any hr1 rfl T.g_law_any T.k_law_any b_law_any .nil pass0 (pa_cons (pv 0) (pa_cons pe_int pa_nil))) (pa_cons (pe_call G_law_any hr1 rfl T.g_law_any T.k_law_any b_law_any .nil pass0 (pa_cons (pv 0) (pa_cons pe_int pa_nil))) (pa_cons (pe_lst pa_nil) pa_nil))))) (pg_tup (by rfl) (pgs_cons (pg_name (i := 4) scNames.nd rfl (Or.inl rfl)) (pgs_cons (pg_name (i := 5) scNames.nd rfl (Or.inl rfl)) (pgs_cons (pg_name (i := 6) scNames.nd rfl (Or.inl rfl)) (pgs_cons (pg_name (i := 7) scNames.nd rfl (Or.inl rfl)) pgs_nil))))))
      (pss_cons (ps_for PassesOwn.never rfl (pi_range1 (by rfl) T.n_range (pa_cons (pv 1) pa_nil)) (pg_name (i := 8) scNames.nd rfl (Or.inl rfl))
      (pss_cons (ps_set (i := 9) scNames.nd rfl (Or.inl rfl) (pe_join pe_str (pe_lc (own := [("turn", 10)]) (g := gName 10) (tt := tYes) (by rfl) scNames.nd (pi_range1 (by rfl) T.n_range (pa_cons (pv 6) pa_nil)) (blkOk_by (own := [("turn", 10)]) (N := ["deal", "many", "letters", "stem", "at", "first", "more", "found", "number", "tail", "turn"]) (sc := defScope sNames) (by decide +kernel)) (fun _ _ _ _ _ => pg_name (i := 10) scNames.nd rfl (Or.inl rfl)) (fun _ _ _ _ _ => pts_nil) (fun _ _ _ _ _ => (pe_call G_law_of hr2 rfl T.g_law_of T.k_law_of b_law_of .nil pass0 (pa_cons (pv 0) (pa_cons (pv 2) pa_nil)))))))
      (pss_one (ps_expr (pe_bm PySem.F.plainAttrs_list PySem.F.slot_list_append PySem.F.type_list_append mt_append (pv 7) (pa_cons (pe_op op_add_str (pe_op op_add_str (pe_op op_add_str (pe_slice sl_str (pv 3) po_none (po_some (pv 4))) (pe_ix ix_str (pv 2) (pe_op op_mod (pe_callTy call_int1 (by rfl) T.n_int (by decide +kernel) (pa_cons (pe_op op_add (pv 5) (pv 8)) pa_nil)) pe_int) (fun _ _ => rfl))) (pe_slice sl_str (pv 3) (po_some (pv 4)) po_none)) (pv 9)) pa_nil))))))
      (pss_one (ps_ret (pe_callB cr_sortedS (by rfl) T.n_sorted (by decide +kernel) (pa_cons (pv 7) pa_nil)))))))), ?_⟩
    have l26 : abc.length = 26 := by decide
    have c26 : abc.cps.toList.length = 26 := by decide +kernel
    -- the stem
    refine ⟨⟨_, rfl⟩, _, rfl, d, c, 6, rfl, D, by decide, by decide, fun r H1 r0 r1 D1 b1 => ⟨_, rfl, by omega, by omega, fun L hL => ?_⟩⟩
    obtain ⟨Ld, Lc⟩ := D1.ne hL
    have HL : H L = none := b1.none hL D1
    refine lc_range (lo := 0) (n := r.toNat) (fun i H4 => ∃ ys : List Str, H4 L = some (.lst (ys.map V.str)) ∧ ys.length = i ∧ (∀ y ∈ ys, From abc.cps.toList 1 y) ∧ DealAt H4 d c ∧ But d c H H4) ⟨[], upd_same, rfl, by simp, D1.new hL, b1.cell0 HL⟩ ?_ ?_
    · rintro i H4 hi ⟨ys, y1, y2, y3, D4, b4⟩
      refine ⟨rfl, _, rfl, _, rfl, d, c, D4, .inr ⟨_, rfl, by decide, by decide, fun ch H5 hc D5 b5 => ?_⟩⟩
      have y1' := b5 L _ y1 Ld Lc
      refine ⟨_, y1', small1000 (by rw [List.length_map]; omega), ys ++ [⟨#[ch]⟩], ?_, by simp [y2], ?_, D5.upd Ld Lc, (b4.trans b5).cell0 HL⟩
      · rw [upd_same]
        simp
      · intro y hy
        rcases List.mem_append.mp hy with hy | hy
        · exact y3 y hy
        · rw [List.mem_singleton] at hy
          subst hy
          refine ⟨rfl, fun c2 h2 => ?_⟩
          have e : c2 = ch := by simpa using h2
          rw [e]
          exact hc
    rintro H2 ⟨ys, y1, y2, y3, D2, b2⟩
    refine ⟨_, L, ys, rfl, rfl, .inl (SqL.of y1), by have := sum_from ys y3; omega, ?_⟩
    have st : From abc.cps.toList ys.length (Txt.join (Str.ofString "") ys) := by
      show From _ _ (Builtin.Str.glued (Str.ofString "") ys)
      rw [StrLaws.glued_eq_join]
      exact join_from ys y3
    have ls : ys.length ≤ 5 := by omega
    generalize Txt.join (Str.ofString "") ys = stem at st ⊢
    generalize ys.length = sl at st ls y2
    clear y1 y3 b1 D1 HL Ld Lc hL
    have sl2 := st.len
    -- at, first, more, found
    refine ⟨_, rfl, _, rfl, _, rfl, (by rw [sizeLine_eq]; omega), _, _, rfl, rfl, d, c, (stem.length : Int) + 1, rfl, D2, by omega, by omega, fun at0 H3 a0 a1 D3 b3 => ?_⟩
    refine ⟨_, rfl, d, c, 26, rfl, D3, by decide, by decide, fun fi H4 f0 f1 D4 b4 => ?_⟩
    refine ⟨_, rfl, d, c, 3, rfl, D4, by decide, by decide, fun mo H5 g0 g1 D5 b5 => ⟨Nat.zero_le _, fun Fd hFd => ⟨(by show 4 ≤ sizeLine; decide), fun tp htp => ?_⟩⟩⟩
    refine ⟨tp, _, rfl, SqT.of upd_same, rfl, _, _, rfl, _, _, rfl, _, _, rfl, _, _, rfl, rfl, ?_⟩
    have Ft : Fd ≠ tp := ne_of_none upd_same htp
    have b25 := ((b2.trans b3).trans b4).trans b5
    have Fn := D5.ne hFd
    have HF : H Fd = none := b25.none hFd D5
    have ft : H5 tp = none := by
      have z := htp
      rw [upd_ne (Ne.symm Ft)] at z
      exact z
    have D6 := (D5.new (o := .lst []) hFd).new (o := .tup [.int at0, .int fi, .int mo, .ref Fd]) htp
    have b6 : But d c H (upd (upd H5 Fd (.lst [])) tp (.tup [.int at0, .int fi, .int mo, .ref Fd])) := (b25.cell0 HF).cell0 (b25.none ft D5)
    have h6 : (upd (upd H5 Fd (.lst [])) tp (.tup [.int at0, .int fi, .int mo, .ref Fd])) Fd = some (.lst []) := by rw [upd_ne Ft, upd_same]
    generalize upd (upd H5 Fd (.lst [])) tp (.tup [.int at0, .int fi, .int mo, .ref Fd]) = H6 at D6 b6 h6 ⊢
    obtain ⟨ai, rfl⟩ := Int.eq_ofNat_of_zero_le a0
    refine ⟨_, rfl, _, rfl, by omega, by omega, ?_⟩
    refine for_range (lo := 0) (n := (many : Int).toNat) (fun i σ H7 => ∃ (ns : List Str) (x8 x9 x10 : Option V), σ = [some (.ref d), some (.int (many : Int)), some (.str abc), some (.str stem), some (.int (ai : Int)), some (.int fi), some (.int mo), some (.ref Fd), x8, x9, x10] ∧ H7 Fd = some (.lst (ns.map V.str)) ∧ ns.length = i ∧ (∀ x ∈ ns, nameD (.str x) = true) ∧ DealAt H7 d c ∧ But d c H H7)
      ⟨[], none, none, none, rfl, h6, rfl, by simp, D6, b6⟩ ?_ ?_
    · rintro i σ H7 hi ⟨ns, x8, x9, x10, rfl, h7, n7, o7, D7, b7⟩
      refine ⟨⟨_, rfl⟩, _, rfl, _, rfl, by omega, by omega, fun L2 hL2 => ?_⟩
      obtain ⟨Ld2, Lc2⟩ := D7.ne hL2
      have HL2 : H L2 = none := b7.none hL2 D7
      have FL : Fd ≠ L2 := ne_of_none h7 hL2
      refine lc_range (lo := 0) (n := mo.toNat) (fun i H4 => ∃ ys : List Str, H4 L2 = some (.lst (ys.map V.str)) ∧ ys.length = i ∧ (∀ y ∈ ys, From abc.cps.toList 1 y) ∧ H4 Fd = some (.lst (ns.map V.str)) ∧ DealAt H4 d c ∧ But d c H H4) ⟨[], upd_same, rfl, by simp, by rw [upd_ne FL]; exact h7, D7.new hL2, b7.cell0 HL2⟩ ?_ ?_
      · rintro i H4 hi ⟨ys, y1, y2, y3, y4, D4, b4⟩
        refine ⟨rfl, _, rfl, _, rfl, d, c, D4, .inr ⟨_, rfl, by decide, by decide, fun ch H5 hc D5 b5 => ?_⟩⟩
        have y1' := b5 L2 _ y1 Ld2 Lc2
        refine ⟨_, y1', small1000 (by rw [List.length_map]; omega), ys ++ [⟨#[ch]⟩], ?_, by simp [y2], ?_, by rw [upd_ne FL]; exact b5 Fd _ y4 Fn.1 Fn.2, D5.upd Ld2 Lc2, (b4.trans b5).cell0 HL2⟩
        · rw [upd_same]
          simp
        · intro y hy
          rcases List.mem_append.mp hy with hy | hy
          · exact y3 y hy
          · rw [List.mem_singleton] at hy
            subst hy
            refine ⟨rfl, fun c2 h2 => ?_⟩
            have e : c2 = ch := by simpa using h2
            rw [e]
            exact hc
      · rintro H8 ⟨ys, y1, y2, y3, y4, D8, b8⟩
        refine ⟨_, L2, ys, rfl, rfl, .inl (SqL.of y1), by have := sum_from ys y3; omega, ?_⟩
        have tl : From abc.cps.toList ys.length (Txt.join (Str.ofString "") ys) := by
          show From _ _ (Builtin.Str.glued (Str.ofString "") ys)
          rw [StrLaws.glued_eq_join]
          exact join_from ys y3
        have lt : ys.length ≤ 2 := by omega
        generalize Txt.join (Str.ofString "") ys = tail at tl ⊢
        generalize ys.length = tn at tl lt y2
        have hai : ai ≤ sl := by omega
        obtain ⟨c1, c2⟩ := cut_from st hai
        have mm : ∃ jj : Nat, (fi + (0 + (i : Int))) % 26 = (jj : Int) ∧ jj < 26 := by
          obtain ⟨jj, e⟩ := Int.eq_ofNat_of_zero_le (Int.emod_nonneg (fi + (0 + (i : Int))) (by decide : (26 : Int) ≠ 0))
          have := Int.emod_lt_of_pos (fi + (0 + (i : Int))) (by decide : (0 : Int) < 26)
          exact ⟨jj, e, by omega⟩
        obtain ⟨jj, ej, lj⟩ := mm
        have hj : abc.cps.toList[jj]? = some abc.cps.toList[jj] := List.getElem?_eq_getElem (by omega)
        have mj : abc.cps.toList[jj] ∈ abc.cps.toList := List.getElem_mem (by omega)
        generalize abc.cps.toList[jj]'(by omega) = ch at hj mj
        have one : From abc.cps.toList 1 (⟨#[ch]⟩ : Str) := ⟨rfl, fun c2 h2 => by
          have e : c2 = ch := by simpa using h2
          rw [e]
          exact mj⟩
        have w1 := c1.app one
        have w2 := w1.app c2
        have w3 := w2.app tl
        refine ⟨_, rfl, .inl ⟨rfl, _, SqL.of y4⟩, _, rfl, _, rfl, _, rfl, stem, rfl, (by rw [sizeLine_eq]; omega), ?_⟩
        refine ⟨_, rfl, _, rfl, _, rfl, _, _, rfl, rfl, .inl ⟨_, rfl, _, _, rfl, rfl, (by show (0 : Int) < 26; decide), ?_⟩⟩
        refine ⟨_, _, ch, rfl, rfl, (by rw [sizeLine_eq, l26]; omega), (show atI abc.cps.toList ((fi + (0 + (i : Int))) % 26) = some ch by rw [ej]; exact atI_nat hj), ?_⟩
        refine ⟨_, _, rfl, rfl, (by rw [sizeLine_eq, c1.len, one.len]; omega), ?_⟩
        refine ⟨_, rfl, _, rfl, _, rfl, stem, rfl, (by rw [sizeLine_eq]; omega), _, _, rfl, rfl, (by rw [sizeLine_eq, w1.len, c2.len]; omega), ?_⟩
        refine ⟨_, rfl, _, _, rfl, rfl, (by rw [sizeLine_eq, w2.len, tl.len]; omega), ?_⟩
        refine ⟨_, _, _, rfl, rfl, y4, small1000 (by rw [List.length_map]; omega), ns ++ [cutS stem none (some (ai : Int)) ++ (⟨#[ch]⟩ : Str) ++ cutS stem (some (ai : Int)) none ++ tail], some (.int (0 + (i : Int))), some (.str tail), x10, rfl, ?_, by simp [n7], ?_, D8.upd Fn.1 Fn.2, b8.cell0 HF⟩
        · rw [upd_same, List.map_append]
          rfl
        · intro x hx
          rcases List.mem_append.mp hx with hx | hx
          · exact o7 x hx
          · rw [List.mem_singleton] at hx
            rw [hx]
            exact w3.name (by omega) (by omega)
    · rintro σ H7 ⟨ns, x8, x9, x10, rfl, h7, n7, o7, D7, b7⟩
      have nm : ns.length = many := by omega
      refine ⟨_, rfl, Fd, ns, rfl, SqL.of h7, by omega, fun zs p pm _ hp => ?_⟩
      exact k p zs _ upd_same (b7.none hp D7) (by rw [pm.length_eq, nm]) (fun x hx => o7 x (pm.mem_iff.mp hx)) (D7.new hp) (b7.cell0 (b7.none hp D7))
end
end K1

/-! pairs, numbers -/
namespace K1
open PySem L2 Xr
def pairD : PyData → Bool
  | .tuple [d0, d1] => nameD d0 && isTup d1
  | _ => false
def numD : PyData → Bool
  | .int i => decide (0 ≤ i)
  | _ => false
def spPair (K : PySem.W.Frag) : Sp := fun vs H Q _ => ∃ (v : V) (d : PyData) (N : Addr → Prop), vs = [v] ∧ Dm K N H v d ∧ (∀ z d1, d = .tuple [.str z, d1] → z.length ≤ 900000) ∧ ∀ H', Same H H' → Q (.bl (pairD d)) H'
def spNum (K : PySem.W.Frag) : Sp := fun vs H Q _ => ∃ (v : V) (d : PyData) (N : Addr → Prop), vs = [v] ∧ Dm K N H v d ∧ Q (.bl (numD d)) H
structure PairTxt (K : PySem.W.Frag) (mg : Str → Option Value) (a_is_name : Addr) : Prop where
  n_isinstance : mg "isinstance" = none
  n_tuple : mg "tuple" = none
  n_int : mg "int" = none
  n_bool : mg "bool" = none
  n_len : mg "len" = none
section
variable {P : Program} {w : World} {K : PySem.W.Frag} {mg : Str → Option Value} {base : Heap} {a_is_name : Addr} {fdN : FuncData}
end
end K1

/-! how great data is; displays of data -/
namespace K1
open PySem L2 Xr
mutual
def wt : PyData → Nat
  | .str z => 1 + z.length
  | .list ds => 1 + wtAll ds
  | .tuple ds => 1 + wtAll ds
  | _ => 1
def wtAll : List PyData → Nat
  | [] => 0
  | d :: ds => wt d + wtAll ds
end
theorem wt_pos (d : PyData) : 1 ≤ wt d := by cases d <;> unfold wt <;> omega
theorem wtAll_app : ∀ xs ys : List PyData, wtAll (xs ++ ys) = wtAll xs + wtAll ys
  | [], ys => by show wtAll ys = 0 + wtAll ys; omega
  | x :: xs, ys => by
    show wt x + wtAll (xs ++ ys) = wt x + wtAll xs + wtAll ys
    rw [wtAll_app xs ys]
    omega
theorem wtAll_len : ∀ xs : List PyData, xs.length ≤ wtAll xs
  | [] => Nat.le_refl _
  | x :: xs => by
    show xs.length + 1 ≤ wt x + wtAll xs
    have := wt_pos x
    have := wtAll_len xs
    omega
theorem wtAll_rev : ∀ xs : List PyData, wtAll xs.reverse = wtAll xs
  | [] => rfl
  | x :: xs => by
    rw [List.reverse_cons, wtAll_app, wtAll_rev xs]
    show wtAll xs + (wt x + 0) = wt x + wtAll xs
    omega
theorem wt_mem : ∀ {xs : List PyData} {d : PyData}, d ∈ xs → wt d ≤ wtAll xs
  | x :: xs, d, h => by
    show wt d ≤ wt x + wtAll xs
    rcases List.mem_cons.mp h with e | h
    · rw [e]
      omega
    · have := wt_mem h
      omega
theorem wt_split (xs : List PyData) (i : Nat) : wtAll xs = wtAll (xs.take i) + wtAll (xs.drop i) := by rw [← wtAll_app, List.take_append_drop]
theorem canLayAll_iff : ∀ xs : List PyData, PyData.canLayAll0 xs = true ↔ ∀ x ∈ xs, x.canLay0 = true
  | [] => ⟨fun _ x h => by simp at h, fun _ => rfl⟩
  | x :: xs => by
    have e : PyData.canLayAll0 (x :: xs) = (PyData.canLay0 x && PyData.canLayAll0 xs) := by
      conv => lhs; unfold PyData.canLayAll0
    rw [e, Bool.and_eq_true, canLayAll_iff xs]
    simp
theorem depthAll_le {m : Nat} : ∀ xs : List PyData, PyData.depthAll xs ≤ m ↔ ∀ x ∈ xs, x.depth ≤ m
  | [] => ⟨fun _ x h => by simp at h, fun _ => by unfold PyData.depthAll; exact Nat.zero_le _⟩
  | x :: xs => by
    have e : PyData.depthAll (x :: xs) = max x.depth (PyData.depthAll xs) := by
      conv => lhs; unfold PyData.depthAll
    rw [e, Nat.max_le, depthAll_le xs]
    simp
/-- data of a bounded kind: no dicts, right signs, at most m deep -/
structure Vd (m : Nat) (d : PyData) : Prop where
  lay : d.canLay0 = true
  dep : d.depth ≤ m
theorem Vd.mono {m m' : Nat} {d : PyData} (h : Vd m d) (l : m ≤ m') : Vd m' d := ⟨h.lay, Nat.le_trans h.dep l⟩
theorem vd_tup {m : Nat} {ds : List PyData} (h : ∀ x ∈ ds, Vd m x) : Vd (m + 1) (.tuple ds) := by
  refine ⟨?_, ?_⟩
  · unfold PyData.canLay0
    exact (canLayAll_iff ds).mpr fun x hx => (h x hx).lay
  · unfold PyData.depth
    have := (depthAll_le ds).mpr fun x hx => (h x hx).dep
    omega
theorem vd_lst {m : Nat} {ds : List PyData} (h : ∀ x ∈ ds, Vd m x) : Vd (m + 1) (.list ds) := by
  refine ⟨?_, ?_⟩
  · unfold PyData.canLay0
    exact (canLayAll_iff ds).mpr fun x hx => (h x hx).lay
  · unfold PyData.depth
    have := (depthAll_le ds).mpr fun x hx => (h x hx).dep
    omega
theorem Vd.tup {m : Nat} {ds : List PyData} (h : Vd m (.tuple ds)) : 0 < m ∧ ∀ x ∈ ds, Vd (m - 1) x := by
  obtain ⟨a, b⟩ := h
  unfold PyData.canLay0 at a
  unfold PyData.depth at b
  have a' := (canLayAll_iff ds).mp a
  have b' := (depthAll_le (m := m - 1) ds).mp (by omega)
  exact ⟨by omega, fun x hx => ⟨a' x hx, b' x hx⟩⟩
theorem Vd.shaped {m : Nat} {d : PyData} (h : Vd m d) (l : m ≤ 64) : SeqAt.shaped d = true := by
  unfold SeqAt.shaped
  rw [h.lay, decide_eq_true (Nat.le_trans h.dep l)]
  rfl
theorem vd_none : Vd 0 .none := ⟨rfl, by unfold PyData.depth; exact Nat.le_refl _⟩
theorem vd_bool (b : Bool) : Vd 0 (.bool b) := ⟨rfl, by unfold PyData.depth; exact Nat.le_refl _⟩
theorem vd_int (i : Int) : Vd 0 (.int i) := ⟨rfl, by unfold PyData.depth; exact Nat.le_refl _⟩
/-- right signs -/
def Sg (z : Str) : Prop := ∀ c ∈ z.cps.toList, c < 1114112
theorem vd_str {z : Str} (h : Sg z) : Vd 0 (.str z) := by
  refine ⟨?_, by unfold PyData.depth; exact Nat.le_refl _⟩
  unfold PyData.canLay0
  show (z.cps.all fun x => decide (x < 0x110000)) = true
  rw [Array.all_eq_true']
  intro ch hc
  have := h ch (by simpa using hc)
  simp
  omega
theorem Vd.sg {m : Nat} {z : Str} (h : Vd m (.str z)) : Sg z := by
  have a := h.lay
  unfold PyData.canLay0 at a
  have a : (z.cps.all fun x => decide (x < 0x110000)) = true := a
  rw [Array.all_eq_true'] at a
  intro c hc
  have := a c (by simpa using hc)
  simp at this
  omega
theorem Sg.app {a b : Str} (h : Sg a) (g : Sg b) : Sg (a ++ b) := fun c hc => by
  rw [cps_app] at hc
  exact (List.mem_append.mp hc).elim (h c) (g c)
/-! displays of data: what they give, by the data in the def's names -/
abbrev DEnv := Nat → PyData
def SEnv (K : PySem.W.Frag) (N : Addr → Prop) (L : List Nat) (σ : L2.St) (H : Hp) (D : DEnv) : Prop := ∀ i ∈ L, ∃ v, σ[i]? = some (some v) ∧ Dm K N H v (D i)
theorem SEnv.up {K : PySem.W.Frag} {N : Addr → Prop} {L : List Nat} {σ : L2.St} {H H' : Hp} {D : DEnv} (h : SEnv K N L σ H D) (s : Bt N H H') : SEnv K N L σ H' D := fun i hi => by
  obtain ⟨v, a, b⟩ := h i hi
  exact ⟨v, a, b.up s⟩
theorem trk_up {N : Addr → Prop} {H H' : Hp} (h : ∀ a, N a → Trk H a) (s : Same H H') : ∀ a, N a → Trk H' a := fun a n => (h a n).same s
def rD (K : PySem.W.Frag) (L : List Nat) (C : DEnv → Prop) (g : DEnv → PyData) : TE := fun σ H Q => ∃ (N : Addr → Prop) (D : DEnv), (∀ a, N a → Trk H a) ∧ SEnv K N L σ H D ∧ C D ∧ ∀ v H', Dm K N H' v (g D) → Same H H' → Q v H'
def rDs (K : PySem.W.Frag) (L : List Nat) (C : DEnv → Prop) (g : DEnv → List PyData) : TA := fun σ H Q => ∃ (N : Addr → Prop) (D : DEnv), (∀ a, N a → Trk H a) ∧ SEnv K N L σ H D ∧ C D ∧ ∀ vs H', DmAll K N H' vs (g D) → Same H H' → Q vs H'
def asT : PyData → List PyData
  | .tuple ds => ds
  | _ => []
def asL : PyData → List PyData
  | .list ds => ds
  | _ => []
def asS : PyData → Str
  | .str z => z
  | _ => Str.ofString ""
def isLst : PyData → Bool
  | .list _ => true
  | _ => false
theorem tup_eq {d : PyData} (h : isTup d = true) : d = .tuple (asT d) := by
  cases d <;> first | rfl | cases h
theorem lst_eq {d : PyData} (h : isLst d = true) : d = .list (asL d) := by
  cases d <;> first | rfl | cases h
theorem str_eq {d : PyData} (h : isStr d = true) : d = .str (asS d) := by
  cases d <;> first | rfl | cases h
abbrev yes : DEnv → Prop := fun _ => True
section
variable {X : Cx} {L : List Nat} {C C' : DEnv → Prop} {g g' : DEnv → PyData} {gs : DEnv → List PyData} {e e' : Expr} {es : List Expr} {pos : Pos}
theorem pd_var {i : Nat} (hp : PE X e (tVar i)) (hm : i ∈ L) : PE X e (rD X.K L yes fun D => D i) := by
  refine ⟨fun pins s σ H Q I h => hp.run pins s σ H Q I ?_⟩
  obtain ⟨N, D, hN, hs, _, k⟩ := h
  obtain ⟨v, a, b⟩ := hs i hm
  exact ⟨v, a, k v H b (Same.refl H)⟩
theorem pd_of {te : TE} {v : V} {d : PyData} (hp : PE X e te) (h : ∀ (σ : L2.St) (H : Hp) (Q : VK), Q v H → te σ H Q) (hd : ∀ (N : Addr → Prop) (H : Hp), Dm X.K N H v d) : PE X e (rD X.K L yes fun _ => d) := by
  refine ⟨fun pins s σ H Q I h2 => hp.run pins s σ H Q I ?_⟩
  obtain ⟨N, D, hN, hs, _, k⟩ := h2
  exact h σ H Q (k v H (hd N H) (Same.refl H))
theorem pds_nil : PA X [] (rDs X.K L yes fun _ => []) := by
  refine ⟨fun pos pins s σ H Q I h => pa_nil.run pos pins s σ H Q I ?_⟩
  obtain ⟨N, D, hN, hs, _, k⟩ := h
  exact k [] H .nil (Same.refl H)
theorem pds_cons (he : PE X e (rD X.K L C g)) (ha : PA X es (rDs X.K L C' gs)) (hs : starEach (e :: es) X.env = (false, eval e X.env) :: starEach es X.env := by rfl) : PA X (e :: es) (rDs X.K L (fun D => C D ∧ C' D) fun D => g D :: gs D) := by
  refine ⟨fun pos pins s σ H Q I h => (pa_cons he ha hs).run pos pins s σ H Q I ?_⟩
  obtain ⟨N, D, hN, hs, ⟨c1, c2⟩, k⟩ := h
  exact ⟨N, D, hN, hs, c1, fun v H1 dv s1 => ⟨N, D, trk_up hN s1, hs.up (Bt.same s1), c2, fun vs H2 dvs s2 => k (v :: vs) H2 (.cons (dv.up (Bt.same s2)) dvs) (s1.trans s2)⟩⟩
theorem pd_tup {x1} (ha : PA X es (rDs X.K L C gs)) (hl : ∀ D, C D → (gs D).length ≤ sizeLine) : PE X (.Tuple es x1 pos) (rD X.K L C fun D => .tuple (gs D)) := by
  refine ⟨fun pins s σ H Q I h => (pe_tup ha).run pins s σ H Q I ?_⟩
  obtain ⟨N, D, hN, hs, hc, k⟩ := h
  refine ⟨N, D, hN, hs, hc, fun vs H1 dm s1 => ⟨by rw [dm.len]; exact hl D hc, fun p hp => ?_⟩⟩
  exact k _ _ (.tup upd_same (not_new hN s1 hp) (dm.up (Bt.refl.new hp))) (s1.new hp)
theorem pd_lst (ha : PA X es (rDs X.K L C gs)) (hl : ∀ D, C D → (gs D).length ≤ sizeLine) : PE X (.List es pos) (rD X.K L C fun D => .list (gs D)) := by
  refine ⟨fun pins s σ H Q I h => (pe_lst ha).run pins s σ H Q I ?_⟩
  obtain ⟨N, D, hN, hs, hc, k⟩ := h
  refine ⟨N, D, hN, hs, hc, fun vs H1 dm s1 => ⟨by rw [dm.len]; exact hl D hc, fun p hp => ?_⟩⟩
  exact k _ _ (.lst upd_same (not_new hN s1 hp) (dm.up (Bt.refl.new hp))) (s1.new hp)
/-- a + b, lists -/
theorem pd_catL (ha : PE X e (rD X.K L C g)) (hb : PE X e' (rD X.K L C' g')) : PE X (.BinOp e .Add e' pos) (rD X.K L (fun D => (C D ∧ C' D) ∧ isLst (g D) = true ∧ isLst (g' D) = true ∧ (asL (g D)).length + (asL (g' D)).length ≤ 100000) fun D => .list (asL (g D) ++ asL (g' D))) := by
  refine ⟨fun pins s σ H Q I h => (pe_op op_cat ha hb).run pins s σ H Q I ?_⟩
  obtain ⟨N, D, hN, hs, ⟨⟨c1, c2⟩, i1, i2, hl⟩, k⟩ := h
  refine ⟨N, D, hN, hs, c1, fun v H1 dv s1 => ⟨N, D, trk_up hN s1, hs.up (Bt.same s1), c2, fun u H2 du s2 => ?_⟩⟩
  have dv2 := dv.up (Bt.same s2)
  rw [lst_eq i1] at dv2
  rw [lst_eq i2] at du
  cases dv2 with
  | lst h1 n1 a1 =>
    cases du with
    | lst h2 n2 a2 =>
      have l1 := a1.len
      have l2 := a2.len
      refine ⟨_, _, _, _, rfl, rfl, h1, h2, by rw [sizeLine_eq, l1, l2]; exact Nat.le_trans hl (by decide), fun p hp => ?_⟩
      have s3 := s1.trans s2
      exact k _ _ (.lst upd_same (not_new hN s3 hp) ((a1.up (Bt.refl.new hp)).app (a2.up (Bt.refl.new hp)))) (s3.new hp)
def cutP (ds : List PyData) (lo hi : Option Int) : List PyData := (ds.drop (HT.sIx ds.length 0 lo)).take (HT.sIx ds.length ds.length hi - HT.sIx ds.length 0 lo)
def rSlD (K : PySem.W.Frag) : V → Option Int → Option Int → Hp → VK → Prop := fun x lo hi H Q => ∃ (N : Addr → Prop) (ds : List PyData), Dm K N H x (.tuple ds) ∧ (∀ a, N a → Trk H a) ∧ ∀ u H', Dm K N H' u (.tuple (cutP ds lo hi)) → Same H H' → Q u H'
theorem sl_dm : SlR X (rSlD X.K) := by
  intro pins s σ H x v vl vu lo hi sl Q I rx hs pl pu h
  obtain ⟨N, ds, hx, hN, k⟩ := h
  obtain ⟨a, xs, rfl, ta, al⟩ := hx.seq
  have lx := al.len
  refine sl_tupA pins s σ H _ v vl vu lo hi sl Q I rx hs pl pu ⟨a, xs, rfl, ta.sq, fun hw => ?_, fun hw p hp => ?_⟩
  · rw [lx] at hw
    refine k _ _ ?_ (Same.refl H)
    have e : cutP ds lo hi = ds := by
      unfold cutP
      rw [hw.1, hw.2, List.drop_zero, Nat.sub_zero, List.take_length]
    rw [e]
    exact hx
  · refine k _ _ (.tup upd_same (not_new hN (Same.refl H) hp) ?_) ((Same.refl H).new hp)
    have e : cutV xs lo hi = (xs.drop (HT.sIx ds.length 0 lo)).take (HT.sIx ds.length ds.length hi - HT.sIx ds.length 0 lo) := by
      unfold cutV
      rw [lx]
    rw [e]
    exact ((al.drop _).take _).up (Bt.refl.new hp)
def rCatD (K : PySem.W.Frag) : R2 := fun x y H Q => ∃ (N : Addr → Prop) (ds es : List PyData), Dm K N H x (.tuple ds) ∧ Dm K N H y (.tuple es) ∧ (∀ a, N a → Trk H a) ∧ ds.length + es.length ≤ sizeLine ∧ ∀ u H', Dm K N H' u (.tuple (ds ++ es)) → Same H H' → Q u H'
theorem op_catD : OpR X (binaryOp .Add) (rCatD X.K) := by
  intro pins s σ H x y v u Q I rx ry h
  obtain ⟨N, ds, es, hx, hy, hN, hz, k⟩ := h
  obtain ⟨a, xs, rfl, ta, al⟩ := hx.seq
  obtain ⟨b, ys, rfl, tb, bl⟩ := hy.seq
  have lx := al.len
  have ly := bl.len
  refine op_catA pins s σ H _ _ v u Q I rx ry ⟨a, b, xs, ys, rfl, rfl, ta.sq, tb.sq, by omega, fun hx0 => ?_, fun _ hy0 => ?_, fun _ _ p hp => ?_⟩
  · subst hx0
    cases al
    exact k _ _ hy (Same.refl H)
  · subst hy0
    cases bl
    refine k _ _ ?_ (Same.refl H)
    rw [List.append_nil]
    exact hx
  · exact k _ _ (.tup upd_same (not_new hN (Same.refl H) hp) ((al.up (Bt.refl.new hp)).app (bl.up (Bt.refl.new hp)))) ((Same.refl H).new hp)
/-- a + b, tuples -/
theorem pd_catT (ha : PE X e (rD X.K L C g)) (hb : PE X e' (rD X.K L C' g')) : PE X (.BinOp e .Add e' pos) (rD X.K L (fun D => (C D ∧ C' D) ∧ isTup (g D) = true ∧ isTup (g' D) = true ∧ (asT (g D)).length + (asT (g' D)).length ≤ 100000) fun D => .tuple (asT (g D) ++ asT (g' D))) := by
  refine ⟨fun pins s σ H Q I h => (pe_op op_catD ha hb).run pins s σ H Q I ?_⟩
  obtain ⟨N, D, hN, hs, ⟨⟨c1, c2⟩, i1, i2, hl⟩, k⟩ := h
  refine ⟨N, D, hN, hs, c1, fun v H1 dv s1 => ⟨N, D, trk_up hN s1, hs.up (Bt.same s1), c2, fun u H2 du s2 => ?_⟩⟩
  have dv2 := dv.up (Bt.same s2)
  rw [tup_eq i1] at dv2
  rw [tup_eq i2] at du
  exact ⟨N, _, _, dv2, du, trk_up hN (s1.trans s2), Nat.le_trans hl (by decide), fun w H3 dw s3 => k w H3 dw ((s1.trans s2).trans s3)⟩
/-- a[lo:hi], a tuple, with bounds that are written -/
theorem pd_cutT {lo hi : Option Expr} {tl th : TO} {l u : Option Int} {p2 : Pos} (ha : PE X e (rD X.K L C g)) (hl : PO X lo tl) (hh : PO X hi th) (h1 : ∀ (σ : L2.St) (H : Hp) (Q : Option Int → Hp → Prop), Q l H → tl σ H Q) (h2 : ∀ (σ : L2.St) (H : Hp) (Q : Option Int → Hp → Prop), Q u H → th σ H Q) :
    PE X (.Subscript e (.Slice lo hi none p2) pos) (rD X.K L (fun D => C D ∧ isTup (g D) = true) fun D => .tuple (cutP (asT (g D)) l u)) := by
  refine ⟨fun pins s σ H Q I h => (pe_slice sl_dm ha hl hh).run pins s σ H Q I ?_⟩
  obtain ⟨N, D, hN, hs, ⟨c1, i1⟩, k⟩ := h
  refine ⟨N, D, hN, hs, c1, fun v H1 dv s1 => h1 _ _ _ (h2 _ _ _ ?_)⟩
  rw [tup_eq i1] at dv
  exact ⟨N, _, dv, trk_up hN s1, fun w H3 dw s3 => k w H3 dw (s1.trans s3)⟩
/-- a[::-1], a tuple -/
theorem pd_revT {k0 : Nat} {p1 p2 p3 : Pos} (ha : PE X e (rD X.K L C g)) : PE X (.Subscript e (.Slice none none (some (.UnaryOp .USub (.Constant (.int 1) k0 p1) p2)) p3) pos) (rD X.K L (fun D => C D ∧ isTup (g D) = true) fun D => .tuple (asT (g D)).reverse) := by
  refine ⟨fun pins s σ H Q I h => (pe_revT ha).run pins s σ H Q I ?_⟩
  obtain ⟨N, D, hN, hs, ⟨c1, i1⟩, k⟩ := h
  refine ⟨N, D, hN, hs, c1, fun v H1 dv s1 => ?_⟩
  rw [tup_eq i1] at dv
  obtain ⟨a, xs, rfl, ta, al⟩ := dv.seq
  exact ⟨a, xs, rfl, ta.sq, fun p hp => k _ _ (.tup upd_same (not_new hN s1 hp) (al.rev.up (Bt.refl.new hp))) (s1.new hp)⟩
/-- list(a), a tuple -/
theorem pd_listT {p : Pos} (ha : PE X e (rD X.K L C g)) (hg : Gl X "list") (hm : X.mg "list" = none) (he : starEach [e] X.env = (false, eval e X.env) :: starEach [] X.env := by rfl) : PE X (.Call (.Name "list" p) [e] [] pos) (rD X.K L (fun D => C D ∧ isTup (g D) = true) fun D => .list (asT (g D))) := by
  refine ⟨fun pins s σ H Q I h => (pe_callTy call_list_of hg hm (by decide +kernel) (pa_cons ha pa_nil he) (by decide) (by decide) he rfl).run pins s σ H Q I ?_⟩
  obtain ⟨N, D, hN, hs, ⟨c1, i1⟩, k⟩ := h
  refine ⟨N, D, hN, hs, c1, fun v H1 dv s1 => ?_⟩
  rw [tup_eq i1] at dv
  obtain ⟨a, xs, rfl, ta, al⟩ := dv.seq
  exact ⟨a, xs, rfl, .inr ta.sq, fun p hp => k _ _ (.lst upd_same (not_new hN s1 hp) (al.up (Bt.refl.new hp))) (s1.new hp)⟩
/-- a + b, texts -/
theorem pd_addS (ha : PE X e (rD X.K L C g)) (hb : PE X e' (rD X.K L C' g')) : PE X (.BinOp e .Add e' pos) (rD X.K L (fun D => (C D ∧ C' D) ∧ isStr (g D) = true ∧ isStr (g' D) = true ∧ (asS (g D)).length + (asS (g' D)).length ≤ 1000000) fun D => .str (asS (g D) ++ asS (g' D))) := by
  refine ⟨fun pins s σ H Q I h => (pe_op op_add_str ha hb).run pins s σ H Q I ?_⟩
  obtain ⟨N, D, hN, hs, ⟨⟨c1, c2⟩, i1, i2, hl⟩, k⟩ := h
  refine ⟨N, D, hN, hs, c1, fun v H1 dv s1 => ⟨N, D, trk_up hN s1, hs.up (Bt.same s1), c2, fun u H2 du s2 => ?_⟩⟩
  rw [str_eq i1] at dv
  rw [str_eq i2] at du
  exact ⟨_, _, dv.strV, du.strV, Nat.le_trans hl (by decide), k _ _ (.str _) (s1.trans s2)⟩
/-- a[lo:hi], a text, with bounds that are written -/
theorem pd_cutS {lo hi : Option Expr} {tl th : TO} {l u : Option Int} {p2 : Pos} (ha : PE X e (rD X.K L C g)) (hl : PO X lo tl) (hh : PO X hi th) (h1 : ∀ (σ : L2.St) (H : Hp) (Q : Option Int → Hp → Prop), Q l H → tl σ H Q) (h2 : ∀ (σ : L2.St) (H : Hp) (Q : Option Int → Hp → Prop), Q u H → th σ H Q) :
    PE X (.Subscript e (.Slice lo hi none p2) pos) (rD X.K L (fun D => C D ∧ isStr (g D) = true ∧ (asS (g D)).length ≤ 1000000) fun D => .str (cutS (asS (g D)) l u)) := by
  refine ⟨fun pins s σ H Q I h => (pe_slice sl_str ha hl hh).run pins s σ H Q I ?_⟩
  obtain ⟨N, D, hN, hs, ⟨c1, i1, hz⟩, k⟩ := h
  refine ⟨N, D, hN, hs, c1, fun v H1 dv s1 => h1 _ _ _ (h2 _ _ _ ?_)⟩
  rw [str_eq i1] at dv
  exact ⟨_, dv.strV, Nat.le_trans hz (by decide), k _ _ (.str _) s1⟩
end
end K1

/-! calls by one keyword; isinstance of a caught error with a dict of its own; InvalidNode -/
namespace Xr
open PySem PySem.Spec PyProof.Rows L2 Exv
section
variable {X : Cx} {CX : CXT} {k : Nat} {f : Addr} {fd : FuncData} {pm : Str} {sp : Sp} {E : L2.St → XK} {x kn : Str} {p pos kpos : Pos} {e : Expr} {ta : TA}
/-- f(name=e), the one parameter -/
theorem pe_kw0 (F : FnOk X.prog X.w X.K X.mg X.base CX k f fd [pm] sp) (hr : Room k X.A) (hg : Gl X x) (hm : X.mg x = some (.ref f)) (kp : PySem.W.keepIn X.K (.ref f) = true) (hb : ∀ (s : Shared) (u : Value), BindsTo s fd ⟨[], [(kn, u)]⟩ [(pm, u)])
    (hx : ∀ σ, PassesAt CX X σ (E σ)) (hkw : PK X [⟨some kn, e, kpos⟩] ta)
    (hall : (backToKw pos (keywordEach [⟨some kn, e, kpos⟩] X.env)).all (·.1.isSome) = true := by rfl) (hks : (backToKw pos (keywordEach [⟨some kn, e, kpos⟩] X.env)).filterMap (·.1) = [kn] := by rfl) (hdb : (x == ("__debug__" : Str)) = false := by decide)
    (hpl : ((backTo pos (starEach [] X.env)).any (·.1) || (backToKw pos (keywordEach [⟨some kn, e, kpos⟩] X.env)).any (·.1.isNone)) = false := by rfl) :
    PE X (.Call (.Name x p) [] [⟨some kn, e, kpos⟩] pos) (tCallS sp E ta) := by
  refine ⟨fun pins s σ H Q I h => ?_⟩
  refine wpAny_Call_Name_kw (ld_glob I hg hm ?_ hdb)
  refine PySem.W.callWith_KW0 (h₀ := X.base) I.ok.mod.kin kp hall ?_ hpl
  refine thn (hkw.run pos pins s σ H _ I h) fun ws s2 ⟨zs, H2, I2, rz, q⟩ => ⟨I2.kIn, ?_⟩
  rw [hks]
  have q' : sp zs H2 Q (E σ) := q
  have lens : ws.length = 1 := by
    rw [← rz.length]
    exact F.len _ _ _ _ q'
  obtain ⟨u, rfl⟩ : ∃ u, ws = [u] := by
    match ws, lens with
    | [u], _ => exact ⟨u, rfl⟩
  refine wpAny_call (codeAny_mono (F.run X.A X.stack s2 H2 ⟨[], [(kn, u)]⟩ [u] zs Q (E σ) hr I2.env0 (hb s2 u) rz q') fun r s' hq => ?_)
  cases r with
  | error e => exact hx σ pins H2 s2 e s' I2 hq
  | ok fl =>
    cases fl with
    | ret u => exact I2.after hq
    | next => exact False.elim hq
    | brk => exact False.elim hq
    | cont => exact False.elim hq
theorem at0 {CX : CXT} {X : Cx} {E : XK} (h : Passes CX X E) (σ : L2.St) : PassesAt CX X σ E := fun pins H s e s' I c => h pins σ H s e s' I c
/-- isinstance(e, c), e the caught error, its class and dict by the reading -/
def rIsED (K : PySem.W.Frag) (a : Addr) (cls : Value) (d : Option Addr) : List V → Hp → VK → Prop := fun xs H Q => ∃ (C : Addr) (c : V) (cv : Value) (b : Bool) (dd : Addr) (fs : List (Str × V)), cls = .ref C ∧ xs = [.ref a, c] ∧ ClsV c cv ∧ IsT K C ∧ PySem.W.kitOne K (.ref C) cv = some b ∧
  d = some dd ∧ H dd = some (.xd fs) ∧ Q (.bl b) H
theorem call_isED {a : Addr} {oe : Obj} {cls : Value} {d : Option Addr} {pn : List (Addr × Obj)} (hz : Zc cls d oe) (hf : ∃ vs, oe.data = .fields vs) : CallR (X.suite a ((a, oe) :: pn)) (.builtin "isinstance") (rIsED X.K a cls d) := by
  intro pins s σ H xs us Q I r h
  obtain ⟨C, c, cv, b, dd, fs, ec, rfl, k, T, e, ed, ea, q⟩ := h
  obtain ⟨u1, u2, rfl, r1, r2⟩ := vals2 r
  cases (show u1 = Value.ref a from r1)
  have e2 := k.eq r2
  subst e2
  subst ec
  subst ed
  obtain ⟨ha, _⟩ := I.pin (a, oe) (List.mem_append_left _ List.mem_cons_self)
  obtain ⟨vs, hd⟩ := hf
  have hx : ObjOk X.prog X.w H s.heap dd (.xd fs) := I.hok dd _ ea
  obtain ⟨mA, hns, hr⟩ := hx
  obtain ⟨od, ho, hl⟩ := lookIn_ns hns
  have hcl : (PySem.W.clsIn X.K C).isSome = true := by
    obtain ⟨cd, hcd, _⟩ := PySem.W.any_some T.hd
    rw [hcd]
    rfl
  have J : PySem.W.InstAt s.heap a oe C (some od) := ⟨ha, hz.1, by unfold PySem.W.notCls; rw [hd] <;> rfl, by rw [hz.2]; exact ho⟩
  exact PySem.W.kia_one (PySem.W.kitx_exc hcl T.ga T.gg T.ex T.cl T.sp T.tk T.mr) I.kIn J e (fun z => nomatch z) fun tk => ⟨.bl b, H, I.tok tk, rfl, q⟩
/-- isinstance(e, (c1, c2)), e the caught error, its class and dict by the reading -/
def rIsEDT (K : PySem.W.Frag) (a : Addr) (cls : Value) (d : Option Addr) : List V → Hp → VK → Prop := fun xs H Q => ∃ (C tp : Addr) (cs : List V) (us : List Value) (b : Bool) (dd : Addr) (fs : List (Str × V)), cls = .ref C ∧ xs = [.ref a, .ref tp] ∧ H tp = some (.tup cs) ∧ Paired ClsV cs us ∧ IsT K C ∧ PySem.W.kitAny K (.ref C) us = some b ∧
  d = some dd ∧ H dd = some (.xd fs) ∧ Q (.bl b) H
theorem call_isEDT {a : Addr} {oe : Obj} {cls : Value} {d : Option Addr} {pn : List (Addr × Obj)} (hz : Zc cls d oe) (hf : ∃ vs, oe.data = .fields vs) : CallR (X.suite a ((a, oe) :: pn)) (.builtin "isinstance") (rIsEDT X.K a cls d) := by
  intro pins s σ H xs us Q I r h
  obtain ⟨C, tp, cs, ws, b, dd, fs, ec, rfl, hT, k, T, e, ed, ea, q⟩ := h
  obtain ⟨u1, u2, rfl, r1, r2⟩ := vals2 r
  cases (show u1 = Value.ref a from r1)
  cases (show u2 = Value.ref tp from r2)
  subst ec
  subst ed
  obtain ⟨ha, _⟩ := I.pin (a, oe) (List.mem_append_left _ List.mem_cons_self)
  obtain ⟨vs, hd⟩ := hf
  have hx : ObjOk X.prog X.w H s.heap dd (.xd fs) := I.hok dd _ ea
  obtain ⟨mA, hns, hr⟩ := hx
  obtain ⟨od, ho, hl⟩ := lookIn_ns hns
  have hcl : (PySem.W.clsIn X.K C).isSome = true := by
    obtain ⟨cd, hcd, _⟩ := PySem.W.any_some T.hd
    rw [hcd]
    rfl
  have J : PySem.W.InstAt s.heap a oe C (some od) := ⟨ha, hz.1, by unfold PySem.W.notCls; rw [hd] <;> rfl, by rw [hz.2]; exact ho⟩
  obtain ⟨_, its, rv, o, h1, h2, n, h3⟩ := (show ObjOk X.prog X.w H s.heap tp (.tup cs) from I.hok tp _ hT)
  have e3 := ClsV.all k rv
  subst e3
  obtain ⟨oc, od2, dt, sl⟩ := o
  simp only at h2 h3
  subst h2 h3
  exact PySem.W.kia_tup (PySem.W.kitx_exc hcl T.ga T.gg T.ex T.cl T.sp T.tk T.mr) I.kIn J h1 e (fun z => nomatch z) fun tk => ⟨.bl b, H, I.tok tk, rfl, q⟩
end
end Xr

/-! the plain layer: errors -/
namespace K3
open PySem L2 Xr K1 Exv
abbrev DEX := DXr → DE
abbrev DAX := DXr → DA
def lftX (K : PySem.W.Frag) (W : WZ) (t : DEX) : TE := fun σ H Q => ∃ B ρ S m Qd x, At K B σ H ρ S m ∧ t x ρ S Qd ∧ Kq K m H Q Qd ∧ Lk K W B x
def lftAX (K : PySem.W.Frag) (W : WZ) (t : DAX) : TA := fun σ H Q => ∃ B ρ S m Qd x, At K B σ H ρ S m ∧ t x ρ S Qd ∧ Ka K m H Q Qd ∧ Lk K W B x
abbrev QEX (X : Cx) (e : Expr) (t : DEX) : Prop := PE X e (lftX X.K (Wm X) t)
abbrev QAX (X : Cx) (es : List Expr) (t : DAX) : Prop := PA X es (lftAX X.K (Wm X) t)
section
variable {X : Cx} {e a b c : Expr} {es : List Expr} {t ta : DEX} {tb : DE} {u : DT} {aa : DA} {aX : DAX} {pos : Pos}
theorem qx_of (h : QE X e tb) : QEX X e (fun _ => tb) := pe_weak h fun σ H Q ⟨B, ρ, S, m, Qd, x, at_, q, k, l⟩ => ⟨B, ρ, S, m, Qd, at_, q, k⟩
theorem bin2X {K : PySem.W.Frag} {W : WZ} {f : D2} {r : R2} (hs : Snd2 K f r) {σ : L2.St} {H : Hp} {Q : VK} (h : lftX K W (fun x => dOp f (ta x) tb) σ H Q) : tOp r (lftX K W ta) (lft K tb) σ H Q := by
  obtain ⟨B, ρ, S, m, Qd, x, at_, q, k, l⟩ := h
  refine ⟨B, ρ, S, m, _, x, at_, q, (fun a S1 x H1 m1 q1 e1 w1 d1 => ⟨B, ρ, S1, m1, _, at_.step e1 w1, q1, fun b S2 y H2 m2 q2 e2 w2 d2 => ?_⟩), l⟩
  exact hs m2 H2 S2 x y a b Q Qd w2 (d1.up e2) d2 q2 ((k.up e1).up e2)
theorem qx_at (ha : QEX X a ta) (hb : QE X b tb) (hp : PlainIx b) : QEX X (.Subscript a b pos) (fun x => dOp dIx (ta x) tb) := pe_weak (pe_ix ix_seq ha hb hp) fun _ _ _ h => bin2X snd_ix h
theorem qx_nil : QAX X [] (fun _ => dNil) := pa_weak pa_nil fun σ H Q ⟨B, ρ, S, m, Qd, x, at_, q, k, l⟩ => k [] S [] H m q Evo.refl at_.wd .nil
theorem qx_cons (he : QEX X e t) (ha : QAX X es aX) (hs : starEach (e :: es) X.env = (false, eval e X.env) :: starEach es X.env := by rfl) : QAX X (e :: es) (fun x => dCons (t x) (aX x)) := pa_weak (pa_cons he ha hs) fun σ H Q ⟨B, ρ, S, m, Qd, x, at_, q, k, l⟩ =>
  ⟨B, ρ, S, m, _, x, at_, q, (fun d S' v H' m' q e w dv => ⟨B, ρ, S', m', _, x, at_.step e w, q, (fun ds S2 vs H2 m2 q2 e2 w2 dvs => k _ S2 _ H2 m2 q2 (e.trans e2) w2 (.cons (dv.up e2) dvs)), l⟩), l⟩
theorem qx_tup {x1} (ha : QAX X es aX) : QEX X (.Tuple es x1 pos) (fun x => dTup (aX x)) := pe_weak (pe_tup ha) fun σ H Q ⟨B, ρ, S, m, Qd, x, at_, q, k, l⟩ =>
  ⟨B, ρ, S, m, _, x, at_, q, (fun ds S' vs H' m' q e w dv => ⟨by rw [dv.len]; exact line_of q.1, (k.up e).newT w dv q.2⟩), l⟩
theorem qx_if (hc : QT X c u) (ha : QEX X a ta) (hb : QEX X b t) : QEX X (.IfExp c a b pos) (fun x => dIfE u (ta x) (t x)) := pe_weak (pe_ifExp hc ha hb) fun σ H Q ⟨B, ρ, S, m, Qd, x, at_, q, k, l⟩ => ⟨B, ρ, S, m, _, at_, q, fun c S' H' m' q e w => by
  cases c with
  | true => exact iteT ⟨B, ρ, S', m', Qd, x, at_.step e w, q, k.up e, l⟩
  | false => exact iteF ⟨B, ρ, S', m', Qd, x, at_.step e w, q, k.up e, l⟩⟩
end
section
variable {X : Cx} {j k : Nat} {f : Addr} {fd : FuncData} {ps : List Str} {sp : SpD} {x : Str} {p pos : Pos} {e : Expr} {es : List Expr} {aa : DA}
/-- f(e, ..), f one that may raise -/
def dFnX (sp : SpD) (aa : DA) : DEX := fun x ρ S Q => aa ρ S fun ds S1 => sp ds S1 Q (fun C fs S' => x C fs ρ S')
theorem fn_dvX {σ : L2.St} {H : Hp} {Q : VK} (h : lftX X.K (Wm X) (dFnX sp aa) σ H Q) : tCallS (spD X.K sp) (WE (Wm X).1) (lftA X.K aa) σ H Q := by
  obtain ⟨B, ρ, S, m, Qd, x, at_, q, k, l⟩ := h
  refine ⟨B, ρ, S, m, _, at_, q, fun ds S' vs H' m' q e w dv => ?_⟩
  exact ⟨m', S', ds, Qd, _, w, dv, q, k.up e, fun C fs S2 H2 m2 dd ys qx e2 w2 hd nc en al => l.run C fs ρ S2 σ H2 m2 dd ys qx ((at_.step e w).step e2 w2) hd nc en al⟩
theorem qx_call (hr : Room k X.A) (F : FnOk X.prog X.w X.K X.mg X.base (L2.CX X.prog X.w) j f fd ps (spD X.K sp)) (hm : X.mg x = some (.ref f)) (hk : PySem.W.keepIn X.K (.ref f) = true) (hb : Binds X.K fd ps []) (hg : Gl X x) (hl : j ≤ k)
    (ha : QA X (e :: es) aa) (hdb : (x == ("__debug__" : Str)) = false := by decide) (he : starEach (e :: es) X.env = (false, eval e X.env) :: starEach es X.env := by rfl) (hpl : (backTo pos (starEach es X.env)).any (·.1) = false := by rfl) :
    QEX X (.Call (.Name x p) (e :: es) [] pos) (dFnX sp aa) := pe_weak (pe_callS F (hr.mono hl) hg hm hk hb (fun σ => passAt (takesWm X) σ) ha hdb he hpl) fun σ H Q h => fn_dvX h
/-- f(a=e, ..), f one that may raise -/
theorem qx_kw {ks : List Str} {kws : List Keyword} (hr : Room k X.A) (F : FnOk X.prog X.w X.K X.mg X.base (L2.CX X.prog X.w) j f fd ps (spD X.K sp)) (hm : X.mg x = some (.ref f)) (hk : PySem.W.keepIn X.K (.ref f) = true) (hb : BindsK fd ps ks) (hg : Gl X x) (hl : j ≤ k) (hkw : QK X kws aa)
    (hall : (backToKw pos (keywordEach kws X.env)).all (·.1.isSome) = true := by rfl) (hks : (backToKw pos (keywordEach kws X.env)).filterMap (·.1) = ks := by rfl) (hdb : (x == ("__debug__" : Str)) = false := by decide)
    (hpl : ((backTo pos (starEach [] X.env)).any (·.1) || (backToKw pos (keywordEach kws X.env)).any (·.1.isNone)) = false := by rfl) : QEX X (.Call (.Name x p) [] kws pos) (dFnX sp aa) :=
  pe_weak (pe_kwA (E := WE (Wm X).1) F (hr.mono hl) hg hm hk hb (fun σ => passAt (takesWm X) σ) hkw.p hall hks hdb hpl) fun σ H Q h => fn_dvX h
end
/-! statements -/
section
variable {X : Cx} {e a : Expr} {t : DEX} {aa : DA} {g : DG} {pos : Pos}
def dRetX (t : DEX) : DS := fun D ρ S => t D.xt ρ S D.rt
theorem qs_retX (he : QEX X e t) : QS X (.Return (some e) pos) (dRetX t) := ps_weak (ps_ret he) fun D σ H ⟨B, ρ, S, m, Dd, at_, q, k⟩ =>
  ⟨B, ρ, S, m, _, _, at_, q, (fun d S' v H' m' q e w dv => k.rt _ _ _ _ _ q (at_.ev.trans e) w dv), k.xt⟩
def dDropX (t : DEX) : DS := fun D ρ S => t D.xt ρ S fun _ S1 => D.nx ρ S1
theorem qs_exprX (he : QEX X e t) (hs : swapsWith e none pos.line X.env = pure false := by rfl) : QS X (.Expr e pos) (dDropX t) := ps_weak (ps_expr he hs) fun D σ H ⟨B, ρ, S, m, Dd, at_, q, k⟩ =>
  ⟨B, ρ, S, m, _, _, at_, q, (fun d S' v H' m' q e w dv => k.nx _ _ _ _ _ q (at_.step e w)), k.xt⟩
def dSetX (i : Nat) (t : DEX) : DS := fun D ρ S => t D.xt ρ S fun d S1 => D.nx (st ρ i d) S1
theorem qs_setX {i : Nat} {x : Str} {pos' : Pos} (hN : X.N.Nodup) (hi : X.N[i]? = some x) (hx : Loc X.env.scope x) (he : QEX X e t) (hs : swapsWith e (some (.Name x pos')) pos.line X.env = pure false := by rfl) (hf : X.fn x = true ∨ X.env.scope.names.lookup x = some .local := by first | exact .inl rfl | exact .inr rfl | assumption) :
    QS X (.Assign [.Name x pos'] e pos) (dSetX i t) := ps_weak (ps_set hN hi hx he hs hf) fun D σ H ⟨B, ρ, S, m, Dd, at_, q, k⟩ =>
  ⟨B, ρ, S, m, _, _, at_, q, (fun d S' v H' m' q e w dv => k.nx _ _ _ _ _ q ((at_.step e w).setv dv)), k.xt⟩
def dAsgX (t : DEX) (g : DG) : DS := fun D ρ S => t D.xt ρ S fun d S1 => g d ρ S1 D.nx
theorem qs_asgX (he : QEX X e t) (hg : QG X a g) (hs : swapsWithSole [a] e pos.line X.env = pure false := by rfl) (hw : swappedStores [a] e X.env = pure none := by rfl)
    (h1 : (assignEach [a] X.env).map (·.2) = [assign a X.env] := by rfl) : QS X (.Assign [a] e pos) (dAsgX t g) := ps_weak (ps_asg he hg hs hw h1) fun D σ H ⟨B, ρ, S, m, Dd, at_, q, k⟩ =>
  ⟨B, ρ, S, m, _, _, at_, q, (fun d S' v H' m' q e w dv => ⟨d, B, ρ, S', m', _, at_.step e w, dv, q, fun ρ' S' σ' H' m' q _ at_ => k.nx _ _ _ _ _ q at_⟩), k.xt⟩
end
/-! a def that may raise -/
section
variable {P : Program} {w : World} {K : PySem.W.Frag} {mg : Str → Option Value} {base : Heap}
theorem dokX {x qual : Str} {s1 : Stmt} {f : Addr} {fd : FuncData} {N ps : List Str} {k : Nat} {sp : SpD} (F : Fun K x qual s1 f fd) (S : FnScope N ps (defScope s1)) (len : ∀ ds S Q E, sp ds S Q E → ds.length = ps.length)
    (hbody : ∀ (cdv : Value) (A : Around) (outer : List Env) (s : Shared) (H : Hp) (Q : VK) (E : XK), Room k (A.deeper (PyProof.Rows.envOfC qual (defScope s1) s.heap.objs.size f cdv)) →
      ∃ t, QSs (cxOf (L2.CX P w) P w K mg base N qual (defScope s1) f cdv A outer s H E) (defBody s1) t ∧ ∀ ds S Qd Ed, sp ds S Qd Ed → t { nx := fun _ S' => Qd .none S', rt := Qd, xt := fun C fs _ S' => Ed C fs S' } (startD N ds) S) : FnOk P w K mg base (L2.CX P w) (k + 1) f fd ps (spD K sp) := by
  refine F.okX S (spD_len len) fun cdv A outer s H vs Q E hr h => ?_
  obtain ⟨t, ht, hq⟩ := hbody cdv A outer s H Q E hr
  obtain ⟨m, S, ds, Qd, Ed, w, dv, q, k, x⟩ := h
  refine ⟨_, ht, (m, H), startD N ds, S, m, _, ⟨Evo.refl, w, start_fr dv⟩, hq ds S Qd Ed q, ?_⟩
  exact ⟨fun ρ S σ H' m' q a => k _ S _ H' m' q a.ev a.wd .non, fun d S v H' m' q e w dv => k _ S _ H' m' q e w dv, fun _ _ _ _ _ q _ => q.elim, fun _ _ _ _ _ q _ => q.elim,
    ⟨fun C fs ρ S' σ H' m' dd ys qx a hd nc en al => Wm.of (takes_of rfl rfl rfl rfl) (x C fs S' H' m' dd ys qx a.ev a.wd hd nc en al), fun _ _ _ _ _ a at_ h => at_.gone h⟩⟩
end
/-! raise -/
/-- the one field of an own error -/
def spInit (C : Addr) (f : Str) : Sp := fun vs H Q _ => ∃ (a : Addr) (v : V), vs = [.ref a, v] ∧ H a = some (exo a C none) ∧
  ∀ dx, H dx = none → dx ≠ a → Q .non (upd (upd H dx (L2.exd dx [(f, v)])) a (exo a C (some dx)))
def dRaise (C : Addr) (f : Str) (aa : DA) : DS := fun D ρ S => aa ρ S fun ds S1 => match ds with
  | [d] => D.xt C [(f, d)] ρ S1
  | _ => False
theorem raised_eq {H : Hp} {a dx : Addr} {o1 o2 o3 : HO} {o : HO} (ha : H a = none) (ne : dx ≠ a) : upd (delH (upd (upd (upd H a o1) dx o2) a o3) a) dx o = upd H dx o := by
  funext q
  by_cases h : q = dx
  · rw [h, upd_same, upd_same]
  · rw [upd_ne h, upd_ne h]
    by_cases h2 : q = a
    · rw [h2, delH_same, ha]
    · rw [delH_ne h2, upd_ne h2, upd_ne h, upd_ne h2]
theorem qs_raise {X : Cx} {CX : CXT} {C fI : Addr} {f x : Str} {k : Nat} {fd : FuncData} {ps : List Str} {e : Expr} {aa : DA} {p pos pos' : Pos} {bmB bmF : List Value} {Bn newId initId : String} (hc : X.calm = true) (hex : X.ex = []) (T : ExT X.K C fI f bmB newId) (FB : ExcBaseFacts Bn newId initId bmF) (hB : Base3 bmB Bn)
    (F : FnOk X.prog X.w X.K X.mg X.base CX k fI fd ps (spInit C f)) (hr : Room (k + 1) X.A) (hx : Passes CX X E0) (hg : Gl X x) (hm : X.mg x = some (.ref C))
    (hb : ∀ (s : Shared) (a : Addr) (u : Value), X.K.In s.heap → BindsTo s fd ⟨[.ref a, u], []⟩ (ps.zip [.ref a, u])) (ty : PySem.W.typeIn X.K (.ref C) = some (.type "type")) (ha : QA X [e] aa)
    (hdb : (x == ("__debug__" : Str)) = false := by decide) (hs : starEach [e] X.env = (false, eval e X.env) :: starEach [] X.env := by rfl) (hpl : (backTo pos (starEach [] X.env)).any (·.1) = false := by rfl) :
    QS X (.Raise (some (.Call (.Name x p) [e] [] pos)) none pos') (dRaise C f aa) :=
  ps_weak (ps_raise hc (takesWm X) (pmk_newE hex (pe_newE T FB hB F hr hx hg hm hb ha hdb hs hpl))) fun D σ H ⟨B, ρ, S, m, Dd, at_, q, k⟩ => by
    refine ⟨B, ρ, S, m, _, at_, q, fun ds S' vs H' m' q e w dv => ?_⟩
    match ds, q, dv with
    | [d], q, .cons hd .nil =>
      have at2 := at_.step e w
      refine ⟨_, rfl, fun a ha => ⟨a, _, rfl, upd_same, fun dx hdx ne => ⟨rfl, a, C, rfl, fr0_none (k.xt.new _ _ _ _ _ a at2 ha), T.ex, ty, .inr ⟨dx, _, ne, upd_same, by rw [upd_ne ne, upd_same], ?_⟩⟩⟩⟩
      have hd' : H' dx = none := by
        rw [upd_ne ne] at hdx
        exact hdx
      rw [raised_eq ha ne]
      exact k.xt.run C [(f, d)] ρ S' σ _ m' dx [(f, _)] q (at2.step (Evo.new w hd') (w.new hd')) upd_same (w.noCe hd') rfl (.cons (hd.up (Evo.new w hd')) .nil)
/-! try -/
/-- the fields of the error that is held -/
def exF (a C dd : Addr) : PyData → Option (List (PyData × PyData))
  | .dict ((.int a', .int d') :: (.int C', .none) :: r) => if a' = (a : Int) ∧ d' = (dd : Int) ∧ C' = (C : Int) then some r else none
  | _ => none
theorem exF_exd {a C dd : Addr} {fs : List (Str × PyData)} : exF a C dd (exd a C dd fs) = some (fldD fs) := by
  unfold exF
  simp
theorem exF_is {a C dd : Addr} {d : PyData} {r : List (PyData × PyData)} (h : exF a C dd d = some r) : d = .dict ((.int (a : Int), .int (dd : Int)) :: (.int (C : Int), .none) :: r) := by
  unfold exF at h
  split at h
  · rename_i a' d' C' r'
    split at h
    · rename_i e
      obtain ⟨rfl, rfl, rfl⟩ := e
      cases h
      rfl
    · cases h
  · cases h
/-- a field by its name -/
def fldL (f : Str) : List (PyData × PyData) → Option PyData
  | (.str g, d) :: r => if g = f then some d else fldL f r
  | _ => none
theorem fldL_fld {f : Str} : ∀ {fs : List (Str × PyData)}, fldL f (fldD fs) = fs.lookup f
  | [] => rfl
  | (g, d) :: fs => by
    show (if g = f then some d else fldL f (fldD fs)) = _
    rw [List.lookup_cons]
    by_cases h : g = f
    · rw [if_pos h, h]
      simp
    · have h2 : (f == g) = false := by
        rw [beq_eq_false_iff_ne]
        exact fun e => h e.symm
      rw [if_neg h, h2]
      exact fldL_fld
theorem int_addr {a b : Addr} (h : PyData.int ((a : Nat) : Int) = .int ((b : Nat) : Int)) : a = b := by
  have := PyData.int.inj h
  exact Int.ofNat.inj this
theorem dv_exd {K : PySem.W.Frag} {m : Mp} {H : Hp} {v : V} {a C dd : Addr} {r : List (PyData × PyData)} (h : Dv K m H v (.dict ((.int (a : Int), .int (dd : Int)) :: (.int (C : Int), .none) :: r))) :
    ∃ ys fs, v = .ref a ∧ r = fldD fs ∧ H dd = some (.xd ys) ∧ ys.map Prod.fst = fs.map Prod.fst ∧ DvAll K m H (ys.map Prod.snd) (fs.map Prod.snd) := by
  generalize e : PyData.dict ((.int (a : Int), .int (dd : Int)) :: (.int (C : Int), .none) :: r) = d at h
  cases h with
  | @exd a' C' dd' ys fs h1 n q al =>
    have e2 := PyData.dict.inj e
    have e3 := (List.cons.inj e2).1
    have e4 := (List.cons.inj (List.cons.inj e2).2).2
    have ea := int_addr (congrArg Prod.fst e3)
    have ed := int_addr (congrArg Prod.snd e3)
    subst ea ed
    exact ⟨ys, fs, rfl, e4, h1, q, al⟩
  | cel _ =>
    have e2 := PyData.dict.inj e
    cases e2
  | glo _ =>
    have e2 := PyData.dict.inj e
    cases e2
  | frz _ _ _ _ =>
    have e2 := PyData.dict.inj e
    cases e2
  | ins _ _ _ _ _ _ =>
    have e2 := PyData.dict.inj e
    have e3 := (List.cons.inj e2).1
    cases congrArg Prod.fst e3
  | _ => cases e
section
variable {X : Cx} {e e2 : Expr} {t : DE} {a C dd : Addr} {oe : Obj} {pn : List (Addr × Obj)} {pos p : Pos} {f : Str}
def dXf (a C dd : Addr) (f : Str) (t : DE) : DE := fun ρ S Q => t ρ S fun v S1 => wh (exF a C dd v) fun r => wh (fldL f r) fun d => Q d S1
theorem lookup_zip {K : PySem.W.Frag} {m : Mp} {H : Hp} {f : Str} : ∀ {ys : List (Str × V)} {fs : List (Str × PyData)} {d : PyData}, ys.map Prod.fst = fs.map Prod.fst → DvAll K m H (ys.map Prod.snd) (fs.map Prod.snd) → fs.lookup f = some d → ∃ v, ys.lookup f = some v ∧ Dv K m H v d
  | [], [], d, _, _, h => by cases h
  | (g, v) :: ys, (g', d') :: fs, d, e, al, h => by
    have e1 : g = g' := (List.cons.inj e).1
    have e2 := (List.cons.inj e).2
    subst e1
    rw [List.lookup_cons] at h ⊢
    cases al with
    | cons a1 al =>
      by_cases q : f == g
      · rw [q] at h ⊢
        cases h
        exact ⟨v, rfl, a1⟩
      · have q' : (f == g) = false := by simpa using q
        rw [q'] at h ⊢
        exact lookup_zip e2 al h
  | [], _ :: _, _, e, _, _ => by cases e
  | _ :: _, [], _, e, _, _ => by cases e
/-- e.f, e the error that is held -/
theorem q_xf (T : XfC X.K C) (hno : PySem.W.findIn X.K (.ref C) f = some none) (hz : Zc (.ref C) (some dd) oe) (hf : ∃ vs, oe.data = .fields vs) (he : QE (X.suite a ((a, oe) :: pn)) e t) (hb : attributeBase e f X.env (eval e X.env) = eval e X.env := by rfl) :
    QE (X.suite a ((a, oe) :: pn)) (.Attribute e f pos) (dXf a C dd f t) := pe_weak (pe_xf T hno hz hf he hb) fun σ H Q ⟨B, ρ, S, m, Qd, at_, q, k⟩ => ⟨B, ρ, S, m, _, at_, q, fun v S' x H' m' q e w dv => by
      obtain ⟨r, e1, q1⟩ := wh_of q
      obtain ⟨d, e3, q2⟩ := wh_of q1
      have e4 := exF_is e1
      subst e4
      obtain ⟨ys, fs, rfl, rfl, h1, h2, h3⟩ := dv_exd dv
      rw [fldL_fld] at e3
      obtain ⟨v, l, hv⟩ := lookup_zip h2 h3 e3
      exact ⟨rfl, rfl, dd, ys, v, rfl, h1, l, k _ S' _ H' m' q2 e w hv⟩⟩
/-- isinstance(e, c), e the error that is held -/
def dIsX (K : PySem.W.Frag) (a C dd C2 : Addr) (t : DE) : DE := fun ρ S Q => t ρ S fun v S1 => wh (exF a C dd v) fun _ => wh (PySem.W.kitOne K (.ref C) (.ref C2)) fun b => Q (.bool b) S1
theorem q_isX {C2 : Addr} (T : IsT X.K C) (hz : Zc (.ref C) (some dd) oe) (hf : ∃ vs, oe.data = .fields vs) (hm : X.mg "isinstance" = none) (hg : Gl X "isinstance") (ha : QE (X.suite a ((a, oe) :: pn)) e t) (hb : PE (X.suite a ((a, oe) :: pn)) e2 (tC (.ref C2)))
    (he : starEach [e, e2] X.env = (false, eval e X.env) :: starEach [e2] X.env := by rfl) (he2 : starEach [e2] X.env = (false, eval e2 X.env) :: starEach [] X.env := by rfl)
    (hpl : (backTo pos (starEach [e2] X.env)).any (·.1) = false := by rfl) : QE (X.suite a ((a, oe) :: pn)) (.Call (.Name "isinstance" p) [e, e2] [] pos) (dIsX X.K a C dd C2 t) :=
  pe_weak (pe_callB (X := X.suite a ((a, oe) :: pn)) (call_isED hz hf) hg hm (by decide +kernel) (pa_cons ha (pa_cons hb pa_nil he2) he) (by decide) (by decide) he hpl) fun σ H Q ⟨B, ρ, S, m, Qd, at_, q, k⟩ =>
    ⟨B, ρ, S, m, _, at_, q, fun v S' x H' m' q e w dv => by
      obtain ⟨r, e1, q1⟩ := wh_of q
      obtain ⟨b, e3, q2⟩ := wh_of q1
      have e4 := exF_is e1
      subst e4
      obtain ⟨ys, fs, rfl, rfl, h1, h2, h3⟩ := dv_exd dv
      exact ⟨C, .ref C2, .ref C2, b, dd, ys, rfl, rfl, ClsV.own _, T, e3, rfl, h1, k _ S' _ H' m' q2 e w (.bl b)⟩⟩
end
theorem Lk.wm {X : Cx} {W : L2.WX} {B : Mp × Hp} {x : DXr} (tk : L2.Takes X W) (l : Lk X.K (W, fun a => X.H_0 a = none) B x) : Lk X.K (Wm X) B x := ⟨fun C fs ρ S σ H m dd ys q a h n e al => Wm.of tk (l.run C fs ρ S σ H m dd ys q a h n e al), l.new⟩
theorem lftS_wm {X : Cx} {W : L2.WX} {t : DS} (tk : L2.Takes X W) {D : Ends} {σ : L2.St} {H : Hp} (h : lftS X.K (W, fun a => X.H_0 a = none) t D σ H) : lftS X.K (Wm X) t D σ H := by
  obtain ⟨B, ρ, S, m, Dd, at_, q, k⟩ := h
  exact ⟨B, ρ, S, m, Dd, at_, q, ⟨k.nx, k.rt, k.bk, k.ct, k.xt.wm tk⟩⟩
abbrev WF : L2.WX := fun _ _ _ _ => False
/-- try: .. except c as n: .. -/
def dTryAs (i : Nat) (M : Addr → Option Bool) (C0 : Addr) (tb : DS) (ts : Addr → Addr → DS) : DS := fun D ρ S => tb { D with xt := fun C fs ρ' S' => wh (M C) fun b => ite (b = true) (C = C0 ∧ ∀ a dd, ts a dd { nx := fun ρ2 S2 => D.nx (un ρ2 i) S2, rt := D.rt, bk := fun ρ2 S2 => D.bk (un ρ2 i) S2, ct := fun ρ2 S2 => D.ct (un ρ2 i) S2 } (st ρ' i (exd a C dd fs)) S') (D.xt C fs ρ' S') } ρ S
theorem qs_try_as {X : Cx} {x n : Str} {Ch : Addr} {i : Nat} {body suite : List Stmt} {b₀ : Stmt} {np pos pos' : Pos} {C0 : Addr} {tb : DS} {ts : Addr → Addr → DS} (hs : X.stack = X.env :: X.outer) (hf : X.env.frame = some X.env.locals) (hN : X.N.Nodup) (hi : X.N[i]? = some n) (hln : X.env.kindOf n = some .local) (hc : Names X x (.ref Ch))
    (hb : ∀ (pn : List (Addr × Obj)) (xe : Value → Shared → Prop), PassesOwn (model X.prog X.w) X.A X.env xe → QSs (X.tr pn xe) body tb)
    (hsu : ∀ (a : Addr) (oe : Obj) (dd : Addr) (pn : List (Addr × Obj)), Zc (.ref C0) (some dd) oe → (∃ vs, oe.data = .fields vs) → QSs (X.suite a ((a, oe) :: pn)) (b₀ :: suite) (ts a dd)) :
    QS X (.Try body [.ExceptHandler (some (.Name x np)) (some n) (b₀ :: suite) pos'] [] [] pos) (dTryAs i (fun C => PySem.W.exmOne X.K (.ref C) (.ref Ch)) C0 tb ts) := by
  refine ps_weak (ps_try_as (i := i) (tb := fun W => lftS X.K (W, fun a => X.H_0 a = none) tb) (ts := fun a cls d D σ H => ∃ dd, cls = .ref C0 ∧ d = some dd ∧ lftS X.K (WF, fun a => X.H_0 a = none) (ts a dd) D σ H) hs hf hN hi hln hc (takesWm X) ?_ ?_) ?_
  · intro W pn xe tk hp
    exact pss_weak (hb pn xe hp) fun D σ H h => lftS_wm (X := X.tr pn xe) tk h
  · intro a oe cls d pn hz hd
    refine ⟨fun pins s σ H D I h => ?_⟩
    obtain ⟨dd, rfl, rfl, h⟩ := h
    exact (hsu a oe dd pn hz hd).run pins s σ H D I (lftS_wm (X := X.suite a ((a, oe) :: pn)) takes0 h)
  · rintro D σ H ⟨B, ρ, S, m, Dd, at_, q, k⟩
    refine ⟨B, ρ, S, m, _, at_, q, k.nx, k.rt, k.bk, k.ct, ⟨fun C fs ρ' S' σ' H' m' dd ys qx a' hd nc en al => ?_, k.xt.new⟩⟩
    obtain ⟨b, e1, qx⟩ := wh_of qx
    refine ⟨b, e1, fun hb a ha => ?_, fun hb => ?_⟩
    · rw [if_pos hb] at qx
      obtain ⟨rfl, qy⟩ := qx
      refine ⟨dd, rfl, rfl, B, _, S', m', _, a'.setv (.exd hd nc en al), qy a dd, ?_⟩
      exact ⟨fun ρ2 S2 σ2 H2 m2 q2 a2 => k.nx _ S2 _ H2 m2 q2 ⟨a2.ev, a2.wd, Fr.un _ _ _ a2.fr⟩, fun d2 S2 v2 H2 m2 q2 e2 w2 dv2 => k.rt _ _ _ _ _ q2 e2 w2 dv2, fun ρ2 S2 σ2 H2 m2 q2 a2 => k.bk _ S2 _ H2 m2 q2 ⟨a2.ev, a2.wd, Fr.un _ _ _ a2.fr⟩,
        fun ρ2 S2 σ2 H2 m2 q2 a2 => k.ct _ S2 _ H2 m2 q2 ⟨a2.ev, a2.wd, Fr.un _ _ _ a2.fr⟩, ⟨fun _ _ _ _ _ _ _ _ _ q => False.elim q, k.xt.new⟩⟩
    · rw [if_neg (by rw [hb]; exact Bool.false_ne_true)] at qx
      exact k.xt.run C fs ρ' S' σ' H' m' dd ys qx a' hd nc en al
/-- try: .. except c: .. -/
def dTryOnly (M : Addr → Option Bool) (C0 : Addr) (tb : DS) (ts : Addr → Addr → DS) : DS := fun D ρ S => tb { D with xt := fun C fs ρ' S' => wh (M C) fun b => ite (b = true) (C = C0 ∧ ∀ a dd, ts a dd { D with xt := fun _ _ _ _ => False } ρ' S') (D.xt C fs ρ' S') } ρ S
theorem qs_try_only {X : Cx} {x : Str} {Ch : Addr} {body suite : List Stmt} {b₀ : Stmt} {np pos pos' : Pos} {C0 : Addr} {tb : DS} {ts : Addr → Addr → DS} (hs : X.stack = X.env :: X.outer) (hf : X.env.frame = some X.env.locals) (hc : Names X x (.ref Ch))
    (hb : ∀ (pn : List (Addr × Obj)) (xe : Value → Shared → Prop), PassesOwn (model X.prog X.w) X.A X.env xe → QSs (X.tr pn xe) body tb)
    (hsu : ∀ (a : Addr) (oe : Obj) (dd : Addr) (pn : List (Addr × Obj)), Zc (.ref C0) (some dd) oe → (∃ vs, oe.data = .fields vs) → QSs (X.suite a ((a, oe) :: pn)) (b₀ :: suite) (ts a dd)) :
    QS X (.Try body [.ExceptHandler (some (.Name x np)) none (b₀ :: suite) pos'] [] [] pos) (dTryOnly (fun C => PySem.W.exmOne X.K (.ref C) (.ref Ch)) C0 tb ts) := by
  refine ps_weak (ps_try_only (tb := fun W => lftS X.K (W, fun a => X.H_0 a = none) tb) (ts := fun a cls d D σ H => ∃ dd, cls = .ref C0 ∧ d = some dd ∧ lftS X.K (WF, fun a => X.H_0 a = none) (ts a dd) D σ H) hs hf hc (takesWm X) ?_ ?_) ?_
  · intro W pn xe tk hp
    exact pss_weak (hb pn xe hp) fun D σ H h => lftS_wm (X := X.tr pn xe) tk h
  · intro a oe cls d pn hz hd
    refine ⟨fun pins s σ H D I h => ?_⟩
    obtain ⟨dd, rfl, rfl, h⟩ := h
    exact (hsu a oe dd pn hz hd).run pins s σ H D I (lftS_wm (X := X.suite a ((a, oe) :: pn)) takes0 h)
  · rintro D σ H ⟨B, ρ, S, m, Dd, at_, q, k⟩
    refine ⟨B, ρ, S, m, _, at_, q, k.nx, k.rt, k.bk, k.ct, ⟨fun C fs ρ' S' σ' H' m' dd ys qx a' hd nc en al => ?_, k.xt.new⟩⟩
    obtain ⟨b, e1, qx⟩ := wh_of qx
    refine ⟨b, e1, fun hb a ha => ?_, fun hb => ?_⟩
    · rw [if_pos hb] at qx
      obtain ⟨rfl, qy⟩ := qx
      exact ⟨dd, rfl, rfl, B, _, S', m', _, a', qy a dd, k.nx, k.rt, k.bk, k.ct, ⟨fun _ _ _ _ _ _ _ _ _ q => False.elim q, k.xt.new⟩⟩
    · rw [if_neg (by rw [hb]; exact Bool.false_ne_true)] at qx
      exact k.xt.run C fs ρ' S' σ' H' m' dd ys qx a' hd nc en al
end K3

/-! what moves while the deal goes on -/
namespace K1
open PySem L2 Xr
def N0 (d c : Addr) : Addr → Prop := fun a => a = d ∨ a = c
theorem But.bt {d c : Addr} {H H' : Hp} (b : But d c H H') : Bt (N0 d c) H H' := fun a o n e => b a o e (fun z => n (.inl z)) (fun z => n (.inr z))
/-- the deal went on, all else stands -/
structure Mv (d c : Addr) (H H' : Hp) : Prop where
  D : DealAt H' d c
  b : But d c H H'
theorem DealAt.same {d c : Addr} {H H' : Hp} (D : DealAt H d c) (s : Same H H') : DealAt H' d c := by
  obtain ⟨cs, b, h1, h2, r⟩ := D.ex
  exact ⟨cs, b, s _ _ h1, s _ _ h2, r⟩
theorem Mv.refl {d c : Addr} {H : Hp} (D : DealAt H d c) : Mv d c H H := ⟨D, But.refl⟩
theorem Mv.trans {d c : Addr} {H H1 H2 : Hp} (a : Mv d c H H1) (b : Mv d c H1 H2) : Mv d c H H2 := ⟨b.D, a.b.trans b.b⟩
theorem But.same {d c : Addr} {H H1 H2 : Hp} (a : But d c H H1) (s : Same H1 H2) : But d c H H2 := fun q o e n m => s q o (a q o e n m)
theorem Mv.same {d c : Addr} {H H1 H2 : Hp} (a : Mv d c H H1) (s : Same H1 H2) : Mv d c H H2 := ⟨a.D.same s, a.b.same s⟩
theorem Mv.new {d c l : Addr} {H H1 : Hp} {o : HO} (a : Mv d c H H1) (hl : H1 l = none) : Mv d c H (upd H1 l o) := a.same ((Same.refl H1).new hl)
theorem Mv.trk {d c : Addr} {H H1 : Hp} (a : Mv d c H H1) : ∀ x, N0 d c x → Trk H1 x := fun x hx => by
  obtain ⟨t1, t2⟩ := a.D.trk
  rcases hx with e | e
  · rw [e]; exact t1
  · rw [e]; exact t2
section
variable {K : PySem.W.Frag} {d c : Addr} {H H1 : Hp}
theorem Dm.mv {v : V} {x : PyData} (h : Dm K (N0 d c) H v x) (m : Mv d c H H1) : Dm K (N0 d c) H1 v x := h.up m.b.bt
theorem SEnv.mv {L : List Nat} {σ : L2.St} {D : DEnv} (h : SEnv K (N0 d c) L σ H D) (m : Mv d c H H1) : SEnv K (N0 d c) L σ H1 D := h.up m.b.bt
theorem of_data {v : V} {ds : List PyData} {Q : VK} {E : XK} (D : DealAt H d c) (h : Dm K (N0 d c) H v (.list ds)) (h0 : 0 < ds.length) (h1 : ds.length < 1000000)
    (k : ∀ (v' : V) (x : PyData) (H' : Hp), x ∈ ds → Dm K (N0 d c) H' v' x → Mv d c H H' → Q v' H') : spOf [.ref d, v] H Q E := by
  cases h with
  | @lst a xs _ e n al =>
    have l := al.len
    refine ⟨d, c, D, .inl ⟨a, xs, rfl, e, fun z => n (.inl z), fun z => n (.inr z), by omega, by omega, fun v' H' hv D' b' => ?_⟩⟩
    obtain ⟨i, hi⟩ := List.getElem?_of_mem hv
    obtain ⟨x, hx, dx⟩ := al.getV hi
    exact k v' x H' (List.mem_of_getElem? hx) (dx.mv ⟨D', b'⟩) ⟨D', b'⟩
end
end K1

/-! data of drawn documents -/
namespace K1
open PySem L2 Xr
theorem sg_of {g z : Str} (h : hasOnly z g = true) (hg : (g.cps.toList.all fun c => decide (c < 1114112)) = true) : Sg z := fun c hc => by
  unfold hasOnly at h
  have h1 := of_decide_eq_true (List.all_eq_true.mp h c hc)
  exact of_decide_eq_true (List.all_eq_true.mp hg c h1)
theorem name_facts {z : Str} (h : nameD (.str z) = true) : Sg z ∧ z.length ≤ 8 := by
  have e : nameD (.str z) = (decide (z.length ≠ 0) && (decide (z.length ≤ 8) && hasOnly z abc)) := rfl
  rw [e, Bool.and_eq_true, Bool.and_eq_true] at h
  exact ⟨sg_of h.2.2 (by decide +kernel), of_decide_eq_true h.2.1⟩
theorem text_facts {z : Str} (h : textD (.str z) = true) : Sg z ∧ z.length ≤ 16 := by
  have e : textD (.str z) = (decide (z.length ≤ 16) && hasOnly z abc9) := rfl
  rw [e, Bool.and_eq_true] at h
  exact ⟨sg_of h.2 (by decide +kernel), of_decide_eq_true h.1⟩
mutual
def Doc.cnt : Doc → Nat
  | .txt _ => 1
  | .nod _ ts => 1 + cntD ts
def cntD : List Doc → Nat
  | [] => 0
  | t :: ts => t.cnt + cntD ts
end
mutual
def Doc.hgt : Doc → Nat
  | .txt _ => 0
  | .nod _ ts => 1 + hgtD ts
def hgtD : List Doc → Nat
  | [] => 0
  | t :: ts => max t.hgt (hgtD ts)
end
mutual
def Doc.ok : Doc → Prop
  | .txt z => textD (.str z) = true
  | .nod x ts => nameD (.str x) = true ∧ okD ts
def okD : List Doc → Prop
  | [] => True
  | t :: ts => t.ok ∧ okD ts
end
theorem cntD_app : ∀ ts us : List Doc, cntD (ts ++ us) = cntD ts + cntD us
  | [], us => by show cntD us = 0 + cntD us; omega
  | t :: ts, us => by
    show t.cnt + cntD (ts ++ us) = t.cnt + cntD ts + cntD us
    rw [cntD_app ts us]
    omega
theorem hgtD_app : ∀ ts us : List Doc, hgtD (ts ++ us) = max (hgtD ts) (hgtD us)
  | [], us => by show hgtD us = max 0 (hgtD us); omega
  | t :: ts, us => by
    show max t.hgt (hgtD (ts ++ us)) = max (max t.hgt (hgtD ts)) (hgtD us)
    rw [hgtD_app ts us]
    omega
theorem okD_app : ∀ ts us : List Doc, okD (ts ++ us) ↔ okD ts ∧ okD us
  | [], us => ⟨fun h => ⟨trivial, h⟩, fun h => h.2⟩
  | t :: ts, us => ⟨fun h => ⟨⟨h.1, ((okD_app ts us).mp h.2).1⟩, ((okD_app ts us).mp h.2).2⟩, fun h => ⟨h.1.1, (okD_app ts us).mpr ⟨h.1.2, h.2⟩⟩⟩
theorem cnt_pos (t : Doc) : 1 ≤ t.cnt := by
  cases t with
  | txt z => exact Nat.le_refl _
  | nod x ts =>
    show 1 ≤ 1 + cntD ts
    omega
theorem cntD_len : ∀ ts : List Doc, ts.length ≤ cntD ts
  | [] => Nat.le_refl _
  | t :: ts => by
    have := cntD_len ts
    have := cnt_pos t
    show ts.length + 1 ≤ t.cnt + cntD ts
    omega
theorem cntD_mem : ∀ {ts : List Doc} {t : Doc}, t ∈ ts → t.cnt ≤ cntD ts
  | u :: ts, t, h => by
    show t.cnt ≤ u.cnt + cntD ts
    rcases List.mem_cons.mp h with e | h
    · rw [e]
      omega
    · have := cntD_mem h
      omega
theorem hgtD_mem : ∀ {ts : List Doc} {t : Doc}, t ∈ ts → t.hgt ≤ hgtD ts
  | u :: ts, t, h => by
    show t.hgt ≤ max u.hgt (hgtD ts)
    rcases List.mem_cons.mp h with e | h
    · rw [e]
      omega
    · have := hgtD_mem h
      omega
theorem okD_mem : ∀ {ts : List Doc} {t : Doc}, okD ts → t ∈ ts → t.ok
  | u :: ts, t, o, h => by
    rcases List.mem_cons.mp h with e | h
    · rw [e]
      exact o.1
    · exact okD_mem o.2 h
mutual
theorem AT.facts : ∀ t : AT, t.doc.cnt = t.cnt ∧ t.doc.hgt = t.hgt ∧ (t.ok → t.doc.ok)
  | .txt z => ⟨rfl, rfl, id⟩
  | .nod a k x ts => by
    obtain ⟨h1, h2, h3⟩ := atAll_facts ts
    refine ⟨?_, ?_, fun h => ⟨h.1, h3 h.2⟩⟩
    · show 1 + cntD (docAll ts) = 1 + cntAll ts
      rw [h1]
    · show 1 + hgtD (docAll ts) = 1 + hgtAll ts
      rw [h2]
theorem atAll_facts : ∀ ts : List AT, cntD (docAll ts) = cntAll ts ∧ hgtD (docAll ts) = hgtAll ts ∧ (okAll ts → okD (docAll ts))
  | [] => ⟨rfl, rfl, fun _ => trivial⟩
  | t :: ts => by
    obtain ⟨a1, a2, a3⟩ := AT.facts t
    obtain ⟨b1, b2, b3⟩ := atAll_facts ts
    refine ⟨?_, ?_, fun h => ⟨a3 h.1, b3 h.2⟩⟩
    · show t.doc.cnt + cntD (docAll ts) = t.cnt + cntAll ts
      rw [a1, b1]
    · show max t.doc.hgt (hgtD (docAll ts)) = max t.hgt (hgtAll ts)
      rw [a2, b2]
end
mutual
theorem Doc.data : ∀ t : Doc, t.ok → Vd (2 * t.hgt) t.dat ∧ wt t.dat ≤ 20 * t.cnt
  | .txt z, h => by
    obtain ⟨a, b⟩ := text_facts (show textD (.str z) = true from h)
    refine ⟨(vd_str a).mono (Nat.zero_le _), ?_⟩
    show 1 + z.length ≤ 20 * 1
    omega
  | .nod x ts, h => by
    obtain ⟨sx, lx⟩ := name_facts h.1
    obtain ⟨i1, i2⟩ := docs_data ts h.2
    refine ⟨?_, ?_⟩
    · show Vd (2 * (1 + hgtD ts)) (.tuple [.str x, .tuple (datAll ts)])
      have e : 2 * (1 + hgtD ts) = 2 * hgtD ts + 1 + 1 := by omega
      rw [e]
      refine vd_tup fun y hy => ?_
      simp only [List.mem_cons, List.not_mem_nil, or_false] at hy
      rcases hy with hy | hy
      · rw [hy]
        exact (vd_str sx).mono (Nat.zero_le _)
      · rw [hy]
        exact vd_tup i1
    · show 1 + ((1 + x.length) + ((1 + wtAll (datAll ts)) + 0)) ≤ 20 * (1 + cntD ts)
      omega
theorem docs_data : ∀ ts : List Doc, okD ts → (∀ y ∈ datAll ts, Vd (2 * hgtD ts) y) ∧ wtAll (datAll ts) ≤ 20 * cntD ts
  | [], _ => ⟨fun y hy => by
      have hy' : y ∈ ([] : List PyData) := hy
      simp at hy', Nat.le_refl _⟩
  | t :: ts, h => by
    obtain ⟨a1, a2⟩ := Doc.data t h.1
    obtain ⟨b1, b2⟩ := docs_data ts h.2
    have ec : cntD (t :: ts) = t.cnt + cntD ts := rfl
    have eh : hgtD (t :: ts) = max t.hgt (hgtD ts) := rfl
    refine ⟨fun y hy => ?_, ?_⟩
    · have hy' : y ∈ t.dat :: datAll ts := hy
      rcases List.mem_cons.mp hy' with e | e
      · rw [e]
        exact a1.mono (by omega)
      · exact (b1 y e).mono (by omega)
    · show wt t.dat + wtAll (datAll ts) ≤ _
      omega
end
end K1

/-! texts of documents -/
namespace K1
open PySem L2 Xr
mutual
/-- the signs of a thing's text -/
def Doc.ch : Doc → List Nat
  | .txt z => 34 :: (z.cps.toList ++ [34])
  | .nod x ts => x.cps.toList ++ 40 :: ((chT ts).tail ++ [41])
/-- the texts of things, a blank ahead of each -/
def chT : List Doc → List Nat
  | [] => []
  | t :: ts => 32 :: (t.ch ++ chT ts)
end
def strOf (l : List Nat) : Str := ⟨l.toArray⟩
theorem strOf_cps (l : List Nat) : (strOf l).cps.toList = l := by simp [strOf]
theorem strOf_len (l : List Nat) : (strOf l).length = l.length := by
  show l.toArray.size = l.length
  simp
theorem strOf_eq (z : Str) : strOf z.cps.toList = z := by
  cases z
  simp [strOf]
theorem str_ext {a b : Str} (h : a.cps.toList = b.cps.toList) : a = b := by rw [← strOf_eq a, ← strOf_eq b, h]
theorem strOf_app (a b : List Nat) : strOf a ++ strOf b = strOf (a ++ b) := str_ext (by rw [cps_app, strOf_cps, strOf_cps, strOf_cps])
def Doc.tx (t : Doc) : Str := strOf t.ch
def txAll (ts : List Doc) : Str := strOf (chT ts).tail
theorem chT_map : ∀ ts : List Doc, chT ts = (ts.map fun t => 32 :: t.ch).flatten
  | [] => rfl
  | t :: ts => by
    show 32 :: (t.ch ++ chT ts) = _
    rw [chT_map ts]
    rfl
theorem join_sp : ∀ ys : List Str, (Str.join (Str.ofString " ") ys).cps.toList = ((ys.map fun y => 32 :: y.cps.toList).flatten).tail
  | [] => rfl
  | [y] => by
    show y.cps.toList = _
    simp
  | y :: y2 :: r => by
    have ih := join_sp (y2 :: r)
    have e : Str.join (Str.ofString " ") (y :: y2 :: r) = y ++ Str.ofString " " ++ Str.join (Str.ofString " ") (y2 :: r) := rfl
    have t0 : (Str.ofString " ").cps.toList = [32] := by decide +kernel
    rw [e, cps_app, cps_app, ih, t0]
    simp
theorem join_tx (ts : List Doc) : Txt.join (Str.ofString " ") (ts.map Doc.tx) = txAll ts := by
  show Builtin.Str.glued (Str.ofString " ") (ts.map Doc.tx) = _
  rw [StrLaws.glued_eq_join]
  refine str_ext ?_
  rw [join_sp, txAll, strOf_cps, chT_map, List.map_map]
  have e : ((fun y => 32 :: y.cps.toList) ∘ Doc.tx) = fun (t : Doc) => 32 :: t.ch := by
    funext t
    show 32 :: (strOf t.ch).cps.toList = _
    rw [strOf_cps]
  rw [e]
theorem tx_txt (z : Str) : Str.ofString "\"" ++ z ++ Str.ofString "\"" = (Doc.txt z).tx := by
  refine str_ext ?_
  have t0 : (Str.ofString "\"").cps.toList = [34] := by decide +kernel
  rw [cps_app, cps_app, t0]
  show [34] ++ z.cps.toList ++ [34] = (strOf (34 :: (z.cps.toList ++ [34]))).cps.toList
  rw [strOf_cps]
  rfl
theorem tx_nod (x : Str) (ts : List Doc) : x ++ Str.ofString "(" ++ txAll ts ++ Str.ofString ")" = (Doc.nod x ts).tx := by
  refine str_ext ?_
  have t0 : (Str.ofString "(").cps.toList = [40] := by decide +kernel
  have t1 : (Str.ofString ")").cps.toList = [41] := by decide +kernel
  rw [cps_app, cps_app, cps_app, t0, t1]
  show x.cps.toList ++ [40] ++ (strOf (chT ts).tail).cps.toList ++ [41] = (strOf (x.cps.toList ++ 40 :: ((chT ts).tail ++ [41]))).cps.toList
  rw [strOf_cps, strOf_cps]
  simp
theorem cps_len (z : Str) : z.cps.toList.length = z.length := by
  show z.cps.toList.length = z.cps.size
  simp
mutual
theorem ch_len : ∀ t : Doc, t.ok → t.ch.length + 1 ≤ 21 * t.cnt ∧ 0 < t.ch.length
  | .txt z, h => by
    obtain ⟨a, b⟩ := text_facts (show textD (.str z) = true from h)
    have e : (Doc.txt z).ch.length = z.cps.toList.length + 2 := by
      show (34 :: (z.cps.toList ++ [34])).length = _
      simp
    rw [e, cps_len]
    show z.length + 2 + 1 ≤ 21 * 1 ∧ 0 < _
    omega
  | .nod x ts, h => by
    obtain ⟨sx, lx⟩ := name_facts h.1
    have i := chT_len ts h.2
    have e : (Doc.nod x ts).ch.length = x.cps.toList.length + ((chT ts).tail.length + 2) := by
      show (x.cps.toList ++ 40 :: ((chT ts).tail ++ [41])).length = _
      simp
    rw [e, cps_len, List.length_tail]
    show _ ≤ 21 * (1 + cntD ts) ∧ 0 < _
    omega
theorem chT_len : ∀ ts : List Doc, okD ts → (chT ts).length ≤ 21 * cntD ts
  | [], _ => Nat.le_refl _
  | t :: ts, h => by
    have a := ch_len t h.1
    have b := chT_len ts h.2
    show (32 :: (t.ch ++ chT ts)).length ≤ 21 * (t.cnt + cntD ts)
    rw [List.length_cons, List.length_append]
    have := cnt_pos t
    omega
end
end K1

/-! all things of a forest, as they are read; texts built from behind -/
namespace K1
open PySem L2 Xr
mutual
def Doc.pre : Doc → List Doc
  | .txt z => [.txt z]
  | .nod x ts => .nod x ts :: preAll ts
def preAll : List Doc → List Doc
  | [] => []
  | t :: ts => t.pre ++ preAll ts
end
def Doc.kids : Doc → List Doc
  | .txt _ => []
  | .nod _ ts => ts
theorem preAll_app : ∀ ts us : List Doc, preAll (ts ++ us) = preAll ts ++ preAll us
  | [], _ => rfl
  | t :: ts, us => by
    show t.pre ++ preAll (ts ++ us) = (t.pre ++ preAll ts) ++ preAll us
    rw [preAll_app ts us, List.append_assoc]
theorem preAll_cons (g : Doc) (gs : List Doc) : preAll (g :: gs) = g :: preAll (g.kids ++ gs) := by
  rw [preAll_app]
  cases g with
  | txt z => rfl
  | nod x ts => rfl
theorem cnt_kids (g : Doc) (gs : List Doc) : cntD (g :: gs) = 1 + cntD (g.kids ++ gs) := by
  rw [cntD_app]
  cases g with
  | txt z =>
    show 1 + cntD gs = 1 + (0 + cntD gs)
    omega
  | nod x ts =>
    show 1 + cntD ts + cntD gs = 1 + (cntD ts + cntD gs)
    omega
theorem preAll_len : ∀ (n : Nat) (fs : List Doc), cntD fs ≤ n → (preAll fs).length = cntD fs
  | _, [], _ => rfl
  | 0, g :: gs, h => by
    have := cnt_kids g gs
    omega
  | n + 1, g :: gs, h => by
    have e := cnt_kids g gs
    rw [preAll_cons, List.length_cons, preAll_len n _ (by omega)]
    omega
theorem suf : ∀ (n : Nat) (gs P S : List Doc) (u : Doc), cntD gs ≤ n → preAll gs = P ++ u :: S → ∃ r, S = preAll (u.kids ++ r)
  | _, [], P, S, u, _, h => by
    have h' : ([] : List Doc) = P ++ u :: S := h
    simp at h'
  | 0, g :: gs, _, _, _, h, _ => by
    have := cnt_kids g gs
    omega
  | n + 1, g :: gs, P, S, u, hl, h => by
    have e := cnt_kids g gs
    rw [preAll_cons] at h
    cases P with
    | nil =>
      injection h with h1 h2
      subst h1
      exact ⟨gs, h2.symm⟩
    | cons p P =>
      injection h with h1 h2
      exact suf n (g.kids ++ gs) P S u (by omega) h2
theorem preAll_inj : ∀ (n : Nat) (fs gs : List Doc), cntD fs ≤ n → preAll fs = preAll gs → fs = gs
  | _, [], [], _, _ => rfl
  | _, [], g :: gs, _, h => by
    rw [preAll_cons] at h
    cases h
  | _, f :: fs, [], _, h => by
    rw [preAll_cons] at h
    cases h
  | 0, f :: fs, _, h, _ => by
    have := cnt_kids f fs
    omega
  | n + 1, f :: fs, g :: gs, hl, h => by
    have e := cnt_kids f fs
    rw [preAll_cons, preAll_cons] at h
    injection h with h1 h2
    subst h1
    have := preAll_inj n (f.kids ++ fs) (f.kids ++ gs) (by omega) h2
    rw [List.append_cancel_left this]
theorem cnt_pre : ∀ (n : Nat) (fs : List Doc), cntD fs ≤ n → ∀ u ∈ preAll fs, u.cnt ≤ cntD fs
  | _, [], _, u, h => by
    have h' : u ∈ ([] : List Doc) := h
    simp at h'
  | 0, g :: gs, h, _, _ => by
    have := cnt_kids g gs
    omega
  | n + 1, g :: gs, hl, u, h => by
    have e := cnt_kids g gs
    rw [preAll_cons] at h
    rcases List.mem_cons.mp h with h | h
    · rw [h]
      show g.cnt ≤ g.cnt + cntD gs
      omega
    · have := cnt_pre n (g.kids ++ gs) (by omega) u h
      omega
theorem ok_kids {g : Doc} {gs : List Doc} (h : okD (g :: gs)) : okD (g.kids ++ gs) := by
  refine (okD_app _ _).mpr ⟨?_, h.2⟩
  cases g with
  | txt z => trivial
  | nod x ts => exact h.1.2
theorem ok_pre : ∀ (n : Nat) (fs : List Doc), cntD fs ≤ n → okD fs → ∀ u ∈ preAll fs, u.ok
  | _, [], _, _, u, h => by
    have h' : u ∈ ([] : List Doc) := h
    simp at h'
  | 0, g :: gs, h, _, _, _ => by
    have := cnt_kids g gs
    omega
  | n + 1, g :: gs, hl, ho, u, h => by
    have e := cnt_kids g gs
    rw [preAll_cons] at h
    rcases List.mem_cons.mp h with h | h
    · rw [h]
      exact ho.1
    · exact ok_pre n (g.kids ++ gs) (by omega) (ok_kids ho) u h
abbrev sTaken : Stmt := top 5
theorem scTaken : FnScope ["made", "many", "start", "found"] ["made", "many"] (defScope sTaken) := ⟨rfl, rfl, rfl, by decide +kernel, rfl, by decide +kernel, by decide +kernel⟩
abbrev sAll : Stmt := top 11
theorem scAll : FnScope ["forest", "waiting", "things", "thing"] ["forest"] (defScope sAll) := ⟨rfl, rfl, rfl, by decide +kernel, rfl, by decide +kernel, by decide +kernel⟩
abbrev sBuilt : Stmt := top 12
theorem scBuilt : FnScope ["thing", "of_text", "of_node", "made", "part"] ["thing", "of_text", "of_node"] (defScope sBuilt) := ⟨rfl, rfl, rfl, by decide +kernel, rfl, by decide +kernel, by decide +kernel⟩
abbrev sQuoted : Stmt := top 18
theorem scQuoted : FnScope ["text"] ["text"] (defScope sQuoted) := ⟨rfl, rfl, rfl, by decide +kernel, rfl, by decide +kernel, by decide +kernel⟩
abbrev sNodeText : Stmt := top 19
theorem scNodeText : FnScope ["name", "texts"] ["name", "texts"] (defScope sNodeText) := ⟨rfl, rfl, rfl, by decide +kernel, rfl, by decide +kernel, by decide +kernel⟩
abbrev sThingText : Stmt := top 17
theorem scThingText : FnScope ["thing"] ["thing"] (defScope sThingText) := ⟨rfl, rfl, rfl, by decide +kernel, rfl, by decide +kernel, by decide +kernel⟩
abbrev sForestText : Stmt := top 20
theorem scForestText : FnScope ["forest", "thing"] ["forest"] (defScope sForestText) := ⟨rfl, rfl, rfl, by decide +kernel, rfl, by decide +kernel, by decide +kernel⟩
def spTaken (K : PySem.W.Frag) : Sp := fun vs H Q _ => ∃ (m : Addr) (xs ys : List V), vs = [.ref m, .int (ys.length : Int)] ∧ H m = some (.lst (xs ++ ys)) ∧ xs.length + ys.length ≤ 900000 ∧
  ∀ (p : Addr) (H' : Hp), H' m = some (.lst xs) → H' p = some (.lst ys.reverse) → H p = none → (∀ q o, H q = some o → q ≠ m → H' q = some o) → Q (.ref p) H'
def spAllT (K : PySem.W.Frag) : Sp := fun vs H Q _ => ∃ (v : V) (ts : List Doc) (N : Addr → Prop), vs = [v] ∧ Dm K N H v (.tuple (datAll ts)) ∧ cntD ts ≤ 900000 ∧
  ∀ (p : Addr) (us : List V) (H' : Hp), H' p = some (.lst us) → DmAll K N H' us (datAll (preAll ts)) → H p = none → Same H H' → Q (.ref p) H'
def spQuoted : Sp := fun vs H Q _ => ∃ (z : Str), vs = [.str z] ∧ z.length ≤ 1000 ∧ Q (.str (Doc.txt z).tx) H
def spNodeText : Sp := fun vs H Q _ => ∃ (x : Str) (p : Addr) (ts : List Doc), vs = [.str x, .ref p] ∧ H p = some (.lst (ts.map fun t => V.str t.tx)) ∧ x.length ≤ 1000 ∧ okD ts ∧ cntD ts ≤ 1000 ∧ Q (.str (Doc.nod x ts).tx) H
def spText1 (K : PySem.W.Frag) : Sp := fun vs H Q _ => ∃ (v : V) (t : Doc) (N : Addr → Prop), vs = [v] ∧ Dm K N H v t.dat ∧ t.ok ∧ t.cnt ≤ 900 ∧ (∀ a, N a → Trk H a) ∧ ∀ H', Same H H' → Q (.str t.tx) H'
def spBuilt (K : PySem.W.Frag) (aq an : Addr) : Sp := fun vs H Q _ => ∃ (v : V) (t : Doc) (N : Addr → Prop), vs = [v, .ref aq, .ref an] ∧ Dm K N H v t.dat ∧ t.ok ∧ t.cnt ≤ 900 ∧ (∀ a, N a → Trk H a) ∧ ∀ H', Same H H' → Q (.str t.tx) H'
def spForest (K : PySem.W.Frag) : Sp := fun vs H Q _ => ∃ (v : V) (ts : List Doc) (N : Addr → Prop), vs = [v] ∧ Dm K N H v (.tuple (datAll ts)) ∧ okD ts ∧ cntD ts ≤ 900 ∧ (∀ a, N a → Trk H a) ∧ ∀ H', Same H H' → Q (.str (txAll ts)) H'
structure TextTxt (K : PySem.W.Frag) (mg : Str → Option Value) (a_taken a_all_things a_built a_quoted a_node_text a_thing_text : Addr) : Prop where
  n_len : mg "len" = none
  n_list : mg "list" = none
  n_isinstance : mg "isinstance" = none
  n_str : mg "str" = none
  g_taken : mg "taken" = some (.ref a_taken)
  k_taken : PySem.W.keepIn K (.ref a_taken) = true
  g_all_things : mg "all_things" = some (.ref a_all_things)
  k_all_things : PySem.W.keepIn K (.ref a_all_things) = true
  g_built : mg "built" = some (.ref a_built)
  k_built : PySem.W.keepIn K (.ref a_built) = true
  g_quoted : mg "quoted" = some (.ref a_quoted)
  k_quoted : PySem.W.keepIn K (.ref a_quoted) = true
  g_node_text : mg "_node_text" = some (.ref a_node_text)
  k_node_text : PySem.W.keepIn K (.ref a_node_text) = true
  g_thing_text : mg "thing_text" = some (.ref a_thing_text)
  k_thing_text : PySem.W.keepIn K (.ref a_thing_text) = true
theorem datAll_app (ts us : List Doc) : datAll (ts ++ us) = datAll ts ++ datAll us := by rw [datAll_map, datAll_map, datAll_map, List.map_append]
theorem datAll_rev (ts : List Doc) : datAll ts.reverse = (datAll ts).reverse := by rw [datAll_map, datAll_map, List.map_reverse]
/-- the tuple of a node's things -/
theorem Dm.nod {K : PySem.W.Frag} {N : Addr → Prop} {H : Hp} {v : V} {x : Str} {ts : List Doc} (h : Dm K N H v (Doc.nod x ts).dat) : ∃ a y, v = .ref a ∧ Tp K N H a [.str x, y] ∧ Dm K N H y (.tuple (datAll ts)) := Dm.pair h
theorem pt_strD {K : PySem.W.Frag} {N : Addr → Prop} {H : Hp} {v : V} {t : Doc} (h : Dm K N H v t.dat) : TyX K H v (.type (tyN t.dat)) := h.ty
section
variable {P : Program} {w : World} {K : PySem.W.Frag} {mg : Str → Option Value} {base : Heap} {a_taken a_all_things a_built a_quoted a_node_text a_thing_text : Addr} {fdT fdA fdB fdQ fdN fd1 : FuncData}
theorem ok_taken {f : Addr} {fd : FuncData} (F : Fun K "taken" "taken" sTaken f fd) (T : TextTxt K mg a_taken a_all_things a_built a_quoted a_node_text a_thing_text) : FnOk P w K mg base CX0 1 f fd ["made", "many"] (spTaken K) := by
  refine F.ok scTaken (fun vs H Q E h => ?_) (fun cdv A outer s H vs Q E hr h => ?_)
  · obtain ⟨m, xs, ys, rfl, _⟩ := h
    rfl
  · obtain ⟨m, xs, ys, rfl, hm, hl, k⟩ := h
    refine ⟨_, (pss_cons (ps_set (i := 2) scTaken.nd rfl (Or.inl rfl) (pe_op op_sub (pe_callB call_len_seq (by rfl) T.n_len PySem.boot_len (pa_cons (pv 0) pa_nil)) (pv 1)))
      (pss_cons (ps_set (i := 3) scTaken.nd rfl (Or.inl rfl) (pe_slice sl_list (pv 0) (po_some (pv 2)) po_none))
      (pss_cons (ps_delTail (pv 0) (po_some (pv 2)))
      (pss_one (ps_ret (pe_revL (pv 3))))))), ?_⟩
    have e0 : (((xs ++ ys).length : Nat) : Int) - (ys.length : Int) = (xs.length : Int) := by
      rw [List.length_append]
      omega
    refine ⟨_, rfl, m, _, rfl, .inl (SqL.of hm), _, rfl, _, _, rfl, rfl, ?_⟩
    refine ⟨_, rfl, _, rfl, _, rfl, m, _, rfl, SqL.of hm, fun p hp => ?_⟩
    have mp : m ≠ p := ne_of_none hm hp
    rw [e0]
    have ec : cutV (xs ++ ys) (some (xs.length : Int)) none = ys := by
      unfold cutV
      rw [HT.sIx_nat, HT.sIx_none, List.length_append, Nat.min_eq_left (by omega), List.drop_left, List.take_of_length_le (by omega)]
    rw [ec]
    refine ⟨_, rfl, _, rfl, _, rfl, m, xs ++ ys, xs.length, rfl, congrArg some e0, (by rw [upd_ne mp]; exact hm), (by rw [List.length_append]; omega), ?_⟩
    rw [List.take_left]
    refine ⟨_, rfl, p, ys, rfl, SqL.of (by rw [upd_ne (Ne.symm mp), upd_same]), fun r hr2 => ?_⟩
    have hm2 : (upd (upd H p (.lst ys)) m (.lst xs)) m = some (.lst xs) := upd_same
    have hp2 : (upd (upd H p (.lst ys)) m (.lst xs)) p = some (.lst ys) := by rw [upd_ne (Ne.symm mp), upd_same]
    refine k r _ (by rw [upd_ne (ne_of_none hm2 hr2)]; exact hm2) upd_same ?_ ?_
    · cases e : H r with
      | none => rfl
      | some o =>
        have z1 : r ≠ p := ne_of_none e hp
        by_cases z2 : r = m
        · rw [z2, hm2] at hr2
          cases hr2
        · rw [upd_ne z2, upd_ne z1, e] at hr2
          cases hr2
    · intro q o e n
      have z1 : q ≠ p := ne_of_none e hp
      have e2 : (upd (upd H p (.lst ys)) m (.lst xs)) q = some o := by rw [upd_ne n, upd_ne z1]; exact e
      rw [upd_ne (ne_of_none e2 hr2)]
      exact e2
theorem ok_all {f : Addr} {fd : FuncData} (F : Fun K "all_things" "all_things" sAll f fd) (T : TextTxt K mg a_taken a_all_things a_built a_quoted a_node_text a_thing_text) : FnOk P w K mg base CX0 1 f fd ["forest"] (spAllT K) := by
  refine F.ok scAll (fun vs H Q E h => ?_) (fun cdv A outer s H vs Q E hr h => ?_)
  · obtain ⟨v, ts, N, rfl, _⟩ := h
    rfl
  · obtain ⟨v, ts, N, rfl, hv, hl, k⟩ := h
    refine ⟨_, (pss_cons (ps_set (i := 1) scAll.nd rfl (Or.inl rfl) (pe_callTy call_list_of (by rfl) T.n_list (by decide +kernel) (pa_cons (pe_revT (pv 0)) pa_nil)))
      (pss_cons (ps_set (i := 2) scAll.nd rfl (Or.inl rfl) (pe_lst pa_nil))
      (pss_cons (ps_while PassesOwn.never (pt_truth (pv 1) (by intro _; rfl))
      (pss_cons (ps_set (i := 3) scAll.nd rfl (Or.inl rfl) (pe_bm0 PySem.F.plainAttrs_list PySem.F.slot_list_pop PySem.F.type_list_pop mt_pop (pv 1)))
      (pss_cons (ps_expr (pe_bm PySem.F.plainAttrs_list PySem.F.slot_list_append PySem.F.type_list_append mt_append (pv 2) (pa_cons (pv 3) pa_nil)))
      (pss_one (ps_if (pt_not (pt_val (pe_callB call_isi (by rfl) T.n_isinstance (by decide +kernel) (pa_cons (pv 3) (pa_cons (pe_bltn (v := V.ty "str") (u := .type "str") (by rfl) T.n_str (by decide +kernel) (by rfl)) pa_nil)))))
      (pss_one (ps_expr (pe_bm PySem.F.plainAttrs_list PySem.F.slot_list_extend PySem.F.type_list_extend mt_extendT (pv 1) (pa_cons (pe_revT (pe_ix ix_tup (pv 3) pe_int (fun _ _ => rfl))) pa_nil))))
      pss_nil)))))
      (pss_one (ps_ret (pv 2)))))), ?_⟩
    obtain ⟨a, xs, rfl, ta, al⟩ := hv.seq
    refine ⟨_, rfl, a, xs, rfl, ta.sq, fun p hp => ⟨p, xs.reverse, rfl, .inr (SqT.of upd_same), fun W hW => ⟨Nat.zero_le _, fun M hM => ?_⟩⟩⟩
    have pW : p ≠ W := ne_of_none upd_same hW
    have s0 := (((Same.refl H).new (o := .tup xs.reverse) hp).new (o := .lst xs.reverse) hW).new (o := .lst []) hM
    have HW : H W = none := ((Same.refl H).new (o := .tup xs.reverse) hp).free hW
    have HM : H M = none := (((Same.refl H).new (o := .tup xs.reverse) hp).new (o := .lst xs.reverse) hW).free hM
    have WM : W ≠ M := ne_of_none upd_same hM
    refine ⟨fun m σ H1 => ∃ (R out : List Doc) (vs us : List V) (x3 : Option V), σ = [some (.ref a), some (.ref W), some (.ref M), x3] ∧ m = cntD R ∧ H1 W = some (.lst vs.reverse) ∧ H1 M = some (.lst us) ∧ DmAll K N H vs (datAll R) ∧ DmAll K N H us (datAll out) ∧ preAll ts = out ++ preAll R ∧ out.length + cntD R ≤ 900000 ∧ Same H H1,
      ⟨cntD ts, ts, [], xs, [], none, rfl, rfl, by rw [upd_ne WM, upd_same], upd_same, al, .nil, rfl, by show 0 + _ ≤ _; omega, s0⟩, ?_⟩
    rintro m σ H1 ⟨R, out, vs, us, x3, rfl, rfl, h1, h2, dR, dU, ep, hb, s1⟩
    refine ⟨_, rfl, _, .inl ⟨_, SqL.of h1, rfl⟩, ?_⟩
    cases R with
    | nil =>
      have dR' : DmAll K N H vs [] := dR
      cases dR'
      refine iteF ⟨_, rfl, k M us H1 h2 ?_ HM s1⟩
      rw [ep]
      show DmAll K N H1 us (datAll (out ++ []))
      rw [List.append_nil]
      exact dU.up (Bt.same s1)
    | cons t R =>
      have dR' : DmAll K N H vs (t.dat :: datAll R) := dR
      cases dR' with
      | @cons v vs _ _ dv dvs =>
      have nE : (!((v :: vs).reverse).isEmpty) = true := by simp
      rw [nE]
      have er : (v :: vs).reverse = vs.reverse ++ [v] := by simp
      rw [er] at h1
      have ec := cnt_kids t R
      have lv := dvs.len
      rw [datAll_length] at lv
      have lu := dU.len
      rw [datAll_length] at lu
      have lR := cntD_len R
      have ecR : cntD (t :: R) = t.cnt + cntD R := rfl
      have tp := cnt_pos t
      refine iteT ⟨fun σ' H' => ∃ m', m' < cntD (t :: R) ∧ ∃ (R out : List Doc) (vs us : List V) (x3 : Option V), σ' = [some (.ref a), some (.ref W), some (.ref M), x3] ∧ m' = cntD R ∧ H' W = some (.lst vs.reverse) ∧ H' M = some (.lst us) ∧ DmAll K N H vs (datAll R) ∧ DmAll K N H us (datAll out) ∧ preAll ts = out ++ preAll R ∧ out.length + cntD R ≤ 900000 ∧ Same H H', fun _ _ ⟨m', l, q⟩ => ⟨m', l, q⟩, ?_⟩
      refine ⟨_, rfl, .inl ⟨rfl, _, SqL.of h1⟩, _, _, v, rfl, rfl, h1, (by simp), ?_⟩
      rw [List.dropLast_concat]
      have s2 : Same H (upd H1 W (.lst vs.reverse)) := s1.cell HW
      have hM2 : (upd H1 W (.lst vs.reverse)) M = some (.lst us) := by rw [upd_ne (Ne.symm WM)]; exact h2
      refine ⟨_, rfl, .inl ⟨rfl, _, SqL.of hM2⟩, _, rfl, _, _, _, rfl, rfl, hM2, smallM (by omega), ?_⟩
      have s3 : Same H (upd (upd H1 W (.lst vs.reverse)) M (.lst (us ++ [v]))) := s2.cell HM
      have hW3 : (upd (upd H1 W (.lst vs.reverse)) M (.lst (us ++ [v]))) W = some (.lst vs.reverse) := by rw [upd_ne WM, upd_same]
      have hM3 : (upd (upd H1 W (.lst vs.reverse)) M (.lst (us ++ [v]))) M = some (.lst (us ++ [v])) := upd_same
      generalize upd (upd H1 W (.lst vs.reverse)) M (.lst (us ++ [v])) = H3 at s3 hW3 hM3 ⊢
      have dU2 : DmAll K N H (us ++ [v]) (datAll (out ++ [t])) := by rw [datAll_snoc]; exact dU.snoc dv
      have ep2 : preAll ts = (out ++ [t]) ++ preAll (t.kids ++ R) := by rw [ep, preAll_cons, List.append_assoc]; rfl
      refine ⟨_, rfl, _, _, _, _, _, rfl, .ty "str", (dv.up (Bt.same s3)).ty, kit_str t.dat, _, rfl, ?_⟩
      cases t with
      | txt z => exact iteF ⟨cntD R, by omega, R, out ++ [.txt z], vs, us ++ [v], _, rfl, rfl, hW3, hM3, dvs, dU2, ep2, by rw [List.length_append]; show _ + 1 + _ ≤ _; omega, s3⟩
      | nod x cs =>
        obtain ⟨b, y1, rfl, tb, dy1⟩ := dv.nod
        obtain ⟨c, zs, rfl, tc, cl⟩ := dy1.seq
        have lc := cl.len
        rw [datAll_length] at lc
        have lcs := cntD_len cs
        have ecs : (Doc.nod x cs).cnt = 1 + cntD cs := rfl
        refine iteT ⟨_, rfl, .inl ⟨rfl, _, SqL.of hW3⟩, _, rfl, _, _, _, _, rfl, rfl, (tb.up (Bt.same s3)).sq, atI_nat (j := 1) rfl, c, zs, rfl, (tc.up (Bt.same s3)).sq, fun p2 hp2 => ?_⟩
        have W2 : W ≠ p2 := ne_of_none hW3 hp2
        have M2 : M ≠ p2 := ne_of_none hM3 hp2
        have s5 : Same H (upd H3 p2 (.tup zs.reverse)) := s3.new hp2
        refine ⟨W, p2, vs.reverse, zs.reverse, rfl, rfl, (by rw [upd_ne W2]; exact hW3), upd_same, (by rw [sizeLine_eq, List.length_reverse, List.length_reverse]; omega), ?_⟩
        refine ⟨cntD (cs ++ R), (by rw [cntD_app]; omega), cs ++ R, out ++ [.nod x cs], zs ++ vs, us ++ [.ref b], _, rfl, rfl, (by rw [upd_same, List.reverse_append]), (by rw [upd_ne (Ne.symm WM), upd_ne M2]; exact hM3), (by rw [datAll_app]; exact cl.app dvs), dU2, ep2, ?_, s5.cell HW⟩
        rw [List.length_append, cntD_app]
        show _ + 1 + _ ≤ _
        omega
theorem ok_quoted {f : Addr} {fd : FuncData} (F : Fun K "quoted" "quoted" sQuoted f fd) : FnOk P w K mg base CX0 1 f fd ["text"] spQuoted := by
  refine F.ok scQuoted (fun vs H Q E h => ?_) (fun cdv A outer s H vs Q E hr h => ?_)
  · obtain ⟨z, rfl, _⟩ := h
    rfl
  · obtain ⟨z, rfl, hl, k⟩ := h
    refine ⟨_, (pss_one (ps_ret (pe_op op_add_str (pe_op op_add_str pe_str (pv 0)) pe_str))), ?_⟩
    have l1 : (Str.ofString "\"").length = 1 := by decide +kernel
    refine ⟨_, rfl, _, _, rfl, rfl, (by rw [sizeLine_eq, l1]; omega), _, _, rfl, rfl, (by rw [sizeLine_eq, strLen_append, l1]; omega), ?_⟩
    rw [tx_txt]
    exact k
theorem sum_tx : ∀ ts : List Doc, okD ts → ((ts.map Doc.tx).map (·.length)).sum ≤ 21 * cntD ts
  | [], _ => Nat.le_refl _
  | t :: ts, h => by
    have a := ch_len t h.1
    have b := sum_tx ts h.2
    have e : t.tx.length = t.ch.length := strOf_len _
    have ec : cntD (t :: ts) = t.cnt + cntD ts := rfl
    simp only [List.map_cons, List.sum_cons]
    omega
theorem ok_nodeText {f : Addr} {fd : FuncData} (F : Fun K "_node_text" "_node_text" sNodeText f fd) : FnOk P w K mg base CX0 1 f fd ["name", "texts"] spNodeText := by
  refine F.ok scNodeText (fun vs H Q E h => ?_) (fun cdv A outer s H vs Q E hr h => ?_)
  · obtain ⟨x, p, ts, rfl, _⟩ := h
    rfl
  · obtain ⟨x, p, ts, rfl, hp, hx, ho, hc, k⟩ := h
    refine ⟨_, (pss_one (ps_ret (pe_op op_add_str (pe_op op_add_str (pe_op op_add_str (pv 0) pe_str) (pe_join pe_str (pv 1))) pe_str))), ?_⟩
    have l1 : (Str.ofString "(").length = 1 := by decide +kernel
    have l2 : (Str.ofString ")").length = 1 := by decide +kernel
    have l3 : (Str.ofString " ").length = 1 := by decide +kernel
    have lt := cntD_len ts
    have ls := sum_tx ts ho
    have lT : (txAll ts).length ≤ 21 * cntD ts := by
      unfold txAll
      rw [strOf_len, List.length_tail]
      have := chT_len ts ho
      omega
    refine ⟨_, rfl, _, _, rfl, rfl, (by rw [sizeLine_eq, l1]; omega), ⟨_, rfl⟩, _, rfl, _, p, ts.map Doc.tx, rfl, rfl, .inl (SqL.of (by rw [hp, List.map_map]; rfl)), (by rw [List.length_map, l3]; omega), ?_⟩
    rw [join_tx]
    refine ⟨_, _, rfl, rfl, (by rw [sizeLine_eq, strLen_append, l1]; omega), _, _, rfl, rfl, (by rw [sizeLine_eq, strLen_append, strLen_append, l1, l2]; omega), ?_⟩
    rw [tx_nod]
    exact k
end
end K1

/-! documents by their tuples alone; rows that are still being made -/
namespace K1
open PySem L2 Xr
abbrev F0 : Addr → Prop := fun _ => False
/-- tuples stay -/
def Tm (H H' : Hp) : Prop := ∀ a xs, H a = some (.tup xs) → H' a = some (.tup xs)
theorem Tm.refl {H : Hp} : Tm H H := fun _ _ h => h
theorem Tm.trans {H H1 H2 : Hp} (a : Tm H H1) (b : Tm H1 H2) : Tm H H2 := fun q xs h => b q xs (a q xs h)
theorem Tm.same {H H' : Hp} (s : Same H H') : Tm H H' := fun q xs h => s q _ h
theorem Tm.new {H H1 : Hp} {l : Addr} {o : HO} (t : Tm H H1) (h : H1 l = none) : Tm H (upd H1 l o) := fun q xs e => by
  have z := t q xs e
  rw [upd_ne (ne_of_none z h)]
  exact z
theorem Tm.cell {H H1 : Hp} {l : Addr} {o : HO} {ys : List V} (t : Tm H H1) (h : H1 l = some (.lst ys)) : Tm H (upd H1 l o) := fun q xs e => by
  have z := t q xs e
  have ne : q ≠ l := fun n => by
    rw [n, h] at z
    cases z
  rw [upd_ne ne]
  exact z
mutual
theorem doc_mono {K : PySem.W.Frag} {N : Addr → Prop} {H H' : Hp} (m : Tm H H') : ∀ (t : Doc) (v : V), Dm K N H v t.dat → Dm K F0 H' v t.dat
  | .txt z, v, h => by
    have h' : Dm K N H v (.str z) := h
    cases h'
    exact .str z
  | .nod x ts, v, h => by
    have h' : Dm K N H v (.tuple [.str x, .tuple (datAll ts)]) := h
    show Dm K F0 H' v (.tuple [.str x, .tuple (datAll ts)])
    cases h' with
    | tup e n a =>
      cases a with
      | cons a1 r =>
        cases r with
        | cons a2 r =>
          cases r
          cases a1
          refine .tup (m _ _ e) (fun z => z) (.cons (.str x) (.cons ?_ .nil))
          cases a2 with
          | tup e' n' a' => exact .tup (m _ _ e') (fun z => z) (docs_mono m ts _ a')
          | con e' a' => exact .con e' (docs_mono m ts _ a')
    | con e a =>
      cases a with
      | cons a1 r =>
        cases r with
        | cons a2 r =>
          cases r
          cases a1
          refine .con e (.cons (.str x) (.cons ?_ .nil))
          cases a2 with
          | tup e' n' a' => exact .tup (m _ _ e') (fun z => z) (docs_mono m ts _ a')
          | con e' a' => exact .con e' (docs_mono m ts _ a')
theorem docs_mono {K : PySem.W.Frag} {N : Addr → Prop} {H H' : Hp} (m : Tm H H') : ∀ (ts : List Doc) (vs : List V), DmAll K N H vs (datAll ts) → DmAll K F0 H' vs (datAll ts)
  | [], vs, h => by
    have h' : DmAll K N H vs [] := h
    cases h'
    exact .nil
  | t :: ts, vs, h => by
    have h' : DmAll K N H vs (t.dat :: datAll ts) := h
    show DmAll K F0 H' vs (t.dat :: datAll ts)
    cases h' with
    | cons a b => exact .cons (doc_mono m t _ a) (docs_mono m ts _ b)
end
/-- the open rows stand -/
def Rows (K : PySem.W.Frag) (H : Hp) (n : Nat) : List Addr → List (List Doc) → Prop
  | [], [] => True
  | r :: rs, d :: ds => (∃ xs, H r = some (.lst xs) ∧ DmAll K F0 H xs (datAll d) ∧ xs.length ≤ n) ∧ Rows K H n rs ds
  | _, _ => False
theorem Rows.mono {K : PySem.W.Frag} {H H' : Hp} {n n' : Nat} (hn : n ≤ n') (m : Tm H H') : ∀ (rs : List Addr) (ds : List (List Doc)), (∀ q ∈ rs, H' q = H q) → Rows K H n rs ds → Rows K H' n' rs ds
  | [], [], _, _ => trivial
  | r :: rs, d :: ds, hq, h => by
    obtain ⟨⟨xs, h1, h2, h3⟩, h4⟩ := h
    exact ⟨⟨xs, by rw [hq r (by simp)]; exact h1, docs_mono m d _ h2, by omega⟩, Rows.mono hn m rs ds (fun q hm => hq q (List.mem_cons_of_mem _ hm)) h4⟩
  | [], _ :: _, _, h => h.elim
  | _ :: _, [], _, h => h.elim
theorem Rows.len {K : PySem.W.Frag} {H : Hp} {n : Nat} : ∀ (rs : List Addr) (ds : List (List Doc)), Rows K H n rs ds → rs.length = ds.length
  | [], [], _ => rfl
  | _ :: rs, _ :: ds, h => by rw [List.length_cons, List.length_cons, Rows.len rs ds h.2]
  | [], _ :: _, h => h.elim
  | _ :: _, [], h => h.elim
theorem Rows.trk {K : PySem.W.Frag} {H : Hp} {n : Nat} : ∀ (rs : List Addr) (ds : List (List Doc)), Rows K H n rs ds → ∀ q ∈ rs, ∃ o, H q = some o
  | r :: rs, d :: ds, h, q, hq => by
    rcases List.mem_cons.mp hq with e | e
    · obtain ⟨⟨xs, h1, _⟩, _⟩ := h
      rw [e]
      exact ⟨_, h1⟩
    · exact Rows.trk rs ds h.2 q e
  | _ :: _, [], h, _, _ => h.elim
theorem at_last {l : List V} {x : V} : atI (l ++ [x]) (-1) = some x := by
  unfold atI ixN
  have h1 : ¬ (0 : Int) ≤ -1 := by omega
  have h2 : -(((l ++ [x]).length : Nat) : Int) ≤ -1 := by
    rw [List.length_append]
    simp
    omega
  rw [if_neg h1, if_pos h2]
  have e2 : (-1 + (((l ++ [x]).length : Nat) : Int)).toNat = l.length := by
    rw [List.length_append]
    simp
    omega
  rw [e2]
  simp
end K1

namespace K1
open PySem L2 Xr
section
variable {P : Program} {w : World} {K : PySem.W.Frag} {mg : Str → Option Value} {base : Heap} {a_taken a_all_things a_built a_quoted a_node_text a_thing_text : Addr} {fdT fdA fdB fdQ fdN fd1 : FuncData}
theorem ok_built {f : Addr} {fd : FuncData} (F : Fun K "built" "built" sBuilt f fd) (T : TextTxt K mg a_taken a_all_things a_built a_quoted a_node_text a_thing_text)
    (G_taken : FnOk P w K mg base CX0 1 a_taken fdT ["made", "many"] (spTaken K)) (b_taken : Binds K fdT ["made", "many"] []) (G_all_things : FnOk P w K mg base CX0 1 a_all_things fdA ["forest"] (spAllT K)) (b_all_things : Binds K fdA ["forest"] [])
    (G_quoted : FnOk P w K mg base CX0 1 a_quoted fdQ ["text"] spQuoted) (b_quoted : Binds K fdQ ["text"] []) (G_node_text : FnOk P w K mg base CX0 1 a_node_text fdN ["name", "texts"] spNodeText) (b_node_text : Binds K fdN ["name", "texts"] []) :
    FnOk P w K mg base CX0 2 f fd ["thing", "of_text", "of_node"] (spBuilt K a_quoted a_node_text) := by
  refine F.ok scBuilt (fun vs H Q E h => ?_) (fun cdv A outer s H vs Q E hr h => ?_)
  · obtain ⟨v, t, N, rfl, _⟩ := h
    rfl
  · obtain ⟨v, t, N, rfl, hv, ho, hc, hN, k⟩ := h
    refine ⟨_, (pss_cons (ps_set (i := 3) scBuilt.nd rfl (Or.inl rfl) (pe_lst pa_nil))
      (pss_cons (ps_for PassesOwn.never rfl (pi_list (pe_revL (pe_call G_all_things hr rfl T.g_all_things T.k_all_things b_all_things .nil pass0 (pa_cons (pe_tup (pa_cons (pv 0) pa_nil)) pa_nil)))) (pg_name (i := 4) scBuilt.nd rfl (Or.inl rfl))
      (pss_one (ps_if (pt_val (pe_callB call_isi (by rfl) T.n_isinstance (by decide +kernel) (pa_cons (pv 4) (pa_cons (pe_bltn (v := V.ty "str") (u := .type "str") (by rfl) T.n_str (by decide +kernel) (by rfl)) pa_nil))))
      (pss_one (ps_expr (pe_bm PySem.F.plainAttrs_list PySem.F.slot_list_append PySem.F.type_list_append mt_append (pv 3) (pa_cons (pe_callL (i := 1) (f := a_quoted) G_quoted hr rfl (Or.inl rfl) T.k_quoted b_quoted .nil pass0 (pa_cons (pv 4) pa_nil)) pa_nil))))
      (pss_one (ps_expr (pe_bm PySem.F.plainAttrs_list PySem.F.slot_list_append PySem.F.type_list_append mt_append (pv 3) (pa_cons (pe_callL (i := 2) (f := a_node_text) G_node_text hr rfl (Or.inl rfl) T.k_node_text b_node_text .nil pass0 (pa_cons (pe_ix ix_tup (pv 4) pe_int (fun _ _ => rfl)) (pa_cons (pe_call G_taken hr rfl T.g_taken T.k_taken b_taken .nil pass0 (pa_cons (pv 3) (pa_cons (pe_callB call_len_seq (by rfl) T.n_len PySem.boot_len (pa_cons (pe_ix ix_tup (pv 4) pe_int (fun _ _ => rfl)) pa_nil)) pa_nil))) pa_nil))) pa_nil)))))))
      (pss_one (ps_ret (pe_ix ix_list (pv 3) pe_int (fun _ _ => rfl)))))), ?_⟩
    refine ⟨Nat.zero_le _, fun M hM => ?_⟩
    have s0 := (Same.refl H).new (o := .lst []) hM
    have hM0 : (upd H M (.lst [])) M = some (.lst []) := upd_same
    generalize upd H M (.lst []) = H0 at s0 hM0 ⊢
    refine ⟨_, rfl, (by show 1 ≤ sizeLine; decide), fun p hp => ?_⟩
    have s1 := s0.new (o := .tup [v]) hp
    have hM1 : (upd H0 p (.tup [v])) M = some (.lst []) := by rw [upd_ne (ne_of_none hM0 hp)]; exact hM0
    have d1 : Dm K N (upd H0 p (.tup [v])) (.ref p) (.tuple (datAll [t])) := .tup upd_same (not_new hN s0 hp) (.cons (hv.up (Bt.same s1)) .nil)
    generalize upd H0 p (.tup [v]) = H1 at s1 hM1 d1 ⊢
    have c1 : cntD [t] = t.cnt := rfl
    refine ⟨_, [t], N, rfl, d1, by omega, fun L us H2 hL dU hL0 s2 => ⟨L, us, rfl, SqL.of hL, fun R hR => ?_⟩⟩
    have s12 := s1.trans s2
    have hM2 := s2 _ _ hM1
    have s13 := s12.new (o := .lst us.reverse) hR
    have MR : M ≠ R := ne_of_none hM2 hR
    have hM3 : (upd H2 R (.lst us.reverse)) M = some (.lst []) := by rw [upd_ne MR]; exact hM2
    have hR3 : (upd H2 R (.lst us.reverse)) R = some (.lst us.reverse) := upd_same
    have dU3 := dU.up (Bt.refl.new (o := .lst us.reverse) hR)
    generalize upd H2 R (.lst us.reverse) = H3 at s13 hM3 hR3 dU3 ⊢
    have lU := dU.len
    rw [datAll_length, preAll_len _ [t] (Nat.le_refl _), c1] at lU
    have hpre := preAll_len _ [t] (Nat.le_refl _)
    rw [c1] at hpre
    refine ⟨R, rfl, ⟨_, SqL.of hR3⟩, ?_⟩
    refine for_list (K := K) (a := R) (xs := us.reverse) (fun i σ H4 => ∃ (fs P : List Doc) (x4 : Option V), σ = [some v, some (.ref a_quoted), some (.ref a_node_text), some (.ref M), x4] ∧ preAll [t] = P ++ preAll fs ∧ (preAll fs).length = i ∧ H4 M = some (.lst (fs.reverse.map fun t => V.str t.tx)) ∧ (∀ q o, H3 q = some o → q ≠ M → H4 q = some o))
      ⟨[], preAll [t], none, rfl, by show _ = _ ++ []; rw [List.append_nil], rfl, hM3, fun q o e _ => e⟩ (fun i σ H4 _ ⟨_, _, _, _, _, _, _, hk⟩ => SqL.of (hk R _ hR3 (Ne.symm MR))) ?_ ?_
    · rintro i u σ H4 hu ⟨fs, P, x4, rfl, ep, ei, hM4, hk⟩
      -- the thing ahead
      have li := (List.getElem?_eq_some_iff.mp hu).1
      rw [List.length_reverse, lU] at li
      have lP : P.length = t.cnt - i := by
        have := congrArg List.length ep
        rw [List.length_append, hpre, ei] at this
        omega
      obtain ⟨P', g, rfl⟩ : ∃ P' g, P = P' ++ [g] := by
        rcases List.eq_nil_or_concat P with e | ⟨P', g, e⟩
        · rw [e] at lP
          simp at lP
          omega
        · exact ⟨P', g, by rw [e, List.concat_eq_append]⟩
      have lP' : P'.length + 1 = t.cnt - i := by simpa using lP
      have ep2 : preAll [t] = P' ++ g :: preAll fs := by rw [ep, List.append_assoc]; rfl
      have hg : (preAll [t])[P'.length]? = some g := by rw [ep2]; simp
      obtain ⟨u', hu', du⟩ := dU3.get (i := P'.length) (d := g.dat) (by rw [datAll_map, List.getElem?_map, hg]; rfl)
      have eu : u' = u := by
        have h1 : us.reverse[i]? = us[us.length - 1 - i]? := List.getElem?_reverse (by omega)
        have h2 : us.length - 1 - i = P'.length := by omega
        rw [h1, h2, hu'] at hu
        exact Option.some.inj hu
      subst eu
      have gm : g ∈ preAll [t] := List.mem_of_getElem? hg
      have og := ok_pre _ [t] (Nat.le_refl _) ⟨ho, trivial⟩ g gm
      have cg := cnt_pre _ [t] (Nat.le_refl _) g gm
      rw [c1] at cg
      obtain ⟨r, er⟩ := suf _ [t] P' (preAll fs) g (Nat.le_refl _) ep2
      have efs := preAll_inj _ fs (g.kids ++ r) (Nat.le_refl _) er
      have e9 : preAll (g :: r) = g :: preAll fs := by rw [preAll_cons, ← er]
      have tm : Tm H3 H4 := fun q ys e => hk q _ e (fun z => by
        rw [z, hM3] at e
        cases e)
      have du4 : Dm K F0 H4 u' g.dat := doc_mono tm g u' du
      have lfs := cntD_len fs
      have cfs : cntD fs ≤ t.cnt := by
        have := preAll_len _ fs (Nat.le_refl _)
        omega
      refine ⟨_, rfl, _, _, _, _, _, rfl, .ty "str", du4.ty, kit_str g.dat, _, rfl, ?_⟩
      cases g with
      | txt z =>
        have ev := du4.strV
        subst ev
        obtain ⟨sz, lz⟩ := text_facts (show textD (.str z) = true from og)
        refine iteT ⟨_, rfl, .inl ⟨rfl, _, SqL.of hM4⟩, rfl, _, rfl, z, rfl, by omega, _, _, _, rfl, rfl, hM4, smallM (by rw [List.length_map, List.length_reverse]; omega), ?_⟩
        refine ⟨.txt z :: fs, P', _, rfl, ?_, ?_, ?_, fun q o e n => by rw [upd_ne n]; exact hk q o e n⟩
        · exact ep2
        · show ([Doc.txt z] ++ preAll fs).length = i + 1
          rw [List.length_append, ei]
          show 1 + i = i + 1
          omega
        · rw [upd_same]
          simp
      | nod x cs =>
        have efs' : fs = cs ++ r := efs
        obtain ⟨b, y1, rfl, tb, dy1⟩ := du4.nod
        obtain ⟨c, zs, rfl, tc, cl⟩ := dy1.seq
        have lc := cl.len
        rw [datAll_length] at lc
        obtain ⟨sx, lx⟩ := name_facts og.1
        have ecg : (Doc.nod x cs).cnt = 1 + cntD cs := rfl
        have em : (fs.reverse.map fun t => V.str t.tx) = (r.reverse.map fun t => V.str t.tx) ++ (cs.reverse.map fun t => V.str t.tx) := by
          rw [efs', List.reverse_append, List.map_append]
        rw [em] at hM4
        have lr : cs.length + r.length = fs.length := by rw [efs', List.length_append]
        refine iteF ⟨_, rfl, .inl ⟨rfl, _, SqL.of hM4⟩, rfl, _, rfl, _, _, _, _, rfl, rfl, tb.sq, atI_nat (j := 0) rfl, _, rfl, _, rfl, _, _, _, _, rfl, rfl, tb.sq, atI_nat (j := 1) rfl, c, zs, rfl, .inr tc.sq, ?_⟩
        refine ⟨M, _, (cs.reverse.map fun t => V.str t.tx), (by rw [List.length_map, List.length_reverse, ← lc]; rfl), hM4, (by rw [List.length_map, List.length_map, List.length_reverse, List.length_reverse]; omega), fun p2 H5 hM5 hp5 hp0 hk5 => ?_⟩
        have hp5' : H5 p2 = some (.lst (cs.map fun t => V.str t.tx)) := by
          rw [hp5]
          congr 2
          rw [← List.map_reverse, List.reverse_reverse]
        refine ⟨x, p2, cs, rfl, hp5', by omega, og.2, by omega, _, _, _, rfl, rfl, hM5, smallM (by rw [List.length_map, List.length_reverse]; omega), ?_⟩
        refine ⟨.nod x cs :: r, P', _, rfl, ?_, ?_, ?_, fun q o e n => by rw [upd_ne n]; exact hk5 q o (hk q o e n) n⟩
        · rw [e9]
          exact ep2
        · rw [e9, List.length_cons]
          show (preAll fs).length + 1 = i + 1
          omega
        · rw [upd_same]
          simp
    · rintro σ H4 ⟨fs, P, x4, rfl, ep, ei, hM4, hk⟩
      rw [List.length_reverse, lU] at ei
      have lP : P = [] := by
        have := congrArg List.length ep
        rw [List.length_append, hpre, ei] at this
        exact List.eq_nil_of_length_eq_zero (by omega)
      subst lP
      have efs : fs = [t] := (preAll_inj _ [t] fs (Nat.le_refl _) ep).symm
      subst efs
      refine ⟨_, rfl, _, _, _, _, rfl, rfl, SqL.of hM4, atI_nat (j := 0) rfl, k _ ?_⟩
      exact fun q o e => hk q o (s13 q o e) (ne_of_none e hM)
theorem ok_thingText {f : Addr} {fd : FuncData} (F : Fun K "thing_text" "thing_text" sThingText f fd) (T : TextTxt K mg a_taken a_all_things a_built a_quoted a_node_text a_thing_text)
    (G_built : FnOk P w K mg base CX0 2 a_built fdB ["thing", "of_text", "of_node"] (spBuilt K a_quoted a_node_text)) (b_built : Binds K fdB ["thing", "of_text", "of_node"] []) : FnOk P w K mg base CX0 3 f fd ["thing"] (spText1 K) := by
  refine F.ok scThingText (fun vs H Q E h => ?_) (fun cdv A outer s H vs Q E hr h => ?_)
  · obtain ⟨v, t, N, rfl, _⟩ := h
    rfl
  · obtain ⟨v, t, N, rfl, hv, ho, hc, hN, k⟩ := h
    refine ⟨_, (pss_one (ps_ret (pe_call G_built hr rfl T.g_built T.k_built b_built .nil pass0 (pa_cons (pv 0) (pa_cons (pe_glob (v := V.ref a_quoted) (by rfl) T.g_quoted (by rfl)) (pa_cons (pe_glob (v := V.ref a_node_text) (by rfl) T.g_node_text (by rfl)) pa_nil)))))), ?_⟩
    exact ⟨_, rfl, v, t, N, rfl, hv, ho, hc, hN, k⟩
theorem ok_forestText {f : Addr} {fd : FuncData} (F : Fun K "forest_text" "forest_text" sForestText f fd) (T : TextTxt K mg a_taken a_all_things a_built a_quoted a_node_text a_thing_text)
    (G_thing_text : FnOk P w K mg base CX0 3 a_thing_text fd1 ["thing"] (spText1 K)) (b_thing_text : Binds K fd1 ["thing"] []) : FnOk P w K mg base CX0 4 f fd ["forest"] (spForest K) := by
  refine F.ok scForestText (fun vs H Q E h => ?_) (fun cdv A outer s H vs Q E hr h => ?_)
  · obtain ⟨v, ts, N, rfl, _⟩ := h
    rfl
  · obtain ⟨v, ts, N, rfl, hv, ho, hc, hN, k⟩ := h
    refine ⟨_, (pss_one (ps_ret (pe_join pe_str (pe_lc (own := [("thing", 1)]) (g := gName 1) (tt := tYes) (by rfl) scForestText.nd (pi_tup (pv 0)) (blkOk_by (own := [("thing", 1)]) (N := ["forest", "thing"]) (sc := defScope sForestText) (by decide +kernel)) (fun _ _ _ _ _ => pg_name (i := 1) scForestText.nd rfl (Or.inl rfl)) (fun _ _ _ _ _ => pts_nil) (fun _ _ _ _ _ => (pe_call G_thing_text hr rfl T.g_thing_text T.k_thing_text b_thing_text .nil pass0 (pa_cons (pv 1) pa_nil))))))), ?_⟩
    obtain ⟨a, xs, rfl, ta, al⟩ := hv.seq
    have lx := al.len
    rw [datAll_length] at lx
    have lt := cntD_len ts
    refine ⟨⟨_, rfl⟩, _, rfl, a, rfl, ⟨_, ta.sq⟩, fun D hD => ?_⟩
    refine lc_tup (K := K) (a := a) (xs := xs) (fun i H1 => Same H H1 ∧ H1 D = some (.lst ((ts.take i).map fun t => V.str t.tx))) ⟨(Same.refl H).new hD, by rw [upd_same]; rfl⟩ (fun i H1 _ ⟨s1, _⟩ => (ta.up (Bt.same s1)).sq) ?_ ?_
    · rintro i y H1 hy ⟨s1, h1⟩
      obtain ⟨d, hd, dv⟩ := al.getV hy
      rw [datAll_map, List.getElem?_map] at hd
      cases et : ts[i]? with
      | none => rw [et] at hd; cases hd
      | some t =>
        rw [et] at hd
        have ed := Option.some.inj hd
        subst ed
        have mem : t ∈ ts := List.mem_of_getElem? et
        have il : i < ts.length := (List.getElem?_eq_some_iff.mp et).1
        have cm := cntD_mem mem
        refine ⟨rfl, _, rfl, y, t, N, rfl, dv.up (Bt.same s1), okD_mem ho mem, by omega, trk_up hN s1, fun H2 s2 => ⟨_, s2 _ _ h1, smallM (by rw [List.length_map, List.length_take]; omega), (s1.trans s2).cell hD, ?_⟩⟩
        rw [upd_same, take_snoc et, List.map_append]
        rfl
    · rintro H1 ⟨s1, h1⟩
      rw [lx, List.take_length] at h1
      have ls := sum_tx ts ho
      have l3 : (Str.ofString " ").length = 1 := by decide +kernel
      refine ⟨_, D, ts.map Doc.tx, rfl, rfl, .inl (SqL.of (by rw [h1, List.map_map]; rfl)), (by rw [List.length_map, l3]; omega), ?_⟩
      rw [join_tx]
      exact k _ s1
end
end K1

/-! strings read sign by sign, and piece by piece -/
namespace K3
open PySem L2 Xr K1
/-- where a text ends, or the first wrong sign -/
def qScan : List Nat → Nat → Nat → Sum Nat Nat
  | [], p, _ => .inr p
  | c :: cs, p, m => if c = 34 then .inl p else if 16 ≤ m ∨ c ∉ abc9.cps.toList then .inr p else qScan cs (p + 1) (m + 1)
/-- where a name ends, or the first wrong sign -/
def nScan : List Nat → Nat → Nat → Sum Nat Nat
  | [], p, _ => .inr p
  | c :: cs, p, m => if 0 < m ∧ c = 40 then .inl p else if 8 ≤ m ∨ c ∉ abc.cps.toList then .inr p else nScan cs (p + 1) (m + 1)
inductive W5 | name | quote | behind | opn | thing
def W5.s : W5 → Str
  | .name => Str.ofString "name" | .quote => Str.ofString "quote" | .behind => Str.ofString "behind" | .opn => Str.ofString "open" | .thing => Str.ofString "thing"
abbrev dig : Str := Str.ofString "0123456789 "
def isL (c : Nat) : Bool := decide (c ∈ abc.cps.toList)
def isF (c : Nat) : Bool := decide (c ∈ dig.cps.toList)
theorem abc9_eq : abc9.cps.toList = abc.cps.toList ++ dig.cps.toList := by decide +kernel
theorem in_abc9 (c : Nat) : decide (c ∈ abc9.cps.toList) = (isL c || isF c) := by
  unfold isL isF
  rw [abc9_eq]
  simp
theorem L_not {c : Nat} (h : isL c = true) : c ≠ 40 ∧ c ≠ 41 ∧ c ≠ 34 ∧ c ≠ 32 := by
  have m := of_decide_eq_true h
  refine ⟨?_, ?_, ?_, ?_⟩ <;> (intro e; rw [e] at m; exact absurd m (by decide +kernel))
def isOpn : W5 → Bool
  | .opn => true
  | _ => false
def nxt (node : Bool) (w : W5) (m dp c : Nat) : Option (W5 × Nat × Nat) := match w with
  | .name => if (isL c && decide (m < 8)) = true then some (.name, m + 1, dp) else if decide (c = 40) = true then some (.opn, 0, dp + 1) else none
  | .quote => if decide (c = 34) = true then some (.behind, 0, dp) else if ((isL c || isF c) && decide (m < 16)) = true then some (.quote, m + 1, dp) else none
  | .behind => if (decide (c = 41) && decide (0 < dp)) = true then some (.behind, 0, dp - 1) else if (decide (c = 32) && (decide (0 < dp) || !node)) = true then some (.thing, 0, dp) else none
  | w => if (isOpn w && (decide (c = 41) && decide (0 < dp))) = true then some (.behind, 0, dp - 1) else if (decide (c = 34) && (decide (0 < dp) || !node)) = true then some (.quote, 0, dp) else if isL c = true then some (.name, 1, dp) else none
def isBeh : W5 → Bool
  | .behind => true
  | _ => false
/-- the first sign with which nothing goes on -/
def due (node : Bool) : List Nat → W5 → Nat → Nat → Nat → Option Nat
  | [], w, _, dp, p => if (decide (dp = 0) && (isBeh w || (isOpn w && !node))) = true then none else some p
  | c :: cs, w, m, dp, p => match nxt node w m dp c with
    | none => some p
    | some (w', m', dp') => due node cs w' m' dp' (p + 1)
theorem due_cons {node : Bool} {c : Nat} {cs : List Nat} {w w' : W5} {m m' dp dp' p : Nat} (h : nxt node w m dp c = some (w', m', dp')) : due node (c :: cs) w m dp p = due node cs w' m' dp' (p + 1) := by
  show (match nxt node w m dp c with | none => some p | some (w', m', dp') => due node cs w' m' dp' (p + 1)) = _
  rw [h]
theorem due_stop {node : Bool} {c : Nat} {cs : List Nat} {w : W5} {m dp p : Nat} (h : nxt node w m dp c = none) : due node (c :: cs) w m dp p = some p := by
  show (match nxt node w m dp c with | none => some p | some (w', m', dp') => due node cs w' m' dp' (p + 1)) = _
  rw [h]
theorem q_wrong {node : Bool} {dp : Nat} : ∀ (cs : List Nat) (p m e : Nat), qScan cs p m = .inr e → due node cs .quote m dp p = some e
  | [], p, m, e, h => by
    cases h
    show (if (decide (dp = 0) && (false || (false && !node))) = true then none else some p) = some p
    simp
  | c :: cs, p, m, e, h => by
    unfold qScan at h
    by_cases h1 : c = 34
    · rw [if_pos h1] at h
      cases h
    · rw [if_neg h1] at h
      have n1 : decide (c = 34) = false := decide_eq_false h1
      by_cases h2 : 16 ≤ m ∨ c ∉ abc9.cps.toList
      · rw [if_pos h2] at h
        cases h
        refine due_stop ?_
        unfold nxt
        rw [n1]
        have : ((isL c || isF c) && decide (m < 16)) = false := by
          rw [← in_abc9]
          rcases h2 with h2 | h2
          · rw [decide_eq_false (by omega : ¬ m < 16), Bool.and_false]
          · rw [decide_eq_false h2, Bool.false_and]
        rw [this]
        rfl
      · rw [if_neg h2] at h
        have h3 : c ∈ abc9.cps.toList := Classical.not_not.mp fun q => h2 (.inr q)
        have h4 : m < 16 := by
          have : ¬ 16 ≤ m := fun q => h2 (.inl q)
          omega
        rw [due_cons (w' := .quote) (m' := m + 1) (dp' := dp) ?_]
        · exact q_wrong cs (p + 1) (m + 1) e h
        · unfold nxt
          rw [n1, ← in_abc9, decide_eq_true h3, decide_eq_true h4]
          rfl
theorem q_right {node : Bool} {dp : Nat} : ∀ (cs : List Nat) (p m e : Nat), qScan cs p m = .inl e → m ≤ 16 → ∃ w B, cs = w ++ 34 :: B ∧ e = p + w.length ∧ m + w.length ≤ 16 ∧ (∀ c ∈ w, c ∈ abc9.cps.toList) ∧ due node cs .quote m dp p = due node B .behind 0 dp (e + 1)
  | [], p, m, e, h, _ => by cases h
  | c :: cs, p, m, e, h, hm => by
    unfold qScan at h
    by_cases h1 : c = 34
    · rw [if_pos h1] at h
      cases h
      subst h1
      refine ⟨[], cs, rfl, rfl, hm, fun c h => by simp at h, ?_⟩
      rw [due_cons (w' := .behind) (m' := 0) (dp' := dp) ?_]
      unfold nxt
      rfl
    · rw [if_neg h1] at h
      have n1 : decide (c = 34) = false := decide_eq_false h1
      by_cases h2 : 16 ≤ m ∨ c ∉ abc9.cps.toList
      · rw [if_pos h2] at h
        cases h
      · rw [if_neg h2] at h
        have h3 : c ∈ abc9.cps.toList := Classical.not_not.mp fun q => h2 (.inr q)
        have h4 : m < 16 := by
          have : ¬ 16 ≤ m := fun q => h2 (.inl q)
          omega
        obtain ⟨w, B, e1, e2, e3, e4, e5⟩ := q_right (node := node) (dp := dp) cs (p + 1) (m + 1) e h h4
        refine ⟨c :: w, B, by rw [e1]; rfl, by rw [List.length_cons, e2]; omega, by rw [List.length_cons]; omega, fun x hx => ?_, ?_⟩
        · rcases List.mem_cons.mp hx with q | q
          · rw [q]; exact h3
          · exact e4 x q
        · rw [due_cons (w' := .quote) (m' := m + 1) (dp' := dp) ?_]
          · exact e5
          · unfold nxt
            rw [n1, ← in_abc9, decide_eq_true h3, decide_eq_true h4]
            rfl
theorem n_wrong {node : Bool} {dp : Nat} : ∀ (cs : List Nat) (p m e : Nat), nScan cs p m = .inr e → 0 < m → due node cs .name m dp p = some e
  | [], p, m, e, h, _ => by
    cases h
    show (if (decide (dp = 0) && (false || (false && !node))) = true then none else some p) = some p
    simp
  | c :: cs, p, m, e, h, hm => by
    unfold nScan at h
    by_cases h1 : c = 40
    · rw [if_pos ⟨hm, h1⟩] at h
      cases h
    · rw [if_neg (fun q => h1 q.2)] at h
      by_cases h2 : 8 ≤ m ∨ c ∉ abc.cps.toList
      · rw [if_pos h2] at h
        cases h
        refine due_stop ?_
        unfold nxt
        have : (isL c && decide (m < 8)) = false := by
          rcases h2 with h2 | h2
          · rw [decide_eq_false (by omega : ¬ m < 8), Bool.and_false]
          · rw [show isL c = false from decide_eq_false h2, Bool.false_and]
        rw [this, decide_eq_false h1]
        rfl
      · rw [if_neg h2] at h
        have h3 : isL c = true := decide_eq_true (Classical.not_not.mp fun q => h2 (.inr q))
        have h4 : m < 8 := by
          have : ¬ 8 ≤ m := fun q => h2 (.inl q)
          omega
        rw [due_cons (w' := .name) (m' := m + 1) (dp' := dp) ?_]
        · exact n_wrong cs (p + 1) (m + 1) e h (by omega)
        · unfold nxt
          rw [h3, decide_eq_true h4]
          rfl
theorem n_right {node : Bool} {dp : Nat} : ∀ (cs : List Nat) (p m e : Nat), nScan cs p m = .inl e → 0 < m → m ≤ 8 → ∃ w B, cs = w ++ 40 :: B ∧ e = p + w.length ∧ m + w.length ≤ 8 ∧ (∀ c ∈ w, c ∈ abc.cps.toList) ∧ due node cs .name m dp p = due node B .opn 0 (dp + 1) (e + 1)
  | [], p, m, e, h, _, _ => by cases h
  | c :: cs, p, m, e, h, hm, h8 => by
    unfold nScan at h
    by_cases h1 : c = 40
    · rw [if_pos ⟨hm, h1⟩] at h
      cases h
      subst h1
      refine ⟨[], cs, rfl, rfl, h8, fun c h => by simp at h, ?_⟩
      rw [due_cons (w' := .opn) (m' := 0) (dp' := dp + 1) ?_]
      unfold nxt
      rw [show isL 40 = false by decide +kernel]
      rfl
    · rw [if_neg (fun q => h1 q.2)] at h
      by_cases h2 : 8 ≤ m ∨ c ∉ abc.cps.toList
      · rw [if_pos h2] at h
        cases h
      · rw [if_neg h2] at h
        have h5 : c ∈ abc.cps.toList := Classical.not_not.mp fun q => h2 (.inr q)
        have h3 : isL c = true := decide_eq_true h5
        have h4 : m < 8 := by
          have : ¬ 8 ≤ m := fun q => h2 (.inl q)
          omega
        obtain ⟨w, B, e1, e2, e3, e4, e5⟩ := n_right (node := node) (dp := dp) cs (p + 1) (m + 1) e h (by omega) h4
        refine ⟨c :: w, B, by rw [e1]; rfl, by rw [List.length_cons, e2]; omega, by rw [List.length_cons]; omega, fun x hx => ?_, ?_⟩
        · rcases List.mem_cons.mp hx with q | q
          · rw [q]; exact h5
          · exact e4 x q
        · rw [due_cons (w' := .name) (m' := m + 1) (dp' := dp) ?_]
          · exact e5
          · unfold nxt
            rw [h3, decide_eq_true h4]
            rfl
/-! as far as it is read -/
abbrev Opn := List Doc × Str
def pre (d : List Doc) : List Nat := (chT d).tail ++ (if d = [] then [] else [32])
def opened : List Opn → List Nat
  | [] => []
  | (d, x) :: fs => opened fs ++ (pre d ++ (x.cps.toList ++ [40]))
def core (d : List Doc) (st : Nat) : List Nat := (chT d).tail ++ (if st = 1 then [32] else [])
/-- the outermost row of one node alone -/
def bot : List Opn → List Doc → Nat → Prop
  | [], d, st => (st = 0 ∧ d = []) ∨ (st = 2 ∧ ∃ x cs, d = [.nod x cs])
  | [(d', _)], _, _ => d' = []
  | _ :: f :: fs, d, st => bot (f :: fs) d st
def wst (alone : Bool) (dp st : Nat) : W5 := if st = 0 then (if alone = true ∧ dp = 0 then .thing else .opn) else if st = 1 then .thing else .behind
structure RdI (z : List Nat) (alone : Bool) (D : Option Nat) (a : Nat) (fs : List Opn) (d : List Doc) (st : Nat) : Prop where
  la : a ≤ z.length
  tk : z.take a = opened fs ++ core d st
  s0 : st = 0 → d = []
  s1 : st ≠ 0 → d ≠ []
  s2 : st ≤ 2
  od : okD d
  of_ : ∀ f ∈ fs, okD f.1 ∧ nameD (.str f.2) = true
  bt : alone = true → bot fs d st
  du : due alone (z.drop a) (wst alone fs.length st) 0 fs.length a = D
theorem RdI.start (z : List Nat) (alone : Bool) : RdI z alone (due alone z (if alone = true then .thing else .opn) 0 0 0) 0 [] [] 0 :=
  ⟨Nat.zero_le _, rfl, fun _ => rfl, fun h => absurd rfl h, by decide, trivial, fun f hf => by simp at hf, fun _ => .inl ⟨rfl, rfl⟩, by
    unfold wst
    rw [if_pos rfl]
    cases alone <;> rfl⟩
theorem chT_snoc (d : List Doc) (t : Doc) : chT (d ++ [t]) = chT d ++ 32 :: t.ch := by
  induction d with
  | nil =>
    show 32 :: (t.ch ++ []) = _
    rw [List.append_nil]
    rfl
  | cons u d ih =>
    show 32 :: (u.ch ++ chT (d ++ [t])) = 32 :: (u.ch ++ chT d) ++ 32 :: t.ch
    rw [ih]
    simp
theorem tail_snoc (d : List Doc) (t : Doc) : (chT (d ++ [t])).tail = pre d ++ t.ch := by
  rw [chT_snoc]
  unfold pre
  cases d with
  | nil => rfl
  | cons u d =>
    rw [if_neg (by simp)]
    show (u.ch ++ chT d ++ 32 :: t.ch) = (u.ch ++ chT d) ++ [32] ++ t.ch
    simp
theorem core_pre {d : List Doc} {st : Nat} (s0 : st = 0 → d = []) (s1 : st ≠ 0 → d ≠ []) (h2 : st ≠ 2) (hs : st ≤ 2) : core d st = pre d := by
  unfold core pre
  by_cases h : st = 0
  · rw [s0 h, h]
    rfl
  · have e : st = 1 := by omega
    rw [if_pos e, if_neg (s1 h)]
theorem take_app {z R w : List Nat} {a : Nat} (h : z.drop a = w ++ R) (la : a ≤ z.length) : z.take (a + w.length) = z.take a ++ w ∧ z.drop (a + w.length) = R ∧ a + w.length ≤ z.length := by
  have l := congrArg List.length h
  rw [List.length_drop, List.length_append] at l
  refine ⟨?_, ?_, by omega⟩
  · rw [List.take_add, h, List.take_left]
  · rw [← List.drop_drop, h, List.drop_left]
theorem wst_thing {alone : Bool} {dp st : Nat} (h2 : st ≠ 2) (hs : st ≤ 2) : wst alone dp st = .thing ∨ (st = 0 ∧ wst alone dp st = .opn) := by
  unfold wst
  by_cases h : st = 0
  · rw [if_pos h]
    by_cases q : alone = true ∧ dp = 0
    · rw [if_pos q]
      exact .inl rfl
    · rw [if_neg q]
      exact .inr ⟨h, rfl⟩
  · rw [if_neg h, if_pos (by omega)]
    exact .inl rfl
theorem wst_2 {alone : Bool} {dp : Nat} : wst alone dp 2 = .behind := rfl
theorem fs_pos (fs : List Opn) : decide (0 < fs.length) = !fs.isEmpty := by cases fs <;> simp
theorem bot_put {fs : List Opn} {d d2 : List Doc} {st st2 : Nat} (n : fs ≠ []) (h : bot fs d st) : bot fs d2 st2 := by
  induction fs with
  | nil => exact absurd rfl n
  | cons f fs ih =>
    cases fs with
    | nil => exact h
    | cons g gs => exact ih (by simp) h
variable {z : List Nat} {alone : Bool} {D : Option Nat} {a c st : Nat} {R : List Nat} {fs : List Opn} {d : List Doc}
/-- a text -/
theorem RdI.quote (I : RdI z alone D a fs d st) (hd : z.drop a = 34 :: R) (h2 : st ≠ 2) (free : (!fs.isEmpty || !alone) = true) :
    (∀ e, qScan R (a + 1) 0 = .inr e → D = some e) ∧ ∀ e, qScan R (a + 1) 0 = .inl e → ∃ w, textD (.str (strOf w)) = true ∧ e = a + 1 + w.length ∧ (z.drop (a + 1)).take w.length = w ∧ RdI z alone D (e + 1) fs (d ++ [.txt (strOf w)]) 2 := by
  have hn : nxt alone (wst alone fs.length st) 0 fs.length 34 = some (.quote, 0, fs.length) := by
    have f2 : (decide (0 < fs.length) || !alone) = true := by rw [fs_pos, free]
    rcases wst_thing (alone := alone) (dp := fs.length) h2 I.s2 with e | ⟨_, e⟩ <;> rw [e] <;> unfold nxt <;> simp only [f2, isOpn] <;> rfl
  have du := I.du
  rw [hd, due_cons hn] at du
  refine ⟨fun e h => by rw [← du]; exact q_wrong R (a + 1) 0 e h, fun e h => ?_⟩
  obtain ⟨w, B, e1, e2, e3, e4, e5⟩ := q_right (node := alone) (dp := fs.length) R (a + 1) 0 e h (by decide)
  have hd1 : z.drop a = [34] ++ R := hd
  obtain ⟨t1, t2, t3⟩ := take_app hd1 I.la
  have hd2 : z.drop (a + 1) = w ++ 34 :: B := by rw [← e1]; exact t2
  have hd3 : z.drop a = (34 :: (w ++ [34])) ++ B := by rw [hd, e1]; simp
  obtain ⟨u1, u2, u3⟩ := take_app hd3 I.la
  have el : a + (34 :: (w ++ [34])).length = e + 1 := by
    rw [e2]
    simp
    omega
  rw [el] at u1 u2 u3
  have ht : textD (.str (strOf w)) = true := by
    show (decide ((strOf w).length ≤ 16) && hasOnly (strOf w) abc9) = true
    unfold hasOnly
    rw [strOf_len, strOf_cps, decide_eq_true (by omega : w.length ≤ 16), Bool.true_and]
    exact List.all_eq_true.mpr fun c hc => decide_eq_true (e4 c hc)
  refine ⟨w, ht, e2, by rw [hd2, List.take_left], u3, ?_, fun h => (nomatch h), fun _ => by simp, by decide, (okD_app _ _).mpr ⟨I.od, ht, trivial⟩, I.of_, fun ha => ?_, ?_⟩
  · rw [u1, I.tk, core_pre I.s0 I.s1 h2 I.s2]
    unfold core
    rw [tail_snoc, if_neg (by decide), List.append_nil, List.append_assoc]
    show _ ++ (_ ++ 34 :: (w ++ [34])) = _ ++ (_ ++ 34 :: ((strOf w).cps.toList ++ [34]))
    rw [strOf_cps]
  · have n : fs ≠ [] := by
      intro e
      rw [e, ha] at free
      cases free
    exact bot_put n (I.bt ha)
  · rw [u2, wst_2, ← e5]
    exact du
/-- a name -/
theorem RdI.name (I : RdI z alone D a fs d st) (hd : z.drop a = c :: R) (hc : isL c = true) (h2 : st ≠ 2) :
    (∀ e, nScan (c :: R) a 0 = .inr e → D = some e) ∧ ∀ e, nScan (c :: R) a 0 = .inl e → ∃ w, nameD (.str (strOf w)) = true ∧ e = a + w.length ∧ (z.drop a).take w.length = w ∧ RdI z alone D (e + 1) ((d, strOf w) :: fs) [] 0 := by
  have hn : nxt alone (wst alone fs.length st) 0 fs.length c = some (.name, 1, fs.length) := by
    obtain ⟨n1, n2, n3, n4⟩ := L_not hc
    have f1 : (decide (c = 34) && (decide (0 < fs.length) || !alone)) = false := by rw [decide_eq_false n3, Bool.false_and]
    have f2 : ∀ b : Bool, (b && (decide (c = 41) && decide (0 < fs.length))) = false := fun b => by rw [decide_eq_false n2, Bool.false_and, Bool.and_false]
    rcases wst_thing (alone := alone) (dp := fs.length) h2 I.s2 with e | ⟨_, e⟩ <;> rw [e] <;> unfold nxt <;> simp only [f2, f1, hc] <;> rfl
  have du := I.du
  rw [hd, due_cons hn] at du
  have hs : nScan (c :: R) a 0 = nScan R (a + 1) 1 := by
    conv => lhs; unfold nScan
    rw [if_neg (fun q => absurd q.1 (by decide)), if_neg (fun q => q.elim (by decide) (fun q => q (of_decide_eq_true hc)))]
  rw [hs]
  refine ⟨fun e h => by rw [← du]; exact n_wrong R (a + 1) 1 e h (by decide), fun e h => ?_⟩
  obtain ⟨w, B, e1, e2, e3, e4, e5⟩ := n_right (node := alone) (dp := fs.length) R (a + 1) 1 e h (by decide) (by decide)
  have hd2 : z.drop a = (c :: w) ++ 40 :: B := by rw [hd, e1]; rfl
  have hd3 : z.drop a = (c :: w ++ [40]) ++ B := by rw [hd, e1]; simp
  obtain ⟨u1, u2, u3⟩ := take_app hd3 I.la
  have el : a + (c :: w ++ [40]).length = e + 1 := by
    rw [e2]
    simp
    omega
  rw [el] at u1 u2 u3
  have ht : nameD (.str (strOf (c :: w))) = true := by
    show (decide ((strOf (c :: w)).length ≠ 0) && (decide ((strOf (c :: w)).length ≤ 8) && hasOnly (strOf (c :: w)) abc)) = true
    unfold hasOnly
    rw [strOf_len, strOf_cps, decide_eq_true (by simp), decide_eq_true (by rw [List.length_cons]; omega), Bool.true_and, Bool.true_and]
    refine List.all_eq_true.mpr fun x hx => ?_
    rcases List.mem_cons.mp hx with q | q
    · rw [q]; exact hc
    · exact decide_eq_true (e4 x q)
  refine ⟨c :: w, ht, by rw [e2, List.length_cons]; omega, by rw [hd2, List.take_left], u3, ?_, fun _ => rfl, fun h => absurd rfl h, by decide, trivial, fun f hf => ?_, fun ha => ?_, ?_⟩
  · rw [u1, I.tk, core_pre I.s0 I.s1 h2 I.s2]
    rw [show opened ((d, strOf (c :: w)) :: fs) = opened fs ++ (pre d ++ ((strOf (c :: w)).cps.toList ++ [40])) from rfl, strOf_cps]
    show opened fs ++ pre d ++ (c :: w ++ [40]) = opened fs ++ (pre d ++ (c :: w ++ [40])) ++ ([] ++ (if (0 : Nat) = 1 then [32] else []))
    rw [if_neg (by decide), List.append_nil, List.append_nil, List.append_assoc]
  · rcases List.mem_cons.mp hf with q | q
    · rw [q]; exact ⟨I.od, ht⟩
    · exact I.of_ f q
  · have b := I.bt ha
    cases fs with
    | nil =>
      rcases b with ⟨_, b⟩ | ⟨b, _⟩
      · exact b
      · exact absurd b h2
    | cons f fs =>
      show bot (f :: fs) [] 0
      exact bot_put (by simp) b
  · rw [u2]
    have ew : wst alone ((d, strOf (c :: w)) :: fs).length 0 = .opn := by
      unfold wst
      rw [if_pos rfl, if_neg (fun q => by simp at q)]
    rw [ew, List.length_cons, ← e5]
    exact du
/-- a node is closed -/
theorem RdI.close {d' : List Doc} {x : Str} (I : RdI z alone D a ((d', x) :: fs) d st) (hd : z.drop a = 41 :: R) (h1 : st ≠ 1) : RdI z alone D (a + 1) fs (d' ++ [.nod x d]) 2 := by
  have hn : nxt alone (wst alone ((d', x) :: fs).length st) 0 ((d', x) :: fs).length 41 = some (.behind, 0, fs.length) := by
    have hs := I.s2
    have ew : wst alone ((d', x) :: fs).length st = .opn ∨ wst alone ((d', x) :: fs).length st = .behind := by
      unfold wst
      by_cases h : st = 0
      · rw [if_pos h, if_neg (fun q => by simp at q)]
        exact .inl rfl
      · rw [if_neg h, if_neg h1]
        exact .inr rfl
    rcases ew with e | e <;> rw [e] <;> unfold nxt <;> simp [isOpn]
  have du := I.du
  rw [hd, due_cons hn] at du
  have hd1 : z.drop a = [41] ++ R := hd
  obtain ⟨t1, t2, t3⟩ := take_app hd1 I.la
  obtain ⟨o1, o2⟩ := I.of_ _ List.mem_cons_self
  refine ⟨t3, ?_, fun h => (nomatch h), fun _ => by simp, by decide, (okD_app _ _).mpr ⟨o1, ⟨o2, I.od⟩, trivial⟩, fun f hf => I.of_ f (List.mem_cons_of_mem _ hf), fun ha => ?_, ?_⟩
  · show z.take (a + [41].length) = _
    rw [t1, I.tk]
    unfold core
    rw [tail_snoc, if_neg h1, if_neg (by decide)]
    show opened fs ++ (pre d' ++ (x.cps.toList ++ [40])) ++ ((chT d).tail ++ []) ++ [41] = opened fs ++ (pre d' ++ (x.cps.toList ++ 40 :: ((chT d).tail ++ [41])) ++ [])
    simp
  · have b := I.bt ha
    cases fs with
    | nil =>
      have b' : d' = [] := b
      exact .inr ⟨rfl, x, d, by rw [b']; rfl⟩
    | cons f fs => exact bot_put (by simp) b
  · have t2' : z.drop (a + 1) = R := t2
    rw [t2', wst_2]
    exact du
/-- a blank -/
theorem RdI.blank (I : RdI z alone D a fs d 2) (hd : z.drop a = 32 :: R) (free : (!fs.isEmpty || !alone) = true) : RdI z alone D (a + 1) fs d 1 := by
  have hn : nxt alone (wst alone fs.length 2) 0 fs.length 32 = some (.thing, 0, fs.length) := by
    have f2 : (decide (0 < fs.length) || !alone) = true := by rw [fs_pos, free]
    rw [wst_2]
    unfold nxt
    simp only [f2]
    rfl
  have du := I.du
  rw [hd, due_cons hn] at du
  have hd1 : z.drop a = [32] ++ R := hd
  obtain ⟨t1, t2, t3⟩ := take_app hd1 I.la
  refine ⟨t3, ?_, fun h => (nomatch h), fun _ => I.s1 (by decide), by decide, I.od, I.of_, fun ha => ?_, ?_⟩
  · show z.take (a + [32].length) = _
    rw [t1, I.tk]
    unfold core
    rw [if_neg (by decide), if_pos rfl]
    simp
  · have n : fs ≠ [] := by
      intro e
      rw [e, ha] at free
      cases free
    exact bot_put n (I.bt ha)
  · have t2' : z.drop (a + 1) = R := t2
    rw [t2']
    exact du
/-- nothing goes on -/
theorem RdI.stop (I : RdI z alone D a fs d st) (hd : z.drop a = c :: R) (n1 : st ≠ 2 → c = 34 → (!fs.isEmpty || !alone) = false) (n2 : st ≠ 2 → isL c = false) (n3 : st ≠ 1 → c = 41 → fs = []) (n4 : st = 2 → c = 32 → (!fs.isEmpty || !alone) = false) : D = some a := by
  have hn : nxt alone (wst alone fs.length st) 0 fs.length c = none := by
    by_cases h2 : st = 2
    · rw [h2, wst_2]
      unfold nxt
      have f1 : (decide (c = 41) && decide (0 < fs.length)) = false := by
        by_cases h : c = 41
        · rw [n3 (by rw [h2]; decide) h]
          simp
        · rw [decide_eq_false h, Bool.false_and]
      have f2 : (decide (c = 32) && (decide (0 < fs.length) || !alone)) = false := by
        by_cases h : c = 32
        · rw [fs_pos, n4 h2 h, Bool.and_false]
        · rw [decide_eq_false h, Bool.false_and]
      simp only [f1, f2]
      rfl
    · have f1 : (decide (c = 34) && (decide (0 < fs.length) || !alone)) = false := by
        by_cases h : c = 34
        · rw [fs_pos, n1 h2 h, Bool.and_false]
        · rw [decide_eq_false h, Bool.false_and]
      rcases wst_thing (alone := alone) (dp := fs.length) h2 I.s2 with e | ⟨e0, e⟩
      · rw [e]
        unfold nxt
        simp only [f1, n2 h2, isOpn]
        rfl
      · rw [e]
        unfold nxt
        have f3 : (decide (c = 41) && decide (0 < fs.length)) = false := by
          by_cases h : c = 41
          · rw [n3 (by rw [e0]; decide) h]
            simp
          · rw [decide_eq_false h, Bool.false_and]
        simp only [f1, n2 h2, isOpn, f3]
        rfl
  have du := I.du
  rw [hd, due_stop hn] at du
  exact du.symm
/-- the end -/
theorem RdI.done (I : RdI z alone D a fs d st) (ha : a = z.length) :
    ((!fs.isEmpty || (decide (st = 1) || (alone && fs.isEmpty && d.isEmpty))) = true → D = some a) ∧
    ((!fs.isEmpty || (decide (st = 1) || (alone && fs.isEmpty && d.isEmpty))) = false → D = none ∧ fs = [] ∧ strOf z = txAll d ∧ (alone = true → ∃ x cs, d = [.nod x cs])) := by
  have du := I.du
  have e0 : z.drop a = [] := List.drop_of_length_le (by omega)
  rw [e0] at du
  have du' : (if (decide (fs.length = 0) && (isBeh (wst alone fs.length st) || (isOpn (wst alone fs.length st) && !alone))) = true then none else some a) = D := du
  have hs := I.s2
  refine ⟨fun h => ?_, fun h => ?_⟩
  · rw [← du']
    refine if_neg ?_
    cases fs with
    | cons f fs => simp
    | nil =>
      have h' : (decide (st = 1) || (alone && true && d.isEmpty)) = true := h
      by_cases h1 : st = 1
      · rw [h1]
        show ¬ ((true && (isBeh (wst alone 0 1) || (isOpn (wst alone 0 1) && !alone))) = true)
        unfold wst
        simp [isBeh, isOpn]
      · rw [decide_eq_false h1, Bool.false_or] at h'
        simp only [Bool.and_eq_true, Bool.and_true] at h'
        obtain ⟨ha, hd⟩ := h'
        have ed : d = [] := by simpa using hd
        have st0 : st = 0 := by
          cases Nat.decEq st 0 with
          | isTrue e => exact e
          | isFalse e => exact absurd ed (I.s1 e)
        rw [st0, ha]
        show ¬ ((true && (isBeh (wst true 0 0) || (isOpn (wst true 0 0) && !true))) = true)
        unfold wst
        simp [isBeh, isOpn]
  · rw [Bool.or_eq_false_iff, Bool.or_eq_false_iff] at h
    obtain ⟨h1, h2, h3⟩ := h
    have ef : fs = [] := by
      cases fs with
      | nil => rfl
      | cons f fs => cases h1
    subst ef
    have n1 : st ≠ 1 := of_decide_eq_false h2
    have tk := I.tk
    rw [List.take_of_length_le (by omega)] at tk
    refine ⟨?_, rfl, ?_, fun q => ?_⟩
    · rw [← du']
      refine if_pos ?_
      by_cases s0 : st = 0
      · have al : alone = false := by
          cases alone with
          | false => rfl
          | true =>
            rw [I.s0 s0] at h3
            cases h3
        rw [al, s0]
        rfl
      · have s2 : st = 2 := by omega
        rw [s2]
        rfl
    · rw [tk]
      unfold opened core txAll
      rw [if_neg n1]
      simp
    · have b := I.bt q
      rcases b with ⟨b1, b2⟩ | ⟨_, b⟩
      · rw [q, b2] at h3
        cases h3
      · exact b
end K3

/-! the plain layer: in, of a list or tuple of texts, or of ints -/
namespace K3
open PySem L2 Xr K1
def intsD : List PyData → Option (List Int)
  | [] => some []
  | .int i :: ds => (intsD ds).map (i :: ·)
  | _ => none
theorem intsD_map : ∀ l : List Int, intsD (l.map PyData.int) = some l
  | [] => rfl
  | i :: l => by
    show (intsD (l.map PyData.int)).map (i :: ·) = _
    rw [intsD_map l]
    rfl
theorem strsD_map : ∀ l : List Str, strsD (l.map PyData.str) = some l
  | [] => rfl
  | i :: l => by
    show (strsD (l.map PyData.str)).map (i :: ·) = _
    rw [strsD_map l]
    rfl
theorem intsD_dv {K : PySem.W.Frag} {m : Mp} {H : Hp} : ∀ {ds : List PyData} {xs : List V} {bs : List Int}, DvAll K m H xs ds → intsD ds = some bs → xs = bs.map V.int
  | [], _, _, h, e => by
    cases h
    cases e
    rfl
  | d :: ds, _, bs, h, e => by
    cases h with
    | cons a r =>
      cases a <;> first | cases e | skip
      rename_i b
      have e' : (intsD ds).map (b :: ·) = some bs := e
      cases hs : intsD ds with
      | none => rw [hs] at e'; cases e'
      | some cs =>
        rw [hs] at e'
        cases e'
        rw [intsD_dv r hs]
        rfl
def dInQ (neg : Bool) : D2
  | .str z, o, S, Q => wh (itemsD S o) fun ds => wh (strsD ds) fun zs => Q (.bool (xor neg (decide (z ∈ zs)))) S
  | .int i, o, S, Q => wh (itemsD S o) fun ds => wh (intsD ds) fun is => Q (.bool (xor neg (decide (i ∈ is)))) S
  | _, _, _, _ => False
theorem inV_str (z : Str) (zs : List Str) : inV (.str z) (zs.map V.str) = decide (z ∈ zs) := by
  unfold inV
  rw [List.any_map, Bool.eq_iff_iff, List.any_eq_true, decide_eq_true_iff]
  constructor
  · rintro ⟨y, h1, h2⟩
    have h3 : (y == z) = true := h2
    rwa [eq_of_beq h3] at h1
  · intro h
    exact ⟨z, h, by show (z == z) = true; simp⟩
theorem inV_int (z : Int) (zs : List Int) : inV (.int z) (zs.map V.int) = decide (z ∈ zs) := by
  unfold inV
  rw [List.any_map, Bool.eq_iff_iff, List.any_eq_true, decide_eq_true_iff]
  constructor
  · rintro ⟨y, h1, h2⟩
    have h3 : (y == z) = true := h2
    rwa [eq_of_beq h3] at h1
  · intro h
    exact ⟨z, h, by show (z == z) = true; simp⟩
theorem flat_str (zs : List Str) : (zs.map V.str).all flatV = true := by
  rw [List.all_map, List.all_eq_true]
  exact fun _ _ => rfl
theorem flat_int (zs : List Int) : (zs.map V.int).all flatV = true := by
  rw [List.all_map, List.all_eq_true]
  exact fun _ _ => rfl
theorem snd_inQ {K : PySem.W.Frag} (neg : Bool) : Snd2 K (dInQ neg) (rIn K neg) := fun m H S x y a b Q Qd w dx dy h k => by
  cases a <;> first | exact False.elim h | skip
  · rename_i i
    cases dx
    obtain ⟨ds, h1, h⟩ := wh_of h
    obtain ⟨is, h2, q⟩ := wh_of h
    obtain ⟨p, xs, rfl, hq, al⟩ := dy.items w h1
    have := intsD_dv al h2
    subst this
    refine ⟨p, _, rfl, hq, rfl, flat_int is, ?_⟩
    rw [inV_int]
    cases neg with
    | false => rw [Bool.false_xor] at q; exact k _ _ _ _ _ q Evo.refl w (.bl _)
    | true => rw [Bool.true_xor] at q; exact k _ _ _ _ _ q Evo.refl w (.bl _)
  · rename_i z
    cases dx
    obtain ⟨ds, h1, h⟩ := wh_of h
    obtain ⟨zs, h2, q⟩ := wh_of h
    obtain ⟨p, xs, rfl, hq, al⟩ := dy.items w h1
    have := strs_dv al h2
    subst this
    refine ⟨p, _, rfl, hq, rfl, flat_str zs, ?_⟩
    rw [inV_str]
    cases neg with
    | false => rw [Bool.false_xor] at q; exact k _ _ _ _ _ q Evo.refl w (.bl _)
    | true => rw [Bool.true_xor] at q; exact k _ _ _ _ _ q Evo.refl w (.bl _)
theorem e_inQs {neg : Bool} {z : Str} {o : PyData} {S : Sto} {Q : DK} : dInQ neg (.str z) o S Q = wh (itemsD S o) fun ds => wh (strsD ds) fun zs => Q (.bool (xor neg (decide (z ∈ zs)))) S := rfl
theorem e_inQi {neg : Bool} {i : Int} {o : PyData} {S : Sto} {Q : DK} : dInQ neg (.int i) o S Q = wh (itemsD S o) fun ds => wh (intsD ds) fun is => Q (.bool (xor neg (decide (i ∈ is)))) S := rfl
end K3

/-! the plain layer: a call by keywords, the last one first -/
namespace K3
open PySem L2 Xr K1
theorem valsA : ∀ {a : List V} {b : List Value} {c : List V} {d : List Value}, Vals a b → Vals c d → Vals (a ++ c) (b ++ d)
  | _, _, _, _, .nil, h => h
  | _, _, _, _, .cons r t, h => .cons r (valsA t h)
theorem valsR : ∀ {a : List V} {b : List Value}, Vals a b → Vals a.reverse b.reverse
  | _, _, .nil => .nil
  | _, _, .cons r t => by
    rw [List.reverse_cons, List.reverse_cons]
    exact valsA (valsR t) (.cons r .nil)
section
variable {X : Cx} {CX : CXT} {j k : Nat} {f : Addr} {fd : FuncData} {ps : List Str} {sp : SpD} {x : Str} {p pos : Pos} {e : Expr} {es : List Expr} {aa : DA}
/-- keywords alone bind, the last one first -/
def BindsR (fd : FuncData) (ps ks : List Str) : Prop := ∀ (s : Shared) (us : List Value), us.length = ps.length → BindsTo s fd ⟨[], ks.zip us⟩ (ps.zip us.reverse)
theorem pe_kwR {CX : CXT} {sp : Sp} {ks : List Str} {kws : List Keyword} {E : L2.St → XK} {ta : TA} (F : FnOk X.prog X.w X.K X.mg X.base CX k f fd ps sp) (hr : Room k X.A) (hg : Gl X x) (hm : X.mg x = some (.ref f)) (kp : PySem.W.keepIn X.K (.ref f) = true) (hb : BindsR fd ps ks)
    (hx : ∀ σ, PassesAt CX X σ (E σ)) (hkw : PK X kws ta)
    (hall : (backToKw pos (keywordEach kws X.env)).all (·.1.isSome) = true) (hks : (backToKw pos (keywordEach kws X.env)).filterMap (·.1) = ks) (hdb : (x == ("__debug__" : Str)) = false)
    (hpl : ((backTo pos (starEach [] X.env)).any (·.1) || (backToKw pos (keywordEach kws X.env)).any (·.1.isNone)) = false) :
    PE X (.Call (.Name x p) [] kws pos) (fun σ H Q => ta σ H fun vs H1 => sp vs.reverse H1 Q (E σ)) := by
  refine ⟨fun pins s σ H Q I h => ?_⟩
  refine PySem.wpAny_Call_Name_kw (ld_glob I hg hm ?_ hdb)
  refine PySem.W.callWith_KW0 (h₀ := X.base) I.ok.mod.kin kp hall ?_ hpl
  refine thn (hkw.run pos pins s σ H _ I h) fun ws s2 ⟨zs, H2, I2, rz, q⟩ => ⟨I2.kIn, ?_⟩
  rw [hks]
  have rr := valsR rz
  have lens : ws.length = ps.length := by
    have := F.len _ _ _ _ q
    rw [List.length_reverse] at this
    rw [← rz.length]
    exact this
  refine PySem.wpAny_call (codeAny_mono (F.run X.A X.stack s2 H2 ⟨[], ks.zip ws⟩ ws.reverse zs.reverse Q (E σ) hr I2.env0 (hb s2 ws lens) rr q) fun r s' hq => ?_)
  cases r with
  | error e => exact hx σ pins H2 s2 e s' I2 hq
  | ok fl =>
    cases fl with
    | ret u => exact I2.after hq
    | next => exact False.elim hq
    | brk => exact False.elim hq
    | cont => exact False.elim hq
def dFnR (sp : SpD) (aa : DA) : DE := fun ρ S Q => aa ρ S fun ds S1 => sp ds.reverse S1 Q X0
theorem q_kwR {ks : List Str} {kws : List Keyword} (hr : Room k X.A) (F : FnOk X.prog X.w X.K X.mg X.base CX0 j f fd ps (spD X.K sp)) (hm : X.mg x = some (.ref f)) (hk : PySem.W.keepIn X.K (.ref f) = true) (hb : BindsR fd ps ks) (hg : Gl X x) (hl : j ≤ k) (hkw : QK X kws aa)
    (hall : (backToKw pos (keywordEach kws X.env)).all (·.1.isSome) = true := by rfl) (hks : (backToKw pos (keywordEach kws X.env)).filterMap (·.1) = ks := by rfl) (hdb : (x == ("__debug__" : Str)) = false := by decide)
    (hpl : ((backTo pos (starEach [] X.env)).any (·.1) || (backToKw pos (keywordEach kws X.env)).any (·.1.isNone)) = false := by rfl) : QE X (.Call (.Name x p) [] kws pos) (dFnR sp aa) :=
  pe_weak (pe_kwR (E := fun _ => E0) F (hr.mono hl) hg hm hk hb (fun σ => at0K pass0 σ) hkw.p hall hks hdb hpl) fun σ H Q ⟨B, ρ, S, m, Qd, at_, q, k⟩ =>
    ⟨B, ρ, S, m, _, at_, q, fun ds S' vs H' m' q e w dv => ⟨m', S', ds.reverse, Qd, X0, w, dv.rev, q, k.up e, Kx.no⟩⟩
end
end K3

/-! the plain layer: three names at once -/
namespace K3
open PySem L2 Xr K1
section
variable {X : Cx} {e a b c : Expr} {pos : Pos} {aa : DA}
def dPar3 (i j l : Nat) (aa : DA) : DS := fun D ρ S => aa ρ S fun ds S1 => match ds with
  | [d, d', d2] => D.nx (st (st (st ρ i d) j d') l d2) S1
  | _ => False
theorem qs_par3 {i j l : Nat} {x y z : Str} {px py pz pt : Pos} {kt k2 pt2} (hc : X.calm = true) (hN : X.N.Nodup) (hi : X.N[i]? = some x) (hj : X.N[j]? = some y) (hl : X.N[l]? = some z) (hij : i ≠ j) (hil : i ≠ l) (hjl : j ≠ l)
    (hx : X.env.scope.names.lookup x = some .local) (hy : X.env.scope.names.lookup y = some .local) (hz : X.env.scope.names.lookup z = some .local) (ha : QA X [a, b, c] aa)
    (hw : swappedStores [.Tuple [.Name x px, .Name y py, .Name z pz] kt pt] (.Tuple [a, b, c] k2 pt2) X.env = pure (some [x, y, z]))
    (hs : swapsWithSole [.Tuple [.Name x px, .Name y py, .Name z pz] kt pt] (.Tuple [a, b, c] k2 pt2) pos.line X.env = pure false := by rfl) :
    QS X (.Assign [.Tuple [.Name x px, .Name y py, .Name z pz] kt pt] (.Tuple [a, b, c] k2 pt2) pos) (dPar3 i j l aa) := ps_weak (ps_par3 hc hN hi hj hl hij hil hjl hx hy hz ha hw hs) fun D σ H ⟨B, ρ, S, m, Dd, at_, q, k⟩ =>
  ⟨B, ρ, S, m, _, at_, q, fun ds S' vs H' m' q e w dv => by
    match ds, q, dv with
    | [d, d', d2], q, dv =>
      cases dv with
      | cons da r =>
        obtain ⟨y, z, rfl, dy, dz⟩ := dv2 r
        exact ⟨_, y, z, rfl, k.nx _ _ _ _ _ q ((((at_.step e w).setv da).setv dy).setv dz)⟩⟩
end
end K3

/-! equality of plain values -/
namespace K3
open PySem L2 Xr K1
theorem q_weakD {X : Cx} {e : Expr} {t t' : DE} (h : QE X e t) (i : ∀ ρ S Q, t' ρ S Q → t ρ S Q) : QE X e t' := pe_weak h fun σ H Q ⟨B, ρ, S, m, Qd, at_, q, k⟩ => ⟨B, ρ, S, m, Qd, at_, i _ _ _ q, k⟩
theorem qt_weakD {X : Cx} {e : Expr} {t t' : DT} (h : QT X e t) (i : ∀ ρ S Q, t' ρ S Q → t ρ S Q) : QT X e t' := pt_weak h fun σ H Q ⟨B, ρ, S, m, Qd, at_, q, k⟩ => ⟨B, ρ, S, m, Qd, at_, i _ _ _ q, k⟩
theorem qs_weakD {X : Cx} {s : Stmt} {t t' : DS} (h : QS X s t) (i : ∀ D ρ S, t' D ρ S → t D ρ S) : QS X s t' := ps_weak h fun D σ H ⟨B, ρ, S, m, Dd, at_, q, k⟩ => ⟨B, ρ, S, m, Dd, at_, i _ _ _ q, k⟩
theorem eqOk_str (x y : Str) : eqOk (.str x) (.str y) := .inl ⟨rfl, rfl, fun _ _ e => (nomatch e), fun _ _ e => (nomatch e)⟩
theorem eqOk_int (i j : Int) : eqOk (.int i) (.int j) := .inl ⟨rfl, rfl, fun _ _ e => (nomatch e), fun _ _ _ e => (nomatch e)⟩
theorem eqOk_nonL (b : PyData) (h2 : scalD b = true) : eqOk .none b := .inl ⟨rfl, h2, fun _ _ e => (nomatch e), fun _ _ e => (nomatch e)⟩
theorem eqv_strD (x y : Str) : PyData.eqv (.str x) (.str y) = decide (x = y) := by
  show (x == y) = _
  by_cases h : x = y
  · rw [h]; simp
  · rw [decide_eq_false h]
    exact beq_eq_false_iff_ne.mpr h
theorem eqv_intD (x y : Int) : PyData.eqv (.int x) (.int y) = decide (x = y) := by
  show (x == y) = _
  by_cases h : x = y
  · rw [h]; simp
  · rw [decide_eq_false h]
    exact beq_eq_false_iff_ne.mpr h
theorem sg_inj {a b : Nat} (h : (⟨#[a]⟩ : Str) = ⟨#[b]⟩) : a = b := by
  injection h with this
  have := congrArg Array.toList this
  simpa using this
theorem eqv_sg (a b : Nat) : PyData.eqv (.str ⟨#[a]⟩) (.str ⟨#[b]⟩) = decide (a = b) := by
  rw [eqv_strD]
  by_cases h : a = b
  · rw [h]; simp
  · rw [decide_eq_false h]
    exact decide_eq_false fun e => h (sg_inj e)
/-- a sign at a place -/
theorem sg_at {z : Str} {n : Nat} (h : n < z.length) : ∃ c, atI z.cps.toList (n : Int) = some c ∧ z.cps.toList.drop n = c :: z.cps.toList.drop (n + 1) := by
  have l : n < z.cps.toList.length := by rw [cps_len]; exact h
  exact ⟨_, atI_nat (List.getElem?_eq_getElem l), List.drop_eq_getElem_cons l⟩
theorem inS_sg {c : Nat} {z : Str} {S : Sto} {Q : DK} : dInS (.str ⟨#[c]⟩) (.str z) S Q = Q (.bool (decide (c ∈ z.cps.toList))) S := rfl
theorem ninS_sg {c : Nat} {z : Str} {S : Sto} {Q : DK} : dNotInS (.str ⟨#[c]⟩) (.str z) S Q = Q (.bool (!decide (c ∈ z.cps.toList))) S := rfl
end K3

/-! where a text and a name end, in any string -/
namespace K3
open PySem L2 Xr K1 Exv
abbrev sQuoteEnd : Stmt := top 24
theorem scQuoteEnd : FnScope ["text", "at", "end"] ["text", "at"] (defScope sQuoteEnd) := ⟨rfl, rfl, rfl, by decide +kernel, rfl, by decide +kernel, by decide +kernel⟩
abbrev sNameEnd : Stmt := top 25
theorem scNameEnd : FnScope ["text", "at", "end"] ["text", "at"] (defScope sNameEnd) := ⟨rfl, rfl, rfl, by decide +kernel, rfl, by decide +kernel, by decide +kernel⟩
abbrev sI0 : Stmt := inClass (top 3) 0
theorem scI0 : FnScope ["self", "at"] ["self", "at"] (defScope sI0) := ⟨rfl, rfl, rfl, by decide +kernel, rfl, by decide +kernel, by decide +kernel⟩
abbrev atE (p : Int) : List (Str × PyData) := [("at", .int p)]
def spScan (C : Addr) (f : List Nat → Nat → Nat → Sum Nat Nat) (off : Nat) : SpD := fun ds S Q E => ∃ (z : Str) (a : Nat), ds = [.str z, .int (a : Nat)] ∧ a < z.length ∧ z.length ≤ 100000 ∧
  (∀ e : Nat, f (z.cps.toList.drop (a + off)) (a + off) 0 = .inl e → Q (.int (e : Nat)) S) ∧ ∀ e : Nat, f (z.cps.toList.drop (a + off)) (a + off) 0 = .inr e → E C (atE (e : Nat)) S
structure ReadTxt (K : PySem.W.Frag) (mg : Str → Option Value) (C fI a_quote_end a_name_end a_read : Addr) (t1 t2 t3 t4 t5 t6 t7 : Tok) : Prop where
  n_isinstance : mg "isinstance" = none
  n_str : mg "str" = none
  n_tuple : mg "tuple" = none
  n_len : mg "len" = none
  n_range : mg "range" = none
  m_InvalidText : mg "InvalidText" = some (.ref C)
  t_InvalidText : ExT K C fI "at" bmExc "Exception.__new__"
  ty_InvalidText : PySem.W.typeIn K (.ref C) = some (.type "type")
  g_NAME_MOST : mg "NAME_MOST" = some (.int 8 t1)
  g_TEXT_MOST : mg "TEXT_MOST" = some (.int 16 t2)
  g_NAME_SIGNS : mg "NAME_SIGNS" = some (.str abc t3)
  g_TEXT_SIGNS : mg "TEXT_SIGNS" = some (.str abc9 t4)
  g_AT_FIRST : mg "AT_FIRST" = some (.int 0 t5)
  g_AT_THING : mg "AT_THING" = some (.int 1 t6)
  g_BEHIND : mg "BEHIND" = some (.int 2 t7)
  g_quote_end : mg "quote_end" = some (.ref a_quote_end)
  k_quote_end : PySem.W.keepIn K (.ref a_quote_end) = true
  g_name_end : mg "_name_end" = some (.ref a_name_end)
  k_name_end : PySem.W.keepIn K (.ref a_name_end) = true
  g_read : mg "_read" = some (.ref a_read)
  k_read : PySem.W.keepIn K (.ref a_read) = true
section
variable {P : Program} {w : World} {K : PySem.W.Frag} {mg : Str → Option Value} {base : Heap} {C fI a_quote_end a_name_end a_read : Addr} {t1 t2 t3 t4 t5 t6 t7 : Tok} {fdI : FuncData}
theorem ok_init0 {f C : Addr} {fd : FuncData} (F : Fun K "__init__" "InvalidText.__init__" sI0 f fd) (T : ExT K C f "at" bmExc "Exception.__new__") : FnOk P w K mg base CX0 1 f fd ["self", "at"] (spInit C "at") := by
  refine F.ok scI0 (fun vs H Q E h => ?_) (fun cdv A outer s H vs Q E hr h => ?_)
  · obtain ⟨a, v, rfl, _⟩ := h
    rfl
  · obtain ⟨a, v, rfl, ha, k⟩ := h
    exact ⟨_, pss_one (ps_putE T PySem.F.store_Exception (pv 0) (pv 1)), _, rfl, _, rfl, a, rfl, ha, fun dx n ne => k dx n ne⟩
theorem bp0 {f : Addr} {fd : FuncData} (F : Fun K "__init__" "InvalidText.__init__" sI0 f fd) (s : Shared) (a : Addr) (u : Value) : BindsTo s fd ⟨[.ref a, u], []⟩ ((["self", "at"] : List Str).zip [.ref a, u]) := by
  obtain ⟨_, _, _, _, _, _, _, _, _, rfl, _, _⟩ := F.ex
  exact .of_eq rfl
theorem ok_quoteEnd {f : Addr} {fd : FuncData} (F : Fun K "quote_end" "quote_end" sQuoteEnd f fd) (T : ReadTxt K mg C fI a_quote_end a_name_end a_read t1 t2 t3 t4 t5 t6 t7) (GI_InvalidText : FnOk P w K mg base CX0 1 fI fdI ["self", "at"] (spInit C "at")) (bI_InvalidText : ∀ (s : Shared) (a : Addr) (u : Value), BindsTo s fdI ⟨[.ref a, u], []⟩ ((["self", "at"] : List Str).zip [.ref a, u])) :
    FnOk P w K mg base (L2.CX P w) 4 f fd ["text", "at"] (spD K (spScan C qScan 1)) := by
  refine dokX F scQuoteEnd (fun ds S Q E h => ?_) fun cdv A outer s H Q E (hr : Room 3 _) => ⟨_, (qss_cons (qs_for PassesOwn.leaving rfl (qi_range2 T.n_range (by rfl) (q_cons (q_add (q_var (pv 1)) q_int) (q_cons (q_len T.n_len (by rfl) (q_cons (q_var (pv 0)) q_nil)) q_nil))) (qg_name (pg_name (i := 2) scQuoteEnd.nd rfl (Or.inl rfl)))
      (qss_cons (qs_if (qt_cmp (op_eqA (u64 hr)) snd_eq (q_at (q_var (pv 0)) (q_var (pv 2)) (fun _ _ => rfl)) q_str (nomark _))
      (qss_one (qs_ret (q_var (pv 2))))
      qss_nil)
      (qss_one (qs_if (PW.pt (qw_or (qt_cmp op_gt snd_lt (q_sub (q_var (pv 2)) (q_var (pv 1))) (q_con (pe_glob (v := V.int 16) (by rfl) T.g_TEXT_MOST (by exact ⟨_, rfl⟩)) (.int _)) (nomark _)) (qw_or1 (qt_cmp op_notIn_sign snd_notInS (q_at (q_var (pv 0)) (q_var (pv 2)) (fun _ _ => rfl)) (q_con (pe_glob (v := V.str abc9) (by rfl) T.g_TEXT_SIGNS (by exact ⟨_, rfl⟩)) (.str _)) (by rfl)))))
      (qss_one (qs_raise rfl rfl T.t_InvalidText PySem.F.excBase_Exception base3E GI_InvalidText (hr.mono (by decide)) pass0 (by rfl) T.m_InvalidText (fun s a u _ => bI_InvalidText s a u) T.ty_InvalidText (q_cons (q_var (pv 2)) q_nil)))
      qss_nil))))
      (qss_one (qs_raise rfl rfl T.t_InvalidText PySem.F.excBase_Exception base3E GI_InvalidText (hr.mono (by decide)) pass0 (by rfl) T.m_InvalidText (fun s a u _ => bI_InvalidText s a u) T.ty_InvalidText (q_cons (q_len T.n_len (by rfl) (q_cons (q_var (pv 0)) q_nil)) q_nil)))), fun ds S Qd Ed h => ?_⟩
  · obtain ⟨z, a, rfl, _⟩ := h
    rfl
  · obtain ⟨z, a, rfl, ha, hz, kq, ke⟩ := h
    (dsimp only [dRetX, dDropX, dSetX, dAsgX, dFnX, dRaise, dTryAs, dTryOnly, dXf, dIsX, dPar3, dFnR, List.reverse_cons, List.reverse_nil, dDelT, mPop0, mPop, mApp, mExt, dFld, dNew, dDGet, dDIn, dZipT, dAll, dTupF, dIdx, dTupRg, dDc, dReprT, dEqT, dNeT, dFor, dLc, dWhile, dRange1, dRange2, dRange3, dEnumT, e_isB, e_tupD, dgUnl, dSeq, dIfS, dSet, dAsg, dRet, dRetN, dDrop, dNext, dPar, dVar, dC, dOp, dB, dTru, dtNot, dtAnd, dtOr, dAnd, dOr, dNot, dIfE, dNeg, dNil, dCons, dTup, dLst, dCel, dNoP, dPart, dSlice, dRevT, dRevL, dCall, on1, dTupOf, dLstOf, dCelOf, dIsi, dName, dgNil, dgCons, dgTup, dFn, dMet, dMet0, gt, st, startD, wh_some, dYes, dEq, dNe, List.map, List.length, List.replicate, List.append, List.cons_append, List.nil_append, dWalk, uns, un, tupNms, dNms, ifT, ifF, List.replicate_succ, List.replicate_zero, Nat.sub_self, Nat.reduceSub, Nat.reduceAdd, Nat.zero_add, Bool.not_true, Bool.not_false, e_addI, e_addS, e_addT, e_addL, e_i2, e_i2c, e_is, e_bool, e_cel, e_strD, e_lenS, e_lenT, e_lenL, e_lenC, e_ixS, e_ixT, e_ixL, e_ixC, e_slS, e_slT, e_slL, e_slC, e_itT, e_itL, e_truN, e_truI, e_truB, e_truL, e_truT, e_okN, e_okB, e_okI, e_okS, e_okL, e_okT, e_okC, e_tupN, e_tupB, e_tupI, e_tupS, e_tupL, e_tupT, e_tupC, e_strN, e_strB, e_strI, e_strS, e_strL, e_strT, e_strC, e_intN, e_intB, e_intI, e_intS, e_intL, e_intT, e_intC, e_boolN, e_boolB, e_boolI, e_boolS, e_boolL, e_boolT, e_boolC, e_lstN, e_lstB, e_lstI, e_lstS, e_lstL, e_lstT, e_lstC, e_nonN, e_nonB, e_nonI, e_nonS, e_nonL, e_nonT, e_wkS, e_wkL, e_wkT, e_wkC, e_join, e_inS, e_ninS, e_ofI, e_ofB, e_abs, e_lenF, e_ixF, e_itF, e_wkF, e_tfF, e_truF, e_repT, e_keyI, e_keyS]; try simp only [true_and, and_true, Nat.reduceLeDiff, reduceIte, reduceCtorEq, Bool.false_eq_true, if_true, if_false, not_false_eq_true, ite_true, ite_false, and_self])
    refine ⟨by omega, ⟨⟨by omega, by omega⟩, by omega, by omega⟩, fun i ρ S' => S' = S ∧ a + 1 + i ≤ z.length ∧ ∃ x, ρ = [some (.str z), some (.int a), x] ∧ qScan (z.cps.toList.drop (a + 1 + i)) (a + 1 + i) i = qScan (z.cps.toList.drop (a + 1)) (a + 1) 0, ⟨rfl, by omega, none, rfl, rfl⟩, fun _ _ _ _ => trivial, ?_, ?_⟩
    · rintro i d ρ S1 hd ⟨rfl, li, x, rfl, hq⟩
      obtain ⟨hi, rfl⟩ := rangeD_at hd
      have ei : (a : Int) + 1 + (i : Nat) * 1 = ((a + 1 + i : Nat) : Int) := by omega
      rw [ei]
      obtain ⟨c, hc, hdr⟩ := sg_at (z := z) (n := a + 1 + i) (by omega)
      rw [hdr] at hq
      have hq2 : (if c = 34 then (Sum.inl (a + 1 + i) : Sum Nat Nat) else if 16 ≤ i ∨ c ∉ abc9.cps.toList then .inr (a + 1 + i) else qScan (z.cps.toList.drop (a + 1 + i + 1)) (a + 1 + i + 1) (i + 1)) = qScan (z.cps.toList.drop (a + 1)) (a + 1) 0 := hq
      (dsimp only [dRetX, dDropX, dSetX, dAsgX, dFnX, dRaise, dTryAs, dTryOnly, dXf, dIsX, dPar3, dFnR, List.reverse_cons, List.reverse_nil, dDelT, mPop0, mPop, mApp, mExt, dFld, dNew, dDGet, dDIn, dZipT, dAll, dTupF, dIdx, dTupRg, dDc, dReprT, dEqT, dNeT, dFor, dLc, dWhile, dRange1, dRange2, dRange3, dEnumT, e_isB, e_tupD, dgUnl, dSeq, dIfS, dSet, dAsg, dRet, dRetN, dDrop, dNext, dPar, dVar, dC, dOp, dB, dTru, dtNot, dtAnd, dtOr, dAnd, dOr, dNot, dIfE, dNeg, dNil, dCons, dTup, dLst, dCel, dNoP, dPart, dSlice, dRevT, dRevL, dCall, on1, dTupOf, dLstOf, dCelOf, dIsi, dName, dgNil, dgCons, dgTup, dFn, dMet, dMet0, gt, st, startD, wh_some, dYes, dEq, dNe, List.map, List.length, List.replicate, List.append, List.cons_append, List.nil_append, dWalk, uns, un, tupNms, dNms, ifT, ifF, List.replicate_succ, List.replicate_zero, Nat.sub_self, Nat.reduceSub, Nat.reduceAdd, Nat.zero_add, Bool.not_true, Bool.not_false, e_addI, e_addS, e_addT, e_addL, e_i2, e_i2c, e_is, e_bool, e_cel, e_strD, e_lenS, e_lenT, e_lenL, e_lenC, e_ixS, e_ixT, e_ixL, e_ixC, e_slS, e_slT, e_slL, e_slC, e_itT, e_itL, e_truN, e_truI, e_truB, e_truL, e_truT, e_okN, e_okB, e_okI, e_okS, e_okL, e_okT, e_okC, e_tupN, e_tupB, e_tupI, e_tupS, e_tupL, e_tupT, e_tupC, e_strN, e_strB, e_strI, e_strS, e_strL, e_strT, e_strC, e_intN, e_intB, e_intI, e_intS, e_intL, e_intT, e_intC, e_boolN, e_boolB, e_boolI, e_boolS, e_boolL, e_boolT, e_boolC, e_lstN, e_lstB, e_lstI, e_lstS, e_lstL, e_lstT, e_lstC, e_nonN, e_nonB, e_nonI, e_nonS, e_nonL, e_nonT, e_wkS, e_wkL, e_wkT, e_wkC, e_join, e_inS, e_ninS, e_ofI, e_ofB, e_abs, e_lenF, e_ixF, e_itF, e_wkF, e_tfF, e_truF, e_repT, e_keyI, e_keyS]; try simp only [true_and, and_true, Nat.reduceLeDiff, reduceIte, reduceCtorEq, Bool.false_eq_true, if_true, if_false, not_false_eq_true, ite_true, ite_false, and_self])
      refine ⟨by omega, wh_mk hc ⟨eqOk_str _ _, ?_⟩⟩
      rw [show PyData.eqv (.str ⟨#[c]⟩) (.str (Str.ofString "\"")) = decide (c = 34) from eqv_sg c 34]
      by_cases c34 : c = 34
      · rw [if_pos c34] at hq2
        rw [decide_eq_true c34, ifT]
        exact kq _ hq2.symm
      rw [if_neg c34] at hq2
      rw [decide_eq_false c34, ifF]
      by_cases h16 : 16 ≤ i
      · rw [if_pos (.inl h16)] at hq2
        rw [decide_eq_true (by omega : (16 : Int) < ((a + 1 + i : Nat) : Int) - (a : Int)), ifT]
        exact ke _ hq2.symm
      rw [decide_eq_false (by omega : ¬ (16 : Int) < ((a + 1 + i : Nat) : Int) - (a : Int)), ifF]
      refine ⟨by omega, wh_mk hc ?_⟩
      by_cases hm : c ∈ abc9.cps.toList
      · rw [if_neg (fun q => q.elim h16 (fun q => q hm))] at hq2
        rw [decide_eq_true hm, Bool.not_true, ifF]
        exact ⟨by omega, _, rfl, hq2⟩
      · rw [if_pos (.inr hm)] at hq2
        rw [decide_eq_false hm, Bool.not_false, ifT]
        exact ke _ hq2.symm
    · rintro ρ S1 ⟨rfl, li, x, rfl, hq⟩
      rw [rangeD_len] at li hq
      (dsimp only [dRetX, dDropX, dSetX, dAsgX, dFnX, dRaise, dTryAs, dTryOnly, dXf, dIsX, dPar3, dFnR, List.reverse_cons, List.reverse_nil, dDelT, mPop0, mPop, mApp, mExt, dFld, dNew, dDGet, dDIn, dZipT, dAll, dTupF, dIdx, dTupRg, dDc, dReprT, dEqT, dNeT, dFor, dLc, dWhile, dRange1, dRange2, dRange3, dEnumT, e_isB, e_tupD, dgUnl, dSeq, dIfS, dSet, dAsg, dRet, dRetN, dDrop, dNext, dPar, dVar, dC, dOp, dB, dTru, dtNot, dtAnd, dtOr, dAnd, dOr, dNot, dIfE, dNeg, dNil, dCons, dTup, dLst, dCel, dNoP, dPart, dSlice, dRevT, dRevL, dCall, on1, dTupOf, dLstOf, dCelOf, dIsi, dName, dgNil, dgCons, dgTup, dFn, dMet, dMet0, gt, st, startD, wh_some, dYes, dEq, dNe, List.map, List.length, List.replicate, List.append, List.cons_append, List.nil_append, dWalk, uns, un, tupNms, dNms, ifT, ifF, List.replicate_succ, List.replicate_zero, Nat.sub_self, Nat.reduceSub, Nat.reduceAdd, Nat.zero_add, Bool.not_true, Bool.not_false, e_addI, e_addS, e_addT, e_addL, e_i2, e_i2c, e_is, e_bool, e_cel, e_strD, e_lenS, e_lenT, e_lenL, e_lenC, e_ixS, e_ixT, e_ixL, e_ixC, e_slS, e_slT, e_slL, e_slC, e_itT, e_itL, e_truN, e_truI, e_truB, e_truL, e_truT, e_okN, e_okB, e_okI, e_okS, e_okL, e_okT, e_okC, e_tupN, e_tupB, e_tupI, e_tupS, e_tupL, e_tupT, e_tupC, e_strN, e_strB, e_strI, e_strS, e_strL, e_strT, e_strC, e_intN, e_intB, e_intI, e_intS, e_intL, e_intT, e_intC, e_boolN, e_boolB, e_boolI, e_boolS, e_boolL, e_boolT, e_boolC, e_lstN, e_lstB, e_lstI, e_lstS, e_lstL, e_lstT, e_lstC, e_nonN, e_nonB, e_nonI, e_nonS, e_nonL, e_nonT, e_wkS, e_wkL, e_wkT, e_wkC, e_join, e_inS, e_ninS, e_ofI, e_ofB, e_abs, e_lenF, e_ixF, e_itF, e_wkF, e_tfF, e_truF, e_repT, e_keyI, e_keyS]; try simp only [true_and, and_true, Nat.reduceLeDiff, reduceIte, reduceCtorEq, Bool.false_eq_true, if_true, if_false, not_false_eq_true, ite_true, ite_false, and_self])
      refine ⟨by omega, ?_⟩
      have en : a + 1 + ((z.length : Int) - ((a : Int) + 1)).toNat = z.length := by omega
      rw [en, List.drop_of_length_le (by rw [cps_len]; exact Nat.le_refl _)] at hq
      exact ke _ hq.symm
theorem ok_nameEnd {f : Addr} {fd : FuncData} (F : Fun K "_name_end" "_name_end" sNameEnd f fd) (T : ReadTxt K mg C fI a_quote_end a_name_end a_read t1 t2 t3 t4 t5 t6 t7) (GI_InvalidText : FnOk P w K mg base CX0 1 fI fdI ["self", "at"] (spInit C "at")) (bI_InvalidText : ∀ (s : Shared) (a : Addr) (u : Value), BindsTo s fdI ⟨[.ref a, u], []⟩ ((["self", "at"] : List Str).zip [.ref a, u])) :
    FnOk P w K mg base (L2.CX P w) 4 f fd ["text", "at"] (spD K (spScan C nScan 0)) := by
  refine dokX F scNameEnd (fun ds S Q E h => ?_) fun cdv A outer s H Q E (hr : Room 3 _) => ⟨_, (qss_cons (qs_for PassesOwn.leaving rfl (qi_range2 T.n_range (by rfl) (q_cons (q_var (pv 1)) (q_cons (q_len T.n_len (by rfl) (q_cons (q_var (pv 0)) q_nil)) q_nil))) (qg_name (pg_name (i := 2) scNameEnd.nd rfl (Or.inl rfl)))
      (qss_cons (qs_if (PW.pt (qw_and (qt_cmp op_gt snd_lt (q_var (pv 2)) (q_var (pv 1)) (nomark _)) (qw_and1 (qt_cmp (op_eqA (u64 hr)) snd_eq (q_at (q_var (pv 0)) (q_var (pv 2)) (fun _ _ => rfl)) q_str (nomark _)))))
      (qss_one (qs_ret (q_var (pv 2))))
      qss_nil)
      (qss_one (qs_if (PW.pt (qw_or (qt_cmp op_ge snd_lt (q_sub (q_var (pv 2)) (q_var (pv 1))) (q_con (pe_glob (v := V.int 8) (by rfl) T.g_NAME_MOST (by exact ⟨_, rfl⟩)) (.int _)) (nomark _)) (qw_or1 (qt_cmp op_notIn_sign snd_notInS (q_at (q_var (pv 0)) (q_var (pv 2)) (fun _ _ => rfl)) (q_con (pe_glob (v := V.str abc) (by rfl) T.g_NAME_SIGNS (by exact ⟨_, rfl⟩)) (.str _)) (by rfl)))))
      (qss_one (qs_raise rfl rfl T.t_InvalidText PySem.F.excBase_Exception base3E GI_InvalidText (hr.mono (by decide)) pass0 (by rfl) T.m_InvalidText (fun s a u _ => bI_InvalidText s a u) T.ty_InvalidText (q_cons (q_var (pv 2)) q_nil)))
      qss_nil))))
      (qss_one (qs_raise rfl rfl T.t_InvalidText PySem.F.excBase_Exception base3E GI_InvalidText (hr.mono (by decide)) pass0 (by rfl) T.m_InvalidText (fun s a u _ => bI_InvalidText s a u) T.ty_InvalidText (q_cons (q_len T.n_len (by rfl) (q_cons (q_var (pv 0)) q_nil)) q_nil)))), fun ds S Qd Ed h => ?_⟩
  · obtain ⟨z, a, rfl, _⟩ := h
    rfl
  · obtain ⟨z, a, rfl, ha, hz, kq, ke⟩ := h
    (dsimp only [dRetX, dDropX, dSetX, dAsgX, dFnX, dRaise, dTryAs, dTryOnly, dXf, dIsX, dPar3, dFnR, List.reverse_cons, List.reverse_nil, dDelT, mPop0, mPop, mApp, mExt, dFld, dNew, dDGet, dDIn, dZipT, dAll, dTupF, dIdx, dTupRg, dDc, dReprT, dEqT, dNeT, dFor, dLc, dWhile, dRange1, dRange2, dRange3, dEnumT, e_isB, e_tupD, dgUnl, dSeq, dIfS, dSet, dAsg, dRet, dRetN, dDrop, dNext, dPar, dVar, dC, dOp, dB, dTru, dtNot, dtAnd, dtOr, dAnd, dOr, dNot, dIfE, dNeg, dNil, dCons, dTup, dLst, dCel, dNoP, dPart, dSlice, dRevT, dRevL, dCall, on1, dTupOf, dLstOf, dCelOf, dIsi, dName, dgNil, dgCons, dgTup, dFn, dMet, dMet0, gt, st, startD, wh_some, dYes, dEq, dNe, List.map, List.length, List.replicate, List.append, List.cons_append, List.nil_append, dWalk, uns, un, tupNms, dNms, ifT, ifF, List.replicate_succ, List.replicate_zero, Nat.sub_self, Nat.reduceSub, Nat.reduceAdd, Nat.zero_add, Bool.not_true, Bool.not_false, e_addI, e_addS, e_addT, e_addL, e_i2, e_i2c, e_is, e_bool, e_cel, e_strD, e_lenS, e_lenT, e_lenL, e_lenC, e_ixS, e_ixT, e_ixL, e_ixC, e_slS, e_slT, e_slL, e_slC, e_itT, e_itL, e_truN, e_truI, e_truB, e_truL, e_truT, e_okN, e_okB, e_okI, e_okS, e_okL, e_okT, e_okC, e_tupN, e_tupB, e_tupI, e_tupS, e_tupL, e_tupT, e_tupC, e_strN, e_strB, e_strI, e_strS, e_strL, e_strT, e_strC, e_intN, e_intB, e_intI, e_intS, e_intL, e_intT, e_intC, e_boolN, e_boolB, e_boolI, e_boolS, e_boolL, e_boolT, e_boolC, e_lstN, e_lstB, e_lstI, e_lstS, e_lstL, e_lstT, e_lstC, e_nonN, e_nonB, e_nonI, e_nonS, e_nonL, e_nonT, e_wkS, e_wkL, e_wkT, e_wkC, e_join, e_inS, e_ninS, e_ofI, e_ofB, e_abs, e_lenF, e_ixF, e_itF, e_wkF, e_tfF, e_truF, e_repT, e_keyI, e_keyS]; try simp only [true_and, and_true, Nat.reduceLeDiff, reduceIte, reduceCtorEq, Bool.false_eq_true, if_true, if_false, not_false_eq_true, ite_true, ite_false, and_self])
    refine ⟨by omega, ⟨⟨by omega, by omega⟩, by omega, by omega⟩, fun i ρ S' => S' = S ∧ a + i ≤ z.length ∧ ∃ x, ρ = [some (.str z), some (.int a), x] ∧ nScan (z.cps.toList.drop (a + i)) (a + i) i = nScan (z.cps.toList.drop (a + 0)) (a + 0) 0, ⟨rfl, by omega, none, rfl, rfl⟩, fun _ _ _ _ => trivial, ?_, ?_⟩
    · rintro i d ρ S1 hd ⟨rfl, li, x, rfl, hq⟩
      obtain ⟨hi, rfl⟩ := rangeD_at hd
      have ei : (a : Int) + (i : Nat) * 1 = ((a + i : Nat) : Int) := by omega
      rw [ei]
      obtain ⟨c, hc, hdr⟩ := sg_at (z := z) (n := a + i) (by omega)
      rw [hdr] at hq
      have hq2 : (if 0 < i ∧ c = 40 then (Sum.inl (a + i) : Sum Nat Nat) else if 8 ≤ i ∨ c ∉ abc.cps.toList then .inr (a + i) else nScan (z.cps.toList.drop (a + i + 1)) (a + i + 1) (i + 1)) = nScan (z.cps.toList.drop (a + 0)) (a + 0) 0 := hq
      (dsimp only [dRetX, dDropX, dSetX, dAsgX, dFnX, dRaise, dTryAs, dTryOnly, dXf, dIsX, dPar3, dFnR, List.reverse_cons, List.reverse_nil, dDelT, mPop0, mPop, mApp, mExt, dFld, dNew, dDGet, dDIn, dZipT, dAll, dTupF, dIdx, dTupRg, dDc, dReprT, dEqT, dNeT, dFor, dLc, dWhile, dRange1, dRange2, dRange3, dEnumT, e_isB, e_tupD, dgUnl, dSeq, dIfS, dSet, dAsg, dRet, dRetN, dDrop, dNext, dPar, dVar, dC, dOp, dB, dTru, dtNot, dtAnd, dtOr, dAnd, dOr, dNot, dIfE, dNeg, dNil, dCons, dTup, dLst, dCel, dNoP, dPart, dSlice, dRevT, dRevL, dCall, on1, dTupOf, dLstOf, dCelOf, dIsi, dName, dgNil, dgCons, dgTup, dFn, dMet, dMet0, gt, st, startD, wh_some, dYes, dEq, dNe, List.map, List.length, List.replicate, List.append, List.cons_append, List.nil_append, dWalk, uns, un, tupNms, dNms, ifT, ifF, List.replicate_succ, List.replicate_zero, Nat.sub_self, Nat.reduceSub, Nat.reduceAdd, Nat.zero_add, Bool.not_true, Bool.not_false, e_addI, e_addS, e_addT, e_addL, e_i2, e_i2c, e_is, e_bool, e_cel, e_strD, e_lenS, e_lenT, e_lenL, e_lenC, e_ixS, e_ixT, e_ixL, e_ixC, e_slS, e_slT, e_slL, e_slC, e_itT, e_itL, e_truN, e_truI, e_truB, e_truL, e_truT, e_okN, e_okB, e_okI, e_okS, e_okL, e_okT, e_okC, e_tupN, e_tupB, e_tupI, e_tupS, e_tupL, e_tupT, e_tupC, e_strN, e_strB, e_strI, e_strS, e_strL, e_strT, e_strC, e_intN, e_intB, e_intI, e_intS, e_intL, e_intT, e_intC, e_boolN, e_boolB, e_boolI, e_boolS, e_boolL, e_boolT, e_boolC, e_lstN, e_lstB, e_lstI, e_lstS, e_lstL, e_lstT, e_lstC, e_nonN, e_nonB, e_nonI, e_nonS, e_nonL, e_nonT, e_wkS, e_wkL, e_wkT, e_wkC, e_join, e_inS, e_ninS, e_ofI, e_ofB, e_abs, e_lenF, e_ixF, e_itF, e_wkF, e_tfF, e_truF, e_repT, e_keyI, e_keyS]; try simp only [true_and, and_true, Nat.reduceLeDiff, reduceIte, reduceCtorEq, Bool.false_eq_true, if_true, if_false, not_false_eq_true, ite_true, ite_false, and_self])
      have rest : ¬ (0 < i ∧ c = 40) → if decide ((8 : Int) ≤ ((a + i : Nat) : Int) - (a : Int)) = true then Ed C [("at", .int ((a + i : Nat) : Int))] S1 else
          z.length ≤ 1000000 ∧ wh (atI z.cps.toList ((a + i : Nat) : Int)) fun c => if (!decide (c ∈ abc.cps.toList)) = true then Ed C [("at", .int ((a + i : Nat) : Int))] S1 else a + (i + 1) ≤ z.length ∧ ∃ x, [some (PyData.str z), some (PyData.int a), some (PyData.int ((a + i : Nat) : Int))] = [some (.str z), some (.int a), x] ∧ nScan (z.cps.toList.drop (a + (i + 1))) (a + (i + 1)) (i + 1) = nScan (z.cps.toList.drop (a + 0)) (a + 0) 0 := fun h40 => by
        rw [if_neg h40] at hq2
        by_cases h8 : 8 ≤ i
        · rw [if_pos (.inl h8)] at hq2
          rw [decide_eq_true (by omega : (8 : Int) ≤ ((a + i : Nat) : Int) - (a : Int)), ifT]
          exact ke _ hq2.symm
        rw [decide_eq_false (by omega : ¬ (8 : Int) ≤ ((a + i : Nat) : Int) - (a : Int)), ifF]
        refine ⟨by omega, wh_mk hc ?_⟩
        by_cases hm : c ∈ abc.cps.toList
        · rw [if_neg (fun q => q.elim h8 (fun q => q hm))] at hq2
          rw [decide_eq_true hm, Bool.not_true, ifF]
          exact ⟨by omega, _, rfl, hq2⟩
        · rw [if_pos (.inr hm)] at hq2
          rw [decide_eq_false hm, Bool.not_false, ifT]
          exact ke _ hq2.symm
      by_cases p0 : 0 < i
      · rw [decide_eq_true (by omega : (a : Int) < ((a + i : Nat) : Int)), ifT]
        refine ⟨by omega, wh_mk hc ⟨eqOk_str _ _, ?_⟩⟩
        rw [show PyData.eqv (.str ⟨#[c]⟩) (.str (Str.ofString "(")) = decide (c = 40) from eqv_sg c 40]
        by_cases c40 : c = 40
        · rw [if_pos ⟨p0, c40⟩] at hq2
          rw [decide_eq_true c40, ifT]
          exact kq _ hq2.symm
        · rw [decide_eq_false c40, ifF]
          exact rest fun q => c40 q.2
      · rw [decide_eq_false (by omega : ¬ (a : Int) < ((a + i : Nat) : Int)), ifF]
        exact rest fun q => p0 q.1
    · rintro ρ S1 ⟨rfl, li, x, rfl, hq⟩
      rw [rangeD_len] at li hq
      (dsimp only [dRetX, dDropX, dSetX, dAsgX, dFnX, dRaise, dTryAs, dTryOnly, dXf, dIsX, dPar3, dFnR, List.reverse_cons, List.reverse_nil, dDelT, mPop0, mPop, mApp, mExt, dFld, dNew, dDGet, dDIn, dZipT, dAll, dTupF, dIdx, dTupRg, dDc, dReprT, dEqT, dNeT, dFor, dLc, dWhile, dRange1, dRange2, dRange3, dEnumT, e_isB, e_tupD, dgUnl, dSeq, dIfS, dSet, dAsg, dRet, dRetN, dDrop, dNext, dPar, dVar, dC, dOp, dB, dTru, dtNot, dtAnd, dtOr, dAnd, dOr, dNot, dIfE, dNeg, dNil, dCons, dTup, dLst, dCel, dNoP, dPart, dSlice, dRevT, dRevL, dCall, on1, dTupOf, dLstOf, dCelOf, dIsi, dName, dgNil, dgCons, dgTup, dFn, dMet, dMet0, gt, st, startD, wh_some, dYes, dEq, dNe, List.map, List.length, List.replicate, List.append, List.cons_append, List.nil_append, dWalk, uns, un, tupNms, dNms, ifT, ifF, List.replicate_succ, List.replicate_zero, Nat.sub_self, Nat.reduceSub, Nat.reduceAdd, Nat.zero_add, Bool.not_true, Bool.not_false, e_addI, e_addS, e_addT, e_addL, e_i2, e_i2c, e_is, e_bool, e_cel, e_strD, e_lenS, e_lenT, e_lenL, e_lenC, e_ixS, e_ixT, e_ixL, e_ixC, e_slS, e_slT, e_slL, e_slC, e_itT, e_itL, e_truN, e_truI, e_truB, e_truL, e_truT, e_okN, e_okB, e_okI, e_okS, e_okL, e_okT, e_okC, e_tupN, e_tupB, e_tupI, e_tupS, e_tupL, e_tupT, e_tupC, e_strN, e_strB, e_strI, e_strS, e_strL, e_strT, e_strC, e_intN, e_intB, e_intI, e_intS, e_intL, e_intT, e_intC, e_boolN, e_boolB, e_boolI, e_boolS, e_boolL, e_boolT, e_boolC, e_lstN, e_lstB, e_lstI, e_lstS, e_lstL, e_lstT, e_lstC, e_nonN, e_nonB, e_nonI, e_nonS, e_nonL, e_nonT, e_wkS, e_wkL, e_wkT, e_wkC, e_join, e_inS, e_ninS, e_ofI, e_ofB, e_abs, e_lenF, e_ixF, e_itF, e_wkF, e_tfF, e_truF, e_repT, e_keyI, e_keyS]; try simp only [true_and, and_true, Nat.reduceLeDiff, reduceIte, reduceCtorEq, Bool.false_eq_true, if_true, if_false, not_false_eq_true, ite_true, ite_false, and_self])
      refine ⟨by omega, ?_⟩
      have en : a + ((z.length : Int) - (a : Int)).toNat = z.length := by omega
      rw [en, List.drop_of_length_le (by rw [cps_len]; exact Nat.le_refl _)] at hq
      exact ke _ hq.symm
end
end K3

/-! a string read, piece by piece -/
namespace K3
open PySem L2 Xr K1 Exv
abbrev sRead : Stmt := top 23
theorem scRead : FnScope ["value", "alone", "names", "rows", "state", "at", "sign", "free", "end", "things"] ["value", "alone"] (defScope sRead) := ⟨rfl, rfl, rfl, by decide +kernel, rfl, by decide +kernel, by decide +kernel⟩
abbrev sReadNode : Stmt := top 21
theorem scReadNode : FnScope ["value"] ["value"] (defScope sReadNode) := ⟨rfl, rfl, rfl, by decide +kernel, rfl, by decide +kernel, by decide +kernel⟩
abbrev sReadForest : Stmt := top 22
theorem scReadForest : FnScope ["value"] ["value"] (defScope sReadForest) := ⟨rfl, rfl, rfl, by decide +kernel, rfl, by decide +kernel, by decide +kernel⟩
abbrev dueOf (z : Str) (alone : Bool) : Option Nat := due alone z.cps.toList (if alone = true then .thing else .opn) 0 0 0
def spRead (C : Addr) : SpD := fun ds S Q E => ∃ (z : Str) (alone : Bool), ds = [.str z, .bool alone] ∧ z.length ≤ 100000 ∧
  (∀ e : Nat, dueOf z alone = some e → ∀ S', Ext S S' → E C (atE (e : Nat)) S') ∧ ∀ ts S', dueOf z alone = none → Ext S S' → okD ts → z = txAll ts → (alone = true → ∃ x cs, ts = [.nod x cs]) → Q (.tuple (datAll ts)) S'
/-! the tests of the loop -/
abbrev dFree : DE := fun ρ S Q => ∃ (n : Nat) (ds : List PyData) (b : Bool), gt ρ 2 = some (cel n) ∧ S n = some (.lst ds) ∧ gt ρ 1 = some (.bool b) ∧ Q (.bool (!ds.isEmpty || !b)) S
abbrev dT1 : DT := fun ρ S Q => ∃ (st c : Nat) (b : Bool), gt ρ 4 = some (.int (st : Nat)) ∧ gt ρ 6 = some (.str ⟨#[c]⟩) ∧ gt ρ 7 = some (.bool b) ∧ Q (!decide (st = 2) && (decide (c = 34) && b)) S
abbrev dT2 : DT := fun ρ S Q => ∃ (st c : Nat), gt ρ 4 = some (.int (st : Nat)) ∧ gt ρ 6 = some (.str ⟨#[c]⟩) ∧ Q (!decide (st = 2) && isL c) S
abbrev dT3 : DT := fun ρ S Q => ∃ (st c n : Nat) (ds : List PyData), gt ρ 4 = some (.int (st : Nat)) ∧ gt ρ 6 = some (.str ⟨#[c]⟩) ∧ gt ρ 2 = some (cel n) ∧ S n = some (.lst ds) ∧ Q (!decide (st = 1) && (decide (c = 41) && !ds.isEmpty)) S
abbrev dT4 : DT := fun ρ S Q => ∃ (st c : Nat) (b : Bool), gt ρ 4 = some (.int (st : Nat)) ∧ gt ρ 6 = some (.str ⟨#[c]⟩) ∧ gt ρ 7 = some (.bool b) ∧ Q (decide (st = 2) && (decide (c = 32) && b)) S
theorem eqv_nat (a b : Nat) : PyData.eqv (.int (a : Nat)) (.int (b : Nat)) = decide (a = b) := by
  rw [eqv_intD]
  by_cases h : a = b
  · rw [h]; simp
  · rw [decide_eq_false h]
    exact decide_eq_false fun e => h (by omega)
/-- the rows that are open -/
def RowsS (S : Sto) : List Nat → List (List Doc) → Prop
  | [], [] => True
  | r :: rs, d :: ds => S r = some (.lst (datAll d)) ∧ RowsS S rs ds
  | _, _ => False
theorem RowsS.upd {S : Sto} {q : Nat} {c : Cell} : ∀ {rs : List Nat} {ds : List (List Doc)}, q ∉ rs → RowsS S rs ds → RowsS (K3.put S q c) rs ds
  | [], [], _, _ => trivial
  | r :: rs, d :: ds, n, h => ⟨by rw [put_ne (fun e => n (by rw [e]; simp))]; exact h.1, RowsS.upd (fun e => n (List.mem_cons_of_mem _ e)) h.2⟩
  | [], _ :: _, _, h => h.elim
  | _ :: _, [], _, h => h.elim
theorem RowsS.trk {S : Sto} : ∀ {rs : List Nat} {ds : List (List Doc)}, RowsS S rs ds → ∀ q ∈ rs, ∃ c, S q = some c
  | [], [], _, q, h => by simp at h
  | r :: rs, d :: ds, h, q, hq => by
    rcases List.mem_cons.mp hq with e | e
    · rw [e]; exact ⟨_, h.1⟩
    · exact RowsS.trk h.2 q e
  | [], _ :: _, h, _, _ => h.elim
  | _ :: _, [], h, _, _ => h.elim
def RW (S0 : Sto) (z : Str) (alone : Bool) (Nn Nr : Nat) : Nat → Rho → Sto → Prop := fun n ρ S => ∃ (fs : List Opn) (d : List Doc) (sk a r : Nat) (rs : List Nat) (x6 x7 x8 x9 : Option PyData), n = z.length - a ∧ ρ = [some (.str z), some (.bool alone), some (cel Nn), some (cel Nr), some (.int (sk : Nat)), some (.int (a : Nat)), x6, x7, x8, x9] ∧
  RdI z.cps.toList alone (dueOf z alone) a fs d sk ∧ Ext S0 S ∧ S Nn = some (.lst (fs.map fun f => PyData.str f.2).reverse) ∧ S Nr = some (.lst ((r :: rs).map fun q => cel q).reverse) ∧ RowsS S (r :: rs) (d :: fs.map Prod.fst) ∧ (Nn :: Nr :: r :: rs).Nodup ∧ ∀ q ∈ Nn :: Nr :: r :: rs, S0 q = none
theorem Ext.cell {S0 S : Sto} {q : Nat} {c : Cell} (e : Ext S0 S) (h : S0 q = none) : Ext S0 (K3.put S q c) := fun n c' hn => by
  have ne : n ≠ q := fun z => by rw [z, h] at hn; cases hn
  rw [put_ne ne]
  exact e n c' hn
theorem cut_take {z : Str} {p n : Nat} {w : List Nat} {lo hi : Int} (h : (z.cps.toList.drop p).take n = w) (l : p + n ≤ z.length) (h1 : lo = (p : Int)) (h2 : hi = ((p + n : Nat) : Int)) : cutS z (some lo) (some hi) = strOf w := by
  subst h1 h2
  unfold cutS
  rw [HT.sIx_nat, HT.sIx_nat, Nat.min_eq_left (by omega), Nat.min_eq_left (by omega)]
  refine str_ext ?_
  rw [strOf_cps]
  show ((z.cps.toList.drop p).take (p + n - p)).toArray.toList = w
  rw [Nat.add_sub_cancel_left]
  exact h
theorem at_lastD {α : Type} {l : List α} {x : α} : atI (l ++ [x]) (-1) = some x := by
  unfold atI ixN
  rw [List.length_append, List.length_singleton]
  have e : ((-1 : Int) + ((l.length + 1 : Nat) : Int)).toNat = l.length := by omega
  rw [if_neg (by omega), if_pos (by omega), e]
  show (l ++ [x])[l.length]? = some x
  rw [List.getElem?_append_right (Nat.le_refl _), Nat.sub_self]
  rfl
theorem at_lastC {r : Nat} {rs : List Nat} : atI ((r :: rs).map fun q => cel q).reverse (-1) = some (cel r) := by
  rw [List.map_cons, List.reverse_cons]
  exact at_lastD
theorem d_len : ∀ d : List Doc, d.length ≤ (chT d).length
  | [] => Nat.le_refl _
  | t :: d => by
    have := d_len d
    show d.length + 1 ≤ (32 :: (t.ch ++ chT d)).length
    rw [List.length_cons, List.length_append]
    omega
theorem fs_len : ∀ fs : List Opn, fs.length ≤ (opened fs).length
  | [] => Nat.le_refl _
  | (d, x) :: fs => by
    have := fs_len fs
    show fs.length + 1 ≤ (opened fs ++ (pre d ++ (x.cps.toList ++ [40]))).length
    rw [List.length_append, List.length_append, List.length_append, List.length_singleton]
    omega
theorem RdI.lens {z : List Nat} {alone : Bool} {D : Option Nat} {a sk : Nat} {fs : List Opn} {d : List Doc} (I : RdI z alone D a fs d sk) : fs.length ≤ a ∧ d.length ≤ a + 1 := by
  have h := congrArg List.length I.tk
  rw [List.length_take, Nat.min_eq_left I.la, List.length_append] at h
  have h1 := fs_len fs
  have h2 := d_len d
  have h3 : (chT d).tail.length ≤ (core d sk).length := by
    unfold core
    rw [List.length_append]
    omega
  rw [List.length_tail] at h3
  omega
theorem rows_len {S : Sto} : ∀ {rs : List Nat} {ds : List (List Doc)}, RowsS S rs ds → rs.length = ds.length
  | [], [], _ => rfl
  | r :: rs, d :: ds, h => by rw [List.length_cons, List.length_cons, rows_len h.2]
  | [], _ :: _, h => h.elim
  | _ :: _, [], h => h.elim
theorem wFree : ∀ ρ S Q, dFree ρ S Q → dOr (dOp dGt (dCall (on1 dLen) (dCons (dVar 2) dNil)) (dC (.int 0))) (dNot (dVar 1)) ρ S Q := by
  rintro ρ S Q ⟨n, ds, b, e1, e2, e3, q⟩
  unfold dOr dOp dCall dCons dVar dC dNot dNil
  dsimp only
  rw [e1]
  show wh (itemsD S (cel n)) _
  rw [items_cel e2]
  show (if decide ((0 : Int) < (ds.length : Int)) = true then Q (.bool true) S else wh (gt ρ 1) fun d => wh (boolD d) fun c => Q (.bool (!c)) S)
  rw [e3]
  cases ds with
  | nil => exact q
  | cons d ds =>
    rw [decide_eq_true (by rw [List.length_cons]; omega : (0 : Int) < ((d :: ds).length : Int)), ifT]
    exact q
theorem wT1 : ∀ ρ S Q, dT1 ρ S Q → dtAnd (dB (dOp dNe (dVar 4) (dC (.int 2)))) (dtAnd (dB (dOp dEq (dVar 6) (dC (.str "\"")))) (dTru (dVar 7))) ρ S Q := by
  rintro ρ S Q ⟨st, c, b, e1, e2, e3, q⟩
  unfold dtAnd dB dOp dVar dC dTru dNe dEq
  dsimp only
  rw [e1, e2, e3]
  refine ⟨eqOk_int _ _, ?_⟩
  rw [show PyData.eqv (.int (st : Nat)) (.int 2) = decide (st = 2) from eqv_nat st 2]
  cases h : decide (st = 2) with
  | true =>
    rw [h] at q
    exact q
  | false =>
    rw [h] at q
    refine ⟨eqOk_str _ _, ?_⟩
    rw [show PyData.eqv (.str ⟨#[c]⟩) (.str (Str.ofString "\"")) = decide (c = 34) from eqv_sg c 34]
    cases h2 : decide (c = 34) with
    | true =>
      rw [h2] at q
      exact q
    | false =>
      rw [h2] at q
      exact q
theorem wT2 : ∀ ρ S Q, dT2 ρ S Q → dtAnd (dB (dOp dNe (dVar 4) (dC (.int 2)))) (dB (dOp dInS (dVar 6) (dC (.str abc)))) ρ S Q := by
  rintro ρ S Q ⟨st, c, e1, e2, q⟩
  unfold dtAnd dB dOp dVar dC dNe
  dsimp only
  rw [e1, e2]
  refine ⟨eqOk_int _ _, ?_⟩
  rw [show PyData.eqv (.int (st : Nat)) (.int 2) = decide (st = 2) from eqv_nat st 2]
  cases h : decide (st = 2) with
  | true =>
    rw [h] at q
    exact q
  | false =>
    rw [h] at q
    exact q
theorem truD_lst {S : Sto} {n : Nat} {ds : List PyData} (h : S n = some (.lst ds)) : truD S (cel n) = some !ds.isEmpty := by
  show (S n).bind _ = _
  rw [h]
  rfl
theorem wT3 : ∀ ρ S Q, dT3 ρ S Q → dtAnd (dB (dOp dNe (dVar 4) (dC (.int 1)))) (dtAnd (dB (dOp dEq (dVar 6) (dC (.str ")")))) (dTru (dVar 2))) ρ S Q := by
  rintro ρ S Q ⟨st, c, n, ds, e1, e2, e3, e4, q⟩
  unfold dtAnd dB dOp dVar dC dTru dNe dEq
  dsimp only
  rw [e1, e2, e3]
  refine ⟨eqOk_int _ _, ?_⟩
  rw [show PyData.eqv (.int (st : Nat)) (.int 1) = decide (st = 1) from eqv_nat st 1]
  cases h : decide (st = 1) with
  | true =>
    rw [h] at q
    exact q
  | false =>
    rw [h] at q
    refine ⟨eqOk_str _ _, ?_⟩
    rw [show PyData.eqv (.str ⟨#[c]⟩) (.str (Str.ofString ")")) = decide (c = 41) from eqv_sg c 41]
    cases h2 : decide (c = 41) with
    | true =>
      rw [h2] at q
      show wh (truD S (cel n)) _
      rw [truD_lst e4]
      exact q
    | false =>
      rw [h2] at q
      exact q
theorem wT4 : ∀ ρ S Q, dT4 ρ S Q → dtAnd (dB (dOp dEq (dVar 4) (dC (.int 2)))) (dtAnd (dB (dOp dEq (dVar 6) (dC (.str " ")))) (dTru (dVar 7))) ρ S Q := by
  rintro ρ S Q ⟨st, c, b, e1, e2, e3, q⟩
  unfold dtAnd dB dOp dVar dC dTru dEq
  dsimp only
  rw [e1, e2, e3]
  refine ⟨eqOk_int _ _, ?_⟩
  rw [show PyData.eqv (.int (st : Nat)) (.int 2) = decide (st = 2) from eqv_nat st 2]
  cases h : decide (st = 2) with
  | false =>
    rw [h] at q
    exact q
  | true =>
    rw [h] at q
    refine ⟨eqOk_str _ _, ?_⟩
    rw [show PyData.eqv (.str ⟨#[c]⟩) (.str (Str.ofString " ")) = decide (c = 32) from eqv_sg c 32]
    cases h2 : decide (c = 32) with
    | true =>
      rw [h2] at q
      exact q
    | false =>
      rw [h2] at q
      exact q
section
variable {P : Program} {w : World} {K : PySem.W.Frag} {mg : Str → Option Value} {base : Heap} {C fI a_quote_end a_name_end a_read : Addr} {t1 t2 t3 t4 t5 t6 t7 : Tok} {fdI d1 d2 : FuncData}
theorem ok_read {f : Addr} {fd : FuncData} (F : Fun K "_read" "_read" sRead f fd) (T : ReadTxt K mg C fI a_quote_end a_name_end a_read t1 t2 t3 t4 t5 t6 t7) (GI_InvalidText : FnOk P w K mg base CX0 1 fI fdI ["self", "at"] (spInit C "at")) (bI_InvalidText : ∀ (s : Shared) (a : Addr) (u : Value), BindsTo s fdI ⟨[.ref a, u], []⟩ ((["self", "at"] : List Str).zip [.ref a, u]))
    (G_quote_end : FnOk P w K mg base (L2.CX P w) 4 a_quote_end d1 ["text", "at"] (spD K (spScan C qScan 1))) (b_quote_end : Binds K d1 ["text", "at"] []) (G_name_end : FnOk P w K mg base (L2.CX P w) 4 a_name_end d2 ["text", "at"] (spD K (spScan C nScan 0))) (b_name_end : Binds K d2 ["text", "at"] []) :
    FnOk P w K mg base (L2.CX P w) 5 f fd ["value", "alone"] (spD K (spRead C)) := by
  refine dokX F scRead (fun ds S Q E h => ?_) fun cdv A outer s H Q E (hr : Room 4 _) => ⟨_, (qss_cons (qs_if (qt_not (qt_tru (q_isi .str T.n_isinstance (by rfl) (q_var (pv 0)) (pe_bltn (v := V.ty "str") (u := .type "str") (by rfl) T.n_str (by decide +kernel) (by rfl))) (by intro _; rfl)))
      (qss_one (qs_raise rfl rfl T.t_InvalidText PySem.F.excBase_Exception base3E GI_InvalidText (hr.mono (by decide)) pass0 (by rfl) T.m_InvalidText (fun s a u _ => bI_InvalidText s a u) T.ty_InvalidText (q_cons (q_neg q_int) q_nil)))
      qss_nil)
      (qss_cons (qs_set (i := 2) scRead.nd rfl (Or.inl rfl) (q_cel q_nil))
      (qss_cons (qs_set (i := 3) scRead.nd rfl (Or.inl rfl) (q_cel (q_cons (q_cel q_nil) q_nil)))
      (qss_cons (qs_set (i := 4) scRead.nd rfl (Or.inl rfl) (q_con (pe_glob (v := V.int 0) (by rfl) T.g_AT_FIRST (by exact ⟨_, rfl⟩)) (.int _)))
      (qss_cons (qs_set (i := 5) scRead.nd rfl (Or.inl rfl) q_int)
      (qss_cons (qs_while PassesOwn.leaving (qt_cmp op_lt snd_lt (q_var (pv 5)) (q_len T.n_len (by rfl) (q_cons (q_var (pv 0)) q_nil)) (nomark _))
      (qss_cons (qs_set (i := 6) scRead.nd rfl (Or.inl rfl) (q_at (q_var (pv 0)) (q_var (pv 5)) (fun _ _ => rfl)))
      (qss_cons (qs_set (i := 7) scRead.nd rfl (Or.inl rfl) (q_weakD (q_or (q_cmp op_gt snd_lt (q_len T.n_len (by rfl) (q_cons (q_var (pv 2)) q_nil)) q_int (nomark _)) (q_one (q_not (q_var (pv 1))))) wFree))
      (qss_cons (qs_if (qt_weakD (PW.pt (qw_and (qt_cmp (op_neA (u64 hr)) snd_ne (q_var (pv 4)) (q_con (pe_glob (v := V.int 2) (by rfl) T.g_BEHIND (by exact ⟨_, rfl⟩)) (.int _)) (nomark _)) (qw_and (qt_cmp (op_eqA (u64 hr)) snd_eq (q_var (pv 6)) q_str (nomark _)) (qw_and1 (qt_tru (q_var (pv 7)) (by intro _; rfl)))))) wT1)
      (qss_cons (qs_setX (i := 8) scRead.nd rfl (Or.inl rfl) (qx_call hr G_quote_end T.g_quote_end T.k_quote_end b_quote_end (by rfl) (by omega) (q_cons (q_var (pv 0)) (q_cons (q_var (pv 5)) q_nil))))
      (qss_cons (qs_expr (q_append (q_at (q_var (pv 3)) (q_neg q_int) (fun _ _ => rfl)) (q_cons (q_sl false (q_var (pv 0)) (qo_some (q_add (q_var (pv 5)) q_int)) (qo_some (q_var (pv 8)))) q_nil)))
      (qss_one (qs_set (i := 4) scRead.nd rfl (Or.inl rfl) (q_con (pe_glob (v := V.int 2) (by rfl) T.g_BEHIND (by exact ⟨_, rfl⟩)) (.int _))))))
      (qss_one (qs_if (qt_weakD (PW.pt (qw_and (qt_cmp (op_neA (u64 hr)) snd_ne (q_var (pv 4)) (q_con (pe_glob (v := V.int 2) (by rfl) T.g_BEHIND (by exact ⟨_, rfl⟩)) (.int _)) (nomark _)) (qw_and1 (qt_cmp op_in_sign snd_inS (q_var (pv 6)) (q_con (pe_glob (v := V.str abc) (by rfl) T.g_NAME_SIGNS (by exact ⟨_, rfl⟩)) (.str _)) (by rfl))))) wT2)
      (qss_cons (qs_setX (i := 8) scRead.nd rfl (Or.inl rfl) (qx_call hr G_name_end T.g_name_end T.k_name_end b_name_end (by rfl) (by omega) (q_cons (q_var (pv 0)) (q_cons (q_var (pv 5)) q_nil))))
      (qss_cons (qs_expr (q_append (q_var (pv 2)) (q_cons (q_sl false (q_var (pv 0)) (qo_some (q_var (pv 5))) (qo_some (q_var (pv 8)))) q_nil)))
      (qss_cons (qs_expr (q_append (q_var (pv 3)) (q_cons (q_cel q_nil) q_nil)))
      (qss_one (qs_set (i := 4) scRead.nd rfl (Or.inl rfl) (q_con (pe_glob (v := V.int 0) (by rfl) T.g_AT_FIRST (by exact ⟨_, rfl⟩)) (.int _)))))))
      (qss_one (qs_if (qt_weakD (PW.pt (qw_and (qt_cmp (op_neA (u64 hr)) snd_ne (q_var (pv 4)) (q_con (pe_glob (v := V.int 1) (by rfl) T.g_AT_THING (by exact ⟨_, rfl⟩)) (.int _)) (nomark _)) (qw_and (qt_cmp (op_eqA (u64 hr)) snd_eq (q_var (pv 6)) q_str (nomark _)) (qw_and1 (qt_tru (q_var (pv 2)) (by intro _; rfl)))))) wT3)
      (qss_cons (qs_set (i := 9) scRead.nd rfl (Or.inl rfl) (q_pop (q_var (pv 3))))
      (qss_cons (qs_expr (q_append (q_at (q_var (pv 3)) (q_neg q_int) (fun _ _ => rfl)) (q_cons (q_tup (q_cons (q_pop (q_var (pv 2))) (q_cons (q_tuple T.n_tuple (by rfl) (q_cons (q_var (pv 9)) q_nil)) q_nil))) q_nil)))
      (qss_cons (qs_set (i := 8) scRead.nd rfl (Or.inl rfl) (q_var (pv 5)))
      (qss_one (qs_set (i := 4) scRead.nd rfl (Or.inl rfl) (q_con (pe_glob (v := V.int 2) (by rfl) T.g_BEHIND (by exact ⟨_, rfl⟩)) (.int _)))))))
      (qss_one (qs_if (qt_weakD (PW.pt (qw_and (qt_cmp (op_eqA (u64 hr)) snd_eq (q_var (pv 4)) (q_con (pe_glob (v := V.int 2) (by rfl) T.g_BEHIND (by exact ⟨_, rfl⟩)) (.int _)) (nomark _)) (qw_and (qt_cmp (op_eqA (u64 hr)) snd_eq (q_var (pv 6)) q_str (nomark _)) (qw_and1 (qt_tru (q_var (pv 7)) (by intro _; rfl)))))) wT4)
      (qss_cons (qs_set (i := 8) scRead.nd rfl (Or.inl rfl) (q_var (pv 5)))
      (qss_one (qs_set (i := 4) scRead.nd rfl (Or.inl rfl) (q_con (pe_glob (v := V.int 1) (by rfl) T.g_AT_THING (by exact ⟨_, rfl⟩)) (.int _)))))
      (qss_one (qs_raise rfl rfl T.t_InvalidText PySem.F.excBase_Exception base3E GI_InvalidText (hr.mono (by decide)) pass0 (by rfl) T.m_InvalidText (fun s a u _ => bI_InvalidText s a u) T.ty_InvalidText (q_cons (q_var (pv 5)) q_nil))))))))))
      (qss_one (qs_set (i := 5) scRead.nd rfl (Or.inl rfl) (q_add (q_var (pv 8)) q_int)))))))
      (qss_cons (qs_if (PW.pt (qw_or (qt_tru (q_var (pv 2)) (by intro _; rfl)) (qw_or (qt_cmp (op_eqA (u64 hr)) snd_eq (q_var (pv 4)) (q_con (pe_glob (v := V.int 1) (by rfl) T.g_AT_THING (by exact ⟨_, rfl⟩)) (.int _)) (nomark _)) (qw_or1 (PW.pt (qw_and (qt_tru (q_var (pv 1)) (by intro _; rfl)) (qw_and1 (qt_not (qt_tru (q_at (q_var (pv 3)) q_int (fun _ _ => rfl)) (by intro _; rfl))))))))))
      (qss_one (qs_raise rfl rfl T.t_InvalidText PySem.F.excBase_Exception base3E GI_InvalidText (hr.mono (by decide)) pass0 (by rfl) T.m_InvalidText (fun s a u _ => bI_InvalidText s a u) T.ty_InvalidText (q_cons (q_len T.n_len (by rfl) (q_cons (q_var (pv 0)) q_nil)) q_nil)))
      qss_nil)
      (qss_one (qs_ret (q_tuple T.n_tuple (by rfl) (q_cons (q_at (q_var (pv 3)) q_int (fun _ _ => rfl)) q_nil))))))))))), fun ds S Qd Ed h => ?_⟩
  · obtain ⟨z, a, rfl, _⟩ := h
    rfl
  · obtain ⟨z, alone, rfl, hz, ke, kq⟩ := h
    (dsimp only [dRetX, dDropX, dSetX, dAsgX, dFnX, dRaise, dTryAs, dTryOnly, dXf, dIsX, dPar3, dFnR, List.reverse_cons, List.reverse_nil, dDelT, mPop0, mPop, mApp, mExt, dFld, dNew, dDGet, dDIn, dZipT, dAll, dTupF, dIdx, dTupRg, dDc, dReprT, dEqT, dNeT, dFor, dLc, dWhile, dRange1, dRange2, dRange3, dEnumT, e_isB, e_tupD, dgUnl, dSeq, dIfS, dSet, dAsg, dRet, dRetN, dDrop, dNext, dPar, dVar, dC, dOp, dB, dTru, dtNot, dtAnd, dtOr, dAnd, dOr, dNot, dIfE, dNeg, dNil, dCons, dTup, dLst, dCel, dNoP, dPart, dSlice, dRevT, dRevL, dCall, on1, dTupOf, dLstOf, dCelOf, dIsi, dName, dgNil, dgCons, dgTup, dFn, dMet, dMet0, gt, st, startD, wh_some, dYes, dEq, dNe, List.map, List.length, List.replicate, List.append, List.cons_append, List.nil_append, dWalk, uns, un, tupNms, dNms, ifT, ifF, List.replicate_succ, List.replicate_zero, Nat.sub_self, Nat.reduceSub, Nat.reduceAdd, Nat.zero_add, Bool.not_true, Bool.not_false, e_addI, e_addS, e_addT, e_addL, e_i2, e_i2c, e_is, e_bool, e_cel, e_strD, e_lenS, e_lenT, e_lenL, e_lenC, e_ixS, e_ixT, e_ixL, e_ixC, e_slS, e_slT, e_slL, e_slC, e_itT, e_itL, e_truN, e_truI, e_truB, e_truL, e_truT, e_okN, e_okB, e_okI, e_okS, e_okL, e_okT, e_okC, e_tupN, e_tupB, e_tupI, e_tupS, e_tupL, e_tupT, e_tupC, e_strN, e_strB, e_strI, e_strS, e_strL, e_strT, e_strC, e_intN, e_intB, e_intI, e_intS, e_intL, e_intT, e_intC, e_boolN, e_boolB, e_boolI, e_boolS, e_boolL, e_boolT, e_boolC, e_lstN, e_lstB, e_lstI, e_lstS, e_lstL, e_lstT, e_lstC, e_nonN, e_nonB, e_nonI, e_nonS, e_nonL, e_nonT, e_wkS, e_wkL, e_wkT, e_wkC, e_join, e_inS, e_ninS, e_ofI, e_ofB, e_abs, e_lenF, e_ixF, e_itF, e_wkF, e_tfF, e_truF, e_repT, e_keyI, e_keyS]; try simp only [true_and, and_true, Nat.reduceLeDiff, reduceIte, reduceCtorEq, Bool.false_eq_true, if_true, if_false, not_false_eq_true, ite_true, ite_false, and_self])
    rw [Bool.not_true, ifF]
    intro Nn hNn r0 hr0 Nr hNr
    have n1 : r0 ≠ Nn := fun e => by rw [e, put_same] at hr0; cases hr0
    have n2 : Nr ≠ r0 := fun e => by rw [e, put_same] at hNr; cases hNr
    rw [put_ne n1] at hr0
    rw [put_ne n2] at hNr
    have n3 : Nr ≠ Nn := fun e => by rw [e, put_same] at hNr; cases hNr
    rw [put_ne n3] at hNr
    refine ⟨RW S z alone Nn Nr, ⟨z.length, [], [], 0, 0, r0, [], none, none, none, none, rfl, rfl, RdI.start _ alone, ((Ext.refl.cell hNn).cell hr0).cell hNr, by rw [put_ne (Ne.symm n3), put_ne (Ne.symm n1), put_same]; rfl, put_same, ⟨by rw [put_ne (Ne.symm n2), put_same]; rfl, trivial⟩, by simp [n1, n2, n3, Ne.symm n1, Ne.symm n2, Ne.symm n3], fun q hq => ?_⟩, ?_⟩
    · simp only [List.mem_cons, List.not_mem_nil, or_false] at hq
      rcases hq with e | e | e <;> rw [e] <;> assumption
    rintro n ρ S1 ⟨fs, d, sk, a, r, rs, x6, x7, x8, x9, rfl, rfl, I, ex, hn, hr1, rows, nd, fr⟩
    have la : a ≤ z.length := by
      have := I.la
      rw [cps_len] at this
      exact this
    (dsimp only [dRetX, dDropX, dSetX, dAsgX, dFnX, dRaise, dTryAs, dTryOnly, dXf, dIsX, dPar3, dFnR, List.reverse_cons, List.reverse_nil, dDelT, mPop0, mPop, mApp, mExt, dFld, dNew, dDGet, dDIn, dZipT, dAll, dTupF, dIdx, dTupRg, dDc, dReprT, dEqT, dNeT, dFor, dLc, dWhile, dRange1, dRange2, dRange3, dEnumT, e_isB, e_tupD, dgUnl, dSeq, dIfS, dSet, dAsg, dRet, dRetN, dDrop, dNext, dPar, dVar, dC, dOp, dB, dTru, dtNot, dtAnd, dtOr, dAnd, dOr, dNot, dIfE, dNeg, dNil, dCons, dTup, dLst, dCel, dNoP, dPart, dSlice, dRevT, dRevL, dCall, on1, dTupOf, dLstOf, dCelOf, dIsi, dName, dgNil, dgCons, dgTup, dFn, dMet, dMet0, gt, st, startD, wh_some, dYes, dEq, dNe, List.map, List.length, List.replicate, List.append, List.cons_append, List.nil_append, dWalk, uns, un, tupNms, dNms, ifT, ifF, List.replicate_succ, List.replicate_zero, Nat.sub_self, Nat.reduceSub, Nat.reduceAdd, Nat.zero_add, Bool.not_true, Bool.not_false, e_addI, e_addS, e_addT, e_addL, e_i2, e_i2c, e_is, e_bool, e_cel, e_strD, e_lenS, e_lenT, e_lenL, e_lenC, e_ixS, e_ixT, e_ixL, e_ixC, e_slS, e_slT, e_slL, e_slC, e_itT, e_itL, e_truN, e_truI, e_truB, e_truL, e_truT, e_okN, e_okB, e_okI, e_okS, e_okL, e_okT, e_okC, e_tupN, e_tupB, e_tupI, e_tupS, e_tupL, e_tupT, e_tupC, e_strN, e_strB, e_strI, e_strS, e_strL, e_strT, e_strC, e_intN, e_intB, e_intI, e_intS, e_intL, e_intT, e_intC, e_boolN, e_boolB, e_boolI, e_boolS, e_boolL, e_boolT, e_boolC, e_lstN, e_lstB, e_lstI, e_lstS, e_lstL, e_lstT, e_lstC, e_nonN, e_nonB, e_nonI, e_nonS, e_nonL, e_nonT, e_wkS, e_wkL, e_wkT, e_wkC, e_join, e_inS, e_ninS, e_ofI, e_ofB, e_abs, e_lenF, e_ixF, e_itF, e_wkF, e_tfF, e_truF, e_repT, e_keyI, e_keyS]; try simp only [true_and, and_true, Nat.reduceLeDiff, reduceIte, reduceCtorEq, Bool.false_eq_true, if_true, if_false, not_false_eq_true, ite_true, ite_false, and_self])
    refine ⟨by omega, ?_⟩
    by_cases lt : a < z.length
    · rw [decide_eq_true (by omega : (a : Int) < (z.length : Int)), ifT]
      obtain ⟨c, hc, hdr⟩ := sg_at lt
      refine ⟨by omega, wh_mk hc ⟨Nn, _, alone, rfl, hn, rfl, ?_⟩⟩
      have eF : (!(fs.map fun f => PyData.str f.2).reverse.isEmpty || !alone) = (!fs.isEmpty || !alone) := by cases fs <;> simp
      obtain ⟨lfs, ld⟩ := I.lens
      have ndN := List.nodup_cons.mp nd
      have ndR := List.nodup_cons.mp ndN.2
      have ndr := List.nodup_cons.mp ndR.2
      have Nr_ne : Nr ≠ Nn := fun e => ndN.1 (by rw [e]; simp)
      have r_Nn : r ≠ Nn := fun e => ndN.1 (by rw [e]; simp)
      have r_Nr : r ≠ Nr := fun e => ndR.1 (by rw [e]; simp)
      have fNn := fr Nn (by simp)
      have fNr := fr Nr (by simp)
      have frr := fr r (by simp)
      refine ⟨sk, c, _, rfl, rfl, rfl, ?_⟩
      rw [eF]
      cases hT1 : (!decide (sk = 2) && (decide (c = 34) && (!fs.isEmpty || !alone))) with
      | true =>
        rw [Bool.and_eq_true, Bool.and_eq_true] at hT1
        obtain ⟨h2, h34, hF⟩ := hT1
        have h2' : sk ≠ 2 := fun e => by rw [e] at h2; cases h2
        have hc34 : c = 34 := of_decide_eq_true h34
        subst hc34
        obtain ⟨k1, k2⟩ := I.quote hdr h2' hF
        rw [ifT]
        refine wh_mk rfl (wh_mk rfl ⟨z, a, rfl, lt, hz, fun e he => ?_, fun e he => ke e (k1 e he) S1 ex⟩)
        obtain ⟨wd, ht, e2, e3, I2⟩ := k2 e he
        have l2 := I2.la
        rw [cps_len] at l2
        (dsimp only [dRetX, dDropX, dSetX, dAsgX, dFnX, dRaise, dTryAs, dTryOnly, dXf, dIsX, dPar3, dFnR, List.reverse_cons, List.reverse_nil, dDelT, mPop0, mPop, mApp, mExt, dFld, dNew, dDGet, dDIn, dZipT, dAll, dTupF, dIdx, dTupRg, dDc, dReprT, dEqT, dNeT, dFor, dLc, dWhile, dRange1, dRange2, dRange3, dEnumT, e_isB, e_tupD, dgUnl, dSeq, dIfS, dSet, dAsg, dRet, dRetN, dDrop, dNext, dPar, dVar, dC, dOp, dB, dTru, dtNot, dtAnd, dtOr, dAnd, dOr, dNot, dIfE, dNeg, dNil, dCons, dTup, dLst, dCel, dNoP, dPart, dSlice, dRevT, dRevL, dCall, on1, dTupOf, dLstOf, dCelOf, dIsi, dName, dgNil, dgCons, dgTup, dFn, dMet, dMet0, gt, st, startD, wh_some, dYes, dEq, dNe, List.map, List.length, List.replicate, List.append, List.cons_append, List.nil_append, dWalk, uns, un, tupNms, dNms, ifT, ifF, List.replicate_succ, List.replicate_zero, Nat.sub_self, Nat.reduceSub, Nat.reduceAdd, Nat.zero_add, Bool.not_true, Bool.not_false, e_addI, e_addS, e_addT, e_addL, e_i2, e_i2c, e_is, e_bool, e_cel, e_strD, e_lenS, e_lenT, e_lenL, e_lenC, e_ixS, e_ixT, e_ixL, e_ixC, e_slS, e_slT, e_slL, e_slC, e_itT, e_itL, e_truN, e_truI, e_truB, e_truL, e_truT, e_okN, e_okB, e_okI, e_okS, e_okL, e_okT, e_okC, e_tupN, e_tupB, e_tupI, e_tupS, e_tupL, e_tupT, e_tupC, e_strN, e_strB, e_strI, e_strS, e_strL, e_strT, e_strC, e_intN, e_intB, e_intI, e_intS, e_intL, e_intT, e_intC, e_boolN, e_boolB, e_boolI, e_boolS, e_boolL, e_boolT, e_boolC, e_lstN, e_lstB, e_lstI, e_lstS, e_lstL, e_lstT, e_lstC, e_nonN, e_nonB, e_nonI, e_nonS, e_nonL, e_nonT, e_wkS, e_wkL, e_wkT, e_wkC, e_join, e_inS, e_ninS, e_ofI, e_ofB, e_abs, e_lenF, e_ixF, e_itF, e_wkF, e_tfF, e_truF, e_repT, e_keyI, e_keyS]; try simp only [true_and, and_true, Nat.reduceLeDiff, reduceIte, reduceCtorEq, Bool.false_eq_true, if_true, if_false, not_false_eq_true, ite_true, ite_false, and_self])
        rw [items_cel hr1]
        refine wh_mk rfl (wh_mk at_lastC (wh_mk rfl ⟨⟨_, rows.1⟩, by omega, ?_⟩))
        rw [lstC_of rows.1]
        refine ⟨?_, ?_⟩
        · rw [datAll_length]
          omega
        rw [cut_take e3 (by omega) (by omega) (by omega)]
        refine ⟨z.length - (e + 1), by omega, fs, _, 2, e + 1, r, rs, _, _, _, _, rfl, rfl, I2, ex.cell frr, by rw [put_ne (Ne.symm r_Nn)]; exact hn, by rw [put_ne (Ne.symm r_Nr)]; exact hr1, ⟨?_, RowsS.upd ndr.1 rows.2⟩, nd, fr⟩
        rw [put_same, datAll_snoc]
        rfl
      | false =>
        rw [ifF]
        refine ⟨sk, c, rfl, rfl, ?_⟩
        cases hT2 : (!decide (sk = 2) && isL c) with
        | true =>
          rw [Bool.and_eq_true] at hT2
          obtain ⟨h2, hL⟩ := hT2
          have h2' : sk ≠ 2 := fun e => by rw [e] at h2; cases h2
          obtain ⟨k1, k2⟩ := I.name hdr hL h2'
          rw [← hdr] at k1 k2
          rw [ifT]
          refine wh_mk rfl (wh_mk rfl ⟨z, a, rfl, lt, hz, fun e he => ?_, fun e he => ke e (k1 e he) S1 ex⟩)
          obtain ⟨wd, ht, e2, e3, I2⟩ := k2 e he
          have l2 := I2.la
          rw [cps_len] at l2
          (dsimp only [dRetX, dDropX, dSetX, dAsgX, dFnX, dRaise, dTryAs, dTryOnly, dXf, dIsX, dPar3, dFnR, List.reverse_cons, List.reverse_nil, dDelT, mPop0, mPop, mApp, mExt, dFld, dNew, dDGet, dDIn, dZipT, dAll, dTupF, dIdx, dTupRg, dDc, dReprT, dEqT, dNeT, dFor, dLc, dWhile, dRange1, dRange2, dRange3, dEnumT, e_isB, e_tupD, dgUnl, dSeq, dIfS, dSet, dAsg, dRet, dRetN, dDrop, dNext, dPar, dVar, dC, dOp, dB, dTru, dtNot, dtAnd, dtOr, dAnd, dOr, dNot, dIfE, dNeg, dNil, dCons, dTup, dLst, dCel, dNoP, dPart, dSlice, dRevT, dRevL, dCall, on1, dTupOf, dLstOf, dCelOf, dIsi, dName, dgNil, dgCons, dgTup, dFn, dMet, dMet0, gt, st, startD, wh_some, dYes, dEq, dNe, List.map, List.length, List.replicate, List.append, List.cons_append, List.nil_append, dWalk, uns, un, tupNms, dNms, ifT, ifF, List.replicate_succ, List.replicate_zero, Nat.sub_self, Nat.reduceSub, Nat.reduceAdd, Nat.zero_add, Bool.not_true, Bool.not_false, e_addI, e_addS, e_addT, e_addL, e_i2, e_i2c, e_is, e_bool, e_cel, e_strD, e_lenS, e_lenT, e_lenL, e_lenC, e_ixS, e_ixT, e_ixL, e_ixC, e_slS, e_slT, e_slL, e_slC, e_itT, e_itL, e_truN, e_truI, e_truB, e_truL, e_truT, e_okN, e_okB, e_okI, e_okS, e_okL, e_okT, e_okC, e_tupN, e_tupB, e_tupI, e_tupS, e_tupL, e_tupT, e_tupC, e_strN, e_strB, e_strI, e_strS, e_strL, e_strT, e_strC, e_intN, e_intB, e_intI, e_intS, e_intL, e_intT, e_intC, e_boolN, e_boolB, e_boolI, e_boolS, e_boolL, e_boolT, e_boolC, e_lstN, e_lstB, e_lstI, e_lstS, e_lstL, e_lstT, e_lstC, e_nonN, e_nonB, e_nonI, e_nonS, e_nonL, e_nonT, e_wkS, e_wkL, e_wkT, e_wkC, e_join, e_inS, e_ninS, e_ofI, e_ofB, e_abs, e_lenF, e_ixF, e_itF, e_wkF, e_tfF, e_truF, e_repT, e_keyI, e_keyS]; try simp only [true_and, and_true, Nat.reduceLeDiff, reduceIte, reduceCtorEq, Bool.false_eq_true, if_true, if_false, not_false_eq_true, ite_true, ite_false, and_self])
          refine ⟨⟨_, hn⟩, by omega, ?_⟩
          rw [lstC_of hn]
          refine ⟨?_, ⟨_, by rw [put_ne Nr_ne]; exact hr1⟩, fun L hL => ?_⟩
          · rw [List.length_reverse, List.length_map]
            omega
          rw [cut_take e3 (by omega) (by omega) (by omega)]
          have L_Nn : L ≠ Nn := fun e => by rw [e, put_same] at hL; cases hL
          rw [put_ne L_Nn] at hL
          have L_ne : ∀ q ∈ Nr :: r :: rs, L ≠ q := fun q hq e => by
            rcases List.mem_cons.mp hq with e2 | e2
            · rw [e, e2, hr1] at hL
              cases hL
            · obtain ⟨o, ho⟩ := rows.trk q e2
              rw [e, ho] at hL
              cases hL
          have L_Nr : Nr ≠ L := fun e => L_ne Nr (by simp) e.symm
          have fL : S L = none := by
            cases e : S L with
            | none => rfl
            | some o =>
              have := ex L o e
              rw [hL] at this
              cases this
          rw [lstC_of (by rw [put_ne L_Nr, put_ne Nr_ne]; exact hr1)]
          refine ⟨?_, ?_⟩
          · rw [List.length_reverse, List.length_map]
            have := rows_len rows
            rw [List.length_cons, List.length_cons, List.length_map] at this
            rw [List.length_cons]
            omega
          refine ⟨z.length - (e + 1), by omega, (d, strOf wd) :: fs, [], 0, e + 1, L, r :: rs, _, _, _, _, rfl, rfl, I2, ((ex.cell fNn).cell fL).cell fNr, ?_, ?_, ⟨?_, ?_⟩, ?_, ?_⟩
          · rw [put_ne (Ne.symm Nr_ne), put_ne (Ne.symm L_Nn), put_same]
            simp
          · rw [put_same]
            simp
          · rw [put_ne (Ne.symm L_Nr), put_same]
            rfl
          · exact RowsS.upd ndR.1 (RowsS.upd (fun h => L_ne L (List.mem_cons_of_mem _ h) rfl) (RowsS.upd (fun h => ndN.1 (List.mem_cons_of_mem _ h)) rows))
          · refine List.nodup_cons.mpr ⟨fun h => ?_, List.nodup_cons.mpr ⟨fun h => ?_, List.nodup_cons.mpr ⟨fun h => L_ne L (List.mem_cons_of_mem _ h) rfl, ndR.2⟩⟩⟩
            · rcases List.mem_cons.mp h with e2 | h
              · exact Nr_ne e2.symm
              · rcases List.mem_cons.mp h with e2 | h
                · exact L_Nn e2.symm
                · exact ndN.1 (List.mem_cons_of_mem _ h)
            · rcases List.mem_cons.mp h with e2 | h
              · exact L_Nr e2
              · exact ndR.1 h
          · intro q hq
            rcases List.mem_cons.mp hq with e2 | hq
            · rw [e2]; exact fNn
            · rcases List.mem_cons.mp hq with e2 | hq
              · rw [e2]; exact fNr
              · rcases List.mem_cons.mp hq with e2 | hq
                · rw [e2]; exact fL
                · exact fr q (List.mem_cons_of_mem _ (List.mem_cons_of_mem _ hq))
        | false =>
          rw [ifF]
          refine ⟨sk, c, Nn, _, rfl, rfl, rfl, hn, ?_⟩
          have eN : (!(fs.map fun f => PyData.str f.2).reverse.isEmpty) = !fs.isEmpty := by cases fs <;> simp
          rw [eN]
          cases hT3 : (!decide (sk = 1) && (decide (c = 41) && !fs.isEmpty)) with
          | true =>
            rw [Bool.and_eq_true, Bool.and_eq_true] at hT3
            obtain ⟨h1, h41, hF⟩ := hT3
            have h1' : sk ≠ 1 := fun e => by rw [e] at h1; cases h1
            have hc41 : c = 41 := of_decide_eq_true h41
            subst hc41
            cases fs with
            | nil => cases hF
            | cons f fs =>
              obtain ⟨d', x⟩ := f
              cases rs with
              | nil => exact rows.2.elim
              | cons r' rs =>
                obtain ⟨rw1, rw2, rw3⟩ := rows
                have I2 := I.close hdr h1'
                have l2 := I2.lens
                have r'_Nr : r' ≠ Nr := fun e => ndR.1 (by rw [e]; simp)
                have r'_Nn : r' ≠ Nn := fun e => ndN.1 (by rw [e]; simp)
                have eR : ((r :: r' :: rs).map fun q => cel q).reverse = ((r' :: rs).map fun q => cel q).reverse ++ [cel r] := by simp
                have eN : (((d', x) :: fs).map fun f => PyData.str f.2).reverse = (fs.map fun f => PyData.str f.2).reverse ++ [PyData.str x] := by simp
                rw [eR] at hr1
                rw [eN] at hn
                dsimp only
                rw [ifT, lstC_of hr1]
                refine wh_mk rfl (wh_mk List.getLast?_concat ?_)
                rw [List.dropLast_concat, items_cel put_same]
                refine wh_mk rfl (wh_mk at_lastC (wh_mk rfl ⟨⟨_, by rw [put_ne r'_Nr]; exact rw2⟩, ?_⟩))
                rw [lstC_of (ds := (fs.map fun f => PyData.str f.2).reverse ++ [PyData.str x]) (by rw [put_ne (Ne.symm Nr_ne)]; exact hn)]
                refine wh_mk rfl (wh_mk List.getLast?_concat ?_)
                rw [List.dropLast_concat]
                refine wh_mk (items_cel (ds := datAll d) (by rw [put_ne r_Nn, put_ne r_Nr]; exact rw1)) (wh_mk (lstC_of (ds := datAll d') (by rw [put_ne r'_Nn, put_ne r'_Nr]; exact rw2)) ⟨?_, ?_⟩)
                · rw [datAll_length]
                  have := l2.2
                  rw [List.length_append] at this
                  omega
                refine ⟨z.length - (a + 1), by omega, fs, _, 2, a + 1, r', rs, _, _, _, _, rfl, rfl, I2, ((ex.cell fNr).cell fNn).cell (fr r' (by simp)), ?_, ?_, ⟨?_, ?_⟩, ?_, fun q hq => fr q ?_⟩
                · rw [put_ne (Ne.symm r'_Nn), put_same]
                · rw [put_ne (Ne.symm r'_Nr), put_ne Nr_ne, put_same]
                · rw [put_same, datAll_snoc]
                  rfl
                · exact RowsS.upd (fun h => (List.nodup_cons.mp ndr.2).1 h) (RowsS.upd (fun h => ndN.1 (by simp [h])) (RowsS.upd (fun h => ndR.1 (by simp [h])) rw3))
                · refine List.nodup_cons.mpr ⟨fun h => ?_, List.nodup_cons.mpr ⟨fun h => ndR.1 (List.mem_cons_of_mem _ h), ndr.2⟩⟩
                  rcases List.mem_cons.mp h with e2 | h
                  · exact Nr_ne e2.symm
                  · exact ndN.1 (List.mem_cons_of_mem _ (List.mem_cons_of_mem _ h))
                · rcases List.mem_cons.mp hq with e2 | hq
                  · rw [e2]; simp
                  · rcases List.mem_cons.mp hq with e2 | hq
                    · rw [e2]; simp
                    · exact List.mem_cons_of_mem _ (List.mem_cons_of_mem _ (List.mem_cons_of_mem _ hq))
          | false =>
            show (if false = true then _ else _)
            rw [ifF]
            refine ⟨sk, c, _, rfl, rfl, rfl, ?_⟩
            cases hT4 : (decide (sk = 2) && (decide (c = 32) && (!fs.isEmpty || !alone))) with
            | true =>
              rw [Bool.and_eq_true, Bool.and_eq_true] at hT4
              obtain ⟨h2, h32, hF⟩ := hT4
              have h2' : sk = 2 := of_decide_eq_true h2
              have hc32 : c = 32 := of_decide_eq_true h32
              subst h2' hc32
              have I2 := I.blank hdr hF
              rw [ifT]
              refine ⟨z.length - (a + 1), by omega, fs, d, 1, a + 1, r, rs, _, _, _, _, rfl, rfl, I2, ex, hn, hr1, rows, nd, fr⟩
            | false =>
              rw [ifF]
              refine wh_mk rfl (ke a ?_ S1 ex)
              refine I.stop hdr (fun h2 h34 => ?_) (fun h2 => ?_) (fun h1 h41 => ?_) (fun h2 h32 => ?_)
              · rw [h34, decide_eq_false h2] at hT1
                simpa using hT1
              · rw [decide_eq_false h2] at hT2
                simpa using hT2
              · rw [h41, decide_eq_false h1] at hT3
                simpa using hT3
              · rw [h32, h2] at hT4
                simpa using hT4
    · have ea : a = z.cps.toList.length := by rw [cps_len]; omega
      have ea2 : a = z.length := by omega
      obtain ⟨k1, k2⟩ := I.done ea
      have stop : (!fs.isEmpty || (decide (sk = 1) || (alone && fs.isEmpty && d.isEmpty))) = true → Ed C [("at", .int (z.length : Int))] S1 := fun h => by
        rw [← ea2]
        exact ke a (k1 h) S1 ex
      rw [decide_eq_false (by omega : ¬ (a : Int) < (z.length : Int)), ifF]
      rw [truD_lst hn]
      have eE : (fs.map fun f => PyData.str f.2).reverse.isEmpty = fs.isEmpty := by cases fs <;> simp
      rw [eE]
      cases fs with
      | cons f fs => exact ⟨by omega, stop rfl⟩
      | nil =>
        cases rs with
        | cons r' rs => exact rows.2.elim
        | nil =>
          have e0 : atI ((([r] : List Nat).map fun q => cel q).reverse) 0 = some (cel r) := rfl
          refine wh_mk (a := false) rfl ?_
          rw [ifF]
          refine ⟨eqOk_int _ _, ?_⟩
          rw [show PyData.eqv (.int (sk : Nat)) (.int 1) = decide (sk = 1) from eqv_nat sk 1]
          have fin : (decide (sk = 1) || (alone && true && d.isEmpty)) = false → Qd (.tuple (datAll d)) S1 := fun h => by
            obtain ⟨q1, _, q2, q3⟩ := k2 h
            rw [strOf_eq] at q2
            exact kq d S1 q1 ex I.od q2 q3
          have tup : (decide (sk = 1) || (alone && true && d.isEmpty)) = false → wh (itemsD S1 (cel Nr)) fun ds => wh (atI ds 0) fun d => dTupOf d S1 Qd := fun h => by
            rw [items_cel hr1]
            refine wh_mk rfl (wh_mk e0 ?_)
            exact wh_mk (items_cel rows.1) (fin h)
          have stop' : (decide (sk = 1) || (alone && true && d.isEmpty)) = true → Ed C [("at", .int (z.length : Int))] S1 := stop
          cases h1 : decide (sk = 1) with
          | true =>
            rw [ifT]
            exact ⟨by omega, stop' (by rw [h1]; rfl)⟩
          | false =>
            rw [ifF]
            rw [h1] at tup stop'
            cases alone with
            | false =>
              rw [ifF]
              exact tup rfl
            | true =>
              rw [ifT, items_cel hr1]
              refine wh_mk rfl (wh_mk e0 ?_)
              rw [truD_lst rows.1]
              cases d with
              | nil => exact ⟨by omega, stop' rfl⟩
              | cons t d =>
                refine wh_mk (a := true) rfl ?_
                rw [Bool.not_true, ifF]
                have t9 := tup rfl
                rw [items_cel hr1] at t9
                exact t9
end
end K3

/-! nodes and forests read; the law's own states -/
namespace K3
open PySem L2 Xr K1 Exv
abbrev sLNext : Stmt := top 36
theorem scLNext : FnScope ["state", "sign", "node", "what", "many", "deep", "letter", "figure"] ["state", "sign", "node"] (defScope sLNext) := ⟨rfl, rfl, rfl, by decide +kernel, rfl, by decide +kernel, by decide +kernel⟩
abbrev sLDue : Stmt := top 37
theorem scLDue : FnScope ["text", "node", "state", "at", "good"] ["text", "node"] (defScope sLDue) := ⟨rfl, rfl, rfl, by decide +kernel, rfl, by decide +kernel, by decide +kernel⟩
def spReadNode (C : Addr) : SpD := fun ds S Q E => ∃ (z : Str), ds = [.str z] ∧ z.length ≤ 100000 ∧
  (∀ e : Nat, dueOf z true = some e → ∀ S', Ext S S' → E C (atE (e : Nat)) S') ∧ ∀ x cs S', dueOf z true = none → Ext S S' → okD [.nod x cs] → z = txAll [.nod x cs] → Q (Doc.nod x cs).dat S'
def spReadForest (C : Addr) : SpD := fun ds S Q E => ∃ (z : Str), ds = [.str z] ∧ z.length ≤ 100000 ∧
  (∀ e : Nat, dueOf z false = some e → ∀ S', Ext S S' → E C (atE (e : Nat)) S') ∧ ∀ ts S', dueOf z false = none → Ext S S' → okD ts → z = txAll ts → Q (.tuple (datAll ts)) S'
abbrev stD (w : W5) (m dp : Nat) : PyData := .tuple [.str w.s, .int (m : Nat), .int (dp : Nat)]
def nxtD : Option (W5 × Nat × Nat) → PyData
  | none => .none
  | some (w, m, dp) => stD w m dp
def spNext : SpD := fun ds S Q _ => ∃ (w : W5) (m dp c : Nat) (node : Bool), ds = [stD w m dp, .str ⟨#[c]⟩, .bool node] ∧ Q (nxtD (nxt node w m dp c)) S
def optN : Option Nat → PyData
  | none => .none
  | some e => .int (e : Nat)
def spDue : SpD := fun ds S Q _ => ∃ (z : Str) (node : Bool), ds = [.str z, .bool node] ∧ z.length ≤ 100000 ∧ Q (optN (dueOf z node)) S
theorem ew_name_name : PyData.eqv (.str (W5.s .name)) (.str (Str.ofString "name")) = true := by decide +kernel
theorem ew_name_quote : PyData.eqv (.str (W5.s .name)) (.str (Str.ofString "quote")) = false := by decide +kernel
theorem ew_name_behind : PyData.eqv (.str (W5.s .name)) (.str (Str.ofString "behind")) = false := by decide +kernel
theorem ew_name_opn : PyData.eqv (.str (W5.s .name)) (.str (Str.ofString "open")) = false := by decide +kernel
theorem ew_quote_name : PyData.eqv (.str (W5.s .quote)) (.str (Str.ofString "name")) = false := by decide +kernel
theorem ew_quote_quote : PyData.eqv (.str (W5.s .quote)) (.str (Str.ofString "quote")) = true := by decide +kernel
theorem ew_quote_behind : PyData.eqv (.str (W5.s .quote)) (.str (Str.ofString "behind")) = false := by decide +kernel
theorem ew_quote_opn : PyData.eqv (.str (W5.s .quote)) (.str (Str.ofString "open")) = false := by decide +kernel
theorem ew_behind_name : PyData.eqv (.str (W5.s .behind)) (.str (Str.ofString "name")) = false := by decide +kernel
theorem ew_behind_quote : PyData.eqv (.str (W5.s .behind)) (.str (Str.ofString "quote")) = false := by decide +kernel
theorem ew_behind_behind : PyData.eqv (.str (W5.s .behind)) (.str (Str.ofString "behind")) = true := by decide +kernel
theorem ew_behind_opn : PyData.eqv (.str (W5.s .behind)) (.str (Str.ofString "open")) = false := by decide +kernel
theorem ew_opn_name : PyData.eqv (.str (W5.s .opn)) (.str (Str.ofString "name")) = false := by decide +kernel
theorem ew_opn_quote : PyData.eqv (.str (W5.s .opn)) (.str (Str.ofString "quote")) = false := by decide +kernel
theorem ew_opn_behind : PyData.eqv (.str (W5.s .opn)) (.str (Str.ofString "behind")) = false := by decide +kernel
theorem ew_opn_opn : PyData.eqv (.str (W5.s .opn)) (.str (Str.ofString "open")) = true := by decide +kernel
theorem ew_thing_name : PyData.eqv (.str (W5.s .thing)) (.str (Str.ofString "name")) = false := by decide +kernel
theorem ew_thing_quote : PyData.eqv (.str (W5.s .thing)) (.str (Str.ofString "quote")) = false := by decide +kernel
theorem ew_thing_behind : PyData.eqv (.str (W5.s .thing)) (.str (Str.ofString "behind")) = false := by decide +kernel
theorem ew_thing_opn : PyData.eqv (.str (W5.s .thing)) (.str (Str.ofString "open")) = false := by decide +kernel
theorem sg40 (c : Nat) : PyData.eqv (.str ⟨#[c]⟩) (.str (Str.ofString "(")) = decide (c = 40) := eqv_sg c 40
theorem sg41 (c : Nat) : PyData.eqv (.str ⟨#[c]⟩) (.str (Str.ofString ")")) = decide (c = 41) := eqv_sg c 41
theorem sg34 (c : Nat) : PyData.eqv (.str ⟨#[c]⟩) (.str (Str.ofString "\"")) = decide (c = 34) := eqv_sg c 34
theorem sg32 (c : Nat) : PyData.eqv (.str ⟨#[c]⟩) (.str (Str.ofString " ")) = decide (c = 32) := eqv_sg c 32
theorem dec_lt (m k : Nat) : decide ((m : Int) < (k : Nat)) = decide (m < k) := by
  by_cases h : m < k
  · rw [decide_eq_true h, decide_eq_true (by omega)]
  · rw [decide_eq_false h, decide_eq_false (by omega)]
abbrev dStart : DE := fun ρ S Q => ∃ node : Bool, gt ρ 1 = some (.bool node) ∧ Q (stD (if node = true then .thing else .opn) 0 0) S
theorem wStart : ∀ ρ S Q, dStart ρ S Q → dTup (dCons (dIfE (dTru (dVar 1)) (dC (.str (Str.ofString "thing"))) (dC (.str (Str.ofString "open")))) (dCons (dC (.int 0)) (dCons (dC (.int 0)) dNil))) ρ S Q := by
  rintro ρ S Q ⟨node, e, q⟩
  unfold dTup dCons dIfE dTru dVar dC dNil
  rw [e]
  cases node
  · exact ⟨(by decide : 3 ≤ 1000000), q⟩
  · exact ⟨(by decide : 3 ≤ 1000000), q⟩
abbrev dGood : DE := fun ρ S Q => ∃ (w : W5) (m dp : Nat) (node : Bool), gt ρ 2 = some (stD w m dp) ∧ gt ρ 1 = some (.bool node) ∧ Q (.bool (decide (dp = 0) && (isBeh w || (isOpn w && !node)))) S
theorem wGood : ∀ ρ S Q, dGood ρ S Q → dAnd (dOp dEq (dOp dIx (dVar 2) (dC (.int 2))) (dC (.int 0))) (dOr (dOp dEq (dOp dIx (dVar 2) (dC (.int 0))) (dC (.str (Str.ofString "behind")))) (dAnd (dOp dEq (dOp dIx (dVar 2) (dC (.int 0))) (dC (.str (Str.ofString "open")))) (dNot (dVar 1)))) ρ S Q := by
  rintro ρ S Q ⟨w, m, dp, node, e1, e2, q⟩
  unfold dAnd dOp dEq dOr dVar dC dNot
  dsimp only
  rw [e1, e2]
  refine ⟨eqOk_int _ _, ?_⟩
  rw [show PyData.eqv (.int (dp : Nat)) (.int 0) = decide (dp = 0) from eqv_nat dp 0]
  cases h : decide (dp = 0) with
  | false =>
    rw [h] at q
    exact q
  | true =>
    rw [h] at q
    refine ⟨eqOk_str _ _, ?_⟩
    cases w
    · exact ⟨eqOk_str _ _, q⟩
    · exact ⟨eqOk_str _ _, q⟩
    · exact q
    · exact ⟨eqOk_str _ _, q⟩
    · exact ⟨eqOk_str _ _, q⟩
structure LwTxt (mg : Str → Option Value) (K : PySem.W.Frag) (a_law_next : Addr) : Prop where
  n_range : mg "range" = none
  n_len : mg "len" = none
  g_law_next : mg "_law_next" = some (.ref a_law_next)
  k_law_next : PySem.W.keepIn K (.ref a_law_next) = true
section
variable {P : Program} {w : World} {K : PySem.W.Frag} {mg : Str → Option Value} {base : Heap} {C fI a_quote_end a_name_end a_read a_law_next : Addr} {t1 t2 t3 t4 t5 t6 t7 : Tok} {fdI d1 d2 : FuncData}
theorem ok_readNode {f : Addr} {fd : FuncData} (F : Fun K "read_node" "read_node" sReadNode f fd) (T : ReadTxt K mg C fI a_quote_end a_name_end a_read t1 t2 t3 t4 t5 t6 t7)
    (G_read : FnOk P w K mg base (L2.CX P w) 5 a_read d1 ["value", "alone"] (spD K (spRead C))) (b_read : Binds K d1 ["value", "alone"] []) : FnOk P w K mg base (L2.CX P w) 6 f fd ["value"] (spD K (spReadNode C)) := by
  refine dokX F scReadNode (fun ds S Q E h => ?_) fun cdv A outer s H Q E (hr : Room 5 _) => ⟨_, (qss_one (qs_retX (qx_at (qx_call hr G_read T.g_read T.k_read b_read (by rfl) (by omega) (q_cons (q_var (pv 0)) (q_cons q_bl q_nil))) q_int (fun _ _ => rfl)))), fun ds S Qd Ed h => ?_⟩
  · obtain ⟨z, rfl, _⟩ := h
    rfl
  · obtain ⟨z, rfl, hz, ke, kq⟩ := h
    (dsimp only [dRetX, dDropX, dSetX, dAsgX, dFnX, dRaise, dTryAs, dTryOnly, dXf, dIsX, dPar3, dFnR, List.reverse_cons, List.reverse_nil, dDelT, mPop0, mPop, mApp, mExt, dFld, dNew, dDGet, dDIn, dZipT, dAll, dTupF, dIdx, dTupRg, dDc, dReprT, dEqT, dNeT, dFor, dLc, dWhile, dRange1, dRange2, dRange3, dEnumT, e_isB, e_tupD, dgUnl, dSeq, dIfS, dSet, dAsg, dRet, dRetN, dDrop, dNext, dPar, dVar, dC, dOp, dB, dTru, dtNot, dtAnd, dtOr, dAnd, dOr, dNot, dIfE, dNeg, dNil, dCons, dTup, dLst, dCel, dNoP, dPart, dSlice, dRevT, dRevL, dCall, on1, dTupOf, dLstOf, dCelOf, dIsi, dName, dgNil, dgCons, dgTup, dFn, dMet, dMet0, gt, st, startD, wh_some, dYes, dEq, dNe, List.map, List.length, List.replicate, List.append, List.cons_append, List.nil_append, dWalk, uns, un, tupNms, dNms, ifT, ifF, List.replicate_succ, List.replicate_zero, Nat.sub_self, Nat.reduceSub, Nat.reduceAdd, Nat.zero_add, Bool.not_true, Bool.not_false, e_addI, e_addS, e_addT, e_addL, e_i2, e_i2c, e_is, e_bool, e_cel, e_strD, e_lenS, e_lenT, e_lenL, e_lenC, e_ixS, e_ixT, e_ixL, e_ixC, e_slS, e_slT, e_slL, e_slC, e_itT, e_itL, e_truN, e_truI, e_truB, e_truL, e_truT, e_okN, e_okB, e_okI, e_okS, e_okL, e_okT, e_okC, e_tupN, e_tupB, e_tupI, e_tupS, e_tupL, e_tupT, e_tupC, e_strN, e_strB, e_strI, e_strS, e_strL, e_strT, e_strC, e_intN, e_intB, e_intI, e_intS, e_intL, e_intT, e_intC, e_boolN, e_boolB, e_boolI, e_boolS, e_boolL, e_boolT, e_boolC, e_lstN, e_lstB, e_lstI, e_lstS, e_lstL, e_lstT, e_lstC, e_nonN, e_nonB, e_nonI, e_nonS, e_nonL, e_nonT, e_wkS, e_wkL, e_wkT, e_wkC, e_join, e_inS, e_ninS, e_ofI, e_ofB, e_abs, e_lenF, e_ixF, e_itF, e_wkF, e_tfF, e_truF, e_repT, e_keyI, e_keyS]; try simp only [true_and, and_true, Nat.reduceLeDiff, reduceIte, reduceCtorEq, Bool.false_eq_true, if_true, if_false, not_false_eq_true, ite_true, ite_false, and_self])
    refine ⟨z, true, rfl, hz, ke, fun ts S' hd e ho ez ha => ?_⟩
    obtain ⟨x, cs, rfl⟩ := ha rfl
    exact wh_mk rfl (wh_mk rfl (kq x cs S' hd e ho ez))
theorem ok_readForest {f : Addr} {fd : FuncData} (F : Fun K "read_forest" "read_forest" sReadForest f fd) (T : ReadTxt K mg C fI a_quote_end a_name_end a_read t1 t2 t3 t4 t5 t6 t7)
    (G_read : FnOk P w K mg base (L2.CX P w) 5 a_read d1 ["value", "alone"] (spD K (spRead C))) (b_read : Binds K d1 ["value", "alone"] []) : FnOk P w K mg base (L2.CX P w) 6 f fd ["value"] (spD K (spReadForest C)) := by
  refine dokX F scReadForest (fun ds S Q E h => ?_) fun cdv A outer s H Q E (hr : Room 5 _) => ⟨_, (qss_one (qs_retX (qx_call hr G_read T.g_read T.k_read b_read (by rfl) (by omega) (q_cons (q_var (pv 0)) (q_cons q_bl q_nil))))), fun ds S Qd Ed h => ?_⟩
  · obtain ⟨z, rfl, _⟩ := h
    rfl
  · obtain ⟨z, rfl, hz, ke, kq⟩ := h
    (dsimp only [dRetX, dDropX, dSetX, dAsgX, dFnX, dRaise, dTryAs, dTryOnly, dXf, dIsX, dPar3, dFnR, List.reverse_cons, List.reverse_nil, dDelT, mPop0, mPop, mApp, mExt, dFld, dNew, dDGet, dDIn, dZipT, dAll, dTupF, dIdx, dTupRg, dDc, dReprT, dEqT, dNeT, dFor, dLc, dWhile, dRange1, dRange2, dRange3, dEnumT, e_isB, e_tupD, dgUnl, dSeq, dIfS, dSet, dAsg, dRet, dRetN, dDrop, dNext, dPar, dVar, dC, dOp, dB, dTru, dtNot, dtAnd, dtOr, dAnd, dOr, dNot, dIfE, dNeg, dNil, dCons, dTup, dLst, dCel, dNoP, dPart, dSlice, dRevT, dRevL, dCall, on1, dTupOf, dLstOf, dCelOf, dIsi, dName, dgNil, dgCons, dgTup, dFn, dMet, dMet0, gt, st, startD, wh_some, dYes, dEq, dNe, List.map, List.length, List.replicate, List.append, List.cons_append, List.nil_append, dWalk, uns, un, tupNms, dNms, ifT, ifF, List.replicate_succ, List.replicate_zero, Nat.sub_self, Nat.reduceSub, Nat.reduceAdd, Nat.zero_add, Bool.not_true, Bool.not_false, e_addI, e_addS, e_addT, e_addL, e_i2, e_i2c, e_is, e_bool, e_cel, e_strD, e_lenS, e_lenT, e_lenL, e_lenC, e_ixS, e_ixT, e_ixL, e_ixC, e_slS, e_slT, e_slL, e_slC, e_itT, e_itL, e_truN, e_truI, e_truB, e_truL, e_truT, e_okN, e_okB, e_okI, e_okS, e_okL, e_okT, e_okC, e_tupN, e_tupB, e_tupI, e_tupS, e_tupL, e_tupT, e_tupC, e_strN, e_strB, e_strI, e_strS, e_strL, e_strT, e_strC, e_intN, e_intB, e_intI, e_intS, e_intL, e_intT, e_intC, e_boolN, e_boolB, e_boolI, e_boolS, e_boolL, e_boolT, e_boolC, e_lstN, e_lstB, e_lstI, e_lstS, e_lstL, e_lstT, e_lstC, e_nonN, e_nonB, e_nonI, e_nonS, e_nonL, e_nonT, e_wkS, e_wkL, e_wkT, e_wkC, e_join, e_inS, e_ninS, e_ofI, e_ofB, e_abs, e_lenF, e_ixF, e_itF, e_wkF, e_tfF, e_truF, e_repT, e_keyI, e_keyS]; try simp only [true_and, and_true, Nat.reduceLeDiff, reduceIte, reduceCtorEq, Bool.false_eq_true, if_true, if_false, not_false_eq_true, ite_true, ite_false, and_self])
    exact ⟨z, false, rfl, hz, ke, fun ts S' hd e ho ez _ => kq ts S' hd e ho ez⟩
theorem ok_next {f : Addr} {fd : FuncData} (F : Fun K "_law_next" "_law_next" sLNext f fd) : FnOk P w K mg base CX0 1 f fd ["state", "sign", "node"] (spD K spNext) := by
  refine dok F scLNext (fun ds S Q E h => ?_) fun cdv A outer s H Q E (hr : Room 0 _) => ⟨_, (qss_cons (qs_asg (q_var (pv 0)) (qg_tup (n := 3) (by rfl) (qgs_cons (qg_name (pg_name (i := 3) scLNext.nd rfl (Or.inl rfl))) (qgs_cons (qg_name (pg_name (i := 4) scLNext.nd rfl (Or.inl rfl))) (qgs_cons (qg_name (pg_name (i := 5) scLNext.nd rfl (Or.inl rfl))) qgs_nil)))))
      (qss_cons (qs_par (i := 6) (j := 7) (by rfl) scLNext.nd rfl rfl (by decide) rfl rfl (q_cons (q_cmp op_in_sign snd_inS (q_var (pv 1)) q_str (by rfl)) (q_cons (q_cmp op_in_sign snd_inS (q_var (pv 1)) q_str (by rfl)) q_nil)) (by rfl))
      (qss_cons (qs_if (qt_cmp (op_eqA (u64 hr)) snd_eq (q_var (pv 3)) q_str (nomark _))
      (qss_cons (qs_if (PW.pt (qw_and (qt_tru (q_var (pv 6)) (by intro _; rfl)) (qw_and1 (qt_cmp op_lt snd_lt (q_var (pv 4)) q_int (nomark _)))))
      (qss_one (qs_ret (q_tup (q_cons q_str (q_cons (q_add (q_var (pv 4)) q_int) (q_cons (q_var (pv 5)) q_nil))))))
      qss_nil)
      (qss_one (qs_ret (q_if (qt_cmp (op_eqA (u64 hr)) snd_eq (q_var (pv 1)) q_str (nomark _)) (q_tup (q_cons q_str (q_cons q_int (q_cons (q_add (q_var (pv 5)) q_int) q_nil)))) q_non))))
      qss_nil)
      (qss_cons (qs_if (qt_cmp (op_eqA (u64 hr)) snd_eq (q_var (pv 3)) q_str (nomark _))
      (qss_cons (qs_if (qt_cmp (op_eqA (u64 hr)) snd_eq (q_var (pv 1)) q_str (nomark _))
      (qss_one (qs_ret (q_tup (q_cons q_str (q_cons q_int (q_cons (q_var (pv 5)) q_nil))))))
      qss_nil)
      (qss_one (qs_ret (q_if (PW.pt (qw_and (PW.pt (qw_or (qt_tru (q_var (pv 6)) (by intro _; rfl)) (qw_or1 (qt_tru (q_var (pv 7)) (by intro _; rfl))))) (qw_and1 (qt_cmp op_lt snd_lt (q_var (pv 4)) q_int (nomark _))))) (q_tup (q_cons q_str (q_cons (q_add (q_var (pv 4)) q_int) (q_cons (q_var (pv 5)) q_nil)))) q_non))))
      qss_nil)
      (qss_cons (qs_if (qt_cmp (op_eqA (u64 hr)) snd_eq (q_var (pv 3)) q_str (nomark _))
      (qss_cons (qs_if (PW.pt (qw_and (qt_cmp (op_eqA (u64 hr)) snd_eq (q_var (pv 1)) q_str (nomark _)) (qw_and1 (qt_cmp op_gt snd_lt (q_var (pv 5)) q_int (nomark _)))))
      (qss_one (qs_ret (q_tup (q_cons q_str (q_cons q_int (q_cons (q_sub (q_var (pv 5)) q_int) q_nil))))))
      qss_nil)
      (qss_one (qs_ret (q_if (PW.pt (qw_and (qt_cmp (op_eqA (u64 hr)) snd_eq (q_var (pv 1)) q_str (nomark _)) (qw_and1 (PW.pt (qw_or (qt_cmp op_gt snd_lt (q_var (pv 5)) q_int (nomark _)) (qw_or1 (qt_not (qt_tru (q_var (pv 2)) (by intro _; rfl))))))))) (q_tup (q_cons q_str (q_cons q_int (q_cons (q_var (pv 5)) q_nil)))) q_non))))
      qss_nil)
      (qss_cons (qs_if (PW.pt (qw_and (qt_cmp (op_eqA (u64 hr)) snd_eq (q_var (pv 3)) q_str (nomark _)) (qw_and (qt_cmp (op_eqA (u64 hr)) snd_eq (q_var (pv 1)) q_str (nomark _)) (qw_and1 (qt_cmp op_gt snd_lt (q_var (pv 5)) q_int (nomark _))))))
      (qss_one (qs_ret (q_tup (q_cons q_str (q_cons q_int (q_cons (q_sub (q_var (pv 5)) q_int) q_nil))))))
      qss_nil)
      (qss_cons (qs_if (PW.pt (qw_and (qt_cmp (op_eqA (u64 hr)) snd_eq (q_var (pv 1)) q_str (nomark _)) (qw_and1 (PW.pt (qw_or (qt_cmp op_gt snd_lt (q_var (pv 5)) q_int (nomark _)) (qw_or1 (qt_not (qt_tru (q_var (pv 2)) (by intro _; rfl)))))))))
      (qss_one (qs_ret (q_tup (q_cons q_str (q_cons q_int (q_cons (q_var (pv 5)) q_nil))))))
      qss_nil)
      (qss_one (qs_ret (q_if (qt_tru (q_var (pv 6)) (by intro _; rfl)) (q_tup (q_cons q_str (q_cons q_int (q_cons (q_var (pv 5)) q_nil)))) q_non)))))))))), fun ds S Qd Ed h => ?_⟩
  · obtain ⟨w, m, dp, c, node, rfl, _⟩ := h
    rfl
  · obtain ⟨w, m, dp, c, node, rfl, q⟩ := h
    (dsimp only [dRetX, dDropX, dSetX, dAsgX, dFnX, dRaise, dTryAs, dTryOnly, dXf, dIsX, dPar3, dFnR, List.reverse_cons, List.reverse_nil, dDelT, mPop0, mPop, mApp, mExt, dFld, dNew, dDGet, dDIn, dZipT, dAll, dTupF, dIdx, dTupRg, dDc, dReprT, dEqT, dNeT, dFor, dLc, dWhile, dRange1, dRange2, dRange3, dEnumT, e_isB, e_tupD, dgUnl, dSeq, dIfS, dSet, dAsg, dRet, dRetN, dDrop, dNext, dPar, dVar, dC, dOp, dB, dTru, dtNot, dtAnd, dtOr, dAnd, dOr, dNot, dIfE, dNeg, dNil, dCons, dTup, dLst, dCel, dNoP, dPart, dSlice, dRevT, dRevL, dCall, on1, dTupOf, dLstOf, dCelOf, dIsi, dName, dgNil, dgCons, dgTup, dFn, dMet, dMet0, gt, st, startD, wh_some, dYes, dEq, dNe, List.map, List.length, List.replicate, List.append, List.cons_append, List.nil_append, dWalk, uns, un, tupNms, dNms, ifT, ifF, List.replicate_succ, List.replicate_zero, Nat.sub_self, Nat.reduceSub, Nat.reduceAdd, Nat.zero_add, Bool.not_true, Bool.not_false, e_addI, e_addS, e_addT, e_addL, e_i2, e_i2c, e_is, e_bool, e_cel, e_strD, e_lenS, e_lenT, e_lenL, e_lenC, e_ixS, e_ixT, e_ixL, e_ixC, e_slS, e_slT, e_slL, e_slC, e_itT, e_itL, e_truN, e_truI, e_truB, e_truL, e_truT, e_okN, e_okB, e_okI, e_okS, e_okL, e_okT, e_okC, e_tupN, e_tupB, e_tupI, e_tupS, e_tupL, e_tupT, e_tupC, e_strN, e_strB, e_strI, e_strS, e_strL, e_strT, e_strC, e_intN, e_intB, e_intI, e_intS, e_intL, e_intT, e_intC, e_boolN, e_boolB, e_boolI, e_boolS, e_boolL, e_boolT, e_boolC, e_lstN, e_lstB, e_lstI, e_lstS, e_lstL, e_lstT, e_lstC, e_nonN, e_nonB, e_nonI, e_nonS, e_nonL, e_nonT, e_wkS, e_wkL, e_wkT, e_wkC, e_join, e_inS, e_ninS, e_ofI, e_ofB, e_abs, e_lenF, e_ixF, e_itF, e_wkF, e_tfF, e_truF, e_repT, e_keyI, e_keyS]; try simp only [true_and, and_true, Nat.reduceLeDiff, reduceIte, reduceCtorEq, Bool.false_eq_true, if_true, if_false, not_false_eq_true, ite_true, ite_false, and_self])
    have b1 : decide (c ∈ (Str.ofString "abcdefghijklmnopqrstuvwxyz").cps.toList) = isL c := rfl
    have b2 : decide (c ∈ (Str.ofString "0123456789 ").cps.toList) = isF c := rfl
    have m8 : decide ((m : Int) < 8) = decide (m < 8) := dec_lt m 8
    have m16 : decide ((m : Int) < 16) = decide (m < 16) := dec_lt m 16
    have d0 : decide ((0 : Int) < (dp : Nat)) = decide (0 < dp) := by
      by_cases h : 0 < dp
      · rw [decide_eq_true h, decide_eq_true (by omega)]
      · rw [decide_eq_false h, decide_eq_false (by omega)]
    have d1 : decide (0 < dp) = true → ((dp : Nat) : Int) - 1 = ((dp - 1 : Nat) : Int) := fun h => by
      have := of_decide_eq_true h
      omega
    simp only [eqOk_str, true_and, b1, b2, m8, m16, d0, sg40, sg41, sg34, sg32]
    revert q
    cases w <;> simp only [ew_name_name, ew_name_quote, ew_name_behind, ew_name_opn, ew_quote_name, ew_quote_quote, ew_quote_behind, ew_quote_opn, ew_behind_name, ew_behind_quote, ew_behind_behind, ew_behind_opn, ew_opn_name, ew_opn_quote, ew_opn_behind, ew_opn_opn, ew_thing_name, ew_thing_quote, ew_thing_behind, ew_thing_opn, nxt, isOpn] <;> revert d1 <;> generalize isL c = l <;> generalize isF c = g <;> generalize decide (m < 8) = b8 <;> generalize decide (m < 16) = b16 <;> generalize decide (0 < dp) = bp <;> generalize decide (c = 34) = c34 <;> generalize decide (c = 40) = c40 <;> generalize decide (c = 41) = c41 <;> generalize decide (c = 32) = c32 <;> intro d1 q
    · cases l <;> cases b8 <;> cases c40 <;> exact q
    · cases c34 <;> cases l <;> cases g <;> cases b16 <;> exact q
    · cases bp
      · cases c41 <;> cases c32 <;> cases node <;> exact q
      · rw [d1 rfl]
        cases c41 <;> cases c32 <;> cases node <;> exact q
    · cases bp
      · cases c41 <;> cases c34 <;> cases l <;> cases node <;> exact q
      · rw [d1 rfl]
        cases c41 <;> cases c34 <;> cases l <;> cases node <;> exact q
    · cases bp <;> cases c34 <;> cases l <;> cases node <;> exact q
theorem ok_due {f : Addr} {fd : FuncData} (F : Fun K "_law_due" "_law_due" sLDue f fd) (T : LwTxt mg K a_law_next) (G_law_next : FnOk P w K mg base CX0 1 a_law_next d2 ["state", "sign", "node"] (spD K spNext)) (b_law_next : Binds K d2 ["state", "sign", "node"] []) : FnOk P w K mg base CX0 3 f fd ["text", "node"] (spD K spDue) := by
  refine dok F scLDue (fun ds S Q E h => ?_) fun cdv A outer s H Q E (hr : Room 2 _) => ⟨_, (qss_cons (qs_set (i := 2) scLDue.nd rfl (Or.inl rfl) (q_weakD (q_tup (q_cons (q_if (qt_tru (q_var (pv 1)) (by intro _; rfl)) q_str q_str) (q_cons q_int (q_cons q_int q_nil)))) wStart))
      (qss_cons (qs_for PassesOwn.never rfl (qi_range1 T.n_range (by rfl) (q_cons (q_len T.n_len (by rfl) (q_cons (q_var (pv 0)) q_nil)) q_nil)) (qg_name (pg_name (i := 3) scLDue.nd rfl (Or.inl rfl)))
      (qss_cons (qs_set (i := 2) scLDue.nd rfl (Or.inl rfl) (q_call hr G_law_next T.g_law_next T.k_law_next b_law_next (by rfl) (by omega) (q_cons (q_var (pv 2)) (q_cons (q_at (q_var (pv 0)) (q_var (pv 3)) (fun _ _ => rfl)) (q_cons (q_var (pv 1)) q_nil)))))
      (qss_one (qs_if (qt_cmp op_isN snd_isN (q_var (pv 2)) q_non (nomark _))
      (qss_one (qs_ret (q_var (pv 3))))
      qss_nil))))
      (qss_cons (qs_set (i := 4) scLDue.nd rfl (Or.inl rfl) (q_weakD (q_and (q_cmp (op_eqA (u64 hr)) snd_eq (q_at (q_var (pv 2)) q_int (fun _ _ => rfl)) q_int (nomark _)) (q_one (q_or (q_cmp (op_eqA (u64 hr)) snd_eq (q_at (q_var (pv 2)) q_int (fun _ _ => rfl)) q_str (nomark _)) (q_one (q_and (q_cmp (op_eqA (u64 hr)) snd_eq (q_at (q_var (pv 2)) q_int (fun _ _ => rfl)) q_str (nomark _)) (q_one (q_not (q_var (pv 1))))))))) wGood))
      (qss_one (qs_ret (q_if (qt_tru (q_var (pv 4)) (by intro _; rfl)) q_non (q_len T.n_len (by rfl) (q_cons (q_var (pv 0)) q_nil)))))))), fun ds S Qd Ed h => ?_⟩
  · obtain ⟨z, node, rfl, _⟩ := h
    rfl
  · obtain ⟨z, node, rfl, hz, q⟩ := h
    (dsimp only [dRetX, dDropX, dSetX, dAsgX, dFnX, dRaise, dTryAs, dTryOnly, dXf, dIsX, dPar3, dFnR, List.reverse_cons, List.reverse_nil, dDelT, mPop0, mPop, mApp, mExt, dFld, dNew, dDGet, dDIn, dZipT, dAll, dTupF, dIdx, dTupRg, dDc, dReprT, dEqT, dNeT, dFor, dLc, dWhile, dRange1, dRange2, dRange3, dEnumT, e_isB, e_tupD, dgUnl, dSeq, dIfS, dSet, dAsg, dRet, dRetN, dDrop, dNext, dPar, dVar, dC, dOp, dB, dTru, dtNot, dtAnd, dtOr, dAnd, dOr, dNot, dIfE, dNeg, dNil, dCons, dTup, dLst, dCel, dNoP, dPart, dSlice, dRevT, dRevL, dCall, on1, dTupOf, dLstOf, dCelOf, dIsi, dName, dgNil, dgCons, dgTup, dFn, dMet, dMet0, gt, st, startD, wh_some, dYes, dEq, dNe, List.map, List.length, List.replicate, List.append, List.cons_append, List.nil_append, dWalk, uns, un, tupNms, dNms, ifT, ifF, List.replicate_succ, List.replicate_zero, Nat.sub_self, Nat.reduceSub, Nat.reduceAdd, Nat.zero_add, Bool.not_true, Bool.not_false, e_addI, e_addS, e_addT, e_addL, e_i2, e_i2c, e_is, e_bool, e_cel, e_strD, e_lenS, e_lenT, e_lenL, e_lenC, e_ixS, e_ixT, e_ixL, e_ixC, e_slS, e_slT, e_slL, e_slC, e_itT, e_itL, e_truN, e_truI, e_truB, e_truL, e_truT, e_okN, e_okB, e_okI, e_okS, e_okL, e_okT, e_okC, e_tupN, e_tupB, e_tupI, e_tupS, e_tupL, e_tupT, e_tupC, e_strN, e_strB, e_strI, e_strS, e_strL, e_strT, e_strC, e_intN, e_intB, e_intI, e_intS, e_intL, e_intT, e_intC, e_boolN, e_boolB, e_boolI, e_boolS, e_boolL, e_boolT, e_boolC, e_lstN, e_lstB, e_lstI, e_lstS, e_lstL, e_lstT, e_lstC, e_nonN, e_nonB, e_nonI, e_nonS, e_nonL, e_nonT, e_wkS, e_wkL, e_wkT, e_wkC, e_join, e_inS, e_ninS, e_ofI, e_ofB, e_abs, e_lenF, e_ixF, e_itF, e_wkF, e_tfF, e_truF, e_repT, e_keyI, e_keyS]; try simp only [true_and, and_true, Nat.reduceLeDiff, reduceIte, reduceCtorEq, Bool.false_eq_true, if_true, if_false, not_false_eq_true, ite_true, ite_false, and_self])
    refine ⟨node, rfl, by omega, ⟨by omega, by omega⟩, fun i ρ S' => S' = S ∧ ∃ (w : W5) (m dp : Nat) (x3 : Option PyData), ρ = [some (.str z), some (.bool node), some (stD w m dp), x3, none] ∧ due node (z.cps.toList.drop i) w m dp i = dueOf z node, ⟨rfl, _, _, _, none, rfl, rfl⟩, fun _ _ _ _ => trivial, ?_, ?_⟩
    · rintro i d ρ S1 hd ⟨rfl, w, m, dp, x3, rfl, hq⟩
      obtain ⟨hi, rfl⟩ := rangeD_at hd
      have hi' : i < z.length := by omega
      obtain ⟨c, hc, hdr⟩ := sg_at hi'
      have ei : (0 : Int) + (i : Nat) * 1 = (i : Nat) := by omega
      rw [ei]
      rw [hdr] at hq
      (dsimp only [dRetX, dDropX, dSetX, dAsgX, dFnX, dRaise, dTryAs, dTryOnly, dXf, dIsX, dPar3, dFnR, List.reverse_cons, List.reverse_nil, dDelT, mPop0, mPop, mApp, mExt, dFld, dNew, dDGet, dDIn, dZipT, dAll, dTupF, dIdx, dTupRg, dDc, dReprT, dEqT, dNeT, dFor, dLc, dWhile, dRange1, dRange2, dRange3, dEnumT, e_isB, e_tupD, dgUnl, dSeq, dIfS, dSet, dAsg, dRet, dRetN, dDrop, dNext, dPar, dVar, dC, dOp, dB, dTru, dtNot, dtAnd, dtOr, dAnd, dOr, dNot, dIfE, dNeg, dNil, dCons, dTup, dLst, dCel, dNoP, dPart, dSlice, dRevT, dRevL, dCall, on1, dTupOf, dLstOf, dCelOf, dIsi, dName, dgNil, dgCons, dgTup, dFn, dMet, dMet0, gt, st, startD, wh_some, dYes, dEq, dNe, List.map, List.length, List.replicate, List.append, List.cons_append, List.nil_append, dWalk, uns, un, tupNms, dNms, ifT, ifF, List.replicate_succ, List.replicate_zero, Nat.sub_self, Nat.reduceSub, Nat.reduceAdd, Nat.zero_add, Bool.not_true, Bool.not_false, e_addI, e_addS, e_addT, e_addL, e_i2, e_i2c, e_is, e_bool, e_cel, e_strD, e_lenS, e_lenT, e_lenL, e_lenC, e_ixS, e_ixT, e_ixL, e_ixC, e_slS, e_slT, e_slL, e_slC, e_itT, e_itL, e_truN, e_truI, e_truB, e_truL, e_truT, e_okN, e_okB, e_okI, e_okS, e_okL, e_okT, e_okC, e_tupN, e_tupB, e_tupI, e_tupS, e_tupL, e_tupT, e_tupC, e_strN, e_strB, e_strI, e_strS, e_strL, e_strT, e_strC, e_intN, e_intB, e_intI, e_intS, e_intL, e_intT, e_intC, e_boolN, e_boolB, e_boolI, e_boolS, e_boolL, e_boolT, e_boolC, e_lstN, e_lstB, e_lstI, e_lstS, e_lstL, e_lstT, e_lstC, e_nonN, e_nonB, e_nonI, e_nonS, e_nonL, e_nonT, e_wkS, e_wkL, e_wkT, e_wkC, e_join, e_inS, e_ninS, e_ofI, e_ofB, e_abs, e_lenF, e_ixF, e_itF, e_wkF, e_tfF, e_truF, e_repT, e_keyI, e_keyS]; try simp only [true_and, and_true, Nat.reduceLeDiff, reduceIte, reduceCtorEq, Bool.false_eq_true, if_true, if_false, not_false_eq_true, ite_true, ite_false, and_self])
      refine ⟨by omega, wh_mk hc ⟨w, m, dp, c, node, rfl, ?_⟩⟩
      (dsimp only [dRetX, dDropX, dSetX, dAsgX, dFnX, dRaise, dTryAs, dTryOnly, dXf, dIsX, dPar3, dFnR, List.reverse_cons, List.reverse_nil, dDelT, mPop0, mPop, mApp, mExt, dFld, dNew, dDGet, dDIn, dZipT, dAll, dTupF, dIdx, dTupRg, dDc, dReprT, dEqT, dNeT, dFor, dLc, dWhile, dRange1, dRange2, dRange3, dEnumT, e_isB, e_tupD, dgUnl, dSeq, dIfS, dSet, dAsg, dRet, dRetN, dDrop, dNext, dPar, dVar, dC, dOp, dB, dTru, dtNot, dtAnd, dtOr, dAnd, dOr, dNot, dIfE, dNeg, dNil, dCons, dTup, dLst, dCel, dNoP, dPart, dSlice, dRevT, dRevL, dCall, on1, dTupOf, dLstOf, dCelOf, dIsi, dName, dgNil, dgCons, dgTup, dFn, dMet, dMet0, gt, st, startD, wh_some, dYes, dEq, dNe, List.map, List.length, List.replicate, List.append, List.cons_append, List.nil_append, dWalk, uns, un, tupNms, dNms, ifT, ifF, List.replicate_succ, List.replicate_zero, Nat.sub_self, Nat.reduceSub, Nat.reduceAdd, Nat.zero_add, Bool.not_true, Bool.not_false, e_addI, e_addS, e_addT, e_addL, e_i2, e_i2c, e_is, e_bool, e_cel, e_strD, e_lenS, e_lenT, e_lenL, e_lenC, e_ixS, e_ixT, e_ixL, e_ixC, e_slS, e_slT, e_slL, e_slC, e_itT, e_itL, e_truN, e_truI, e_truB, e_truL, e_truT, e_okN, e_okB, e_okI, e_okS, e_okL, e_okT, e_okC, e_tupN, e_tupB, e_tupI, e_tupS, e_tupL, e_tupT, e_tupC, e_strN, e_strB, e_strI, e_strS, e_strL, e_strT, e_strC, e_intN, e_intB, e_intI, e_intS, e_intL, e_intT, e_intC, e_boolN, e_boolB, e_boolI, e_boolS, e_boolL, e_boolT, e_boolC, e_lstN, e_lstB, e_lstI, e_lstS, e_lstL, e_lstT, e_lstC, e_nonN, e_nonB, e_nonI, e_nonS, e_nonL, e_nonT, e_wkS, e_wkL, e_wkT, e_wkC, e_join, e_inS, e_ninS, e_ofI, e_ofB, e_abs, e_lenF, e_ixF, e_itF, e_wkF, e_tfF, e_truF, e_repT, e_keyI, e_keyS]; try simp only [true_and, and_true, Nat.reduceLeDiff, reduceIte, reduceCtorEq, Bool.false_eq_true, if_true, if_false, not_false_eq_true, ite_true, ite_false, and_self])
      cases hn : nxt node w m dp c with
      | none =>
        rw [due_stop hn] at hq
        show (if true = true then Qd (.int (i : Nat)) S1 else _)
        rw [ifT]
        rw [← hq] at q
        exact q
      | some p =>
        obtain ⟨w', m', dp'⟩ := p
        rw [due_cons hn] at hq
        show (if false = true then _ else _)
        rw [ifF]
        exact ⟨w', m', dp', _, rfl, hq⟩
    · rintro ρ S1 ⟨rfl, w, m, dp, x3, rfl, hq⟩
      rw [rangeD_len] at hq
      (dsimp only [dRetX, dDropX, dSetX, dAsgX, dFnX, dRaise, dTryAs, dTryOnly, dXf, dIsX, dPar3, dFnR, List.reverse_cons, List.reverse_nil, dDelT, mPop0, mPop, mApp, mExt, dFld, dNew, dDGet, dDIn, dZipT, dAll, dTupF, dIdx, dTupRg, dDc, dReprT, dEqT, dNeT, dFor, dLc, dWhile, dRange1, dRange2, dRange3, dEnumT, e_isB, e_tupD, dgUnl, dSeq, dIfS, dSet, dAsg, dRet, dRetN, dDrop, dNext, dPar, dVar, dC, dOp, dB, dTru, dtNot, dtAnd, dtOr, dAnd, dOr, dNot, dIfE, dNeg, dNil, dCons, dTup, dLst, dCel, dNoP, dPart, dSlice, dRevT, dRevL, dCall, on1, dTupOf, dLstOf, dCelOf, dIsi, dName, dgNil, dgCons, dgTup, dFn, dMet, dMet0, gt, st, startD, wh_some, dYes, dEq, dNe, List.map, List.length, List.replicate, List.append, List.cons_append, List.nil_append, dWalk, uns, un, tupNms, dNms, ifT, ifF, List.replicate_succ, List.replicate_zero, Nat.sub_self, Nat.reduceSub, Nat.reduceAdd, Nat.zero_add, Bool.not_true, Bool.not_false, e_addI, e_addS, e_addT, e_addL, e_i2, e_i2c, e_is, e_bool, e_cel, e_strD, e_lenS, e_lenT, e_lenL, e_lenC, e_ixS, e_ixT, e_ixL, e_ixC, e_slS, e_slT, e_slL, e_slC, e_itT, e_itL, e_truN, e_truI, e_truB, e_truL, e_truT, e_okN, e_okB, e_okI, e_okS, e_okL, e_okT, e_okC, e_tupN, e_tupB, e_tupI, e_tupS, e_tupL, e_tupT, e_tupC, e_strN, e_strB, e_strI, e_strS, e_strL, e_strT, e_strC, e_intN, e_intB, e_intI, e_intS, e_intL, e_intT, e_intC, e_boolN, e_boolB, e_boolI, e_boolS, e_boolL, e_boolT, e_boolC, e_lstN, e_lstB, e_lstI, e_lstS, e_lstL, e_lstT, e_lstC, e_nonN, e_nonB, e_nonI, e_nonS, e_nonL, e_nonT, e_wkS, e_wkL, e_wkT, e_wkC, e_join, e_inS, e_ninS, e_ofI, e_ofB, e_abs, e_lenF, e_ixF, e_itF, e_wkF, e_tfF, e_truF, e_repT, e_keyI, e_keyS]; try simp only [true_and, and_true, Nat.reduceLeDiff, reduceIte, reduceCtorEq, Bool.false_eq_true, if_true, if_false, not_false_eq_true, ite_true, ite_false, and_self])
      refine ⟨w, m, dp, node, rfl, rfl, ?_⟩
      have en : ((z.length : Nat) : Int).toNat = z.length := by omega
      rw [en, List.drop_of_length_le (by rw [cps_len]; exact Nat.le_refl _)] at hq
      have hq' : (if (decide (dp = 0) && (isBeh w || (isOpn w && !node))) = true then none else some z.length) = dueOf z node := hq
      cases hg : (decide (dp = 0) && (isBeh w || (isOpn w && !node))) with
      | true =>
        rw [hg, if_pos rfl] at hq'
        rw [← hq'] at q
        exact wh_mk rfl q
      | false =>
        rw [hg, if_neg Bool.false_ne_true] at hq'
        rw [← hq'] at q
        exact wh_mk rfl ⟨by omega, q⟩
end
end K3

/-! how great the texts of data are -/
namespace K1
open PySem L2
/-- a short plain text -/
structure Plain (n : Nat) (z : Str) : Prop where
  len : z.length ≤ n
  low : ∀ ch ∈ z.cps.toList, ch < 128
theorem canLay_plain {n : Nat} {z : Str} (h : Plain n z) : PyData.canLay0 (.str z) = true := by
  unfold PyData.canLay0
  show (z.cps.all fun x => decide (x < 0x110000)) = true
  rw [Array.all_eq_true']
  intro ch hc
  have := h.low ch (by simpa using hc)
  simp
  omega
structure Rp (n B : Nat) (d : PyData) : Prop where
  lay : d.canLay0 = true
  dep : d.depth ≤ n
  sh : d.showable = true
  len : d.shown.length ≤ B
theorem rp_all {n B : Nat} : ∀ (ds : List PyData), (∀ x ∈ ds, Rp n B x) → PyData.canLayAll0 ds = true ∧ PyData.depthAll ds ≤ n ∧ PyData.showableAll ds = true ∧ piled (PyData.shownAll ds) ≤ ds.length * (B + 2)
  | [], _ => by
    refine ⟨rfl, ?_, rfl, ?_⟩
    · unfold PyData.depthAll
      exact Nat.zero_le _
    · unfold PyData.shownAll
      exact Nat.zero_le _
  | x :: ds, h => by
    obtain ⟨a, b, c, e⟩ := rp_all ds fun y hy => h y (List.mem_cons_of_mem _ hy)
    have hx := h x (List.mem_cons_self ..)
    have l := hx.len
    refine ⟨?_, ?_, ?_, ?_⟩
    · unfold PyData.canLayAll0
      rw [hx.lay, a]
      rfl
    · unfold PyData.depthAll
      have := hx.dep
      omega
    · unfold PyData.showableAll
      rw [hx.sh, c]
      rfl
    · unfold PyData.shownAll
      rw [piled_cons, List.length_cons, Nat.succ_mul]
      omega
theorem join_le (ts : List Str) : (Str.join ", " ts).length ≤ piled ts := by
  by_cases h : ts = []
  · subst h
    exact Nat.zero_le _
  · have := join_length_add ts h
    omega
/-- a tuple by what its things are together -/
theorem rp_tupA {n C : Nat} {ds : List PyData} (a : PyData.canLayAll0 ds = true) (b : PyData.depthAll ds ≤ n) (c : PyData.showableAll ds = true) (e : piled (PyData.shownAll ds) ≤ C) : Rp (n + 1) (C + 3) (.tuple ds) := by
  refine ⟨?_, ?_, ?_, ?_⟩
  · unfold PyData.canLay0
    exact a
  · unfold PyData.depth
    omega
  · unfold PyData.showable
    exact c
  · unfold PyData.shown tupleText
    rw [strLen_append, strLen_append]
    have j := join_le (PyData.shownAll ds)
    have e1 : (("(" : String) : Str).length = 1 := rfl
    have e2 : ((if (PyData.shownAll ds).length == 1 then ",)" else ")" : String) : Str).length ≤ 2 := by split <;> decide
    rw [e1]
    omega
theorem rp_tup {n B : Nat} {ds : List PyData} (h : ∀ x ∈ ds, Rp n B x) : Rp (n + 1) (ds.length * (B + 2) + 3) (.tuple ds) := by
  obtain ⟨a, b, c, e⟩ := rp_all ds h
  exact rp_tupA a b c e
theorem Rp.mono {n n' B B' : Nat} {d : PyData} (h : Rp n B d) (a : n ≤ n') (b : B ≤ B') : Rp n' B' d := ⟨h.lay, Nat.le_trans h.dep a, h.sh, Nat.le_trans h.len b⟩
theorem rp_str {z : Str} (h : Plain 17 z) : Rp 0 300 (.str z) := by
  refine ⟨canLay_plain h, by unfold PyData.depth; exact Nat.le_refl _, rfl, ?_⟩
  unfold PyData.shown
  have r := StrLaws.reprText_len z fun ch hc => by
    have := h.low ch hc
    have : (128 : Nat) ≤ 16 ^ 8 := by decide
    omega
  have := h.len
  omega
theorem rp_none : Rp 0 300 .none := ⟨rfl, by unfold PyData.depth; exact Nat.le_refl _, rfl, by unfold PyData.shown; decide⟩
theorem rp_bool (b : Bool) : Rp 0 300 (.bool b) := ⟨rfl, by unfold PyData.depth; exact Nat.le_refl _, rfl, by unfold PyData.shown; cases b <;> decide⟩
theorem rp_int {i : Int} (h : i.natAbs < 1000000000) : Rp 0 300 (.int i) := by
  refine ⟨rfl, by unfold PyData.depth; exact Nat.le_refl _, ?_, ?_⟩
  · unfold PyData.showable
    have h2 : i.natAbs.log2 < 30 := by
      by_cases z : i.natAbs = 0
      · rw [z]
        decide
      · exact (Nat.log2_lt z).mpr (by omega)
    exact decide_eq_true (by omega)
  · unfold PyData.shown
    have q := int_text_length_le10 (a := i) (k := 9) (by decide) h
    show (Str.ofString (toString i)).length ≤ 300
    rw [ofString_length]
    omega
theorem Rp.ok {d : PyData} (r : Rp 150 10000000 d) : d.showable = true ∧ d.hasDict = false ∧ d.depth ≤ 150 ∧ d.shown.length ≤ sizeLine :=
  ⟨r.sh, PyData.hasDict_of_canLay _ r.lay, r.dep, by have := r.len; rw [sizeLine_eq]; omega⟩
theorem rp_ask {K : PySem.W.Frag} {H : Hp} {v : V} {d : PyData} {n B : Nat} {Q : VK} (h : Dp K H v d) (r : Rp n B d) (hn : n ≤ 150) (hB : B ≤ 10000000) (q : Q (.str d.shown) H) : Grd.rRepr K [v] H Q :=
  ⟨v, d, rfl, h, r.sh, PyData.hasDict_of_canLay _ r.lay, Nat.le_trans r.dep hn, by have := r.len; rw [sizeLine_eq]; omega, q⟩
theorem same_text (z : V) : (!decide (z = z)) = false := by simp
theorem same_textT (z : V) : decide (z = z) = true := by simp
end K1

/-! read_node, read_forest; unlike documents have unlike texts; the law's places -/
namespace K1
open PySem L2 Xr Exv
/-! unlike texts -/
theorem split34 {a b r s : List Nat} {g : Nat} (ha : g ∉ a) (hb : g ∉ b) (h : a ++ g :: r = b ++ g :: s) : a = b ∧ r = s := by
  induction a generalizing b with
  | nil =>
    cases b with
    | nil =>
      injection h with _ h
      exact ⟨rfl, h⟩
    | cons y b =>
      injection h with h1 h2
      exact absurd (by rw [h1]; simp) hb
  | cons x a ih =>
    cases b with
    | nil =>
      injection h with h1 h2
      exact absurd (by rw [← h1]; simp) ha
    | cons y b =>
      injection h with h1 h2
      obtain ⟨e1, e2⟩ := ih (fun z => ha (by simp [z])) (fun z => hb (by simp [z])) h2
      exact ⟨by rw [h1, e1], e2⟩
theorem no34 {w : Str} (h : textD (.str w) = true) : 34 ∉ w.cps.toList := fun m => by
  have e9 : textD (.str w) = (decide (w.length ≤ 16) && hasOnly w abc9) := rfl
  rw [e9, Bool.and_eq_true] at h
  unfold hasOnly at h
  have := of_decide_eq_true (List.all_eq_true.mp h.2 34 m)
  exact absurd this (by decide +kernel)
theorem name_sig {x : Str} (h : nameD (.str x) = true) : (∀ c ∈ x.cps.toList, c ∈ abc.cps.toList) ∧ x.cps.toList ≠ [] := by
  have e9 : nameD (.str x) = (decide (x.length ≠ 0) && (decide (x.length ≤ 8) && hasOnly x abc)) := rfl
  rw [e9, Bool.and_eq_true, Bool.and_eq_true] at h
  have h9 := h.2.2
  unfold hasOnly at h9
  refine ⟨fun c hc => of_decide_eq_true (List.all_eq_true.mp h9 c hc), fun e => ?_⟩
  have := cps_len x
  rw [e] at this
  exact of_decide_eq_true h.1 this.symm
mutual
theorem ch_inj : ∀ (t u : Doc) (r s : List Nat), t.ok → u.ok → t.ch ++ r = u.ch ++ s → t = u ∧ r = s
  | .txt w, .txt v, r, s, hw, hv, h => by
    have h' : 34 :: ((w.cps.toList ++ [34]) ++ r) = 34 :: ((v.cps.toList ++ [34]) ++ s) := h
    injection h' with _ h2
    rw [List.append_assoc, List.append_assoc] at h2
    obtain ⟨a, b⟩ := split34 (no34 hw) (no34 hv) h2
    rw [str_ext a]
    exact ⟨rfl, b⟩
  | .txt w, .nod y us, r, s, hw, hu, h => by
    obtain ⟨n1, n2⟩ := name_sig hu.1
    have h' : 34 :: ((w.cps.toList ++ [34]) ++ r) = (y.cps.toList ++ 40 :: ((chT us).tail ++ [41])) ++ s := h
    cases e : y.cps.toList with
    | nil => exact absurd e n2
    | cons c cs =>
      rw [e] at h'
      injection h' with h1 _
      have := n1 c (by rw [e]; simp)
      rw [← h1] at this
      exact absurd this (by decide +kernel)
  | .nod x ts, .txt v, r, s, ht, hv, h => by
    obtain ⟨n1, n2⟩ := name_sig ht.1
    have h' : (x.cps.toList ++ 40 :: ((chT ts).tail ++ [41])) ++ r = 34 :: ((v.cps.toList ++ [34]) ++ s) := h
    cases e : x.cps.toList with
    | nil => exact absurd e n2
    | cons c cs =>
      rw [e] at h'
      injection h' with h1 _
      have := n1 c (by rw [e]; simp)
      rw [h1] at this
      exact absurd this (by decide +kernel)
  | .nod x ts, .nod y us, r, s, ht, hu, h => by
    obtain ⟨n1, n2⟩ := name_sig ht.1
    obtain ⟨m1, m2⟩ := name_sig hu.1
    have h' : x.cps.toList ++ 40 :: ((chT ts).tail ++ 41 :: r) = y.cps.toList ++ 40 :: ((chT us).tail ++ 41 :: s) := by
      have h0 : (x.cps.toList ++ 40 :: ((chT ts).tail ++ [41])) ++ r = (y.cps.toList ++ 40 :: ((chT us).tail ++ [41])) ++ s := h
      simpa using h0
    have f1 : 40 ∉ x.cps.toList := fun m => absurd (n1 40 m) (by decide +kernel)
    have f2 : 40 ∉ y.cps.toList := fun m => absurd (m1 40 m) (by decide +kernel)
    obtain ⟨a, b⟩ := split34 f1 f2 h'
    obtain ⟨c, d⟩ := chL_inj ts us r s ht.2 hu.2 b
    rw [str_ext a, c]
    exact ⟨rfl, d⟩
theorem chL_inj : ∀ (ts us : List Doc) (r s : List Nat), okD ts → okD us → (chT ts).tail ++ 41 :: r = (chT us).tail ++ 41 :: s → ts = us ∧ r = s
  | [], [], r, s, _, _, h => by
    have h' : 41 :: r = 41 :: s := h
    injection h' with _ h2
    exact ⟨rfl, h2⟩
  | [], u :: us, r, s, _, hu, h => by
    have h' : 41 :: r = (u.ch ++ chT us) ++ 41 :: s := h
    exact absurd (first_not41 u hu.1 _ _ (by rw [List.append_assoc] at h'; exact h'.symm)) id
  | t :: ts, [], r, s, ht, _, h => by
    have h' : (t.ch ++ chT ts) ++ 41 :: r = 41 :: s := h
    exact absurd (first_not41 t ht.1 _ _ (by rw [List.append_assoc] at h'; exact h')) id
  | t :: ts, u :: us, r, s, ht, hu, h => by
    have h' : t.ch ++ (chT ts ++ 41 :: r) = u.ch ++ (chT us ++ 41 :: s) := by
      have h0 : (t.ch ++ chT ts) ++ 41 :: r = (u.ch ++ chT us) ++ 41 :: s := h
      rw [List.append_assoc, List.append_assoc] at h0
      exact h0
    obtain ⟨a, b⟩ := ch_inj t u _ _ ht.1 hu.1 h'
    obtain ⟨c, d⟩ := chR_inj ts us r s ht.2 hu.2 b
    rw [a, c]
    exact ⟨rfl, d⟩
theorem chR_inj : ∀ (ts us : List Doc) (r s : List Nat), okD ts → okD us → chT ts ++ 41 :: r = chT us ++ 41 :: s → ts = us ∧ r = s
  | [], [], r, s, _, _, h => by
    have h' : 41 :: r = 41 :: s := h
    injection h' with _ h2
    exact ⟨rfl, h2⟩
  | [], u :: us, r, s, _, _, h => by
    have h' : 41 :: r = 32 :: ((u.ch ++ chT us) ++ 41 :: s) := h
    injection h' with h1 _
    cases h1
  | t :: ts, [], r, s, _, _, h => by
    have h' : 32 :: ((t.ch ++ chT ts) ++ 41 :: r) = 41 :: s := h
    injection h' with h1 _
    cases h1
  | t :: ts, u :: us, r, s, ht, hu, h => by
    have h' : 32 :: ((t.ch ++ chT ts) ++ 41 :: r) = 32 :: ((u.ch ++ chT us) ++ 41 :: s) := h
    injection h' with _ h2
    rw [List.append_assoc, List.append_assoc] at h2
    obtain ⟨a, b⟩ := ch_inj t u _ _ ht.1 hu.1 h2
    obtain ⟨c, d⟩ := chR_inj ts us r s ht.2 hu.2 b
    rw [a, c]
    exact ⟨rfl, d⟩
theorem first_not41 : ∀ (t : Doc), t.ok → ∀ (r s : List Nat), t.ch ++ r = 41 :: s → False
  | .txt w, _, r, s, h => by
    have h' : 34 :: ((w.cps.toList ++ [34]) ++ r) = 41 :: s := h
    injection h' with h1 _
    cases h1
  | .nod x ts, ht, r, s, h => by
    obtain ⟨n1, n2⟩ := name_sig ht.1
    have h' : (x.cps.toList ++ 40 :: ((chT ts).tail ++ [41])) ++ r = 41 :: s := h
    cases e : x.cps.toList with
    | nil => exact absurd e n2
    | cons c cs =>
      rw [e] at h'
      injection h' with h1 _
      have := n1 c (by rw [e]; simp)
      rw [h1] at this
      exact absurd this (by decide +kernel)
end
theorem tx_inj {t u : Doc} (ht : t.ok) (hu : u.ok) (h : t.tx = u.tx) : t = u := by
  have e : t.ch = u.ch := by
    have := congrArg (fun z : Str => z.cps.toList) h
    show t.ch = u.ch
    rw [← strOf_cps t.ch, ← strOf_cps u.ch]
    exact this
  exact (ch_inj t u [] [] ht hu (by rw [e])).1
mutual
theorem eqv_doc : ∀ t u : Doc, (PyData.eqv t.dat u.dat = true ↔ t = u)
  | .txt w, .txt v => by
    show (w == v) = true ↔ _
    rw [beq_iff_eq]
    exact ⟨fun e => by rw [e], fun e => by injection e⟩
  | .txt w, .nod y us => ⟨fun h => Bool.noConfusion (show false = true from h), fun e => nomatch e⟩
  | .nod x ts, .txt v => ⟨fun h => Bool.noConfusion (show false = true from h), fun e => nomatch e⟩
  | .nod x ts, .nod y us => by
    have ih := eqv_docs ts us
    show ((x == y) && (PyData.eqvAll (datAll ts) (datAll us) && true)) = true ↔ _
    rw [Bool.and_true, Bool.and_eq_true, beq_iff_eq, ih]
    exact ⟨fun e => by rw [e.1, e.2], fun e => by injection e with a b; exact ⟨a, b⟩⟩
theorem eqv_docs : ∀ ts us : List Doc, (PyData.eqvAll (datAll ts) (datAll us) = true ↔ ts = us)
  | [], [] => ⟨fun _ => rfl, fun _ => rfl⟩
  | [], u :: us => ⟨fun h => Bool.noConfusion (show false = true from h), fun e => nomatch e⟩
  | t :: ts, [] => ⟨fun h => Bool.noConfusion (show false = true from h), fun e => nomatch e⟩
  | t :: ts, u :: us => by
    have a := eqv_doc t u
    have b := eqv_docs ts us
    show (PyData.eqv t.dat u.dat && PyData.eqvAll (datAll ts) (datAll us)) = true ↔ _
    rw [Bool.and_eq_true, a, b]
    exact ⟨fun e => by rw [e.1, e.2], fun e => by injection e with a b; exact ⟨a, b⟩⟩
end
/-! how great the texts of data are -/
theorem plain_of {n : Nat} {z g : Str} (h : hasOnly z g = true) (l : z.length ≤ n) (hg : (g.cps.toList.all fun c => decide (c < 128)) = true) : Plain n z := ⟨l, fun ch hc => by
  unfold hasOnly at h
  exact of_decide_eq_true (List.all_eq_true.mp hg ch (of_decide_eq_true (List.all_eq_true.mp h ch hc)))⟩
theorem plain_txt {z : Str} (h : textD (.str z) = true) : Plain 17 z := by
  have e9 : textD (.str z) = (decide (z.length ≤ 16) && hasOnly z abc9) := rfl
  rw [e9, Bool.and_eq_true] at h
  exact plain_of h.2 (by have := of_decide_eq_true h.1; omega) (by decide +kernel)
theorem plain_name {z : Str} (h : nameD (.str z) = true) : Plain 17 z := by
  have e9 : nameD (.str z) = (decide (z.length ≠ 0) && (decide (z.length ≤ 8) && hasOnly z abc)) := rfl
  rw [e9, Bool.and_eq_true, Bool.and_eq_true] at h
  exact plain_of h.2.2 (by have := of_decide_eq_true h.2.1; omega) (by decide +kernel)
mutual
theorem rp_doc : ∀ t : Doc, t.ok → Rp (2 * t.hgt) (1000 * t.cnt - 2) t.dat
  | .txt z, h => by
    show Rp (2 * 0) (1000 * 1 - 2) (.str z)
    exact (rp_str (plain_txt h)).mono (by decide) (by decide)
  | .nod x ts, h => by
    obtain ⟨a, b, c, e⟩ := rp_docs ts h.2
    have r1 := rp_tupA a b c e
    have rx := rp_str (plain_name h.1)
    show Rp (2 * (1 + hgtD ts)) (1000 * (1 + cntD ts) - 2) (.tuple [.str x, .tuple (datAll ts)])
    have r2 : Rp (2 * hgtD ts + 1 + 1) (302 + (1000 * cntD ts + 3 + 2) + 3) (.tuple [.str x, .tuple (datAll ts)]) := by
      refine rp_tupA ?_ ?_ ?_ ?_
      · unfold PyData.canLayAll0 PyData.canLayAll0 PyData.canLayAll0
        rw [rx.lay, r1.lay]
        rfl
      · unfold PyData.depthAll PyData.depthAll PyData.depthAll
        have h1 := rx.dep
        have h2 := r1.dep
        omega
      · unfold PyData.showableAll PyData.showableAll PyData.showableAll
        rw [rx.sh, r1.sh]
        rfl
      · unfold PyData.shownAll PyData.shownAll PyData.shownAll
        rw [piled_cons, piled_cons]
        have h1 := rx.len
        have h2 := r1.len
        have e0 : piled [] = 0 := rfl
        rw [e0]
        omega
    exact r2.mono (by omega) (by omega)
theorem rp_docs : ∀ ts : List Doc, okD ts → PyData.canLayAll0 (datAll ts) = true ∧ PyData.depthAll (datAll ts) ≤ 2 * hgtD ts ∧ PyData.showableAll (datAll ts) = true ∧ piled (PyData.shownAll (datAll ts)) ≤ 1000 * cntD ts
  | [], _ => by
    refine ⟨rfl, ?_, rfl, ?_⟩
    · unfold datAll PyData.depthAll
      exact Nat.zero_le _
    · unfold datAll PyData.shownAll
      exact Nat.zero_le _
  | t :: ts, h => by
    obtain ⟨a, b, c, e⟩ := rp_docs ts h.2
    have r := rp_doc t h.1
    have mp := cnt_pos t
    refine ⟨?_, ?_, ?_, ?_⟩
    · show PyData.canLayAll0 (t.dat :: datAll ts) = true
      unfold PyData.canLayAll0
      rw [r.lay, a]
      rfl
    · show PyData.depthAll (t.dat :: datAll ts) ≤ 2 * max t.hgt (hgtD ts)
      unfold PyData.depthAll
      have := r.dep
      omega
    · show PyData.showableAll (t.dat :: datAll ts) = true
      unfold PyData.showableAll
      rw [r.sh, c]
      rfl
    · show piled (PyData.shownAll (t.dat :: datAll ts)) ≤ 1000 * (t.cnt + cntD ts)
      unfold PyData.shownAll
      rw [piled_cons]
      have := r.len
      omega
end
theorem txAll_one (t : Doc) : txAll [t] = t.tx := by
  unfold txAll
  show strOf (t.ch ++ []) = _
  rw [List.append_nil]
  rfl

end K1

/-! how deep brackets go; where a fault lies -/
namespace K3
open PySem L2 Xr K1
theorem due_le {node : Bool} : ∀ (cs : List Nat) (w : W5) (m dp p e : Nat), due node cs w m dp p = some e → e ≤ p + cs.length
  | [], w, m, dp, p, e, h => by
    have h' : (if (decide (dp = 0) && (isBeh w || (isOpn w && !node))) = true then none else some p) = some e := h
    split at h'
    · cases h'
    · cases h'
      exact Nat.le_refl _
  | c :: cs, w, m, dp, p, e, h => by
    cases hn : nxt node w m dp c with
    | none =>
      rw [due_stop hn] at h
      cases h
      omega
    | some q =>
      obtain ⟨w', m', dp'⟩ := q
      rw [due_cons hn] at h
      have := due_le cs w' m' dp' (p + 1) e h
      rw [List.length_cons]
      omega
theorem txAll_inj {ts us : List Doc} (ht : okD ts) (hu : okD us) (h : txAll ts = txAll us) : ts = us := by
  have h2 : (chT ts).tail = (chT us).tail := by
    have := congrArg (fun z : Str => z.cps.toList) h
    unfold txAll at this
    simpa only [strOf_cps] using this
  exact (chL_inj ts us [] [] ht hu (by rw [h2])).1
/-- one sign -/
def stp (d c : Nat) : Nat := if c = 40 then d + 1 else if c = 41 then d - 1 else d
def fin : List Nat → Nat → Nat
  | [], d => d
  | c :: cs, d => fin cs (stp d c)
/-- the greatest depth -/
def dpx : List Nat → Nat → Nat
  | [], d => d
  | c :: cs, d => max d (dpx cs (stp d c))
def c40 (cs : List Nat) : Nat := (cs.filter fun c => decide (c = 40)).length
theorem dpx_ge : ∀ (cs : List Nat) (d : Nat), d ≤ dpx cs d
  | [], d => Nat.le_refl _
  | c :: cs, d => Nat.le_max_left _ _
theorem fin_le : ∀ (cs : List Nat) (d : Nat), fin cs d ≤ dpx cs d
  | [], d => Nat.le_refl _
  | c :: cs, d => Nat.le_trans (fin_le cs _) (Nat.le_max_right _ _)
theorem stp_lip {d d' k c : Nat} (h : d ≤ d' + k) : stp d c ≤ stp d' c + k := by
  unfold stp
  by_cases h1 : c = 40
  · rw [if_pos h1, if_pos h1]; omega
  · rw [if_neg h1, if_neg h1]
    by_cases h2 : c = 41
    · rw [if_pos h2, if_pos h2]; omega
    · rw [if_neg h2, if_neg h2]; exact h
theorem dpx_lip : ∀ (cs : List Nat) {d d' k : Nat}, d ≤ d' + k → dpx cs d ≤ dpx cs d' + k
  | [], d, d', k, h => h
  | c :: cs, d, d', k, h => by
    have := dpx_lip cs (stp_lip (c := c) h)
    show max d (dpx cs (stp d c)) ≤ max d' (dpx cs (stp d' c)) + k
    omega
theorem fin_app : ∀ (xs ys : List Nat) (d : Nat), fin (xs ++ ys) d = fin ys (fin xs d)
  | [], _, _ => rfl
  | x :: xs, ys, d => fin_app xs ys (stp d x)
theorem dpx_app : ∀ (xs ys : List Nat) (d : Nat), dpx (xs ++ ys) d = max (dpx xs d) (dpx ys (fin xs d))
  | [], ys, d => by
    show dpx ys d = max d (dpx ys d)
    have := dpx_ge ys d
    omega
  | x :: xs, ys, d => by
    show max d (dpx (xs ++ ys) (stp d x)) = max (max d (dpx xs (stp d x))) (dpx ys (fin xs (stp d x)))
    rw [dpx_app xs ys]
    omega
theorem c40_cons (c : Nat) (cs : List Nat) : c40 (c :: cs) = (if c = 40 then 1 else 0) + c40 cs := by
  unfold c40
  by_cases h : c = 40
  · rw [if_pos h, List.filter_cons_of_pos (by rw [h]; rfl), List.length_cons]; omega
  · rw [if_neg h, List.filter_cons_of_neg (by simpa using h)]; omega
theorem c40_app (xs ys : List Nat) : c40 (xs ++ ys) = c40 xs + c40 ys := by
  unfold c40
  rw [List.filter_append, List.length_append]
theorem dpx_c40 : ∀ (cs : List Nat) (d : Nat), dpx cs d ≤ d + c40 cs
  | [], d => by show d ≤ d + 0; omega
  | c :: cs, d => by
    have h := dpx_c40 cs (stp d c)
    rw [c40_cons]
    show max d (dpx cs (stp d c)) ≤ _
    have h2 : stp d c ≤ d + (if c = 40 then 1 else 0) := by
      unfold stp
      by_cases h1 : c = 40
      · rw [if_pos h1, if_pos h1]; omega
      · rw [if_neg h1, if_neg h1]
        by_cases h2 : c = 41
        · rw [if_pos h2]; omega
        · rw [if_neg h2]; omega
    omega
theorem c40_len : ∀ cs : List Nat, c40 cs ≤ cs.length := fun cs => List.length_filter_le _ _
/-- something put in -/
theorem dpx_ins (xs ins ys : List Nat) : dpx (xs ++ ins ++ ys) 0 ≤ dpx (xs ++ ys) 0 + c40 ins := by
  rw [dpx_app, dpx_app, dpx_app]
  have h1 := fin_le xs 0
  have h2 := dpx_c40 ins (fin xs 0)
  have h3 : fin (xs ++ ins) 0 ≤ fin xs 0 + c40 ins := by
    rw [fin_app]
    exact Nat.le_trans (fin_le _ _) h2
  have h4 := dpx_lip ys h3
  omega
/-- a sign taken out -/
theorem dpx_del (xs : List Nat) (c : Nat) (ys : List Nat) : dpx (xs ++ ys) 0 ≤ dpx (xs ++ c :: ys) 0 + 1 := by
  rw [dpx_app, dpx_app]
  have h : fin xs 0 ≤ stp (fin xs 0) c + 1 := by
    unfold stp
    by_cases h1 : c = 40
    · rw [if_pos h1]; omega
    · rw [if_neg h1]
      by_cases h2 : c = 41
      · rw [if_pos h2]; omega
      · rw [if_neg h2]; omega
  have h2 := dpx_lip ys h
  show max _ _ ≤ max _ (max _ (dpx ys (stp (fin xs 0) c))) + 1
  omega
theorem dpx_pre (xs ys : List Nat) : dpx xs 0 ≤ dpx (xs ++ ys) 0 := by
  rw [dpx_app]
  omega
theorem plain_run : ∀ (cs : List Nat) (d : Nat), (∀ c ∈ cs, c ≠ 40 ∧ c ≠ 41) → fin cs d = d ∧ dpx cs d = d
  | [], d, _ => ⟨rfl, rfl⟩
  | c :: cs, d, h => by
    obtain ⟨h1, h2⟩ := h c List.mem_cons_self
    have e : stp d c = d := by
      unfold stp
      rw [if_neg h1, if_neg h2]
    obtain ⟨a, b⟩ := plain_run cs d fun x hx => h x (List.mem_cons_of_mem _ hx)
    refine ⟨?_, ?_⟩
    · show fin cs (stp d c) = d
      rw [e]; exact a
    · show max d (dpx cs (stp d c)) = d
      rw [e, b]; omega
theorem sig_text {w : Str} (h : textD (.str w) = true) : ∀ c ∈ w.cps.toList, c ≠ 40 ∧ c ≠ 41 := fun c hc => by
  have e : textD (.str w) = (decide (w.length ≤ 16) && hasOnly w abc9) := rfl
  rw [e, Bool.and_eq_true] at h
  unfold hasOnly at h
  have := of_decide_eq_true (List.all_eq_true.mp h.2 c hc)
  refine ⟨?_, ?_⟩ <;> (intro e; rw [e] at this; exact absurd this (by decide +kernel))
theorem sig_name {w : Str} (h : nameD (.str w) = true) : ∀ c ∈ w.cps.toList, c ≠ 40 ∧ c ≠ 41 := fun c hc => by
  have := (name_sig h).1 c hc
  refine ⟨?_, ?_⟩ <;> (intro e; rw [e] at this; exact absurd this (by decide +kernel))
mutual
theorem ch_run : ∀ (t : Doc) (d : Nat), t.ok → fin t.ch d = d ∧ dpx t.ch d = d + t.hgt
  | .txt w, d, h => plain_run _ d fun c hc => by
    have hc' : c ∈ 34 :: (w.cps.toList ++ [34]) := hc
    simp only [List.mem_cons, List.mem_append, List.not_mem_nil, or_false] at hc'
    rcases hc' with e | e | e
    · rw [e]; exact ⟨by decide, by decide⟩
    · exact sig_text h c e
    · rw [e]; exact ⟨by decide, by decide⟩
  | .nod x ts, d, h => by
    obtain ⟨a, b⟩ := plain_run x.cps.toList d (sig_name h.1)
    obtain ⟨a2, b2⟩ := chT_run ts (d + 1) h.2
    have e : (Doc.nod x ts).ch = x.cps.toList ++ (40 :: ((chT ts).tail ++ [41])) := rfl
    have e3 : fin [41] (d + 1) = d := rfl
    have e4 : dpx [41] (d + 1) = d + 1 := by
      show max (d + 1) d = d + 1
      omega
    have s1 : stp d 40 = d + 1 := rfl
    rw [e, fin_app, dpx_app, a, b]
    refine ⟨?_, ?_⟩
    · show fin ((chT ts).tail ++ [41]) (stp d 40) = d
      rw [s1, fin_app, a2, e3]
    · show max d (max d (dpx ((chT ts).tail ++ [41]) (stp d 40))) = d + (1 + hgtD ts)
      rw [s1, dpx_app, a2, b2, e4]
      omega
theorem chT_run : ∀ (ts : List Doc) (d : Nat), okD ts → fin (chT ts).tail d = d ∧ dpx (chT ts).tail d = d + hgtD ts
  | [], d, _ => ⟨rfl, rfl⟩
  | t :: ts, d, h => by
    obtain ⟨a, b⟩ := ch_run t d h.1
    obtain ⟨a2, b2⟩ := chT_run2 ts d h.2
    show fin (t.ch ++ chT ts) d = d ∧ dpx (t.ch ++ chT ts) d = d + max t.hgt (hgtD ts)
    rw [fin_app, dpx_app, a, b, a2, b2]
    exact ⟨rfl, by omega⟩
theorem chT_run2 : ∀ (ts : List Doc) (d : Nat), okD ts → fin (chT ts) d = d ∧ dpx (chT ts) d = d + hgtD ts
  | [], d, _ => ⟨rfl, rfl⟩
  | t :: ts, d, h => by
    obtain ⟨a, b⟩ := ch_run t d h.1
    obtain ⟨a2, b2⟩ := chT_run2 ts d h.2
    show fin (t.ch ++ chT ts) d = d ∧ max d (dpx (t.ch ++ chT ts) d) = d + max t.hgt (hgtD ts)
    rw [fin_app, dpx_app, a, b, a2, b2]
    exact ⟨rfl, by omega⟩
end
mutual
theorem cnt_ch : ∀ t : Doc, t.cnt ≤ t.ch.length
  | .txt w => by
    show 1 ≤ (34 :: (w.cps.toList ++ [34])).length
    rw [List.length_cons]
    omega
  | .nod x ts => by
    have h := cnt_chT ts
    show 1 + cntD ts ≤ (x.cps.toList ++ 40 :: ((chT ts).tail ++ [41])).length
    rw [List.length_append, List.length_cons, List.length_append, List.length_tail]
    have e : ([41] : List Nat).length = 1 := rfl
    rw [e]
    omega
theorem cnt_chT : ∀ ts : List Doc, cntD ts ≤ (chT ts).length
  | [] => Nat.le_refl _
  | t :: ts => by
    have a := cnt_ch t
    have b := cnt_chT ts
    show t.cnt + cntD ts ≤ (32 :: (t.ch ++ chT ts)).length
    rw [List.length_cons, List.length_append]
    omega
end
/-- of so many signs, so deep -/
structure Bnd2 (z : Str) (l n : Nat) : Prop where
  ln : z.length ≤ l
  dp : dpx z.cps.toList 0 ≤ n
theorem Bnd2.docs {z : Str} {l n : Nat} (b : Bnd2 z l n) (hl : l ≤ 880) {ts : List Doc} (ho : okD ts) (h : z = txAll ts) : cntD ts ≤ 900 ∧ hgtD ts ≤ n := by
  have e : z.cps.toList = (chT ts).tail := by
    rw [h]
    exact strOf_cps _
  have h1 := cnt_chT ts
  have h2 := (chT_run ts 0 ho).2
  have h3 := b.dp
  rw [e, h2] at h3
  have h4 := b.ln
  rw [← cps_len, e, List.length_tail] at h4
  omega
theorem Bnd2.mono {z : Str} {l n l' n' : Nat} (b : Bnd2 z l n) (h : l ≤ l') (h2 : n ≤ n') : Bnd2 z l' n' := ⟨Nat.le_trans b.ln h, Nat.le_trans b.dp h2⟩
end K3

/-! of the law: what is written of documents -/
namespace K1
open PySem L2 Xr Exv
abbrev sWritten : Stmt := top 34
theorem scWritten : FnScope ["thing"] ["thing"] (defScope sWritten) := ⟨rfl, rfl, rfl, by decide +kernel, rfl, by decide +kernel, by decide +kernel⟩
abbrev sRowW : Stmt := top 35
theorem scRowW : FnScope ["things", "thing"] ["things"] (defScope sRowW) := ⟨rfl, rfl, rfl, by decide +kernel, rfl, by decide +kernel, by decide +kernel⟩
def spWritten (K : PySem.W.Frag) (n : Nat) : Sp := fun vs H Q _ => ∃ (v : V) (t : Doc) (N : Addr → Prop), vs = [v] ∧ Dm K N H v t.dat ∧ t.ok ∧ t.cnt ≤ 900 ∧ t.hgt ≤ n ∧ ∀ H', Same H H' → Q (.str t.tx) H'
def spRowW (K : PySem.W.Frag) (n : Nat) : Sp := fun vs H Q _ => ∃ (v : V) (ts : List Doc) (N : Addr → Prop), vs = [v] ∧ Dm K N H v (.tuple (datAll ts)) ∧ okD ts ∧ cntD ts ≤ 900 ∧ hgtD ts ≤ n ∧ ∀ H', Same H H' → Q (.str (txAll ts)) H'
structure LawWTxt (K : PySem.W.Frag) (mg : Str → Option Value) (a_law_written a_law_row_written : Addr) : Prop where
  n_isinstance : mg "isinstance" = none
  n_tuple : mg "tuple" = none
  n_str : mg "str" = none
  g_law_written : mg "_law_written" = some (.ref a_law_written)
  k_law_written : PySem.W.keepIn K (.ref a_law_written) = true
  g_law_row_written : mg "_law_row_written" = some (.ref a_law_row_written)
  k_law_row_written : PySem.W.keepIn K (.ref a_law_row_written) = true
section
variable {P : Program} {w : World} {K : PySem.W.Frag} {mg : Str → Option Value} {base : Heap} {a_law_written a_law_row_written : Addr} {fdR fdW : FuncData}
theorem ok_written0 {fd : FuncData} (n : Nat) (F : Fun K "_law_written" "_law_written" sWritten a_law_written fd) (T : LawWTxt K mg a_law_written a_law_row_written)
    (b_law_row_written : Binds K fdR ["things"] []) (R : ∀ m, n = m + 1 → FnOk P w K mg base CX0 (2 + 2 * m) a_law_row_written fdR ["things"] (spRowW K m)) : FnOk P w K mg base CX0 (1 + 2 * n) a_law_written fd ["thing"] (spWritten K n) := by
  have e54 : 1 + 2 * n = 2 * n + 1 := by omega
  rw [e54]
  refine F.ok scWritten (fun vs H Q E h => ?_) (fun cdv A outer s H vs Q E hr h => ?_)
  · obtain ⟨v, t, N, rfl, _⟩ := h
    rfl
  · obtain ⟨v, t, N, rfl, hv, ho, hc, hg, k⟩ := h
    have l1 : (Str.ofString "\"").length = 1 := by decide +kernel
    cases n with
    | zero =>
      refine ⟨_, pss_cons (ps_if (pt_val (pe_callB call_isi (by rfl) T.n_isinstance (by decide +kernel) (pa_cons (pv 0) (pa_cons (pe_bltn (v := V.ty "str") (u := .type "str") (by rfl) T.n_str (by decide +kernel) (by rfl)) pa_nil))))
        (pss_one (ps_ret (pe_op op_add_str (pe_op op_add_str pe_str (pv 0)) pe_str))) pss_nil) pss_never, ?_⟩
      cases t with
      | nod x ts =>
        have z : 1 + hgtD ts ≤ 0 := hg
        omega
      | txt z =>
        have ev := hv.strV
        subst ev
        obtain ⟨sz, lz⟩ := text_facts (show textD (.str z) = true from ho)
        refine ⟨_, rfl, _, _, _, _, true, rfl, .ty "str", .base (.str z), kit_ty (by decide +kernel), _, rfl, iteT ?_⟩
        refine ⟨_, rfl, _, _, rfl, rfl, (by rw [sizeLine_eq, l1]; omega), _, _, rfl, rfl, (by rw [sizeLine_eq, strLen_append, l1]; omega), ?_⟩
        rw [tx_txt]
        exact k _ (Same.refl H)
    | succ m =>
      have G_law_row_written := R m rfl
      have hrR : Room (2 + 2 * m) _ := hr.mono (by omega)
      refine ⟨_, (pss_cons (ps_if (pt_val (pe_callB call_isi (by rfl) T.n_isinstance (by decide +kernel) (pa_cons (pv 0) (pa_cons (pe_bltn (v := V.ty "str") (u := .type "str") (by rfl) T.n_str (by decide +kernel) (by rfl)) pa_nil))))
      (pss_one (ps_ret (pe_op op_add_str (pe_op op_add_str pe_str (pv 0)) pe_str)))
      pss_nil)
      (pss_one (ps_ret (pe_op op_add_str (pe_op op_add_str (pe_op op_add_str (pe_ix ix_tup (pv 0) pe_int (fun _ _ => rfl)) pe_str) (pe_call G_law_row_written hrR rfl T.g_law_row_written T.k_law_row_written b_law_row_written .nil pass0 (pa_cons (pe_ix ix_tup (pv 0) pe_int (fun _ _ => rfl)) pa_nil))) pe_str)))), ?_⟩
      refine ⟨_, rfl, _, _, _, _, _, rfl, .ty "str", hv.ty, kit_str t.dat, _, rfl, ?_⟩
      cases t with
      | txt z =>
        have ev := hv.strV
        subst ev
        obtain ⟨sz, lz⟩ := text_facts (show textD (.str z) = true from ho)
        refine iteT ⟨_, rfl, _, _, rfl, rfl, (by rw [sizeLine_eq, l1]; omega), _, _, rfl, rfl, (by rw [sizeLine_eq, strLen_append, l1]; omega), ?_⟩
        rw [tx_txt]
        exact k _ (Same.refl H)
      | nod x ts =>
        obtain ⟨b, y1, rfl, tb, dy1⟩ := hv.nod
        obtain ⟨sx, lx⟩ := name_facts ho.1
        have ecx : (Doc.nod x ts).cnt = 1 + cntD ts := rfl
        have egx : (Doc.nod x ts).hgt = 1 + hgtD ts := rfl
        have lT : (txAll ts).length ≤ 21 * cntD ts := by
          unfold txAll
          rw [strOf_len, List.length_tail]
          have := chT_len ts ho.2
          omega
        have l2 : (Str.ofString "(").length = 1 := by decide +kernel
        have l3 : (Str.ofString ")").length = 1 := by decide +kernel
        refine iteF ⟨_, rfl, _, _, _, _, rfl, rfl, tb.sq, atI_nat (j := 0) rfl, _, _, rfl, rfl, (by rw [sizeLine_eq, l2]; omega), _, rfl, _, _, _, _, rfl, rfl, tb.sq, atI_nat (j := 1) rfl, y1, ts, N, rfl, dy1, ho.2, by omega, by omega, fun H2 s2 => ?_⟩
        refine ⟨_, _, rfl, rfl, (by rw [sizeLine_eq, strLen_append, l2]; omega), _, _, rfl, rfl, (by rw [sizeLine_eq, strLen_append, strLen_append, l2, l3]; omega), ?_⟩
        rw [tx_nod]
        exact k _ s2
theorem ok_rowW0 {fd : FuncData} (n : Nat) (F : Fun K "_law_row_written" "_law_row_written" sRowW a_law_row_written fd) (T : LawWTxt K mg a_law_written a_law_row_written)
    (b_law_written : Binds K fdW ["thing"] []) (G_law_written : FnOk P w K mg base CX0 (1 + 2 * n) a_law_written fdW ["thing"] (spWritten K n)) : FnOk P w K mg base CX0 (2 + 2 * n) a_law_row_written fd ["things"] (spRowW K n) := by
  have e54 : 2 + 2 * n = 1 + 2 * n + 1 := by omega
  rw [e54]
  refine F.ok scRowW (fun vs H Q E h => ?_) (fun cdv A outer s H vs Q E hr h => ?_)
  · obtain ⟨v, ts, N, rfl, _⟩ := h
    rfl
  · obtain ⟨v, ts, N, rfl, hv, ho, hc, hg, k⟩ := h
    refine ⟨_, (pss_one (ps_ret (pe_join pe_str (pe_lc (own := [("thing", 1)]) (g := gName 1) (tt := tYes) (by rfl) scRowW.nd (pi_tup (pv 0)) (blkOk_by (own := [("thing", 1)]) (N := ["things", "thing"]) (sc := defScope sRowW) (by decide +kernel)) (fun _ _ _ _ _ => pg_name (i := 1) scRowW.nd rfl (Or.inl rfl)) (fun _ _ _ _ _ => pts_nil) (fun _ _ _ _ _ => (pe_call G_law_written hr rfl T.g_law_written T.k_law_written b_law_written .nil pass0 (pa_cons (pv 1) pa_nil))))))), ?_⟩
    obtain ⟨a, xs, rfl, ta, al⟩ := hv.seq
    have lx := al.len
    rw [datAll_length] at lx
    have lt := cntD_len ts
    refine ⟨⟨_, rfl⟩, _, rfl, a, rfl, ⟨_, ta.sq⟩, fun D hD => ?_⟩
    refine lc_tup (K := K) (a := a) (xs := xs) (fun i H1 => Same H H1 ∧ H1 D = some (.lst ((ts.take i).map fun t => V.str t.tx))) ⟨(Same.refl H).new hD, by rw [upd_same]; rfl⟩ (fun i H1 _ ⟨s1, _⟩ => (ta.up (Bt.same s1)).sq) ?_ ?_
    · rintro i y H1 hy ⟨s1, h1⟩
      obtain ⟨d, hd, dv⟩ := al.getV hy
      rw [datAll_map, List.getElem?_map] at hd
      cases et : ts[i]? with
      | none => rw [et] at hd; cases hd
      | some t =>
        rw [et] at hd
        have ed := Option.some.inj hd
        subst ed
        have mem : t ∈ ts := List.mem_of_getElem? et
        have il : i < ts.length := (List.getElem?_eq_some_iff.mp et).1
        have cm := cntD_mem mem
        have gm := hgtD_mem mem
        refine ⟨rfl, _, rfl, y, t, N, rfl, dv.up (Bt.same s1), okD_mem ho mem, by omega, by omega, fun H2 s2 => ⟨_, s2 _ _ h1, smallM (by rw [List.length_map, List.length_take]; omega), (s1.trans s2).cell hD, ?_⟩⟩
        rw [upd_same, take_snoc et, List.map_append]
        rfl
    · rintro H1 ⟨s1, h1⟩
      rw [lx, List.take_length] at h1
      have ls := sum_tx ts ho
      have l3 : (Str.ofString " ").length = 1 := by decide +kernel
      refine ⟨_, D, ts.map Doc.tx, rfl, rfl, .inl (SqL.of (by rw [h1, List.map_map]; rfl)), (by rw [List.length_map, l3]; omega), ?_⟩
      rw [join_tx]
      exact k _ s1
theorem ok_bothW {fdW fdR : FuncData} (FW : Fun K "_law_written" "_law_written" sWritten a_law_written fdW) (FR : Fun K "_law_row_written" "_law_row_written" sRowW a_law_row_written fdR) (T : LawWTxt K mg a_law_written a_law_row_written)
    (bW : Binds K fdW ["thing"] []) (bR : Binds K fdR ["things"] []) : ∀ n : Nat, FnOk P w K mg base CX0 (1 + 2 * n) a_law_written fdW ["thing"] (spWritten K n) ∧ FnOk P w K mg base CX0 (2 + 2 * n) a_law_row_written fdR ["things"] (spRowW K n)
  | 0 => by
    have a := ok_written0 (P := P) (w := w) (base := base) 0 FW T bR (fun m h => absurd h (by omega))
    exact ⟨a, ok_rowW0 0 FR T bW a⟩
  | n + 1 => by
    have ih := ok_bothW FW FR T bW bR n
    have a := ok_written0 (n + 1) FW T bR (fun m h => by
      have e : m = n := by omega
      rw [e]
      exact ih.2)
    exact ⟨a, ok_rowW0 (n + 1) FR T bW a⟩
end
end K1

/-! the plain layer: older promises of texts, names, documents -/
namespace K3
open PySem L2 Xr K1
def spLTextD : SpD := fun ds S Q _ => ∃ n k, ds = [cel n] ∧ DealD S n k ∧ ∀ z S', textD (.str z) = true → MvD n k S S' → Q (.str z) S'
theorem ltext_imp {K : PySem.W.Frag} : ∀ vs H Q E, spD K spLTextD vs H Q E → spLText vs H Q E := fun vs H Q E ⟨m, S, ds, Qd, Ed, w, dv, q, kq, _⟩ => by
  obtain ⟨n, k, rfl, D, h⟩ := q
  obtain ⟨x, rfl, dx⟩ := dv1 dv
  obtain ⟨d, c, hd, hc, DA⟩ := D.at w
  obtain ⟨d', rfl, hd'⟩ := celN_dv dx rfl
  rw [hd] at hd'
  cases hd'
  refine ⟨d, c, rfl, DA, fun z H' hz D' b' => ?_⟩
  obtain ⟨S', mv, ev, w'⟩ := D.moved w hd hc D' b'
  exact kq _ _ _ _ _ (h z S' hz mv) ev w' (.str _)
def spNamesD : SpD := fun ds S Q _ => ∃ (n k many : Nat), ds = [cel n, .int (many : Nat)] ∧ DealD S n k ∧ 1 ≤ many ∧ many < 60 ∧ ∀ (ns : List Str) (S' : Sto), ns.length = many → (∀ x ∈ ns, nameD (.str x) = true) → MvD n k S S' → Q (.list (ns.map PyData.str)) S'
theorem names_imp {K : PySem.W.Frag} : ∀ vs H Q E, spD K spNamesD vs H Q E → spNames vs H Q E := fun vs H Q E ⟨m, S, ds, Qd, Ed, w, dv, q, kq, _⟩ => by
  obtain ⟨n, k, many, rfl, D, h1, h2, h⟩ := q
  obtain ⟨x, y, rfl, dx, dy⟩ := dv2 dv
  cases dy
  obtain ⟨d, c, hd, hc, DA⟩ := D.at w
  obtain ⟨d', rfl, hd'⟩ := celN_dv dx rfl
  rw [hd] at hd'
  cases hd'
  refine ⟨d, c, many, rfl, DA, h1, h2, fun p ns H' hp hn hl hx D' b' => ?_⟩
  obtain ⟨S', mv, ev, w'⟩ := D.moved w hd hc D' b'
  exact kq _ _ _ _ _ (h ns S' hl hx mv) ev w' (.lst hp (w.noCe hn) (strs_dvs ns))
/-- documents as they are grown -/
def spGrownD (n0 : Nat) : SpD := fun ds S Q _ => ∃ (n k : Nat) (ns : List Str) (many : Nat) (deep : Int), ds = [cel n, .list (ns.map PyData.str), .int (many : Nat), .int deep] ∧ DealD S n k ∧
  (∀ x ∈ ns, nameD (.str x) = true) ∧ 0 < ns.length ∧ ns.length < 1000 ∧ 1 ≤ many ∧ many ≤ 90 ∧ many ≤ n0 ∧ 1 ≤ deep ∧ ∀ (a k0 : Addr) (x : Str) (ts : List AT) (S' : Sto), (AT.nod a k0 x ts).ok → (AT.nod a k0 x ts).cnt ≤ many → ((AT.nod a k0 x ts).hgt : Int) ≤ deep → MvD n k S S' → Q (AT.nod a k0 x ts).doc.dat S'
theorem dv4 {K : PySem.W.Frag} {m : Mp} {H : Hp} {xs : List V} {d d' d2 d3 : PyData} (h : DvAll K m H xs [d, d', d2, d3]) : ∃ x y z u, xs = [x, y, z, u] ∧ Dv K m H x d ∧ Dv K m H y d' ∧ Dv K m H z d2 ∧ Dv K m H u d3 := by
  cases h with
  | cons a r =>
    obtain ⟨y, z, u, rfl, b, c, e⟩ := dv3 r
    exact ⟨_, _, _, _, rfl, a, b, c, e⟩
theorem grown_imp {K : PySem.W.Frag} (n0 : Nat) : ∀ vs H Q E, spD K (spGrownD n0) vs H Q E → spGrown K n0 vs H Q E := fun vs H Q E ⟨m, S, ds, Qd, Ed, w, dv, q, kq, _⟩ => by
  obtain ⟨n, k, ns, many, deep, rfl, D, h1, h2, h3, h4, h5, h6, h7, h⟩ := q
  obtain ⟨x, y, z, u, rfl, dx, dy, dz, du⟩ := dv4 dv
  cases dz
  cases du
  obtain ⟨d, c, hd, hc, DA⟩ := D.at w
  obtain ⟨d', rfl, hd'⟩ := celN_dv dx rfl
  rw [hd] at hd'
  cases hd'
  obtain ⟨nm, xs, rfl, ha, na, al⟩ := dy.seqL
  have := dv_strs al
  subst this
  refine ⟨d, c, nm, ns, many, deep, rfl, DA, ha, fun z => na (.inl ⟨n, by rw [z]; exact hd⟩), fun z => na (.inl ⟨k, by rw [z]; exact hc⟩), h1, h2, h3, h4, h5, h6, h7, fun v a k0 x ts H' o1 o2 o3 dm D' b' => ?_⟩
  obtain ⟨S', mv, ev, w'⟩ := D.moved w hd hc D' b'
  exact kq _ _ _ _ _ (h a k0 x ts S' o1 o2 o3 mv) ev w' (Dv.of (fun a z => w.ceTrk a z) _ _ dm)
end K3

/-! what is read, or the error; whether a string is read right -/
namespace K3
open PySem L2 Xr K1 Exv Grd
abbrev sLRead : Stmt := top 38
theorem scLRead : FnScope ["text", "node", "named", "e"] ["text", "node", "named"] (defScope sLRead) := ⟨rfl, rfl, rfl, by decide +kernel, rfl, by decide +kernel, by decide +kernel⟩
abbrev sTR : Stmt := top 39
theorem scTR : FnScope ["text", "node", "at", "told"] ["text"] (defScope sTR) := ⟨rfl, rfl, rfl, by decide +kernel, rfl, by decide +kernel, by decide +kernel⟩
/-- what is told of a string -/
inductive Told (z : Str) (node : Bool) : PyData → Prop
  | wrong (e : Nat) : dueOf z node = some e → Told z node (.tuple [.str (Str.ofString "wrong"), .int (e : Nat)])
  | node (x : Str) (cs : List Doc) : node = true → dueOf z node = none → okD [.nod x cs] → z = txAll [.nod x cs] → Told z node (.tuple [.str (Str.ofString "told"), (Doc.nod x cs).dat])
  | forest (ts : List Doc) : node = false → dueOf z node = none → okD ts → z = txAll ts → Told z node (.tuple [.str (Str.ofString "told"), .tuple (datAll ts)])
def spLRead : SpD := fun ds S Q _ => ∃ (z : Str) (node named : Bool), ds = [.str z, .bool node, .bool named] ∧ z.length ≤ 100000 ∧ ∀ d S', Told z node d → Ext S S' → Q d S'
structure LrTxt (K : PySem.W.Frag) (mg : Str → Option Value) (C C_FitError C_InvalidNode a_read_node a_read_forest : Addr) : Prop where
  n_isinstance : mg "isinstance" = none
  m_InvalidText : mg "InvalidText" = some (.ref C)
  m_FitError : mg "FitError" = some (.ref C_FitError)
  m_InvalidNode : mg "InvalidNode" = some (.ref C_InvalidNode)
  it : IsT K C
  xf : XfC K C
  no_at : PySem.W.findIn K (.ref C) "at" = some none
  exm : PySem.W.exmOne K (.ref C) (.ref C) = some true
  kitF : PySem.W.kitOne K (.ref C) (.ref C_FitError) = some true
  kitN : PySem.W.kitOne K (.ref C) (.ref C_InvalidNode) = some false
  g_read_node : mg "read_node" = some (.ref a_read_node)
  k_read_node : PySem.W.keepIn K (.ref a_read_node) = true
  g_read_forest : mg "read_forest" = some (.ref a_read_forest)
  k_read_forest : PySem.W.keepIn K (.ref a_read_forest) = true
section
variable {P : Program} {w : World} {K : PySem.W.Frag} {mg : Str → Option Value} {base : Heap} {C C_FitError C_InvalidNode a_read_node a_read_forest : Addr} {d1 d2 : FuncData}
theorem ok_lread {f : Addr} {fd : FuncData} (F : Fun K "_law_read" "_law_read" sLRead f fd) (T : LrTxt K mg C C_FitError C_InvalidNode a_read_node a_read_forest)
    (G_read_node : FnOk P w K mg base (L2.CX P w) 6 a_read_node d1 ["value"] (spD K (spReadNode C))) (b_read_node : Binds K d1 ["value"] []) (kb_read_node : BindsK d1 ["value"] ["value"])
    (G_read_forest : FnOk P w K mg base (L2.CX P w) 6 a_read_forest d2 ["value"] (spD K (spReadForest C))) (b_read_forest : Binds K d2 ["value"] []) (kb_read_forest : BindsK d2 ["value"] ["value"]) : FnOk P w K mg base (L2.CX P w) 7 f fd ["text", "node", "named"] (spD K spLRead) := by
  refine dokX F scLRead (fun ds S Q E h => ?_) fun cdv A outer s H Q E (hr : Room 6 _) => ⟨_, (qss_one (qs_try_as (i := 3) (C0 := C) rfl rfl scLRead.nd rfl rfl ⟨(by rfl), (by decide), .inl T.m_InvalidText⟩ (fun pn xe hp => (qss_cons (qs_if (qt_tru (q_var (pv 1)) (by intro _; rfl))
      (qss_one (qs_retX (qx_tup (qx_cons (qx_of q_str) (qx_cons (qx_if (qt_tru (q_var (pv 2)) (by intro _; rfl)) (qx_kw hr G_read_node T.g_read_node T.k_read_node kb_read_node (by rfl) (by omega) (qk_cons (q_var (pv 0)) qk_nil)) (qx_call hr G_read_node T.g_read_node T.k_read_node b_read_node (by rfl) (by omega) (q_cons (q_var (pv 0)) q_nil))) qx_nil)))))
      qss_nil)
      (qss_one (qs_retX (qx_tup (qx_cons (qx_of q_str) (qx_cons (qx_if (qt_tru (q_var (pv 2)) (by intro _; rfl)) (qx_kw hr G_read_forest T.g_read_forest T.k_read_forest kb_read_forest (by rfl) (by omega) (qk_cons (q_var (pv 0)) qk_nil)) (qx_call hr G_read_forest T.g_read_forest T.k_read_forest b_read_forest (by rfl) (by omega) (q_cons (q_var (pv 0)) q_nil))) qx_nil)))))))
      (fun a oe dd pn hz hd => (qss_one (qs_ret (q_if (PW.pt (qw_and (qt_tru (q_isX T.it hz hd T.n_isinstance (by rfl) (q_var (pv 3)) (pe_glob (v := V.ref C_FitError) (by rfl) T.m_FitError rfl)) (by intro _; rfl)) (qw_and1 (qt_not (qt_tru (q_isX T.it hz hd T.n_isinstance (by rfl) (q_var (pv 3)) (pe_glob (v := V.ref C_InvalidNode) (by rfl) T.m_InvalidNode rfl)) (by intro _; rfl)))))) (q_tup (q_cons q_str (q_cons (q_xf T.xf T.no_at hz hd (q_var (pv 3))) q_nil))) q_str)))))), fun ds S Qd Ed h => ?_⟩
  · obtain ⟨z, node, named, rfl, _⟩ := h
    rfl
  · obtain ⟨z, node, named, rfl, hz, kq⟩ := h
    (dsimp only [dRetX, dDropX, dSetX, dAsgX, dFnX, dRaise, dTryAs, dTryOnly, dXf, dIsX, dPar3, dFnR, List.reverse_cons, List.reverse_nil, dDelT, mPop0, mPop, mApp, mExt, dFld, dNew, dDGet, dDIn, dZipT, dAll, dTupF, dIdx, dTupRg, dDc, dReprT, dEqT, dNeT, dFor, dLc, dWhile, dRange1, dRange2, dRange3, dEnumT, e_isB, e_tupD, dgUnl, dSeq, dIfS, dSet, dAsg, dRet, dRetN, dDrop, dNext, dPar, dVar, dC, dOp, dB, dTru, dtNot, dtAnd, dtOr, dAnd, dOr, dNot, dIfE, dNeg, dNil, dCons, dTup, dLst, dCel, dNoP, dPart, dSlice, dRevT, dRevL, dCall, on1, dTupOf, dLstOf, dCelOf, dIsi, dName, dgNil, dgCons, dgTup, dFn, dMet, dMet0, gt, st, startD, wh_some, dYes, dEq, dNe, List.map, List.length, List.replicate, List.append, List.cons_append, List.nil_append, dWalk, uns, un, tupNms, dNms, ifT, ifF, List.replicate_succ, List.replicate_zero, Nat.sub_self, Nat.reduceSub, Nat.reduceAdd, Nat.zero_add, Bool.not_true, Bool.not_false, e_addI, e_addS, e_addT, e_addL, e_i2, e_i2c, e_is, e_bool, e_cel, e_strD, e_lenS, e_lenT, e_lenL, e_lenC, e_ixS, e_ixT, e_ixL, e_ixC, e_slS, e_slT, e_slL, e_slC, e_itT, e_itL, e_truN, e_truI, e_truB, e_truL, e_truT, e_okN, e_okB, e_okI, e_okS, e_okL, e_okT, e_okC, e_tupN, e_tupB, e_tupI, e_tupS, e_tupL, e_tupT, e_tupC, e_strN, e_strB, e_strI, e_strS, e_strL, e_strT, e_strC, e_intN, e_intB, e_intI, e_intS, e_intL, e_intT, e_intC, e_boolN, e_boolB, e_boolI, e_boolS, e_boolL, e_boolT, e_boolC, e_lstN, e_lstB, e_lstI, e_lstS, e_lstL, e_lstT, e_lstC, e_nonN, e_nonB, e_nonI, e_nonS, e_nonL, e_nonT, e_wkS, e_wkL, e_wkT, e_wkC, e_join, e_inS, e_ninS, e_ofI, e_ofB, e_abs, e_lenF, e_ixF, e_itF, e_wkF, e_tfF, e_truF, e_repT, e_keyI, e_keyS]; try simp only [true_and, and_true, Nat.reduceLeDiff, reduceIte, reduceCtorEq, Bool.false_eq_true, if_true, if_false, not_false_eq_true, ite_true, ite_false, and_self])
    cases node
    · rw [ifF]
      cases named
      · rw [ifF]
        exact ⟨z, rfl, hz, fun e he S' ex => wh_mk T.exm (iteT ⟨rfl, fun a dd => wh_mk exF_exd (wh_mk T.kitF (iteT (wh_mk exF_exd (wh_mk T.kitN (iteT (wh_mk exF_exd (wh_mk rfl (kq _ S' (.wrong e he) ex))))))))⟩), fun ts S' hd ex ho ez => kq _ S' (.forest ts rfl hd ho ez) ex⟩
      · rw [ifT]
        exact ⟨z, rfl, hz, fun e he S' ex => wh_mk T.exm (iteT ⟨rfl, fun a dd => wh_mk exF_exd (wh_mk T.kitF (iteT (wh_mk exF_exd (wh_mk T.kitN (iteT (wh_mk exF_exd (wh_mk rfl (kq _ S' (.wrong e he) ex))))))))⟩), fun ts S' hd ex ho ez => kq _ S' (.forest ts rfl hd ho ez) ex⟩
    · rw [ifT]
      cases named
      · rw [ifF]
        exact ⟨z, rfl, hz, fun e he S' ex => wh_mk T.exm (iteT ⟨rfl, fun a dd => wh_mk exF_exd (wh_mk T.kitF (iteT (wh_mk exF_exd (wh_mk T.kitN (iteT (wh_mk exF_exd (wh_mk rfl (kq _ S' (.wrong e he) ex))))))))⟩), fun x cs S' hd ex ho ez => kq _ S' (.node x cs rfl hd ho ez) ex⟩
      · rw [ifT]
        exact ⟨z, rfl, hz, fun e he S' ex => wh_mk T.exm (iteT ⟨rfl, fun a dd => wh_mk exF_exd (wh_mk T.kitF (iteT (wh_mk exF_exd (wh_mk T.kitN (iteT (wh_mk exF_exd (wh_mk rfl (kq _ S' (.wrong e he) ex))))))))⟩), fun x cs S' hd ex ho ez => kq _ S' (.node x cs rfl hd ho ez) ex⟩
/-! older promises of what is written -/
def spWrittenD (n : Nat) : SpD := fun ds S Q _ => ∃ t : Doc, ds = [t.dat] ∧ t.ok ∧ t.cnt ≤ 900 ∧ t.hgt ≤ n ∧ Q (.str t.tx) S
def spRowWD (n : Nat) : SpD := fun ds S Q _ => ∃ ts : List Doc, ds = [.tuple (datAll ts)] ∧ okD ts ∧ cntD ts ≤ 900 ∧ hgtD ts ≤ n ∧ Q (.str (txAll ts)) S
mutual
theorem pure_doc : ∀ t : Doc, pureD t.dat = true
  | .txt _ => rfl
  | .nod x ts => by
    show (pureD (.str x) && (pureD (.tuple (datAll ts)) && true)) = true
    rw [show pureD (.tuple (datAll ts)) = pureAll (datAll ts) from rfl, pure_docs ts]
    rfl
theorem pure_docs : ∀ ts : List Doc, pureAll (datAll ts) = true
  | [] => rfl
  | t :: ts => by
    show (pureD t.dat && pureAll (datAll ts)) = true
    rw [pure_doc t, pure_docs ts]
    rfl
end
theorem written_imp {K : PySem.W.Frag} (n : Nat) : ∀ vs H Q E, spD K (spWrittenD n) vs H Q E → spWritten K n vs H Q E := fun vs H Q E ⟨m, S, ds, Qd, Ed, w, dv, q, kq, _⟩ => by
  obtain ⟨t, rfl, h1, h2, h3, h⟩ := q
  obtain ⟨x, rfl, dx⟩ := dv1 dv
  exact ⟨x, t, Ce m, rfl, Dv.dm _ _ (pure_doc t) dx, h1, h2, h3, fun H' s => kq.sameC w (.str _) h s⟩
theorem rowW_imp {K : PySem.W.Frag} (n : Nat) : ∀ vs H Q E, spD K (spRowWD n) vs H Q E → spRowW K n vs H Q E := fun vs H Q E ⟨m, S, ds, Qd, Ed, w, dv, q, kq, _⟩ => by
  obtain ⟨ts, rfl, h1, h2, h3, h⟩ := q
  obtain ⟨x, rfl, dx⟩ := dv1 dv
  exact ⟨x, ts, Ce m, rfl, Dv.dm _ _ (pure_docs ts) dx, h1, h2, h3, fun H' s => kq.sameC w (.str _) h s⟩
def spText1D : SpD := fun ds S Q _ => ∃ t : Doc, ds = [t.dat] ∧ t.ok ∧ t.cnt ≤ 900 ∧ Q (.str t.tx) S
def spForestD : SpD := fun ds S Q _ => ∃ ts : List Doc, ds = [.tuple (datAll ts)] ∧ okD ts ∧ cntD ts ≤ 900 ∧ Q (.str (txAll ts)) S
theorem text1_imp {K : PySem.W.Frag} : ∀ vs H Q E, spD K spText1D vs H Q E → spText1 K vs H Q E := fun vs H Q E ⟨m, S, ds, Qd, Ed, w, dv, q, kq, _⟩ => by
  obtain ⟨t, rfl, h1, h2, h⟩ := q
  obtain ⟨x, rfl, dx⟩ := dv1 dv
  exact ⟨x, t, Ce m, rfl, Dv.dm _ _ (pure_doc t) dx, h1, h2, fun a z => w.ceTrk a z, fun H' s => kq.sameC w (.str _) h s⟩
theorem forest_imp {K : PySem.W.Frag} : ∀ vs H Q E, spD K spForestD vs H Q E → spForest K vs H Q E := fun vs H Q E ⟨m, S, ds, Qd, Ed, w, dv, q, kq, _⟩ => by
  obtain ⟨ts, rfl, h1, h2, h⟩ := q
  obtain ⟨x, rfl, dx⟩ := dv1 dv
  exact ⟨x, ts, Ce m, rfl, Dv.dm _ _ (pure_docs ts) dx, h1, h2, fun a z => w.ceTrk a z, fun H' s => kq.sameC w (.str _) h s⟩
/-! whether a string is read right -/
theorem rp_wrong {e : Nat} (h : e ≤ 100000) : Rp 1 607 (.tuple [.str (Str.ofString "wrong"), .int (e : Nat)]) := rp_tup (n := 0) (B := 300) (ds := [.str (Str.ofString "wrong"), .int (e : Nat)]) fun x hx => by
  rcases List.mem_cons.mp hx with q | hx
  · rw [q]
    exact rp_str (plain_txt (z := Str.ofString "wrong") (by decide +kernel))
  · rcases List.mem_cons.mp hx with q | hx
    · rw [q]
      exact rp_int (by omega)
    · simp at hx
theorem rp_ask2 {n B : Nat} {d : PyData} (r : Rp n B d) (hn : n ≤ 150) (hB : B ≤ 10000000) {S : Sto} {Q : DK} (q : Q (.str d.shown) S) : dRepr d S Q := ⟨⟨r.sh, r.lay, Nat.le_trans r.dep hn, Nat.le_trans r.len hB⟩, q⟩
theorem eqv_same (z : Str) : (!PyData.eqv (.str z) (.str z)) = false := by
  rw [eqv_strD]
  simp
theorem tx_all {t : Doc} : txAll [t] = t.tx := txAll_one t
/-- what is told of a string is one thing -/
theorem Told.one {z : Str} {node : Bool} {d d' : PyData} (a : Told z node d) (b : Told z node d') : d = d' := by
  cases a with
  | wrong e h =>
    cases b with
    | wrong e' h' =>
      rw [h] at h'
      cases h'
      rfl
    | node _ _ _ h' => rw [h] at h'; cases h'
    | forest _ _ h' => rw [h] at h'; cases h'
  | node x cs hn h ho hz =>
    cases b with
    | wrong e' h' => rw [h] at h'; cases h'
    | node x' cs' _ _ ho' hz' =>
      have := txAll_inj ho ho' (hz.symm.trans hz')
      rw [(List.cons.inj this).1]
    | forest _ hn' => rw [hn] at hn'; cases hn'
  | forest ts hn h ho hz =>
    cases b with
    | wrong e' h' => rw [h] at h'; cases h'
    | node _ _ hn' => rw [hn] at hn'; cases hn'
    | forest ts' _ _ ho' hz' => rw [txAll_inj ho ho' (hz.symm.trans hz')]
mutual
theorem eqv_refl : ∀ d : PyData, pureD d = true → PyData.eqv d d = true
  | .none, _ => rfl
  | .bool b, _ => by show (b == b) = true; simp
  | .int i, _ => by show (i == i) = true; simp
  | .str z, _ => by show (z == z) = true; simp
  | .list ds, h => eqv_reflAll ds h
  | .tuple ds, h => eqv_reflAll ds h
  | .dict _, h => nomatch h
theorem eqv_reflAll : ∀ ds : List PyData, pureAll ds = true → PyData.eqvAll ds ds = true
  | [], _ => rfl
  | d :: ds, h => by
    have h' : (pureD d && pureAll ds) = true := h
    rw [Bool.and_eq_true] at h'
    show (PyData.eqv d d && PyData.eqvAll ds ds) = true
    rw [eqv_refl d h'.1, eqv_reflAll ds h'.2]
    rfl
end
theorem told_ne {d : PyData} (hp : pureD d = true) {n : Nat} (v : Vd n d) (hn : n ≤ 63) {S : Sto} {Q : DK} (q : Q (.bool false) S) : dNe (.tuple [.str (Str.ofString "told"), d]) (.tuple [.str (Str.ofString "told"), d]) S Q := by
  have v2 : Vd 64 (.tuple [.str (Str.ofString "told"), d]) := vd_tup fun x hx => by
    rcases List.mem_cons.mp hx with e | hx
    · rw [e]
      exact (vd_str (z := Str.ofString "told") (text_facts (by decide +kernel)).1).mono (Nat.zero_le _)
    · rcases List.mem_cons.mp hx with e | hx
      · rw [e]; exact v.mono hn
      · simp at hx
  refine ⟨.inr ⟨v2.shaped (by decide), v2.shaped (by decide)⟩, ?_⟩
  rw [eqv_refl (.tuple [.str (Str.ofString "told"), d]) (by
    show (true && (pureD d && true)) = true
    rw [hp]
    rfl)]
  exact q
def spTR (n : Nat) : SpD := fun ds S Q _ => ∃ (z : Str), ds = [.str z] ∧ z.length ≤ 880 ∧ n ≤ 31 ∧ (∀ ts, okD ts → z = txAll ts → cntD ts ≤ 900 ∧ hgtD ts ≤ n) ∧ ∀ S', Ext S S' → Q (.bool true) S'
structure TrTxt (K : PySem.W.Frag) (mg : Str → Option Value) (a_law_due a_law_read a_law_written a_law_row_written a_thing_text a_forest_text : Addr) : Prop where
  n_repr : mg "repr" = none
  g_law_due : mg "_law_due" = some (.ref a_law_due)
  k_law_due : PySem.W.keepIn K (.ref a_law_due) = true
  g_law_read : mg "_law_read" = some (.ref a_law_read)
  k_law_read : PySem.W.keepIn K (.ref a_law_read) = true
  g_law_written : mg "_law_written" = some (.ref a_law_written)
  k_law_written : PySem.W.keepIn K (.ref a_law_written) = true
  g_law_row_written : mg "_law_row_written" = some (.ref a_law_row_written)
  k_law_row_written : PySem.W.keepIn K (.ref a_law_row_written) = true
  g_thing_text : mg "thing_text" = some (.ref a_thing_text)
  k_thing_text : PySem.W.keepIn K (.ref a_thing_text) = true
  g_forest_text : mg "forest_text" = some (.ref a_forest_text)
  k_forest_text : PySem.W.keepIn K (.ref a_forest_text) = true
section
variable {a_law_due a_law_read a_law_written a_law_row_written a_thing_text a_forest_text : Addr} {d3 d4 d5 d6 d7 d8 : FuncData}
theorem ok_tr (n : Nat) {f : Addr} {fd : FuncData} (F : Fun K "_law_text_right" "_law_text_right" sTR f fd) (T : TrTxt K mg a_law_due a_law_read a_law_written a_law_row_written a_thing_text a_forest_text)
    (G_law_due : FnOk P w K mg base CX0 3 a_law_due d3 ["text", "node"] (spD K spDue)) (b_law_due : Binds K d3 ["text", "node"] [])
    (G_law_read : FnOk P w K mg base (L2.CX P w) 7 a_law_read d4 ["text", "node", "named"] (spD K spLRead)) (b_law_read : Binds K d4 ["text", "node", "named"] [])
    (G_law_written : FnOk P w K mg base CX0 (1 + 2 * n) a_law_written d5 ["thing"] (spD K (spWrittenD n))) (b_law_written : Binds K d5 ["thing"] [])
    (G_law_row_written : FnOk P w K mg base CX0 (2 + 2 * n) a_law_row_written d6 ["things"] (spD K (spRowWD n))) (b_law_row_written : Binds K d6 ["things"] [])
    (G_thing_text : FnOk P w K mg base CX0 3 a_thing_text d7 ["thing"] (spD K spText1D)) (b_thing_text : Binds K d7 ["thing"] [])
    (G_forest_text : FnOk P w K mg base CX0 4 a_forest_text d8 ["forest"] (spD K spForestD)) (b_forest_text : Binds K d8 ["forest"] []) : FnG P w K mg base CX0 (2 * n + 10) f fd ["text"] (spD K (spTR n)) := by
  refine dokG F scTR (fun ds S Q E h => ?_) fun cdv A outer s H Q E gd (hr : Room (2 * n + 9) _) => ⟨_, (qss_cons (qs_for PassesOwn.leaving rfl (qi_any (q_tup (q_cons q_bl (q_cons q_bl q_nil)))) (qg_name (pg_name (i := 1) scTR.nd rfl (Or.inl rfl)))
      (qss_cons (qs_par (i := 2) (j := 3) (by rfl) scTR.nd rfl rfl (by decide) rfl rfl (q_cons (q_call hr G_law_due T.g_law_due T.k_law_due b_law_due (by rfl) (by omega) (q_cons (q_var (pv 0)) (q_cons (q_var (pv 1)) q_nil))) (q_cons (q_callN hr G_law_read T.g_law_read T.k_law_read b_law_read (by rfl) (by omega) (q_cons (q_var (pv 0)) (q_cons (q_var (pv 1)) (q_cons q_bl q_nil)))) q_nil)) (by rfl))
      (qss_one (qs_if (qt_cmp op_notN snd_notN (q_var (pv 2)) q_non (nomark _))
      (qss_one (qs_if (PW.pt (qw_or (qt_cmp (op_neA (u64 hr)) snd_ne (q_repr gd (Grd.u200 hr) T.n_repr (by rfl) (q_cons (q_var (pv 3)) q_nil)) (q_repr gd (Grd.u200 hr) T.n_repr (by rfl) (q_cons (q_tup (q_cons q_str (q_cons (q_var (pv 2)) q_nil))) q_nil)) (nomark _)) (qw_or1 (qt_cmp (op_neA (u64 hr)) snd_ne (q_repr gd (Grd.u200 hr) T.n_repr (by rfl) (q_cons (q_callN hr G_law_read T.g_law_read T.k_law_read b_law_read (by rfl) (by omega) (q_cons (q_var (pv 0)) (q_cons (q_var (pv 1)) (q_cons q_bl q_nil)))) q_nil)) (q_repr gd (Grd.u200 hr) T.n_repr (by rfl) (q_cons (q_var (pv 3)) q_nil)) (nomark _)))))
      (qss_one (qs_ret q_bl))
      qss_nil))
      (qss_one (qs_if (PW.pt (qw_or (qt_cmp (op_neA (u64 hr)) snd_ne (q_at (q_var (pv 3)) q_int (fun _ _ => rfl)) q_str (nomark _)) (qw_or1 (qt_cmp (op_neA (u64 hr)) snd_ne (q_if (qt_tru (q_var (pv 1)) (by intro _; rfl)) (q_call hr G_law_written T.g_law_written T.k_law_written b_law_written (by rfl) (by omega) (q_cons (q_at (q_var (pv 3)) q_int (fun _ _ => rfl)) q_nil)) (q_call hr G_law_row_written T.g_law_row_written T.k_law_row_written b_law_row_written (by rfl) (by omega) (q_cons (q_at (q_var (pv 3)) q_int (fun _ _ => rfl)) q_nil))) (q_var (pv 0)) (nomark _)))))
      (qss_one (qs_ret q_bl))
      (qss_one (qs_if (PW.pt (qw_or (qt_cmp (op_neA (u64 hr)) snd_ne (q_if (qt_tru (q_var (pv 1)) (by intro _; rfl)) (q_call hr G_thing_text T.g_thing_text T.k_thing_text b_thing_text (by rfl) (by omega) (q_cons (q_at (q_var (pv 3)) q_int (fun _ _ => rfl)) q_nil)) (q_call hr G_forest_text T.g_forest_text T.k_forest_text b_forest_text (by rfl) (by omega) (q_cons (q_at (q_var (pv 3)) q_int (fun _ _ => rfl)) q_nil))) (q_var (pv 0)) (nomark _)) (qw_or1 (qt_cmp (op_neA (u64 hr)) snd_ne (q_callN hr G_law_read T.g_law_read T.k_law_read b_law_read (by rfl) (by omega) (q_cons (q_var (pv 0)) (q_cons (q_var (pv 1)) (q_cons q_bl q_nil)))) (q_var (pv 3)) (nomark _)))))
      (qss_one (qs_ret q_bl))
      qss_nil))))))))
      (qss_one (qs_ret q_bl))), fun ds S Qd Ed h => ?_⟩
  · obtain ⟨z, rfl, _⟩ := h
    rfl
  · obtain ⟨z, rfl, hz, hn, hts, q⟩ := h
    (dsimp only [dRetX, dDropX, dSetX, dAsgX, dFnX, dRaise, dTryAs, dTryOnly, dXf, dIsX, dPar3, dFnR, List.reverse_cons, List.reverse_nil, dDelT, mPop0, mPop, mApp, mExt, dFld, dNew, dDGet, dDIn, dZipT, dAll, dTupF, dIdx, dTupRg, dDc, dReprT, dEqT, dNeT, dFor, dLc, dWhile, dRange1, dRange2, dRange3, dEnumT, e_isB, e_tupD, dgUnl, dSeq, dIfS, dSet, dAsg, dRet, dRetN, dDrop, dNext, dPar, dVar, dC, dOp, dB, dTru, dtNot, dtAnd, dtOr, dAnd, dOr, dNot, dIfE, dNeg, dNil, dCons, dTup, dLst, dCel, dNoP, dPart, dSlice, dRevT, dRevL, dCall, on1, dTupOf, dLstOf, dCelOf, dIsi, dName, dgNil, dgCons, dgTup, dFn, dMet, dMet0, gt, st, startD, wh_some, dYes, dEq, dNe, List.map, List.length, List.replicate, List.append, List.cons_append, List.nil_append, dWalk, uns, un, tupNms, dNms, ifT, ifF, List.replicate_succ, List.replicate_zero, Nat.sub_self, Nat.reduceSub, Nat.reduceAdd, Nat.zero_add, Bool.not_true, Bool.not_false, e_addI, e_addS, e_addT, e_addL, e_i2, e_i2c, e_is, e_bool, e_cel, e_strD, e_lenS, e_lenT, e_lenL, e_lenC, e_ixS, e_ixT, e_ixL, e_ixC, e_slS, e_slT, e_slL, e_slC, e_itT, e_itL, e_truN, e_truI, e_truB, e_truL, e_truT, e_okN, e_okB, e_okI, e_okS, e_okL, e_okT, e_okC, e_tupN, e_tupB, e_tupI, e_tupS, e_tupL, e_tupT, e_tupC, e_strN, e_strB, e_strI, e_strS, e_strL, e_strT, e_strC, e_intN, e_intB, e_intI, e_intS, e_intL, e_intT, e_intC, e_boolN, e_boolB, e_boolI, e_boolS, e_boolL, e_boolT, e_boolC, e_lstN, e_lstB, e_lstI, e_lstS, e_lstL, e_lstT, e_lstC, e_nonN, e_nonB, e_nonI, e_nonS, e_nonL, e_nonT, e_wkS, e_wkL, e_wkT, e_wkC, e_join, e_inS, e_ninS, e_ofI, e_ofB, e_abs, e_lenF, e_ixF, e_itF, e_wkF, e_tfF, e_truF, e_repT, e_keyI, e_keyS]; try simp only [true_and, and_true, Nat.reduceLeDiff, reduceIte, reduceCtorEq, Bool.false_eq_true, if_true, if_false, not_false_eq_true, ite_true, ite_false, and_self])
    refine ⟨fun i ρ S' => Ext S S' ∧ ∃ x1 x2 x3, ρ = [some (.str z), x1, x2, x3], ⟨Ext.refl, _, _, _, rfl⟩, fun _ _ _ _ => trivial, ?_, fun ρ S' ⟨ex, _⟩ => q S' ex⟩
    rintro i d ρ S1 hd ⟨ex, x1, x2, x3, rfl⟩
    obtain ⟨node, rfl⟩ : ∃ node, d = .bool node := by
      match i, hd with
      | 0, hd => exact ⟨true, (Option.some.inj hd).symm⟩
      | 1, hd => exact ⟨false, (Option.some.inj hd).symm⟩
    (dsimp only [dRetX, dDropX, dSetX, dAsgX, dFnX, dRaise, dTryAs, dTryOnly, dXf, dIsX, dPar3, dFnR, List.reverse_cons, List.reverse_nil, dDelT, mPop0, mPop, mApp, mExt, dFld, dNew, dDGet, dDIn, dZipT, dAll, dTupF, dIdx, dTupRg, dDc, dReprT, dEqT, dNeT, dFor, dLc, dWhile, dRange1, dRange2, dRange3, dEnumT, e_isB, e_tupD, dgUnl, dSeq, dIfS, dSet, dAsg, dRet, dRetN, dDrop, dNext, dPar, dVar, dC, dOp, dB, dTru, dtNot, dtAnd, dtOr, dAnd, dOr, dNot, dIfE, dNeg, dNil, dCons, dTup, dLst, dCel, dNoP, dPart, dSlice, dRevT, dRevL, dCall, on1, dTupOf, dLstOf, dCelOf, dIsi, dName, dgNil, dgCons, dgTup, dFn, dMet, dMet0, gt, st, startD, wh_some, dYes, dEq, dNe, List.map, List.length, List.replicate, List.append, List.cons_append, List.nil_append, dWalk, uns, un, tupNms, dNms, ifT, ifF, List.replicate_succ, List.replicate_zero, Nat.sub_self, Nat.reduceSub, Nat.reduceAdd, Nat.zero_add, Bool.not_true, Bool.not_false, e_addI, e_addS, e_addT, e_addL, e_i2, e_i2c, e_is, e_bool, e_cel, e_strD, e_lenS, e_lenT, e_lenL, e_lenC, e_ixS, e_ixT, e_ixL, e_ixC, e_slS, e_slT, e_slL, e_slC, e_itT, e_itL, e_truN, e_truI, e_truB, e_truL, e_truT, e_okN, e_okB, e_okI, e_okS, e_okL, e_okT, e_okC, e_tupN, e_tupB, e_tupI, e_tupS, e_tupL, e_tupT, e_tupC, e_strN, e_strB, e_strI, e_strS, e_strL, e_strT, e_strC, e_intN, e_intB, e_intI, e_intS, e_intL, e_intT, e_intC, e_boolN, e_boolB, e_boolI, e_boolS, e_boolL, e_boolT, e_boolC, e_lstN, e_lstB, e_lstI, e_lstS, e_lstL, e_lstT, e_lstC, e_nonN, e_nonB, e_nonI, e_nonS, e_nonL, e_nonT, e_wkS, e_wkL, e_wkT, e_wkC, e_join, e_inS, e_ninS, e_ofI, e_ofB, e_abs, e_lenF, e_ixF, e_itF, e_wkF, e_tfF, e_truF, e_repT, e_keyI, e_keyS]; try simp only [true_and, and_true, Nat.reduceLeDiff, reduceIte, reduceCtorEq, Bool.false_eq_true, if_true, if_false, not_false_eq_true, ite_true, ite_false, and_self])
    refine ⟨z, node, rfl, by omega, z, node, false, rfl, by omega, fun d2 S2 td e2 => ?_⟩
    cases td with
    | wrong e he =>
      have le := due_le _ _ _ _ _ _ he
      rw [cps_len] at le
      rw [he]
      (dsimp only [dRetX, dDropX, dSetX, dAsgX, dFnX, dRaise, dTryAs, dTryOnly, dXf, dIsX, dPar3, dFnR, List.reverse_cons, List.reverse_nil, dDelT, mPop0, mPop, mApp, mExt, dFld, dNew, dDGet, dDIn, dZipT, dAll, dTupF, dIdx, dTupRg, dDc, dReprT, dEqT, dNeT, dFor, dLc, dWhile, dRange1, dRange2, dRange3, dEnumT, e_isB, e_tupD, dgUnl, dSeq, dIfS, dSet, dAsg, dRet, dRetN, dDrop, dNext, dPar, dVar, dC, dOp, dB, dTru, dtNot, dtAnd, dtOr, dAnd, dOr, dNot, dIfE, dNeg, dNil, dCons, dTup, dLst, dCel, dNoP, dPart, dSlice, dRevT, dRevL, dCall, on1, dTupOf, dLstOf, dCelOf, dIsi, dName, dgNil, dgCons, dgTup, dFn, dMet, dMet0, gt, st, startD, wh_some, dYes, dEq, dNe, List.map, List.length, List.replicate, List.append, List.cons_append, List.nil_append, dWalk, uns, un, tupNms, dNms, ifT, ifF, List.replicate_succ, List.replicate_zero, Nat.sub_self, Nat.reduceSub, Nat.reduceAdd, Nat.zero_add, Bool.not_true, Bool.not_false, e_addI, e_addS, e_addT, e_addL, e_i2, e_i2c, e_is, e_bool, e_cel, e_strD, e_lenS, e_lenT, e_lenL, e_lenC, e_ixS, e_ixT, e_ixL, e_ixC, e_slS, e_slT, e_slL, e_slC, e_itT, e_itL, e_truN, e_truI, e_truB, e_truL, e_truT, e_okN, e_okB, e_okI, e_okS, e_okL, e_okT, e_okC, e_tupN, e_tupB, e_tupI, e_tupS, e_tupL, e_tupT, e_tupC, e_strN, e_strB, e_strI, e_strS, e_strL, e_strT, e_strC, e_intN, e_intB, e_intI, e_intS, e_intL, e_intT, e_intC, e_boolN, e_boolB, e_boolI, e_boolS, e_boolL, e_boolT, e_boolC, e_lstN, e_lstB, e_lstI, e_lstS, e_lstL, e_lstT, e_lstC, e_nonN, e_nonB, e_nonI, e_nonS, e_nonL, e_nonT, e_wkS, e_wkL, e_wkT, e_wkC, e_join, e_inS, e_ninS, e_ofI, e_ofB, e_abs, e_lenF, e_ixF, e_itF, e_wkF, e_tfF, e_truF, e_repT, e_keyI, e_keyS]; try simp only [true_and, and_true, Nat.reduceLeDiff, reduceIte, reduceCtorEq, Bool.false_eq_true, if_true, if_false, not_false_eq_true, ite_true, ite_false, and_self])
      show (if (!false) = true then _ else _)
      rw [Bool.not_false, ifT]
      refine rp_ask2 (rp_wrong (e := e) (by omega)) (by decide) (by decide) (rp_ask2 (rp_wrong (e := e) (by omega)) (by decide) (by decide) ⟨eqOk_str _ _, ?_⟩)
      rw [eqv_same, ifF]
      refine ⟨z, node, true, rfl, by omega, fun d3 S3 td3 e3 => ?_⟩
      rw [td3.one (.wrong e he)]
      refine rp_ask2 (rp_wrong (e := e) (by omega)) (by decide) (by decide) (rp_ask2 (rp_wrong (e := e) (by omega)) (by decide) (by decide) ⟨eqOk_str _ _, ?_⟩)
      rw [eqv_same, ifF]
      exact ⟨(ex.trans e2).trans e3, _, _, _, rfl⟩
    | node x cs hnd hdu ho hzt =>
      subst hnd
      obtain ⟨hc, hh⟩ := hts _ ho hzt
      rw [hdu]
      (dsimp only [dRetX, dDropX, dSetX, dAsgX, dFnX, dRaise, dTryAs, dTryOnly, dXf, dIsX, dPar3, dFnR, List.reverse_cons, List.reverse_nil, dDelT, mPop0, mPop, mApp, mExt, dFld, dNew, dDGet, dDIn, dZipT, dAll, dTupF, dIdx, dTupRg, dDc, dReprT, dEqT, dNeT, dFor, dLc, dWhile, dRange1, dRange2, dRange3, dEnumT, e_isB, e_tupD, dgUnl, dSeq, dIfS, dSet, dAsg, dRet, dRetN, dDrop, dNext, dPar, dVar, dC, dOp, dB, dTru, dtNot, dtAnd, dtOr, dAnd, dOr, dNot, dIfE, dNeg, dNil, dCons, dTup, dLst, dCel, dNoP, dPart, dSlice, dRevT, dRevL, dCall, on1, dTupOf, dLstOf, dCelOf, dIsi, dName, dgNil, dgCons, dgTup, dFn, dMet, dMet0, gt, st, startD, wh_some, dYes, dEq, dNe, List.map, List.length, List.replicate, List.append, List.cons_append, List.nil_append, dWalk, uns, un, tupNms, dNms, ifT, ifF, List.replicate_succ, List.replicate_zero, Nat.sub_self, Nat.reduceSub, Nat.reduceAdd, Nat.zero_add, Bool.not_true, Bool.not_false, e_addI, e_addS, e_addT, e_addL, e_i2, e_i2c, e_is, e_bool, e_cel, e_strD, e_lenS, e_lenT, e_lenL, e_lenC, e_ixS, e_ixT, e_ixL, e_ixC, e_slS, e_slT, e_slL, e_slC, e_itT, e_itL, e_truN, e_truI, e_truB, e_truL, e_truT, e_okN, e_okB, e_okI, e_okS, e_okL, e_okT, e_okC, e_tupN, e_tupB, e_tupI, e_tupS, e_tupL, e_tupT, e_tupC, e_strN, e_strB, e_strI, e_strS, e_strL, e_strT, e_strC, e_intN, e_intB, e_intI, e_intS, e_intL, e_intT, e_intC, e_boolN, e_boolB, e_boolI, e_boolS, e_boolL, e_boolT, e_boolC, e_lstN, e_lstB, e_lstI, e_lstS, e_lstL, e_lstT, e_lstC, e_nonN, e_nonB, e_nonI, e_nonS, e_nonL, e_nonT, e_wkS, e_wkL, e_wkT, e_wkC, e_join, e_inS, e_ninS, e_ofI, e_ofB, e_abs, e_lenF, e_ixF, e_itF, e_wkF, e_tfF, e_truF, e_repT, e_keyI, e_keyS]; try simp only [true_and, and_true, Nat.reduceLeDiff, reduceIte, reduceCtorEq, Bool.false_eq_true, if_true, if_false, not_false_eq_true, ite_true, ite_false, and_self])
      show (if (!true) = true then _ else _)
      rw [Bool.not_true, ifF]
      refine wh_mk rfl ⟨eqOk_str _ _, ?_⟩
      rw [eqv_same, ifF]
      have v := (Doc.data (.nod x cs) ho.1).1
      have hh' : (Doc.nod x cs).hgt ≤ n := by
        have : hgtD [Doc.nod x cs] = max (Doc.nod x cs).hgt 0 := rfl
        omega
      have hc' : (Doc.nod x cs).cnt ≤ 900 := by
        have : cntD [Doc.nod x cs] = (Doc.nod x cs).cnt + 0 := rfl
        omega
      have ez : (Doc.nod x cs).tx = z := by rw [hzt, tx_all]
      refine wh_mk rfl ⟨_, rfl, ho.1, hc', hh', eqOk_str _ _, ?_⟩
      rw [ez, eqv_same, ifF]
      refine wh_mk rfl ⟨_, rfl, ho.1, hc', eqOk_str _ _, ?_⟩
      rw [ez, eqv_same, ifF]
      refine ⟨z, true, true, rfl, by omega, fun d3 S3 td3 e3 => ?_⟩
      rw [td3.one (.node x cs rfl hdu ho hzt)]
      have t9 := told_ne (pure_doc (.nod x cs)) v (by omega) (S := S3) (Q := fun d S' => wh (boolD d) fun b => if b = true then Qd (.bool false) S' else Ext S S' ∧ ∃ x1 x2 x3, [some (PyData.str z), some (.bool true), some (optN none), some (.tuple [.str (Str.ofString "told"), (Doc.nod x cs).dat])] = [some (.str z), x1, x2, x3]) (wh_mk rfl (iteF ⟨(ex.trans e2).trans e3, _, _, _, rfl⟩))
      exact t9
    | forest ts hnd hdu ho hzt =>
      subst hnd
      obtain ⟨hc, hh⟩ := hts _ ho hzt
      rw [hdu]
      (dsimp only [dRetX, dDropX, dSetX, dAsgX, dFnX, dRaise, dTryAs, dTryOnly, dXf, dIsX, dPar3, dFnR, List.reverse_cons, List.reverse_nil, dDelT, mPop0, mPop, mApp, mExt, dFld, dNew, dDGet, dDIn, dZipT, dAll, dTupF, dIdx, dTupRg, dDc, dReprT, dEqT, dNeT, dFor, dLc, dWhile, dRange1, dRange2, dRange3, dEnumT, e_isB, e_tupD, dgUnl, dSeq, dIfS, dSet, dAsg, dRet, dRetN, dDrop, dNext, dPar, dVar, dC, dOp, dB, dTru, dtNot, dtAnd, dtOr, dAnd, dOr, dNot, dIfE, dNeg, dNil, dCons, dTup, dLst, dCel, dNoP, dPart, dSlice, dRevT, dRevL, dCall, on1, dTupOf, dLstOf, dCelOf, dIsi, dName, dgNil, dgCons, dgTup, dFn, dMet, dMet0, gt, st, startD, wh_some, dYes, dEq, dNe, List.map, List.length, List.replicate, List.append, List.cons_append, List.nil_append, dWalk, uns, un, tupNms, dNms, ifT, ifF, List.replicate_succ, List.replicate_zero, Nat.sub_self, Nat.reduceSub, Nat.reduceAdd, Nat.zero_add, Bool.not_true, Bool.not_false, e_addI, e_addS, e_addT, e_addL, e_i2, e_i2c, e_is, e_bool, e_cel, e_strD, e_lenS, e_lenT, e_lenL, e_lenC, e_ixS, e_ixT, e_ixL, e_ixC, e_slS, e_slT, e_slL, e_slC, e_itT, e_itL, e_truN, e_truI, e_truB, e_truL, e_truT, e_okN, e_okB, e_okI, e_okS, e_okL, e_okT, e_okC, e_tupN, e_tupB, e_tupI, e_tupS, e_tupL, e_tupT, e_tupC, e_strN, e_strB, e_strI, e_strS, e_strL, e_strT, e_strC, e_intN, e_intB, e_intI, e_intS, e_intL, e_intT, e_intC, e_boolN, e_boolB, e_boolI, e_boolS, e_boolL, e_boolT, e_boolC, e_lstN, e_lstB, e_lstI, e_lstS, e_lstL, e_lstT, e_lstC, e_nonN, e_nonB, e_nonI, e_nonS, e_nonL, e_nonT, e_wkS, e_wkL, e_wkT, e_wkC, e_join, e_inS, e_ninS, e_ofI, e_ofB, e_abs, e_lenF, e_ixF, e_itF, e_wkF, e_tfF, e_truF, e_repT, e_keyI, e_keyS]; try simp only [true_and, and_true, Nat.reduceLeDiff, reduceIte, reduceCtorEq, Bool.false_eq_true, if_true, if_false, not_false_eq_true, ite_true, ite_false, and_self])
      show (if (!true) = true then _ else _)
      rw [Bool.not_true, ifF]
      refine wh_mk rfl ⟨eqOk_str _ _, ?_⟩
      rw [eqv_same, ifF]
      have v : Vd (2 * hgtD ts + 1) (.tuple (datAll ts)) := vd_tup (docs_data ts ho).1
      have ez : txAll ts = z := hzt.symm
      refine wh_mk rfl ⟨_, rfl, ho, hc, hh, eqOk_str _ _, ?_⟩
      rw [ez, eqv_same, ifF]
      refine wh_mk rfl ⟨_, rfl, ho, hc, eqOk_str _ _, ?_⟩
      rw [ez, eqv_same, ifF]
      refine ⟨z, false, true, rfl, by omega, fun d3 S3 td3 e3 => ?_⟩
      rw [td3.one (.forest ts rfl hdu ho hzt)]
      have t9 := told_ne (show pureD (.tuple (datAll ts)) = true from pure_docs ts) v (by omega) (S := S3) (Q := fun d S' => wh (boolD d) fun b => if b = true then Qd (.bool false) S' else Ext S S' ∧ ∃ x1 x2 x3, [some (PyData.str z), some (.bool false), some (optN none), some (.tuple [.str (Str.ofString "told"), .tuple (datAll ts)])] = [some (.str z), x1, x2, x3]) (wh_mk rfl (iteF ⟨(ex.trans e2).trans e3, _, _, _, rfl⟩))
      exact t9
end
end
end K3

/-! strings joined and cut, as lists of signs -/
namespace K3
open PySem L2 Xr K1
theorem join_cat0 : ∀ ys : List Str, (Str.join (Str.ofString "") ys).cps.toList = (ys.map fun y => y.cps.toList).flatten
  | [] => rfl
  | [y] => by
    show y.cps.toList = [y.cps.toList].flatten
    simp
  | y :: y2 :: r => by
    have ih := join_cat0 (y2 :: r)
    have e : Str.join (Str.ofString "") (y :: y2 :: r) = y ++ Str.ofString "" ++ Str.join (Str.ofString "") (y2 :: r) := rfl
    have t0 : (Str.ofString "").cps.toList = [] := by decide +kernel
    rw [e, cps_app, cps_app, t0, List.append_nil, ih]
    rfl
theorem join_cat (ys : List Str) : (Txt.join (Str.ofString "") ys).cps.toList = (ys.map fun y => y.cps.toList).flatten := by
  show (Builtin.Str.glued (Str.ofString "") ys).cps.toList = _
  rw [StrLaws.glued_eq_join]
  exact join_cat0 ys
theorem cut_cps (z : Str) (lo hi : Option Int) : (cutS z lo hi).cps.toList = (z.cps.toList.drop (HT.sIx z.length 0 lo)).take (HT.sIx z.length z.length hi - HT.sIx z.length 0 lo) := by
  unfold cutS
  simp
theorem cut_pre {z : Str} {a : Nat} (h : a ≤ z.length) : (cutS z none (some (a : Int))).cps.toList = z.cps.toList.take a := by
  rw [cut_cps, HT.sIx_nat, HT.sIx_none, Nat.min_eq_left h, List.drop_zero, Nat.sub_zero]
theorem cut_suf {z : Str} {a : Nat} : (cutS z (some (a : Int)) none).cps.toList = z.cps.toList.drop a := by
  rw [cut_cps, HT.sIx_nat, HT.sIx_none]
  have l := cps_len z
  by_cases h : a ≤ z.length
  · rw [Nat.min_eq_left h]
    exact List.take_of_length_le (by rw [List.length_drop, l]; exact Nat.le_refl _)
  · rw [Nat.min_eq_right (by omega), Nat.sub_self, List.take_zero, List.drop_of_length_le (by omega)]
theorem cut_some {z : Str} {a b : Nat} : (cutS z (some (a : Int)) (some (b : Int))).cps.toList.length ≤ b - a := by
  rw [cut_cps, HT.sIx_nat, HT.sIx_nat, List.length_take, List.length_drop]
  omega
theorem cut_len {z : Str} {lo hi : Option Int} : (cutS z lo hi).length ≤ z.length := by
  rw [← cps_len, cut_cps, List.length_take, List.length_drop, cps_len]
  omega
theorem Bnd2.mk' {z : Str} {M : List Nat} {l d : Nat} (e : z.cps.toList = M) (h1 : M.length ≤ l) (h2 : dpx M 0 ≤ d) : Bnd2 z l d := ⟨by rw [← cps_len, e]; exact h1, by rw [e]; exact h2⟩
theorem dpx_out (L : List Nat) (a : Nat) : dpx (L.take a ++ L.drop (a + 1)) 0 ≤ dpx L 0 + 1 := by
  by_cases h : a < L.length
  · have e : L.drop a = L[a] :: L.drop (a + 1) := List.drop_eq_getElem_cons h
    have e2 : L = L.take a ++ L[a] :: L.drop (a + 1) := by rw [← e, List.take_append_drop]
    have := dpx_del (L.take a) L[a] (L.drop (a + 1))
    rw [← e2] at this
    exact this
  · rw [List.drop_of_length_le (by omega), List.append_nil, List.take_of_length_le (by omega)]
    omega
theorem c40_take (L : List Nat) (n : Nat) : c40 (L.take n) ≤ c40 L := by
  have e : L = L.take n ++ L.drop n := (List.take_append_drop n L).symm
  have := c40_app (L.take n) (L.drop n)
  rw [← e] at this
  omega
/-- one word of few signs -/
structure Wd1 (z : Str) : Prop where
  ln : z.length ≤ 10
  c4 : c40 z.cps.toList ≤ 1
theorem few_join : ∀ {ys : List Str}, (∀ y ∈ ys, Wd1 y) → (ys.map fun y => y.cps.toList).flatten.length ≤ 10 * ys.length ∧ c40 (ys.map fun y => y.cps.toList).flatten ≤ ys.length
  | [], _ => ⟨Nat.le_refl _, Nat.le_refl _⟩
  | y :: ys, h => by
    obtain ⟨a, b⟩ := few_join fun x hx => h x (List.mem_cons_of_mem _ hx)
    obtain ⟨c, d⟩ := h y List.mem_cons_self
    rw [List.map_cons, List.flatten_cons, List.length_append, c40_app, cps_len, List.length_cons]
    omega
theorem sum_len : ∀ {ys : List Str} {b : Nat}, (∀ y ∈ ys, y.length ≤ b) → (ys.map (·.length)).sum ≤ b * ys.length
  | [], _, _ => Nat.zero_le _
  | y :: ys, b, h => by
    have a := sum_len fun x hx => h x (List.mem_cons_of_mem _ hx)
    have c := h y List.mem_cons_self
    rw [List.map_cons, List.sum_cons, List.length_cons, Nat.mul_add]
    omega
end K3
namespace K3
open PySem L2 Xr K1
/-- of so many signs, with so many open brackets -/
structure Pb (z : Str) (l c : Nat) : Prop where
  ln : z.length ≤ l
  c4 : c40 z.cps.toList ≤ c
theorem Pb.app {x y : Str} {l c l' c' : Nat} (a : Pb x l c) (b : Pb y l' c') : Pb (x ++ y) (l + l') (c + c') := by
  have h1 := a.ln
  have h2 := b.ln
  have h3 := a.c4
  have h4 := b.c4
  refine ⟨?_, ?_⟩
  · rw [strLen_append]; omega
  · rw [cps_app, c40_app]; omega
theorem c40_zero : ∀ {cs : List Nat}, (∀ c ∈ cs, c ≠ 40) → c40 cs = 0
  | [], _ => rfl
  | c :: cs, h => by
    rw [c40_cons, if_neg (h c List.mem_cons_self), c40_zero fun x hx => h x (List.mem_cons_of_mem _ hx)]
theorem Pb.name {x : Str} (h : nameD (.str x) = true) : Pb x 8 0 := ⟨(name_facts h).2, by rw [c40_zero fun c hc => (sig_name h c hc).1]; exact Nat.le_refl _⟩
theorem Pb.bnd {z : Str} {l c : Nat} (a : Pb z l c) : Bnd2 z l c := ⟨a.ln, by have := dpx_c40 z.cps.toList 0; have := a.c4; omega⟩
/-- single signs joined -/
theorem sg_join : ∀ {cs : List Nat}, (∀ c ∈ cs, c ≠ 40) → Pb (Txt.join (Str.ofString "") (cs.map fun c => (⟨#[c]⟩ : Str))) cs.length 0 := fun {cs} h => by
  have e : (Txt.join (Str.ofString "") (cs.map fun c => (⟨#[c]⟩ : Str))).cps.toList = cs := by
    rw [join_cat, List.map_map]
    clear h
    induction cs with
    | nil => rfl
    | cons c cs ih =>
      rw [List.map_cons, List.flatten_cons, ih]
      rfl
  exact ⟨by rw [← cps_len, e]; exact Nat.le_refl _, by rw [e, c40_zero h]; exact Nat.le_refl _⟩
theorem sg_sum : ∀ cs : List Nat, ((cs.map fun c => (⟨#[c]⟩ : Str)).map (·.length)).sum = cs.length
  | [] => rfl
  | c :: cs => by
    rw [List.map_cons, List.map_cons, List.sum_cons, sg_sum cs, List.length_cons]
    show 1 + _ = _
    omega
end K3
namespace K3
open PySem L2 Xr K1
theorem dAdd_pb {a b : Str} {l c : Nat} (h : Pb (a ++ b) l c) (hl : l ≤ 1000000) {S : Sto} {Q : DK} (q : Q (.str (a ++ b)) S) : dAdd (.str a) (.str b) S Q := ⟨by have := h.ln; rw [strLen_append] at this; omega, q⟩
theorem tr_ask {t : Str} {l c : Nat} (b : Bnd2 t l c) (hl : l ≤ 880) (hc : c ≤ 31) {S : Sto} {Q : DK} {E : DX} (q : ∀ S', Ext S S' → Q (.bool true) S') : spTR 31 [.str t] S Q E :=
  ⟨t, rfl, Nat.le_trans b.ln hl, by decide, fun ts ho e => by
    obtain ⟨h1, h2⟩ := b.docs hl ho e
    exact ⟨h1, Nat.le_trans h2 hc⟩, q⟩
end K3

/-! strings drawn and bent -/
namespace K3
open PySem L2 Xr K1 Exv Grd
abbrev sSigns : Stmt := top 40
theorem scSigns : FnScope ["deal", "words", "many", "turn"] ["deal"] (defScope sSigns) := ⟨rfl, rfl, rfl, by decide +kernel, rfl, by decide +kernel, by decide +kernel⟩
abbrev sBent : Stmt := top 41
theorem scBent : FnScope ["deal", "text", "at", "form", "new"] ["deal", "text"] (defScope sBent) := ⟨rfl, rfl, rfl, by decide +kernel, rfl, by decide +kernel, by decide +kernel⟩
abbrev sWordR : Stmt := top 42
theorem scWordR : FnScope ["deal", "names", "word", "long", "text", "turn"] ["deal", "names"] (defScope sWordR) := ⟨rfl, rfl, rfl, by decide +kernel, rfl, by decide +kernel, by decide +kernel⟩
/-- a few drawn signs -/
structure Few (z : Str) : Prop where
  ln : z.length ≤ 50
  c4 : c40 z.cps.toList ≤ 5
def spSigns : SpD := fun ds S Q _ => ∃ n k, ds = [cel n] ∧ DealD S n k ∧ ∀ z S', Few z → MvD n k S S' → Q (.str z) S'
def spBent : SpD := fun ds S Q _ => ∃ (n k : Nat) (z : Str) (l d : Nat), ds = [cel n, .str z] ∧ DealD S n k ∧ Bnd2 z l d ∧ l ≤ 880 ∧ ∀ z' S', Bnd2 z' (l + 50) (d + 5) → MvD n k S S' → Q (.str z') S'
def spWordR : SpD := fun ds S Q _ => ∃ (n k : Nat) (ns : List Str), ds = [cel n, .list (ns.map PyData.str)] ∧ DealD S n k ∧ (∀ x ∈ ns, nameD (.str x) = true) ∧ 0 < ns.length ∧ ∀ S', MvD n k S S' → Q (.bool true) S'
structure LsTxt (K : PySem.W.Frag) (mg : Str → Option Value) (a_law_any a_law_of a_law_signs a_law_text_right : Addr) : Prop where
  n_range : mg "range" = none
  n_len : mg "len" = none
  g_law_any : mg "_law_any" = some (.ref a_law_any)
  k_law_any : PySem.W.keepIn K (.ref a_law_any) = true
  g_law_of : mg "_law_of" = some (.ref a_law_of)
  k_law_of : PySem.W.keepIn K (.ref a_law_of) = true
  g_law_signs : mg "_law_signs" = some (.ref a_law_signs)
  k_law_signs : PySem.W.keepIn K (.ref a_law_signs) = true
  g_law_text_right : mg "_law_text_right" = some (.ref a_law_text_right)
  k_law_text_right : PySem.W.keepIn K (.ref a_law_text_right) = true
section
variable {P : Program} {w : World} {K : PySem.W.Frag} {mg : Str → Option Value} {base : Heap} {a_law_any a_law_of a_law_signs a_law_text_right : Addr} {d1 d2 d3 d4 : FuncData}
theorem ok_signs {f : Addr} {fd : FuncData} (F : Fun K "_law_signs" "_law_signs" sSigns f fd) (T : LsTxt K mg a_law_any a_law_of a_law_signs a_law_text_right)
    (G_law_any : FnOk P w K mg base CX0 1 a_law_any d1 ["deal", "bound"] (spD K spAnyD)) (b_law_any : Binds K d1 ["deal", "bound"] [])
    (G_law_of : FnOk P w K mg base CX0 2 a_law_of d2 ["deal", "some"] (spD K spOfD)) (b_law_of : Binds K d2 ["deal", "some"] []) : FnOk P w K mg base CX0 3 f fd ["deal"] (spD K spSigns) := by
  refine dok F scSigns (fun ds S Q E h => ?_) fun cdv A outer s H Q E (hr : Room 2 _) => ⟨_, (qss_cons (qs_set (i := 1) scSigns.nd rfl (Or.inr rfl) (q_lst (q_cons q_str (q_cons q_str (q_cons q_str (q_cons q_str (q_cons q_str (q_cons q_str (q_cons q_str (q_cons q_str (q_cons q_str (q_cons q_str (q_cons q_str (q_cons q_str (q_cons q_str (q_cons q_str (q_cons q_str (q_cons q_str (q_cons q_str (q_cons q_str (q_cons q_str (q_cons q_str (q_cons q_str q_nil)))))))))))))))))))))))
      (qss_cons (qs_set (i := 2) scSigns.nd rfl (Or.inl rfl) (q_call hr G_law_of T.g_law_of T.k_law_of b_law_of (by rfl) (by omega) (q_cons (q_var (pv 0)) (q_cons (q_lst (q_cons q_int (q_cons q_int (q_cons q_int (q_cons q_int (q_cons (q_call hr G_law_any T.g_law_any T.k_law_any b_law_any (by rfl) (by omega) (q_cons (q_var (pv 0)) (q_cons q_int q_nil))) q_nil)))))) q_nil))))
      (qss_one (qs_ret (q_join q_str (q_lc (own := [("turn", 3)]) (by rfl) scSigns.nd (qi_range1 T.n_range (by rfl) (q_cons (q_var (pv 2)) q_nil)) (blkOk_by (own := [("turn", 3)]) (N := ["deal", "words", "many", "turn"]) (sc := defScope sSigns) (by decide +kernel)) (bnd_one (i := 3) (by decide)) (fun _ _ _ _ _ => (pg_name (i := 3) scSigns.nd rfl (Or.inl rfl))) (fun _ _ _ _ _ => qts_nil) (fun _ _ _ _ _ => (q_call hr G_law_of T.g_law_of T.k_law_of b_law_of (by rfl) (by omega) (q_cons (q_var (pv 0)) (q_cons (q_var (pv 1)) q_nil)))))))))), fun ds S Qd Ed h => ?_⟩
  · obtain ⟨n, k, rfl, _⟩ := h
    rfl
  · obtain ⟨n, k, rfl, D, q⟩ := h
    (dsimp only [dRetX, dDropX, dSetX, dAsgX, dFnX, dRaise, dTryAs, dTryOnly, dXf, dIsX, dPar3, dFnR, List.reverse_cons, List.reverse_nil, dDelT, mPop0, mPop, mApp, mExt, dFld, dNew, dDGet, dDIn, dZipT, dAll, dTupF, dIdx, dTupRg, dDc, dReprT, dEqT, dNeT, dFor, dLc, dWhile, dRange1, dRange2, dRange3, dEnumT, e_isB, e_tupD, dgUnl, dSeq, dIfS, dSet, dAsg, dRet, dRetN, dDrop, dNext, dPar, dVar, dC, dOp, dB, dTru, dtNot, dtAnd, dtOr, dAnd, dOr, dNot, dIfE, dNeg, dNil, dCons, dTup, dLst, dCel, dNoP, dPart, dSlice, dRevT, dRevL, dCall, on1, dTupOf, dLstOf, dCelOf, dIsi, dName, dgNil, dgCons, dgTup, dFn, dMet, dMet0, gt, st, startD, wh_some, dYes, dEq, dNe, List.map, List.length, List.replicate, List.append, List.cons_append, List.nil_append, dWalk, uns, un, tupNms, dNms, ifT, ifF, List.replicate_succ, List.replicate_zero, Nat.sub_self, Nat.reduceSub, Nat.reduceAdd, Nat.zero_add, Bool.not_true, Bool.not_false, e_addI, e_addS, e_addT, e_addL, e_i2, e_i2c, e_is, e_bool, e_cel, e_strD, e_lenS, e_lenT, e_lenL, e_lenC, e_ixS, e_ixT, e_ixL, e_ixC, e_slS, e_slT, e_slL, e_slC, e_itT, e_itL, e_truN, e_truI, e_truB, e_truL, e_truT, e_okN, e_okB, e_okI, e_okS, e_okL, e_okT, e_okC, e_tupN, e_tupB, e_tupI, e_tupS, e_tupL, e_tupT, e_tupC, e_strN, e_strB, e_strI, e_strS, e_strL, e_strT, e_strC, e_intN, e_intB, e_intI, e_intS, e_intL, e_intT, e_intC, e_boolN, e_boolB, e_boolI, e_boolS, e_boolL, e_boolT, e_boolC, e_lstN, e_lstB, e_lstI, e_lstS, e_lstL, e_lstT, e_lstC, e_nonN, e_nonB, e_nonI, e_nonS, e_nonL, e_nonT, e_wkS, e_wkL, e_wkT, e_wkC, e_join, e_inS, e_ninS, e_ofI, e_ofB, e_abs, e_lenF, e_ixF, e_itF, e_wkF, e_tfF, e_truF, e_repT, e_keyI, e_keyS]; try simp only [true_and, and_true, Nat.reduceLeDiff, reduceIte, reduceCtorEq, Bool.false_eq_true, if_true, if_false, not_false_eq_true, ite_true, ite_false, and_self])
    refine ⟨n, k, 6, rfl, D, by decide, by decide, fun r S1 r0 r1 m1 => ?_⟩
    (dsimp only [dRetX, dDropX, dSetX, dAsgX, dFnX, dRaise, dTryAs, dTryOnly, dXf, dIsX, dPar3, dFnR, List.reverse_cons, List.reverse_nil, dDelT, mPop0, mPop, mApp, mExt, dFld, dNew, dDGet, dDIn, dZipT, dAll, dTupF, dIdx, dTupRg, dDc, dReprT, dEqT, dNeT, dFor, dLc, dWhile, dRange1, dRange2, dRange3, dEnumT, e_isB, e_tupD, dgUnl, dSeq, dIfS, dSet, dAsg, dRet, dRetN, dDrop, dNext, dPar, dVar, dC, dOp, dB, dTru, dtNot, dtAnd, dtOr, dAnd, dOr, dNot, dIfE, dNeg, dNil, dCons, dTup, dLst, dCel, dNoP, dPart, dSlice, dRevT, dRevL, dCall, on1, dTupOf, dLstOf, dCelOf, dIsi, dName, dgNil, dgCons, dgTup, dFn, dMet, dMet0, gt, st, startD, wh_some, dYes, dEq, dNe, List.map, List.length, List.replicate, List.append, List.cons_append, List.nil_append, dWalk, uns, un, tupNms, dNms, ifT, ifF, List.replicate_succ, List.replicate_zero, Nat.sub_self, Nat.reduceSub, Nat.reduceAdd, Nat.zero_add, Bool.not_true, Bool.not_false, e_addI, e_addS, e_addT, e_addL, e_i2, e_i2c, e_is, e_bool, e_cel, e_strD, e_lenS, e_lenT, e_lenL, e_lenC, e_ixS, e_ixT, e_ixL, e_ixC, e_slS, e_slT, e_slL, e_slC, e_itT, e_itL, e_truN, e_truI, e_truB, e_truL, e_truT, e_okN, e_okB, e_okI, e_okS, e_okL, e_okT, e_okC, e_tupN, e_tupB, e_tupI, e_tupS, e_tupL, e_tupT, e_tupC, e_strN, e_strB, e_strI, e_strS, e_strL, e_strT, e_strC, e_intN, e_intB, e_intI, e_intS, e_intL, e_intT, e_intC, e_boolN, e_boolB, e_boolI, e_boolS, e_boolL, e_boolT, e_boolC, e_lstN, e_lstB, e_lstI, e_lstS, e_lstL, e_lstT, e_lstC, e_nonN, e_nonB, e_nonI, e_nonS, e_nonL, e_nonT, e_wkS, e_wkL, e_wkT, e_wkC, e_join, e_inS, e_ninS, e_ofI, e_ofB, e_abs, e_lenF, e_ixF, e_itF, e_wkF, e_tfF, e_truF, e_repT, e_keyI, e_keyS]; try simp only [true_and, and_true, Nat.reduceLeDiff, reduceIte, reduceCtorEq, Bool.false_eq_true, if_true, if_false, not_false_eq_true, ite_true, ite_false, and_self])
    refine ⟨n, k, _, rfl, m1.D, .inl ⟨_, rfl, Nat.zero_lt_succ _, (by show 5 < 1000000; decide), fun d S2 hd m2 => ?_⟩⟩
    have hj : ∃ j : Nat, d = .int (j : Nat) ∧ j ≤ 5 := by
      simp only [List.mem_cons, List.not_mem_nil, or_false] at hd
      rcases hd with e | e | e | e | e
      · exact ⟨1, e, by decide⟩
      · exact ⟨1, e, by decide⟩
      · exact ⟨1, e, by decide⟩
      · exact ⟨2, e, by decide⟩
      · exact ⟨r.toNat, by rw [e, Int.toNat_of_nonneg r0], by omega⟩
    obtain ⟨j, rfl, j5⟩ := hj
    dsimp only
    refine ⟨⟨by omega, by omega⟩, fun i acc S' => MvD n k S S' ∧ ∃ ys : List Str, acc = ys.map PyData.str ∧ ys.length = i ∧ i ≤ j ∧ ∀ y ∈ ys, Wd1 y, ⟨m1.trans m2, [], rfl, rfl, Nat.zero_le _, fun y h => by simp at h⟩, fun i acc S' ⟨_, ys, e, l, l2, _⟩ => by rw [e, List.length_map]; omega, ?_, ?_⟩
    · rintro i d acc S' hd ⟨m3, ys, rfl, l, l2, hy⟩
      obtain ⟨hi, rfl⟩ := rangeD_at hd
      refine ⟨n, k, _, rfl, m3.D, .inl ⟨_, rfl, by decide, by decide, fun d S4 hd m4 => ?_⟩⟩
      have hw : ∃ y, d = .str y ∧ Wd1 y := by
        simp only [List.mem_cons, List.not_mem_nil, or_false] at hd
        rcases hd with e | e | e | e | e | e | e | e | e | e | e | e | e | e | e | e | e | e | e | e | e <;> exact ⟨_, e, ⟨by decide +kernel, by decide +kernel⟩⟩
      obtain ⟨y, rfl, hw⟩ := hw
      refine ⟨m3.trans m4, ys ++ [y], by rw [List.map_append]; rfl, by rw [List.length_append, l]; rfl, by omega, fun x hx => ?_⟩
      rcases List.mem_append.mp hx with hx | hx
      · exact hy x hx
      · rw [List.mem_singleton.mp hx]
        exact hw
    · rintro acc S' ⟨m3, ys, rfl, l, l2, hy⟩
      rw [rangeD_len] at l
      obtain ⟨a, b⟩ := few_join hy
      have lj : ys.length ≤ 5 := by omega
      have l0 : (Str.ofString "").length = 0 := by decide +kernel
      refine wh_mk (strsD_map ys) ⟨?_, q _ _ ⟨?_, ?_⟩ m3⟩
      · have := sum_len (b := 10) fun y h => (hy y h).ln
        rw [l0, Nat.mul_zero]
        omega
      · rw [← cps_len, join_cat]
        omega
      · rw [join_cat]
        omega
theorem ok_bent {f : Addr} {fd : FuncData} (F : Fun K "_law_bent" "_law_bent" sBent f fd) (T : LsTxt K mg a_law_any a_law_of a_law_signs a_law_text_right)
    (G_law_any : FnOk P w K mg base CX0 1 a_law_any d1 ["deal", "bound"] (spD K spAnyD)) (b_law_any : Binds K d1 ["deal", "bound"] [])
    (G_law_signs : FnOk P w K mg base CX0 3 a_law_signs d3 ["deal"] (spD K spSigns)) (b_law_signs : Binds K d3 ["deal"] []) : FnOk P w K mg base CX0 4 f fd ["deal", "text"] (spD K spBent) := by
  refine dok F scBent (fun ds S Q E h => ?_) fun cdv A outer s H Q E (hr : Room 3 _) => ⟨_, (qss_cons (qs_par3 (i := 2) (j := 3) (l := 4) (by rfl) scBent.nd rfl rfl rfl (by decide) (by decide) (by decide) rfl rfl rfl (q_cons (q_call hr G_law_any T.g_law_any T.k_law_any b_law_any (by rfl) (by omega) (q_cons (q_var (pv 0)) (q_cons (q_add (q_len T.n_len (by rfl) (q_cons (q_var (pv 1)) q_nil)) q_int) q_nil))) (q_cons (q_call hr G_law_any T.g_law_any T.k_law_any b_law_any (by rfl) (by omega) (q_cons (q_var (pv 0)) (q_cons q_int q_nil))) (q_cons (q_call hr G_law_signs T.g_law_signs T.k_law_signs b_law_signs (by rfl) (by omega) (q_cons (q_var (pv 0)) q_nil)) q_nil))) (by rfl))
      (qss_cons (qs_if (qt_cmp op_lt snd_lt (q_var (pv 3)) q_int (nomark _))
      (qss_one (qs_ret (q_add (q_add (q_sl false (q_var (pv 1)) qo_none (qo_some (q_var (pv 2)))) (q_sl false (q_var (pv 4)) qo_none (qo_some q_int))) (q_sl false (q_var (pv 1)) (qo_some (q_add (q_var (pv 2)) q_int)) qo_none))))
      qss_nil)
      (qss_cons (qs_if (qt_cmp op_lt snd_lt (q_var (pv 3)) q_int (nomark _))
      (qss_one (qs_ret (q_add (q_add (q_sl false (q_var (pv 1)) qo_none (qo_some (q_var (pv 2)))) (q_var (pv 4))) (q_sl false (q_var (pv 1)) (qo_some (q_var (pv 2))) qo_none))))
      qss_nil)
      (qss_cons (qs_if (qt_cmp (op_eqA (u64 hr)) snd_eq (q_var (pv 3)) q_int (nomark _))
      (qss_one (qs_ret (q_add (q_sl false (q_var (pv 1)) qo_none (qo_some (q_var (pv 2)))) (q_sl false (q_var (pv 1)) (qo_some (q_add (q_var (pv 2)) q_int)) qo_none))))
      qss_nil)
      (qss_cons (qs_if (qt_cmp (op_eqA (u64 hr)) snd_eq (q_var (pv 3)) q_int (nomark _))
      (qss_one (qs_ret (q_sl false (q_var (pv 1)) qo_none (qo_some (q_var (pv 2))))))
      qss_nil)
      (qss_one (qs_ret (q_if (qt_cmp (op_eqA (u64 hr)) snd_eq (q_var (pv 3)) q_int (nomark _)) (q_add (q_add (q_sl false (q_var (pv 1)) qo_none (qo_some (q_var (pv 2)))) (q_sl false (q_var (pv 1)) (qo_some (q_var (pv 2))) (qo_some (q_add (q_var (pv 2)) q_int)))) (q_sl false (q_var (pv 1)) (qo_some (q_var (pv 2))) qo_none)) (q_add (q_var (pv 1)) (q_var (pv 4))))))))))), fun ds S Qd Ed h => ?_⟩
  · obtain ⟨n, k, z, l, d, rfl, _⟩ := h
    rfl
  · obtain ⟨n, k, z, l, d, rfl, D, b, hl, q⟩ := h
    (dsimp only [dRetX, dDropX, dSetX, dAsgX, dFnX, dRaise, dTryAs, dTryOnly, dXf, dIsX, dPar3, dFnR, List.reverse_cons, List.reverse_nil, dDelT, mPop0, mPop, mApp, mExt, dFld, dNew, dDGet, dDIn, dZipT, dAll, dTupF, dIdx, dTupRg, dDc, dReprT, dEqT, dNeT, dFor, dLc, dWhile, dRange1, dRange2, dRange3, dEnumT, e_isB, e_tupD, dgUnl, dSeq, dIfS, dSet, dAsg, dRet, dRetN, dDrop, dNext, dPar, dVar, dC, dOp, dB, dTru, dtNot, dtAnd, dtOr, dAnd, dOr, dNot, dIfE, dNeg, dNil, dCons, dTup, dLst, dCel, dNoP, dPart, dSlice, dRevT, dRevL, dCall, on1, dTupOf, dLstOf, dCelOf, dIsi, dName, dgNil, dgCons, dgTup, dFn, dMet, dMet0, gt, st, startD, wh_some, dYes, dEq, dNe, List.map, List.length, List.replicate, List.append, List.cons_append, List.nil_append, dWalk, uns, un, tupNms, dNms, ifT, ifF, List.replicate_succ, List.replicate_zero, Nat.sub_self, Nat.reduceSub, Nat.reduceAdd, Nat.zero_add, Bool.not_true, Bool.not_false, e_addI, e_addS, e_addT, e_addL, e_i2, e_i2c, e_is, e_bool, e_cel, e_strD, e_lenS, e_lenT, e_lenL, e_lenC, e_ixS, e_ixT, e_ixL, e_ixC, e_slS, e_slT, e_slL, e_slC, e_itT, e_itL, e_truN, e_truI, e_truB, e_truL, e_truT, e_okN, e_okB, e_okI, e_okS, e_okL, e_okT, e_okC, e_tupN, e_tupB, e_tupI, e_tupS, e_tupL, e_tupT, e_tupC, e_strN, e_strB, e_strI, e_strS, e_strL, e_strT, e_strC, e_intN, e_intB, e_intI, e_intS, e_intL, e_intT, e_intC, e_boolN, e_boolB, e_boolI, e_boolS, e_boolL, e_boolT, e_boolC, e_lstN, e_lstB, e_lstI, e_lstS, e_lstL, e_lstT, e_lstC, e_nonN, e_nonB, e_nonI, e_nonS, e_nonL, e_nonT, e_wkS, e_wkL, e_wkT, e_wkC, e_join, e_inS, e_ninS, e_ofI, e_ofB, e_abs, e_lenF, e_ixF, e_itF, e_wkF, e_tfF, e_truF, e_repT, e_keyI, e_keyS]; try simp only [true_and, and_true, Nat.reduceLeDiff, reduceIte, reduceCtorEq, Bool.false_eq_true, if_true, if_false, not_false_eq_true, ite_true, ite_false, and_self])
    have bl := b.ln
    have bd := b.dp
    have lL := cps_len z
    refine ⟨by omega, n, k, _, rfl, D, by omega, by omega, fun r S1 r0 r1 m1 => ?_⟩
    obtain ⟨a, rfl⟩ : ∃ a : Nat, r = (a : Nat) := ⟨r.toNat, (Int.toNat_of_nonneg r0).symm⟩
    have la : a ≤ z.length := by omega
    refine ⟨n, k, 8, rfl, m1.D, by decide, by decide, fun fm S2 f0 f1 m2 => ?_⟩
    refine ⟨n, k, rfl, m2.D, fun new S3 nw m3 => ?_⟩
    have m9 := (m1.trans m2).trans m3
    obtain ⟨nl, nc⟩ := nw
    rw [← cps_len] at nl
    have q' : ∀ (z' : Str) (M : List Nat), z'.cps.toList = M → M.length ≤ l + 50 → dpx M 0 ≤ d + 5 → Qd (.str z') S3 := fun z' M e h1 h2 => q z' S3 (Bnd2.mk' e h1 h2) m9
    have ea : ((a : Int) + 1) = ((a + 1 : Nat) : Int) := by omega
    have ea3 : ((a : Int) + 3) = ((a + 3 : Nat) : Int) := by omega
    have lt : (z.cps.toList.take a).length ≤ l := by rw [List.length_take]; omega
    have l1 : ∀ lo hi, (cutS z lo hi).length ≤ 880 := fun lo hi => Nat.le_trans cut_len (by omega)
    have ln : new.length ≤ 50 := by rw [← cps_len]; exact nl
    have ed := List.take_append_drop a z.cps.toList
    (dsimp only [dRetX, dDropX, dSetX, dAsgX, dFnX, dRaise, dTryAs, dTryOnly, dXf, dIsX, dPar3, dFnR, List.reverse_cons, List.reverse_nil, dDelT, mPop0, mPop, mApp, mExt, dFld, dNew, dDGet, dDIn, dZipT, dAll, dTupF, dIdx, dTupRg, dDc, dReprT, dEqT, dNeT, dFor, dLc, dWhile, dRange1, dRange2, dRange3, dEnumT, e_isB, e_tupD, dgUnl, dSeq, dIfS, dSet, dAsg, dRet, dRetN, dDrop, dNext, dPar, dVar, dC, dOp, dB, dTru, dtNot, dtAnd, dtOr, dAnd, dOr, dNot, dIfE, dNeg, dNil, dCons, dTup, dLst, dCel, dNoP, dPart, dSlice, dRevT, dRevL, dCall, on1, dTupOf, dLstOf, dCelOf, dIsi, dName, dgNil, dgCons, dgTup, dFn, dMet, dMet0, gt, st, startD, wh_some, dYes, dEq, dNe, List.map, List.length, List.replicate, List.append, List.cons_append, List.nil_append, dWalk, uns, un, tupNms, dNms, ifT, ifF, List.replicate_succ, List.replicate_zero, Nat.sub_self, Nat.reduceSub, Nat.reduceAdd, Nat.zero_add, Bool.not_true, Bool.not_false, e_addI, e_addS, e_addT, e_addL, e_i2, e_i2c, e_is, e_bool, e_cel, e_strD, e_lenS, e_lenT, e_lenL, e_lenC, e_ixS, e_ixT, e_ixL, e_ixC, e_slS, e_slT, e_slL, e_slC, e_itT, e_itL, e_truN, e_truI, e_truB, e_truL, e_truT, e_okN, e_okB, e_okI, e_okS, e_okL, e_okT, e_okC, e_tupN, e_tupB, e_tupI, e_tupS, e_tupL, e_tupT, e_tupC, e_strN, e_strB, e_strI, e_strS, e_strL, e_strT, e_strC, e_intN, e_intB, e_intI, e_intS, e_intL, e_intT, e_intC, e_boolN, e_boolB, e_boolI, e_boolS, e_boolL, e_boolT, e_boolC, e_lstN, e_lstB, e_lstI, e_lstS, e_lstL, e_lstT, e_lstC, e_nonN, e_nonB, e_nonI, e_nonS, e_nonL, e_nonT, e_wkS, e_wkL, e_wkT, e_wkC, e_join, e_inS, e_ninS, e_ofI, e_ofB, e_abs, e_lenF, e_ixF, e_itF, e_wkF, e_tfF, e_truF, e_repT, e_keyI, e_keyS]; try simp only [true_and, and_true, Nat.reduceLeDiff, reduceIte, reduceCtorEq, Bool.false_eq_true, if_true, if_false, not_false_eq_true, ite_true, ite_false, and_self])
    have e1 : ∀ x y : Str, (x ++ y).length = x.length + y.length := strLen_append
    have pre := cut_pre (z := z) (a := a) la
    have lo1 := l1 none (some (a : Int))
    by_cases h2 : fm < 2
    · rw [decide_eq_true h2, ifT]
      have lo2 : (cutS new none (some 1)).length ≤ 50 := Nat.le_trans cut_len ln
      have lo3 := l1 (some ((a : Int) + 1)) none
      refine ⟨by omega, by omega, by omega, by omega, by rw [e1]; omega, ?_⟩
      have en : (cutS new none (some 1)).cps.toList = new.cps.toList.take 1 := by
        rw [cut_cps, show (some (1 : Int)) = some ((1 : Nat) : Int) from rfl, HT.sIx_nat, HT.sIx_none, List.drop_zero, Nat.sub_zero]
        by_cases h : 1 ≤ new.length
        · rw [Nat.min_eq_left h]
        · rw [Nat.min_eq_right (by omega), List.take_of_length_le (by rw [cps_len]; omega), List.take_of_length_le (by rw [cps_len]; omega)]
      rw [ea]
      refine q' _ (z.cps.toList.take a ++ new.cps.toList.take 1 ++ z.cps.toList.drop (a + 1)) ?_ ?_ ?_
      · rw [cps_app, cps_app, pre, en, cut_suf]
      · rw [List.length_append, List.length_append, List.length_take, List.length_take, List.length_drop]
        omega
      · have := dpx_ins (z.cps.toList.take a) (new.cps.toList.take 1) (z.cps.toList.drop (a + 1))
        have h9 := dpx_out z.cps.toList a
        have h8 := c40_len (new.cps.toList.take 1)
        rw [List.length_take] at h8
        omega
    rw [decide_eq_false h2, ifF]
    by_cases h4 : fm < 4
    · rw [decide_eq_true h4, ifT]
      have lo3 := l1 (some (a : Int)) none
      refine ⟨by omega, by omega, by omega, by rw [e1]; omega, ?_⟩
      refine q' _ (z.cps.toList.take a ++ new.cps.toList ++ z.cps.toList.drop a) ?_ ?_ ?_
      · rw [cps_app, cps_app, pre, cut_suf]
      · have := congrArg List.length ed
        rw [List.length_append] at this
        rw [List.length_append, List.length_append]
        omega
      · have := dpx_ins (z.cps.toList.take a) new.cps.toList (z.cps.toList.drop a)
        rw [ed] at this
        omega
    rw [decide_eq_false h4, ifF]
    refine ⟨eqOk_int _ _, ?_⟩
    rw [eqv_intD]
    by_cases h5 : fm = 4
    · rw [decide_eq_true h5, ifT]
      have lo3 := l1 (some ((a : Int) + 1)) none
      refine ⟨by omega, by omega, by omega, ?_⟩
      rw [ea]
      refine q' _ (z.cps.toList.take a ++ z.cps.toList.drop (a + 1)) ?_ ?_ ?_
      · rw [cps_app, pre, cut_suf]
      · rw [List.length_append, List.length_take, List.length_drop]
        omega
      · have h9 := dpx_out z.cps.toList a
        omega
    rw [decide_eq_false h5, ifF]
    refine ⟨eqOk_int _ _, ?_⟩
    rw [eqv_intD]
    by_cases h6 : fm = 5
    · rw [decide_eq_true h6, ifT]
      refine ⟨by omega, ?_⟩
      refine q' _ (z.cps.toList.take a) pre (by omega) ?_
      have := dpx_pre (z.cps.toList.take a) (z.cps.toList.drop a)
      rw [ed] at this
      omega
    rw [decide_eq_false h6, ifF]
    refine ⟨eqOk_int _ _, ?_⟩
    rw [eqv_intD]
    by_cases h7 : fm = 6
    · rw [decide_eq_true h7, ifT]
      have lo3 := l1 (some (a : Int)) none
      have lo4 := l1 (some (a : Int)) (some ((a : Int) + 3))
      refine ⟨by omega, by omega, by omega, by omega, by rw [e1]; omega, ?_⟩
      rw [ea3]
      have l3 : (cutS z (some (a : Int)) (some ((a + 3 : Nat) : Int))).cps.toList.length ≤ 3 := by
        have := cut_some (z := z) (a := a) (b := a + 3)
        omega
      refine q' _ (z.cps.toList.take a ++ (cutS z (some (a : Int)) (some ((a + 3 : Nat) : Int))).cps.toList ++ z.cps.toList.drop a) ?_ ?_ ?_
      · rw [cps_app, cps_app, pre, cut_suf]
      · have := congrArg List.length ed
        rw [List.length_append] at this
        rw [List.length_append, List.length_append]
        omega
      · have := dpx_ins (z.cps.toList.take a) (cutS z (some (a : Int)) (some ((a + 3 : Nat) : Int))).cps.toList (z.cps.toList.drop a)
        rw [ed] at this
        have h8 := c40_len (cutS z (some (a : Int)) (some ((a + 3 : Nat) : Int))).cps.toList
        omega
    rw [decide_eq_false h7, ifF]
    refine ⟨by omega, ?_⟩
    refine q' _ (z.cps.toList ++ new.cps.toList ++ []) ?_ ?_ ?_
    · rw [cps_app, List.append_nil]
    · rw [List.append_nil, List.length_append]
      omega
    · have := dpx_ins z.cps.toList new.cps.toList []
      rw [List.append_nil z.cps.toList] at this
      omega
theorem ok_wordR (n0 : Nat) {f : Addr} {fd : FuncData} (F : Fun K "_law_word_right" "_law_word_right" sWordR f fd) (T : LsTxt K mg a_law_any a_law_of a_law_signs a_law_text_right)
    (G_law_any : FnOk P w K mg base CX0 1 a_law_any d1 ["deal", "bound"] (spD K spAnyD)) (b_law_any : Binds K d1 ["deal", "bound"] [])
    (G_law_of : FnOk P w K mg base CX0 2 a_law_of d2 ["deal", "some"] (spD K spOfD)) (b_law_of : Binds K d2 ["deal", "some"] [])
    (G_law_text_right : FnG P w K mg base CX0 (2 * 31 + 10) a_law_text_right d4 ["text"] (spD K (spTR 31))) (b_law_text_right : Binds K d4 ["text"] []) : FnG P w K mg base CX0 74 f fd ["deal", "names"] (spD K spWordR) := by
  refine dokG F scWordR (fun ds S Q E h => ?_) fun cdv A outer s H Q E gd (hr : Room 73 _) => ⟨_, (qss_cons (qs_set (i := 2) scWordR.nd rfl (Or.inl rfl) (q_join q_str (q_lc (own := [("turn", 5)]) (by rfl) scWordR.nd (qi_range1 T.n_range (by rfl) (q_cons (q_add q_int (q_call hr G_law_any T.g_law_any T.k_law_any b_law_any (by rfl) (by omega) (q_cons (q_var (pv 0)) (q_cons q_int q_nil)))) q_nil)) (blkOk_by (own := [("turn", 5)]) (N := ["deal", "names", "word", "long", "text", "turn"]) (sc := defScope sWordR) (by decide +kernel)) (bnd_one (i := 5) (by decide)) (fun _ _ _ _ _ => (pg_name (i := 5) scWordR.nd rfl (Or.inl rfl))) (fun _ _ _ _ _ => qts_nil) (fun _ _ _ _ _ => (q_call hr G_law_of T.g_law_of T.k_law_of b_law_of (by rfl) (by omega) (q_cons (q_var (pv 0)) (q_cons q_str q_nil)))))))
      (qss_cons (qs_set (i := 3) scWordR.nd rfl (Or.inl rfl) (q_join q_str (q_lc (own := [("turn", 5)]) (by rfl) scWordR.nd (qi_range1 T.n_range (by rfl) (q_cons (q_add q_int (q_call hr G_law_any T.g_law_any T.k_law_any b_law_any (by rfl) (by omega) (q_cons (q_var (pv 0)) (q_cons q_int q_nil)))) q_nil)) (blkOk_by (own := [("turn", 5)]) (N := ["deal", "names", "word", "long", "text", "turn"]) (sc := defScope sWordR) (by decide +kernel)) (bnd_one (i := 5) (by decide)) (fun _ _ _ _ _ => (pg_name (i := 5) scWordR.nd rfl (Or.inl rfl))) (fun _ _ _ _ _ => qts_nil) (fun _ _ _ _ _ => (q_call hr G_law_of T.g_law_of T.k_law_of b_law_of (by rfl) (by omega) (q_cons (q_var (pv 0)) (q_cons q_str q_nil)))))))
      (qss_cons (qs_for PassesOwn.leaving rfl (qi_any (q_tup (q_cons (q_add (q_var (pv 2)) q_str) (q_cons (q_add (q_add (q_add (q_at (q_var (pv 1)) q_int (fun _ _ => rfl)) q_str) (q_var (pv 3))) q_str) (q_cons (q_add (q_add q_str (q_var (pv 3))) q_str) (q_cons (q_var (pv 2)) (q_cons (q_add (q_add (q_at (q_var (pv 1)) q_int (fun _ _ => rfl)) q_str) (q_var (pv 2))) (q_cons (q_add (q_add (q_add (q_add (q_add (q_at (q_var (pv 1)) q_int (fun _ _ => rfl)) q_str) (q_var (pv 2))) q_str) q_str) (q_var (pv 3))) q_nil)))))))) (qg_name (pg_name (i := 4) scWordR.nd rfl (Or.inl rfl)))
      (qss_one (qs_if (qt_not (qt_tru (q_callG gd hr G_law_text_right T.g_law_text_right T.k_law_text_right b_law_text_right (by rfl) (by omega) (q_cons (q_var (pv 4)) q_nil)) (by intro _; rfl)))
      (qss_one (qs_ret q_bl))
      qss_nil)))
      (qss_one (qs_ret q_bl))))), fun ds S Qd Ed h => ?_⟩
  · obtain ⟨n, k, ns, rfl, _⟩ := h
    rfl
  · obtain ⟨n, k, ns, rfl, D, hn, hl, q⟩ := h
    (dsimp only [dRetX, dDropX, dSetX, dAsgX, dFnX, dRaise, dTryAs, dTryOnly, dXf, dIsX, dPar3, dFnR, List.reverse_cons, List.reverse_nil, dDelT, mPop0, mPop, mApp, mExt, dFld, dNew, dDGet, dDIn, dZipT, dAll, dTupF, dIdx, dTupRg, dDc, dReprT, dEqT, dNeT, dFor, dLc, dWhile, dRange1, dRange2, dRange3, dEnumT, e_isB, e_tupD, dgUnl, dSeq, dIfS, dSet, dAsg, dRet, dRetN, dDrop, dNext, dPar, dVar, dC, dOp, dB, dTru, dtNot, dtAnd, dtOr, dAnd, dOr, dNot, dIfE, dNeg, dNil, dCons, dTup, dLst, dCel, dNoP, dPart, dSlice, dRevT, dRevL, dCall, on1, dTupOf, dLstOf, dCelOf, dIsi, dName, dgNil, dgCons, dgTup, dFn, dMet, dMet0, gt, st, startD, wh_some, dYes, dEq, dNe, List.map, List.length, List.replicate, List.append, List.cons_append, List.nil_append, dWalk, uns, un, tupNms, dNms, ifT, ifF, List.replicate_succ, List.replicate_zero, Nat.sub_self, Nat.reduceSub, Nat.reduceAdd, Nat.zero_add, Bool.not_true, Bool.not_false, e_addI, e_addS, e_addT, e_addL, e_i2, e_i2c, e_is, e_bool, e_cel, e_strD, e_lenS, e_lenT, e_lenL, e_lenC, e_ixS, e_ixT, e_ixL, e_ixC, e_slS, e_slT, e_slL, e_slC, e_itT, e_itL, e_truN, e_truI, e_truB, e_truL, e_truT, e_okN, e_okB, e_okI, e_okS, e_okL, e_okT, e_okC, e_tupN, e_tupB, e_tupI, e_tupS, e_tupL, e_tupT, e_tupC, e_strN, e_strB, e_strI, e_strS, e_strL, e_strT, e_strC, e_intN, e_intB, e_intI, e_intS, e_intL, e_intT, e_intC, e_boolN, e_boolB, e_boolI, e_boolS, e_boolL, e_boolT, e_boolC, e_lstN, e_lstB, e_lstI, e_lstS, e_lstL, e_lstT, e_lstC, e_nonN, e_nonB, e_nonI, e_nonS, e_nonL, e_nonT, e_wkS, e_wkL, e_wkT, e_wkC, e_join, e_inS, e_ninS, e_ofI, e_ofB, e_abs, e_lenF, e_ixF, e_itF, e_wkF, e_tfF, e_truF, e_repT, e_keyI, e_keyS]; try simp only [true_and, and_true, Nat.reduceLeDiff, reduceIte, reduceCtorEq, Bool.false_eq_true, if_true, if_false, not_false_eq_true, ite_true, ite_false, and_self])
    have l0 : (Str.ofString "").length = 0 := by decide +kernel
    refine ⟨n, k, 4, rfl, D, by decide, by decide, fun r S1 r0 r1 m1 => ?_⟩
    obtain ⟨a, rfl⟩ : ∃ a : Nat, r = (a : Nat) := ⟨r.toNat, (Int.toNat_of_nonneg r0).symm⟩
    (dsimp only [dRetX, dDropX, dSetX, dAsgX, dFnX, dRaise, dTryAs, dTryOnly, dXf, dIsX, dPar3, dFnR, List.reverse_cons, List.reverse_nil, dDelT, mPop0, mPop, mApp, mExt, dFld, dNew, dDGet, dDIn, dZipT, dAll, dTupF, dIdx, dTupRg, dDc, dReprT, dEqT, dNeT, dFor, dLc, dWhile, dRange1, dRange2, dRange3, dEnumT, e_isB, e_tupD, dgUnl, dSeq, dIfS, dSet, dAsg, dRet, dRetN, dDrop, dNext, dPar, dVar, dC, dOp, dB, dTru, dtNot, dtAnd, dtOr, dAnd, dOr, dNot, dIfE, dNeg, dNil, dCons, dTup, dLst, dCel, dNoP, dPart, dSlice, dRevT, dRevL, dCall, on1, dTupOf, dLstOf, dCelOf, dIsi, dName, dgNil, dgCons, dgTup, dFn, dMet, dMet0, gt, st, startD, wh_some, dYes, dEq, dNe, List.map, List.length, List.replicate, List.append, List.cons_append, List.nil_append, dWalk, uns, un, tupNms, dNms, ifT, ifF, List.replicate_succ, List.replicate_zero, Nat.sub_self, Nat.reduceSub, Nat.reduceAdd, Nat.zero_add, Bool.not_true, Bool.not_false, e_addI, e_addS, e_addT, e_addL, e_i2, e_i2c, e_is, e_bool, e_cel, e_strD, e_lenS, e_lenT, e_lenL, e_lenC, e_ixS, e_ixT, e_ixL, e_ixC, e_slS, e_slT, e_slL, e_slC, e_itT, e_itL, e_truN, e_truI, e_truB, e_truL, e_truT, e_okN, e_okB, e_okI, e_okS, e_okL, e_okT, e_okC, e_tupN, e_tupB, e_tupI, e_tupS, e_tupL, e_tupT, e_tupC, e_strN, e_strB, e_strI, e_strS, e_strL, e_strT, e_strC, e_intN, e_intB, e_intI, e_intS, e_intL, e_intT, e_intC, e_boolN, e_boolB, e_boolI, e_boolS, e_boolL, e_boolT, e_boolC, e_lstN, e_lstB, e_lstI, e_lstS, e_lstL, e_lstT, e_lstC, e_nonN, e_nonB, e_nonI, e_nonS, e_nonL, e_nonT, e_wkS, e_wkL, e_wkT, e_wkC, e_join, e_inS, e_ninS, e_ofI, e_ofB, e_abs, e_lenF, e_ixF, e_itF, e_wkF, e_tfF, e_truF, e_repT, e_keyI, e_keyS]; try simp only [true_and, and_true, Nat.reduceLeDiff, reduceIte, reduceCtorEq, Bool.false_eq_true, if_true, if_false, not_false_eq_true, ite_true, ite_false, and_self])
    refine ⟨⟨by omega, by omega⟩, fun i acc S' => MvD n k S S' ∧ ∃ cs : List Nat, acc = (cs.map fun c => (⟨#[c]⟩ : Str)).map PyData.str ∧ cs.length = i ∧ i ≤ 10 ∧ ∀ c ∈ cs, c ≠ 40, ⟨m1, [], rfl, rfl, by decide, fun c h => by simp at h⟩, fun i acc S' ⟨_, cs, e, l, l2, _⟩ => by rw [e, List.length_map, List.length_map]; omega, ?_, ?_⟩
    · rintro i d acc S' hd ⟨m3, cs, rfl, l, l2, hy⟩
      obtain ⟨hi, rfl⟩ := rangeD_at hd
      refine ⟨n, k, _, rfl, m3.D, .inr ⟨_, rfl, by decide +kernel, by decide +kernel, fun c S4 hc m4 => ?_⟩⟩
      refine ⟨m3.trans m4, cs ++ [c], by rw [List.map_append, List.map_append]; rfl, by rw [List.length_append, l]; rfl, by omega, fun x hx => ?_⟩
      rcases List.mem_append.mp hx with hx | hx
      · exact hy x hx
      · rw [List.mem_singleton.mp hx]
        intro e
        rw [e] at hc
        exact absurd hc (by decide +kernel)
    rintro acc S2 ⟨m2, c1, rfl, l1, l12, hc1⟩
    refine wh_mk (strsD_map _) ⟨by rw [sg_sum, l0, Nat.mul_zero]; omega, ?_⟩
    have w1 := (sg_join hc1)
    have w1' : Pb (Txt.join (Str.ofString "") (c1.map fun c => (⟨#[c]⟩ : Str))) 10 0 := ⟨Nat.le_trans w1.ln (by omega), w1.c4⟩
    generalize Txt.join (Str.ofString "") (c1.map fun c => (⟨#[c]⟩ : Str)) = word at w1' ⊢
    refine ⟨n, k, 4, rfl, m2.D, by decide, by decide, fun r S3 r0 r1 m3 => ?_⟩
    obtain ⟨b, rfl⟩ : ∃ b : Nat, r = (b : Nat) := ⟨r.toNat, (Int.toNat_of_nonneg r0).symm⟩
    (dsimp only [dRetX, dDropX, dSetX, dAsgX, dFnX, dRaise, dTryAs, dTryOnly, dXf, dIsX, dPar3, dFnR, List.reverse_cons, List.reverse_nil, dDelT, mPop0, mPop, mApp, mExt, dFld, dNew, dDGet, dDIn, dZipT, dAll, dTupF, dIdx, dTupRg, dDc, dReprT, dEqT, dNeT, dFor, dLc, dWhile, dRange1, dRange2, dRange3, dEnumT, e_isB, e_tupD, dgUnl, dSeq, dIfS, dSet, dAsg, dRet, dRetN, dDrop, dNext, dPar, dVar, dC, dOp, dB, dTru, dtNot, dtAnd, dtOr, dAnd, dOr, dNot, dIfE, dNeg, dNil, dCons, dTup, dLst, dCel, dNoP, dPart, dSlice, dRevT, dRevL, dCall, on1, dTupOf, dLstOf, dCelOf, dIsi, dName, dgNil, dgCons, dgTup, dFn, dMet, dMet0, gt, st, startD, wh_some, dYes, dEq, dNe, List.map, List.length, List.replicate, List.append, List.cons_append, List.nil_append, dWalk, uns, un, tupNms, dNms, ifT, ifF, List.replicate_succ, List.replicate_zero, Nat.sub_self, Nat.reduceSub, Nat.reduceAdd, Nat.zero_add, Bool.not_true, Bool.not_false, e_addI, e_addS, e_addT, e_addL, e_i2, e_i2c, e_is, e_bool, e_cel, e_strD, e_lenS, e_lenT, e_lenL, e_lenC, e_ixS, e_ixT, e_ixL, e_ixC, e_slS, e_slT, e_slL, e_slC, e_itT, e_itL, e_truN, e_truI, e_truB, e_truL, e_truT, e_okN, e_okB, e_okI, e_okS, e_okL, e_okT, e_okC, e_tupN, e_tupB, e_tupI, e_tupS, e_tupL, e_tupT, e_tupC, e_strN, e_strB, e_strI, e_strS, e_strL, e_strT, e_strC, e_intN, e_intB, e_intI, e_intS, e_intL, e_intT, e_intC, e_boolN, e_boolB, e_boolI, e_boolS, e_boolL, e_boolT, e_boolC, e_lstN, e_lstB, e_lstI, e_lstS, e_lstL, e_lstT, e_lstC, e_nonN, e_nonB, e_nonI, e_nonS, e_nonL, e_nonT, e_wkS, e_wkL, e_wkT, e_wkC, e_join, e_inS, e_ninS, e_ofI, e_ofB, e_abs, e_lenF, e_ixF, e_itF, e_wkF, e_tfF, e_truF, e_repT, e_keyI, e_keyS]; try simp only [true_and, and_true, Nat.reduceLeDiff, reduceIte, reduceCtorEq, Bool.false_eq_true, if_true, if_false, not_false_eq_true, ite_true, ite_false, and_self])
    refine ⟨⟨by omega, by omega⟩, fun i acc S' => MvD n k S S' ∧ ∃ cs : List Nat, acc = (cs.map fun c => (⟨#[c]⟩ : Str)).map PyData.str ∧ cs.length = i ∧ i ≤ 18 ∧ ∀ c ∈ cs, c ≠ 40, ⟨m2.trans m3, [], rfl, rfl, by decide, fun c h => by simp at h⟩, fun i acc S' ⟨_, cs, e, l, l2, _⟩ => by rw [e, List.length_map, List.length_map]; omega, ?_, ?_⟩
    · rintro i d acc S' hd ⟨m3, cs, rfl, l, l2, hy⟩
      obtain ⟨hi, rfl⟩ := rangeD_at hd
      refine ⟨n, k, _, rfl, m3.D, .inr ⟨_, rfl, by decide +kernel, by decide +kernel, fun c S4 hc m4 => ?_⟩⟩
      refine ⟨m3.trans m4, cs ++ [c], by rw [List.map_append, List.map_append]; rfl, by rw [List.length_append, l]; rfl, by omega, fun x hx => ?_⟩
      rcases List.mem_append.mp hx with hx | hx
      · exact hy x hx
      · rw [List.mem_singleton.mp hx]
        intro e
        rw [e] at hc
        exact absurd hc (by decide +kernel)
    rintro acc S4 ⟨m4, c2, rfl, l2, l22, hc2⟩
    refine wh_mk (strsD_map _) ⟨by rw [sg_sum, l0, Nat.mul_zero]; omega, ?_⟩
    have w2 := (sg_join hc2)
    have w2' : Pb (Txt.join (Str.ofString "") (c2.map fun c => (⟨#[c]⟩ : Str))) 18 0 := ⟨Nat.le_trans w2.ln (by omega), w2.c4⟩
    generalize Txt.join (Str.ofString "") (c2.map fun c => (⟨#[c]⟩ : Str)) = long at w2' ⊢
    cases ns with
    | nil => cases hl
    | cons x ns =>
      have hx : Pb x 8 0 := Pb.name (hn x List.mem_cons_self)
      have at0 : atI ((x :: ns).map PyData.str) 0 = some (.str x) := atI_nat (j := 0) rfl
      have p1 : Pb (Str.ofString "()") 2 1 := ⟨by decide +kernel, by decide +kernel⟩
      have p2 : Pb (Str.ofString "(\"") 2 1 := ⟨by decide +kernel, by decide +kernel⟩
      have p3 : Pb (Str.ofString "\")") 2 0 := ⟨by decide +kernel, by decide +kernel⟩
      have p4 : Pb (Str.ofString "\"") 1 0 := ⟨by decide +kernel, by decide +kernel⟩
      have p5 : Pb (Str.ofString "(") 1 1 := ⟨by decide +kernel, by decide +kernel⟩
      have p6 : Pb (Str.ofString "() ") 3 1 := ⟨by decide +kernel, by decide +kernel⟩
      have t1 := w1'.app p1
      have t2 := ((hx.app p2).app w2').app p3
      have t3 := (p4.app w2').app p4
      have t5 := (hx.app p5).app w1'
      have t6 := ((t5.app p6).app p4).app w2'
      refine ⟨by have := t1.ln; rw [strLen_append] at this; omega, wh_mk at0 ?_⟩
      refine dAdd_pb (hx.app p2) (by decide) (dAdd_pb ((hx.app p2).app w2') (by decide) (dAdd_pb t2 (by decide) ⟨by have := (p4.app w2').ln; rw [strLen_append] at this; omega, by have := t3.ln; rw [strLen_append] at this; omega, wh_mk at0 (dAdd_pb (hx.app p5) (by decide) (dAdd_pb t5 (by decide) (wh_mk at0 (dAdd_pb (hx.app p5) (by decide) (dAdd_pb t5 (by decide) (dAdd_pb (t5.app p6) (by decide) (dAdd_pb ((t5.app p6).app p4) (by decide) (dAdd_pb t6 (by decide) ?_))))))))⟩))
      refine ⟨fun i ρ S' => MvD n k S S' ∧ ∃ x4 x5, ρ = [some (cel n), some (.list ((x :: ns).map PyData.str)), some (.str word), some (.str long), x4, x5], ⟨m4, _, _, rfl⟩, fun _ _ _ _ => trivial, ?_, fun ρ S' ⟨m5, _⟩ => q S' m5⟩
      rintro i d ρ S5 hd ⟨m5, x4, x5, rfl⟩
      have hm := List.mem_of_getElem? hd
      have hw : ∃ t, d = .str t ∧ Pb t 60 3 := by
        have up : ∀ {t : Str} {l c : Nat}, Pb t l c → l ≤ 60 → c ≤ 3 → Pb t 60 3 := fun p h1 h2 => ⟨Nat.le_trans p.ln h1, Nat.le_trans p.c4 h2⟩
        simp only [List.mem_cons, List.not_mem_nil, or_false] at hm
        rcases hm with e | e | e | e | e | e
        · exact ⟨_, e, up t1 (by decide) (by decide)⟩
        · exact ⟨_, e, up t2 (by decide) (by decide)⟩
        · exact ⟨_, e, up t3 (by decide) (by decide)⟩
        · exact ⟨_, e, up w1' (by decide) (by decide)⟩
        · exact ⟨_, e, up t5 (by decide) (by decide)⟩
        · exact ⟨_, e, up t6 (by decide) (by decide)⟩
      obtain ⟨t, rfl, pt⟩ := hw
      (dsimp only [dRetX, dDropX, dSetX, dAsgX, dFnX, dRaise, dTryAs, dTryOnly, dXf, dIsX, dPar3, dFnR, List.reverse_cons, List.reverse_nil, dDelT, mPop0, mPop, mApp, mExt, dFld, dNew, dDGet, dDIn, dZipT, dAll, dTupF, dIdx, dTupRg, dDc, dReprT, dEqT, dNeT, dFor, dLc, dWhile, dRange1, dRange2, dRange3, dEnumT, e_isB, e_tupD, dgUnl, dSeq, dIfS, dSet, dAsg, dRet, dRetN, dDrop, dNext, dPar, dVar, dC, dOp, dB, dTru, dtNot, dtAnd, dtOr, dAnd, dOr, dNot, dIfE, dNeg, dNil, dCons, dTup, dLst, dCel, dNoP, dPart, dSlice, dRevT, dRevL, dCall, on1, dTupOf, dLstOf, dCelOf, dIsi, dName, dgNil, dgCons, dgTup, dFn, dMet, dMet0, gt, st, startD, wh_some, dYes, dEq, dNe, List.map, List.length, List.replicate, List.append, List.cons_append, List.nil_append, dWalk, uns, un, tupNms, dNms, ifT, ifF, List.replicate_succ, List.replicate_zero, Nat.sub_self, Nat.reduceSub, Nat.reduceAdd, Nat.zero_add, Bool.not_true, Bool.not_false, e_addI, e_addS, e_addT, e_addL, e_i2, e_i2c, e_is, e_bool, e_cel, e_strD, e_lenS, e_lenT, e_lenL, e_lenC, e_ixS, e_ixT, e_ixL, e_ixC, e_slS, e_slT, e_slL, e_slC, e_itT, e_itL, e_truN, e_truI, e_truB, e_truL, e_truT, e_okN, e_okB, e_okI, e_okS, e_okL, e_okT, e_okC, e_tupN, e_tupB, e_tupI, e_tupS, e_tupL, e_tupT, e_tupC, e_strN, e_strB, e_strI, e_strS, e_strL, e_strT, e_strC, e_intN, e_intB, e_intI, e_intS, e_intL, e_intT, e_intC, e_boolN, e_boolB, e_boolI, e_boolS, e_boolL, e_boolT, e_boolC, e_lstN, e_lstB, e_lstI, e_lstS, e_lstL, e_lstT, e_lstC, e_nonN, e_nonB, e_nonI, e_nonS, e_nonL, e_nonT, e_wkS, e_wkL, e_wkT, e_wkC, e_join, e_inS, e_ninS, e_ofI, e_ofB, e_abs, e_lenF, e_ixF, e_itF, e_wkF, e_tfF, e_truF, e_repT, e_keyI, e_keyS]; try simp only [true_and, and_true, Nat.reduceLeDiff, reduceIte, reduceCtorEq, Bool.false_eq_true, if_true, if_false, not_false_eq_true, ite_true, ite_false, and_self])
      refine tr_ask pt.bnd (by decide) (by decide) fun S6 e6 => wh_mk rfl (iteF ?_)
      exact ⟨m5.ext e6, _, _, rfl⟩
end
end K3

/-! the law -/
namespace K3
open PySem L2 Xr K1 Grd
abbrev sLaw : Stmt := top 43
theorem scLaw : FnScope ["script", "deal", "names", "turn", "node", "text", "bend"] ["script"] (defScope sLaw) := ⟨rfl, rfl, rfl, by decide +kernel, rfl, by decide +kernel, by decide +kernel⟩
structure LawTxt (K : PySem.W.Frag) (mg : Str → Option Value) (a_law_source a_law_names a_law_any a_law_of a_law_grown a_law_written a_law_row_written a_law_signs a_law_text_right a_law_bent a_law_word_right : Addr) : Prop where
  n_range : mg "range" = none
  g_law_source : mg "_law_source" = some (.ref a_law_source)
  k_law_source : PySem.W.keepIn K (.ref a_law_source) = true
  g_law_names : mg "_law_names" = some (.ref a_law_names)
  k_law_names : PySem.W.keepIn K (.ref a_law_names) = true
  g_law_any : mg "_law_any" = some (.ref a_law_any)
  k_law_any : PySem.W.keepIn K (.ref a_law_any) = true
  g_law_of : mg "_law_of" = some (.ref a_law_of)
  k_law_of : PySem.W.keepIn K (.ref a_law_of) = true
  g_law_grown : mg "_law_grown" = some (.ref a_law_grown)
  k_law_grown : PySem.W.keepIn K (.ref a_law_grown) = true
  g_law_written : mg "_law_written" = some (.ref a_law_written)
  k_law_written : PySem.W.keepIn K (.ref a_law_written) = true
  g_law_row_written : mg "_law_row_written" = some (.ref a_law_row_written)
  k_law_row_written : PySem.W.keepIn K (.ref a_law_row_written) = true
  g_law_signs : mg "_law_signs" = some (.ref a_law_signs)
  k_law_signs : PySem.W.keepIn K (.ref a_law_signs) = true
  g_law_text_right : mg "_law_text_right" = some (.ref a_law_text_right)
  k_law_text_right : PySem.W.keepIn K (.ref a_law_text_right) = true
  g_law_bent : mg "_law_bent" = some (.ref a_law_bent)
  k_law_bent : PySem.W.keepIn K (.ref a_law_bent) = true
  g_law_word_right : mg "_law_word_right" = some (.ref a_law_word_right)
  k_law_word_right : PySem.W.keepIn K (.ref a_law_word_right) = true
theorem doc_bnd {ts : List Doc} (h : okD ts) {c d : Nat} (hc : cntD ts ≤ c) (hd : hgtD ts ≤ d) : Bnd2 (txAll ts) (21 * c) d := by
  have h1 := chT_len ts h
  have h2 := (chT_run ts 0 h).2
  have e : (txAll ts).cps.toList = (chT ts).tail := strOf_cps _
  refine Bnd2.mk' e ?_ (by omega)
  rw [List.length_tail]
  omega
section
variable {P : Program} {w : World} {K : PySem.W.Frag} {mg : Str → Option Value} {base : Heap} {a_law_source a_law_names a_law_any a_law_of a_law_grown a_law_written a_law_row_written a_law_signs a_law_text_right a_law_bent a_law_word_right : Addr} {d0 d1 d2 d3 d5 d6 d7 d8 d9 d10 d11 : FuncData}
theorem ok_law {f : Addr} {fd : FuncData} (F : Fun K "law" "law" sLaw f fd) (T : LawTxt K mg a_law_source a_law_names a_law_any a_law_of a_law_grown a_law_written a_law_row_written a_law_signs a_law_text_right a_law_bent a_law_word_right)
    (G_law_source : FnOk P w K mg base CX0 1 a_law_source d0 ["script"] (spSource K)) (b_law_source : Binds K d0 ["script"] [])
    (G_law_names : FnOk P w K mg base CX0 3 a_law_names d1 ["deal", "many"] (spD K spNamesD)) (b_law_names : Binds K d1 ["deal", "many"] [])
    (G_law_any : FnOk P w K mg base CX0 1 a_law_any d2 ["deal", "bound"] (spD K spAnyD)) (b_law_any : Binds K d2 ["deal", "bound"] [])
    (G_law_of : FnOk P w K mg base CX0 2 a_law_of d3 ["deal", "some"] (spD K spOfD)) (b_law_of : Binds K d3 ["deal", "some"] [])
    (G_law_grown : FnOk P w K mg base CX0 64 a_law_grown d5 ["deal", "names", "many", "deep"] (spD K (spGrownD 60))) (b_law_grown : Binds K d5 ["deal", "names", "many", "deep"] [])
    (G_law_written : FnOk P w K mg base CX0 (1 + 2 * 31) a_law_written d6 ["thing"] (spD K (spWrittenD 31))) (b_law_written : Binds K d6 ["thing"] [])
    (G_law_row_written : FnOk P w K mg base CX0 (2 + 2 * 31) a_law_row_written d7 ["things"] (spD K (spRowWD 31))) (b_law_row_written : Binds K d7 ["things"] [])
    (G_law_signs : FnOk P w K mg base CX0 3 a_law_signs d8 ["deal"] (spD K spSigns)) (b_law_signs : Binds K d8 ["deal"] [])
    (G_law_text_right : FnG P w K mg base CX0 (2 * 31 + 10) a_law_text_right d9 ["text"] (spD K (spTR 31))) (b_law_text_right : Binds K d9 ["text"] [])
    (G_law_bent : FnOk P w K mg base CX0 4 a_law_bent d10 ["deal", "text"] (spD K spBent)) (b_law_bent : Binds K d10 ["deal", "text"] [])
    (G_law_word_right : FnG P w K mg base CX0 74 a_law_word_right d11 ["deal", "names"] (spD K spWordR)) (b_law_word_right : Binds K d11 ["deal", "names"] []) :
    FnG P w K mg base CX0 76 f fd ["script"] (spLaw K) := by
  refine Grd.fng_of F scLaw (fun vs H Q E h => ?_) (fun cdv A outer s H vs Q E gd (hr : Room 75 _) h => ?_)
  · obtain ⟨a, ns, rfl, _⟩ := h
    rfl
  · obtain ⟨a, ns, rfl, hS, l, kq⟩ := h
    obtain ⟨t2, h2, p2⟩ : ∃ t2, QSs (cxOf CX0 P w K mg base ["script", "deal", "names", "turn", "node", "text", "bend"] "law" (defScope sLaw) _ cdv A outer s H E) ((defBody sLaw).drop 1) t2 ∧ ∀ S n k', DealD S n k' → t2 { nx := fun _ _ => False, rt := fun d _ => d = .bool true } (none :: some (cel n) :: List.replicate (7 - 2) none) S := by
      refine ⟨_, (qss_cons (qs_set (i := 2) scLaw.nd rfl (Or.inl rfl) (q_call hr G_law_names T.g_law_names T.k_law_names b_law_names (by rfl) (by decide) (q_cons (q_var (pv 1)) (q_cons (q_add q_int (q_call hr G_law_any T.g_law_any T.k_law_any b_law_any (by rfl) (by decide) (q_cons (q_var (pv 1)) (q_cons q_int q_nil)))) q_nil))))
      (qss_cons (qs_for PassesOwn.leaving rfl (qi_range1 T.n_range (by rfl) (q_cons q_int q_nil)) (qg_name (pg_name (i := 3) scLaw.nd rfl (Or.inl rfl)))
      (qss_cons (qs_set (i := 4) scLaw.nd rfl (Or.inl rfl) (q_call hr G_law_grown T.g_law_grown T.k_law_grown b_law_grown (by rfl) (by decide) (q_cons (q_var (pv 1)) (q_cons (q_var (pv 2)) (q_cons (q_add q_int (q_call hr G_law_of T.g_law_of T.k_law_of b_law_of (by rfl) (by decide) (q_cons (q_var (pv 1)) (q_cons (q_lst (q_cons (q_call hr G_law_any T.g_law_any T.k_law_any b_law_any (by rfl) (by decide) (q_cons (q_var (pv 1)) (q_cons q_int q_nil))) (q_cons (q_call hr G_law_any T.g_law_any T.k_law_any b_law_any (by rfl) (by decide) (q_cons (q_var (pv 1)) (q_cons q_int q_nil))) q_nil))) q_nil)))) (q_cons (q_call hr G_law_of T.g_law_of T.k_law_of b_law_of (by rfl) (by decide) (q_cons (q_var (pv 1)) (q_cons (q_lst (q_cons q_int (q_cons q_int (q_cons q_int q_nil)))) q_nil))) q_nil))))))
      (qss_cons (qs_set (i := 5) scLaw.nd rfl (Or.inl rfl) (q_call hr G_law_of T.g_law_of T.k_law_of b_law_of (by rfl) (by decide) (q_cons (q_var (pv 1)) (q_cons (q_lst (q_cons (q_call hr G_law_written T.g_law_written T.k_law_written b_law_written (by rfl) (by decide) (q_cons (q_var (pv 4)) q_nil)) (q_cons (q_call hr G_law_written T.g_law_written T.k_law_written b_law_written (by rfl) (by decide) (q_cons (q_var (pv 4)) q_nil)) (q_cons (q_call hr G_law_row_written T.g_law_row_written T.k_law_row_written b_law_row_written (by rfl) (by decide) (q_cons (q_at (q_var (pv 4)) q_int (fun _ _ => rfl)) q_nil)) (q_cons (q_call hr G_law_signs T.g_law_signs T.k_law_signs b_law_signs (by rfl) (by decide) (q_cons (q_var (pv 1)) q_nil)) q_nil))))) q_nil))))
      (qss_cons (qs_if (qt_not (qt_tru (q_callG gd hr G_law_text_right T.g_law_text_right T.k_law_text_right b_law_text_right (by rfl) (by decide) (q_cons (q_var (pv 5)) q_nil)) (by intro _; rfl)))
      (qss_one (qs_ret q_bl))
      qss_nil)
      (qss_cons (qs_for PassesOwn.leaving rfl (qi_range1 T.n_range (by rfl) (q_cons (q_call hr G_law_of T.g_law_of T.k_law_of b_law_of (by rfl) (by decide) (q_cons (q_var (pv 1)) (q_cons (q_lst (q_cons q_int (q_cons q_int (q_cons q_int (q_cons q_int q_nil))))) q_nil))) q_nil)) (qg_name (pg_name (i := 6) scLaw.nd rfl (Or.inl rfl)))
      (qss_one (qs_set (i := 5) scLaw.nd rfl (Or.inl rfl) (q_call hr G_law_bent T.g_law_bent T.k_law_bent b_law_bent (by rfl) (by decide) (q_cons (q_var (pv 1)) (q_cons (q_var (pv 5)) q_nil))))))
      (qss_one (qs_if (qt_not (qt_tru (q_callG gd hr G_law_text_right T.g_law_text_right T.k_law_text_right b_law_text_right (by rfl) (by decide) (q_cons (q_var (pv 5)) q_nil)) (by intro _; rfl)))
      (qss_one (qs_ret q_bl))
      qss_nil)))))))
      (qss_one (qs_ret (q_and (q_callG gd hr G_law_word_right T.g_law_word_right T.k_law_word_right b_law_word_right (by rfl) (by decide) (q_cons (q_var (pv 1)) (q_cons (q_var (pv 2)) q_nil))) (q_and (q_callG gd hr G_law_text_right T.g_law_text_right T.k_law_text_right b_law_text_right (by rfl) (by decide) (q_cons q_str q_nil)) (q_one (q_callG gd hr G_law_text_right T.g_law_text_right T.k_law_text_right b_law_text_right (by rfl) (by decide) (q_cons (q_call hr G_law_signs T.g_law_signs T.k_law_signs b_law_signs (by rfl) (by decide) (q_cons (q_var (pv 1)) q_nil)) q_nil))))))))), ?_⟩
      intro S n k D
      (dsimp only [dRetX, dDropX, dSetX, dAsgX, dFnX, dRaise, dTryAs, dTryOnly, dXf, dIsX, dPar3, dFnR, List.reverse_cons, List.reverse_nil, dDelT, mPop0, mPop, mApp, mExt, dFld, dNew, dDGet, dDIn, dZipT, dAll, dTupF, dIdx, dTupRg, dDc, dReprT, dEqT, dNeT, dFor, dLc, dWhile, dRange1, dRange2, dRange3, dEnumT, e_isB, e_tupD, dgUnl, dSeq, dIfS, dSet, dAsg, dRet, dRetN, dDrop, dNext, dPar, dVar, dC, dOp, dB, dTru, dtNot, dtAnd, dtOr, dAnd, dOr, dNot, dIfE, dNeg, dNil, dCons, dTup, dLst, dCel, dNoP, dPart, dSlice, dRevT, dRevL, dCall, on1, dTupOf, dLstOf, dCelOf, dIsi, dName, dgNil, dgCons, dgTup, dFn, dMet, dMet0, gt, st, startD, wh_some, dYes, dEq, dNe, List.map, List.length, List.replicate, List.append, List.cons_append, List.nil_append, dWalk, uns, un, tupNms, dNms, ifT, ifF, List.replicate_succ, List.replicate_zero, Nat.sub_self, Nat.reduceSub, Nat.reduceAdd, Nat.zero_add, Bool.not_true, Bool.not_false, e_addI, e_addS, e_addT, e_addL, e_i2, e_i2c, e_is, e_bool, e_cel, e_strD, e_lenS, e_lenT, e_lenL, e_lenC, e_ixS, e_ixT, e_ixL, e_ixC, e_slS, e_slT, e_slL, e_slC, e_itT, e_itL, e_truN, e_truI, e_truB, e_truL, e_truT, e_okN, e_okB, e_okI, e_okS, e_okL, e_okT, e_okC, e_tupN, e_tupB, e_tupI, e_tupS, e_tupL, e_tupT, e_tupC, e_strN, e_strB, e_strI, e_strS, e_strL, e_strT, e_strC, e_intN, e_intB, e_intI, e_intS, e_intL, e_intT, e_intC, e_boolN, e_boolB, e_boolI, e_boolS, e_boolL, e_boolT, e_boolC, e_lstN, e_lstB, e_lstI, e_lstS, e_lstL, e_lstT, e_lstC, e_nonN, e_nonB, e_nonI, e_nonS, e_nonL, e_nonT, e_wkS, e_wkL, e_wkT, e_wkC, e_join, e_inS, e_ninS, e_ofI, e_ofB, e_abs, e_lenF, e_ixF, e_itF, e_wkF, e_tfF, e_truF, e_repT, e_keyI, e_keyS]; try simp only [true_and, and_true, Nat.reduceLeDiff, reduceIte, reduceCtorEq, Bool.false_eq_true, if_true, if_false, not_false_eq_true, ite_true, ite_false, and_self])
      refine ⟨n, k, 4, rfl, D, by decide, by decide, fun r S1 r0 r1 m1 => ?_⟩
      obtain ⟨r, rfl⟩ : ∃ j : Nat, r = j := ⟨r.toNat, by omega⟩
      (dsimp only [dRetX, dDropX, dSetX, dAsgX, dFnX, dRaise, dTryAs, dTryOnly, dXf, dIsX, dPar3, dFnR, List.reverse_cons, List.reverse_nil, dDelT, mPop0, mPop, mApp, mExt, dFld, dNew, dDGet, dDIn, dZipT, dAll, dTupF, dIdx, dTupRg, dDc, dReprT, dEqT, dNeT, dFor, dLc, dWhile, dRange1, dRange2, dRange3, dEnumT, e_isB, e_tupD, dgUnl, dSeq, dIfS, dSet, dAsg, dRet, dRetN, dDrop, dNext, dPar, dVar, dC, dOp, dB, dTru, dtNot, dtAnd, dtOr, dAnd, dOr, dNot, dIfE, dNeg, dNil, dCons, dTup, dLst, dCel, dNoP, dPart, dSlice, dRevT, dRevL, dCall, on1, dTupOf, dLstOf, dCelOf, dIsi, dName, dgNil, dgCons, dgTup, dFn, dMet, dMet0, gt, st, startD, wh_some, dYes, dEq, dNe, List.map, List.length, List.replicate, List.append, List.cons_append, List.nil_append, dWalk, uns, un, tupNms, dNms, ifT, ifF, List.replicate_succ, List.replicate_zero, Nat.sub_self, Nat.reduceSub, Nat.reduceAdd, Nat.zero_add, Bool.not_true, Bool.not_false, e_addI, e_addS, e_addT, e_addL, e_i2, e_i2c, e_is, e_bool, e_cel, e_strD, e_lenS, e_lenT, e_lenL, e_lenC, e_ixS, e_ixT, e_ixL, e_ixC, e_slS, e_slT, e_slL, e_slC, e_itT, e_itL, e_truN, e_truI, e_truB, e_truL, e_truT, e_okN, e_okB, e_okI, e_okS, e_okL, e_okT, e_okC, e_tupN, e_tupB, e_tupI, e_tupS, e_tupL, e_tupT, e_tupC, e_strN, e_strB, e_strI, e_strS, e_strL, e_strT, e_strC, e_intN, e_intB, e_intI, e_intS, e_intL, e_intT, e_intC, e_boolN, e_boolB, e_boolI, e_boolS, e_boolL, e_boolT, e_boolC, e_lstN, e_lstB, e_lstI, e_lstS, e_lstL, e_lstT, e_lstC, e_nonN, e_nonB, e_nonI, e_nonS, e_nonL, e_nonT, e_wkS, e_wkL, e_wkT, e_wkC, e_join, e_inS, e_ninS, e_ofI, e_ofB, e_abs, e_lenF, e_ixF, e_itF, e_wkF, e_tfF, e_truF, e_repT, e_keyI, e_keyS]; try simp only [true_and, and_true, Nat.reduceLeDiff, reduceIte, reduceCtorEq, Bool.false_eq_true, if_true, if_false, not_false_eq_true, ite_true, ite_false, and_self])
      refine ⟨n, k, 1 + r, by rw [Int.natCast_add]; rfl, m1.D, by omega, by omega, fun ns S2 nl hns m2 => ?_⟩
      have hn0 : 0 < ns.length := by omega
      have hn1 : ns.length < 1000 := by omega
      refine ⟨small_nat (n := 4) (by decide), fun i ρ S' => MvD n k S S' ∧ ∃ x3 x4 x5 x6, ρ = [none, some (cel n), some (.list (ns.map PyData.str)), x3, x4, x5, x6], ⟨m1.trans m2, _, _, _, _, rfl⟩, fun _ _ _ _ => trivial, ?_, ?_⟩
      · rintro i d ρ S3 hd ⟨m3, x3, x4, x5, x6, rfl⟩
        (dsimp only [dRetX, dDropX, dSetX, dAsgX, dFnX, dRaise, dTryAs, dTryOnly, dXf, dIsX, dPar3, dFnR, List.reverse_cons, List.reverse_nil, dDelT, mPop0, mPop, mApp, mExt, dFld, dNew, dDGet, dDIn, dZipT, dAll, dTupF, dIdx, dTupRg, dDc, dReprT, dEqT, dNeT, dFor, dLc, dWhile, dRange1, dRange2, dRange3, dEnumT, e_isB, e_tupD, dgUnl, dSeq, dIfS, dSet, dAsg, dRet, dRetN, dDrop, dNext, dPar, dVar, dC, dOp, dB, dTru, dtNot, dtAnd, dtOr, dAnd, dOr, dNot, dIfE, dNeg, dNil, dCons, dTup, dLst, dCel, dNoP, dPart, dSlice, dRevT, dRevL, dCall, on1, dTupOf, dLstOf, dCelOf, dIsi, dName, dgNil, dgCons, dgTup, dFn, dMet, dMet0, gt, st, startD, wh_some, dYes, dEq, dNe, List.map, List.length, List.replicate, List.append, List.cons_append, List.nil_append, dWalk, uns, un, tupNms, dNms, ifT, ifF, List.replicate_succ, List.replicate_zero, Nat.sub_self, Nat.reduceSub, Nat.reduceAdd, Nat.zero_add, Bool.not_true, Bool.not_false, e_addI, e_addS, e_addT, e_addL, e_i2, e_i2c, e_is, e_bool, e_cel, e_strD, e_lenS, e_lenT, e_lenL, e_lenC, e_ixS, e_ixT, e_ixL, e_ixC, e_slS, e_slT, e_slL, e_slC, e_itT, e_itL, e_truN, e_truI, e_truB, e_truL, e_truT, e_okN, e_okB, e_okI, e_okS, e_okL, e_okT, e_okC, e_tupN, e_tupB, e_tupI, e_tupS, e_tupL, e_tupT, e_tupC, e_strN, e_strB, e_strI, e_strS, e_strL, e_strT, e_strC, e_intN, e_intB, e_intI, e_intS, e_intL, e_intT, e_intC, e_boolN, e_boolB, e_boolI, e_boolS, e_boolL, e_boolT, e_boolC, e_lstN, e_lstB, e_lstI, e_lstS, e_lstL, e_lstT, e_lstC, e_nonN, e_nonB, e_nonI, e_nonS, e_nonL, e_nonT, e_wkS, e_wkL, e_wkT, e_wkC, e_join, e_inS, e_ninS, e_ofI, e_ofB, e_abs, e_lenF, e_ixF, e_itF, e_wkF, e_tfF, e_truF, e_repT, e_keyI, e_keyS]; try simp only [true_and, and_true, Nat.reduceLeDiff, reduceIte, reduceCtorEq, Bool.false_eq_true, if_true, if_false, not_false_eq_true, ite_true, ite_false, and_self])
        refine ⟨n, k, 4, rfl, m3.D, by decide, by decide, fun q1 S4 q10 q11 m4 => ⟨n, k, 20, rfl, m4.D, by decide, by decide, fun q2 S5 q20 q21 m5 => ?_⟩⟩
        refine ⟨n, k, _, rfl, m5.D, .inl ⟨_, rfl, by show 0 < 2; decide, by show 2 < _; decide, fun d2 S6 hd2 m6 => ?_⟩⟩
        obtain ⟨c, rfl, hc⟩ : ∃ c : Nat, d2 = .int c ∧ c ≤ 19 := by
          simp only [List.mem_cons, List.not_mem_nil, or_false] at hd2
          rcases hd2 with e | e
          · exact ⟨q1.toNat, by rw [e, Int.toNat_of_nonneg q10], by omega⟩
          · exact ⟨q2.toNat, by rw [e, Int.toNat_of_nonneg q20], by omega⟩
        (dsimp only [dRetX, dDropX, dSetX, dAsgX, dFnX, dRaise, dTryAs, dTryOnly, dXf, dIsX, dPar3, dFnR, List.reverse_cons, List.reverse_nil, dDelT, mPop0, mPop, mApp, mExt, dFld, dNew, dDGet, dDIn, dZipT, dAll, dTupF, dIdx, dTupRg, dDc, dReprT, dEqT, dNeT, dFor, dLc, dWhile, dRange1, dRange2, dRange3, dEnumT, e_isB, e_tupD, dgUnl, dSeq, dIfS, dSet, dAsg, dRet, dRetN, dDrop, dNext, dPar, dVar, dC, dOp, dB, dTru, dtNot, dtAnd, dtOr, dAnd, dOr, dNot, dIfE, dNeg, dNil, dCons, dTup, dLst, dCel, dNoP, dPart, dSlice, dRevT, dRevL, dCall, on1, dTupOf, dLstOf, dCelOf, dIsi, dName, dgNil, dgCons, dgTup, dFn, dMet, dMet0, gt, st, startD, wh_some, dYes, dEq, dNe, List.map, List.length, List.replicate, List.append, List.cons_append, List.nil_append, dWalk, uns, un, tupNms, dNms, ifT, ifF, List.replicate_succ, List.replicate_zero, Nat.sub_self, Nat.reduceSub, Nat.reduceAdd, Nat.zero_add, Bool.not_true, Bool.not_false, e_addI, e_addS, e_addT, e_addL, e_i2, e_i2c, e_is, e_bool, e_cel, e_strD, e_lenS, e_lenT, e_lenL, e_lenC, e_ixS, e_ixT, e_ixL, e_ixC, e_slS, e_slT, e_slL, e_slC, e_itT, e_itL, e_truN, e_truI, e_truB, e_truL, e_truT, e_okN, e_okB, e_okI, e_okS, e_okL, e_okT, e_okC, e_tupN, e_tupB, e_tupI, e_tupS, e_tupL, e_tupT, e_tupC, e_strN, e_strB, e_strI, e_strS, e_strL, e_strT, e_strC, e_intN, e_intB, e_intI, e_intS, e_intL, e_intT, e_intC, e_boolN, e_boolB, e_boolI, e_boolS, e_boolL, e_boolT, e_boolC, e_lstN, e_lstB, e_lstI, e_lstS, e_lstL, e_lstT, e_lstC, e_nonN, e_nonB, e_nonI, e_nonS, e_nonL, e_nonT, e_wkS, e_wkL, e_wkT, e_wkC, e_join, e_inS, e_ninS, e_ofI, e_ofB, e_abs, e_lenF, e_ixF, e_itF, e_wkF, e_tfF, e_truF, e_repT, e_keyI, e_keyS]; try simp only [true_and, and_true, Nat.reduceLeDiff, reduceIte, reduceCtorEq, Bool.false_eq_true, if_true, if_false, not_false_eq_true, ite_true, ite_false, and_self])
        refine ⟨n, k, _, rfl, m6.D, .inl ⟨_, rfl, by show 0 < 3; decide, by show 3 < _; decide, fun d3 S7 hd3 m7 => ?_⟩⟩
        obtain ⟨dp, rfl, hdp0, hdp⟩ : ∃ c : Int, d3 = .int c ∧ 1 ≤ c ∧ c ≤ 14 := by
          simp only [List.mem_cons, List.not_mem_nil, or_false] at hd3
          rcases hd3 with e | e | e
          · exact ⟨2, e, by decide, by decide⟩
          · exact ⟨4, e, by decide, by decide⟩
          · exact ⟨14, e, by decide, by decide⟩
        refine ⟨n, k, ns, 1 + c, dp, by rw [Int.natCast_add]; rfl, m7.D, hns, hn0, hn1, by omega, by omega, by omega, hdp0, fun a k0 x us S8 o1 o2 o3 m8 => ?_⟩
        obtain ⟨f1, f2, f3⟩ := AT.facts (AT.nod a k0 x us)
        have ok := f3 o1
        have hcn : (AT.nod a k0 x us).doc.cnt ≤ 20 := by omega
        have hhg : (AT.nod a k0 x us).doc.hgt ≤ 14 := by omega
        have ed : (AT.nod a k0 x us).doc = .nod x (docAll us) := rfl
        rw [ed] at ok hcn hhg ⊢
        generalize docAll us = cs at ok hcn hhg ⊢
        have e1 : (Doc.nod x cs).cnt = 1 + cntD cs := rfl
        have e2 : (Doc.nod x cs).hgt = 1 + hgtD cs := rfl
        refine ⟨_, rfl, ok, by omega, by omega, _, rfl, ok, by omega, by omega, wh_mk rfl ⟨cs, rfl, ok.2, by omega, by omega, n, k, rfl, m8.D, fun z0 S9 few m9 => ?_⟩⟩
        refine ⟨n, k, _, rfl, m9.D, .inl ⟨_, rfl, by show 0 < 4; decide, by show 4 < _; decide, fun dt S10 hdt m10 => ?_⟩⟩
        have ht : ∃ t, dt = .str t ∧ Bnd2 t 420 14 := by
          have b1 : Bnd2 (Doc.nod x cs).tx 420 14 := by
            rw [← tx_all]
            exact doc_bnd (ts := [.nod x cs]) (c := 20) (d := 14) ⟨ok, trivial⟩ (by show (Doc.nod x cs).cnt + 0 ≤ 20; omega) (by show max (Doc.nod x cs).hgt 0 ≤ 14; omega)
          simp only [List.mem_cons, List.not_mem_nil, or_false] at hdt
          rcases hdt with e | e | e | e
          · exact ⟨_, e, b1⟩
          · exact ⟨_, e, b1⟩
          · exact ⟨_, e, doc_bnd (c := 20) (d := 14) ok.2 (by omega) (by omega)⟩
          · exact ⟨_, e, (Pb.bnd ⟨few.ln, few.c4⟩).mono (by decide) (by decide)⟩
        obtain ⟨t, rfl, bt⟩ := ht
        have mA := m3.trans (m4.trans (m5.trans (m6.trans (m7.trans (m8.trans (m9.trans m10))))))
        refine tr_ask bt (by decide) (by decide) fun S11 e11 => wh_mk rfl (iteF ?_)
        have mB := mA.ext e11
        refine ⟨n, k, _, rfl, mB.D, .inl ⟨_, rfl, by show 0 < 4; decide, by show 4 < _; decide, fun dj S12 hdj m12 => ?_⟩⟩
        obtain ⟨j, rfl, hj⟩ : ∃ c : Nat, dj = .int c ∧ c ≤ 3 := by
          simp only [List.mem_cons, List.not_mem_nil, or_false] at hdj
          rcases hdj with e | e | e | e
          · exact ⟨1, e, by decide⟩
          · exact ⟨1, e, by decide⟩
          · exact ⟨2, e, by decide⟩
          · exact ⟨3, e, by decide⟩
        dsimp only
        refine ⟨small_nat (n := j) (by omega), fun i ρ S' => MvD n k S S' ∧ ∃ (t : Str) (y3 y4 y6 : Option PyData), Bnd2 t (420 + 50 * i) (14 + 5 * i) ∧ i ≤ 3 ∧ ρ = [none, some (cel n), some (.list (ns.map PyData.str)), y3, y4, some (.str t), y6], ⟨mB.trans m12, t, _, _, _, bt, Nat.zero_le _, rfl⟩, fun _ _ _ _ => trivial, ?_, ?_⟩
        · rintro i2 d ρ S13 hd ⟨m13, t, y3, y4, y6, b, i3, rfl⟩
          obtain ⟨hi, rfl⟩ := rangeD_at hd
          (dsimp only [dRetX, dDropX, dSetX, dAsgX, dFnX, dRaise, dTryAs, dTryOnly, dXf, dIsX, dPar3, dFnR, List.reverse_cons, List.reverse_nil, dDelT, mPop0, mPop, mApp, mExt, dFld, dNew, dDGet, dDIn, dZipT, dAll, dTupF, dIdx, dTupRg, dDc, dReprT, dEqT, dNeT, dFor, dLc, dWhile, dRange1, dRange2, dRange3, dEnumT, e_isB, e_tupD, dgUnl, dSeq, dIfS, dSet, dAsg, dRet, dRetN, dDrop, dNext, dPar, dVar, dC, dOp, dB, dTru, dtNot, dtAnd, dtOr, dAnd, dOr, dNot, dIfE, dNeg, dNil, dCons, dTup, dLst, dCel, dNoP, dPart, dSlice, dRevT, dRevL, dCall, on1, dTupOf, dLstOf, dCelOf, dIsi, dName, dgNil, dgCons, dgTup, dFn, dMet, dMet0, gt, st, startD, wh_some, dYes, dEq, dNe, List.map, List.length, List.replicate, List.append, List.cons_append, List.nil_append, dWalk, uns, un, tupNms, dNms, ifT, ifF, List.replicate_succ, List.replicate_zero, Nat.sub_self, Nat.reduceSub, Nat.reduceAdd, Nat.zero_add, Bool.not_true, Bool.not_false, e_addI, e_addS, e_addT, e_addL, e_i2, e_i2c, e_is, e_bool, e_cel, e_strD, e_lenS, e_lenT, e_lenL, e_lenC, e_ixS, e_ixT, e_ixL, e_ixC, e_slS, e_slT, e_slL, e_slC, e_itT, e_itL, e_truN, e_truI, e_truB, e_truL, e_truT, e_okN, e_okB, e_okI, e_okS, e_okL, e_okT, e_okC, e_tupN, e_tupB, e_tupI, e_tupS, e_tupL, e_tupT, e_tupC, e_strN, e_strB, e_strI, e_strS, e_strL, e_strT, e_strC, e_intN, e_intB, e_intI, e_intS, e_intL, e_intT, e_intC, e_boolN, e_boolB, e_boolI, e_boolS, e_boolL, e_boolT, e_boolC, e_lstN, e_lstB, e_lstI, e_lstS, e_lstL, e_lstT, e_lstC, e_nonN, e_nonB, e_nonI, e_nonS, e_nonL, e_nonT, e_wkS, e_wkL, e_wkT, e_wkC, e_join, e_inS, e_ninS, e_ofI, e_ofB, e_abs, e_lenF, e_ixF, e_itF, e_wkF, e_tfF, e_truF, e_repT, e_keyI, e_keyS]; try simp only [true_and, and_true, Nat.reduceLeDiff, reduceIte, reduceCtorEq, Bool.false_eq_true, if_true, if_false, not_false_eq_true, ite_true, ite_false, and_self])
          refine ⟨n, k, t, _, _, rfl, m13.D, b, by omega, fun z' S14 b' m14 => ?_⟩
          exact ⟨m13.trans m14, z', _, _, _, b'.mono (by omega) (by omega), by omega, rfl⟩
        · rintro ρ S13 ⟨m13, t, y3, y4, y6, b, i3, rfl⟩
          (dsimp only [dRetX, dDropX, dSetX, dAsgX, dFnX, dRaise, dTryAs, dTryOnly, dXf, dIsX, dPar3, dFnR, List.reverse_cons, List.reverse_nil, dDelT, mPop0, mPop, mApp, mExt, dFld, dNew, dDGet, dDIn, dZipT, dAll, dTupF, dIdx, dTupRg, dDc, dReprT, dEqT, dNeT, dFor, dLc, dWhile, dRange1, dRange2, dRange3, dEnumT, e_isB, e_tupD, dgUnl, dSeq, dIfS, dSet, dAsg, dRet, dRetN, dDrop, dNext, dPar, dVar, dC, dOp, dB, dTru, dtNot, dtAnd, dtOr, dAnd, dOr, dNot, dIfE, dNeg, dNil, dCons, dTup, dLst, dCel, dNoP, dPart, dSlice, dRevT, dRevL, dCall, on1, dTupOf, dLstOf, dCelOf, dIsi, dName, dgNil, dgCons, dgTup, dFn, dMet, dMet0, gt, st, startD, wh_some, dYes, dEq, dNe, List.map, List.length, List.replicate, List.append, List.cons_append, List.nil_append, dWalk, uns, un, tupNms, dNms, ifT, ifF, List.replicate_succ, List.replicate_zero, Nat.sub_self, Nat.reduceSub, Nat.reduceAdd, Nat.zero_add, Bool.not_true, Bool.not_false, e_addI, e_addS, e_addT, e_addL, e_i2, e_i2c, e_is, e_bool, e_cel, e_strD, e_lenS, e_lenT, e_lenL, e_lenC, e_ixS, e_ixT, e_ixL, e_ixC, e_slS, e_slT, e_slL, e_slC, e_itT, e_itL, e_truN, e_truI, e_truB, e_truL, e_truT, e_okN, e_okB, e_okI, e_okS, e_okL, e_okT, e_okC, e_tupN, e_tupB, e_tupI, e_tupS, e_tupL, e_tupT, e_tupC, e_strN, e_strB, e_strI, e_strS, e_strL, e_strT, e_strC, e_intN, e_intB, e_intI, e_intS, e_intL, e_intT, e_intC, e_boolN, e_boolB, e_boolI, e_boolS, e_boolL, e_boolT, e_boolC, e_lstN, e_lstB, e_lstI, e_lstS, e_lstL, e_lstT, e_lstC, e_nonN, e_nonB, e_nonI, e_nonS, e_nonL, e_nonT, e_wkS, e_wkL, e_wkT, e_wkC, e_join, e_inS, e_ninS, e_ofI, e_ofB, e_abs, e_lenF, e_ixF, e_itF, e_wkF, e_tfF, e_truF, e_repT, e_keyI, e_keyS]; try simp only [true_and, and_true, Nat.reduceLeDiff, reduceIte, reduceCtorEq, Bool.false_eq_true, if_true, if_false, not_false_eq_true, ite_true, ite_false, and_self])
          refine tr_ask b (by omega) (by omega) fun S14 e14 => wh_mk rfl (iteF ?_)
          exact ⟨m13.ext e14, _, _, _, _, rfl⟩
      · rintro ρ S3 ⟨m3, x3, x4, x5, x6, rfl⟩
        (dsimp only [dRetX, dDropX, dSetX, dAsgX, dFnX, dRaise, dTryAs, dTryOnly, dXf, dIsX, dPar3, dFnR, List.reverse_cons, List.reverse_nil, dDelT, mPop0, mPop, mApp, mExt, dFld, dNew, dDGet, dDIn, dZipT, dAll, dTupF, dIdx, dTupRg, dDc, dReprT, dEqT, dNeT, dFor, dLc, dWhile, dRange1, dRange2, dRange3, dEnumT, e_isB, e_tupD, dgUnl, dSeq, dIfS, dSet, dAsg, dRet, dRetN, dDrop, dNext, dPar, dVar, dC, dOp, dB, dTru, dtNot, dtAnd, dtOr, dAnd, dOr, dNot, dIfE, dNeg, dNil, dCons, dTup, dLst, dCel, dNoP, dPart, dSlice, dRevT, dRevL, dCall, on1, dTupOf, dLstOf, dCelOf, dIsi, dName, dgNil, dgCons, dgTup, dFn, dMet, dMet0, gt, st, startD, wh_some, dYes, dEq, dNe, List.map, List.length, List.replicate, List.append, List.cons_append, List.nil_append, dWalk, uns, un, tupNms, dNms, ifT, ifF, List.replicate_succ, List.replicate_zero, Nat.sub_self, Nat.reduceSub, Nat.reduceAdd, Nat.zero_add, Bool.not_true, Bool.not_false, e_addI, e_addS, e_addT, e_addL, e_i2, e_i2c, e_is, e_bool, e_cel, e_strD, e_lenS, e_lenT, e_lenL, e_lenC, e_ixS, e_ixT, e_ixL, e_ixC, e_slS, e_slT, e_slL, e_slC, e_itT, e_itL, e_truN, e_truI, e_truB, e_truL, e_truT, e_okN, e_okB, e_okI, e_okS, e_okL, e_okT, e_okC, e_tupN, e_tupB, e_tupI, e_tupS, e_tupL, e_tupT, e_tupC, e_strN, e_strB, e_strI, e_strS, e_strL, e_strT, e_strC, e_intN, e_intB, e_intI, e_intS, e_intL, e_intT, e_intC, e_boolN, e_boolB, e_boolI, e_boolS, e_boolL, e_boolT, e_boolC, e_lstN, e_lstB, e_lstI, e_lstS, e_lstL, e_lstT, e_lstC, e_nonN, e_nonB, e_nonI, e_nonS, e_nonL, e_nonT, e_wkS, e_wkL, e_wkT, e_wkC, e_join, e_inS, e_ninS, e_ofI, e_ofB, e_abs, e_lenF, e_ixF, e_itF, e_wkF, e_tfF, e_truF, e_repT, e_keyI, e_keyS]; try simp only [true_and, and_true, Nat.reduceLeDiff, reduceIte, reduceCtorEq, Bool.false_eq_true, if_true, if_false, not_false_eq_true, ite_true, ite_false, and_self])
        refine ⟨n, k, ns, rfl, m3.D, hns, hn0, fun S4 m4 => wh_mk rfl (iteT ?_)⟩
        refine tr_ask (l := 0) (c := 0) ⟨by decide +kernel, by decide +kernel⟩ (by decide) (by decide) fun S5 e5 => wh_mk rfl (iteT ?_)
        refine ⟨n, k, rfl, (m4.ext e5).D, fun z S6 few m6 => ?_⟩
        exact tr_ask (Pb.bnd ⟨few.ln, few.c4⟩) (by decide) (by decide) fun S7 e7 => rfl
    exact ⟨_, pss_cons (ps_set (i := 1) scLaw.nd rfl (Or.inl rfl) (pe_call G_law_source (hr.mono (by decide)) rfl T.g_law_source T.k_law_source b_law_source .nil pass0 (pa_cons (pv 0) pa_nil))) h2, law_go hS l (fun _ z => z) kq (by decide) p2⟩
end
end K3

namespace K3
open PySem L2 Exv Grd Xr K1
/-! what the top leaves, as one answer each -/
def isB (K : PySem.W.Frag) (C : Addr) : Bool :=
  PySem.W.hasDictIn K C && (decide (PySem.W.findIn K (.ref C) "__getattribute__" = some (some (.builtin "BaseException.__getattribute__"))) && (decide (PySem.W.findIn K (.ref C) "__getattr__" = some none) &&
  (decide (PySem.W.subIn K (.ref C) (.type "BaseException") = some true) && (decide (PySem.W.findIn K (.ref C) "__class__" = some (some (.builtin "object.__class__"))) &&
  (decide (PySem.W.specialIn K (.builtin "object.__class__") "__get__" = some (some (.builtin "getset_descriptor.__get__"))) && (decide (PySem.W.takesIn K (.builtin "object.__class__") = some true) &&
  (decide (PySem.W.mroIn K C (.type "object") = some true) && decide (PySem.W.typeIn K (.ref C) = some (.type "type")))))))))
theorem isB_ok {K : PySem.W.Frag} {C : Addr} (h : isB K C = true) : IsT K C ∧ PySem.W.typeIn K (.ref C) = some (.type "type") := by
  unfold isB at h
  simp only [Bool.and_eq_true, decide_eq_true_eq] at h
  obtain ⟨h1, h2, h3, h4, h5, h6, h7, h8, h9⟩ := h
  exact ⟨⟨h1, h2, h3, h4, h5, h6, h7, h8⟩, h9⟩
def exB (K : PySem.W.Frag) (C fI : Addr) (f : Str) (bm : List Value) (newId : String) : Bool :=
  PySem.W.excInitIn K C bm newId && (PySem.W.excOver K C bm && (decide (PySem.W.findIn K (.ref C) "__init__" = some (some (.ref fI))) && (decide (PySem.W.typeIn K (.ref fI) = some (.type "function")) &&
  (decide (PySem.W.findIn K (.ref C) "__setattr__" = some (some (.builtin "object.__setattr__"))) && (decide (PySem.W.findIn K (.ref C) f = some none) && PySem.W.keepIn K (.ref C))))))
theorem exB_ok {K : PySem.W.Frag} {C fI : Addr} {f : Str} {bm : List Value} {newId : String} (h : exB K C fI f bm newId = true) (t : IsT K C) : ExT K C fI f bm newId := by
  unfold exB at h
  simp only [Bool.and_eq_true, decide_eq_true_eq] at h
  obtain ⟨h1, h2, h3, h4, h5, h6, h7⟩ := h
  exact ⟨h1, h2, h3, h4, h5, h6, t.hd, t.ga, t.gg, t.ex, h7⟩
theorem all_mk {P : Program} {w : World} {K : PySem.W.Frag} {h : Heap} {mg : Str → Option Value} {fa f0 f1 f2 f3 f4 f5 f6 f7 f8 f9 f10 f11 f12 f13 f14 f15 f16 f17 f18 f19 f20 f21 f22 f23 f24 f25 f26 f27 f28 : Addr} {C fI fit cN : Addr} {t1 t2 t3 t4 t5 t6 t7 : Tok} (X : K.In h) (G : h.Ns mainGlobals mg) (hfa : mg "law" = some (.ref fa))
    (a0 : PySem.W.nsIn K mainGlobals "_law_source" = some (some (.ref f0))) (h0 : ∃ fd, Fun K "_law_source" "_law_source" K1.sSource f0 fd)
    (a1 : PySem.W.nsIn K mainGlobals "_law_any" = some (some (.ref f1))) (h1 : ∃ fd, Fun K "_law_any" "_law_any" K1.sAny f1 fd)
    (a2 : PySem.W.nsIn K mainGlobals "_law_of" = some (some (.ref f2))) (h2 : ∃ fd, Fun K "_law_of" "_law_of" K1.sOf f2 fd)
    (a3 : PySem.W.nsIn K mainGlobals "_law_names" = some (some (.ref f3))) (h3 : ∃ fd, Fun K "_law_names" "_law_names" K1.sNames f3 fd)
    (a4 : PySem.W.nsIn K mainGlobals "_law_text" = some (some (.ref f4))) (h4 : ∃ fd, Fun K "_law_text" "_law_text" K1.sLText f4 fd)
    (a5 : PySem.W.nsIn K mainGlobals "_law_frozen" = some (some (.ref f5))) (h5 : ∃ fd, Fun K "_law_frozen" "_law_frozen" K1.sFrozen f5 fd)
    (a6 : PySem.W.nsIn K mainGlobals "_law_grown" = some (some (.ref f6))) (h6 : ∃ fd, Fun K "_law_grown" "_law_grown" K1.sGrown f6 fd)
    (a7 : PySem.W.nsIn K mainGlobals "_law_written" = some (some (.ref f7))) (h7 : ∃ fd, Fun K "_law_written" "_law_written" K1.sWritten f7 fd)
    (a8 : PySem.W.nsIn K mainGlobals "_law_row_written" = some (some (.ref f8))) (h8 : ∃ fd, Fun K "_law_row_written" "_law_row_written" K1.sRowW f8 fd)
    (a9 : PySem.W.nsIn K mainGlobals "_law_next" = some (some (.ref f9))) (h9 : ∃ fd, Fun K "_law_next" "_law_next" K3.sLNext f9 fd)
    (a10 : PySem.W.nsIn K mainGlobals "_law_due" = some (some (.ref f10))) (h10 : ∃ fd, Fun K "_law_due" "_law_due" K3.sLDue f10 fd)
    (a11 : PySem.W.nsIn K mainGlobals "_law_read" = some (some (.ref f11))) (h11 : ∃ fd, Fun K "_law_read" "_law_read" K3.sLRead f11 fd)
    (a12 : PySem.W.nsIn K mainGlobals "_law_text_right" = some (some (.ref f12))) (h12 : ∃ fd, Fun K "_law_text_right" "_law_text_right" K3.sTR f12 fd)
    (a13 : PySem.W.nsIn K mainGlobals "_law_signs" = some (some (.ref f13))) (h13 : ∃ fd, Fun K "_law_signs" "_law_signs" K3.sSigns f13 fd)
    (a14 : PySem.W.nsIn K mainGlobals "_law_bent" = some (some (.ref f14))) (h14 : ∃ fd, Fun K "_law_bent" "_law_bent" K3.sBent f14 fd)
    (a15 : PySem.W.nsIn K mainGlobals "_law_word_right" = some (some (.ref f15))) (h15 : ∃ fd, Fun K "_law_word_right" "_law_word_right" K3.sWordR f15 fd)
    (a16 : PySem.W.nsIn K mainGlobals "taken" = some (some (.ref f16))) (h16 : ∃ fd, Fun K "taken" "taken" K1.sTaken f16 fd)
    (a17 : PySem.W.nsIn K mainGlobals "all_things" = some (some (.ref f17))) (h17 : ∃ fd, Fun K "all_things" "all_things" K1.sAll f17 fd)
    (a18 : PySem.W.nsIn K mainGlobals "built" = some (some (.ref f18))) (h18 : ∃ fd, Fun K "built" "built" K1.sBuilt f18 fd)
    (a19 : PySem.W.nsIn K mainGlobals "thing_text" = some (some (.ref f19))) (h19 : ∃ fd, Fun K "thing_text" "thing_text" K1.sThingText f19 fd)
    (a20 : PySem.W.nsIn K mainGlobals "quoted" = some (some (.ref f20))) (h20 : ∃ fd, Fun K "quoted" "quoted" K1.sQuoted f20 fd)
    (a21 : PySem.W.nsIn K mainGlobals "_node_text" = some (some (.ref f21))) (h21 : ∃ fd, Fun K "_node_text" "_node_text" K1.sNodeText f21 fd)
    (a22 : PySem.W.nsIn K mainGlobals "forest_text" = some (some (.ref f22))) (h22 : ∃ fd, Fun K "forest_text" "forest_text" K1.sForestText f22 fd)
    (a23 : PySem.W.nsIn K mainGlobals "read_node" = some (some (.ref f23))) (h23 : ∃ fd, Fun K "read_node" "read_node" K3.sReadNode f23 fd)
    (a24 : PySem.W.nsIn K mainGlobals "read_forest" = some (some (.ref f24))) (h24 : ∃ fd, Fun K "read_forest" "read_forest" K3.sReadForest f24 fd)
    (a25 : PySem.W.nsIn K mainGlobals "_read" = some (some (.ref f25))) (h25 : ∃ fd, Fun K "_read" "_read" K3.sRead f25 fd)
    (a26 : PySem.W.nsIn K mainGlobals "quote_end" = some (some (.ref f26))) (h26 : ∃ fd, Fun K "quote_end" "quote_end" K3.sQuoteEnd f26 fd)
    (a27 : PySem.W.nsIn K mainGlobals "_name_end" = some (some (.ref f27))) (h27 : ∃ fd, Fun K "_name_end" "_name_end" K3.sNameEnd f27 fd)
    (a28 : PySem.W.nsIn K mainGlobals "law" = some (some (.ref f28))) (h28 : ∃ fd, Fun K "law" "law" K3.sLaw f28 fd)
    (b_C : PySem.W.nsIn K mainGlobals "InvalidText" = some (some (.ref C)))
    (j_C : PySem.W.findIn K (.ref C) "__init__" = some (some (.ref fI)))
    (g_C : ∃ fd, Fun K "__init__" "InvalidText.__init__" K3.sI0 fI fd)
    (e1_C : isB K C = true)
    (e2_C : exB K C fI "at" bmExc "Exception.__new__" = true)
    (y_C : PySem.W.exmOne K (.ref C) (.ref C) = some true)
    (b_cN : PySem.W.nsIn K mainGlobals "InvalidNode" = some (some (.ref cN)))
    (b_fit : PySem.W.nsIn K mainGlobals "FitError" = some (some (.ref fit)))
    (y1 : PySem.W.kitOne K (.ref C) (.ref fit) = some true)
    (y2 : PySem.W.kitOne K (.ref C) (.ref cN) = some false)
    (c1 : PySem.W.nsIn K mainGlobals "NAME_MOST" = some (some (.int 8 t1)))
    (c2 : PySem.W.nsIn K mainGlobals "TEXT_MOST" = some (some (.int 16 t2)))
    (c3 : PySem.W.nsIn K mainGlobals "NAME_SIGNS" = some (some (.str abc t3)))
    (c4 : PySem.W.nsIn K mainGlobals "TEXT_SIGNS" = some (some (.str abc9 t4)))
    (c5 : PySem.W.nsIn K mainGlobals "AT_FIRST" = some (some (.int 0 t5)))
    (c6 : PySem.W.nsIn K mainGlobals "AT_THING" = some (some (.int 1 t6)))
    (c7 : PySem.W.nsIn K mainGlobals "BEHIND" = some (some (.int 2 t7)))
    (z_int : PySem.W.nsIn K mainGlobals "int" = some none)
    (z_abs : PySem.W.nsIn K mainGlobals "abs" = some none)
    (z_len : PySem.W.nsIn K mainGlobals "len" = some none)
    (z_sorted : PySem.W.nsIn K mainGlobals "sorted" = some none)
    (z_range : PySem.W.nsIn K mainGlobals "range" = some none)
    (z_isinstance : PySem.W.nsIn K mainGlobals "isinstance" = some none)
    (z_str : PySem.W.nsIn K mainGlobals "str" = some none)
    (z_tuple : PySem.W.nsIn K mainGlobals "tuple" = some none)
    (z_list : PySem.W.nsIn K mainGlobals "list" = some none)
    (z_repr : PySem.W.nsIn K mainGlobals "repr" = some none)
    :
    ∃ fd : FuncData, (∀ (s : Shared) (v : Value), BindsTo s fd ⟨[v], []⟩ [("script", v)]) ∧ ∀ base : Heap, K.In base → base.Ns mainGlobals mg → FnG P w K mg base CX0 76 fa fd ["script"] (spLaw K) := by
  have e := hfa.symm.trans (PySem.W.mg_of X G a28)
  cases e
  obtain ⟨d0, F0⟩ := h0
  obtain ⟨d1, F1⟩ := h1
  obtain ⟨d2, F2⟩ := h2
  obtain ⟨d3, F3⟩ := h3
  obtain ⟨d4, F4⟩ := h4
  obtain ⟨d5, F5⟩ := h5
  obtain ⟨d6, F6⟩ := h6
  obtain ⟨d7, F7⟩ := h7
  obtain ⟨d8, F8⟩ := h8
  obtain ⟨d9, F9⟩ := h9
  obtain ⟨d10, F10⟩ := h10
  obtain ⟨d11, F11⟩ := h11
  obtain ⟨d12, F12⟩ := h12
  obtain ⟨d13, F13⟩ := h13
  obtain ⟨d14, F14⟩ := h14
  obtain ⟨d15, F15⟩ := h15
  obtain ⟨d16, F16⟩ := h16
  obtain ⟨d17, F17⟩ := h17
  obtain ⟨d18, F18⟩ := h18
  obtain ⟨d19, F19⟩ := h19
  obtain ⟨d20, F20⟩ := h20
  obtain ⟨d21, F21⟩ := h21
  obtain ⟨d22, F22⟩ := h22
  obtain ⟨d23, F23⟩ := h23
  obtain ⟨d24, F24⟩ := h24
  obtain ⟨d25, F25⟩ := h25
  obtain ⟨d26, F26⟩ := h26
  obtain ⟨d27, F27⟩ := h27
  obtain ⟨d28, F28⟩ := h28
  have v0 := F0.binds (ps := ["script"]) fun _ _ _ _ _ _ us hl => match us, hl with | [_], _ => rfl
  have v1 := F1.binds (ps := ["deal", "bound"]) fun _ _ _ _ _ _ us hl => match us, hl with | [_, _], _ => rfl
  have v2 := F2.binds (ps := ["deal", "some"]) fun _ _ _ _ _ _ us hl => match us, hl with | [_, _], _ => rfl
  have v3 := F3.binds (ps := ["deal", "many"]) fun _ _ _ _ _ _ us hl => match us, hl with | [_, _], _ => rfl
  have v4 := F4.binds (ps := ["deal"]) fun _ _ _ _ _ _ us hl => match us, hl with | [_], _ => rfl
  have v5 := F5.binds (ps := ["thing"]) fun _ _ _ _ _ _ us hl => match us, hl with | [_], _ => rfl
  have v6 := F6.binds (ps := ["deal", "names", "many", "deep"]) fun _ _ _ _ _ _ us hl => match us, hl with | [_, _, _, _], _ => rfl
  have v7 := F7.binds (ps := ["thing"]) fun _ _ _ _ _ _ us hl => match us, hl with | [_], _ => rfl
  have v8 := F8.binds (ps := ["things"]) fun _ _ _ _ _ _ us hl => match us, hl with | [_], _ => rfl
  have v9 := F9.binds (ps := ["state", "sign", "node"]) fun _ _ _ _ _ _ us hl => match us, hl with | [_, _, _], _ => rfl
  have v10 := F10.binds (ps := ["text", "node"]) fun _ _ _ _ _ _ us hl => match us, hl with | [_, _], _ => rfl
  have v11 := F11.binds (ps := ["text", "node", "named"]) fun _ _ _ _ _ _ us hl => match us, hl with | [_, _, _], _ => rfl
  have v12 := F12.binds (ps := ["text"]) fun _ _ _ _ _ _ us hl => match us, hl with | [_], _ => rfl
  have v13 := F13.binds (ps := ["deal"]) fun _ _ _ _ _ _ us hl => match us, hl with | [_], _ => rfl
  have v14 := F14.binds (ps := ["deal", "text"]) fun _ _ _ _ _ _ us hl => match us, hl with | [_, _], _ => rfl
  have v15 := F15.binds (ps := ["deal", "names"]) fun _ _ _ _ _ _ us hl => match us, hl with | [_, _], _ => rfl
  have v16 := F16.binds (ps := ["made", "many"]) fun _ _ _ _ _ _ us hl => match us, hl with | [_, _], _ => rfl
  have v17 := F17.binds (ps := ["forest"]) fun _ _ _ _ _ _ us hl => match us, hl with | [_], _ => rfl
  have v18 := F18.binds (ps := ["thing", "of_text", "of_node"]) fun _ _ _ _ _ _ us hl => match us, hl with | [_, _, _], _ => rfl
  have v19 := F19.binds (ps := ["thing"]) fun _ _ _ _ _ _ us hl => match us, hl with | [_], _ => rfl
  have v20 := F20.binds (ps := ["text"]) fun _ _ _ _ _ _ us hl => match us, hl with | [_], _ => rfl
  have v21 := F21.binds (ps := ["name", "texts"]) fun _ _ _ _ _ _ us hl => match us, hl with | [_, _], _ => rfl
  have v22 := F22.binds (ps := ["forest"]) fun _ _ _ _ _ _ us hl => match us, hl with | [_], _ => rfl
  have v23 := F23.binds (ps := ["value"]) fun _ _ _ _ _ _ us hl => match us, hl with | [_], _ => rfl
  have v24 := F24.binds (ps := ["value"]) fun _ _ _ _ _ _ us hl => match us, hl with | [_], _ => rfl
  have v25 := F25.binds (ps := ["value", "alone"]) fun _ _ _ _ _ _ us hl => match us, hl with | [_, _], _ => rfl
  have v26 := F26.binds (ps := ["text", "at"]) fun _ _ _ _ _ _ us hl => match us, hl with | [_, _], _ => rfl
  have v27 := F27.binds (ps := ["text", "at"]) fun _ _ _ _ _ _ us hl => match us, hl with | [_, _], _ => rfl
  obtain ⟨dI_C, FI_C⟩ := g_C
  have it_C := isB_ok e1_C
  have et_C := exB_ok e2_C it_C.1
  have T1 : SourceTxt K mg  := { int := PySem.W.mg_none_of X G z_int, abs := PySem.W.mg_none_of X G z_abs }
  have T2 : AnyTxt K mg  := { int := PySem.W.mg_none_of X G z_int }
  have T3 : OfTxt K mg f1 := { len := PySem.W.mg_none_of X G z_len, any := PySem.W.mg_of X G a1, kAny := F1.kp }
  have T4 : NamesTxt K mg f1 f2 := { n_sorted := PySem.W.mg_none_of X G z_sorted, n_range := PySem.W.mg_none_of X G z_range, n_int := PySem.W.mg_none_of X G z_int, n_len := PySem.W.mg_none_of X G z_len, g_law_of := PySem.W.mg_of X G a2, k_law_of := F2.kp, g_law_any := PySem.W.mg_of X G a1, k_law_any := F1.kp }
  have T5 : LTextTxt K mg f1 f2 := { n_range := PySem.W.mg_none_of X G z_range, g_law_of := PySem.W.mg_of X G a2, k_law_of := F2.kp, g_law_any := PySem.W.mg_of X G a1, k_law_any := F1.kp }
  have T6 : FrozenTxt K mg f5 := { n_isinstance := PySem.W.mg_none_of X G z_isinstance, n_str := PySem.W.mg_none_of X G z_str, n_tuple := PySem.W.mg_none_of X G z_tuple, g_law_frozen := PySem.W.mg_of X G a5, k_law_frozen := F5.kp }
  have T7 : GrownTxt K mg f1 f2 f4 f5 := { n_range := PySem.W.mg_none_of X G z_range, n_len := PySem.W.mg_none_of X G z_len, n_list := PySem.W.mg_none_of X G z_list, n_isinstance := PySem.W.mg_none_of X G z_isinstance, g_law_of := PySem.W.mg_of X G a2, k_law_of := F2.kp, g_law_any := PySem.W.mg_of X G a1, k_law_any := F1.kp, g_law_text := PySem.W.mg_of X G a4, k_law_text := F4.kp, g_law_frozen := PySem.W.mg_of X G a5, k_law_frozen := F5.kp }
  have T8 : TextTxt K mg f16 f17 f18 f20 f21 f19 := { n_len := PySem.W.mg_none_of X G z_len, n_list := PySem.W.mg_none_of X G z_list, n_isinstance := PySem.W.mg_none_of X G z_isinstance, n_str := PySem.W.mg_none_of X G z_str, g_taken := PySem.W.mg_of X G a16, k_taken := F16.kp, g_all_things := PySem.W.mg_of X G a17, k_all_things := F17.kp, g_built := PySem.W.mg_of X G a18, k_built := F18.kp, g_quoted := PySem.W.mg_of X G a20, k_quoted := F20.kp, g_node_text := PySem.W.mg_of X G a21, k_node_text := F21.kp, g_thing_text := PySem.W.mg_of X G a19, k_thing_text := F19.kp }
  have T9 : ReadTxt K mg C fI f26 f27 f25 t1 t2 t3 t4 t5 t6 t7 := { n_isinstance := PySem.W.mg_none_of X G z_isinstance, n_str := PySem.W.mg_none_of X G z_str, n_tuple := PySem.W.mg_none_of X G z_tuple, n_len := PySem.W.mg_none_of X G z_len, n_range := PySem.W.mg_none_of X G z_range, m_InvalidText := PySem.W.mg_of X G b_C, t_InvalidText := et_C, ty_InvalidText := it_C.2, g_NAME_MOST := PySem.W.mg_of X G c1, g_TEXT_MOST := PySem.W.mg_of X G c2, g_NAME_SIGNS := PySem.W.mg_of X G c3, g_TEXT_SIGNS := PySem.W.mg_of X G c4, g_AT_FIRST := PySem.W.mg_of X G c5, g_AT_THING := PySem.W.mg_of X G c6, g_BEHIND := PySem.W.mg_of X G c7, g_quote_end := PySem.W.mg_of X G a26, k_quote_end := F26.kp, g_name_end := PySem.W.mg_of X G a27, k_name_end := F27.kp, g_read := PySem.W.mg_of X G a25, k_read := F25.kp }
  have TA : LawWTxt K mg f7 f8 := { n_isinstance := PySem.W.mg_none_of X G z_isinstance, n_tuple := PySem.W.mg_none_of X G z_tuple, n_str := PySem.W.mg_none_of X G z_str, g_law_written := PySem.W.mg_of X G a7, k_law_written := F7.kp, g_law_row_written := PySem.W.mg_of X G a8, k_law_row_written := F8.kp }
  have TB : LwTxt mg K f9 := { n_range := PySem.W.mg_none_of X G z_range, n_len := PySem.W.mg_none_of X G z_len, g_law_next := PySem.W.mg_of X G a9, k_law_next := F9.kp }
  have TC : LrTxt K mg C fit cN f23 f24 := { n_isinstance := PySem.W.mg_none_of X G z_isinstance, m_InvalidText := PySem.W.mg_of X G b_C, m_FitError := PySem.W.mg_of X G b_fit, m_InvalidNode := PySem.W.mg_of X G b_cN, it := it_C.1, xf := ⟨it_C.1.ga, it_C.1.gg, it_C.1.ex, it_C.1.hd⟩, no_at := et_C.no, exm := y_C, kitF := y1, kitN := y2, g_read_node := PySem.W.mg_of X G a23, k_read_node := F23.kp, g_read_forest := PySem.W.mg_of X G a24, k_read_forest := F24.kp }
  have TD : TrTxt K mg f10 f11 f7 f8 f19 f22 := { n_repr := PySem.W.mg_none_of X G z_repr, g_law_due := PySem.W.mg_of X G a10, k_law_due := F10.kp, g_law_read := PySem.W.mg_of X G a11, k_law_read := F11.kp, g_law_written := PySem.W.mg_of X G a7, k_law_written := F7.kp, g_law_row_written := PySem.W.mg_of X G a8, k_law_row_written := F8.kp, g_thing_text := PySem.W.mg_of X G a19, k_thing_text := F19.kp, g_forest_text := PySem.W.mg_of X G a22, k_forest_text := F22.kp }
  have TE : LsTxt K mg f1 f2 f13 f12 := { n_range := PySem.W.mg_none_of X G z_range, n_len := PySem.W.mg_none_of X G z_len, g_law_any := PySem.W.mg_of X G a1, k_law_any := F1.kp, g_law_of := PySem.W.mg_of X G a2, k_law_of := F2.kp, g_law_signs := PySem.W.mg_of X G a13, k_law_signs := F13.kp, g_law_text_right := PySem.W.mg_of X G a12, k_law_text_right := F12.kp }
  have TL : LawTxt K mg f0 f3 f1 f2 f6 f7 f8 f13 f12 f14 f15 := { n_range := PySem.W.mg_none_of X G z_range, g_law_source := PySem.W.mg_of X G a0, k_law_source := F0.kp, g_law_names := PySem.W.mg_of X G a3, k_law_names := F3.kp, g_law_any := PySem.W.mg_of X G a1, k_law_any := F1.kp, g_law_of := PySem.W.mg_of X G a2, k_law_of := F2.kp, g_law_grown := PySem.W.mg_of X G a6, k_law_grown := F6.kp, g_law_written := PySem.W.mg_of X G a7, k_law_written := F7.kp, g_law_row_written := PySem.W.mg_of X G a8, k_law_row_written := F8.kp, g_law_signs := PySem.W.mg_of X G a13, k_law_signs := F13.kp, g_law_text_right := PySem.W.mg_of X G a12, k_law_text_right := F12.kp, g_law_bent := PySem.W.mg_of X G a14, k_law_bent := F14.kp, g_law_word_right := PySem.W.mg_of X G a15, k_law_word_right := F15.kp }
  have kK23 : BindsK d23 ["value"] ["value"] := fun s us hl => by
    match us, hl with
    | [u0], _ =>
      obtain ⟨_, _, _, _, _, _, _, _, _, rfl, _, _⟩ := F23.ex
      exact .of_eq rfl
  have kK24 : BindsK d24 ["value"] ["value"] := fun s us hl => by
    match us, hl with
    | [u0], _ =>
      obtain ⟨_, _, _, _, _, _, _, _, _, rfl, _, _⟩ := F24.ex
      exact .of_eq rfl
  refine ⟨d28, fun s v => ?_, fun base _ _ => ?_⟩
  · obtain ⟨_, _, _, _, _, _, _, _, _, rfl, _, _⟩ := F28.ex
    exact .of_eq rfl
  · have GS : FnOk P w K mg base CX0 1 f0 d0 ["script"] (spSource K) := ok_source F0 T1
    have GA : FnOk P w K mg base CX0 1 f1 d1 ["deal", "bound"] (spAny) := ok_any F1 T2
    have GO : FnOk P w K mg base CX0 2 f2 d2 ["deal", "some"] (spOf) := ok_of F2 T3 GA v1
    have GN : FnOk P w K mg base CX0 3 f3 d3 ["deal", "many"] (spNames) := ok_names F3 T4 GA v1 GO v2
    have GT : FnOk P w K mg base CX0 3 f4 d4 ["deal"] (spLText) := ok_ltext F4 T5 GA v1 GO v2
    have GFr : FnOk P w K mg base CX0 (1 + 60) f5 d5 ["thing"] (spFrozen K 60) := ok_frozen F5 T6 v5 60
    have GG : FnOk P w K mg base CX0 (4 + 60) f6 d6 ["deal", "names", "many", "deep"] (spGrown K 60) := ok_grown F6 T7 GA v1 GO v2 GT v4 GFr v5
    have Gt : FnOk P w K mg base CX0 1 f16 d16 ["made", "many"] (spTaken K) := ok_taken F16 T8
    have Ga : FnOk P w K mg base CX0 1 f17 d17 ["forest"] (spAllT K) := ok_all F17 T8
    have Gq : FnOk P w K mg base CX0 1 f20 d20 ["text"] (spQuoted) := ok_quoted F20
    have Gn : FnOk P w K mg base CX0 1 f21 d21 ["name", "texts"] (spNodeText) := ok_nodeText F21
    have Gb : FnOk P w K mg base CX0 2 f18 d18 ["thing", "of_text", "of_node"] (spBuilt K f20 f21) := ok_built F18 T8 Gt v16 Ga v17 Gq v20 Gn v21
    have Gth : FnOk P w K mg base CX0 3 f19 d19 ["thing"] (spText1 K) := ok_thingText F19 T8 Gb v18
    have Gfo : FnOk P w K mg base CX0 4 f22 d22 ["forest"] (spForest K) := ok_forestText F22 T8 Gth v19
    have GW := ok_bothW (P := P) (w := w) (mg := mg) (base := base) F7 F8 TA v7 v8 31
    have DA : FnOk P w K mg base CX0 1 f1 d1 ["deal", "bound"] (spD K spAnyD) := GA.imp any_imp
    have DO : FnOk P w K mg base CX0 2 f2 d2 ["deal", "some"] (spD K spOfD) := GO.imp of_imp
    have DN : FnOk P w K mg base CX0 3 f3 d3 ["deal", "many"] (spD K spNamesD) := GN.imp names_imp
    have DG : FnOk P w K mg base CX0 64 f6 d6 ["deal", "names", "many", "deep"] (spD K (spGrownD 60)) := GG.imp (grown_imp 60)
    have Dth : FnOk P w K mg base CX0 3 f19 d19 ["thing"] (spD K spText1D) := Gth.imp text1_imp
    have Dfo : FnOk P w K mg base CX0 4 f22 d22 ["forest"] (spD K spForestD) := Gfo.imp forest_imp
    have DW : FnOk P w K mg base CX0 (1 + 2 * 31) f7 d7 ["thing"] (spD K (spWrittenD 31)) := GW.1.imp (written_imp 31)
    have DR : FnOk P w K mg base CX0 (2 + 2 * 31) f8 d8 ["things"] (spD K (spRowWD 31)) := GW.2.imp (rowW_imp 31)
    have GI : FnOk P w K mg base CX0 1 fI dI_C ["self", "at"] (spInit C "at") := ok_init0 FI_C et_C
    have Gqe : FnOk P w K mg base (L2.CX P w) 4 f26 d26 ["text", "at"] (spD K (spScan C qScan 1)) := ok_quoteEnd F26 T9 GI (bp0 FI_C)
    have Gne : FnOk P w K mg base (L2.CX P w) 4 f27 d27 ["text", "at"] (spD K (spScan C nScan 0)) := ok_nameEnd F27 T9 GI (bp0 FI_C)
    have Gre : FnOk P w K mg base (L2.CX P w) 5 f25 d25 ["value", "alone"] (spD K (spRead C)) := ok_read F25 T9 GI (bp0 FI_C) Gqe v26 Gne v27
    have Grn : FnOk P w K mg base (L2.CX P w) 6 f23 d23 ["value"] (spD K (spReadNode C)) := ok_readNode F23 T9 Gre v25
    have Grf : FnOk P w K mg base (L2.CX P w) 6 f24 d24 ["value"] (spD K (spReadForest C)) := ok_readForest F24 T9 Gre v25
    have Gnx : FnOk P w K mg base CX0 1 f9 d9 ["state", "sign", "node"] (spD K spNext) := ok_next F9
    have Gdu : FnOk P w K mg base CX0 3 f10 d10 ["text", "node"] (spD K spDue) := ok_due F10 TB Gnx v9
    have Glr : FnOk P w K mg base (L2.CX P w) 7 f11 d11 ["text", "node", "named"] (spD K spLRead) := ok_lread F11 TC Grn v23 kK23 Grf v24 kK24
    have Gtr : FnG P w K mg base CX0 (2 * 31 + 10) f12 d12 ["text"] (spD K (spTR 31)) := ok_tr 31 F12 TD Gdu v10 Glr v11 DW v7 DR v8 Dth v19 Dfo v22
    have Gsi : FnOk P w K mg base CX0 3 f13 d13 ["deal"] (spD K spSigns) := ok_signs F13 TE DA v1 DO v2
    have Gbe : FnOk P w K mg base CX0 4 f14 d14 ["deal", "text"] (spD K spBent) := ok_bent F14 TE DA v1 Gsi v13
    have Gwr : FnG P w K mg base CX0 74 f15 d15 ["deal", "names"] (spD K spWordR) := ok_wordR 0 F15 TE DA v1 DO v2 Gtr v12
    exact ok_law F28 TL GS v0 DN v3 DA v1 DO v2 DG v6 DW v7 DR v8 Gsi v13 Gtr v12 Gbe v14 Gwr v15
end K3

open PySem PySem.W PyProof.Rows
set_option maxRecDepth 100000 in
set_option maxHeartbeats 0 in
theorem PySem.Challenge.cw_turnsfit_k07_whole_any_string_read_or_re_holds : PySem.Challenge.rw_turnsfit_k07_whole_any_string_read_or_re.Holds := by
  w_on; o_law; k_head; (case hw => w_witness2)
  k_fill
  refine Grd.walkG (l := PySem.Challenge.rw_turnsfit_k07_whole_any_string_read_or_re) (sp := K3.spLaw) (x := "script") (k := 76) rfl (by decide) rfl ⟨rfl, by decide, by decide⟩ (fun w h Y => PySem.W.kIn_of Y) ?F (fun K H a ns hl hS => ⟨a, ns, rfl, hS, hl, fun _ => rfl⟩)
  case F =>
    intro w mg fa h KX G hmg
    refine' K3.all_mk KX G hmg ?kq_a0 ?kq_h0 ?kq_a1 ?kq_h1 ?kq_a2 ?kq_h2 ?kq_a3 ?kq_h3 ?kq_a4 ?kq_h4 ?kq_a5 ?kq_h5 ?kq_a6 ?kq_h6 ?kq_a7 ?kq_h7 ?kq_a8 ?kq_h8 ?kq_a9 ?kq_h9 ?kq_a10 ?kq_h10 ?kq_a11 ?kq_h11 ?kq_a12 ?kq_h12 ?kq_a13 ?kq_h13 ?kq_a14 ?kq_h14 ?kq_a15 ?kq_h15 ?kq_a16 ?kq_h16 ?kq_a17 ?kq_h17 ?kq_a18 ?kq_h18 ?kq_a19 ?kq_h19 ?kq_a20 ?kq_h20 ?kq_a21 ?kq_h21 ?kq_a22 ?kq_h22 ?kq_a23 ?kq_h23 ?kq_a24 ?kq_h24 ?kq_a25 ?kq_h25 ?kq_a26 ?kq_h26 ?kq_a27 ?kq_h27 ?kq_a28 ?kq_h28 ?kq_b_C ?kq_j_C ?kq_g_C ?kq_e1_C ?kq_e2_C ?kq_y_C ?kq_b_cN ?kq_b_fit ?kq_y1 ?kq_y2 ?kq_c1 ?kq_c2 ?kq_c3 ?kq_c4 ?kq_c5 ?kq_c6 ?kq_c7 ?kq_z_int ?kq_z_abs ?kq_z_len ?kq_z_sorted ?kq_z_range ?kq_z_isinstance ?kq_z_str ?kq_z_tuple ?kq_z_list ?kq_z_repr
    (case kq_a0 => k_is)
    (case kq_h0 => refine' ⟨_, L2.fun_mk (st := K1.sSource) ?kql ?kqc ?kqk⟩; (case kql => k_is); (case kqc => k_is); (case kqk => k_is))
    (case kq_a1 => k_is)
    (case kq_h1 => refine' ⟨_, L2.fun_mk (st := K1.sAny) ?kql ?kqc ?kqk⟩; (case kql => k_is); (case kqc => k_is); (case kqk => k_is))
    (case kq_a2 => k_is)
    (case kq_h2 => refine' ⟨_, L2.fun_mk (st := K1.sOf) ?kql ?kqc ?kqk⟩; (case kql => k_is); (case kqc => k_is); (case kqk => k_is))
    (case kq_a3 => k_is)
    (case kq_h3 => refine' ⟨_, L2.fun_mk (st := K1.sNames) ?kql ?kqc ?kqk⟩; (case kql => k_is); (case kqc => k_is); (case kqk => k_is))
    (case kq_a4 => k_is)
    (case kq_h4 => refine' ⟨_, L2.fun_mk (st := K1.sLText) ?kql ?kqc ?kqk⟩; (case kql => k_is); (case kqc => k_is); (case kqk => k_is))
    (case kq_a5 => k_is)
    (case kq_h5 => refine' ⟨_, L2.fun_mk (st := K1.sFrozen) ?kql ?kqc ?kqk⟩; (case kql => k_is); (case kqc => k_is); (case kqk => k_is))
    (case kq_a6 => k_is)
    (case kq_h6 => refine' ⟨_, L2.fun_mk (st := K1.sGrown) ?kql ?kqc ?kqk⟩; (case kql => k_is); (case kqc => k_is); (case kqk => k_is))
    (case kq_a7 => k_is)
    (case kq_h7 => refine' ⟨_, L2.fun_mk (st := K1.sWritten) ?kql ?kqc ?kqk⟩; (case kql => k_is); (case kqc => k_is); (case kqk => k_is))
    (case kq_a8 => k_is)
    (case kq_h8 => refine' ⟨_, L2.fun_mk (st := K1.sRowW) ?kql ?kqc ?kqk⟩; (case kql => k_is); (case kqc => k_is); (case kqk => k_is))
    (case kq_a9 => k_is)
    (case kq_h9 => refine' ⟨_, L2.fun_mk (st := K3.sLNext) ?kql ?kqc ?kqk⟩; (case kql => k_is); (case kqc => k_is); (case kqk => k_is))
    (case kq_a10 => k_is)
    (case kq_h10 => refine' ⟨_, L2.fun_mk (st := K3.sLDue) ?kql ?kqc ?kqk⟩; (case kql => k_is); (case kqc => k_is); (case kqk => k_is))
    (case kq_a11 => k_is)
    (case kq_h11 => refine' ⟨_, L2.fun_mk (st := K3.sLRead) ?kql ?kqc ?kqk⟩; (case kql => k_is); (case kqc => k_is); (case kqk => k_is))
    (case kq_a12 => k_is)
    (case kq_h12 => refine' ⟨_, L2.fun_mk (st := K3.sTR) ?kql ?kqc ?kqk⟩; (case kql => k_is); (case kqc => k_is); (case kqk => k_is))
    (case kq_a13 => k_is)
    (case kq_h13 => refine' ⟨_, L2.fun_mk (st := K3.sSigns) ?kql ?kqc ?kqk⟩; (case kql => k_is); (case kqc => k_is); (case kqk => k_is))
    (case kq_a14 => k_is)
    (case kq_h14 => refine' ⟨_, L2.fun_mk (st := K3.sBent) ?kql ?kqc ?kqk⟩; (case kql => k_is); (case kqc => k_is); (case kqk => k_is))
    (case kq_a15 => k_is)
    (case kq_h15 => refine' ⟨_, L2.fun_mk (st := K3.sWordR) ?kql ?kqc ?kqk⟩; (case kql => k_is); (case kqc => k_is); (case kqk => k_is))
    (case kq_a16 => k_is)
    (case kq_h16 => refine' ⟨_, L2.fun_mk (st := K1.sTaken) ?kql ?kqc ?kqk⟩; (case kql => k_is); (case kqc => k_is); (case kqk => k_is))
    (case kq_a17 => k_is)
    (case kq_h17 => refine' ⟨_, L2.fun_mk (st := K1.sAll) ?kql ?kqc ?kqk⟩; (case kql => k_is); (case kqc => k_is); (case kqk => k_is))
    (case kq_a18 => k_is)
    (case kq_h18 => refine' ⟨_, L2.fun_mk (st := K1.sBuilt) ?kql ?kqc ?kqk⟩; (case kql => k_is); (case kqc => k_is); (case kqk => k_is))
    (case kq_a19 => k_is)
    (case kq_h19 => refine' ⟨_, L2.fun_mk (st := K1.sThingText) ?kql ?kqc ?kqk⟩; (case kql => k_is); (case kqc => k_is); (case kqk => k_is))
    (case kq_a20 => k_is)
    (case kq_h20 => refine' ⟨_, L2.fun_mk (st := K1.sQuoted) ?kql ?kqc ?kqk⟩; (case kql => k_is); (case kqc => k_is); (case kqk => k_is))
    (case kq_a21 => k_is)
    (case kq_h21 => refine' ⟨_, L2.fun_mk (st := K1.sNodeText) ?kql ?kqc ?kqk⟩; (case kql => k_is); (case kqc => k_is); (case kqk => k_is))
    (case kq_a22 => k_is)
    (case kq_h22 => refine' ⟨_, L2.fun_mk (st := K1.sForestText) ?kql ?kqc ?kqk⟩; (case kql => k_is); (case kqc => k_is); (case kqk => k_is))
    (case kq_a23 => k_is)
    (case kq_h23 => refine' ⟨_, L2.fun_mk (st := K3.sReadNode) ?kql ?kqc ?kqk⟩; (case kql => k_is); (case kqc => k_is); (case kqk => k_is))
    (case kq_a24 => k_is)
    (case kq_h24 => refine' ⟨_, L2.fun_mk (st := K3.sReadForest) ?kql ?kqc ?kqk⟩; (case kql => k_is); (case kqc => k_is); (case kqk => k_is))
    (case kq_a25 => k_is)
    (case kq_h25 => refine' ⟨_, L2.fun_mk (st := K3.sRead) ?kql ?kqc ?kqk⟩; (case kql => k_is); (case kqc => k_is); (case kqk => k_is))
    (case kq_a26 => k_is)
    (case kq_h26 => refine' ⟨_, L2.fun_mk (st := K3.sQuoteEnd) ?kql ?kqc ?kqk⟩; (case kql => k_is); (case kqc => k_is); (case kqk => k_is))
    (case kq_a27 => k_is)
    (case kq_h27 => refine' ⟨_, L2.fun_mk (st := K3.sNameEnd) ?kql ?kqc ?kqk⟩; (case kql => k_is); (case kqc => k_is); (case kqk => k_is))
    (case kq_a28 => k_is)
    (case kq_h28 => refine' ⟨_, L2.fun_mk (st := K3.sLaw) ?kql ?kqc ?kqk⟩; (case kql => k_is); (case kqc => k_is); (case kqk => k_is))
    (case kq_b_C => k_is)
    (case kq_j_C => k_is)
    (case kq_g_C => refine' ⟨_, L2.fun_mk (st := K3.sI0) ?kql ?kqc ?kqk⟩; (case kql => k_is); (case kqc => k_is); (case kqk => k_is))
    (case kq_e1_C => kernel_rfl)
    (case kq_e2_C => kernel_rfl)
    (case kq_y_C => kernel_rfl)
    (case kq_b_cN => k_is)
    (case kq_b_fit => k_is)
    (case kq_y1 => kernel_rfl)
    (case kq_y2 => kernel_rfl)
    (case kq_c1 => k_is)
    (case kq_c2 => k_is)
    (case kq_c3 => k_is)
    (case kq_c4 => k_is)
    (case kq_c5 => k_is)
    (case kq_c6 => k_is)
    (case kq_c7 => k_is)
    (case kq_z_int => k_is)
    (case kq_z_abs => k_is)
    (case kq_z_len => k_is)
    (case kq_z_sorted => k_is)
    (case kq_z_range => k_is)
    (case kq_z_isinstance => k_is)
    (case kq_z_str => k_is)
    (case kq_z_tuple => k_is)
    (case kq_z_list => k_is)
    (case kq_z_repr => k_is)

