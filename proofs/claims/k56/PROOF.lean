import PyProof.Rows.All
import Wide.All
import OpenK.AllK
import Wide.FinOn
import HandS.ForMost
import HandS.Style
import HandS.TupAny
import HandS.Walk
import HandS.Wide
import HandS.Flow
import HandS.IsInst
import KE.GoesEnum
import PyProof.FactsAll.list_1
import HandS.ExcOwn
import HandS.Text
import HandS.Iter
import HandS.More
import HandS.Deep
import HandS.Strs
import HandS.ReCall
import HandS.Zip
import HandS.Dict
import HandS.DictComp
import HandS.TupMul
import HandS.Conv
import HandS.NoneIn
import HandS.Ends
import PySem.Challenge.RW_turnsfit_k56_effects_of_forests
set_option Elab.async false
set_option linter.all false
set_option maxRecDepth 100000
set_option maxHeartbeats 16000000
/-! rules of general use: t[::-1], xs.extend(t), enumerate(t) of tuples -/
namespace Xr
open PySem PySem.Spec PyProof.Rows L2 HT
section
variable {prog : Program} {w : World} {A : Around} {E : Value → Shared → Prop} {s : Shared}
theorem adjust_back (n : Nat) : Builtin.Slice.sliceAdjust none none (-1) (n : Int) = ((n : Int) - 1, -1) := by
  unfold Builtin.Slice.sliceAdjust
  have h1 : ((-1 : Int) < 0) := by omega
  simp only [h1, if_true]
theorem places_back (n : Nat) : Builtin.Slice.slicePlaces ((n : Int) - 1) (-1) (-1) = n := by
  unfold Builtin.Slice.slicePlaces
  have h1 : ¬ (-1 : Int) > 0 := by omega
  simp only [h1, if_false]
  have e : (-(-1) : Int) = 1 := rfl
  rw [e, Int.ediv_one]
  split <;> omega
theorem sliceApplied_back {sl : Addr} {t : Tok} {n : Nat} {Q : Int × Int × Nat → Shared → Prop} (hs : s.heap.IsSliceOf sl .none .none (.int (-1) t)) (h : Q ((n : Int) - 1, -1, n) s) :
    wpAny (model prog w) A (Builtin.Slice.sliceApplied (.ref sl) (pure (n : Int))) Q E s := by
  obtain ⟨os, hos, hcs, hds⟩ := id hs
  unfold Builtin.Slice.sliceApplied Builtin.Slice.sliceFields
  refine wpAny_bind (wpAny_bind (wpAny_field hos hds (x := .none) rfl (wpAny_bind (wpAny_field hos hds (x := .none) rfl (wpAny_bind (wpAny_field hos hds (x := .int (-1) t) rfl (wpAny_pure ?_)))))))
  refine wpAny_bind (slicePart_int ?_)
  show wpAny _ _ (if ((-1 : Int) == 0) = true then _ else _) _ _ s
  rw [if_neg (by decide)]
  refine wpAny_bind (slicePart_none (wpAny_bind (slicePart_none (wpAny_bind (wpAny_pure ?_)))))
  show wpAny _ _ (match Builtin.Slice.sliceAdjust none none (-1) (n : Int) with | (lo, hi) => pure (lo, (-1 : Int), Builtin.Slice.slicePlaces lo hi (-1))) _ _ s
  rw [adjust_back n]
  show wpAny _ _ (pure ((n : Int) - 1, (-1 : Int), Builtin.Slice.slicePlaces ((n : Int) - 1) (-1) (-1))) _ _ s
  rw [places_back]
  exact wpAny_pure h
theorem fm_congr {α β : Type} {f g : α → Option β} : ∀ {l : List α}, (∀ x ∈ l, f x = g x) → l.filterMap f = l.filterMap g
  | [], _ => rfl
  | a :: l, h => by
    rw [List.filterMap_cons, List.filterMap_cons, h a (by simp), fm_congr fun x hx => h x (List.mem_cons_of_mem _ hx)]
theorem pick_back (xs : Array Value) : ((List.range xs.size).filterMap fun (m : Nat) => xs[(((xs.size : Int) - 1) + (m : Int) * (-1)).toNat]?).toArray = xs.toList.reverse.toArray := by
  have e := PySem.W.krv_pick xs
  rw [← e]
  unfold slicePick
  rw [PySem.W.krv_bounds]
  show _ = ((sliceRange ((xs.size : Int) - 1) (-1) (-1)).filterMap _).toArray
  rw [PySem.W.krv_sliceRange, List.filterMap_map]
  congr 1
  refine fm_congr fun m hm => ?_
  have h : m < xs.size := List.mem_range.mp hm
  have e2 : (((xs.size : Int) - 1) + (m : Int) * (-1)).toNat = xs.size - 1 - m := by omega
  rw [e2]
  rfl
theorem getItem_tuple_back {t sl : Addr} {items : Array Value} {u : Tok} {Q : Value → Shared → Prop} (ht : IsTup s.heap t items) (hs : s.heap.IsSliceOf sl .none .none (.int (-1) u))
    (h : Q (.ref s.heap.objs.size) { s with heap := s.heap.push { cls := .type "tuple", data := .seq items.toList.reverse.toArray } })
    (hsz : items.size ≤ sizeLine) : wpAny (model prog w) A (getItem (.ref t) (.ref sl)) Q E s := by
  have htake : sizeOk (.seq items.toList.reverse.toArray) := by
    show items.toList.reverse.toArray.size ≤ sizeLine
    rw [List.size_toArray, List.length_reverse, Array.length_toList]
    exact hsz
  obtain ⟨os, hos, hcs, hds⟩ := id hs
  have hTs : s.TypeIs (.ref sl) "slice" := ⟨os, hos, hcs⟩
  unfold getItem
  try with_reducible refine wpAny_holding ?_
  first | refine wpAny_bind (wpAny_pure ?_) | skip
  refine wpAny_bind (wpAny_sequenceKey ht.typeIs (by decide) ?_)
  refine wpAny_bind (wpAny_callSpecial?_slot (name := Str.ofString "__getitem__") ht.typeIs PyProof.Rows.slot_tuple_getitem
    (wpAny_call_entry PyProof.Rows.slot_tuple_getitem ht.typeIs entry_tuple_getitem ?_ (args_tuple_getitem _ _)))
  show wpAny _ _ (Builtin.Tuple.tupleItemsOf (.ref t) >>= _) _ _ s
  refine wpAny_bind (tupleItemsOf_ ht ?_)
  refine wpAny_bind (wpAny_typeOf hTs ?_)
  rw [if_pos (by decide)]
  refine wpAny_bind (sliceApplied_back hs ?_)
  have hno : ¬ ((((items.size : Int) - 1) == 0 && (-1 : Int) == 1 && items.size == items.size) = true) := by
    intro q
    rw [Bool.and_eq_true, Bool.and_eq_true] at q
    have q1 : (-1 : Int) = 1 := eq_of_beq q.1.2
    omega
  show wpAny _ _ (if (((items.size : Int) - 1) == 0 && (-1 : Int) == 1 && items.size == items.size) = true then _ else _) _ _ s
  rw [if_neg hno, pick_back]
  first
    | exact wpAny_bind (m := Builtin.Tuple.tupleExact _) (wpAny_newObj_type (wpAny_pure ⟨_, rfl, wpAny_pure h⟩) htake)
    | exact wpAny_bind (m := Builtin.Tuple.tupleExact _) (wpAny_newObj_type (wpAny_bind (wpAny_pure (wpAny_pure ⟨_, rfl, wpAny_pure h⟩))) htake)
    | exact wpAny_bind (wpAny_bind (m := Builtin.Tuple.tupleExact _) (wpAny_newObj_type (wpAny_pure (wpAny_pure ⟨_, rfl, wpAny_pure h⟩)) htake))
    | exact wpAny_bind (wpAny_bind (m := Builtin.Tuple.tupleExact _) (wpAny_newObj_type (wpAny_pure ⟨_, rfl, wpAny_pure h⟩) htake))
end
/-- list.extend by a tuple, whatever else the tuple's object bears -/
theorem extend_tupW (l b : Addr) (xs ys : Array Value) (n n2 : Nat) (dd : Option Addr) (sl : Array (Option Value)) (h0 : ¬(!xs.isEmpty && Builtin.List.listTooLong (xs.size + ys.size)) = true) (h1 : xs.size ≤ sizeLine) (h2 : xs.size + ys.size ≤ sizeLine + 1) :
    Meets (Builtin.«list.extend» ⟨[.ref l, .ref b], []⟩) (fun _ R s => s.heap.get? l = some { cls := .type "list", dict := none, data := .seq xs n, slots := #[] } ∧ s.heap.get? b = some { cls := .type "tuple", dict := dd, data := .seq ys n2, slots := sl } ∧ R (.ok (.ret Value.none)) { s with heap := s.heap.update l (Obj.mapSeq fun z => z ++ ys), toks := s.toks }) :=
  .of_wp fun prog w A R s h => by
    obtain ⟨hp, g, d, tk, os⟩ := s
    obtain ⟨hl, hb, h⟩ := h
    have f1 := AutoSeq1.idx_int
    have f2 := AutoSeq1.sub_tuple_tuple
    have f3 := AutoSeq1.sub_list_list
    have f4 := AutoSeq1.sub_tuple_list
    have f5 := AutoSeq1.sub_list_tuple
    have hz' : (xs ++ ys).size ≤ sizeLine + 1 := by rw [Array.size_append]; exact h2
    wp_walk using (wpAny_updateSeq hl rfl (hz := h1) (_hz' := hz')), AutoSeq1.wpAny_loadPart' hl, AutoSeq1.wpAny_loadPart' hb
    exact ⟨_, rfl, h⟩
section
variable {X : Cx}
/-- t[::-1] -/
def tRevT (K : PySem.W.Frag) (te : TE) : TE := fun σ H Q => te σ H fun x H1 => ∃ a xs, x = .ref a ∧ SqT K H1 a xs ∧ ∀ p, H1 p = none → Q (.ref p) (upd H1 p (.tup xs.reverse))
theorem pe_revT {e : Expr} {te : TE} {k : Nat} {p1 p2 p3 pos : Pos} (he : PE X e te) : PE X (.Subscript e (.Slice none none (some (.UnaryOp .USub (.Constant (.int 1) k p1) p2)) p3) pos) (tRevT X.K te) := by
  refine ⟨fun pins s σ H Q I h => ?_⟩
  refine Subscript_ (thn (he.run pins s σ H _ I h) fun v s1 ⟨x, H1, I1, r1, q1⟩ => ?_)
  obtain ⟨a, xs, ex, hx, q⟩ := q1
  subst ex
  cases r1
  have hst : PO X (some (.UnaryOp .USub (.Constant (.int 1) k p1) p2)) (tPart (tUn (rU fun i => .int (-i)) (tC (.int 1)))) := po_some (pe_un un_neg pe_int)
  refine wpAny_Slice (thn (po_none.run pins s1 σ H1 (fun o H2 => o = none ∧ H2 = H1) I1 ⟨rfl, rfl⟩) fun vl s2 ⟨l, H2, I2, pl, el, e2⟩ => ?_)
  subst el e2
  refine thn (po_none.run pins s2 σ H2 (fun o H3 => o = none ∧ H3 = H2) I2 ⟨rfl, rfl⟩) fun vu s3 ⟨u, H3, I3, pu, eu, e3⟩ => ?_
  subst eu e3
  refine thn (hst.run pins s3 σ H3 (fun o H4 => o = some (-1) ∧ H4 = H3) I3 ⟨1, rfl, -1, rfl, rfl, rfl⟩) fun vs s4 ⟨o, H4, I4, ps, eo, e4⟩ => ?_
  subst eo e4
  cases pl
  cases pu
  obtain ⟨tk, rfl⟩ : ∃ tk, vs = .int (-1) tk := by
    cases ps
    exact ⟨_, rfl⟩
  have I5 : L2.Inv X pins σ H4 { s4 with heap := s4.heap.push { cls := .type "slice", data := .fields #[.none, .none, .int (-1) tk] } } := I4.kept (t' := s4.toks) fun b ob q => Heap.get?_push_of_some _ q
  obtain ⟨its, r, ht, hz⟩ := I5.tuple hx
  have hlen := r.length
  show wpAny (model X.prog X.w) X.A (subscriptTail e (.Slice none none (some (.UnaryOp .USub (.Constant (.int 1) k p1) p2)) p3) (.ref a) (.ref s4.heap.objs.size)) (EP X pins σ Q) X.xe { s4 with heap := s4.heap.push { cls := .type "slice", data := .fields #[.none, .none, .int (-1) tk] } }
  refine tail_any (ops := [.ref a, .ref s4.heap.objs.size]) ht.typeIs (PyProof.Rows.slot_tuple_getitem.lookup) ?_ (by with_unfolding_all rfl)
  refine getItem_tuple_back ht (Heap.IsSliceOf.new _ .none .none (.int (-1) tk)) ?_ (by rw [List.size_toArray]; omega)
  refine ⟨.ref _, _, I5.laid (t' := s4.toks) (o := .tup xs.reverse) (fun b ob q => Heap.get?_push_of_some _ q) (Nat.le_refl _) ?_, rfl, q _ (I5.hok.fresh (Nat.le_refl _))⟩
  exact ⟨by show xs.reverse.length ≤ sizeLine; rw [List.length_reverse]; exact hz, _, r.reverse, ⟨_, Heap.get?_push_size _ rfl, rfl, _, rfl⟩⟩
/-- xs.extend(t), t a tuple -/
def rExtT (K : PySem.W.Frag) : V → List V → Hp → VK → Prop := fun x vs H Q => ∃ l b xs zs, x = .ref l ∧ vs = [.ref b] ∧ H l = some (.lst xs) ∧ H b = some (.tup zs) ∧ xs.length + zs.length ≤ sizeLine ∧ Q .non (upd H l (.lst (xs ++ zs)))
theorem mt_extendT : MtM X "list.extend" (rExtT X.K) := by
  intro pins s σ H x vs v us Q I rx rv h
  obtain ⟨l, b, xs, zs, rfl, rfl, hH, hB, hz, q⟩ := h
  cases rx
  obtain ⟨u, rfl, ru⟩ := rv.one
  cases ru
  obtain ⟨z, its, n, r, hl, e⟩ := I.lstM hH
  obtain ⟨its2, r2, p2, z2⟩ := I.tuple (SqT.of (K := X.K) hB)
  obtain ⟨⟨cls2, dd2, data2, sl2⟩, ho2, hc2, n2, hd2⟩ := id p2
  simp only at hc2 hd2
  subst hc2 hd2
  have hl2 := r2.length
  have hsz : its.toArray.size + its2.toArray.size ≤ sizeLine := by rw [List.size_toArray, List.size_toArray]; omega
  have hlong : ¬ (!its.toArray.isEmpty && Builtin.List.listTooLong (its.toArray.size + its2.toArray.size)) = true := by
    rw [notLongL hsz, Bool.and_false]
    exact Bool.false_ne_true
  refine call_meets PySem.F.slot_list_extend ⟨_, e, rfl⟩ PySem.F.entry_list_extend (PySem.F.args_list_extend_2 _ _)
    (extend_tupW l b its.toArray its2.toArray n n2 dd2 sl2 hlong (by rw [List.size_toArray]; omega) (by omega)) ⟨e, ho2, ?_⟩
  refine ⟨.non, _, I.lset (its' := its ++ its2) hH e (by simp) (r.append r2) ?_, rfl, q⟩
  rw [List.length_append]
  omega
end
end Xr

/-! k01, part A: the text by places; the deal of draws: _law_any -/
namespace K1
open PySem L2
def top (i : Nat) : Stmt := PySem.Challenge.pw_turnsfit_k56_effects_of_forests.main.body.getD i (.Pass ⟨0, 0, 0, 0⟩)
abbrev sSource : Stmt := top 20
abbrev sAny : Stmt := top 21
abbrev sOf : Stmt := top 22

/-- the deal stands at d: its great cells at c, its blend -/
structure DealAt (H : Hp) (d c : Addr) : Prop where
  ex : ∃ (cs : List Int) (b : Int), H d = some (.lst [.ref c, .int b]) ∧ H c = some (.lst (cs.map V.int)) ∧ (∀ x ∈ cs, 0 ≤ x) ∧ cs.length ≤ 63 ∧ 0 ≤ b ∧ b < 2147483647
/-- all tracked things but the deal's own two stand as before -/
def But (d c : Addr) (H H' : Hp) : Prop := ∀ q o, H q = some o → q ≠ d → q ≠ c → H' q = some o
theorem But.refl {d c : Addr} {H : Hp} : But d c H H := fun _ _ h _ _ => h
theorem But.trans {d c : Addr} {H H1 H2 : Hp} (a : But d c H H1) (b : But d c H1 H2) : But d c H H2 := fun q o h n m => b q o (a q o h n m) n m
/-- a promise of _law_any -/
def spAny : Sp := fun vs H Q _ => ∃ (d c : Addr) (n : Int), vs = [.ref d, .int n] ∧ DealAt H d c ∧ 0 < n ∧ n < 1073741824 ∧
  ∀ (r : Int) (H' : Hp), 0 ≤ r → r < n → DealAt H' d c → But d c H H' → Q (.int r) H'
theorem last_at {l : List Int} {x : Int} : atI ((l ++ [x]).map V.int) (-1) = some (.int x) := by
  have e : (l ++ [x]).map V.int = l.map V.int ++ [V.int x] := by simp
  rw [e]
  unfold atI ixN
  have h1 : ¬ (0 : Int) ≤ -1 := by omega
  have h2 : -(((l.map V.int ++ [V.int x]).length : Nat) : Int) ≤ -1 := by
    rw [List.length_append]
    simp
    omega
  rw [if_neg h1, if_pos h2]
  have e2 : (-1 + (((l.map V.int ++ [V.int x]).length : Nat) : Int)).toNat = (l.map V.int).length := by
    rw [List.length_append]
    simp
    omega
  rw [e2]
  simp
theorem canLayAll_ints : ∀ l : List Int, PyData.canLayAll0 (l.map PyData.int) = true
  | [] => rfl
  | x :: l => by
    have ih := canLayAll_ints l
    rw [List.map_cons]
    unfold PyData.canLayAll0
    rw [ih]
    rfl
theorem depthAll_ints : ∀ l : List Int, PyData.depthAll (l.map PyData.int) = 0
  | [] => rfl
  | x :: l => by
    have ih := depthAll_ints l
    rw [List.map_cons]
    unfold PyData.depthAll
    rw [ih]
    rfl
theorem shaped_ints (l : List Int) : SeqAt.shaped (.list (l.map PyData.int)) = true := by
  unfold SeqAt.shaped PyData.canLay0 PyData.depth
  rw [canLayAll_ints, depthAll_ints]
  rfl
theorem dp_ints {K : PySem.W.Frag} {H : Hp} : ∀ l : List Int, DpAll K H (l.map V.int) (l.map PyData.int)
  | [] => .nil
  | x :: l => .cons (.int x) (dp_ints l)
theorem eqv_nil_nil : PyData.eqv (.list []) (.list []) = true := rfl
theorem eqv_cons_nil {d : PyData} {ds : List PyData} : PyData.eqv (.list (d :: ds)) (.list []) = false := rfl
theorem scAny : FnScope ["draws", "bound", "rest"] ["draws", "bound"] (defScope sAny) := ⟨rfl, rfl, rfl, by decide +kernel, rfl, by decide +kernel, by decide +kernel⟩
structure AnyTxt (K : PySem.W.Frag) (mg : Str → Option Value) : Prop where
  int : mg "int" = none
section
variable {P : Program} {w : World} {K : PySem.W.Frag} {mg : Str → Option Value} {base : Heap}
theorem ok_any {f : Addr} {fd : FuncData} (F : Fun K "_law_any" "_law_any" sAny f fd) (T : AnyTxt K mg) : FnOk P w K mg base CX0 1 f fd ["draws", "bound"] spAny := by
  refine F.ok scAny (fun vs H Q E h => ?_) (fun cdv A outer s H vs Q E hr h => ?_)
  · obtain ⟨d, c, n, rfl, _⟩ := h
    rfl
  · obtain ⟨d, c, n, rfl, D, n0, n1, k⟩ := h
    refine ⟨_, pss_cons (ps_while PassesOwn.never
        (PW.pt (pw_and (pt_cmpR (op_neD hr.units) (pe_ix ix_list (pv 0) pe_int (fun _ _ => rfl)) (pe_lst pa_nil) (nomark _))
          (pw_and1 (pt_cmpR op_eq (pe_ix ix_list (pe_ix ix_list (pv 0) pe_int (fun _ _ => rfl)) (pe_un un_neg pe_int) (fun _ _ => rfl)) pe_int (nomark _)))))
        (pss_one (ps_expr (pe_bm0 PySem.F.plainAttrs_list PySem.F.slot_list_pop PySem.F.type_list_pop mt_pop (pe_ix ix_list (pv 0) pe_int (fun _ _ => rfl))))))
      (pss_cons (ps_if (pt_cmpR (op_neD hr.units) (pe_ix ix_list (pv 0) pe_int (fun _ _ => rfl)) (pe_lst pa_nil) (nomark _))
        (pss_cons (ps_set (i := 2) scAny.nd rfl (Or.inl rfl) (pe_callTy call_int1 (by rfl) T.int (by decide +kernel) (pa_cons (pe_bm0 PySem.F.plainAttrs_list PySem.F.slot_list_pop PySem.F.type_list_pop mt_pop (pe_ix ix_list (pv 0) pe_int (fun _ _ => rfl))) pa_nil)))
        (pss_cons (ps_expr (pe_bm PySem.F.plainAttrs_list PySem.F.slot_list_append PySem.F.type_list_append mt_append (pe_ix ix_list (pv 0) pe_int (fun _ _ => rfl)) (pa_cons (pe_op op_fdivW (pv 2) (pv 1)) pa_nil)))
        (pss_one (ps_ret (pe_op op_mod (pv 2) (pv 1))))))
        pss_nil)
      (pss_cons (ps_asg (pe_op op_mod (pe_callTy call_int1 (by rfl) T.int (by decide +kernel) (pa_cons (pe_op op_add (pe_op op_mul (pe_ix ix_list (pv 0) pe_int (fun _ _ => rfl)) pe_int) pe_int) pa_nil)) pe_int) (pg_sub (pv 0) pe_int set_list))
      (pss_one (ps_ret (pe_op op_mod (pe_callTy call_int1 (by rfl) T.int (by decide +kernel) (pa_cons (pe_op op_fdiv (pe_ix ix_list (pv 0) pe_int (fun _ _ => rfl)) pe_int) pa_nil)) (pv 1)))))), ?_⟩
    obtain ⟨cs0, b0, hd0, hc0, g0, l0, b1, b2⟩ := D.ex
    refine ⟨fun m σ H1 => ∃ (cs : List Int), σ = [some (.ref d), some (.int n), none] ∧ m = cs.length ∧ H1 d = some (.lst [.ref c, .int b0]) ∧ H1 c = some (.lst (cs.map V.int)) ∧ (∀ x ∈ cs, 0 ≤ x) ∧ cs.length ≤ 63 ∧ But d c H H1,
      ⟨cs0.length, cs0, rfl, rfl, hd0, hc0, g0, l0, But.refl⟩, ?_⟩
    rintro m σ H1 ⟨cs, rfl, rfl, hd, hc, g, l, bu⟩
    have dc : d ≠ c := by
      intro e
      subst e
      rw [hd] at hc
      have z := Option.some.inj hc
      injection z with z
      cases cs with
      | nil => cases z
      | cons x r => cases z
    -- deal[0] != []
    refine ⟨_, rfl, _, _, _, _, rfl, rfl, SqL.of hd, atI_nat (j := 0) rfl, Nat.zero_le _, fun p hp => ?_⟩
    have pd : d ≠ p := ne_of_none hd hp
    have pc : c ≠ p := ne_of_none hc hp
    have hd' : (upd H1 p (.lst [])) d = some (.lst [.ref c, .int b0]) := by rw [upd_ne pd]; exact hd
    have hc' : (upd H1 p (.lst [])) c = some (.lst (cs.map V.int)) := by rw [upd_ne pc]; exact hc
    have bu' : But d c H (upd H1 p (.lst [])) := fun q o hq n1 n2 => by
      have z := bu q o hq n1 n2
      rw [upd_ne (ne_of_none z hp)]
      exact z
    refine ⟨_, _, .lst (SqL.of hc') (dp_ints cs), .lst (SqL.of upd_same) .nil, shaped_ints cs, shaped_ints [], _, rfl, ?_⟩
    rcases List.eq_nil_or_concat cs with e | ⟨cs', x, e⟩
    · subst e
      refine iteF (iteF ?_)
      -- deal[0] != [] again: no
      refine ⟨_, rfl, _, _, _, _, rfl, rfl, SqL.of hd', atI_nat (j := 0) rfl, Nat.zero_le _, fun p2 hp2 => ?_⟩
      have qd : d ≠ p2 := ne_of_none hd' hp2
      have qc : c ≠ p2 := ne_of_none hc' hp2
      have hd2 : (upd (upd H1 p (.lst [])) p2 (.lst [])) d = some (.lst [.ref c, .int b0]) := by rw [upd_ne qd]; exact hd'
      have hc2 : (upd (upd H1 p (.lst [])) p2 (.lst [])) c = some (.lst []) := by rw [upd_ne qc]; exact hc'
      have bu2 : But d c H (upd (upd H1 p (.lst [])) p2 (.lst [])) := fun q o hq n1 n2 => by
        have z := bu' q o hq n1 n2
        rw [upd_ne (ne_of_none z hp2)]
        exact z
      refine ⟨_, _, .lst (SqL.of hc2) .nil, .lst (SqL.of upd_same) .nil, shaped_ints [], shaped_ints [], _, rfl, iteF ?_⟩
      -- deal[1] = int(deal[1] * 48271 + 41) % 2147483647
      generalize upd (upd H1 p (.lst [])) p2 (.lst []) = H3 at hd2 hc2 bu2 ⊢
      refine ⟨_, rfl, _, _, _, _, rfl, rfl, SqL.of hd2, atI_nat (j := 1) rfl, _, _, rfl, rfl, .inr ⟨by decide, by decide⟩, _, _, rfl, rfl, .inl ⟨_, rfl, _, _, rfl, rfl, (by show (0 : Int) < 2147483647; decide), ?_⟩⟩
      refine ⟨_, rfl, _, _, _, 1, rfl, rfl, hd2, rfl, ?_⟩
      refine ⟨_, rfl, _, _, _, _, rfl, rfl, SqL.of upd_same, atI_nat (j := 1) rfl, _, _, rfl, rfl, ⟨by decide, by decide⟩, .inl ⟨_, rfl, _, rfl, _, _, rfl, rfl, n0, ?_⟩⟩
      refine k _ _ (Int.emod_nonneg _ (by omega)) (Int.emod_lt_of_pos _ n0) ⟨[], _, upd_same, by rw [upd_ne (Ne.symm dc)]; exact hc2, by simp, by simp, Int.emod_nonneg _ (by decide), Int.emod_lt_of_pos _ (by decide)⟩ ?_
      intro q o hq n1 n2
      rw [upd_ne n1]
      exact bu2 q o hq n1 n2
    · rw [List.concat_eq_append] at e
      subst e
      have ec : (cs' ++ [x]).map V.int = cs'.map V.int ++ [V.int x] := by simp
      have e1 : PyData.eqv (.list ((cs' ++ [x]).map PyData.int)) (.list []) = false := by
        cases cs' with
        | nil => rfl
        | cons y r => rfl
      have gx : 0 ≤ x := g x (by simp)
      have lx : cs'.length + 1 ≤ 63 := by simpa using l
      rw [e1]
      refine iteT ?_
      -- deal[0][-1] == 0
      refine ⟨_, rfl, _, _, _, _, rfl, rfl, SqL.of hd', atI_nat (j := 0) rfl, _, rfl, _, _, _, _, rfl, rfl, SqL.of hc', last_at, rfl, _, rfl, ?_⟩
      by_cases hx : x = 0
      · subst hx
        refine iteT ?_
        refine ⟨fun σ' H' => σ' = [some (.ref d), some (.int n), none] ∧ H' d = some (.lst [.ref c, .int b0]) ∧ H' c = some (.lst (cs'.map V.int)) ∧ But d c H H', fun σ' H' ⟨e1, e2, e3, e4⟩ => ⟨cs'.length, by simp, cs', e1, rfl, e2, e3, fun y hy => g y (by simp [hy]), by omega, e4⟩, ?_⟩
        refine ⟨_, rfl, _, _, _, _, rfl, rfl, SqL.of hd', atI_nat (j := 0) rfl, .inl ⟨rfl, _, SqL.of hc'⟩, _, _, V.int 0, rfl, rfl, hc', (by rw [ec]; simp), rfl, ?_, ?_, ?_⟩
        · rw [upd_ne dc]
          exact hd'
        · rw [upd_same, ec, List.dropLast_concat]
        · intro q o hq n1 n2
          rw [upd_ne n2]
          exact bu' q o hq n1 n2
      · have dx : decide (V.int x = V.int 0) = false := decide_eq_false fun z => hx (V.int.inj z)
        rw [dx]
        refine iteF ?_
        -- deal[0] != []: yes
        refine ⟨_, rfl, _, _, _, _, rfl, rfl, SqL.of hd', atI_nat (j := 0) rfl, Nat.zero_le _, fun p2 hp2 => ?_⟩
        have qd : d ≠ p2 := ne_of_none hd' hp2
        have qc : c ≠ p2 := ne_of_none hc' hp2
        have hd2 : (upd (upd H1 p (.lst [])) p2 (.lst [])) d = some (.lst [.ref c, .int b0]) := by rw [upd_ne qd]; exact hd'
        have hc2 : (upd (upd H1 p (.lst [])) p2 (.lst [])) c = some (.lst ((cs' ++ [x]).map V.int)) := by rw [upd_ne qc]; exact hc'
        have bu2 : But d c H (upd (upd H1 p (.lst [])) p2 (.lst [])) := fun q o hq n1 n2 => by
          have z := bu' q o hq n1 n2
          rw [upd_ne (ne_of_none z hp2)]
          exact z
        refine ⟨_, _, .lst (SqL.of hc2) (dp_ints _), .lst (SqL.of upd_same) .nil, shaped_ints _, shaped_ints [], _, rfl, ?_⟩
        rw [e1]
        refine iteT ?_
        generalize upd (upd H1 p (.lst [])) p2 (.lst []) = H3 at hd2 hc2 bu2 ⊢
        -- rest = int(deal[0].pop())
        refine ⟨_, rfl, _, _, _, _, rfl, rfl, SqL.of hd2, atI_nat (j := 0) rfl, .inl ⟨rfl, _, SqL.of hc2⟩, _, _, .int x, rfl, rfl, hc2, (by rw [ec]; simp), .inl ⟨_, rfl, ?_⟩⟩
        have hd3 : ∀ o, (upd H3 c o) d = some (.lst [.ref c, .int b0]) := fun o => by rw [upd_ne dc]; exact hd2
        have ed : ((cs' ++ [x]).map V.int).dropLast = cs'.map V.int := by rw [ec, List.dropLast_concat]
        rw [ed]
        -- deal[0].append(rest // bound)
        refine ⟨_, rfl, _, _, _, _, rfl, rfl, SqL.of (hd3 _), atI_nat (j := 0) rfl, .inl ⟨rfl, _, SqL.of upd_same⟩, _, rfl, _, rfl, _, _, rfl, rfl, wide_div n0 (b := 31) (by omega) (by decide) (by decide), _, _, _, rfl, rfl, upd_same, small1000 (by simp; omega), ?_⟩
        refine ⟨_, rfl, _, rfl, _, _, rfl, rfl, n0, ?_⟩
        rw [upd_upd]
        refine k _ _ (Int.emod_nonneg _ (by omega)) (Int.emod_lt_of_pos _ n0) ⟨cs' ++ [x / n], b0, by rw [upd_ne dc]; exact hd2, by rw [upd_same]; simp, ?_, by simp; omega, b1, b2⟩ ?_
        · intro y hy
          rcases List.mem_append.mp hy with hy | hy
          · exact g y (by simp [hy])
          · rw [List.mem_singleton] at hy
            subst hy
            exact Int.ediv_nonneg gx (by omega)
        · intro q o hq n1 n2
          rw [upd_ne n2]
          exact bu2 q o hq n1 n2
end
end K1

namespace K1
open PySem L2
/-- _law_of(deal, some), some a list at a | a text -/
def spOf : Sp := fun vs H Q _ => ∃ (d c : Addr), DealAt H d c ∧
  ((∃ (a : Addr) (xs : List V), vs = [.ref d, .ref a] ∧ H a = some (.lst xs) ∧ a ≠ d ∧ a ≠ c ∧ 0 < xs.length ∧ xs.length < 1000000 ∧
      ∀ (v : V) (H' : Hp), v ∈ xs → DealAt H' d c → But d c H H' → Q v H') ∨
    (∃ z : Str, vs = [.ref d, .str z] ∧ 0 < z.length ∧ z.length < 1000000 ∧ ∀ (ch : Nat) (H' : Hp), ch ∈ z.cps.toList → DealAt H' d c → But d c H H' → Q (.str ⟨#[ch]⟩) H'))
theorem scOf : FnScope ["draws", "some"] ["draws", "some"] (defScope sOf) := ⟨rfl, rfl, rfl, by decide +kernel, rfl, by decide +kernel, by decide +kernel⟩
structure OfTxt (K : PySem.W.Frag) (mg : Str → Option Value) (fAny : Addr) : Prop where
  len : mg "len" = none
  any : mg "_law_any" = some (.ref fAny)
  kAny : PySem.W.keepIn K (.ref fAny) = true
section
variable {P : Program} {w : World} {K : PySem.W.Frag} {mg : Str → Option Value} {base : Heap}
theorem ok_of {f fA : Addr} {fd fdA : FuncData} (F : Fun K "_law_of" "_law_of" sOf f fd) (T : OfTxt K mg fA) (G : FnOk P w K mg base CX0 1 fA fdA ["draws", "bound"] spAny) (bA : Binds K fdA ["draws", "bound"] []) :
    FnOk P w K mg base CX0 2 f fd ["draws", "some"] spOf := by
  refine F.ok scOf (fun vs H Q E h => ?_) (fun cdv A outer s H vs Q E hr h => ?_)
  · obtain ⟨d, c, _, ⟨a, xs, rfl, _⟩ | ⟨z, rfl, _⟩⟩ := h <;> rfl
  · obtain ⟨d, c, D, h⟩ := h
    rcases h with ⟨a, xs, rfl, ha, nd, nc, l0, l1, k⟩ | ⟨z, rfl, l0, l1, k⟩
    · refine ⟨_, pss_one (ps_ret (pe_ix ix_list (pv 1) (pe_call G hr rfl T.any T.kAny bA .nil pass0 (pa_cons (pv 0) (pa_cons (pe_callB call_len_seq (by rfl) T.len PySem.boot_len (pa_cons (pv 1) pa_nil)) pa_nil))) (fun _ _ => rfl))), ?_⟩
      refine ⟨_, rfl, _, rfl, _, rfl, _, _, rfl, .inl (SqL.of ha), d, c, _, rfl, D, by omega, by omega, fun r H' r0 r1 D' bu => ?_⟩
      have ha' := bu a _ ha nd nc
      obtain ⟨j, rfl⟩ := Int.eq_ofNat_of_zero_le r0
      have hj : j < xs.length := by omega
      refine ⟨_, _, _, xs[j], rfl, rfl, SqL.of ha', atI_nat (by simp [hj]), k _ _ (List.getElem_mem hj) D' bu⟩
    · refine ⟨_, pss_one (ps_ret (pe_ix ix_str (pv 1) (pe_call G hr rfl T.any T.kAny bA .nil pass0 (pa_cons (pv 0) (pa_cons (pe_callB call_len_str (by rfl) T.len PySem.boot_len (pa_cons (pv 1) pa_nil)) pa_nil))) (fun _ _ => rfl))), ?_⟩
      refine ⟨_, rfl, _, rfl, _, rfl, _, rfl, (by show z.length ≤ sizeLine; rw [sizeLine_eq]; omega), d, c, _, rfl, D, by omega, by omega, fun r H' r0 r1 D' bu => ?_⟩
      obtain ⟨j, rfl⟩ := Int.eq_ofNat_of_zero_le r0
      have hz : z.length = z.cps.toList.length := by
        show z.cps.size = _
        simp
      have hj : j < z.cps.toList.length := by omega
      refine ⟨_, _, z.cps.toList[j], rfl, rfl, (by show z.length ≤ sizeLine; rw [sizeLine_eq]; omega), atI_nat (by rw [List.getElem?_eq_getElem hj]), k _ _ (List.getElem_mem hj) D' bu⟩
end
end K1

namespace K1
open PySem L2
def spSource (K : PySem.W.Frag) : Sp := fun vs H Q _ => ∃ (a : Addr) (ns : List Int) (salt : Int), vs = [.ref a, .int salt] ∧ SqL K H a (ns.map V.int) ∧ ns.length ≤ 63 ∧ 0 ≤ salt ∧ salt < 200 ∧
  ∀ (d c : Addr) (H' : Hp), DealAt H' d c → Same H H' → H d = none → H c = none → Q (.ref d) H'
theorem scSource : FnScope ["script", "salt", "numbers", "blend", "cell"] ["script", "salt"] (defScope sSource) := ⟨rfl, rfl, rfl, by decide +kernel, rfl, by decide +kernel, by decide +kernel⟩
structure SourceTxt (K : PySem.W.Frag) (mg : Str → Option Value) : Prop where
  int : mg "int" = none
  abs : mg "abs" = none
def absI (i : Int) : Int := if i < 0 then -i else i
theorem absI_nn (i : Int) : 0 ≤ absI i := by unfold absI; split <;> omega
theorem take_more {α : Type} : ∀ {l : List α} {i : Nat} {x : α}, l[i]? = some x → l.take (i + 1) = l.take i ++ [x]
  | [], i, x, h => by simp at h
  | a :: l, 0, x, h => by
    have e : a = x := Option.some.inj h
    subst e
    rfl
  | a :: l, i + 1, x, h => by
    have ih := take_more (l := l) (i := i) (x := x) h
    show a :: l.take (i + 1) = a :: l.take i ++ [x]
    rw [ih]
    rfl
theorem cut_ints (ns : List Int) (lo hi : Option Int) : ∃ ms : List Int, cutV (ns.map V.int) lo hi = ms.map V.int ∧ ms.length ≤ ns.length := by
  refine ⟨(ns.drop (HT.sIx (ns.map V.int).length 0 lo)).take (HT.sIx (ns.map V.int).length (ns.map V.int).length hi - HT.sIx (ns.map V.int).length 0 lo), ?_, ?_⟩
  · unfold cutV
    simp [List.map_take, List.map_drop]
  · rw [List.length_take, List.length_drop]
    omega
theorem map_at {l : List Int} {i : Nat} {x : V} (h : (l.map V.int)[i]? = some x) : ∃ z, l[i]? = some z ∧ x = V.int z := by
  rw [List.getElem?_map] at h
  cases e : l[i]? with
  | none =>
    rw [e] at h
    cases h
  | some z =>
    rw [e] at h
    exact ⟨z, rfl, (Option.some.inj h).symm⟩
section
variable {P : Program} {w : World} {K : PySem.W.Frag} {mg : Str → Option Value} {base : Heap}
theorem ok_source {f : Addr} {fd : FuncData} (F : Fun K "_law_source" "_law_source" sSource f fd) (T : SourceTxt K mg) : FnOk P w K mg base CX0 1 f fd ["script", "salt"] (spSource K) := by
  refine F.ok scSource (fun vs H Q E h => ?_) (fun cdv A outer s H vs Q E hr h => ?_)
  · obtain ⟨a, ns, salt, rfl, _⟩ := h
    rfl
  · obtain ⟨a, ns, salt, rfl, hS, l, sa0, sa1, k⟩ := h
    refine ⟨_, pss_cons (ps_setLc (i := 2) (own := [("cell", 4)]) (g := gName 4) (tt := tYes) (by rfl) scSource.nd rfl rfl (sw_true rfl rfl rfl (by decide +kernel)) (pi_list (pe_slice sl_list (pv 0) po_none (po_some pe_int)))
        (blkOk_by (own := [("cell", 4)]) (N := ["script", "salt", "numbers", "blend", "cell"]) (sc := defScope sSource) (by decide +kernel)) (fun _ _ _ _ _ => pg_name (i := 4) scSource.nd rfl (Or.inl rfl)) (fun _ _ _ _ _ => pts_nil)
        (fun _ _ _ _ _ => pe_callB call_abs (by rfl) T.abs (by decide +kernel) (pa_cons (pe_callTy call_int1 (by rfl) T.int (by decide +kernel) (pa_cons (pv 4) pa_nil)) pa_nil)))
      (pss_cons (ps_set (i := 3) scSource.nd rfl (Or.inl rfl) (pe_op op_add pe_int (pe_op op_mul pe_int (pv 1))))
      (pss_cons (ps_for PassesOwn.never rfl (pi_list (pv 2)) (pg_name (i := 4) scSource.nd rfl (Or.inl rfl))
        (pss_one (ps_set (i := 3) scSource.nd rfl (Or.inl rfl) (pe_op op_mod (pe_callTy call_int1 (by rfl) T.int (by decide +kernel) (pa_cons (pe_op op_add (pe_op op_add (pe_op op_mul (pv 3) pe_int) (pe_op op_mod (pv 4) pe_int)) pe_int) pa_nil)) pe_int))))
      (pss_one (ps_ret (pe_lst (pa_cons (pe_revL (pe_lc (own := [("cell", 4)]) (g := gName 4) (by rfl) scSource.nd (pi_list (pv 2))
          (blkOk_by (own := [("cell", 4)]) (N := ["script", "salt", "numbers", "blend", "cell"]) (sc := defScope sSource) (by decide +kernel)) (fun _ _ _ _ _ => pg_name (i := 4) scSource.nd rfl (Or.inl rfl))
          (fun _ _ _ _ _ => pts_one (pt_cmpR op_ge (pv 4) (pe_op op_pow pe_int pe_int) (nomark _))) (fun _ _ _ _ _ => pv 4))) (pa_cons (pv 3) pa_nil))))))), ?_⟩
    obtain ⟨ms, em, lm⟩ := cut_ints ns none (some 63)
    refine ⟨_, rfl, 63, rfl, _, _, rfl, hS, fun p hp => ⟨p, rfl, ⟨_, SqL.of upd_same⟩, fun D hD => ?_⟩⟩
    have pD : p ≠ D := ne_of_none upd_same hD
    have hD0 : H D = none := by
      have z := hD
      rw [upd_ne (Ne.symm pD)] at z
      exact z
    rw [em] at hD ⊢
    refine lc_list (K := K) (a := p) (xs := ms.map V.int) (fun i H1 => Same H H1 ∧ H1 p = some (.lst (ms.map V.int)) ∧ H1 D = some (.lst (((ms.take i).map absI).map V.int))) ⟨?_, ?_, upd_same⟩ (fun i H1 _ q => SqL.of q.2.1) ?_ ?_
    · intro q o hq
      rw [upd_ne (ne_of_none hq hD0), upd_ne (ne_of_none hq hp)]
      exact hq
    · rw [upd_ne pD, upd_same]
    · rintro i x H1 hx ⟨q1, q2, q3⟩
      obtain ⟨z, hz, rfl⟩ := map_at hx
      have li : i < ms.length := (List.getElem?_eq_some_iff.mp hz).1
      refine ⟨rfl, ?_⟩
      refine ⟨_, rfl, .inl ⟨_, rfl, _, rfl, _, q3, small1000 (by simp; omega), ?_, ?_, ?_⟩⟩
      · intro q o hq
        rw [upd_ne (ne_of_none hq hD0)]
        exact q1 q o hq
      · rw [upd_ne pD]
        exact q2
      · rw [upd_same, take_more hz]
        simp [absI]
    · rintro H1 ⟨q1, q2, q3⟩
      rw [List.length_map, List.take_length] at q3
      have gc : ∀ x ∈ ms.map absI, 0 ≤ x := fun x hx => by
        obtain ⟨y, _, rfl⟩ := List.mem_map.mp hx
        exact absI_nn y
      have lc : (ms.map absI).length ≤ 63 := by rw [List.length_map]; omega
      generalize ms.map absI = cs at q3 gc lc
      -- the blend
      refine ⟨_, rfl, _, _, rfl, rfl, .inl ⟨by decide, by decide⟩, _, _, rfl, rfl, _, rfl, D, rfl, ⟨_, SqL.of q3⟩, for_list (K := K) (a := D) (xs := cs.map V.int) (fun i σ H2 => ∃ (b : Int) (v : Option V), σ = [some (.ref a), some (.int salt), some (.ref D), some (.int b), v] ∧ H2 = H1 ∧ 0 ≤ b ∧ b < 2147483647)
        ⟨_, none, rfl, rfl, by omega, by omega⟩ (fun i σ H2 _ ⟨_, _, _, e, _⟩ => by rw [e]; exact SqL.of q3) ?_ ?_⟩
      · rintro i x σ H2 hx ⟨b, v, rfl, rfl, b0, b1⟩
        obtain ⟨z, hz, rfl⟩ := map_at hx
        refine ⟨_, rfl, _, _, rfl, rfl, .inr ⟨by decide, by decide⟩, _, rfl, _, _, rfl, rfl, (by show (0 : Int) < 2147483549; decide), _, _, rfl, rfl, _, _, rfl, rfl, .inl ⟨_, rfl, _, _, rfl, rfl, (by show (0 : Int) < 2147483647; decide), ?_⟩⟩
        exact ⟨_, _, rfl, rfl, Int.emod_nonneg _ (by decide), Int.emod_lt_of_pos _ (by decide)⟩
      · rintro σ H2 ⟨b, v, rfl, rfl, b0, b1⟩
        refine ⟨_, rfl, D, rfl, ⟨_, SqL.of q3⟩, fun D2 hD2 => ?_⟩
        have n2 : D ≠ D2 := ne_of_none q3 hD2
        refine lc_list (K := K) (a := D) (xs := cs.map V.int) (fun i H3 => ∃ fs : List Int, Same H2 H3 ∧ H3 D2 = some (.lst (fs.map V.int)) ∧ (∀ x ∈ fs, 0 ≤ x) ∧ fs.length ≤ i) ⟨[], fun q o hq => by rw [upd_ne (ne_of_none hq hD2)]; exact hq, upd_same, by simp, by simp⟩
          (fun i H3 _ ⟨_, s3, _⟩ => SqL.of (s3 _ _ q3)) ?_ ?_
        · rintro i x H3 hx ⟨fs, s3, f3, g3, l3⟩
          obtain ⟨z, hz, rfl⟩ := map_at hx
          have li : i < cs.length := (List.getElem?_eq_some_iff.mp hz).1
          refine ⟨rfl, _, rfl, _, _, rfl, rfl, ⟨by decide, by decide, by decide⟩, _, _, rfl, rfl, _, rfl, ?_⟩
          refine ite2 (fun _ => ?_) (fun _ => ?_)
          · refine ⟨_, rfl, _, f3, small1000 (by simp; omega), fs ++ [z], ?_, ?_, ?_, ?_⟩
            · intro q o hq
              rw [upd_ne (ne_of_none hq hD2)]
              exact s3 q o hq
            · rw [upd_same]
              simp
            · intro y hy
              rcases List.mem_append.mp hy with hy | hy
              · exact g3 y hy
              · rw [List.mem_singleton] at hy
                subst hy
                exact gc _ (List.mem_of_getElem? hz)
            · simp
              omega
          · exact ⟨fs, s3, f3, g3, by omega⟩
        · rintro H3 ⟨fs, s3, f3, g3, l3⟩
          rw [List.length_map] at l3
          refine ⟨D2, _, rfl, SqL.of f3, fun r hr => ⟨_, rfl, (by show 2 ≤ sizeLine; decide), fun t ht => ?_⟩⟩
          have nt : r ≠ t := ne_of_none upd_same ht
          have s4 : Same H (upd (upd H3 r (.lst (fs.map V.int).reverse)) t (.lst [.ref r, .int b])) := fun q o hq => by
            have z := s3 _ _ (q1 q o hq)
            have zr := ne_of_none z hr
            rw [upd_ne (ne_of_none (by rw [upd_ne zr]; exact z) ht), upd_ne zr]
            exact z
          refine k t r _ ⟨fs.reverse, b, upd_same, ?_, ?_, ?_, b0, b1⟩ s4 ?_ ?_
          · rw [upd_ne nt, upd_same, List.map_reverse]
          · intro x hx
            exact g3 x (List.mem_reverse.mp hx)
          · rw [List.length_reverse]
            omega
          · have ht3 : H3 t = none := by
              have z := ht
              rw [upd_ne (Ne.symm nt)] at z
              exact z
            exact (q1.trans s3).free ht3
          · exact (q1.trans s3).free hr
end
end K1

/-! data whose objects stand still: all but the cells N that may change -/
namespace K1
open PySem L2
/-- tracked -/
def Trk (H : Hp) : Addr → Prop := fun a => ∃ o, H a = some o
/-- what is no cell of N stays -/
def Bt (N : Addr → Prop) (H H' : Hp) : Prop := ∀ a o, ¬ N a → H a = some o → H' a = some o
theorem Bt.refl {N : Addr → Prop} {H : Hp} : Bt N H H := fun _ _ _ h => h
theorem Bt.trans {N : Addr → Prop} {H H1 H2 : Hp} (a : Bt N H H1) (b : Bt N H1 H2) : Bt N H H2 := fun q o n h => b q o n (a q o n h)
theorem Bt.mono {N N' : Addr → Prop} {H H' : Hp} (b : Bt N' H H') (h : ∀ a, N' a → N a) : Bt N H H' := fun q o n e => b q o (fun z => n (h _ z)) e
theorem Bt.same {N : Addr → Prop} {H H' : Hp} (s : Same H H') : Bt N H H' := fun q o _ h => s q o h
theorem Bt.new {N : Addr → Prop} {H H1 : Hp} {l : Addr} {o : HO} (b : Bt N H H1) (hl : H1 l = none) : Bt N H (upd H1 l o) := fun q u n e => by
  have z := b q u n e
  rw [upd_ne (ne_of_none z hl)]
  exact z
theorem Bt.cell {N : Addr → Prop} {H H1 : Hp} {l : Addr} {o : HO} (b : Bt N H H1) (hl : N l) : Bt N H (upd H1 l o) := fun q u n e => by
  have z := b q u n e
  have ne : q ≠ l := fun h => n (by rw [h]; exact hl)
  rw [upd_ne ne]
  exact z
theorem _root_.L2.Same.new {H H1 : Hp} {l : Addr} {o : HO} (b : Same H H1) (hl : H1 l = none) : Same H (upd H1 l o) := fun q u e => by
  have z := b q u e
  rw [upd_ne (ne_of_none z hl)]
  exact z
theorem _root_.L2.Same.cell {H H1 : Hp} {l : Addr} {o : HO} (b : Same H H1) (hl : H l = none) : Same H (upd H1 l o) := fun q u e => by
  have z := b q u e
  rw [upd_ne (ne_of_none e hl)]
  exact z
theorem Trk.same {H H' : Hp} (s : Same H H') {a : Addr} (h : Trk H a) : Trk H' a := by
  obtain ⟨o, e⟩ := h
  exact ⟨o, s a o e⟩
/-- a tuple of the text's own -/
def KTup (K : PySem.W.Frag) (a : Addr) (xs : List V) : Prop := ∃ (o : Obj) (its : Array Value) (n : Nat), K.lookup a = some o ∧ o.cls = .type "tuple" ∧ o.data = .seq its n ∧ its.size ≤ sizeLine ∧ Vals xs its.toList
theorem KTup.sq {K : PySem.W.Frag} {H : Hp} {a : Addr} {xs : List V} (h : KTup K a xs) : SqT K H a xs := .inr h
mutual
inductive Dm (K : PySem.W.Frag) (N : Addr → Prop) (H : Hp) : V → PyData → Prop
  | non : Dm K N H .non .none
  | bl (b : Bool) : Dm K N H (.bl b) (.bool b)
  | int (i : Int) : Dm K N H (.int i) (.int i)
  | str (x : Str) : Dm K N H (.str x) (.str x)
  | lst {a : Addr} {xs : List V} {ds : List PyData} : H a = some (.lst xs) → ¬ N a → DmAll K N H xs ds → Dm K N H (.ref a) (.list ds)
  | tup {a : Addr} {xs : List V} {ds : List PyData} : H a = some (.tup xs) → ¬ N a → DmAll K N H xs ds → Dm K N H (.ref a) (.tuple ds)
  | con {a : Addr} {xs : List V} {ds : List PyData} : KTup K a xs → DmAll K N H xs ds → Dm K N H (.ref a) (.tuple ds)
inductive DmAll (K : PySem.W.Frag) (N : Addr → Prop) (H : Hp) : List V → List PyData → Prop
  | nil : DmAll K N H [] []
  | cons {v : V} {vs : List V} {d : PyData} {ds : List PyData} : Dm K N H v d → DmAll K N H vs ds → DmAll K N H (v :: vs) (d :: ds)
end
section
variable {K : PySem.W.Frag}
mutual
theorem Dm.mono {N N' : Addr → Prop} {H H' : Hp} (hn : ∀ a, Trk H a → N' a → N a) (hh : Bt N H H') : ∀ (d : PyData) (v : V), Dm K N H v d → Dm K N' H' v d
  | .none, _, h => by
    cases h
    exact .non
  | .bool b, _, h => by
    cases h
    exact .bl b
  | .int i, _, h => by
    cases h
    exact .int i
  | .str x, _, h => by
    cases h
    exact .str x
  | .list ds, _, h => by
    cases h with
    | lst e n a => exact .lst (hh _ _ n e) (fun z => n (hn _ ⟨_, e⟩ z)) (DmAll.mono hn hh ds _ a)
  | .tuple ds, _, h => by
    cases h with
    | tup e n a => exact .tup (hh _ _ n e) (fun z => n (hn _ ⟨_, e⟩ z)) (DmAll.mono hn hh ds _ a)
    | con e a => exact .con e (DmAll.mono hn hh ds _ a)
  | .dict _, _, h => by cases h
theorem DmAll.mono {N N' : Addr → Prop} {H H' : Hp} (hn : ∀ a, Trk H a → N' a → N a) (hh : Bt N H H') : ∀ (ds : List PyData) (vs : List V), DmAll K N H vs ds → DmAll K N' H' vs ds
  | [], _, h => by
    cases h
    exact .nil
  | d :: ds, _, h => by
    cases h with
    | cons a b => exact .cons (Dm.mono hn hh d _ a) (DmAll.mono hn hh ds _ b)
end
mutual
theorem Dm.dp {N : Addr → Prop} {H : Hp} : ∀ (d : PyData) (v : V), Dm K N H v d → Dp K H v d
  | .none, _, h => by
    cases h
    exact .non
  | .bool b, _, h => by
    cases h
    exact .bl b
  | .int i, _, h => by
    cases h
    exact .int i
  | .str x, _, h => by
    cases h
    exact .str x
  | .list ds, _, h => by
    cases h with
    | lst e n a => exact .lst (SqL.of e) (DmAll.dp ds _ a)
  | .tuple ds, _, h => by
    cases h with
    | tup e n a => exact .tup (SqT.of e) (DmAll.dp ds _ a)
    | con e a => exact .tup e.sq (DmAll.dp ds _ a)
  | .dict _, _, h => by cases h
theorem DmAll.dp {N : Addr → Prop} {H : Hp} : ∀ (ds : List PyData) (vs : List V), DmAll K N H vs ds → DpAll K H vs ds
  | [], _, h => by
    cases h
    exact .nil
  | d :: ds, _, h => by
    cases h with
    | cons a b => exact .cons (Dm.dp d _ a) (DmAll.dp ds _ b)
end
variable {N : Addr → Prop} {H : Hp}
theorem Dm.up {d : PyData} {v : V} {H' : Hp} (h : Dm K N H v d) (b : Bt N H H') : Dm K N H' v d := Dm.mono (fun _ _ z => z) b _ _ h
theorem DmAll.up {ds : List PyData} {vs : List V} {H' : Hp} (h : DmAll K N H vs ds) (b : Bt N H H') : DmAll K N H' vs ds := DmAll.mono (fun _ _ z => z) b _ _ h
theorem DmAll.app : ∀ {vs ws : List V} {ds es : List PyData}, DmAll K N H vs ds → DmAll K N H ws es → DmAll K N H (vs ++ ws) (ds ++ es)
  | _, _, _, _, .nil, h => h
  | _, _, _, _, .cons a b, h => .cons a (DmAll.app b h)
theorem DmAll.snoc {vs : List V} {ds : List PyData} {w : V} {e : PyData} (h : DmAll K N H vs ds) (x : Dm K N H w e) : DmAll K N H (vs ++ [w]) (ds ++ [e]) := h.app (.cons x .nil)
theorem DmAll.len : ∀ {vs : List V} {ds : List PyData}, DmAll K N H vs ds → vs.length = ds.length
  | _, _, .nil => rfl
  | _, _, .cons _ b => by rw [List.length_cons, List.length_cons, DmAll.len b]
theorem DmAll.get : ∀ {vs : List V} {ds : List PyData} {i : Nat} {d : PyData}, DmAll K N H vs ds → ds[i]? = some d → ∃ v, vs[i]? = some v ∧ Dm K N H v d
  | _, _, i, d, .nil, h => by simp at h
  | _, _, 0, d, .cons a b, h => by
    have e := Option.some.inj h
    subst e
    exact ⟨_, rfl, a⟩
  | _, _, i + 1, d, .cons a b, h => DmAll.get (i := i) b h
theorem DmAll.getV : ∀ {vs : List V} {ds : List PyData} {i : Nat} {v : V}, DmAll K N H vs ds → vs[i]? = some v → ∃ d, ds[i]? = some d ∧ Dm K N H v d
  | _, _, i, d, .nil, h => by simp at h
  | _, _, 0, d, .cons a b, h => by
    have e := Option.some.inj h
    subst e
    exact ⟨_, rfl, a⟩
  | _, _, i + 1, d, .cons a b, h => DmAll.getV (i := i) b h
theorem DmAll.take : ∀ {vs : List V} {ds : List PyData} (i : Nat), DmAll K N H vs ds → DmAll K N H (vs.take i) (ds.take i)
  | _, _, _, .nil => by simp; exact .nil
  | _, _, 0, .cons a b => .nil
  | _, _, i + 1, .cons a b => .cons a (DmAll.take i b)
theorem DmAll.drop : ∀ {vs : List V} {ds : List PyData} (i : Nat), DmAll K N H vs ds → DmAll K N H (vs.drop i) (ds.drop i)
  | _, _, _, .nil => by simp; exact .nil
  | _, _, 0, .cons a b => .cons a b
  | _, _, i + 1, .cons a b => DmAll.drop i b
theorem DmAll.rev : ∀ {vs : List V} {ds : List PyData}, DmAll K N H vs ds → DmAll K N H vs.reverse ds.reverse
  | _, _, .nil => .nil
  | _, _, .cons a b => by
    rw [List.reverse_cons, List.reverse_cons]
    exact (DmAll.rev b).snoc a
/-- the tuple behind data that is one -/
theorem Dm.seqT {v : V} {ds : List PyData} (h : Dm K N H v (.tuple ds)) : ∃ a xs, v = .ref a ∧ SqT K H a xs ∧ DmAll K N H xs ds := by
  cases h with
  | tup e n a => exact ⟨_, _, rfl, SqT.of e, a⟩
  | con e a => exact ⟨_, _, rfl, e.sq, a⟩
/-- a tuple that stands -/
def Tp (K : PySem.W.Frag) (N : Addr → Prop) (H : Hp) (a : Addr) (xs : List V) : Prop := (H a = some (.tup xs) ∧ ¬ N a) ∨ KTup K a xs
theorem Tp.sq {a : Addr} {xs : List V} (h : Tp K N H a xs) : SqT K H a xs := h.elim (fun z => SqT.of z.1) fun z => z.sq
theorem Tp.up {H' : Hp} {a : Addr} {xs : List V} (h : Tp K N H a xs) (b : Bt N H H') : Tp K N H' a xs := h.elim (fun z => .inl ⟨b _ _ z.2 z.1, z.2⟩) .inr
theorem Tp.ty {a : Addr} {xs : List V} (h : Tp K N H a xs) : TyX K H (.ref a) (.type "tuple") := h.elim (fun z => .base (.tup z.1)) fun ⟨_, _, _, h1, h2, _⟩ => .kTuple h1 h2
theorem Dm.seq {v : V} {ds : List PyData} (h : Dm K N H v (.tuple ds)) : ∃ a xs, v = .ref a ∧ Tp K N H a xs ∧ DmAll K N H xs ds := by
  cases h with
  | tup e n a => exact ⟨_, _, rfl, .inl ⟨e, n⟩, a⟩
  | con e a => exact ⟨_, _, rfl, .inr e, a⟩
/-- a pair of a text and another thing -/
theorem Dm.pair {v : V} {x : Str} {d : PyData} (h : Dm K N H v (.tuple [.str x, d])) : ∃ a y, v = .ref a ∧ Tp K N H a [.str x, y] ∧ Dm K N H y d := by
  obtain ⟨a, xs, e, t, al⟩ := h.seq
  cases al with
  | cons h1 r =>
    cases r with
    | cons h2 r =>
      cases r
      cases h1
      exact ⟨a, _, e, t, h2⟩
theorem Dm.strV {v : V} {z : Str} (h : Dm K N H v (.str z)) : v = .str z := by
  cases h
  rfl
/-- the name of the type -/
def tyN : PyData → String
  | .none => "NoneType"
  | .bool _ => "bool"
  | .int _ => "int"
  | .str _ => "str"
  | .list _ => "list"
  | .tuple _ => "tuple"
  | .dict _ => "dict"
theorem Dm.ty {v : V} {d : PyData} (h : Dm K N H v d) : TyX K H v (.type (tyN d)) := by
  cases h with
  | non => exact .base .non
  | bl b => exact .base (.bl b)
  | int i => exact .base (.int i)
  | str x => exact .base (.str x)
  | lst e n a => exact .base (.lst e)
  | tup e n a => exact .base (.tup e)
  | con e a =>
    obtain ⟨o, its, n, h1, h2, _⟩ := e
    exact .kTuple h1 h2
def isTup : PyData → Bool
  | .tuple _ => true
  | _ => false
def isStr : PyData → Bool
  | .str _ => true
  | _ => false
theorem kit_tup (d : PyData) : PySem.W.kitOne K (.type (tyN d)) (.type "tuple") = some (isTup d) := by
  cases d
  · exact kit_ty (a := "NoneType") (b := "tuple") (r := false) (by decide +kernel)
  · exact kit_ty (a := "bool") (b := "tuple") (r := false) (by decide +kernel)
  · exact kit_ty (a := "int") (b := "tuple") (r := false) (by decide +kernel)
  · exact kit_ty (a := "str") (b := "tuple") (r := false) (by decide +kernel)
  · exact kit_ty (a := "list") (b := "tuple") (r := false) (by decide +kernel)
  · exact kit_ty (a := "tuple") (b := "tuple") (r := true) (by decide +kernel)
  · exact kit_ty (a := "dict") (b := "tuple") (r := false) (by decide +kernel)
theorem kit_str (d : PyData) : PySem.W.kitOne K (.type (tyN d)) (.type "str") = some (isStr d) := by
  cases d
  · exact kit_ty (a := "NoneType") (b := "str") (r := false) (by decide +kernel)
  · exact kit_ty (a := "bool") (b := "str") (r := false) (by decide +kernel)
  · exact kit_ty (a := "int") (b := "str") (r := false) (by decide +kernel)
  · exact kit_ty (a := "str") (b := "str") (r := true) (by decide +kernel)
  · exact kit_ty (a := "list") (b := "str") (r := false) (by decide +kernel)
  · exact kit_ty (a := "tuple") (b := "str") (r := false) (by decide +kernel)
  · exact kit_ty (a := "dict") (b := "str") (r := false) (by decide +kernel)
theorem Dm.tupV {v : V} {d : PyData} (h : Dm K N H v d) (e : isTup d = true) : ∃ ds, d = .tuple ds := by
  cases d <;> first | exact ⟨_, rfl⟩ | cases e
end
/-! documents -/
inductive Doc where
  | txt (z : Str)
  | nod (x : Str) (ts : List Doc)
def mOpen (x : Str) : PyData := .tuple [.str "open", .str x]
def mText (z : Str) : PyData := .tuple [.str "text", .str z]
def mClose : PyData := .tuple [.str "close"]
mutual
def Doc.dat : Doc → PyData
  | .txt z => .str z
  | .nod x ts => .tuple [.str x, .tuple (datAll ts)]
def datAll : List Doc → List PyData
  | [] => []
  | t :: ts => t.dat :: datAll ts
end
mutual
def Doc.marks : Doc → List PyData
  | .txt z => [mText z]
  | .nod x ts => mOpen x :: (marksAll ts ++ [mClose])
def marksAll : List Doc → List PyData
  | [] => []
  | t :: ts => t.marks ++ marksAll ts
end
theorem datAll_map : ∀ ts : List Doc, datAll ts = ts.map Doc.dat
  | [] => rfl
  | t :: ts => by
    unfold datAll
    rw [datAll_map ts]
    rfl
theorem datAll_length (ts : List Doc) : (datAll ts).length = ts.length := by rw [datAll_map, List.length_map]
theorem marks_pos (t : Doc) : 0 < t.marks.length := by
  cases t <;> unfold Doc.marks <;> simp
theorem marksAll_app : ∀ ts us : List Doc, marksAll (ts ++ us) = marksAll ts ++ marksAll us
  | [], us => rfl
  | t :: ts, us => by
    show t.marks ++ marksAll (ts ++ us) = (t.marks ++ marksAll ts) ++ marksAll us
    rw [marksAll_app ts us, List.append_assoc]
theorem marksAll_len : ∀ ts : List Doc, ts.length ≤ (marksAll ts).length
  | [] => Nat.le_refl _
  | t :: ts => by
    show ts.length + 1 ≤ (t.marks ++ marksAll ts).length
    have h1 := marks_pos t
    have h2 := marksAll_len ts
    rw [List.length_append]
    omega
end K1

/-! enumerate(t), t a tuple -/
namespace Xr
open PySem PySem.Spec PyProof.Rows L2 HT
theorem meets_enum_one {v : Value} {o : Obj} {H : Heap → Prop} (B : Begins v o H) :
    Meets (Builtin.«enumerate.__new__» ⟨[.type "enumerate", v], []⟩) (fun _ R s => H s.heap ∧
      R (.ok (.ret (.ref (s.heap.push o).objs.size))) { s with heap := (s.heap.push o).push { cls := .type "enumerate", data := .fields #[.none, .bool false, .ref s.heap.objs.size, rawInt 0, .none, .none] } }) :=
  .of_wp fun prog w A R s h => by
    obtain ⟨hp, g, d, tk, os⟩ := s
    obtain ⟨h1, h⟩ := h
    have hsub := sub_enumerate
    have q1 : ∀ {A' : Around} {E : Value → Shared → Prop} {Q : Value → Shared → Prop}, Q (.ref hp.objs.size) ⟨hp.push o, g, d, tk, os⟩ → wpAny (model prog w) A' (pyIter v) Q E ⟨hp, g, d, tk, os⟩ :=
      fun q => B.iter prog w _ _ ⟨hp, g, d, tk, os⟩ _ h1 q
    wp_walk using q1
    refine wpAny_stack_any fun st => wpAny_pure ?_
    split
    · rename_i c _ _ _ _ _
      cases (c == Value.type "enumerate") <;> (wp_walk using q1; exact ⟨_, rfl, h⟩)
    · wp_walk using q1
      exact ⟨_, rfl, h⟩
section
variable {prog : Program} {w : World} {A : Around} {E : Value → Shared → Prop} {s : Shared}
theorem call_enum_one {v : Value} {o : Obj} {H : Heap → Prop} {Q : Value → Shared → Prop} (B : Begins v o H) (h1 : H s.heap)
    (h : ∀ h', IsEnum h' (s.heap.objs.size + 1) s.heap.objs.size 0 .none → h'.get? s.heap.objs.size = some o → h'.objs.size = s.heap.objs.size + 2 →
      (∀ b o, s.heap.get? b = some o → h'.get? b = some o) → Q (.ref (s.heap.objs.size + 1)) { s with heap := h' }) :
    wpAny (model prog w) A (call (.type "enumerate") [v]) Q E s := by
  refine callType_new F.called_enumerate (by decide) (F.typeCall_enumerate_1 _) (F.newCall_enumerate_1 _) (fun obj => F.args_object_init_2 obj _) F.entry_enumerate_new (meets_enum_one B) ⟨h1, ?_⟩
  have hz : (s.heap.push o).objs.size = s.heap.objs.size + 1 := Heap.size_push ..
  show _ ∧ _
  rw [hz]
  have he : IsEnum ((s.heap.push o).push { cls := .type "enumerate", data := .fields #[.none, .bool false, .ref s.heap.objs.size, rawInt 0, .none, .none] }) (s.heap.objs.size + 1) s.heap.objs.size 0 .none := by
    have := Heap.get?_push_size (s.heap.push o) (o := { cls := .type "enumerate", data := .fields #[.none, .bool false, .ref s.heap.objs.size, rawInt 0, .none, .none] }) rfl
    rw [hz] at this
    exact this
  exact ⟨⟨_, he, rfl⟩, h _ he (Heap.get?_push_of_some _ (Heap.get?_push_size _ B.free)) (by rw [Heap.size_push, hz]) fun b o x => Heap.get?_push_of_some _ (Heap.get?_push_of_some _ x)⟩
end
/-- the tuple at a as it stands at each turn, each item in a new pair -/
def IteT (K : PySem.W.Frag) (a : Addr) : It :=
  ⟨fun i H => ∃ (xs : List V) (x : V), SqT K H a xs ∧ xs[i]? = some x, fun i H v H' => ∃ T x, v = .ref T ∧ H T = none ∧ H' = upd H T (.tup [.int (i : Nat), x]) ∧ ∀ xs, SqT K H a xs → xs[i]? = some x, fun i H => ∃ xs : List V, SqT K H a xs ∧ xs.length = i⟩
theorem turn_enumT {P : Program} {w : World} {K : PySem.W.Frag} {elts : List Expr} {kk : Nat} {tpos : Pos} (a e it : Addr) :
    Turn P w K (.Tuple elts kk tpos) (IteT K a) [e, it] e (fun i h => (∃ old, IsEnum h e it ((i : Nat) : Int) old) ∧ h.IsTupleIter it a i ∧ e ≠ it ∧ a ≠ it ∧ e ≠ a) where
  mem := by simp
  obj := fun i h st b hb => by
    obtain ⟨⟨old, he⟩, ⟨o, ho, hc, hd⟩, _⟩ := st
    have e' : b = e ∨ b = it := by simpa using hb
    rcases e' with z | z
    · rw [z]; exact ⟨_, he, fun v q => nomatch q⟩
    · rw [z]; exact ⟨o, ho, fun v q => by rw [hd] at q; cases q⟩
  keep := fun i h h' st k => let ⟨⟨old, he⟩, hi, hne⟩ := st; ⟨⟨old, k e (by simp) _ he⟩, hi.at fun o q => k it (by simp) o q, hne⟩
  item := by
    intro X hP hw hK hc i pins s σ H E I hf st hg
    subst hP hw hK
    obtain ⟨⟨old, he⟩, hit, hne, hai, hea⟩ := st
    obtain ⟨xs, x, hq, hx⟩ := hg
    obtain ⟨its, rv, p, hz⟩ := I.tuple hq
    obtain ⟨u, hu, ru⟩ := rv.get hx
    have hel : e < s.heap.objs.size := Heap.lt_size he
    have hil : it < s.heap.objs.size := by obtain ⟨_, q, _⟩ := hit; exact Heap.lt_size q
    have hin : i < its.toArray.size := by
      rw [List.size_toArray]
      exact (List.getElem?_eq_some_iff.mp hu).1
    refine wpAny_pyNext_enum_itemC (Draws.tuple (prog := X.prog) (w := X.w) (A := X.A.in1) (I.ok.hd hc) it a hai its.toArray) he ⟨hit, p⟩ hin hne (by simp [hne, hea]) fun y h' tk hy ho hst' hT hsz hk => ?_
    have ey : y = u := by
      have z : its[i]? = some y := by simpa using hy
      rw [hu] at z
      exact (Option.some.inj z).symm
    subst ey
    refine ⟨_, rfl, wpAny_letOwnedTupleGo_enum (s := { s with heap := h', toks := tk + 1 }) ho fun h'' he' sb => ?_⟩
    have hT2 : h''.get? s.heap.objs.size = some { cls := .type "tuple", data := .seq #[.int i tk, y] } := (sb.2 _ (Nat.ne_of_gt hel)).trans hT
    have new : ObjOk X.prog X.w (upd H s.heap.objs.size (.tup [.int (i : Nat), x])) h'' s.heap.objs.size (.tup [.int (i : Nat), x]) :=
      ⟨by show 2 ≤ sizeLine; decide, [.int i tk, y], .cons ⟨_, rfl⟩ (.cons ru .nil), ⟨_, hT2, rfl, _, rfl⟩⟩
    have I1 : L2.Inv X pins σ (upd H s.heap.objs.size (.tup [.int (i : Nat), x])) { s with heap := h'', toks := tk + 1 } :=
      I.turnedNew (ch := [e, it]) (fun b ob hb q => (sb.2 b (fun z => hb (by simp [z]))).trans (hk b ob (fun z => hb (by simp [z])) (fun z => hb (by simp [z])) q)) hf (Nat.le_refl _) new
    refine ⟨.ref s.heap.objs.size, _, I1, rfl, ⟨_, x, rfl, I.hok.fresh (Nat.le_refl _), rfl, fun ys hy => ?_⟩, ⟨⟨y, ?_⟩, hst'.1.at fun o q => (sb.2 it (Ne.symm hne)).trans q, hne, hai, hea⟩, fun b hb => ?_⟩
    · obtain ⟨its2, rv2, p2, _⟩ := I.tuple hy
      have e1 : ys = xs := by
        first
          | exact I.tuple_inj hy hq
          | exact (I.tup_inj hy hq)
      rw [e1]
      exact hx
    · have e1 : ((i + 1 : Nat) : Int) = (i : Int) + 1 := by omega
      rw [e1]; exact he'
    · have hb' : b < s.heap.objs.size := by
        have e' : b = e ∨ b = it := by simpa using hb
        rcases e' with z | z
        · rw [z]; exact hel
        · rw [z]; exact hil
      rw [upd_ne (Nat.ne_of_lt hb')]
      exact (hf b hb).1
  done := by
    intro X hP hw hK hc i pins s σ H E I hf st hg
    subst hP hw hK
    obtain ⟨⟨old, he⟩, hit, hne, hai, hea⟩ := st
    obtain ⟨xs, hq, hx⟩ := hg
    obtain ⟨its, rv, p, hz⟩ := I.tuple hq
    obtain ⟨f0, f1, f2, f3, f4, f5⟩ := hf it (by simp)
    have hl := rv.length
    have hsz : its.toArray.size = i := by rw [List.size_toArray]; omega
    have D := Draws.tuple (prog := X.prog) (w := X.w) (A := X.A.in1) (I.ok.hd hc) it a hai its.toArray
    rw [hsz] at D
    exact wpAny_pyNext_enum_endD D he ⟨hit, p⟩ fun h' eb => ⟨rfl, I.turned (t' := s.toks) (fun b o hb q => eb b o hb q) f0 f1 f3 f4 f5⟩
  self := fun A i s Q E st h => let ⟨⟨_, he⟩, _⟩ := st; wpAny_pyIter_enum he h
def iEnumT (K : PySem.W.Frag) (ta : TA) : TI := fun σ H R => ta σ H fun vs H1 => ∃ a xs, vs = [.ref a] ∧ SqT K H1 a xs ∧ R (IteT K a) H1
theorem pi_enumT {X : Cx} {e : Expr} {ta : TA} {p pos tpos : Pos} {elts : List Expr} {kk : Nat} (hg : Gl X "enumerate") (hm : X.mg "enumerate" = none) (ha : PA X [e] ta) (hs : starEach [e] X.env = [(false, eval e X.env)] := by rfl) :
    PI X (.Tuple elts kk tpos) (.Call (.Name "enumerate" p) [e] [] pos) (iEnumT X.K ta) := by
  refine ⟨fun pins s σ H R I h => ?_⟩
  refine Call_ (ld_blt I hg hm boot_enumerate (PyProof.Rows.callWith_type1 (thn (ha.run pos pins s σ H _ I h) fun us s1 ⟨vs, H1, I1, r1, q1⟩ => ?_) hs rfl))
  obtain ⟨a, xs, ex, hq, q⟩ := q1
  subst ex
  cases r1 with
  | cons r rr =>
    cases rr
    cases r
    obtain ⟨its, rv, p', hz⟩ := I1.tuple hq
    have al : a < s1.heap.objs.size := by obtain ⟨_, q, _⟩ := p'; exact Heap.lt_size q
    refine call_enum_one (begins_tuple a its.toArray) p' fun h' he hit hsz hk => wpAny_pyIter_enum he ?_
    have I2 : L2.Inv X pins σ H1 { s1 with heap := h' } := I1.kept (t' := s1.toks) hk
    refine ⟨s1.heap.objs.size + 1, [s1.heap.objs.size + 1, s1.heap.objs.size], _, _, H1, rfl, I2, turn_enumT a (s1.heap.objs.size + 1) s1.heap.objs.size, ⟨⟨.none, he⟩, ⟨_, hit, rfl, rfl⟩, Nat.succ_ne_self _, Nat.ne_of_lt al, Ne.symm (Nat.ne_of_lt (Nat.lt_succ_of_lt al))⟩, fun b hb => ?_, q⟩
    have e' : b = s1.heap.objs.size + 1 ∨ b = s1.heap.objs.size := by simpa using hb
    have hle : s1.heap.objs.size ≤ b := by
      rcases e' with z | z
      · rw [z]; exact Nat.le_add_right _ _
      · rw [z]; exact Nat.le_refl _
    exact I1.fpOk hle (I1.hok.fresh hle)
theorem walk_enumT {K : PySem.W.Frag} {a : Addr} {xs : List V} : Walk (IteT K a) xs.length (fun H => SqT K H a xs) (YPair (fun i => some (.int (i : Nat))) (fun i => xs[i]?)) := by
  refine ⟨fun i _ hi q => ⟨xs, xs[i], q, by simp [hi]⟩, fun _ q => ⟨xs, q, rfl⟩, fun i H v H' _ q y => ?_⟩
  obtain ⟨T, x, h1, h2, h3, h4⟩ := y
  exact ⟨T, .int (i : Nat), x, h1, h2, h3, rfl, h4 xs q⟩
end Xr

/-! del xs[a:] -/
namespace Xr
open PySem PySem.Spec PyProof.Rows L2 HT
def selV (a n : Int) (i : Nat) : Bool := if (1 : Int) > 0 then (decide (a ≤ (i : Int)) && decide ((i : Int) < n) && (((i : Int) - a) % 1 == 0)) else (decide (n < (i : Int)) && decide ((i : Int) ≤ a) && ((a - (i : Int)) % (-1) == 0))
theorem selV_eq (a n : Nat) (i : Nat) : selV (a : Int) (n : Int) i = (decide (a ≤ i) && decide (i < n)) := by
  unfold selV
  rw [if_pos (by decide)]
  have e1 : ((((i : Int) - (a : Int)) % 1 == 0) : Bool) = true := by
    rw [Int.emod_one]
    rfl
  rw [e1, Bool.and_true]
  have e2 : decide ((a : Int) ≤ (i : Int)) = decide (a ≤ i) := decide_eq_decide.mpr (by omega)
  have e3 : decide ((i : Int) < (n : Int)) = decide (i < n) := decide_eq_decide.mpr (by omega)
  rw [e2, e3]
theorem filt_take (a n : Nat) : ∀ (its : List Value) (j : Nat), j + its.length = n → ((its.zipIdx j).filterMap fun (p : Value × Nat) => if selV (a : Int) (n : Int) p.2 = true then none else some p.1) = its.take (a - j)
  | [], j, _ => by simp
  | x :: its, j, h => by
    rw [List.length_cons] at h
    have ih := filt_take a n its (j + 1) (by omega)
    rw [List.zipIdx_cons, List.filterMap_cons, selV_eq]
    by_cases hj : a ≤ j
    · have e : (decide (a ≤ j) && decide (j < n)) = true := by
        rw [decide_eq_true hj, decide_eq_true (by omega)]
        rfl
      simp only [e, if_true]
      rw [ih]
      have e1 : a - j = 0 := by omega
      have e2 : a - (j + 1) = 0 := by omega
      rw [e1, e2]
      rfl
    · have e : (decide (a ≤ j) && decide (j < n)) = false := by
        rw [decide_eq_false hj]
        rfl
      simp only [e, Bool.false_eq_true, if_false]
      rw [ih]
      have e1 : a - j = (a - (j + 1)) + 1 := by omega
      rw [e1]
      rfl
theorem bounds_tail {a n : Nat} (hc : a ≤ n) : sliceBounds (some (a : Int)) none none n = ((a : Int), (n : Int), 1) := by
  simp only [sliceBounds, Option.getD_none]
  have h1 : ¬ ((a : Int) < 0) := by omega
  simp only [h1, if_false, show (1 : Int) > 0 by decide, if_true]
  congr 1
  · omega
section
variable {prog : Program} {w : World} {A : Around} {E : Value → Shared → Prop} {s : Shared}
theorem delItem_tail {l sl : Addr} {items : List Value} {n : Nat} {vl : Value} {a : Nat} {Q : Unit → Shared → Prop}
    (e : s.heap.get? l = some { cls := .type "list", data := .seq items.toArray n }) (hs : s.heap.IsSliceOf sl vl .none .none) (pl : IsPart vl (some (a : Int))) (hc : a ≤ items.length)
    (hsz : items.length ≤ sizeLine) (h : Q () { s with heap := s.heap.update l (Obj.mapSeq fun xs => (xs.toList.zipIdx.filterMap fun (p : Value × Nat) => if selV (a : Int) (items.length : Int) p.2 = true then none else some p.1).toArray) }) :
    wpAny (model prog w) A (delItem (.ref l) (.ref sl)) Q E s := by
  have hl : s.heap.IsList l items.toArray := PySem.IsL.isList e
  obtain ⟨os, hos, hcs, hds⟩ := id hs
  have hTs : s.TypeIs (.ref sl) "slice" := ⟨os, hos, hcs⟩
  have hstep : ¬ ((rawPart none == rawInt 0) = true) := Bool.false_ne_true
  have hz' : ((fun xs : Array Value => (xs.toList.zipIdx.filterMap fun (p : Value × Nat) => if selV (a : Int) (items.length : Int) p.2 = true then none else some p.1).toArray) items.toArray).size ≤ sizeLine + 1 := by
    show ((items.toArray.toList.zipIdx 0).filterMap _).toArray.size ≤ _
    have e0 : items.toArray.toList = items := by simp
    rw [e0, filt_take a items.length items 0 (by omega), List.size_toArray, List.length_take]
    omega
  unfold delItem
  try with_reducible refine wpAny_holding ?_
  first | refine wpAny_bind (wpAny_pure ?_) | skip
  refine wpAny_bind (wpAny_sequenceKey hl.typeIs (by decide) ?_)
  refine wpAny_bind (wpAny_callSpecial?_slot (name := Str.ofString "__delitem__") hl.typeIs F.slot_list_delitem
    (wpAny_call_entry F.slot_list_delitem hl.typeIs F.entry_list_delitem ?_ (F.args_list_delitem_2 _ _)))
  show wpAny _ _ (Builtin.List.listSubscript? (.ref sl) >>= _) _ _ s
  refine wpAny_bind ?_
  unfold Builtin.List.listSubscript?
  refine wpAny_bind (wpAny_specialOf hTs slice_no_index ?_)
  simp only [Option.isNone_none, if_true]
  refine wpAny_pure ?_
  show wpAny _ _ (typeOf (.ref sl) >>= _) _ _ s
  refine wpAny_bind (wpAny_typeOf hTs ?_)
  first
    | rw [if_neg (by decide)]
    | refine PySem.W.KFB.if_not (by decide) ?_
  rw [listSliceParts_eq]
  refine wpAny_bind (wpAny_bind (wpAny_field hos hds (x := .none) rfl (wpAny_bind (wpAny_listPart .none ?_))))
  rw [if_neg hstep]
  refine wpAny_bind (wpAny_field hos hds (x := vl) rfl (wpAny_bind (wpAny_listPart pl ?_)))
  refine wpAny_bind (wpAny_field hos hds (x := .none) rfl (wpAny_bind (wpAny_listPart .none (wpAny_pure ?_))))
  unfold Builtin.List.listItems
  refine wpAny_bind (wpAny_bind (wpAny_seqItems e rfl (wpAny_pure ?_)))
  have hz : items.toArray.size = items.length := by simp
  rw [hz]
  refine wpAny_bind (wpAny_of_eq ((sliceIndices_raw (some (a : Int)) none none items.length (by simp)).trans (congrArg (pure : Int × Int × Int → Sem (Int × Int × Int)) (bounds_tail hc))) ?_)
  refine wpAny_bind (wpAny_rule ?_)
  show wpAny _ _ (updateSeq l (fun xs => (xs.toList.zipIdx.filterMap fun (p : Value × Nat) => if selV (a : Int) (items.length : Int) p.2 = true then none else some p.1).toArray) >>= _) _ _ s
  refine wpAny_bind (wpAny_updateSeq (hz := by rw [hz]; exact hsz) (_hz' := hz') e rfl ?_)
  refine wpAny_bind (wpAny_letGo ?_)
  first
    | exact wpAny_bind (wpAny_pure (wpAny_pure ⟨.none, rfl, wpAny_pure h⟩))
    | exact wpAny_pure ⟨.none, rfl, wpAny_pure h⟩
end
section
variable {X : Cx}
/-- del xs[lo:] of a list -/
def tDelTail (to : TE) (tl : TO) : TS := fun D σ H => to σ H fun x H1 => tl σ H1 fun o H2 => ∃ (l : Addr) (xs : List V) (a : Nat), x = .ref l ∧ o = some (a : Int) ∧ H2 l = some (.lst xs) ∧ a ≤ xs.length ∧ D.nx σ (upd H2 l (.lst (xs.take a)))
theorem ps_delTail {o lo : Expr} {to : TE} {tl : TO} {tpos pos p2 : Pos} (ho : PE X o to) (hl : PO X (some lo) tl) : PS X (.Delete [.Subscript o (.Slice (some lo) none none p2) tpos] pos) (tDelTail to tl) := by
  refine ⟨fun pins s σ H D I h => ?_⟩
  refine wpAny_Delete (wpAny_deleteEach_cons (wpAny_delete_Subscript (thn (ho.run pins s σ H _ I h) fun u s1 ⟨x, H1, I1, rx, q1⟩ => ?_)))
  refine wpAny_Slice (thn (hl.run pins s1 σ H1 _ I1 q1) fun vl s2 ⟨o2, H2, I2, pl, q2⟩ => ?_)
  refine thn (po_none.run pins s2 σ H2 (fun o H3 => o = none ∧ H3 = H2) I2 ⟨rfl, rfl⟩) fun vu s3 ⟨u2, H3, I3, pu, eu, e3⟩ => ?_
  subst eu e3
  refine thn (po_none.run pins s3 σ H3 (fun o H4 => o = none ∧ H4 = H3) I3 ⟨rfl, rfl⟩) fun vs s4 ⟨o4, H4, I4, ps, eo, e4⟩ => ?_
  subst eo e4
  cases pu
  cases ps
  obtain ⟨l, xs, a, rfl, rfl, hH, ha, q⟩ := q2
  cases (show u = Value.ref l from rx)
  have I5 : L2.Inv X pins σ H4 { s4 with heap := s4.heap.push { cls := .type "slice", data := .fields #[vl, .none, .none] } } := I4.kept (t' := s4.toks) fun b ob q => Heap.get?_push_of_some _ q
  obtain ⟨z, its, n, r, hlen, e⟩ := I5.lstM hH
  refine delItem_tail (a := a) e (Heap.IsSliceOf.new _ vl .none .none) pl (by omega) (by omega) ?_
  refine wpAny_deleteEach_nil ⟨σ, _, ?_, q⟩
  refine I5.lset (its' := its.take a) (t' := s4.toks) hH e ?_ (r.take _) ?_
  · show (((its.toArray.toList.zipIdx 0).filterMap fun (p : Value × Nat) => if selV (a : Int) (its.length : Int) p.2 = true then none else some p.1)).toArray = _
    have e0 : its.toArray.toList = its := by simp
    rw [e0, filt_take a its.length its 0 (by omega)]
    rfl
  · rw [List.length_take]
    omega
end
end Xr

/-! defs that ask repr of data: promises kept where no repr runs around -/
namespace Grd
open PySem PySem.Spec PyProof.Rows L2
/-- as FnOk, where no guard stands around -/
structure FnG (P : Program) (w : World) (K : PySem.W.Frag) (mg : Str → Option Value) (base : Heap) (CX : CXT) (k : Nat) (f : Addr) (fd : FuncData) (ps : List Str) (sp : Sp) : Prop where
  len : ∀ vs H Q E, sp vs H Q E → vs.length = ps.length
  run : ∀ (A : Around) (outer : List Env) (s : Shared) (H : Hp) (args : Args) (us : List Value) (vs : List V) (Q : VK) (E : XK), A.guards = some [] → Room k A → Env0 P w K mg base A outer s H → BindsTo s fd args (ps.zip us) → Vals vs us → sp vs H Q E →
    codeAny (model P w) A (.call (.ref f) args) (CR CX outer P w H s Q E) s
section
variable {P : Program} {w : World} {K : PySem.W.Frag} {mg : Str → Option Value} {base : Heap}
theorem fng_of {CX : CXT} {k : Nat} {f : Addr} {x qual : Str} {st : Stmt} {fd : FuncData} {N ps : List Str} {sp : Sp} (F : Fun K x qual st f fd) (S : FnScope N ps (defScope st)) (len : ∀ vs H Q E, sp vs H Q E → vs.length = ps.length)
    (body : ∀ (cdv : Value) (A : Around) (outer : List Env) (s : Shared) (H : Hp) (vs : List V) (Q : VK) (E : XK), A.guards = some [] → Room k (A.deeper (envOfC qual (defScope st) s.heap.objs.size f cdv)) → sp vs H Q E →
      ∃ t, PSs (cxOf CX P w K mg base N qual (defScope st) f cdv A outer s H E) (defBody st) t ∧ t { nx := fun _ H' => Q .non H', rt := Q } (L2.start N vs) H) : FnG P w K mg base CX (k + 1) f fd ps sp := by
  obtain ⟨oc, od, kV, doc, pm, an, cdv, ct, osl, rfl, lk, hcd⟩ := F.ex
  refine ⟨len, fun A outer s H args us vs Q E gd hr e0 hb r hs => ?_⟩
  have lens := len _ _ _ _ hs
  have inK : K.In s.heap := e0.mod.kin.keeps fun b o e => (e0.bs b o e).1
  have free : s.heap.NoLimit := e0.mod.nolimit.keeps fun b o e => (e0.bs b o e).1
  have kinds : ∀ y ∈ ps.zip us, (defScope st).names.lookup y.1 = some .local ∨ ((defScope st).names.lookup y.1 = some .cell ∧ ((cellsFrom (s.heap.objs.size + 1) (defScope st).names []).lookup y.1).isSome = true) := fun ⟨n, v⟩ hy =>
    (S.par n (List.of_mem_zip hy).1).elim (fun q => .inl q) fun q => .inr ⟨q, PySem.W.cellsFrom_some _ _ _ (.inl q)⟩
  refine codeAny_call_function hr.depth (inK _ _ lk) rfl S.co S.gen rfl (PySem.W.codeRec_of inK hcd) (hb _ _ _ _ ?_)
  refine wpAny_newFunctionEnv_cells S.kind kinds fun env he s1 ic => ?_
  subst he
  refine ⟨free.keeps ic.toInCall.keep, codeAny_func ?_⟩
  obtain ⟨t, ht, hq⟩ := body cdv A outer s H vs Q E gd (hr.deeper _) hs
  have I := inv_start (CX := CX) (P := P) (K := K) (mg := mg) (base := base) (E := E) S hr.hd e0 lens r ic
  refine wpAny_mono (ht.run [] s1 _ H _ I hq) (fun fl s' z => ?_) fun e s' z => z
  cases fl with
  | ret u =>
    obtain ⟨v, σ', H', J, rv, q⟩ := z
    exact ⟨v, H', J.os, J.bare, J.base, J.hok, rv, q⟩
  | next =>
    obtain ⟨σ', H', J, q⟩ := z
    exact ⟨V.non, H', J.os, J.bare, J.base, J.hok, rfl, q⟩
  | brk =>
    obtain ⟨_, _, _, q⟩ := z
    exact q.elim
  | cont =>
    obtain ⟨_, _, _, q⟩ := z
    exact q.elim
end
section
variable {X : Cx} {CX : CXT} {k : Nat} {f : Addr} {fd : FuncData} {ps : List Str} {sp : Sp} {dvs : List V} {ds : List Value} {E : XK} {x : Str} {p pos : Pos} {e : Expr} {es : List Expr} {t : TA}
/-- f(e, ..) where f keeps its promise with no guard around -/
theorem pe_callG (F : FnG X.prog X.w X.K X.mg X.base CX k f fd ps sp) (gd : X.A.guards = some []) (hr : Room k X.A) (hg : Gl X x) (hm : X.mg x = some (.ref f)) (kp : PySem.W.keepIn X.K (.ref f) = true) (hb : Binds X.K fd ps []) (hx : Passes CX X E)
    (ha : PA X (e :: es) t) (hdb : (x == ("__debug__" : Str)) = false := by decide) (he : starEach (e :: es) X.env = (false, eval e X.env) :: starEach es X.env := by rfl) (hpl : (backTo pos (starEach es X.env)).any (·.1) = false := by rfl) :
    PE X (.Call (.Name x p) (e :: es) [] pos) (tCall sp [] E t) := by
  refine ⟨fun pins s σ H Q I h => ?_⟩
  refine wpAny_Call_Name_kw (ld_glob I hg hm ?_ hdb)
  refine PySem.W.callWith_K (h₀ := X.base) I.ok.mod.kin kp (thn (ha.run pos pins s σ H _ I h) fun us s1 ⟨vs, H1, I1, r, q⟩ => ⟨I1.kIn, ?_⟩) he hpl
  have q' : sp vs H1 Q E := by
    have z : sp (vs ++ []) H1 Q E := q
    rw [List.append_nil] at z
    exact z
  have lens : us.length = ps.length := by
    rw [← r.length]
    exact F.len _ _ _ _ q'
  have b := hb s1 us I1.kIn (by rw [List.append_nil]; exact lens)
  rw [List.append_nil] at b
  refine wpAny_call (codeAny_mono (F.run X.A X.stack s1 H1 ⟨us, []⟩ us vs Q E gd hr I1.env0 b r q') fun z s' hq => ?_)
  cases z with
  | error e => exact hx pins σ H1 s1 e s' I1 hq
  | ok fl =>
    cases fl with
    | ret u => exact I1.after hq
    | next => exact hq.elim
    | brk => exact hq.elim
    | cont => exact hq.elim
/-- repr of data -/
def rRepr (K : PySem.W.Frag) : List V → Hp → VK → Prop := fun xs H Q => ∃ (v : V) (d : PyData), xs = [v] ∧ Dp K H v d ∧ d.showable = true ∧ d.hasDict = false ∧ d.depth ≤ 150 ∧ d.shown.length ≤ sizeLine ∧ Q (.str d.shown) H
theorem call_repr (gd : X.A.guards = some []) (hu : X.A.units + 200 < cLine) : CallR X (.builtin "repr") (rRepr X.K) := by
  intro pins s σ H xs us Q I r h
  obtain ⟨v, d, rfl, hd, sh, nd, dep, len, q⟩ := h
  obtain ⟨u, rfl, ru⟩ := vals1 r
  cases hd with
  | non =>
    cases (show u = Value.none from ru)
    exact PySem.P.repr_of_none ⟨.str _, H, I.tok _, ⟨_, rfl⟩, q⟩
  | bl b =>
    cases (show u = Value.bool b from ru)
    exact PySem.P.repr_of_bool ⟨.str _, H, I.tok _, ⟨_, rfl⟩, q⟩
  | int i =>
    obtain ⟨t, rfl⟩ := ru
    have hz : i.natAbs.log2 < 1920 := by
      unfold PyData.showable at sh
      exact of_decide_eq_true sh
    exact PySem.P.repr_of_int hz ⟨.str _, H, I.tok _, ⟨_, rfl⟩, q⟩
  | str x =>
    obtain ⟨t, rfl⟩ := ru
    exact PySem.P.repr_of_str ⟨.str _, H, I.tok _, ⟨_, rfl⟩, q⟩ len
  | lst hs ha =>
    obtain ⟨as, rd⟩ := Dp.reads I _ _ _ (Dp.lst hs ha) ru
    cases (show u = Value.ref _ from ru)
    exact repr_of_reads' rd sh (PyData.noDict_hsm nd) gd (by omega) (fun _ _ e => e) (fun h' tk n up => ⟨.str _, H, I.kept (t' := n) up, ⟨_, rfl⟩, q⟩) len
  | tup hs ha =>
    obtain ⟨as, rd⟩ := Dp.reads I _ _ _ (Dp.tup hs ha) ru
    cases (show u = Value.ref _ from ru)
    exact repr_of_reads' rd sh (PyData.noDict_hsm nd) gd (by omega) (fun _ _ e => e) (fun h' tk n up => ⟨.str _, H, I.kept (t' := n) up, ⟨_, rfl⟩, q⟩) len
theorem u200 {k : Nat} {A : Around} (hr : Room k A) : A.units + 200 < cLine := by
  have := hr.un
  omega
end
end Grd

/-! the plain layer: values as data, changing things as numbered cells of a store -/
namespace K3
open PySem L2 Xr K1
/-- a cell, by its number; a thing of the text (a def, a class), by its address -/
abbrev cel (n : Nat) : PyData := .dict [(.int n, .none)]
abbrev glo (a : Addr) : PyData := .dict [(.int a, .bool true)]
/-- a tuple without a dict of its own; an object of an own class that stays; an error that is held -/
abbrev frz (ds : List PyData) : PyData := .dict [(.none, .tuple ds)]
abbrev fldD (fs : List (Str × PyData)) : List (PyData × PyData) := fs.map fun p => (.str p.1, p.2)
abbrev ind (C : Addr) (fs : List (Str × PyData)) : PyData := .dict ((.str "", .int C) :: fldD fs)
abbrev exd (a C dd : Addr) (fs : List (Str × PyData)) : PyData := .dict ((.int a, .int dd) :: (.int C, .none) :: fldD fs)
/-- where the cells stand; what is hidden (lists that are being made) -/
structure Mp where
  c : Nat → Option Addr
  z : Addr → Prop
def Ce (m : Mp) (a : Addr) : Prop := (∃ n, m.c n = some a) ∨ m.z a
mutual
inductive Dv (K : PySem.W.Frag) (m : Mp) (H : Hp) : V → PyData → Prop
  | non : Dv K m H .non .none
  | bl (b : Bool) : Dv K m H (.bl b) (.bool b)
  | int (i : Int) : Dv K m H (.int i) (.int i)
  | str (x : Str) : Dv K m H (.str x) (.str x)
  | lst {a : Addr} {xs : List V} {ds : List PyData} : H a = some (.lst xs) → ¬ Ce m a → DvAll K m H xs ds → Dv K m H (.ref a) (.list ds)
  | tup {a : Addr} {xs : List V} {ds : List PyData} : H a = some (.tup xs) → ¬ Ce m a → DvAll K m H xs ds → Dv K m H (.ref a) (.tuple ds)
  | con {a : Addr} {xs : List V} {ds : List PyData} : KTup K a xs → DvAll K m H xs ds → Dv K m H (.ref a) (.tuple ds)
  | cel {a : Addr} {n : Nat} : m.c n = some a → Dv K m H (.ref a) (cel n)
  | frz {a : Addr} {o : Obj} {xs : List V} {ds : List PyData} : H a = some (.frz o (.tup xs)) → o.dict = none → ¬ Ce m a → DvAll K m H xs ds → Dv K m H (.ref a) (frz ds)
  | ins {a dx C : Addr} {ys : List (Str × V)} {fs : List (Str × PyData)} : H a = some (.ins C dx ys) → H dx = some (.own a) → ¬ Ce m a → ¬ Ce m dx → ys.map Prod.fst = fs.map Prod.fst → DvAll K m H (ys.map Prod.snd) (fs.map Prod.snd) → Dv K m H (.ref a) (ind C fs)
  | exd {a C dd : Addr} {ys : List (Str × V)} {fs : List (Str × PyData)} : H dd = some (.xd ys) → ¬ Ce m dd → ys.map Prod.fst = fs.map Prod.fst → DvAll K m H (ys.map Prod.snd) (fs.map Prod.snd) → Dv K m H (.ref a) (exd a C dd fs)
  | glo (a : Addr) : Dv K m H (.ref a) (glo a)
inductive DvAll (K : PySem.W.Frag) (m : Mp) (H : Hp) : List V → List PyData → Prop
  | nil : DvAll K m H [] []
  | cons {v : V} {vs : List V} {d : PyData} {ds : List PyData} : Dv K m H v d → DvAll K m H vs ds → DvAll K m H (v :: vs) (d :: ds)
end
/-- from one moment to a later one: cells stay cells, all else stays as it is -/
structure Ev0 (m : Mp) (H : Hp) (m' : Mp) (H' : Hp) : Prop where
  ext : ∀ n a, m.c n = some a → m'.c n = some a
  kp : ∀ a o, H a = some o → ¬ Ce m a → H' a = some o ∧ ¬ Ce m' a
/-- the same, and what is hidden stays hidden, as it is -/
structure Evo (m : Mp) (H : Hp) (m' : Mp) (H' : Hp) : Prop extends Ev0 m H m' H' where
  hz : ∀ a, m'.z a ↔ m.z a
  zk : ∀ a o, m.z a → H a = some o → H' a = some o
theorem Ev0.refl {m : Mp} {H : Hp} : Ev0 m H m H := ⟨fun _ _ h => h, fun _ _ h n => ⟨h, n⟩⟩
theorem Ev0.trans {m m1 m2 : Mp} {H H1 H2 : Hp} (a : Ev0 m H m1 H1) (b : Ev0 m1 H1 m2 H2) : Ev0 m H m2 H2 :=
  ⟨fun n q h => b.ext n q (a.ext n q h), fun q o h n => by
    obtain ⟨h1, n1⟩ := a.kp q o h n
    exact b.kp q o h1 n1⟩
theorem Evo.refl {m : Mp} {H : Hp} : Evo m H m H := ⟨Ev0.refl, fun _ => Iff.rfl, fun _ _ _ h => h⟩
theorem Evo.trans {m m1 m2 : Mp} {H H1 H2 : Hp} (a : Evo m H m1 H1) (b : Evo m1 H1 m2 H2) : Evo m H m2 H2 :=
  ⟨a.toEv0.trans b.toEv0, fun q => (b.hz q).trans (a.hz q), fun q o z h => b.zk q o ((a.hz q).mpr z) (a.zk q o z h)⟩
section
variable {K : PySem.W.Frag}
theorem Dv.mono {m m' : Mp} {H H' : Hp} (e : Ev0 m H m' H') (d : PyData) (v : V) (h : Dv K m H v d) : Dv K m' H' v d :=
  Dv.rec (motive_1 := fun v d _ => Dv K m' H' v d) (motive_2 := fun vs ds _ => DvAll K m' H' vs ds) .non .bl .int .str
    (fun h1 n _ a => .lst (e.kp _ _ h1 n).1 (e.kp _ _ h1 n).2 a) (fun h1 n _ a => .tup (e.kp _ _ h1 n).1 (e.kp _ _ h1 n).2 a) (fun h1 _ a => .con h1 a) (fun h1 => .cel (e.ext _ _ h1))
    (fun h1 od n _ a => .frz (e.kp _ _ h1 n).1 od (e.kp _ _ h1 n).2 a)
    (fun h1 h2 n1 n2 q _ a => .ins (e.kp _ _ h1 n1).1 (e.kp _ _ h2 n2).1 (e.kp _ _ h1 n1).2 (e.kp _ _ h2 n2).2 q a)
    (fun h1 n q _ a => .exd (e.kp _ _ h1 n).1 (e.kp _ _ h1 n).2 q a)
    .glo .nil (fun _ _ a b => .cons a b) h
theorem DvAll.mono {m m' : Mp} {H H' : Hp} (e : Ev0 m H m' H') : ∀ (ds : List PyData) (vs : List V), DvAll K m H vs ds → DvAll K m' H' vs ds
  | [], _, h => by
    cases h
    exact .nil
  | d :: ds, _, h => by
    cases h with
    | cons a b => exact .cons (Dv.mono e d _ a) (DvAll.mono e ds _ b)
variable {m m' : Mp} {H H' : Hp}
theorem Dv.up0 {v : V} {d : PyData} (h : Dv K m H v d) (e : Ev0 m H m' H') : Dv K m' H' v d := Dv.mono e _ _ h
theorem Dv.up {v : V} {d : PyData} (h : Dv K m H v d) (e : Evo m H m' H') : Dv K m' H' v d := Dv.mono e.toEv0 _ _ h
theorem DvAll.up0 {vs : List V} {ds : List PyData} (h : DvAll K m H vs ds) (e : Ev0 m H m' H') : DvAll K m' H' vs ds := DvAll.mono e _ _ h
theorem DvAll.up {vs : List V} {ds : List PyData} (h : DvAll K m H vs ds) (e : Evo m H m' H') : DvAll K m' H' vs ds := DvAll.mono e.toEv0 _ _ h
theorem DvAll.app : ∀ {vs ws : List V} {ds es : List PyData}, DvAll K m H vs ds → DvAll K m H ws es → DvAll K m H (vs ++ ws) (ds ++ es)
  | _, _, _, _, .nil, h => h
  | _, _, _, _, .cons a b, h => .cons a (DvAll.app b h)
theorem DvAll.len : ∀ {vs : List V} {ds : List PyData}, DvAll K m H vs ds → vs.length = ds.length
  | _, _, .nil => rfl
  | _, _, .cons _ b => by rw [List.length_cons, List.length_cons, DvAll.len b]
theorem DvAll.getV : ∀ {vs : List V} {ds : List PyData} {i : Nat} {v : V}, DvAll K m H vs ds → vs[i]? = some v → ∃ d, ds[i]? = some d ∧ Dv K m H v d
  | _, _, i, d, .nil, h => by simp at h
  | _, _, 0, d, .cons a b, h => by
    have e := Option.some.inj h
    subst e
    exact ⟨_, rfl, a⟩
  | _, _, i + 1, d, .cons a b, h => DvAll.getV (i := i) b h
theorem DvAll.get : ∀ {vs : List V} {ds : List PyData} {i : Nat} {d : PyData}, DvAll K m H vs ds → ds[i]? = some d → ∃ v, vs[i]? = some v ∧ Dv K m H v d
  | _, _, i, d, .nil, h => by simp at h
  | _, _, 0, d, .cons a b, h => by
    have e := Option.some.inj h
    subst e
    exact ⟨_, rfl, a⟩
  | _, _, i + 1, d, .cons a b, h => DvAll.get (i := i) b h
theorem DvAll.take : ∀ {vs : List V} {ds : List PyData} (i : Nat), DvAll K m H vs ds → DvAll K m H (vs.take i) (ds.take i)
  | _, _, _, .nil => by simp; exact .nil
  | _, _, 0, .cons a b => .nil
  | _, _, i + 1, .cons a b => .cons a (DvAll.take i b)
theorem DvAll.drop : ∀ {vs : List V} {ds : List PyData} (i : Nat), DvAll K m H vs ds → DvAll K m H (vs.drop i) (ds.drop i)
  | _, _, _, .nil => by simp; exact .nil
  | _, _, 0, .cons a b => .cons a b
  | _, _, i + 1, .cons a b => DvAll.drop i b
theorem DvAll.rev : ∀ {vs : List V} {ds : List PyData}, DvAll K m H vs ds → DvAll K m H vs.reverse ds.reverse
  | _, _, .nil => .nil
  | _, _, .cons a b => by
    rw [List.reverse_cons, List.reverse_cons]
    exact (DvAll.rev b).app (.cons a .nil)
theorem DvAll.dropLast {vs : List V} {ds : List PyData} (h : DvAll K m H vs ds) : DvAll K m H vs.dropLast ds.dropLast := by
  rw [List.dropLast_eq_take, List.dropLast_eq_take, h.len]
  exact h.take _
/-- the tuple behind data that is one -/
theorem Dv.seqT {v : V} {ds : List PyData} (h : Dv K m H v (.tuple ds)) : ∃ a xs, v = .ref a ∧ SqT K H a xs ∧ DvAll K m H xs ds := by
  cases h with
  | tup e n a => exact ⟨_, _, rfl, SqT.of e, a⟩
  | con e a => exact ⟨_, _, rfl, e.sq, a⟩
theorem Dv.seqL {v : V} {ds : List PyData} (h : Dv K m H v (.list ds)) : ∃ a xs, v = .ref a ∧ H a = some (.lst xs) ∧ ¬ Ce m a ∧ DvAll K m H xs ds := by
  cases h with
  | lst e n a => exact ⟨_, _, rfl, e, n, a⟩
/-! no cells, no things of the text within -/
mutual
def pureD : PyData → Bool
  | .list ds => pureAll ds
  | .tuple ds => pureAll ds
  | .dict _ => false
  | _ => true
def pureAll : List PyData → Bool
  | [] => true
  | d :: ds => pureD d && pureAll ds
end
mutual
theorem Dv.dm : ∀ (d : PyData) (v : V), pureD d = true → Dv K m H v d → Dm K (Ce m) H v d
  | .none, _, _, h => by
    cases h
    exact .non
  | .bool b, _, _, h => by
    cases h
    exact .bl b
  | .int i, _, _, h => by
    cases h
    exact .int i
  | .str x, _, _, h => by
    cases h
    exact .str x
  | .list ds, _, p, h => by
    cases h with
    | lst h1 n a => exact .lst h1 n (DvAll.dm ds _ p a)
  | .tuple ds, _, p, h => by
    cases h with
    | tup h1 n a => exact .tup h1 n (DvAll.dm ds _ p a)
    | con h1 a => exact .con h1 (DvAll.dm ds _ p a)
  | .dict _, _, p, _ => by cases p
theorem DvAll.dm : ∀ (ds : List PyData) (vs : List V), pureAll ds = true → DvAll K m H vs ds → DmAll K (Ce m) H vs ds
  | [], _, _, h => by
    cases h
    exact .nil
  | d :: ds, _, p, h => by
    have p' : (pureD d && pureAll ds) = true := p
    rw [Bool.and_eq_true] at p'
    cases h with
    | cons a b => exact .cons (Dv.dm d _ p'.1 a) (DvAll.dm ds _ p'.2 b)
end
mutual
theorem Dv.of {N : Addr → Prop} (hn : ∀ a, Ce m a → N a) : ∀ (d : PyData) (v : V), Dm K N H v d → Dv K m H v d
  | .none, _, h => by
    cases h
    exact .non
  | .bool b, _, h => by
    cases h
    exact .bl b
  | .int i, _, h => by
    cases h
    exact .int i
  | .str x, _, h => by
    cases h
    exact .str x
  | .list ds, _, h => by
    cases h with
    | lst h1 n a => exact .lst h1 (fun z => n (hn _ z)) (DvAll.of hn ds _ a)
  | .tuple ds, _, h => by
    cases h with
    | tup h1 n a => exact .tup h1 (fun z => n (hn _ z)) (DvAll.of hn ds _ a)
    | con h1 a => exact .con h1 (DvAll.of hn ds _ a)
  | .dict _, _, h => by cases h
theorem DvAll.of {N : Addr → Prop} (hn : ∀ a, Ce m a → N a) : ∀ (ds : List PyData) (vs : List V), DmAll K N H vs ds → DvAll K m H vs ds
  | [], _, h => by
    cases h
    exact .nil
  | d :: ds, _, h => by
    cases h with
    | cons a b => exact .cons (Dv.of hn d _ a) (DvAll.of hn ds _ b)
end
mutual
theorem layPure : ∀ d : PyData, d.canLay0 = true → pureD d = true
  | .none, _ => rfl
  | .bool _, _ => rfl
  | .int _, _ => rfl
  | .str _, _ => rfl
  | .list ds, h => layPureAll ds (by unfold PyData.canLay0 at h; exact h)
  | .tuple ds, h => layPureAll ds (by unfold PyData.canLay0 at h; exact h)
  | .dict _, h => by unfold PyData.canLay0 at h; cases h
theorem layPureAll : ∀ ds : List PyData, PyData.canLayAll0 ds = true → pureAll ds = true
  | [], _ => rfl
  | d :: ds, h => by
    have e : PyData.canLayAll0 (d :: ds) = (PyData.canLay0 d && PyData.canLayAll0 ds) := by
      conv => lhs; unfold PyData.canLayAll0
    rw [e, Bool.and_eq_true] at h
    show (pureD d && pureAll ds) = true
    rw [layPure d h.1, layPureAll ds h.2]
    rfl
end
end
/-- what a cell holds -/
inductive Cell where
  | lst (ds : List PyData)
  | ins (C : Addr) (fs : List (Str × PyData))
  | dk (kvs : List (L2.Key × PyData))
  | dt (kvs : List (List L2.Key × PyData))
abbrev Sto := Nat → Option Cell
def CellR (K : PySem.W.Frag) (m : Mp) (H : Hp) (a : Addr) : Cell → Prop
  | .lst ds => ∃ xs, H a = some (.lst xs) ∧ DvAll K m H xs ds
  | .ins C fs => ∃ dx gs, H a = some (.ins C dx gs) ∧ gs.map Prod.fst = fs.map Prod.fst ∧ DvAll K m H (gs.map Prod.snd) (fs.map Prod.snd)
  | .dk kvs => ∃ gs, H a = some (.dK gs) ∧ gs.map Prod.fst = kvs.map Prod.fst ∧ DvAll K m H (gs.map Prod.snd) (kvs.map Prod.snd)
  | .dt kvs => ∃ gs, H a = some (.dT gs) ∧ gs.map Prod.fst = kvs.map Prod.fst ∧ DvAll K m H (gs.map Prod.snd) (kvs.map Prod.snd)
theorem CellR.up {K : PySem.W.Frag} {m m' : Mp} {H H' : Hp} {a : Addr} {c : Cell} (h : CellR K m H a c) (e : Ev0 m H m' H') (s : H' a = H a) : CellR K m' H' a c := by
  cases c with
  | lst ds =>
    obtain ⟨xs, h1, h2⟩ := h
    exact ⟨xs, by rw [s]; exact h1, h2.up0 e⟩
  | ins C fs =>
    obtain ⟨dx, gs, h1, h2, h3⟩ := h
    exact ⟨dx, gs, by rw [s]; exact h1, h2, h3.up0 e⟩
  | dk kvs =>
    obtain ⟨gs, h1, h2, h3⟩ := h
    exact ⟨gs, by rw [s]; exact h1, h2, h3.up0 e⟩
  | dt kvs =>
    obtain ⟨gs, h1, h2, h3⟩ := h
    exact ⟨gs, by rw [s]; exact h1, h2, h3.up0 e⟩
/-- the store is held -/
structure Wd (K : PySem.W.Frag) (m : Mp) (H : Hp) (S : Sto) : Prop where
  inj : ∀ i j a, m.c i = some a → m.c j = some a → i = j
  trk : ∀ n a, m.c n = some a → ∃ o, H a = some o
  bd : ∃ b, ∀ n, b ≤ n → m.c n = none
  has : ∀ n c, S n = some c → ∃ a, m.c n = some a ∧ CellR K m H a c
  hid : ∀ n a, m.c n = some a → ¬ m.z a
  ztr : ∀ a, m.z a → ∃ o, H a = some o
def put (S : Sto) (n : Nat) (c : Cell) : Sto := fun k => if k = n then some c else S k
def mput (m : Mp) (n : Nat) (a : Addr) : Mp := ⟨fun k => if k = n then some a else m.c k, m.z⟩
theorem put_same {S : Sto} {n : Nat} {c : Cell} : put S n c n = some c := by unfold put; rw [if_pos rfl]
theorem put_ne {S : Sto} {n k : Nat} {c : Cell} (h : k ≠ n) : put S n c k = S k := by unfold put; rw [if_neg h]
theorem put_put {S : Sto} {n : Nat} {c d : Cell} : put (put S n c) n d = put S n d := by
  funext k; unfold put; split <;> rfl
theorem mput_same {m : Mp} {n : Nat} {a : Addr} : (mput m n a).c n = some a := by unfold mput; simp
theorem mput_ne {m : Mp} {n k : Nat} {a : Addr} (h : k ≠ n) : (mput m n a).c k = m.c k := by unfold mput; simp [h]
section
variable {K : PySem.W.Frag} {m : Mp} {H : Hp} {S : Sto} {p : Addr} {o : HO} {n : Nat} {c : Cell}
theorem Wd.noCe (w : Wd K m H S) (hp : H p = none) : ¬ Ce m p := fun h => by
  rcases h with ⟨n, e⟩ | e
  · obtain ⟨o, h⟩ := w.trk n p e
    rw [hp] at h
    cases h
  · obtain ⟨o, h⟩ := w.ztr p e
    rw [hp] at h
    cases h
theorem Wd.free (w : Wd K m H S) : ∃ n, m.c n = none := let ⟨b, h⟩ := w.bd; ⟨b, h b (Nat.le_refl _)⟩
theorem Wd.sfree (w : Wd K m H S) (h : m.c n = none) : S n = none := by
  cases e : S n with
  | none => rfl
  | some c =>
    obtain ⟨a, ha, _⟩ := w.has n c e
    rw [h] at ha
    cases ha
/-- a new thing that is no cell -/
theorem Evo.new (w : Wd K m H S) (hp : H p = none) : Evo m H m (upd H p o) := ⟨⟨fun _ _ h => h, fun q u e n => ⟨by rw [upd_ne (ne_of_none e hp)]; exact e, n⟩⟩, fun _ => Iff.rfl, fun q u _ e => by rw [upd_ne (ne_of_none e hp)]; exact e⟩
theorem Wd.new (w : Wd K m H S) (hp : H p = none) : Wd K m (upd H p o) S := by
  refine ⟨w.inj, fun n a e => ?_, w.bd, fun n c e => ?_, w.hid, fun a e => ?_⟩
  · obtain ⟨u, h⟩ := w.trk n a e
    exact ⟨u, by rw [upd_ne (ne_of_none h hp)]; exact h⟩
  · obtain ⟨a, h1, h2⟩ := w.has n c e
    obtain ⟨u, h⟩ := w.trk n a h1
    exact ⟨a, h1, h2.up (Evo.new w hp).toEv0 (upd_ne (ne_of_none h hp))⟩
  · obtain ⟨u, h⟩ := w.ztr a e
    exact ⟨u, by rw [upd_ne (ne_of_none h hp)]; exact h⟩
/-- a new cell -/
theorem Evo.alloc (w : Wd K m H S) (hp : H p = none) (hn : m.c n = none) : Evo m H (mput m n p) (upd H p o) := by
  refine ⟨⟨fun k a e => ?_, fun q u e ne => ⟨by rw [upd_ne (ne_of_none e hp)]; exact e, fun h => ?_⟩⟩, fun _ => Iff.rfl, fun q u _ e => by rw [upd_ne (ne_of_none e hp)]; exact e⟩
  · have : k ≠ n := fun z => by rw [z, hn] at e; cases e
    rw [mput_ne this]
    exact e
  · rcases h with ⟨k, ek⟩ | ek
    · by_cases z : k = n
      · rw [z, mput_same] at ek
        have := Option.some.inj ek
        rw [← this, hp] at e
        cases e
      · rw [mput_ne z] at ek
        exact ne (.inl ⟨k, ek⟩)
    · exact ne (.inr ek)
theorem Wd.alloc (w : Wd K m H S) (hp : H p = none) (hn : m.c n = none) (hc : CellR K (mput m n p) (upd H p o) p c) : Wd K (mput m n p) (upd H p o) (put S n c) := by
  have np := w.noCe hp
  refine ⟨fun i j a h1 h2 => ?_, fun k a e => ?_, ?_, fun k d e => ?_, fun k a e za => ?_, fun a e => ?_⟩
  · by_cases zi : i = n
    · by_cases zj : j = n
      · rw [zi, zj]
      · rw [zi, mput_same] at h1
        rw [mput_ne zj] at h2
        exact absurd (.inl ⟨j, by rw [Option.some.inj h1]; exact h2⟩) np
    · by_cases zj : j = n
      · rw [zj, mput_same] at h2
        rw [mput_ne zi] at h1
        exact absurd (.inl ⟨i, by rw [Option.some.inj h2]; exact h1⟩) np
      · rw [mput_ne zi] at h1
        rw [mput_ne zj] at h2
        exact w.inj i j a h1 h2
  · by_cases z : k = n
    · rw [z, mput_same] at e
      rw [← Option.some.inj e]
      exact ⟨o, upd_same⟩
    · rw [mput_ne z] at e
      obtain ⟨u, h⟩ := w.trk k a e
      exact ⟨u, by rw [upd_ne (ne_of_none h hp)]; exact h⟩
  · obtain ⟨b, hb⟩ := w.bd
    refine ⟨max b (n + 1), fun k hk => ?_⟩
    have h1 : b ≤ k := Nat.le_trans (Nat.le_max_left _ _) hk
    have h2 : n + 1 ≤ k := Nat.le_trans (Nat.le_max_right _ _) hk
    rw [mput_ne (by omega)]
    exact hb k h1
  · by_cases z : k = n
    · rw [z, put_same] at e
      rw [← Option.some.inj e]
      exact ⟨p, by rw [z]; exact mput_same, hc⟩
    · rw [put_ne z] at e
      obtain ⟨a, h1, h2⟩ := w.has k d e
      obtain ⟨u, h⟩ := w.trk k a h1
      exact ⟨a, by rw [mput_ne z]; exact h1, h2.up (Evo.alloc w hp hn).toEv0 (upd_ne (ne_of_none h hp))⟩
  · by_cases z : k = n
    · rw [z, mput_same] at e
      rw [← Option.some.inj e] at za
      exact np (.inr za)
    · rw [mput_ne z] at e
      exact w.hid k a e za
  · obtain ⟨u, h⟩ := w.ztr a e
    exact ⟨u, by rw [upd_ne (ne_of_none h hp)]; exact h⟩
/-- a cell changed -/
theorem Evo.set (w : Wd K m H S) (h : m.c n = some p) : Evo m H m (upd H p o) := ⟨⟨fun _ _ e => e, fun q u e ne => ⟨by
  have : q ≠ p := fun z => ne (.inl ⟨n, by rw [z]; exact h⟩)
  rw [upd_ne this]
  exact e, ne⟩⟩, fun _ => Iff.rfl, fun q u z e => by
    have : q ≠ p := fun y => w.hid n p h (by rw [← y]; exact z)
    rw [upd_ne this]
    exact e⟩
theorem Wd.set (w : Wd K m H S) (h : m.c n = some p) (hc : CellR K m (upd H p o) p c) : Wd K m (upd H p o) (put S n c) := by
  have tr : ∀ a, (∃ u, H a = some u) → ∃ u, upd H p o a = some u := fun a ⟨u, e⟩ => by
    by_cases z : a = p
    · rw [z]
      exact ⟨o, upd_same⟩
    · exact ⟨u, by rw [upd_ne z]; exact e⟩
  refine ⟨w.inj, fun k a e => tr a (w.trk k a e), w.bd, fun k d e => ?_, w.hid, fun a e => tr a (w.ztr a e)⟩
  by_cases z : k = n
  · rw [z, put_same] at e
    rw [← Option.some.inj e]
    exact ⟨p, by rw [z]; exact h, hc⟩
  · rw [put_ne z] at e
    obtain ⟨a, h1, h2⟩ := w.has k d e
    have : a ≠ p := fun q => z (w.inj k n p (by rw [← q]; exact h1) h)
    exact ⟨a, h1, h2.up (Evo.set w h).toEv0 (upd_ne this)⟩
/-- hidden: a new list that is being made -/
def hide (m : Mp) (p : Addr) : Mp := ⟨m.c, fun a => a = p ∨ m.z a⟩
def bare (m : Mp) (p : Addr) : Mp := ⟨m.c, fun a => a ≠ p ∧ m.z a⟩
theorem Ev0.hide (w : Wd K m H S) (hp : H p = none) : Ev0 m H (hide m p) (upd H p o) := ⟨fun _ _ h => h, fun q u e ne => ⟨by rw [upd_ne (ne_of_none e hp)]; exact e, fun h => by
  rcases h with h | h | h
  · exact ne (.inl h)
  · rw [h, hp] at e
    cases e
  · exact ne (.inr h)⟩⟩
theorem Wd.hide (w : Wd K m H S) (hp : H p = none) : Wd K (hide m p) (upd H p o) S := by
  have tr : ∀ a, (∃ u, H a = some u) → ∃ u, upd H p o a = some u := fun a ⟨u, e⟩ => ⟨u, by rw [upd_ne (ne_of_none e hp)]; exact e⟩
  refine ⟨w.inj, fun n a e => tr a (w.trk n a e), w.bd, fun n c e => ?_, fun n a e za => ?_, fun a e => ?_⟩
  · obtain ⟨a, h1, h2⟩ := w.has n c e
    obtain ⟨u, h⟩ := w.trk n a h1
    exact ⟨a, h1, h2.up (Ev0.hide w hp) (upd_ne (ne_of_none h hp))⟩
  · rcases za with za | za
    · exact w.noCe hp (.inl ⟨n, by rw [← za]; exact e⟩)
    · exact w.hid n a e za
  · rcases e with e | e
    · rw [e]
      exact ⟨o, upd_same⟩
    · exact tr a (w.ztr a e)
/-- a hidden list goes on -/
theorem Ev0.turn (hz : m.z p) : Ev0 m H m (upd H p o) := ⟨fun _ _ e => e, fun q u e ne => ⟨by
  have : q ≠ p := fun z => ne (.inr (by rw [z]; exact hz))
  rw [upd_ne this]
  exact e, ne⟩⟩
theorem Wd.turn (w : Wd K m H S) (hz : m.z p) : Wd K m (upd H p o) S := by
  have tr : ∀ a, (∃ u, H a = some u) → ∃ u, upd H p o a = some u := fun a ⟨u, e⟩ => by
    by_cases z : a = p
    · rw [z]
      exact ⟨o, upd_same⟩
    · exact ⟨u, by rw [upd_ne z]; exact e⟩
  refine ⟨w.inj, fun n a e => tr a (w.trk n a e), w.bd, fun n c e => ?_, w.hid, fun a e => tr a (w.ztr a e)⟩
  obtain ⟨a, h1, h2⟩ := w.has n c e
  have : a ≠ p := fun z => w.hid n a h1 (by rw [z]; exact hz)
  exact ⟨a, h1, h2.up (Ev0.turn hz) (upd_ne this)⟩
/-- .. and is made -/
theorem Ev0.bare : Ev0 m H (bare m p) H := ⟨fun _ _ e => e, fun q u e ne => ⟨e, fun h => by
  rcases h with h | h
  · exact ne (.inl h)
  · exact ne (.inr h.2)⟩⟩
theorem Wd.bare (w : Wd K m H S) : Wd K (bare m p) H S := by
  refine ⟨w.inj, w.trk, w.bd, fun n c e => ?_, fun n a e za => w.hid n a e za.2, fun a e => w.ztr a e.2⟩
  obtain ⟨a, h1, h2⟩ := w.has n c e
  exact ⟨a, h1, h2.up Ev0.bare rfl⟩
/-- a store with less in it -/
def Ext (S S' : Sto) : Prop := ∀ n c, S n = some c → S' n = some c
theorem Ext.refl : Ext S S := fun _ _ h => h
theorem Ext.trans {S1 S2 : Sto} (a : Ext S S1) (b : Ext S1 S2) : Ext S S2 := fun n c h => b n c (a n c h)
theorem Ext.new (h : S n = none) : Ext S (put S n c) := fun k d e => by
  have : k ≠ n := fun z => by rw [z, h] at e; cases e
  rw [put_ne this]
  exact e
theorem Ext.put {S1 : Sto} (a : Ext S S1) (h : S n = none) : Ext S (put S1 n c) := fun k d e => by
  have : k ≠ n := fun z => by rw [z, h] at e; cases e
  rw [put_ne this]
  exact a k d e
theorem Wd.less {S' : Sto} (w : Wd K m H S') (e : Ext S S') : Wd K m H S := ⟨w.inj, w.trk, w.bd, fun n c h => w.has n c (e n c h), w.hid, w.ztr⟩
theorem Wd.lst (w : Wd K m H S) {ds : List PyData} (e : S n = some (.lst ds)) : ∃ a xs, m.c n = some a ∧ H a = some (.lst xs) ∧ DvAll K m H xs ds := by
  obtain ⟨a, h1, xs, h2, h3⟩ := w.has n _ e
  exact ⟨a, xs, h1, h2, h3⟩
/-- old promises that leave all as it was -/
theorem Evo.same {H' : Hp} (w : Wd K m H S) (s : Same H H') : Evo m H m H' := ⟨⟨fun _ _ h => h, fun q u e n => ⟨s q u e, n⟩⟩, fun _ => Iff.rfl, fun q u _ e => s q u e⟩
theorem Wd.same {H' : Hp} (w : Wd K m H S) (s : Same H H') : Wd K m H' S := by
  have tr : ∀ a, (∃ u, H a = some u) → ∃ u, H' a = some u := fun a ⟨u, e⟩ => ⟨u, s _ _ e⟩
  refine ⟨w.inj, fun n a e => tr a (w.trk n a e), w.bd, fun n c e => ?_, w.hid, fun a e => tr a (w.ztr a e)⟩
  obtain ⟨a, h1, h2⟩ := w.has n c e
  obtain ⟨u, h⟩ := w.trk n a h1
  exact ⟨a, h1, h2.up (Evo.same w s).toEv0 (by rw [h, s _ _ h])⟩
/-- where nothing is held -/
def M0 : Mp := ⟨fun _ => none, fun _ => False⟩
def S0 : Sto := fun _ => none
theorem Wd.zero : Wd K M0 H S0 := ⟨fun _ _ _ h => (nomatch h), fun _ _ h => (nomatch h), ⟨0, fun _ _ => rfl⟩, fun _ _ h => (nomatch h), fun _ _ h => (nomatch h), fun _ h => h.elim⟩
end
end K3

/-! the plain layer: expressions -/
namespace K3
open PySem L2 Xr K1
theorem pe_weak {X : Cx} {e : Expr} {t t' : TE} (h : PE X e t) (i : ∀ σ H Q, t' σ H Q → t σ H Q) : PE X e t' := ⟨fun pins s σ H Q I q => h.run pins s σ H Q I (i _ _ _ q)⟩
theorem pt_weak {X : Cx} {e : Expr} {t t' : TT} (h : PT X e t) (i : ∀ σ H Q, t' σ H Q → t σ H Q) : PT X e t' := ⟨fun pins s σ H Q I q => h.run pins s σ H Q I (i _ _ _ q)⟩
theorem pw_weak {X : Cx} {e : Expr} {t t' : TT} (h : PW X e t) (i : ∀ σ H Q, t' σ H Q → t σ H Q) : PW X e t' := ⟨fun w pins s σ H Q I q => h.run w pins s σ H Q I (i _ _ _ q)⟩
theorem pa_weak {X : Cx} {e : List Expr} {t t' : TA} (h : PA X e t) (i : ∀ σ H Q, t' σ H Q → t σ H Q) : PA X e t' := ⟨fun w pins s σ H Q I q => h.run w pins s σ H Q I (i _ _ _ q)⟩
theorem ps_weak {X : Cx} {e : Stmt} {t t' : TS} (h : PS X e t) (i : ∀ D σ H, t' D σ H → t D σ H) : PS X e t' := ⟨fun pins s σ H Q I q => h.run pins s σ H Q I (i _ _ _ q)⟩
theorem pss_weak {X : Cx} {e : List Stmt} {t t' : TS} (h : PSs X e t) (i : ∀ D σ H, t' D σ H → t D σ H) : PSs X e t' := ⟨fun pins s σ H Q I q => h.run pins s σ H Q I (i _ _ _ q)⟩
abbrev Rho := List (Option PyData)
abbrev DK := PyData → Sto → Prop
abbrev DB := Bool → Sto → Prop
abbrev DL := List PyData → Sto → Prop
abbrev DE := Rho → Sto → DK → Prop
abbrev DT := Rho → Sto → DB → Prop
abbrev DA := Rho → Sto → DL → Prop
def Fr (K : PySem.W.Frag) (m : Mp) (H : Hp) : L2.St → Rho → Prop
  | [], [] => True
  | x :: σ, d :: ρ => (∀ e, d = some e → ∃ v, x = some v ∧ Dv K m H v e) ∧ Fr K m H σ ρ
  | _, _ => False
def gt : Rho → Nat → Option PyData
  | [], _ => none
  | d :: _, 0 => d
  | _ :: ρ, i + 1 => gt ρ i
def st : Rho → Nat → PyData → Rho
  | [], _, _ => []
  | _ :: ρ, 0, e => some e :: ρ
  | d :: ρ, i + 1, e => d :: st ρ i e
/-- forget what stands in a slot -/
def un : Rho → Nat → Rho
  | [], _ => []
  | _ :: ρ, 0 => none :: ρ
  | d :: ρ, i + 1 => d :: un ρ i
def uns (ρ : Rho) : List Nat → Rho
  | [] => ρ
  | v :: vs => un (uns ρ vs) v
section
variable {K : PySem.W.Frag} {m m' : Mp} {H H' : Hp}
theorem Fr.up (e : Evo m H m' H') : ∀ (σ : L2.St) (ρ : Rho), Fr K m H σ ρ → Fr K m' H' σ ρ
  | [], [], _ => trivial
  | x :: σ, d :: ρ, h => ⟨fun z q => by
      obtain ⟨v, h1, h2⟩ := h.1 z q
      exact ⟨v, h1, h2.up e⟩, Fr.up e σ ρ h.2⟩
  | [], _ :: _, h => h.elim
  | _ :: _, [], h => h.elim
theorem Fr.get : ∀ (σ : L2.St) (ρ : Rho) (i : Nat) (d : PyData), Fr K m H σ ρ → gt ρ i = some d → ∃ v, σ[i]? = some (some v) ∧ Dv K m H v d
  | [], [], _, _, _, e => by cases e
  | x :: σ, d :: ρ, 0, e, h, q => by
    obtain ⟨v, h1, h2⟩ := h.1 e q
    exact ⟨v, by rw [h1]; rfl, h2⟩
  | x :: σ, d :: ρ, i + 1, e, h, q => Fr.get σ ρ i e h.2 q
  | [], _ :: _, _, _, h, _ => h.elim
  | _ :: _, [], _, _, h, _ => h.elim
theorem Fr.set {v : V} {e : PyData} (hv : Dv K m H v e) : ∀ (σ : L2.St) (ρ : Rho) (i : Nat), Fr K m H σ ρ → Fr K m H (σ.set i (some v)) (st ρ i e)
  | [], [], _, _ => trivial
  | x :: σ, d :: ρ, 0, h => ⟨fun z q => ⟨v, rfl, by cases q; exact hv⟩, h.2⟩
  | x :: σ, d :: ρ, i + 1, h => ⟨h.1, Fr.set hv σ ρ i h.2⟩
  | [], _ :: _, _, h => h.elim
  | _ :: _, [], _, h => h.elim
theorem Fr.un : ∀ (σ : L2.St) (ρ : Rho) (i : Nat), Fr K m H σ ρ → Fr K m H (σ.set i none) (un ρ i)
  | [], [], _, _ => trivial
  | x :: σ, d :: ρ, 0, h => ⟨fun z q => (nomatch q), h.2⟩
  | x :: σ, d :: ρ, i + 1, h => ⟨h.1, Fr.un σ ρ i h.2⟩
  | [], _ :: _, _, h => h.elim
  | _ :: _, [], _, h => h.elim
theorem Fr.wipe (σ : L2.St) (ρ : Rho) (h : Fr K m H σ ρ) : ∀ vs : List Nat, Fr K m H (wipe σ vs) (uns ρ vs)
  | [] => h
  | v :: vs => Fr.un _ _ _ (Fr.wipe σ ρ h vs)
theorem Fr.none : ∀ (n : Nat), Fr K m H (List.replicate n none) (List.replicate n none)
  | 0 => trivial
  | n + 1 => ⟨fun z q => (nomatch q), Fr.none n⟩
theorem Fr.app : ∀ {vs : List V} {ds : List PyData} {σ : L2.St} {ρ : Rho}, DvAll K m H vs ds → Fr K m H σ ρ → Fr K m H (vs.map some ++ σ) (ds.map some ++ ρ)
  | _, _, _, _, .nil, h => h
  | _, _, _, _, .cons a b, h => ⟨fun z q => by cases q; exact ⟨_, rfl, a⟩, Fr.app b h⟩
end
/-- at a moment of a def that began at B -/
structure At (K : PySem.W.Frag) (B : Mp × Hp) (σ : L2.St) (H : Hp) (ρ : Rho) (S : Sto) (m : Mp) : Prop where
  ev : Evo B.1 B.2 m H
  wd : Wd K m H S
  fr : Fr K m H σ ρ
theorem At.step {K : PySem.W.Frag} {σ : L2.St} {H H' : Hp} {ρ : Rho} {S S' : Sto} {m m' : Mp} (a : At K B σ H ρ S m) (e : Evo m H m' H') (w : Wd K m' H' S') : At K B σ H' ρ S' m' := ⟨a.ev.trans e, w, a.fr.up e⟩
def Kq (K : PySem.W.Frag) (m : Mp) (H : Hp) (Q : VK) (Qd : DK) : Prop := ∀ d S' v H' m', Qd d S' → Evo m H m' H' → Wd K m' H' S' → Dv K m' H' v d → Q v H'
def Kb (K : PySem.W.Frag) (m : Mp) (H : Hp) (Q : Bool → Hp → Prop) (Qd : DB) : Prop := ∀ d S' H' m', Qd d S' → Evo m H m' H' → Wd K m' H' S' → Q d H'
def Ka (K : PySem.W.Frag) (m : Mp) (H : Hp) (Q : List V → Hp → Prop) (Qd : DL) : Prop := ∀ ds S' vs H' m', Qd ds S' → Evo m H m' H' → Wd K m' H' S' → DvAll K m' H' vs ds → Q vs H'
def lft (K : PySem.W.Frag) (t : DE) : TE := fun σ H Q => ∃ B ρ S m Qd, At K B σ H ρ S m ∧ t ρ S Qd ∧ Kq K m H Q Qd
def lftT (K : PySem.W.Frag) (t : DT) : TT := fun σ H Q => ∃ B ρ S m Qd, At K B σ H ρ S m ∧ t ρ S Qd ∧ Kb K m H Q Qd
def lftA (K : PySem.W.Frag) (t : DA) : TA := fun σ H Q => ∃ B ρ S m Qd, At K B σ H ρ S m ∧ t ρ S Qd ∧ Ka K m H Q Qd
abbrev QE (X : Cx) (e : Expr) (t : DE) : Prop := PE X e (lft X.K t)
abbrev QT (X : Cx) (e : Expr) (t : DT) : Prop := PT X e (lftT X.K t)
abbrev QW (X : Cx) (e : Expr) (t : DT) : Prop := PW X e (lftT X.K t)
abbrev QA (X : Cx) (es : List Expr) (t : DA) : Prop := PA X es (lftA X.K t)
theorem Kq.up {K : PySem.W.Frag} {m m' : Mp} {H H' : Hp} {Q : VK} {Qd : DK} (k : Kq K m H Q Qd) (e : Evo m H m' H') : Kq K m' H' Q Qd := fun d S' v H2 m2 q e2 w dv => k d S' v H2 m2 q (e.trans e2) w dv
theorem Kb.up {K : PySem.W.Frag} {m m' : Mp} {H H' : Hp} {Q : Bool → Hp → Prop} {Qd : DB} (k : Kb K m H Q Qd) (e : Evo m H m' H') : Kb K m' H' Q Qd := fun d S' H2 m2 q e2 w => k d S' H2 m2 q (e.trans e2) w
theorem Ka.up {K : PySem.W.Frag} {m m' : Mp} {H H' : Hp} {Q : List V → Hp → Prop} {Qd : DL} (k : Ka K m H Q Qd) (e : Evo m H m' H') : Ka K m' H' Q Qd := fun d S' v H2 m2 q e2 w dv => k d S' v H2 m2 q (e.trans e2) w dv
/-- it is there, and so on -/
def wh {α : Type} : Option α → (α → Prop) → Prop
  | some a, k => k a
  | none, _ => False
theorem wh_some {α : Type} {a : α} {k : α → Prop} : wh (some a) k = k a := rfl
theorem wh_of {α : Type} {o : Option α} {k : α → Prop} (h : wh o k) : ∃ a, o = some a ∧ k a := by
  cases o with
  | none => exact h.elim
  | some a => exact ⟨a, rfl, h⟩
theorem wh_mk {α : Type} {o : Option α} {a : α} {k : α → Prop} (e : o = some a) (h : k a) : wh o k := by
  rw [e]
  exact h
/-! names, constants -/
def dVar (i : Nat) : DE := fun ρ S Q => wh (gt ρ i) fun d => Q d S
def dC (d : PyData) : DE := fun _ S Q => Q d S
section
variable {X : Cx} {e a b c : Expr} {es : List Expr} {t ta tb tc : DE} {pos : Pos}
theorem q_var {i : Nat} (h : PE X e (tVar i)) : QE X e (dVar i) := pe_weak h fun σ H Q ⟨B, ρ, S, m, Qd, at_, q, k⟩ => by
  obtain ⟨d, e1, q⟩ := wh_of q
  obtain ⟨v, e2, dv⟩ := at_.fr.get _ _ _ _ e1
  exact ⟨v, e2, k d S v H m q Evo.refl at_.wd dv⟩
inductive Dc : V → PyData → Prop
  | non : Dc .non .none
  | bl (b : Bool) : Dc (.bl b) (.bool b)
  | int (i : Int) : Dc (.int i) (.int i)
  | str (x : Str) : Dc (.str x) (.str x)
  | glo (a : Addr) : Dc (.ref a) (glo a)
theorem Dc.dv {K : PySem.W.Frag} {m : Mp} {H : Hp} {v : V} {d : PyData} (h : Dc v d) : Dv K m H v d := by
  cases h
  · exact .non
  · exact .bl _
  · exact .int _
  · exact .str _
  · exact .glo _
theorem q_con {v : V} {d : PyData} (h : PE X e (tC v)) (hd : Dc v d) : QE X e (dC d) := pe_weak h fun σ H Q ⟨B, ρ, S, m, Qd, at_, q, k⟩ => k d S v H m q Evo.refl at_.wd hd.dv
theorem q_int {i : Int} {j} : QE X (.Constant (.int i) j pos) (dC (.int i)) := q_con pe_int (.int i)
theorem q_bl {i : Bool} {j} : QE X (.Constant (.bool i) j pos) (dC (.bool i)) := q_con pe_bl (.bl i)
theorem q_str {x : Str} {j} : QE X (.Constant (.str x) j pos) (dC (.str x)) := q_con pe_str (.str x)
theorem q_non {j} : QE X (.Constant .none j pos) (dC .none) := q_con pe_non .non
/-! operators -/
abbrev D2 := PyData → PyData → Sto → DK → Prop
def dOp (f : D2) (ta tb : DE) : DE := fun ρ S Q => ta ρ S fun a S1 => tb ρ S1 fun b S2 => f a b S2 Q
def Snd2 (K : PySem.W.Frag) (f : D2) (r : R2) : Prop := ∀ (m : Mp) (H : Hp) (S : Sto) (x y : V) (a b : PyData) (Q : VK) (Qd : DK), Wd K m H S → Dv K m H x a → Dv K m H y b → f a b S Qd → Kq K m H Q Qd → r x y H Q
theorem bin2 {K : PySem.W.Frag} {f : D2} {r : R2} (hs : Snd2 K f r) {σ : L2.St} {H : Hp} {Q : VK} (h : lft K (dOp f ta tb) σ H Q) : tOp r (lft K ta) (lft K tb) σ H Q := by
  obtain ⟨B, ρ, S, m, Qd, at_, q, k⟩ := h
  refine ⟨B, ρ, S, m, _, at_, q, fun a S1 x H1 m1 q1 e1 w1 d1 => ⟨B, ρ, S1, m1, _, at_.step e1 w1, q1, fun b S2 y H2 m2 q2 e2 w2 d2 => ?_⟩⟩
  exact hs m2 H2 S2 x y a b Q Qd w2 (d1.up e2) d2 q2 ((k.up e1).up e2)
theorem q_op {op : Operator} {r : R2} {f : D2} (ho : OpR X (binaryOp op) r) (hs : Snd2 X.K f r) (ha : QE X a ta) (hb : QE X b tb) : QE X (.BinOp a op b pos) (dOp f ta tb) := pe_weak (pe_op ho ha hb) fun _ _ _ h => bin2 hs h
theorem q_cmp {op : CmpOp} {r : R2} {f : D2} (ho : OpR X (compareOp op) r) (hs : Snd2 X.K f r) (ha : QE X a ta) (hb : QE X b tb) (hm : behindInMarks op b = false) : QE X (.Compare a [op] [b] pos) (dOp f ta tb) := pe_weak (pe_cmpR ho ha hb hm) fun _ _ _ h => bin2 hs h
theorem q_ix {r : R2} {f : D2} (hr : IxR X r) (hs : Snd2 X.K f r) (ha : QE X a ta) (hb : QE X b tb) (hp : PlainIx b) : QE X (.Subscript a b pos) (dOp f ta tb) := pe_weak (pe_ix hr ha hb hp) fun _ _ _ h => bin2 hs h
/-- two ints -/
def dI2 (g : Int → Int → PyData) : D2
  | .int i, .int j, S, Q => Q (g i j) S
  | _, _, _, _ => False
def dI2c (c : Int → Int → Prop) (g : Int → Int → PyData) : D2
  | .int i, .int j, S, Q => c i j ∧ Q (g i j) S
  | _, _, _, _ => False
theorem snd_I2 {K : PySem.W.Frag} {g : Int → Int → PyData} {gv : Int → Int → V} (hg : ∀ i j, Dc (gv i j) (g i j)) : Snd2 K (dI2 g) (rI0 gv) := fun m H S x y a b Q Qd w dx dy h k => by
  cases dx with
  | int i =>
    cases dy with
    | int j => exact ⟨i, j, rfl, rfl, k _ _ _ _ _ h Evo.refl w (hg i j).dv⟩
    | _ => exact False.elim h
  | _ => exact False.elim h
theorem snd_I2c {K : PySem.W.Frag} {c : Int → Int → Prop} {g : Int → Int → PyData} {gv : Int → Int → V} (hg : ∀ i j, Dc (gv i j) (g i j)) : Snd2 K (dI2c c g) (rI c gv) := fun m H S x y a b Q Qd w dx dy h k => by
  cases dx with
  | int i =>
    cases dy with
    | int j => exact ⟨i, j, rfl, rfl, h.1, k _ _ _ _ _ h.2 Evo.refl w (hg i j).dv⟩
    | _ => exact False.elim h
  | _ => exact False.elim h
/-- + -/
def dAdd : D2
  | .int i, .int j, S, Q => Q (.int (i + j)) S
  | .str x, .str y, S, Q => x.length + y.length ≤ 1000000 ∧ Q (.str (x ++ y)) S
  | .tuple xs, .tuple ys, S, Q => xs.length + ys.length ≤ 1000000 ∧ Q (.tuple (xs ++ ys)) S
  | .list xs, .list ys, S, Q => xs.length + ys.length ≤ 1000000 ∧ Q (.list (xs ++ ys)) S
  | _, _, _, _ => False
theorem line_of {n : Nat} (h : n ≤ 1000000) : n ≤ sizeLine := by
  rw [sizeLine_eq]
  omega
/-- what + is, by values -/
def rAdd (K : PySem.W.Frag) : R2 := fun x y H Q => (rI0 (fun i j => .int (i + j)) x y H Q ∨ ∃ i j, x = .str i ∧ y = .str j ∧ i.length + j.length ≤ sizeLine ∧ Q (.str (i ++ j)) H) ∨ (rCatA K x y H Q ∨ rCat x y H Q)
theorem op_addD : OpR X (binaryOp .Add) (rAdd X.K) := (op_add.or op_add_str).or (op_catA.or op_cat)
theorem snd_add {K : PySem.W.Frag} : Snd2 K dAdd (rAdd K) := fun m H S x y a b Q Qd w dx dy h k => by
  cases a <;> cases b <;> first | exact False.elim h | skip
  · cases dx
    cases dy
    exact .inl (.inl ⟨_, _, rfl, rfl, k _ _ _ _ _ h Evo.refl w (.int _)⟩)
  · cases dx
    cases dy
    exact .inl (.inr ⟨_, _, rfl, rfl, line_of h.1, k _ _ _ _ _ h.2 Evo.refl w (.str _)⟩)
  · obtain ⟨p, xs, rfl, hx, nx, ax⟩ := dx.seqL
    obtain ⟨q, ys, rfl, hy, ny, ay⟩ := dy.seqL
    have lx := ax.len
    have ly := ay.len
    refine .inr (.inr ⟨p, q, xs, ys, rfl, rfl, hx, hy, by rw [lx, ly]; exact line_of h.1, fun r hr => ?_⟩)
    exact k _ _ _ _ _ h.2 (Evo.new w hr) (w.new hr) (.lst upd_same (w.noCe hr) ((ax.app ay).up (Evo.new w hr)))
  · obtain ⟨p, xs, rfl, hx, ax⟩ := dx.seqT
    obtain ⟨q, ys, rfl, hy, ay⟩ := dy.seqT
    have lx := ax.len
    have ly := ay.len
    refine .inr (.inl ⟨p, q, xs, ys, rfl, rfl, hx, hy, by rw [lx, ly]; exact line_of h.1, fun e => ?_, fun _ e => ?_, fun _ _ r hr => ?_⟩)
    · subst e
      cases ax
      exact k _ _ _ _ _ h.2 Evo.refl w dy
    · subst e
      cases ay
      refine k _ _ _ _ _ h.2 Evo.refl w ?_
      rw [List.append_nil]
      exact dx
    · exact k _ _ _ _ _ h.2 (Evo.new w hr) (w.new hr) (.tup upd_same (w.noCe hr) ((ax.app ay).up (Evo.new w hr)))
abbrev dSub : D2 := dI2 fun i j => .int (i - j)
abbrev dMul : D2 := dI2c CMul fun i j => .int (i * j)
abbrev dMulW : D2 := dI2c CMulW fun i j => .int (i * j)
abbrev dMod : D2 := dI2c (fun _ j => 0 < j) fun i j => .int (i % j)
abbrev dDiv : D2 := dI2c CDiv fun i j => .int (i / j)
abbrev dDivW : D2 := dI2c CDivW fun i j => .int (i / j)
abbrev dPow : D2 := dI2c CPow fun i j => .int (i ^ j.toNat)
theorem q_add (ha : QE X a ta) (hb : QE X b tb) : QE X (.BinOp a .Add b pos) (dOp dAdd ta tb) := q_op op_addD snd_add ha hb
theorem q_sub (ha : QE X a ta) (hb : QE X b tb) : QE X (.BinOp a .Sub b pos) (dOp dSub ta tb) := q_op op_sub (snd_I2 fun _ _ => .int _) ha hb
theorem q_mul (ha : QE X a ta) (hb : QE X b tb) : QE X (.BinOp a .Mult b pos) (dOp dMul ta tb) := q_op op_mul (snd_I2c fun _ _ => .int _) ha hb
theorem q_mulW (ha : QE X a ta) (hb : QE X b tb) : QE X (.BinOp a .Mult b pos) (dOp dMulW ta tb) := q_op op_mulW (snd_I2c fun _ _ => .int _) ha hb
theorem q_mod (ha : QE X a ta) (hb : QE X b tb) : QE X (.BinOp a .Mod b pos) (dOp dMod ta tb) := q_op op_mod (snd_I2c fun _ _ => .int _) ha hb
theorem q_div (ha : QE X a ta) (hb : QE X b tb) : QE X (.BinOp a .FloorDiv b pos) (dOp dDiv ta tb) := q_op op_fdiv (snd_I2c fun _ _ => .int _) ha hb
theorem q_divW (ha : QE X a ta) (hb : QE X b tb) : QE X (.BinOp a .FloorDiv b pos) (dOp dDivW ta tb) := q_op op_fdivW (snd_I2c fun _ _ => .int _) ha hb
theorem q_pow (ha : QE X a ta) (hb : QE X b tb) : QE X (.BinOp a .Pow b pos) (dOp dPow ta tb) := q_op op_pow (snd_I2c fun _ _ => .int _) ha hb
/-! order of ints -/
theorem snd_lt {K : PySem.W.Frag} {p : Int → Int → Bool} : Snd2 K (dI2 fun i j => .bool (p i j)) (rI0 fun i j => .bl (p i j)) := snd_I2 fun _ _ => .bl _
abbrev dLt : D2 := dI2 fun i j => .bool (decide (i < j))
abbrev dLe : D2 := dI2 fun i j => .bool (decide (i ≤ j))
abbrev dGt : D2 := dI2 fun i j => .bool (decide (j < i))
abbrev dGe : D2 := dI2 fun i j => .bool (decide (j ≤ i))
/-! equality: of plain values at once; else of data -/
def scalD : PyData → Bool
  | .none => true
  | .bool _ => true
  | .int _ => true
  | .str _ => true
  | _ => false
def eqOk (a b : PyData) : Prop := (scalD a = true ∧ scalD b = true ∧ (∀ x y, a = .bool x → b ≠ .int y) ∧ (∀ x y, a = .int x → b ≠ .bool y)) ∨ (SeqAt.shaped a = true ∧ SeqAt.shaped b = true)
def dEq : D2 := fun a b S Q => eqOk a b ∧ Q (.bool (PyData.eqv a b)) S
def dNe : D2 := fun a b S Q => eqOk a b ∧ Q (.bool (!PyData.eqv a b)) S
theorem eq_scal {K : PySem.W.Frag} {m : Mp} {H : Hp} {x y : V} {a b : PyData} (dx : Dv K m H x a) (dy : Dv K m H y b) (h : scalD a = true ∧ scalD b = true ∧ (∀ x y, a = .bool x → b ≠ .int y) ∧ (∀ x y, a = .int x → b ≠ .bool y)) : scal x y = true ∧ decide (x = y) = PyData.eqv a b := by
  obtain ⟨h1, h2, h3, h4⟩ := h
  cases dx with
  | lst _ _ _ => cases h1
  | tup _ _ _ => cases h1
  | con _ _ => cases h1
  | cel _ => cases h1
  | glo _ => cases h1
  | frz => cases h1
  | ins => cases h1
  | exd => cases h1
  | non =>
    cases dy with
    | lst _ _ _ => cases h2
    | tup _ _ _ => cases h2
    | con _ _ => cases h2
    | cel _ => cases h2
    | glo _ => cases h2
    | frz => cases h2
    | ins => cases h2
    | exd => cases h2
    | non => exact ⟨rfl, rfl⟩
    | bl j => exact ⟨rfl, rfl⟩
    | int j => exact ⟨rfl, rfl⟩
    | str j => exact ⟨rfl, rfl⟩
  | bl i =>
    cases dy with
    | lst _ _ _ => cases h2
    | tup _ _ _ => cases h2
    | con _ _ => cases h2
    | cel _ => cases h2
    | glo _ => cases h2
    | frz => cases h2
    | ins => cases h2
    | exd => cases h2
    | non => exact ⟨rfl, rfl⟩
    | bl j => exact ⟨rfl, by
        show decide (V.bl i = V.bl j) = (i == j)
        rw [dec_bl]⟩
    | int j => exact absurd rfl (h3 i j rfl)
    | str j => exact ⟨rfl, rfl⟩
  | int i =>
    cases dy with
    | lst _ _ _ => cases h2
    | tup _ _ _ => cases h2
    | con _ _ => cases h2
    | cel _ => cases h2
    | glo _ => cases h2
    | frz => cases h2
    | ins => cases h2
    | exd => cases h2
    | non => exact ⟨rfl, rfl⟩
    | bl j => exact absurd rfl (h4 i j rfl)
    | int j => exact ⟨rfl, by
        show decide (V.int i = V.int j) = (i == j)
        rw [dec_int]⟩
    | str j => exact ⟨rfl, rfl⟩
  | str i =>
    cases dy with
    | lst _ _ _ => cases h2
    | tup _ _ _ => cases h2
    | con _ _ => cases h2
    | cel _ => cases h2
    | glo _ => cases h2
    | frz => cases h2
    | ins => cases h2
    | exd => cases h2
    | non => exact ⟨rfl, rfl⟩
    | bl j => exact ⟨rfl, rfl⟩
    | int j => exact ⟨rfl, rfl⟩
    | str j => exact ⟨rfl, by
        show decide (V.str i = V.str j) = (i == j)
        by_cases e : i = j
        · subst e; simp
        · rw [decide_eq_false fun z => e (V.str.inj z)]
          exact (beq_eq_false_iff_ne.mpr e).symm⟩
theorem Dv.dp {K : PySem.W.Frag} {m : Mp} {H : Hp} {x : V} {a : PyData} (h : Dv K m H x a) (p : a.canLay0 = true) : Dp K H x a := (Dv.dm a x (layPure a p) h).dp
theorem snd_eq {K : PySem.W.Frag} : Snd2 K dEq (fun x y H Q => rEq x y H Q ∨ rEqD K x y H Q) := fun m H S x y a b Q Qd w dx dy h k => by
  obtain ⟨h1, h2⟩ := h
  rcases h1 with h1 | ⟨h3, h4⟩
  · obtain ⟨e1, e2⟩ := eq_scal dx dy h1
    exact .inl ⟨e1, k _ _ _ _ _ h2 Evo.refl w (by rw [e2]; exact .bl _)⟩
  · exact .inr ⟨a, b, dx.dp (SeqAt.canLay_of_shaped h3), dy.dp (SeqAt.canLay_of_shaped h4), h3, h4, k _ _ _ _ _ h2 Evo.refl w (.bl _)⟩
theorem snd_ne {K : PySem.W.Frag} : Snd2 K dNe (fun x y H Q => rNe x y H Q ∨ rNeD K x y H Q) := fun m H S x y a b Q Qd w dx dy h k => by
  obtain ⟨h1, h2⟩ := h
  rcases h1 with h1 | ⟨h3, h4⟩
  · obtain ⟨e1, e2⟩ := eq_scal dx dy h1
    exact .inl ⟨e1, k _ _ _ _ _ h2 Evo.refl w (by rw [e2]; exact .bl _)⟩
  · exact .inr ⟨a, b, dx.dp (SeqAt.canLay_of_shaped h3), dy.dp (SeqAt.canLay_of_shaped h4), h3, h4, k _ _ _ _ _ h2 Evo.refl w (.bl _)⟩
/-- is None -/
def isNon : PyData → Bool
  | .none => true
  | _ => false
def dIsN : D2 := fun a b S Q => Q (.bool (isNon a)) S
def dNotN : D2 := fun a b S Q => Q (.bool (!isNon a)) S
/-- one sign in a text -/
def dInS : D2
  | .str x, .str z, S, Q => wh (match x.cps.toList with | [c] => some c | _ => none) fun c => Q (.bool (decide (c ∈ z.cps.toList))) S
  | _, _, _, _ => False
def dNotInS : D2
  | .str x, .str z, S, Q => wh (match x.cps.toList with | [c] => some c | _ => none) fun c => Q (.bool (!decide (c ∈ z.cps.toList))) S
  | _, _, _, _ => False
/-! what stands in a sequence -/
def itemsD (S : Sto) : PyData → Option (List PyData)
  | .tuple ds => some ds
  | .list ds => some ds
  | .dict [(.none, .tuple ds)] => some ds
  | .dict [(.int (.ofNat n), .none)] => (S n).bind fun c => match c with
    | .lst ds => some ds
    | _ => none
  | _ => none
theorem items_cel {S : Sto} {n : Nat} {ds : List PyData} (h : S n = some (.lst ds)) : itemsD S (cel n) = some ds := by
  show (S n).bind _ = _
  rw [h]
  rfl
def isTupD : PyData → Bool
  | .tuple _ => true
  | .dict [(.none, .tuple _)] => true
  | _ => false
theorem Dv.items2 {K : PySem.W.Frag} {m : Mp} {H : Hp} {S : Sto} {x : V} {d : PyData} {ds : List PyData} (w : Wd K m H S) (dx : Dv K m H x d) (h : itemsD S d = some ds) : ∃ a xs, x = .ref a ∧ ((isTupD d = false ∧ SqL K H a xs) ∨ (isTupD d = true ∧ SqT K H a xs)) ∧ DvAll K m H xs ds := by
  cases dx with
  | non => cases h
  | bl _ => cases h
  | int _ => cases h
  | str _ => cases h
  | glo _ => cases h
  | ins => cases h
  | exd => cases h
  | frz e _ n a =>
    cases h
    exact ⟨_, _, rfl, .inr ⟨rfl, .inl (.inr ⟨_, e⟩)⟩, a⟩
  | lst e n a =>
    cases h
    exact ⟨_, _, rfl, .inl ⟨rfl, SqL.of e⟩, a⟩
  | tup e n a =>
    cases h
    exact ⟨_, _, rfl, .inr ⟨rfl, SqT.of e⟩, a⟩
  | con e a =>
    cases h
    exact ⟨_, _, rfl, .inr ⟨rfl, e.sq⟩, a⟩
  | @cel a n e =>
    have h' : (S n).bind (fun c => match c with
      | .lst ds => some ds
      | _ => none) = some ds := h
    cases hs : S n with
    | none => rw [hs] at h'; cases h'
    | some c =>
      rw [hs] at h'
      cases c with
      | lst es =>
        cases h'
        obtain ⟨a', xs, e1, e2, e3⟩ := w.lst hs
        rw [e] at e1
        cases e1
        exact ⟨_, _, rfl, .inl ⟨rfl, SqL.of e2⟩, e3⟩
      | ins _ _ => cases h'
      | dk _ => cases h'
      | dt _ => cases h'
theorem Dv.items {K : PySem.W.Frag} {m : Mp} {H : Hp} {S : Sto} {x : V} {d : PyData} {ds : List PyData} (w : Wd K m H S) (dx : Dv K m H x d) (h : itemsD S d = some ds) : ∃ a xs, x = .ref a ∧ (SqL K H a xs ∨ SqT K H a xs) ∧ DvAll K m H xs ds := by
  obtain ⟨a, xs, e, q, al⟩ := dx.items2 w h
  exact ⟨a, xs, e, q.elim (fun z => .inl z.2) (fun z => .inr z.2), al⟩
def isStrD : PyData → Option Str
  | .str z => some z
  | _ => none
/-- o[i] -/
def dIx : D2
  | .str z, .int i, S, Q => z.length ≤ 1000000 ∧ wh (atI z.cps.toList i) fun c => Q (.str ⟨#[c]⟩) S
  | o, .int i, S, Q => wh (itemsD S o) fun ds => wh (atI ds i) fun d => Q d S
  | _, _, _, _ => False
theorem atI_dv {K : PySem.W.Frag} {m : Mp} {H : Hp} {xs : List V} {ds : List PyData} {i : Int} {d : PyData} (h : DvAll K m H xs ds) (e : atI ds i = some d) : ∃ v, atI xs i = some v ∧ Dv K m H v d := by
  unfold atI at e ⊢
  rw [h.len]
  cases hn : ixN ds.length i with
  | none => rw [hn] at e; cases e
  | some j =>
    rw [hn] at e
    exact h.get e
theorem snd_ixs {K : PySem.W.Frag} {m : Mp} {H : Hp} {S : Sto} {x : V} {a : PyData} {i : Int} {Q : VK} {Qd : DK} (w : Wd K m H S) (dx : Dv K m H x a) (h : wh (itemsD S a) fun ds => wh (atI ds i) fun d => Qd d S) (k : Kq K m H Q Qd) : rIx K x (.int i) H Q := by
  obtain ⟨ds, h1, h2⟩ := wh_of h
  obtain ⟨d, h3, h4⟩ := wh_of h2
  obtain ⟨p, xs, rfl, hq, al⟩ := dx.items w h1
  obtain ⟨v, e, dv⟩ := atI_dv al h3
  rcases hq with hq | hq
  · exact .inl ⟨p, xs, i, v, rfl, rfl, hq, e, k _ _ _ _ _ h4 Evo.refl w dv⟩
  · exact .inr (.inl ⟨p, xs, i, v, rfl, rfl, hq, e, k _ _ _ _ _ h4 Evo.refl w dv⟩)
theorem snd_ix {K : PySem.W.Frag} : Snd2 K dIx (rIx K) := fun m H S x y a b Q Qd w dx dy h k => by
  cases b with
  | int i =>
    cases dy
    cases a with
    | str z =>
      cases dx
      obtain ⟨h1, h2⟩ := h
      obtain ⟨c, h3, h4⟩ := wh_of h2
      exact .inr (.inr ⟨z, i, c, rfl, rfl, line_of h1, h3, k _ _ _ _ _ h4 Evo.refl w (.str _)⟩)
    | none => exact snd_ixs w dx h k
    | bool _ => exact snd_ixs w dx h k
    | int _ => exact snd_ixs w dx h k
    | list _ => exact snd_ixs w dx h k
    | tuple _ => exact snd_ixs w dx h k
    | dict _ => exact snd_ixs w dx h k
  | _ => cases a <;> exact False.elim h
theorem q_at (ha : QE X a ta) (hb : QE X b tb) (hp : PlainIx b) : QE X (.Subscript a b pos) (dOp dIx ta tb) := q_ix ix_seq snd_ix ha hb hp
end
end K3

/-! the plain layer: tests, displays, slices, built-in calls -/
namespace K3
open PySem L2 Xr K1
section
variable {X : Cx} {e a b c : Expr} {es rest : List Expr} {t ta tb tc : DE} {u v : DT} {pos : Pos}
/-! comparisons -/
def dIs (g : PyData → Bool) : D2
  | a, .none, S, Q => Q (.bool (g a)) S
  | _, _, _, _ => False
theorem isNon_eq {K : PySem.W.Frag} {m : Mp} {H : Hp} {x : V} {a : PyData} (dx : Dv K m H x a) : decide (x = .non) = isNon a := by
  cases dx <;> rfl
theorem snd_isN {K : PySem.W.Frag} : Snd2 K (dIs isNon) (fun x y H Q => y = .non ∧ Q (.bl (decide (x = .non))) H) := fun m H S x y a b Q Qd w dx dy h k => by
  cases b with
  | none =>
    cases dy
    exact ⟨rfl, k _ _ _ _ _ h Evo.refl w (by rw [isNon_eq dx]; exact .bl _)⟩
  | _ => exact False.elim h
theorem snd_notN {K : PySem.W.Frag} : Snd2 K (dIs fun d => !isNon d) (fun x y H Q => y = .non ∧ Q (.bl (!decide (x = .non))) H) := fun m H S x y a b Q Qd w dx dy h k => by
  cases b with
  | none =>
    cases dy
    exact ⟨rfl, k _ _ _ _ _ h Evo.refl w (by rw [isNon_eq dx]; exact .bl _)⟩
  | _ => exact False.elim h
theorem one_of {l : List Nat} {k : Nat → Prop} (h : wh (match l with | [c] => some c | _ => none) k) : ∃ c, l = [c] ∧ k c := by
  match l, h with
  | [c], h => exact ⟨c, rfl, h⟩
theorem str_one {x : Str} {c : Nat} (h : x.cps.toList = [c]) : x = ⟨#[c]⟩ := by
  obtain ⟨a⟩ := x
  have : a = #[c] := by
    apply Array.ext'
    exact h
  rw [this]
theorem snd_inS {K : PySem.W.Frag} : Snd2 K dInS (fun x y H Q => ∃ (c : Nat) (z : Str), x = .str ⟨#[c]⟩ ∧ y = .str z ∧ Q (.bl (decide (c ∈ z.cps.toList))) H) := fun m H S x y a b Q Qd w dx dy h k => by
  cases a <;> cases b <;> first | exact False.elim h | skip
  cases dx
  cases dy
  obtain ⟨c, e, q⟩ := one_of h
  exact ⟨c, _, by rw [str_one e], rfl, k _ _ _ _ _ q Evo.refl w (.bl _)⟩
theorem snd_notInS {K : PySem.W.Frag} : Snd2 K dNotInS (fun x y H Q => ∃ (c : Nat) (z : Str), x = .str ⟨#[c]⟩ ∧ y = .str z ∧ Q (.bl (!decide (c ∈ z.cps.toList))) H) := fun m H S x y a b Q Qd w dx dy h k => by
  cases a <;> cases b <;> first | exact False.elim h | skip
  cases dx
  cases dy
  obtain ⟨c, e, q⟩ := one_of h
  exact ⟨c, _, by rw [str_one e], rfl, k _ _ _ _ _ q Evo.refl w (.bl _)⟩
/-! tests -/
def boolD : PyData → Option Bool
  | .bool b => some b
  | _ => none
def dB (t : DE) : DT := fun ρ S Q => t ρ S fun d S1 => wh (boolD d) fun b => Q b S1
theorem boolD_dv {K : PySem.W.Frag} {m : Mp} {H : Hp} {x : V} {d : PyData} {b : Bool} (dx : Dv K m H x d) (h : boolD d = some b) : x = .bl b := by
  cases dx <;> first | cases h; rfl | cases h
theorem qt_cmp {op : CmpOp} {r : R2} {f : D2} (ho : OpR X (compareOp op) r) (hs : Snd2 X.K f r) (ha : QE X a ta) (hb : QE X b tb) (hm : behindInMarks op b = false) : QT X (.Compare a [op] [b] pos) (dB (dOp f ta tb)) := pt_weak (pt_cmpR ho ha hb hm) fun σ H Q h => by
  obtain ⟨B, ρ, S, m, Qd, at_, q, k⟩ := h
  refine bin2 (f := f) hs ⟨B, ρ, S, m, _, at_, q, fun d S' v H' m' q' e w dv => ?_⟩
  obtain ⟨b, e1, q1⟩ := wh_of q'
  exact ⟨b, boolD_dv dv e1, k b S' H' m' q1 e w⟩
def truD (S : Sto) : PyData → Option Bool
  | .none => some false
  | .bool b => some b
  | .int i => some (i != 0)
  | .str z => if z.length ≤ 1000000 then some ((z.length : Int) != 0) else none
  | .dict [(.int (.ofNat n), .none)] => (S n).bind fun c => match c with
    | .lst ds => some !ds.isEmpty
    | .dk kvs => some !kvs.isEmpty
    | .dt kvs => none
    | .ins _ _ => none
  | .dict [(.none, .tuple ds)] => some !ds.isEmpty
  | .dict _ => none
  | .list ds => some !ds.isEmpty
  | .tuple ds => some !ds.isEmpty
theorem empty_dv {K : PySem.W.Frag} {m : Mp} {H : Hp} {xs : List V} {ds : List PyData} (h : DvAll K m H xs ds) : (!ds.isEmpty) = !xs.isEmpty := by cases h <;> rfl
theorem tru_dv {K : PySem.W.Frag} {m : Mp} {H : Hp} {S : Sto} {x : V} {d : PyData} {b : Bool} (w : Wd K m H S) (dx : Dv K m H x d) (h : truD S d = some b) : TruV K x H b := by
  cases dx with
  | non => cases h; rfl
  | bl b => cases h; rfl
  | int i => cases h; rfl
  | str z =>
    have h' : (if z.length ≤ 1000000 then some ((z.length : Int) != 0) else none) = some b := h
    split at h'
    · rename_i l
      cases h'
      exact ⟨line_of l, rfl⟩
    · cases h'
  | glo a => cases h
  | ins => cases h
  | exd => cases h
  | frz e _ n al =>
    cases h
    exact .inr (.inl ⟨_, .inl (.inr ⟨_, e⟩), empty_dv al⟩)
  | lst e n al =>
    cases h
    exact .inl ⟨_, SqL.of e, empty_dv al⟩
  | tup e n al =>
    cases h
    exact .inr (.inl ⟨_, SqT.of e, empty_dv al⟩)
  | con e al =>
    cases h
    exact .inr (.inl ⟨_, e.sq, empty_dv al⟩)
  | @cel a n e =>
    cases hs : S n with
    | none =>
      have h' : (S n).bind _ = some b := h
      rw [hs] at h'
      cases h'
    | some c =>
      have h' : (S n).bind _ = some b := h
      rw [hs] at h'
      obtain ⟨a', e1, cr⟩ := w.has n c hs
      rw [e] at e1
      cases e1
      cases c with
      | lst ds =>
        cases h'
        obtain ⟨xs, e2, al⟩ := cr
        exact .inl ⟨xs, SqL.of e2, empty_dv al⟩
      | dk kvs =>
        cases h'
        obtain ⟨gs, e2, e3, al⟩ := cr
        refine .inr (.inr ⟨gs, e2, ?_⟩)
        have l := congrArg List.length e3
        rw [List.length_map, List.length_map] at l
        cases kvs <;> cases gs <;> first | rfl | cases l
      | dt kvs => cases h'
      | ins _ _ => cases h'
def dTru (t : DE) : DT := fun ρ S Q => t ρ S fun d S1 => wh (truD S1 d) fun b => Q b S1
theorem qt_tru (ha : QE X a ta) (he : ∀ whole, isTrue a X.env whole = (do let v ← whole; standAt a.pos; holding [v] (truthy v))) : QT X a (dTru ta) := pt_weak (pt_truth ha he) fun σ H Q h => by
  obtain ⟨B, ρ, S, m, Qd, at_, q, k⟩ := h
  refine ⟨B, ρ, S, m, _, at_, q, fun d S' v H' m' q' e w dv => ?_⟩
  obtain ⟨b, e1, q1⟩ := wh_of q'
  exact ⟨b, tru_dv w dv e1, k b S' H' m' q1 e w⟩
def dtNot (u : DT) : DT := fun ρ S Q => u ρ S fun b S1 => Q (!b) S1
def dtAnd (u v : DT) : DT := fun ρ S Q => u ρ S fun b S1 => if b = true then v ρ S1 Q else Q false S1
def dtOr (u v : DT) : DT := fun ρ S Q => u ρ S fun b S1 => if b = true then Q true S1 else v ρ S1 Q
theorem qt_not (ha : QT X a u) : QT X (.UnaryOp .Not a pos) (dtNot u) := pt_weak (pt_not ha) fun σ H Q ⟨B, ρ, S, m, Qd, at_, q, k⟩ => ⟨B, ρ, S, m, _, at_, q, fun b S' H' m' q e w => k _ S' H' m' q e w⟩
theorem qw_and1 (ha : QT X a u) : QW X (.BoolOp .And [a] pos) u := pw_and1 ha
theorem qw_or1 (ha : QT X a u) : QW X (.BoolOp .Or [a] pos) u := pw_or1 ha
theorem qw_and (ha : QT X a u) (hb : QW X (.BoolOp .And (b :: rest) pos) v) : QW X (.BoolOp .And (a :: b :: rest) pos) (dtAnd u v) := pw_weak (pw_and ha hb) fun σ H Q ⟨B, ρ, S, m, Qd, at_, q, k⟩ => ⟨B, ρ, S, m, _, at_, q, fun b S' H' m' q e w => by
  cases b with
  | true => exact iteT ⟨B, ρ, S', m', Qd, at_.step e w, q, k.up e⟩
  | false => exact iteF (k _ S' H' m' q e w)⟩
theorem qw_or (ha : QT X a u) (hb : QW X (.BoolOp .Or (b :: rest) pos) v) : QW X (.BoolOp .Or (a :: b :: rest) pos) (dtOr u v) := pw_weak (pw_or ha hb) fun σ H Q ⟨B, ρ, S, m, Qd, at_, q, k⟩ => ⟨B, ρ, S, m, _, at_, q, fun b S' H' m' q e w => by
  cases b with
  | true => exact iteT (k _ S' H' m' q e w)
  | false => exact iteF ⟨B, ρ, S', m', Qd, at_.step e w, q, k.up e⟩⟩
/-! and, or, not of bools as values -/
def dAnd (ta tb : DE) : DE := fun ρ S Q => ta ρ S fun d S1 => wh (boolD d) fun c => if c = true then tb ρ S1 Q else Q (.bool false) S1
def dOr (ta tb : DE) : DE := fun ρ S Q => ta ρ S fun d S1 => wh (boolD d) fun c => if c = true then Q (.bool true) S1 else tb ρ S1 Q
def dNot (ta : DE) : DE := fun ρ S Q => ta ρ S fun d S1 => wh (boolD d) fun c => Q (.bool (!c)) S1
theorem q_one {op} (h : QE X a ta) : QE X (.BoolOp op [a] pos) ta := pe_one h
theorem q_and (ha : QE X a ta) (hb : QE X (.BoolOp .And (b :: rest) pos) tb) : QE X (.BoolOp .And (a :: b :: rest) pos) (dAnd ta tb) := pe_weak (pe_and ha hb) fun σ H Q ⟨B, ρ, S, m, Qd, at_, q, k⟩ => ⟨B, ρ, S, m, _, at_, q, fun d S' v H' m' q e w dv => by
  obtain ⟨c, e1, q⟩ := wh_of q
  refine ⟨c, boolD_dv dv e1, ?_⟩
  cases c with
  | true => exact iteT ⟨B, ρ, S', m', Qd, at_.step e w, q, k.up e⟩
  | false => exact iteF (k _ S' _ H' m' q e w (.bl _))⟩
theorem q_or (ha : QE X a ta) (hb : QE X (.BoolOp .Or (b :: rest) pos) tb) : QE X (.BoolOp .Or (a :: b :: rest) pos) (dOr ta tb) := pe_weak (pe_or ha hb) fun σ H Q ⟨B, ρ, S, m, Qd, at_, q, k⟩ => ⟨B, ρ, S, m, _, at_, q, fun d S' v H' m' q e w dv => by
  obtain ⟨c, e1, q⟩ := wh_of q
  refine ⟨c, boolD_dv dv e1, ?_⟩
  cases c with
  | true => exact iteT (k _ S' _ H' m' q e w (.bl _))
  | false => exact iteF ⟨B, ρ, S', m', Qd, at_.step e w, q, k.up e⟩⟩
theorem q_not (ha : QE X a ta) : QE X (.UnaryOp .Not a pos) (dNot ta) := pe_weak (pe_not ha) fun σ H Q ⟨B, ρ, S, m, Qd, at_, q, k⟩ => ⟨B, ρ, S, m, _, at_, q, fun d S' v H' m' q e w dv => by
  obtain ⟨c, e1, q⟩ := wh_of q
  exact ⟨c, boolD_dv dv e1, k _ S' _ H' m' q e w (.bl _)⟩⟩
def dIfE (u : DT) (ta tb : DE) : DE := fun ρ S Q => u ρ S fun c S1 => if c = true then ta ρ S1 Q else tb ρ S1 Q
theorem q_if (hc : QT X c u) (ha : QE X a ta) (hb : QE X b tb) : QE X (.IfExp c a b pos) (dIfE u ta tb) := pe_weak (pe_ifExp hc ha hb) fun σ H Q ⟨B, ρ, S, m, Qd, at_, q, k⟩ => ⟨B, ρ, S, m, _, at_, q, fun c S' H' m' q e w => by
  cases c with
  | true => exact iteT ⟨B, ρ, S', m', Qd, at_.step e w, q, k.up e⟩
  | false => exact iteF ⟨B, ρ, S', m', Qd, at_.step e w, q, k.up e⟩⟩
def dNeg (ta : DE) : DE := fun ρ S Q => ta ρ S fun d S1 => match d with
  | .int i => Q (.int (-i)) S1
  | _ => False
theorem q_neg (ha : QE X a ta) : QE X (.UnaryOp .USub a pos) (dNeg ta) := pe_weak (pe_un un_neg ha) fun σ H Q ⟨B, ρ, S, m, Qd, at_, q, k⟩ => ⟨B, ρ, S, m, _, at_, q, fun d S' v H' m' q e w dv => by
  cases dv <;> first | exact False.elim q | skip
  exact ⟨_, rfl, k _ S' _ H' m' q e w (.int _)⟩⟩
/-! arguments, displays -/
variable {aa : DA}
def dNil : DA := fun _ S Q => Q [] S
def dCons (t : DE) (aa : DA) : DA := fun ρ S Q => t ρ S fun d S1 => aa ρ S1 fun ds S2 => Q (d :: ds) S2
theorem q_nil : QA X [] dNil := pa_weak pa_nil fun σ H Q ⟨B, ρ, S, m, Qd, at_, q, k⟩ => k [] S [] H m q Evo.refl at_.wd .nil
theorem q_cons (he : QE X e t) (ha : QA X es aa) (hs : starEach (e :: es) X.env = (false, eval e X.env) :: starEach es X.env := by rfl) : QA X (e :: es) (dCons t aa) := pa_weak (pa_cons he ha hs) fun σ H Q ⟨B, ρ, S, m, Qd, at_, q, k⟩ =>
  ⟨B, ρ, S, m, _, at_, q, fun d S' v H' m' q e w dv => ⟨B, ρ, S', m', _, at_.step e w, q, fun ds S2 vs H2 m2 q2 e2 w2 dvs => k _ S2 _ H2 m2 q2 (e.trans e2) w2 (.cons (dv.up e2) dvs)⟩⟩
def dTup (aa : DA) : DE := fun ρ S Q => aa ρ S fun ds S1 => ds.length ≤ 1000000 ∧ Q (.tuple ds) S1
def dLst (aa : DA) : DE := fun ρ S Q => aa ρ S fun ds S1 => ds.length ≤ 1000000 ∧ Q (.list ds) S1
def dCel (aa : DA) : DE := fun ρ S Q => aa ρ S fun ds S1 => ds.length ≤ 1000000 ∧ ∀ n, S1 n = none → Q (cel n) (put S1 n (.lst ds))
theorem Kq.newT {K : PySem.W.Frag} {m : Mp} {H : Hp} {S : Sto} {Q : VK} {Qd : DK} {vs : List V} {ds : List PyData} (k : Kq K m H Q Qd) (w : Wd K m H S) (h : DvAll K m H vs ds) (q : Qd (.tuple ds) S) (p : Addr) (hp : H p = none) : Q (.ref p) (upd H p (.tup vs)) :=
  k _ _ _ _ _ q (Evo.new w hp) (w.new hp) (.tup upd_same (w.noCe hp) (h.up (Evo.new w hp)))
theorem Kq.newL {K : PySem.W.Frag} {m : Mp} {H : Hp} {S : Sto} {Q : VK} {Qd : DK} {vs : List V} {ds : List PyData} (k : Kq K m H Q Qd) (w : Wd K m H S) (h : DvAll K m H vs ds) (q : Qd (.list ds) S) (p : Addr) (hp : H p = none) : Q (.ref p) (upd H p (.lst vs)) :=
  k _ _ _ _ _ q (Evo.new w hp) (w.new hp) (.lst upd_same (w.noCe hp) (h.up (Evo.new w hp)))
theorem Kq.newC {K : PySem.W.Frag} {m : Mp} {H : Hp} {S : Sto} {Q : VK} {Qd : DK} {vs : List V} {ds : List PyData} (k : Kq K m H Q Qd) (w : Wd K m H S) (h : DvAll K m H vs ds) (q : ∀ n, S n = none → Qd (cel n) (put S n (.lst ds))) (p : Addr) (hp : H p = none) : Q (.ref p) (upd H p (.lst vs)) := by
  obtain ⟨n, hn⟩ := w.free
  have e := Evo.alloc (o := .lst vs) w hp hn
  exact k _ _ _ _ _ (q n (w.sfree hn)) e (w.alloc hp hn ⟨vs, upd_same, h.up e⟩) (.cel mput_same)
theorem q_tup {x1} (ha : QA X es aa) : QE X (.Tuple es x1 pos) (dTup aa) := pe_weak (pe_tup ha) fun σ H Q ⟨B, ρ, S, m, Qd, at_, q, k⟩ =>
  ⟨B, ρ, S, m, _, at_, q, fun ds S' vs H' m' q e w dv => ⟨by rw [dv.len]; exact line_of q.1, (k.up e).newT w dv q.2⟩⟩
theorem q_lst (ha : QA X es aa) : QE X (.List es pos) (dLst aa) := pe_weak (pe_lst ha) fun σ H Q ⟨B, ρ, S, m, Qd, at_, q, k⟩ =>
  ⟨B, ρ, S, m, _, at_, q, fun ds S' vs H' m' q e w dv => ⟨by rw [dv.len]; exact line_of q.1, (k.up e).newL w dv q.2⟩⟩
theorem q_cel (ha : QA X es aa) : QE X (.List es pos) (dCel aa) := pe_weak (pe_lst ha) fun σ H Q ⟨B, ρ, S, m, Qd, at_, q, k⟩ =>
  ⟨B, ρ, S, m, _, at_, q, fun ds S' vs H' m' q e w dv => ⟨by rw [dv.len]; exact line_of q.1, (k.up e).newC w dv q.2⟩⟩
/-! slices -/
abbrev DO := Rho → Sto → (Option Int → Sto → Prop) → Prop
def lftO (K : PySem.W.Frag) (t : DO) : TO := fun σ H Q => ∃ B ρ S m Qd, At K B σ H ρ S m ∧ t ρ S Qd ∧ ∀ d S' H' m', Qd d S' → Evo m H m' H' → Wd K m' H' S' → Q d H'
theorem po_weak {e : Option Expr} {t t' : TO} (h : PO X e t) (i : ∀ σ H Q, t' σ H Q → t σ H Q) : PO X e t' := ⟨fun pins s σ H Q I q => h.run pins s σ H Q I (i _ _ _ q)⟩
def dNoP : DO := fun _ S Q => Q none S
def dPart (t : DE) : DO := fun ρ S Q => t ρ S fun d S1 => match d with
  | .int i => Q (some i) S1
  | _ => False
abbrev QO (X : Cx) (e : Option Expr) (t : DO) : Prop := PO X e (lftO X.K t)
theorem qo_none : QO X none dNoP := po_weak po_none fun σ H Q ⟨B, ρ, S, m, Qd, at_, q, k⟩ => k none S H m q Evo.refl at_.wd
theorem qo_some (h : QE X e t) : QO X (some e) (dPart t) := po_weak (po_some h) fun σ H Q ⟨B, ρ, S, m, Qd, at_, q, k⟩ => ⟨B, ρ, S, m, _, at_, q, fun d S' v H' m' q e w dv => by
  cases dv <;> first | exact False.elim q | skip
  exact ⟨_, rfl, k _ S' H' m' q e w⟩⟩
def cutD (ds : List PyData) (lo hi : Option Int) : List PyData := (ds.drop (HT.sIx ds.length 0 lo)).take (HT.sIx ds.length ds.length hi - HT.sIx ds.length 0 lo)
theorem cut_dv {K : PySem.W.Frag} {m : Mp} {H : Hp} {xs : List V} {ds : List PyData} {lo hi : Option Int} (h : DvAll K m H xs ds) : DvAll K m H (cutV xs lo hi) (cutD ds lo hi) := by
  unfold cutV cutD
  rw [h.len]
  exact (h.drop _).take _
theorem cut_all {xs : List PyData} {lo hi : Option Int} (h : HT.sIx xs.length 0 lo = 0 ∧ HT.sIx xs.length xs.length hi = xs.length) : cutD xs lo hi = xs := by
  unfold cutD
  rw [h.1, h.2]
  simp
def dSl (new : Bool) : PyData → Option Int → Option Int → Sto → DK → Prop
  | .str z, lo, hi, S, Q => z.length ≤ 1000000 ∧ Q (.str (cutS z lo hi)) S
  | .tuple ds, lo, hi, S, Q => Q (.tuple (cutD ds lo hi)) S
  | .dict [(.none, .tuple _)], _, _, _, _ => False
  | o, lo, hi, S, Q => wh (itemsD S o) fun ds => if new = true then ∀ n, S n = none → Q (cel n) (put S n (.lst (cutD ds lo hi))) else Q (.list (cutD ds lo hi)) S
theorem dict_nt {kvs : List (PyData × PyData)} (n : ∀ ds, kvs ≠ [(.none, .tuple ds)]) : isTupD (.dict kvs) = false := by
  unfold isTupD
  split
  · rename_i e
    cases e
  · rename_i e
    cases e
    exact absurd rfl (n _)
  · rfl
def rSlAny (K : PySem.W.Frag) : V → Option Int → Option Int → Hp → VK → Prop := fun x lo hi H Q => rSlA K x lo hi H Q ∨ (rSlL K x lo hi H Q ∨ rSlS x lo hi H Q)
theorem sl_any : SlR X (rSlAny X.K) := sl_tupA.or (sl_list.or sl_str)
theorem snd_slL {K : PySem.W.Frag} {new : Bool} {m : Mp} {H : Hp} {S : Sto} {x : V} {d : PyData} {lo hi : Option Int} {Q : VK} {Qd : DK} (w : Wd K m H S) (dx : Dv K m H x d) (nt : isTupD d = false) (h : wh (itemsD S d) fun ds => if new = true then ∀ n, S n = none → Qd (cel n) (put S n (.lst (cutD ds lo hi))) else Qd (.list (cutD ds lo hi)) S) (k : Kq K m H Q Qd) : rSlAny K x lo hi H Q := by
  obtain ⟨ds, h1, h2⟩ := wh_of h
  obtain ⟨p, xs, rfl, hq, al⟩ := dx.items2 w h1
  have hl : SqL K H p xs := by
    rcases hq with hq | hq
    · exact hq.2
    · rw [nt] at hq
      cases hq.1
  cases new with
  | false => exact .inr (.inl ⟨p, xs, rfl, hl, k.newL w (cut_dv al) h2⟩)
  | true => exact .inr (.inl ⟨p, xs, rfl, hl, k.newC w (cut_dv al) h2⟩)
end
end K3

/-! the plain layer: slices, built-in calls, methods of texts -/
namespace K3
open PySem L2 Xr K1
section
variable {X : Cx} {e a b c : Expr} {es rest : List Expr} {t ta tb tc : DE} {u v : DT} {pos : Pos} {aa : DA}
theorem snd_sl {K : PySem.W.Frag} {new : Bool} {m : Mp} {H : Hp} {S : Sto} {x : V} {d : PyData} {lo hi : Option Int} {Q : VK} {Qd : DK} (w : Wd K m H S) (dx : Dv K m H x d) (h : dSl new d lo hi S Qd) (k : Kq K m H Q Qd) : rSlAny K x lo hi H Q := by
  cases d with
  | str z =>
    cases dx
    exact .inr (.inr ⟨z, rfl, line_of h.1, k _ _ _ _ _ h.2 Evo.refl w (.str _)⟩)
  | tuple ds =>
    obtain ⟨p, xs, rfl, hx, ax⟩ := dx.seqT
    refine .inl ⟨p, xs, rfl, hx, fun hw => ?_, fun hw => k.newT w (cut_dv ax) h⟩
    rw [ax.len] at hw
    refine k _ _ _ _ _ h Evo.refl w ?_
    rw [cut_all hw]
    exact dx
  | none => exact snd_slL (new := new) w dx rfl h k
  | bool _ => exact snd_slL (new := new) w dx rfl h k
  | int _ => exact snd_slL (new := new) w dx rfl h k
  | list _ => exact snd_slL (new := new) w dx rfl h k
  | dict kvs =>
    by_cases f : ∃ ds, kvs = [(.none, .tuple ds)]
    · obtain ⟨ds, rfl⟩ := f
      exact False.elim h
    · have n : ∀ ds, kvs ≠ [(.none, .tuple ds)] := fun ds z => f ⟨ds, z⟩
      refine snd_slL (new := new) w dx (dict_nt n) ?_ k
      unfold dSl at h
      split at h
      · rename_i e
        cases e
      · rename_i e
        cases e
      · rename_i e
        exact h.elim
      · exact h
def dSlice (new : Bool) (t : DE) (lo hi : DO) : DE := fun ρ S Q => t ρ S fun d S1 => lo ρ S1 fun l S2 => hi ρ S2 fun u S3 => dSl new d l u S3 Q
theorem q_sl (new : Bool) {lo hi : Option Expr} {tl th : DO} {p2 : Pos} (he : QE X e t) (hl : QO X lo tl) (hu : QO X hi th) : QE X (.Subscript e (.Slice lo hi none p2) pos) (dSlice new t tl th) := pe_weak (pe_slice sl_any he hl hu) fun σ H Q ⟨B, ρ, S, m, Qd, at_, q, k⟩ =>
  ⟨B, ρ, S, m, _, at_, q, fun d S1 v H1 m1 q1 e1 w1 dv => ⟨B, ρ, S1, m1, _, at_.step e1 w1, q1, fun l S2 H2 m2 q2 e2 w2 => ⟨B, ρ, S2, m2, _, (at_.step e1 w1).step e2 w2, q2, fun u S3 H3 m3 q3 e3 w3 => snd_sl w3 ((dv.up e2).up e3) q3 (((k.up e1).up e2).up e3)⟩⟩⟩
/-- the other way round -/
def dRevT (t : DE) : DE := fun ρ S Q => t ρ S fun d S1 => match d with
  | .tuple ds => Q (.tuple ds.reverse) S1
  | _ => False
theorem q_revT {k : Nat} {p1 p2 p3 : Pos} (he : QE X e t) : QE X (.Subscript e (.Slice none none (some (.UnaryOp .USub (.Constant (.int 1) k p1) p2)) p3) pos) (dRevT t) := pe_weak (pe_revT he) fun σ H Q ⟨B, ρ, S, m, Qd, at_, q, k⟩ => ⟨B, ρ, S, m, _, at_, q, fun d S' v H' m' q e w dv => by
  cases d <;> first | exact False.elim q | skip
  obtain ⟨p, xs, rfl, hx, ax⟩ := dv.seqT
  exact ⟨p, xs, rfl, hx, (k.up e).newT w ax.rev q⟩⟩
def dRevL (t : DE) : DE := fun ρ S Q => t ρ S fun d S1 => isTupD d = false ∧ wh (itemsD S1 d) fun ds => Q (.list ds.reverse) S1
theorem q_revL {k : Nat} {p1 p2 p3 : Pos} (he : QE X e t) : QE X (.Subscript e (.Slice none none (some (.UnaryOp .USub (.Constant (.int 1) k p1) p2)) p3) pos) (dRevL t) := pe_weak (pe_revL he) fun σ H Q ⟨B, ρ, S, m, Qd, at_, q, k⟩ => ⟨B, ρ, S, m, _, at_, q, fun d S' v H' m' q e w dv => by
  obtain ⟨nt, q⟩ := q
  obtain ⟨ds, h1, h2⟩ := wh_of q
  obtain ⟨p, xs, rfl, hq, al⟩ := dv.items2 w h1
  rcases hq with hq | hq
  · exact ⟨p, xs, rfl, hq.2, (k.up e).newL w al.rev h2⟩
  · rw [nt] at hq
    cases hq.1⟩
/-! calls of built-ins -/
abbrev D1 := List PyData → Sto → DK → Prop
def SndL (K : PySem.W.Frag) (f : D1) (r : List V → Hp → VK → Prop) : Prop := ∀ (m : Mp) (H : Hp) (S : Sto) (xs : List V) (ds : List PyData) (Q : VK) (Qd : DK), Wd K m H S → DvAll K m H xs ds → f ds S Qd → Kq K m H Q Qd → r xs H Q
def dCall (f : D1) (aa : DA) : DE := fun ρ S Q => aa ρ S fun ds S1 => f ds S1 Q
theorem q_callB {id : String} {r : List V → Hp → VK → Prop} {f : D1} {x : Str} {p : Pos} (hc : CallR X (.builtin id) r) (hs : SndL X.K f r) (hg : Gl X x) (hm : X.mg x = none) (hv : bootBuiltins x = some (.builtin id)) (ha : QA X (e :: es) aa) (hn : x ≠ "__name__" := by decide) (hdb : (x == ("__debug__" : Str)) = false := by decide)
    (he : starEach (e :: es) X.env = (false, eval e X.env) :: starEach es X.env := by rfl) (hpl : (backTo pos (starEach es X.env)).any (·.1) = false := by rfl) : QE X (.Call (.Name x p) (e :: es) [] pos) (dCall f aa) :=
  pe_weak (pe_callB hc hg hm hv ha hn hdb he hpl) fun σ H Q ⟨B, ρ, S, m, Qd, at_, q, k⟩ => ⟨B, ρ, S, m, _, at_, q, fun ds S' vs H' m' q e w dv => hs m' H' S' vs ds Q Qd w dv q (k.up e)⟩
theorem q_callTy {T : String} {r : List V → Hp → VK → Prop} {f : D1} {x : Str} {p : Pos} (hc : CallR X (.type T) r) (hs : SndL X.K f r) (hg : Gl X x) (hm : X.mg x = none) (hv : bootBuiltins x = some (.type T)) (ha : QA X (e :: es) aa) (hn : x ≠ "__name__" := by decide) (hdb : (x == ("__debug__" : Str)) = false := by decide)
    (he : starEach (e :: es) X.env = (false, eval e X.env) :: starEach es X.env := by rfl) (hpl : (backTo pos (starEach es X.env)).any (·.1) = false := by rfl) : QE X (.Call (.Name x p) (e :: es) [] pos) (dCall f aa) :=
  pe_weak (pe_callTy hc hg hm hv ha hn hdb he hpl) fun σ H Q ⟨B, ρ, S, m, Qd, at_, q, k⟩ => ⟨B, ρ, S, m, _, at_, q, fun ds S' vs H' m' q e w dv => hs m' H' S' vs ds Q Qd w dv q (k.up e)⟩
theorem dv1 {K : PySem.W.Frag} {m : Mp} {H : Hp} {xs : List V} {d : PyData} (h : DvAll K m H xs [d]) : ∃ x, xs = [x] ∧ Dv K m H x d := by
  cases h with
  | cons a r =>
    cases r
    exact ⟨_, rfl, a⟩
theorem dv2 {K : PySem.W.Frag} {m : Mp} {H : Hp} {xs : List V} {d d' : PyData} (h : DvAll K m H xs [d, d']) : ∃ x y, xs = [x, y] ∧ Dv K m H x d ∧ Dv K m H y d' := by
  cases h with
  | cons a r =>
    obtain ⟨y, rfl, b⟩ := dv1 r
    exact ⟨_, _, rfl, a, b⟩
theorem dv3 {K : PySem.W.Frag} {m : Mp} {H : Hp} {xs : List V} {d d' d'' : PyData} (h : DvAll K m H xs [d, d', d'']) : ∃ x y z, xs = [x, y, z] ∧ Dv K m H x d ∧ Dv K m H y d' ∧ Dv K m H z d'' := by
  cases h with
  | cons a r =>
    obtain ⟨y, z, rfl, b, c⟩ := dv2 r
    exact ⟨_, _, _, rfl, a, b, c⟩
/-- one argument -/
def on1 (f : PyData → Sto → DK → Prop) : D1
  | [d], S, Q => f d S Q
  | _, _, _ => False
theorem snd_1 {K : PySem.W.Frag} {f : PyData → Sto → DK → Prop} {r : List V → Hp → VK → Prop} (h : ∀ (m : Mp) (H : Hp) (S : Sto) (x : V) (d : PyData) (Q : VK) (Qd : DK), Wd K m H S → Dv K m H x d → f d S Qd → Kq K m H Q Qd → r [x] H Q) : SndL K (on1 f) r := fun m H S xs ds Q Qd w dv q k => by
  match ds, dv, q with
  | [d], dv, q =>
    obtain ⟨x, rfl, dx⟩ := dv1 dv
    exact h m H S x d Q Qd w dx q k
/-- len -/
def dLen : PyData → Sto → DK → Prop
  | .str z, S, Q => z.length ≤ 1000000 ∧ Q (.int z.length) S
  | o, S, Q => wh (itemsD S o) fun ds => Q (.int ds.length) S
def rLenA (K : PySem.W.Frag) : List V → Hp → VK → Prop := fun xs H Q => (∃ p ys, xs = [.ref p] ∧ (SqL K H p ys ∨ SqT K H p ys) ∧ Q (.int ys.length) H) ∨ ∃ z, xs = [.str z] ∧ z.length ≤ sizeLine ∧ Q (.int z.length) H
theorem call_lenA : CallR X (.builtin "len") (rLenA X.K) := call_len_seq.or call_len_str
theorem snd_lens {K : PySem.W.Frag} {m : Mp} {H : Hp} {S : Sto} {x : V} {d : PyData} {Q : VK} {Qd : DK} (w : Wd K m H S) (dx : Dv K m H x d) (h : wh (itemsD S d) fun ds => Qd (.int ds.length) S) (k : Kq K m H Q Qd) : rLenA K [x] H Q := by
  obtain ⟨ds, h1, h2⟩ := wh_of h
  obtain ⟨p, xs, rfl, hq, al⟩ := dx.items w h1
  exact .inl ⟨p, xs, rfl, hq, k _ _ _ _ _ h2 Evo.refl w (by rw [al.len]; exact .int _)⟩
theorem snd_len {K : PySem.W.Frag} : SndL K (on1 dLen) (rLenA K) := snd_1 fun m H S x d Q Qd w dx h k => by
  cases d with
  | str z =>
    cases dx
    exact .inr ⟨z, rfl, line_of h.1, k _ _ _ _ _ h.2 Evo.refl w (.int _)⟩
  | none => exact snd_lens w dx h k
  | bool _ => exact snd_lens w dx h k
  | int _ => exact snd_lens w dx h k
  | list _ => exact snd_lens w dx h k
  | tuple _ => exact snd_lens w dx h k
  | dict _ => exact snd_lens w dx h k
theorem q_len {p : Pos} (hm : X.mg "len" = none) (hg : Gl X "len") (ha : QA X [e] aa) (he : starEach [e] X.env = (false, eval e X.env) :: starEach [] X.env := by rfl) : QE X (.Call (.Name "len" p) [e] [] pos) (dCall (on1 dLen) aa) :=
  q_callB call_lenA snd_len hg hm PySem.boot_len ha (by decide) (by decide) he rfl
/-- tuple -/
def dTupOf : PyData → Sto → DK → Prop
  | .dict [(.none, .tuple ds)], S, Q => Q (frz ds) S
  | o, S, Q => wh (itemsD S o) fun ds => Q (.tuple ds) S
theorem snd_tup {K : PySem.W.Frag} : SndL K (on1 dTupOf) (fun xs H Q => ∃ p ys, xs = [.ref p] ∧ ((SqL K H p ys ∧ ∀ l, H l = none → Q (.ref l) (upd H l (.tup ys))) ∨ (SqT K H p ys ∧ Q (.ref p) H))) := snd_1 fun m H S x d Q Qd w dx h k => by
  by_cases f : ∃ ds, d = frz ds
  · obtain ⟨ds, rfl⟩ := f
    obtain ⟨p, xs, rfl, hq, al⟩ := dx.items2 (S := S) w rfl
    rcases hq with ⟨ht, hq⟩ | ⟨ht, hq⟩
    · cases ht
    · exact ⟨p, xs, rfl, .inr ⟨hq, k _ _ _ _ _ h Evo.refl w dx⟩⟩
  have h : wh (itemsD S d) fun ds => Qd (.tuple ds) S := by
    unfold dTupOf at h
    split at h
    · exact absurd ⟨_, rfl⟩ f
    · exact h
  obtain ⟨ds, h1, h2⟩ := wh_of h
  obtain ⟨p, xs, rfl, hq, al⟩ := dx.items2 w h1
  refine ⟨p, xs, rfl, ?_⟩
  rcases hq with ⟨_, hq⟩ | ⟨ht, hq⟩
  · exact .inl ⟨hq, k.newT w al h2⟩
  · refine .inr ⟨hq, k _ _ _ _ _ h2 Evo.refl w ?_⟩
    cases d with
    | tuple es =>
      cases h1
      exact dx
    | dict kvs =>
      rw [dict_nt fun ds z => f ⟨ds, by rw [z]⟩] at ht
      cases ht
    | _ => cases ht
theorem q_tuple {p : Pos} (hm : X.mg "tuple" = none) (hg : Gl X "tuple") (ha : QA X [e] aa) (he : starEach [e] X.env = (false, eval e X.env) :: starEach [] X.env := by rfl) : QE X (.Call (.Name "tuple" p) [e] [] pos) (dCall (on1 dTupOf) aa) :=
  q_callTy call_tuple_of snd_tup hg hm (by decide +kernel) ha (by decide) (by decide) he rfl
/-- list -/
def dLstOf : PyData → Sto → DK → Prop := fun o S Q => wh (itemsD S o) fun ds => Q (.list ds) S
def dCelOf : PyData → Sto → DK → Prop := fun o S Q => wh (itemsD S o) fun ds => ∀ n, S n = none → Q (cel n) (put S n (.lst ds))
abbrev rLstOf (K : PySem.W.Frag) : List V → Hp → VK → Prop := fun xs H Q => ∃ p ys, xs = [.ref p] ∧ (SqL K H p ys ∨ SqT K H p ys) ∧ ∀ l, H l = none → Q (.ref l) (upd H l (.lst ys))
theorem snd_lst {K : PySem.W.Frag} : SndL K (on1 dLstOf) (rLstOf K) := snd_1 fun m H S x d Q Qd w dx h k => by
  obtain ⟨ds, h1, h2⟩ := wh_of h
  obtain ⟨p, xs, rfl, hq, al⟩ := dx.items w h1
  exact ⟨p, xs, rfl, hq, k.newL w al h2⟩
theorem snd_cel {K : PySem.W.Frag} : SndL K (on1 dCelOf) (rLstOf K) := snd_1 fun m H S x d Q Qd w dx h k => by
  obtain ⟨ds, h1, h2⟩ := wh_of h
  obtain ⟨p, xs, rfl, hq, al⟩ := dx.items w h1
  exact ⟨p, xs, rfl, hq, k.newC w al h2⟩
theorem q_list {p : Pos} (hm : X.mg "list" = none) (hg : Gl X "list") (ha : QA X [e] aa) (he : starEach [e] X.env = (false, eval e X.env) :: starEach [] X.env := by rfl) : QE X (.Call (.Name "list" p) [e] [] pos) (dCall (on1 dLstOf) aa) :=
  q_callTy call_list_of snd_lst hg hm (by decide +kernel) ha (by decide) (by decide) he rfl
theorem q_listC {p : Pos} (hm : X.mg "list" = none) (hg : Gl X "list") (ha : QA X [e] aa) (he : starEach [e] X.env = (false, eval e X.env) :: starEach [] X.env := by rfl) : QE X (.Call (.Name "list" p) [e] [] pos) (dCall (on1 dCelOf) aa) :=
  q_callTy call_list_of snd_cel hg hm (by decide +kernel) ha (by decide) (by decide) he rfl
/-- int of an int or bool; abs -/
def dIntOf : PyData → Sto → DK → Prop
  | .int i, S, Q => Q (.int i) S
  | .bool b, S, Q => Q (.int (if b = true then 1 else 0)) S
  | _, _, _ => False
theorem snd_int {K : PySem.W.Frag} : SndL K (on1 dIntOf) (fun xs H Q => (∃ i, xs = [.int i] ∧ Q (.int i) H) ∨ ∃ k, xs = [.bl k] ∧ Q (.int (if k then 1 else 0)) H) := snd_1 fun m H S x d Q Qd w dx h k => by
  cases d <;> first | exact False.elim h | skip
  · cases dx
    exact .inr ⟨_, rfl, k _ _ _ _ _ h Evo.refl w (.int _)⟩
  · cases dx
    exact .inl ⟨_, rfl, k _ _ _ _ _ h Evo.refl w (.int _)⟩
theorem q_int1 {p : Pos} (hm : X.mg "int" = none) (hg : Gl X "int") (ha : QA X [e] aa) (he : starEach [e] X.env = (false, eval e X.env) :: starEach [] X.env := by rfl) : QE X (.Call (.Name "int" p) [e] [] pos) (dCall (on1 dIntOf) aa) :=
  q_callTy call_int1 snd_int hg hm (by decide +kernel) ha (by decide) (by decide) he rfl
def dAbs : PyData → Sto → DK → Prop
  | .int i, S, Q => Q (.int (if i < 0 then -i else i)) S
  | _, _, _ => False
theorem snd_abs {K : PySem.W.Frag} : SndL K (on1 dAbs) (fun xs H Q => ∃ i, xs = [.int i] ∧ Q (.int (if i < 0 then -i else i)) H) := snd_1 fun m H S x d Q Qd w dx h k => by
  cases d <;> first | exact False.elim h | skip
  cases dx
  exact ⟨_, rfl, k _ _ _ _ _ h Evo.refl w (.int _)⟩
theorem q_abs {p : Pos} (hm : X.mg "abs" = none) (hg : Gl X "abs") (ha : QA X [e] aa) (he : starEach [e] X.env = (false, eval e X.env) :: starEach [] X.env := by rfl) : QE X (.Call (.Name "abs" p) [e] [] pos) (dCall (on1 dAbs) aa) :=
  q_callB call_abs snd_abs hg hm (by decide +kernel) ha (by decide) (by decide) he rfl
/-! isinstance -/
inductive Ty6 | tup | str | int | bool | lst
def Ty6.nm : Ty6 → String
  | .tup => "tuple" | .str => "str" | .int => "int" | .bool => "bool" | .lst => "list"
/-- the type of a thing that is none of one's own -/
def okTy (S : Sto) : PyData → Prop
  | .dict [(.int (.ofNat n), .none)] => ∃ ds, S n = some (.lst ds)
  | .dict _ => False
  | _ => True
def isT : Ty6 → PyData → Bool
  | .tup, .tuple _ => true
  | .str, .str _ => true
  | .int, .int _ => true
  | .int, .bool _ => true
  | .bool, .bool _ => true
  | .lst, .list _ => true
  | .lst, .dict _ => true
  | _, _ => false
def tyW : PyData → String
  | .dict _ => "list"
  | d => tyN d
theorem tyW_dv {K : PySem.W.Frag} {m : Mp} {H : Hp} {S : Sto} {x : V} {d : PyData} (w : Wd K m H S) (dx : Dv K m H x d) (h : okTy S d) : TyX K H x (.type (tyW d)) := by
  cases dx with
  | non => exact .base .non
  | bl b => exact .base (.bl b)
  | int i => exact .base (.int i)
  | str x => exact .base (.str x)
  | lst e n a => exact .base (.lst e)
  | tup e n a => exact .base (.tup e)
  | con e a =>
    obtain ⟨o, its, n, h1, h2, _⟩ := e
    exact .kTuple h1 h2
  | cel e =>
    obtain ⟨ds, h1⟩ := h
    obtain ⟨a', xs, e1, e2, e3⟩ := w.lst h1
    rw [e] at e1
    cases e1
    exact .base (.lst e2)
  | glo a => exact False.elim h
  | frz => exact False.elim h
  | ins => exact False.elim h
  | exd => exact False.elim h
theorem kit_w {K : PySem.W.Frag} : ∀ (T : Ty6) (d : PyData), PySem.W.kitOne K (.type (tyW d)) (.type T.nm) = some (isT T d)
  | .tup, .none => kit_ty (a := "NoneType") (b := "tuple") (r := false) (by decide +kernel)
  | .tup, .bool _ => kit_ty (a := "bool") (b := "tuple") (r := false) (by decide +kernel)
  | .tup, .int _ => kit_ty (a := "int") (b := "tuple") (r := false) (by decide +kernel)
  | .tup, .str _ => kit_ty (a := "str") (b := "tuple") (r := false) (by decide +kernel)
  | .tup, .list _ => kit_ty (a := "list") (b := "tuple") (r := false) (by decide +kernel)
  | .tup, .tuple _ => kit_ty (a := "tuple") (b := "tuple") (r := true) (by decide +kernel)
  | .tup, .dict _ => kit_ty (a := "list") (b := "tuple") (r := false) (by decide +kernel)
  | .str, .none => kit_ty (a := "NoneType") (b := "str") (r := false) (by decide +kernel)
  | .str, .bool _ => kit_ty (a := "bool") (b := "str") (r := false) (by decide +kernel)
  | .str, .int _ => kit_ty (a := "int") (b := "str") (r := false) (by decide +kernel)
  | .str, .str _ => kit_ty (a := "str") (b := "str") (r := true) (by decide +kernel)
  | .str, .list _ => kit_ty (a := "list") (b := "str") (r := false) (by decide +kernel)
  | .str, .tuple _ => kit_ty (a := "tuple") (b := "str") (r := false) (by decide +kernel)
  | .str, .dict _ => kit_ty (a := "list") (b := "str") (r := false) (by decide +kernel)
  | .int, .none => kit_ty (a := "NoneType") (b := "int") (r := false) (by decide +kernel)
  | .int, .bool _ => kit_ty (a := "bool") (b := "int") (r := true) (by decide +kernel)
  | .int, .int _ => kit_ty (a := "int") (b := "int") (r := true) (by decide +kernel)
  | .int, .str _ => kit_ty (a := "str") (b := "int") (r := false) (by decide +kernel)
  | .int, .list _ => kit_ty (a := "list") (b := "int") (r := false) (by decide +kernel)
  | .int, .tuple _ => kit_ty (a := "tuple") (b := "int") (r := false) (by decide +kernel)
  | .int, .dict _ => kit_ty (a := "list") (b := "int") (r := false) (by decide +kernel)
  | .bool, .none => kit_ty (a := "NoneType") (b := "bool") (r := false) (by decide +kernel)
  | .bool, .bool _ => kit_ty (a := "bool") (b := "bool") (r := true) (by decide +kernel)
  | .bool, .int _ => kit_ty (a := "int") (b := "bool") (r := false) (by decide +kernel)
  | .bool, .str _ => kit_ty (a := "str") (b := "bool") (r := false) (by decide +kernel)
  | .bool, .list _ => kit_ty (a := "list") (b := "bool") (r := false) (by decide +kernel)
  | .bool, .tuple _ => kit_ty (a := "tuple") (b := "bool") (r := false) (by decide +kernel)
  | .bool, .dict _ => kit_ty (a := "list") (b := "bool") (r := false) (by decide +kernel)
  | .lst, .none => kit_ty (a := "NoneType") (b := "list") (r := false) (by decide +kernel)
  | .lst, .bool _ => kit_ty (a := "bool") (b := "list") (r := false) (by decide +kernel)
  | .lst, .int _ => kit_ty (a := "int") (b := "list") (r := false) (by decide +kernel)
  | .lst, .str _ => kit_ty (a := "str") (b := "list") (r := false) (by decide +kernel)
  | .lst, .list _ => kit_ty (a := "list") (b := "list") (r := true) (by decide +kernel)
  | .lst, .tuple _ => kit_ty (a := "tuple") (b := "list") (r := false) (by decide +kernel)
  | .lst, .dict _ => kit_ty (a := "list") (b := "list") (r := true) (by decide +kernel)
def dIsi (T : Ty6) (t : DE) : DE := fun ρ S Q => t ρ S fun d S1 => okTy S1 d ∧ Q (.bool (isT T d)) S1
theorem q_isi (T : Ty6) {p : Pos} {e2 : Expr} (hm : X.mg "isinstance" = none) (hg : Gl X "isinstance") (ha : QE X e t) (hb : PE X e2 (tC (.ty T.nm))) (he : starEach [e, e2] X.env = (false, eval e X.env) :: starEach [e2] X.env := by rfl) (he2 : starEach [e2] X.env = (false, eval e2 X.env) :: starEach [] X.env := by rfl)
    (hpl : (backTo pos (starEach [e2] X.env)).any (·.1) = false := by rfl) : QE X (.Call (.Name "isinstance" p) [e, e2] [] pos) (dIsi T t) :=
  pe_weak (pe_callB call_isi hg hm (by decide +kernel) (pa_cons ha (pa_cons hb pa_nil he2) he) (by decide) (by decide) he hpl) fun σ H Q ⟨B, ρ, S, m, Qd, at_, q, k⟩ =>
    ⟨B, ρ, S, m, _, at_, q, fun d S' v H' m' q e w dv => ⟨v, .ty T.nm, _, _, _, rfl, .ty _, tyW_dv w dv q.1, kit_w T d, k _ S' _ H' m' q.2 e w (.bl _)⟩⟩
/-! repr, join -/
def dRepr : PyData → Sto → DK → Prop := fun d S Q => (d.showable = true ∧ d.canLay0 = true ∧ d.depth ≤ 150 ∧ d.shown.length ≤ 10000000) ∧ Q (.str d.shown) S
mutual
theorem layNoDict : ∀ d : PyData, d.canLay0 = true → d.hasDict = false
  | .none, _ => rfl
  | .bool _, _ => rfl
  | .int _, _ => rfl
  | .str _, _ => rfl
  | .list ds, h => by
    unfold PyData.hasDict
    exact layNoDictAll ds (by unfold PyData.canLay0 at h; exact h)
  | .tuple ds, h => by
    unfold PyData.hasDict
    exact layNoDictAll ds (by unfold PyData.canLay0 at h; exact h)
  | .dict _, h => by unfold PyData.canLay0 at h; cases h
theorem layNoDictAll : ∀ ds : List PyData, PyData.canLayAll0 ds = true → PyData.hasDictAll ds = false
  | [], _ => rfl
  | d :: ds, h => by
    have e : PyData.canLayAll0 (d :: ds) = (PyData.canLay0 d && PyData.canLayAll0 ds) := by
      conv => lhs; unfold PyData.canLayAll0
    rw [e, Bool.and_eq_true] at h
    unfold PyData.hasDictAll
    rw [layNoDict d h.1, layNoDictAll ds h.2]
    rfl
end
theorem snd_repr {K : PySem.W.Frag} : SndL K (on1 dRepr) (Grd.rRepr K) := snd_1 fun m H S x d Q Qd w dx h k => by
  obtain ⟨⟨h1, h2, h3, h4⟩, q⟩ := h
  exact ⟨x, d, rfl, dx.dp h2, h1, layNoDict d h2, h3, by rw [sizeLine_eq]; omega, k _ _ _ _ _ q Evo.refl w (.str _)⟩
theorem q_repr {p : Pos} (gd : X.A.guards = some []) (hu : X.A.units + 200 < cLine) (hm : X.mg "repr" = none) (hg : Gl X "repr") (ha : QA X [e] aa) (he : starEach [e] X.env = (false, eval e X.env) :: starEach [] X.env := by rfl) : QE X (.Call (.Name "repr" p) [e] [] pos) (dCall (on1 dRepr) aa) :=
  q_callB (Grd.call_repr gd hu) snd_repr hg hm (by decide +kernel) ha (by decide) (by decide) he rfl
/-- the texts of a list -/
def strsD : List PyData → Option (List Str)
  | [] => some []
  | .str z :: ds => (strsD ds).map (z :: ·)
  | _ => none
theorem strs_dv {K : PySem.W.Frag} {m : Mp} {H : Hp} : ∀ {ds : List PyData} {xs : List V} {zs : List Str}, DvAll K m H xs ds → strsD ds = some zs → xs = zs.map V.str
  | [], _, _, h, e => by
    cases h
    cases e
    rfl
  | .str z :: ds, _, zs, h, e => by
    cases h with
    | cons a r =>
      cases a
      have e' : (strsD ds).map (z :: ·) = some zs := e
      cases hs : strsD ds with
      | none => rw [hs] at e'; cases e'
      | some ys =>
        rw [hs] at e'
        cases e'
        rw [strs_dv r hs]
        rfl
  | .none :: _, _, _, _, e => nomatch e
  | .bool _ :: _, _, _, _, e => nomatch e
  | .int _ :: _, _, _, _, e => nomatch e
  | .list _ :: _, _, _, _, e => nomatch e
  | .tuple _ :: _, _, _, _, e => nomatch e
  | .dict _ :: _, _, _, _, e => nomatch e
def dJoin : D2
  | .str z, d, S, Q => wh (itemsD S d) fun ds => wh (strsD ds) fun zs => (zs.map (·.length)).sum + zs.length * z.length ≤ 1000000 ∧ Q (.str (Txt.join z zs)) S
  | _, _, _, _ => False
theorem q_join {apos : Pos} (ha : QE X a ta) (hb : QE X e tb) (hs : starEach [e] X.env = [(false, eval e X.env)] := by rfl) (hbase : attributeBase a "join" X.env (eval a X.env) = eval a X.env := by rfl) (hline : (apos.endLine == pos.line) = true := by rfl) :
    QE X (.Call (.Attribute a "join" apos) [e] [] pos) (dOp dJoin (fun ρ S Q => ta ρ S fun d S1 => wh (isStrD d) fun z => Q (.str z) S1) tb) := pe_weak (pe_join ha hb hs hbase hline) fun σ H Q ⟨B, ρ, S, m, Qd, at_, q, k⟩ =>
  ⟨B, ρ, S, m, _, at_, q, fun d S1 v H1 m1 q1 e1 w1 dv => by
    obtain ⟨z, ez, q1⟩ := wh_of q1
    cases d <;> cases ez
    cases dv
    refine ⟨⟨_, rfl⟩, B, ρ, S1, m1, _, at_.step e1 w1, q1, fun d2 S2 v2 H2 m2 q2 e2 w2 dv2 => ?_⟩
    obtain ⟨ds, h1, h2⟩ := wh_of q2
    obtain ⟨zs, h3, h4, h5⟩ := wh_of h2
    obtain ⟨p, xs, rfl, hq, al⟩ := dv2.items w2 h1
    have := strs_dv al h3
    subst this
    exact ⟨_, p, zs, rfl, rfl, hq, Nat.le_trans h4 (by decide), k _ S2 _ H2 m2 h5 (e1.trans e2) w2 (.str _)⟩⟩
end
end K3

/-! the plain layer: statements -/
namespace K3
open PySem L2 Xr K1
/-- what is wanted of an error: its class, its fields, the variables, the store -/
abbrev DXr := Addr → List (Str × PyData) → Rho → Sto → Prop
structure DEnds where
  nx : Rho → Sto → Prop
  rt : DK
  bk : Rho → Sto → Prop := fun _ _ => False
  ct : Rho → Sto → Prop := fun _ _ => False
  xt : DXr := fun _ _ _ _ => False
abbrev DS := DEnds → Rho → Sto → Prop
/-- what may be let out of X -/
def Wm (X : Cx) : L2.WX := fun c d σ H => ∀ u s', L2.XE X (fun c' d' σ' H' => c' = c ∧ d' = d ∧ σ' = σ ∧ H' = H) u s' → X.xe u s'
theorem takesWm (X : Cx) : L2.Takes X (Wm X) := fun u s' ⟨a, B, sI, pins, σ, H, cls, d, e, I, nb, up, sky, na, os, ag, w⟩ => w u s' ⟨a, B, sI, pins, σ, H, cls, d, e, I, nb, up, sky, na, os, ag, rfl, rfl, rfl, rfl⟩
theorem Wm.of {X : Cx} {W : L2.WX} (tk : L2.Takes X W) {c : Value} {d : Option Addr} {σ : L2.St} {H : Hp} (h : W c d σ H) : Wm X c d σ H := fun u s' ⟨a, B, sI, pins, σ', H', cls, d', e, I, nb, up, sky, na, os, ag, e1, e2, e3, e4⟩ =>
  tk u s' ⟨a, B, sI, pins, σ', H', cls, d', e, I, nb, up, sky, na, os, ag, by rw [e1, e2, e3, e4]; exact h⟩
/-- an error with these fields may be let out wherever it is wanted -/
def Lk (K : PySem.W.Frag) (W : L2.WX) (B : Mp × Hp) (x : DXr) : Prop := ∀ C fs ρ S σ H m dd ys, x C fs ρ S → At K B σ H ρ S m → H dd = some (.xd ys) → ¬ Ce m dd → ys.map Prod.fst = fs.map Prod.fst → DvAll K m H (ys.map Prod.snd) (fs.map Prod.snd) → W (.ref C) (some dd) σ H
theorem At.base {K : PySem.W.Frag} {B B1 : Mp × Hp} {σ : L2.St} {H : Hp} {ρ : Rho} {S : Sto} {m : Mp} (e : Evo B.1 B.2 B1.1 B1.2) (a : At K B1 σ H ρ S m) : At K B σ H ρ S m := ⟨e.trans a.ev, a.wd, a.fr⟩
theorem Lk.base {K : PySem.W.Frag} {W : L2.WX} {B B1 : Mp × Hp} {x : DXr} (e : Evo B.1 B.2 B1.1 B1.2) (l : Lk K W B x) : Lk K W B1 x := fun C fs ρ S σ H m dd ys q a => l C fs ρ S σ H m dd ys q (a.base e)
theorem Lk.no {K : PySem.W.Frag} {W : L2.WX} {B : Mp × Hp} : Lk K W B (fun _ _ _ _ => False) := fun _ _ _ _ _ _ _ _ _ q => q.elim
structure Ke (K : PySem.W.Frag) (W : L2.WX) (B : Mp × Hp) (D : Ends) (Dd : DEnds) : Prop where
  nx : ∀ ρ S σ H m, Dd.nx ρ S → At K B σ H ρ S m → D.nx σ H
  rt : ∀ d S v H m, Dd.rt d S → Evo B.1 B.2 m H → Wd K m H S → Dv K m H v d → D.rt v H
  bk : ∀ ρ S σ H m, Dd.bk ρ S → At K B σ H ρ S m → D.bk σ H
  ct : ∀ ρ S σ H m, Dd.ct ρ S → At K B σ H ρ S m → D.ct σ H
  xt : Lk K W B Dd.xt
def lftS (K : PySem.W.Frag) (W : L2.WX) (t : DS) : TS := fun D σ H => ∃ B ρ S m Dd, At K B σ H ρ S m ∧ t Dd ρ S ∧ Ke K W B D Dd
abbrev QS (X : Cx) (s : Stmt) (t : DS) : Prop := PS X s (lftS X.K (Wm X) t)
abbrev QSs (X : Cx) (s : List Stmt) (t : DS) : Prop := PSs X s (lftS X.K (Wm X) t)
abbrev DG := PyData → Rho → Sto → (Rho → Sto → Prop) → Prop
abbrev DGs := List PyData → Rho → Sto → (Rho → Sto → Prop) → Prop
def lftG (K : PySem.W.Frag) (g : DG) : TG := fun v σ H Q => ∃ d B ρ S m Qd, At K B σ H ρ S m ∧ Dv K m H v d ∧ g d ρ S Qd ∧ ∀ ρ' S' σ' H' m', Qd ρ' S' → Evo m H m' H' → At K B σ' H' ρ' S' m' → Q σ' H'
def lftGs (K : PySem.W.Frag) (g : DGs) : TGs := fun v σ H Q => ∃ d B ρ S m Qd, At K B σ H ρ S m ∧ DvAll K m H v d ∧ g d ρ S Qd ∧ ∀ ρ' S' σ' H' m', Qd ρ' S' → Evo m H m' H' → At K B σ' H' ρ' S' m' → Q σ' H'
abbrev QG (X : Cx) (e : Expr) (g : DG) : Prop := PG X e (lftG X.K g)
abbrev QGs (X : Cx) (e : List Expr) (g : DGs) : Prop := PGs X e (lftGs X.K g)
theorem pg_weak {X : Cx} {e : Expr} {t t' : TG} (h : PG X e t) (i : ∀ v σ H Q, t' v σ H Q → t v σ H Q) : PG X e t' := ⟨fun pins s σ H v u Q I r q => h.run pins s σ H v u Q I r (i _ _ _ _ q)⟩
theorem pgs_weak {X : Cx} {e : List Expr} {t t' : TGs} (h : PGs X e t) (i : ∀ v σ H Q, t' v σ H Q → t v σ H Q) : PGs X e t' := ⟨fun pins s σ H v u Q I r q => h.run pins s σ H v u Q I r (i _ _ _ _ q)⟩
theorem At.setv {K : PySem.W.Frag} {σ : L2.St} {H : Hp} {ρ : Rho} {S : Sto} {m : Mp} {i : Nat} {v : V} {d : PyData} (a : At K B σ H ρ S m) (h : Dv K m H v d) : At K B (σ.set i (some v)) H (st ρ i d) S m := ⟨a.ev, a.wd, a.fr.set h _ _ i⟩
section
variable {X : Cx} {e a b c : Expr} {es rest : List Expr} {t ta tb tc : DE} {u v : DT} {pos : Pos} {aa : DA} {s1 : Stmt} {sts : List Stmt} {d1 d2 : DS} {g : DG} {gs : DGs}
def dNext : DS := fun D ρ S => D.nx ρ S
def dSeq (t u : DS) : DS := fun D ρ S => t { D with nx := u D } ρ S
theorem qss_nil : QSs X [] dNext := pss_weak pss_nil fun D σ H ⟨B, ρ, S, m, Dd, at_, q, k⟩ => k.nx _ _ _ _ _ q at_
theorem Ke.seq {K : PySem.W.Frag} {W : L2.WX} {D : Ends} {Dd : DEnds} (k : Ke K W B D Dd) : Ke K W B { D with nx := lftS K W d2 D } { Dd with nx := d2 Dd } := ⟨fun ρ S σ H m q at_ => ⟨B, ρ, S, m, Dd, at_, q, k⟩, k.rt, k.bk, k.ct, k.xt⟩
theorem qss_cons (h1 : QS X s1 d1) (h2 : QSs X sts d2) : QSs X (s1 :: sts) (dSeq d1 d2) := pss_weak (pss_cons h1 h2) fun D σ H ⟨B, ρ, S, m, Dd, at_, q, k⟩ => ⟨B, ρ, S, m, _, at_, q, k.seq⟩
theorem qss_one (h1 : QS X s1 d1) : QSs X [s1] d1 := pss_one h1
def dBreak : DS := fun D ρ S => D.bk ρ S
def dCont : DS := fun D ρ S => D.ct ρ S
theorem qs_pass : QS X (.Pass pos) dNext := ps_weak ps_pass fun D σ H ⟨B, ρ, S, m, Dd, at_, q, k⟩ => k.nx _ _ _ _ _ q at_
theorem qs_break : QS X (.Break pos) dBreak := ps_weak ps_break fun D σ H ⟨B, ρ, S, m, Dd, at_, q, k⟩ => k.bk _ _ _ _ _ q at_
theorem qs_continue : QS X (.Continue pos) dCont := ps_weak ps_continue fun D σ H ⟨B, ρ, S, m, Dd, at_, q, k⟩ => k.ct _ _ _ _ _ q at_
def dNever : DS := fun _ _ _ => False
theorem qs_never : QS X s1 dNever := ps_weak ps_never fun D σ H ⟨B, ρ, S, m, Dd, at_, q, k⟩ => q.elim
def dDrop (t : DE) : DS := fun D ρ S => t ρ S fun _ S1 => D.nx ρ S1
theorem qs_expr (he : QE X e t) (hs : swapsWith e none pos.line X.env = pure false := by rfl) : QS X (.Expr e pos) (dDrop t) := ps_weak (ps_expr he hs) fun D σ H ⟨B, ρ, S, m, Dd, at_, q, k⟩ =>
  ⟨B, ρ, S, m, _, at_, q, fun d S' v H' m' q e w dv => k.nx _ _ _ _ _ q (at_.step e w)⟩
def dRet (t : DE) : DS := fun D ρ S => t ρ S D.rt
theorem qs_ret (he : QE X e t) : QS X (.Return (some e) pos) (dRet t) := ps_weak (ps_ret he) fun D σ H ⟨B, ρ, S, m, Dd, at_, q, k⟩ =>
  ⟨B, ρ, S, m, _, at_, q, fun d S' v H' m' q e w dv => k.rt _ _ _ _ _ q (at_.ev.trans e) w dv⟩
def dRetN : DS := fun D ρ S => D.rt .none S
theorem qs_retN : QS X (.Return none pos) dRetN := ps_weak ps_retN fun D σ H ⟨B, ρ, S, m, Dd, at_, q, k⟩ => k.rt _ _ _ _ _ q at_.ev at_.wd .non
def dIfS (u : DT) (d1 d2 : DS) : DS := fun D ρ S => u ρ S fun b S1 => if b = true then d1 D ρ S1 else d2 D ρ S1
theorem qs_if {st1 st2 : List Stmt} (hc : QT X c u) (ha : QSs X st1 d1) (hb : QSs X st2 d2) : QS X (.If c st1 st2 pos) (dIfS u d1 d2) := ps_weak (ps_if hc ha hb) fun D σ H ⟨B, ρ, S, m, Dd, at_, q, k⟩ =>
  ⟨B, ρ, S, m, _, at_, q, fun b S' H' m' q e w => by
    cases b with
    | true => exact iteT ⟨B, ρ, S', m', Dd, at_.step e w, q, k⟩
    | false => exact iteF ⟨B, ρ, S', m', Dd, at_.step e w, q, k⟩⟩
/-! targets -/
def dName (i : Nat) : DG := fun d ρ S Q => Q (st ρ i d) S
theorem qg_name {i : Nat} (h : PG X e (gName i)) : QG X e (dName i) := pg_weak h fun v σ H Q ⟨d, B, ρ, S, m, Qd, at_, dv, q, k⟩ => k _ _ _ _ m q Evo.refl (at_.setv dv)
def dgNil : DGs := fun ds ρ S Q => ds = [] ∧ Q ρ S
def dgCons (g : DG) (gs : DGs) : DGs := fun ds ρ S Q => match ds with
  | d :: r => g d ρ S fun ρ' S' => gs r ρ' S' Q
  | [] => False
theorem qgs_nil : QGs X [] dgNil := pgs_weak pgs_nil fun v σ H Q ⟨d, B, ρ, S, m, Qd, at_, dv, q, k⟩ => by
  obtain ⟨rfl, q⟩ := q
  cases dv
  exact ⟨rfl, k _ _ _ _ m q Evo.refl at_⟩
theorem qgs_cons (h1 : QG X e g) (h2 : QGs X es gs) (hs : (assignEach (e :: es) X.env).map (·.2) = assign e X.env :: (assignEach es X.env).map (·.2) := by rfl) : QGs X (e :: es) (dgCons g gs) := pgs_weak (pgs_cons h1 h2 hs) fun v σ H Q ⟨ds, B, ρ, S, m, Qd, at_, dv, q, k⟩ => by
  match ds, dv, q with
  | d :: r, .cons a al, q => exact ⟨_, _, rfl, d, B, ρ, S, m, _, at_, a, q, fun ρ' S' σ' H' m' q' e' at' => ⟨r, B, ρ', S', m', Qd, at', al.up e', q', fun ρ2 S2 σ2 H2 m2 q2 e2 at2 => k ρ2 S2 σ2 H2 m2 q2 (e'.trans e2) at2⟩⟩
def dgTup (n : Nat) (gs : DGs) : DG := fun d ρ S Q => match d with
  | .tuple ds => ds.length = n ∧ gs ds ρ S Q
  | _ => False
theorem qg_tup {k : Nat} {n : Nat} (hc : X.calm = true) (h : QGs X es gs)
    (hn : (assignEach es X.env).length = n := by rfl) (hst : (assignEach es X.env).findIdx? (·.1) = none := by rfl) : QG X (.Tuple es k pos) (dgTup n gs) := pg_weak (pg_tup hc h hn hst) fun v σ H Q ⟨d, B, ρ, S, m, Qd, at_, dv, q, k⟩ => by
  cases d <;> first | exact False.elim q | skip
  obtain ⟨l, q⟩ := q
  obtain ⟨p, xs, rfl, hx, ax⟩ := dv.seqT
  exact ⟨p, xs, rfl, hx, by rw [ax.len]; exact l, _, B, ρ, S, m, Qd, at_, ax, q, k⟩
theorem wipe_set_notin {x : Option V} : ∀ (ws : List Nat) (σ : L2.St) (i : Nat), i ∉ ws → wipe (σ.set i x) ws = (wipe σ ws).set i x
  | [], σ, i, _ => rfl
  | w :: ws, σ, i, h => by
    have h1 : i ≠ w := fun e => h (by rw [e]; exact List.mem_cons_self)
    have h2 : i ∉ ws := fun e => h (List.mem_cons_of_mem _ e)
    show (wipe (σ.set i x) ws).set w none = ((wipe σ ws).set w none).set i x
    rw [wipe_set_notin ws σ i h2, List.set_comm _ _ h1]
theorem wipe_set_mem {x : Option V} : ∀ (ws : List Nat) (σ : L2.St) (i : Nat), i ∈ ws → wipe (σ.set i x) ws = wipe σ ws
  | w :: ws, σ, i, h => by
    show (wipe (σ.set i x) ws).set w none = (wipe σ ws).set w none
    by_cases z : i ∈ ws
    · rw [wipe_set_mem ws σ i z]
    · have e : i = w := (List.mem_cons.mp h).resolve_right z
      subst e
      rw [wipe_set_notin ws σ i z, List.set_set]
  | [], _, _, h => nomatch h
/-- a, b: plain names -/
def gNms : List Nat → TGs
  | [] => gNil
  | i :: is => gCons (gName i) (gNms is)
def dNms : List Nat → List PyData → Rho → Option Rho
  | [], [], ρ => some ρ
  | i :: is, d :: ds, ρ => dNms is ds (st ρ i d)
  | _, _, _ => none
theorem nms_dv {K : PySem.W.Frag} {m : Mp} {H : Hp} : ∀ (is : List Nat) (ds : List PyData) (ρ ρ' : Rho) (vs : List V) (σ : L2.St) (Q : L2.St → Hp → Prop), DvAll K m H vs ds → Fr K m H σ ρ → dNms is ds ρ = some ρ' → (∀ σ', Fr K m H σ' ρ' → (∀ ws : List Nat, (∀ i ∈ is, i ∈ ws) → wipe σ' ws = wipe σ ws) → Q σ' H) → gNms is vs σ H Q
  | [], [], ρ, ρ', _, σ, Q, h, f, e, k => by
    cases h
    cases e
    exact ⟨rfl, k σ f fun _ _ => rfl⟩
  | i :: is, d :: ds, ρ, ρ', _, σ, Q, h, f, e, k => by
    cases h with
    | cons a r =>
      refine ⟨_, _, rfl, ?_⟩
      refine nms_dv is ds _ ρ' _ _ Q r (f.set a _ _ i) e fun σ' f' hw => k σ' f' fun ws hm => ?_
      rw [hw ws fun j hj => hm j (List.mem_cons_of_mem _ hj)]
      exact wipe_set_mem ws _ i (hm i List.mem_cons_self)
  | [], _ :: _, _, _, _, _, _, _, _, e, _ => nomatch e
  | _ :: _, [], _, _, _, _, _, _, _, e, _ => nomatch e
def dAsg (t : DE) (g : DG) : DS := fun D ρ S => t ρ S fun d S1 => g d ρ S1 D.nx
theorem qs_asg (he : QE X e t) (hg : QG X a g) (hs : swapsWithSole [a] e pos.line X.env = pure false := by rfl) (hw : swappedStores [a] e X.env = pure none := by rfl)
    (h1 : (assignEach [a] X.env).map (·.2) = [assign a X.env] := by rfl) : QS X (.Assign [a] e pos) (dAsg t g) := ps_weak (ps_asg he hg hs hw h1) fun D σ H ⟨B, ρ, S, m, Dd, at_, q, k⟩ =>
  ⟨B, ρ, S, m, _, at_, q, fun d S' v H' m' q e w dv => ⟨d, B, ρ, S', m', _, at_.step e w, dv, q, fun ρ' S' σ' H' m' q _ at_ => k.nx _ _ _ _ _ q at_⟩⟩
/-- name = value -/
def dSet (i : Nat) (t : DE) : DS := fun D ρ S => t ρ S fun d S1 => D.nx (st ρ i d) S1
theorem qs_set {i : Nat} {x : Str} {pos' : Pos} (hN : X.N.Nodup) (hi : X.N[i]? = some x) (hx : Loc X.env.scope x) (he : QE X e t) (hs : swapsWith e (some (.Name x pos')) pos.line X.env = pure false := by rfl) (hf : X.fn x = true ∨ X.env.scope.names.lookup x = some .local := by first | exact .inl rfl | exact .inr rfl | assumption) :
    QS X (.Assign [.Name x pos'] e pos) (dSet i t) := ps_weak (ps_set hN hi hx he hs hf) fun D σ H ⟨B, ρ, S, m, Dd, at_, q, k⟩ =>
  ⟨B, ρ, S, m, _, at_, q, fun d S' v H' m' q e w dv => k.nx _ _ _ _ _ q ((at_.step e w).setv dv)⟩
/-- a, b = x, y: plain names -/
def dPar (i j : Nat) (aa : DA) : DS := fun D ρ S => aa ρ S fun ds S1 => match ds with
  | [d, d'] => D.nx (st (st ρ i d) j d') S1
  | _ => False
theorem qs_par {i j : Nat} {x y : Str} {px py pt : Pos} {kt k2 pt2} (hc : X.calm = true) (hN : X.N.Nodup) (hi : X.N[i]? = some x) (hj : X.N[j]? = some y) (hij : i ≠ j)
    (hx : X.env.scope.names.lookup x = some .local) (hy : X.env.scope.names.lookup y = some .local) (ha : QA X [a, b] aa)
    (hw : swappedStores [.Tuple [.Name x px, .Name y py] kt pt] (.Tuple [a, b] k2 pt2) X.env = pure (some [x, y]))
    (hs : swapsWithSole [.Tuple [.Name x px, .Name y py] kt pt] (.Tuple [a, b] k2 pt2) pos.line X.env = pure false := by rfl) :
    QS X (.Assign [.Tuple [.Name x px, .Name y py] kt pt] (.Tuple [a, b] k2 pt2) pos) (dPar i j aa) := ps_weak (ps_par hc hN hi hj hij hx hy ha hw hs) fun D σ H ⟨B, ρ, S, m, Dd, at_, q, k⟩ =>
  ⟨B, ρ, S, m, _, at_, q, fun ds S' vs H' m' q e w dv => by
    match ds, q, dv with
    | [d, d'], q, dv =>
      obtain ⟨x, y, rfl, dx, dy⟩ := dv2 dv
      exact ⟨x, y, rfl, k.nx _ _ _ _ _ q (((at_.step e w).setv dx).setv dy)⟩⟩
/-- name op= value, of ints -/
def dAugI (i : Nat) (f : Int → Int → Int) (t : DE) : DS := fun D ρ S => wh (gt ρ i) fun x => t ρ S fun y S1 => match x, y with
  | .int p, .int q => D.nx (st ρ i (.int (f p q))) S1
  | _, _ => False
theorem qs_augI {i : Nat} {x : Str} {op : Operator} {f : Int → Int → Int} {pos' : Pos} (ho : PIp X op (ipI f)) (hN : X.N.Nodup) (hi : X.N[i]? = some x) (hx : Loc X.env.scope x) (he : QE X e t) (hf : X.fn x = true ∨ X.env.scope.names.lookup x = some .local := by first | exact .inl rfl | exact .inr rfl | assumption) :
    QS X (.AugAssign (.Name x pos') op e pos) (dAugI i f t) := ps_weak (ps_aug hN hi hx he ho hf) fun D σ H ⟨B, ρ, S, m, Dd, at_, q, k⟩ => by
  obtain ⟨d, e1, q⟩ := wh_of q
  obtain ⟨v, e2, dv⟩ := at_.fr.get _ _ _ _ e1
  refine ⟨v, e2, B, ρ, S, m, _, at_, q, fun d' S' v' H' m' q e w dv' => ?_⟩
  cases d <;> cases d' <;> first | exact False.elim q | skip
  cases dv
  cases dv'
  exact ⟨_, _, rfl, rfl, k.nx _ _ _ _ _ q ((at_.step e w).setv (.int _))⟩
/-! lists that change -/
def celN : PyData → Option Nat
  | .dict [(.int (.ofNat n), .none)] => some n
  | _ => none
def lstC (S : Sto) (n : Nat) : Option (List PyData) := (S n).bind fun c => match c with
  | .lst ds => some ds
  | _ => none
theorem lstC_of {S : Sto} {n : Nat} {ds : List PyData} (h : S n = some (.lst ds)) : lstC S n = some ds := by
  unfold lstC
  rw [h]
  rfl
theorem lstC_is {S : Sto} {n : Nat} {ds : List PyData} (h : lstC S n = some ds) : S n = some (.lst ds) := by
  unfold lstC at h
  cases e : S n with
  | none => rw [e] at h; cases h
  | some c =>
    rw [e] at h
    cases c with
    | lst es => cases h; rfl
    | ins _ _ => cases h
    | dk _ => cases h
    | dt _ => cases h
theorem celN_dv {K : PySem.W.Frag} {m : Mp} {H : Hp} {x : V} {d : PyData} {n : Nat} (h : Dv K m H x d) (e : celN d = some n) : ∃ a, x = .ref a ∧ m.c n = some a := by
  cases h with
  | cel e1 =>
    cases e
    exact ⟨_, rfl, e1⟩
  | non => cases e
  | bl _ => cases e
  | int _ => cases e
  | str _ => cases e
  | lst _ _ _ => cases e
  | tup _ _ _ => cases e
  | con _ _ => cases e
  | frz => cases e
  | ins => cases e
  | exd => cases e
  | glo _ => cases e
/-- o.m(..) of a list: what it gives and leaves, by the list and the arguments -/
abbrev DM := List PyData → List PyData → (PyData → List PyData → Prop) → Sto → Prop
def dMet (f : DM) (t : DE) (aa : DA) : DE := fun ρ S Q => t ρ S fun o S1 => wh (celN o) fun n => (∃ es, S1 n = some (.lst es)) ∧ aa ρ S1 fun ds S2 => wh (lstC S2 n) fun es => f es ds (fun d es' => Q d (put S2 n (.lst es'))) S2
def SndM (K : PySem.W.Frag) (f : DM) (r : V → List V → Hp → VK → Prop) : Prop := ∀ (m : Mp) (H : Hp) (S : Sto) (l : Addr) (xs : List V) (es : List PyData) (vs : List V) (ds : List PyData) (Q : VK) (Qf : PyData → List PyData → Prop), Wd K m H S → H l = some (.lst xs) → DvAll K m H xs es → DvAll K m H vs ds → f es ds Qf S →
  (∀ d es' x ys, Qf d es' → DvAll K m H ys es' → Dv K m H x d → Q x (upd H l (.lst ys))) → r (.ref l) vs H Q
theorem met_k {K : PySem.W.Frag} {m : Mp} {H : Hp} {S : Sto} {n : Nat} {l : Addr} {Q : VK} {Qd : DK} (w : Wd K m H S) (hl : m.c n = some l) (k : Kq K m H Q Qd) : ∀ d es' x ys, Qd d (put S n (.lst es')) → DvAll K m H ys es' → Dv K m H x d → Q x (upd H l (.lst ys)) := fun d es' x ys q al dx =>
  k _ _ _ _ _ q (Evo.set w hl) (w.set hl ⟨ys, upd_same, al.up (Evo.set w hl)⟩) (dx.up (Evo.set w hl))
theorem q_met {name : Str} {apos : Pos} {id : String} {r : V → List V → Hp → VK → Prop} {f : DM} (pa : PlainAttrs "list") (slot : Slot "list" name id) (hty : typeOf (.builtin id) = pure (.type "method_descriptor")) (hm : MtR X id r) (hs : SndM X.K f r) (ho : QE X a t) (ha : QA X (e :: es) aa)
    (hbase : attributeBase a name X.env (eval a X.env) = eval a X.env := by rfl)
    (hfew : ((backTo pos (starEach (e :: es) X.env)).all (fun x => !x.1) && (backToKw pos (keywordEach [] X.env)).all (fun x => x.1.isSome)
      && decide ((e :: es).length + ([] : List Keyword).length + (if ([] : List Keyword).isEmpty then 0 else 1) < 30)) = true := by rfl)
    (hline : (apos.endLine == pos.line) = true := by rfl) (he : starEach (e :: es) X.env = (false, eval e X.env) :: starEach es X.env := by rfl) (hplain : (backTo pos (starEach es X.env)).any (·.1) = false := by rfl) :
    QE X (.Call (.Attribute a name apos) (e :: es) [] pos) (dMet f t aa) := pe_weak (pe_bm pa slot hty hm ho ha hbase hfew hline he hplain) fun σ H Q ⟨B, ρ, S, m, Qd, at_, q, k⟩ =>
  ⟨B, ρ, S, m, _, at_, q, fun d S1 v H1 m1 q1 e1 w1 dv => by
    obtain ⟨n, en, ⟨es0, q0⟩, q1⟩ := wh_of q1
    obtain ⟨l, rfl, hl⟩ := celN_dv dv en
    obtain ⟨l', xs0, h1, h2, _⟩ := w1.lst q0
    rw [hl] at h1
    cases h1
    refine ⟨.inl ⟨rfl, _, SqL.of h2⟩, B, ρ, S1, m1, _, at_.step e1 w1, q1, fun ds S2 vs H2 m2 q2 e2 w2 dvs => ?_⟩
    obtain ⟨es, h3, q2⟩ := wh_of q2
    obtain ⟨l', xs, h4, h5, al⟩ := w2.lst (lstC_is h3)
    have hl2 := e2.ext _ _ hl
    rw [hl2] at h4
    cases h4
    exact hs m2 H2 S2 l xs es vs ds Q _ w2 h5 al dvs q2 (met_k w2 hl2 ((k.up e1).up e2))⟩
def dMet0 (f : DM) (t : DE) : DE := fun ρ S Q => t ρ S fun o S1 => wh (celN o) fun n => wh (lstC S1 n) fun es => f es [] (fun d es' => Q d (put S1 n (.lst es'))) S1
theorem q_met0 {name : Str} {apos : Pos} {id : String} {r : V → List V → Hp → VK → Prop} {f : DM} (pa : PlainAttrs "list") (slot : Slot "list" name id) (hty : typeOf (.builtin id) = pure (.type "method_descriptor")) (hm : MtR X id r) (hs : SndM X.K f r) (ho : QE X a t)
    (hbase : attributeBase a name X.env (eval a X.env) = eval a X.env := by rfl) (hline : (apos.endLine == pos.line) = true := by rfl) :
    QE X (.Call (.Attribute a name apos) [] [] pos) (dMet0 f t) := pe_weak (pe_bm0 pa slot hty hm ho hbase hline) fun σ H Q ⟨B, ρ, S, m, Qd, at_, q, k⟩ =>
  ⟨B, ρ, S, m, _, at_, q, fun d S1 v H1 m1 q1 e1 w1 dv => by
    obtain ⟨n, en, q1⟩ := wh_of q1
    obtain ⟨es, h3, q1⟩ := wh_of q1
    obtain ⟨l, rfl, hl⟩ := celN_dv dv en
    obtain ⟨l', xs, h4, h5, al⟩ := w1.lst (lstC_is h3)
    rw [hl] at h4
    cases h4
    exact ⟨.inl ⟨rfl, _, SqL.of h5⟩, hs m1 H1 S1 l xs es [] [] Q _ w1 h5 al .nil q1 (met_k w1 hl (k.up e1))⟩⟩
def mApp : DM := fun es ds Q S => match ds with
  | [d] => es.length < 1000000 ∧ Q .none (es ++ [d])
  | _ => False
theorem snd_app {K : PySem.W.Frag} : SndM K mApp rAppend := fun m H S l xs es vs ds Q Qf w hl al dv h k => by
  match ds, h, dv with
  | [d], h, dv =>
    obtain ⟨x, rfl, dx⟩ := dv1 dv
    have h1 := h.1
    exact ⟨l, xs, x, rfl, rfl, hl, by rw [al.len, sizeLine_eq]; omega, k _ _ _ _ h.2 (al.app (.cons dx .nil)) .non⟩
theorem q_append {apos : Pos} (ho : QE X a t) (ha : QA X [e] aa) (hbase : attributeBase a "append" X.env (eval a X.env) = eval a X.env := by rfl)
    (hfew : ((backTo pos (starEach [e] X.env)).all (fun x => !x.1) && (backToKw pos (keywordEach [] X.env)).all (fun x => x.1.isSome)
      && decide ([e].length + ([] : List Keyword).length + (if ([] : List Keyword).isEmpty then 0 else 1) < 30)) = true := by rfl)
    (hline : (apos.endLine == pos.line) = true := by rfl) (he : starEach [e] X.env = (false, eval e X.env) :: starEach [] X.env := by rfl) :
    QE X (.Call (.Attribute a "append" apos) [e] [] pos) (dMet mApp t aa) := q_met PySem.F.plainAttrs_list PySem.F.slot_list_append PySem.F.type_list_append mt_append snd_app ho ha hbase hfew hline he rfl
def mPop : DM := fun es ds Q S => wh es.getLast? fun d => Q d es.dropLast
theorem snd_pop {K : PySem.W.Frag} : SndM K mPop (fun x vs H Q => vs = [] → rPop x vs H Q) := fun m H S l xs es vs ds Q Qf w hl al dv h k hv => by
  obtain ⟨d, h1, h2⟩ := wh_of h
  rw [List.getLast?_eq_getElem?] at h1
  obtain ⟨x, e, dx⟩ := al.get h1
  exact ⟨l, xs, x, rfl, hv, hl, by rw [al.len]; exact e, k _ _ _ _ h2 al.dropLast dx⟩
theorem mt_pop0 : MtR X "list.pop" (fun x vs H Q => vs = [] ∧ (vs = [] → rPop x vs H Q)) := fun pins s σ H x vs v us Q I r1 r2 h => mt_pop pins s σ H x vs v us Q I r1 r2 (h.2 h.1)
def mPop0 : DM := fun es ds Q S => ds = [] ∧ mPop es ds Q S
theorem snd_pop0 {K : PySem.W.Frag} : SndM K mPop0 (fun x vs H Q => vs = [] ∧ (vs = [] → rPop x vs H Q)) := fun m H S l xs es vs ds Q Qf w hl al dv h k => by
  obtain ⟨rfl, h⟩ := h
  cases dv
  exact ⟨rfl, snd_pop m H S l xs es [] [] Q Qf w hl al .nil h k⟩
theorem q_pop {apos : Pos} (ho : QE X a t) (hbase : attributeBase a "pop" X.env (eval a X.env) = eval a X.env := by rfl) (hline : (apos.endLine == pos.line) = true := by rfl) :
    QE X (.Call (.Attribute a "pop" apos) [] [] pos) (dMet0 mPop0 t) := q_met0 PySem.F.plainAttrs_list PySem.F.slot_list_pop PySem.F.type_list_pop mt_pop0 snd_pop0 ho hbase hline
def mExt : DM := fun es ds Q S => match ds with
  | [d] => wh (itemsD S d) fun xs => es.length + xs.length ≤ 1000000 ∧ Q .none (es ++ xs)
  | _ => False
def rExtA (K : PySem.W.Frag) : V → List V → Hp → VK → Prop := fun x vs H Q => ∃ l b xs zs, x = .ref l ∧ vs = [.ref b] ∧ H l = some (.lst xs) ∧ SqT K H b zs ∧ xs.length + zs.length ≤ sizeLine ∧ Q .non (upd H l (.lst (xs ++ zs)))
theorem mt_extT2 : MtM X "list.extend" (rExtA X.K) := by
  intro pins s σ H x vs v us Q I rx rv h
  obtain ⟨l, b, xs, zs, rfl, rfl, hH, hB, hz, q⟩ := h
  cases rx
  obtain ⟨u, rfl, ru⟩ := rv.one
  cases ru
  obtain ⟨z, its, n, r, hl, e⟩ := I.lstM hH
  obtain ⟨its2, r2, p2, z2⟩ := I.tuple hB
  obtain ⟨⟨cls2, dd2, data2, sl2⟩, ho2, hc2, n2, hd2⟩ := id p2
  simp only at hc2 hd2
  subst hc2 hd2
  have hl2 := r2.length
  have hsz : its.toArray.size + its2.toArray.size ≤ sizeLine := by rw [List.size_toArray, List.size_toArray]; omega
  have hlong : ¬ (!its.toArray.isEmpty && Builtin.List.listTooLong (its.toArray.size + its2.toArray.size)) = true := by
    rw [notLongL hsz, Bool.and_false]
    exact Bool.false_ne_true
  refine call_meets PySem.F.slot_list_extend ⟨_, e, rfl⟩ PySem.F.entry_list_extend (PySem.F.args_list_extend_2 _ _)
    (extend_tupW l b its.toArray its2.toArray n n2 dd2 sl2 hlong (by rw [List.size_toArray]; omega) (by omega)) ⟨e, ho2, ?_⟩
  refine ⟨.non, _, I.lset (its' := its ++ its2) hH e (by simp) (r.append r2) ?_, rfl, q⟩
  rw [List.length_append]
  omega
theorem mt_extA : MtR X "list.extend" (fun x vs H Q => rExtend x vs H Q ∨ rExtA X.K x vs H Q) := MtR.or mt_extend mt_extT2
theorem Dv.items3 {K : PySem.W.Frag} {m : Mp} {H : Hp} {S : Sto} {x : V} {d : PyData} {ds : List PyData} (w : Wd K m H S) (dx : Dv K m H x d) (h : itemsD S d = some ds) : ∃ a xs, x = .ref a ∧ ((isTupD d = false ∧ H a = some (.lst xs)) ∨ (isTupD d = true ∧ SqT K H a xs)) ∧ DvAll K m H xs ds := by
  cases dx with
  | non => cases h
  | bl _ => cases h
  | int _ => cases h
  | str _ => cases h
  | glo _ => cases h
  | ins => cases h
  | exd => cases h
  | frz e _ n a =>
    cases h
    exact ⟨_, _, rfl, .inr ⟨rfl, .inl (.inr ⟨_, e⟩)⟩, a⟩
  | lst e n a =>
    cases h
    exact ⟨_, _, rfl, .inl ⟨rfl, e⟩, a⟩
  | tup e n a =>
    cases h
    exact ⟨_, _, rfl, .inr ⟨rfl, SqT.of e⟩, a⟩
  | con e a =>
    cases h
    exact ⟨_, _, rfl, .inr ⟨rfl, e.sq⟩, a⟩
  | @cel a n e =>
    have h' : lstC S n = some ds := h
    obtain ⟨a', xs, e1, e2, e3⟩ := w.lst (lstC_is h')
    rw [e] at e1
    cases e1
    exact ⟨_, _, rfl, .inl ⟨rfl, e2⟩, e3⟩
theorem snd_ext : SndM X.K mExt (fun x vs H Q => rExtend x vs H Q ∨ rExtA X.K x vs H Q) := fun m H S l xs es vs ds Q Qf w hl al dv h k => by
  match ds, h, dv with
  | [d], h, dv =>
    obtain ⟨x, rfl, dx⟩ := dv1 dv
    obtain ⟨ys, h1, h2, h3⟩ := wh_of h
    obtain ⟨b, zs, rfl, hq, al2⟩ := dx.items3 w h1
    have hz : xs.length + zs.length ≤ sizeLine := by rw [al.len, al2.len]; exact line_of h2
    rcases hq with ⟨_, hq⟩ | ⟨_, hq⟩
    · exact .inl ⟨l, b, xs, zs, rfl, rfl, hl, hq, hz, k _ _ _ _ h3 (al.app al2) .non⟩
    · exact .inr ⟨l, b, xs, zs, rfl, rfl, hl, hq, hz, k _ _ _ _ h3 (al.app al2) .non⟩
theorem q_extend {apos : Pos} (ho : QE X a t) (ha : QA X [e] aa) (hbase : attributeBase a "extend" X.env (eval a X.env) = eval a X.env := by rfl)
    (hfew : ((backTo pos (starEach [e] X.env)).all (fun x => !x.1) && (backToKw pos (keywordEach [] X.env)).all (fun x => x.1.isSome)
      && decide ([e].length + ([] : List Keyword).length + (if ([] : List Keyword).isEmpty then 0 else 1) < 30)) = true := by rfl)
    (hline : (apos.endLine == pos.line) = true := by rfl) (he : starEach [e] X.env = (false, eval e X.env) :: starEach [] X.env := by rfl) :
    QE X (.Call (.Attribute a "extend" apos) [e] [] pos) (dMet mExt t aa) := q_met PySem.F.plainAttrs_list PySem.F.slot_list_extend PySem.F.type_list_extend mt_extA snd_ext ho ha hbase hfew hline he rfl
/-- xs.insert(i, e) -/
def mIns : DM := fun es ds Q S => match ds with
  | [.int i, d] => (es.length < 1000000 ∧ 0 ≤ i ∧ i < 2 ^ 63) ∧ Q .none (es.take i.toNat ++ [d] ++ es.drop i.toNat)
  | _ => False
theorem snd_ins {K : PySem.W.Frag} : SndM K mIns (fun x vs H Q => ∃ (l : Addr) (xs : List V) (i : Int) (y : V), x = .ref l ∧ vs = [.int i, y] ∧ H l = some (.lst xs) ∧ xs.length < sizeLine ∧ 0 ≤ i ∧ i < 2 ^ 63 ∧
    Q .non (upd H l (.lst (xs.take i.toNat ++ [y] ++ xs.drop i.toNat)))) := fun m H S l xs es vs ds Q Qf w hl al dv h k => by
  match ds, h, dv with
  | [.int i, d], h, dv =>
    obtain ⟨x, y, rfl, dx, dy⟩ := dv2 dv
    cases dx
    obtain ⟨⟨h1, h2, h3⟩, h4⟩ := h
    exact ⟨l, xs, i, y, rfl, rfl, hl, by rw [al.len, sizeLine_eq]; omega, h2, h3, k _ _ _ _ h4 (((al.take _).app (.cons dy .nil)).app (al.drop _)) .non⟩
theorem q_insert {apos : Pos} {e2 : Expr} (ho : QE X a t) (ha : QA X [e, e2] aa) (hbase : attributeBase a "insert" X.env (eval a X.env) = eval a X.env := by rfl)
    (hfew : ((backTo pos (starEach [e, e2] X.env)).all (fun x => !x.1) && (backToKw pos (keywordEach [] X.env)).all (fun x => x.1.isSome)
      && decide ([e, e2].length + ([] : List Keyword).length + (if ([] : List Keyword).isEmpty then 0 else 1) < 30)) = true := by rfl)
    (hline : (apos.endLine == pos.line) = true := by rfl) (he : starEach [e, e2] X.env = (false, eval e X.env) :: starEach [e2] X.env := by rfl) (hplain : (backTo pos (starEach [e2] X.env)).any (·.1) = false := by rfl) :
    QE X (.Call (.Attribute a "insert" apos) [e, e2] [] pos) (dMet mIns t aa) := q_met PySem.F.plainAttrs_list PySem.F.slot_list_insert PySem.F.type_list_insert mt_insert snd_ins ho ha hbase hfew hline he hplain
/-- xs[i] = e -/
def dgSub (to ti : DE) : DG := fun d ρ S Q => to ρ S fun o S1 => ti ρ S1 fun i S2 => wh (celN o) fun n => wh (lstC S2 n) fun es => match i with
  | .int k => wh (ixN es.length k) fun j => Q ρ (put S2 n (.lst (es.set j d)))
  | _ => False
theorem DvAll.set {K : PySem.W.Frag} {m : Mp} {H : Hp} {v : V} {d : PyData} (hv : Dv K m H v d) : ∀ {xs : List V} {ds : List PyData} (i : Nat), DvAll K m H xs ds → DvAll K m H (xs.set i v) (ds.set i d)
  | _, _, _, .nil => .nil
  | _, _, 0, .cons a r => .cons hv r
  | _, _, i + 1, .cons a r => .cons a (DvAll.set hv i r)
theorem qg_sub {o i : Expr} {to ti : DE} (ho : QE X o to) (hi : QE X i ti)
    (ha : ∀ v, assign (.Subscript o i pos) X.env v = (do
      let ov ← holding [v] (eval o X.env)
      let iv ← holding [v, ov] (eval i X.env)
      standAt pos
      holding [v, ov, iv] (setItem ov iv v)
      release [v, ov, iv] []) := by intro _; rfl) : QG X (.Subscript o i pos) (dgSub to ti) := pg_weak (pg_sub ho hi set_list ha) fun v σ H Q ⟨d, B, ρ, S, m, Qd, at_, dv, q, k⟩ =>
  ⟨B, ρ, S, m, _, at_, q, fun o S1 x H1 m1 q1 e1 w1 dx => ⟨B, ρ, S1, m1, _, at_.step e1 w1, q1, fun i S2 y H2 m2 q2 e2 w2 dy => by
    obtain ⟨n, en, q2⟩ := wh_of q2
    obtain ⟨es, h3, q2⟩ := wh_of q2
    cases i <;> first | exact False.elim q2 | skip
    obtain ⟨j, ej, q2⟩ := wh_of q2
    cases dy
    obtain ⟨l, rfl, hl⟩ := celN_dv (dx.up e2) en
    obtain ⟨l', xs, h4, h5, al⟩ := w2.lst (lstC_is h3)
    rw [hl] at h4
    cases h4
    have e3 := Evo.set (o := .lst (xs.set j v)) w2 hl
    refine ⟨l, xs, _, j, rfl, rfl, h5, by rw [al.len]; exact ej, k _ _ _ _ m2 q2 ((e1.trans e2).trans e3) (((at_.step e1 w1).step e2 w2).step e3 (w2.set hl ⟨_, upd_same, (DvAll.set ((dv.up e1).up e2) j al).up e3⟩))⟩⟩⟩
/-- del xs[a:] -/
def dDelT (t : DE) (lo : DO) : DS := fun D ρ S => t ρ S fun o S1 => lo ρ S1 fun l S2 => wh (celN o) fun n => wh (lstC S2 n) fun es => match l with
  | some (.ofNat a) => a ≤ es.length ∧ D.nx ρ (put S2 n (.lst (es.take a)))
  | _ => False
theorem qs_delT {o lo : Expr} {to : DE} {tl : DO} {tpos p2 : Pos} (ho : QE X o to) (hl : QO X (some lo) tl) : QS X (.Delete [.Subscript o (.Slice (some lo) none none p2) tpos] pos) (dDelT to tl) := ps_weak (ps_delTail ho hl) fun D σ H ⟨B, ρ, S, m, Dd, at_, q, k⟩ =>
  ⟨B, ρ, S, m, _, at_, q, fun o S1 x H1 m1 q1 e1 w1 dx => ⟨B, ρ, S1, m1, _, at_.step e1 w1, q1, fun l S2 H2 m2 q2 e2 w2 => by
    obtain ⟨n, en, q2⟩ := wh_of q2
    obtain ⟨es, h3, q2⟩ := wh_of q2
    match l, q2 with
    | some (.ofNat a), q2 =>
      obtain ⟨la, q2⟩ := q2
      obtain ⟨l, rfl, hl⟩ := celN_dv (dx.up e2) en
      obtain ⟨l', xs, h4, h5, al⟩ := w2.lst (lstC_is h3)
      rw [hl] at h4
      cases h4
      have e3 := Evo.set (o := .lst (xs.take a)) w2 hl
      exact ⟨l, xs, a, rfl, rfl, h5, by rw [al.len]; exact la, k.nx _ _ _ _ m2 q2 (((at_.step e1 w1).step e2 w2).step e3 (w2.set hl ⟨_, upd_same, (al.take a).up e3⟩))⟩⟩⟩
end
end K3
namespace K3
open PySem L2
theorem pss_never_q {X : Cx} {sts : List Stmt} : QSs X sts dNever := pss_weak (pss_never) fun D σ H ⟨B, ρ, S, m, Dd, at_, q, k⟩ => q
end K3

/-! the plain layer: loops, comprehensions -/
namespace K3
open PySem L2 Xr K1
/-- an iterator that gives such items while the store is so -/
structure WkD (K : PySem.W.Frag) (m1 : Mp) (H1 : Hp) (J : It) (items : List PyData) (stay : Sto → Prop) : Prop where
  ex : ∃ (G : Hp → Prop) (Y : Nat → Hp → V → Hp → Prop), Walk J items.length G Y ∧ (∀ m H S, Ev0 m1 H1 m H → Wd K m H S → stay S → G H) ∧
    ∀ i m H S x H', Ev0 m1 H1 m H → Wd K m H S → stay S → i < items.length → Y i H x H' → ∃ d, items[i]? = some d ∧ Dv K m H' x d ∧ Evo m H m H' ∧ Wd K m H' S
abbrev DI := Rho → Sto → (List PyData → (Sto → Prop) → Sto → Prop) → Prop
def lftI (K : PySem.W.Frag) (t : DI) : TI := fun σ H R => ∃ B ρ S m Qi, At K B σ H ρ S m ∧ t ρ S Qi ∧ ∀ items stay S1 H1 m1 J, Qi items stay S1 → Evo m H m1 H1 → Wd K m1 H1 S1 → stay S1 → WkD K m1 H1 J items stay → R J H1
abbrev QI (X : Cx) (tg e : Expr) (t : DI) : Prop := PI X tg e (lftI X.K t)
theorem pi_weak {X : Cx} {tg e : Expr} {t t' : TI} (h : PI X tg e t) (i : ∀ σ H R, t' σ H R → t σ H R) : PI X tg e t' := ⟨fun pins s σ H R I q => h.run pins s σ H R I (i _ _ _ q)⟩
section
variable {X : Cx} {e a b c tg : Expr} {es rest : List Expr} {t ta tb tc : DE} {u v : DT} {pos : Pos} {aa : DA} {s1 : Stmt} {sts : List Stmt} {d1 d2 : DS} {g : DG} {gs : DGs} {di : DI}
/-- a list, a tuple, a text -/
def iAny (K : PySem.W.Frag) (tl : TE) : TI := fun σ H R => tl σ H fun x H1 => (∃ a, x = .ref a ∧ (((∃ xs, SqL K H1 a xs) ∧ R (Itl K a) H1) ∨ ((∃ xs, SqT K H1 a xs) ∧ R (Itt K a) H1))) ∨ ∃ z, x = .str z ∧ R (Its z) H1
theorem pi_any {l : Expr} {tl : TE} (hl : PE X l tl) : PI X tg l (iAny X.K tl) := by
  refine ⟨fun pins s σ H R I h => ?_⟩
  refine thn (hl.run pins s σ H _ I h) fun v s1 ⟨x, H1, I1, r1, q1⟩ => ?_
  rcases q1 with ⟨a, e, q1⟩ | ⟨z, e, q⟩
  · subst e
    cases r1
    rcases q1 with ⟨⟨xs, hq⟩, q⟩ | ⟨⟨xs, hq⟩, q⟩
    · obtain ⟨its, rv, p, hz⟩ := I1.list hq
      refine wpAny_pyIter_list p.isList ?_
      refine ⟨s1.heap.objs.size, [s1.heap.objs.size], _, _, H1, rfl, I1.kept (t' := s1.toks) fun b o e => Heap.get?_push_of_some _ e, turn_list a _, ⟨_, Heap.get?_push_size _ rfl, rfl, rfl⟩, fun b hb => ?_, q⟩
      have e : b = s1.heap.objs.size := by simpa using hb
      subst e
      exact I1.fpOk (Nat.le_refl _) (I1.hok.fresh (Nat.le_refl _))
    · obtain ⟨its, rv, p, hz⟩ := I1.tuple hq
      refine wpAny_pyIter_tuple (show s1.heap.IsTuple a its.toArray from p) ?_
      refine ⟨s1.heap.objs.size, [s1.heap.objs.size], _, _, H1, rfl, I1.kept (t' := s1.toks) fun b o e => Heap.get?_push_of_some _ e, turn_tuple a _, ⟨_, Heap.get?_push_size _ rfl, rfl, rfl⟩, fun b hb => ?_, q⟩
      have e : b = s1.heap.objs.size := by simpa using hb
      subst e
      exact I1.fpOk (Nat.le_refl _) (I1.hok.fresh (Nat.le_refl _))
  · subst e
    obtain ⟨t, rfl⟩ := r1
    cases ha : z.cps.all (· < 128)
    · exact wpAny_pyIter_wide ha (pi_one (tk := s1.toks) I1 _ (turn_str _ z t "str_iterator" (.inr rfl)) ⟨_, Heap.get?_push_size _ rfl, rfl, rfl⟩ q)
    · exact wpAny_pyIter_ascii ha (pi_one (tk := s1.toks) I1 _ (turn_str _ z t "str_ascii_iterator" (.inl rfl)) ⟨_, Heap.get?_push_size _ rfl, rfl, rfl⟩ q)
/-- what a for walks, and while what is so -/
def signs (z : Str) : List PyData := z.cps.toList.map fun c => .str ⟨#[c]⟩
def walkD (S : Sto) : PyData → Option (List PyData × (Sto → Prop))
  | .str z => some (signs z, fun _ => True)
  | .dict [(.int (.ofNat n), .none)] => (lstC S n).map fun ds => (ds, fun S' => S' n = some (.lst ds))
  | o => (itemsD S o).map fun ds => (ds, fun _ => True)
theorem wk_tup {K : PySem.W.Frag} {m : Mp} {H : Hp} {p : Addr} {xs : List V} {ds : List PyData} {stay : Sto → Prop} (hs : ∀ m' H', Ev0 m H m' H' → SqT K H' p xs) (al : DvAll K m H xs ds) : WkD K m H (Itt K p) ds stay := by
  refine ⟨fun H => SqT K H p xs, YAt xs, by rw [← al.len]; exact walk_tup, fun m' H' S e w st => hs _ _ e, fun i m' H' S x H2 e w st hi y => ?_⟩
  obtain ⟨rfl, hx⟩ := y
  obtain ⟨d, hd, dv⟩ := (al.up0 e).getV hx
  exact ⟨d, hd, dv, Evo.refl, w⟩
theorem sqT_up {K : PySem.W.Frag} {m : Mp} {H : Hp} {v : V} {ds : List PyData} (dx : Dv K m H v (.tuple ds)) : ∃ p xs, v = .ref p ∧ SqT K H p xs ∧ DvAll K m H xs ds ∧ ∀ m' H', Ev0 m H m' H' → SqT K H' p xs := by
  cases dx with
  | tup e n al => exact ⟨_, _, rfl, SqT.of e, al, fun m' H' ev => SqT.of (ev.kp _ _ e n).1⟩
  | con e al => exact ⟨_, _, rfl, e.sq, al, fun m' H' ev => e.sq⟩
theorem walk_ok {K : PySem.W.Frag} {m : Mp} {H : Hp} {S : Sto} {x : V} {d : PyData} {items : List PyData} {stay : Sto → Prop} (w : Wd K m H S) (dx : Dv K m H x d) (h : walkD S d = some (items, stay)) :
    stay S ∧ ((∃ a, x = .ref a ∧ (((∃ xs, SqL K H a xs) ∧ WkD K m H (Itl K a) items stay) ∨ ((∃ xs, SqT K H a xs) ∧ WkD K m H (Itt K a) items stay))) ∨ ∃ z, x = .str z ∧ WkD K m H (Its z) items stay) := by
  cases dx with
  | non => cases h
  | bl _ => cases h
  | int _ => cases h
  | glo _ => cases h
  | ins => cases h
  | exd => cases h
  | frz e _ n al =>
    cases h
    exact ⟨trivial, .inl ⟨_, rfl, .inr ⟨⟨_, .inl (.inr ⟨_, e⟩)⟩, wk_tup (fun m' H' ev => .inl (.inr ⟨_, (ev.kp _ _ e n).1⟩)) al⟩⟩⟩
  | str z =>
    cases h
    refine ⟨trivial, .inr ⟨z, rfl, fun _ => True, fun i H v H' => H' = H ∧ ∃ c, z.cps[i]? = some c ∧ v = .str ⟨#[c]⟩, ?_, fun _ _ _ _ _ _ => trivial, fun i m' H' S x H2 e w st hi y => ?_⟩⟩
    · have : (signs z).length = z.cps.size := by unfold signs; simp
      rw [this]
      exact walk_str
    · obtain ⟨rfl, c, hc, rfl⟩ := y
      refine ⟨.str ⟨#[c]⟩, ?_, .str _, Evo.refl, w⟩
      unfold signs
      rw [List.getElem?_map]
      have : z.cps.toList[i]? = some c := by rw [Array.getElem?_toList]; exact hc
      rw [this]
      rfl
  | tup e n al =>
    cases h
    exact ⟨trivial, .inl ⟨_, rfl, .inr ⟨⟨_, SqT.of e⟩, wk_tup (fun m' H' ev => SqT.of (ev.kp _ _ e n).1) al⟩⟩⟩
  | con e al =>
    cases h
    exact ⟨trivial, .inl ⟨_, rfl, .inr ⟨⟨_, e.sq⟩, wk_tup (fun m' H' ev => e.sq) al⟩⟩⟩
  | @lst p xs ds e n al =>
    cases h
    refine ⟨trivial, .inl ⟨_, rfl, .inl ⟨⟨_, SqL.of e⟩, fun H => SqL K H p xs, YAt xs, by rw [← al.len]; exact walk_list, fun m' H' S ev w st => SqL.of (ev.kp _ _ e n).1, fun i m' H' S x H2 ev w st hi y => ?_⟩⟩⟩
    obtain ⟨rfl, hx⟩ := y
    obtain ⟨d, hd, dv⟩ := (al.up0 ev).getV hx
    exact ⟨d, hd, dv, Evo.refl, w⟩
  | @cel p n e =>
    have h' : (lstC S n).map (fun ds => (ds, fun S' : Sto => S' n = some (Cell.lst ds))) = some (items, stay) := h
    cases hs : lstC S n with
    | none => rw [hs] at h'; cases h'
    | some ds =>
      rw [hs] at h'
      cases h'
      have hc := lstC_is hs
      obtain ⟨p', xs0, e1, e2, al0⟩ := w.lst hc
      rw [e] at e1
      cases e1
      refine ⟨hc, .inl ⟨_, rfl, .inl ⟨⟨_, SqL.of e2⟩, fun H => ∃ xs, SqL K H p xs ∧ xs.length = items.length, fun i H1 x H2 => H2 = H1 ∧ ∀ xs, SqL K H1 p xs → xs[i]? = some x, ?_, ?_, ?_⟩⟩⟩
      · exact ⟨fun i H1 hi ⟨xs, q, l⟩ => ⟨xs, xs[i]'(by omega), q, by simp [show i < xs.length by omega]⟩, fun H1 ⟨xs, q, l⟩ => ⟨xs, q, by omega⟩, fun i H1 x H2 hi g y => ⟨y.1, y.2⟩⟩
      · intro m' H' S' ev w' st
        obtain ⟨p', xs, e3, e4, al⟩ := w'.lst st
        rw [ev.ext _ _ e] at e3
        cases e3
        exact ⟨xs, SqL.of e4, al.len⟩
      · intro i m' H' S' x H2 ev w' st hi y
        obtain ⟨rfl, y⟩ := y
        obtain ⟨p', xs, e3, e4, al⟩ := w'.lst st
        rw [ev.ext _ _ e] at e3
        cases e3
        obtain ⟨d, hd, dv⟩ := al.getV (y xs (SqL.of e4))
        exact ⟨d, hd, dv, Evo.refl, w'⟩
def dWalk (t : DE) : DI := fun ρ S Q => t ρ S fun d S1 => wh (walkD S1 d) fun w => Q w.1 w.2 S1
theorem qi_any (he : QE X e t) : QI X tg e (dWalk t) := pi_weak (pi_any he) fun σ H R ⟨B, ρ, S, m, Qi, at_, q, k⟩ => ⟨B, ρ, S, m, _, at_, q, fun d S1 x H1 m1 q1 e1 w1 dx => by
  obtain ⟨⟨items, stay⟩, h1, h2⟩ := wh_of q1
  obtain ⟨st, h3⟩ := walk_ok w1 dx h1
  rcases h3 with ⟨a, rfl, ⟨hx, wk⟩ | ⟨hx, wk⟩⟩ | ⟨z, rfl, wk⟩
  · exact .inl ⟨a, rfl, .inl ⟨hx, k _ _ _ _ _ _ h2 e1 w1 st wk⟩⟩
  · exact .inl ⟨a, rfl, .inr ⟨hx, k _ _ _ _ _ _ h2 e1 w1 st wk⟩⟩
  · exact .inr ⟨z, rfl, k _ _ _ _ _ _ h2 e1 w1 st wk⟩⟩
/-! ranges -/
def rangeD (lo c : Int) (n : Nat) : List PyData := (List.range n).map fun i => .int (lo + (i : Nat) * c)
theorem rangeD_len (lo c : Int) (n : Nat) : (rangeD lo c n).length = n := by unfold rangeD; simp
theorem rangeD_get {lo c : Int} {n i : Nat} (h : i < n) : (rangeD lo c n)[i]? = some (.int (lo + (i : Nat) * c)) := by
  unfold rangeD
  rw [List.getElem?_map, List.getElem?_range h]
  rfl
theorem wk_range {K : PySem.W.Frag} {m : Mp} {H : Hp} {lo : Int} {n : Nat} : WkD K m H (Itr lo n) (rangeD lo 1 n) fun _ => True := by
  refine ⟨fun _ => True, YFn fun i => .int (lo + i), by rw [rangeD_len]; exact walk_range, fun _ _ _ _ _ _ => trivial, fun i m' H' S x H2 e w st hi y => ?_⟩
  obtain ⟨rfl, rfl⟩ := y
  rw [rangeD_len] at hi
  refine ⟨_, rangeD_get hi, ?_, Evo.refl, w⟩
  rw [Int.mul_one]
  exact .int _
theorem wk_rangeC {K : PySem.W.Frag} {m : Mp} {H : Hp} {lo c : Int} {n : Nat} : WkD K m H (Itc lo c n) (rangeD lo c n) fun _ => True := by
  refine ⟨fun _ => True, YFn fun i => .int (lo + (i : Nat) * c), by rw [rangeD_len]; exact walk_rangeC, fun _ _ _ _ _ _ => trivial, fun i m' H' S x H2 e w st hi y => ?_⟩
  obtain ⟨rfl, rfl⟩ := y
  rw [rangeD_len] at hi
  exact ⟨_, rangeD_get hi, .int _, Evo.refl, w⟩
def small62 (i : Int) : Prop := -4611686018427387904 ≤ i ∧ i < 4611686018427387904
def dRange1 (aa : DA) : DI := fun ρ S Q => aa ρ S fun ds S1 => match ds with
  | [.int j] => small62 j ∧ Q (rangeD 0 1 j.toNat) (fun _ => True) S1
  | _ => False
def dRange2 (aa : DA) : DI := fun ρ S Q => aa ρ S fun ds S1 => match ds with
  | [.int i, .int j] => (small62 i ∧ small62 j) ∧ Q (rangeD i 1 (j - i).toNat) (fun _ => True) S1
  | _ => False
/-- counting down by one -/
def dRange3 (aa : DA) : DI := fun ρ S Q => aa ρ S fun ds S1 => match ds with
  | [.int i, .int j, .int c] => (c = -1 ∧ small62 i ∧ small62 j) ∧ Q (rangeD i (-1) (i - j).toNat) (fun _ => True) S1
  | _ => False
theorem qi_range1 {p : Pos} (hm : X.mg "range" = none) (hg : Gl X "range") (ha : QA X [a] aa) (hs : starEach [a] X.env = [(false, eval a X.env)] := by rfl) : QI X tg (.Call (.Name "range" p) [a] [] pos) (dRange1 aa) := pi_weak (pi_range1 hg hm ha hs) fun σ H R ⟨B, ρ, S, m, Qi, at_, q, k⟩ =>
  ⟨B, ρ, S, m, _, at_, q, fun ds S1 vs H1 m1 q1 e1 w1 dv => by
    match ds, q1, dv with
    | [.int j], q1, dv =>
      obtain ⟨x, rfl, dx⟩ := dv1 dv
      cases dx
      obtain ⟨⟨h1, h2⟩, h3⟩ := q1
      exact ⟨j, rfl, h1, h2, k _ _ _ _ _ _ h3 e1 w1 trivial wk_range⟩⟩
theorem qi_range2 {p : Pos} (hm : X.mg "range" = none) (hg : Gl X "range") (ha : QA X [a, b] aa) (hs : starEach [a, b] X.env = [(false, eval a X.env), (false, eval b X.env)] := by rfl) (hs2 : starEach [b] X.env = [(false, eval b X.env)] := by rfl) : QI X tg (.Call (.Name "range" p) [a, b] [] pos) (dRange2 aa) := pi_weak (pi_range2 hg hm ha hs hs2) fun σ H R ⟨B, ρ, S, m, Qi, at_, q, k⟩ =>
  ⟨B, ρ, S, m, _, at_, q, fun ds S1 vs H1 m1 q1 e1 w1 dv => by
    match ds, q1, dv with
    | [.int i, .int j], q1, dv =>
      obtain ⟨x, y, rfl, dx, dy⟩ := dv2 dv
      cases dx
      cases dy
      obtain ⟨⟨⟨h1, h2⟩, h3, h4⟩, h5⟩ := q1
      exact ⟨i, j, rfl, ⟨h1, h2, h3, h4⟩, k _ _ _ _ _ _ h5 e1 w1 trivial wk_range⟩⟩
theorem qi_range3 {p : Pos} (hm : X.mg "range" = none) (hg : Gl X "range") (ha : QA X [a, b, c] aa) (hs : starEach [a, b, c] X.env = (false, eval a X.env) :: starEach [b, c] X.env := by rfl) (hpl : (backTo pos (starEach [b, c] X.env)).any (·.1) = false := by rfl) : QI X tg (.Call (.Name "range" p) [a, b, c] [] pos) (dRange3 aa) := pi_weak (pi_range3 hg hm ha hs hpl) fun σ H R ⟨B, ρ, S, m, Qi, at_, q, k⟩ =>
  ⟨B, ρ, S, m, _, at_, q, fun ds S1 vs H1 m1 q1 e1 w1 dv => by
    match ds, q1, dv with
    | [.int i, .int j, .int c], q1, dv =>
      obtain ⟨x, y, z, rfl, dx, dy, dz⟩ := dv3 dv
      cases dx
      cases dy
      cases dz
      obtain ⟨⟨rfl, ⟨h1, h2⟩, h3, h4⟩, h5⟩ := q1
      exact ⟨i, j, -1, _, rfl, RgC.neg h1 h2 h3 h4, k _ _ _ _ _ _ h5 e1 w1 trivial wk_rangeC⟩⟩
/-! enumerate -/
def enumD (ds : List PyData) : List PyData := ds.zipIdx.map fun p => .tuple [.int (p.2 : Nat), p.1]
theorem enumD_len (ds : List PyData) : (enumD ds).length = ds.length := by unfold enumD; simp
theorem enumD_get {ds : List PyData} {i : Nat} {d : PyData} (h : ds[i]? = some d) : (enumD ds)[i]? = some (.tuple [.int (i : Nat), d]) := by
  unfold enumD
  rw [List.getElem?_map, List.getElem?_zipIdx, h]
  simp
theorem pair_new {K : PySem.W.Frag} {m : Mp} {H : Hp} {S : Sto} {T : Addr} {x y : V} {a b : PyData} (w : Wd K m H S) (hT : H T = none) (dx : Dv K m H x a) (dy : Dv K m H y b) : Dv K m (upd H T (.tup [x, y])) (.ref T) (.tuple [a, b]) :=
  .tup upd_same (w.noCe hT) (.cons (dx.up (Evo.new w hT)) (.cons (dy.up (Evo.new w hT)) .nil))
theorem wk_enumT {K : PySem.W.Frag} {m : Mp} {H : Hp} {p : Addr} {xs : List V} {ds : List PyData} (hs : ∀ m' H', Ev0 m H m' H' → SqT K H' p xs) (al : DvAll K m H xs ds) : WkD K m H (IteT K p) (enumD ds) fun _ => True := by
  refine ⟨fun H => SqT K H p xs, YPair (fun i => some (.int (i : Nat))) (fun i => xs[i]?), by rw [enumD_len, ← al.len]; exact walk_enumT, fun m' H' S e w st => hs _ _ e, fun i m' H' S x H2 e w st hi y => ?_⟩
  obtain ⟨T, u, v, rfl, hT, rfl, e1, e2⟩ := y
  cases e1
  obtain ⟨d, hd, dv⟩ := (al.up0 e).getV e2
  exact ⟨_, enumD_get hd, pair_new w hT (.int _) dv, Evo.new w hT, w.new hT⟩
def dEnumT (aa : DA) : DI := fun ρ S Q => aa ρ S fun ds S1 => match ds with
  | [.tuple es] => Q (enumD es) (fun _ => True) S1
  | _ => False
theorem qi_enumT {p tpos : Pos} {elts : List Expr} {kk : Nat} (hm : X.mg "enumerate" = none) (hg : Gl X "enumerate") (ha : QA X [e] aa) (hs : starEach [e] X.env = [(false, eval e X.env)] := by rfl) : QI X (.Tuple elts kk tpos) (.Call (.Name "enumerate" p) [e] [] pos) (dEnumT aa) := pi_weak (pi_enumT hg hm ha hs) fun σ H R ⟨B, ρ, S, m, Qi, at_, q, k⟩ =>
  ⟨B, ρ, S, m, _, at_, q, fun ds S1 vs H1 m1 q1 e1 w1 dv => by
    match ds, q1, dv with
    | [.tuple es], q1, dv =>
      obtain ⟨x, rfl, dx⟩ := dv1 dv
      obtain ⟨p, xs, rfl, hx, al, hs⟩ := sqT_up dx
      exact ⟨p, xs, rfl, hx, k _ _ _ _ _ _ q1 e1 w1 trivial (wk_enumT hs al)⟩⟩
/-! for -/
def dFor (di : DI) (g : DG) (tb : DS) : DS := fun D ρ S => di ρ S fun items stay S1 => ∃ W : Nat → Rho → Sto → Prop, W 0 ρ S1 ∧ (∀ i ρ S, W i ρ S → stay S) ∧
  (∀ i d ρ S, items[i]? = some d → W i ρ S → g d ρ S fun ρ2 S2 => tb { D with nx := W (i + 1), ct := W (i + 1), bk := D.nx } ρ2 S2) ∧ ∀ ρ S, W items.length ρ S → D.nx ρ S
theorem qs_for {body : List Stmt} (hp : PassesOwn (model X.prog X.w) X.A X.env X.xe) (hc : X.calm = true) (hi : QI X tg e di) (hg : QG X tg g) (hb : QSs X body d1)
    (hs : ∀ x, foldedSetIterable e X.env x = pure x := by intro _; rfl) : QS X (.For tg e body [] pos) (dFor di g d1) := ps_weak (ps_for hp hc hi hg hb hs) fun D σ H ⟨B, ρ, S, m, Dd, at_, q, k⟩ =>
  ⟨B, ρ, S, m, _, at_, q, fun items stay S1 H1 m1 J q1 e1 w1 st1 wk => by
    obtain ⟨W, h0, hst, hstep, hdone⟩ := q1
    obtain ⟨G, Y, walk, hG, hY⟩ := wk.ex
    have eb : Evo B.1 B.2 m1 H1 := at_.ev.trans e1
    refine for_it walk (fun i σ H => ∃ ρ S m, At X.K (m1, H1) σ H ρ S m ∧ W i ρ S) ⟨ρ, S1, m1, ⟨Evo.refl, w1, (at_.step e1 w1).fr⟩, h0⟩ ?_ ?_ ?_
    · rintro i σ H _ ⟨ρ, S, m, at_, hW⟩
      exact hG m H S at_.ev.toEv0 at_.wd (hst i ρ S hW)
    · rintro i x σ H H' hi ⟨ρ, S, m, at_, hW⟩ y
      obtain ⟨d, hd, dv, e2, w2⟩ := hY i m H S x H' at_.ev.toEv0 at_.wd (hst i ρ S hW) hi y
      refine ⟨d, (m1, H1), ρ, S, m, _, at_.step e2 w2, dv, hstep i d ρ S hd hW, fun ρ' S' σ' H2 m2 q2 _ at2 => ⟨(m1, H1), ρ', S', m2, _, at2, q2, ?_⟩⟩
      exact ⟨fun ρ S σ H m q a => ⟨ρ, S, m, a, q⟩, fun d S v H m q e w dv => k.rt _ _ _ _ _ q (eb.trans e) w dv, fun ρ S σ H m q a => k.nx _ _ _ _ _ q (At.base (B1 := (m1, H1)) eb a), fun ρ S σ H m q a => ⟨ρ, S, m, a, q⟩, k.xt.base (B1 := (m1, H1)) eb⟩
    · rintro σ H ⟨ρ, S, m, at_, hW⟩
      exact k.nx _ _ _ _ _ (hdone ρ S hW) (At.base (B1 := (m1, H1)) eb at_)⟩
/-! while -/
def dWhile (c : DT) (tb : DS) : DS := fun D ρ S => ∃ W : Nat → Rho → Sto → Prop, (∃ n, W n ρ S) ∧ ∀ n ρ S, W n ρ S →
  c ρ S fun b S1 => if b = true then tb { D with nx := fun ρ' S' => ∃ n', n' < n ∧ W n' ρ' S', ct := fun ρ' S' => ∃ n', n' < n ∧ W n' ρ' S', bk := D.nx } ρ S1 else D.nx ρ S1
theorem qs_while {body : List Stmt} (hp : PassesOwn (model X.prog X.w) X.A X.env X.xe) (hc : QT X c u) (hb : QSs X body d1) : QS X (.While c body [] pos) (dWhile u d1) := ps_weak (ps_while hp hc hb) fun D σ H ⟨B, ρ, S, m, Dd, at_, q, k⟩ => by
  obtain ⟨W, ⟨n0, h0⟩, hstep⟩ := q
  refine ⟨fun n σ H => ∃ ρ S m, At X.K B σ H ρ S m ∧ W n ρ S, ⟨n0, ρ, S, m, at_, h0⟩, ?_⟩
  rintro n σ H ⟨ρ, S, m, at_, hW⟩
  refine ⟨B, ρ, S, m, _, at_, hstep n ρ S hW, fun b S1 H1 m1 q e w => ?_⟩
  cases b with
  | true =>
    refine iteT ⟨fun σ' H' => ∃ n', n' < n ∧ ∃ ρ S m, At X.K B σ' H' ρ S m ∧ W n' ρ S, fun σ' H' z => z, B, ρ, S1, m1, _, at_.step e w, q, ?_⟩
    exact ⟨fun ρ S σ H m ⟨n', l, q⟩ a => ⟨n', l, ρ, S, m, a, q⟩, k.rt, k.nx, fun ρ S σ H m ⟨n', l, q⟩ a => ⟨n', l, ρ, S, m, a, q⟩, k.xt⟩
  | false => exact iteF (k.nx _ _ _ _ _ q (at_.step e w))
/-! comprehensions -/
theorem Fr.up0 {K : PySem.W.Frag} {m m' : Mp} {H H' : Hp} (e : Ev0 m H m' H') : ∀ (σ : L2.St) (ρ : Rho), Fr K m H σ ρ → Fr K m' H' σ ρ
  | [], [], _ => trivial
  | x :: σ, d :: ρ, h => ⟨fun z q => by
      obtain ⟨v, h1, h2⟩ := h.1 z q
      exact ⟨v, h1, h2.up0 e⟩, Fr.up0 e σ ρ h.2⟩
  | [], _ :: _, h => h.elim
  | _ :: _, [], h => h.elim
/-- what is bound at each turn -/
structure Bnd (K : PySem.W.Frag) (g : TG) (bd : PyData → Rho → Option Rho) (vs : List Nat) : Prop where
  ok : ∀ (m : Mp) (H : Hp) (d : PyData) (v : V) (ρ ρ' : Rho) (σ : L2.St) (Q : L2.St → Hp → Prop), Dv K m H v d → Fr K m H σ ρ → bd d ρ = some ρ' → (∀ σ', Fr K m H σ' ρ' → wipe σ' vs = wipe σ vs → Q σ' H) → g v σ H Q
theorem bnd_one {K : PySem.W.Frag} {i : Nat} {vs : List Nat} (h : i ∈ vs) : Bnd K (gName i) (fun d ρ => some (st ρ i d)) vs := ⟨fun m H d v ρ ρ' σ Q dv f e k => by
  cases e
  exact k _ (f.set dv _ _ i) (wipe_set_mem vs σ i h)⟩
def tupNms (is : List Nat) : PyData → Rho → Option Rho
  | .tuple ds, ρ => dNms is ds ρ
  | _, _ => none
theorem dNms_len : ∀ (is : List Nat) (ds : List PyData) (ρ ρ' : Rho), dNms is ds ρ = some ρ' → ds.length = is.length
  | [], [], _, _, _ => rfl
  | i :: is, d :: ds, ρ, ρ', e => by rw [List.length_cons, List.length_cons, dNms_len is ds _ ρ' e]
  | [], _ :: _, _, _, e => nomatch e
  | _ :: _, [], _, _, e => nomatch e
theorem bnd_tup {K : PySem.W.Frag} {is : List Nat} {vs : List Nat} (h : ∀ i ∈ is, i ∈ vs) : Bnd K (gTup K is.length (gNms is)) (tupNms is) vs := ⟨fun m H d v ρ ρ' σ Q dv f e k => by
  obtain ⟨ds, rfl⟩ : ∃ ds, d = .tuple ds := by
    cases d <;> first | exact ⟨_, rfl⟩ | cases e
  have e' : dNms is ds ρ = some ρ' := e
  obtain ⟨p, xs, rfl, hx, al⟩ := dv.seqT
  exact ⟨p, xs, rfl, hx, by rw [al.len, dNms_len is ds ρ ρ' e'], nms_dv is ds ρ ρ' xs σ Q al f e' fun σ' f' hw => k σ' f' (hw vs h)⟩⟩
/-- [elt for .. in .. if ..]: W by the turn, what is made so far, the store -/
def dLc (di : DI) (bd : PyData → Rho → Option Rho) (tt : DT) (te : DE) (vs : List Nat) : DE := fun ρ S Q => di ρ S fun items stay S1 => ∃ W : Nat → List PyData → Sto → Prop, W 0 [] S1 ∧ (∀ i acc S, W i acc S → stay S ∧ acc.length < 1000000) ∧
  (∀ i d acc S, items[i]? = some d → W i acc S → wh (bd d (uns ρ vs)) fun ρ2 => tt ρ2 S fun b S2 => if b = true then te ρ2 S2 fun y S3 => W (i + 1) (acc ++ [y]) S3 else W (i + 1) acc S2) ∧
  ∀ acc S, W items.length acc S → Q (.list acc) S
theorem wipe_wipe {σ : L2.St} {vs : List Nat} : ∀ {ws : List Nat}, (∀ i ∈ ws, i ∈ vs) → wipe (wipe σ ws) vs = wipe σ vs
  | [], _ => rfl
  | w :: ws, h => by
    show wipe ((wipe σ ws).set w none) vs = wipe σ vs
    rw [wipe_set_mem vs _ w (h w List.mem_cons_self), wipe_wipe fun i hi => h i (List.mem_cons_of_mem _ hi)]
theorem lc_dv {K : PySem.W.Frag} {g : TG} {bd : PyData → Rho → Option Rho} {tt : DT} {te : DE} {vs : List Nat} {σ : L2.St} {H : Hp} {Q : VK} (hb : Bnd K g bd vs) (h : lft K (dLc di bd tt te vs) σ H Q) : tLc (lftI K di) g (lftT K tt) (lft K te) vs σ H Q := by
  obtain ⟨B, ρ, S, m, Qd, at_, q, k⟩ := h
  refine ⟨B, ρ, S, m, _, at_, q, fun items stay S1 H1 m1 J q1 e1 w1 st1 wk => ?_⟩
  obtain ⟨W, h0, hst, hstep, hdone⟩ := q1
  obtain ⟨G, Y, walk, hG, hY⟩ := wk.ex
  intro D hD
  have ev1 : Ev0 m1 H1 (hide m1 D) (upd H1 D (.lst [])) := Ev0.hide w1 hD
  have fr1 := (at_.step e1 w1).fr
  -- at a turn: what is made so far stands hidden at D
  refine lc_it walk (fun i H => ∃ (acc : List PyData) (S : Sto) (m : Mp) (xs : List V), W i acc S ∧ Ev0 m1 H1 m H ∧ Wd K m H S ∧ (∀ a, m.z a ↔ (a = D ∨ m1.z a)) ∧ (∀ a o, m1.z a → H1 a = some o → H a = some o) ∧ H D = some (.lst xs) ∧ DvAll K m H xs acc) ?_ ?_ ?_ ?_
  · exact ⟨[], S1, hide m1 D, [], h0, ev1, w1.hide hD, fun a => Iff.rfl, fun a o z e => by rw [upd_ne (ne_of_none e hD)]; exact e, upd_same, .nil⟩
  · rintro i H _ ⟨acc, S, m, xs, hW, ev, w, _, _, _, _⟩
    exact hG m H S ev w (hst i acc S hW).1
  · rintro i x H H' hi ⟨acc, S, m, xs, hW, ev, w, hz, hk, hH, al⟩ y
    obtain ⟨d, hd, dv, e2, w2⟩ := hY i m H S x H' ev w (hst i acc S hW).1 hi y
    obtain ⟨ρ2, hb2, q2⟩ := wh_of (hstep i d acc S hd hW)
    have lacc := (hst i acc S hW).2
    have zD : m.z D := (hz D).mpr (.inl rfl)
    have H'D : H' D = some (.lst xs) := e2.zk D _ zD hH
    have ev2 : Ev0 m1 H1 m H' := ev.trans e2.toEv0
    have frw : Fr K m H' (wipe σ vs) (uns ρ vs) := (Fr.up0 ev2 _ _ fr1).wipe _ _ vs
    refine hb.ok m H' d x (uns ρ vs) ρ2 (wipe σ vs) _ dv frw hb2 fun σ' f' hw' => ⟨?_, ?_⟩
    · rw [hw', wipe_wipe fun _ z => z]
    · refine ⟨(m, H'), ρ2, S, m, _, ⟨Evo.refl, w2, f'⟩, q2, fun b S2 H2 m2 q3 e3 w3 => ?_⟩
      have hk2 : ∀ a o, m1.z a → H1 a = some o → H2 a = some o := fun a o z e => e3.zk a o ((hz a).mpr (.inr z)) (e2.zk a o ((hz a).mpr (.inr z)) (hk a o z e))
      have hz2 : ∀ a, m2.z a ↔ (a = D ∨ m1.z a) := fun a => (e3.hz a).trans (hz a)
      have H2D : H2 D = some (.lst xs) := e3.zk D _ zD H'D
      cases b with
      | false => exact iteF ⟨acc, S2, m2, xs, q3, ev2.trans e3.toEv0, w3, hz2, hk2, H2D, (al.up e2).up e3⟩
      | true =>
        refine iteT ⟨(m, H'), ρ2, S2, m2, _, ⟨e3, w3, f'.up e3⟩, q3, fun y S3 v H3 m3 q4 e4 w4 dy => ?_⟩
        have zD2 : m2.z D := (hz2 D).mpr (.inl rfl)
        have H3D : H3 D = some (.lst xs) := e4.zk D _ zD2 H2D
        have zD3 : m3.z D := (e4.hz D).mpr zD2
        have al3 := ((al.up e2).up e3).up e4
        refine ⟨xs, H3D, by rw [al3.len, sizeLine_eq]; omega, acc ++ [y], S3, m3, xs ++ [v], q4, ?_, w4.turn zD3, fun a => (e4.hz a).trans (hz2 a), fun a o z e => ?_, upd_same, (al3.app (.cons dy .nil)).up0 (Ev0.turn zD3)⟩
        · exact ((ev2.trans e3.toEv0).trans e4.toEv0).trans (Ev0.turn zD3)
        · have : a ≠ D := ne_of_none e hD
          rw [upd_ne this]
          exact e4.zk a o ((hz2 a).mpr (.inr z)) (hk2 a o z e)
  · rintro H ⟨acc, S, m, xs, hW, ev, w, hz, hk, hH, al⟩
    have q := hdone acc S hW
    have nz : ¬ m1.z D := fun z => by
      obtain ⟨o, e⟩ := w1.ztr D z
      rw [hD] at e
      cases e
    have e5 : Evo m1 H1 (bare m D) H := ⟨ev.trans Ev0.bare, fun a => by
      show (a ≠ D ∧ m.z a) ↔ m1.z a
      rw [hz a]
      constructor
      · rintro ⟨h1, h2⟩
        exact h2.resolve_left h1
      · intro h1
        exact ⟨fun e => nz (by rw [← e]; exact h1), .inr h1⟩, hk⟩
    have zD : m.z D := (hz D).mpr (.inl rfl)
    have nc : ∀ n, m.c n ≠ some D := fun n e => w.hid n D e zD
    refine k _ _ _ _ _ q (e1.trans e5) w.bare (.lst hH ?_ (al.up0 Ev0.bare))
    rintro (⟨n, e⟩ | e)
    · exact nc n e
    · exact e.1 rfl
end
section
variable {X : Cx} {e tg elt : Expr} {di : DI} {tt : DT} {te : DE} {pos : Pos}
def dYes : DT := fun _ S Q => Q true S
structure QTs (X : Cx) (ifs : List Expr) (t : DT) : Prop where
  p : PTs X ifs (lftT X.K t)
theorem qts_nil : QTs X [] dYes := ⟨⟨fun pins s σ H Q I ⟨B, ρ, S, m, Qd, at_, q, k⟩ => pts_nil.run pins s σ H Q I (k _ S H m q Evo.refl at_.wd)⟩⟩
theorem qts_one {c : Expr} {u : DT} (h : QT X c u) : QTs X [c] u := ⟨pts_one h⟩
theorem q_lc {ifs : List Expr} {scope : Scope} {own : List (Str × Nat)} {g : TG} {bd : PyData → Rho → Option Rho} (hc : X.calm = true) (hN : X.N.Nodup) (hi : QI X tg e di) (ok : BlkOk X.N X.env.scope scope own) (hbd : Bnd X.K g bd (own.map (·.2)))
    (hg : ∀ (s : Shared) (H : Hp) (C : Addr) (cl : List (Str × Addr)) (fp : List Addr), PG (X.blk s H scope (compEnvC scope cl C X.env) fp) tg g) (ht : ∀ (s : Shared) (H : Hp) (C : Addr) (cl : List (Str × Addr)) (fp : List Addr), QTs (X.blk s H scope (compEnvC scope cl C X.env) fp) ifs tt)
    (he : ∀ (s : Shared) (H : Hp) (C : Addr) (cl : List (Str × Addr)) (fp : List Addr), QE (X.blk s H scope (compEnvC scope cl C X.env) fp) elt te) (hs : ∀ x, foldedSetIterable e X.env x = pure x := by intro _; rfl) :
    QE X (.ListComp elt [⟨tg, e, ifs, 0⟩] scope pos) (dLc di bd tt te (own.map (·.2))) := pe_weak (pe_lc (own := own) (g := g) hc hN hi ok hg (fun s H C cl fp => (ht s H C cl fp).p) he hs) fun σ H Q h => lc_dv hbd h
theorem qs_setLc {i : Nat} {y : Str} {py spos : Pos} {ifs : List Expr} {scope : Scope} {own : List (Str × Nat)} {g : TG} {bd : PyData → Rho → Option Rho} (hc : X.calm = true) (hN : X.N.Nodup) (hy : X.N[i]? = some y) (hyl : X.env.scope.names.lookup y = some .local)
    (hsw : swapsWith (.ListComp elt [⟨tg, e, ifs, 0⟩] scope pos) (some (.Name y py)) spos.line X.env = pure true) (hi : QI X tg e di) (ok : BlkOk X.N X.env.scope scope own) (hbd : Bnd X.K g bd (own.map (·.2)))
    (hg : ∀ (s : Shared) (H : Hp) (C : Addr) (cl : List (Str × Addr)) (fp : List Addr), PG (X.blk s H scope (compEnvC scope cl C X.env) fp) tg g) (ht : ∀ (s : Shared) (H : Hp) (C : Addr) (cl : List (Str × Addr)) (fp : List Addr), QTs (X.blk s H scope (compEnvC scope cl C X.env) fp) ifs tt)
    (he : ∀ (s : Shared) (H : Hp) (C : Addr) (cl : List (Str × Addr)) (fp : List Addr), QE (X.blk s H scope (compEnvC scope cl C X.env) fp) elt te) (hs : ∀ x, foldedSetIterable e X.env x = pure x := by intro _; rfl) :
    QS X (.Assign [.Name y py] (.ListComp elt [⟨tg, e, ifs, 0⟩] scope pos) spos) (dSet i (dLc di bd tt te (own.map (·.2)))) := ps_weak (ps_setLc (own := own) (g := g) hc hN hy hyl hsw hi ok hg (fun s H C cl fp => (ht s H C cl fp).p) he hs) fun D σ H ⟨B, ρ, S, m, Dd, at_, q, k⟩ => by
  have q' : dLc di bd tt te (own.map (·.2)) ρ S (fun d S1 => Dd.nx (st ρ i d) S1) := q
  exact lc_dv hbd ⟨B, ρ, S, m, _, at_, q', fun d S' v H' m' q e w dv => k.nx _ _ _ _ _ q ((at_.step e w).setv dv)⟩
end
end K3

/-! the plain layer: defs and their calls -/
namespace K3
open PySem L2 Xr K1
/-- what is wanted of an error: its class, its fields, the store -/
abbrev DX := Addr → List (Str × PyData) → Sto → Prop
abbrev X0 : DX := fun _ _ _ => False
/-- a plain promise -/
abbrev SpD := List PyData → Sto → DK → DX → Prop
def Kx (K : PySem.W.Frag) (m : Mp) (H : Hp) (E : XK) (Ed : DX) : Prop := ∀ C fs S' H' m' dd ys, Ed C fs S' → Evo m H m' H' → Wd K m' H' S' → H' dd = some (.xd ys) → ¬ Ce m' dd → ys.map Prod.fst = fs.map Prod.fst → DvAll K m' H' (ys.map Prod.snd) (fs.map Prod.snd) → E (.ref C) (some dd) H'
def spD (K : PySem.W.Frag) (f : SpD) : Sp := fun vs H Q E => ∃ m S ds Qd Ed, Wd K m H S ∧ DvAll K m H vs ds ∧ f ds S Qd Ed ∧ Kq K m H Q Qd ∧ Kx K m H E Ed
theorem spD_len {K : PySem.W.Frag} {f : SpD} {n : Nat} (h : ∀ ds S Q E, f ds S Q E → ds.length = n) : ∀ vs H Q E, spD K f vs H Q E → vs.length = n := fun vs H Q E ⟨m, S, ds, Qd, Ed, w, dv, q, k, x⟩ => by
  rw [dv.len]
  exact h _ _ _ _ q
theorem Kx.no {K : PySem.W.Frag} {m : Mp} {H : Hp} {E : XK} : Kx K m H E X0 := fun _ _ _ _ _ _ _ h => h.elim
def startD (N : List Str) (ds : List PyData) : Rho := ds.map some ++ List.replicate (N.length - ds.length) none
theorem start_fr {K : PySem.W.Frag} {m : Mp} {H : Hp} {N : List Str} {vs : List V} {ds : List PyData} (h : DvAll K m H vs ds) : Fr K m H (L2.start N vs) (startD N ds) := by
  unfold L2.start startD
  rw [h.len]
  exact Fr.app h (Fr.none _)
/-- the calls of an exception-free body -/
theorem passE0 {X : Cx} : Passes (L2.CX X.prog X.w) X E0 := fun _ _ _ _ _ _ _ h => by
  obtain ⟨_, _, _, _, _, _, _, _, _, _, _, _, q⟩ := h
  exact q.elim
section
variable {P : Program} {w : World} {K : PySem.W.Frag} {mg : Str → Option Value} {base : Heap}
theorem body_dv {X : Cx} {t : DS} {N : List Str} {sp : SpD} {vs : List V} {H : Hp} {Q : VK} {E : XK} (hK : X.K = K)
    (h : spD K sp vs H Q E) (hr : ∀ ds S Qd Ed, sp ds S Qd Ed → t { nx := fun _ S' => Qd .none S', rt := Qd } (startD N ds) S) : lftS X.K (Wm X) t { nx := fun _ H' => Q .non H', rt := Q } (L2.start N vs) H := by
  subst hK
  obtain ⟨m, S, ds, Qd, Ed, w, dv, q, k, x⟩ := h
  refine ⟨(m, H), startD N ds, S, m, _, ⟨Evo.refl, w, start_fr dv⟩, hr ds S Qd Ed q, ?_⟩
  exact ⟨fun ρ S σ H' m' q a => k _ S _ H' m' q a.ev a.wd .non, fun d S v H' m' q e w dv => k _ S _ H' m' q e w dv, fun _ _ _ _ _ q _ => q.elim, fun _ _ _ _ _ q _ => q.elim, Lk.no⟩
/-- a def by its body's term, and what is to be shown -/
theorem dok {x qual : Str} {s1 : Stmt} {f : Addr} {fd : FuncData} {N ps : List Str} {k : Nat} {sp : SpD} (F : Fun K x qual s1 f fd) (S : FnScope N ps (defScope s1)) (len : ∀ ds S Q E, sp ds S Q E → ds.length = ps.length)
    (hbody : ∀ (cdv : Value) (A : Around) (outer : List Env) (s : Shared) (H : Hp) (Q : VK) (E : XK), Room k (A.deeper (PyProof.Rows.envOfC qual (defScope s1) s.heap.objs.size f cdv)) →
      ∃ t, QSs (cxOf CX0 P w K mg base N qual (defScope s1) f cdv A outer s H E).nox (defBody s1) t ∧ ∀ ds S Qd Ed, sp ds S Qd Ed → t { nx := fun _ S' => Qd .none S', rt := Qd } (startD N ds) S) : FnOk P w K mg base CX0 (k + 1) f fd ps (spD K sp) := by
  refine F.ok S (spD_len len) fun cdv A outer s H vs Q E hr h => ?_
  obtain ⟨t, ht, hq⟩ := hbody cdv A outer s H Q E hr
  exact ⟨_, ht, body_dv rfl h hq⟩
/-- the same where repr is asked -/
theorem dokG {x qual : Str} {s1 : Stmt} {f : Addr} {fd : FuncData} {N ps : List Str} {k : Nat} {sp : SpD} (F : Fun K x qual s1 f fd) (S : FnScope N ps (defScope s1)) (len : ∀ ds S Q E, sp ds S Q E → ds.length = ps.length)
    (hbody : ∀ (cdv : Value) (A : Around) (outer : List Env) (s : Shared) (H : Hp) (Q : VK) (E : XK), A.guards = some [] → Room k (A.deeper (PyProof.Rows.envOfC qual (defScope s1) s.heap.objs.size f cdv)) →
      ∃ t, QSs (cxOf CX0 P w K mg base N qual (defScope s1) f cdv A outer s H E) (defBody s1) t ∧ ∀ ds S Qd Ed, sp ds S Qd Ed → t { nx := fun _ S' => Qd .none S', rt := Qd } (startD N ds) S) : Grd.FnG P w K mg base CX0 (k + 1) f fd ps (spD K sp) := by
  refine Grd.fng_of F S (spD_len len) fun cdv A outer s H vs Q E gd hr h => ?_
  obtain ⟨t, ht, hq⟩ := hbody cdv A outer s H Q E gd hr
  exact ⟨_, ht, body_dv rfl h hq⟩
end
theorem at0K {CX : CXT} {X : Cx} {E : XK} (h : Passes CX X E) (σ : L2.St) : PassesAt CX X σ E := fun pins H s e s' I c => h pins σ H s e s' I c
section
variable {X : Cx} {CX : CXT} {j k : Nat} {f : Addr} {fd : FuncData} {ps : List Str} {sp : SpD} {x : Str} {p pos : Pos} {e : Expr} {es : List Expr} {aa : DA}
def dFn (sp : SpD) (aa : DA) : DE := fun ρ S Q => aa ρ S fun ds S1 => sp ds S1 Q X0
theorem fn_dv {σ : L2.St} {H : Hp} {Q : VK} (h : lft X.K (dFn sp aa) σ H Q) : tCall (spD X.K sp) [] E0 (lftA X.K aa) σ H Q := by
  obtain ⟨B, ρ, S, m, Qd, at_, q, k⟩ := h
  refine ⟨B, ρ, S, m, _, at_, q, fun ds S' vs H' m' q e w dv => ?_⟩
  show spD X.K sp (vs ++ []) H' Q E0
  rw [List.append_nil]
  exact ⟨m', S', ds, Qd, X0, w, dv, q, k.up e, Kx.no⟩
/-- f(e, ..) -/
theorem q_call (hr : Room k X.A) (F : FnOk X.prog X.w X.K X.mg X.base CX0 j f fd ps (spD X.K sp)) (hm : X.mg x = some (.ref f)) (hk : PySem.W.keepIn X.K (.ref f) = true) (hb : Binds X.K fd ps []) (hg : Gl X x) (hl : j ≤ k)
    (ha : QA X (e :: es) aa) (hdb : (x == ("__debug__" : Str)) = false := by decide) (he : starEach (e :: es) X.env = (false, eval e X.env) :: starEach es X.env := by rfl) (hpl : (backTo pos (starEach es X.env)).any (·.1) = false := by rfl) :
    QE X (.Call (.Name x p) (e :: es) [] pos) (dFn sp aa) := pe_weak (pe_call F (hr.mono hl) hg hm hk hb .nil pass0 ha hdb he hpl) fun σ H Q h => fn_dv h
/-- f(e, ..), f one that may raise, but doesn't here -/
theorem q_callN (hr : Room k X.A) (F : FnOk X.prog X.w X.K X.mg X.base (L2.CX X.prog X.w) j f fd ps (spD X.K sp)) (hm : X.mg x = some (.ref f)) (hk : PySem.W.keepIn X.K (.ref f) = true) (hb : Binds X.K fd ps []) (hg : Gl X x) (hl : j ≤ k)
    (ha : QA X (e :: es) aa) (hdb : (x == ("__debug__" : Str)) = false := by decide) (he : starEach (e :: es) X.env = (false, eval e X.env) :: starEach es X.env := by rfl) (hpl : (backTo pos (starEach es X.env)).any (·.1) = false := by rfl) :
    QE X (.Call (.Name x p) (e :: es) [] pos) (dFn sp aa) := pe_weak (pe_call F (hr.mono hl) hg hm hk hb .nil passE0 ha hdb he hpl) fun σ H Q h => fn_dv h
/-- f(e, ..), f asks repr -/
theorem q_callG (gd : X.A.guards = some []) (hr : Room k X.A) (F : Grd.FnG X.prog X.w X.K X.mg X.base CX0 j f fd ps (spD X.K sp)) (hm : X.mg x = some (.ref f)) (hk : PySem.W.keepIn X.K (.ref f) = true) (hb : Binds X.K fd ps []) (hg : Gl X x) (hl : j ≤ k)
    (ha : QA X (e :: es) aa) (hdb : (x == ("__debug__" : Str)) = false := by decide) (he : starEach (e :: es) X.env = (false, eval e X.env) :: starEach es X.env := by rfl) (hpl : (backTo pos (starEach es X.env)).any (·.1) = false := by rfl) :
    QE X (.Call (.Name x p) (e :: es) [] pos) (dFn sp aa) := pe_weak (Grd.pe_callG F gd (hr.mono hl) hg hm hk hb pass0 ha hdb he hpl) fun σ H Q h => fn_dv h
/-- keywords -/
abbrev DKs := DA
structure QK (X : Cx) (ks : List Keyword) (t : DA) : Prop where
  p : PK X ks (lftA X.K t)
theorem pk_weak {X : Cx} {e : List Keyword} {t t' : TA} (h : PK X e t) (i : ∀ σ H Q, t' σ H Q → t σ H Q) : PK X e t' := ⟨fun w pins s σ H Q I q => h.run w pins s σ H Q I (i _ _ _ q)⟩
theorem qk_nil : QK X [] dNil := ⟨pk_weak pk_nil fun σ H Q ⟨B, ρ, S, m, Qd, at_, q, k⟩ => k [] S [] H m q Evo.refl at_.wd .nil⟩
theorem qk_cons {t : DE} {nm : Option Str} {kpos : Pos} {kws : List Keyword} (ha : QE X e t) (hr : QK X kws aa) : QK X (⟨nm, e, kpos⟩ :: kws) (dCons t aa) := ⟨pk_weak (pk_cons ha hr.p) fun σ H Q ⟨B, ρ, S, m, Qd, at_, q, k⟩ =>
  ⟨B, ρ, S, m, _, at_, q, fun d S' v H' m' q e w dv => ⟨B, ρ, S', m', _, at_.step e w, q, fun ds S2 vs H2 m2 q2 e2 w2 dvs => k _ S2 _ H2 m2 q2 (e.trans e2) w2 (.cons (dv.up e2) dvs)⟩⟩⟩
theorem q_call0 (hr : Room k X.A) (F : FnOk X.prog X.w X.K X.mg X.base CX0 j f fd ps (spD X.K sp)) (hm : X.mg x = some (.ref f)) (hk : PySem.W.keepIn X.K (.ref f) = true) (hb : Binds X.K fd ps []) (hg : Gl X x) (hl : j ≤ k) (hdb : (x == ("__debug__" : Str)) = false := by decide) :
    QE X (.Call (.Name x p) [] [] pos) (dFn sp dNil) := pe_weak (pe_call0 F (hr.mono hl) hg hm hk hb .nil pass0 hdb) fun σ H Q ⟨B, ρ, S, m, Qd, at_, q, k⟩ => ⟨m, S, [], Qd, X0, at_.wd, .nil, q, k, Kx.no⟩
/-- how keywords alone bind -/
def BindsK (fd : FuncData) (ps ks : List Str) : Prop := ∀ (s : Shared) (us : List Value), us.length = ps.length → BindsTo s fd ⟨[], ks.zip us⟩ (ps.zip us)
theorem pe_kwA {CX : CXT} {sp : Sp} {ks : List Str} {kws : List Keyword} {E : L2.St → XK} {ta : TA} (F : FnOk X.prog X.w X.K X.mg X.base CX k f fd ps sp) (hr : Room k X.A) (hg : Gl X x) (hm : X.mg x = some (.ref f)) (kp : PySem.W.keepIn X.K (.ref f) = true) (hb : BindsK fd ps ks)
    (hx : ∀ σ, PassesAt CX X σ (E σ)) (hkw : PK X kws ta)
    (hall : (backToKw pos (keywordEach kws X.env)).all (·.1.isSome) = true) (hks : (backToKw pos (keywordEach kws X.env)).filterMap (·.1) = ks) (hdb : (x == ("__debug__" : Str)) = false)
    (hpl : ((backTo pos (starEach [] X.env)).any (·.1) || (backToKw pos (keywordEach kws X.env)).any (·.1.isNone)) = false) :
    PE X (.Call (.Name x p) [] kws pos) (tCallS sp E ta) := by
  refine ⟨fun pins s σ H Q I h => ?_⟩
  refine PySem.wpAny_Call_Name_kw (ld_glob I hg hm ?_ hdb)
  refine PySem.W.callWith_KW0 (h₀ := X.base) I.ok.mod.kin kp hall ?_ hpl
  refine thn (hkw.run pos pins s σ H _ I h) fun ws s2 ⟨zs, H2, I2, rz, q⟩ => ⟨I2.kIn, ?_⟩
  rw [hks]
  have q' : sp zs H2 Q (E σ) := q
  have lens : ws.length = ps.length := by
    rw [← rz.length]
    exact F.len _ _ _ _ q'
  refine PySem.wpAny_call (codeAny_mono (F.run X.A X.stack s2 H2 ⟨[], ks.zip ws⟩ ws zs Q (E σ) hr I2.env0 (hb s2 ws lens) rz q') fun r s' hq => ?_)
  cases r with
  | error e => exact hx σ pins H2 s2 e s' I2 hq
  | ok fl =>
    cases fl with
    | ret u => exact I2.after hq
    | next => exact False.elim hq
    | brk => exact False.elim hq
    | cont => exact False.elim hq
/-- f(a=e, ..) -/
theorem q_kw {ks : List Str} {kws : List Keyword} (hr : Room k X.A) (F : FnOk X.prog X.w X.K X.mg X.base CX0 j f fd ps (spD X.K sp)) (hm : X.mg x = some (.ref f)) (hk : PySem.W.keepIn X.K (.ref f) = true) (hb : BindsK fd ps ks) (hg : Gl X x) (hl : j ≤ k) (hkw : QK X kws aa)
    (hall : (backToKw pos (keywordEach kws X.env)).all (·.1.isSome) = true := by rfl) (hks : (backToKw pos (keywordEach kws X.env)).filterMap (·.1) = ks := by rfl) (hdb : (x == ("__debug__" : Str)) = false := by decide)
    (hpl : ((backTo pos (starEach [] X.env)).any (·.1) || (backToKw pos (keywordEach kws X.env)).any (·.1.isNone)) = false := by rfl) : QE X (.Call (.Name x p) [] kws pos) (dFn sp aa) :=
  pe_weak (pe_kwA (E := fun _ => E0) F (hr.mono hl) hg hm hk hb (fun σ => at0K pass0 σ) hkw.p hall hks hdb hpl) fun σ H Q ⟨B, ρ, S, m, Qd, at_, q, k⟩ =>
    ⟨B, ρ, S, m, _, at_, q, fun ds S' vs H' m' q e w dv => ⟨m', S', ds, Qd, X0, w, dv, q, k.up e, Kx.no⟩⟩
/-- the same, f one that may raise, but doesn't here -/
theorem q_kwN {ks : List Str} {kws : List Keyword} (hr : Room k X.A) (F : FnOk X.prog X.w X.K X.mg X.base (L2.CX X.prog X.w) j f fd ps (spD X.K sp)) (hm : X.mg x = some (.ref f)) (hk : PySem.W.keepIn X.K (.ref f) = true) (hb : BindsK fd ps ks) (hg : Gl X x) (hl : j ≤ k) (hkw : QK X kws aa)
    (hall : (backToKw pos (keywordEach kws X.env)).all (·.1.isSome) = true := by rfl) (hks : (backToKw pos (keywordEach kws X.env)).filterMap (·.1) = ks := by rfl) (hdb : (x == ("__debug__" : Str)) = false := by decide)
    (hpl : ((backTo pos (starEach [] X.env)).any (·.1) || (backToKw pos (keywordEach kws X.env)).any (·.1.isNone)) = false := by rfl) : QE X (.Call (.Name x p) [] kws pos) (dFn sp aa) :=
  pe_weak (pe_kwA (E := fun _ => E0) F (hr.mono hl) hg hm hk hb (fun σ => at0K passE0 σ) hkw.p hall hks hdb hpl) fun σ H Q ⟨B, ρ, S, m, Qd, at_, q, k⟩ =>
    ⟨B, ρ, S, m, _, at_, q, fun ds S' vs H' m' q e w dv => ⟨m', S', ds, Qd, X0, w, dv, q, k.up e, Kx.no⟩⟩
end
end K3
namespace K3
open PySem L2
theorem u64 {k : Nat} {A : Around} (hr : Room k A) : A.units + 64 < cLine := by
  have := hr.un
  omega
theorem op_eqA {X : Cx} (hu : X.A.units + 64 < cLine) : OpR X (compareOp .Eq) (fun x y H Q => rEq x y H Q ∨ rEqD X.K x y H Q) := op_eq.or (op_eqD hu)
theorem op_neA {X : Cx} (hu : X.A.units + 64 < cLine) : OpR X (compareOp .NotEq) (fun x y H Q => rNe x y H Q ∨ rNeD X.K x y H Q) := op_ne.or (op_neD hu)
/-! short ways -/
theorem exQ {X : Cx} {b : List Stmt} {P : DS → Prop} (t : DS) (h : QSs X b t) (q : P t) : ∃ t, QSs X b t ∧ P t := ⟨t, h, q⟩
end K3

/-! the plain layer: the deal of draws; older promises -/
namespace K3
open PySem L2 Xr K1
/-- the deal at n, its great cells at k -/
structure DealD (S : Sto) (n k : Nat) : Prop where
  ex : ∃ (cs : List Int) (b : Int), S n = some (.lst [cel k, .int b]) ∧ S k = some (.lst (cs.map PyData.int)) ∧ (∀ x ∈ cs, 0 ≤ x) ∧ cs.length ≤ 63 ∧ 0 ≤ b ∧ b < 2147483647
/-- the deal went on, all else stands -/
structure MvD (n k : Nat) (S S' : Sto) : Prop where
  D : DealD S' n k
  kp : ∀ j c, S j = some c → j ≠ n → j ≠ k → S' j = some c
theorem MvD.refl {n k : Nat} {S : Sto} (D : DealD S n k) : MvD n k S S := ⟨D, fun _ _ h _ _ => h⟩
theorem MvD.trans {n k : Nat} {S S1 S2 : Sto} (a : MvD n k S S1) (b : MvD n k S1 S2) : MvD n k S S2 := ⟨b.D, fun j c h x y => b.kp j c (a.kp j c h x y) x y⟩
theorem DealD.ext {n k : Nat} {S S' : Sto} (D : DealD S n k) (e : Ext S S') : DealD S' n k := by
  obtain ⟨cs, b, h1, h2, r⟩ := D.ex
  exact ⟨cs, b, e _ _ h1, e _ _ h2, r⟩
theorem MvD.ext {n k : Nat} {S S1 S2 : Sto} (a : MvD n k S S1) (e : Ext S1 S2) : MvD n k S S2 := ⟨a.D.ext e, fun j c h x y => e _ _ (a.kp j c h x y)⟩
theorem MvD.of {n k : Nat} {S S1 S2 : Sto} (e : Ext S S1) (b : MvD n k S1 S2) : MvD n k S S2 := ⟨b.D, fun j c h x y => b.kp j c (e _ _ h) x y⟩
theorem Wd.ceTrk {K : PySem.W.Frag} {m : Mp} {H : Hp} {S : Sto} (w : Wd K m H S) : ∀ a, Ce m a → Trk H a := fun a h => by
  rcases h with ⟨n, e⟩ | e
  · exact w.trk n a e
  · exact w.ztr a e
theorem dv_ints {K : PySem.W.Frag} {m : Mp} {H : Hp} : ∀ {cs : List Int} {xs : List V}, DvAll K m H xs (cs.map PyData.int) → xs = cs.map V.int
  | [], _, h => by
    cases h
    rfl
  | c :: cs, _, h => by
    cases h with
    | cons a r =>
      cases a
      rw [dv_ints r]
      rfl
theorem ints_dv {K : PySem.W.Frag} {m : Mp} {H : Hp} : ∀ (cs : List Int), DvAll K m H (cs.map V.int) (cs.map PyData.int)
  | [] => .nil
  | c :: cs => .cons (.int c) (ints_dv cs)
theorem dv_strs {K : PySem.W.Frag} {m : Mp} {H : Hp} : ∀ {cs : List Str} {xs : List V}, DvAll K m H xs (cs.map PyData.str) → xs = cs.map V.str
  | [], _, h => by
    cases h
    rfl
  | c :: cs, _, h => by
    cases h with
    | cons a r =>
      cases a
      rw [dv_strs r]
      rfl
theorem strs_dvs {K : PySem.W.Frag} {m : Mp} {H : Hp} : ∀ (cs : List Str), DvAll K m H (cs.map V.str) (cs.map PyData.str)
  | [] => .nil
  | c :: cs => .cons (.str c) (strs_dvs cs)
section
variable {K : PySem.W.Frag} {m : Mp} {H : Hp} {S : Sto} {n k : Nat}
theorem DealD.at (D : DealD S n k) (w : Wd K m H S) : ∃ d c, m.c n = some d ∧ m.c k = some c ∧ DealAt H d c := by
  obtain ⟨cs, b, h1, h2, r⟩ := D.ex
  obtain ⟨d, xs, e1, e2, e3⟩ := w.lst h1
  obtain ⟨c, ys, f1, f2, f3⟩ := w.lst h2
  obtain ⟨x, y, rfl, dx, dy⟩ := dv2 e3
  cases dy
  have := dv_ints f3
  subst this
  obtain ⟨c', rfl, f4⟩ := celN_dv dx rfl
  rw [f1] at f4
  cases f4
  exact ⟨d, c, e1, f1, cs, b, e2, f2, r⟩
theorem DealD.moved (D : DealD S n k) (w : Wd K m H S) {d c : Addr} (hd : m.c n = some d) (hc : m.c k = some c) {H' : Hp} (D' : DealAt H' d c) (b : But d c H H') : ∃ S', MvD n k S S' ∧ Evo m H m H' ∧ Wd K m H' S' := by
  obtain ⟨cs, b', h1, h2, r⟩ := D'.ex
  have nk : n ≠ k := fun e => by
    rw [e, hc] at hd
    cases hd
    rw [h1] at h2
    have := HO.lst.inj (Option.some.inj h2)
    cases cs with
    | nil => cases this
    | cons x xs =>
      have e2 := (List.cons.inj this).1
      cases e2
  have ev : Evo m H m H' := by
    refine ⟨⟨fun _ _ h => h, fun q u e ne => ⟨b q u e (fun z => ne (.inl ⟨n, by rw [z]; exact hd⟩)) (fun z => ne (.inl ⟨k, by rw [z]; exact hc⟩)), ne⟩⟩, fun _ => Iff.rfl, fun q u z e => b q u e (fun y => w.hid n d hd (by rw [← y]; exact z)) (fun y => w.hid k c hc (by rw [← y]; exact z))⟩
  have tr : ∀ a, (∃ u, H a = some u) → ∃ u, H' a = some u := fun a ⟨u, e⟩ => by
    by_cases y : a = d
    · rw [y]; exact ⟨_, h1⟩
    · by_cases z : a = c
      · rw [z]; exact ⟨_, h2⟩
      · exact ⟨u, b a u e y z⟩
  refine ⟨put (put S n (.lst [cel k, .int b'])) k (.lst (cs.map PyData.int)), ⟨⟨cs, b', by rw [put_ne nk, put_same], put_same, r⟩, fun j c' h x y => by rw [put_ne y, put_ne x]; exact h⟩, ev, ?_⟩
  refine ⟨w.inj, fun i a e => tr a (w.trk i a e), w.bd, fun j cc e => ?_, w.hid, fun a e => tr a (w.ztr a e)⟩
  by_cases y : j = k
  · rw [y, put_same] at e
    cases e
    exact ⟨c, by rw [y]; exact hc, _, h2, ints_dv cs⟩
  · rw [put_ne y] at e
    by_cases x : j = n
    · rw [x, put_same] at e
      cases e
      exact ⟨d, by rw [x]; exact hd, _, h1, .cons (.cel hc) (.cons (.int _) .nil)⟩
    · rw [put_ne x] at e
      obtain ⟨a, ha, cr⟩ := w.has j cc e
      have nd : a ≠ d := fun z => x (w.inj j n a ha (by rw [z]; exact hd))
      have nc : a ≠ c := fun z => y (w.inj j k a ha (by rw [z]; exact hc))
      obtain ⟨u, hu⟩ := w.trk j a ha
      exact ⟨a, ha, cr.up ev.toEv0 (by rw [hu, b a u hu nd nc])⟩
/-- an old promise that gives data and leaves all as it was -/
theorem Kq.same {Q : VK} {Qd : DK} (k : Kq K m H Q Qd) (w : Wd K m H S) {d : PyData} (q : Qd d S) {u : V} {H' : Hp} (dm : Dm K (Ce m) H' u d) (s : Same H H') : Q u H' := k _ _ _ _ _ q (Evo.same w s) (w.same s) (Dv.of (fun _ z => z) _ _ dm)
theorem Kq.sameC {Q : VK} {Qd : DK} (k : Kq K m H Q Qd) (w : Wd K m H S) {d : PyData} {u : V} (c : Dc u d) (q : Qd d S) {H' : Hp} (s : Same H H') : Q u H' := k _ _ _ _ _ q (Evo.same w s) (w.same s) c.dv
end
/-! the law's own draws -/
def spAnyD : SpD := fun ds S Q _ => ∃ n k b, ds = [cel n, .int b] ∧ DealD S n k ∧ 0 < b ∧ b < 1073741824 ∧ ∀ r S', 0 ≤ r → r < b → MvD n k S S' → Q (.int r) S'
theorem any_imp {K : PySem.W.Frag} : ∀ vs H Q E, spD K spAnyD vs H Q E → spAny vs H Q E := fun vs H Q E ⟨m, S, ds, Qd, Ed, w, dv, q, kq, _⟩ => by
  obtain ⟨n, k, b, rfl, D, h1, h2, h3⟩ := q
  obtain ⟨x, y, rfl, dx, dy⟩ := dv2 dv
  cases dy
  obtain ⟨d, c, hd, hc, DA⟩ := D.at w
  obtain ⟨d', rfl, hd'⟩ := celN_dv dx rfl
  rw [hd] at hd'
  cases hd'
  refine ⟨d, c, b, rfl, DA, h1, h2, fun r H' r0 r1 D' b' => ?_⟩
  obtain ⟨S', mv, ev, w'⟩ := D.moved w hd hc D' b'
  exact kq _ _ _ _ _ (h3 r S' r0 r1 mv) ev w' (.int r)
def spOfD : SpD := fun ds S Q _ => ∃ n k o, ds = [cel n, o] ∧ DealD S n k ∧
  ((∃ es, o = .list es ∧ 0 < es.length ∧ es.length < 1000000 ∧ ∀ d S', d ∈ es → MvD n k S S' → Q d S') ∨
   (∃ z, o = .str z ∧ 0 < z.length ∧ z.length < 1000000 ∧ ∀ c S', c ∈ z.cps.toList → MvD n k S S' → Q (.str ⟨#[c]⟩) S'))
theorem of_imp {K : PySem.W.Frag} : ∀ vs H Q E, spD K spOfD vs H Q E → spOf vs H Q E := fun vs H Q E ⟨m, S, ds, Qd, Ed, w, dv, q, kq, _⟩ => by
  obtain ⟨n, k, o, rfl, D, h⟩ := q
  obtain ⟨x, y, rfl, dx, dy⟩ := dv2 dv
  obtain ⟨d, c, hd, hc, DA⟩ := D.at w
  obtain ⟨d', rfl, hd'⟩ := celN_dv dx rfl
  rw [hd] at hd'
  cases hd'
  refine ⟨d, c, DA, ?_⟩
  rcases h with ⟨es, rfl, h1, h2, h3⟩ | ⟨z, rfl, h1, h2, h3⟩
  · obtain ⟨a, xs, rfl, ha, na, al⟩ := dy.seqL
    have l := al.len
    refine .inl ⟨a, xs, rfl, ha, fun z => na (.inl ⟨n, by rw [z]; exact hd⟩), fun z => na (.inl ⟨k, by rw [z]; exact hc⟩), by omega, by omega, fun v H' hv D' b' => ?_⟩
    obtain ⟨S', mv, ev, w'⟩ := D.moved w hd hc D' b'
    obtain ⟨i, hi⟩ := List.getElem?_of_mem hv
    obtain ⟨d2, e2, dv2⟩ := al.getV hi
    exact kq _ _ _ _ _ (h3 d2 S' (List.mem_of_getElem? e2) mv) ev w' (dv2.up ev)
  · cases dy
    refine .inr ⟨z, rfl, h1, h2, fun ch H' hm D' b' => ?_⟩
    obtain ⟨S', mv, ev, w'⟩ := D.moved w hd hc D' b'
    exact kq _ _ _ _ _ (h3 ch S' hm mv) ev w' (.str _)
end K3

/-! the plain layer: objects of own classes that stay as they are -/
namespace K3
open PySem L2 Xr K1
abbrev obj (C : Addr) (ns : List Str) (ds : List PyData) : PyData := ind C (ns.zip ds)
theorem fldD_inj : ∀ {fs gs : List (Str × PyData)}, fldD fs = fldD gs → fs = gs
  | [], [], _ => rfl
  | [], _ :: _, h => nomatch h
  | _ :: _, [], h => nomatch h
  | (x, d) :: fs, (y, e) :: gs, h => by
    have h' : ((PyData.str x, d) :: fldD fs) = (PyData.str y, e) :: fldD gs := h
    have h1 := (List.cons.inj h').1
    have h2 := fldD_inj (List.cons.inj h').2
    cases h1
    rw [h2]
section
variable {K : PySem.W.Frag} {m : Mp} {H : Hp} {S : Sto}
theorem Dv.insI {v : V} {C : Addr} {fs : List (Str × PyData)} (h : Dv K m H v (ind C fs)) : ∃ (a dx : Addr) (ys : List (Str × V)), v = .ref a ∧ H a = some (.ins C dx ys) ∧ H dx = some (.own a) ∧ ¬ Ce m a ∧ ¬ Ce m dx ∧ ys.map Prod.fst = fs.map Prod.fst ∧ DvAll K m H (ys.map Prod.snd) (fs.map Prod.snd) := by
  generalize e : ind C fs = d at h
  cases h with
  | @ins a dx C' ys fs' h1 h2 n1 n2 q al =>
    have e1 := List.cons.inj (PyData.dict.inj e)
    have e2 := fldD_inj e1.2
    have e3 := e1.1
    cases e3
    subst e2
    exact ⟨a, dx, ys, rfl, h1, h2, n1, n2, q, al⟩
  | _ => cases e
theorem lookup_dv {f : Str} {d : PyData} : ∀ {ys : List (Str × V)} {fs : List (Str × PyData)}, ys.map Prod.fst = fs.map Prod.fst → DvAll K m H (ys.map Prod.snd) (fs.map Prod.snd) → fs.lookup f = some d → ∃ v, ys.lookup f = some v ∧ Dv K m H v d
  | [], [], _, _, e => by cases e
  | [], _ :: _, h, _, _ => nomatch h
  | _ :: _, [], h, _, _ => nomatch h
  | (x, v) :: ys, (y, e) :: fs, h, al, q => by
    have h' : x :: ys.map Prod.fst = y :: fs.map Prod.fst := h
    obtain ⟨h1, h2⟩ := List.cons.inj h'
    subst h1
    cases al with
    | cons a r =>
      by_cases z : f = x
      · subst z
        rw [List.lookup_cons_self] at q ⊢
        cases q
        exact ⟨v, rfl, a⟩
      · have nz : (f == x) = false := beq_eq_false_iff_ne.mpr z
        have q' : List.lookup f fs = some d := by
          rw [List.lookup_cons, nz] at q
          exact q
        obtain ⟨w, e1, e2⟩ := lookup_dv h2 r q'
        exact ⟨w, by rw [List.lookup_cons, nz]; exact e1, e2⟩
end
section
variable {X : Cx} {e a b c : Expr} {es rest : List Expr} {t ta tb tc : DE} {u v : DT} {pos : Pos} {aa : DA}
/-- e.f -/
def dFld (C : Addr) (f : Str) (t : DE) : DE := fun ρ S Q => t ρ S fun d S1 => ∃ fs, d = ind C fs ∧ wh (fs.lookup f) fun x => Q x S1
theorem q_fld {f : Str} {C : Addr} (cl : Cls X.K C) (na : NoAttr X.K C f) (he : QE X e t) (hb : attributeBase e f X.env (eval e X.env) = eval e X.env := by rfl) : QE X (.Attribute e f pos) (dFld C f t) := pe_weak (pe_fld he hb) fun σ H Q ⟨B, ρ, S, m, Qd, at_, q, k⟩ =>
  ⟨B, ρ, S, m, _, at_, q, fun d S1 v H1 m1 q1 e1 w1 dv => by
    obtain ⟨fs, rfl, q1⟩ := q1
    obtain ⟨x, h1, q2⟩ := wh_of q1
    obtain ⟨p, dx, ys, rfl, h2, _, _, _, h3, al⟩ := dv.insI
    obtain ⟨y, h4, dy⟩ := lookup_dv h3 al h1
    exact ⟨p, C, dx, ys, y, rfl, h2, cl, na, h4, k _ _ _ _ _ q2 e1 w1 dy⟩⟩
/-- what __init__ promises: each argument is kept under its name -/
def spIni (C : Addr) (ns : List Str) : Sp := fun vs H Q _ => ∃ (x dx : Addr) (as : List V), vs = .ref x :: as ∧ as.length = ns.length ∧ H x = some (.ins C dx []) ∧ ∀ H', H' x = some (.ins C dx (ns.zip as)) → (∀ b, b ≠ x → H' b = H b) → Q .non H'
theorem map_fst_zip {α β : Type} : ∀ {xs : List α} {ys : List β}, xs.length = ys.length → (xs.zip ys).map Prod.fst = xs
  | [], [], _ => rfl
  | _ :: _, [], h => nomatch h
  | [], _ :: _, h => nomatch h
  | x :: xs, y :: ys, h => by
    have := map_fst_zip (xs := xs) (ys := ys) (Nat.succ.inj h)
    rw [List.zip_cons_cons, List.map_cons, this]
theorem map_snd_zip {α β : Type} : ∀ {xs : List α} {ys : List β}, xs.length = ys.length → (xs.zip ys).map Prod.snd = ys
  | [], [], _ => rfl
  | _ :: _, [], h => nomatch h
  | [], _ :: _, h => nomatch h
  | x :: xs, y :: ys, h => by
    have := map_snd_zip (xs := xs) (ys := ys) (Nat.succ.inj h)
    rw [List.zip_cons_cons, List.map_cons, this]
/-- C(..) -/
def dNew (C : Addr) (ns : List Str) (aa : DA) : DE := fun ρ S Q => aa ρ S fun ds S1 => ds.length = ns.length ∧ Q (obj C ns ds) S1
theorem q_new {C f : Addr} {fd : FuncData} {ps ns : List Str} {j k : Nat} {x : Str} {p : Pos} (M : Mk X.K C f) (F : FnOk X.prog X.w X.K X.mg X.base CX0 j f fd ps (spIni C ns)) (hr : Room k X.A) (hl : j + 1 ≤ k) (hg : Gl X x) (hm : X.mg x = some (.ref C)) (hb : Binds X.K fd ps [])
    (ha : QA X (e :: es) aa) (hdb : (x == ("__debug__" : Str)) = false := by decide) (he : starEach (e :: es) X.env = (false, eval e X.env) :: starEach es X.env := by rfl) (hpl : (backTo pos (starEach es X.env)).any (·.1) = false := by rfl) :
    QE X (.Call (.Name x p) (e :: es) [] pos) (dNew C ns aa) := pe_weak (pe_make M F (hr.mono hl) hg hm hb .nil pass0 ha hdb he hpl) fun σ H Q ⟨B, ρ, S, m, Qd, at_, q, k⟩ =>
  ⟨B, ρ, S, m, _, at_, q, fun ds S1 vs H1 m1 q1 e1 w1 dv => fun o dx ho hd ne => by
    obtain ⟨hl, q1⟩ := q1
    have lv := dv.len
    rw [List.append_nil]
    refine ⟨o, dx, vs, rfl, by omega, upd_same, fun H2 h1 h2 => ⟨rfl, ?_⟩⟩
    have sm : Same H1 H2 := fun b u hb => by
      have n1 : b ≠ o := fun z => by rw [z, ho] at hb; cases hb
      have n2 : b ≠ dx := fun z => by rw [z, hd] at hb; cases hb
      rw [h2 b n1, upd_ne n1, upd_ne n2]
      exact hb
    have hx : H2 dx = some (.own o) := by
      rw [h2 dx ne, upd_ne ne, upd_same]
    have ev := Evo.same w1 sm
    refine k _ _ _ _ _ q1 (e1.trans ev) (w1.same sm) (.ins h1 hx (w1.noCe ho) (w1.noCe hd) ?_ ?_)
    · rw [map_fst_zip (by omega), map_fst_zip (by omega)]
    · rw [map_snd_zip (by omega), map_snd_zip (by omega)]
      exact dv.up ev⟩
end
end K3

/-! the plain layer: tuples without a dict of their own, and where something stands in them -/
namespace L2
open PySem PySem.Spec PyProof.Rows
section
variable {X : Cx}
/-- t.index(x): the first place of an equal one, t a tuple -/
def rIndexT (K : PySem.W.Frag) : V → List V → Hp → VK → Prop := fun x xs H Q => ∃ (a : Addr) (y : V) (d : PyData) (vs : List V) (ds : List PyData) (j : Nat) (z : PyData), x = V.ref a ∧ xs = [y] ∧ SqT K H a vs ∧ DpAll K H vs ds ∧ Dp K H y d ∧
  SeqAt.shaped (.list ds) = true ∧ SeqAt.shaped d = true ∧ ds[j]? = some z ∧ PyData.eqv z d = true ∧ (∀ (m : Nat) (z' : PyData), m < j → ds[m]? = some z' → PyData.eqv z' d = false) ∧ Q (.int (j : Nat)) H
theorem mt_indexT (hu : X.A.units + 65 < cLine) : MtR X "tuple.index" (rIndexT X.K) := by
  intro pins s σ H x xs v us Q I rx rxs h
  obtain ⟨a, y, d, vs, ds, j, z, rfl, rfl, hs, ha, hy, sl, sd, hz, hzj, hno, q⟩ := h
  cases rx
  cases rxs with
  | cons ry rt =>
    rename_i uy ut
    cases rt
    obtain ⟨bs, r1⟩ := Dp.reads I d y uy hy ry
    have hxs : PyData.canLayAll0 ds = true := SeqAt.canLay_of_shaped sl
    have hroom : X.A.units + 1 + min (PyData.depthAll ds) d.depth < cLine := room_in_shaped sd hu
    obtain ⟨its, rv, ⟨⟨cls, dd, data, sls⟩, ho, hc, n, hdt⟩, hlen⟩ := I.tuple hs
    simp only at hc hdt
    subst hc hdt
    obtain ⟨as, h4⟩ := Dp.readsAll I ds _ its ha rv
    have hn : its.length = ds.length := SeqAt.ReadsAll.length ds its as h4
    have hmap : its.map (SeqAt.readOf s.heap) = ds := SeqAt.readsAll_map ds its as hxs h4
    have hvl := rv.length
    have hsl := sizeLine_eq
    obtain ⟨hjd, _⟩ := List.getElem?_eq_some_iff.mp hz
    have hjl : j < its.length := by omega
    have hj : j < its.toArray.size := by simpa using hjl
    have at_ : ∀ (m : Nat) (hm : m < its.toArray.size) (z' : PyData), ds[m]? = some z' → SeqAt.readOf s.heap its.toArray[m] = z' := by
      intro m hm z' hz'
      have hml : m < its.length := by simpa using hm
      rw [← hmap, List.getElem?_map, List.getElem?_eq_getElem hml] at hz'
      have e1 : SeqAt.readOf s.heap its[m] = z' := Option.some.inj (show some (SeqAt.readOf s.heap its[m]) = some z' from hz')
      simpa using e1
    refine call_meets PySem.F.slot_tuple_index ⟨_, ho, rfl⟩ PySem.F.entry_tuple_index (PySem.F.args_tuple_index_2 _ _)
      (TI.tuple_indexAt a its.toArray n dd sls uy (fun u => PyData.eqv (SeqAt.readOf s.heap u) d) j hj ?_ ?_) ⟨ho, SeqAt.items_eqAt (vs := its.toArray) (show ReadsAll s.heap its.toArray.toList ds as from h4) r1 hxs (SeqAt.canLay_of_shaped sd) hroom, ?_⟩
    · show PyData.eqv (SeqAt.readOf s.heap its.toArray[j]) d = true
      rw [at_ j hj z hz]
      exact hzj
    · intro m hm hmj
      have hmd : m < ds.length := by omega
      have hz' : ds[m]? = some ds[m] := List.getElem?_eq_getElem hmd
      show PyData.eqv (SeqAt.readOf s.heap its.toArray[m]) d = false
      rw [at_ m hm _ hz']
      exact hno m _ hmj hz'
    · exact ⟨.int (j : Nat), H, I.tok _, ⟨_, rfl⟩, q⟩
/-- tuple(xs), xs a list: what is new has no dict -/
def rTupF (K : PySem.W.Frag) : List V → Hp → VK → Prop := fun xs H Q => ∃ p ys, xs = [.ref p] ∧ SqL K H p ys ∧ ∀ (l : Addr) (o : Obj), H l = none → o.dict = none → o.cls = .type "tuple" → Q (.ref l) (upd H l (.frz o (.tup ys)))
theorem call_tupF : CallR X (.type "tuple") (rTupF X.K) := by
  intro pins s σ H xs us Q I r h
  obtain ⟨p, ys, rfl, hq, q⟩ := h
  obtain ⟨u, rfl, rx⟩ := vals1 r
  cases rx
  obtain ⟨its, rv, pl, hz⟩ := I.list hq
  have hlen := rv.length
  refine call_tuple_list pl.isList (fun h' kp => ?_) (by simp only [List.size_toArray] <;> omega)
  have I1 : Inv X pins σ H { s with heap := h' } := I.kept (t' := s.toks) kp
  have hg : (h'.push { cls := .type "tuple", data := .seq its.toArray }).get? h'.objs.size = some { cls := .type "tuple", data := .seq its.toArray } := Heap.get?_push_size _ rfl
  have I2 := I1.laid (t' := s.toks) (a := h'.objs.size) (o := .frz { cls := .type "tuple", data := .seq its.toArray } (.tup ys)) (fun b o e => Heap.get?_push_of_some _ e) (Nat.le_refl _)
    (show ObjOk X.prog X.w _ _ _ (.frz _ (.tup ys)) from ⟨hg, hz, its, rv, IsTup.new _ _⟩)
  exact ⟨.ref h'.objs.size, _, I2, rfl, q _ _ (I1.hok.fresh (Nat.le_refl _)) rfl rfl⟩
/-- it is a tuple without a dict -/
def tyF (x : V) (H : Hp) : Prop := ∃ (a : Addr) (o : Obj) (xs : List V), x = .ref a ∧ H a = some (.frz o (.tup xs)) ∧ o.dict = none
theorem ty_frz : TyOk X "tuple" tyF := by
  intro pins σ H s x v I r ty
  obtain ⟨a, o, xs, rfl, h, hd⟩ := ty
  cases r
  obtain ⟨e, z⟩ := (show ObjOk X.prog X.w H s.heap a (.frz o (.tup xs)) from I.hok a _ h)
  obtain ⟨hz, its, rv, ⟨ob, ho, hc, n, hdt⟩⟩ := z
  rw [e] at ho
  have ho := Option.some.inj ho
  subst ho
  refine ⟨⟨_, e, hc⟩, fun b e2 => ?_⟩
  cases e2
  exact ⟨_, e, hd⟩
end
end L2

/-! the plain layer: tuples without a dict, read as tuples; where something stands -/
namespace K3
open PySem L2 Xr K1
mutual
def thaw : PyData → PyData
  | .list ds => .list (thawAll ds)
  | .tuple ds => .tuple (thawAll ds)
  | .dict [(.none, .tuple ds)] => .tuple (thawAll ds)
  | .dict kvs => .dict kvs
  | .none => .none
  | .bool b => .bool b
  | .int i => .int i
  | .str z => .str z
def thawAll : List PyData → List PyData
  | [] => []
  | d :: ds => thaw d :: thawAll ds
end
theorem thaw_frz (ds : List PyData) : thaw (frz ds) = .tuple (thawAll ds) := by simp [thaw]
theorem thaw_tup (ds : List PyData) : thaw (.tuple ds) = .tuple (thawAll ds) := by simp [thaw]
theorem thaw_lst (ds : List PyData) : thaw (.list ds) = .list (thawAll ds) := by simp [thaw]
theorem thawAll_cons (d : PyData) (ds : List PyData) : thawAll (d :: ds) = thaw d :: thawAll ds := by simp [thawAll]
theorem layAll_cons (d : PyData) (ds : List PyData) : PyData.canLayAll0 (d :: ds) = (PyData.canLay0 d && PyData.canLayAll0 ds) := by
  conv => lhs; unfold PyData.canLayAll0
example : thaw (.list [frz [.int 1], .none]) = .list [.tuple [.int 1], .none] := rfl
/-- read as a plain thing -/
theorem dv_thaw {K : PySem.W.Frag} {m : Mp} {H : Hp} {v : V} {d : PyData} (h : Dv K m H v d) : PyData.canLay0 (thaw d) = true → Dp K H v (thaw d) :=
  Dv.rec (motive_1 := fun v d _ => PyData.canLay0 (thaw d) = true → Dp K H v (thaw d)) (motive_2 := fun vs ds _ => PyData.canLayAll0 (thawAll ds) = true → DpAll K H vs (thawAll ds))
    (fun _ => by simp only [thaw]; exact .non) (fun b _ => by simp only [thaw]; exact .bl b) (fun i _ => by simp only [thaw]; exact .int i) (fun z _ => by simp only [thaw]; exact .str z)
    (fun e _ _ ih c => by
      rw [thaw_lst] at c ⊢
      exact .lst (SqL.of e) (ih (by unfold PyData.canLay0 at c; exact c)))
    (fun e _ _ ih c => by
      rw [thaw_tup] at c ⊢
      exact .tup (SqT.of e) (ih (by unfold PyData.canLay0 at c; exact c)))
    (fun e _ ih c => by
      rw [thaw_tup] at c ⊢
      exact .tup e.sq (ih (by unfold PyData.canLay0 at c; exact c)))
    (fun _ c => by simp only [thaw] at c; unfold PyData.canLay0 at c; cases c)
    (fun e _ _ _ ih c => by
      rw [thaw_frz] at c ⊢
      exact .tup (.inl (.inr ⟨_, e⟩)) (ih (by unfold PyData.canLay0 at c; exact c)))
    (fun _ _ _ _ _ _ _ c => by simp only [thaw] at c; unfold PyData.canLay0 at c; cases c)
    (fun _ _ _ _ _ c => by simp only [thaw] at c; unfold PyData.canLay0 at c; cases c)
    (fun _ c => by simp only [thaw] at c; unfold PyData.canLay0 at c; cases c)
    (fun _ => by simp only [thawAll]; exact .nil)
    (fun _ _ iha ihb c => by
      rw [thawAll_cons] at c ⊢
      rw [layAll_cons, Bool.and_eq_true] at c
      exact .cons (iha c.1) (ihb c.2)) h
/-! rules -/
section
variable {X : Cx} {e a b c : Expr} {es rest : List Expr} {t ta tb tc : DE} {u v : DT} {pos : Pos} {aa : DA}
theorem Kq.newF {K : PySem.W.Frag} {m : Mp} {H : Hp} {S : Sto} {Q : VK} {Qd : DK} {vs : List V} {ds : List PyData} (k : Kq K m H Q Qd) (w : Wd K m H S) (h : DvAll K m H vs ds) (q : Qd (frz ds) S) (p : Addr) (o : Obj) (hp : H p = none) (ho : o.dict = none) : Q (.ref p) (upd H p (.frz o (.tup vs))) :=
  k _ _ _ _ _ q (Evo.new w hp) (w.new hp) (.frz upd_same ho (w.noCe hp) (h.up (Evo.new w hp)))
/-- tuple(xs), xs a list: known to be without a dict -/
def dTupF : PyData → Sto → DK → Prop := fun o S Q => isTupD o = false ∧ wh (itemsD S o) fun ds => Q (frz ds) S
theorem snd_tupF {K : PySem.W.Frag} : SndL K (on1 dTupF) (rTupF K) := snd_1 fun m H S x d Q Qd w dx h k => by
  obtain ⟨nt, h⟩ := h
  obtain ⟨ds, h1, h2⟩ := wh_of h
  obtain ⟨p, xs, rfl, hq, al⟩ := dx.items2 w h1
  rcases hq with ⟨_, hq⟩ | ⟨ht, _⟩
  · exact ⟨p, xs, rfl, hq, fun l o hl ho _ => k.newF w al h2 l o hl ho⟩
  · rw [nt] at ht
    cases ht
theorem q_tupleF {p : Pos} (hm : X.mg "tuple" = none) (hg : Gl X "tuple") (ha : QA X [e] aa) (he : starEach [e] X.env = (false, eval e X.env) :: starEach [] X.env := by rfl) : QE X (.Call (.Name "tuple" p) [e] [] pos) (dCall (on1 dTupF) aa) :=
  q_callTy call_tupF snd_tupF hg hm (by decide +kernel) ha (by decide) (by decide) he rfl
/-- repr, of what may have tuples without a dict in it -/
def dReprT : PyData → Sto → DK → Prop := fun d S Q => ((thaw d).showable = true ∧ (thaw d).canLay0 = true ∧ (thaw d).depth ≤ 150 ∧ (thaw d).shown.length ≤ 10000000) ∧ Q (.str (thaw d).shown) S
theorem snd_reprT {K : PySem.W.Frag} : SndL K (on1 dReprT) (Grd.rRepr K) := snd_1 fun m H S x d Q Qd w dx h k => by
  obtain ⟨⟨h1, h2, h3, h4⟩, q⟩ := h
  exact ⟨x, thaw d, rfl, dv_thaw dx h2, h1, layNoDict (thaw d) h2, h3, by rw [sizeLine_eq]; omega, k _ _ _ _ _ q Evo.refl w (.str _)⟩
theorem q_reprT {p : Pos} (gd : X.A.guards = some []) (hu : X.A.units + 200 < cLine) (hm : X.mg "repr" = none) (hg : Gl X "repr") (ha : QA X [e] aa) (he : starEach [e] X.env = (false, eval e X.env) :: starEach [] X.env := by rfl) : QE X (.Call (.Name "repr" p) [e] [] pos) (dCall (on1 dReprT) aa) :=
  q_callB (Grd.call_repr gd hu) snd_reprT hg hm (by decide +kernel) ha (by decide) (by decide) he rfl
/-- ==, != likewise -/
def dEqT : D2 := fun a b S Q => (SeqAt.shaped (thaw a) = true ∧ SeqAt.shaped (thaw b) = true) ∧ Q (.bool (PyData.eqv (thaw a) (thaw b))) S
def dNeT : D2 := fun a b S Q => (SeqAt.shaped (thaw a) = true ∧ SeqAt.shaped (thaw b) = true) ∧ Q (.bool (!PyData.eqv (thaw a) (thaw b))) S
theorem snd_eqT {K : PySem.W.Frag} : Snd2 K dEqT (fun x y H Q => rEq x y H Q ∨ rEqD K x y H Q) := fun m H S x y a b Q Qd w dx dy h k => by
  obtain ⟨⟨h3, h4⟩, h2⟩ := h
  exact .inr ⟨thaw a, thaw b, dv_thaw dx (SeqAt.canLay_of_shaped h3), dv_thaw dy (SeqAt.canLay_of_shaped h4), h3, h4, k _ _ _ _ _ h2 Evo.refl w (.bl _)⟩
theorem snd_neT {K : PySem.W.Frag} : Snd2 K dNeT (fun x y H Q => rNe x y H Q ∨ rNeD K x y H Q) := fun m H S x y a b Q Qd w dx dy h k => by
  obtain ⟨⟨h3, h4⟩, h2⟩ := h
  exact .inr ⟨thaw a, thaw b, dv_thaw dx (SeqAt.canLay_of_shaped h3), dv_thaw dy (SeqAt.canLay_of_shaped h4), h3, h4, k _ _ _ _ _ h2 Evo.refl w (.bl _)⟩
/-- t.index(x), t a tuple known to be without a dict -/
def idxD (ds : List PyData) (d : PyData) : Option Nat := ds.findIdx? fun z => PyData.eqv z d
def dIdx (t : DE) (aa : DA) : DE := fun ρ S Q => t ρ S fun o S1 => match o with
  | .dict [(.none, .tuple ds)] => aa ρ S1 fun as S2 => match as with
    | [d] => (SeqAt.shaped (.list ds) = true ∧ SeqAt.shaped d = true) ∧ wh (idxD ds d) fun j => Q (.int (j : Nat)) S2
    | _ => False
  | _ => False
theorem DvAll.dp {K : PySem.W.Frag} {m : Mp} {H : Hp} : ∀ {vs : List V} {ds : List PyData}, DvAll K m H vs ds → PyData.canLayAll0 ds = true → DpAll K H vs ds
  | _, _, .nil, _ => .nil
  | _, _, .cons a b, c => by
    rw [layAll_cons, Bool.and_eq_true] at c
    exact .cons (a.dp c.1) (b.dp c.2)
theorem frz_ev {m : Mp} {H : Hp} {m' : Mp} {H' : Hp} (ev : Evo m H m' H') {a : Addr} {o : Obj} {xs : List V} (h : H a = some (.frz o (.tup xs))) (n : ¬ Ce m a) : H' a = some (.frz o (.tup xs)) := (ev.kp _ _ h n).1
theorem q_index {apos : Pos} (hu : X.A.units + 200 < cLine) (ho : QE X a t) (ha : QA X [e] aa) (hbase : attributeBase a "index" X.env (eval a X.env) = eval a X.env := by rfl)
    (hfew : ((backTo pos (starEach [e] X.env)).all (fun x => !x.1) && (backToKw pos (keywordEach [] X.env)).all (fun x => x.1.isSome)
      && decide ([e].length + ([] : List Keyword).length + (if ([] : List Keyword).isEmpty then 0 else 1) < 30)) = true := by rfl)
    (hline : (apos.endLine == pos.line) = true := by rfl) (he : starEach [e] X.env = (false, eval e X.env) :: starEach [] X.env := by rfl) :
    QE X (.Call (.Attribute a "index" apos) [e] [] pos) (dIdx t aa) := pe_weak (pe_mG ty_frz PySem.F.plainAttrs_tuple PySem.F.slot_tuple_index PySem.F.type_tuple_index (mt_indexT (by omega)) ho ha hbase hfew hline he rfl) fun σ H Q ⟨B, ρ, S, m, Qd, at_, q, k⟩ =>
  ⟨B, ρ, S, m, _, at_, q, fun o S1 v H1 m1 q1 e1 w1 dv => by
    by_cases f : ∃ ds, o = frz ds
    · obtain ⟨ds, rfl⟩ := f
      cases dv with
      | @frz p ob xs _ hp od nc al =>
        refine ⟨⟨p, ob, xs, rfl, hp, od⟩, B, ρ, S1, m1, _, at_.step e1 w1, q1, fun as S2 vs H2 m2 q2 e2 w2 dvs => ?_⟩
        match as, q2, dvs with
        | [d], q2, dvs =>
          obtain ⟨y, rfl, dy⟩ := dv1 dvs
          obtain ⟨⟨h1, h2⟩, q3⟩ := q2
          obtain ⟨j, ej, q3⟩ := wh_of q3
          obtain ⟨hj, hz, hno⟩ := List.findIdx?_eq_some_iff_getElem.mp ej
          have cl : PyData.canLayAll0 ds = true := SeqAt.canLay_of_shaped h1
          refine ⟨p, y, d, xs, ds, j, ds[j], rfl, rfl, .inl (.inr ⟨ob, frz_ev e2 hp nc⟩), (al.up e2).dp cl, dy.dp (SeqAt.canLay_of_shaped h2), h1, h2, List.getElem?_eq_getElem hj, hz, fun i z' hi hz' => ?_, k _ _ _ _ _ q3 (e1.trans e2) w2 (.int _)⟩
          obtain ⟨hl, e5⟩ := List.getElem?_eq_some_iff.mp hz'
          have := hno i hi
          rw [e5] at this
          simpa using this
    · exfalso
      revert q1
      split
      · exact fun _ => f ⟨_, rfl⟩
      · exact fun z => z⟩
end
end K3

/-! the plain layer: dicts, zip -/
namespace K3
open PySem L2 Xr K1
def keyD : PyData → Option L2.Key
  | .int i => some (.inl i)
  | .str z => some (.inr z)
  | _ => none
def dkC (S : Sto) (n : Nat) : Option (List (L2.Key × PyData)) := (S n).bind fun c => match c with
  | .dk kvs => some kvs
  | _ => none
theorem dkC_is {S : Sto} {n : Nat} {kvs : List (L2.Key × PyData)} (h : dkC S n = some kvs) : S n = some (.dk kvs) := by
  unfold dkC at h
  cases e : S n with
  | none => rw [e] at h; cases h
  | some c =>
    rw [e] at h
    cases c <;> first | (cases h; rfl) | cases h
def valP (kvs : List (L2.Key × PyData)) (k : L2.Key) : Option PyData := (kvs.find? fun kv => decide (kv.1 = k)).map (·.2)
def putP (kvs : List (L2.Key × PyData)) (k : L2.Key) (d : PyData) : List (L2.Key × PyData) :=
  if (kvs.any fun kv => decide (kv.1 = k)) = true then kvs.map (fun kv => if kv.1 = k then (kv.1, d) else kv) else kvs ++ [(k, d)]
section
variable {K : PySem.W.Frag} {m : Mp} {H : Hp}
theorem keyD_dv {v : V} {d : PyData} {k : L2.Key} (h : Dv K m H v d) (e : keyD d = some k) : v = kV k := by
  cases h <;> first | (cases e; rfl) | cases e
theorem val_dv {k : L2.Key} : ∀ {gs : List (L2.Key × V)} {kvs : List (L2.Key × PyData)}, gs.map Prod.fst = kvs.map Prod.fst → DvAll K m H (gs.map Prod.snd) (kvs.map Prod.snd) →
    (∀ d, valP kvs k = some d → ∃ v, valV gs k = some v ∧ Dv K m H v d) ∧ (valP kvs k = none → valV gs k = none)
  | [], [], _, _ => ⟨fun d h => (nomatch h), fun _ => rfl⟩
  | [], _ :: _, h, _ => nomatch h
  | _ :: _, [], h, _ => nomatch h
  | (x, v) :: gs, (y, e) :: kvs, h, al => by
    have h' : x :: gs.map Prod.fst = y :: kvs.map Prod.fst := h
    obtain ⟨h1, h2⟩ := List.cons.inj h'
    subst h1
    cases al with
    | cons a r =>
      obtain ⟨i1, i2⟩ := val_dv (k := k) h2 r
      by_cases z : x = k
      · have e1 : valP ((x, e) :: kvs) k = some e := by simp [valP, z]
        have e2 : valV ((x, v) :: gs) k = some v := by simp [valV, z]
        rw [e1, e2]
        exact ⟨fun d q => ⟨v, rfl, by cases q; exact a⟩, fun q => nomatch q⟩
      · have e1 : valP ((x, e) :: kvs) k = valP kvs k := by simp [valP, z]
        have e2 : valV ((x, v) :: gs) k = valV gs k := by simp [valV, z]
        rw [e1, e2]
        exact ⟨i1, i2⟩
theorem any_fst {α : Type} (k : L2.Key) (l : List (L2.Key × α)) : (l.any fun kv => decide (kv.1 = k)) = (l.map Prod.fst).any fun x => decide (x = k) := by
  induction l with
  | nil => rfl
  | cons p r ih => rw [List.map_cons, List.any_cons, List.any_cons, ih]
theorem map_put {k : L2.Key} {v : V} {d : PyData} (dv : Dv K m H v d) : ∀ {gs : List (L2.Key × V)} {kvs : List (L2.Key × PyData)}, gs.map Prod.fst = kvs.map Prod.fst → DvAll K m H (gs.map Prod.snd) (kvs.map Prod.snd) →
    (gs.map fun kv => if kv.1 = k then (kv.1, v) else kv).map Prod.fst = (kvs.map fun kv => if kv.1 = k then (kv.1, d) else kv).map Prod.fst ∧ DvAll K m H ((gs.map fun kv => if kv.1 = k then (kv.1, v) else kv).map Prod.snd) ((kvs.map fun kv => if kv.1 = k then (kv.1, d) else kv).map Prod.snd)
  | [], [], _, _ => ⟨rfl, .nil⟩
  | [], _ :: _, h, _ => nomatch h
  | _ :: _, [], h, _ => nomatch h
  | (x, v0) :: gs, (y, e) :: kvs, h, al => by
    have h' : x :: gs.map Prod.fst = y :: kvs.map Prod.fst := h
    obtain ⟨h1, h2⟩ := List.cons.inj h'
    subst h1
    cases al with
    | cons a r =>
      obtain ⟨i1, i2⟩ := map_put (k := k) dv h2 r
      by_cases z : x = k
      · simp only [List.map_cons, z, if_true]
        exact ⟨by rw [i1], .cons dv i2⟩
      · simp only [List.map_cons, z, if_false]
        exact ⟨by rw [i1], .cons a i2⟩
theorem put_dv {k : L2.Key} {v : V} {d : PyData} {gs : List (L2.Key × V)} {kvs : List (L2.Key × PyData)} (dv : Dv K m H v d) (h : gs.map Prod.fst = kvs.map Prod.fst) (al : DvAll K m H (gs.map Prod.snd) (kvs.map Prod.snd)) :
    (putK gs k v).map Prod.fst = (putP kvs k d).map Prod.fst ∧ DvAll K m H ((putK gs k v).map Prod.snd) ((putP kvs k d).map Prod.snd) := by
  have e : (gs.any fun kv => decide (kv.1 = k)) = kvs.any fun kv => decide (kv.1 = k) := by rw [any_fst, any_fst, h]
  unfold putK putP
  rw [e]
  split
  · exact map_put dv h al
  · refine ⟨?_, ?_⟩
    · rw [List.map_append, List.map_append, h]
      rfl
    · rw [List.map_append, List.map_append]
      exact al.app (.cons dv .nil)
theorem Wd.dk {S : Sto} {n : Nat} {kvs : List (L2.Key × PyData)} (w : Wd K m H S) (h : S n = some (.dk kvs)) : ∃ a gs, m.c n = some a ∧ H a = some (.dK gs) ∧ gs.map Prod.fst = kvs.map Prod.fst ∧ DvAll K m H (gs.map Prod.snd) (kvs.map Prod.snd) := by
  obtain ⟨a, e, gs, h1, h2, h3⟩ := w.has n _ h
  exact ⟨a, gs, e, h1, h2, h3⟩
end
end K3

/-! the plain layer: rules of dicts; zip; all; tuple(range(..)); tuples repeated -/
namespace K3
open PySem L2 Xr K1
section
variable {X : Cx} {e a b c o i tg : Expr} {es rest : List Expr} {t ta tb tc td ty : DE} {u v : DT} {pos : Pos} {aa : DA}
/-- d[k] -/
def dDGet (td ty : DE) : DE := fun ρ S Q => td ρ S fun o S1 => ty ρ S1 fun y S2 => wh (celN o) fun n => wh (dkC S2 n) fun kvs => wh (keyD y) fun k => wh (valP kvs k) fun d => Q d S2
theorem q_dget (hu : X.A.units + 1 < cLine) (ho : QE X o td) (hi : QE X i ty) (hs : NoSl i) : QE X (.Subscript o i pos) (dDGet td ty) := pe_weak (pe_dget hu ho hi hs) fun σ H Q ⟨B, ρ, S, m, Qd, at_, q, k⟩ =>
  ⟨B, ρ, S, m, _, at_, q, fun o S1 x H1 m1 q1 e1 w1 dx => ⟨B, ρ, S1, m1, _, at_.step e1 w1, q1, fun y S2 yv H2 m2 q2 e2 w2 dy => by
    obtain ⟨n, en, q2⟩ := wh_of q2
    obtain ⟨kvs, ek, q2⟩ := wh_of q2
    obtain ⟨kk, eky, q2⟩ := wh_of q2
    obtain ⟨d, ed, q2⟩ := wh_of q2
    obtain ⟨a, rfl, ha⟩ := celN_dv (dx.up e2) en
    obtain ⟨a', gs, h1, h2, h3, h4⟩ := w2.dk (dkC_is ek)
    rw [ha] at h1
    cases h1
    obtain ⟨v, hv, dv⟩ := (val_dv h3 h4).1 d ed
    have := keyD_dv dy eky
    subst this
    have g := DGet.k (k := kk) h2
    rw [hv] at g
    exact ⟨a, v, rfl, g, k _ _ _ _ _ q2 (e1.trans e2) w2 dv⟩⟩⟩
/-- k in d -/
def dDIn (neg : Bool) (ty td : DE) : DE := fun ρ S Q => ty ρ S fun y S1 => td ρ S1 fun o S2 => wh (celN o) fun n => wh (dkC S2 n) fun kvs => wh (keyD y) fun k => Q (.bool (xor neg (valP kvs k).isSome)) S2
theorem din_dv {σ : L2.St} {H : Hp} {neg : Bool} {y : V} {x : V} {yd od : PyData} {m : Mp} {S : Sto} {K : PySem.W.Frag} (w : Wd K m H S) (dy : Dv K m H y yd) (dx : Dv K m H x od) {n : Nat} {kvs : List (L2.Key × PyData)} {k : L2.Key} (en : celN od = some n) (ek : dkC S n = some kvs) (eky : keyD yd = some k) :
    ∃ a r, x = .ref a ∧ DGet H a y r ∧ r.isSome = (valP kvs k).isSome := by
  obtain ⟨a, rfl, ha⟩ := celN_dv dx en
  obtain ⟨a', gs, h1, h2, h3, h4⟩ := w.dk (dkC_is ek)
  rw [ha] at h1
  cases h1
  have := keyD_dv dy eky
  subst this
  refine ⟨a, _, rfl, DGet.k (k := k) h2, ?_⟩
  cases e : valP kvs k with
  | none =>
    rw [(val_dv h3 h4).2 e]
    rfl
  | some d =>
    obtain ⟨v, hv, _⟩ := (val_dv h3 h4).1 d e
    rw [hv]
    rfl
theorem q_din (hu : X.A.units + 1 < cLine) (hi : QE X i ty) (ho : QE X o td) (hm : behindInMarks .In o = false := by first | exact nobehind _ (by decide) (by decide) | rfl) : QE X (.Compare i [.In] [o] pos) (dDIn false ty td) := pe_weak (pe_cmp (pc_din hu hi ho) hm) fun σ H Q ⟨B, ρ, S, m, Qd, at_, q, k⟩ =>
  ⟨B, ρ, S, m, _, at_, q, fun y S1 yv H1 m1 q1 e1 w1 dy => ⟨B, ρ, S1, m1, _, at_.step e1 w1, q1, fun od S2 x H2 m2 q2 e2 w2 dx => by
    obtain ⟨n, en, q2⟩ := wh_of q2
    obtain ⟨kvs, ek, q2⟩ := wh_of q2
    obtain ⟨kk, eky, q2⟩ := wh_of q2
    obtain ⟨a, r, h1, h2, h3⟩ := din_dv (σ := σ) (neg := false) w2 (dy.up e2) dx en ek eky
    rw [Bool.false_xor, ← h3] at q2
    exact ⟨a, r, h1, h2, k _ _ _ _ _ q2 (e1.trans e2) w2 (.bl _)⟩⟩⟩
theorem q_dnin (hu : X.A.units + 1 < cLine) (hi : QE X i ty) (ho : QE X o td) (hm : behindInMarks .NotIn o = false := by first | exact nobehind _ (by decide) (by decide) | rfl) : QE X (.Compare i [.NotIn] [o] pos) (dDIn true ty td) := pe_weak (pe_cmp (pc_dnotin hu hi ho) hm) fun σ H Q ⟨B, ρ, S, m, Qd, at_, q, k⟩ =>
  ⟨B, ρ, S, m, _, at_, q, fun y S1 yv H1 m1 q1 e1 w1 dy => ⟨B, ρ, S1, m1, _, at_.step e1 w1, q1, fun od S2 x H2 m2 q2 e2 w2 dx => by
    obtain ⟨n, en, q2⟩ := wh_of q2
    obtain ⟨kvs, ek, q2⟩ := wh_of q2
    obtain ⟨kk, eky, q2⟩ := wh_of q2
    obtain ⟨a, r, h1, h2, h3⟩ := din_dv (σ := σ) (neg := true) w2 (dy.up e2) dx en ek eky
    rw [Bool.true_xor, ← h3] at q2
    exact ⟨a, r, h1, h2, k _ _ _ _ _ q2 (e1.trans e2) w2 (.bl _)⟩⟩⟩
/-- zip of two tuples -/
def zipD (xs ys : List PyData) : List PyData := (xs.zip ys).map fun p => .tuple [p.1, p.2]
theorem zipD_len {xs ys : List PyData} : (zipD xs ys).length = min xs.length ys.length := by unfold zipD; rw [List.length_map, List.length_zip]
theorem zipD_get {xs ys : List PyData} {i : Nat} {x y : PyData} (h1 : xs[i]? = some x) (h2 : ys[i]? = some y) : (zipD xs ys)[i]? = some (.tuple [x, y]) := by
  unfold zipD
  have z : (xs.zip ys)[i]? = some (x, y) := List.getElem?_zip_eq_some.mpr ⟨h1, h2⟩
  rw [List.getElem?_map, z]
  rfl
theorem zipD_in {xs ys : List PyData} {i : Nat} {d : PyData} (h : (zipD xs ys)[i]? = some d) : ∃ x y, xs[i]? = some x ∧ ys[i]? = some y ∧ d = .tuple [x, y] := by
  unfold zipD at h
  rw [List.getElem?_map] at h
  cases e : (xs.zip ys)[i]? with
  | none => rw [e] at h; cases h
  | some p =>
    rw [e] at h
    obtain ⟨h1, h2⟩ := List.getElem?_zip_eq_some.mp e
    exact ⟨p.1, p.2, h1, h2, (Option.some.inj h).symm⟩
theorem walk_zipT {K : PySem.W.Frag} {a b : Addr} {xs ys : List V} {n : Nat} (hn : n = min xs.length ys.length) : Walk (RZ.ItzT K a b) n (fun H => SqT K H a xs ∧ SqT K H b ys) (YPair (fun i => xs[i]?) (fun i => ys[i]?)) := by
  subst hn
  refine ⟨fun i _ hi q => ?_, fun _ q => ⟨xs, ys, q.1, q.2, by omega⟩, fun i H v H' _ q y => ?_⟩
  · have h1 : i < xs.length := by omega
    have h2 : i < ys.length := by omega
    exact ⟨xs, ys, xs[i], ys[i], q.1, q.2, by simp [h1], by simp [h2]⟩
  · obtain ⟨T, x, z, h1, h2, h3, h4, h5⟩ := y
    exact ⟨T, x, z, h1, h2, h3, h4 xs q.1, h5 ys q.2⟩
theorem tup_stay {K : PySem.W.Frag} {m : Mp} {H : Hp} {S : Sto} {x : V} {d : PyData} {ds : List PyData} (w : Wd K m H S) (dx : Dv K m H x d) (ht : isTupD d = true) (h : itemsD S d = some ds) : ∃ p xs, x = .ref p ∧ SqT K H p xs ∧ DvAll K m H xs ds ∧ ∀ m' H', Ev0 m H m' H' → SqT K H' p xs := by
  cases dx with
  | tup e n a =>
    cases h
    exact ⟨_, _, rfl, SqT.of e, a, fun m' H' ev => SqT.of (ev.kp _ _ e n).1⟩
  | con e a =>
    cases h
    exact ⟨_, _, rfl, e.sq, a, fun m' H' ev => e.sq⟩
  | frz e _ n a =>
    cases h
    exact ⟨_, _, rfl, .inl (.inr ⟨_, e⟩), a, fun m' H' ev => .inl (.inr ⟨_, (ev.kp _ _ e n).1⟩)⟩
  | _ => cases ht
def dZipT (aa : DA) : DI := fun ρ S Q => aa ρ S fun ds S1 => match ds with
  | [x, y] => (isTupD x = true ∧ isTupD y = true) ∧ wh (itemsD S1 x) fun xs => wh (itemsD S1 y) fun ys => Q (zipD xs ys) (fun _ => True) S1
  | _ => False
theorem qi_zipT {e2 : Expr} {p tpos : Pos} {elts : List Expr} {kk : Nat} (hm : X.mg "zip" = none) (hg : Gl X "zip") (ha : QA X [e, e2] aa) (hs : starEach [e, e2] X.env = (false, eval e X.env) :: starEach [e2] X.env := by rfl) (hpl : (backTo pos (starEach [e2] X.env)).any (·.1) = false := by rfl) :
    QI X (.Tuple elts kk tpos) (.Call (.Name "zip" p) [e, e2] [] pos) (dZipT aa) := pi_weak (RZ.pi_zipA hg hm ha hs hpl) fun σ H R ⟨B, ρ, S, m, Qi, at_, q, k⟩ =>
  ⟨B, ρ, S, m, _, at_, q, fun ds S1 vs H1 m1 q1 e1 w1 dv => by
    match ds, q1, dv with
    | [x, y], q1, dv =>
      obtain ⟨vx, vy, rfl, dx, dy⟩ := dv2 dv
      obtain ⟨⟨tx, ty⟩, q1⟩ := q1
      obtain ⟨xs, h1, q1⟩ := wh_of q1
      obtain ⟨ys, h2, q1⟩ := wh_of q1
      obtain ⟨p, as, rfl, hp, ap, sp⟩ := tup_stay w1 dx tx h1
      obtain ⟨r, bs, rfl, hr, ar, sr⟩ := tup_stay w1 dy ty h2
      refine ⟨p, r, as, bs, rfl, .inr ⟨hp, hr, k _ _ _ _ _ _ q1 e1 w1 trivial ⟨fun H => SqT X.K H p as ∧ SqT X.K H r bs, YPair (fun i => as[i]?) (fun i => bs[i]?), by rw [zipD_len, ← ap.len, ← ar.len]; exact walk_zipT rfl, fun m' H' S e w st => ⟨sp _ _ e, sr _ _ e⟩, fun i m' H' S x H2 e w st hi y => ?_⟩⟩⟩
      obtain ⟨T, u, v, rfl, hT, rfl, z1, z2⟩ := y
      obtain ⟨d1, g1, dv1⟩ := (ap.up0 e).getV z1
      obtain ⟨d2, g2, dv2⟩ := (ar.up0 e).getV z2
      exact ⟨_, zipD_get g1 g2, pair_new w hT dv1 dv2, Evo.new w hT, w.new hT⟩⟩
/-- all([..]) -/
def boolsD : List PyData → Option (List Bool)
  | [] => some []
  | .bool b :: ds => (boolsD ds).map (b :: ·)
  | _ => none
theorem bools_dv {K : PySem.W.Frag} {m : Mp} {H : Hp} : ∀ {ds : List PyData} {xs : List V} {bs : List Bool}, DvAll K m H xs ds → boolsD ds = some bs → xs = bs.map V.bl
  | [], _, _, h, e => by
    cases h
    cases e
    rfl
  | d :: ds, _, bs, h, e => by
    cases h with
    | cons a r =>
      cases a <;> first | cases e | skip
      rename_i b
      have e' : (boolsD ds).map (b :: ·) = some bs := e
      cases hs : boolsD ds with
      | none => rw [hs] at e'; cases e'
      | some cs =>
        rw [hs] at e'
        cases e'
        rw [bools_dv r hs]
        rfl
theorem bools_map {α : Type} (f : α → Bool) : ∀ xs : List α, boolsD (xs.map fun x => .bool (f x)) = some (xs.map f)
  | [] => rfl
  | x :: xs => by
    show (boolsD (xs.map fun x => .bool (f x))).map (f x :: ·) = _
    rw [bools_map f xs]
    rfl
def dAll : PyData → Sto → DK → Prop := fun o S Q => isTupD o = false ∧ wh (itemsD S o) fun ds => wh (boolsD ds) fun bs => Q (.bool (bs.all id)) S
def dAny : PyData → Sto → DK → Prop := fun o S Q => isTupD o = false ∧ wh (itemsD S o) fun ds => wh (boolsD ds) fun bs => Q (.bool (bs.any id)) S
theorem snd_all {K : PySem.W.Frag} : SndL K (on1 dAll) (rAll K) := snd_1 fun m H S x d Q Qd w dx h k => by
  obtain ⟨nt, h⟩ := h
  obtain ⟨ds, h1, h⟩ := wh_of h
  obtain ⟨bs, h2, q⟩ := wh_of h
  obtain ⟨p, xs, rfl, hq, al⟩ := dx.items2 w h1
  have := bools_dv al h2
  subst this
  rcases hq with ⟨_, hq⟩ | ⟨ht, _⟩
  · exact ⟨p, bs, rfl, hq, k _ _ _ _ _ q Evo.refl w (.bl _)⟩
  · rw [nt] at ht
    cases ht
theorem snd_any {K : PySem.W.Frag} : SndL K (on1 dAny) (rAny K) := snd_1 fun m H S x d Q Qd w dx h k => by
  obtain ⟨nt, h⟩ := h
  obtain ⟨ds, h1, h⟩ := wh_of h
  obtain ⟨bs, h2, q⟩ := wh_of h
  obtain ⟨p, xs, rfl, hq, al⟩ := dx.items2 w h1
  have := bools_dv al h2
  subst this
  rcases hq with ⟨_, hq⟩ | ⟨ht, _⟩
  · exact ⟨p, bs, rfl, hq, k _ _ _ _ _ q Evo.refl w (.bl _)⟩
  · rw [nt] at ht
    cases ht
theorem q_all {p : Pos} (hc : X.calm = true) (hm : X.mg "all" = none) (hg : Gl X "all") (ha : QA X [e] aa) (he : starEach [e] X.env = (false, eval e X.env) :: starEach [] X.env := by rfl) : QE X (.Call (.Name "all" p) [e] [] pos) (dCall (on1 dAll) aa) :=
  q_callB (cr_all hc) snd_all hg hm (by decide +kernel) ha (by decide) (by decide) he rfl
theorem q_any {p : Pos} (hc : X.calm = true) (hm : X.mg "any" = none) (hg : Gl X "any") (ha : QA X [e] aa) (he : starEach [e] X.env = (false, eval e X.env) :: starEach [] X.env := by rfl) : QE X (.Call (.Name "any" p) [e] [] pos) (dCall (on1 dAny) aa) :=
  q_callB (cr_any hc) snd_any hg hm (by decide +kernel) ha (by decide) (by decide) he rfl
/-- t * n, t a tuple -/
def dRep : D2
  | o, .int k, S, Q => isTupD o = true ∧ wh (itemsD S o) fun ds => (ds ≠ [] ∧ 2 ≤ k ∧ k ≤ 1000 ∧ ds.length ≤ 1000) ∧ Q (.tuple (List.replicate k.toNat ds).flatten) S
  | _, _, _, _ => False
theorem flat_rep {K : PySem.W.Frag} {m : Mp} {H : Hp} {xs : List V} {ds : List PyData} (h : DvAll K m H xs ds) : ∀ n, DvAll K m H (List.replicate n xs).flatten (List.replicate n ds).flatten
  | 0 => .nil
  | n + 1 => by
    rw [List.replicate_succ, List.replicate_succ, List.flatten_cons, List.flatten_cons]
    exact h.app (flat_rep h n)
theorem snd_rep {K : PySem.W.Frag} : Snd2 K dRep (rRepT K) := fun m H S x y a b Q Qd w dx dy h k => by
  cases b <;> first | exact False.elim h | skip
  cases dy
  obtain ⟨ht, h⟩ := h
  obtain ⟨ds, h1, ⟨h2, h3, h4, h5⟩, q⟩ := wh_of h
  obtain ⟨p, xs, rfl, hp, al, _⟩ := tup_stay w dx ht h1
  have l := al.len
  exact ⟨p, _, xs, rfl, rfl, hp, fun z => h2 (by rw [z] at l; exact List.eq_nil_of_length_eq_zero l.symm), h3, h4, by omega, k.newT w (flat_rep al _) q⟩
end
end K3

/-! the plain layer: dicts made by a comprehension -/
namespace K3
open PySem L2 Xr K1
section
variable {K : PySem.W.Frag} {m : Mp} {H : Hp} {S : Sto} {D : Addr} {n : Nat} {c : Cell}
/-- what was hidden becomes a cell -/
theorem Ev0.show (hz : m.z D) (hn : m.c n = none) : Ev0 m H (mput (K3.bare m D) n D) H := by
  refine ⟨fun k a e => ?_, fun q o e ne => ⟨e, fun h => ?_⟩⟩
  · have : k ≠ n := fun z => by rw [z, hn] at e; cases e
    rw [mput_ne this]
    exact e
  · rcases h with ⟨k, ek⟩ | ek
    · by_cases z : k = n
      · rw [z, mput_same] at ek
        have := Option.some.inj ek
        subst this
        exact ne (.inr hz)
      · rw [mput_ne z] at ek
        exact ne (.inl ⟨k, ek⟩)
    · exact ne (.inr ek.2)
theorem Wd.show (w : Wd K m H S) (hz : m.z D) (hn : m.c n = none) (hc : CellR K (mput (K3.bare m D) n D) H D c) : Wd K (mput (K3.bare m D) n D) H (put S n c) := by
  have nD : ∀ k, m.c k ≠ some D := fun k e => w.hid k D e hz
  refine ⟨fun i j a h1 h2 => ?_, fun k a e => ?_, ?_, fun k d e => ?_, fun k a e za => ?_, fun a e => ?_⟩
  · by_cases zi : i = n
    · by_cases zj : j = n
      · rw [zi, zj]
      · rw [zi, mput_same] at h1
        rw [mput_ne zj] at h2
        have := Option.some.inj h1
        subst this
        exact absurd h2 (nD j)
    · by_cases zj : j = n
      · rw [zj, mput_same] at h2
        rw [mput_ne zi] at h1
        have := Option.some.inj h2
        subst this
        exact absurd h1 (nD i)
      · rw [mput_ne zi] at h1
        rw [mput_ne zj] at h2
        exact w.inj i j a h1 h2
  · by_cases z : k = n
    · rw [z, mput_same] at e
      have := Option.some.inj e
      subst this
      exact w.ztr _ hz
    · rw [mput_ne z] at e
      exact w.trk k a e
  · obtain ⟨b, hb⟩ := w.bd
    refine ⟨max b (n + 1), fun k hk => ?_⟩
    have : k ≠ n := by omega
    rw [mput_ne this]
    exact hb k (by omega)
  · by_cases z : k = n
    · rw [z, put_same] at e
      cases e
      exact ⟨D, by rw [z, mput_same], hc⟩
    · rw [put_ne z] at e
      obtain ⟨a, ha, cr⟩ := w.has k d e
      exact ⟨a, by rw [mput_ne z]; exact ha, cr.up (Ev0.show hz hn) rfl⟩
  · have za' : a ≠ D ∧ m.z a := za
    by_cases z : k = n
    · rw [z, mput_same] at e
      exact za'.1 (Option.some.inj e).symm
    · rw [mput_ne z] at e
      exact w.hid k a e za'.2
  · exact w.ztr a e.2
end
/-- a walk of a dict comprehension, by a predicate of the turns -/
theorem dc_it {J : It} {N : Nat} {G : Hp → Prop} {Y : Nat → Hp → V → Hp → Prop} {g : TG} {tt : TT} {tk tv : TE} {vs : List Nat} {σ : L2.St} {H1 : Hp} {D : Addr} {Qd : Hp → Prop} (wk : Walk J N G Y) (Pv : Nat → Hp → Prop) (h0 : Pv 0 (upd H1 D (.dK []))) (hG : ∀ i H, i ≤ N → Pv i H → G H)
    (hs : ∀ i x H H', i < N → Pv i H → Y i H x H' → g x (wipe σ vs) H' fun σ2 H2 => wipe σ2 vs = wipe σ vs ∧ tt σ2 H2 fun b H3 =>
      if b = true then tk σ2 H3 fun y H4 => tv σ2 H4 fun z H5 => ∃ kvs k, y = kV k ∧ H5 D = some (.dK kvs) ∧ kvs.length < sizeLine ∧ Pv (i + 1) (upd H5 D (.dK (putK kvs k z))) else Pv (i + 1) H3) (hd : ∀ H, Pv N H → Qd H) :
    ∃ W : Nat → Nat → Hp → Prop, (∃ m, W 0 m (upd H1 D (.dK []))) ∧ ∀ i m H, W i m H →
      (J.stop i H ∧ Qd H) ∨ (J.go i H ∧ ∃ Nx : Hp → Prop, (∀ H', Nx H' → ∃ m', m' < m ∧ W (i + 1) m' H') ∧ ∀ x H', J.yld i H x H' → g x (wipe σ vs) H' fun σ2 H2 => wipe σ2 vs = wipe σ vs ∧ tt σ2 H2 fun b H3 =>
        if b = true then tk σ2 H3 fun y H4 => tv σ2 H4 fun z H5 => ∃ kvs k, y = kV k ∧ H5 D = some (.dK kvs) ∧ kvs.length < sizeLine ∧ Nx (upd H5 D (.dK (putK kvs k z))) else Nx H3) := by
  refine ⟨fun i m H => m = N - i ∧ i ≤ N ∧ Pv i H, ⟨N, by simp, Nat.zero_le _, h0⟩, ?_⟩
  rintro i m H ⟨rfl, hi, p⟩
  have gH := hG i H hi p
  by_cases hlt : i < N
  · exact .inr ⟨wk.goes i H hlt gH, Pv (i + 1), fun H' p' => ⟨N - (i + 1), by omega, rfl, hlt, p'⟩, fun x H' y => hs i x H H' hlt p (wk.yields i H x H' hlt gH y)⟩
  · have e : i = N := by omega
    subst e
    exact .inl ⟨wk.stops H gH, hd H p⟩
/-- {k: v for .. in .. if ..}: W by the turn, what is made so far, the store -/
def dDc (di : DI) (bd : PyData → Rho → Option Rho) (tt : DT) (tk te : DE) (vs : List Nat) : DE := fun ρ S Q => di ρ S fun items stay S1 => ∃ W : Nat → List (L2.Key × PyData) → Sto → Prop, W 0 [] S1 ∧ (∀ i acc S, W i acc S → stay S ∧ acc.length < 1000000) ∧
  (∀ i d acc S, items[i]? = some d → W i acc S → wh (bd d (uns ρ vs)) fun ρ2 => tt ρ2 S fun b S2 => if b = true then tk ρ2 S2 fun y S3 => wh (keyD y) fun k => te ρ2 S3 fun z S4 => W (i + 1) (putP acc k z) S4 else W (i + 1) acc S2) ∧
  ∀ acc S, W items.length acc S → ∀ n, S n = none → Q (cel n) (put S n (.dk acc))
theorem dc_dv {di : DI} {K : PySem.W.Frag} {g : TG} {bd : PyData → Rho → Option Rho} {tt : DT} {tk te : DE} {vs : List Nat} {σ : L2.St} {H : Hp} {Q : VK} (hb : Bnd K g bd vs) (h : lft K (dDc di bd tt tk te vs) σ H Q) : tDc (lftI K di) g (lftT K tt) (lft K tk) (lft K te) vs σ H Q := by
  obtain ⟨B, ρ, S, m, Qd, at_, q, k⟩ := h
  refine ⟨B, ρ, S, m, _, at_, q, fun items stay S1 H1 m1 J q1 e1 w1 st1 wk => ?_⟩
  obtain ⟨W, h0, hst, hstep, hdone⟩ := q1
  obtain ⟨G, Y, walk, hG, hY⟩ := wk.ex
  intro D hD
  have ev1 : Ev0 m1 H1 (hide m1 D) (upd H1 D (.dK [])) := Ev0.hide w1 hD
  have fr1 := (at_.step e1 w1).fr
  refine dc_it walk (fun i H => ∃ (acc : List (L2.Key × PyData)) (S : Sto) (m : Mp) (gs : List (L2.Key × V)), W i acc S ∧ Ev0 m1 H1 m H ∧ Wd K m H S ∧ (∀ a, m.z a ↔ (a = D ∨ m1.z a)) ∧ (∀ a o, m1.z a → H1 a = some o → H a = some o) ∧ H D = some (.dK gs) ∧ gs.map Prod.fst = acc.map Prod.fst ∧ DvAll K m H (gs.map Prod.snd) (acc.map Prod.snd)) ?_ ?_ ?_ ?_
  · exact ⟨[], S1, hide m1 D, [], h0, ev1, w1.hide hD, fun a => Iff.rfl, fun a o z e => by rw [upd_ne (ne_of_none e hD)]; exact e, upd_same, rfl, .nil⟩
  · rintro i H _ ⟨acc, S, m, gs, hW, ev, w, _, _, _, _⟩
    exact hG m H S ev w (hst i acc S hW).1
  · rintro i x H H' hi ⟨acc, S, m, gs, hW, ev, w, hz, hk, hH, hn, al⟩ y
    obtain ⟨d, hd, dv, e2, w2⟩ := hY i m H S x H' ev w (hst i acc S hW).1 hi y
    obtain ⟨ρ2, hb2, q2⟩ := wh_of (hstep i d acc S hd hW)
    have lacc := (hst i acc S hW).2
    have zD : m.z D := (hz D).mpr (.inl rfl)
    have H'D : H' D = some (.dK gs) := e2.zk D _ zD hH
    have ev2 : Ev0 m1 H1 m H' := ev.trans e2.toEv0
    have frw : Fr K m H' (wipe σ vs) (uns ρ vs) := (Fr.up0 ev2 _ _ fr1).wipe _ _ vs
    refine hb.ok m H' d x (uns ρ vs) ρ2 (wipe σ vs) _ dv frw hb2 fun σ' f' hw' => ⟨?_, ?_⟩
    · rw [hw', wipe_wipe fun _ z => z]
    · refine ⟨(m, H'), ρ2, S, m, _, ⟨Evo.refl, w2, f'⟩, q2, fun b S2 H2 m2 q3 e3 w3 => ?_⟩
      have hk2 : ∀ a o, m1.z a → H1 a = some o → H2 a = some o := fun a o z e => e3.zk a o ((hz a).mpr (.inr z)) (e2.zk a o ((hz a).mpr (.inr z)) (hk a o z e))
      have hz2 : ∀ a, m2.z a ↔ (a = D ∨ m1.z a) := fun a => (e3.hz a).trans (hz a)
      have H2D : H2 D = some (.dK gs) := e3.zk D _ zD H'D
      cases b with
      | false => exact iteF ⟨acc, S2, m2, gs, q3, ev2.trans e3.toEv0, w3, hz2, hk2, H2D, hn, (al.up e2).up e3⟩
      | true =>
        refine iteT ⟨(m, H'), ρ2, S2, m2, _, ⟨e3, w3, f'.up e3⟩, q3, fun y S3 v H3 m3 q4 e4 w4 dy => ?_⟩
        obtain ⟨kk, ekk, q4⟩ := wh_of q4
        refine ⟨(m, H'), ρ2, S3, m3, _, ⟨e3.trans e4, w4, (f'.up e3).up e4⟩, q4, fun zd S4 vz H4 m4 q5 e5 w5 dz => ?_⟩
        have e45 := e4.trans e5
        have zD2 : m2.z D := (hz2 D).mpr (.inl rfl)
        have H4D : H4 D = some (.dK gs) := e45.zk D _ zD2 H2D
        have zD4 : m4.z D := (e45.hz D).mpr zD2
        have al4 := ((al.up e2).up e3).up e45
        obtain ⟨p1, p2⟩ := put_dv (k := kk) dz hn al4
        have lg : gs.length = acc.length := by
          have := congrArg List.length hn
          rwa [List.length_map, List.length_map] at this
        refine ⟨gs, kk, keyD_dv dy ekk, H4D, by rw [lg, sizeLine_eq]; omega, putP acc kk zd, S4, m4, _, q5, ?_, w5.turn zD4, fun a => (e45.hz a).trans (hz2 a), fun a o z e => ?_, upd_same, p1, p2.up0 (Ev0.turn zD4)⟩
        · exact ((ev2.trans e3.toEv0).trans e45.toEv0).trans (Ev0.turn zD4)
        · have : a ≠ D := ne_of_none e hD
          rw [upd_ne this]
          exact e45.zk a o ((hz2 a).mpr (.inr z)) (hk2 a o z e)
  · rintro H ⟨acc, S, m, gs, hW, ev, w, hz, hk, hH, hn, al⟩
    have q := hdone acc S hW
    have nz : ¬ m1.z D := fun z => by
      obtain ⟨o, e⟩ := w1.ztr D z
      rw [hD] at e
      cases e
    have zD : m.z D := (hz D).mpr (.inl rfl)
    obtain ⟨n, hnn⟩ := w.free
    have e5 : Evo m1 H1 (mput (K3.bare m D) n D) H := ⟨ev.trans (Ev0.show zD hnn), fun a => by
      show (a ≠ D ∧ m.z a) ↔ m1.z a
      rw [hz a]
      constructor
      · rintro ⟨h1, h2⟩
        exact h2.resolve_left h1
      · intro h1
        exact ⟨fun e => nz (by rw [← e]; exact h1), .inr h1⟩, hk⟩
    exact k _ _ _ _ _ (q n (w.sfree hnn)) (e1.trans e5) (w.show zD hnn ⟨gs, hH, hn, al.up0 (Ev0.show zD hnn)⟩) (.cel mput_same)
section
variable {X : Cx} {e tg kx vx : Expr} {di : DI} {tt : DT} {tk te : DE} {pos : Pos}
theorem q_dc {ifs : List Expr} {scope : Scope} {own : List (Str × Nat)} {g : TG} {bd : PyData → Rho → Option Rho} (hc : X.calm = true) (hN : X.N.Nodup) (hi : QI X tg e di) (ok : BlkOk X.N X.env.scope scope own) (hbd : Bnd X.K g bd (own.map (·.2)))
    (hg : ∀ (s : Shared) (H : Hp) (C : Addr) (cl : List (Str × Addr)) (fp : List Addr), PG (X.blk s H scope (compEnvC scope cl C X.env) fp) tg g) (ht : ∀ (s : Shared) (H : Hp) (C : Addr) (cl : List (Str × Addr)) (fp : List Addr), QTs (X.blk s H scope (compEnvC scope cl C X.env) fp) ifs tt)
    (hk : ∀ (s : Shared) (H : Hp) (C : Addr) (cl : List (Str × Addr)) (fp : List Addr), QE (X.blk s H scope (compEnvC scope cl C X.env) fp) kx tk)
    (he : ∀ (s : Shared) (H : Hp) (C : Addr) (cl : List (Str × Addr)) (fp : List Addr), QE (X.blk s H scope (compEnvC scope cl C X.env) fp) vx te) (hs : ∀ x, foldedSetIterable e X.env x = pure x := by intro _; rfl) :
    QE X (.DictComp kx vx [⟨tg, e, ifs, 0⟩] scope pos) (dDc di bd tt tk te (own.map (·.2))) := pe_weak (pe_dc (own := own) (g := g) hc hN hi ok hg (fun s H C cl fp => (ht s H C cl fp).p) hk he hs) fun σ H Q h => dc_dv hbd h
end
end K3

/-! the plain layer: tuple(range(..)), a tuple repeated -/
namespace K3
open PySem L2 Xr K1
section
variable {X : Cx} {e a b : Expr} {t ta tb : DE} {pos : Pos}
theorem u1 {k : Nat} {A : Around} (hr : Room k A) : A.units + 1 < cLine := by
  have := hr.un
  omega
def rgD (n : Nat) : List PyData := (List.range n).map fun i => .int (i : Nat)
theorem rg_dv {K : PySem.W.Frag} {m : Mp} {H : Hp} {n : Int} (h : 0 ≤ n) : DvAll K m H (rgV 0 n) (rgD n.toNat) := by
  have e : rgV 0 n = ((List.range n.toNat).map fun i => ((i : Nat) : Int)).map V.int := by
    unfold rgV
    rw [List.map_map, Int.sub_zero]
    apply List.map_congr_left
    intro i _
    show V.int (0 + ((i : Nat) : Int)) = V.int ((i : Nat) : Int)
    rw [Int.zero_add]
  have e2 : rgD n.toNat = ((List.range n.toNat).map fun i => ((i : Nat) : Int)).map PyData.int := by
    unfold rgD
    rw [List.map_map]
    rfl
  rw [e, e2]
  exact ints_dv _
/-- tuple(range(n)) -/
def dTupRg (t : DE) : DE := fun ρ S Q => t ρ S fun d S1 => match d with
  | .int n => (0 ≤ n ∧ n ≤ 1000000) ∧ Q (.tuple (rgD n.toNat)) S1
  | _ => False
theorem q_tupRg {p p2 pos2 : Pos} (hc : X.calm = true) (hm : X.mg "tuple" = none) (hg : Gl X "tuple") (hm2 : X.mg "range" = none) (hg2 : Gl X "range") (ha : QE X a t) (na2 : starEach [a] X.env = (false, eval a X.env) :: starEach [] X.env := by rfl)
    (na : starEach [.Call (.Name "range" p2) [a] [] pos2] X.env = (false, eval (.Call (.Name "range" p2) [a] [] pos2) X.env) :: starEach [] X.env := by rfl) : QE X (.Call (.Name "tuple" p) [.Call (.Name "range" p2) [a] [] pos2] [] pos) (dTupRg t) :=
  pe_weak (pe_tupRg hc hg hm (prg_1 hg2 hm2 ha na2) na) fun σ H Q ⟨B, ρ, S, m, Qd, at_, q, k⟩ => ⟨B, ρ, S, m, _, at_, q, fun d S1 v H1 m1 q1 e1 w1 dv => by
    cases d <;> first | exact False.elim q1 | skip
    rename_i n
    cases dv
    obtain ⟨⟨h0, h1⟩, q1⟩ := q1
    exact ⟨n, rfl, RgOk.of_le (by omega) (by omega) (by omega) (by omega), (k.up e1).newT w1 (rg_dv h0) q1⟩⟩
theorem q_rep (ha : QE X a ta) (hb : QE X b tb) : QE X (.BinOp a .Mult b pos) (dOp dRep ta tb) := q_op op_repT snd_rep ha hb
end
end K3

/-! the plain layer: what is asked, when the values are known -/
namespace K3
open PySem L2 Xr K1
theorem e_addI {i j : Int} {S : Sto} {Q : DK} : dAdd (.int i) (.int j) S Q = Q (.int (i + j)) S := rfl
theorem e_addS {x y : Str} {S : Sto} {Q : DK} : dAdd (.str x) (.str y) S Q = (x.length + y.length ≤ 1000000 ∧ Q (.str (x ++ y)) S) := rfl
theorem e_addT {x y : List PyData} {S : Sto} {Q : DK} : dAdd (.tuple x) (.tuple y) S Q = (x.length + y.length ≤ 1000000 ∧ Q (.tuple (x ++ y)) S) := rfl
theorem e_addL {x y : List PyData} {S : Sto} {Q : DK} : dAdd (.list x) (.list y) S Q = (x.length + y.length ≤ 1000000 ∧ Q (.list (x ++ y)) S) := rfl
theorem e_i2 {g : Int → Int → PyData} {i j : Int} {S : Sto} {Q : DK} : dI2 g (.int i) (.int j) S Q = Q (g i j) S := rfl
theorem e_i2c {c : Int → Int → Prop} {g : Int → Int → PyData} {i j : Int} {S : Sto} {Q : DK} : dI2c c g (.int i) (.int j) S Q = (c i j ∧ Q (g i j) S) := rfl
theorem e_is {g : PyData → Bool} {a : PyData} {S : Sto} {Q : DK} : dIs g a .none S Q = Q (.bool (g a)) S := rfl
theorem e_bool {b : Bool} : boolD (.bool b) = some b := rfl
theorem e_cel {n : Nat} : celN (cel n) = some n := rfl
theorem e_strD {z : Str} : isStrD (.str z) = some z := rfl
theorem e_lenS {z : Str} {S : Sto} {Q : DK} : dLen (.str z) S Q = (z.length ≤ 1000000 ∧ Q (.int z.length) S) := rfl
theorem e_lenT {x : List PyData} {S : Sto} {Q : DK} : dLen (.tuple x) S Q = Q (.int x.length) S := rfl
theorem e_lenL {x : List PyData} {S : Sto} {Q : DK} : dLen (.list x) S Q = Q (.int x.length) S := rfl
theorem e_lenC {n : Nat} {S : Sto} {Q : DK} : dLen (cel n) S Q = wh (itemsD S (cel n)) fun ds => Q (.int ds.length) S := rfl
theorem e_ixS {z : Str} {i : Int} {S : Sto} {Q : DK} : dIx (.str z) (.int i) S Q = (z.length ≤ 1000000 ∧ wh (atI z.cps.toList i) fun c => Q (.str ⟨#[c]⟩) S) := rfl
theorem e_ixT {x : List PyData} {i : Int} {S : Sto} {Q : DK} : dIx (.tuple x) (.int i) S Q = wh (atI x i) fun d => Q d S := rfl
theorem e_ixL {x : List PyData} {i : Int} {S : Sto} {Q : DK} : dIx (.list x) (.int i) S Q = wh (atI x i) fun d => Q d S := rfl
theorem e_ixC {n : Nat} {i : Int} {S : Sto} {Q : DK} : dIx (cel n) (.int i) S Q = wh (itemsD S (cel n)) fun ds => wh (atI ds i) fun d => Q d S := rfl
theorem e_slS {b : Bool} {z : Str} {l u : Option Int} {S : Sto} {Q : DK} : dSl b (.str z) l u S Q = (z.length ≤ 1000000 ∧ Q (.str (cutS z l u)) S) := rfl
theorem e_slT {b : Bool} {x : List PyData} {l u : Option Int} {S : Sto} {Q : DK} : dSl b (.tuple x) l u S Q = Q (.tuple (cutD x l u)) S := rfl
theorem e_slL {x : List PyData} {l u : Option Int} {S : Sto} {Q : DK} : dSl false (.list x) l u S Q = Q (.list (cutD x l u)) S := rfl
theorem e_slC {n : Nat} {l u : Option Int} {S : Sto} {Q : DK} : dSl false (cel n) l u S Q = wh (itemsD S (cel n)) fun ds => if false = true then (∀ n, S n = none → Q (cel n) (put S n (.lst (cutD ds l u)))) else Q (.list (cutD ds l u)) S := rfl
theorem e_itT {S : Sto} {x : List PyData} : itemsD S (.tuple x) = some x := rfl
theorem e_itL {S : Sto} {x : List PyData} : itemsD S (.list x) = some x := rfl
theorem e_truN {S : Sto} {i : Int} {b : Bool} {x : List PyData} : truD S .none = some (false) := rfl
theorem e_truI {S : Sto} {i : Int} {b : Bool} {x : List PyData} : truD S (.int i) = some ((i != 0)) := rfl
theorem e_truB {S : Sto} {i : Int} {b : Bool} {x : List PyData} : truD S (.bool b) = some (b) := rfl
theorem e_truL {S : Sto} {i : Int} {b : Bool} {x : List PyData} : truD S (.list x) = some (!x.isEmpty) := rfl
theorem e_truT {S : Sto} {i : Int} {b : Bool} {x : List PyData} : truD S (.tuple x) = some (!x.isEmpty) := rfl
theorem e_okN {S : Sto}  : okTy S .none = True := rfl
theorem e_okB {S : Sto} {b : Bool}  : okTy S (.bool b) = True := rfl
theorem e_okI {S : Sto} {i : Int}  : okTy S (.int i) = True := rfl
theorem e_okS {S : Sto} {z : Str}  : okTy S (.str z) = True := rfl
theorem e_okL {S : Sto} {x : List PyData}  : okTy S (.list x) = True := rfl
theorem e_okT {S : Sto} {x : List PyData}  : okTy S (.tuple x) = True := rfl
theorem e_okC {S : Sto} {n : Nat} : okTy S (cel n) = ∃ ds, S n = some (.lst ds) := rfl
theorem e_tupN  : isT .tup .none = false := rfl
theorem e_tupB {b : Bool}  : isT .tup (.bool b) = false := rfl
theorem e_tupI {i : Int}  : isT .tup (.int i) = false := rfl
theorem e_tupS {z : Str}  : isT .tup (.str z) = false := rfl
theorem e_tupL {x : List PyData}  : isT .tup (.list x) = false := rfl
theorem e_tupT {x : List PyData}  : isT .tup (.tuple x) = true := rfl
theorem e_tupC {n : Nat}  : isT .tup (cel n) = false := rfl
theorem e_strN  : isT .str .none = false := rfl
theorem e_strB {b : Bool}  : isT .str (.bool b) = false := rfl
theorem e_strI {i : Int}  : isT .str (.int i) = false := rfl
theorem e_strS {z : Str}  : isT .str (.str z) = true := rfl
theorem e_strL {x : List PyData}  : isT .str (.list x) = false := rfl
theorem e_strT {x : List PyData}  : isT .str (.tuple x) = false := rfl
theorem e_strC {n : Nat}  : isT .str (cel n) = false := rfl
theorem e_intN  : isT .int .none = false := rfl
theorem e_intB {b : Bool}  : isT .int (.bool b) = true := rfl
theorem e_intI {i : Int}  : isT .int (.int i) = true := rfl
theorem e_intS {z : Str}  : isT .int (.str z) = false := rfl
theorem e_intL {x : List PyData}  : isT .int (.list x) = false := rfl
theorem e_intT {x : List PyData}  : isT .int (.tuple x) = false := rfl
theorem e_intC {n : Nat}  : isT .int (cel n) = false := rfl
theorem e_boolN  : isT .bool .none = false := rfl
theorem e_boolB {b : Bool}  : isT .bool (.bool b) = true := rfl
theorem e_boolI {i : Int}  : isT .bool (.int i) = false := rfl
theorem e_boolS {z : Str}  : isT .bool (.str z) = false := rfl
theorem e_boolL {x : List PyData}  : isT .bool (.list x) = false := rfl
theorem e_boolT {x : List PyData}  : isT .bool (.tuple x) = false := rfl
theorem e_boolC {n : Nat}  : isT .bool (cel n) = false := rfl
theorem e_lstN  : isT .lst .none = false := rfl
theorem e_lstB {b : Bool}  : isT .lst (.bool b) = false := rfl
theorem e_lstI {i : Int}  : isT .lst (.int i) = false := rfl
theorem e_lstS {z : Str}  : isT .lst (.str z) = false := rfl
theorem e_lstL {x : List PyData}  : isT .lst (.list x) = true := rfl
theorem e_lstT {x : List PyData}  : isT .lst (.tuple x) = false := rfl
theorem e_lstC {n : Nat}  : isT .lst (cel n) = true := rfl
theorem e_nonN  : isNon .none = true := rfl
theorem e_nonB {b : Bool}  : isNon (.bool b) = false := rfl
theorem e_nonI {i : Int}  : isNon (.int i) = false := rfl
theorem e_nonS {z : Str}  : isNon (.str z) = false := rfl
theorem e_nonL {x : List PyData}  : isNon (.list x) = false := rfl
theorem e_nonT {x : List PyData}  : isNon (.tuple x) = false := rfl
theorem e_wkS {S : Sto} {z : Str} : walkD S (.str z) = some (signs z, fun _ => True) := rfl
theorem e_wkL {S : Sto} {x : List PyData} : walkD S (.list x) = some (x, fun _ => True) := rfl
theorem e_wkT {S : Sto} {x : List PyData} : walkD S (.tuple x) = some (x, fun _ => True) := rfl
theorem e_wkC {S : Sto} {n : Nat} : walkD S (cel n) = (lstC S n).map fun ds => (ds, fun S' => S' n = some (.lst ds)) := rfl
theorem e_join {z : Str} {d : PyData} {S : Sto} {Q : DK} : dJoin (.str z) d S Q = wh (itemsD S d) fun ds => wh (strsD ds) fun zs => (zs.map (·.length)).sum + zs.length * z.length ≤ 1000000 ∧ Q (.str (Txt.join z zs)) S := rfl
theorem e_inS {x z : Str} {S : Sto} {Q : DK} : dInS (.str x) (.str z) S Q = wh (match x.cps.toList with | [c] => some c | _ => none) fun c => Q (.bool (decide (c ∈ z.cps.toList))) S := rfl
theorem e_ninS {x z : Str} {S : Sto} {Q : DK} : dNotInS (.str x) (.str z) S Q = wh (match x.cps.toList with | [c] => some c | _ => none) fun c => Q (.bool (!decide (c ∈ z.cps.toList))) S := rfl
theorem e_ofI {i : Int} {S : Sto} {Q : DK} : dIntOf (.int i) S Q = Q (.int i) S := rfl
theorem e_ofB {b : Bool} {S : Sto} {Q : DK} : dIntOf (.bool b) S Q = Q (.int (if b = true then 1 else 0)) S := rfl
theorem e_abs {i : Int} {S : Sto} {Q : DK} : dAbs (.int i) S Q = Q (.int (if i < 0 then -i else i)) S := rfl
theorem e_lenF {x : List PyData} {S : Sto} {Q : DK} : dLen (frz x) S Q = Q (.int x.length) S := rfl
theorem e_ixF {x : List PyData} {i : Int} {S : Sto} {Q : DK} : dIx (frz x) (.int i) S Q = wh (atI x i) fun d => Q d S := rfl
theorem e_itF {S : Sto} {x : List PyData} : itemsD S (frz x) = some x := rfl
theorem e_wkF {S : Sto} {x : List PyData} : walkD S (frz x) = some (x, fun _ => True) := rfl
theorem e_tfF {x : List PyData} {S : Sto} {Q : DK} : dTupOf (frz x) S Q = Q (frz x) S := rfl
theorem e_truF {S : Sto} {x : List PyData} : truD S (frz x) = some (!x.isEmpty) := rfl
theorem e_repT {x : List PyData} {k : Int} {S : Sto} {Q : DK} : dRep (.tuple x) (.int k) S Q = (true = true ∧ wh (some x) fun ds => (ds ≠ [] ∧ 2 ≤ k ∧ k ≤ 1000 ∧ ds.length ≤ 1000) ∧ Q (.tuple (List.replicate k.toNat ds).flatten) S) := rfl
theorem e_keyI {i : Int} : keyD (.int i) = some (.inl i) := rfl
theorem e_keyS {z : Str} : keyD (.str z) = some (.inr z) := rfl
theorem ifT {A B : Prop} : (if true = true then A else B) = A := if_pos rfl
theorem ifF {A B : Prop} : (if false = true then A else B) = B := if_neg Bool.false_ne_true
theorem pv_mono : True := trivial
end K3

/-! the plain layer: more rules -/
namespace K3
open PySem L2 Xr K1
section
variable {X : Cx} {e a b : Expr} {es : List Expr} {t ta tb : DE} {pos : Pos} {gs : DGs}
/-- a, b = a list -/
def dgUnl (n : Nat) (gs : DGs) : DG := fun d ρ S Q => isTupD d = false ∧ wh (itemsD S d) fun ds => ds.length = n ∧ gs ds ρ S Q
theorem qg_unl {k : Nat} {n : Nat} (hc : X.calm = true) (h : QGs X es gs)
    (hn : (assignEach es X.env).length = n := by rfl) (hst : (assignEach es X.env).findIdx? (·.1) = none := by rfl) : QG X (.Tuple es k pos) (dgUnl n gs) := pg_weak (pg_unl hc h hn hst) fun v σ H Q ⟨d, B, ρ, S, m, Qd, at_, dv, q, k⟩ => by
  obtain ⟨nt, q⟩ := q
  obtain ⟨ds, h1, l, q⟩ := wh_of q
  obtain ⟨p, xs, rfl, hq, al⟩ := dv.items2 at_.wd h1
  rcases hq with hq | hq
  · exact ⟨p, xs, rfl, hq.2, by rw [al.len]; exact l, _, B, ρ, S, m, Qd, at_, al, q, k⟩
  · rw [nt] at hq
    cases hq.1
/-- is True, is False -/
def dIsB (g : Bool → Bool → Bool) : D2
  | .bool p, .bool q, S, Q => Q (.bool (g p q)) S
  | _, _, _, _ => False
theorem snd_isB {K : PySem.W.Frag} : Snd2 K (dIsB fun p q => decide (p = q)) rIsB := fun m H S x y a b Q Qd w dx dy h k => by
  cases a <;> cases b <;> first | exact False.elim h | skip
  cases dx
  cases dy
  exact ⟨_, _, rfl, rfl, k _ _ _ _ _ h Evo.refl w (.bl _)⟩
theorem snd_notB {K : PySem.W.Frag} : Snd2 K (dIsB fun p q => !decide (p = q)) rNotB := fun m H S x y a b Q Qd w dx dy h k => by
  cases a <;> cases b <;> first | exact False.elim h | skip
  cases dx
  cases dy
  exact ⟨_, _, rfl, rfl, k _ _ _ _ _ h Evo.refl w (.bl _)⟩
end
theorem e_isB {g : Bool → Bool → Bool} {p q : Bool} {S : Sto} {Q : DK} : dIsB g (.bool p) (.bool q) S Q = Q (.bool (g p q)) S := rfl
theorem rangeD_at {lo c : Int} {n i : Nat} {d : PyData} (h : (rangeD lo c n)[i]? = some d) : i < n ∧ d = .int (lo + (i : Nat) * c) := by
  have l : i < n := by
    have := (List.getElem?_eq_some_iff.mp h).1
    rw [rangeD_len] at this
    exact this
  rw [rangeD_get l] at h
  exact ⟨l, (Option.some.inj h).symm⟩
theorem small_nat {n : Nat} (h : n ≤ 1000000000) : small62 (n : Int) := ⟨by omega, by omega⟩
theorem e_tupD {x : List PyData} : isTupD (.list x) = false := rfl
end K3

/-! the plain layer: in, of a list or tuple of texts, or of ints -/
namespace K3
open PySem L2 Xr K1
def intsD : List PyData → Option (List Int)
  | [] => some []
  | .int i :: ds => (intsD ds).map (i :: ·)
  | _ => none
theorem intsD_map : ∀ l : List Int, intsD (l.map PyData.int) = some l
  | [] => rfl
  | i :: l => by
    show (intsD (l.map PyData.int)).map (i :: ·) = _
    rw [intsD_map l]
    rfl
theorem strsD_map : ∀ l : List Str, strsD (l.map PyData.str) = some l
  | [] => rfl
  | i :: l => by
    show (strsD (l.map PyData.str)).map (i :: ·) = _
    rw [strsD_map l]
    rfl
theorem intsD_dv {K : PySem.W.Frag} {m : Mp} {H : Hp} : ∀ {ds : List PyData} {xs : List V} {bs : List Int}, DvAll K m H xs ds → intsD ds = some bs → xs = bs.map V.int
  | [], _, _, h, e => by
    cases h
    cases e
    rfl
  | d :: ds, _, bs, h, e => by
    cases h with
    | cons a r =>
      cases a <;> first | cases e | skip
      rename_i b
      have e' : (intsD ds).map (b :: ·) = some bs := e
      cases hs : intsD ds with
      | none => rw [hs] at e'; cases e'
      | some cs =>
        rw [hs] at e'
        cases e'
        rw [intsD_dv r hs]
        rfl
def dInQ (neg : Bool) : D2
  | .str z, o, S, Q => wh (itemsD S o) fun ds => wh (strsD ds) fun zs => Q (.bool (xor neg (decide (z ∈ zs)))) S
  | .int i, o, S, Q => wh (itemsD S o) fun ds => wh (intsD ds) fun is => Q (.bool (xor neg (decide (i ∈ is)))) S
  | _, _, _, _ => False
theorem inV_str (z : Str) (zs : List Str) : inV (.str z) (zs.map V.str) = decide (z ∈ zs) := by
  unfold inV
  rw [List.any_map, Bool.eq_iff_iff, List.any_eq_true, decide_eq_true_iff]
  constructor
  · rintro ⟨y, h1, h2⟩
    have h3 : (y == z) = true := h2
    rwa [eq_of_beq h3] at h1
  · intro h
    exact ⟨z, h, by show (z == z) = true; simp⟩
theorem inV_int (z : Int) (zs : List Int) : inV (.int z) (zs.map V.int) = decide (z ∈ zs) := by
  unfold inV
  rw [List.any_map, Bool.eq_iff_iff, List.any_eq_true, decide_eq_true_iff]
  constructor
  · rintro ⟨y, h1, h2⟩
    have h3 : (y == z) = true := h2
    rwa [eq_of_beq h3] at h1
  · intro h
    exact ⟨z, h, by show (z == z) = true; simp⟩
theorem flat_str (zs : List Str) : (zs.map V.str).all flatV = true := by
  rw [List.all_map, List.all_eq_true]
  exact fun _ _ => rfl
theorem flat_int (zs : List Int) : (zs.map V.int).all flatV = true := by
  rw [List.all_map, List.all_eq_true]
  exact fun _ _ => rfl
theorem snd_inQ {K : PySem.W.Frag} (neg : Bool) : Snd2 K (dInQ neg) (rIn K neg) := fun m H S x y a b Q Qd w dx dy h k => by
  cases a <;> first | exact False.elim h | skip
  · rename_i i
    cases dx
    obtain ⟨ds, h1, h⟩ := wh_of h
    obtain ⟨is, h2, q⟩ := wh_of h
    obtain ⟨p, xs, rfl, hq, al⟩ := dy.items w h1
    have := intsD_dv al h2
    subst this
    refine ⟨p, _, rfl, hq, rfl, flat_int is, ?_⟩
    rw [inV_int]
    cases neg with
    | false => rw [Bool.false_xor] at q; exact k _ _ _ _ _ q Evo.refl w (.bl _)
    | true => rw [Bool.true_xor] at q; exact k _ _ _ _ _ q Evo.refl w (.bl _)
  · rename_i z
    cases dx
    obtain ⟨ds, h1, h⟩ := wh_of h
    obtain ⟨zs, h2, q⟩ := wh_of h
    obtain ⟨p, xs, rfl, hq, al⟩ := dy.items w h1
    have := strs_dv al h2
    subst this
    refine ⟨p, _, rfl, hq, rfl, flat_str zs, ?_⟩
    rw [inV_str]
    cases neg with
    | false => rw [Bool.false_xor] at q; exact k _ _ _ _ _ q Evo.refl w (.bl _)
    | true => rw [Bool.true_xor] at q; exact k _ _ _ _ _ q Evo.refl w (.bl _)
theorem e_inQs {neg : Bool} {z : Str} {o : PyData} {S : Sto} {Q : DK} : dInQ neg (.str z) o S Q = wh (itemsD S o) fun ds => wh (strsD ds) fun zs => Q (.bool (xor neg (decide (z ∈ zs)))) S := rfl
theorem e_inQi {neg : Bool} {i : Int} {o : PyData} {S : Sto} {Q : DK} : dInQ neg (.int i) o S Q = wh (itemsD S o) fun ds => wh (intsD ds) fun is => Q (.bool (xor neg (decide (i ∈ is)))) S := rfl
end K3

/-! documents as trees, for the plain layer; tables of states -/
namespace K3
open PySem L2 Xr K1
inductive Tr where
  | txt (z : Str)
  | nod (q : Str) (ts : List Tr)
mutual
def Tr.dat : Tr → PyData
  | .txt z => .str z
  | .nod q ts => .tuple [.str q, .tuple (trD ts)]
def trD : List Tr → List PyData
  | [] => []
  | t :: ts => t.dat :: trD ts
end
mutual
def Tr.cnt : Tr → Nat
  | .txt _ => 1
  | .nod _ ts => 1 + trC ts
def trC : List Tr → Nat
  | [] => 0
  | t :: ts => t.cnt + trC ts
end
mutual
def Tr.pre : Tr → List Tr
  | .txt z => [.txt z]
  | .nod q ts => .nod q ts :: trP ts
def trP : List Tr → List Tr
  | [] => []
  | t :: ts => t.pre ++ trP ts
end
mutual
/-- all names are among these -/
def Tr.inN (ns : List Str) : Tr → Prop
  | .txt _ => True
  | .nod q ts => q ∈ ns ∧ trN ns ts
def trN (ns : List Str) : List Tr → Prop
  | [] => True
  | t :: ts => t.inN ns ∧ trN ns ts
end
def Tr.kids : Tr → List Tr
  | .txt _ => []
  | .nod _ ts => ts
theorem trD_map : ∀ ts : List Tr, trD ts = ts.map Tr.dat
  | [] => rfl
  | t :: ts => by
    show t.dat :: trD ts = _
    rw [trD_map ts]
    rfl
theorem trP_app : ∀ ts us : List Tr, trP (ts ++ us) = trP ts ++ trP us
  | [], us => rfl
  | t :: ts, us => by
    show t.pre ++ trP (ts ++ us) = (t.pre ++ trP ts) ++ trP us
    rw [trP_app ts us, List.append_assoc]
theorem trC_app : ∀ ts us : List Tr, trC (ts ++ us) = trC ts + trC us
  | [], us => by show trC us = 0 + trC us; omega
  | t :: ts, us => by
    show t.cnt + trC (ts ++ us) = (t.cnt + trC ts) + trC us
    rw [trC_app ts us]
    omega
theorem trN_app {ns : List Str} : ∀ ts us : List Tr, trN ns (ts ++ us) ↔ trN ns ts ∧ trN ns us
  | [], us => ⟨fun h => ⟨trivial, h⟩, fun h => h.2⟩
  | t :: ts, us => by
    show (t.inN ns ∧ trN ns (ts ++ us)) ↔ ((t.inN ns ∧ trN ns ts) ∧ trN ns us)
    rw [trN_app ts us, and_assoc]
theorem trP_cons (t : Tr) (ts : List Tr) : trP (t :: ts) = t :: trP (t.kids ++ ts) := by
  cases t with
  | txt z => rfl
  | nod q us =>
    show (Tr.nod q us :: trP us) ++ trP ts = _
    rw [trP_app]
    rfl
theorem trC_kids (t : Tr) (ts : List Tr) : trC (t :: ts) = 1 + trC (t.kids ++ ts) := by
  rw [trC_app]
  cases t with
  | txt z => show 1 + trC ts = 1 + (0 + trC ts); omega
  | nod q us => show 1 + trC us + trC ts = 1 + (trC us + trC ts); omega
theorem cnt_posT (t : Tr) : 1 ≤ t.cnt := by
  cases t with
  | txt z => exact Nat.le_refl 1
  | nod q us => show 1 ≤ 1 + trC us; omega
theorem trC_len : ∀ ts : List Tr, ts.length ≤ trC ts
  | [] => Nat.le_refl _
  | t :: ts => by
    have := trC_len ts
    have := cnt_posT t
    show ts.length + 1 ≤ t.cnt + trC ts
    omega
theorem trP_len : ∀ (n : Nat) (ts : List Tr), trC ts ≤ n → (trP ts).length = trC ts
  | _, [], _ => rfl
  | 0, t :: ts, h => by
    have := trC_kids t ts
    omega
  | n + 1, t :: ts, h => by
    have e := trC_kids t ts
    rw [trP_cons, List.length_cons, trP_len n _ (by omega), e]
    omega
theorem trN_pre {ns : List Str} : ∀ (n : Nat) (ts : List Tr), trC ts ≤ n → trN ns ts → ∀ u ∈ trP ts, u.inN ns
  | _, [], _, _, u, h => by
    have h' : u ∈ ([] : List Tr) := h
    simp at h'
  | 0, t :: ts, h, _, _, _ => by
    have := trC_kids t ts
    omega
  | n + 1, t :: ts, hl, ho, u, h => by
    have e := trC_kids t ts
    rw [trP_cons] at h
    rcases List.mem_cons.mp h with h | h
    · rw [h]
      exact ho.1
    · refine trN_pre n _ (by omega) ((trN_app _ _).mpr ⟨?_, ho.2⟩) u h
      cases t with
      | txt z => trivial
      | nod q us => exact ho.1.2
/-! tables -/
abbrev nats (l : List Nat) : List PyData := l.map fun n => .int (n : Nat)
structure Tb where
  ns : List Str
  bs : List Nat
  xs : List Nat
  st : List (List Nat)
  es : List Nat
abbrev TN : List Str := ["names", "begins", "texts", "steps", "ends"]
def Tb.parts (T : Tb) : List PyData := [frz (T.ns.map PyData.str), .tuple (nats T.bs), .tuple (nats T.xs), .tuple (T.st.map fun r => .tuple (nats r)), .tuple (nats T.es)]
abbrev Tb.dat (T : Tb) (C : Addr) : PyData := obj C TN T.parts
structure Tb.ok (T : Tb) : Prop where
  n1 : 1 ≤ T.xs.length
  n2 : T.xs.length ≤ 1000
  nl : T.ns.length ≤ 1000
  nz : ∀ z ∈ T.ns, z.length ≤ 1000
  nk : ∀ z ∈ T.ns, PyData.strOk z = true
  nd : T.ns.Nodup
  bl : T.bs.length = T.ns.length
  bn : ∀ b ∈ T.bs, b < T.xs.length
  xn : ∀ b ∈ T.xs, b < T.xs.length
  sl : T.st.length = T.xs.length
  sr : ∀ r ∈ T.st, r.length = T.xs.length ∧ ∀ b ∈ r, b < T.xs.length
  en : ∀ b ∈ T.es, b < T.xs.length
  el : T.es.length ≤ 1000
def Tb.step (T : Tb) (s : Nat) : Option Nat → Nat
  | none => T.xs.getD s 0
  | some c => (T.st.getD s []).getD c 0
def Tb.b (T : Tb) (q : Str) : Nat := T.bs.getD (T.ns.idxOf q) 0
mutual
def Tb.ev (T : Tb) : Tr → Option Nat
  | .txt _ => none
  | .nod q ts => some (T.on (T.b q) ts)
def Tb.on (T : Tb) : Nat → List Tr → Nat
  | s, [] => s
  | s, t :: ts => T.on (T.step s (T.ev t)) ts
end
def optD : Option Nat → PyData
  | none => .none
  | some n => .int (n : Nat)
theorem Tb.ok.step {T : Tb} (o : T.ok) {s : Nat} (hs : s < T.xs.length) {c : Option Nat} (hc : ∀ n, c = some n → n < T.xs.length) : T.step s c < T.xs.length := by
  cases c with
  | none =>
    have : T.xs.getD s 0 = T.xs[s] := by simp [hs]
    show T.xs.getD s 0 < _
    rw [this]
    exact o.xn _ (List.getElem_mem hs)
  | some c =>
    have hl : s < T.st.length := by rw [o.sl]; exact hs
    have hm : T.st[s] ∈ T.st := List.getElem_mem hl
    have h2 := o.sr _ hm
    have hcn := hc c rfl
    have e : T.st.getD s [] = T.st[s] := by simp [hl]
    show (T.st.getD s []).getD c 0 < _
    rw [e]
    have hcl : c < (T.st[s]).length := by rw [h2.1]; exact hcn
    have e2 : (T.st[s]).getD c 0 = (T.st[s])[c] := by simp [hcl]
    rw [e2]
    exact h2.2 _ (List.getElem_mem hcl)
theorem Tb.ok.b {T : Tb} (o : T.ok) {q : Str} (h : q ∈ T.ns) : T.b q < T.xs.length := by
  have hl : T.ns.idxOf q < T.bs.length := by rw [o.bl]; exact List.idxOf_lt_length_of_mem h
  have e : T.bs.getD (T.ns.idxOf q) 0 = T.bs[T.ns.idxOf q] := by simp [hl]
  show T.bs.getD (T.ns.idxOf q) 0 < _
  rw [e]
  exact o.bn _ (List.getElem_mem hl)
mutual
theorem Tb.ok.ev {T : Tb} (o : T.ok) : ∀ (t : Tr), t.inN T.ns → ∀ n, T.ev t = some n → n < T.xs.length
  | .txt _, _, n, h => by cases h
  | .nod q ts, hn, n, h => by
    have h' : some (T.on (T.b q) ts) = some n := h
    cases h'
    exact Tb.ok.on o ts _ (o.b hn.1) hn.2
theorem Tb.ok.on {T : Tb} (o : T.ok) : ∀ (ts : List Tr) (s : Nat), s < T.xs.length → trN T.ns ts → T.on s ts < T.xs.length
  | [], s, hs, _ => hs
  | t :: ts, s, hs, hn => Tb.ok.on o ts _ (o.step hs (Tb.ok.ev o t hn.1)) hn.2
end
end K3

/-! taken, all_things -/
namespace K3
open PySem L2 Xr K1
abbrev sTaken : Stmt := top 1
theorem scTaken : FnScope ["made", "many", "start", "found"] ["made", "many"] (defScope sTaken) := ⟨rfl, rfl, rfl, by decide +kernel, rfl, by decide +kernel, by decide +kernel⟩
abbrev sAllT : Stmt := top 3
theorem scAllT : FnScope ["forest", "waiting", "things", "thing"] ["forest"] (defScope sAllT) := ⟨rfl, rfl, rfl, by decide +kernel, rfl, by decide +kernel, by decide +kernel⟩
def spTakenD : SpD := fun ds S Q _ => ∃ (n : Nat) (es ys : List PyData), ds = [cel n, .int (ys.length : Nat)] ∧ S n = some (.lst (es ++ ys)) ∧ es.length + ys.length ≤ 900000 ∧ Q (.list ys.reverse) (put S n (.lst es))
def spAllD : SpD := fun ds S Q _ => ∃ (ts : List Tr), ds = [.tuple (trD ts)] ∧ trC ts ≤ 900000 ∧ ∀ n S', Ext S S' → S n = none → S' n = some (.lst (trD (trP ts))) → Q (cel n) S'
structure BaseTxt (mg : Str → Option Value) : Prop where
  n_len : mg "len" = none
  n_list : mg "list" = none
  n_isinstance : mg "isinstance" = none
  n_str : mg "str" = none
theorem cutD_to {ds : List PyData} {j : Nat} (h : j ≤ ds.length) : cutD ds none (some (j : Int)) = ds.take j := by
  unfold cutD
  rw [HT.sIx_nat, HT.sIx_none, List.drop_zero, Nat.sub_zero, Nat.min_eq_left h]
theorem cutD_from {ds : List PyData} {j : Nat} (h : j ≤ ds.length) : cutD ds (some (j : Int)) none = ds.drop j := by
  unfold cutD
  rw [HT.sIx_nat, HT.sIx_none, Nat.min_eq_left h, List.take_of_length_le]
  rw [List.length_drop]
  exact Nat.le_refl _
theorem tru_cel {S : Sto} {n : Nat} {ds : List PyData} (h : S n = some (.lst ds)) : truD S (cel n) = some (!ds.isEmpty) := by
  show (S n).bind _ = _
  rw [h]
  rfl
section
variable {P : Program} {w : World} {K : PySem.W.Frag} {mg : Str → Option Value} {base : Heap}
theorem ok_taken {f : Addr} {fd : FuncData} (F : Fun K "taken" "taken" sTaken f fd) (T : BaseTxt mg) : FnOk P w K mg base CX0 1 f fd ["made", "many"] (spD K spTakenD) := by
  refine dok F scTaken (fun ds S Q E h => ?_) fun cdv A outer s H Q E (hr : Room 0 _) => ⟨_, (qss_cons (qs_set (i := 2) scTaken.nd rfl (Or.inl rfl) (q_sub (q_len T.n_len (by rfl) (q_cons (q_var (pv 0)) q_nil)) (q_var (pv 1))))
      (qss_cons (qs_set (i := 3) scTaken.nd rfl (Or.inl rfl) (q_sl false (q_var (pv 0)) (qo_some (q_var (pv 2))) qo_none))
      (qss_cons (qs_delT (q_var (pv 0)) (qo_some (q_var (pv 2))))
      (qss_one (qs_ret (q_revL (q_var (pv 3)))))))), fun ds S Qd Ed h => ?_⟩
  · obtain ⟨n, es, ys, rfl, _⟩ := h
    rfl
  · obtain ⟨n, es, ys, rfl, hS, hl, q⟩ := h
    (dsimp only [dDelT, mPop0, mPop, mApp, mExt, dFld, dNew, dDGet, dDIn, dZipT, dAll, dTupF, dIdx, dTupRg, dDc, dReprT, dEqT, dNeT, dFor, dLc, dWhile, dRange1, dRange2, dRange3, dEnumT, e_isB, e_tupD, dgUnl, dSeq, dIfS, dSet, dAsg, dRet, dRetN, dDrop, dNext, dPar, dVar, dC, dOp, dB, dTru, dtNot, dtAnd, dtOr, dAnd, dOr, dNot, dIfE, dNeg, dNil, dCons, dTup, dLst, dCel, dNoP, dPart, dSlice, dRevT, dRevL, dCall, on1, dTupOf, dLstOf, dCelOf, dIsi, dName, dgNil, dgCons, dgTup, dFn, dMet, dMet0, gt, st, startD, wh_some, dYes, dEq, dNe, List.map, List.length, List.replicate, List.append, List.cons_append, List.nil_append, dWalk, uns, un, tupNms, dNms, ifT, ifF, List.replicate_succ, List.replicate_zero, Nat.sub_self, Nat.reduceSub, Nat.reduceAdd, Nat.zero_add, Bool.not_true, Bool.not_false, e_addI, e_addS, e_addT, e_addL, e_i2, e_i2c, e_is, e_bool, e_cel, e_strD, e_lenS, e_lenT, e_lenL, e_lenC, e_ixS, e_ixT, e_ixL, e_ixC, e_slS, e_slT, e_slL, e_slC, e_itT, e_itL, e_truN, e_truI, e_truB, e_truL, e_truT, e_okN, e_okB, e_okI, e_okS, e_okL, e_okT, e_okC, e_tupN, e_tupB, e_tupI, e_tupS, e_tupL, e_tupT, e_tupC, e_strN, e_strB, e_strI, e_strS, e_strL, e_strT, e_strC, e_intN, e_intB, e_intI, e_intS, e_intL, e_intT, e_intC, e_boolN, e_boolB, e_boolI, e_boolS, e_boolL, e_boolT, e_boolC, e_lstN, e_lstB, e_lstI, e_lstS, e_lstL, e_lstT, e_lstC, e_nonN, e_nonB, e_nonI, e_nonS, e_nonL, e_nonT, e_wkS, e_wkL, e_wkT, e_wkC, e_join, e_inS, e_ninS, e_ofI, e_ofB, e_abs, e_lenF, e_ixF, e_itF, e_wkF, e_tfF, e_truF, e_repT, e_keyI, e_keyS]; try simp only [true_and, and_true, Nat.reduceLeDiff, reduceIte, reduceCtorEq, Bool.false_eq_true, if_true, if_false, not_false_eq_true, ite_true, ite_false, and_self])
    refine wh_mk (items_cel hS) (wh_mk (items_cel hS) (wh_mk (lstC_of hS) ?_))
    have e1 : ((((es ++ ys).length : Nat) : Int) - ((ys.length : Nat) : Int)) = ((es.length : Nat) : Int) := by rw [List.length_append]; omega
    rw [e1]
    refine ⟨by rw [List.length_append]; omega, ?_⟩
    have e2 : cutD (es ++ ys) (some ((es.length : Nat) : Int)) none = ys := by
      rw [cutD_from (by rw [List.length_append]; omega), List.drop_left]
    rw [e2, List.take_left]
    exact q
theorem ok_allT {f : Addr} {fd : FuncData} (F : Fun K "all_things" "all_things" sAllT f fd) (T : BaseTxt mg) : FnOk P w K mg base CX0 1 f fd ["forest"] (spD K spAllD) := by
  refine dok F scAllT (fun ds S Q E h => ?_) fun cdv A outer s H Q E (hr : Room 0 _) => ⟨_, (qss_cons (qs_set (i := 1) scAllT.nd rfl (Or.inl rfl) (q_listC T.n_list (by rfl) (q_cons (q_revT (q_var (pv 0))) q_nil)))
      (qss_cons (qs_set (i := 2) scAllT.nd rfl (Or.inl rfl) (q_cel q_nil))
      (qss_cons (qs_while PassesOwn.never (qt_tru (q_var (pv 1)) (by intro _; rfl))
      (qss_cons (qs_set (i := 3) scAllT.nd rfl (Or.inl rfl) (q_pop (q_var (pv 1))))
      (qss_cons (qs_expr (q_append (q_var (pv 2)) (q_cons (q_var (pv 3)) q_nil)))
      (qss_one (qs_if (qt_not (qt_tru (q_isi .str T.n_isinstance (by rfl) (q_var (pv 3)) (pe_bltn (v := V.ty "str") (u := .type "str") (by rfl) T.n_str (by decide +kernel) (by rfl))) (by intro _; rfl)))
      (qss_one (qs_expr (q_extend (q_var (pv 1)) (q_cons (q_revT (q_at (q_var (pv 3)) q_int (fun _ _ => rfl))) q_nil))))
      qss_nil)))))
      (qss_one (qs_ret (q_var (pv 2))))))), fun ds S Qd Ed h => ?_⟩
  · obtain ⟨ts, rfl, _⟩ := h
    rfl
  · obtain ⟨ts, rfl, hl, q⟩ := h
    (dsimp only [dDelT, mPop0, mPop, mApp, mExt, dFld, dNew, dDGet, dDIn, dZipT, dAll, dTupF, dIdx, dTupRg, dDc, dReprT, dEqT, dNeT, dFor, dLc, dWhile, dRange1, dRange2, dRange3, dEnumT, e_isB, e_tupD, dgUnl, dSeq, dIfS, dSet, dAsg, dRet, dRetN, dDrop, dNext, dPar, dVar, dC, dOp, dB, dTru, dtNot, dtAnd, dtOr, dAnd, dOr, dNot, dIfE, dNeg, dNil, dCons, dTup, dLst, dCel, dNoP, dPart, dSlice, dRevT, dRevL, dCall, on1, dTupOf, dLstOf, dCelOf, dIsi, dName, dgNil, dgCons, dgTup, dFn, dMet, dMet0, gt, st, startD, wh_some, dYes, dEq, dNe, List.map, List.length, List.replicate, List.append, List.cons_append, List.nil_append, dWalk, uns, un, tupNms, dNms, ifT, ifF, List.replicate_succ, List.replicate_zero, Nat.sub_self, Nat.reduceSub, Nat.reduceAdd, Nat.zero_add, Bool.not_true, Bool.not_false, e_addI, e_addS, e_addT, e_addL, e_i2, e_i2c, e_is, e_bool, e_cel, e_strD, e_lenS, e_lenT, e_lenL, e_lenC, e_ixS, e_ixT, e_ixL, e_ixC, e_slS, e_slT, e_slL, e_slC, e_itT, e_itL, e_truN, e_truI, e_truB, e_truL, e_truT, e_okN, e_okB, e_okI, e_okS, e_okL, e_okT, e_okC, e_tupN, e_tupB, e_tupI, e_tupS, e_tupL, e_tupT, e_tupC, e_strN, e_strB, e_strI, e_strS, e_strL, e_strT, e_strC, e_intN, e_intB, e_intI, e_intS, e_intL, e_intT, e_intC, e_boolN, e_boolB, e_boolI, e_boolS, e_boolL, e_boolT, e_boolC, e_lstN, e_lstB, e_lstI, e_lstS, e_lstL, e_lstT, e_lstC, e_nonN, e_nonB, e_nonI, e_nonS, e_nonL, e_nonT, e_wkS, e_wkL, e_wkT, e_wkC, e_join, e_inS, e_ninS, e_ofI, e_ofB, e_abs, e_lenF, e_ixF, e_itF, e_wkF, e_tfF, e_truF, e_repT, e_keyI, e_keyS]; try simp only [true_and, and_true, Nat.reduceLeDiff, reduceIte, reduceCtorEq, Bool.false_eq_true, if_true, if_false, not_false_eq_true, ite_true, ite_false, and_self])
    intro w hw t ht
    have wt : t ≠ w := fun z => by rw [z, put_same] at ht; cases ht
    have ht0 : S t = none := by rw [put_ne wt] at ht; exact ht
    have e0 : Ext S (put (put S w (.lst (trD ts).reverse)) t (.lst [])) := (Ext.new hw).trans (Ext.new ht)
    refine ⟨fun k ρ S' => ∃ (fs ds : List Tr) (x : Option PyData), ρ = [some (.tuple (trD ts)), some (cel w), some (cel t), x] ∧ trC fs = k ∧ ds ++ trP fs = trP ts ∧ S' w = some (.lst (trD fs).reverse) ∧ S' t = some (.lst (trD ds)) ∧ Ext S S', ⟨trC ts, ts, [], none, rfl, rfl, rfl, by rw [put_ne (Ne.symm wt), put_same], put_same, e0⟩, ?_⟩
    rintro k ρ S1 ⟨fs, ds, x, rfl, hk, hd, h1, h2, he⟩
    (dsimp only [dDelT, mPop0, mPop, mApp, mExt, dFld, dNew, dDGet, dDIn, dZipT, dAll, dTupF, dIdx, dTupRg, dDc, dReprT, dEqT, dNeT, dFor, dLc, dWhile, dRange1, dRange2, dRange3, dEnumT, e_isB, e_tupD, dgUnl, dSeq, dIfS, dSet, dAsg, dRet, dRetN, dDrop, dNext, dPar, dVar, dC, dOp, dB, dTru, dtNot, dtAnd, dtOr, dAnd, dOr, dNot, dIfE, dNeg, dNil, dCons, dTup, dLst, dCel, dNoP, dPart, dSlice, dRevT, dRevL, dCall, on1, dTupOf, dLstOf, dCelOf, dIsi, dName, dgNil, dgCons, dgTup, dFn, dMet, dMet0, gt, st, startD, wh_some, dYes, dEq, dNe, List.map, List.length, List.replicate, List.append, List.cons_append, List.nil_append, dWalk, uns, un, tupNms, dNms, ifT, ifF, List.replicate_succ, List.replicate_zero, Nat.sub_self, Nat.reduceSub, Nat.reduceAdd, Nat.zero_add, Bool.not_true, Bool.not_false, e_addI, e_addS, e_addT, e_addL, e_i2, e_i2c, e_is, e_bool, e_cel, e_strD, e_lenS, e_lenT, e_lenL, e_lenC, e_ixS, e_ixT, e_ixL, e_ixC, e_slS, e_slT, e_slL, e_slC, e_itT, e_itL, e_truN, e_truI, e_truB, e_truL, e_truT, e_okN, e_okB, e_okI, e_okS, e_okL, e_okT, e_okC, e_tupN, e_tupB, e_tupI, e_tupS, e_tupL, e_tupT, e_tupC, e_strN, e_strB, e_strI, e_strS, e_strL, e_strT, e_strC, e_intN, e_intB, e_intI, e_intS, e_intL, e_intT, e_intC, e_boolN, e_boolB, e_boolI, e_boolS, e_boolL, e_boolT, e_boolC, e_lstN, e_lstB, e_lstI, e_lstS, e_lstL, e_lstT, e_lstC, e_nonN, e_nonB, e_nonI, e_nonS, e_nonL, e_nonT, e_wkS, e_wkL, e_wkT, e_wkC, e_join, e_inS, e_ninS, e_ofI, e_ofB, e_abs, e_lenF, e_ixF, e_itF, e_wkF, e_tfF, e_truF, e_repT, e_keyI, e_keyS]; try simp only [true_and, and_true, Nat.reduceLeDiff, reduceIte, reduceCtorEq, Bool.false_eq_true, if_true, if_false, not_false_eq_true, ite_true, ite_false, and_self])
    have wt2 : w ≠ t := fun z => wt z.symm
    refine wh_mk (tru_cel h1) ?_
    cases fs with
    | nil =>
      have hd' : ds ++ [] = trP ts := hd
      rw [List.append_nil] at hd'
      refine ifF ▸ q t S1 he ht0 (by rw [h2, hd'])
    | cons g gs =>
      have e1 : (trD (g :: gs)).reverse = (trD gs).reverse ++ [g.dat] := by
        show (g.dat :: trD gs).reverse = _
        rw [List.reverse_cons]
      rw [e1] at h1 ⊢
      have e2 : (!((trD gs).reverse ++ [g.dat]).isEmpty) = true := by simp
      rw [e2, ifT]
      have lk := trC_kids g gs
      have ld : (trD ds).length ≤ 900000 := by
        have a1 := congrArg List.length hd
        rw [List.length_append, trP_len _ _ (Nat.le_refl _), trP_len _ _ (Nat.le_refl _)] at a1
        rw [trD_map, List.length_map]
        omega
      have lg : (trD gs).length ≤ trC gs := by
        rw [trD_map, List.length_map]
        exact trC_len gs
      have h3 : put S1 w (.lst (trD gs).reverse) t = some (.lst (trD ds)) := by rw [put_ne wt]; exact h2
      have e3 : trD (ds ++ [g]) = trD ds ++ [g.dat] := by
        rw [trD_map, trD_map, List.map_append]
        rfl
      have cg : trC (g :: gs) ≤ trC ts := by
        have a1 := congrArg List.length hd
        rw [List.length_append, trP_len _ _ (Nat.le_refl _), trP_len _ _ (Nat.le_refl _)] at a1
        omega
      have hd2 : (ds ++ [g]) ++ trP (g.kids ++ gs) = trP ts := by
        rw [← hd, trP_cons, List.append_assoc]
        rfl
      refine wh_mk (lstC_of h1) (wh_mk (a := g.dat) (by simp) ?_)
      rw [List.dropLast_concat]
      refine ⟨⟨_, h3⟩, wh_mk (lstC_of h3) ⟨by omega, ?_⟩⟩
      have h4 : put (put S1 w (.lst (trD gs).reverse)) t (.lst (trD ds ++ [g.dat])) w = some (.lst (trD gs).reverse) := by rw [put_ne wt2, put_same]
      have he4 : Ext S (put (put S1 w (.lst (trD gs).reverse)) t (.lst (trD ds ++ [g.dat]))) := fun a c hc => by
        have n1 : a ≠ t := fun z => by rw [z, ht0] at hc; cases hc
        have n2 : a ≠ w := fun z => by rw [z, hw] at hc; cases hc
        rw [put_ne n1, put_ne n2]
        exact he a c hc
      cases g with
      | txt z =>
        refine ⟨trivial, ?_⟩
        refine ifF ▸ ⟨trC gs, by show trC gs < k; have : trC (Tr.txt z :: gs) = 1 + trC gs := rfl; omega, gs, ds ++ [.txt z], _, rfl, rfl, hd2, h4, by rw [put_same, e3], he4⟩
      | nod x us =>
        refine ⟨trivial, ?_⟩
        refine ifT ▸ ⟨⟨_, h4⟩, ?_⟩
        have ed : (Tr.nod x us).dat = .tuple [.str x, .tuple (trD us)] := rfl
        rw [ed] at h4 e3 ⊢
        rw [e_ixT]
        refine wh_mk (a := .tuple (trD us)) rfl ?_
        dsimp only
        refine wh_mk (lstC_of h4) ?_
        have lu : (trD us).length ≤ trC us := by
          rw [trD_map, List.length_map]
          exact trC_len us
        have cc : trC (Tr.nod x us :: gs) = 1 + trC us + trC gs := rfl
        refine ⟨by rw [List.length_reverse, List.length_reverse]; omega, trC (us ++ gs), by rw [trC_app]; omega, us ++ gs, ds ++ [.nod x us], _, rfl, rfl, hd2, ?_, ?_, ?_⟩
        · rw [put_same, trD_map, trD_map, trD_map, List.map_append, List.reverse_append]
        · rw [put_ne wt, put_same, e3]
        · intro a c hc
          have n2 : a ≠ w := fun z => by rw [z, hw] at hc; cases hc
          rw [put_ne n2]
          exact he4 a c hc
end
end K3

/-! states behind rows and forests -/
namespace K3
open PySem L2 Xr K1
abbrev sGrownT : Stmt := top 7
theorem scGrownT : FnScope ["table", "state", "children", "child"] ["table", "state", "children"] (defScope sGrownT) := ⟨rfl, rfl, rfl, by decide +kernel, rfl, by decide +kernel, by decide +kernel⟩
abbrev sBehind : Stmt := top 6
theorem scBehind : FnScope ["table", "state", "forest", "begins", "things", "found", "thing", "name", "begin"] ["table", "state", "forest"] (defScope sBehind) := ⟨rfl, rfl, rfl, by decide +kernel, rfl, by decide +kernel, by decide +kernel⟩
abbrev sStateOf : Stmt := top 8
theorem scStateOf : FnScope ["table", "node", "name", "things"] ["table", "node"] (defScope sStateOf) := ⟨rfl, rfl, rfl, by decide +kernel, rfl, by decide +kernel, by decide +kernel⟩
def spGrownT (C : Addr) : SpD := fun ds S Q _ => ∃ (T : Tb) (s : Nat) (cs : List (Option Nat)), ds = [T.dat C, .int (s : Nat), .list (cs.map optD)] ∧ T.ok ∧ s < T.xs.length ∧ (∀ c ∈ cs, ∀ k, c = some k → k < T.xs.length) ∧ Q (.int ((cs.foldl T.step s : Nat) : Int)) S
def spBehind (C : Addr) : SpD := fun ds S Q _ => ∃ (T : Tb) (s : Nat) (ts : List Tr), ds = [T.dat C, .int (s : Nat), .tuple (trD ts)] ∧ T.ok ∧ s < T.xs.length ∧ trN T.ns ts ∧ trC ts ≤ 800000 ∧ ∀ S', Ext S S' → Q (.int ((T.on s ts : Nat) : Int)) S'
def spStateOf (C : Addr) : SpD := fun ds S Q _ => ∃ (T : Tb) (q : Str) (ts : List Tr), ds = [T.dat C, (Tr.nod q ts).dat] ∧ T.ok ∧ q ∈ T.ns ∧ trN T.ns ts ∧ trC ts ≤ 800000 ∧ ∀ S', Ext S S' → Q (.int ((T.on (T.b q) ts : Nat) : Int)) S'
structure ClsT (K : PySem.W.Frag) (C : Addr) : Prop where
  cl : Cls K C
  na_names : NoAttr K C "names"
  na_begins : NoAttr K C "begins"
  na_texts : NoAttr K C "texts"
  na_steps : NoAttr K C "steps"
  na_ends : NoAttr K C "ends"
structure StTxt (K : PySem.W.Frag) (mg : Str → Option Value) (C a_taken a_all_things a_grown a_state_behind : Addr) : Prop extends BaseTxt mg, ClsT K C where
  n_zip : mg "zip" = none
  n_all : mg "all" = none
  g_taken : mg "taken" = some (.ref a_taken)
  k_taken : PySem.W.keepIn K (.ref a_taken) = true
  g_all_things : mg "all_things" = some (.ref a_all_things)
  k_all_things : PySem.W.keepIn K (.ref a_all_things) = true
  g_grown : mg "_grown" = some (.ref a_grown)
  k_grown : PySem.W.keepIn K (.ref a_grown) = true
  g_state_behind : mg "state_behind" = some (.ref a_state_behind)
  k_state_behind : PySem.W.keepIn K (.ref a_state_behind) = true
theorem atN {l : List Nat} {i : Nat} (h : i < l.length) : atI (nats l) (i : Nat) = some (.int ((l.getD i 0 : Nat) : Int)) := by
  refine atI_nat ?_
  rw [List.getElem?_map, List.getElem?_eq_getElem h]
  simp [h]
theorem atR {l : List (List Nat)} {i : Nat} (h : i < l.length) : atI (l.map fun r => PyData.tuple (nats r)) (i : Nat) = some (.tuple (nats (l.getD i []))) := by
  refine atI_nat ?_
  rw [List.getElem?_map, List.getElem?_eq_getElem h]
  simp [h]
theorem lay_strs : ∀ zs : List Str, (∀ z ∈ zs, PyData.strOk z = true) → PyData.canLayAll0 (zs.map PyData.str) = true
  | [], _ => rfl
  | z :: zs, h => by
    rw [List.map_cons, layAll_cons, lay_strs zs fun y hy => h y (List.mem_cons_of_mem _ hy)]
    unfold PyData.canLay0
    rw [h z List.mem_cons_self]
    rfl
theorem depth_strs : ∀ zs : List Str, PyData.depthAll (zs.map PyData.str) ≤ 1
  | [] => by unfold PyData.depthAll; exact Nat.zero_le _
  | z :: zs => by
    have := depth_strs zs
    rw [List.map_cons]
    unfold PyData.depthAll PyData.depth
    omega
theorem shaped_str {z : Str} (h : PyData.strOk z = true) : SeqAt.shaped (.str z) = true := by
  unfold SeqAt.shaped PyData.canLay0 PyData.depth
  rw [h]
  rfl
theorem shaped_strs (zs : List Str) (h : ∀ z ∈ zs, PyData.strOk z = true) : SeqAt.shaped (.list (zs.map PyData.str)) = true := by
  unfold SeqAt.shaped
  rw [Bool.and_eq_true]
  refine ⟨by unfold PyData.canLay0; exact lay_strs zs h, decide_eq_true ?_⟩
  have := depth_strs zs
  unfold PyData.depth
  omega
theorem idx_str : ∀ (zs : List Str) {x : Str}, x ∈ zs → idxD (zs.map PyData.str) (.str x) = some (zs.idxOf x)
  | [], x, h => by simp at h
  | z :: zs, x, h => by
    unfold idxD
    rw [List.map_cons, List.findIdx?_cons, List.idxOf_cons]
    by_cases e : z = x
    · subst e
      have : PyData.eqv (.str z) (.str z) = true := by show (z == z) = true; simp
      rw [this]
      simp
    · have e1 : PyData.eqv (.str z) (.str x) = false := by show (z == x) = false; exact beq_eq_false_iff_ne.mpr e
      have e2 : (z == x) = false := beq_eq_false_iff_ne.mpr e
      have hm : x ∈ zs := (List.mem_cons.mp h).resolve_left fun q => e q.symm
      have ih := idx_str zs hm
      unfold idxD at ih
      rw [e1, e2, ih]
      rfl
theorem Tb.row {T : Tb} (o : T.ok) {s : Nat} (h : s < T.xs.length) : (T.st.getD s []).length = T.xs.length := by
  have hl : s < T.st.length := by rw [o.sl]; exact h
  have e : T.st.getD s [] = T.st[s] := by simp [hl]
  rw [e]
  exact (o.sr _ (List.getElem_mem hl)).1
theorem Tb.fold {T : Tb} (o : T.ok) : ∀ (cs : List (Option Nat)) (s : Nat), s < T.xs.length → (∀ c ∈ cs, ∀ k, c = some k → k < T.xs.length) → cs.foldl T.step s < T.xs.length
  | [], s, hs, _ => hs
  | c :: cs, s, hs, h => Tb.fold o cs _ (o.step hs (h c List.mem_cons_self)) fun d hd => h d (List.mem_cons_of_mem _ hd)
theorem trP_inj : ∀ {fs gs : List Tr}, trP fs = trP gs → fs = gs
  | [], [], _ => rfl
  | [], g :: gs, h => by rw [trP_cons] at h; cases h
  | f :: fs, [], h => by rw [trP_cons] at h; cases h
  | f :: fs, g :: gs, h => by
    rw [trP_cons, trP_cons] at h
    obtain ⟨h1, h2⟩ := List.cons.inj h
    subst h1
    rw [trP_app, trP_app] at h2
    rw [trP_inj (List.append_cancel_left h2)]
theorem trP_split : ∀ (n : Nat) (ts : List Tr), trC ts ≤ n → ∀ (A B : List Tr) (q : Str) (us : List Tr), trP ts = A ++ Tr.nod q us :: B → ∃ gs, B = trP (us ++ gs)
  | _, [], _, A, B, q, us, h => by
    have h' : ([] : List Tr) = A ++ Tr.nod q us :: B := h
    cases A <;> cases h'
  | 0, t :: ts, hl, _, _, _, _, _ => by
    have := trC_kids t ts
    omega
  | n + 1, t :: ts, hl, A, B, q, us, h => by
    have e := trC_kids t ts
    rw [trP_cons] at h
    cases A with
    | nil =>
      obtain ⟨h1, h2⟩ := List.cons.inj h
      subst h1
      exact ⟨ts, h2.symm⟩
    | cons a A =>
      obtain ⟨h1, h2⟩ := List.cons.inj h
      exact trP_split n _ (by omega) A B q us h2
theorem mem_pre : ∀ {ts : List Tr} {t : Tr}, t ∈ ts → t ∈ trP ts
  | g :: ts, t, h => by
    have e : trP (g :: ts) = g.pre ++ trP ts := rfl
    rw [e]
    rcases List.mem_cons.mp h with h | h
    · subst h
      refine List.mem_append_left _ ?_
      cases t <;> exact List.mem_cons_self
    · exact List.mem_append_right _ (mem_pre h)
theorem Tb.on_fold (T : Tb) : ∀ (ts : List Tr) (s : Nat), T.on s ts = (ts.map T.ev).foldl T.step s
  | [], s => rfl
  | t :: ts, s => by
    show T.on (T.step s (T.ev t)) ts = _
    rw [Tb.on_fold T ts]
    rfl
def dkL (ns : List Str) (bs : List Nat) : List (L2.Key × PyData) := (ns.zip bs).map fun p => ((.inr p.1 : L2.Key), PyData.int (p.2 : Nat))
theorem dkL_val : ∀ (ns : List Str) (bs : List Nat) {q : Str}, bs.length = ns.length → q ∈ ns → valP (dkL ns bs) (.inr q) = some (.int ((bs.getD (ns.idxOf q) 0 : Nat) : Int))
  | [], _, q, _, h => by simp at h
  | _ :: _, [], q, l, _ => by cases l
  | n :: ns, b :: bs, q, l, h => by
    have e0 : dkL (n :: ns) (b :: bs) = ((.inr n : L2.Key), PyData.int (b : Nat)) :: dkL ns bs := rfl
    rw [e0]
    by_cases e : n = q
    · subst e
      unfold valP
      rw [List.find?_cons]
      simp
    · have hm : q ∈ ns := (List.mem_cons.mp h).resolve_left fun z => e z.symm
      have ih := dkL_val ns bs (Nat.succ.inj l) hm
      have ne : ¬ ((.inr n : L2.Key) = .inr q) := fun z => e (Sum.inr.inj z)
      have e2 : (n == q) = false := beq_eq_false_iff_ne.mpr e
      unfold valP at ih ⊢
      rw [List.find?_cons, decide_eq_false ne, ih, List.idxOf_cons, e2]
      rfl
theorem putP_new {kvs : List (L2.Key × PyData)} {k : L2.Key} {d : PyData} (h : ∀ kv ∈ kvs, kv.1 ≠ k) : putP kvs k d = kvs ++ [(k, d)] := by
  unfold putP
  rw [if_neg]
  rw [List.any_eq_true]
  rintro ⟨kv, h1, h2⟩
  exact h kv h1 (of_decide_eq_true h2)
theorem dkL_put {ns : List Str} {bs : List Nat} {i : Nat} {q : Str} {b : Nat} (nd : ns.Nodup) (h1 : ns[i]? = some q) (h2 : bs[i]? = some b) : putP (dkL (ns.take i) (bs.take i)) (.inr q) (.int (b : Nat)) = dkL (ns.take (i + 1)) (bs.take (i + 1)) := by
  have e1 : ns.take (i + 1) = ns.take i ++ [q] := take_more h1
  have e2 : bs.take (i + 1) = bs.take i ++ [b] := take_more h2
  have l1 := (List.getElem?_eq_some_iff.mp h1).1
  have l2 := (List.getElem?_eq_some_iff.mp h2).1
  rw [putP_new, e1, e2]
  · unfold dkL
    rw [List.zip_append (by rw [List.length_take, List.length_take]; omega), List.map_append]
    rfl
  · intro kv hkv
    unfold dkL at hkv
    obtain ⟨p, hp, rfl⟩ := List.mem_map.mp hkv
    intro z
    have e3 := Sum.inr.inj z
    have hm : p.1 ∈ ns.take i := (List.of_mem_zip hp).1
    rw [e3] at hm
    have nd2 : (ns.take (i + 1)).Nodup := nd.sublist (List.take_sublist _ _)
    rw [e1] at nd2
    exact (List.nodup_append.mp nd2).2.2 q hm q (List.mem_singleton.mpr rfl) rfl
theorem walk_cel {S : Sto} {n : Nat} {ds : List PyData} (h : S n = some (.lst ds)) : walkD S (cel n) = some (ds, fun S' => S' n = some (.lst ds)) := by
  rw [e_wkC, lstC_of h]
  rfl
theorem dkC_of {S : Sto} {n : Nat} {kvs : List (L2.Key × PyData)} (h : S n = some (.dk kvs)) : dkC S n = some kvs := by
  unfold dkC
  rw [h]
  rfl
theorem bools_true : ∀ n : Nat, boolsD (List.replicate n (.bool true)) = some (List.replicate n true)
  | 0 => rfl
  | n + 1 => by
    rw [List.replicate_succ]
    show (boolsD (List.replicate n (.bool true))).map (true :: ·) = _
    rw [bools_true n]
    rfl
theorem all_true : ∀ n : Nat, (List.replicate n true).all id = true
  | 0 => rfl
  | n + 1 => by rw [List.replicate_succ, List.all_cons, all_true n]; rfl
section
variable {P : Program} {w : World} {K : PySem.W.Frag} {mg : Str → Option Value} {base : Heap} {C a_taken a_all_things a_grown a_state_behind : Addr} {d1 d2 d3 d4 : FuncData}
theorem ok_grownT {f : Addr} {fd : FuncData} (F : Fun K "_grown" "_grown" sGrownT f fd) (T : StTxt K mg C a_taken a_all_things a_grown a_state_behind) : FnOk P w K mg base CX0 1 f fd ["table", "state", "children"] (spD K (spGrownT C)) := by
  refine dok F scGrownT (fun ds S Q E h => ?_) fun cdv A outer s H Q E (hr : Room 0 _) => ⟨_, (qss_cons (qs_for PassesOwn.never rfl (qi_any (q_var (pv 2))) (qg_name (pg_name (i := 3) scGrownT.nd rfl (Or.inl rfl)))
      (qss_one (qs_set (i := 1) scGrownT.nd rfl (Or.inl rfl) (q_if (qt_cmp op_isN snd_isN (q_var (pv 3)) q_non (nomark _)) (q_at (q_fld T.cl T.na_texts (q_var (pv 0))) (q_var (pv 1)) (fun _ _ => rfl)) (q_at (q_at (q_fld T.cl T.na_steps (q_var (pv 0))) (q_var (pv 1)) (fun _ _ => rfl)) (q_var (pv 3)) (fun _ _ => rfl))))))
      (qss_one (qs_ret (q_var (pv 1))))), fun ds S Qd Ed h => ?_⟩
  · obtain ⟨T, s, cs, rfl, _⟩ := h
    rfl
  · obtain ⟨T, s, cs, rfl, o, hs, hc, q⟩ := h
    (dsimp only [dDelT, mPop0, mPop, mApp, mExt, dFld, dNew, dDGet, dDIn, dZipT, dAll, dTupF, dIdx, dTupRg, dDc, dReprT, dEqT, dNeT, dFor, dLc, dWhile, dRange1, dRange2, dRange3, dEnumT, e_isB, e_tupD, dgUnl, dSeq, dIfS, dSet, dAsg, dRet, dRetN, dDrop, dNext, dPar, dVar, dC, dOp, dB, dTru, dtNot, dtAnd, dtOr, dAnd, dOr, dNot, dIfE, dNeg, dNil, dCons, dTup, dLst, dCel, dNoP, dPart, dSlice, dRevT, dRevL, dCall, on1, dTupOf, dLstOf, dCelOf, dIsi, dName, dgNil, dgCons, dgTup, dFn, dMet, dMet0, gt, st, startD, wh_some, dYes, dEq, dNe, List.map, List.length, List.replicate, List.append, List.cons_append, List.nil_append, dWalk, uns, un, tupNms, dNms, ifT, ifF, List.replicate_succ, List.replicate_zero, Nat.sub_self, Nat.reduceSub, Nat.reduceAdd, Nat.zero_add, Bool.not_true, Bool.not_false, e_addI, e_addS, e_addT, e_addL, e_i2, e_i2c, e_is, e_bool, e_cel, e_strD, e_lenS, e_lenT, e_lenL, e_lenC, e_ixS, e_ixT, e_ixL, e_ixC, e_slS, e_slT, e_slL, e_slC, e_itT, e_itL, e_truN, e_truI, e_truB, e_truL, e_truT, e_okN, e_okB, e_okI, e_okS, e_okL, e_okT, e_okC, e_tupN, e_tupB, e_tupI, e_tupS, e_tupL, e_tupT, e_tupC, e_strN, e_strB, e_strI, e_strS, e_strL, e_strT, e_strC, e_intN, e_intB, e_intI, e_intS, e_intL, e_intT, e_intC, e_boolN, e_boolB, e_boolI, e_boolS, e_boolL, e_boolT, e_boolC, e_lstN, e_lstB, e_lstI, e_lstS, e_lstL, e_lstT, e_lstC, e_nonN, e_nonB, e_nonI, e_nonS, e_nonL, e_nonT, e_wkS, e_wkL, e_wkT, e_wkC, e_join, e_inS, e_ninS, e_ofI, e_ofB, e_abs, e_lenF, e_ixF, e_itF, e_wkF, e_tfF, e_truF, e_repT, e_keyI, e_keyS]; try simp only [true_and, and_true, Nat.reduceLeDiff, reduceIte, reduceCtorEq, Bool.false_eq_true, if_true, if_false, not_false_eq_true, ite_true, ite_false, and_self])
    refine ⟨fun i ρ S' => S' = S ∧ ∃ x, ρ = [some (T.dat C), some (.int (((cs.take i).foldl T.step s : Nat) : Int)), some (.list (cs.map optD)), x], ⟨rfl, _, rfl⟩, fun _ _ _ _ => trivial, ?_, ?_⟩
    · rintro i d ρ S1 hd ⟨rfl, x, rfl⟩
      rw [List.getElem?_map] at hd
      obtain ⟨c, hci, rfl⟩ := Option.map_eq_some_iff.mp hd
      have hm := List.mem_of_getElem? hci
      have lt := T.fold o (cs.take i) s hs fun c h => hc c (List.mem_of_mem_take h)
      have e1 : (cs.take (i + 1)).foldl T.step s = T.step ((cs.take i).foldl T.step s) c := by
        rw [take_more hci, List.foldl_append]
        rfl
      (dsimp only [dDelT, mPop0, mPop, mApp, mExt, dFld, dNew, dDGet, dDIn, dZipT, dAll, dTupF, dIdx, dTupRg, dDc, dReprT, dEqT, dNeT, dFor, dLc, dWhile, dRange1, dRange2, dRange3, dEnumT, e_isB, e_tupD, dgUnl, dSeq, dIfS, dSet, dAsg, dRet, dRetN, dDrop, dNext, dPar, dVar, dC, dOp, dB, dTru, dtNot, dtAnd, dtOr, dAnd, dOr, dNot, dIfE, dNeg, dNil, dCons, dTup, dLst, dCel, dNoP, dPart, dSlice, dRevT, dRevL, dCall, on1, dTupOf, dLstOf, dCelOf, dIsi, dName, dgNil, dgCons, dgTup, dFn, dMet, dMet0, gt, st, startD, wh_some, dYes, dEq, dNe, List.map, List.length, List.replicate, List.append, List.cons_append, List.nil_append, dWalk, uns, un, tupNms, dNms, ifT, ifF, List.replicate_succ, List.replicate_zero, Nat.sub_self, Nat.reduceSub, Nat.reduceAdd, Nat.zero_add, Bool.not_true, Bool.not_false, e_addI, e_addS, e_addT, e_addL, e_i2, e_i2c, e_is, e_bool, e_cel, e_strD, e_lenS, e_lenT, e_lenL, e_lenC, e_ixS, e_ixT, e_ixL, e_ixC, e_slS, e_slT, e_slL, e_slC, e_itT, e_itL, e_truN, e_truI, e_truB, e_truL, e_truT, e_okN, e_okB, e_okI, e_okS, e_okL, e_okT, e_okC, e_tupN, e_tupB, e_tupI, e_tupS, e_tupL, e_tupT, e_tupC, e_strN, e_strB, e_strI, e_strS, e_strL, e_strT, e_strC, e_intN, e_intB, e_intI, e_intS, e_intL, e_intT, e_intC, e_boolN, e_boolB, e_boolI, e_boolS, e_boolL, e_boolT, e_boolC, e_lstN, e_lstB, e_lstI, e_lstS, e_lstL, e_lstT, e_lstC, e_nonN, e_nonB, e_nonI, e_nonS, e_nonL, e_nonT, e_wkS, e_wkL, e_wkT, e_wkC, e_join, e_inS, e_ninS, e_ofI, e_ofB, e_abs, e_lenF, e_ixF, e_itF, e_wkF, e_tfF, e_truF, e_repT, e_keyI, e_keyS]; try simp only [true_and, and_true, Nat.reduceLeDiff, reduceIte, reduceCtorEq, Bool.false_eq_true, if_true, if_false, not_false_eq_true, ite_true, ite_false, and_self])
      generalize (cs.take i).foldl T.step s = z at lt e1 ⊢
      cases c with
      | none =>
        refine ifT ▸ ⟨TN.zip T.parts, rfl, wh_mk (a := .tuple (nats T.xs)) rfl ?_⟩
        rw [e_ixT]
        exact wh_mk (atN lt) ⟨rfl, _, by rw [e1]; rfl⟩
      | some c =>
        refine ifF ▸ ⟨TN.zip T.parts, rfl, wh_mk (a := .tuple (T.st.map fun r => PyData.tuple (nats r))) rfl ?_⟩
        rw [e_ixT]
        refine wh_mk (atR (by rw [o.sl]; exact lt)) ?_
        show dIx (.tuple (nats (T.st.getD z []))) (.int ((c : Nat) : Int)) S1 _
        rw [e_ixT]
        exact wh_mk (atN (by rw [T.row o lt]; exact hc _ hm c rfl)) ⟨rfl, _, by rw [e1]; rfl⟩
    · rintro ρ S1 ⟨rfl, x, rfl⟩
      rw [List.length_map, List.take_length]
      exact q
theorem ok_behind {f : Addr} {fd : FuncData} (F : Fun K "state_behind" "state_behind" sBehind f fd) (T : StTxt K mg C a_taken a_all_things a_grown a_state_behind)
    (G_taken : FnOk P w K mg base CX0 1 a_taken d1 ["made", "many"] (spD K spTakenD)) (b_taken : Binds K d1 ["made", "many"] []) (G_all_things : FnOk P w K mg base CX0 1 a_all_things d2 ["forest"] (spD K spAllD)) (b_all_things : Binds K d2 ["forest"] [])
    (G_grown : FnOk P w K mg base CX0 1 a_grown d3 ["table", "state", "children"] (spD K (spGrownT C))) (b_grown : Binds K d3 ["table", "state", "children"] []) : FnOk P w K mg base CX0 2 f fd ["table", "state", "forest"] (spD K (spBehind C)) := by
  refine dok F scBehind (fun ds S Q E h => ?_) fun cdv A outer s H Q E (hr : Room 1 _) => ⟨_, (qss_cons (qs_set (i := 3) scBehind.nd rfl (Or.inr rfl) (q_dc (own := [("name", 7), ("begin", 8)]) (by rfl) scBehind.nd (qi_zipT T.n_zip (by rfl) (q_cons (q_fld T.cl T.na_names (q_var (pv 0))) (q_cons (q_fld T.cl T.na_begins (q_var (pv 0))) q_nil))) (blkOk_by (own := [("name", 7), ("begin", 8)]) (N := ["table", "state", "forest", "begins", "things", "found", "thing", "name", "begin"]) (sc := defScope sBehind) (by decide +kernel)) (bnd_tup (is := [7, 8]) (by decide)) (fun _ _ _ _ _ => (pg_tup (by rfl) (pgs_cons (pg_name (i := 7) scBehind.nd rfl (Or.inl rfl)) (pgs_cons (pg_name (i := 8) scBehind.nd rfl (Or.inl rfl)) pgs_nil)))) (fun _ _ _ _ _ => qts_nil) (fun _ _ _ _ _ => (q_var (pv 7))) (fun _ _ _ _ _ => (q_var (pv 8)))))
      (qss_cons (qs_set (i := 4) scBehind.nd rfl (Or.inl rfl) (q_call hr G_all_things T.g_all_things T.k_all_things b_all_things (by rfl) (by decide) (q_cons (q_var (pv 2)) q_nil)))
      (qss_cons (qs_if (qt_not (qt_tru (q_all (by rfl) T.n_all (by rfl) (q_cons (q_lc (own := [("thing", 6)]) (by rfl) scBehind.nd (qi_any (q_var (pv 4))) (blkOk_by (own := [("thing", 6)]) (N := ["table", "state", "forest", "begins", "things", "found", "thing", "name", "begin"]) (sc := defScope sBehind) (by decide +kernel)) (bnd_one (i := 6) (by decide)) (fun _ _ _ _ _ => (pg_name (i := 6) scBehind.nd rfl (Or.inl rfl))) (fun _ _ _ _ _ => qts_nil) (fun _ _ _ _ _ => (q_or (q_isi .str T.n_isinstance (by rfl) (q_var (pv 6)) (pe_bltn (v := V.ty "str") (u := .type "str") (by rfl) T.n_str (by decide +kernel) (by rfl))) (q_one (q_din (u1 hr) (q_at (q_var (pv 6)) q_int (fun _ _ => rfl)) (q_var (pv 3))))))) q_nil)) (by intro _; rfl)))
      (qss_one (qs_ret q_non))
      qss_nil)
      (qss_cons (qs_set (i := 5) scBehind.nd rfl (Or.inl rfl) (q_cel q_nil))
      (qss_cons (qs_for PassesOwn.never rfl (qi_any (q_revL (q_var (pv 4)))) (qg_name (pg_name (i := 6) scBehind.nd rfl (Or.inl rfl)))
      (qss_one (qs_if (qt_tru (q_isi .str T.n_isinstance (by rfl) (q_var (pv 6)) (pe_bltn (v := V.ty "str") (u := .type "str") (by rfl) T.n_str (by decide +kernel) (by rfl))) (by intro _; rfl))
      (qss_one (qs_expr (q_append (q_var (pv 5)) (q_cons q_non q_nil))))
      (qss_one (qs_expr (q_append (q_var (pv 5)) (q_cons (q_call hr G_grown T.g_grown T.k_grown b_grown (by rfl) (by decide) (q_cons (q_var (pv 0)) (q_cons (q_dget (u1 hr) (q_var (pv 3)) (q_at (q_var (pv 6)) q_int (fun _ _ => rfl)) (fun _ _ => rfl)) (q_cons (q_call hr G_taken T.g_taken T.k_taken b_taken (by rfl) (by decide) (q_cons (q_var (pv 5)) (q_cons (q_len T.n_len (by rfl) (q_cons (q_at (q_var (pv 6)) q_int (fun _ _ => rfl)) q_nil)) q_nil))) q_nil)))) q_nil)))))))
      (qss_one (qs_ret (q_call hr G_grown T.g_grown T.k_grown b_grown (by rfl) (by decide) (q_cons (q_var (pv 0)) (q_cons (q_var (pv 1)) (q_cons (q_revL (q_var (pv 5))) q_nil))))))))))), fun ds S Qd Ed h => ?_⟩
  · obtain ⟨T, s, ts, rfl, _⟩ := h
    rfl
  · obtain ⟨T, s, ts, rfl, o, hs, hn, hl, q⟩ := h
    (dsimp only [dDelT, mPop0, mPop, mApp, mExt, dFld, dNew, dDGet, dDIn, dZipT, dAll, dTupF, dIdx, dTupRg, dDc, dReprT, dEqT, dNeT, dFor, dLc, dWhile, dRange1, dRange2, dRange3, dEnumT, e_isB, e_tupD, dgUnl, dSeq, dIfS, dSet, dAsg, dRet, dRetN, dDrop, dNext, dPar, dVar, dC, dOp, dB, dTru, dtNot, dtAnd, dtOr, dAnd, dOr, dNot, dIfE, dNeg, dNil, dCons, dTup, dLst, dCel, dNoP, dPart, dSlice, dRevT, dRevL, dCall, on1, dTupOf, dLstOf, dCelOf, dIsi, dName, dgNil, dgCons, dgTup, dFn, dMet, dMet0, gt, st, startD, wh_some, dYes, dEq, dNe, List.map, List.length, List.replicate, List.append, List.cons_append, List.nil_append, dWalk, uns, un, tupNms, dNms, ifT, ifF, List.replicate_succ, List.replicate_zero, Nat.sub_self, Nat.reduceSub, Nat.reduceAdd, Nat.zero_add, Bool.not_true, Bool.not_false, e_addI, e_addS, e_addT, e_addL, e_i2, e_i2c, e_is, e_bool, e_cel, e_strD, e_lenS, e_lenT, e_lenL, e_lenC, e_ixS, e_ixT, e_ixL, e_ixC, e_slS, e_slT, e_slL, e_slC, e_itT, e_itL, e_truN, e_truI, e_truB, e_truL, e_truT, e_okN, e_okB, e_okI, e_okS, e_okL, e_okT, e_okC, e_tupN, e_tupB, e_tupI, e_tupS, e_tupL, e_tupT, e_tupC, e_strN, e_strB, e_strI, e_strS, e_strL, e_strT, e_strC, e_intN, e_intB, e_intI, e_intS, e_intL, e_intT, e_intC, e_boolN, e_boolB, e_boolI, e_boolS, e_boolL, e_boolT, e_boolC, e_lstN, e_lstB, e_lstI, e_lstS, e_lstL, e_lstT, e_lstC, e_nonN, e_nonB, e_nonI, e_nonS, e_nonL, e_nonT, e_wkS, e_wkL, e_wkT, e_wkC, e_join, e_inS, e_ninS, e_ofI, e_ofB, e_abs, e_lenF, e_ixF, e_itF, e_wkF, e_tfF, e_truF, e_repT, e_keyI, e_keyS]; try simp only [true_and, and_true, Nat.reduceLeDiff, reduceIte, reduceCtorEq, Bool.false_eq_true, if_true, if_false, not_false_eq_true, ite_true, ite_false, and_self])
    refine ⟨TN.zip T.parts, rfl, wh_mk (a := frz (T.ns.map PyData.str)) rfl ⟨TN.zip T.parts, rfl, wh_mk (a := .tuple (nats T.bs)) rfl ⟨⟨rfl, rfl⟩, wh_mk rfl (wh_mk rfl ?_)⟩⟩⟩
    refine ⟨fun i acc S' => S' = S ∧ acc = dkL (T.ns.take i) (T.bs.take i), ⟨rfl, rfl⟩, ?_, ?_, ?_⟩
    · rintro i acc S1 ⟨_, rfl⟩
      unfold dkL
      rw [List.length_map, List.length_zip, List.length_take]
      have := o.nl
      omega
    · rintro i d acc S1 hd ⟨rfl, rfl⟩
      obtain ⟨x, y, h1, h2, rfl⟩ := zipD_in hd
      rw [List.getElem?_map] at h1 h2
      obtain ⟨q0, hq0, rfl⟩ := Option.map_eq_some_iff.mp h1
      obtain ⟨b0, hb0, rfl⟩ := Option.map_eq_some_iff.mp h2
      exact ⟨rfl, dkL_put o.nd hq0 hb0⟩
    rintro acc S1 ⟨rfl, rfl⟩ n hn0
    have lz : (zipD (T.ns.map PyData.str) (nats T.bs)).length = T.ns.length := by
      rw [zipD_len, List.length_map, List.length_map, o.bl]
      omega
    rw [lz, List.take_length, show T.bs.take T.ns.length = T.bs from by rw [← o.bl, List.take_length]]
    have hv : ∀ q, q ∈ T.ns → valP (dkL T.ns T.bs) (.inr q) = some (.int ((T.b q : Nat) : Int)) := fun q hq => dkL_val T.ns T.bs o.bl hq
    generalize dkL T.ns T.bs = kvs at hv
    refine ⟨ts, rfl, by omega, fun a S2 he2 ha2 hA => ?_⟩
    have hk2 : S2 n = some (.dk kvs) := he2 _ _ put_same
    refine wh_mk (walk_cel hA) ?_
    have hP := trN_pre _ ts (Nat.le_refl _) hn
    have lP : (trP ts).length = trC ts := trP_len _ _ (Nat.le_refl _)
    refine ⟨fun i acc S' => S' = S2 ∧ acc = List.replicate i (.bool true) ∧ i ≤ trC ts, ⟨rfl, rfl, Nat.zero_le _⟩, ?_, ?_, ?_⟩
    · rintro i acc S3 ⟨rfl, rfl, hi⟩
      refine ⟨hA, ?_⟩
      rw [List.length_replicate]
      omega
    · rintro i d acc S3 hd ⟨rfl, rfl, hi⟩
      rw [trD_map, List.getElem?_map] at hd
      obtain ⟨u, hu, rfl⟩ := Option.map_eq_some_iff.mp hd
      have li := (List.getElem?_eq_some_iff.mp hu).1
      have hu2 := hP u (List.mem_of_getElem? hu)
      have er : List.replicate i (PyData.bool true) ++ [.bool true] = List.replicate (i + 1) (.bool true) := by rw [List.replicate_succ']
      cases u with
      | txt z => exact ⟨trivial, ifT ▸ ⟨rfl, er, by omega⟩⟩
      | nod q0 us =>
        have ed : (Tr.nod q0 us).dat = .tuple [.str q0, .tuple (trD us)] := rfl
        rw [ed]
        refine ⟨trivial, ifF ▸ ?_⟩
        rw [e_ixT]
        refine wh_mk (a := .str q0) rfl (wh_mk (dkC_of hk2) (wh_mk (a := .inr q0) rfl ?_))
        rw [hv q0 hu2.1]
        exact ⟨rfl, er, by omega⟩
    rintro acc S3 ⟨rfl, rfl, _⟩
    refine wh_mk (bools_true _) ?_
    rw [all_true]
    refine ifF ▸ fun b hb => ⟨rfl, ?_⟩
    have ab : a ≠ b := fun z => by rw [z, hb] at hA; cases hA
    refine wh_mk (items_cel (ds := trD (trP ts)) (by rw [put_ne ab]; exact hA)) ?_
    have nb : n ≠ b := fun z => by rw [z, hb] at hk2; cases hk2
    have eR : ∀ l : List Tr, (trD l).reverse = l.reverse.map Tr.dat := fun l => by rw [trD_map, List.map_reverse]
    rw [eR]
    refine ⟨fun i ρ S' => i ≤ trC ts ∧ ∃ (fs : List Tr) (x : Option PyData), ρ = [some (T.dat C), some (.int (s : Nat)), some (.tuple (trD ts)), some (cel n), some (cel a), some (cel b), x, none, none] ∧ (trP ts).drop (trC ts - i) = trP fs ∧ S' b = some (.lst ((fs.map fun t => optD (T.ev t)).reverse)) ∧ Ext S3 S',
      ⟨Nat.zero_le _, [], none, rfl, ?_, put_same, Ext.new hb⟩, fun _ _ _ _ => trivial, ?_, ?_⟩
    · rw [Nat.sub_zero, ← lP, List.drop_length]
      rfl
    · rintro i d ρ S4 hd ⟨hi, fs, x, rfl, hf, hSb, he4⟩
      rw [List.getElem?_map] at hd
      obtain ⟨u, hu, rfl⟩ := Option.map_eq_some_iff.mp hd
      have li : i < trC ts := by
        have := (List.getElem?_eq_some_iff.mp hu).1
        rw [List.length_reverse, lP] at this
        exact this
      rw [List.getElem?_reverse (by rw [lP]; exact li), lP] at hu
      have hj : trC ts - 1 - i = trC ts - (i + 1) := by omega
      rw [hj] at hu
      obtain ⟨lj, ej⟩ := List.getElem?_eq_some_iff.mp hu
      have hd1 : (trP ts).drop (trC ts - (i + 1)) = u :: trP fs := by
        rw [List.drop_eq_getElem_cons lj, ej, show trC ts - (i + 1) + 1 = trC ts - i from by omega, hf]
      have hum := hP u (List.mem_of_getElem? hu)
      have hk4 : S4 n = some (.dk kvs) := he4 _ _ hk2
      have lfs : fs.length ≤ trC ts := by
        have a1 := congrArg List.length hf
        rw [List.length_drop, lP, trP_len _ _ (Nat.le_refl _)] at a1
        have := trC_len fs
        omega
      have lst : ((fs.map fun t => optD (T.ev t)).reverse).length = fs.length := by rw [List.length_reverse, List.length_map]
      have exq : ∀ c, Ext S3 (put S4 b c) := fun c k e hk => by
        have : k ≠ b := fun z => by rw [z, hb] at hk; cases hk
        rw [put_ne this]
        exact he4 k e hk
      (dsimp only [dDelT, mPop0, mPop, mApp, mExt, dFld, dNew, dDGet, dDIn, dZipT, dAll, dTupF, dIdx, dTupRg, dDc, dReprT, dEqT, dNeT, dFor, dLc, dWhile, dRange1, dRange2, dRange3, dEnumT, e_isB, e_tupD, dgUnl, dSeq, dIfS, dSet, dAsg, dRet, dRetN, dDrop, dNext, dPar, dVar, dC, dOp, dB, dTru, dtNot, dtAnd, dtOr, dAnd, dOr, dNot, dIfE, dNeg, dNil, dCons, dTup, dLst, dCel, dNoP, dPart, dSlice, dRevT, dRevL, dCall, on1, dTupOf, dLstOf, dCelOf, dIsi, dName, dgNil, dgCons, dgTup, dFn, dMet, dMet0, gt, st, startD, wh_some, dYes, dEq, dNe, List.map, List.length, List.replicate, List.append, List.cons_append, List.nil_append, dWalk, uns, un, tupNms, dNms, ifT, ifF, List.replicate_succ, List.replicate_zero, Nat.sub_self, Nat.reduceSub, Nat.reduceAdd, Nat.zero_add, Bool.not_true, Bool.not_false, e_addI, e_addS, e_addT, e_addL, e_i2, e_i2c, e_is, e_bool, e_cel, e_strD, e_lenS, e_lenT, e_lenL, e_lenC, e_ixS, e_ixT, e_ixL, e_ixC, e_slS, e_slT, e_slL, e_slC, e_itT, e_itL, e_truN, e_truI, e_truB, e_truL, e_truT, e_okN, e_okB, e_okI, e_okS, e_okL, e_okT, e_okC, e_tupN, e_tupB, e_tupI, e_tupS, e_tupL, e_tupT, e_tupC, e_strN, e_strB, e_strI, e_strS, e_strL, e_strT, e_strC, e_intN, e_intB, e_intI, e_intS, e_intL, e_intT, e_intC, e_boolN, e_boolB, e_boolI, e_boolS, e_boolL, e_boolT, e_boolC, e_lstN, e_lstB, e_lstI, e_lstS, e_lstL, e_lstT, e_lstC, e_nonN, e_nonB, e_nonI, e_nonS, e_nonL, e_nonT, e_wkS, e_wkL, e_wkT, e_wkC, e_join, e_inS, e_ninS, e_ofI, e_ofB, e_abs, e_lenF, e_ixF, e_itF, e_wkF, e_tfF, e_truF, e_repT, e_keyI, e_keyS]; try simp only [true_and, and_true, Nat.reduceLeDiff, reduceIte, reduceCtorEq, Bool.false_eq_true, if_true, if_false, not_false_eq_true, ite_true, ite_false, and_self])
      cases u with
      | txt z =>
        refine ⟨trivial, ifT ▸ ⟨⟨_, hSb⟩, wh_mk (lstC_of hSb) ⟨by omega, by omega, .txt z :: fs, _, rfl, ?_, ?_, exq _⟩⟩⟩
        · rw [hd1]
          rfl
        · rw [put_same, List.map_cons, List.reverse_cons]
          rfl
      | nod q0 us =>
        have ed : (Tr.nod q0 us).dat = .tuple [.str q0, .tuple (trD us)] := rfl
        rw [ed]
        have hsp : trP ts = (trP ts).take (trC ts - (i + 1)) ++ Tr.nod q0 us :: trP fs := by rw [← hd1, List.take_append_drop]
        obtain ⟨gs, hg⟩ := trP_split _ ts (Nat.le_refl _) _ _ q0 us hsp
        have := trP_inj hg
        subst this
        rw [List.map_append, List.reverse_append] at hSb lst
        refine ⟨trivial, ifF ▸ ⟨⟨_, hSb⟩, ?_⟩⟩
        rw [e_ixT]
        refine wh_mk (a := .str q0) rfl (wh_mk (dkC_of hk4) (wh_mk (a := .inr q0) rfl (wh_mk (hv q0 hum.1) ?_)))
        rw [e_ixT]
        refine wh_mk (a := .tuple (trD us)) rfl ?_
        rw [e_lenT]
        have ly : (trD us).length = ((us.map fun t => optD (T.ev t)).reverse).length := by rw [trD_map, List.length_map, List.length_reverse, List.length_map]
        rw [ly]
        refine ⟨b, _, _, rfl, hSb, by rw [List.length_append] at lst; omega, ?_⟩
        rw [List.reverse_reverse]
        have em : (us.map fun t => optD (T.ev t)) = (us.map T.ev).map optD := by rw [List.map_map]; rfl
        rw [em]
        refine ⟨T, T.b q0, us.map T.ev, rfl, o, o.b hum.1, fun c hc k hk => ?_, ?_⟩
        · obtain ⟨t, ht, e⟩ := List.mem_map.mp hc
          have tn : t.inN T.ns := hP t (by
            refine List.mem_of_mem_drop (i := trC ts - i) ?_
            rw [hf, trP_app]
            exact List.mem_append_left _ (mem_pre ht))
          exact o.ev t tn k (by rw [e, hk])
        · rw [← T.on_fold]
          refine wh_mk (lstC_of put_same) ⟨?_, by omega, .nod q0 us :: gs, _, rfl, ?_, ?_, ?_⟩
          · rw [List.length_reverse, List.length_map]
            rw [List.length_append] at lfs
            omega
          · rw [hd1, trP_cons]
            rfl
          · rw [put_same, List.map_cons, List.reverse_cons]
            rfl
          · rw [put_put]
            exact exq _
    · rintro ρ S4 ⟨hi, fs, x, rfl, hf, hSb, he4⟩
      rw [List.length_map, List.length_reverse, lP, Nat.sub_self, List.drop_zero] at hf
      have := trP_inj hf
      subst this
      (dsimp only [dDelT, mPop0, mPop, mApp, mExt, dFld, dNew, dDGet, dDIn, dZipT, dAll, dTupF, dIdx, dTupRg, dDc, dReprT, dEqT, dNeT, dFor, dLc, dWhile, dRange1, dRange2, dRange3, dEnumT, e_isB, e_tupD, dgUnl, dSeq, dIfS, dSet, dAsg, dRet, dRetN, dDrop, dNext, dPar, dVar, dC, dOp, dB, dTru, dtNot, dtAnd, dtOr, dAnd, dOr, dNot, dIfE, dNeg, dNil, dCons, dTup, dLst, dCel, dNoP, dPart, dSlice, dRevT, dRevL, dCall, on1, dTupOf, dLstOf, dCelOf, dIsi, dName, dgNil, dgCons, dgTup, dFn, dMet, dMet0, gt, st, startD, wh_some, dYes, dEq, dNe, List.map, List.length, List.replicate, List.append, List.cons_append, List.nil_append, dWalk, uns, un, tupNms, dNms, ifT, ifF, List.replicate_succ, List.replicate_zero, Nat.sub_self, Nat.reduceSub, Nat.reduceAdd, Nat.zero_add, Bool.not_true, Bool.not_false, e_addI, e_addS, e_addT, e_addL, e_i2, e_i2c, e_is, e_bool, e_cel, e_strD, e_lenS, e_lenT, e_lenL, e_lenC, e_ixS, e_ixT, e_ixL, e_ixC, e_slS, e_slT, e_slL, e_slC, e_itT, e_itL, e_truN, e_truI, e_truB, e_truL, e_truT, e_okN, e_okB, e_okI, e_okS, e_okL, e_okT, e_okC, e_tupN, e_tupB, e_tupI, e_tupS, e_tupL, e_tupT, e_tupC, e_strN, e_strB, e_strI, e_strS, e_strL, e_strT, e_strC, e_intN, e_intB, e_intI, e_intS, e_intL, e_intT, e_intC, e_boolN, e_boolB, e_boolI, e_boolS, e_boolL, e_boolT, e_boolC, e_lstN, e_lstB, e_lstI, e_lstS, e_lstL, e_lstT, e_lstC, e_nonN, e_nonB, e_nonI, e_nonS, e_nonL, e_nonT, e_wkS, e_wkL, e_wkT, e_wkC, e_join, e_inS, e_ninS, e_ofI, e_ofB, e_abs, e_lenF, e_ixF, e_itF, e_wkF, e_tfF, e_truF, e_repT, e_keyI, e_keyS]; try simp only [true_and, and_true, Nat.reduceLeDiff, reduceIte, reduceCtorEq, Bool.false_eq_true, if_true, if_false, not_false_eq_true, ite_true, ite_false, and_self])
      refine ⟨rfl, wh_mk (items_cel hSb) ?_⟩
      rw [List.reverse_reverse]
      have em : (ts.map fun t => optD (T.ev t)) = (ts.map T.ev).map optD := by rw [List.map_map]; rfl
      rw [em]
      refine ⟨T, s, ts.map T.ev, rfl, o, hs, fun c hc k hk => ?_, ?_⟩
      · obtain ⟨t, ht, e⟩ := List.mem_map.mp hc
        exact o.ev t (hP t (mem_pre ht)) k (by rw [e, hk])
      · rw [← T.on_fold]
        exact q S4 (((Ext.new hn0).trans he2).trans he4)
theorem ok_stateOf {f : Addr} {fd : FuncData} (F : Fun K "state_of" "state_of" sStateOf f fd) (T : StTxt K mg C a_taken a_all_things a_grown a_state_behind)
    (G_state_behind : FnOk P w K mg base CX0 2 a_state_behind d4 ["table", "state", "forest"] (spD K (spBehind C))) (b_state_behind : Binds K d4 ["table", "state", "forest"] []) : FnOk P w K mg base CX0 3 f fd ["table", "node"] (spD K (spStateOf C)) := by
  refine dok F scStateOf (fun ds S Q E h => ?_) fun cdv A outer s H Q E (hr : Room 2 _) => ⟨_, (qss_cons (qs_asg (q_var (pv 1)) (qg_tup (n := 2) (by rfl) (qgs_cons (qg_name (pg_name (i := 2) scStateOf.nd rfl (Or.inl rfl))) (qgs_cons (qg_name (pg_name (i := 3) scStateOf.nd rfl (Or.inl rfl))) qgs_nil))))
      (qss_cons (qs_if (qt_cmp op_notIn_seq (snd_inQ true) (q_var (pv 2)) (q_fld T.cl T.na_names (q_var (pv 0))) (by rfl))
      (qss_one (qs_ret q_non))
      qss_nil)
      (qss_one (qs_ret (q_call hr G_state_behind T.g_state_behind T.k_state_behind b_state_behind (by rfl) (by decide) (q_cons (q_var (pv 0)) (q_cons (q_at (q_fld T.cl T.na_begins (q_var (pv 0))) (q_index (Grd.u200 hr) (q_fld T.cl T.na_names (q_var (pv 0))) (q_cons (q_var (pv 2)) q_nil)) (fun _ _ => rfl)) (q_cons (q_var (pv 3)) q_nil)))))))), fun ds S Qd Ed h => ?_⟩
  · obtain ⟨T, q, ts, rfl, _⟩ := h
    rfl
  · obtain ⟨T, x, ts, rfl, o, hx, hn, hl, q⟩ := h
    have ed : (Tr.nod x ts).dat = .tuple [.str x, .tuple (trD ts)] := rfl
    rw [ed]
    (dsimp only [dDelT, mPop0, mPop, mApp, mExt, dFld, dNew, dDGet, dDIn, dZipT, dAll, dTupF, dIdx, dTupRg, dDc, dReprT, dEqT, dNeT, dFor, dLc, dWhile, dRange1, dRange2, dRange3, dEnumT, e_isB, e_tupD, dgUnl, dSeq, dIfS, dSet, dAsg, dRet, dRetN, dDrop, dNext, dPar, dVar, dC, dOp, dB, dTru, dtNot, dtAnd, dtOr, dAnd, dOr, dNot, dIfE, dNeg, dNil, dCons, dTup, dLst, dCel, dNoP, dPart, dSlice, dRevT, dRevL, dCall, on1, dTupOf, dLstOf, dCelOf, dIsi, dName, dgNil, dgCons, dgTup, dFn, dMet, dMet0, gt, st, startD, wh_some, dYes, dEq, dNe, List.map, List.length, List.replicate, List.append, List.cons_append, List.nil_append, dWalk, uns, un, tupNms, dNms, ifT, ifF, List.replicate_succ, List.replicate_zero, Nat.sub_self, Nat.reduceSub, Nat.reduceAdd, Nat.zero_add, Bool.not_true, Bool.not_false, e_addI, e_addS, e_addT, e_addL, e_i2, e_i2c, e_is, e_bool, e_cel, e_strD, e_lenS, e_lenT, e_lenL, e_lenC, e_ixS, e_ixT, e_ixL, e_ixC, e_slS, e_slT, e_slL, e_slC, e_itT, e_itL, e_truN, e_truI, e_truB, e_truL, e_truT, e_okN, e_okB, e_okI, e_okS, e_okL, e_okT, e_okC, e_tupN, e_tupB, e_tupI, e_tupS, e_tupL, e_tupT, e_tupC, e_strN, e_strB, e_strI, e_strS, e_strL, e_strT, e_strC, e_intN, e_intB, e_intI, e_intS, e_intL, e_intT, e_intC, e_boolN, e_boolB, e_boolI, e_boolS, e_boolL, e_boolT, e_boolC, e_lstN, e_lstB, e_lstI, e_lstS, e_lstL, e_lstT, e_lstC, e_nonN, e_nonB, e_nonI, e_nonS, e_nonL, e_nonT, e_wkS, e_wkL, e_wkT, e_wkC, e_join, e_inS, e_ninS, e_ofI, e_ofB, e_abs, e_lenF, e_ixF, e_itF, e_wkF, e_tfF, e_truF, e_repT, e_keyI, e_keyS]; try simp only [true_and, and_true, Nat.reduceLeDiff, reduceIte, reduceCtorEq, Bool.false_eq_true, if_true, if_false, not_false_eq_true, ite_true, ite_false, and_self])
    refine ⟨TN.zip T.parts, rfl, wh_mk (a := frz (T.ns.map PyData.str)) rfl ?_⟩
    rw [e_inQs, e_itF]
    refine wh_mk rfl (wh_mk (strsD_map _) (wh_mk rfl ?_))
    have e1 : (true ^^ decide (x ∈ T.ns)) = false := by rw [decide_eq_true hx]; rfl
    rw [e1, ifF]
    refine ⟨TN.zip T.parts, rfl, wh_mk (a := .tuple (nats T.bs)) rfl ⟨TN.zip T.parts, rfl, wh_mk (a := frz (T.ns.map PyData.str)) rfl ?_⟩⟩
    dsimp only
    refine ⟨⟨shaped_strs _ o.nk, shaped_str (o.nk x hx)⟩, wh_mk (idx_str _ hx) ?_⟩
    rw [e_ixT]
    refine wh_mk (atN (by rw [o.bl]; exact List.idxOf_lt_length_of_mem hx)) ?_
    exact ⟨T, _, ts, rfl, o, o.b hx, hn, hl, q⟩
end
end K3

/-! effects -/
namespace K3
open PySem L2 Xr K1
abbrev sBothE : Stmt := top 13
theorem scBothE : FnScope ["one", "other", "number"] ["one", "other"] (defScope sBothE) := ⟨rfl, rfl, rfl, by decide +kernel, rfl, by decide +kernel, by decide +kernel⟩
abbrev sEffOf : Stmt := top 14
theorem scEffOf : FnScope ["table", "forest", "found", "thing"] ["table", "forest"] (defScope sEffOf) := ⟨rfl, rfl, rfl, by decide +kernel, rfl, by decide +kernel, by decide +kernel⟩
abbrev sNoE : Stmt := top 15
theorem scNoE : FnScope ["table"] ["table"] (defScope sNoE) := ⟨rfl, rfl, rfl, by decide +kernel, rfl, by decide +kernel, by decide +kernel⟩
abbrev sTextE : Stmt := top 16
theorem scTextE : FnScope ["table"] ["table"] (defScope sTextE) := ⟨rfl, rfl, rfl, by decide +kernel, rfl, by decide +kernel, by decide +kernel⟩
abbrev sNodeE : Stmt := top 17
theorem scNodeE : FnScope ["table", "state", "many", "alone", "step"] ["table", "state"] (defScope sNodeE) := ⟨rfl, rfl, rfl, by decide +kernel, rfl, by decide +kernel, by decide +kernel⟩
abbrev sIsOne : Stmt := top 18
theorem scIsOne : FnScope ["table", "effect", "many"] ["table", "effect"] (defScope sIsOne) := ⟨rfl, rfl, rfl, by decide +kernel, rfl, by decide +kernel, by decide +kernel⟩
def both (a b : List Nat) : List Nat := a.map fun k => b.getD k 0
def Tb.alone (T : Tb) : Option Nat → Nat
  | some c => if c ∈ T.es then T.xs.length + 1 else T.xs.length + 2
  | none => T.xs.length + 2
def Tb.tail (T : Tb) : List Tr → List Nat
  | [] => [T.xs.length, T.xs.length + 1, T.xs.length + 2]
  | [t] => [T.alone (T.ev t), T.xs.length + 2, T.xs.length + 2]
  | _ => [T.xs.length + 2, T.xs.length + 2, T.xs.length + 2]
def Tb.eff (T : Tb) (ts : List Tr) : List Nat := ((List.range T.xs.length).map fun s => T.on s ts) ++ T.tail ts
theorem Tb.tail_len (T : Tb) (ts : List Tr) : (T.tail ts).length = 3 := by
  match ts with
  | [] => rfl
  | [_] => rfl
  | _ :: _ :: _ => rfl
theorem Tb.eff_len (T : Tb) (ts : List Tr) : (T.eff ts).length = T.xs.length + 3 := by
  unfold Tb.eff
  rw [List.length_append, List.length_map, List.length_range, T.tail_len]
theorem Tb.on_app (T : Tb) : ∀ (ts us : List Tr) (s : Nat), T.on s (ts ++ us) = T.on (T.on s ts) us
  | [], us, s => rfl
  | t :: ts, us, s => by
    show T.on (T.step s (T.ev t)) (ts ++ us) = T.on (T.on (T.step s (T.ev t)) ts) us
    exact Tb.on_app T ts us _
theorem Tb.eff_lo (T : Tb) (us : List Tr) {k : Nat} (h : k < T.xs.length) : (T.eff us).getD k 0 = T.on k us := by
  unfold Tb.eff
  rw [List.getD_eq_getElem?_getD, List.getElem?_append_left (by rw [List.length_map, List.length_range]; exact h), List.getElem?_map, List.getElem?_range h]
  rfl
theorem Tb.eff_hi (T : Tb) (us : List Tr) (i : Nat) : (T.eff us).getD (T.xs.length + i) 0 = (T.tail us).getD i 0 := by
  unfold Tb.eff
  rw [List.getD_eq_getElem?_getD, List.getElem?_append_right (by rw [List.length_map, List.length_range]; omega), List.length_map, List.length_range, Nat.add_sub_cancel_left, List.getD_eq_getElem?_getD]
theorem Tb.tail2 (T : Tb) (us : List Tr) : (T.tail us).getD 2 0 = T.xs.length + 2 := by
  match us with
  | [] => rfl
  | [_] => rfl
  | _ :: _ :: _ => rfl
theorem Tb.alone_is (T : Tb) (c : Option Nat) : T.alone c = T.xs.length + 1 ∨ T.alone c = T.xs.length + 2 := by
  cases c with
  | none => exact .inr rfl
  | some c =>
    show (if c ∈ T.es then _ else _) = _ ∨ (if c ∈ T.es then _ else _) = _
    split
    · exact .inl rfl
    · exact .inr rfl
theorem Tb.eff_lt {T : Tb} (o : T.ok) {ts : List Tr} (hn : trN T.ns ts) : ∀ k ∈ T.eff ts, k < T.xs.length + 3 := fun k hk => by
  unfold Tb.eff at hk
  rcases List.mem_append.mp hk with h | h
  · obtain ⟨s, hs, rfl⟩ := List.mem_map.mp h
    have := o.on ts s (List.mem_range.mp hs) hn
    omega
  · match ts, h with
    | [], h =>
      have h' : k ∈ [T.xs.length, T.xs.length + 1, T.xs.length + 2] := h
      simp at h'
      omega
    | [t], h =>
      have h' : k ∈ [T.alone (T.ev t), T.xs.length + 2, T.xs.length + 2] := h
      have := T.alone_is (T.ev t)
      simp at h'
      omega
    | _ :: _ :: _, h =>
      have h' : k ∈ [T.xs.length + 2, T.xs.length + 2, T.xs.length + 2] := h
      simp at h'
      omega
theorem Tb.both_eff {T : Tb} (o : T.ok) {ts us : List Tr} (hn : trN T.ns ts) : both (T.eff ts) (T.eff us) = T.eff (ts ++ us) := by
  have e : both (T.eff ts) (T.eff us) = (((List.range T.xs.length).map fun s => T.on s ts).map fun k => (T.eff us).getD k 0) ++ (T.tail ts).map fun k => (T.eff us).getD k 0 := by
    show ((((List.range T.xs.length).map fun s => T.on s ts) ++ T.tail ts).map fun k => (T.eff us).getD k 0) = _
    rw [List.map_append]
  rw [e]
  show _ = ((List.range T.xs.length).map fun s => T.on s (ts ++ us)) ++ T.tail (ts ++ us)
  congr 1
  · rw [List.map_map]
    apply List.map_congr_left
    intro s hs
    have := o.on ts s (List.mem_range.mp hs) hn
    show (T.eff us).getD (T.on s ts) 0 = _
    rw [T.eff_lo us this, T.on_app]
  · have h0 : (T.eff us).getD T.xs.length 0 = (T.tail us).getD 0 0 := T.eff_hi us 0
    have h1 := T.eff_hi us 1
    have h2 : (T.eff us).getD (T.xs.length + 2) 0 = T.xs.length + 2 := by rw [T.eff_hi us 2, T.tail2]
    match ts with
    | [] =>
      show [(T.eff us).getD T.xs.length 0, (T.eff us).getD (T.xs.length + 1) 0, (T.eff us).getD (T.xs.length + 2) 0] = T.tail us
      rw [h0, h1, h2]
      match us with
      | [] => rfl
      | [_] => rfl
      | _ :: _ :: _ => rfl
    | [t] =>
      show [(T.eff us).getD (T.alone (T.ev t)) 0, (T.eff us).getD (T.xs.length + 2) 0, (T.eff us).getD (T.xs.length + 2) 0] = T.tail (t :: us)
      rw [h2]
      match us, h1 with
      | [], h1 =>
        rcases T.alone_is (T.ev t) with a | a
        · have : T.tail [t] = [T.alone (T.ev t), T.xs.length + 2, T.xs.length + 2] := rfl
          rw [this, a, h1]
          rfl
        · have : T.tail [t] = [T.alone (T.ev t), T.xs.length + 2, T.xs.length + 2] := rfl
          rw [this, a, T.eff_hi [] 2]
          rfl
      | u :: us, h1 =>
        have h1' : (T.eff (u :: us)).getD (T.xs.length + 1) 0 = T.xs.length + 2 := by
          rw [h1]
          cases us <;> rfl
        rcases T.alone_is (T.ev t) with a | a
        · rw [a, h1']
          rfl
        · rw [a, T.eff_hi (u :: us) 2, T.tail2]
          rfl
    | t :: t2 :: ts =>
      show [(T.eff us).getD (T.xs.length + 2) 0, (T.eff us).getD (T.xs.length + 2) 0, (T.eff us).getD (T.xs.length + 2) 0] = [T.xs.length + 2, T.xs.length + 2, T.xs.length + 2]
      rw [h2]
def spBothE : SpD := fun ds S Q _ => ∃ (a b : List Nat), ds = [.tuple (nats a), .tuple (nats b)] ∧ (∀ k ∈ a, k < b.length) ∧ a.length ≤ 100000 ∧ Q (.tuple (nats (both a b))) S
def spNoE (C : Addr) : SpD := fun ds S Q _ => ∃ (T : Tb), ds = [T.dat C] ∧ T.ok ∧ Q (.tuple (nats (T.eff []))) S
def spTextE (C : Addr) : SpD := fun ds S Q _ => ∃ (T : Tb) (z : Str), ds = [T.dat C] ∧ T.ok ∧ Q (.tuple (nats (T.eff [.txt z]))) S
def spNodeE (C : Addr) : SpD := fun ds S Q _ => ∃ (T : Tb) (c : Nat) (t : Tr), ds = [T.dat C, .int (c : Nat)] ∧ T.ok ∧ c < T.xs.length ∧ T.ev t = some c ∧ Q (.tuple (nats (T.eff [t]))) S
def spEffOf (C : Addr) : SpD := fun ds S Q _ => ∃ (T : Tb) (ts : List Tr), ds = [T.dat C, .tuple (trD ts)] ∧ T.ok ∧ trN T.ns ts ∧ trC ts ≤ 700000 ∧ ∀ S', Ext S S' → Q (.tuple (nats (T.eff ts))) S'
def spIsOne (C : Addr) : SpD := fun ds S Q _ => ∃ (T : Tb) (ts : List Tr), ds = [T.dat C, .tuple (nats (T.eff ts))] ∧ T.ok ∧ Q (.bool (decide ((T.tail ts).getD 0 0 = T.xs.length + 1))) S
structure EfTxt (K : PySem.W.Frag) (mg : Str → Option Value) (C a_both_effects a_no_effect a_text_effect a_node_effect a_state_of : Addr) : Prop extends BaseTxt mg, ClsT K C where
  n_range : mg "range" = none
  n_tuple : mg "tuple" = none
  gx_NOTHING_YET : ∃ t, mg "NOTHING_YET" = some (.int 0 t)
  gx_ONE_TAKEN : ∃ t, mg "ONE_TAKEN" = some (.int 1 t)
  gx_ALL_ELSE : ∃ t, mg "ALL_ELSE" = some (.int 2 t)
  g_both_effects : mg "both_effects" = some (.ref a_both_effects)
  k_both_effects : PySem.W.keepIn K (.ref a_both_effects) = true
  g_no_effect : mg "no_effect" = some (.ref a_no_effect)
  k_no_effect : PySem.W.keepIn K (.ref a_no_effect) = true
  g_text_effect : mg "text_effect" = some (.ref a_text_effect)
  k_text_effect : PySem.W.keepIn K (.ref a_text_effect) = true
  g_node_effect : mg "node_effect" = some (.ref a_node_effect)
  k_node_effect : PySem.W.keepIn K (.ref a_node_effect) = true
  g_state_of : mg "state_of" = some (.ref a_state_of)
  k_state_of : PySem.W.keepIn K (.ref a_state_of) = true
theorem EfTxt.g_NOTHING_YET {K : PySem.W.Frag} {mg : Str → Option Value} {C a1 a2 a3 a4 a5 : Addr} (T : EfTxt K mg C a1 a2 a3 a4 a5) : mg "NOTHING_YET" = some (.int 0 T.gx_NOTHING_YET.choose) := T.gx_NOTHING_YET.choose_spec
theorem EfTxt.g_ONE_TAKEN {K : PySem.W.Frag} {mg : Str → Option Value} {C a1 a2 a3 a4 a5 : Addr} (T : EfTxt K mg C a1 a2 a3 a4 a5) : mg "ONE_TAKEN" = some (.int 1 T.gx_ONE_TAKEN.choose) := T.gx_ONE_TAKEN.choose_spec
theorem EfTxt.g_ALL_ELSE {K : PySem.W.Frag} {mg : Str → Option Value} {C a1 a2 a3 a4 a5 : Addr} (T : EfTxt K mg C a1 a2 a3 a4 a5) : mg "ALL_ELSE" = some (.int 2 T.gx_ALL_ELSE.choose) := T.gx_ALL_ELSE.choose_spec
theorem nats_app (a b : List Nat) : nats (a ++ b) = nats a ++ nats b := List.map_append
theorem atT (l : List Tr) {i : Nat} {t : Tr} (h : l[i]? = some t) : (trD l)[i]? = some t.dat := by
  rw [trD_map, List.getElem?_map, h]
  rfl
theorem range_xs (T : Tb) (t : Option Nat) : ((List.range T.xs.length).map fun s => T.xs.getD s 0) = T.xs := by
  apply List.ext_getElem
  · rw [List.length_map, List.length_range]
  · intro i h1 h2
    simp [h2]
theorem intsD_nats (l : List Nat) : intsD (nats l) = some (l.map fun (n : Nat) => (n : Int)) := by
  have : nats l = (l.map fun (n : Nat) => (n : Int)).map PyData.int := by rw [List.map_map]; rfl
  rw [this, intsD_map]
theorem mem_nats (l : List Nat) (c : Nat) : decide ((c : Int) ∈ l.map fun (n : Nat) => (n : Int)) = decide (c ∈ l) := by
  rw [decide_eq_decide, List.mem_map]
  constructor
  · rintro ⟨a, h, e⟩
    have : a = c := by omega
    rwa [← this]
  · exact fun h => ⟨c, h, rfl⟩
theorem range_add : ∀ n, List.range (n + 3) = List.range n ++ [n, n + 1, n + 2] := fun n => by
  rw [List.range_succ, List.range_succ, List.range_succ, List.append_assoc, List.append_assoc]
  rfl
section
variable {P : Program} {w : World} {K : PySem.W.Frag} {mg : Str → Option Value} {base : Heap} {C a_both_effects a_no_effect a_text_effect a_node_effect a_state_of : Addr} {d1 d2 d3 d4 d5 : FuncData}
theorem ok_bothE {f : Addr} {fd : FuncData} (F : Fun K "both_effects" "both_effects" sBothE f fd) (T : EfTxt K mg C a_both_effects a_no_effect a_text_effect a_node_effect a_state_of) : FnOk P w K mg base CX0 1 f fd ["one", "other"] (spD K spBothE) := by
  refine dok F scBothE (fun ds S Q E h => ?_) fun cdv A outer s H Q E (hr : Room 0 _) => ⟨_, (qss_one (qs_ret (q_tuple T.n_tuple (by rfl) (q_cons (q_lc (own := [("number", 2)]) (by rfl) scBothE.nd (qi_any (q_var (pv 0))) (blkOk_by (own := [("number", 2)]) (N := ["one", "other", "number"]) (sc := defScope sBothE) (by decide +kernel)) (bnd_one (i := 2) (by decide)) (fun _ _ _ _ _ => (pg_name (i := 2) scBothE.nd rfl (Or.inl rfl))) (fun _ _ _ _ _ => qts_nil) (fun _ _ _ _ _ => (q_at (q_var (pv 1)) (q_var (pv 2)) (fun _ _ => rfl)))) q_nil)))), fun ds S Qd Ed h => ?_⟩
  · obtain ⟨a, b, rfl, _⟩ := h
    rfl
  · obtain ⟨a, b, rfl, hk, hl, q⟩ := h
    (dsimp only [dDelT, mPop0, mPop, mApp, mExt, dFld, dNew, dDGet, dDIn, dZipT, dAll, dTupF, dIdx, dTupRg, dDc, dReprT, dEqT, dNeT, dFor, dLc, dWhile, dRange1, dRange2, dRange3, dEnumT, e_isB, e_tupD, dgUnl, dSeq, dIfS, dSet, dAsg, dRet, dRetN, dDrop, dNext, dPar, dVar, dC, dOp, dB, dTru, dtNot, dtAnd, dtOr, dAnd, dOr, dNot, dIfE, dNeg, dNil, dCons, dTup, dLst, dCel, dNoP, dPart, dSlice, dRevT, dRevL, dCall, on1, dTupOf, dLstOf, dCelOf, dIsi, dName, dgNil, dgCons, dgTup, dFn, dMet, dMet0, gt, st, startD, wh_some, dYes, dEq, dNe, List.map, List.length, List.replicate, List.append, List.cons_append, List.nil_append, dWalk, uns, un, tupNms, dNms, ifT, ifF, List.replicate_succ, List.replicate_zero, Nat.sub_self, Nat.reduceSub, Nat.reduceAdd, Nat.zero_add, Bool.not_true, Bool.not_false, e_addI, e_addS, e_addT, e_addL, e_i2, e_i2c, e_is, e_bool, e_cel, e_strD, e_lenS, e_lenT, e_lenL, e_lenC, e_ixS, e_ixT, e_ixL, e_ixC, e_slS, e_slT, e_slL, e_slC, e_itT, e_itL, e_truN, e_truI, e_truB, e_truL, e_truT, e_okN, e_okB, e_okI, e_okS, e_okL, e_okT, e_okC, e_tupN, e_tupB, e_tupI, e_tupS, e_tupL, e_tupT, e_tupC, e_strN, e_strB, e_strI, e_strS, e_strL, e_strT, e_strC, e_intN, e_intB, e_intI, e_intS, e_intL, e_intT, e_intC, e_boolN, e_boolB, e_boolI, e_boolS, e_boolL, e_boolT, e_boolC, e_lstN, e_lstB, e_lstI, e_lstS, e_lstL, e_lstT, e_lstC, e_nonN, e_nonB, e_nonI, e_nonS, e_nonL, e_nonT, e_wkS, e_wkL, e_wkT, e_wkC, e_join, e_inS, e_ninS, e_ofI, e_ofB, e_abs, e_lenF, e_ixF, e_itF, e_wkF, e_tfF, e_truF, e_repT, e_keyI, e_keyS]; try simp only [true_and, and_true, Nat.reduceLeDiff, reduceIte, reduceCtorEq, Bool.false_eq_true, if_true, if_false, not_false_eq_true, ite_true, ite_false, and_self])
    refine ⟨fun i acc S' => S' = S ∧ acc = nats (both (a.take i) b) ∧ i ≤ a.length, ⟨rfl, rfl, Nat.zero_le _⟩, ?_, ?_, ?_⟩
    · rintro i acc S1 ⟨_, rfl, hi⟩
      unfold both
      rw [List.length_map, List.length_map, List.length_take]
      omega
    · rintro i d acc S1 hd ⟨rfl, rfl, hi⟩
      rw [List.getElem?_map] at hd
      obtain ⟨k, hki, rfl⟩ := Option.map_eq_some_iff.mp hd
      have lk := (List.getElem?_eq_some_iff.mp hki).1
      rw [e_ixT]
      refine wh_mk (atN (hk k (List.mem_of_getElem? hki))) ⟨rfl, ?_, lk⟩
      unfold both
      rw [take_more hki, List.map_append]
      exact (nats_app _ [b.getD k 0]).symm
    · rintro acc S1 ⟨rfl, rfl, hi⟩
      rw [List.length_map, List.take_length]
      exact q
theorem ok_noE {f : Addr} {fd : FuncData} (F : Fun K "no_effect" "no_effect" sNoE f fd) (T : EfTxt K mg C a_both_effects a_no_effect a_text_effect a_node_effect a_state_of) : FnOk P w K mg base CX0 1 f fd ["table"] (spD K (spNoE C)) := by
  refine dok F scNoE (fun ds S Q E h => ?_) fun cdv A outer s H Q E (hr : Room 0 _) => ⟨_, (qss_one (qs_ret (q_tupRg (by rfl) T.n_tuple (by rfl) T.n_range (by rfl) (q_add (q_len T.n_len (by rfl) (q_cons (q_fld T.cl T.na_texts (q_var (pv 0))) q_nil)) q_int)))), fun ds S Qd Ed h => ?_⟩
  · obtain ⟨T, rfl, _⟩ := h
    rfl
  · obtain ⟨T, rfl, o, q⟩ := h
    (dsimp only [dDelT, mPop0, mPop, mApp, mExt, dFld, dNew, dDGet, dDIn, dZipT, dAll, dTupF, dIdx, dTupRg, dDc, dReprT, dEqT, dNeT, dFor, dLc, dWhile, dRange1, dRange2, dRange3, dEnumT, e_isB, e_tupD, dgUnl, dSeq, dIfS, dSet, dAsg, dRet, dRetN, dDrop, dNext, dPar, dVar, dC, dOp, dB, dTru, dtNot, dtAnd, dtOr, dAnd, dOr, dNot, dIfE, dNeg, dNil, dCons, dTup, dLst, dCel, dNoP, dPart, dSlice, dRevT, dRevL, dCall, on1, dTupOf, dLstOf, dCelOf, dIsi, dName, dgNil, dgCons, dgTup, dFn, dMet, dMet0, gt, st, startD, wh_some, dYes, dEq, dNe, List.map, List.length, List.replicate, List.append, List.cons_append, List.nil_append, dWalk, uns, un, tupNms, dNms, ifT, ifF, List.replicate_succ, List.replicate_zero, Nat.sub_self, Nat.reduceSub, Nat.reduceAdd, Nat.zero_add, Bool.not_true, Bool.not_false, e_addI, e_addS, e_addT, e_addL, e_i2, e_i2c, e_is, e_bool, e_cel, e_strD, e_lenS, e_lenT, e_lenL, e_lenC, e_ixS, e_ixT, e_ixL, e_ixC, e_slS, e_slT, e_slL, e_slC, e_itT, e_itL, e_truN, e_truI, e_truB, e_truL, e_truT, e_okN, e_okB, e_okI, e_okS, e_okL, e_okT, e_okC, e_tupN, e_tupB, e_tupI, e_tupS, e_tupL, e_tupT, e_tupC, e_strN, e_strB, e_strI, e_strS, e_strL, e_strT, e_strC, e_intN, e_intB, e_intI, e_intS, e_intL, e_intT, e_intC, e_boolN, e_boolB, e_boolI, e_boolS, e_boolL, e_boolT, e_boolC, e_lstN, e_lstB, e_lstI, e_lstS, e_lstL, e_lstT, e_lstC, e_nonN, e_nonB, e_nonI, e_nonS, e_nonL, e_nonT, e_wkS, e_wkL, e_wkT, e_wkC, e_join, e_inS, e_ninS, e_ofI, e_ofB, e_abs, e_lenF, e_ixF, e_itF, e_wkF, e_tfF, e_truF, e_repT, e_keyI, e_keyS]; try simp only [true_and, and_true, Nat.reduceLeDiff, reduceIte, reduceCtorEq, Bool.false_eq_true, if_true, if_false, not_false_eq_true, ite_true, ite_false, and_self])
    refine ⟨TN.zip T.parts, rfl, wh_mk (a := .tuple (nats T.xs)) rfl ?_⟩
    rw [e_lenT, e_addI]
    have := o.n2
    have e1 : (nats T.xs).length = T.xs.length := List.length_map ..
    have e2 : ((((nats T.xs).length : Nat) : Int) + 3).toNat = T.xs.length + 3 := by rw [e1]; omega
    refine ⟨⟨by omega, by rw [e1]; omega⟩, ?_⟩
    rw [e2]
    have e3 : nats (T.eff []) = rgD (T.xs.length + 3) := by
      unfold rgD Tb.eff
      rw [range_add]
      show ((List.map (fun s => s) (List.range T.xs.length)) ++ [T.xs.length, T.xs.length + 1, T.xs.length + 2]).map _ = _
      rw [List.map_id']
    rw [← e3]
    exact q
theorem ok_textE {f : Addr} {fd : FuncData} (F : Fun K "text_effect" "text_effect" sTextE f fd) (T : EfTxt K mg C a_both_effects a_no_effect a_text_effect a_node_effect a_state_of) : FnOk P w K mg base CX0 1 f fd ["table"] (spD K (spTextE C)) := by
  refine dok F scTextE (fun ds S Q E h => ?_) fun cdv A outer s H Q E (hr : Room 0 _) => ⟨_, (qss_one (qs_ret (q_add (q_tuple T.n_tuple (by rfl) (q_cons (q_fld T.cl T.na_texts (q_var (pv 0))) q_nil)) (q_rep (q_tup (q_cons (q_add (q_len T.n_len (by rfl) (q_cons (q_fld T.cl T.na_texts (q_var (pv 0))) q_nil)) (q_con (pe_glob (v := V.int 2) (by rfl) T.g_ALL_ELSE (by exact ⟨_, rfl⟩)) (.int _))) q_nil)) q_int)))), fun ds S Qd Ed h => ?_⟩
  · obtain ⟨T, z, rfl, _⟩ := h
    rfl
  · obtain ⟨T, z, rfl, o, q⟩ := h
    (dsimp only [dDelT, mPop0, mPop, mApp, mExt, dFld, dNew, dDGet, dDIn, dZipT, dAll, dTupF, dIdx, dTupRg, dDc, dReprT, dEqT, dNeT, dFor, dLc, dWhile, dRange1, dRange2, dRange3, dEnumT, e_isB, e_tupD, dgUnl, dSeq, dIfS, dSet, dAsg, dRet, dRetN, dDrop, dNext, dPar, dVar, dC, dOp, dB, dTru, dtNot, dtAnd, dtOr, dAnd, dOr, dNot, dIfE, dNeg, dNil, dCons, dTup, dLst, dCel, dNoP, dPart, dSlice, dRevT, dRevL, dCall, on1, dTupOf, dLstOf, dCelOf, dIsi, dName, dgNil, dgCons, dgTup, dFn, dMet, dMet0, gt, st, startD, wh_some, dYes, dEq, dNe, List.map, List.length, List.replicate, List.append, List.cons_append, List.nil_append, dWalk, uns, un, tupNms, dNms, ifT, ifF, List.replicate_succ, List.replicate_zero, Nat.sub_self, Nat.reduceSub, Nat.reduceAdd, Nat.zero_add, Bool.not_true, Bool.not_false, e_addI, e_addS, e_addT, e_addL, e_i2, e_i2c, e_is, e_bool, e_cel, e_strD, e_lenS, e_lenT, e_lenL, e_lenC, e_ixS, e_ixT, e_ixL, e_ixC, e_slS, e_slT, e_slL, e_slC, e_itT, e_itL, e_truN, e_truI, e_truB, e_truL, e_truT, e_okN, e_okB, e_okI, e_okS, e_okL, e_okT, e_okC, e_tupN, e_tupB, e_tupI, e_tupS, e_tupL, e_tupT, e_tupC, e_strN, e_strB, e_strI, e_strS, e_strL, e_strT, e_strC, e_intN, e_intB, e_intI, e_intS, e_intL, e_intT, e_intC, e_boolN, e_boolB, e_boolI, e_boolS, e_boolL, e_boolT, e_boolC, e_lstN, e_lstB, e_lstI, e_lstS, e_lstL, e_lstT, e_lstC, e_nonN, e_nonB, e_nonI, e_nonS, e_nonL, e_nonT, e_wkS, e_wkL, e_wkT, e_wkC, e_join, e_inS, e_ninS, e_ofI, e_ofB, e_abs, e_lenF, e_ixF, e_itF, e_wkF, e_tfF, e_truF, e_repT, e_keyI, e_keyS]; try simp only [true_and, and_true, Nat.reduceLeDiff, reduceIte, reduceCtorEq, Bool.false_eq_true, if_true, if_false, not_false_eq_true, ite_true, ite_false, and_self])
    refine ⟨TN.zip T.parts, rfl, wh_mk (a := .tuple (nats T.xs)) rfl ?_⟩
    dsimp only
    refine wh_mk rfl ⟨TN.zip T.parts, rfl, wh_mk (a := .tuple (nats T.xs)) rfl ?_⟩
    rw [e_lenT, e_addI]
    refine ⟨⟨nofun, by decide, by decide⟩, ?_⟩
    rw [e_addT]
    have := o.n2
    have e1 : (nats T.xs).length = T.xs.length := List.length_map ..
    rw [e1]
    refine ⟨by simp; omega, ?_⟩
    have e2 : T.eff [.txt z] = T.xs ++ [T.xs.length + 2, T.xs.length + 2, T.xs.length + 2] := by
      show ((List.range T.xs.length).map fun s => T.xs.getD s 0) ++ _ = _
      rw [range_xs T none]
      rfl
    rw [e2] at q
    have e3 : nats (T.xs ++ [T.xs.length + 2, T.xs.length + 2, T.xs.length + 2]) = nats T.xs ++ [.int ((T.xs.length : Int) + 2), .int ((T.xs.length : Int) + 2), .int ((T.xs.length : Int) + 2)] := List.map_append
    rw [e3] at q
    exact q
theorem ok_nodeE {f : Addr} {fd : FuncData} (F : Fun K "node_effect" "node_effect" sNodeE f fd) (T : EfTxt K mg C a_both_effects a_no_effect a_text_effect a_node_effect a_state_of) : FnOk P w K mg base CX0 1 f fd ["table", "state"] (spD K (spNodeE C)) := by
  refine dok F scNodeE (fun ds S Q E h => ?_) fun cdv A outer s H Q E (hr : Room 0 _) => ⟨_, (qss_cons (qs_set (i := 2) scNodeE.nd rfl (Or.inl rfl) (q_len T.n_len (by rfl) (q_cons (q_fld T.cl T.na_texts (q_var (pv 0))) q_nil)))
      (qss_cons (qs_set (i := 3) scNodeE.nd rfl (Or.inl rfl) (q_add (q_var (pv 2)) (q_if (qt_cmp op_in_seq (snd_inQ false) (q_var (pv 1)) (q_fld T.cl T.na_ends (q_var (pv 0))) (by rfl)) (q_con (pe_glob (v := V.int 1) (by rfl) T.g_ONE_TAKEN (by exact ⟨_, rfl⟩)) (.int _)) (q_con (pe_glob (v := V.int 2) (by rfl) T.g_ALL_ELSE (by exact ⟨_, rfl⟩)) (.int _)))))
      (qss_one (qs_ret (q_add (q_tuple T.n_tuple (by rfl) (q_cons (q_lc (own := [("step", 4)]) (by rfl) scNodeE.nd (qi_any (q_fld T.cl T.na_steps (q_var (pv 0)))) (blkOk_by (own := [("step", 4)]) (N := ["table", "state", "many", "alone", "step"]) (sc := defScope sNodeE) (by decide +kernel)) (bnd_one (i := 4) (by decide)) (fun _ _ _ _ _ => (pg_name (i := 4) scNodeE.nd rfl (Or.inl rfl))) (fun _ _ _ _ _ => qts_nil) (fun _ _ _ _ _ => (q_at (q_var (pv 4)) (q_var (pv 1)) (fun _ _ => rfl)))) q_nil)) (q_tup (q_cons (q_var (pv 3)) (q_cons (q_add (q_var (pv 2)) (q_con (pe_glob (v := V.int 2) (by rfl) T.g_ALL_ELSE (by exact ⟨_, rfl⟩)) (.int _))) (q_cons (q_add (q_var (pv 2)) (q_con (pe_glob (v := V.int 2) (by rfl) T.g_ALL_ELSE (by exact ⟨_, rfl⟩)) (.int _))) q_nil))))))))), fun ds S Qd Ed h => ?_⟩
  · obtain ⟨T, c, t, rfl, _⟩ := h
    rfl
  · obtain ⟨T, c, t, rfl, o, hc, ht, q⟩ := h
    have e2 : T.eff [t] = (T.st.map fun r => r.getD c 0) ++ [T.alone (some c), T.xs.length + 2, T.xs.length + 2] := by
      show ((List.range T.xs.length).map fun s => T.step s (T.ev t)) ++ [T.alone (T.ev t), T.xs.length + 2, T.xs.length + 2] = _
      rw [ht]
      congr 1
      apply List.ext_getElem
      · rw [List.length_map, List.length_range, List.length_map, o.sl]
      · intro i h1 h2
        rw [List.length_map] at h2
        rw [List.getElem_map, List.getElem_map, List.getElem_range]
        show (T.st.getD i []).getD c 0 = _
        have : T.st.getD i [] = T.st[i] := by simp [h2]
        rw [this]
    rw [e2] at q
    have e3 : nats ((T.st.map fun r => r.getD c 0) ++ [T.alone (some c), T.xs.length + 2, T.xs.length + 2]) = nats (T.st.map fun r => r.getD c 0) ++ [.int ((T.alone (some c) : Nat) : Int), .int ((T.xs.length : Int) + 2), .int ((T.xs.length : Int) + 2)] := List.map_append
    rw [e3] at q
    have e4 : T.alone (some c) = if c ∈ T.es then T.xs.length + 1 else T.xs.length + 2 := rfl
    have n2 := o.n2
    have sl := o.sl
    (dsimp only [dDelT, mPop0, mPop, mApp, mExt, dFld, dNew, dDGet, dDIn, dZipT, dAll, dTupF, dIdx, dTupRg, dDc, dReprT, dEqT, dNeT, dFor, dLc, dWhile, dRange1, dRange2, dRange3, dEnumT, e_isB, e_tupD, dgUnl, dSeq, dIfS, dSet, dAsg, dRet, dRetN, dDrop, dNext, dPar, dVar, dC, dOp, dB, dTru, dtNot, dtAnd, dtOr, dAnd, dOr, dNot, dIfE, dNeg, dNil, dCons, dTup, dLst, dCel, dNoP, dPart, dSlice, dRevT, dRevL, dCall, on1, dTupOf, dLstOf, dCelOf, dIsi, dName, dgNil, dgCons, dgTup, dFn, dMet, dMet0, gt, st, startD, wh_some, dYes, dEq, dNe, List.map, List.length, List.replicate, List.append, List.cons_append, List.nil_append, dWalk, uns, un, tupNms, dNms, ifT, ifF, List.replicate_succ, List.replicate_zero, Nat.sub_self, Nat.reduceSub, Nat.reduceAdd, Nat.zero_add, Bool.not_true, Bool.not_false, e_addI, e_addS, e_addT, e_addL, e_i2, e_i2c, e_is, e_bool, e_cel, e_strD, e_lenS, e_lenT, e_lenL, e_lenC, e_ixS, e_ixT, e_ixL, e_ixC, e_slS, e_slT, e_slL, e_slC, e_itT, e_itL, e_truN, e_truI, e_truB, e_truL, e_truT, e_okN, e_okB, e_okI, e_okS, e_okL, e_okT, e_okC, e_tupN, e_tupB, e_tupI, e_tupS, e_tupL, e_tupT, e_tupC, e_strN, e_strB, e_strI, e_strS, e_strL, e_strT, e_strC, e_intN, e_intB, e_intI, e_intS, e_intL, e_intT, e_intC, e_boolN, e_boolB, e_boolI, e_boolS, e_boolL, e_boolT, e_boolC, e_lstN, e_lstB, e_lstI, e_lstS, e_lstL, e_lstT, e_lstC, e_nonN, e_nonB, e_nonI, e_nonS, e_nonL, e_nonT, e_wkS, e_wkL, e_wkT, e_wkC, e_join, e_inS, e_ninS, e_ofI, e_ofB, e_abs, e_lenF, e_ixF, e_itF, e_wkF, e_tfF, e_truF, e_repT, e_keyI, e_keyS]; try simp only [true_and, and_true, Nat.reduceLeDiff, reduceIte, reduceCtorEq, Bool.false_eq_true, if_true, if_false, not_false_eq_true, ite_true, ite_false, and_self])
    refine ⟨TN.zip T.parts, rfl, wh_mk (a := .tuple (nats T.xs)) rfl ?_⟩
    rw [e_lenT, show (nats T.xs).length = T.xs.length from List.length_map ..]
    refine ⟨TN.zip T.parts, rfl, wh_mk (a := .tuple (nats T.es)) rfl ?_⟩
    rw [e_inQi, e_itT]
    refine wh_mk rfl (wh_mk (intsD_nats _) (wh_mk rfl ?_))
    rw [Bool.false_xor, mem_nats]
    by_cases hm : c ∈ T.es
    · rw [decide_eq_true hm, ifT, e_addI]
      rw [e4, if_pos hm] at q
      refine ⟨TN.zip T.parts, rfl, wh_mk (a := .tuple (T.st.map fun r => PyData.tuple (nats r))) rfl ?_⟩
      rw [e_wkT]
      refine wh_mk rfl ?_
      dsimp only
      refine ⟨fun i acc S' => S' = S ∧ acc = nats ((T.st.take i).map fun r => r.getD c 0) ∧ i ≤ T.st.length, ⟨rfl, rfl, Nat.zero_le _⟩, ?_, ?_, ?_⟩
      · rintro i acc S1 ⟨_, rfl, hi⟩
        refine ⟨trivial, ?_⟩
        rw [List.length_map, List.length_map, List.length_take]
        omega
      · rintro i d acc S1 hd ⟨rfl, rfl, hi⟩
        rw [List.getElem?_map] at hd
        obtain ⟨r, hr, rfl⟩ := Option.map_eq_some_iff.mp hd
        have lr := (List.getElem?_eq_some_iff.mp hr).1
        rw [e_ixT]
        refine wh_mk (atN (by rw [(o.sr r (List.mem_of_getElem? hr)).1]; exact hc)) ⟨rfl, ?_, lr⟩
        rw [take_more hr, List.map_append]
        exact (nats_app _ [r.getD c 0]).symm
      · rintro acc S1 ⟨rfl, rfl, hi⟩
        rw [e_addI, e_addI, show (T.st.map fun r => PyData.tuple (nats r)).length = T.st.length from List.length_map .., List.take_length]
        refine ⟨by rw [List.length_map, List.length_map]; omega, ?_⟩
        exact q
    · rw [decide_eq_false hm, ifF, e_addI]
      rw [e4, if_neg hm] at q
      refine ⟨TN.zip T.parts, rfl, wh_mk (a := .tuple (T.st.map fun r => PyData.tuple (nats r))) rfl ?_⟩
      rw [e_wkT]
      refine wh_mk rfl ?_
      dsimp only
      refine ⟨fun i acc S' => S' = S ∧ acc = nats ((T.st.take i).map fun r => r.getD c 0) ∧ i ≤ T.st.length, ⟨rfl, rfl, Nat.zero_le _⟩, ?_, ?_, ?_⟩
      · rintro i acc S1 ⟨_, rfl, hi⟩
        refine ⟨trivial, ?_⟩
        rw [List.length_map, List.length_map, List.length_take]
        omega
      · rintro i d acc S1 hd ⟨rfl, rfl, hi⟩
        rw [List.getElem?_map] at hd
        obtain ⟨r, hr, rfl⟩ := Option.map_eq_some_iff.mp hd
        have lr := (List.getElem?_eq_some_iff.mp hr).1
        rw [e_ixT]
        refine wh_mk (atN (by rw [(o.sr r (List.mem_of_getElem? hr)).1]; exact hc)) ⟨rfl, ?_, lr⟩
        rw [take_more hr, List.map_append]
        exact (nats_app _ [r.getD c 0]).symm
      · rintro acc S1 ⟨rfl, rfl, hi⟩
        rw [e_addI, e_addI, show (T.st.map fun r => PyData.tuple (nats r)).length = T.st.length from List.length_map .., List.take_length]
        refine ⟨by rw [List.length_map, List.length_map]; omega, ?_⟩
        exact q
theorem ok_effOf {f : Addr} {fd : FuncData} (F : Fun K "effect_of" "effect_of" sEffOf f fd) (T : EfTxt K mg C a_both_effects a_no_effect a_text_effect a_node_effect a_state_of)
    (G_both_effects : FnOk P w K mg base CX0 1 a_both_effects d1 ["one", "other"] (spD K spBothE)) (b_both_effects : Binds K d1 ["one", "other"] []) (G_no_effect : FnOk P w K mg base CX0 1 a_no_effect d2 ["table"] (spD K (spNoE C))) (b_no_effect : Binds K d2 ["table"] [])
    (G_text_effect : FnOk P w K mg base CX0 1 a_text_effect d3 ["table"] (spD K (spTextE C))) (b_text_effect : Binds K d3 ["table"] []) (G_node_effect : FnOk P w K mg base CX0 1 a_node_effect d4 ["table", "state"] (spD K (spNodeE C))) (b_node_effect : Binds K d4 ["table", "state"] [])
    (G_state_of : FnOk P w K mg base CX0 3 a_state_of d5 ["table", "node"] (spD K (spStateOf C))) (b_state_of : Binds K d5 ["table", "node"] []) : FnOk P w K mg base CX0 4 f fd ["table", "forest"] (spD K (spEffOf C)) := by
  refine dok F scEffOf (fun ds S Q E h => ?_) fun cdv A outer s H Q E (hr : Room 3 _) => ⟨_, (qss_cons (qs_set (i := 2) scEffOf.nd rfl (Or.inl rfl) (q_call hr G_no_effect T.g_no_effect T.k_no_effect b_no_effect (by rfl) (by decide) (q_cons (q_var (pv 0)) q_nil)))
      (qss_cons (qs_for PassesOwn.never rfl (qi_any (q_var (pv 1))) (qg_name (pg_name (i := 3) scEffOf.nd rfl (Or.inl rfl)))
      (qss_one (qs_if (qt_tru (q_isi .str T.n_isinstance (by rfl) (q_var (pv 3)) (pe_bltn (v := V.ty "str") (u := .type "str") (by rfl) T.n_str (by decide +kernel) (by rfl))) (by intro _; rfl))
      (qss_one (qs_set (i := 2) scEffOf.nd rfl (Or.inl rfl) (q_call hr G_both_effects T.g_both_effects T.k_both_effects b_both_effects (by rfl) (by decide) (q_cons (q_var (pv 2)) (q_cons (q_call hr G_text_effect T.g_text_effect T.k_text_effect b_text_effect (by rfl) (by decide) (q_cons (q_var (pv 0)) q_nil)) q_nil)))))
      (qss_one (qs_set (i := 2) scEffOf.nd rfl (Or.inl rfl) (q_call hr G_both_effects T.g_both_effects T.k_both_effects b_both_effects (by rfl) (by decide) (q_cons (q_var (pv 2)) (q_cons (q_call hr G_node_effect T.g_node_effect T.k_node_effect b_node_effect (by rfl) (by decide) (q_cons (q_var (pv 0)) (q_cons (q_call hr G_state_of T.g_state_of T.k_state_of b_state_of (by rfl) (by decide) (q_cons (q_var (pv 0)) (q_cons (q_var (pv 3)) q_nil))) q_nil))) q_nil))))))))
      (qss_one (qs_ret (q_var (pv 2)))))), fun ds S Qd Ed h => ?_⟩
  · obtain ⟨T, ts, rfl, _⟩ := h
    rfl
  · obtain ⟨T, ts, rfl, o, hn, hl, q⟩ := h
    (dsimp only [dDelT, mPop0, mPop, mApp, mExt, dFld, dNew, dDGet, dDIn, dZipT, dAll, dTupF, dIdx, dTupRg, dDc, dReprT, dEqT, dNeT, dFor, dLc, dWhile, dRange1, dRange2, dRange3, dEnumT, e_isB, e_tupD, dgUnl, dSeq, dIfS, dSet, dAsg, dRet, dRetN, dDrop, dNext, dPar, dVar, dC, dOp, dB, dTru, dtNot, dtAnd, dtOr, dAnd, dOr, dNot, dIfE, dNeg, dNil, dCons, dTup, dLst, dCel, dNoP, dPart, dSlice, dRevT, dRevL, dCall, on1, dTupOf, dLstOf, dCelOf, dIsi, dName, dgNil, dgCons, dgTup, dFn, dMet, dMet0, gt, st, startD, wh_some, dYes, dEq, dNe, List.map, List.length, List.replicate, List.append, List.cons_append, List.nil_append, dWalk, uns, un, tupNms, dNms, ifT, ifF, List.replicate_succ, List.replicate_zero, Nat.sub_self, Nat.reduceSub, Nat.reduceAdd, Nat.zero_add, Bool.not_true, Bool.not_false, e_addI, e_addS, e_addT, e_addL, e_i2, e_i2c, e_is, e_bool, e_cel, e_strD, e_lenS, e_lenT, e_lenL, e_lenC, e_ixS, e_ixT, e_ixL, e_ixC, e_slS, e_slT, e_slL, e_slC, e_itT, e_itL, e_truN, e_truI, e_truB, e_truL, e_truT, e_okN, e_okB, e_okI, e_okS, e_okL, e_okT, e_okC, e_tupN, e_tupB, e_tupI, e_tupS, e_tupL, e_tupT, e_tupC, e_strN, e_strB, e_strI, e_strS, e_strL, e_strT, e_strC, e_intN, e_intB, e_intI, e_intS, e_intL, e_intT, e_intC, e_boolN, e_boolB, e_boolI, e_boolS, e_boolL, e_boolT, e_boolC, e_lstN, e_lstB, e_lstI, e_lstS, e_lstL, e_lstT, e_lstC, e_nonN, e_nonB, e_nonI, e_nonS, e_nonL, e_nonT, e_wkS, e_wkL, e_wkT, e_wkC, e_join, e_inS, e_ninS, e_ofI, e_ofB, e_abs, e_lenF, e_ixF, e_itF, e_wkF, e_tfF, e_truF, e_repT, e_keyI, e_keyS]; try simp only [true_and, and_true, Nat.reduceLeDiff, reduceIte, reduceCtorEq, Bool.false_eq_true, if_true, if_false, not_false_eq_true, ite_true, ite_false, and_self])
    refine ⟨T, rfl, o, ?_⟩
    refine ⟨fun i ρ S' => Ext S S' ∧ ∃ x, ρ = [some (T.dat C), some (.tuple (trD ts)), some (.tuple (nats (T.eff (ts.take i)))), x], ⟨Ext.refl, _, rfl⟩, fun _ _ _ _ => trivial, ?_, ?_⟩
    · rintro i d ρ S1 hd ⟨he, x, rfl⟩
      rw [trD_map, List.getElem?_map] at hd
      obtain ⟨t, ht, rfl⟩ := Option.map_eq_some_iff.mp hd
      have ec : ts.take i ++ [t] = ts.take (i + 1) := (take_more ht).symm
      have hs : trN T.ns (ts.take i ++ [t]) := by
        rw [ec]
        have := hn
        rw [← List.take_append_drop (i + 1) ts, trN_app] at this
        exact this.1
      obtain ⟨hs1, hs2⟩ := (trN_app _ _).mp hs
      have hlt : ∀ u : List Tr, ∀ k ∈ T.eff (ts.take i), k < (T.eff u).length := fun u k hk => by
        rw [T.eff_len]
        exact T.eff_lt o hs1 k hk
      have hle : (T.eff (ts.take i)).length ≤ 100000 := by
        have := o.n2
        rw [T.eff_len]
        omega
      have ct : t.cnt ≤ trC ts := by
        have : trC (ts.take (i + 1) ++ ts.drop (i + 1)) = trC ts := by rw [List.take_append_drop]
        rw [trC_app, ← ec, trC_app] at this
        have e : trC [t] = t.cnt + 0 := rfl
        omega
      (dsimp only [dDelT, mPop0, mPop, mApp, mExt, dFld, dNew, dDGet, dDIn, dZipT, dAll, dTupF, dIdx, dTupRg, dDc, dReprT, dEqT, dNeT, dFor, dLc, dWhile, dRange1, dRange2, dRange3, dEnumT, e_isB, e_tupD, dgUnl, dSeq, dIfS, dSet, dAsg, dRet, dRetN, dDrop, dNext, dPar, dVar, dC, dOp, dB, dTru, dtNot, dtAnd, dtOr, dAnd, dOr, dNot, dIfE, dNeg, dNil, dCons, dTup, dLst, dCel, dNoP, dPart, dSlice, dRevT, dRevL, dCall, on1, dTupOf, dLstOf, dCelOf, dIsi, dName, dgNil, dgCons, dgTup, dFn, dMet, dMet0, gt, st, startD, wh_some, dYes, dEq, dNe, List.map, List.length, List.replicate, List.append, List.cons_append, List.nil_append, dWalk, uns, un, tupNms, dNms, ifT, ifF, List.replicate_succ, List.replicate_zero, Nat.sub_self, Nat.reduceSub, Nat.reduceAdd, Nat.zero_add, Bool.not_true, Bool.not_false, e_addI, e_addS, e_addT, e_addL, e_i2, e_i2c, e_is, e_bool, e_cel, e_strD, e_lenS, e_lenT, e_lenL, e_lenC, e_ixS, e_ixT, e_ixL, e_ixC, e_slS, e_slT, e_slL, e_slC, e_itT, e_itL, e_truN, e_truI, e_truB, e_truL, e_truT, e_okN, e_okB, e_okI, e_okS, e_okL, e_okT, e_okC, e_tupN, e_tupB, e_tupI, e_tupS, e_tupL, e_tupT, e_tupC, e_strN, e_strB, e_strI, e_strS, e_strL, e_strT, e_strC, e_intN, e_intB, e_intI, e_intS, e_intL, e_intT, e_intC, e_boolN, e_boolB, e_boolI, e_boolS, e_boolL, e_boolT, e_boolC, e_lstN, e_lstB, e_lstI, e_lstS, e_lstL, e_lstT, e_lstC, e_nonN, e_nonB, e_nonI, e_nonS, e_nonL, e_nonT, e_wkS, e_wkL, e_wkT, e_wkC, e_join, e_inS, e_ninS, e_ofI, e_ofB, e_abs, e_lenF, e_ixF, e_itF, e_wkF, e_tfF, e_truF, e_repT, e_keyI, e_keyS]; try simp only [true_and, and_true, Nat.reduceLeDiff, reduceIte, reduceCtorEq, Bool.false_eq_true, if_true, if_false, not_false_eq_true, ite_true, ite_false, and_self])
      cases t with
      | txt z =>
        refine ⟨trivial, ifT ▸ ⟨T, z, rfl, o, ?_⟩⟩
        refine ⟨_, _, rfl, hlt [.txt z], hle, he, some (Tr.txt z).dat, ?_⟩
        rw [T.both_eff o hs1, ec]
      | nod q0 us =>
        refine ⟨trivial, ifF ▸ ⟨T, q0, us, rfl, o, hs2.1.1, hs2.1.2, ?_, fun S2 he2 => ?_⟩⟩
        · have : (Tr.nod q0 us).cnt = 1 + trC us := rfl
          omega
        refine ⟨T, _, .nod q0 us, rfl, o, o.on us _ (o.b hs2.1.1) hs2.1.2, rfl, ?_⟩
        refine ⟨_, _, rfl, hlt [.nod q0 us], hle, he.trans he2, some (Tr.nod q0 us).dat, ?_⟩
        rw [T.both_eff o hs1, ec]
    · rintro ρ S1 ⟨he, x, rfl⟩
      have e : (trD ts).length = ts.length := by rw [trD_map, List.length_map]
      rw [e, List.take_length]
      exact q S1 he
theorem ok_isOne {f : Addr} {fd : FuncData} (F : Fun K "is_one_taken" "is_one_taken" sIsOne f fd) (T : EfTxt K mg C a_both_effects a_no_effect a_text_effect a_node_effect a_state_of) : FnOk P w K mg base CX0 1 f fd ["table", "effect"] (spD K (spIsOne C)) := by
  refine dok F scIsOne (fun ds S Q E h => ?_) fun cdv A outer s H Q E (hr : Room 0 _) => ⟨_, (qss_cons (qs_set (i := 2) scIsOne.nd rfl (Or.inl rfl) (q_len T.n_len (by rfl) (q_cons (q_fld T.cl T.na_texts (q_var (pv 0))) q_nil)))
      (qss_one (qs_ret (q_cmp (op_eqA (u64 hr)) snd_eq (q_at (q_var (pv 1)) (q_add (q_var (pv 2)) (q_con (pe_glob (v := V.int 0) (by rfl) T.g_NOTHING_YET (by exact ⟨_, rfl⟩)) (.int _))) (fun _ _ => rfl)) (q_add (q_var (pv 2)) (q_con (pe_glob (v := V.int 1) (by rfl) T.g_ONE_TAKEN (by exact ⟨_, rfl⟩)) (.int _))) (nomark _))))), fun ds S Qd Ed h => ?_⟩
  · obtain ⟨T, ts, rfl, _⟩ := h
    rfl
  · obtain ⟨T, ts, rfl, o, q⟩ := h
    (dsimp only [dDelT, mPop0, mPop, mApp, mExt, dFld, dNew, dDGet, dDIn, dZipT, dAll, dTupF, dIdx, dTupRg, dDc, dReprT, dEqT, dNeT, dFor, dLc, dWhile, dRange1, dRange2, dRange3, dEnumT, e_isB, e_tupD, dgUnl, dSeq, dIfS, dSet, dAsg, dRet, dRetN, dDrop, dNext, dPar, dVar, dC, dOp, dB, dTru, dtNot, dtAnd, dtOr, dAnd, dOr, dNot, dIfE, dNeg, dNil, dCons, dTup, dLst, dCel, dNoP, dPart, dSlice, dRevT, dRevL, dCall, on1, dTupOf, dLstOf, dCelOf, dIsi, dName, dgNil, dgCons, dgTup, dFn, dMet, dMet0, gt, st, startD, wh_some, dYes, dEq, dNe, List.map, List.length, List.replicate, List.append, List.cons_append, List.nil_append, dWalk, uns, un, tupNms, dNms, ifT, ifF, List.replicate_succ, List.replicate_zero, Nat.sub_self, Nat.reduceSub, Nat.reduceAdd, Nat.zero_add, Bool.not_true, Bool.not_false, e_addI, e_addS, e_addT, e_addL, e_i2, e_i2c, e_is, e_bool, e_cel, e_strD, e_lenS, e_lenT, e_lenL, e_lenC, e_ixS, e_ixT, e_ixL, e_ixC, e_slS, e_slT, e_slL, e_slC, e_itT, e_itL, e_truN, e_truI, e_truB, e_truL, e_truT, e_okN, e_okB, e_okI, e_okS, e_okL, e_okT, e_okC, e_tupN, e_tupB, e_tupI, e_tupS, e_tupL, e_tupT, e_tupC, e_strN, e_strB, e_strI, e_strS, e_strL, e_strT, e_strC, e_intN, e_intB, e_intI, e_intS, e_intL, e_intT, e_intC, e_boolN, e_boolB, e_boolI, e_boolS, e_boolL, e_boolT, e_boolC, e_lstN, e_lstB, e_lstI, e_lstS, e_lstL, e_lstT, e_lstC, e_nonN, e_nonB, e_nonI, e_nonS, e_nonL, e_nonT, e_wkS, e_wkL, e_wkT, e_wkC, e_join, e_inS, e_ninS, e_ofI, e_ofB, e_abs, e_lenF, e_ixF, e_itF, e_wkF, e_tfF, e_truF, e_repT, e_keyI, e_keyS]; try simp only [true_and, and_true, Nat.reduceLeDiff, reduceIte, reduceCtorEq, Bool.false_eq_true, if_true, if_false, not_false_eq_true, ite_true, ite_false, and_self])
    refine ⟨TN.zip T.parts, rfl, wh_mk (a := .tuple (nats T.xs)) rfl ?_⟩
    rw [e_lenT, show (nats T.xs).length = T.xs.length from List.length_map .., e_addI, Int.add_zero, e_ixT]
    refine wh_mk (atN (by rw [T.eff_len]; omega)) ?_
    rw [e_addI]
    refine ⟨.inl ⟨rfl, rfl, nofun, nofun⟩, ?_⟩
    have e0 : (T.eff ts).getD T.xs.length 0 = (T.tail ts).getD 0 0 := T.eff_hi ts 0
    rw [e0]
    have e1 : PyData.eqv (.int (((T.tail ts).getD 0 0 : Nat) : Int)) (.int ((T.xs.length : Int) + 1)) = decide ((T.tail ts).getD 0 0 = T.xs.length + 1) := by
      show ((((T.tail ts).getD 0 0 : Nat) : Int) == (T.xs.length : Int) + 1) = _
      rw [Bool.eq_iff_iff, beq_iff_eq, decide_eq_true_iff]
      omega
    rw [e1]
    exact q
end
end K3

/-! of the law: tables, states and effects by its own walk -/
namespace K3
open PySem L2 Xr K1
abbrev sInitT : Stmt := inClass (top 5) 0
theorem scInitT : FnScope ["self", "names", "begins", "texts", "steps", "ends"] ["self", "names", "begins", "texts", "steps", "ends"] (defScope sInitT) := ⟨rfl, rfl, rfl, by decide +kernel, rfl, by decide +kernel, by decide +kernel⟩
abbrev sLState : Stmt := top 29
theorem scLState : FnScope ["plain", "node"] ["plain", "node"] (defScope sLState) := ⟨rfl, rfl, rfl, by decide +kernel, rfl, by decide +kernel, by decide +kernel⟩
abbrev sLOn : Stmt := top 30
theorem scLOn : FnScope ["plain", "state", "forest", "thing", "child"] ["plain", "state", "forest"] (defScope sLOn) := ⟨rfl, rfl, rfl, by decide +kernel, rfl, by decide +kernel, by decide +kernel⟩
abbrev sLOfT : Stmt := top 31
theorem scLOfT : FnScope ["table"] ["table"] (defScope sLOfT) := ⟨rfl, rfl, rfl, by decide +kernel, rfl, by decide +kernel, by decide +kernel⟩
abbrev sLOfP : Stmt := top 32
theorem scLOfP : FnScope ["plain"] ["plain"] (defScope sLOfP) := ⟨rfl, rfl, rfl, by decide +kernel, rfl, by decide +kernel, by decide +kernel⟩
abbrev sLEff : Stmt := top 33
theorem scLEff : FnScope ["plain", "forest", "many", "found", "alone", "state"] ["plain", "forest"] (defScope sLEff) := ⟨rfl, rfl, rfl, by decide +kernel, rfl, by decide +kernel, by decide +kernel⟩
abbrev Tb.pl (T : Tb) : PyData := .tuple T.parts
mutual
def Tr.hgt : Tr → Nat
  | .txt _ => 0
  | .nod _ ts => 1 + trH ts
def trH : List Tr → Nat
  | [] => 0
  | t :: ts => max t.hgt (trH ts)
end
theorem trH_mem : ∀ {ts : List Tr} {t : Tr}, t ∈ ts → t.hgt ≤ trH ts
  | g :: ts, t, h => by
    show t.hgt ≤ max g.hgt (trH ts)
    rcases List.mem_cons.mp h with h | h
    · subst h
      exact Nat.le_max_left _ _
    · exact Nat.le_trans (trH_mem h) (Nat.le_max_right _ _)
theorem trN_mem {ns : List Str} : ∀ {ts : List Tr} {t : Tr}, trN ns ts → t ∈ ts → t.inN ns
  | g :: ts, t, h, hm => by
    rcases List.mem_cons.mp hm with e | e
    · subst e
      exact h.1
    · exact trN_mem h.2 e
def spLState (n : Nat) : SpD := fun ds S Q _ => ∃ (T : Tb) (q : Str) (ts : List Tr), ds = [T.pl, (Tr.nod q ts).dat] ∧ T.ok ∧ q ∈ T.ns ∧ trN T.ns ts ∧ 1 + trH ts ≤ n ∧ Q (.int ((T.on (T.b q) ts : Nat) : Int)) S
def spLOn (n : Nat) : SpD := fun ds S Q _ => ∃ (T : Tb) (s : Nat) (ts : List Tr), ds = [T.pl, .int (s : Nat), .tuple (trD ts)] ∧ T.ok ∧ s < T.xs.length ∧ trN T.ns ts ∧ trH ts ≤ n ∧ Q (.int ((T.on s ts : Nat) : Int)) S
def spLOfT (C : Addr) : SpD := fun ds S Q _ => ∃ (T : Tb), ds = [T.dat C] ∧ T.ok ∧ Q T.pl S
def spLOfP (C : Addr) : SpD := fun ds S Q _ => ∃ (T : Tb), ds = [T.pl] ∧ T.ok ∧ Q (T.dat C) S
def spLEff (n : Nat) : SpD := fun ds S Q _ => ∃ (T : Tb) (ts : List Tr), ds = [T.pl, .tuple (trD ts)] ∧ T.ok ∧ trN T.ns ts ∧ trH ts ≤ n ∧ SeqAt.shaped (.tuple (trD ts)) = true ∧ Q (.tuple (nats (T.eff ts))) S
structure LwTxt (K : PySem.W.Frag) (mg : Str → Option Value) (C fI a_law_state a_law_on : Addr) : Prop extends BaseTxt mg, ClsT K C where
  n_range : mg "range" = none
  n_tuple : mg "tuple" = none
  g_law_state : mg "_law_state" = some (.ref a_law_state)
  k_law_state : PySem.W.keepIn K (.ref a_law_state) = true
  g_law_on : mg "_law_on" = some (.ref a_law_on)
  k_law_on : PySem.W.keepIn K (.ref a_law_on) = true
  g_Table : mg "Table" = some (.ref C)
  mk_Table : Mk K C fI
section
variable {P : Program} {w : World} {K : PySem.W.Frag} {mg : Str → Option Value} {base : Heap} {C fI a_law_state a_law_on : Addr} {d1 d2 d3 : FuncData}
theorem ok_initT {f : Addr} {fd : FuncData} (F : Fun K "__init__" "Table.__init__" sInitT f fd) (T : ClsT K C) : FnOk P w K mg base CX0 1 f fd ["self", "names", "begins", "texts", "steps", "ends"] (spIni C TN) := by
  refine F.ok scInitT (fun vs H Q E h => ?_) (fun cdv A outer s H vs Q E hr h => ?_)
  · obtain ⟨x, dx, as, rfl, l, _⟩ := h
    rw [List.length_cons, l]
    rfl
  · obtain ⟨x, dx, as, rfl, l, hx, q⟩ := h
    match as, l with
    | [v1, v2, v3, v4, v5], _ =>
      refine ⟨_, pss_cons (ps_fld (pv 0) (pv 1) rfl) (pss_cons (ps_fld (pv 0) (pv 2) rfl) (pss_cons (ps_fld (pv 0) (pv 3) rfl) (pss_cons (ps_fld (pv 0) (pv 4) rfl) (pss_one (ps_fld (pv 0) (pv 5) rfl))))), ?_⟩
      refine ⟨_, rfl, _, rfl, x, C, dx, _, rfl, hx, T.cl, T.na_names, by decide, ?_⟩
      refine ⟨_, rfl, _, rfl, x, C, dx, _, rfl, upd_same, T.cl, T.na_begins, (by show 1 < 1000; decide), ?_⟩
      refine ⟨_, rfl, _, rfl, x, C, dx, _, rfl, upd_same, T.cl, T.na_texts, (by show 2 < 1000; decide), ?_⟩
      refine ⟨_, rfl, _, rfl, x, C, dx, _, rfl, upd_same, T.cl, T.na_steps, (by show 3 < 1000; decide), ?_⟩
      refine ⟨_, rfl, _, rfl, x, C, dx, _, rfl, upd_same, T.cl, T.na_ends, (by show 4 < 1000; decide), ?_⟩
      refine q _ upd_same fun b hb => ?_
      rw [upd_ne hb, upd_ne hb, upd_ne hb, upd_ne hb, upd_ne hb]
theorem ok_lOfT {f : Addr} {fd : FuncData} (F : Fun K "_law_of_table" "_law_of_table" sLOfT f fd) (T : LwTxt K mg C fI a_law_state a_law_on) : FnOk P w K mg base CX0 1 f fd ["table"] (spD K (spLOfT C)) := by
  refine dok F scLOfT (fun ds S Q E h => ?_) fun cdv A outer s H Q E (hr : Room 0 _) => ⟨_, (qss_one (qs_ret (q_tup (q_cons (q_fld T.cl T.na_names (q_var (pv 0))) (q_cons (q_fld T.cl T.na_begins (q_var (pv 0))) (q_cons (q_fld T.cl T.na_texts (q_var (pv 0))) (q_cons (q_fld T.cl T.na_steps (q_var (pv 0))) (q_cons (q_fld T.cl T.na_ends (q_var (pv 0))) q_nil)))))))), fun ds S Qd Ed h => ?_⟩
  · obtain ⟨T, rfl, _⟩ := h
    rfl
  · obtain ⟨T, rfl, o, q⟩ := h
    (dsimp only [dDelT, mPop0, mPop, mApp, mExt, dFld, dNew, dDGet, dDIn, dZipT, dAll, dTupF, dIdx, dTupRg, dDc, dReprT, dEqT, dNeT, dFor, dLc, dWhile, dRange1, dRange2, dRange3, dEnumT, e_isB, e_tupD, dgUnl, dSeq, dIfS, dSet, dAsg, dRet, dRetN, dDrop, dNext, dPar, dVar, dC, dOp, dB, dTru, dtNot, dtAnd, dtOr, dAnd, dOr, dNot, dIfE, dNeg, dNil, dCons, dTup, dLst, dCel, dNoP, dPart, dSlice, dRevT, dRevL, dCall, on1, dTupOf, dLstOf, dCelOf, dIsi, dName, dgNil, dgCons, dgTup, dFn, dMet, dMet0, gt, st, startD, wh_some, dYes, dEq, dNe, List.map, List.length, List.replicate, List.append, List.cons_append, List.nil_append, dWalk, uns, un, tupNms, dNms, ifT, ifF, List.replicate_succ, List.replicate_zero, Nat.sub_self, Nat.reduceSub, Nat.reduceAdd, Nat.zero_add, Bool.not_true, Bool.not_false, e_addI, e_addS, e_addT, e_addL, e_i2, e_i2c, e_is, e_bool, e_cel, e_strD, e_lenS, e_lenT, e_lenL, e_lenC, e_ixS, e_ixT, e_ixL, e_ixC, e_slS, e_slT, e_slL, e_slC, e_itT, e_itL, e_truN, e_truI, e_truB, e_truL, e_truT, e_okN, e_okB, e_okI, e_okS, e_okL, e_okT, e_okC, e_tupN, e_tupB, e_tupI, e_tupS, e_tupL, e_tupT, e_tupC, e_strN, e_strB, e_strI, e_strS, e_strL, e_strT, e_strC, e_intN, e_intB, e_intI, e_intS, e_intL, e_intT, e_intC, e_boolN, e_boolB, e_boolI, e_boolS, e_boolL, e_boolT, e_boolC, e_lstN, e_lstB, e_lstI, e_lstS, e_lstL, e_lstT, e_lstC, e_nonN, e_nonB, e_nonI, e_nonS, e_nonL, e_nonT, e_wkS, e_wkL, e_wkT, e_wkC, e_join, e_inS, e_ninS, e_ofI, e_ofB, e_abs, e_lenF, e_ixF, e_itF, e_wkF, e_tfF, e_truF, e_repT, e_keyI, e_keyS]; try simp only [true_and, and_true, Nat.reduceLeDiff, reduceIte, reduceCtorEq, Bool.false_eq_true, if_true, if_false, not_false_eq_true, ite_true, ite_false, and_self])
    refine ⟨TN.zip T.parts, rfl, wh_mk rfl ⟨TN.zip T.parts, rfl, wh_mk rfl ⟨TN.zip T.parts, rfl, wh_mk rfl ⟨TN.zip T.parts, rfl, wh_mk rfl ⟨TN.zip T.parts, rfl, wh_mk rfl ?_⟩⟩⟩⟩⟩
    exact q
theorem ok_lOfP {f : Addr} {fd : FuncData} (F : Fun K "_law_of_plain" "_law_of_plain" sLOfP f fd) (T : LwTxt K mg C fI a_law_state a_law_on) (G_Table : FnOk P w K mg base CX0 1 fI d1 ["self", "names", "begins", "texts", "steps", "ends"] (spIni C TN)) (b_Table : Binds K d1 ["self", "names", "begins", "texts", "steps", "ends"] []) : FnOk P w K mg base CX0 3 f fd ["plain"] (spD K (spLOfP C)) := by
  refine dok F scLOfP (fun ds S Q E h => ?_) fun cdv A outer s H Q E (hr : Room 2 _) => ⟨_, (qss_one (qs_ret (q_new T.mk_Table G_Table hr (by decide) (by rfl) T.g_Table b_Table (q_cons (q_at (q_var (pv 0)) q_int (fun _ _ => rfl)) (q_cons (q_at (q_var (pv 0)) q_int (fun _ _ => rfl)) (q_cons (q_at (q_var (pv 0)) q_int (fun _ _ => rfl)) (q_cons (q_at (q_var (pv 0)) q_int (fun _ _ => rfl)) (q_cons (q_at (q_var (pv 0)) q_int (fun _ _ => rfl)) q_nil)))))))), fun ds S Qd Ed h => ?_⟩
  · obtain ⟨T, rfl, _⟩ := h
    rfl
  · obtain ⟨T, rfl, o, q⟩ := h
    (dsimp only [dDelT, mPop0, mPop, mApp, mExt, dFld, dNew, dDGet, dDIn, dZipT, dAll, dTupF, dIdx, dTupRg, dDc, dReprT, dEqT, dNeT, dFor, dLc, dWhile, dRange1, dRange2, dRange3, dEnumT, e_isB, e_tupD, dgUnl, dSeq, dIfS, dSet, dAsg, dRet, dRetN, dDrop, dNext, dPar, dVar, dC, dOp, dB, dTru, dtNot, dtAnd, dtOr, dAnd, dOr, dNot, dIfE, dNeg, dNil, dCons, dTup, dLst, dCel, dNoP, dPart, dSlice, dRevT, dRevL, dCall, on1, dTupOf, dLstOf, dCelOf, dIsi, dName, dgNil, dgCons, dgTup, dFn, dMet, dMet0, gt, st, startD, wh_some, dYes, dEq, dNe, List.map, List.length, List.replicate, List.append, List.cons_append, List.nil_append, dWalk, uns, un, tupNms, dNms, ifT, ifF, List.replicate_succ, List.replicate_zero, Nat.sub_self, Nat.reduceSub, Nat.reduceAdd, Nat.zero_add, Bool.not_true, Bool.not_false, e_addI, e_addS, e_addT, e_addL, e_i2, e_i2c, e_is, e_bool, e_cel, e_strD, e_lenS, e_lenT, e_lenL, e_lenC, e_ixS, e_ixT, e_ixL, e_ixC, e_slS, e_slT, e_slL, e_slC, e_itT, e_itL, e_truN, e_truI, e_truB, e_truL, e_truT, e_okN, e_okB, e_okI, e_okS, e_okL, e_okT, e_okC, e_tupN, e_tupB, e_tupI, e_tupS, e_tupL, e_tupT, e_tupC, e_strN, e_strB, e_strI, e_strS, e_strL, e_strT, e_strC, e_intN, e_intB, e_intI, e_intS, e_intL, e_intT, e_intC, e_boolN, e_boolB, e_boolI, e_boolS, e_boolL, e_boolT, e_boolC, e_lstN, e_lstB, e_lstI, e_lstS, e_lstL, e_lstT, e_lstC, e_nonN, e_nonB, e_nonI, e_nonS, e_nonL, e_nonT, e_wkS, e_wkL, e_wkT, e_wkC, e_join, e_inS, e_ninS, e_ofI, e_ofB, e_abs, e_lenF, e_ixF, e_itF, e_wkF, e_tfF, e_truF, e_repT, e_keyI, e_keyS]; try simp only [true_and, and_true, Nat.reduceLeDiff, reduceIte, reduceCtorEq, Bool.false_eq_true, if_true, if_false, not_false_eq_true, ite_true, ite_false, and_self])
    exact wh_mk rfl (wh_mk rfl (wh_mk rfl (wh_mk rfl (wh_mk rfl q))))
theorem ok_lOn {f : Addr} {fd : FuncData} {n : Nat} (F : Fun K "_law_on" "_law_on" sLOn f fd) (T : LwTxt K mg C fI a_law_state a_law_on) (G_law_state : FnOk P w K mg base CX0 (2 * n + 1) a_law_state d2 ["plain", "node"] (spD K (spLState n))) (b_law_state : Binds K d2 ["plain", "node"] []) : FnOk P w K mg base CX0 (2 * n + 2) f fd ["plain", "state", "forest"] (spD K (spLOn n)) := by
  refine dok F scLOn (fun ds S Q E h => ?_) fun cdv A outer s H Q E (hr : Room (2 * n + 1) _) => ⟨_, (qss_cons (qs_for PassesOwn.never rfl (qi_any (q_var (pv 2))) (qg_name (pg_name (i := 3) scLOn.nd rfl (Or.inl rfl)))
      (qss_one (qs_if (PW.pt (qw_and (qt_cmp op_notN snd_notN (q_var (pv 1)) q_non (nomark _)) (qw_and1 (qt_tru (q_isi .str T.n_isinstance (by rfl) (q_var (pv 3)) (pe_bltn (v := V.ty "str") (u := .type "str") (by rfl) T.n_str (by decide +kernel) (by rfl))) (by intro _; rfl)))))
      (qss_one (qs_set (i := 1) scLOn.nd rfl (Or.inl rfl) (q_at (q_at (q_var (pv 0)) q_int (fun _ _ => rfl)) (q_var (pv 1)) (fun _ _ => rfl))))
      (qss_one (qs_if (qt_cmp op_notN snd_notN (q_var (pv 1)) q_non (nomark _))
      (qss_cons (qs_set (i := 4) scLOn.nd rfl (Or.inl rfl) (q_call hr G_law_state T.g_law_state T.k_law_state b_law_state (by rfl) (by omega) (q_cons (q_var (pv 0)) (q_cons (q_var (pv 3)) q_nil))))
      (qss_one (qs_set (i := 1) scLOn.nd rfl (Or.inl rfl) (q_if (qt_cmp op_isN snd_isN (q_var (pv 4)) q_non (nomark _)) q_non (q_at (q_at (q_at (q_var (pv 0)) q_int (fun _ _ => rfl)) (q_var (pv 1)) (fun _ _ => rfl)) (q_var (pv 4)) (fun _ _ => rfl))))))
      qss_nil)))))
      (qss_one (qs_ret (q_var (pv 1))))), fun ds S Qd Ed h => ?_⟩
  · obtain ⟨T, s, ts, rfl, _⟩ := h
    rfl
  · obtain ⟨T, s, ts, rfl, o, hs, hn, hh, q⟩ := h
    (dsimp only [dDelT, mPop0, mPop, mApp, mExt, dFld, dNew, dDGet, dDIn, dZipT, dAll, dTupF, dIdx, dTupRg, dDc, dReprT, dEqT, dNeT, dFor, dLc, dWhile, dRange1, dRange2, dRange3, dEnumT, e_isB, e_tupD, dgUnl, dSeq, dIfS, dSet, dAsg, dRet, dRetN, dDrop, dNext, dPar, dVar, dC, dOp, dB, dTru, dtNot, dtAnd, dtOr, dAnd, dOr, dNot, dIfE, dNeg, dNil, dCons, dTup, dLst, dCel, dNoP, dPart, dSlice, dRevT, dRevL, dCall, on1, dTupOf, dLstOf, dCelOf, dIsi, dName, dgNil, dgCons, dgTup, dFn, dMet, dMet0, gt, st, startD, wh_some, dYes, dEq, dNe, List.map, List.length, List.replicate, List.append, List.cons_append, List.nil_append, dWalk, uns, un, tupNms, dNms, ifT, ifF, List.replicate_succ, List.replicate_zero, Nat.sub_self, Nat.reduceSub, Nat.reduceAdd, Nat.zero_add, Bool.not_true, Bool.not_false, e_addI, e_addS, e_addT, e_addL, e_i2, e_i2c, e_is, e_bool, e_cel, e_strD, e_lenS, e_lenT, e_lenL, e_lenC, e_ixS, e_ixT, e_ixL, e_ixC, e_slS, e_slT, e_slL, e_slC, e_itT, e_itL, e_truN, e_truI, e_truB, e_truL, e_truT, e_okN, e_okB, e_okI, e_okS, e_okL, e_okT, e_okC, e_tupN, e_tupB, e_tupI, e_tupS, e_tupL, e_tupT, e_tupC, e_strN, e_strB, e_strI, e_strS, e_strL, e_strT, e_strC, e_intN, e_intB, e_intI, e_intS, e_intL, e_intT, e_intC, e_boolN, e_boolB, e_boolI, e_boolS, e_boolL, e_boolT, e_boolC, e_lstN, e_lstB, e_lstI, e_lstS, e_lstL, e_lstT, e_lstC, e_nonN, e_nonB, e_nonI, e_nonS, e_nonL, e_nonT, e_wkS, e_wkL, e_wkT, e_wkC, e_join, e_inS, e_ninS, e_ofI, e_ofB, e_abs, e_lenF, e_ixF, e_itF, e_wkF, e_tfF, e_truF, e_repT, e_keyI, e_keyS]; try simp only [true_and, and_true, Nat.reduceLeDiff, reduceIte, reduceCtorEq, Bool.false_eq_true, if_true, if_false, not_false_eq_true, ite_true, ite_false, and_self])
    refine ⟨fun i ρ S' => S' = S ∧ ∃ x y, ρ = [some T.pl, some (.int ((T.on s (ts.take i) : Nat) : Int)), some (.tuple (trD ts)), x, y], ⟨rfl, _, _, rfl⟩, fun _ _ _ _ => trivial, ?_, ?_⟩
    · rintro i d ρ S1 hd ⟨rfl, x, y, rfl⟩
      rw [trD_map, List.getElem?_map] at hd
      obtain ⟨t, ht, rfl⟩ := Option.map_eq_some_iff.mp hd
      have hm := List.mem_of_getElem? ht
      have htn := trN_mem hn hm
      have hth := trH_mem hm
      have ec : ts.take (i + 1) = ts.take i ++ [t] := take_more ht
      have e1 : T.on s (ts.take (i + 1)) = T.step (T.on s (ts.take i)) (T.ev t) := by
        rw [ec, T.on_app]
        rfl
      have hs1 : T.on s (ts.take i) < T.xs.length := o.on _ _ hs (by
        have := hn
        rw [← List.take_append_drop i ts, trN_app] at this
        exact this.1)
      have hsl : T.on s (ts.take i) < T.st.length := by rw [o.sl]; exact hs1
      (dsimp only [dDelT, mPop0, mPop, mApp, mExt, dFld, dNew, dDGet, dDIn, dZipT, dAll, dTupF, dIdx, dTupRg, dDc, dReprT, dEqT, dNeT, dFor, dLc, dWhile, dRange1, dRange2, dRange3, dEnumT, e_isB, e_tupD, dgUnl, dSeq, dIfS, dSet, dAsg, dRet, dRetN, dDrop, dNext, dPar, dVar, dC, dOp, dB, dTru, dtNot, dtAnd, dtOr, dAnd, dOr, dNot, dIfE, dNeg, dNil, dCons, dTup, dLst, dCel, dNoP, dPart, dSlice, dRevT, dRevL, dCall, on1, dTupOf, dLstOf, dCelOf, dIsi, dName, dgNil, dgCons, dgTup, dFn, dMet, dMet0, gt, st, startD, wh_some, dYes, dEq, dNe, List.map, List.length, List.replicate, List.append, List.cons_append, List.nil_append, dWalk, uns, un, tupNms, dNms, ifT, ifF, List.replicate_succ, List.replicate_zero, Nat.sub_self, Nat.reduceSub, Nat.reduceAdd, Nat.zero_add, Bool.not_true, Bool.not_false, e_addI, e_addS, e_addT, e_addL, e_i2, e_i2c, e_is, e_bool, e_cel, e_strD, e_lenS, e_lenT, e_lenL, e_lenC, e_ixS, e_ixT, e_ixL, e_ixC, e_slS, e_slT, e_slL, e_slC, e_itT, e_itL, e_truN, e_truI, e_truB, e_truL, e_truT, e_okN, e_okB, e_okI, e_okS, e_okL, e_okT, e_okC, e_tupN, e_tupB, e_tupI, e_tupS, e_tupL, e_tupT, e_tupC, e_strN, e_strB, e_strI, e_strS, e_strL, e_strT, e_strC, e_intN, e_intB, e_intI, e_intS, e_intL, e_intT, e_intC, e_boolN, e_boolB, e_boolI, e_boolS, e_boolL, e_boolT, e_boolC, e_lstN, e_lstB, e_lstI, e_lstS, e_lstL, e_lstT, e_lstC, e_nonN, e_nonB, e_nonI, e_nonS, e_nonL, e_nonT, e_wkS, e_wkL, e_wkT, e_wkC, e_join, e_inS, e_ninS, e_ofI, e_ofB, e_abs, e_lenF, e_ixF, e_itF, e_wkF, e_tfF, e_truF, e_repT, e_keyI, e_keyS]; try simp only [true_and, and_true, Nat.reduceLeDiff, reduceIte, reduceCtorEq, Bool.false_eq_true, if_true, if_false, not_false_eq_true, ite_true, ite_false, and_self])
      rw [Bool.not_false, ifT]
      cases t with
      | txt z =>
        refine ⟨trivial, ifT ▸ wh_mk (a := .tuple (nats T.xs)) rfl ?_⟩
        rw [e_ixT]
        refine wh_mk (atN hs1) ⟨rfl, some (Tr.txt z).dat, y, ?_⟩
        rw [e1]
        rfl
      | nod q0 us =>
        have hh0 : (Tr.nod q0 us).hgt = 1 + trH us := rfl
        refine ⟨trivial, ifF ▸ ifT ▸ ⟨T, q0, us, rfl, o, htn.1, htn.2, by omega, ?_⟩⟩
        have hc : T.on (T.b q0) us < T.xs.length := o.on us _ (o.b htn.1) htn.2
        dsimp only
        rw [e_nonI, ifF]
        refine wh_mk (a := .tuple (T.st.map fun r => PyData.tuple (nats r))) rfl ?_
        rw [e_ixT]
        refine wh_mk (atR hsl) ?_
        rw [e_ixT]
        refine wh_mk (atN (by rw [T.row o hs1]; exact hc)) ⟨rfl, some (Tr.nod q0 us).dat, some (.int ((T.on (T.b q0) us : Nat) : Int)), ?_⟩
        rw [e1]
        rfl
    · rintro ρ S1 ⟨rfl, x, y, rfl⟩
      have e : (trD ts).length = ts.length := by rw [trD_map, List.length_map]
      rw [e, List.take_length]
      exact q
theorem ok_lState {f : Addr} {fd : FuncData} {n : Nat} (F : Fun K "_law_state" "_law_state" sLState f fd) (T : LwTxt K mg C fI a_law_state a_law_on) (G_law_on : FnOk P w K mg base CX0 (2 * n + 2) a_law_on d3 ["plain", "state", "forest"] (spD K (spLOn n))) (b_law_on : Binds K d3 ["plain", "state", "forest"] []) : FnOk P w K mg base CX0 (2 * n + 3) f fd ["plain", "node"] (spD K (spLState (n + 1))) := by
  refine dok F scLState (fun ds S Q E h => ?_) fun cdv A outer s H Q E (hr : Room (2 * n + 2) _) => ⟨_, (qss_cons (qs_if (qt_cmp op_notIn_seq (snd_inQ true) (q_at (q_var (pv 1)) q_int (fun _ _ => rfl)) (q_at (q_var (pv 0)) q_int (fun _ _ => rfl)) (by rfl))
      (qss_one (qs_ret q_non))
      qss_nil)
      (qss_one (qs_ret (q_call hr G_law_on T.g_law_on T.k_law_on b_law_on (by rfl) (by omega) (q_cons (q_var (pv 0)) (q_cons (q_at (q_at (q_var (pv 0)) q_int (fun _ _ => rfl)) (q_index (Grd.u200 hr) (q_at (q_var (pv 0)) q_int (fun _ _ => rfl)) (q_cons (q_at (q_var (pv 1)) q_int (fun _ _ => rfl)) q_nil)) (fun _ _ => rfl)) (q_cons (q_at (q_var (pv 1)) q_int (fun _ _ => rfl)) q_nil))))))), fun ds S Qd Ed h => ?_⟩
  · obtain ⟨T, x, ts, rfl, _⟩ := h
    rfl
  · obtain ⟨T, x, ts, rfl, o, hx, hn, hh, q⟩ := h
    have ed : (Tr.nod x ts).dat = .tuple [.str x, .tuple (trD ts)] := rfl
    rw [ed]
    (dsimp only [dDelT, mPop0, mPop, mApp, mExt, dFld, dNew, dDGet, dDIn, dZipT, dAll, dTupF, dIdx, dTupRg, dDc, dReprT, dEqT, dNeT, dFor, dLc, dWhile, dRange1, dRange2, dRange3, dEnumT, e_isB, e_tupD, dgUnl, dSeq, dIfS, dSet, dAsg, dRet, dRetN, dDrop, dNext, dPar, dVar, dC, dOp, dB, dTru, dtNot, dtAnd, dtOr, dAnd, dOr, dNot, dIfE, dNeg, dNil, dCons, dTup, dLst, dCel, dNoP, dPart, dSlice, dRevT, dRevL, dCall, on1, dTupOf, dLstOf, dCelOf, dIsi, dName, dgNil, dgCons, dgTup, dFn, dMet, dMet0, gt, st, startD, wh_some, dYes, dEq, dNe, List.map, List.length, List.replicate, List.append, List.cons_append, List.nil_append, dWalk, uns, un, tupNms, dNms, ifT, ifF, List.replicate_succ, List.replicate_zero, Nat.sub_self, Nat.reduceSub, Nat.reduceAdd, Nat.zero_add, Bool.not_true, Bool.not_false, e_addI, e_addS, e_addT, e_addL, e_i2, e_i2c, e_is, e_bool, e_cel, e_strD, e_lenS, e_lenT, e_lenL, e_lenC, e_ixS, e_ixT, e_ixL, e_ixC, e_slS, e_slT, e_slL, e_slC, e_itT, e_itL, e_truN, e_truI, e_truB, e_truL, e_truT, e_okN, e_okB, e_okI, e_okS, e_okL, e_okT, e_okC, e_tupN, e_tupB, e_tupI, e_tupS, e_tupL, e_tupT, e_tupC, e_strN, e_strB, e_strI, e_strS, e_strL, e_strT, e_strC, e_intN, e_intB, e_intI, e_intS, e_intL, e_intT, e_intC, e_boolN, e_boolB, e_boolI, e_boolS, e_boolL, e_boolT, e_boolC, e_lstN, e_lstB, e_lstI, e_lstS, e_lstL, e_lstT, e_lstC, e_nonN, e_nonB, e_nonI, e_nonS, e_nonL, e_nonT, e_wkS, e_wkL, e_wkT, e_wkC, e_join, e_inS, e_ninS, e_ofI, e_ofB, e_abs, e_lenF, e_ixF, e_itF, e_wkF, e_tfF, e_truF, e_repT, e_keyI, e_keyS]; try simp only [true_and, and_true, Nat.reduceLeDiff, reduceIte, reduceCtorEq, Bool.false_eq_true, if_true, if_false, not_false_eq_true, ite_true, ite_false, and_self])
    refine wh_mk (a := .str x) rfl (wh_mk (a := frz (T.ns.map PyData.str)) rfl ?_)
    rw [e_inQs, e_itF]
    refine wh_mk rfl (wh_mk (strsD_map _) (wh_mk rfl ?_))
    have e1 : (true ^^ decide (x ∈ T.ns)) = false := by rw [decide_eq_true hx]; rfl
    rw [e1, ifF]
    refine wh_mk (a := .tuple (nats T.bs)) rfl (wh_mk (a := frz (T.ns.map PyData.str)) rfl ?_)
    dsimp only
    refine wh_mk (a := .str x) rfl ⟨⟨shaped_strs _ o.nk, shaped_str (o.nk x hx)⟩, wh_mk (idx_str _ hx) ?_⟩
    rw [e_ixT]
    refine wh_mk (atN (by rw [o.bl]; exact List.idxOf_lt_length_of_mem hx)) (wh_mk (a := .tuple (trD ts)) rfl ?_)
    exact ⟨T, _, ts, rfl, o, o.b hx, hn, by omega, q⟩
theorem ok_lState0 {f : Addr} {fd : FuncData} (F : Fun K "_law_state" "_law_state" sLState f fd) : FnOk P w K mg base CX0 1 f fd ["plain", "node"] (spD K (spLState 0)) := by
  refine dok F scLState (fun ds S Q E h => ?_) fun cdv A outer s H Q E (hr : Room 0 _) => ⟨_, pss_never_q, fun ds S Qd Ed h => ?_⟩
  · obtain ⟨T, x, ts, rfl, _⟩ := h
    rfl
  · obtain ⟨T, x, ts, rfl, o, hx, hn, hh, q⟩ := h
    omega
/-- both, by how deep -/
theorem ok_lBoth {fd2 fd3 : FuncData} (F2 : Fun K "_law_state" "_law_state" sLState a_law_state fd2) (F3 : Fun K "_law_on" "_law_on" sLOn a_law_on fd3) (T : LwTxt K mg C fI a_law_state a_law_on) (b2 : Binds K fd2 ["plain", "node"] []) (b3 : Binds K fd3 ["plain", "state", "forest"] []) :
    ∀ n, FnOk P w K mg base CX0 (2 * n + 1) a_law_state fd2 ["plain", "node"] (spD K (spLState n)) ∧ FnOk P w K mg base CX0 (2 * n + 2) a_law_on fd3 ["plain", "state", "forest"] (spD K (spLOn n))
  | 0 => ⟨ok_lState0 F2, ok_lOn F3 T (ok_lState0 F2) b2⟩
  | n + 1 => by
    have ih := ok_lBoth F2 F3 T b2 b3 n
    have h1 := ok_lState F2 T ih.2 b3
    exact ⟨h1, ok_lOn F3 T h1 b2⟩
theorem ok_lEff {f : Addr} {fd : FuncData} {n : Nat} (F : Fun K "_law_effect" "_law_effect" sLEff f fd) (T : LwTxt K mg C fI a_law_state a_law_on) (G_law_state : FnOk P w K mg base CX0 (2 * n + 1) a_law_state d2 ["plain", "node"] (spD K (spLState n))) (b_law_state : Binds K d2 ["plain", "node"] [])
    (G_law_on : FnOk P w K mg base CX0 (2 * n + 2) a_law_on d3 ["plain", "state", "forest"] (spD K (spLOn n))) (b_law_on : Binds K d3 ["plain", "state", "forest"] []) : FnOk P w K mg base CX0 (2 * n + 3) f fd ["plain", "forest"] (spD K (spLEff n)) := by
  refine dok F scLEff (fun ds S Q E h => ?_) fun cdv A outer s H Q E (hr : Room (2 * n + 2) _) => ⟨_, (qss_cons (qs_set (i := 2) scLEff.nd rfl (Or.inl rfl) (q_len T.n_len (by rfl) (q_cons (q_at (q_var (pv 0)) q_int (fun _ _ => rfl)) q_nil)))
      (qss_cons (qs_setLc (i := 3) (own := [("state", 5)]) (by rfl) scLEff.nd rfl rfl (sw_true rfl rfl rfl (by decide +kernel)) (qi_range1 T.n_range (by rfl) (q_cons (q_var (pv 2)) q_nil)) (blkOk_by (own := [("state", 5)]) (N := ["plain", "forest", "many", "found", "alone", "state"]) (sc := defScope sLEff) (by decide +kernel)) (bnd_one (i := 5) (by decide)) (fun _ _ _ _ _ => (pg_name (i := 5) scLEff.nd rfl (Or.inl rfl))) (fun _ _ _ _ _ => qts_nil) (fun _ _ _ _ _ => (q_call hr G_law_on T.g_law_on T.k_law_on b_law_on (by rfl) (by omega) (q_cons (q_var (pv 0)) (q_cons (q_var (pv 5)) (q_cons (q_var (pv 1)) q_nil))))))
      (qss_cons (qs_if (qt_cmp (op_eqA (u64 hr)) snd_eq (q_var (pv 1)) (q_tup q_nil) (nomark _))
      (qss_one (qs_ret (q_tuple T.n_tuple (by rfl) (q_cons (q_add (q_var (pv 3)) (q_lst (q_cons (q_var (pv 2)) (q_cons (q_add (q_var (pv 2)) q_int) (q_cons (q_add (q_var (pv 2)) q_int) q_nil))))) q_nil))))
      qss_nil)
      (qss_cons (qs_set (i := 4) scLEff.nd rfl (Or.inl rfl) (q_and (q_cmp (op_eqA (u64 hr)) snd_eq (q_len T.n_len (by rfl) (q_cons (q_var (pv 1)) q_nil)) q_int (nomark _)) (q_and (q_not (q_isi .str T.n_isinstance (by rfl) (q_at (q_var (pv 1)) q_int (fun _ _ => rfl)) (pe_bltn (v := V.ty "str") (u := .type "str") (by rfl) T.n_str (by decide +kernel) (by rfl)))) (q_one (q_cmp op_in_seq (snd_inQ false) (q_call hr G_law_state T.g_law_state T.k_law_state b_law_state (by rfl) (by omega) (q_cons (q_var (pv 0)) (q_cons (q_at (q_var (pv 1)) q_int (fun _ _ => rfl)) q_nil))) (q_at (q_var (pv 0)) q_int (fun _ _ => rfl)) (by rfl))))))
      (qss_one (qs_ret (q_tuple T.n_tuple (by rfl) (q_cons (q_add (q_var (pv 3)) (q_lst (q_cons (q_if (qt_tru (q_var (pv 4)) (by intro _; rfl)) (q_add (q_var (pv 2)) q_int) (q_add (q_var (pv 2)) q_int)) (q_cons (q_add (q_var (pv 2)) q_int) (q_cons (q_add (q_var (pv 2)) q_int) q_nil))))) q_nil)))))))), fun ds S Qd Ed h => ?_⟩
  · obtain ⟨T, ts, rfl, _⟩ := h
    rfl
  · obtain ⟨T, ts, rfl, o, hn, hh, hsh, q⟩ := h
    have n2 := o.n2
    have q' : Qd (.tuple (nats ((List.range T.xs.length).map fun s => T.on s ts) ++ nats (T.tail ts))) S := by
      rw [← nats_app]
      exact q
    (dsimp only [dDelT, mPop0, mPop, mApp, mExt, dFld, dNew, dDGet, dDIn, dZipT, dAll, dTupF, dIdx, dTupRg, dDc, dReprT, dEqT, dNeT, dFor, dLc, dWhile, dRange1, dRange2, dRange3, dEnumT, e_isB, e_tupD, dgUnl, dSeq, dIfS, dSet, dAsg, dRet, dRetN, dDrop, dNext, dPar, dVar, dC, dOp, dB, dTru, dtNot, dtAnd, dtOr, dAnd, dOr, dNot, dIfE, dNeg, dNil, dCons, dTup, dLst, dCel, dNoP, dPart, dSlice, dRevT, dRevL, dCall, on1, dTupOf, dLstOf, dCelOf, dIsi, dName, dgNil, dgCons, dgTup, dFn, dMet, dMet0, gt, st, startD, wh_some, dYes, dEq, dNe, List.map, List.length, List.replicate, List.append, List.cons_append, List.nil_append, dWalk, uns, un, tupNms, dNms, ifT, ifF, List.replicate_succ, List.replicate_zero, Nat.sub_self, Nat.reduceSub, Nat.reduceAdd, Nat.zero_add, Bool.not_true, Bool.not_false, e_addI, e_addS, e_addT, e_addL, e_i2, e_i2c, e_is, e_bool, e_cel, e_strD, e_lenS, e_lenT, e_lenL, e_lenC, e_ixS, e_ixT, e_ixL, e_ixC, e_slS, e_slT, e_slL, e_slC, e_itT, e_itL, e_truN, e_truI, e_truB, e_truL, e_truT, e_okN, e_okB, e_okI, e_okS, e_okL, e_okT, e_okC, e_tupN, e_tupB, e_tupI, e_tupS, e_tupL, e_tupT, e_tupC, e_strN, e_strB, e_strI, e_strS, e_strL, e_strT, e_strC, e_intN, e_intB, e_intI, e_intS, e_intL, e_intT, e_intC, e_boolN, e_boolB, e_boolI, e_boolS, e_boolL, e_boolT, e_boolC, e_lstN, e_lstB, e_lstI, e_lstS, e_lstL, e_lstT, e_lstC, e_nonN, e_nonB, e_nonI, e_nonS, e_nonL, e_nonT, e_wkS, e_wkL, e_wkT, e_wkC, e_join, e_inS, e_ninS, e_ofI, e_ofB, e_abs, e_lenF, e_ixF, e_itF, e_wkF, e_tfF, e_truF, e_repT, e_keyI, e_keyS]; try simp only [true_and, and_true, Nat.reduceLeDiff, reduceIte, reduceCtorEq, Bool.false_eq_true, if_true, if_false, not_false_eq_true, ite_true, ite_false, and_self])
    refine wh_mk (a := .tuple (nats T.xs)) rfl ?_
    rw [e_lenT, show (nats T.xs).length = T.xs.length from List.length_map ..]
    dsimp only
    refine ⟨small_nat (by omega), fun i acc S' => S' = S ∧ acc = nats ((List.range i).map fun s => T.on s ts) ∧ i ≤ T.xs.length, ⟨rfl, rfl, Nat.zero_le _⟩, ?_, ?_, ?_⟩
    · rintro i acc S1 ⟨_, rfl, hi⟩
      rw [List.length_map, List.length_map, List.length_range]
      omega
    · rintro i d acc S1 hd ⟨rfl, rfl, hi⟩
      obtain ⟨li, rfl⟩ := rangeD_at hd
      have li' : i < T.xs.length := by omega
      have e0 : (0 + (i : Nat) * (1 : Int)) = ((i : Nat) : Int) := by omega
      rw [e0]
      refine ⟨T, i, ts, rfl, o, li', hn, hh, rfl, ?_, by omega⟩
      rw [List.range_succ, List.map_append]
      exact (nats_app _ [T.on i ts]).symm
    rintro acc S1 ⟨rfl, rfl, _⟩
    rw [rangeD_len, Int.toNat_natCast]
    have la : (nats ((List.range T.xs.length).map fun s => T.on s ts)).length ≤ 999997 := by
      rw [List.length_map, List.length_map, List.length_range]
      omega
    generalize nats ((List.range T.xs.length).map fun s => T.on s ts) = acc at q' la
    refine ⟨.inr ⟨hsh, rfl⟩, ?_⟩
    match ts, q', hn, hh with
    | [], q', _, _ =>
      have e : (PyData.tuple (trD [])).eqv (.tuple []) = true := rfl
      rw [e, ifT, e_addI, e_addI]
      exact ⟨la, q'⟩
    | t :: r, q', hn, hh =>
      have e : (PyData.tuple (trD (t :: r))).eqv (.tuple []) = false := rfl
      rw [e, ifF]
      refine ⟨.inl ⟨rfl, rfl, nofun, nofun⟩, ?_⟩
      match r, q', hn, hh with
      | [], q', hn, hh =>
        have e2 : (PyData.int (((trD [t]).length : Nat) : Int)).eqv (.int 1) = true := rfl
        rw [e2, ifT]
        refine wh_mk (a := t.dat) rfl ?_
        cases t with
        | txt z =>
          refine ⟨trivial, ?_⟩
          refine ifF ▸ ?_
          rw [e_addI, e_addI, e_addI]
          exact ⟨la, q'⟩
        | nod q0 us =>
          refine ⟨trivial, ?_⟩
          refine ifT ▸ wh_mk (a := (Tr.nod q0 us).dat) rfl ?_
          have hx : 1 + trH us ≤ n := Nat.le_trans (Nat.le_max_left _ _) hh
          refine ⟨T, q0, us, rfl, o, hn.1.1, hn.1.2, hx, wh_mk (a := .tuple (nats T.es)) rfl ?_⟩
          rw [e_inQi, e_itT]
          refine wh_mk rfl (wh_mk (intsD_nats _) ?_)
          rw [Bool.false_xor, mem_nats, e_truB (i := 0) (x := [])]
          refine wh_mk rfl ?_
          have et : T.tail [Tr.nod q0 us] = [if T.on (T.b q0) us ∈ T.es then T.xs.length + 1 else T.xs.length + 2, T.xs.length + 2, T.xs.length + 2] := rfl
          rw [et] at q'
          by_cases hm : T.on (T.b q0) us ∈ T.es
          · rw [decide_eq_true hm, ifT, e_addI, e_addI, e_addI]
            rw [if_pos hm] at q'
            exact ⟨la, q'⟩
          · rw [decide_eq_false hm, ifF, e_addI, e_addI, e_addI]
            rw [if_neg hm] at q'
            exact ⟨la, q'⟩
      | t2 :: r, q', hn, hh =>
        have e2 : (PyData.int (((trD (t :: t2 :: r)).length : Nat) : Int)).eqv (.int 1) = false := by
          show ((((trD r).length + 1 + 1 : Nat) : Int) == 1) = false
          rw [beq_eq_false_iff_ne]
          omega
        rw [e2, ifF, e_addI, e_addI, e_addI]
        exact ⟨la, q'⟩
end
end K3

/-! of the law: texts, forests -/
namespace K3
open PySem L2 Xr K1
abbrev sLText : Stmt := top 24
theorem scLText : FnScope ["draws", "signs", "turn"] ["draws"] (defScope sLText) := ⟨rfl, rfl, rfl, by decide +kernel, rfl, by decide +kernel, by decide +kernel⟩
abbrev sShut : Stmt := top 25
theorem scShut : FnScope ["stack", "last"] ["stack"] (defScope sShut) := ⟨rfl, rfl, rfl, by decide +kernel, rfl, by decide +kernel, by decide +kernel⟩
/-- a text of signs out of some -/
structure From (S : List Nat) (n : Nat) (z : Str) : Prop where
  len : z.length = n
  sub : ∀ ch ∈ z.cps.toList, ch ∈ S
theorem cps_app (a b : Str) : (a ++ b).cps.toList = a.cps.toList ++ b.cps.toList := by
  show (a.cps ++ b.cps).toList = _
  simp
theorem join_from {S : List Nat} : ∀ (ys : List Str), (∀ y ∈ ys, From S 1 y) → From S ys.length (Str.join (Str.ofString "") ys)
  | [], _ => ⟨rfl, fun ch h => by simp [Str.join, Str.empty] at h⟩
  | [y], h => h y (by simp)
  | y :: y2 :: r, h => by
    have ih := join_from (y2 :: r) fun x hx => h x (List.mem_cons_of_mem _ hx)
    have hy := h y (by simp)
    have e : Str.join (Str.ofString "") (y :: y2 :: r) = y ++ Str.ofString "" ++ Str.join (Str.ofString "") (y2 :: r) := rfl
    have l0 : (Str.ofString "").length = 0 := by decide
    have t0 : (Str.ofString "").cps.toList = [] := by decide +kernel
    rw [e]
    refine ⟨?_, fun ch hc => ?_⟩
    · rw [strLen_append, strLen_append, l0]
      have h1 := ih.len
      have h2 := hy.len
      simp only [List.length_cons] at h1 ⊢
      omega
    · rw [cps_app, cps_app, t0, List.append_nil] at hc
      rcases List.mem_append.mp hc with hc | hc
      · exact hy.sub ch hc
      · exact ih.sub ch hc
abbrev okZ (z : Str) : Prop := PySem.PyData.strOk z = true ∧ z.length ≤ 16
mutual
/-- texts and names are such that they can be shown -/
def Tr.fit : Tr → Prop
  | .txt z => okZ z
  | .nod q ts => okZ q ∧ trF ts
def trF : List Tr → Prop
  | [] => True
  | t :: ts => t.fit ∧ trF ts
end
theorem trF_app : ∀ ts us : List Tr, trF (ts ++ us) ↔ trF ts ∧ trF us
  | [], us => ⟨fun h => ⟨trivial, h⟩, fun h => h.2⟩
  | t :: ts, us => by
    show (t.fit ∧ trF (ts ++ us)) ↔ ((t.fit ∧ trF ts) ∧ trF us)
    rw [trF_app ts us, and_assoc]
mutual
theorem lay_tr : ∀ t : Tr, t.fit → t.dat.canLay0 = true
  | .txt z, h => by
    show (PyData.str z).canLay0 = true
    unfold PyData.canLay0
    exact h.1
  | .nod q ts, h => by
    show (PyData.tuple [.str q, .tuple (trD ts)]).canLay0 = true
    unfold PyData.canLay0
    rw [layAll_cons, layAll_cons]
    unfold PyData.canLay0
    rw [h.1.1, lay_trs ts h.2]
    rfl
theorem lay_trs : ∀ ts : List Tr, trF ts → PyData.canLayAll0 (trD ts) = true
  | [], _ => rfl
  | t :: ts, h => by
    show PyData.canLayAll0 (t.dat :: trD ts) = true
    rw [layAll_cons, lay_tr t h.1, lay_trs ts h.2]
    rfl
end
mutual
theorem dep_tr : ∀ t : Tr, t.dat.depth ≤ 2 * t.cnt
  | .txt z => by
    show (PyData.str z).depth ≤ _
    unfold PyData.depth
    exact Nat.zero_le _
  | .nod q ts => by
    have := dep_trs ts
    have e : (Tr.nod q ts).cnt = 1 + trC ts := rfl
    show (PyData.tuple [.str q, .tuple (trD ts)]).depth ≤ _
    have e1 : (PyData.tuple [.str q, .tuple (trD ts)]).depth = max 0 (max (PyData.depthAll (trD ts) + 1) 0) + 1 := by
      simp only [PyData.depth, PyData.depthAll]
    rw [e1, e]
    omega
theorem dep_trs : ∀ ts : List Tr, PyData.depthAll (trD ts) ≤ 2 * trC ts
  | [] => by
    show PyData.depthAll [] ≤ _
    unfold PyData.depthAll
    exact Nat.zero_le _
  | t :: ts => by
    have h1 := dep_tr t
    have h2 := dep_trs ts
    have e : trC (t :: ts) = t.cnt + trC ts := rfl
    show PyData.depthAll (t.dat :: trD ts) ≤ _
    unfold PyData.depthAll
    omega
end
mutual
theorem hgt_cnt : ∀ t : Tr, t.hgt ≤ t.cnt
  | .txt z => Nat.zero_le _
  | .nod q ts => by
    have := hgt_cnts ts
    show 1 + trH ts ≤ 1 + trC ts
    omega
theorem hgt_cnts : ∀ ts : List Tr, trH ts ≤ trC ts
  | [] => Nat.le_refl _
  | t :: ts => by
    have h1 := hgt_cnt t
    have h2 := hgt_cnts ts
    show max t.hgt (trH ts) ≤ t.cnt + trC ts
    omega
end
theorem shaped_tr {ts : List Tr} (h : trF ts) (l : trC ts ≤ 31) : SeqAt.shaped (.tuple (trD ts)) = true := by
  unfold SeqAt.shaped
  rw [Bool.and_eq_true]
  refine ⟨by unfold PyData.canLay0; exact lay_trs ts h, decide_eq_true ?_⟩
  have := dep_trs ts
  unfold PyData.depth
  omega
theorem sum_from {A : List Nat} : ∀ l : List Str, (∀ y ∈ l, From A 1 y) → (l.map (·.length)).sum = l.length
  | [], _ => rfl
  | y :: l, h => by
    have h1 := sum_from l fun x hx => h x (List.mem_cons_of_mem _ hx)
    have h2 := (h y List.mem_cons_self).len
    rw [List.map_cons, List.sum_cons, List.length_cons, h1, h2]
    omega
theorem join_fromT {A : List Nat} (l : List Str) (h : ∀ y ∈ l, From A 1 y) : From A l.length (Txt.join (Str.ofString "") l) := by
  show From _ _ (Builtin.Str.glued (Str.ofString "") l)
  rw [StrLaws.glued_eq_join]
  exact join_from l h
theorem from_one {A : List Nat} {c : Nat} (h : c ∈ A) : From A 1 ⟨#[c]⟩ := ⟨rfl, fun ch hc => by
  have : ch = c := by simpa using hc
  rw [this]
  exact h⟩
theorem from_ok {A : List Nat} {n : Nat} {z : Str} (hA : ∀ c ∈ A, c < 1114112) (h : From A n z) : PyData.strOk z = true := by
  show z.cps.all (fun c => decide (c < 1114112)) = true
  rw [← Array.all_toList, List.all_eq_true]
  exact fun c hc => decide_eq_true (hA c (h.sub c hc))
abbrev sgs : Str := Str.ofString "abcdefghijklmnopqrstuvwxyz0123456789 "
theorem sgs_ok : ∀ c ∈ sgs.cps.toList, c < 1114112 := by decide +kernel
def spTx : SpD := fun ds S Q _ => ∃ n k, ds = [cel n] ∧ DealD S n k ∧ ∀ z S', okZ z → MvD n k S S' → Q (.str z) S'
structure TxTxt (K : PySem.W.Frag) (mg : Str → Option Value) (a_law_of : Addr) : Prop where
  n_range : mg "range" = none
  g_law_of : mg "_law_of" = some (.ref a_law_of)
  k_law_of : PySem.W.keepIn K (.ref a_law_of) = true
structure Fm where
  a : Nat
  b : Nat
  nm : Str
  ts : List Tr
structure StkD (S : Sto) (s : Nat) (fr : List Fm) : Prop where
  top : S s = some (.lst (fr.map fun f => cel f.a))
  one : ∀ f ∈ fr, S f.a = some (.lst [.str f.nm, cel f.b]) ∧ S f.b = some (.lst (trD f.ts))
  nd : (s :: fr.flatMap fun f => [f.a, f.b]).Nodup
def spShut : SpD := fun ds S Q _ => ∃ (s : Nat) (fr : List Fm) (g h : Fm), ds = [cel s] ∧ StkD S s (fr ++ [g, h]) ∧ fr.length ≤ 1000 ∧ g.ts.length ≤ 1000 ∧
  Q .none (put (put S s (.lst ((fr ++ [g]).map fun f => cel f.a))) g.b (.lst (trD (g.ts ++ [.nod h.nm h.ts]))))
structure ShTxt (mg : Str → Option Value) : Prop where
  n_tuple : mg "tuple" = none
section
variable {P : Program} {w : World} {K : PySem.W.Frag} {mg : Str → Option Value} {base : Heap} {a_law_of : Addr} {d1 d2 d3 : FuncData}
theorem ok_lText {f : Addr} {fd : FuncData} (F : Fun K "_law_text" "_law_text" sLText f fd) (T : TxTxt K mg a_law_of) (G_law_of : FnOk P w K mg base CX0 2 a_law_of d1 ["draws", "some"] (spD K spOfD)) (b_law_of : Binds K d1 ["draws", "some"] []) : FnOk P w K mg base CX0 3 f fd ["draws"] (spD K spTx) := by
  refine dok F scLText (fun ds S Q E h => ?_) fun cdv A outer s H Q E (hr : Room 2 _) => ⟨_, (qss_cons (qs_set (i := 1) scLText.nd rfl (Or.inr rfl) q_str)
      (qss_one (qs_ret (q_join q_str (q_lc (own := [("turn", 2)]) (by rfl) scLText.nd (qi_range1 T.n_range (by rfl) (q_cons (q_call hr G_law_of T.g_law_of T.k_law_of b_law_of (by rfl) (by decide) (q_cons (q_var (pv 0)) (q_cons (q_lst (q_cons q_int (q_cons q_int (q_cons q_int (q_cons q_int (q_cons q_int (q_cons q_int q_nil))))))) q_nil))) q_nil)) (blkOk_by (own := [("turn", 2)]) (N := ["draws", "signs", "turn"]) (sc := defScope sLText) (by decide +kernel)) (bnd_one (i := 2) (by decide)) (fun _ _ _ _ _ => (pg_name (i := 2) scLText.nd rfl (Or.inl rfl))) (fun _ _ _ _ _ => qts_nil) (fun _ _ _ _ _ => (q_call hr G_law_of T.g_law_of T.k_law_of b_law_of (by rfl) (by decide) (q_cons (q_var (pv 0)) (q_cons (q_var (pv 1)) q_nil))))))))), fun ds S Qd Ed h => ?_⟩
  · obtain ⟨n, k, rfl, _⟩ := h
    rfl
  · obtain ⟨n, k, rfl, D, q⟩ := h
    (dsimp only [dDelT, mPop0, mPop, mApp, mExt, dFld, dNew, dDGet, dDIn, dZipT, dAll, dTupF, dIdx, dTupRg, dDc, dReprT, dEqT, dNeT, dFor, dLc, dWhile, dRange1, dRange2, dRange3, dEnumT, e_isB, e_tupD, dgUnl, dSeq, dIfS, dSet, dAsg, dRet, dRetN, dDrop, dNext, dPar, dVar, dC, dOp, dB, dTru, dtNot, dtAnd, dtOr, dAnd, dOr, dNot, dIfE, dNeg, dNil, dCons, dTup, dLst, dCel, dNoP, dPart, dSlice, dRevT, dRevL, dCall, on1, dTupOf, dLstOf, dCelOf, dIsi, dName, dgNil, dgCons, dgTup, dFn, dMet, dMet0, gt, st, startD, wh_some, dYes, dEq, dNe, List.map, List.length, List.replicate, List.append, List.cons_append, List.nil_append, dWalk, uns, un, tupNms, dNms, ifT, ifF, List.replicate_succ, List.replicate_zero, Nat.sub_self, Nat.reduceSub, Nat.reduceAdd, Nat.zero_add, Bool.not_true, Bool.not_false, e_addI, e_addS, e_addT, e_addL, e_i2, e_i2c, e_is, e_bool, e_cel, e_strD, e_lenS, e_lenT, e_lenL, e_lenC, e_ixS, e_ixT, e_ixL, e_ixC, e_slS, e_slT, e_slL, e_slC, e_itT, e_itL, e_truN, e_truI, e_truB, e_truL, e_truT, e_okN, e_okB, e_okI, e_okS, e_okL, e_okT, e_okC, e_tupN, e_tupB, e_tupI, e_tupS, e_tupL, e_tupT, e_tupC, e_strN, e_strB, e_strI, e_strS, e_strL, e_strT, e_strC, e_intN, e_intB, e_intI, e_intS, e_intL, e_intT, e_intC, e_boolN, e_boolB, e_boolI, e_boolS, e_boolL, e_boolT, e_boolC, e_lstN, e_lstB, e_lstI, e_lstS, e_lstL, e_lstT, e_lstC, e_nonN, e_nonB, e_nonI, e_nonS, e_nonL, e_nonT, e_wkS, e_wkL, e_wkT, e_wkC, e_join, e_inS, e_ninS, e_ofI, e_ofB, e_abs, e_lenF, e_ixF, e_itF, e_wkF, e_tfF, e_truF, e_repT, e_keyI, e_keyS]; try simp only [true_and, and_true, Nat.reduceLeDiff, reduceIte, reduceCtorEq, Bool.false_eq_true, if_true, if_false, not_false_eq_true, ite_true, ite_false, and_self])
    refine ⟨n, k, _, rfl, D, .inl ⟨_, rfl, by decide, by decide, fun d S1 hd mv => ?_⟩⟩
    obtain ⟨j, rfl, j0, j1⟩ : ∃ j : Int, d = .int j ∧ 0 ≤ j ∧ j ≤ 16 := by
      simp only [List.mem_cons, List.not_mem_nil, or_false] at hd
      rcases hd with rfl | rfl | rfl | rfl | rfl | rfl <;> exact ⟨_, rfl, by decide, by decide⟩
    try dsimp only
    refine ⟨⟨by omega, by omega⟩, fun i acc S' => MvD n k S S' ∧ ∃ zs : List Str, acc = zs.map PyData.str ∧ zs.length = i ∧ (∀ z ∈ zs, From sgs.cps.toList 1 z) ∧ i ≤ 16, ⟨mv, [], rfl, rfl, by simp, by omega⟩, ?_, ?_, ?_⟩
    · rintro i acc S2 ⟨_, zs, rfl, l, _, hi⟩
      rw [List.length_map]
      omega
    · rintro i d acc S2 hd ⟨mv2, zs, rfl, l, hz, hi⟩
      obtain ⟨li, rfl⟩ := rangeD_at hd
      refine ⟨n, k, _, rfl, mv2.D, .inr ⟨sgs, rfl, by decide +kernel, by decide +kernel, fun c S3 hc mv3 => ?_⟩⟩
      refine ⟨mv2.trans mv3, zs ++ [⟨#[c]⟩], by rw [List.map_append]; rfl, by rw [List.length_append, l]; rfl, fun z h => ?_, by omega⟩
      rcases List.mem_append.mp h with h | h
      · exact hz z h
      · rw [List.mem_singleton] at h
        subst h
        exact from_one hc
    · rintro acc S2 ⟨mv2, zs, rfl, l, hz, hi⟩
      refine wh_mk (strsD_map zs) ?_
      have l0 : (Str.ofString "").length = 0 := by decide
      have jf := join_fromT zs hz
      refine ⟨by rw [sum_from zs hz, l0]; omega, q _ S2 ⟨from_ok sgs_ok jf, by rw [jf.len]; omega⟩ mv2⟩
theorem ok_shut {f : Addr} {fd : FuncData} (F : Fun K "_law_shut" "_law_shut" sShut f fd) (T : ShTxt mg) : FnOk P w K mg base CX0 1 f fd ["stack"] (spD K spShut) := by
  refine dok F scShut (fun ds S Q E h => ?_) fun cdv A outer s H Q E (hr : Room 0 _) => ⟨_, (qss_cons (qs_set (i := 1) scShut.nd rfl (Or.inl rfl) (q_pop (q_var (pv 0))))
      (qss_one (qs_expr (q_append (q_at (q_at (q_var (pv 0)) (q_neg q_int) (fun _ _ => rfl)) q_int (fun _ _ => rfl)) (q_cons (q_tup (q_cons (q_at (q_var (pv 1)) q_int (fun _ _ => rfl)) (q_cons (q_tuple T.n_tuple (by rfl) (q_cons (q_at (q_var (pv 1)) q_int (fun _ _ => rfl)) q_nil)) q_nil))) q_nil))))), fun ds S Qd Ed h => ?_⟩
  · obtain ⟨s, fr, g, h, rfl, _⟩ := h
    rfl
  · obtain ⟨s, fr, g, h, rfl, sk, l1, l2, q⟩ := h
    have hg := sk.one g (by simp)
    have hh := sk.one h (by simp)
    have nd := sk.nd
    have e0 : (fr ++ [g, h]).map (fun f => cel f.a) = (fr ++ [g]).map (fun f => cel f.a) ++ [cel h.a] := by simp
    have top := sk.top
    rw [e0] at top
    have mg : g.a ∈ (fr ++ [g, h]).flatMap fun f => [f.a, f.b] := List.mem_flatMap.mpr ⟨g, by simp, by simp⟩
    have mg2 : g.b ∈ (fr ++ [g, h]).flatMap fun f => [f.a, f.b] := List.mem_flatMap.mpr ⟨g, by simp, by simp⟩
    have mh : h.a ∈ (fr ++ [g, h]).flatMap fun f => [f.a, f.b] := List.mem_flatMap.mpr ⟨h, by simp, by simp⟩
    have mh2 : h.b ∈ (fr ++ [g, h]).flatMap fun f => [f.a, f.b] := List.mem_flatMap.mpr ⟨h, by simp, by simp⟩
    have ns := (List.nodup_cons.mp nd).1
    have n1 : g.a ≠ s := fun e => ns (e ▸ mg)
    have n2 : g.b ≠ s := fun e => ns (e ▸ mg2)
    have n3 : h.a ≠ s := fun e => ns (e ▸ mh)
    have n4 : h.b ≠ s := fun e => ns (e ▸ mh2)
    (dsimp only [dDelT, mPop0, mPop, mApp, mExt, dFld, dNew, dDGet, dDIn, dZipT, dAll, dTupF, dIdx, dTupRg, dDc, dReprT, dEqT, dNeT, dFor, dLc, dWhile, dRange1, dRange2, dRange3, dEnumT, e_isB, e_tupD, dgUnl, dSeq, dIfS, dSet, dAsg, dRet, dRetN, dDrop, dNext, dPar, dVar, dC, dOp, dB, dTru, dtNot, dtAnd, dtOr, dAnd, dOr, dNot, dIfE, dNeg, dNil, dCons, dTup, dLst, dCel, dNoP, dPart, dSlice, dRevT, dRevL, dCall, on1, dTupOf, dLstOf, dCelOf, dIsi, dName, dgNil, dgCons, dgTup, dFn, dMet, dMet0, gt, st, startD, wh_some, dYes, dEq, dNe, List.map, List.length, List.replicate, List.append, List.cons_append, List.nil_append, dWalk, uns, un, tupNms, dNms, ifT, ifF, List.replicate_succ, List.replicate_zero, Nat.sub_self, Nat.reduceSub, Nat.reduceAdd, Nat.zero_add, Bool.not_true, Bool.not_false, e_addI, e_addS, e_addT, e_addL, e_i2, e_i2c, e_is, e_bool, e_cel, e_strD, e_lenS, e_lenT, e_lenL, e_lenC, e_ixS, e_ixT, e_ixL, e_ixC, e_slS, e_slT, e_slL, e_slC, e_itT, e_itL, e_truN, e_truI, e_truB, e_truL, e_truT, e_okN, e_okB, e_okI, e_okS, e_okL, e_okT, e_okC, e_tupN, e_tupB, e_tupI, e_tupS, e_tupL, e_tupT, e_tupC, e_strN, e_strB, e_strI, e_strS, e_strL, e_strT, e_strC, e_intN, e_intB, e_intI, e_intS, e_intL, e_intT, e_intC, e_boolN, e_boolB, e_boolI, e_boolS, e_boolL, e_boolT, e_boolC, e_lstN, e_lstB, e_lstI, e_lstS, e_lstL, e_lstT, e_lstC, e_nonN, e_nonB, e_nonI, e_nonS, e_nonL, e_nonT, e_wkS, e_wkL, e_wkT, e_wkC, e_join, e_inS, e_ninS, e_ofI, e_ofB, e_abs, e_lenF, e_ixF, e_itF, e_wkF, e_tfF, e_truF, e_repT, e_keyI, e_keyS]; try simp only [true_and, and_true, Nat.reduceLeDiff, reduceIte, reduceCtorEq, Bool.false_eq_true, if_true, if_false, not_false_eq_true, ite_true, ite_false, and_self])
    refine wh_mk (lstC_of top) (wh_mk (a := cel h.a) (by simp) ?_)
    rw [List.dropLast_concat]
    try dsimp only [K3.st, gt, wh_some]
    refine wh_mk (items_cel (put_same)) (wh_mk (a := cel g.a) (by rw [List.map_append]; exact atI_last _ _) ?_)
    refine wh_mk (items_cel (by rw [put_ne n1]; exact hg.1)) (wh_mk (a := cel g.b) rfl (wh_mk rfl ?_))
    refine ⟨⟨_, by rw [put_ne n2]; exact hg.2⟩, ?_⟩
    refine wh_mk (items_cel (by rw [put_ne n3]; exact hh.1)) (wh_mk (a := .str h.nm) rfl ?_)
    refine wh_mk (items_cel (by rw [put_ne n3]; exact hh.1)) (wh_mk (a := cel h.b) rfl ?_)
    try dsimp only
    refine wh_mk (items_cel (by rw [put_ne n4]; exact hh.2)) (wh_mk (lstC_of (by rw [put_ne n2]; exact hg.2)) ⟨?_, ?_⟩)
    · rw [trD_map, List.length_map]
      omega
    · have e1 : trD (g.ts ++ [.nod h.nm h.ts]) = trD g.ts ++ [.tuple [.str h.nm, .tuple (trD h.ts)]] := by
        rw [trD_map, trD_map, List.map_append]
        rfl
      rw [e1] at q
      exact q
end
end K3

/-! of the law: forests drawn -/
namespace K3
open PySem L2 Xr K1
abbrev sLFor : Stmt := top 26
theorem scLFor : FnScope ["draws", "names", "most", "stack", "turn", "back"] ["draws", "names", "most"] (defScope sLFor) := ⟨rfl, rfl, rfl, by decide +kernel, rfl, by decide +kernel, by decide +kernel⟩
abbrev sLNode : Stmt := top 27
theorem scLNode : FnScope ["draws", "names", "most"] ["draws", "names", "most"] (defScope sLNode) := ⟨rfl, rfl, rfl, by decide +kernel, rfl, by decide +kernel, by decide +kernel⟩
abbrev flat (fr : List Fm) : List Nat := fr.flatMap fun f => [f.a, f.b]
theorem flat_app (a b : List Fm) : flat (a ++ b) = flat a ++ flat b := List.flatMap_append
structure Fo (S0 S : Sto) (n k s : Nat) (ns : List Str) (N : Nat) (fr : List Fm) : Prop where
  mv : MvD n k S0 S
  sk : StkD S s fr
  fresh : ∀ j ∈ s :: flat fr, S0 j = none
  good : ∀ f ∈ fr, trN ns f.ts ∧ trF f.ts
  nms : ∀ f ∈ fr.tail, f.nm ∈ ns ∧ okZ f.nm
  tot : (fr.map fun f => trC f.ts + 1).sum ≤ N + 1
  ne : fr ≠ []
theorem DealD.nk {S : Sto} {n k : Nat} (D : DealD S n k) {j : Nat} (h : S j = none) : j ≠ n ∧ j ≠ k := by
  obtain ⟨cs, b, h1, h2, _⟩ := D.ex
  refine ⟨fun e => ?_, fun e => ?_⟩
  · rw [e, h1] at h
    cases h
  · rw [e, h2] at h
    cases h
section
variable {S0 S S' : Sto} {n k s : Nat} {ns : List Str} {N : Nat} {fr : List Fm}
theorem StkD.keep (h : StkD S s fr) (e : ∀ j ∈ s :: flat fr, S' j = S j) : StkD S' s fr :=
  ⟨by rw [e s List.mem_cons_self]; exact h.top, fun f hf => by
    have h1 := h.one f hf
    rw [e f.a (List.mem_cons_of_mem _ (List.mem_flatMap.mpr ⟨f, hf, by simp⟩)), e f.b (List.mem_cons_of_mem _ (List.mem_flatMap.mpr ⟨f, hf, by simp⟩))]
    exact h1, h.nd⟩
theorem StkD.has (h : StkD S s fr) : ∀ j ∈ s :: flat fr, ∃ c, S j = some c := fun j hj => by
  rcases List.mem_cons.mp hj with rfl | hj
  · exact ⟨_, h.top⟩
  · obtain ⟨f, hf, hm⟩ := List.mem_flatMap.mp hj
    have h1 := h.one f hf
    simp at hm
    rcases hm with rfl | rfl
    · exact ⟨_, h1.1⟩
    · exact ⟨_, h1.2⟩
theorem Fo.draw (h : Fo S0 S n k s ns N fr) (D0 : DealD S0 n k) (m : MvD n k S S') : Fo S0 S' n k s ns N fr :=
  ⟨h.mv.trans m, h.sk.keep fun j hj => by
    obtain ⟨c, hc⟩ := h.sk.has j hj
    obtain ⟨n1, n2⟩ := D0.nk (h.fresh j hj)
    rw [hc]
    exact m.kp j c hc n1 n2, h.fresh, h.good, h.nms, h.tot, h.ne⟩
theorem Fo.more (h : Fo S0 S n k s ns N fr) {M : Nat} (l : N ≤ M) : Fo S0 S n k s ns M fr := ⟨h.mv, h.sk, h.fresh, h.good, h.nms, by have := h.tot; omega, h.ne⟩
/-- what is put at a cell that stands not in the deal -/
theorem MvD.put {c : Cell} {j : Nat} (h : MvD n k S0 S) (D0 : DealD S0 n k) (hj : S0 j = none) : MvD n k S0 (put S j c) := by
  obtain ⟨n1, n2⟩ := D0.nk hj
  obtain ⟨cs, b, h1, h2, r⟩ := h.D.ex
  refine ⟨⟨cs, b, by rw [put_ne (Ne.symm n1)]; exact h1, by rw [put_ne (Ne.symm n2)]; exact h2, r⟩, fun i d hd x y => ?_⟩
  have : i ≠ j := fun e => by rw [e, hj] at hd; cases hd
  rw [put_ne this]
  exact h.kp i d hd x y
theorem sum_len : ∀ fr : List Fm, fr.length ≤ (fr.map fun f => trC f.ts + 1).sum
  | [] => Nat.le_refl _
  | f :: fr => by
    have := sum_len fr
    rw [List.map_cons, List.sum_cons, List.length_cons]
    omega
theorem sum_mem : ∀ {fr : List Fm} {f : Fm}, f ∈ fr → trC f.ts + 1 ≤ (fr.map fun f => trC f.ts + 1).sum
  | g :: fr, f, h => by
    rw [List.map_cons, List.sum_cons]
    rcases List.mem_cons.mp h with rfl | h
    · omega
    · have := sum_mem h
      omega
theorem mem_a {f : Fm} (hf : f ∈ fr) : f.a ∈ flat fr := List.mem_flatMap.mpr ⟨f, hf, by simp⟩
theorem mem_b {f : Fm} (hf : f ∈ fr) : f.b ∈ flat fr := List.mem_flatMap.mpr ⟨f, hf, by simp⟩
theorem tail_mem : ∀ {fr : List Fm} {r : List Fm} {f : Fm}, fr ≠ [] → f ∈ r → f ∈ (fr ++ r).tail
  | _ :: fr, r, f, _, h => List.mem_append_right _ h
  | [], _, _, h, _ => absurd rfl h
theorem Fo.shut {g h : Fm} (o : Fo S0 S n k s ns N (fr ++ [g, h])) (D0 : DealD S0 n k) : Fo S0 (put (put S s (.lst ((fr ++ [g]).map fun f => cel f.a))) g.b (.lst (trD (g.ts ++ [.nod h.nm h.ts])))) n k s ns N (fr ++ [⟨g.a, g.b, g.nm, g.ts ++ [.nod h.nm h.ts]⟩]) := by
  have nd := o.sk.nd
  have ns' := (List.nodup_cons.mp nd).1
  have nf := (List.nodup_cons.mp nd).2
  have ef : flat (fr ++ [g, h]) = flat fr ++ [g.a, g.b] ++ [h.a, h.b] := by rw [flat_app, List.append_assoc]; rfl
  have ef2 : flat (fr ++ [⟨g.a, g.b, g.nm, g.ts ++ [.nod h.nm h.ts]⟩]) = flat fr ++ [g.a, g.b] := by rw [flat_app]; rfl
  have nf' : (flat fr ++ [g.a, g.b]).Nodup := by
    have z : (flat (fr ++ [g, h])).Nodup := nf
    rw [ef] at z
    exact (List.nodup_append.mp z).1
  have hgb : g.b ≠ s := fun e => ns' (e ▸ mem_b (by simp))
  have hga : g.a ≠ g.b := by
    have := (List.nodup_append.mp nf').2.1
    simp at this
    exact this
  have hx : ∀ x ∈ flat fr, x ≠ g.b ∧ x ≠ s := fun x hx => ⟨fun e => (List.nodup_append.mp nf').2.2 x hx g.b (by simp) e, fun e => ns' (by
    show s ∈ flat (fr ++ [g, h])
    rw [ef]
    exact List.mem_append_left _ (List.mem_append_left _ (e ▸ hx)))⟩
  have hgs : g.a ≠ s := fun e => ns' (e ▸ mem_a (by simp))
  have f1 : S0 s = none := o.fresh s List.mem_cons_self
  have f2 : S0 g.b = none := o.fresh g.b (List.mem_cons_of_mem _ (mem_b (by simp)))
  refine ⟨(o.mv.put D0 f1).put D0 f2, ⟨?_, fun f hf => ?_, ?_⟩, fun j hj => ?_, fun f hf => ?_, fun f hf => ?_, ?_, by simp⟩
  · rw [put_ne (Ne.symm hgb), put_same, List.map_append, List.map_append]
    rfl
  · rcases List.mem_append.mp hf with hf | hf
    · have h1 := o.sk.one f (List.mem_append_left _ hf)
      obtain ⟨a1, a2⟩ := hx _ (mem_a hf)
      obtain ⟨b1, b2⟩ := hx _ (mem_b hf)
      rw [put_ne a1, put_ne a2, put_ne b1, put_ne b2]
      exact h1
    · rw [List.mem_singleton] at hf
      subst hf
      have h1 := o.sk.one g (by simp)
      refine ⟨?_, put_same⟩
      show put (put S s _) g.b _ g.a = _
      rw [put_ne hga, put_ne hgs]
      exact h1.1
  · rw [List.nodup_cons]
    show s ∉ flat _ ∧ (flat _).Nodup
    rw [ef2]
    refine ⟨fun e => ns' ?_, nf'⟩
    show s ∈ flat (fr ++ [g, h])
    rw [ef]
    exact List.mem_append_left _ e
  · refine o.fresh j ?_
    rw [ef2] at hj
    rw [ef]
    rcases List.mem_cons.mp hj with e | e
    · exact List.mem_cons.mpr (.inl e)
    · exact List.mem_cons_of_mem _ (List.mem_append_left _ e)
  · rcases List.mem_append.mp hf with hf | hf
    · exact o.good f (List.mem_append_left _ hf)
    · rw [List.mem_singleton] at hf
      subst hf
      have g1 := o.good g (by simp)
      have g2 := o.good h (by simp)
      have g3 := o.nms h (by
        have : fr ++ [g, h] = (fr ++ [g]) ++ [h] := by simp
        rw [this]
        exact tail_mem (by simp) (by simp))
      exact ⟨(trN_app _ _).mpr ⟨g1.1, ⟨g3.1, g2.1⟩, trivial⟩, (trF_app _ _).mpr ⟨g1.2, ⟨g3.2, g2.2⟩, trivial⟩⟩
  · cases fr with
    | nil => cases hf
    | cons x r =>
      have hf' : f ∈ r ++ [⟨g.a, g.b, g.nm, g.ts ++ [.nod h.nm h.ts]⟩] := hf
      rcases List.mem_append.mp hf' with hf | hf
      · exact o.nms f (List.mem_append_left _ hf)
      · rw [List.mem_singleton] at hf
        subst hf
        exact o.nms g (List.mem_append_right r (by simp))
  · have t := o.tot
    rw [List.map_append, List.sum_append] at t ⊢
    have e : trC (g.ts ++ [.nod h.nm h.ts]) = trC g.ts + (1 + trC h.ts + 0) := by rw [trC_app]; rfl
    simp only [List.map_cons, List.map_nil, List.sum_cons, List.sum_nil] at t ⊢
    rw [e]
    omega
theorem Fo.text {g : Fm} {t : Tr} (o : Fo S0 S n k s ns N (fr ++ [g])) (D0 : DealD S0 n k) (h1 : t.inN ns) (h2 : t.fit) (h3 : t.cnt = 1) : Fo S0 (put S g.b (.lst (trD (g.ts ++ [t])))) n k s ns (N + 1) (fr ++ [⟨g.a, g.b, g.nm, g.ts ++ [t]⟩]) := by
  have nd := o.sk.nd
  have ns' := (List.nodup_cons.mp nd).1
  have nf := (List.nodup_cons.mp nd).2
  have ef : flat (fr ++ [g]) = flat fr ++ [g.a, g.b] := by rw [flat_app]; rfl
  have ef2 : flat (fr ++ [⟨g.a, g.b, g.nm, g.ts ++ [t]⟩]) = flat fr ++ [g.a, g.b] := by rw [flat_app]; rfl
  have nf' : (flat fr ++ [g.a, g.b]).Nodup := ef ▸ nf
  have hgb : g.b ≠ s := fun e => ns' (e ▸ mem_b (by simp))
  have hga : g.a ≠ g.b := by
    have := (List.nodup_append.mp nf').2.1
    simp at this
    exact this
  have hx : ∀ x ∈ flat fr, x ≠ g.b := fun x hx e => (List.nodup_append.mp nf').2.2 x hx g.b (by simp) e
  have f2 : S0 g.b = none := o.fresh g.b (List.mem_cons_of_mem _ (mem_b (by simp)))
  refine ⟨o.mv.put D0 f2, ⟨?_, fun f hf => ?_, ?_⟩, fun j hj => ?_, fun f hf => ?_, fun f hf => ?_, ?_, by simp⟩
  · rw [put_ne (Ne.symm hgb), o.sk.top, List.map_append, List.map_append]
    rfl
  · rcases List.mem_append.mp hf with hf | hf
    · have h1 := o.sk.one f (List.mem_append_left _ hf)
      rw [put_ne (hx _ (mem_a hf)), put_ne (hx _ (mem_b hf))]
      exact h1
    · rw [List.mem_singleton] at hf
      subst hf
      have h1 := o.sk.one g (by simp)
      refine ⟨?_, put_same⟩
      show put S g.b _ g.a = _
      rw [put_ne hga]
      exact h1.1
  · rw [List.nodup_cons]
    show s ∉ flat _ ∧ (flat _).Nodup
    rw [ef2]
    exact ⟨fun e => ns' (by show s ∈ flat (fr ++ [g]); rw [ef]; exact e), nf'⟩
  · refine o.fresh j ?_
    rw [ef2] at hj
    rw [ef]
    exact hj
  · rcases List.mem_append.mp hf with hf | hf
    · exact o.good f (List.mem_append_left _ hf)
    · rw [List.mem_singleton] at hf
      subst hf
      have g1 := o.good g (by simp)
      exact ⟨(trN_app _ _).mpr ⟨g1.1, h1, trivial⟩, (trF_app _ _).mpr ⟨g1.2, h2, trivial⟩⟩
  · cases fr with
    | nil => cases hf
    | cons x r =>
      have hf' : f ∈ r ++ [⟨g.a, g.b, g.nm, g.ts ++ [t]⟩] := hf
      rcases List.mem_append.mp hf' with hf | hf
      · exact o.nms f (List.mem_append_left _ hf)
      · rw [List.mem_singleton] at hf
        subst hf
        exact o.nms g (List.mem_append_right r (by simp))
  · have tt := o.tot
    rw [List.map_append, List.sum_append] at tt ⊢
    have e : trC (g.ts ++ [t]) = trC g.ts + (t.cnt + 0) := by rw [trC_app]; rfl
    simp only [List.map_cons, List.map_nil, List.sum_cons, List.sum_nil] at tt ⊢
    rw [e]
    omega
theorem Fo.push {a b : Nat} {q : Str} (o : Fo S0 S n k s ns N fr) (D0 : DealD S0 n k) (hq : q ∈ ns ∧ okZ q) (hb : S b = none) (ha : put S b (.lst []) a = none) (l : fr.length ≤ 100000) :
    Fo S0 (put (put (put S b (.lst [])) a (.lst [.str q, cel b])) s (.lst (fr.map (fun f => cel f.a) ++ [cel a]))) n k s ns (N + 1) (fr ++ [⟨a, b, q, []⟩]) := by
  have hab : a ≠ b := fun e => by rw [e, put_same] at ha; cases ha
  have ha' : S a = none := by rw [put_ne hab] at ha; exact ha
  have no : ∀ x, S x = none → x ∉ s :: flat fr := fun x hx h => by
    obtain ⟨c, hc⟩ := o.sk.has x h
    rw [hx] at hc
    cases hc
  have na := no a ha'
  have nb := no b hb
  have sa : s ≠ a := fun e => na (e ▸ List.mem_cons_self)
  have sb : s ≠ b := fun e => nb (e ▸ List.mem_cons_self)
  have f0 : ∀ x, S x = none → S0 x = none := fun x hx => by
    cases e : S0 x with
    | none => rfl
    | some c =>
      exfalso
      obtain ⟨cs, bb, h1, h2, _⟩ := o.mv.D.ex
      by_cases e1 : x = n
      · rw [e1, h1] at hx; cases hx
      · by_cases e2 : x = k
        · rw [e2, h2] at hx; cases hx
        · rw [o.mv.kp x c e e1 e2] at hx
          cases hx
  have ef2 : flat (fr ++ [⟨a, b, q, []⟩]) = flat fr ++ [a, b] := by rw [flat_app]; rfl
  have xs : ∀ x ∈ flat fr, x ≠ s ∧ x ≠ a ∧ x ≠ b := fun x hx => ⟨fun e => (List.nodup_cons.mp o.sk.nd).1 (e ▸ hx), fun e => na (List.mem_cons_of_mem _ (e ▸ hx)), fun e => nb (List.mem_cons_of_mem _ (e ▸ hx))⟩
  refine ⟨((o.mv.put D0 (f0 b hb)).put D0 (f0 a ha')).put D0 (o.fresh s List.mem_cons_self), ⟨?_, fun f hf => ?_, ?_⟩, fun j hj => ?_, fun f hf => ?_, fun f hf => ?_, ?_, by simp⟩
  · rw [put_same, List.map_append]
    rfl
  · rcases List.mem_append.mp hf with hf | hf
    · have h1 := o.sk.one f hf
      obtain ⟨a1, a2, a3⟩ := xs _ (mem_a hf)
      obtain ⟨b1, b2, b3⟩ := xs _ (mem_b hf)
      rw [put_ne a1, put_ne a2, put_ne a3, put_ne b1, put_ne b2, put_ne b3]
      exact h1
    · rw [List.mem_singleton] at hf
      subst hf
      refine ⟨?_, ?_⟩
      · show put (put (put S b _) a _) s _ a = _
        rw [put_ne (Ne.symm sa), put_same]
      · show put (put (put S b _) a _) s _ b = _
        rw [put_ne (Ne.symm sb), put_ne (Ne.symm hab), put_same]
        rfl
  · show (s :: flat _).Nodup
    rw [ef2, ← List.cons_append]
    refine List.nodup_append.mpr ⟨o.sk.nd, by simp [hab], fun x hx y hy e => ?_⟩
    subst e
    simp at hy
    rcases hy with rfl | rfl
    · exact na hx
    · exact nb hx
  · rw [ef2, ← List.cons_append] at hj
    rcases List.mem_append.mp hj with h | h
    · exact o.fresh j h
    · simp at h
      rcases h with rfl | rfl
      · exact f0 _ ha'
      · exact f0 _ hb
  · rcases List.mem_append.mp hf with hf | hf
    · exact o.good f hf
    · rw [List.mem_singleton] at hf
      subst hf
      exact ⟨trivial, trivial⟩
  · cases fr with
    | nil => exact absurd rfl o.ne
    | cons x r =>
      have hf' : f ∈ r ++ [⟨a, b, q, []⟩] := hf
      rcases List.mem_append.mp hf' with hf | hf
      · exact o.nms f hf
      · rw [List.mem_singleton] at hf
        subst hf
        exact hq
  · have tt := o.tot
    rw [List.map_append, List.sum_append]
    have e : trC ([] : List Tr) = 0 := rfl
    simp only [List.map_cons, List.map_nil, List.sum_cons, List.sum_nil]
    omega
end
theorem two_last {α : Type} : ∀ {l : List α}, 2 ≤ l.length → ∃ p g h, l = p ++ [g, h]
  | [], h => by simp at h
  | [_], h => by simp at h
  | [a, b], _ => ⟨[], a, b, rfl⟩
  | a :: b :: c :: r, _ => by
    obtain ⟨p, g, h, e⟩ := two_last (l := b :: c :: r) (by simp)
    exact ⟨a :: p, g, h, by rw [e]; rfl⟩
theorem one_last {α : Type} : ∀ {l : List α}, l ≠ [] → ∃ p g, l = p ++ [g]
  | [], h => absurd rfl h
  | [a], _ => ⟨[], a, rfl⟩
  | a :: b :: r, _ => by
    obtain ⟨p, g, e⟩ := one_last (l := b :: r) (by simp)
    exact ⟨a :: p, g, by rw [e]; rfl⟩
theorem Fo.len {S0 S : Sto} {n k s : Nat} {ns : List Str} {N : Nat} {fr : List Fm} (o : Fo S0 S n k s ns N fr) : fr.length ≤ N + 1 := Nat.le_trans (sum_len fr) o.tot
theorem Fo.its {S0 S : Sto} {n k s : Nat} {ns : List Str} {N : Nat} {fr : List Fm} (o : Fo S0 S n k s ns N fr) {f : Fm} (h : f ∈ fr) : trC f.ts ≤ N := by
  have := sum_mem h
  have := o.tot
  omega
theorem Fo.base {S : Sto} {n k a b s : Nat} {ns : List Str} (D : DealD S n k) (hb : S b = none) (ha : put S b (.lst []) a = none) (hs : put (put S b (.lst [])) a (.lst [.str (Str.ofString ""), cel b]) s = none) :
    Fo S (put (put (put S b (.lst [])) a (.lst [.str (Str.ofString ""), cel b])) s (.lst [cel a])) n k s ns 0 [⟨a, b, Str.ofString "", []⟩] := by
  have hab : a ≠ b := fun e => by rw [e, put_same] at ha; cases ha
  have ha' : S a = none := by rw [put_ne hab] at ha; exact ha
  have hsa : s ≠ a := fun e => by rw [e, put_same] at hs; cases hs
  have hsb : s ≠ b := fun e => by rw [e, put_ne (Ne.symm hab), put_same] at hs; cases hs
  have hs' : S s = none := by rw [put_ne hsa, put_ne hsb] at hs; exact hs
  refine ⟨(((MvD.refl D).put D hb).put D ha').put D hs', ⟨put_same, fun f hf => ?_, ?_⟩, fun j hj => ?_, fun f hf => ?_, fun f hf => ?_, Nat.le_refl _, by simp⟩
  · rw [List.mem_singleton] at hf
    subst hf
    refine ⟨?_, ?_⟩
    · show put (put (put S b _) a _) s _ a = _
      rw [put_ne (Ne.symm hsa), put_same]
    · show put (put (put S b _) a _) s _ b = _
      rw [put_ne (Ne.symm hsb), put_ne (Ne.symm hab), put_same]
      rfl
  · show [s, a, b].Nodup
    simp [hsa, hsb, hab]
  · have hj' : j ∈ [s, a, b] := hj
    simp at hj'
    rcases hj' with rfl | rfl | rfl
    · exact hs'
    · exact ha'
    · exact hb
  · rw [List.mem_singleton] at hf
    subst hf
    exact ⟨trivial, trivial⟩
  · cases hf
def spFor : SpD := fun ds S Q _ => ∃ (n k : Nat) (ns : List Str) (most : Nat), ds = [cel n, .list (ns.map PyData.str), .int (most : Nat)] ∧ DealD S n k ∧ ns ≠ [] ∧ ns.length ≤ 1000 ∧ (∀ z ∈ ns, okZ z) ∧ most ≤ 20 ∧
  ∀ ts S', trN ns ts → trF ts → trC ts ≤ most → MvD n k S S' → Q (.tuple (trD ts)) S'
structure FoTxt (K : PySem.W.Frag) (mg : Str → Option Value) (a_law_any a_law_of a_law_text a_law_shut a_law_forest : Addr) : Prop where
  n_range : mg "range" = none
  n_len : mg "len" = none
  n_tuple : mg "tuple" = none
  g_law_any : mg "_law_any" = some (.ref a_law_any)
  k_law_any : PySem.W.keepIn K (.ref a_law_any) = true
  g_law_of : mg "_law_of" = some (.ref a_law_of)
  k_law_of : PySem.W.keepIn K (.ref a_law_of) = true
  g_law_text : mg "_law_text" = some (.ref a_law_text)
  k_law_text : PySem.W.keepIn K (.ref a_law_text) = true
  g_law_shut : mg "_law_shut" = some (.ref a_law_shut)
  k_law_shut : PySem.W.keepIn K (.ref a_law_shut) = true
  g_law_forest : mg "_law_forest" = some (.ref a_law_forest)
  k_law_forest : PySem.W.keepIn K (.ref a_law_forest) = true
section
variable {P : Program} {w : World} {K : PySem.W.Frag} {mg : Str → Option Value} {base : Heap} {a_law_any a_law_of a_law_text a_law_shut a_law_forest : Addr} {d1 d2 d3 d4 d5 : FuncData}
theorem ok_lFor {f : Addr} {fd : FuncData} (F : Fun K "_law_forest" "_law_forest" sLFor f fd) (T : FoTxt K mg a_law_any a_law_of a_law_text a_law_shut a_law_forest)
    (G_law_any : FnOk P w K mg base CX0 1 a_law_any d1 ["draws", "bound"] (spD K spAnyD)) (b_law_any : Binds K d1 ["draws", "bound"] []) (G_law_of : FnOk P w K mg base CX0 2 a_law_of d2 ["draws", "some"] (spD K spOfD)) (b_law_of : Binds K d2 ["draws", "some"] [])
    (G_law_text : FnOk P w K mg base CX0 3 a_law_text d3 ["draws"] (spD K spTx)) (b_law_text : Binds K d3 ["draws"] []) (G_law_shut : FnOk P w K mg base CX0 1 a_law_shut d4 ["stack"] (spD K spShut)) (b_law_shut : Binds K d4 ["stack"] []) : FnOk P w K mg base CX0 4 f fd ["draws", "names", "most"] (spD K spFor) := by
  refine dok F scLFor (fun ds S Q E h => ?_) fun cdv A outer s H Q E (hr : Room 3 _) => ⟨_, (qss_cons (qs_set (i := 3) scLFor.nd rfl (Or.inl rfl) (q_cel (q_cons (q_cel (q_cons q_str (q_cons (q_cel q_nil) q_nil))) q_nil)))
      (qss_cons (qs_for PassesOwn.never rfl (qi_range1 T.n_range (by rfl) (q_cons (q_call hr G_law_any T.g_law_any T.k_law_any b_law_any (by rfl) (by decide) (q_cons (q_var (pv 0)) (q_cons (q_add (q_var (pv 2)) q_int) q_nil))) q_nil)) (qg_name (pg_name (i := 4) scLFor.nd rfl (Or.inl rfl)))
      (qss_cons (qs_for PassesOwn.never rfl (qi_range1 T.n_range (by rfl) (q_cons (q_call hr G_law_of T.g_law_of T.k_law_of b_law_of (by rfl) (by decide) (q_cons (q_var (pv 0)) (q_cons (q_lst (q_cons q_int (q_cons q_int (q_cons q_int (q_cons q_int (q_cons q_int q_nil)))))) q_nil))) q_nil)) (qg_name (pg_name (i := 5) scLFor.nd rfl (Or.inl rfl)))
      (qss_one (qs_if (qt_cmp op_gt snd_lt (q_len T.n_len (by rfl) (q_cons (q_var (pv 3)) q_nil)) q_int (nomark _))
      (qss_one (qs_expr (q_call hr G_law_shut T.g_law_shut T.k_law_shut b_law_shut (by rfl) (by decide) (q_cons (q_var (pv 3)) q_nil))))
      qss_nil)))
      (qss_one (qs_if (qt_cmp (op_eqA (u64 hr)) snd_eq (q_call hr G_law_any T.g_law_any T.k_law_any b_law_any (by rfl) (by decide) (q_cons (q_var (pv 0)) (q_cons q_int q_nil))) q_int (nomark _))
      (qss_one (qs_expr (q_append (q_at (q_at (q_var (pv 3)) (q_neg q_int) (fun _ _ => rfl)) q_int (fun _ _ => rfl)) (q_cons (q_call hr G_law_text T.g_law_text T.k_law_text b_law_text (by rfl) (by decide) (q_cons (q_var (pv 0)) q_nil)) q_nil))))
      (qss_one (qs_expr (q_append (q_var (pv 3)) (q_cons (q_cel (q_cons (q_call hr G_law_of T.g_law_of T.k_law_of b_law_of (by rfl) (by decide) (q_cons (q_var (pv 0)) (q_cons (q_var (pv 1)) q_nil))) (q_cons (q_cel q_nil) q_nil))) q_nil))))))))
      (qss_cons (qs_for PassesOwn.never rfl (qi_range1 T.n_range (by rfl) (q_cons (q_var (pv 2)) q_nil)) (qg_name (pg_name (i := 4) scLFor.nd rfl (Or.inl rfl)))
      (qss_one (qs_if (qt_cmp op_gt snd_lt (q_len T.n_len (by rfl) (q_cons (q_var (pv 3)) q_nil)) q_int (nomark _))
      (qss_one (qs_expr (q_call hr G_law_shut T.g_law_shut T.k_law_shut b_law_shut (by rfl) (by decide) (q_cons (q_var (pv 3)) q_nil))))
      qss_nil)))
      (qss_one (qs_ret (q_tuple T.n_tuple (by rfl) (q_cons (q_at (q_at (q_var (pv 3)) q_int (fun _ _ => rfl)) q_int (fun _ _ => rfl)) q_nil))))))), fun ds S Qd Ed h => ?_⟩
  · obtain ⟨n, k, ns, most, rfl, _⟩ := h
    rfl
  · obtain ⟨n, k, ns, most, rfl, D, hn, hl, hz, hm, q⟩ := h
    (dsimp only [dDelT, mPop0, mPop, mApp, mExt, dFld, dNew, dDGet, dDIn, dZipT, dAll, dTupF, dIdx, dTupRg, dDc, dReprT, dEqT, dNeT, dFor, dLc, dWhile, dRange1, dRange2, dRange3, dEnumT, e_isB, e_tupD, dgUnl, dSeq, dIfS, dSet, dAsg, dRet, dRetN, dDrop, dNext, dPar, dVar, dC, dOp, dB, dTru, dtNot, dtAnd, dtOr, dAnd, dOr, dNot, dIfE, dNeg, dNil, dCons, dTup, dLst, dCel, dNoP, dPart, dSlice, dRevT, dRevL, dCall, on1, dTupOf, dLstOf, dCelOf, dIsi, dName, dgNil, dgCons, dgTup, dFn, dMet, dMet0, gt, st, startD, wh_some, dYes, dEq, dNe, List.map, List.length, List.replicate, List.append, List.cons_append, List.nil_append, dWalk, uns, un, tupNms, dNms, ifT, ifF, List.replicate_succ, List.replicate_zero, Nat.sub_self, Nat.reduceSub, Nat.reduceAdd, Nat.zero_add, Bool.not_true, Bool.not_false, e_addI, e_addS, e_addT, e_addL, e_i2, e_i2c, e_is, e_bool, e_cel, e_strD, e_lenS, e_lenT, e_lenL, e_lenC, e_ixS, e_ixT, e_ixL, e_ixC, e_slS, e_slT, e_slL, e_slC, e_itT, e_itL, e_truN, e_truI, e_truB, e_truL, e_truT, e_okN, e_okB, e_okI, e_okS, e_okL, e_okT, e_okC, e_tupN, e_tupB, e_tupI, e_tupS, e_tupL, e_tupT, e_tupC, e_strN, e_strB, e_strI, e_strS, e_strL, e_strT, e_strC, e_intN, e_intB, e_intI, e_intS, e_intL, e_intT, e_intC, e_boolN, e_boolB, e_boolI, e_boolS, e_boolL, e_boolT, e_boolC, e_lstN, e_lstB, e_lstI, e_lstS, e_lstL, e_lstT, e_lstC, e_nonN, e_nonB, e_nonI, e_nonS, e_nonL, e_nonT, e_wkS, e_wkL, e_wkT, e_wkC, e_join, e_inS, e_ninS, e_ofI, e_ofB, e_abs, e_lenF, e_ixF, e_itF, e_wkF, e_tfF, e_truF, e_repT, e_keyI, e_keyS]; try simp only [true_and, and_true, Nat.reduceLeDiff, reduceIte, reduceCtorEq, Bool.false_eq_true, if_true, if_false, not_false_eq_true, ite_true, ite_false, and_self])
    intro b hb a ha s hs
    have o1 := Fo.base (ns := ns) D hb ha hs
    refine ⟨n, k, _, rfl, o1.mv.D, by omega, by omega, fun r S2 r0 r1 mv2 => ?_⟩
    have o2 := o1.draw D mv2
    dsimp only
    refine ⟨⟨by omega, by omega⟩, fun i ρ S' => i ≤ r.toNat ∧ ∃ fr x y, ρ = [some (cel n), some (.list (ns.map PyData.str)), some (.int (most : Nat)), some (cel s), x, y] ∧ Fo S S' n k s ns i fr, ⟨Nat.zero_le _, _, none, none, rfl, o2⟩, fun _ _ _ _ => trivial, ?_, ?_⟩
    · rintro i d ρ S3 hd ⟨hi, fr, x, y, rfl, o⟩
      obtain ⟨li, rfl⟩ := rangeD_at hd
      (dsimp only [dDelT, mPop0, mPop, mApp, mExt, dFld, dNew, dDGet, dDIn, dZipT, dAll, dTupF, dIdx, dTupRg, dDc, dReprT, dEqT, dNeT, dFor, dLc, dWhile, dRange1, dRange2, dRange3, dEnumT, e_isB, e_tupD, dgUnl, dSeq, dIfS, dSet, dAsg, dRet, dRetN, dDrop, dNext, dPar, dVar, dC, dOp, dB, dTru, dtNot, dtAnd, dtOr, dAnd, dOr, dNot, dIfE, dNeg, dNil, dCons, dTup, dLst, dCel, dNoP, dPart, dSlice, dRevT, dRevL, dCall, on1, dTupOf, dLstOf, dCelOf, dIsi, dName, dgNil, dgCons, dgTup, dFn, dMet, dMet0, gt, st, startD, wh_some, dYes, dEq, dNe, List.map, List.length, List.replicate, List.append, List.cons_append, List.nil_append, dWalk, uns, un, tupNms, dNms, ifT, ifF, List.replicate_succ, List.replicate_zero, Nat.sub_self, Nat.reduceSub, Nat.reduceAdd, Nat.zero_add, Bool.not_true, Bool.not_false, e_addI, e_addS, e_addT, e_addL, e_i2, e_i2c, e_is, e_bool, e_cel, e_strD, e_lenS, e_lenT, e_lenL, e_lenC, e_ixS, e_ixT, e_ixL, e_ixC, e_slS, e_slT, e_slL, e_slC, e_itT, e_itL, e_truN, e_truI, e_truB, e_truL, e_truT, e_okN, e_okB, e_okI, e_okS, e_okL, e_okT, e_okC, e_tupN, e_tupB, e_tupI, e_tupS, e_tupL, e_tupT, e_tupC, e_strN, e_strB, e_strI, e_strS, e_strL, e_strT, e_strC, e_intN, e_intB, e_intI, e_intS, e_intL, e_intT, e_intC, e_boolN, e_boolB, e_boolI, e_boolS, e_boolL, e_boolT, e_boolC, e_lstN, e_lstB, e_lstI, e_lstS, e_lstL, e_lstT, e_lstC, e_nonN, e_nonB, e_nonI, e_nonS, e_nonL, e_nonT, e_wkS, e_wkL, e_wkT, e_wkC, e_join, e_inS, e_ninS, e_ofI, e_ofB, e_abs, e_lenF, e_ixF, e_itF, e_wkF, e_tfF, e_truF, e_repT, e_keyI, e_keyS]; try simp only [true_and, and_true, Nat.reduceLeDiff, reduceIte, reduceCtorEq, Bool.false_eq_true, if_true, if_false, not_false_eq_true, ite_true, ite_false, and_self])
      refine ⟨n, k, _, rfl, o.mv.D, .inl ⟨_, rfl, by decide, by decide, fun d2 S4 hd2 mv4 => ?_⟩⟩
      obtain ⟨j, rfl, j0, j1⟩ : ∃ j : Int, d2 = .int j ∧ 0 ≤ j ∧ j ≤ 2 := by
        simp only [List.mem_cons, List.not_mem_nil, or_false] at hd2
        rcases hd2 with rfl | rfl | rfl | rfl | rfl <;> exact ⟨_, rfl, by decide, by decide⟩
      dsimp only
      refine ⟨⟨by omega, by omega⟩, fun i' ρ S' => ∃ fr y, ρ = [some (cel n), some (.list (ns.map PyData.str)), some (.int (most : Nat)), some (cel s), some (.int (0 + (i : Nat) * 1)), y] ∧ Fo S S' n k s ns i fr, ⟨fr, y, rfl, o.draw D mv4⟩, fun _ _ _ _ => trivial, ?_, ?_⟩
      · rintro i' d3 ρ S5 hd3 ⟨fr, y, rfl, o⟩
        (dsimp only [dDelT, mPop0, mPop, mApp, mExt, dFld, dNew, dDGet, dDIn, dZipT, dAll, dTupF, dIdx, dTupRg, dDc, dReprT, dEqT, dNeT, dFor, dLc, dWhile, dRange1, dRange2, dRange3, dEnumT, e_isB, e_tupD, dgUnl, dSeq, dIfS, dSet, dAsg, dRet, dRetN, dDrop, dNext, dPar, dVar, dC, dOp, dB, dTru, dtNot, dtAnd, dtOr, dAnd, dOr, dNot, dIfE, dNeg, dNil, dCons, dTup, dLst, dCel, dNoP, dPart, dSlice, dRevT, dRevL, dCall, on1, dTupOf, dLstOf, dCelOf, dIsi, dName, dgNil, dgCons, dgTup, dFn, dMet, dMet0, gt, st, startD, wh_some, dYes, dEq, dNe, List.map, List.length, List.replicate, List.append, List.cons_append, List.nil_append, dWalk, uns, un, tupNms, dNms, ifT, ifF, List.replicate_succ, List.replicate_zero, Nat.sub_self, Nat.reduceSub, Nat.reduceAdd, Nat.zero_add, Bool.not_true, Bool.not_false, e_addI, e_addS, e_addT, e_addL, e_i2, e_i2c, e_is, e_bool, e_cel, e_strD, e_lenS, e_lenT, e_lenL, e_lenC, e_ixS, e_ixT, e_ixL, e_ixC, e_slS, e_slT, e_slL, e_slC, e_itT, e_itL, e_truN, e_truI, e_truB, e_truL, e_truT, e_okN, e_okB, e_okI, e_okS, e_okL, e_okT, e_okC, e_tupN, e_tupB, e_tupI, e_tupS, e_tupL, e_tupT, e_tupC, e_strN, e_strB, e_strI, e_strS, e_strL, e_strT, e_strC, e_intN, e_intB, e_intI, e_intS, e_intL, e_intT, e_intC, e_boolN, e_boolB, e_boolI, e_boolS, e_boolL, e_boolT, e_boolC, e_lstN, e_lstB, e_lstI, e_lstS, e_lstL, e_lstT, e_lstC, e_nonN, e_nonB, e_nonI, e_nonS, e_nonL, e_nonT, e_wkS, e_wkL, e_wkT, e_wkC, e_join, e_inS, e_ninS, e_ofI, e_ofB, e_abs, e_lenF, e_ixF, e_itF, e_wkF, e_tfF, e_truF, e_repT, e_keyI, e_keyS]; try simp only [true_and, and_true, Nat.reduceLeDiff, reduceIte, reduceCtorEq, Bool.false_eq_true, if_true, if_false, not_false_eq_true, ite_true, ite_false, and_self])
        refine wh_mk (items_cel o.sk.top) ?_
        have ol := o.len
        by_cases l2 : 2 ≤ fr.length
        · obtain ⟨p, g, h, rfl⟩ := two_last l2
          rw [decide_eq_true (by rw [List.length_map]; omega)]
          have og := o.its (f := g) (by simp)
          have := trC_len g.ts
          rw [List.length_append] at ol
          exact ifT ▸ ⟨s, p, g, h, rfl, o.sk, by omega, by omega, _, _, rfl, o.shut D⟩
        · rw [decide_eq_false (by rw [List.length_map]; omega)]
          exact ifF ▸ ⟨_, _, rfl, o⟩
      · rintro ρ S5 ⟨fr, y, rfl, o⟩
        (dsimp only [dDelT, mPop0, mPop, mApp, mExt, dFld, dNew, dDGet, dDIn, dZipT, dAll, dTupF, dIdx, dTupRg, dDc, dReprT, dEqT, dNeT, dFor, dLc, dWhile, dRange1, dRange2, dRange3, dEnumT, e_isB, e_tupD, dgUnl, dSeq, dIfS, dSet, dAsg, dRet, dRetN, dDrop, dNext, dPar, dVar, dC, dOp, dB, dTru, dtNot, dtAnd, dtOr, dAnd, dOr, dNot, dIfE, dNeg, dNil, dCons, dTup, dLst, dCel, dNoP, dPart, dSlice, dRevT, dRevL, dCall, on1, dTupOf, dLstOf, dCelOf, dIsi, dName, dgNil, dgCons, dgTup, dFn, dMet, dMet0, gt, st, startD, wh_some, dYes, dEq, dNe, List.map, List.length, List.replicate, List.append, List.cons_append, List.nil_append, dWalk, uns, un, tupNms, dNms, ifT, ifF, List.replicate_succ, List.replicate_zero, Nat.sub_self, Nat.reduceSub, Nat.reduceAdd, Nat.zero_add, Bool.not_true, Bool.not_false, e_addI, e_addS, e_addT, e_addL, e_i2, e_i2c, e_is, e_bool, e_cel, e_strD, e_lenS, e_lenT, e_lenL, e_lenC, e_ixS, e_ixT, e_ixL, e_ixC, e_slS, e_slT, e_slL, e_slC, e_itT, e_itL, e_truN, e_truI, e_truB, e_truL, e_truT, e_okN, e_okB, e_okI, e_okS, e_okL, e_okT, e_okC, e_tupN, e_tupB, e_tupI, e_tupS, e_tupL, e_tupT, e_tupC, e_strN, e_strB, e_strI, e_strS, e_strL, e_strT, e_strC, e_intN, e_intB, e_intI, e_intS, e_intL, e_intT, e_intC, e_boolN, e_boolB, e_boolI, e_boolS, e_boolL, e_boolT, e_boolC, e_lstN, e_lstB, e_lstI, e_lstS, e_lstL, e_lstT, e_lstC, e_nonN, e_nonB, e_nonI, e_nonS, e_nonL, e_nonT, e_wkS, e_wkL, e_wkT, e_wkC, e_join, e_inS, e_ninS, e_ofI, e_ofB, e_abs, e_lenF, e_ixF, e_itF, e_wkF, e_tfF, e_truF, e_repT, e_keyI, e_keyS]; try simp only [true_and, and_true, Nat.reduceLeDiff, reduceIte, reduceCtorEq, Bool.false_eq_true, if_true, if_false, not_false_eq_true, ite_true, ite_false, and_self])
        refine ⟨n, k, _, rfl, o.mv.D, by decide, by decide, fun r2 S6 _ _ mv6 => ?_⟩
        have o6 := o.draw D mv6
        refine ⟨.inl ⟨rfl, rfl, nofun, nofun⟩, ?_⟩
        cases he : PyData.eqv (.int r2) (.int 0) with
        | true =>
          rw [ifT]
          obtain ⟨p, g, rfl⟩ := one_last o6.ne
          have hg := o6.sk.one g (by simp)
          have gl := o6.its (f := g) (by simp)
          have := trC_len g.ts
          refine wh_mk (items_cel o6.sk.top) (wh_mk (a := cel g.a) (by rw [List.map_append]; exact atI_last _ _) ?_)
          rw [e_ixC]
          refine wh_mk (items_cel hg.1) (wh_mk (a := cel g.b) rfl (wh_mk rfl ⟨⟨_, hg.2⟩, n, k, rfl, o6.mv.D, fun z S7 hz' mv7 => ?_⟩))
          have o7 := o6.draw D mv7
          have e7 : trD (g.ts ++ [.txt z]) = trD g.ts ++ [.str z] := by
            rw [trD_map, trD_map, List.map_append]
            rfl
          have o8 := o7.text (t := .txt z) D trivial hz' rfl
          rw [e7] at o8
          exact wh_mk (lstC_of (o7.sk.one g (by simp)).2) ⟨by rw [trD_map, List.length_map]; omega, by omega, _, _, _, rfl, o8⟩
        | false =>
          rw [ifF]
          refine ⟨⟨_, o6.sk.top⟩, n, k, _, rfl, o6.mv.D, .inl ⟨_, rfl, ?_, by rw [List.length_map]; omega, fun d S7 hd' mv7 => ?_⟩⟩
          · rw [List.length_map]
            exact List.length_pos_iff.mpr hn
          obtain ⟨q0, hq0, rfl⟩ := List.mem_map.mp hd'
          have o7 := o6.draw D mv7
          intro nb hnb na hna
          have sb : s ≠ nb := fun e => by rw [← e, o7.sk.top] at hnb; cases hnb
          have hab : na ≠ nb := fun e => by rw [e, put_same] at hna; cases hna
          have sa : s ≠ na := fun e => by rw [← e, put_ne sb, o7.sk.top] at hna; cases hna
          have ol := o7.len
          exact wh_mk (lstC_of (by rw [put_ne sa, put_ne sb]; exact o7.sk.top)) ⟨by rw [List.length_map]; omega, by omega, _, _, _, rfl, o7.push D ⟨hq0, hz q0 hq0⟩ hnb hna (by omega)⟩
    · rintro ρ S3 ⟨_, fr, x, y, rfl, o⟩
      rw [rangeD_len] at o
      (dsimp only [dDelT, mPop0, mPop, mApp, mExt, dFld, dNew, dDGet, dDIn, dZipT, dAll, dTupF, dIdx, dTupRg, dDc, dReprT, dEqT, dNeT, dFor, dLc, dWhile, dRange1, dRange2, dRange3, dEnumT, e_isB, e_tupD, dgUnl, dSeq, dIfS, dSet, dAsg, dRet, dRetN, dDrop, dNext, dPar, dVar, dC, dOp, dB, dTru, dtNot, dtAnd, dtOr, dAnd, dOr, dNot, dIfE, dNeg, dNil, dCons, dTup, dLst, dCel, dNoP, dPart, dSlice, dRevT, dRevL, dCall, on1, dTupOf, dLstOf, dCelOf, dIsi, dName, dgNil, dgCons, dgTup, dFn, dMet, dMet0, gt, st, startD, wh_some, dYes, dEq, dNe, List.map, List.length, List.replicate, List.append, List.cons_append, List.nil_append, dWalk, uns, un, tupNms, dNms, ifT, ifF, List.replicate_succ, List.replicate_zero, Nat.sub_self, Nat.reduceSub, Nat.reduceAdd, Nat.zero_add, Bool.not_true, Bool.not_false, e_addI, e_addS, e_addT, e_addL, e_i2, e_i2c, e_is, e_bool, e_cel, e_strD, e_lenS, e_lenT, e_lenL, e_lenC, e_ixS, e_ixT, e_ixL, e_ixC, e_slS, e_slT, e_slL, e_slC, e_itT, e_itL, e_truN, e_truI, e_truB, e_truL, e_truT, e_okN, e_okB, e_okI, e_okS, e_okL, e_okT, e_okC, e_tupN, e_tupB, e_tupI, e_tupS, e_tupL, e_tupT, e_tupC, e_strN, e_strB, e_strI, e_strS, e_strL, e_strT, e_strC, e_intN, e_intB, e_intI, e_intS, e_intL, e_intT, e_intC, e_boolN, e_boolB, e_boolI, e_boolS, e_boolL, e_boolT, e_boolC, e_lstN, e_lstB, e_lstI, e_lstS, e_lstL, e_lstT, e_lstC, e_nonN, e_nonB, e_nonI, e_nonS, e_nonL, e_nonT, e_wkS, e_wkL, e_wkT, e_wkC, e_join, e_inS, e_ninS, e_ofI, e_ofB, e_abs, e_lenF, e_ixF, e_itF, e_wkF, e_tfF, e_truF, e_repT, e_keyI, e_keyS]; try simp only [true_and, and_true, Nat.reduceLeDiff, reduceIte, reduceCtorEq, Bool.false_eq_true, if_true, if_false, not_false_eq_true, ite_true, ite_false, and_self])
      refine ⟨small_nat (by omega), fun i ρ S' => ∃ fr x, ρ = [some (cel n), some (.list (ns.map PyData.str)), some (.int (most : Nat)), some (cel s), x, y] ∧ Fo S S' n k s ns r.toNat fr ∧ fr.length ≤ max 1 (r.toNat + 1 - i), ⟨fr, x, rfl, o, ?_⟩, fun _ _ _ _ => trivial, ?_, ?_⟩
      · have := o.len
        omega
      · rintro i d ρ S4 hd ⟨fr, x, rfl, o, lf⟩
        (dsimp only [dDelT, mPop0, mPop, mApp, mExt, dFld, dNew, dDGet, dDIn, dZipT, dAll, dTupF, dIdx, dTupRg, dDc, dReprT, dEqT, dNeT, dFor, dLc, dWhile, dRange1, dRange2, dRange3, dEnumT, e_isB, e_tupD, dgUnl, dSeq, dIfS, dSet, dAsg, dRet, dRetN, dDrop, dNext, dPar, dVar, dC, dOp, dB, dTru, dtNot, dtAnd, dtOr, dAnd, dOr, dNot, dIfE, dNeg, dNil, dCons, dTup, dLst, dCel, dNoP, dPart, dSlice, dRevT, dRevL, dCall, on1, dTupOf, dLstOf, dCelOf, dIsi, dName, dgNil, dgCons, dgTup, dFn, dMet, dMet0, gt, st, startD, wh_some, dYes, dEq, dNe, List.map, List.length, List.replicate, List.append, List.cons_append, List.nil_append, dWalk, uns, un, tupNms, dNms, ifT, ifF, List.replicate_succ, List.replicate_zero, Nat.sub_self, Nat.reduceSub, Nat.reduceAdd, Nat.zero_add, Bool.not_true, Bool.not_false, e_addI, e_addS, e_addT, e_addL, e_i2, e_i2c, e_is, e_bool, e_cel, e_strD, e_lenS, e_lenT, e_lenL, e_lenC, e_ixS, e_ixT, e_ixL, e_ixC, e_slS, e_slT, e_slL, e_slC, e_itT, e_itL, e_truN, e_truI, e_truB, e_truL, e_truT, e_okN, e_okB, e_okI, e_okS, e_okL, e_okT, e_okC, e_tupN, e_tupB, e_tupI, e_tupS, e_tupL, e_tupT, e_tupC, e_strN, e_strB, e_strI, e_strS, e_strL, e_strT, e_strC, e_intN, e_intB, e_intI, e_intS, e_intL, e_intT, e_intC, e_boolN, e_boolB, e_boolI, e_boolS, e_boolL, e_boolT, e_boolC, e_lstN, e_lstB, e_lstI, e_lstS, e_lstL, e_lstT, e_lstC, e_nonN, e_nonB, e_nonI, e_nonS, e_nonL, e_nonT, e_wkS, e_wkL, e_wkT, e_wkC, e_join, e_inS, e_ninS, e_ofI, e_ofB, e_abs, e_lenF, e_ixF, e_itF, e_wkF, e_tfF, e_truF, e_repT, e_keyI, e_keyS]; try simp only [true_and, and_true, Nat.reduceLeDiff, reduceIte, reduceCtorEq, Bool.false_eq_true, if_true, if_false, not_false_eq_true, ite_true, ite_false, and_self])
        refine wh_mk (items_cel o.sk.top) ?_
        have ol := o.len
        by_cases l2 : 2 ≤ fr.length
        · obtain ⟨p, g, h, rfl⟩ := two_last l2
          rw [decide_eq_true (by rw [List.length_map]; omega)]
          have og := o.its (f := g) (by simp)
          have := trC_len g.ts
          rw [List.length_append] at ol lf
          exact ifT ▸ ⟨s, p, g, h, rfl, o.sk, by omega, by omega, _, _, rfl, o.shut D, by rw [List.length_append]; simp at lf ⊢; omega⟩
        · rw [decide_eq_false (by rw [List.length_map]; omega)]
          exact ifF ▸ ⟨_, _, rfl, o, by omega⟩
      · rintro ρ S4 ⟨fr, x, rfl, o, lf⟩
        rw [rangeD_len] at lf
        have l1 : fr.length ≤ 1 := by omega
        obtain ⟨p, g, rfl⟩ := one_last o.ne
        have pe : p = [] := by
          rw [List.length_append] at l1
          have : [g].length = 1 := rfl
          exact List.eq_nil_of_length_eq_zero (by omega)
        subst pe
        have hg := o.sk.one g (by simp)
        have gl := o.its (f := g) (by simp)
        have gg := o.good g (by simp)
        (dsimp only [dDelT, mPop0, mPop, mApp, mExt, dFld, dNew, dDGet, dDIn, dZipT, dAll, dTupF, dIdx, dTupRg, dDc, dReprT, dEqT, dNeT, dFor, dLc, dWhile, dRange1, dRange2, dRange3, dEnumT, e_isB, e_tupD, dgUnl, dSeq, dIfS, dSet, dAsg, dRet, dRetN, dDrop, dNext, dPar, dVar, dC, dOp, dB, dTru, dtNot, dtAnd, dtOr, dAnd, dOr, dNot, dIfE, dNeg, dNil, dCons, dTup, dLst, dCel, dNoP, dPart, dSlice, dRevT, dRevL, dCall, on1, dTupOf, dLstOf, dCelOf, dIsi, dName, dgNil, dgCons, dgTup, dFn, dMet, dMet0, gt, st, startD, wh_some, dYes, dEq, dNe, List.map, List.length, List.replicate, List.append, List.cons_append, List.nil_append, dWalk, uns, un, tupNms, dNms, ifT, ifF, List.replicate_succ, List.replicate_zero, Nat.sub_self, Nat.reduceSub, Nat.reduceAdd, Nat.zero_add, Bool.not_true, Bool.not_false, e_addI, e_addS, e_addT, e_addL, e_i2, e_i2c, e_is, e_bool, e_cel, e_strD, e_lenS, e_lenT, e_lenL, e_lenC, e_ixS, e_ixT, e_ixL, e_ixC, e_slS, e_slT, e_slL, e_slC, e_itT, e_itL, e_truN, e_truI, e_truB, e_truL, e_truT, e_okN, e_okB, e_okI, e_okS, e_okL, e_okT, e_okC, e_tupN, e_tupB, e_tupI, e_tupS, e_tupL, e_tupT, e_tupC, e_strN, e_strB, e_strI, e_strS, e_strL, e_strT, e_strC, e_intN, e_intB, e_intI, e_intS, e_intL, e_intT, e_intC, e_boolN, e_boolB, e_boolI, e_boolS, e_boolL, e_boolT, e_boolC, e_lstN, e_lstB, e_lstI, e_lstS, e_lstL, e_lstT, e_lstC, e_nonN, e_nonB, e_nonI, e_nonS, e_nonL, e_nonT, e_wkS, e_wkL, e_wkT, e_wkC, e_join, e_inS, e_ninS, e_ofI, e_ofB, e_abs, e_lenF, e_ixF, e_itF, e_wkF, e_tfF, e_truF, e_repT, e_keyI, e_keyS]; try simp only [true_and, and_true, Nat.reduceLeDiff, reduceIte, reduceCtorEq, Bool.false_eq_true, if_true, if_false, not_false_eq_true, ite_true, ite_false, and_self])
        refine wh_mk (items_cel o.sk.top) (wh_mk (a := cel g.a) rfl ?_)
        rw [e_ixC]
        refine wh_mk (items_cel hg.1) (wh_mk (a := cel g.b) rfl ?_)
        try dsimp only
        exact wh_mk (items_cel hg.2) (q g.ts S4 gg.1 gg.2 (by omega) o.mv)
end
end K3

/-! of the law: one of a tuple, nodes, tables drawn -/
namespace K3
open PySem L2 Xr K1
abbrev sOfT : Stmt := top 22
theorem scOfT : FnScope ["draws", "some"] ["draws", "some"] (defScope sOfT) := ⟨rfl, rfl, rfl, by decide +kernel, rfl, by decide +kernel, by decide +kernel⟩
abbrev sDrawn : Stmt := top 28
theorem scDrawn : FnScope ["draws", "names", "most", "many", "some", "begins", "texts", "free", "steps", "state", "ends", "turn", "name", "child"] ["draws", "names", "most"] (defScope sDrawn) := ⟨rfl, rfl, rfl, by decide +kernel, rfl, by decide +kernel, by decide +kernel⟩
/-- numbers drawn one after the other -/
theorem lc_draw {items : List PyData} {te : PyData → Sto → DK → Prop} {Pn : Nat → Prop} {R : List PyData → Sto → Prop} {n k : Nat} {S0 S : Sto} (mv : MvD n k S0 S) (hl : items.length ≤ 1000)
    (step : ∀ d S' (Qy : DK), d ∈ items → MvD n k S0 S' → (∀ (x : Nat) S'', Pn x → MvD n k S0 S'' → Qy (.int (x : Nat)) S'') → te d S' Qy)
    (done : ∀ (l : List Nat) S', l.length = items.length → (∀ x ∈ l, Pn x) → MvD n k S0 S' → R (nats l) S') :
    ∃ W : Nat → List PyData → Sto → Prop, W 0 [] S ∧ (∀ i acc S, W i acc S → acc.length < 1000000) ∧ (∀ i d acc S, items[i]? = some d → W i acc S → te d S fun y S3 => W (i + 1) (acc ++ [y]) S3) ∧ ∀ acc S, W items.length acc S → R acc S := by
  refine ⟨fun i acc S' => i ≤ items.length ∧ MvD n k S0 S' ∧ ∃ l : List Nat, acc = nats l ∧ l.length = i ∧ ∀ x ∈ l, Pn x, ⟨Nat.zero_le _, mv, [], rfl, rfl, by simp⟩, ?_, ?_, ?_⟩
  · rintro i acc S' ⟨hi, _, l, rfl, e, _⟩
    rw [List.length_map]
    omega
  · rintro i d acc S' hd ⟨hi, mv', l, rfl, e, hp⟩
    have li := (List.getElem?_eq_some_iff.mp hd).1
    refine step d S' _ (List.mem_of_getElem? hd) mv' fun x S'' hx mv'' => ⟨li, mv'', l ++ [x], (nats_app l [x]).symm, by rw [List.length_append, e]; rfl, fun y hy => ?_⟩
    rcases List.mem_append.mp hy with h | h
    · exact hp y h
    · rw [List.mem_singleton] at h
      rw [h]
      exact hx
  · rintro acc S' ⟨_, mv', l, rfl, e, hp⟩
    exact done l S' e hp mv'
theorem any_nat {n k : Nat} {b : Int} {S0 S : Sto} {Qy : DK} {E : DX} (mv : MvD n k S0 S) (b0 : 0 < b) (b1 : b < 1073741824) (h : ∀ (x : Nat) S'', (x : Int) < b → MvD n k S0 S'' → Qy (.int (x : Nat)) S'') : spAnyD [cel n, .int b] S Qy E :=
  ⟨n, k, b, rfl, mv.D, b0, b1, fun r S1 r0 r1 m1 => by
    obtain ⟨i, rfl⟩ := Int.eq_ofNat_of_zero_le r0
    exact h i S1 r1 (mv.trans m1)⟩
theorem of_nat {n k : Nat} {l : List Nat} {S0 S : Sto} {Qy : DK} {E : DX} (mv : MvD n k S0 S) (l0 : l ≠ []) (l1 : l.length ≤ 1000) (h : ∀ (x : Nat) S'', x ∈ l → MvD n k S0 S'' → Qy (.int (x : Nat)) S'') : spOfD [cel n, .list (nats l)] S Qy E :=
  ⟨n, k, _, rfl, mv.D, .inl ⟨_, rfl, by rw [List.length_map]; exact List.length_pos_iff.mpr l0, by rw [List.length_map]; omega, fun d S1 hd m1 => by
    obtain ⟨x, hx, rfl⟩ := List.mem_map.mp hd
    exact h x S1 hx (mv.trans m1)⟩⟩
theorem MvD.non {n k : Nat} {S0 S : Sto} (mv : MvD n k S0 S) {j : Nat} (h : S j = none) : S0 j = none := by
  cases e : S0 j with
  | none => rfl
  | some c =>
    obtain ⟨e1, e2⟩ := mv.D.nk h
    rw [mv.kp j c e e1 e2] at h
    cases h
theorem lay_nats : ∀ l : List Nat, PyData.canLayAll0 (nats l) = true
  | [] => rfl
  | z :: zs => by
    show PyData.canLayAll0 (PyData.int (z : Nat) :: nats zs) = true
    rw [layAll_cons, lay_nats zs]
    unfold PyData.canLay0
    rfl
theorem dep_nats : ∀ l : List Nat, PyData.depthAll (nats l) ≤ 1
  | [] => by
    show PyData.depthAll [] ≤ 1
    unfold PyData.depthAll
    exact Nat.zero_le _
  | z :: zs => by
    have := dep_nats zs
    show PyData.depthAll (PyData.int (z : Nat) :: nats zs) ≤ 1
    unfold PyData.depthAll PyData.depth
    omega
theorem shaped_nats (l : List Nat) : SeqAt.shaped (.tuple (nats l)) = true := by
  unfold SeqAt.shaped
  rw [Bool.and_eq_true]
  refine ⟨by unfold PyData.canLay0; exact lay_nats l, decide_eq_true ?_⟩
  have := dep_nats l
  unfold PyData.depth
  omega
def spOfTD : SpD := fun ds S Q _ => ∃ (n k : Nat) (es : List PyData), ds = [cel n, .tuple es] ∧ DealD S n k ∧ es ≠ [] ∧ es.length ≤ 1000000 ∧ ∀ d S', d ∈ es → MvD n k S S' → Q d S'
def spNod : SpD := fun ds S Q _ => ∃ (n k : Nat) (ns : List Str) (most : Nat), ds = [cel n, .list (ns.map PyData.str), .int (most : Nat)] ∧ DealD S n k ∧ ns ≠ [] ∧ ns.length ≤ 1000 ∧ (∀ z ∈ ns, okZ z) ∧ most ≤ 20 ∧
  ∀ q ts S', (Tr.nod q ts).inN ns → (Tr.nod q ts).fit → trC ts ≤ most → MvD n k S S' → Q (Tr.nod q ts).dat S'
def spDrawn : SpD := fun ds S Q _ => ∃ (n k : Nat) (ns : List Str) (most : Nat), ds = [cel n, .list (ns.map PyData.str), .int (most : Nat)] ∧ DealD S n k ∧ ns ≠ [] ∧ ns.length ≤ 1000 ∧ (∀ z ∈ ns, okZ z) ∧ ns.Nodup ∧ 2 ≤ most ∧ most ≤ 20 ∧
  ∀ (T : Tb) S', T.ok → T.ns = ns → T.xs.length ≤ most → MvD n k S S' → Q T.pl S'
section
variable {P : Program} {w : World} {K : PySem.W.Frag} {mg : Str → Option Value} {base : Heap} {a_law_any a_law_of a_law_text a_law_shut a_law_forest : Addr} {d1 d2 d3 d4 d5 : FuncData}
theorem ok_ofT {f : Addr} {fd : FuncData} (F : Fun K "_law_of" "_law_of" sOfT f fd) (T : FoTxt K mg a_law_any a_law_of a_law_text a_law_shut a_law_forest) (G_law_any : FnOk P w K mg base CX0 1 a_law_any d1 ["draws", "bound"] (spD K spAnyD)) (b_law_any : Binds K d1 ["draws", "bound"] []) : FnOk P w K mg base CX0 2 f fd ["draws", "some"] (spD K spOfTD) := by
  refine dok F scOfT (fun ds S Q E h => ?_) fun cdv A outer s H Q E (hr : Room 1 _) => ⟨_, (qss_one (qs_ret (q_at (q_var (pv 1)) (q_call hr G_law_any T.g_law_any T.k_law_any b_law_any (by rfl) (by decide) (q_cons (q_var (pv 0)) (q_cons (q_len T.n_len (by rfl) (q_cons (q_var (pv 1)) q_nil)) q_nil))) (fun _ _ => rfl)))), fun ds S Qd Ed h => ?_⟩
  · obtain ⟨n, k, es, rfl, _⟩ := h
    rfl
  · obtain ⟨n, k, es, rfl, D, he, hl, q⟩ := h
    (dsimp only [dDelT, mPop0, mPop, mApp, mExt, dFld, dNew, dDGet, dDIn, dZipT, dAll, dTupF, dIdx, dTupRg, dDc, dReprT, dEqT, dNeT, dFor, dLc, dWhile, dRange1, dRange2, dRange3, dEnumT, e_isB, e_tupD, dgUnl, dSeq, dIfS, dSet, dAsg, dRet, dRetN, dDrop, dNext, dPar, dVar, dC, dOp, dB, dTru, dtNot, dtAnd, dtOr, dAnd, dOr, dNot, dIfE, dNeg, dNil, dCons, dTup, dLst, dCel, dNoP, dPart, dSlice, dRevT, dRevL, dCall, on1, dTupOf, dLstOf, dCelOf, dIsi, dName, dgNil, dgCons, dgTup, dFn, dMet, dMet0, gt, st, startD, wh_some, dYes, dEq, dNe, List.map, List.length, List.replicate, List.append, List.cons_append, List.nil_append, dWalk, uns, un, tupNms, dNms, ifT, ifF, List.replicate_succ, List.replicate_zero, Nat.sub_self, Nat.reduceSub, Nat.reduceAdd, Nat.zero_add, Bool.not_true, Bool.not_false, e_addI, e_addS, e_addT, e_addL, e_i2, e_i2c, e_is, e_bool, e_cel, e_strD, e_lenS, e_lenT, e_lenL, e_lenC, e_ixS, e_ixT, e_ixL, e_ixC, e_slS, e_slT, e_slL, e_slC, e_itT, e_itL, e_truN, e_truI, e_truB, e_truL, e_truT, e_okN, e_okB, e_okI, e_okS, e_okL, e_okT, e_okC, e_tupN, e_tupB, e_tupI, e_tupS, e_tupL, e_tupT, e_tupC, e_strN, e_strB, e_strI, e_strS, e_strL, e_strT, e_strC, e_intN, e_intB, e_intI, e_intS, e_intL, e_intT, e_intC, e_boolN, e_boolB, e_boolI, e_boolS, e_boolL, e_boolT, e_boolC, e_lstN, e_lstB, e_lstI, e_lstS, e_lstL, e_lstT, e_lstC, e_nonN, e_nonB, e_nonI, e_nonS, e_nonL, e_nonT, e_wkS, e_wkL, e_wkT, e_wkC, e_join, e_inS, e_ninS, e_ofI, e_ofB, e_abs, e_lenF, e_ixF, e_itF, e_wkF, e_tfF, e_truF, e_repT, e_keyI, e_keyS]; try simp only [true_and, and_true, Nat.reduceLeDiff, reduceIte, reduceCtorEq, Bool.false_eq_true, if_true, if_false, not_false_eq_true, ite_true, ite_false, and_self])
    have lp := List.length_pos_iff.mpr he
    refine ⟨n, k, _, rfl, D, by omega, by omega, fun r S1 r0 r1 mv => ?_⟩
    obtain ⟨i, rfl⟩ := Int.eq_ofNat_of_zero_le r0
    have li : i < es.length := by omega
    rw [e_ixT]
    exact wh_mk (atI_nat (List.getElem?_eq_getElem li)) (q _ S1 (List.getElem_mem li) mv)
theorem ok_lNode {f : Addr} {fd : FuncData} (F : Fun K "_law_node" "_law_node" sLNode f fd) (T : FoTxt K mg a_law_any a_law_of a_law_text a_law_shut a_law_forest) (G_law_of : FnOk P w K mg base CX0 2 a_law_of d2 ["draws", "some"] (spD K spOfD)) (b_law_of : Binds K d2 ["draws", "some"] [])
    (G_law_forest : FnOk P w K mg base CX0 4 a_law_forest d5 ["draws", "names", "most"] (spD K spFor)) (b_law_forest : Binds K d5 ["draws", "names", "most"] []) : FnOk P w K mg base CX0 5 f fd ["draws", "names", "most"] (spD K spNod) := by
  refine dok F scLNode (fun ds S Q E h => ?_) fun cdv A outer s H Q E (hr : Room 4 _) => ⟨_, (qss_one (qs_ret (q_tup (q_cons (q_call hr G_law_of T.g_law_of T.k_law_of b_law_of (by rfl) (by decide) (q_cons (q_var (pv 0)) (q_cons (q_var (pv 1)) q_nil))) (q_cons (q_call hr G_law_forest T.g_law_forest T.k_law_forest b_law_forest (by rfl) (by decide) (q_cons (q_var (pv 0)) (q_cons (q_var (pv 1)) (q_cons (q_var (pv 2)) q_nil)))) q_nil))))), fun ds S Qd Ed h => ?_⟩
  · obtain ⟨n, k, ns, most, rfl, _⟩ := h
    rfl
  · obtain ⟨n, k, ns, most, rfl, D, hn, hl, hz, hm, q⟩ := h
    (dsimp only [dDelT, mPop0, mPop, mApp, mExt, dFld, dNew, dDGet, dDIn, dZipT, dAll, dTupF, dIdx, dTupRg, dDc, dReprT, dEqT, dNeT, dFor, dLc, dWhile, dRange1, dRange2, dRange3, dEnumT, e_isB, e_tupD, dgUnl, dSeq, dIfS, dSet, dAsg, dRet, dRetN, dDrop, dNext, dPar, dVar, dC, dOp, dB, dTru, dtNot, dtAnd, dtOr, dAnd, dOr, dNot, dIfE, dNeg, dNil, dCons, dTup, dLst, dCel, dNoP, dPart, dSlice, dRevT, dRevL, dCall, on1, dTupOf, dLstOf, dCelOf, dIsi, dName, dgNil, dgCons, dgTup, dFn, dMet, dMet0, gt, st, startD, wh_some, dYes, dEq, dNe, List.map, List.length, List.replicate, List.append, List.cons_append, List.nil_append, dWalk, uns, un, tupNms, dNms, ifT, ifF, List.replicate_succ, List.replicate_zero, Nat.sub_self, Nat.reduceSub, Nat.reduceAdd, Nat.zero_add, Bool.not_true, Bool.not_false, e_addI, e_addS, e_addT, e_addL, e_i2, e_i2c, e_is, e_bool, e_cel, e_strD, e_lenS, e_lenT, e_lenL, e_lenC, e_ixS, e_ixT, e_ixL, e_ixC, e_slS, e_slT, e_slL, e_slC, e_itT, e_itL, e_truN, e_truI, e_truB, e_truL, e_truT, e_okN, e_okB, e_okI, e_okS, e_okL, e_okT, e_okC, e_tupN, e_tupB, e_tupI, e_tupS, e_tupL, e_tupT, e_tupC, e_strN, e_strB, e_strI, e_strS, e_strL, e_strT, e_strC, e_intN, e_intB, e_intI, e_intS, e_intL, e_intT, e_intC, e_boolN, e_boolB, e_boolI, e_boolS, e_boolL, e_boolT, e_boolC, e_lstN, e_lstB, e_lstI, e_lstS, e_lstL, e_lstT, e_lstC, e_nonN, e_nonB, e_nonI, e_nonS, e_nonL, e_nonT, e_wkS, e_wkL, e_wkT, e_wkC, e_join, e_inS, e_ninS, e_ofI, e_ofB, e_abs, e_lenF, e_ixF, e_itF, e_wkF, e_tfF, e_truF, e_repT, e_keyI, e_keyS]; try simp only [true_and, and_true, Nat.reduceLeDiff, reduceIte, reduceCtorEq, Bool.false_eq_true, if_true, if_false, not_false_eq_true, ite_true, ite_false, and_self])
    refine ⟨n, k, _, rfl, D, .inl ⟨_, rfl, by rw [List.length_map]; exact List.length_pos_iff.mpr hn, by rw [List.length_map]; omega, fun d S1 hd mv => ?_⟩⟩
    obtain ⟨q0, hq0, rfl⟩ := List.mem_map.mp hd
    refine ⟨n, k, ns, most, rfl, mv.D, hn, hl, hz, hm, fun ts S2 h1 h2 h3 mv2 => ?_⟩
    exact q q0 ts S2 ⟨hq0, h1⟩ ⟨hz q0 hq0, h2⟩ h3 (mv.trans mv2)
theorem ok_drawn {f : Addr} {fd : FuncData} (F : Fun K "_law_drawn" "_law_drawn" sDrawn f fd) (T : FoTxt K mg a_law_any a_law_of a_law_text a_law_shut a_law_forest) (G_law_any : FnOk P w K mg base CX0 1 a_law_any d1 ["draws", "bound"] (spD K spAnyD)) (b_law_any : Binds K d1 ["draws", "bound"] [])
    (G_law_of : FnOk P w K mg base CX0 2 a_law_of d2 ["draws", "some"] (spD K spOfD)) (b_law_of : Binds K d2 ["draws", "some"] []) (G_law_ofT : FnOk P w K mg base CX0 2 a_law_of d2 ["draws", "some"] (spD K spOfTD)) : FnOk P w K mg base CX0 3 f fd ["draws", "names", "most"] (spD K spDrawn) := by
  refine dok F scDrawn (fun ds S Q E h => ?_) fun cdv A outer s H Q E (hr : Room 2 _) => ?_
  · obtain ⟨n, k, ns, most, rfl, _⟩ := h
    rfl
  have rest : ∃ t, QSs (cxOf CX0 P w K mg base ["draws", "names", "most", "many", "some", "begins", "texts", "free", "steps", "state", "ends", "turn", "name", "child"] "_law_drawn" (defScope sDrawn) f cdv A outer s H E).nox ((defBody sDrawn).drop 1) t ∧ ∀ (n k : Nat) (ns : List Str) (most many : Nat) (S0 S : Sto) (D : DEnds), DealD S0 n k → MvD n k S0 S → ns ≠ [] → ns.length ≤ 1000 → (∀ z ∈ ns, okZ z) → ns.Nodup → 1 ≤ many → many ≤ most → most ≤ 20 →
      (∀ (T : Tb) S', T.ok → T.ns = ns → T.xs.length = many → MvD n k S0 S' → D.rt T.pl S') →
      t D [some (cel n), some (.list (ns.map PyData.str)), some (.int (most : Nat)), some (.int (many : Nat)), none, none, none, none, none, none, none, none, none, none] S := by
    refine ⟨_, (qss_cons (qs_set (i := 4) scDrawn.nd rfl (Or.inr rfl) (q_add (q_lc (own := [("turn", 11)]) (by rfl) scDrawn.nd (qi_range1 T.n_range (by rfl) (q_cons q_int q_nil)) (blkOk_by (own := [("turn", 11)]) (N := ["draws", "names", "most", "many", "some", "begins", "texts", "free", "steps", "state", "ends", "turn", "name", "child"]) (sc := defScope sDrawn) (by decide +kernel)) (bnd_one (i := 11) (by decide)) (fun _ _ _ _ _ => (pg_name (i := 11) scDrawn.nd rfl (Or.inl rfl))) (fun _ _ _ _ _ => qts_nil) (fun _ _ _ _ _ => (q_call hr G_law_any T.g_law_any T.k_law_any b_law_any (by rfl) (by decide) (q_cons (q_var (pv 0)) (q_cons (q_var (pv 3)) q_nil))))) (q_lst (q_cons (q_sub (q_var (pv 3)) q_int) q_nil))))
      (qss_cons (qs_set (i := 5) scDrawn.nd rfl (Or.inl rfl) (q_tuple T.n_tuple (by rfl) (q_cons (q_lc (own := [("name", 12)]) (by rfl) scDrawn.nd (qi_any (q_var (pv 1))) (blkOk_by (own := [("name", 12)]) (N := ["draws", "names", "most", "many", "some", "begins", "texts", "free", "steps", "state", "ends", "turn", "name", "child"]) (sc := defScope sDrawn) (by decide +kernel)) (bnd_one (i := 12) (by decide)) (fun _ _ _ _ _ => (pg_name (i := 12) scDrawn.nd rfl (Or.inl rfl))) (fun _ _ _ _ _ => qts_nil) (fun _ _ _ _ _ => (q_call hr G_law_any T.g_law_any T.k_law_any b_law_any (by rfl) (by decide) (q_cons (q_var (pv 0)) (q_cons (q_var (pv 3)) q_nil))))) q_nil)))
      (qss_cons (qs_set (i := 6) scDrawn.nd rfl (Or.inl rfl) (q_tuple T.n_tuple (by rfl) (q_cons (q_lc (own := [("state", 9)]) (by rfl) scDrawn.nd (qi_range1 T.n_range (by rfl) (q_cons (q_var (pv 3)) q_nil)) (blkOk_by (own := [("state", 9)]) (N := ["draws", "names", "most", "many", "some", "begins", "texts", "free", "steps", "state", "ends", "turn", "name", "child"]) (sc := defScope sDrawn) (by decide +kernel)) (bnd_one (i := 9) (by decide)) (fun _ _ _ _ _ => (pg_name (i := 9) scDrawn.nd rfl (Or.inl rfl))) (fun _ _ _ _ _ => qts_nil) (fun _ _ _ _ _ => (q_call hr G_law_of T.g_law_of T.k_law_of b_law_of (by rfl) (by decide) (q_cons (q_var (pv 0)) (q_cons (q_add (q_var (pv 4)) (q_lst (q_cons (q_call hr G_law_any T.g_law_any T.k_law_any b_law_any (by rfl) (by decide) (q_cons (q_var (pv 0)) (q_cons (q_var (pv 3)) q_nil))) q_nil))) q_nil))))) q_nil)))
      (qss_cons (qs_set (i := 7) scDrawn.nd rfl (Or.inr rfl) (q_add q_int (q_call hr G_law_any T.g_law_any T.k_law_any b_law_any (by rfl) (by decide) (q_cons (q_var (pv 0)) (q_cons q_int q_nil)))))
      (qss_cons (qs_set (i := 8) scDrawn.nd rfl (Or.inl rfl) (q_cel q_nil))
      (qss_cons (qs_for PassesOwn.never rfl (qi_range1 T.n_range (by rfl) (q_cons (q_var (pv 3)) q_nil)) (qg_name (pg_name (i := 9) scDrawn.nd rfl (Or.inl rfl)))
      (qss_one (qs_expr (q_append (q_var (pv 8)) (q_cons (q_tuple T.n_tuple (by rfl) (q_cons (q_lc (own := [("child", 13)]) (by rfl) scDrawn.nd (qi_range1 T.n_range (by rfl) (q_cons (q_var (pv 3)) q_nil)) (blkOk_by (own := [("child", 13)]) (N := ["draws", "names", "most", "many", "some", "begins", "texts", "free", "steps", "state", "ends", "turn", "name", "child"]) (sc := defScope sDrawn) (by decide +kernel)) (bnd_one (i := 13) (by decide)) (fun _ _ _ _ _ => (pg_name (i := 13) scDrawn.nd rfl (Or.inl rfl))) (fun _ _ _ _ _ => qts_nil) (fun _ _ _ _ _ => (q_if (qt_cmp (op_eqA (u64 hr)) snd_eq (q_call hr G_law_any T.g_law_any T.k_law_any b_law_any (by rfl) (by decide) (q_cons (q_var (pv 0)) (q_cons (q_var (pv 7)) q_nil))) q_int (nomark _)) (q_call hr G_law_any T.g_law_any T.k_law_any b_law_any (by rfl) (by decide) (q_cons (q_var (pv 0)) (q_cons (q_var (pv 3)) q_nil))) (q_call hr G_law_of T.g_law_of T.k_law_of b_law_of (by rfl) (by decide) (q_cons (q_var (pv 0)) (q_cons (q_var (pv 4)) q_nil)))))) q_nil)) q_nil)))))
      (qss_cons (qs_set (i := 10) scDrawn.nd rfl (Or.inl rfl) (q_tuple T.n_tuple (by rfl) (q_cons (q_lc (own := [("state", 9)]) (by rfl) scDrawn.nd (qi_range1 T.n_range (by rfl) (q_cons (q_var (pv 3)) q_nil)) (blkOk_by (own := [("state", 9)]) (N := ["draws", "names", "most", "many", "some", "begins", "texts", "free", "steps", "state", "ends", "turn", "name", "child"]) (sc := defScope sDrawn) (by decide +kernel)) (bnd_one (i := 9) (by decide)) (fun _ _ _ _ _ => (pg_name (i := 9) scDrawn.nd rfl (Or.inl rfl))) (fun _ _ _ _ _ => qts_one (qt_cmp (op_eqA (u64 hr)) snd_eq (q_call hr G_law_any T.g_law_any T.k_law_any b_law_any (by rfl) (by decide) (q_cons (q_var (pv 0)) (q_cons q_int q_nil))) q_int (nomark _))) (fun _ _ _ _ _ => (q_var (pv 9)))) q_nil)))
      (qss_cons (qs_if (PW.pt (qw_and (qt_cmp (op_eqA (u64 hr)) snd_eq (q_var (pv 10)) (q_tup q_nil) (nomark _)) (qw_and1 (qt_cmp op_gt snd_lt (q_call hr G_law_any T.g_law_any T.k_law_any b_law_any (by rfl) (by decide) (q_cons (q_var (pv 0)) (q_cons q_int q_nil))) q_int (nomark _)))))
      (qss_one (qs_set (i := 10) scDrawn.nd rfl (Or.inl rfl) (q_tup (q_cons (q_call hr G_law_ofT T.g_law_of T.k_law_of b_law_of (by rfl) (by decide) (q_cons (q_var (pv 0)) (q_cons (q_var (pv 5)) q_nil))) q_nil))))
      qss_nil)
      (qss_one (qs_ret (q_tup (q_cons (q_tupleF T.n_tuple (by rfl) (q_cons (q_var (pv 1)) q_nil)) (q_cons (q_var (pv 5)) (q_cons (q_var (pv 6)) (q_cons (q_tuple T.n_tuple (by rfl) (q_cons (q_var (pv 8)) q_nil)) (q_cons (q_var (pv 10)) q_nil)))))))))))))))), ?_⟩
    intro n k ns most many S0 S D D0 mv hn hl hz hnd m1 m2 m3 q
    (dsimp only [dDelT, mPop0, mPop, mApp, mExt, dFld, dNew, dDGet, dDIn, dZipT, dAll, dTupF, dIdx, dTupRg, dDc, dReprT, dEqT, dNeT, dFor, dLc, dWhile, dRange1, dRange2, dRange3, dEnumT, e_isB, e_tupD, dgUnl, dSeq, dIfS, dSet, dAsg, dRet, dRetN, dDrop, dNext, dPar, dVar, dC, dOp, dB, dTru, dtNot, dtAnd, dtOr, dAnd, dOr, dNot, dIfE, dNeg, dNil, dCons, dTup, dLst, dCel, dNoP, dPart, dSlice, dRevT, dRevL, dCall, on1, dTupOf, dLstOf, dCelOf, dIsi, dName, dgNil, dgCons, dgTup, dFn, dMet, dMet0, gt, st, startD, wh_some, dYes, dEq, dNe, List.map, List.length, List.replicate, List.append, List.cons_append, List.nil_append, dWalk, uns, un, tupNms, dNms, ifT, ifF, List.replicate_succ, List.replicate_zero, Nat.sub_self, Nat.reduceSub, Nat.reduceAdd, Nat.zero_add, Bool.not_true, Bool.not_false, e_addI, e_addS, e_addT, e_addL, e_i2, e_i2c, e_is, e_bool, e_cel, e_strD, e_lenS, e_lenT, e_lenL, e_lenC, e_ixS, e_ixT, e_ixL, e_ixC, e_slS, e_slT, e_slL, e_slC, e_itT, e_itL, e_truN, e_truI, e_truB, e_truL, e_truT, e_okN, e_okB, e_okI, e_okS, e_okL, e_okT, e_okC, e_tupN, e_tupB, e_tupI, e_tupS, e_tupL, e_tupT, e_tupC, e_strN, e_strB, e_strI, e_strS, e_strL, e_strT, e_strC, e_intN, e_intB, e_intI, e_intS, e_intL, e_intT, e_intC, e_boolN, e_boolB, e_boolI, e_boolS, e_boolL, e_boolT, e_boolC, e_lstN, e_lstB, e_lstI, e_lstS, e_lstL, e_lstT, e_lstC, e_nonN, e_nonB, e_nonI, e_nonS, e_nonL, e_nonT, e_wkS, e_wkL, e_wkT, e_wkC, e_join, e_inS, e_ninS, e_ofI, e_ofB, e_abs, e_lenF, e_ixF, e_itF, e_wkF, e_tfF, e_truF, e_repT, e_keyI, e_keyS]; try simp only [true_and, and_true, Nat.reduceLeDiff, reduceIte, reduceCtorEq, Bool.false_eq_true, if_true, if_false, not_false_eq_true, ite_true, ite_false, and_self])
    have ra : ∀ (d : PyData) (S' : Sto) (Qy : DK), d = d → MvD n k S0 S' → (∀ (x : Nat) S'', x < many → MvD n k S0 S'' → Qy (.int (x : Nat)) S'') → spAnyD [cel n, .int (many : Nat)] S' Qy X0 := fun d S' Qy _ mv' h => any_nat mv' (by omega) (by omega) fun x S'' hx m => h x S'' (by omega) m
    refine ⟨⟨by decide, by decide⟩, lc_draw (Pn := (· < many)) mv (by rw [rangeD_len]; decide) (fun d S' Qy _ mv' h => ra d S' Qy rfl mv' h) fun l S1 hl1 hp1 mv1 => ?_⟩
    rw [rangeD_len] at hl1
    have esome : nats l ++ [PyData.int ((many : Nat) - 1)] = nats (l ++ [many - 1]) := by
      rw [nats_app]
      have : ((many : Nat) : Int) - 1 = ((many - 1 : Nat) : Int) := by omega
      rw [this]
      rfl
    rw [esome]
    have so0 : l ++ [many - 1] ≠ [] := by simp
    have so1 : ∀ x ∈ l ++ [many - 1], x < many := fun x hx => by
      rcases List.mem_append.mp hx with h | h
      · exact hp1 x h
      · rw [List.mem_singleton] at h
        omega
    have so2 : (l ++ [many - 1]).length ≤ 10 := by
      rw [List.length_append, hl1]
      show 3 + 1 ≤ 10
      decide
    refine ⟨by rw [List.length_map, hl1]; decide, ?_⟩
    generalize l ++ [many - 1] = so at so0 so1 so2
    refine lc_draw (Pn := (· < many)) mv1 (by rw [List.length_map]; exact hl) (fun d S' Qy _ mv' h => ra d S' Qy rfl mv' h) fun bs S2 hlb hpb mv2 => ?_
    rw [List.length_map] at hlb
    refine ⟨small_nat (by omega), lc_draw (te := fun d S' Qy => spAnyD [cel n, .int (many : Nat)] S' (fun d S1 => (nats so).length ≤ 999999 ∧ spOfD [cel n, .list (nats so ++ [d])] S1 Qy X0) X0) (Pn := (· < many)) mv2 (by show (rangeD 0 1 ((many : Nat) : Int).toNat).length ≤ 1000; rw [rangeD_len]; omega) (fun d S' Qy _ mv' h => ?_) fun xs S3 hlx hpx mv3 => ?_⟩
    · refine any_nat mv' (by omega) (by omega) fun x S'' hx m => ⟨by rw [List.length_map]; omega, ?_⟩
      have e : nats so ++ [PyData.int (x : Nat)] = nats (so ++ [x]) := (nats_app so [x]).symm
      rw [e]
      refine of_nat m (by simp) (by rw [List.length_append]; simp; omega) fun y S3 hy m3 => h y S3 ?_ m3
      rcases List.mem_append.mp hy with z | z
      · exact so1 y z
      · rw [List.mem_singleton] at z
        omega
    rw [rangeD_len, Int.toNat_natCast] at hlx
    refine any_nat mv3 (by decide) (by decide) fun fr S4 hfr mv4 => ?_
    rw [e_addI]
    intro j hj
    have hj0 := mv4.non hj
    refine ⟨small_nat (by omega), fun i ρ S' => i ≤ many ∧ ∃ (rows : List (List Nat)) (x : Option PyData), ρ = [some (cel n), some (.list (ns.map PyData.str)), some (.int (most : Nat)), some (.int (many : Nat)), some (.list (nats so)), some (.tuple (nats bs)), some (.tuple (nats xs)), some (.int (2 + (fr : Nat))), some (cel j), x, none, none, none, none] ∧
      MvD n k S0 S' ∧ S' j = some (.lst (rows.map fun r => PyData.tuple (nats r))) ∧ rows.length = i ∧ ∀ r ∈ rows, r.length = many ∧ ∀ b ∈ r, b < many, ⟨Nat.zero_le _, [], none, rfl, mv4.put D0 hj0, put_same, rfl, by simp⟩, fun _ _ _ _ => trivial, ?_, ?_⟩
    · rintro i d ρ S5 hd ⟨hi, rows, x, rfl, mv5, hS, lr, hr'⟩
      obtain ⟨li, rfl⟩ := rangeD_at hd
      obtain ⟨jn, jk⟩ := D0.nk hj0
      (dsimp only [dDelT, mPop0, mPop, mApp, mExt, dFld, dNew, dDGet, dDIn, dZipT, dAll, dTupF, dIdx, dTupRg, dDc, dReprT, dEqT, dNeT, dFor, dLc, dWhile, dRange1, dRange2, dRange3, dEnumT, e_isB, e_tupD, dgUnl, dSeq, dIfS, dSet, dAsg, dRet, dRetN, dDrop, dNext, dPar, dVar, dC, dOp, dB, dTru, dtNot, dtAnd, dtOr, dAnd, dOr, dNot, dIfE, dNeg, dNil, dCons, dTup, dLst, dCel, dNoP, dPart, dSlice, dRevT, dRevL, dCall, on1, dTupOf, dLstOf, dCelOf, dIsi, dName, dgNil, dgCons, dgTup, dFn, dMet, dMet0, gt, st, startD, wh_some, dYes, dEq, dNe, List.map, List.length, List.replicate, List.append, List.cons_append, List.nil_append, dWalk, uns, un, tupNms, dNms, ifT, ifF, List.replicate_succ, List.replicate_zero, Nat.sub_self, Nat.reduceSub, Nat.reduceAdd, Nat.zero_add, Bool.not_true, Bool.not_false, e_addI, e_addS, e_addT, e_addL, e_i2, e_i2c, e_is, e_bool, e_cel, e_strD, e_lenS, e_lenT, e_lenL, e_lenC, e_ixS, e_ixT, e_ixL, e_ixC, e_slS, e_slT, e_slL, e_slC, e_itT, e_itL, e_truN, e_truI, e_truB, e_truL, e_truT, e_okN, e_okB, e_okI, e_okS, e_okL, e_okT, e_okC, e_tupN, e_tupB, e_tupI, e_tupS, e_tupL, e_tupT, e_tupC, e_strN, e_strB, e_strI, e_strS, e_strL, e_strT, e_strC, e_intN, e_intB, e_intI, e_intS, e_intL, e_intT, e_intC, e_boolN, e_boolB, e_boolI, e_boolS, e_boolL, e_boolT, e_boolC, e_lstN, e_lstB, e_lstI, e_lstS, e_lstL, e_lstT, e_lstC, e_nonN, e_nonB, e_nonI, e_nonS, e_nonL, e_nonT, e_wkS, e_wkL, e_wkT, e_wkC, e_join, e_inS, e_ninS, e_ofI, e_ofB, e_abs, e_lenF, e_ixF, e_itF, e_wkF, e_tfF, e_truF, e_repT, e_keyI, e_keyS]; try simp only [true_and, and_true, Nat.reduceLeDiff, reduceIte, reduceCtorEq, Bool.false_eq_true, if_true, if_false, not_false_eq_true, ite_true, ite_false, and_self])
      refine ⟨⟨_, hS⟩, small_nat (by omega), lc_draw (te := fun d S Qy => spAnyD [cel n, .int (2 + (fr : Nat))] S (fun a S1 => eqOk a (.int 0) ∧ if a.eqv (.int 0) = true then spAnyD [cel n, .int (many : Nat)] S1 Qy X0 else spOfD [cel n, .list (nats so)] S1 Qy X0) X0) (Pn := (· < many)) (MvD.refl mv5.D) (by show (rangeD 0 1 ((many : Nat) : Int).toNat).length ≤ 1000; rw [rangeD_len]; omega) (fun d S' Qy _ mv' h => ?_) fun l S6 hll hpl mv6 => ?_⟩
      · refine any_nat mv' (by omega) (by omega) fun x S'' hx m => ⟨.inl ⟨rfl, rfl, nofun, nofun⟩, ?_⟩
        cases PyData.eqv (.int (x : Nat)) (.int 0) with
        | true =>
          rw [ifT]
          exact any_nat m (by omega) (by omega) fun y S3 hy m3 => h y S3 (by omega) m3
        | false =>
          rw [ifF]
          exact of_nat m so0 (by omega) fun y S3 hy m3 => h y S3 (so1 y hy) m3
      · rw [rangeD_len, Int.toNat_natCast] at hll
        have h6 : S6 j = some (.lst (rows.map fun r => PyData.tuple (nats r))) := mv6.kp j _ hS jn jk
        refine wh_mk (lstC_of h6) ⟨by rw [List.length_map]; omega, by omega, rows ++ [l], _, rfl, (mv5.trans mv6).put D0 hj0, by rw [put_same, List.map_append]; rfl, by rw [List.length_append, lr]; rfl, fun r hr => ?_⟩
        rcases List.mem_append.mp hr with z | z
        · exact hr' r z
        · rw [List.mem_singleton] at z
          rw [z]
          exact ⟨hll, hpl⟩
    · rintro ρ S5 ⟨hi, rows, x, rfl, mv5, hS, lr, hr'⟩
      rw [rangeD_len, Int.toNat_natCast] at lr
      obtain ⟨jn, jk⟩ := D0.nk hj0
      have fin : ∀ (l : List Nat) (S' : Sto), (∀ x ∈ l, x < many) → l.length ≤ 1000 → MvD n k S5 S' → wh (itemsD S' (cel j)) fun ds => D.rt (.tuple [frz (ns.map PyData.str), .tuple (nats bs), .tuple (nats xs), .tuple ds, .tuple (nats l)]) S' := fun l S' h1 h2 m => by
        refine wh_mk (items_cel (m.kp j _ hS jn jk)) ?_
        refine q ⟨ns, bs, xs, rows, l⟩ S' ⟨?_, ?_, hl, fun z hz' => Nat.le_trans (hz z hz').2 (by decide), fun z hz' => (hz z hz').1, hnd, hlb, ?_, ?_, ?_, ?_, ?_, h2⟩ rfl hlx (mv5.trans m)
        · show 1 ≤ xs.length
          omega
        · show xs.length ≤ 1000
          omega
        · show ∀ b ∈ bs, b < xs.length
          rw [hlx]
          exact hpb
        · show ∀ b ∈ xs, b < xs.length
          rw [hlx]
          exact hpx
        · show rows.length = xs.length
          rw [lr, hlx]
        · show ∀ r ∈ rows, r.length = xs.length ∧ ∀ b ∈ r, b < xs.length
          rw [hlx]
          exact hr'
        · show ∀ b ∈ l, b < xs.length
          rw [hlx]
          exact h1
      (dsimp only [dDelT, mPop0, mPop, mApp, mExt, dFld, dNew, dDGet, dDIn, dZipT, dAll, dTupF, dIdx, dTupRg, dDc, dReprT, dEqT, dNeT, dFor, dLc, dWhile, dRange1, dRange2, dRange3, dEnumT, e_isB, e_tupD, dgUnl, dSeq, dIfS, dSet, dAsg, dRet, dRetN, dDrop, dNext, dPar, dVar, dC, dOp, dB, dTru, dtNot, dtAnd, dtOr, dAnd, dOr, dNot, dIfE, dNeg, dNil, dCons, dTup, dLst, dCel, dNoP, dPart, dSlice, dRevT, dRevL, dCall, on1, dTupOf, dLstOf, dCelOf, dIsi, dName, dgNil, dgCons, dgTup, dFn, dMet, dMet0, gt, st, startD, wh_some, dYes, dEq, dNe, List.map, List.length, List.replicate, List.append, List.cons_append, List.nil_append, dWalk, uns, un, tupNms, dNms, ifT, ifF, List.replicate_succ, List.replicate_zero, Nat.sub_self, Nat.reduceSub, Nat.reduceAdd, Nat.zero_add, Bool.not_true, Bool.not_false, e_addI, e_addS, e_addT, e_addL, e_i2, e_i2c, e_is, e_bool, e_cel, e_strD, e_lenS, e_lenT, e_lenL, e_lenC, e_ixS, e_ixT, e_ixL, e_ixC, e_slS, e_slT, e_slL, e_slC, e_itT, e_itL, e_truN, e_truI, e_truB, e_truL, e_truT, e_okN, e_okB, e_okI, e_okS, e_okL, e_okT, e_okC, e_tupN, e_tupB, e_tupI, e_tupS, e_tupL, e_tupT, e_tupC, e_strN, e_strB, e_strI, e_strS, e_strL, e_strT, e_strC, e_intN, e_intB, e_intI, e_intS, e_intL, e_intT, e_intC, e_boolN, e_boolB, e_boolI, e_boolS, e_boolL, e_boolT, e_boolC, e_lstN, e_lstB, e_lstI, e_lstS, e_lstL, e_lstT, e_lstC, e_nonN, e_nonB, e_nonI, e_nonS, e_nonL, e_nonT, e_wkS, e_wkL, e_wkT, e_wkC, e_join, e_inS, e_ninS, e_ofI, e_ofB, e_abs, e_lenF, e_ixF, e_itF, e_wkF, e_tfF, e_truF, e_repT, e_keyI, e_keyS]; try simp only [true_and, and_true, Nat.reduceLeDiff, reduceIte, reduceCtorEq, Bool.false_eq_true, if_true, if_false, not_false_eq_true, ite_true, ite_false, and_self])
      refine ⟨small_nat (by omega), fun i acc S' => i ≤ many ∧ MvD n k S5 S' ∧ ∃ l : List Nat, acc = nats l ∧ l.length ≤ i ∧ ∀ x ∈ l, x < many, ⟨Nat.zero_le _, MvD.refl mv5.D, [], rfl, Nat.le_refl _, by simp⟩, ?_, ?_, ?_⟩
      · rintro i acc S' ⟨hi', _, l, rfl, e, _⟩
        rw [List.length_map]
        omega
      · rintro i d acc S' hd ⟨hi', mv', l, rfl, e, hp⟩
        obtain ⟨li, rfl⟩ := rangeD_at hd
        refine any_nat mv' (by decide) (by decide) fun x S'' hx m => ⟨.inl ⟨rfl, rfl, nofun, nofun⟩, ?_⟩
        cases PyData.eqv (.int (x : Nat)) (.int 0) with
        | true =>
          rw [ifT]
          have e0 : (0 + (i : Nat) * (1 : Int)) = ((i : Nat) : Int) := by omega
          rw [e0]
          refine ⟨by omega, m, l ++ [i], (nats_app l [i]).symm, by rw [List.length_append]; exact Nat.succ_le_succ e, fun y hy => ?_⟩
          rcases List.mem_append.mp hy with z | z
          · exact hp y z
          · rw [List.mem_singleton] at z
            omega
        | false =>
          rw [ifF]
          exact ⟨by omega, m, l, rfl, by omega, hp⟩
      · rintro acc S' ⟨_, mv', l, rfl, e, hp⟩
        refine ⟨.inr ⟨shaped_nats l, rfl⟩, ?_⟩
        rw [rangeD_len, Int.toNat_natCast] at e
        cases l with
        | nil =>
          have ee : (PyData.tuple (nats [])).eqv (.tuple []) = true := rfl
          rw [ee, ifT]
          refine any_nat mv' (by decide) (by decide) fun x S'' hx m => ?_
          rw [e_i2]
          refine wh_mk rfl ?_
          cases decide ((0 : Int) < ((x : Nat) : Int)) with
          | true =>
            rw [ifT]
            refine ⟨n, k, nats bs, rfl, m.D, fun z => ?_, by rw [List.length_map]; omega, fun d S3 hd m3 => ?_⟩
            · have z2 := congrArg List.length z
              rw [List.length_map, hlb] at z2
              exact hn (List.eq_nil_of_length_eq_zero z2)
            · obtain ⟨y, hy, rfl⟩ := List.mem_map.mp hd
              exact fin [y] S3 (fun z hz' => by rw [List.mem_singleton.mp hz']; exact hpb y hy) (by show 1 ≤ 1000; decide) (m.trans m3)
          | false =>
            rw [ifF]
            exact fin [] S'' (by simp) (by decide) m
        | cons y l =>
          have ee : (PyData.tuple (nats (y :: l))).eqv (.tuple []) = false := rfl
          rw [ee, ifF]
          exact fin (y :: l) S' hp (by omega) mv'
  obtain ⟨t, ht, hq⟩ := rest
  refine ⟨_, (qss_cons (qs_set (i := 3) scDrawn.nd rfl (Or.inr rfl) (q_if (qt_cmp op_gt snd_lt (q_call hr G_law_any T.g_law_any T.k_law_any b_law_any (by rfl) (by decide) (q_cons (q_var (pv 0)) (q_cons q_int q_nil))) q_int (nomark _)) (q_add q_int (q_call hr G_law_any T.g_law_any T.k_law_any b_law_any (by rfl) (by decide) (q_cons (q_var (pv 0)) (q_cons (q_sub (q_var (pv 2)) q_int) q_nil)))) q_int))
      ht), fun ds S Qd Ed h => ?_⟩
  obtain ⟨n, k, ns, most, rfl, D, hn, hl, hz, hnd, hm2, hm, q⟩ := h
  (dsimp only [dDelT, mPop0, mPop, mApp, mExt, dFld, dNew, dDGet, dDIn, dZipT, dAll, dTupF, dIdx, dTupRg, dDc, dReprT, dEqT, dNeT, dFor, dLc, dWhile, dRange1, dRange2, dRange3, dEnumT, e_isB, e_tupD, dgUnl, dSeq, dIfS, dSet, dAsg, dRet, dRetN, dDrop, dNext, dPar, dVar, dC, dOp, dB, dTru, dtNot, dtAnd, dtOr, dAnd, dOr, dNot, dIfE, dNeg, dNil, dCons, dTup, dLst, dCel, dNoP, dPart, dSlice, dRevT, dRevL, dCall, on1, dTupOf, dLstOf, dCelOf, dIsi, dName, dgNil, dgCons, dgTup, dFn, dMet, dMet0, gt, st, startD, wh_some, dYes, dEq, dNe, List.map, List.length, List.replicate, List.append, List.cons_append, List.nil_append, dWalk, uns, un, tupNms, dNms, ifT, ifF, List.replicate_succ, List.replicate_zero, Nat.sub_self, Nat.reduceSub, Nat.reduceAdd, Nat.zero_add, Bool.not_true, Bool.not_false, e_addI, e_addS, e_addT, e_addL, e_i2, e_i2c, e_is, e_bool, e_cel, e_strD, e_lenS, e_lenT, e_lenL, e_lenC, e_ixS, e_ixT, e_ixL, e_ixC, e_slS, e_slT, e_slL, e_slC, e_itT, e_itL, e_truN, e_truI, e_truB, e_truL, e_truT, e_okN, e_okB, e_okI, e_okS, e_okL, e_okT, e_okC, e_tupN, e_tupB, e_tupI, e_tupS, e_tupL, e_tupT, e_tupC, e_strN, e_strB, e_strI, e_strS, e_strL, e_strT, e_strC, e_intN, e_intB, e_intI, e_intS, e_intL, e_intT, e_intC, e_boolN, e_boolB, e_boolI, e_boolS, e_boolL, e_boolT, e_boolC, e_lstN, e_lstB, e_lstI, e_lstS, e_lstL, e_lstT, e_lstC, e_nonN, e_nonB, e_nonI, e_nonS, e_nonL, e_nonT, e_wkS, e_wkL, e_wkT, e_wkC, e_join, e_inS, e_ninS, e_ofI, e_ofB, e_abs, e_lenF, e_ixF, e_itF, e_wkF, e_tfF, e_truF, e_repT, e_keyI, e_keyS]; try simp only [true_and, and_true, Nat.reduceLeDiff, reduceIte, reduceCtorEq, Bool.false_eq_true, if_true, if_false, not_false_eq_true, ite_true, ite_false, and_self])
  refine any_nat (MvD.refl D) (by decide) (by decide) fun x S1 hx mv => ?_
  rw [e_i2]
  refine wh_mk rfl ?_
  cases hb : decide ((0 : Int) < ((x : Nat) : Int)) with
  | true =>
    rw [ifT]
    refine any_nat mv (by omega) (by omega) fun y S2 hy mv2 => ?_
    rw [e_addI]
    have e2 : (2 : Int) + ((y : Nat) : Int) = ((y + 2 : Nat) : Int) := by omega
    rw [e2]
    exact hq n k ns most (y + 2) S S2 _ D mv2 hn hl hz hnd (by omega) (by omega) hm fun T S' o e1 e2 m => q T S' o e1 (by omega) m
  | false =>
    rw [ifF]
    exact hq n k ns most 1 S S1 _ D mv hn hl hz hnd (by omega) (by omega) hm fun T S' o e1 e2 m => q T S' o e1 (by omega) m
end
end K3

/-! of the law: names, one of some forests -/
namespace K3
open PySem L2 Xr K1
abbrev sNamesL : Stmt := top 23
theorem scNamesL : FnScope ["draws", "many", "letters", "first", "some", "base", "place", "at", "one"] ["draws", "many"] (defScope sNamesL) := ⟨rfl, rfl, rfl, by decide +kernel, rfl, by decide +kernel, by decide +kernel⟩
abbrev sSome : Stmt := top 34
theorem scSome : FnScope ["draws", "names"] ["draws", "names"] (defScope sSome) := ⟨rfl, rfl, rfl, by decide +kernel, rfl, by decide +kernel, by decide +kernel⟩
abbrev abcS : Str := Str.ofString "abcdefghijklmnopqrstuvwxyz"
theorem abc_ok : ∀ c ∈ abcS.cps.toList, c < 1114112 := by decide +kernel
theorem abc_nd : abcS.cps.toList.Nodup := by decide +kernel
theorem abc_len : abcS.cps.toList.length = 26 := by decide +kernel
structure NmZ (z : Str) : Prop where
  ok : okZ z
  sub : ∀ c ∈ z.cps.toList, c ∈ abcS.cps.toList
theorem str_ext {a b : Str} (h : a.cps.toList = b.cps.toList) : a = b := by
  cases a
  cases b
  simp at h
  rw [h]
def chS (x : Nat) : Str := ⟨#[abcS.cps.toList.getD x 0]⟩
theorem chS_mem {x : Nat} (h : x < 26) : abcS.cps.toList.getD x 0 ∈ abcS.cps.toList := by
  have hl : x < abcS.cps.toList.length := by rw [abc_len]; exact h
  rw [List.getD_eq_getElem?_getD, List.getElem?_eq_getElem hl]
  exact List.getElem_mem hl
theorem chS_from {x : Nat} (h : x < 26) : From abcS.cps.toList 1 (chS x) := from_one (chS_mem h)
theorem chS_inj {x y : Nat} (hx : x < 26) (hy : y < 26) (h : chS x = chS y) : x = y := by
  have e : abcS.cps.toList.getD x 0 = abcS.cps.toList.getD y 0 := by
    have := congrArg (fun z : Str => z.cps.toList) h
    simpa [chS] using this
  have h1 : x < abcS.cps.toList.length := by rw [abc_len]; exact hx
  have h2 : y < abcS.cps.toList.length := by rw [abc_len]; exact hy
  rw [List.getD_eq_getElem?_getD, List.getElem?_eq_getElem h1, List.getD_eq_getElem?_getD, List.getElem?_eq_getElem h2] at e
  have pw := List.pairwise_iff_getElem.mp abc_nd
  rcases Nat.lt_trichotomy x y with z | z | z
  · exact absurd e (pw x y h1 h2 z)
  · exact z
  · exact absurd e.symm (pw y x h2 h1 z)
theorem nmz_from {m : Nat} {z : Str} (h : From abcS.cps.toList m z) (l : m ≤ 16) : NmZ z := ⟨⟨from_ok abc_ok h, by rw [h.len]; exact l⟩, h.sub⟩
theorem from_app {A : List Nat} {m1 m2 : Nat} {a b : Str} (h1 : From A m1 a) (h2 : From A m2 b) : From A (m1 + m2) (a ++ b) := ⟨by rw [strLen_append, h1.len, h2.len], fun c hc => by
  rw [cps_app] at hc
  rcases List.mem_append.mp hc with z | z
  · exact h1.sub c z
  · exact h2.sub c z⟩
def spNmD : SpD := fun ds S Q _ => ∃ (n k many : Nat), ds = [cel n, .int (many : Nat)] ∧ DealD S n k ∧ 1 ≤ many ∧ many ≤ 5 ∧ ∀ (ns : List Str) S', ns.length = many → ns.Nodup → (∀ z ∈ ns, NmZ z) → MvD n k S S' → Q (.list (ns.map PyData.str)) S'
def spSomeD : SpD := fun ds S Q _ => ∃ (n k : Nat) (ns : List Str), ds = [cel n, .list (ns.map PyData.str)] ∧ DealD S n k ∧ ns ≠ [] ∧ ns.length ≤ 1000 ∧ (∀ z ∈ ns, okZ z) ∧
  ∀ ts S', trN ns ts → trF ts → trC ts ≤ 7 → MvD n k S S' → Q (.tuple (trD ts)) S'
structure NmTxt (K : PySem.W.Frag) (mg : Str → Option Value) (a_law_any a_law_of a_law_node a_law_forest : Addr) : Prop where
  n_range : mg "range" = none
  n_len : mg "len" = none
  g_law_any : mg "_law_any" = some (.ref a_law_any)
  k_law_any : PySem.W.keepIn K (.ref a_law_any) = true
  g_law_of : mg "_law_of" = some (.ref a_law_of)
  k_law_of : PySem.W.keepIn K (.ref a_law_of) = true
  g_law_node : mg "_law_node" = some (.ref a_law_node)
  k_law_node : PySem.W.keepIn K (.ref a_law_node) = true
  g_law_forest : mg "_law_forest" = some (.ref a_law_forest)
  k_law_forest : PySem.W.keepIn K (.ref a_law_forest) = true
section
variable {P : Program} {w : World} {K : PySem.W.Frag} {mg : Str → Option Value} {base : Heap} {a_law_any a_law_of a_law_node a_law_forest : Addr} {d1 d2 d3 d4 d5 : FuncData}
theorem ok_namesL {f : Addr} {fd : FuncData} (F : Fun K "_law_names" "_law_names" sNamesL f fd) (T : NmTxt K mg a_law_any a_law_of a_law_node a_law_forest) (G_law_any : FnOk P w K mg base CX0 1 a_law_any d1 ["draws", "bound"] (spD K spAnyD)) (b_law_any : Binds K d1 ["draws", "bound"] [])
    (G_law_of : FnOk P w K mg base CX0 2 a_law_of d2 ["draws", "some"] (spD K spOfD)) (b_law_of : Binds K d2 ["draws", "some"] []) : FnOk P w K mg base CX0 3 f fd ["draws", "many"] (spD K spNmD) := by
  refine dok F scNamesL (fun ds S Q E h => ?_) fun cdv A outer s H Q E (hr : Room 2 _) => ⟨_, (qss_cons (qs_set (i := 2) scNamesL.nd rfl (Or.inr rfl) q_str)
      (qss_cons (qs_set (i := 3) scNamesL.nd rfl (Or.inr rfl) (q_call hr G_law_any T.g_law_any T.k_law_any b_law_any (by rfl) (by decide) (q_cons (q_var (pv 0)) (q_cons (q_sub q_int (q_var (pv 1))) q_nil))))
      (qss_cons (qs_setLc (i := 4) (own := [("at", 7)]) (by rfl) scNamesL.nd rfl rfl (sw_true rfl rfl rfl (by decide +kernel)) (qi_range1 T.n_range (by rfl) (q_cons (q_var (pv 1)) q_nil)) (blkOk_by (own := [("at", 7)]) (N := ["draws", "many", "letters", "first", "some", "base", "place", "at", "one"]) (sc := defScope sNamesL) (by decide +kernel)) (bnd_one (i := 7) (by decide)) (fun _ _ _ _ _ => (pg_name (i := 7) scNamesL.nd rfl (Or.inl rfl))) (fun _ _ _ _ _ => qts_nil) (fun _ _ _ _ _ => (q_at (q_var (pv 2)) (q_add (q_var (pv 3)) (q_var (pv 7))) (fun _ _ => rfl))))
      (qss_cons (qs_if (qt_cmp (op_eqA (u64 hr)) snd_eq (q_call hr G_law_any T.g_law_any T.k_law_any b_law_any (by rfl) (by decide) (q_cons (q_var (pv 0)) (q_cons q_int q_nil))) q_int (nomark _))
      (qss_one (qs_ret (q_var (pv 4))))
      qss_nil)
      (qss_cons (qs_set (i := 5) scNamesL.nd rfl (Or.inr rfl) (q_lc (own := [("at", 7)]) (by rfl) scNamesL.nd (qi_range1 T.n_range (by rfl) (q_cons (q_add q_int (q_call hr G_law_any T.g_law_any T.k_law_any b_law_any (by rfl) (by decide) (q_cons (q_var (pv 0)) (q_cons q_int q_nil)))) q_nil)) (blkOk_by (own := [("at", 7)]) (N := ["draws", "many", "letters", "first", "some", "base", "place", "at", "one"]) (sc := defScope sNamesL) (by decide +kernel)) (bnd_one (i := 7) (by decide)) (fun _ _ _ _ _ => (pg_name (i := 7) scNamesL.nd rfl (Or.inl rfl))) (fun _ _ _ _ _ => qts_nil) (fun _ _ _ _ _ => (q_call hr G_law_of T.g_law_of T.k_law_of b_law_of (by rfl) (by decide) (q_cons (q_var (pv 0)) (q_cons (q_var (pv 2)) q_nil))))))
      (qss_cons (qs_set (i := 6) scNamesL.nd rfl (Or.inr rfl) (q_call hr G_law_any T.g_law_any T.k_law_any b_law_any (by rfl) (by decide) (q_cons (q_var (pv 0)) (q_cons (q_add (q_len T.n_len (by rfl) (q_cons (q_var (pv 5)) q_nil)) q_int) q_nil))))
      (qss_one (qs_ret (q_lc (own := [("one", 8)]) (by rfl) scNamesL.nd (qi_any (q_var (pv 4))) (blkOk_by (own := [("one", 8)]) (N := ["draws", "many", "letters", "first", "some", "base", "place", "at", "one"]) (sc := defScope sNamesL) (by decide +kernel)) (bnd_one (i := 8) (by decide)) (fun _ _ _ _ _ => (pg_name (i := 8) scNamesL.nd rfl (Or.inl rfl))) (fun _ _ _ _ _ => qts_nil) (fun _ _ _ _ _ => (q_add (q_add (q_join q_str (q_sl false (q_var (pv 5)) qo_none (qo_some (q_var (pv 6))))) (q_var (pv 8))) (q_join q_str (q_sl false (q_var (pv 5)) (qo_some (q_var (pv 6))) qo_none))))))))))))), fun ds S Qd Ed h => ?_⟩
  · obtain ⟨n, k, many, rfl, _⟩ := h
    rfl
  · obtain ⟨n, k, many, rfl, D, m1, m2, q⟩ := h
    (dsimp only [dDelT, mPop0, mPop, mApp, mExt, dFld, dNew, dDGet, dDIn, dZipT, dAll, dTupF, dIdx, dTupRg, dDc, dReprT, dEqT, dNeT, dFor, dLc, dWhile, dRange1, dRange2, dRange3, dEnumT, e_isB, e_tupD, dgUnl, dSeq, dIfS, dSet, dAsg, dRet, dRetN, dDrop, dNext, dPar, dVar, dC, dOp, dB, dTru, dtNot, dtAnd, dtOr, dAnd, dOr, dNot, dIfE, dNeg, dNil, dCons, dTup, dLst, dCel, dNoP, dPart, dSlice, dRevT, dRevL, dCall, on1, dTupOf, dLstOf, dCelOf, dIsi, dName, dgNil, dgCons, dgTup, dFn, dMet, dMet0, gt, st, startD, wh_some, dYes, dEq, dNe, List.map, List.length, List.replicate, List.append, List.cons_append, List.nil_append, dWalk, uns, un, tupNms, dNms, ifT, ifF, List.replicate_succ, List.replicate_zero, Nat.sub_self, Nat.reduceSub, Nat.reduceAdd, Nat.zero_add, Bool.not_true, Bool.not_false, e_addI, e_addS, e_addT, e_addL, e_i2, e_i2c, e_is, e_bool, e_cel, e_strD, e_lenS, e_lenT, e_lenL, e_lenC, e_ixS, e_ixT, e_ixL, e_ixC, e_slS, e_slT, e_slL, e_slC, e_itT, e_itL, e_truN, e_truI, e_truB, e_truL, e_truT, e_okN, e_okB, e_okI, e_okS, e_okL, e_okT, e_okC, e_tupN, e_tupB, e_tupI, e_tupS, e_tupL, e_tupT, e_tupC, e_strN, e_strB, e_strI, e_strS, e_strL, e_strT, e_strC, e_intN, e_intB, e_intI, e_intS, e_intL, e_intT, e_intC, e_boolN, e_boolB, e_boolI, e_boolS, e_boolL, e_boolT, e_boolC, e_lstN, e_lstB, e_lstI, e_lstS, e_lstL, e_lstT, e_lstC, e_nonN, e_nonB, e_nonI, e_nonS, e_nonL, e_nonT, e_wkS, e_wkL, e_wkT, e_wkC, e_join, e_inS, e_ninS, e_ofI, e_ofB, e_abs, e_lenF, e_ixF, e_itF, e_wkF, e_tfF, e_truF, e_repT, e_keyI, e_keyS]; try simp only [true_and, and_true, Nat.reduceLeDiff, reduceIte, reduceCtorEq, Bool.false_eq_true, if_true, if_false, not_false_eq_true, ite_true, ite_false, and_self])
    refine any_nat (MvD.refl D) (by omega) (by omega) fun first S1 hf mv1 => ?_
    refine ⟨small_nat (by omega), fun i acc S' => i ≤ many ∧ S' = S1 ∧ acc = (List.range i).map fun t => PyData.str (chS (first + t)), ⟨Nat.zero_le _, rfl, rfl⟩, ?_, ?_, ?_⟩
    · rintro i acc S' ⟨hi, _, rfl⟩
      rw [List.length_map, List.length_range]
      omega
    · rintro i d acc S' hd ⟨hi, rfl, rfl⟩
      obtain ⟨li, rfl⟩ := rangeD_at hd
      have li' : i < many := by omega
      have e0 : ((first : Nat) : Int) + (0 + (i : Nat) * (1 : Int)) = ((first + i : Nat) : Int) := by omega
      rw [e_addI, e0, e_ixS]
      have lx : first + i < abcS.cps.toList.length := by rw [abc_len]; omega
      refine ⟨by decide +kernel, wh_mk (atI_nat (List.getElem?_eq_getElem lx)) ⟨by omega, rfl, ?_⟩⟩
      rw [List.range_succ, List.map_append]
      have : chS (first + i) = ⟨#[abcS.cps.toList[first + i]]⟩ := by
        unfold chS
        rw [List.getD_eq_getElem?_getD, List.getElem?_eq_getElem lx]
        rfl
      show _ = _ ++ [PyData.str (chS (first + i))]
      rw [this]
    rintro acc S' ⟨_, rfl, rfl⟩
    rw [rangeD_len, Int.toNat_natCast]
    have hlt : ∀ t ∈ List.range many, first + t < 26 := fun t ht => by
      have := List.mem_range.mp ht
      omega
    have enm : ((List.range many).map fun t => PyData.str (chS (first + t))) = ((List.range many).map fun t => chS (first + t)).map PyData.str := by rw [List.map_map]; rfl
    rw [enm]
    have nmF : ∀ z ∈ (List.range many).map fun t => chS (first + t), From abcS.cps.toList 1 z := fun z hz => by
      obtain ⟨t, ht, rfl⟩ := List.mem_map.mp hz
      exact chS_from (hlt t ht)
    have nmN : ((List.range many).map fun t => chS (first + t)).Nodup := by
      refine List.pairwise_map.mpr (List.Pairwise.imp_of_mem (fun {x y} hx hy ne e => ne ?_) List.nodup_range)
      have := chS_inj (hlt x hx) (hlt y hy) e
      omega
    have nmL : ((List.range many).map fun t => chS (first + t)).length = many := by rw [List.length_map, List.length_range]
    generalize ((List.range many).map fun t => chS (first + t)) = nms at nmF nmN nmL
    refine any_nat mv1 (by decide) (by decide) fun x S2 _ mv2 => ⟨.inl ⟨rfl, rfl, nofun, nofun⟩, ?_⟩
    cases PyData.eqv (.int (x : Nat)) (.int 0) with
    | true =>
      rw [ifT]
      exact q nms S2 nmL nmN (fun z hz => nmz_from (nmF z hz) (by decide)) mv2
    | false =>
      rw [ifF]
      refine any_nat mv2 (by decide) (by decide) fun y S3 hy mv3 => ?_
      rw [e_addI]
      dsimp only
      refine ⟨⟨by omega, by omega⟩, fun i acc S' => i ≤ 7 ∧ MvD n k S S' ∧ ∃ zs : List Str, acc = zs.map PyData.str ∧ zs.length = i ∧ ∀ z ∈ zs, From abcS.cps.toList 1 z, ⟨by decide, mv3, [], rfl, rfl, by simp⟩, ?_, ?_, ?_⟩
      · rintro i acc S' ⟨hi, _, zs, rfl, l, _⟩
        rw [List.length_map]
        omega
      · rintro i d acc S' hd ⟨hi, mv', zs, rfl, l, hz⟩
        obtain ⟨li, rfl⟩ := rangeD_at hd
        refine ⟨n, k, _, rfl, mv'.D, .inr ⟨abcS, rfl, by decide +kernel, by decide +kernel, fun c S4 hc m4 => ⟨by omega, mv'.trans m4, zs ++ [⟨#[c]⟩], by rw [List.map_append]; rfl, by rw [List.length_append, l]; rfl, fun z h => ?_⟩⟩⟩
        rcases List.mem_append.mp h with h | h
        · exact hz z h
        · rw [List.mem_singleton] at h
          rw [h]
          exact from_one hc
      rintro acc S4 ⟨l7, mv4, zs, rfl, l, hz⟩
      have lz : zs.length ≤ 7 := by omega
      rw [List.length_map]
      refine any_nat mv4 (by omega) (by omega) fun p S5 hp mv5 => ?_
      have lp : p ≤ zs.length := by omega
      dsimp only
      have c1 : cutD (zs.map PyData.str) none (some (p : Nat)) = (zs.take p).map PyData.str := by rw [cutD_to (by rw [List.length_map]; exact lp), List.map_take]
      have c2 : cutD (zs.map PyData.str) (some (p : Nat)) none = (zs.drop p).map PyData.str := by rw [cutD_from (by rw [List.length_map]; exact lp), List.map_drop]
      rw [c1, c2, strsD_map, strsD_map]
      have h1 : ∀ z ∈ zs.take p, From abcS.cps.toList 1 z := fun z h => hz z (List.mem_of_mem_take h)
      have h2 : ∀ z ∈ zs.drop p, From abcS.cps.toList 1 z := fun z h => hz z (List.mem_of_mem_drop h)
      have jA := join_fromT _ h1
      have jB := join_fromT _ h2
      have l0 : (Str.ofString "").length = 0 := by decide
      have s1 := sum_from _ h1
      have s2 := sum_from _ h2
      have t1 : (zs.take p).length ≤ 7 := by rw [List.length_take]; omega
      have t2 : (zs.drop p).length ≤ 7 := by rw [List.length_drop]; omega
      have t3 : (zs.take p).length + (zs.drop p).length = zs.length := by rw [List.length_take, List.length_drop]; omega
      generalize zs.take p = za at jA s1 t1 t3 ⊢
      generalize zs.drop p = zb at jB s2 t2 t3 ⊢
      simp only [wh_some]
      rw [s1, s2, l0]
      generalize Txt.join (Str.ofString "") za = A at jA ⊢
      generalize Txt.join (Str.ofString "") zb = B at jB ⊢
      refine ⟨fun i acc S' => S' = S5 ∧ i ≤ many ∧ acc = ((nms.take i).map fun o => A ++ o ++ B).map PyData.str, ⟨rfl, Nat.zero_le _, rfl⟩, ?_, ?_, ?_⟩
      · rintro i acc S' ⟨_, hi, rfl⟩
        rw [List.length_map, List.length_map, List.length_take]
        omega
      · rintro i d acc S' hd ⟨rfl, hi, rfl⟩
        rw [List.getElem?_map] at hd
        obtain ⟨o, ho, rfl⟩ := Option.map_eq_some_iff.mp hd
        have lo := (List.getElem?_eq_some_iff.mp ho).1
        have fo := nmF o (List.mem_of_getElem? ho)
        refine ⟨by omega, ?_⟩
        rw [e_addS]
        refine ⟨by rw [jA.len, fo.len]; omega, by omega, ?_⟩
        rw [e_addS]
        refine ⟨by rw [strLen_append, jA.len, fo.len, jB.len]; omega, rfl, by omega, ?_⟩
        rw [take_more ho, List.map_append, List.map_append]
        rfl
      · rintro acc S' ⟨rfl, _, rfl⟩
        rw [List.length_map, List.take_length]
        refine q _ _ (by rw [List.length_map]; exact nmL) ?_ (fun z hz' => ?_) mv5
        · refine List.pairwise_map.mpr (List.Pairwise.imp (fun {x y} ne e => ne ?_) nmN)
          have e2 := congrArg (fun z : Str => z.cps.toList) e
          try dsimp only at e2
          rw [cps_app, cps_app, cps_app, cps_app] at e2
          exact str_ext (List.append_cancel_left (List.append_cancel_right e2))
        · obtain ⟨o, ho, rfl⟩ := List.mem_map.mp hz'
          exact nmz_from (from_app (from_app jA (nmF o ho)) jB) (by omega)
theorem ok_some {f : Addr} {fd : FuncData} (F : Fun K "_law_some" "_law_some" sSome f fd) (T : NmTxt K mg a_law_any a_law_of a_law_node a_law_forest) (G_law_of : FnOk P w K mg base CX0 2 a_law_of d2 ["draws", "some"] (spD K spOfD)) (b_law_of : Binds K d2 ["draws", "some"] [])
    (G_law_node : FnOk P w K mg base CX0 5 a_law_node d3 ["draws", "names", "most"] (spD K spNod)) (b_law_node : Binds K d3 ["draws", "names", "most"] []) (G_law_forest : FnOk P w K mg base CX0 4 a_law_forest d4 ["draws", "names", "most"] (spD K spFor)) (b_law_forest : Binds K d4 ["draws", "names", "most"] []) : FnOk P w K mg base CX0 6 f fd ["draws", "names"] (spD K spSomeD) := by
  refine dok F scSome (fun ds S Q E h => ?_) fun cdv A outer s H Q E (hr : Room 5 _) => ⟨_, (qss_one (qs_ret (q_call hr G_law_of T.g_law_of T.k_law_of b_law_of (by rfl) (by decide) (q_cons (q_var (pv 0)) (q_cons (q_lst (q_cons (q_tup q_nil) (q_cons (q_tup (q_cons q_str q_nil)) (q_cons (q_tup (q_cons (q_call hr G_law_node T.g_law_node T.k_law_node b_law_node (by rfl) (by decide) (q_cons (q_var (pv 0)) (q_cons (q_var (pv 1)) (q_cons q_int q_nil)))) q_nil)) (q_cons (q_tup (q_cons (q_call hr G_law_node T.g_law_node T.k_law_node b_law_node (by rfl) (by decide) (q_cons (q_var (pv 0)) (q_cons (q_var (pv 1)) (q_cons q_int q_nil)))) q_nil)) (q_cons (q_call hr G_law_forest T.g_law_forest T.k_law_forest b_law_forest (by rfl) (by decide) (q_cons (q_var (pv 0)) (q_cons (q_var (pv 1)) (q_cons q_int q_nil)))) (q_cons (q_call hr G_law_forest T.g_law_forest T.k_law_forest b_law_forest (by rfl) (by decide) (q_cons (q_var (pv 0)) (q_cons (q_var (pv 1)) (q_cons q_int q_nil)))) q_nil))))))) q_nil))))), fun ds S Qd Ed h => ?_⟩
  · obtain ⟨n, k, ns, rfl, _⟩ := h
    rfl
  · obtain ⟨n, k, ns, rfl, D, hn, hl, hz, q⟩ := h
    (dsimp only [dDelT, mPop0, mPop, mApp, mExt, dFld, dNew, dDGet, dDIn, dZipT, dAll, dTupF, dIdx, dTupRg, dDc, dReprT, dEqT, dNeT, dFor, dLc, dWhile, dRange1, dRange2, dRange3, dEnumT, e_isB, e_tupD, dgUnl, dSeq, dIfS, dSet, dAsg, dRet, dRetN, dDrop, dNext, dPar, dVar, dC, dOp, dB, dTru, dtNot, dtAnd, dtOr, dAnd, dOr, dNot, dIfE, dNeg, dNil, dCons, dTup, dLst, dCel, dNoP, dPart, dSlice, dRevT, dRevL, dCall, on1, dTupOf, dLstOf, dCelOf, dIsi, dName, dgNil, dgCons, dgTup, dFn, dMet, dMet0, gt, st, startD, wh_some, dYes, dEq, dNe, List.map, List.length, List.replicate, List.append, List.cons_append, List.nil_append, dWalk, uns, un, tupNms, dNms, ifT, ifF, List.replicate_succ, List.replicate_zero, Nat.sub_self, Nat.reduceSub, Nat.reduceAdd, Nat.zero_add, Bool.not_true, Bool.not_false, e_addI, e_addS, e_addT, e_addL, e_i2, e_i2c, e_is, e_bool, e_cel, e_strD, e_lenS, e_lenT, e_lenL, e_lenC, e_ixS, e_ixT, e_ixL, e_ixC, e_slS, e_slT, e_slL, e_slC, e_itT, e_itL, e_truN, e_truI, e_truB, e_truL, e_truT, e_okN, e_okB, e_okI, e_okS, e_okL, e_okT, e_okC, e_tupN, e_tupB, e_tupI, e_tupS, e_tupL, e_tupT, e_tupC, e_strN, e_strB, e_strI, e_strS, e_strL, e_strT, e_strC, e_intN, e_intB, e_intI, e_intS, e_intL, e_intT, e_intC, e_boolN, e_boolB, e_boolI, e_boolS, e_boolL, e_boolT, e_boolC, e_lstN, e_lstB, e_lstI, e_lstS, e_lstL, e_lstT, e_lstC, e_nonN, e_nonB, e_nonI, e_nonS, e_nonL, e_nonT, e_wkS, e_wkL, e_wkT, e_wkC, e_join, e_inS, e_ninS, e_ofI, e_ofB, e_abs, e_lenF, e_ixF, e_itF, e_wkF, e_tfF, e_truF, e_repT, e_keyI, e_keyS]; try simp only [true_and, and_true, Nat.reduceLeDiff, reduceIte, reduceCtorEq, Bool.false_eq_true, if_true, if_false, not_false_eq_true, ite_true, ite_false, and_self])
    refine ⟨n, k, ns, 5, rfl, D, hn, hl, hz, by decide, fun q1 t1 S1 a1 b1 c1 v1 => ?_⟩
    refine ⟨n, k, ns, 5, rfl, v1.D, hn, hl, hz, by decide, fun q2 t2 S2 a2 b2 c2 v2 => ?_⟩
    refine ⟨n, k, ns, 7, rfl, v2.D, hn, hl, hz, by decide, fun t3 S3 a3 b3 c3 v3 => ?_⟩
    refine ⟨n, k, ns, 7, rfl, v3.D, hn, hl, hz, by decide, fun t4 S4 a4 b4 c4 v4 => ?_⟩
    refine ⟨n, k, _, rfl, v4.D, .inl ⟨_, rfl, by show 0 < 6; decide, by show 6 < 1000000; decide, fun d S5 hd v5 => ?_⟩⟩
    have mv := (((v1.trans v2).trans v3).trans v4).trans v5
    simp only [List.mem_cons, List.not_mem_nil, or_false] at hd
    rcases hd with rfl | rfl | rfl | rfl | rfl | rfl
    · exact q [] S5 trivial trivial (by decide) mv
    · exact q [.txt (Str.ofString "")] S5 ⟨trivial, trivial⟩ ⟨⟨by decide +kernel, by decide⟩, trivial⟩ (by decide) mv
    · exact q [.nod q1 t1] S5 ⟨a1, trivial⟩ ⟨b1, trivial⟩ (by show 1 + trC t1 + 0 ≤ 7; omega) mv
    · exact q [.nod q2 t2] S5 ⟨a2, trivial⟩ ⟨b2, trivial⟩ (by show 1 + trC t2 + 0 ≤ 7; omega) mv
    · exact q t3 S5 a3 b3 c3 mv
    · exact q t4 S5 a4 b4 c4 mv
end
end K3

/-! the plain layer: a call by keywords, the last one first -/
namespace K3
open PySem L2 Xr K1
theorem valsA : ∀ {a : List V} {b : List Value} {c : List V} {d : List Value}, Vals a b → Vals c d → Vals (a ++ c) (b ++ d)
  | _, _, _, _, .nil, h => h
  | _, _, _, _, .cons r t, h => .cons r (valsA t h)
theorem valsR : ∀ {a : List V} {b : List Value}, Vals a b → Vals a.reverse b.reverse
  | _, _, .nil => .nil
  | _, _, .cons r t => by
    rw [List.reverse_cons, List.reverse_cons]
    exact valsA (valsR t) (.cons r .nil)
section
variable {X : Cx} {CX : CXT} {j k : Nat} {f : Addr} {fd : FuncData} {ps : List Str} {sp : SpD} {x : Str} {p pos : Pos} {e : Expr} {es : List Expr} {aa : DA}
/-- keywords alone bind, the last one first -/
def BindsR (fd : FuncData) (ps ks : List Str) : Prop := ∀ (s : Shared) (us : List Value), us.length = ps.length → BindsTo s fd ⟨[], ks.zip us⟩ (ps.zip us.reverse)
theorem pe_kwR {CX : CXT} {sp : Sp} {ks : List Str} {kws : List Keyword} {E : L2.St → XK} {ta : TA} (F : FnOk X.prog X.w X.K X.mg X.base CX k f fd ps sp) (hr : Room k X.A) (hg : Gl X x) (hm : X.mg x = some (.ref f)) (kp : PySem.W.keepIn X.K (.ref f) = true) (hb : BindsR fd ps ks)
    (hx : ∀ σ, PassesAt CX X σ (E σ)) (hkw : PK X kws ta)
    (hall : (backToKw pos (keywordEach kws X.env)).all (·.1.isSome) = true) (hks : (backToKw pos (keywordEach kws X.env)).filterMap (·.1) = ks) (hdb : (x == ("__debug__" : Str)) = false)
    (hpl : ((backTo pos (starEach [] X.env)).any (·.1) || (backToKw pos (keywordEach kws X.env)).any (·.1.isNone)) = false) :
    PE X (.Call (.Name x p) [] kws pos) (fun σ H Q => ta σ H fun vs H1 => sp vs.reverse H1 Q (E σ)) := by
  refine ⟨fun pins s σ H Q I h => ?_⟩
  refine PySem.wpAny_Call_Name_kw (ld_glob I hg hm ?_ hdb)
  refine PySem.W.callWith_KW0 (h₀ := X.base) I.ok.mod.kin kp hall ?_ hpl
  refine thn (hkw.run pos pins s σ H _ I h) fun ws s2 ⟨zs, H2, I2, rz, q⟩ => ⟨I2.kIn, ?_⟩
  rw [hks]
  have rr := valsR rz
  have lens : ws.length = ps.length := by
    have := F.len _ _ _ _ q
    rw [List.length_reverse] at this
    rw [← rz.length]
    exact this
  refine PySem.wpAny_call (codeAny_mono (F.run X.A X.stack s2 H2 ⟨[], ks.zip ws⟩ ws.reverse zs.reverse Q (E σ) hr I2.env0 (hb s2 ws lens) rr q) fun r s' hq => ?_)
  cases r with
  | error e => exact hx σ pins H2 s2 e s' I2 hq
  | ok fl =>
    cases fl with
    | ret u => exact I2.after hq
    | next => exact False.elim hq
    | brk => exact False.elim hq
    | cont => exact False.elim hq
def dFnR (sp : SpD) (aa : DA) : DE := fun ρ S Q => aa ρ S fun ds S1 => sp ds.reverse S1 Q X0
theorem q_kwR {ks : List Str} {kws : List Keyword} (hr : Room k X.A) (F : FnOk X.prog X.w X.K X.mg X.base CX0 j f fd ps (spD X.K sp)) (hm : X.mg x = some (.ref f)) (hk : PySem.W.keepIn X.K (.ref f) = true) (hb : BindsR fd ps ks) (hg : Gl X x) (hl : j ≤ k) (hkw : QK X kws aa)
    (hall : (backToKw pos (keywordEach kws X.env)).all (·.1.isSome) = true := by rfl) (hks : (backToKw pos (keywordEach kws X.env)).filterMap (·.1) = ks := by rfl) (hdb : (x == ("__debug__" : Str)) = false := by decide)
    (hpl : ((backTo pos (starEach [] X.env)).any (·.1) || (backToKw pos (keywordEach kws X.env)).any (·.1.isNone)) = false := by rfl) : QE X (.Call (.Name x p) [] kws pos) (dFnR sp aa) :=
  pe_weak (pe_kwR (E := fun _ => E0) F (hr.mono hl) hg hm hk hb (fun σ => at0K pass0 σ) hkw.p hall hks hdb hpl) fun σ H Q ⟨B, ρ, S, m, Qd, at_, q, k⟩ =>
    ⟨B, ρ, S, m, _, at_, q, fun ds S' vs H' m' q e w dv => ⟨m', S', ds.reverse, Qd, X0, w, dv.rev, q, k.up e, Kx.no⟩⟩
end
end K3

/-! the plain layer: three names at once -/
namespace K3
open PySem L2 Xr K1
section
variable {X : Cx} {e a b c : Expr} {pos : Pos} {aa : DA}
def dPar3 (i j l : Nat) (aa : DA) : DS := fun D ρ S => aa ρ S fun ds S1 => match ds with
  | [d, d', d2] => D.nx (st (st (st ρ i d) j d') l d2) S1
  | _ => False
theorem qs_par3 {i j l : Nat} {x y z : Str} {px py pz pt : Pos} {kt k2 pt2} (hc : X.calm = true) (hN : X.N.Nodup) (hi : X.N[i]? = some x) (hj : X.N[j]? = some y) (hl : X.N[l]? = some z) (hij : i ≠ j) (hil : i ≠ l) (hjl : j ≠ l)
    (hx : X.env.scope.names.lookup x = some .local) (hy : X.env.scope.names.lookup y = some .local) (hz : X.env.scope.names.lookup z = some .local) (ha : QA X [a, b, c] aa)
    (hw : swappedStores [.Tuple [.Name x px, .Name y py, .Name z pz] kt pt] (.Tuple [a, b, c] k2 pt2) X.env = pure (some [x, y, z]))
    (hs : swapsWithSole [.Tuple [.Name x px, .Name y py, .Name z pz] kt pt] (.Tuple [a, b, c] k2 pt2) pos.line X.env = pure false := by rfl) :
    QS X (.Assign [.Tuple [.Name x px, .Name y py, .Name z pz] kt pt] (.Tuple [a, b, c] k2 pt2) pos) (dPar3 i j l aa) := ps_weak (ps_par3 hc hN hi hj hl hij hil hjl hx hy hz ha hw hs) fun D σ H ⟨B, ρ, S, m, Dd, at_, q, k⟩ =>
  ⟨B, ρ, S, m, _, at_, q, fun ds S' vs H' m' q e w dv => by
    match ds, q, dv with
    | [d, d', d2], q, dv =>
      cases dv with
      | cons da r =>
        obtain ⟨y, z, rfl, dy, dz⟩ := dv2 r
        exact ⟨_, y, z, rfl, k.nx _ _ _ _ _ q ((((at_.step e w).setv da).setv dy).setv dz)⟩⟩
end
end K3

/-! the end of a law whose def asks repr -/
namespace Grd
open PySem PySem.Spec PyProof.Rows L2
theorem lawG {P : Program} {w : World} {K : PySem.W.Frag} {mg mb : Str → Option Value} {k : Nat} {fa a : Addr} {fd : FuncData} {x : Str} {sp : Sp} {st : Shared} {vs : List Value} {ns : List Int}
    (inK : K.In st.heap) (ng : st.heap.Ns mainGlobals mg) (nb : st.heap.Ns builtinsNs mb) (bb : ∀ x : Str, x ≠ "__name__" → mb x = bootBuiltins x) (nl : st.heap.NoLimit) (gn : st.gens = #[])
    (sa : st.heap.get? a = some { cls := .type "list", data := .seq vs.toArray }) (ia : IntsAre vs ns) (few : ns.length ≤ sizeLine) (hr : Room k callerA)
    (F : ∀ base : Heap, K.In base → base.Ns mainGlobals mg → FnG P w K mg base CX0 k fa fd [x] sp) (bi : ∀ (s : Shared) (u : Value), BindsTo s fd ⟨[u], []⟩ [(x, u)])
    (hs : ∀ H : Hp, SqL K H a (ns.map V.int) → sp [.ref a] H (fun v _ => v = .bl true) fun _ _ _ => False) :
    codeAny (model P w) callerA (.call (.ref fa) ⟨[.ref a], []⟩) (fun r s' => r = .ok (.ret (.bool true)) ∧ PySem.OldK st.heap s'.heap ∧ s'.os = st.os ∧ AllBare s'.gens) st := by
  have rel := vals_ints ia
  have lens := ia.length
  -- what is tracked at the entry: nothing, or the script alone
  have go : ∀ H : Hp, (∀ b, H b = none ∨ (b = a ∧ H b = some (.frz { cls := .type "list", data := .seq vs.toArray } (.lst (ns.map V.int))))) → SqL K H a (ns.map V.int) → HOk P w H st.heap → (H a ≠ none → K.lookup a = none) →
      codeAny (model P w) callerA (.call (.ref fa) ⟨[.ref a], []⟩) (fun r s' => r = .ok (.ret (.bool true)) ∧ PySem.OldK st.heap s'.heap ∧ s'.os = st.os ∧ AllBare s'.gens) st := by
    intro H only sq hok notK
    have isA : ∀ {b : Addr}, H b ≠ none → b = a := fun {b} h => (only b).elim (fun z => absurd z h) fun z => z.1
    have free : ∀ {b : Addr} {o : Obj} {es : Array DictEntry} {ep : Nat}, st.heap.get? b = some o → o.data = .dict es ep → H b = none := fun {b o es ep} e d => by
      rcases only b with z | ⟨rfl, z⟩
      · exact z
      · rw [sa] at e
        cases e
        have d' : Data.seq vs.toArray _ = Data.dict es ep := d
        cases d'
    have hid : ∀ {b : Addr} {m : Str → Option Value}, st.heap.Ns b m → (hidT st.heap H).Ns b m := fun {b m} ⟨o, es, ep, e, d, r⟩ => ⟨o, es, ep, hidT_get e (free e d), d, r⟩
    have kb : K.In (hidT st.heap H) := fun b o e => by
      refine hidT_get (inK b o e) ?_
      rcases only b with z | ⟨rfl, z⟩
      · exact z
      · rw [notK (by rw [z]; simp)] at e
        cases e
    have md : Mod K mg (hidT st.heap H) := by
      obtain ⟨mc, c1, c2⟩ := nl
      exact ⟨kb, hid ng, ⟨mb, hid nb, bb⟩, ⟨mc, hid c1, c2⟩⟩
    have ev : Env0 P w K mg (hidT st.heap H) callerA [] st H := ⟨rfl, md, fun b o e => of_hidT e, Nat.le_of_eq (hidT_size _ _), trivial, fun b hb => absurd (show b ∈ ([] : List Addr) from hb) (by simp), hok, .of_eq gn⟩
    have run := (F _ kb (hid ng)).run callerA [] st H ⟨[.ref a], []⟩ [.ref a] [.ref a] _ _ rfl hr ev (bi st (.ref a)) (.cons rfl .nil) (hs H sq)
    refine codeAny_mono run fun r s' q => ?_
    cases r with
    | error e => exact q.elim
    | ok fl =>
      cases fl with
      | next => exact q.elim
      | brk => exact q.elim
      | cont => exact q.elim
      | ret u =>
        obtain ⟨v, H', os, bare, un, hok', rv, ev⟩ := q
        have ev' : v = .bl true := ev
        subst ev'
        cases (show u = Value.bool true from rv)
        refine ⟨rfl, PySem.OldK.of_keep fun b o e => ?_, os, bare⟩
        rcases only b with z | ⟨rfl, z⟩
        · exact un.keep b o e z (by intro h; exact absurd (show b ∈ ([] : List Addr) from h) (by simp)) (by simp)
        · have z2 := un.frzs _ _ _ z
          obtain ⟨g1, _⟩ := hok _ _ z
          obtain ⟨g2, _⟩ := hok' _ _ z2
          rw [e] at g1
          cases g1
          exact g2
  cases hk : K.lookup a with
  | some o =>
    have e := inK a o hk
    rw [sa] at e
    cases e
    exact go (fun _ => none) (fun _ => .inl rfl) (.inr ⟨_, vs.toArray, _, hk, rfl, rfl, rfl, by rw [List.size_toArray, lens]; exact few, by simpa using rel⟩) (fun b u z => by
      have z' : (none : Option HO) = some u := z
      cases z') fun z => absurd rfl z
  | none =>
    refine go (fun b => if b = a then some (.frz { cls := .type "list", data := .seq vs.toArray } (.lst (ns.map V.int))) else none) (fun b => ?_) (.inl (.inr ⟨_, if_pos rfl⟩)) (fun b u z => ?_) fun _ => hk
    · by_cases hb : b = a
      · exact .inr ⟨hb, if_pos hb⟩
      · exact .inl (if_neg hb)
    · by_cases hb : b = a
      · have z' := (if_pos hb).symm.trans z
        cases z'
        subst hb
        exact ⟨sa, by rw [List.length_map]; exact few, vs, _, rel, sa⟩
      · have z' := (if_neg hb).symm.trans z
        cases z'
theorem walkG {l : PySem.W.OpenLaw} {n k : Nat} {q : Program} {loose : List Str} {XP : (Str → Option Value) → Heap → Prop} {YP : World → Heap → Prop} {d : DefRec} {K : Params → PySem.W.Frag} {sp : PySem.W.Frag → Sp} {x : Str}
    (hn : l.most = some n) (h2 : n ≤ sizeLine) (hd : d.params.defaults = []) (hr : Room k callerA) (hY : ∀ (w : World) (h : Heap), YP w h → (K w.params).In h)
    (F : ∀ (w : World) (mg : Str → Option Value) (fa : Addr) (h : Heap), (K w.params).In h → h.Ns mainGlobals mg → mg d.name = some (.ref fa) →
      ∃ fd : FuncData, (∀ (s : Shared) (u : Value), BindsTo s fd ⟨[u], []⟩ [(x, u)]) ∧ ∀ base : Heap, (K w.params).In base → base.Ns mainGlobals mg → FnG l.prog w (K w.params) mg base CX0 k fa fd [x] (sp (K w.params)))
    (hs : ∀ (K : PySem.W.Frag) (H : Hp) (a : Addr) (ns : List Int), ns.length ≤ n → SqL K H a (ns.map V.int) → sp K [.ref a] H (fun v _ => v = .bl true) fun _ _ _ => False) :
    PySem.W.WalkO q loose XP YP l.row.toRowW d [] (fun f vs => PySem.call f vs) := by
  refine Att.attach_call hn hd fun w s₀ st mg mb fa o pm cd doc a vs ns G Y ho hdt hcd hmg hobj hints hlen hg => ?_
  have inK := hY w _ Y
  obtain ⟨fd, hb, hF⟩ := F w mg fa _ inK G.T.g hmg
  exact lawG inK G.T.g G.T.b G.T.builtins G.T.nolimit hg hobj hints (Nat.le_trans hlen h2) hr hF hb fun H sq => hs _ H a ns hlen sq
end Grd

/-! the plain layer: a law's begin and end -/
namespace K3
open PySem L2 Xr K1
theorem deal_wd {K : PySem.W.Frag} {H : Hp} {d c : Addr} (D : DealAt H d c) : ∃ m S, Wd K m H S ∧ DealD S 0 1 ∧ m.c 0 = some d := by
  obtain ⟨cs, b, h1, h2, r⟩ := D.ex
  have dc : d ≠ c := fun e => by
    rw [e, h2] at h1
    have := HO.lst.inj (Option.some.inj h1)
    cases cs with
    | nil => cases this
    | cons x xs =>
      have e2 := (List.cons.inj this).1
      cases e2
  let m : Mp := ⟨fun k => if k = 0 then some d else if k = 1 then some c else none, fun _ => False⟩
  have m0 : m.c 0 = some d := rfl
  have m1 : m.c 1 = some c := rfl
  have mn : ∀ n a, m.c n = some a → (n = 0 ∧ a = d) ∨ (n = 1 ∧ a = c) := fun n a e => by
    have e' : (if n = 0 then some d else if n = 1 then some c else none) = some a := e
    by_cases z : n = 0
    · rw [if_pos z] at e'
      exact .inl ⟨z, (Option.some.inj e').symm⟩
    · rw [if_neg z] at e'
      by_cases y : n = 1
      · rw [if_pos y] at e'
        exact .inr ⟨y, (Option.some.inj e').symm⟩
      · rw [if_neg y] at e'
        cases e'
  refine ⟨m, put (put S0 0 (.lst [cel 1, .int b])) 1 (.lst (cs.map PyData.int)), ⟨?_, ?_, ⟨2, fun n hn => ?_⟩, ?_, fun _ _ _ h => h, fun _ h => h.elim⟩, ⟨cs, b, by rw [put_ne (by decide), put_same], put_same, r⟩, m0⟩
  · intro i j a h1 h2
    rcases mn i a h1 with ⟨rfl, rfl⟩ | ⟨rfl, rfl⟩ <;> rcases mn j _ h2 with ⟨rfl, e⟩ | ⟨rfl, e⟩
    · rfl
    · exact absurd e dc
    · exact absurd e.symm dc
    · rfl
  · intro n a h
    rcases mn n a h with ⟨rfl, rfl⟩ | ⟨rfl, rfl⟩
    · exact ⟨_, h1⟩
    · exact ⟨_, h2⟩
  · show (if n = 0 then some d else if n = 1 then some c else none) = none
    rw [if_neg (by omega), if_neg (by omega)]
  · intro n cc e
    by_cases z : n = 1
    · rw [z, put_same] at e
      cases e
      exact ⟨c, by rw [z]; exact m1, _, h2, ints_dv cs⟩
    · rw [put_ne z] at e
      by_cases y : n = 0
      · rw [y, put_same] at e
        cases e
        exact ⟨d, by rw [y]; exact m0, _, h1, .cons (.cel m1) (.cons (.int _) .nil)⟩
      · rw [put_ne y] at e
        cases e
/-- what a law promises -/
def spLaw (K : PySem.W.Frag) : Sp := fun vs H Q _ => ∃ (a : Addr) (ns : List Int), vs = [.ref a] ∧ SqL K H a (ns.map V.int) ∧ ns.length ≤ 63 ∧ ∀ H', Q (.bl true) H'
/-- a law whose first row makes the deal -/
theorem law_go {K : PySem.W.Frag} {W : L2.WX} {t2 : DS} {salt : Int} (sa0 : 0 ≤ salt) (sa1 : salt < 200) {N : List Str} {a : Addr} {ns : List Int} {H : Hp} {Q : VK} (hS : SqL K H a (ns.map V.int)) (l : ns.length ≤ 63) (k : ∀ H', Q (.bl true) H') (hN : 2 ≤ N.length)
    (p : ∀ S n k', DealD S n k' → t2 { nx := fun _ _ => False, rt := fun d _ => d = .bool true } (none :: some (cel n) :: List.replicate (N.length - 2) none) S) :
    tSeq (tAsg (tCall (spSource K) [] E0 (tCons (tVar 0) (tCons (tC (.int salt)) tNil))) (gName 1)) (lftS K W t2) { nx := fun _ H' => Q .non H', rt := Q } (L2.start N [.ref a]) H := by
  have e : L2.start N [.ref a] = some (.ref a) :: none :: List.replicate (N.length - 2) none := by
    unfold L2.start
    obtain ⟨n, hn⟩ : ∃ n, N.length = n + 2 := ⟨N.length - 2, by omega⟩
    rw [hn]
    rfl
  rw [e]
  refine ⟨.ref a, rfl, a, ns, salt, rfl, hS, l, sa0, sa1, fun d c H' D s h1 h2 => ?_⟩
  obtain ⟨m, S, w, DD, md⟩ := deal_wd (K := K) D
  refine ⟨(m, H'), none :: some (cel 0) :: List.replicate (N.length - 2) none, S, m, _, ⟨Evo.refl, w, ?_⟩, p S 0 1 DD, ?_⟩
  · refine ⟨fun z q => (nomatch q), fun z q => ?_, Fr.none _⟩
    cases q
    exact ⟨_, rfl, .cel md⟩
  · exact ⟨fun _ _ _ _ _ q _ => q.elim, fun d S v H2 m2 q e w dv => by
      subst q
      cases dv
      exact k H2, fun _ _ _ _ _ q _ => q.elim, fun _ _ _ _ _ q _ => q.elim, Lk.no⟩
/-- the blocks within -/
def fbody : Stmt → List Stmt
  | .For _ _ b _ _ => b
  | .While _ b _ _ => b
  | .If _ b _ _ => b
  | _ => []
def orelse : Stmt → List Stmt
  | .If _ _ b _ => b
  | _ => []
theorem for_body {a b : Expr} {c d : List Stmt} {p : Pos} : fbody (.For a b c d p) = c := rfl
end K3

/-! how great the texts of data are -/
namespace K1
open PySem L2
/-- a short plain text -/
structure Plain (n : Nat) (z : Str) : Prop where
  len : z.length ≤ n
  low : ∀ ch ∈ z.cps.toList, ch < 128
theorem canLay_plain {n : Nat} {z : Str} (h : Plain n z) : PyData.canLay0 (.str z) = true := by
  unfold PyData.canLay0
  show (z.cps.all fun x => decide (x < 0x110000)) = true
  rw [Array.all_eq_true']
  intro ch hc
  have := h.low ch (by simpa using hc)
  simp
  omega
structure Rp (n B : Nat) (d : PyData) : Prop where
  lay : d.canLay0 = true
  dep : d.depth ≤ n
  sh : d.showable = true
  len : d.shown.length ≤ B
theorem rp_all {n B : Nat} : ∀ (ds : List PyData), (∀ x ∈ ds, Rp n B x) → PyData.canLayAll0 ds = true ∧ PyData.depthAll ds ≤ n ∧ PyData.showableAll ds = true ∧ piled (PyData.shownAll ds) ≤ ds.length * (B + 2)
  | [], _ => by
    refine ⟨rfl, ?_, rfl, ?_⟩
    · unfold PyData.depthAll
      exact Nat.zero_le _
    · unfold PyData.shownAll
      exact Nat.zero_le _
  | x :: ds, h => by
    obtain ⟨a, b, c, e⟩ := rp_all ds fun y hy => h y (List.mem_cons_of_mem _ hy)
    have hx := h x (List.mem_cons_self ..)
    have l := hx.len
    refine ⟨?_, ?_, ?_, ?_⟩
    · unfold PyData.canLayAll0
      rw [hx.lay, a]
      rfl
    · unfold PyData.depthAll
      have := hx.dep
      omega
    · unfold PyData.showableAll
      rw [hx.sh, c]
      rfl
    · unfold PyData.shownAll
      rw [piled_cons, List.length_cons, Nat.succ_mul]
      omega
theorem join_le (ts : List Str) : (Str.join ", " ts).length ≤ piled ts := by
  by_cases h : ts = []
  · subst h
    exact Nat.zero_le _
  · have := join_length_add ts h
    omega
/-- a tuple by what its things are together -/
theorem rp_tupA {n C : Nat} {ds : List PyData} (a : PyData.canLayAll0 ds = true) (b : PyData.depthAll ds ≤ n) (c : PyData.showableAll ds = true) (e : piled (PyData.shownAll ds) ≤ C) : Rp (n + 1) (C + 3) (.tuple ds) := by
  refine ⟨?_, ?_, ?_, ?_⟩
  · unfold PyData.canLay0
    exact a
  · unfold PyData.depth
    omega
  · unfold PyData.showable
    exact c
  · unfold PyData.shown tupleText
    rw [strLen_append, strLen_append]
    have j := join_le (PyData.shownAll ds)
    have e1 : (("(" : String) : Str).length = 1 := rfl
    have e2 : ((if (PyData.shownAll ds).length == 1 then ",)" else ")" : String) : Str).length ≤ 2 := by split <;> decide
    rw [e1]
    omega
theorem rp_tup {n B : Nat} {ds : List PyData} (h : ∀ x ∈ ds, Rp n B x) : Rp (n + 1) (ds.length * (B + 2) + 3) (.tuple ds) := by
  obtain ⟨a, b, c, e⟩ := rp_all ds h
  exact rp_tupA a b c e
theorem Rp.mono {n n' B B' : Nat} {d : PyData} (h : Rp n B d) (a : n ≤ n') (b : B ≤ B') : Rp n' B' d := ⟨h.lay, Nat.le_trans h.dep a, h.sh, Nat.le_trans h.len b⟩
theorem rp_str {z : Str} (h : Plain 17 z) : Rp 0 300 (.str z) := by
  refine ⟨canLay_plain h, by unfold PyData.depth; exact Nat.le_refl _, rfl, ?_⟩
  unfold PyData.shown
  have r := StrLaws.reprText_len z fun ch hc => by
    have := h.low ch hc
    have : (128 : Nat) ≤ 16 ^ 8 := by decide
    omega
  have := h.len
  omega
theorem rp_none : Rp 0 300 .none := ⟨rfl, by unfold PyData.depth; exact Nat.le_refl _, rfl, by unfold PyData.shown; decide⟩
theorem rp_bool (b : Bool) : Rp 0 300 (.bool b) := ⟨rfl, by unfold PyData.depth; exact Nat.le_refl _, rfl, by unfold PyData.shown; cases b <;> decide⟩
theorem rp_int {i : Int} (h : i.natAbs < 1000000000) : Rp 0 300 (.int i) := by
  refine ⟨rfl, by unfold PyData.depth; exact Nat.le_refl _, ?_, ?_⟩
  · unfold PyData.showable
    have h2 : i.natAbs.log2 < 30 := by
      by_cases z : i.natAbs = 0
      · rw [z]
        decide
      · exact (Nat.log2_lt z).mpr (by omega)
    exact decide_eq_true (by omega)
  · unfold PyData.shown
    have q := int_text_length_le10 (a := i) (k := 9) (by decide) h
    show (Str.ofString (toString i)).length ≤ 300
    rw [ofString_length]
    omega
theorem Rp.ok {d : PyData} (r : Rp 150 10000000 d) : d.showable = true ∧ d.hasDict = false ∧ d.depth ≤ 150 ∧ d.shown.length ≤ sizeLine :=
  ⟨r.sh, PyData.hasDict_of_canLay _ r.lay, r.dep, by have := r.len; rw [sizeLine_eq]; omega⟩
theorem rp_ask {K : PySem.W.Frag} {H : Hp} {v : V} {d : PyData} {n B : Nat} {Q : VK} (h : Dp K H v d) (r : Rp n B d) (hn : n ≤ 150) (hB : B ≤ 10000000) (q : Q (.str d.shown) H) : Grd.rRepr K [v] H Q :=
  ⟨v, d, rfl, h, r.sh, PyData.hasDict_of_canLay _ r.lay, Nat.le_trans r.dep hn, by have := r.len; rw [sizeLine_eq]; omega, q⟩
theorem same_text (z : V) : (!decide (z = z)) = false := by simp
theorem same_textT (z : V) : decide (z = z) = true := by simp
end K1

/-! effects: the law -/
namespace K3
open PySem L2 Xr K1
abbrev sLaw : Stmt := top 35
theorem scLaw : FnScope ["script", "draws", "turn", "plain", "table", "names", "pair", "one", "other", "first", "second", "whole", "taken_v"] ["script"] (defScope sLaw) := ⟨rfl, rfl, rfl, by decide +kernel, rfl, by decide +kernel, by decide +kernel⟩
theorem rp_nats {l : List Nat} {b m : Nat} (h : ∀ x ∈ l, x < b) (hb : b ≤ 1000000) (hl : l.length ≤ m) : Rp 1 (m * 302 + 3) (.tuple (nats l)) := by
  have r : Rp 1 ((nats l).length * (300 + 2) + 3) (.tuple (nats l)) := rp_tup fun x hx => by
    obtain ⟨y, hy, rfl⟩ := List.mem_map.mp hx
    have := h y hy
    exact rp_int (by omega)
  refine r.mono (Nat.le_refl _) ?_
  rw [List.length_map]
  have := Nat.mul_le_mul_right 302 hl
  omega
theorem shown_sum {B : Nat} : ∀ ds : List PyData, (∀ x ∈ ds, x.shown.length ≤ B) → ((PyData.shownAll ds).map (·.length)).sum ≤ ds.length * B ∧ (PyData.shownAll ds).length = ds.length
  | [], _ => by
    unfold PyData.shownAll
    exact ⟨Nat.zero_le _, rfl⟩
  | x :: ds, h => by
    obtain ⟨a, b⟩ := shown_sum ds fun y hy => h y (List.mem_cons_of_mem _ hy)
    have := h x List.mem_cons_self
    unfold PyData.shownAll
    rw [List.map_cons, List.sum_cons, List.length_cons, List.length_cons, b, Nat.succ_mul]
    exact ⟨by omega, rfl⟩
theorem rp_lst {n B : Nat} {ds : List PyData} (h : ∀ x ∈ ds, Rp n B x) : Rp (n + 1) (ds.length * (B + 2) + 2) (.list ds) := by
  obtain ⟨a, b, c, e⟩ := rp_all ds h
  refine ⟨?_, ?_, ?_, ?_⟩
  · unfold PyData.canLay0
    exact a
  · unfold PyData.depth
    omega
  · unfold PyData.showable
    exact c
  · unfold PyData.shown listText
    obtain ⟨s1, s2⟩ := shown_sum ds fun x hx => (h x hx).len
    have t := textFrom_len_le (PyData.shownAll ds) 0 "["
    have e1 : (("[" : String) : Str).length = 1 := rfl
    have e2 : (("]" : String) : Str).length = 1 := rfl
    have l := strLen_append (textFrom 0 "[" (PyData.shownAll ds)) "]"
    rw [e2] at l
    rw [e1] at t
    rw [Nat.mul_add]
    show (textFrom 0 "[" (PyData.shownAll ds) ++ ("]" : Str)).length ≤ _
    rw [l]
    omega
theorem rp_q {n B : Nat} {d : PyData} (r : Rp n B d) (h1 : n ≤ 150) (h2 : B ≤ 10000000) : d.showable = true ∧ d.canLay0 = true ∧ d.depth ≤ 150 ∧ d.shown.length ≤ 10000000 := ⟨r.sh, r.lay, Nat.le_trans r.dep h1, Nat.le_trans r.len h2⟩
theorem eqOk_str (x y : Str) : eqOk (.str x) (.str y) := .inl ⟨rfl, rfl, fun _ _ e => (nomatch e), fun _ _ e => (nomatch e)⟩
theorem eqv_str (x : Str) : PyData.eqv (.str x) (.str x) = true := by show (x == x) = true; simp
theorem eqOk_bl (b : Bool) : eqOk (.bool b) (.bool b) := .inl ⟨rfl, rfl, fun _ _ _ e => (nomatch e), fun _ _ e => (nomatch e)⟩
theorem eqv_bl (b : Bool) : PyData.eqv (.bool b) (.bool b) = true := by cases b <;> rfl
theorem thaw_strs : ∀ l : List Str, thawAll (l.map PyData.str) = l.map PyData.str
  | [] => rfl
  | z :: l => by
    rw [List.map_cons, thawAll_cons, thaw_strs l]
    rfl
theorem thaw_nats : ∀ l : List Nat, thawAll (nats l) = nats l
  | [] => rfl
  | z :: l => by
    show thawAll (PyData.int (z : Nat) :: nats l) = _
    rw [thawAll_cons, thaw_nats l]
    rfl
theorem thaw_rows : ∀ l : List (List Nat), thawAll (l.map fun r => PyData.tuple (nats r)) = l.map fun r => PyData.tuple (nats r)
  | [] => rfl
  | z :: l => by
    rw [List.map_cons, thawAll_cons, thaw_rows l, thaw_tup, thaw_nats]
theorem thaw_pl (T : Tb) : thaw T.pl = .tuple [.tuple (T.ns.map PyData.str), .tuple (nats T.bs), .tuple (nats T.xs), .tuple (T.st.map fun r => .tuple (nats r)), .tuple (nats T.es)] := by
  show thaw (.tuple [frz (T.ns.map PyData.str), .tuple (nats T.bs), .tuple (nats T.xs), .tuple (T.st.map fun r => .tuple (nats r)), .tuple (nats T.es)]) = _
  rw [thaw_tup, thawAll_cons, thawAll_cons, thawAll_cons, thawAll_cons, thawAll_cons, thaw_frz, thaw_tup, thaw_tup, thaw_tup, thaw_tup, thaw_strs, thaw_nats, thaw_nats, thaw_nats, thaw_rows]
  rfl
theorem abc_low : ∀ c ∈ abcS.cps.toList, c < 128 := by decide +kernel
theorem pl_q {T : Tb} (o : T.ok) (lx : T.xs.length ≤ 6) (hz : ∀ z ∈ T.ns, NmZ z) (ln : T.ns.length ≤ 5) :
    (PyData.tuple [.tuple (T.ns.map PyData.str), .tuple (nats T.bs), .tuple (nats T.xs), .tuple (T.st.map fun r => .tuple (nats r)), .tuple (nats T.es)]).showable = true ∧ (PyData.tuple [.tuple (T.ns.map PyData.str), .tuple (nats T.bs), .tuple (nats T.xs), .tuple (T.st.map fun r => .tuple (nats r)), .tuple (nats T.es)]).canLay0 = true ∧
      (PyData.tuple [.tuple (T.ns.map PyData.str), .tuple (nats T.bs), .tuple (nats T.xs), .tuple (T.st.map fun r => .tuple (nats r)), .tuple (nats T.es)]).depth ≤ 150 ∧ (PyData.tuple [.tuple (T.ns.map PyData.str), .tuple (nats T.bs), .tuple (nats T.xs), .tuple (T.st.map fun r => .tuple (nats r)), .tuple (nats T.es)]).shown.length ≤ 10000000 := by
  have bl := o.bl
  have sl := o.sl
  have el := o.el
  have r1 : Rp 2 400000 (.tuple (T.ns.map PyData.str)) := (rp_tup (n := 0) (B := 300) fun x hx => by
    obtain ⟨z, h, rfl⟩ := List.mem_map.mp hx
    exact rp_str ⟨Nat.le_trans (hz z h).ok.2 (by decide), fun c hc => abc_low c ((hz z h).sub c hc)⟩).mono (by decide) (by rw [List.length_map]; omega)
  have r2 : Rp 2 400000 (.tuple (nats T.bs)) := (rp_nats (m := 10) o.bn (by omega) (by omega)).mono (by decide) (by decide)
  have r3 : Rp 2 400000 (.tuple (nats T.xs)) := (rp_nats (m := 10) o.xn (by omega) (by omega)).mono (by decide) (by decide)
  have r4 : Rp 2 400000 (.tuple (T.st.map fun r => .tuple (nats r))) := (rp_tup (n := 1) (B := 3023) fun x hx => by
    obtain ⟨z, h, rfl⟩ := List.mem_map.mp hx
    have q := o.sr z h
    exact rp_nats (m := 10) q.2 (by omega) (by omega)).mono (by decide) (by rw [List.length_map]; omega)
  have r5 : Rp 2 400000 (.tuple (nats T.es)) := (rp_nats (m := 1000) o.en (by omega) el).mono (by decide) (by decide)
  exact rp_q (rp_tup (n := 2) (B := 400000) fun x hx => by
    simp only [List.mem_cons, List.not_mem_nil, or_false] at hx
    rcases hx with rfl | rfl | rfl | rfl | rfl
    · exact r1
    · exact r2
    · exact r3
    · exact r4
    · exact r5) (by decide) (by show 5 * _ + 3 ≤ _; omega)
structure LawTxt (K : PySem.W.Frag) (mg : Str → Option Value) (C a_law_source a_law_any a_law_names a_law_drawn a_law_of_plain a_law_some a_law_effect a_effect_of a_both_effects a_is_one_taken a_law_state a_law_of_table : Addr) : Prop where
  n_repr : mg "repr" = none
  n_range : mg "range" = none
  n_list : mg "list" = none
  n_len : mg "len" = none
  n_isinstance : mg "isinstance" = none
  n_str : mg "str" = none
  g_law_source : mg "_law_source" = some (.ref a_law_source)
  k_law_source : PySem.W.keepIn K (.ref a_law_source) = true
  g_law_any : mg "_law_any" = some (.ref a_law_any)
  k_law_any : PySem.W.keepIn K (.ref a_law_any) = true
  g_law_names : mg "_law_names" = some (.ref a_law_names)
  k_law_names : PySem.W.keepIn K (.ref a_law_names) = true
  g_law_drawn : mg "_law_drawn" = some (.ref a_law_drawn)
  k_law_drawn : PySem.W.keepIn K (.ref a_law_drawn) = true
  g_law_of_plain : mg "_law_of_plain" = some (.ref a_law_of_plain)
  k_law_of_plain : PySem.W.keepIn K (.ref a_law_of_plain) = true
  g_law_some : mg "_law_some" = some (.ref a_law_some)
  k_law_some : PySem.W.keepIn K (.ref a_law_some) = true
  g_law_effect : mg "_law_effect" = some (.ref a_law_effect)
  k_law_effect : PySem.W.keepIn K (.ref a_law_effect) = true
  g_effect_of : mg "effect_of" = some (.ref a_effect_of)
  k_effect_of : PySem.W.keepIn K (.ref a_effect_of) = true
  g_both_effects : mg "both_effects" = some (.ref a_both_effects)
  k_both_effects : PySem.W.keepIn K (.ref a_both_effects) = true
  g_is_one_taken : mg "is_one_taken" = some (.ref a_is_one_taken)
  k_is_one_taken : PySem.W.keepIn K (.ref a_is_one_taken) = true
  g_law_state : mg "_law_state" = some (.ref a_law_state)
  k_law_state : PySem.W.keepIn K (.ref a_law_state) = true
  g_law_of_table : mg "_law_of_table" = some (.ref a_law_of_table)
  k_law_of_table : PySem.W.keepIn K (.ref a_law_of_table) = true
section
variable {P : Program} {w : World} {K : PySem.W.Frag} {mg : Str → Option Value} {base : Heap} {C a_law_source a_law_any a_law_names a_law_drawn a_law_of_plain a_law_some a_law_effect a_effect_of a_both_effects a_is_one_taken a_law_state a_law_of_table : Addr} {d0 d1 d2 d3 d4 d5 d6 d7 d8 d9 d10 d11 : FuncData}
theorem ok_law {f : Addr} {fd : FuncData} (F : Fun K "law" "law" sLaw f fd) (T : LawTxt K mg C a_law_source a_law_any a_law_names a_law_drawn a_law_of_plain a_law_some a_law_effect a_effect_of a_both_effects a_is_one_taken a_law_state a_law_of_table)
    (G_law_source : FnOk P w K mg base CX0 1 a_law_source d0 ["script", "salt"] (spSource K)) (b_law_source : Binds K d0 ["script", "salt"] [])
    (G_law_any : FnOk P w K mg base CX0 1 a_law_any d1 ["draws", "bound"] (spD K spAnyD)) (b_law_any : Binds K d1 ["draws", "bound"] [])
    (G_law_names : FnOk P w K mg base CX0 3 a_law_names d2 ["draws", "many"] (spD K spNmD)) (b_law_names : Binds K d2 ["draws", "many"] [])
    (G_law_drawn : FnOk P w K mg base CX0 3 a_law_drawn d3 ["draws", "names", "most"] (spD K spDrawn)) (b_law_drawn : Binds K d3 ["draws", "names", "most"] [])
    (G_law_of_plain : FnOk P w K mg base CX0 3 a_law_of_plain d4 ["plain"] (spD K (spLOfP C))) (b_law_of_plain : Binds K d4 ["plain"] [])
    (G_law_some : FnOk P w K mg base CX0 6 a_law_some d5 ["draws", "names"] (spD K spSomeD)) (b_law_some : Binds K d5 ["draws", "names"] [])
    (G_law_effect : FnOk P w K mg base CX0 43 a_law_effect d6 ["plain", "forest"] (spD K (spLEff 20))) (b_law_effect : Binds K d6 ["plain", "forest"] [])
    (G_effect_of : FnOk P w K mg base CX0 4 a_effect_of d7 ["table", "forest"] (spD K (spEffOf C))) (b_effect_of : Binds K d7 ["table", "forest"] []) (kr_effect_of : BindsR d7 ["table", "forest"] ["forest", "table"])
    (G_both_effects : FnOk P w K mg base CX0 1 a_both_effects d8 ["one", "other"] (spD K spBothE)) (b_both_effects : Binds K d8 ["one", "other"] []) (kr_both_effects : BindsR d8 ["one", "other"] ["other", "one"])
    (G_is_one_taken : FnOk P w K mg base CX0 1 a_is_one_taken d9 ["table", "effect"] (spD K (spIsOne C))) (b_is_one_taken : Binds K d9 ["table", "effect"] []) (kr_is_one_taken : BindsR d9 ["table", "effect"] ["effect", "table"])
    (G_law_state : FnOk P w K mg base CX0 41 a_law_state d10 ["plain", "node"] (spD K (spLState 20))) (b_law_state : Binds K d10 ["plain", "node"] [])
    (G_law_of_table : FnOk P w K mg base CX0 1 a_law_of_table d11 ["table"] (spD K (spLOfT C))) (b_law_of_table : Binds K d11 ["table"] []) : Grd.FnG P w K mg base CX0 50 f fd ["script"] (spLaw K) := by
  refine Grd.fng_of F scLaw (fun vs H Q E h => ?_) (fun cdv A outer s H vs Q E gd (hr : Room 49 _) h => ?_)
  · obtain ⟨a, ns, rfl, _⟩ := h
    rfl
  · obtain ⟨a, ns, rfl, hS, l, kq⟩ := h
    obtain ⟨t2, h2, p2⟩ : ∃ t2, QSs (cxOf CX0 P w K mg base ["script", "draws", "turn", "plain", "table", "names", "pair", "one", "other", "first", "second", "whole", "taken_v"] "law" (defScope sLaw) f cdv A outer s H E) ((defBody sLaw).drop 1) t2 ∧ ∀ S n k, DealD S n k → t2 { nx := fun _ _ => False, rt := fun d _ => d = .bool true } (none :: some (cel n) :: List.replicate 11 none) S := by
      refine ⟨_, (qss_cons (qs_for PassesOwn.leaving rfl (qi_range1 T.n_range (by rfl) (q_cons q_int q_nil)) (qg_name (pg_name (i := 2) scLaw.nd rfl (Or.inl rfl)))
      (qss_cons (qs_set (i := 3) scLaw.nd rfl (Or.inl rfl) (q_call hr G_law_drawn T.g_law_drawn T.k_law_drawn b_law_drawn (by rfl) (by decide) (q_cons (q_var (pv 1)) (q_cons (q_call hr G_law_names T.g_law_names T.k_law_names b_law_names (by rfl) (by decide) (q_cons (q_var (pv 1)) (q_cons (q_add q_int (q_call hr G_law_any T.g_law_any T.k_law_any b_law_any (by rfl) (by decide) (q_cons (q_var (pv 1)) (q_cons q_int q_nil)))) q_nil))) (q_cons q_int q_nil)))))
      (qss_cons (qs_par (i := 4) (j := 5) (by rfl) scLaw.nd rfl rfl (by decide) rfl rfl (q_cons (q_call hr G_law_of_plain T.g_law_of_plain T.k_law_of_plain b_law_of_plain (by rfl) (by decide) (q_cons (q_var (pv 3)) q_nil)) (q_cons (q_list T.n_list (by rfl) (q_cons (q_at (q_var (pv 3)) q_int (fun _ _ => rfl)) q_nil)) q_nil)) (by rfl))
      (qss_cons (qs_for PassesOwn.leaving rfl (qi_range1 T.n_range (by rfl) (q_cons q_int q_nil)) (qg_name (pg_name (i := 6) scLaw.nd rfl (Or.inl rfl)))
      (qss_cons (qs_par (i := 7) (j := 8) (by rfl) scLaw.nd rfl rfl (by decide) rfl rfl (q_cons (q_call hr G_law_some T.g_law_some T.k_law_some b_law_some (by rfl) (by decide) (q_cons (q_var (pv 1)) (q_cons (q_var (pv 5)) q_nil))) (q_cons (q_call hr G_law_some T.g_law_some T.k_law_some b_law_some (by rfl) (by decide) (q_cons (q_var (pv 1)) (q_cons (q_var (pv 5)) q_nil))) q_nil)) (by rfl))
      (qss_cons (qs_par3 (i := 9) (j := 10) (l := 11) (by rfl) scLaw.nd rfl rfl rfl (by decide) (by decide) (by decide) rfl rfl rfl (q_cons (q_call hr G_law_effect T.g_law_effect T.k_law_effect b_law_effect (by rfl) (by decide) (q_cons (q_var (pv 3)) (q_cons (q_var (pv 7)) q_nil))) (q_cons (q_call hr G_law_effect T.g_law_effect T.k_law_effect b_law_effect (by rfl) (by decide) (q_cons (q_var (pv 3)) (q_cons (q_var (pv 8)) q_nil))) (q_cons (q_call hr G_law_effect T.g_law_effect T.k_law_effect b_law_effect (by rfl) (by decide) (q_cons (q_var (pv 3)) (q_cons (q_add (q_var (pv 7)) (q_var (pv 8))) q_nil))) q_nil))) (by rfl))
      (qss_cons (qs_if (qt_cmp (op_neA (u64 hr)) snd_ne (q_repr gd (Grd.u200 hr) T.n_repr (by rfl) (q_cons (q_lst (q_cons (q_call hr G_effect_of T.g_effect_of T.k_effect_of b_effect_of (by rfl) (by decide) (q_cons (q_var (pv 4)) (q_cons (q_var (pv 7)) q_nil))) (q_cons (q_kwR hr G_effect_of T.g_effect_of T.k_effect_of kr_effect_of (by rfl) (by decide) (qk_cons (q_var (pv 8)) (qk_cons (q_var (pv 4)) qk_nil))) q_nil))) q_nil)) (q_repr gd (Grd.u200 hr) T.n_repr (by rfl) (q_cons (q_lst (q_cons (q_var (pv 9)) (q_cons (q_var (pv 10)) q_nil))) q_nil)) (nomark _))
      (qss_one (qs_ret q_bl))
      qss_nil)
      (qss_cons (qs_if (PW.pt (qw_or (qt_cmp (op_neA (u64 hr)) snd_ne (q_repr gd (Grd.u200 hr) T.n_repr (by rfl) (q_cons (q_call hr G_both_effects T.g_both_effects T.k_both_effects b_both_effects (by rfl) (by decide) (q_cons (q_var (pv 9)) (q_cons (q_var (pv 10)) q_nil))) q_nil)) (q_repr gd (Grd.u200 hr) T.n_repr (by rfl) (q_cons (q_var (pv 11)) q_nil)) (nomark _)) (qw_or1 (qt_cmp (op_neA (u64 hr)) snd_ne (q_repr gd (Grd.u200 hr) T.n_repr (by rfl) (q_cons (q_kwR hr G_both_effects T.g_both_effects T.k_both_effects kr_both_effects (by rfl) (by decide) (qk_cons (q_var (pv 10)) (qk_cons (q_var (pv 9)) qk_nil))) q_nil)) (q_repr gd (Grd.u200 hr) T.n_repr (by rfl) (q_cons (q_call hr G_effect_of T.g_effect_of T.k_effect_of b_effect_of (by rfl) (by decide) (q_cons (q_var (pv 4)) (q_cons (q_add (q_var (pv 7)) (q_var (pv 8))) q_nil))) q_nil)) (nomark _)))))
      (qss_one (qs_ret q_bl))
      qss_nil)
      (qss_cons (qs_set (i := 12) scLaw.nd rfl (Or.inl rfl) (q_and (q_cmp (op_eqA (u64 hr)) snd_eq (q_len T.n_len (by rfl) (q_cons (q_var (pv 7)) q_nil)) q_int (nomark _)) (q_and (q_not (q_isi .str T.n_isinstance (by rfl) (q_at (q_var (pv 7)) q_int (fun _ _ => rfl)) (pe_bltn (v := V.ty "str") (u := .type "str") (by rfl) T.n_str (by decide +kernel) (by rfl)))) (q_one (q_cmp op_in_seq (snd_inQ false) (q_call hr G_law_state T.g_law_state T.k_law_state b_law_state (by rfl) (by decide) (q_cons (q_var (pv 3)) (q_cons (q_at (q_var (pv 7)) q_int (fun _ _ => rfl)) q_nil))) (q_at (q_var (pv 3)) q_int (fun _ _ => rfl)) (by rfl))))))
      (qss_one (qs_if (PW.pt (qw_or (qt_cmp (op_neA (u64 hr)) snd_ne (q_repr gd (Grd.u200 hr) T.n_repr (by rfl) (q_cons (q_call hr G_is_one_taken T.g_is_one_taken T.k_is_one_taken b_is_one_taken (by rfl) (by decide) (q_cons (q_var (pv 4)) (q_cons (q_var (pv 9)) q_nil))) q_nil)) (q_repr gd (Grd.u200 hr) T.n_repr (by rfl) (q_cons (q_var (pv 12)) q_nil)) (nomark _)) (qw_or1 (qt_cmp (op_neA (u64 hr)) snd_ne (q_kwR hr G_is_one_taken T.g_is_one_taken T.k_is_one_taken kr_is_one_taken (by rfl) (by decide) (qk_cons (q_var (pv 9)) (qk_cons (q_var (pv 4)) qk_nil))) (q_var (pv 12)) (nomark _)))))
      (qss_one (qs_ret q_bl))
      qss_nil))))))))
      (qss_one (qs_if (qt_cmp (op_neA (u64 hr)) snd_ne (q_reprT gd (Grd.u200 hr) T.n_repr (by rfl) (q_cons (q_call hr G_law_of_table T.g_law_of_table T.k_law_of_table b_law_of_table (by rfl) (by decide) (q_cons (q_var (pv 4)) q_nil)) q_nil)) (q_reprT gd (Grd.u200 hr) T.n_repr (by rfl) (q_cons (q_var (pv 3)) q_nil)) (nomark _))
      (qss_one (qs_ret q_bl))
      qss_nil))))))
      (qss_one (qs_ret q_bl))), ?_⟩
      intro S n k D
      (dsimp only [dPar3, dFnR, List.reverse_cons, List.reverse_nil, dDelT, mPop0, mPop, mApp, mExt, dFld, dNew, dDGet, dDIn, dZipT, dAll, dTupF, dIdx, dTupRg, dDc, dReprT, dEqT, dNeT, dFor, dLc, dWhile, dRange1, dRange2, dRange3, dEnumT, e_isB, e_tupD, dgUnl, dSeq, dIfS, dSet, dAsg, dRet, dRetN, dDrop, dNext, dPar, dVar, dC, dOp, dB, dTru, dtNot, dtAnd, dtOr, dAnd, dOr, dNot, dIfE, dNeg, dNil, dCons, dTup, dLst, dCel, dNoP, dPart, dSlice, dRevT, dRevL, dCall, on1, dTupOf, dLstOf, dCelOf, dIsi, dName, dgNil, dgCons, dgTup, dFn, dMet, dMet0, gt, st, startD, wh_some, dYes, dEq, dNe, List.map, List.length, List.replicate, List.append, List.cons_append, List.nil_append, dWalk, uns, un, tupNms, dNms, ifT, ifF, List.replicate_succ, List.replicate_zero, Nat.sub_self, Nat.reduceSub, Nat.reduceAdd, Nat.zero_add, Bool.not_true, Bool.not_false, e_addI, e_addS, e_addT, e_addL, e_i2, e_i2c, e_is, e_bool, e_cel, e_strD, e_lenS, e_lenT, e_lenL, e_lenC, e_ixS, e_ixT, e_ixL, e_ixC, e_slS, e_slT, e_slL, e_slC, e_itT, e_itL, e_truN, e_truI, e_truB, e_truL, e_truT, e_okN, e_okB, e_okI, e_okS, e_okL, e_okT, e_okC, e_tupN, e_tupB, e_tupI, e_tupS, e_tupL, e_tupT, e_tupC, e_strN, e_strB, e_strI, e_strS, e_strL, e_strT, e_strC, e_intN, e_intB, e_intI, e_intS, e_intL, e_intT, e_intC, e_boolN, e_boolB, e_boolI, e_boolS, e_boolL, e_boolT, e_boolC, e_lstN, e_lstB, e_lstI, e_lstS, e_lstL, e_lstT, e_lstC, e_nonN, e_nonB, e_nonI, e_nonS, e_nonL, e_nonT, e_wkS, e_wkL, e_wkT, e_wkC, e_join, e_inS, e_ninS, e_ofI, e_ofB, e_abs, e_lenF, e_ixF, e_itF, e_wkF, e_tfF, e_truF, e_repT, e_keyI, e_keyS]; try simp only [true_and, and_true, Nat.reduceLeDiff, reduceIte, reduceCtorEq, Bool.false_eq_true, if_true, if_false, not_false_eq_true, ite_true, ite_false, and_self])
      refine ⟨⟨by decide, by decide⟩, fun i ρ S' => ∃ x2 x3 x4 x5 x6 x7 x8 x9 x10 x11 x12 : Option PyData, ρ = [none, some (cel n), x2, x3, x4, x5, x6, x7, x8, x9, x10, x11, x12] ∧ MvD n k S S', ⟨_, _, _, _, _, _, _, _, _, _, _, rfl, MvD.refl D⟩, fun _ _ _ _ => trivial, ?_, fun _ _ _ => ?_⟩
      · rintro i d ρ S1 hd ⟨x2, x3, x4, x5, x6, x7, x8, x9, x10, x11, x12, rfl, mv1⟩
        (dsimp only [dPar3, dFnR, List.reverse_cons, List.reverse_nil, dDelT, mPop0, mPop, mApp, mExt, dFld, dNew, dDGet, dDIn, dZipT, dAll, dTupF, dIdx, dTupRg, dDc, dReprT, dEqT, dNeT, dFor, dLc, dWhile, dRange1, dRange2, dRange3, dEnumT, e_isB, e_tupD, dgUnl, dSeq, dIfS, dSet, dAsg, dRet, dRetN, dDrop, dNext, dPar, dVar, dC, dOp, dB, dTru, dtNot, dtAnd, dtOr, dAnd, dOr, dNot, dIfE, dNeg, dNil, dCons, dTup, dLst, dCel, dNoP, dPart, dSlice, dRevT, dRevL, dCall, on1, dTupOf, dLstOf, dCelOf, dIsi, dName, dgNil, dgCons, dgTup, dFn, dMet, dMet0, gt, st, startD, wh_some, dYes, dEq, dNe, List.map, List.length, List.replicate, List.append, List.cons_append, List.nil_append, dWalk, uns, un, tupNms, dNms, ifT, ifF, List.replicate_succ, List.replicate_zero, Nat.sub_self, Nat.reduceSub, Nat.reduceAdd, Nat.zero_add, Bool.not_true, Bool.not_false, e_addI, e_addS, e_addT, e_addL, e_i2, e_i2c, e_is, e_bool, e_cel, e_strD, e_lenS, e_lenT, e_lenL, e_lenC, e_ixS, e_ixT, e_ixL, e_ixC, e_slS, e_slT, e_slL, e_slC, e_itT, e_itL, e_truN, e_truI, e_truB, e_truL, e_truT, e_okN, e_okB, e_okI, e_okS, e_okL, e_okT, e_okC, e_tupN, e_tupB, e_tupI, e_tupS, e_tupL, e_tupT, e_tupC, e_strN, e_strB, e_strI, e_strS, e_strL, e_strT, e_strC, e_intN, e_intB, e_intI, e_intS, e_intL, e_intT, e_intC, e_boolN, e_boolB, e_boolI, e_boolS, e_boolL, e_boolT, e_boolC, e_lstN, e_lstB, e_lstI, e_lstS, e_lstL, e_lstT, e_lstC, e_nonN, e_nonB, e_nonI, e_nonS, e_nonL, e_nonT, e_wkS, e_wkL, e_wkT, e_wkC, e_join, e_inS, e_ninS, e_ofI, e_ofB, e_abs, e_lenF, e_ixF, e_itF, e_wkF, e_tfF, e_truF, e_repT, e_keyI, e_keyS]; try simp only [true_and, and_true, Nat.reduceLeDiff, reduceIte, reduceCtorEq, Bool.false_eq_true, if_true, if_false, not_false_eq_true, ite_true, ite_false, and_self])
        refine any_nat mv1 (by decide) (by decide) fun y S2 hy mv2 => ?_
        rw [e_addI]
        have e1 : (1 : Int) + ((y : Nat) : Int) = ((y + 1 : Nat) : Int) := by omega
        rw [e1]
        refine ⟨n, k, y + 1, rfl, mv2.D, by omega, by omega, fun ns S3 l3 nd3 z3 m3 => ?_⟩
        have mv3 := mv2.trans m3
        have n0 : ns ≠ [] := fun e => by rw [e] at l3; simp at l3
        refine ⟨n, k, ns, 6, rfl, mv3.D, n0, by omega, fun z hz => (z3 z hz).ok, nd3, by decide, by decide, fun T S4 o ens lx m4 => ?_⟩
        have mv4 := mv3.trans m4
        refine ⟨T, rfl, o, ?_⟩
        dsimp only
        rw [e_ixT]
        refine wh_mk (a := frz (T.ns.map PyData.str)) rfl (wh_mk rfl ?_)
        refine ⟨⟨by decide, by decide⟩, fun i ρ S' => ∃ x6 x7 x8 x9 x10 x11 x12 : Option PyData, ρ = [none, some (cel n), some d, some T.pl, some (T.dat C), some (.list (T.ns.map PyData.str)), x6, x7, x8, x9, x10, x11, x12] ∧ MvD n k S S', ⟨_, _, _, _, _, _, _, rfl, mv4⟩, fun _ _ _ _ => trivial, ?_, ?_⟩
        · rintro i' d' ρ S5 hd' ⟨x6, x7, x8, x9, x10, x11, x12, rfl, mv5⟩
          (dsimp only [dPar3, dFnR, List.reverse_cons, List.reverse_nil, dDelT, mPop0, mPop, mApp, mExt, dFld, dNew, dDGet, dDIn, dZipT, dAll, dTupF, dIdx, dTupRg, dDc, dReprT, dEqT, dNeT, dFor, dLc, dWhile, dRange1, dRange2, dRange3, dEnumT, e_isB, e_tupD, dgUnl, dSeq, dIfS, dSet, dAsg, dRet, dRetN, dDrop, dNext, dPar, dVar, dC, dOp, dB, dTru, dtNot, dtAnd, dtOr, dAnd, dOr, dNot, dIfE, dNeg, dNil, dCons, dTup, dLst, dCel, dNoP, dPart, dSlice, dRevT, dRevL, dCall, on1, dTupOf, dLstOf, dCelOf, dIsi, dName, dgNil, dgCons, dgTup, dFn, dMet, dMet0, gt, st, startD, wh_some, dYes, dEq, dNe, List.map, List.length, List.replicate, List.append, List.cons_append, List.nil_append, dWalk, uns, un, tupNms, dNms, ifT, ifF, List.replicate_succ, List.replicate_zero, Nat.sub_self, Nat.reduceSub, Nat.reduceAdd, Nat.zero_add, Bool.not_true, Bool.not_false, e_addI, e_addS, e_addT, e_addL, e_i2, e_i2c, e_is, e_bool, e_cel, e_strD, e_lenS, e_lenT, e_lenL, e_lenC, e_ixS, e_ixT, e_ixL, e_ixC, e_slS, e_slT, e_slL, e_slC, e_itT, e_itL, e_truN, e_truI, e_truB, e_truL, e_truT, e_okN, e_okB, e_okI, e_okS, e_okL, e_okT, e_okC, e_tupN, e_tupB, e_tupI, e_tupS, e_tupL, e_tupT, e_tupC, e_strN, e_strB, e_strI, e_strS, e_strL, e_strT, e_strC, e_intN, e_intB, e_intI, e_intS, e_intL, e_intT, e_intC, e_boolN, e_boolB, e_boolI, e_boolS, e_boolL, e_boolT, e_boolC, e_lstN, e_lstB, e_lstI, e_lstS, e_lstL, e_lstT, e_lstC, e_nonN, e_nonB, e_nonI, e_nonS, e_nonL, e_nonT, e_wkS, e_wkL, e_wkT, e_wkC, e_join, e_inS, e_ninS, e_ofI, e_ofB, e_abs, e_lenF, e_ixF, e_itF, e_wkF, e_tfF, e_truF, e_repT, e_keyI, e_keyS]; try simp only [true_and, and_true, Nat.reduceLeDiff, reduceIte, reduceCtorEq, Bool.false_eq_true, if_true, if_false, not_false_eq_true, ite_true, ite_false, and_self])
          have oz : ∀ z ∈ T.ns, okZ z := fun z hz => (z3 z (ens ▸ hz)).ok
          have tn0 : T.ns ≠ [] := by rw [ens]; exact n0
          refine ⟨n, k, T.ns, rfl, mv5.D, tn0, o.nl, oz, fun one S6 a1 b1 c1 m6 => ?_⟩
          have mv6 := mv5.trans m6
          refine ⟨n, k, T.ns, rfl, mv6.D, tn0, o.nl, oz, fun two S7 a2 b2 c2 m7 => ?_⟩
          have mv7 := mv6.trans m7
          have h1 := hgt_cnts one
          have h2 := hgt_cnts two
          have h3 := hgt_cnts (one ++ two)
          have c3 : trC (one ++ two) ≤ 14 := by rw [trC_app]; omega
          have a3 : trN T.ns (one ++ two) := (trN_app _ _).mpr ⟨a1, a2⟩
          have b3 : trF (one ++ two) := (trF_app _ _).mpr ⟨b1, b2⟩
          have ea : trD one ++ trD two = trD (one ++ two) := by rw [trD_map, trD_map, trD_map, List.map_append]
          refine ⟨T, one, rfl, o, a1, by omega, shaped_tr b1 (by omega), ?_⟩
          refine ⟨T, two, rfl, o, a2, by omega, shaped_tr b2 (by omega), ?_⟩
          dsimp only [List.reverse_cons, List.reverse_nil, List.nil_append, List.cons_append]
          rw [e_addT, ea]
          refine ⟨by have := trC_len one; have := trC_len two; rw [trD_map, trD_map, List.length_map, List.length_map]; omega, ?_⟩
          refine ⟨T, one ++ two, rfl, o, a3, by omega, shaped_tr b3 (by omega), ?_⟩
          have n2 := o.n2
          have le1 : (T.eff one).length ≤ 1003 := by rw [T.eff_len]; omega
          have le2 : (T.eff two).length ≤ 1003 := by rw [T.eff_len]; omega
          have le3 : (T.eff (one ++ two)).length ≤ 1003 := by rw [T.eff_len]; omega
          have lt1 := T.eff_lt o a1
          have lt2 := T.eff_lt o a2
          have lt3 := T.eff_lt o a3
          have r1 := rp_nats (m := 1003) lt1 (by omega) le1
          have r2 := rp_nats (m := 1003) lt2 (by omega) le2
          have r3 := rp_nats (m := 1003) lt3 (by omega) le3
          have rl : Rp 2 700000 (.list [.tuple (nats (T.eff one)), .tuple (nats (T.eff two))]) := (rp_lst fun x hx => by
            simp only [List.mem_cons, List.not_mem_nil, or_false] at hx
            rcases hx with rfl | rfl
            · exact r1
            · exact r2).mono (Nat.le_refl _) (by show 2 * _ + 2 ≤ _; omega)
          have q1 := rp_q rl (by decide) (by decide)
          have q3 := rp_q r3 (by decide) (by decide)
          have qb : ∀ b : Bool, (PyData.bool b).showable = true ∧ (PyData.bool b).canLay0 = true ∧ (PyData.bool b).depth ≤ 150 ∧ (PyData.bool b).shown.length ≤ 10000000 := fun b => rp_q (rp_bool b) (by decide) (by decide)
          have bl : ∀ (u v : List Tr), ∀ k ∈ T.eff u, trN T.ns u → k < (T.eff v).length := fun u v k hk hu => by
            rw [T.eff_len]
            exact T.eff_lt o hu k hk
          refine ⟨T, one, rfl, o, a1, by omega, fun S8 m8 => ?_⟩
          refine ⟨T, two, rfl, o, a2, by omega, fun S9 m9 => ?_⟩
          refine ⟨q1, q1, eqOk_str _ _, ?_⟩
          rw [eqv_str]
          refine ifF ▸ ⟨_, _, rfl, fun k hk => bl one two k hk a1, by omega, ?_⟩
          rw [T.both_eff o a1]
          refine ⟨q3, q3, eqOk_str _ _, ?_⟩
          rw [eqv_str]
          refine ifF ▸ ⟨_, _, rfl, fun k hk => bl one two k hk a1, by omega, ?_⟩
          rw [T.both_eff o a1]
          refine ⟨q3, ?_⟩
          dsimp only
          rw [e_addT, ea]
          refine ⟨by have := trC_len one; have := trC_len two; rw [trD_map, trD_map, List.length_map, List.length_map]; omega, ?_⟩
          refine ⟨T, one ++ two, rfl, o, a3, by omega, fun S10 m10 => ⟨q3, eqOk_str _ _, ?_⟩⟩
          rw [eqv_str]
          have mvA := mv7.trans (MvD.of ((m8.trans m9).trans m10) (MvD.refl ((mv7.ext ((m8.trans m9).trans m10)).D)))
          refine ifF ▸ ?_
          rw [e_lenT]
          refine ⟨.inl ⟨rfl, rfl, nofun, nofun⟩, ?_⟩
          rcases one with _ | ⟨t, _ | ⟨t2, r⟩⟩
          · have e0 : PyData.eqv (.int (((trD []).length : Nat) : Int)) (.int 1) = false := rfl
            rw [e0, ifF]
            have hb : false = decide ((T.tail []).getD 0 0 = T.xs.length + 1) := (decide_eq_false (by show T.xs.length ≠ T.xs.length + 1; omega)).symm
            refine ⟨T, _, rfl, o, ?_⟩
            rw [← hb]
            refine ⟨qb _, qb _, eqOk_str _ _, ?_⟩
            rw [eqv_str]
            refine ifF ▸ ⟨T, _, rfl, o, ?_⟩
            rw [← hb]
            refine ⟨eqOk_bl _, ?_⟩
            rw [eqv_bl]
            exact ifF ▸ ⟨_, _, _, _, _, _, _, rfl, mvA⟩
          · have e0 : PyData.eqv (.int (((trD [t]).length : Nat) : Int)) (.int 1) = true := rfl
            rw [e0, ifT, e_ixT]
            refine wh_mk (a := t.dat) rfl ?_
            cases t with
            | txt z =>
              refine ⟨trivial, ifF ▸ ?_⟩
              have hb : false = decide ((T.tail [Tr.txt z]).getD 0 0 = T.xs.length + 1) := (decide_eq_false (by show T.xs.length + 2 ≠ T.xs.length + 1; omega)).symm
              refine ⟨T, _, rfl, o, ?_⟩
              rw [← hb]
              refine ⟨qb _, qb _, eqOk_str _ _, ?_⟩
              rw [eqv_str]
              refine ifF ▸ ⟨T, _, rfl, o, ?_⟩
              rw [← hb]
              refine ⟨eqOk_bl _, ?_⟩
              rw [eqv_bl]
              exact ifF ▸ ⟨_, _, _, _, _, _, _, rfl, mvA⟩
            | nod q0 us =>
              refine ⟨trivial, ifT ▸ ?_⟩
              rw [e_ixT]
              refine wh_mk (a := (Tr.nod q0 us).dat) rfl ?_
              have hx : 1 + trH us ≤ 20 := by
                have : trH [Tr.nod q0 us] = max (1 + trH us) 0 := rfl
                omega
              refine ⟨T, q0, us, rfl, o, a1.1.1, a1.1.2, hx, wh_mk (a := .tuple (nats T.es)) rfl ?_⟩
              rw [e_inQi, e_itT]
              refine wh_mk rfl (wh_mk (intsD_nats _) ?_)
              rw [Bool.false_xor, mem_nats]
              have hb : decide (T.on (T.b q0) us ∈ T.es) = decide ((T.tail [Tr.nod q0 us]).getD 0 0 = T.xs.length + 1) := by
                have et : (T.tail [Tr.nod q0 us]).getD 0 0 = if T.on (T.b q0) us ∈ T.es then T.xs.length + 1 else T.xs.length + 2 := rfl
                rw [et]
                by_cases hm : T.on (T.b q0) us ∈ T.es
                · rw [if_pos hm, decide_eq_true hm, decide_eq_true rfl]
                · rw [if_neg hm, decide_eq_false hm, decide_eq_false (by omega)]
              refine ⟨T, _, rfl, o, ?_⟩
              rw [← hb]
              refine ⟨qb _, qb _, eqOk_str _ _, ?_⟩
              rw [eqv_str]
              refine ifF ▸ ⟨T, _, rfl, o, ?_⟩
              rw [← hb]
              refine ⟨eqOk_bl _, ?_⟩
              rw [eqv_bl]
              exact ifF ▸ ⟨_, _, _, _, _, _, _, rfl, mvA⟩
          · have e0 : PyData.eqv (.int (((trD (t :: t2 :: r)).length : Nat) : Int)) (.int 1) = false := by
              show ((((trD r).length + 1 + 1 : Nat) : Int) == 1) = false
              rw [beq_eq_false_iff_ne]
              omega
            rw [e0, ifF]
            have hb : false = decide ((T.tail (t :: t2 :: r)).getD 0 0 = T.xs.length + 1) := (decide_eq_false (by show T.xs.length + 2 ≠ T.xs.length + 1; omega)).symm
            refine ⟨T, _, rfl, o, ?_⟩
            rw [← hb]
            refine ⟨qb _, qb _, eqOk_str _ _, ?_⟩
            rw [eqv_str]
            refine ifF ▸ ⟨T, _, rfl, o, ?_⟩
            rw [← hb]
            refine ⟨eqOk_bl _, ?_⟩
            rw [eqv_bl]
            exact ifF ▸ ⟨_, _, _, _, _, _, _, rfl, mvA⟩
        · rintro ρ S5 ⟨x6, x7, x8, x9, x10, x11, x12, rfl, mv5⟩
          (dsimp only [dPar3, dFnR, List.reverse_cons, List.reverse_nil, dDelT, mPop0, mPop, mApp, mExt, dFld, dNew, dDGet, dDIn, dZipT, dAll, dTupF, dIdx, dTupRg, dDc, dReprT, dEqT, dNeT, dFor, dLc, dWhile, dRange1, dRange2, dRange3, dEnumT, e_isB, e_tupD, dgUnl, dSeq, dIfS, dSet, dAsg, dRet, dRetN, dDrop, dNext, dPar, dVar, dC, dOp, dB, dTru, dtNot, dtAnd, dtOr, dAnd, dOr, dNot, dIfE, dNeg, dNil, dCons, dTup, dLst, dCel, dNoP, dPart, dSlice, dRevT, dRevL, dCall, on1, dTupOf, dLstOf, dCelOf, dIsi, dName, dgNil, dgCons, dgTup, dFn, dMet, dMet0, gt, st, startD, wh_some, dYes, dEq, dNe, List.map, List.length, List.replicate, List.append, List.cons_append, List.nil_append, dWalk, uns, un, tupNms, dNms, ifT, ifF, List.replicate_succ, List.replicate_zero, Nat.sub_self, Nat.reduceSub, Nat.reduceAdd, Nat.zero_add, Bool.not_true, Bool.not_false, e_addI, e_addS, e_addT, e_addL, e_i2, e_i2c, e_is, e_bool, e_cel, e_strD, e_lenS, e_lenT, e_lenL, e_lenC, e_ixS, e_ixT, e_ixL, e_ixC, e_slS, e_slT, e_slL, e_slC, e_itT, e_itL, e_truN, e_truI, e_truB, e_truL, e_truT, e_okN, e_okB, e_okI, e_okS, e_okL, e_okT, e_okC, e_tupN, e_tupB, e_tupI, e_tupS, e_tupL, e_tupT, e_tupC, e_strN, e_strB, e_strI, e_strS, e_strL, e_strT, e_strC, e_intN, e_intB, e_intI, e_intS, e_intL, e_intT, e_intC, e_boolN, e_boolB, e_boolI, e_boolS, e_boolL, e_boolT, e_boolC, e_lstN, e_lstB, e_lstI, e_lstS, e_lstL, e_lstT, e_lstC, e_nonN, e_nonB, e_nonI, e_nonS, e_nonL, e_nonT, e_wkS, e_wkL, e_wkT, e_wkC, e_join, e_inS, e_ninS, e_ofI, e_ofB, e_abs, e_lenF, e_ixF, e_itF, e_wkF, e_tfF, e_truF, e_repT, e_keyI, e_keyS]; try simp only [true_and, and_true, Nat.reduceLeDiff, reduceIte, reduceCtorEq, Bool.false_eq_true, if_true, if_false, not_false_eq_true, ite_true, ite_false, and_self])
          have qT : (thaw T.pl).showable = true ∧ (thaw T.pl).canLay0 = true ∧ (thaw T.pl).depth ≤ 150 ∧ (thaw T.pl).shown.length ≤ 10000000 := by
            rw [thaw_pl]
            exact pl_q o lx (fun z hz => z3 z (ens ▸ hz)) (by rw [ens]; omega)
          refine ⟨T, rfl, o, qT, qT, eqOk_str _ _, ?_⟩
          rw [eqv_str]
          exact ifF ▸ ⟨_, _, _, _, _, _, _, _, _, _, _, rfl, mv5⟩
      · trivial
    exact ⟨_, pss_cons (ps_set (i := 1) scLaw.nd rfl (Or.inl rfl) (pe_call G_law_source (hr.mono (by decide)) rfl T.g_law_source T.k_law_source b_law_source .nil pass0 (pa_cons (pv 0) (pa_cons pe_int pa_nil)))) h2, law_go (by decide) (by decide) hS l kq (by decide) p2⟩
end
end K3

namespace K3
open PySem L2 Grd Xr K1
theorem all_mk {P : Program} {w : World} {K : PySem.W.Frag} {h : Heap} {mg : Str → Option Value} {fa f0 f1 f2 f3 f4 f5 f6 f7 f8 f9 f10 f11 f12 f13 f14 f15 f16 f17 f18 f19 f20 f21 f22 f23 f24 f25 f26 : Addr} {CT fT : Addr} {t0 t1 t2 : Tok} (X : K.In h) (G : h.Ns mainGlobals mg) (hfa : mg "law" = some (.ref fa))
    (a0 : PySem.W.nsIn K mainGlobals "taken" = some (some (.ref f0))) (h0 : ∃ fd, Fun K "taken" "taken" K3.sTaken f0 fd)
    (a1 : PySem.W.nsIn K mainGlobals "all_things" = some (some (.ref f1))) (h1 : ∃ fd, Fun K "all_things" "all_things" K3.sAllT f1 fd)
    (a2 : PySem.W.nsIn K mainGlobals "state_behind" = some (some (.ref f2))) (h2 : ∃ fd, Fun K "state_behind" "state_behind" K3.sBehind f2 fd)
    (a3 : PySem.W.nsIn K mainGlobals "_grown" = some (some (.ref f3))) (h3 : ∃ fd, Fun K "_grown" "_grown" K3.sGrownT f3 fd)
    (a4 : PySem.W.nsIn K mainGlobals "state_of" = some (some (.ref f4))) (h4 : ∃ fd, Fun K "state_of" "state_of" K3.sStateOf f4 fd)
    (a5 : PySem.W.nsIn K mainGlobals "both_effects" = some (some (.ref f5))) (h5 : ∃ fd, Fun K "both_effects" "both_effects" K3.sBothE f5 fd)
    (a6 : PySem.W.nsIn K mainGlobals "effect_of" = some (some (.ref f6))) (h6 : ∃ fd, Fun K "effect_of" "effect_of" K3.sEffOf f6 fd)
    (a7 : PySem.W.nsIn K mainGlobals "no_effect" = some (some (.ref f7))) (h7 : ∃ fd, Fun K "no_effect" "no_effect" K3.sNoE f7 fd)
    (a8 : PySem.W.nsIn K mainGlobals "text_effect" = some (some (.ref f8))) (h8 : ∃ fd, Fun K "text_effect" "text_effect" K3.sTextE f8 fd)
    (a9 : PySem.W.nsIn K mainGlobals "node_effect" = some (some (.ref f9))) (h9 : ∃ fd, Fun K "node_effect" "node_effect" K3.sNodeE f9 fd)
    (a10 : PySem.W.nsIn K mainGlobals "is_one_taken" = some (some (.ref f10))) (h10 : ∃ fd, Fun K "is_one_taken" "is_one_taken" K3.sIsOne f10 fd)
    (a11 : PySem.W.nsIn K mainGlobals "_law_source" = some (some (.ref f11))) (h11 : ∃ fd, Fun K "_law_source" "_law_source" K1.sSource f11 fd)
    (a12 : PySem.W.nsIn K mainGlobals "_law_any" = some (some (.ref f12))) (h12 : ∃ fd, Fun K "_law_any" "_law_any" K1.sAny f12 fd)
    (a13 : PySem.W.nsIn K mainGlobals "_law_of" = some (some (.ref f13))) (h13 : ∃ fd, Fun K "_law_of" "_law_of" K1.sOf f13 fd)
    (a14 : PySem.W.nsIn K mainGlobals "_law_names" = some (some (.ref f14))) (h14 : ∃ fd, Fun K "_law_names" "_law_names" K3.sNamesL f14 fd)
    (a15 : PySem.W.nsIn K mainGlobals "_law_text" = some (some (.ref f15))) (h15 : ∃ fd, Fun K "_law_text" "_law_text" K3.sLText f15 fd)
    (a16 : PySem.W.nsIn K mainGlobals "_law_shut" = some (some (.ref f16))) (h16 : ∃ fd, Fun K "_law_shut" "_law_shut" K3.sShut f16 fd)
    (a17 : PySem.W.nsIn K mainGlobals "_law_forest" = some (some (.ref f17))) (h17 : ∃ fd, Fun K "_law_forest" "_law_forest" K3.sLFor f17 fd)
    (a18 : PySem.W.nsIn K mainGlobals "_law_node" = some (some (.ref f18))) (h18 : ∃ fd, Fun K "_law_node" "_law_node" K3.sLNode f18 fd)
    (a19 : PySem.W.nsIn K mainGlobals "_law_drawn" = some (some (.ref f19))) (h19 : ∃ fd, Fun K "_law_drawn" "_law_drawn" K3.sDrawn f19 fd)
    (a20 : PySem.W.nsIn K mainGlobals "_law_state" = some (some (.ref f20))) (h20 : ∃ fd, Fun K "_law_state" "_law_state" K3.sLState f20 fd)
    (a21 : PySem.W.nsIn K mainGlobals "_law_on" = some (some (.ref f21))) (h21 : ∃ fd, Fun K "_law_on" "_law_on" K3.sLOn f21 fd)
    (a22 : PySem.W.nsIn K mainGlobals "_law_of_table" = some (some (.ref f22))) (h22 : ∃ fd, Fun K "_law_of_table" "_law_of_table" K3.sLOfT f22 fd)
    (a23 : PySem.W.nsIn K mainGlobals "_law_of_plain" = some (some (.ref f23))) (h23 : ∃ fd, Fun K "_law_of_plain" "_law_of_plain" K3.sLOfP f23 fd)
    (a24 : PySem.W.nsIn K mainGlobals "_law_effect" = some (some (.ref f24))) (h24 : ∃ fd, Fun K "_law_effect" "_law_effect" K3.sLEff f24 fd)
    (a25 : PySem.W.nsIn K mainGlobals "_law_some" = some (some (.ref f25))) (h25 : ∃ fd, Fun K "_law_some" "_law_some" K3.sSome f25 fd)
    (a26 : PySem.W.nsIn K mainGlobals "law" = some (some (.ref f26))) (h26 : ∃ fd, Fun K "law" "law" K3.sLaw f26 fd)
    (b_CT : PySem.W.nsIn K mainGlobals "Table" = some (some (.ref CT)))
    (j_CT : PySem.W.findIn K (.ref CT) "__init__" = some (some (.ref fT)))
    (g_CT : ∃ fd, Fun K "__init__" "Table.__init__" K3.sInitT fT fd)
    (p1 : PySem.W.plainGet K CT Str.empty = true)
    (p2 : PySem.W.hasDictIn K CT = true)
    (p3 : PySem.W.plainOver K CT = true)
    (p4 : PySem.W.findIn K (.ref CT) "__setattr__" = some (some (.builtin "object.__setattr__")))
    (p5 : PySem.W.makesIn K CT = true)
    (p6 : PySem.W.isFn K (.ref fT) = true)
    (p7 : PySem.W.keepIn K (.ref CT) = true)
    (m0 : PySem.W.findIn K (.ref CT) "names" = some none)
    (m1 : PySem.W.findIn K (.ref CT) "begins" = some none)
    (m2 : PySem.W.findIn K (.ref CT) "texts" = some none)
    (m3 : PySem.W.findIn K (.ref CT) "steps" = some none)
    (m4 : PySem.W.findIn K (.ref CT) "ends" = some none)
    (c0 : PySem.W.nsIn K mainGlobals "NOTHING_YET" = some (some (.int 0 t0)))
    (c1 : PySem.W.nsIn K mainGlobals "ONE_TAKEN" = some (some (.int 1 t1)))
    (c2 : PySem.W.nsIn K mainGlobals "ALL_ELSE" = some (some (.int 2 t2)))
    (z_len : PySem.W.nsIn K mainGlobals "len" = some none)
    (z_list : PySem.W.nsIn K mainGlobals "list" = some none)
    (z_isinstance : PySem.W.nsIn K mainGlobals "isinstance" = some none)
    (z_str : PySem.W.nsIn K mainGlobals "str" = some none)
    (z_int : PySem.W.nsIn K mainGlobals "int" = some none)
    (z_abs : PySem.W.nsIn K mainGlobals "abs" = some none)
    (z_zip : PySem.W.nsIn K mainGlobals "zip" = some none)
    (z_all : PySem.W.nsIn K mainGlobals "all" = some none)
    (z_range : PySem.W.nsIn K mainGlobals "range" = some none)
    (z_tuple : PySem.W.nsIn K mainGlobals "tuple" = some none)
    (z_repr : PySem.W.nsIn K mainGlobals "repr" = some none)
    :
    ∃ fd : FuncData, (∀ (s : Shared) (v : Value), BindsTo s fd ⟨[v], []⟩ [("script", v)]) ∧ ∀ base : Heap, K.In base → base.Ns mainGlobals mg → FnG P w K mg base CX0 50 fa fd ["script"] (spLaw K) := by
  have e := hfa.symm.trans (PySem.W.mg_of X G a26)
  cases e
  obtain ⟨d0, F0⟩ := h0
  obtain ⟨d1, F1⟩ := h1
  obtain ⟨d2, F2⟩ := h2
  obtain ⟨d3, F3⟩ := h3
  obtain ⟨d4, F4⟩ := h4
  obtain ⟨d5, F5⟩ := h5
  obtain ⟨d6, F6⟩ := h6
  obtain ⟨d7, F7⟩ := h7
  obtain ⟨d8, F8⟩ := h8
  obtain ⟨d9, F9⟩ := h9
  obtain ⟨d10, F10⟩ := h10
  obtain ⟨d11, F11⟩ := h11
  obtain ⟨d12, F12⟩ := h12
  obtain ⟨d13, F13⟩ := h13
  obtain ⟨d14, F14⟩ := h14
  obtain ⟨d15, F15⟩ := h15
  obtain ⟨d16, F16⟩ := h16
  obtain ⟨d17, F17⟩ := h17
  obtain ⟨d18, F18⟩ := h18
  obtain ⟨d19, F19⟩ := h19
  obtain ⟨d20, F20⟩ := h20
  obtain ⟨d21, F21⟩ := h21
  obtain ⟨d22, F22⟩ := h22
  obtain ⟨d23, F23⟩ := h23
  obtain ⟨d24, F24⟩ := h24
  obtain ⟨d25, F25⟩ := h25
  obtain ⟨d26, F26⟩ := h26
  have v0 := F0.binds (ps := ["made", "many"]) fun _ _ _ _ _ _ us hl => match us, hl with | [_, _], _ => rfl
  have v1 := F1.binds (ps := ["forest"]) fun _ _ _ _ _ _ us hl => match us, hl with | [_], _ => rfl
  have v2 := F2.binds (ps := ["table", "state", "forest"]) fun _ _ _ _ _ _ us hl => match us, hl with | [_, _, _], _ => rfl
  have v3 := F3.binds (ps := ["table", "state", "children"]) fun _ _ _ _ _ _ us hl => match us, hl with | [_, _, _], _ => rfl
  have v4 := F4.binds (ps := ["table", "node"]) fun _ _ _ _ _ _ us hl => match us, hl with | [_, _], _ => rfl
  have v5 := F5.binds (ps := ["one", "other"]) fun _ _ _ _ _ _ us hl => match us, hl with | [_, _], _ => rfl
  have v6 := F6.binds (ps := ["table", "forest"]) fun _ _ _ _ _ _ us hl => match us, hl with | [_, _], _ => rfl
  have v7 := F7.binds (ps := ["table"]) fun _ _ _ _ _ _ us hl => match us, hl with | [_], _ => rfl
  have v8 := F8.binds (ps := ["table"]) fun _ _ _ _ _ _ us hl => match us, hl with | [_], _ => rfl
  have v9 := F9.binds (ps := ["table", "state"]) fun _ _ _ _ _ _ us hl => match us, hl with | [_, _], _ => rfl
  have v10 := F10.binds (ps := ["table", "effect"]) fun _ _ _ _ _ _ us hl => match us, hl with | [_, _], _ => rfl
  have v11 := F11.binds (ps := ["script", "salt"]) fun _ _ _ _ _ _ us hl => match us, hl with | [_, _], _ => rfl
  have v12 := F12.binds (ps := ["draws", "bound"]) fun _ _ _ _ _ _ us hl => match us, hl with | [_, _], _ => rfl
  have v13 := F13.binds (ps := ["draws", "some"]) fun _ _ _ _ _ _ us hl => match us, hl with | [_, _], _ => rfl
  have v14 := F14.binds (ps := ["draws", "many"]) fun _ _ _ _ _ _ us hl => match us, hl with | [_, _], _ => rfl
  have v15 := F15.binds (ps := ["draws"]) fun _ _ _ _ _ _ us hl => match us, hl with | [_], _ => rfl
  have v16 := F16.binds (ps := ["stack"]) fun _ _ _ _ _ _ us hl => match us, hl with | [_], _ => rfl
  have v17 := F17.binds (ps := ["draws", "names", "most"]) fun _ _ _ _ _ _ us hl => match us, hl with | [_, _, _], _ => rfl
  have v18 := F18.binds (ps := ["draws", "names", "most"]) fun _ _ _ _ _ _ us hl => match us, hl with | [_, _, _], _ => rfl
  have v19 := F19.binds (ps := ["draws", "names", "most"]) fun _ _ _ _ _ _ us hl => match us, hl with | [_, _, _], _ => rfl
  have v20 := F20.binds (ps := ["plain", "node"]) fun _ _ _ _ _ _ us hl => match us, hl with | [_, _], _ => rfl
  have v21 := F21.binds (ps := ["plain", "state", "forest"]) fun _ _ _ _ _ _ us hl => match us, hl with | [_, _, _], _ => rfl
  have v22 := F22.binds (ps := ["table"]) fun _ _ _ _ _ _ us hl => match us, hl with | [_], _ => rfl
  have v23 := F23.binds (ps := ["plain"]) fun _ _ _ _ _ _ us hl => match us, hl with | [_], _ => rfl
  have v24 := F24.binds (ps := ["plain", "forest"]) fun _ _ _ _ _ _ us hl => match us, hl with | [_, _], _ => rfl
  have v25 := F25.binds (ps := ["draws", "names"]) fun _ _ _ _ _ _ us hl => match us, hl with | [_, _], _ => rfl
  obtain ⟨dT, FT⟩ := g_CT
  have MK : Mk K CT fT := ⟨p5, j_CT, p6, p7⟩
  have vT := FT.binds (ps := ["self", "names", "begins", "texts", "steps", "ends"]) fun _ _ _ _ _ _ us hl => match us, hl with | [_, _, _, _, _, _], _ => rfl
  have TC : ClsT K CT := ⟨⟨p1, p2, p3, p4⟩, m0, m1, m2, m3, m4⟩
  have TB : BaseTxt mg  := { n_len := PySem.W.mg_none_of X G z_len, n_list := PySem.W.mg_none_of X G z_list, n_isinstance := PySem.W.mg_none_of X G z_isinstance, n_str := PySem.W.mg_none_of X G z_str }
  have T1 : SourceTxt K mg  := { int := PySem.W.mg_none_of X G z_int, abs := PySem.W.mg_none_of X G z_abs }
  have T2 : AnyTxt K mg  := { int := PySem.W.mg_none_of X G z_int }
  have T3 : OfTxt K mg f12 := { len := PySem.W.mg_none_of X G z_len, any := PySem.W.mg_of X G a12, kAny := F12.kp }
  have T4 : StTxt K mg CT f0 f1 f3 f2 := { toBaseTxt := TB, toClsT := TC, n_zip := PySem.W.mg_none_of X G z_zip, n_all := PySem.W.mg_none_of X G z_all, g_taken := PySem.W.mg_of X G a0, k_taken := F0.kp, g_all_things := PySem.W.mg_of X G a1, k_all_things := F1.kp, g_grown := PySem.W.mg_of X G a3, k_grown := F3.kp, g_state_behind := PySem.W.mg_of X G a2, k_state_behind := F2.kp }
  have T5 : EfTxt K mg CT f5 f7 f8 f9 f4 := { toBaseTxt := TB, toClsT := TC, n_range := PySem.W.mg_none_of X G z_range, n_tuple := PySem.W.mg_none_of X G z_tuple, gx_NOTHING_YET := ⟨t0, PySem.W.mg_of X G c0⟩, gx_ONE_TAKEN := ⟨t1, PySem.W.mg_of X G c1⟩, gx_ALL_ELSE := ⟨t2, PySem.W.mg_of X G c2⟩, g_both_effects := PySem.W.mg_of X G a5, k_both_effects := F5.kp, g_no_effect := PySem.W.mg_of X G a7, k_no_effect := F7.kp, g_text_effect := PySem.W.mg_of X G a8, k_text_effect := F8.kp, g_node_effect := PySem.W.mg_of X G a9, k_node_effect := F9.kp, g_state_of := PySem.W.mg_of X G a4, k_state_of := F4.kp }
  have T6 : LwTxt K mg CT fT f20 f21 := { toBaseTxt := TB, toClsT := TC, n_range := PySem.W.mg_none_of X G z_range, n_tuple := PySem.W.mg_none_of X G z_tuple, g_law_state := PySem.W.mg_of X G a20, k_law_state := F20.kp, g_law_on := PySem.W.mg_of X G a21, k_law_on := F21.kp, g_Table := PySem.W.mg_of X G b_CT, mk_Table := MK }
  have T7 : TxTxt K mg f13 := { n_range := PySem.W.mg_none_of X G z_range, g_law_of := PySem.W.mg_of X G a13, k_law_of := F13.kp }
  have T8 : ShTxt mg  := { n_tuple := PySem.W.mg_none_of X G z_tuple }
  have T9 : FoTxt K mg f12 f13 f15 f16 f17 := { n_range := PySem.W.mg_none_of X G z_range, n_len := PySem.W.mg_none_of X G z_len, n_tuple := PySem.W.mg_none_of X G z_tuple, g_law_any := PySem.W.mg_of X G a12, k_law_any := F12.kp, g_law_of := PySem.W.mg_of X G a13, k_law_of := F13.kp, g_law_text := PySem.W.mg_of X G a15, k_law_text := F15.kp, g_law_shut := PySem.W.mg_of X G a16, k_law_shut := F16.kp, g_law_forest := PySem.W.mg_of X G a17, k_law_forest := F17.kp }
  have TA : NmTxt K mg f12 f13 f18 f17 := { n_range := PySem.W.mg_none_of X G z_range, n_len := PySem.W.mg_none_of X G z_len, g_law_any := PySem.W.mg_of X G a12, k_law_any := F12.kp, g_law_of := PySem.W.mg_of X G a13, k_law_of := F13.kp, g_law_node := PySem.W.mg_of X G a18, k_law_node := F18.kp, g_law_forest := PySem.W.mg_of X G a17, k_law_forest := F17.kp }
  have TL : LawTxt K mg CT f11 f12 f14 f19 f23 f25 f24 f6 f5 f10 f20 f22 := { n_repr := PySem.W.mg_none_of X G z_repr, n_range := PySem.W.mg_none_of X G z_range, n_list := PySem.W.mg_none_of X G z_list, n_len := PySem.W.mg_none_of X G z_len, n_isinstance := PySem.W.mg_none_of X G z_isinstance, n_str := PySem.W.mg_none_of X G z_str, g_law_source := PySem.W.mg_of X G a11, k_law_source := F11.kp, g_law_any := PySem.W.mg_of X G a12, k_law_any := F12.kp, g_law_names := PySem.W.mg_of X G a14, k_law_names := F14.kp, g_law_drawn := PySem.W.mg_of X G a19, k_law_drawn := F19.kp, g_law_of_plain := PySem.W.mg_of X G a23, k_law_of_plain := F23.kp, g_law_some := PySem.W.mg_of X G a25, k_law_some := F25.kp, g_law_effect := PySem.W.mg_of X G a24, k_law_effect := F24.kp, g_effect_of := PySem.W.mg_of X G a6, k_effect_of := F6.kp, g_both_effects := PySem.W.mg_of X G a5, k_both_effects := F5.kp, g_is_one_taken := PySem.W.mg_of X G a10, k_is_one_taken := F10.kp, g_law_state := PySem.W.mg_of X G a20, k_law_state := F20.kp, g_law_of_table := PySem.W.mg_of X G a22, k_law_of_table := F22.kp }
  have kr6 : BindsR d6 ["table", "forest"] ["forest", "table"] := fun s us hl => by
    match us, hl with
    | [u0, u1], _ =>
      obtain ⟨_, _, _, _, _, _, _, _, _, rfl, _, _⟩ := F6.ex
      exact .of_eq rfl
  have kr5 : BindsR d5 ["one", "other"] ["other", "one"] := fun s us hl => by
    match us, hl with
    | [u0, u1], _ =>
      obtain ⟨_, _, _, _, _, _, _, _, _, rfl, _, _⟩ := F5.ex
      exact .of_eq rfl
  have kr10 : BindsR d10 ["table", "effect"] ["effect", "table"] := fun s us hl => by
    match us, hl with
    | [u0, u1], _ =>
      obtain ⟨_, _, _, _, _, _, _, _, _, rfl, _, _⟩ := F10.ex
      exact .of_eq rfl
  refine ⟨d26, fun s v => ?_, fun base _ _ => ?_⟩
  · obtain ⟨_, _, _, _, _, _, _, _, _, rfl, _, _⟩ := F26.ex
    exact .of_eq rfl
  · have GS : FnOk P w K mg base CX0 1 f11 d11 ["script", "salt"] (spSource K) := ok_source F11 T1
    have GA : FnOk P w K mg base CX0 1 f12 d12 ["draws", "bound"] (spAny) := ok_any F12 T2
    have GO : FnOk P w K mg base CX0 2 f13 d13 ["draws", "some"] (spOf) := ok_of F13 T3 GA v12
    have DA : FnOk P w K mg base CX0 1 f12 d12 ["draws", "bound"] (spD K spAnyD) := GA.imp any_imp
    have DO : FnOk P w K mg base CX0 2 f13 d13 ["draws", "some"] (spD K spOfD) := GO.imp of_imp
    have DOT : FnOk P w K mg base CX0 2 f13 d13 ["draws", "some"] (spD K spOfTD) := ok_ofT F13 T9 DA v12
    have Gt : FnOk P w K mg base CX0 1 f0 d0 ["made", "many"] (spD K spTakenD) := ok_taken F0 TB
    have Gal : FnOk P w K mg base CX0 1 f1 d1 ["forest"] (spD K spAllD) := ok_allT F1 TB
    have Gg : FnOk P w K mg base CX0 1 f3 d3 ["table", "state", "children"] (spD K (spGrownT CT)) := ok_grownT F3 T4
    have Gb : FnOk P w K mg base CX0 2 f2 d2 ["table", "state", "forest"] (spD K (spBehind CT)) := ok_behind F2 T4 Gt v0 Gal v1 Gg v3
    have Gs : FnOk P w K mg base CX0 3 f4 d4 ["table", "node"] (spD K (spStateOf CT)) := ok_stateOf F4 T4 Gb v2
    have Gbo : FnOk P w K mg base CX0 1 f5 d5 ["one", "other"] (spD K spBothE) := ok_bothE F5 T5
    have Gno : FnOk P w K mg base CX0 1 f7 d7 ["table"] (spD K (spNoE CT)) := ok_noE F7 T5
    have Gte : FnOk P w K mg base CX0 1 f8 d8 ["table"] (spD K (spTextE CT)) := ok_textE F8 T5
    have Gne : FnOk P w K mg base CX0 1 f9 d9 ["table", "state"] (spD K (spNodeE CT)) := ok_nodeE F9 T5
    have Gef : FnOk P w K mg base CX0 4 f6 d6 ["table", "forest"] (spD K (spEffOf CT)) := ok_effOf F6 T5 Gbo v5 Gno v7 Gte v8 Gne v9 Gs v4
    have Gis : FnOk P w K mg base CX0 1 f10 d10 ["table", "effect"] (spD K (spIsOne CT)) := ok_isOne F10 T5
    have GI : FnOk P w K mg base CX0 1 fT dT ["self", "names", "begins", "texts", "steps", "ends"] (spIni CT TN) := ok_initT FT TC
    have Glt : FnOk P w K mg base CX0 1 f22 d22 ["table"] (spD K (spLOfT CT)) := ok_lOfT F22 T6
    have Glp : FnOk P w K mg base CX0 3 f23 d23 ["plain"] (spD K (spLOfP CT)) := ok_lOfP F23 T6 GI vT
    obtain ⟨Gls, Glo⟩ := ok_lBoth (P := P) (w := w) (base := base) F20 F21 T6 v20 v21 20
    have Gle : FnOk P w K mg base CX0 43 f24 d24 ["plain", "forest"] (spD K (spLEff 20)) := ok_lEff F24 T6 Gls v20 Glo v21
    have Gtx : FnOk P w K mg base CX0 3 f15 d15 ["draws"] (spD K spTx) := ok_lText F15 T7 DO v13
    have Gsh : FnOk P w K mg base CX0 1 f16 d16 ["stack"] (spD K spShut) := ok_shut F16 T8
    have Gfo : FnOk P w K mg base CX0 4 f17 d17 ["draws", "names", "most"] (spD K spFor) := ok_lFor F17 T9 DA v12 DO v13 Gtx v15 Gsh v16
    have Gnd : FnOk P w K mg base CX0 5 f18 d18 ["draws", "names", "most"] (spD K spNod) := ok_lNode F18 T9 DO v13 Gfo v17
    have Gdr : FnOk P w K mg base CX0 3 f19 d19 ["draws", "names", "most"] (spD K spDrawn) := ok_drawn F19 T9 DA v12 DO v13 DOT
    have Gnm : FnOk P w K mg base CX0 3 f14 d14 ["draws", "many"] (spD K spNmD) := ok_namesL F14 TA DA v12 DO v13
    have Gso : FnOk P w K mg base CX0 6 f25 d25 ["draws", "names"] (spD K spSomeD) := ok_some F25 TA DO v13 Gnd v18 Gfo v17
    exact ok_law F26 TL GS v11 DA v12 Gnm v14 Gdr v19 Glp v23 Gso v25 Gle v24 Gef v6 kr6 Gbo v5 kr5 Gis v10 kr10 Gls v20 Glt v22
end K3

open PySem PySem.W PyProof.Rows
set_option maxRecDepth 100000 in
set_option maxHeartbeats 0 in
theorem PySem.Challenge.cw_turnsfit_k56_effects_of_forests_holds : PySem.Challenge.rw_turnsfit_k56_effects_of_forests.Holds := by
  w_on; o_law; k_head; (case hw => w_witness2)
  k_fill
  refine Grd.walkG (l := PySem.Challenge.rw_turnsfit_k56_effects_of_forests) (sp := K3.spLaw) (x := "script") (k := 50) rfl (by decide) rfl ⟨rfl, by decide, by decide⟩ (fun w h Y => PySem.W.kIn_of Y) ?F (fun K H a ns hl hS => ⟨a, ns, rfl, hS, hl, fun _ => rfl⟩)
  case F =>
    intro w mg fa h KX G hmg
    refine' K3.all_mk KX G hmg ?kq_a0 ?kq_h0 ?kq_a1 ?kq_h1 ?kq_a2 ?kq_h2 ?kq_a3 ?kq_h3 ?kq_a4 ?kq_h4 ?kq_a5 ?kq_h5 ?kq_a6 ?kq_h6 ?kq_a7 ?kq_h7 ?kq_a8 ?kq_h8 ?kq_a9 ?kq_h9 ?kq_a10 ?kq_h10 ?kq_a11 ?kq_h11 ?kq_a12 ?kq_h12 ?kq_a13 ?kq_h13 ?kq_a14 ?kq_h14 ?kq_a15 ?kq_h15 ?kq_a16 ?kq_h16 ?kq_a17 ?kq_h17 ?kq_a18 ?kq_h18 ?kq_a19 ?kq_h19 ?kq_a20 ?kq_h20 ?kq_a21 ?kq_h21 ?kq_a22 ?kq_h22 ?kq_a23 ?kq_h23 ?kq_a24 ?kq_h24 ?kq_a25 ?kq_h25 ?kq_a26 ?kq_h26 ?kq_b_CT ?kq_j_CT ?kq_g_CT ?kq_p1 ?kq_p2 ?kq_p3 ?kq_p4 ?kq_p5 ?kq_p6 ?kq_p7 ?kq_m0 ?kq_m1 ?kq_m2 ?kq_m3 ?kq_m4 ?kq_c0 ?kq_c1 ?kq_c2 ?kq_z_len ?kq_z_list ?kq_z_isinstance ?kq_z_str ?kq_z_int ?kq_z_abs ?kq_z_zip ?kq_z_all ?kq_z_range ?kq_z_tuple ?kq_z_repr
    (case kq_a0 => k_is)
    (case kq_h0 => refine' ⟨_, L2.fun_mk (st := K3.sTaken) ?kql ?kqc ?kqk⟩; (case kql => k_is); (case kqc => k_is); (case kqk => k_is))
    (case kq_a1 => k_is)
    (case kq_h1 => refine' ⟨_, L2.fun_mk (st := K3.sAllT) ?kql ?kqc ?kqk⟩; (case kql => k_is); (case kqc => k_is); (case kqk => k_is))
    (case kq_a2 => k_is)
    (case kq_h2 => refine' ⟨_, L2.fun_mk (st := K3.sBehind) ?kql ?kqc ?kqk⟩; (case kql => k_is); (case kqc => k_is); (case kqk => k_is))
    (case kq_a3 => k_is)
    (case kq_h3 => refine' ⟨_, L2.fun_mk (st := K3.sGrownT) ?kql ?kqc ?kqk⟩; (case kql => k_is); (case kqc => k_is); (case kqk => k_is))
    (case kq_a4 => k_is)
    (case kq_h4 => refine' ⟨_, L2.fun_mk (st := K3.sStateOf) ?kql ?kqc ?kqk⟩; (case kql => k_is); (case kqc => k_is); (case kqk => k_is))
    (case kq_a5 => k_is)
    (case kq_h5 => refine' ⟨_, L2.fun_mk (st := K3.sBothE) ?kql ?kqc ?kqk⟩; (case kql => k_is); (case kqc => k_is); (case kqk => k_is))
    (case kq_a6 => k_is)
    (case kq_h6 => refine' ⟨_, L2.fun_mk (st := K3.sEffOf) ?kql ?kqc ?kqk⟩; (case kql => k_is); (case kqc => k_is); (case kqk => k_is))
    (case kq_a7 => k_is)
    (case kq_h7 => refine' ⟨_, L2.fun_mk (st := K3.sNoE) ?kql ?kqc ?kqk⟩; (case kql => k_is); (case kqc => k_is); (case kqk => k_is))
    (case kq_a8 => k_is)
    (case kq_h8 => refine' ⟨_, L2.fun_mk (st := K3.sTextE) ?kql ?kqc ?kqk⟩; (case kql => k_is); (case kqc => k_is); (case kqk => k_is))
    (case kq_a9 => k_is)
    (case kq_h9 => refine' ⟨_, L2.fun_mk (st := K3.sNodeE) ?kql ?kqc ?kqk⟩; (case kql => k_is); (case kqc => k_is); (case kqk => k_is))
    (case kq_a10 => k_is)
    (case kq_h10 => refine' ⟨_, L2.fun_mk (st := K3.sIsOne) ?kql ?kqc ?kqk⟩; (case kql => k_is); (case kqc => k_is); (case kqk => k_is))
    (case kq_a11 => k_is)
    (case kq_h11 => refine' ⟨_, L2.fun_mk (st := K1.sSource) ?kql ?kqc ?kqk⟩; (case kql => k_is); (case kqc => k_is); (case kqk => k_is))
    (case kq_a12 => k_is)
    (case kq_h12 => refine' ⟨_, L2.fun_mk (st := K1.sAny) ?kql ?kqc ?kqk⟩; (case kql => k_is); (case kqc => k_is); (case kqk => k_is))
    (case kq_a13 => k_is)
    (case kq_h13 => refine' ⟨_, L2.fun_mk (st := K1.sOf) ?kql ?kqc ?kqk⟩; (case kql => k_is); (case kqc => k_is); (case kqk => k_is))
    (case kq_a14 => k_is)
    (case kq_h14 => refine' ⟨_, L2.fun_mk (st := K3.sNamesL) ?kql ?kqc ?kqk⟩; (case kql => k_is); (case kqc => k_is); (case kqk => k_is))
    (case kq_a15 => k_is)
    (case kq_h15 => refine' ⟨_, L2.fun_mk (st := K3.sLText) ?kql ?kqc ?kqk⟩; (case kql => k_is); (case kqc => k_is); (case kqk => k_is))
    (case kq_a16 => k_is)
    (case kq_h16 => refine' ⟨_, L2.fun_mk (st := K3.sShut) ?kql ?kqc ?kqk⟩; (case kql => k_is); (case kqc => k_is); (case kqk => k_is))
    (case kq_a17 => k_is)
    (case kq_h17 => refine' ⟨_, L2.fun_mk (st := K3.sLFor) ?kql ?kqc ?kqk⟩; (case kql => k_is); (case kqc => k_is); (case kqk => k_is))
    (case kq_a18 => k_is)
    (case kq_h18 => refine' ⟨_, L2.fun_mk (st := K3.sLNode) ?kql ?kqc ?kqk⟩; (case kql => k_is); (case kqc => k_is); (case kqk => k_is))
    (case kq_a19 => k_is)
    (case kq_h19 => refine' ⟨_, L2.fun_mk (st := K3.sDrawn) ?kql ?kqc ?kqk⟩; (case kql => k_is); (case kqc => k_is); (case kqk => k_is))
    (case kq_a20 => k_is)
    (case kq_h20 => refine' ⟨_, L2.fun_mk (st := K3.sLState) ?kql ?kqc ?kqk⟩; (case kql => k_is); (case kqc => k_is); (case kqk => k_is))
    (case kq_a21 => k_is)
    (case kq_h21 => refine' ⟨_, L2.fun_mk (st := K3.sLOn) ?kql ?kqc ?kqk⟩; (case kql => k_is); (case kqc => k_is); (case kqk => k_is))
    (case kq_a22 => k_is)
    (case kq_h22 => refine' ⟨_, L2.fun_mk (st := K3.sLOfT) ?kql ?kqc ?kqk⟩; (case kql => k_is); (case kqc => k_is); (case kqk => k_is))
    (case kq_a23 => k_is)
    (case kq_h23 => refine' ⟨_, L2.fun_mk (st := K3.sLOfP) ?kql ?kqc ?kqk⟩; (case kql => k_is); (case kqc => k_is); (case kqk => k_is))
    (case kq_a24 => k_is)
    (case kq_h24 => refine' ⟨_, L2.fun_mk (st := K3.sLEff) ?kql ?kqc ?kqk⟩; (case kql => k_is); (case kqc => k_is); (case kqk => k_is))
    (case kq_a25 => k_is)
    (case kq_h25 => refine' ⟨_, L2.fun_mk (st := K3.sSome) ?kql ?kqc ?kqk⟩; (case kql => k_is); (case kqc => k_is); (case kqk => k_is))
    (case kq_a26 => k_is)
    (case kq_h26 => refine' ⟨_, L2.fun_mk (st := K3.sLaw) ?kql ?kqc ?kqk⟩; (case kql => k_is); (case kqc => k_is); (case kqk => k_is))
    (case kq_b_CT => k_is)
    (case kq_j_CT => k_is)
    (case kq_g_CT => refine' ⟨_, L2.fun_mk (st := K3.sInitT) ?kql ?kqc ?kqk⟩; (case kql => k_is); (case kqc => k_is); (case kqk => k_is))
    (case kq_p1 => kernel_rfl)
    (case kq_p2 => kernel_rfl)
    (case kq_p3 => kernel_rfl)
    (case kq_p4 => kernel_rfl)
    (case kq_p5 => kernel_rfl)
    (case kq_p6 => kernel_rfl)
    (case kq_p7 => kernel_rfl)
    (case kq_m0 => kernel_rfl)
    (case kq_m1 => kernel_rfl)
    (case kq_m2 => kernel_rfl)
    (case kq_m3 => kernel_rfl)
    (case kq_m4 => kernel_rfl)
    (case kq_c0 => k_is)
    (case kq_c1 => k_is)
    (case kq_c2 => k_is)
    (case kq_z_len => k_is)
    (case kq_z_list => k_is)
    (case kq_z_isinstance => k_is)
    (case kq_z_str => k_is)
    (case kq_z_int => k_is)
    (case kq_z_abs => k_is)
    (case kq_z_zip => k_is)
    (case kq_z_all => k_is)
    (case kq_z_range => k_is)
    (case kq_z_tuple => k_is)
    (case kq_z_repr => k_is)

