import PyProof.Rows.All
import Wide.All
import OpenK.AllK
import Wide.FinOn
import HandS.ForMost
import HandS.Style
import HandS.TupAny
import HandS.Walk
import KE.GoesEnum
import HandS.Wide
import HandS.Flow
import HandS.IsInst
import HandS.Text
import HandS.More
import KE.KExcInit
import HandS.ForExc
import HandS.ExcInit
import HandS.ExcIs
import KE.KExcIs
import HandS.ExcValue
import HandS.CallSlots
import HandS.ExcField
import HandS.TryOnly
import HandS.ExcOwn
import HandS.Ends
import PyProof.StrBlock2
import PySem.Challenge.RW_turnsfit_k01_any_values_as_nodes_and_for
set_option Elab.async false
set_option linter.all false
set_option maxRecDepth 100000
set_option maxHeartbeats 16000000
/-! rules of general use: t[::-1], xs.extend(t), enumerate(t) of tuples -/
namespace Xr
open PySem PySem.Spec PyProof.Rows L2 HT
section
variable {prog : Program} {w : World} {A : Around} {E : Value → Shared → Prop} {s : Shared}
theorem adjust_back (n : Nat) : Builtin.Slice.sliceAdjust none none (-1) (n : Int) = ((n : Int) - 1, -1) := by
  unfold Builtin.Slice.sliceAdjust
  have h1 : ((-1 : Int) < 0) := by omega
  simp only [h1, if_true]
theorem places_back (n : Nat) : Builtin.Slice.slicePlaces ((n : Int) - 1) (-1) (-1) = n := by
  unfold Builtin.Slice.slicePlaces
  have h1 : ¬ (-1 : Int) > 0 := by omega
  simp only [h1, if_false]
  have e : (-(-1) : Int) = 1 := rfl
  rw [e, Int.ediv_one]
  split <;> omega
theorem sliceApplied_back {sl : Addr} {t : Tok} {n : Nat} {Q : Int × Int × Nat → Shared → Prop} (hs : s.heap.IsSliceOf sl .none .none (.int (-1) t)) (h : Q ((n : Int) - 1, -1, n) s) :
    wpAny (model prog w) A (Builtin.Slice.sliceApplied (.ref sl) (pure (n : Int))) Q E s := by
  obtain ⟨os, hos, hcs, hds⟩ := id hs
  unfold Builtin.Slice.sliceApplied Builtin.Slice.sliceFields
  refine wpAny_bind (wpAny_bind (wpAny_field hos hds (x := .none) rfl (wpAny_bind (wpAny_field hos hds (x := .none) rfl (wpAny_bind (wpAny_field hos hds (x := .int (-1) t) rfl (wpAny_pure ?_)))))))
  refine wpAny_bind (slicePart_int ?_)
  show wpAny _ _ (if ((-1 : Int) == 0) = true then _ else _) _ _ s
  rw [if_neg (by decide)]
  refine wpAny_bind (slicePart_none (wpAny_bind (slicePart_none (wpAny_bind (wpAny_pure ?_)))))
  show wpAny _ _ (match Builtin.Slice.sliceAdjust none none (-1) (n : Int) with | (lo, hi) => pure (lo, (-1 : Int), Builtin.Slice.slicePlaces lo hi (-1))) _ _ s
  rw [adjust_back n]
  show wpAny _ _ (pure ((n : Int) - 1, (-1 : Int), Builtin.Slice.slicePlaces ((n : Int) - 1) (-1) (-1))) _ _ s
  rw [places_back]
  exact wpAny_pure h
theorem fm_congr {α β : Type} {f g : α → Option β} : ∀ {l : List α}, (∀ x ∈ l, f x = g x) → l.filterMap f = l.filterMap g
  | [], _ => rfl
  | a :: l, h => by
    rw [List.filterMap_cons, List.filterMap_cons, h a (by simp), fm_congr fun x hx => h x (List.mem_cons_of_mem _ hx)]
theorem pick_back (xs : Array Value) : ((List.range xs.size).filterMap fun (m : Nat) => xs[(((xs.size : Int) - 1) + (m : Int) * (-1)).toNat]?).toArray = xs.toList.reverse.toArray := by
  have e := PySem.W.krv_pick xs
  rw [← e]
  unfold slicePick
  rw [PySem.W.krv_bounds]
  show _ = ((sliceRange ((xs.size : Int) - 1) (-1) (-1)).filterMap _).toArray
  rw [PySem.W.krv_sliceRange, List.filterMap_map]
  congr 1
  refine fm_congr fun m hm => ?_
  have h : m < xs.size := List.mem_range.mp hm
  have e2 : (((xs.size : Int) - 1) + (m : Int) * (-1)).toNat = xs.size - 1 - m := by omega
  rw [e2]
  rfl
theorem getItem_tuple_back {t sl : Addr} {items : Array Value} {u : Tok} {Q : Value → Shared → Prop} (ht : IsTup s.heap t items) (hs : s.heap.IsSliceOf sl .none .none (.int (-1) u))
    (h : Q (.ref s.heap.objs.size) { s with heap := s.heap.push { cls := .type "tuple", data := .seq items.toList.reverse.toArray } })
    (hsz : items.size ≤ sizeLine) : wpAny (model prog w) A (getItem (.ref t) (.ref sl)) Q E s := by
  have htake : sizeOk (.seq items.toList.reverse.toArray) := by
    show items.toList.reverse.toArray.size ≤ sizeLine
    rw [List.size_toArray, List.length_reverse, Array.length_toList]
    exact hsz
  obtain ⟨os, hos, hcs, hds⟩ := id hs
  have hTs : s.TypeIs (.ref sl) "slice" := ⟨os, hos, hcs⟩
  unfold getItem
  try with_reducible refine wpAny_holding ?_
  first | refine wpAny_bind (wpAny_pure ?_) | skip
  refine wpAny_bind (wpAny_sequenceKey ht.typeIs (by decide) ?_)
  refine wpAny_bind (wpAny_callSpecial?_slot (name := Str.ofString "__getitem__") ht.typeIs PyProof.Rows.slot_tuple_getitem
    (wpAny_call_entry PyProof.Rows.slot_tuple_getitem ht.typeIs entry_tuple_getitem ?_ (args_tuple_getitem _ _)))
  show wpAny _ _ (Builtin.Tuple.tupleItemsOf (.ref t) >>= _) _ _ s
  refine wpAny_bind (tupleItemsOf_ ht ?_)
  refine wpAny_bind (wpAny_typeOf hTs ?_)
  rw [if_pos (by decide)]
  refine wpAny_bind (sliceApplied_back hs ?_)
  have hno : ¬ ((((items.size : Int) - 1) == 0 && (-1 : Int) == 1 && items.size == items.size) = true) := by
    intro q
    rw [Bool.and_eq_true, Bool.and_eq_true] at q
    have q1 : (-1 : Int) = 1 := eq_of_beq q.1.2
    omega
  show wpAny _ _ (if (((items.size : Int) - 1) == 0 && (-1 : Int) == 1 && items.size == items.size) = true then _ else _) _ _ s
  rw [if_neg hno, pick_back]
  first
    | exact wpAny_bind (m := Builtin.Tuple.tupleExact _) (wpAny_newObj_type (wpAny_pure ⟨_, rfl, wpAny_pure h⟩) htake)
    | exact wpAny_bind (m := Builtin.Tuple.tupleExact _) (wpAny_newObj_type (wpAny_bind (wpAny_pure (wpAny_pure ⟨_, rfl, wpAny_pure h⟩))) htake)
    | exact wpAny_bind (wpAny_bind (m := Builtin.Tuple.tupleExact _) (wpAny_newObj_type (wpAny_pure (wpAny_pure ⟨_, rfl, wpAny_pure h⟩)) htake))
    | exact wpAny_bind (wpAny_bind (m := Builtin.Tuple.tupleExact _) (wpAny_newObj_type (wpAny_pure ⟨_, rfl, wpAny_pure h⟩) htake))
end
/-- list.extend by a tuple, whatever else the tuple's object bears -/
theorem extend_tupW (l b : Addr) (xs ys : Array Value) (n n2 : Nat) (dd : Option Addr) (sl : Array (Option Value)) (h0 : ¬(!xs.isEmpty && Builtin.List.listTooLong (xs.size + ys.size)) = true) (h1 : xs.size ≤ sizeLine) (h2 : xs.size + ys.size ≤ sizeLine + 1) :
    Meets (Builtin.«list.extend» ⟨[.ref l, .ref b], []⟩) (fun _ R s => s.heap.get? l = some { cls := .type "list", dict := none, data := .seq xs n, slots := #[] } ∧ s.heap.get? b = some { cls := .type "tuple", dict := dd, data := .seq ys n2, slots := sl } ∧ R (.ok (.ret Value.none)) { s with heap := s.heap.update l (Obj.mapSeq fun z => z ++ ys), toks := s.toks }) :=
  .of_wp fun prog w A R s h => by
    obtain ⟨hp, g, d, tk, os⟩ := s
    obtain ⟨hl, hb, h⟩ := h
    have f1 := AutoSeq1.idx_int
    have f2 := AutoSeq1.sub_tuple_tuple
    have f3 := AutoSeq1.sub_list_list
    have f4 := AutoSeq1.sub_tuple_list
    have f5 := AutoSeq1.sub_list_tuple
    have hz' : (xs ++ ys).size ≤ sizeLine + 1 := by rw [Array.size_append]; exact h2
    wp_walk using (wpAny_updateSeq hl rfl (hz := h1) (_hz' := hz')), AutoSeq1.wpAny_loadPart' hl, AutoSeq1.wpAny_loadPart' hb
    exact ⟨_, rfl, h⟩
section
variable {X : Cx}
/-- t[::-1] -/
def tRevT (K : PySem.W.Frag) (te : TE) : TE := fun σ H Q => te σ H fun x H1 => ∃ a xs, x = .ref a ∧ SqT K H1 a xs ∧ ∀ p, H1 p = none → Q (.ref p) (upd H1 p (.tup xs.reverse))
theorem pe_revT {e : Expr} {te : TE} {k : Nat} {p1 p2 p3 pos : Pos} (he : PE X e te) : PE X (.Subscript e (.Slice none none (some (.UnaryOp .USub (.Constant (.int 1) k p1) p2)) p3) pos) (tRevT X.K te) := by
  refine ⟨fun pins s σ H Q I h => ?_⟩
  refine Subscript_ (thn (he.run pins s σ H _ I h) fun v s1 ⟨x, H1, I1, r1, q1⟩ => ?_)
  obtain ⟨a, xs, ex, hx, q⟩ := q1
  subst ex
  cases r1
  have hst : PO X (some (.UnaryOp .USub (.Constant (.int 1) k p1) p2)) (tPart (tUn (rU fun i => .int (-i)) (tC (.int 1)))) := po_some (pe_un un_neg pe_int)
  refine wpAny_Slice (thn (po_none.run pins s1 σ H1 (fun o H2 => o = none ∧ H2 = H1) I1 ⟨rfl, rfl⟩) fun vl s2 ⟨l, H2, I2, pl, el, e2⟩ => ?_)
  subst el e2
  refine thn (po_none.run pins s2 σ H2 (fun o H3 => o = none ∧ H3 = H2) I2 ⟨rfl, rfl⟩) fun vu s3 ⟨u, H3, I3, pu, eu, e3⟩ => ?_
  subst eu e3
  refine thn (hst.run pins s3 σ H3 (fun o H4 => o = some (-1) ∧ H4 = H3) I3 ⟨1, rfl, -1, rfl, rfl, rfl⟩) fun vs s4 ⟨o, H4, I4, ps, eo, e4⟩ => ?_
  subst eo e4
  cases pl
  cases pu
  obtain ⟨tk, rfl⟩ : ∃ tk, vs = .int (-1) tk := by
    cases ps
    exact ⟨_, rfl⟩
  have I5 : L2.Inv X pins σ H4 { s4 with heap := s4.heap.push { cls := .type "slice", data := .fields #[.none, .none, .int (-1) tk] } } := I4.kept (t' := s4.toks) fun b ob q => Heap.get?_push_of_some _ q
  obtain ⟨its, r, ht, hz⟩ := I5.tuple hx
  have hlen := r.length
  show wpAny (model X.prog X.w) X.A (subscriptTail e (.Slice none none (some (.UnaryOp .USub (.Constant (.int 1) k p1) p2)) p3) (.ref a) (.ref s4.heap.objs.size)) (EP X pins σ Q) X.xe { s4 with heap := s4.heap.push { cls := .type "slice", data := .fields #[.none, .none, .int (-1) tk] } }
  refine tail_any (ops := [.ref a, .ref s4.heap.objs.size]) ht.typeIs (PyProof.Rows.slot_tuple_getitem.lookup) ?_ (by with_unfolding_all rfl)
  refine getItem_tuple_back ht (Heap.IsSliceOf.new _ .none .none (.int (-1) tk)) ?_ (by rw [List.size_toArray]; omega)
  refine ⟨.ref _, _, I5.laid (t' := s4.toks) (o := .tup xs.reverse) (fun b ob q => Heap.get?_push_of_some _ q) (Nat.le_refl _) ?_, rfl, q _ (I5.hok.fresh (Nat.le_refl _))⟩
  exact ⟨by show xs.reverse.length ≤ sizeLine; rw [List.length_reverse]; exact hz, _, r.reverse, ⟨_, Heap.get?_push_size _ rfl, rfl, _, rfl⟩⟩
/-- xs.extend(t), t a tuple -/
def rExtT (K : PySem.W.Frag) : V → List V → Hp → VK → Prop := fun x vs H Q => ∃ l b xs zs, x = .ref l ∧ vs = [.ref b] ∧ H l = some (.lst xs) ∧ H b = some (.tup zs) ∧ xs.length + zs.length ≤ sizeLine ∧ Q .non (upd H l (.lst (xs ++ zs)))
theorem mt_extendT : MtM X "list.extend" (rExtT X.K) := by
  intro pins s σ H x vs v us Q I rx rv h
  obtain ⟨l, b, xs, zs, rfl, rfl, hH, hB, hz, q⟩ := h
  cases rx
  obtain ⟨u, rfl, ru⟩ := rv.one
  cases ru
  obtain ⟨z, its, n, r, hl, e⟩ := I.lstM hH
  obtain ⟨its2, r2, p2, z2⟩ := I.tuple (SqT.of (K := X.K) hB)
  obtain ⟨⟨cls2, dd2, data2, sl2⟩, ho2, hc2, n2, hd2⟩ := id p2
  simp only at hc2 hd2
  subst hc2 hd2
  have hl2 := r2.length
  have hsz : its.toArray.size + its2.toArray.size ≤ sizeLine := by rw [List.size_toArray, List.size_toArray]; omega
  have hlong : ¬ (!its.toArray.isEmpty && Builtin.List.listTooLong (its.toArray.size + its2.toArray.size)) = true := by
    rw [notLongL hsz, Bool.and_false]
    exact Bool.false_ne_true
  refine call_meets PySem.F.slot_list_extend ⟨_, e, rfl⟩ PySem.F.entry_list_extend (PySem.F.args_list_extend_2 _ _)
    (extend_tupW l b its.toArray its2.toArray n n2 dd2 sl2 hlong (by rw [List.size_toArray]; omega) (by omega)) ⟨e, ho2, ?_⟩
  refine ⟨.non, _, I.lset (its' := its ++ its2) hH e (by simp) (r.append r2) ?_, rfl, q⟩
  rw [List.length_append]
  omega
end
end Xr

/-! enumerate(t), t a tuple -/
namespace Xr
open PySem PySem.Spec PyProof.Rows L2 HT
theorem meets_enum_one {v : Value} {o : Obj} {H : Heap → Prop} (B : Begins v o H) :
    Meets (Builtin.«enumerate.__new__» ⟨[.type "enumerate", v], []⟩) (fun _ R s => H s.heap ∧
      R (.ok (.ret (.ref (s.heap.push o).objs.size))) { s with heap := (s.heap.push o).push { cls := .type "enumerate", data := .fields #[.none, .bool false, .ref s.heap.objs.size, rawInt 0, .none, .none] } }) :=
  .of_wp fun prog w A R s h => by
    obtain ⟨hp, g, d, tk, os⟩ := s
    obtain ⟨h1, h⟩ := h
    have hsub := sub_enumerate
    have q1 : ∀ {A' : Around} {E : Value → Shared → Prop} {Q : Value → Shared → Prop}, Q (.ref hp.objs.size) ⟨hp.push o, g, d, tk, os⟩ → wpAny (model prog w) A' (pyIter v) Q E ⟨hp, g, d, tk, os⟩ :=
      fun q => B.iter prog w _ _ ⟨hp, g, d, tk, os⟩ _ h1 q
    wp_walk using q1
    refine wpAny_stack_any fun st => wpAny_pure ?_
    split
    · rename_i c _ _ _ _ _
      cases (c == Value.type "enumerate") <;> (wp_walk using q1; exact ⟨_, rfl, h⟩)
    · wp_walk using q1
      exact ⟨_, rfl, h⟩
section
variable {prog : Program} {w : World} {A : Around} {E : Value → Shared → Prop} {s : Shared}
theorem call_enum_one {v : Value} {o : Obj} {H : Heap → Prop} {Q : Value → Shared → Prop} (B : Begins v o H) (h1 : H s.heap)
    (h : ∀ h', IsEnum h' (s.heap.objs.size + 1) s.heap.objs.size 0 .none → h'.get? s.heap.objs.size = some o → h'.objs.size = s.heap.objs.size + 2 →
      (∀ b o, s.heap.get? b = some o → h'.get? b = some o) → Q (.ref (s.heap.objs.size + 1)) { s with heap := h' }) :
    wpAny (model prog w) A (call (.type "enumerate") [v]) Q E s := by
  refine callType_new F.called_enumerate (by decide) (F.typeCall_enumerate_1 _) (F.newCall_enumerate_1 _) (fun obj => F.args_object_init_2 obj _) F.entry_enumerate_new (meets_enum_one B) ⟨h1, ?_⟩
  have hz : (s.heap.push o).objs.size = s.heap.objs.size + 1 := Heap.size_push ..
  show _ ∧ _
  rw [hz]
  have he : IsEnum ((s.heap.push o).push { cls := .type "enumerate", data := .fields #[.none, .bool false, .ref s.heap.objs.size, rawInt 0, .none, .none] }) (s.heap.objs.size + 1) s.heap.objs.size 0 .none := by
    have := Heap.get?_push_size (s.heap.push o) (o := { cls := .type "enumerate", data := .fields #[.none, .bool false, .ref s.heap.objs.size, rawInt 0, .none, .none] }) rfl
    rw [hz] at this
    exact this
  exact ⟨⟨_, he, rfl⟩, h _ he (Heap.get?_push_of_some _ (Heap.get?_push_size _ B.free)) (by rw [Heap.size_push, hz]) fun b o x => Heap.get?_push_of_some _ (Heap.get?_push_of_some _ x)⟩
end
/-- the tuple at a as it stands at each turn, each item in a new pair -/
def IteT (K : PySem.W.Frag) (a : Addr) : It :=
  ⟨fun i H => ∃ (xs : List V) (x : V), SqT K H a xs ∧ xs[i]? = some x, fun i H v H' => ∃ T x, v = .ref T ∧ H T = none ∧ H' = upd H T (.tup [.int (i : Nat), x]) ∧ ∀ xs, SqT K H a xs → xs[i]? = some x, fun i H => ∃ xs : List V, SqT K H a xs ∧ xs.length = i⟩
theorem turn_enumT {P : Program} {w : World} {K : PySem.W.Frag} {elts : List Expr} {kk : Nat} {tpos : Pos} (a e it : Addr) :
    Turn P w K (.Tuple elts kk tpos) (IteT K a) [e, it] e (fun i h => (∃ old, IsEnum h e it ((i : Nat) : Int) old) ∧ h.IsTupleIter it a i ∧ e ≠ it ∧ a ≠ it ∧ e ≠ a) where
  mem := by simp
  obj := fun i h st b hb => by
    obtain ⟨⟨old, he⟩, ⟨o, ho, hc, hd⟩, _⟩ := st
    have e' : b = e ∨ b = it := by simpa using hb
    rcases e' with z | z
    · rw [z]; exact ⟨_, he, fun v q => nomatch q⟩
    · rw [z]; exact ⟨o, ho, fun v q => by rw [hd] at q; cases q⟩
  keep := fun i h h' st k => let ⟨⟨old, he⟩, hi, hne⟩ := st; ⟨⟨old, k e (by simp) _ he⟩, hi.at fun o q => k it (by simp) o q, hne⟩
  item := by
    intro X hP hw hK hc i pins s σ H E I hf st hg
    subst hP hw hK
    obtain ⟨⟨old, he⟩, hit, hne, hai, hea⟩ := st
    obtain ⟨xs, x, hq, hx⟩ := hg
    obtain ⟨its, rv, p, hz⟩ := I.tuple hq
    obtain ⟨u, hu, ru⟩ := rv.get hx
    have hel : e < s.heap.objs.size := Heap.lt_size he
    have hil : it < s.heap.objs.size := by obtain ⟨_, q, _⟩ := hit; exact Heap.lt_size q
    have hin : i < its.toArray.size := by
      rw [List.size_toArray]
      exact (List.getElem?_eq_some_iff.mp hu).1
    refine wpAny_pyNext_enum_itemC (Draws.tuple (prog := X.prog) (w := X.w) (A := X.A.in1) (I.ok.hd hc) it a hai its.toArray) he ⟨hit, p⟩ hin hne (by simp [hne, hea]) fun y h' tk hy ho hst' hT hsz hk => ?_
    have ey : y = u := by
      have z : its[i]? = some y := by simpa using hy
      rw [hu] at z
      exact (Option.some.inj z).symm
    subst ey
    refine ⟨_, rfl, wpAny_letOwnedTupleGo_enum (s := { s with heap := h', toks := tk + 1 }) ho fun h'' he' sb => ?_⟩
    have hT2 : h''.get? s.heap.objs.size = some { cls := .type "tuple", data := .seq #[.int i tk, y] } := (sb.2 _ (Nat.ne_of_gt hel)).trans hT
    have new : ObjOk X.prog X.w (upd H s.heap.objs.size (.tup [.int (i : Nat), x])) h'' s.heap.objs.size (.tup [.int (i : Nat), x]) :=
      ⟨by show 2 ≤ sizeLine; decide, [.int i tk, y], .cons ⟨_, rfl⟩ (.cons ru .nil), ⟨_, hT2, rfl, _, rfl⟩⟩
    have I1 : L2.Inv X pins σ (upd H s.heap.objs.size (.tup [.int (i : Nat), x])) { s with heap := h'', toks := tk + 1 } :=
      I.turnedNew (ch := [e, it]) (fun b ob hb q => (sb.2 b (fun z => hb (by simp [z]))).trans (hk b ob (fun z => hb (by simp [z])) (fun z => hb (by simp [z])) q)) hf (Nat.le_refl _) new
    refine ⟨.ref s.heap.objs.size, _, I1, rfl, ⟨_, x, rfl, I.hok.fresh (Nat.le_refl _), rfl, fun ys hy => ?_⟩, ⟨⟨y, ?_⟩, hst'.1.at fun o q => (sb.2 it (Ne.symm hne)).trans q, hne, hai, hea⟩, fun b hb => ?_⟩
    · obtain ⟨its2, rv2, p2, _⟩ := I.tuple hy
      have e1 : ys = xs := by
        first
          | exact I.tuple_inj hy hq
          | exact (I.tup_inj hy hq)
      rw [e1]
      exact hx
    · have e1 : ((i + 1 : Nat) : Int) = (i : Int) + 1 := by omega
      rw [e1]; exact he'
    · have hb' : b < s.heap.objs.size := by
        have e' : b = e ∨ b = it := by simpa using hb
        rcases e' with z | z
        · rw [z]; exact hel
        · rw [z]; exact hil
      rw [upd_ne (Nat.ne_of_lt hb')]
      exact (hf b hb).1
  done := by
    intro X hP hw hK hc i pins s σ H E I hf st hg
    subst hP hw hK
    obtain ⟨⟨old, he⟩, hit, hne, hai, hea⟩ := st
    obtain ⟨xs, hq, hx⟩ := hg
    obtain ⟨its, rv, p, hz⟩ := I.tuple hq
    obtain ⟨f0, f1, f2, f3, f4, f5⟩ := hf it (by simp)
    have hl := rv.length
    have hsz : its.toArray.size = i := by rw [List.size_toArray]; omega
    have D := Draws.tuple (prog := X.prog) (w := X.w) (A := X.A.in1) (I.ok.hd hc) it a hai its.toArray
    rw [hsz] at D
    exact wpAny_pyNext_enum_endD D he ⟨hit, p⟩ fun h' eb => ⟨rfl, I.turned (t' := s.toks) (fun b o hb q => eb b o hb q) f0 f1 f3 f4 f5⟩
  self := fun A i s Q E st h => let ⟨⟨_, he⟩, _⟩ := st; wpAny_pyIter_enum he h
def iEnumT (K : PySem.W.Frag) (ta : TA) : TI := fun σ H R => ta σ H fun vs H1 => ∃ a xs, vs = [.ref a] ∧ SqT K H1 a xs ∧ R (IteT K a) H1
theorem pi_enumT {X : Cx} {e : Expr} {ta : TA} {p pos tpos : Pos} {elts : List Expr} {kk : Nat} (hg : Gl X "enumerate") (hm : X.mg "enumerate" = none) (ha : PA X [e] ta) (hs : starEach [e] X.env = [(false, eval e X.env)] := by rfl) :
    PI X (.Tuple elts kk tpos) (.Call (.Name "enumerate" p) [e] [] pos) (iEnumT X.K ta) := by
  refine ⟨fun pins s σ H R I h => ?_⟩
  refine Call_ (ld_blt I hg hm boot_enumerate (PyProof.Rows.callWith_type1 (thn (ha.run pos pins s σ H _ I h) fun us s1 ⟨vs, H1, I1, r1, q1⟩ => ?_) hs rfl))
  obtain ⟨a, xs, ex, hq, q⟩ := q1
  subst ex
  cases r1 with
  | cons r rr =>
    cases rr
    cases r
    obtain ⟨its, rv, p', hz⟩ := I1.tuple hq
    have al : a < s1.heap.objs.size := by obtain ⟨_, q, _⟩ := p'; exact Heap.lt_size q
    refine call_enum_one (begins_tuple a its.toArray) p' fun h' he hit hsz hk => wpAny_pyIter_enum he ?_
    have I2 : L2.Inv X pins σ H1 { s1 with heap := h' } := I1.kept (t' := s1.toks) hk
    refine ⟨s1.heap.objs.size + 1, [s1.heap.objs.size + 1, s1.heap.objs.size], _, _, H1, rfl, I2, turn_enumT a (s1.heap.objs.size + 1) s1.heap.objs.size, ⟨⟨.none, he⟩, ⟨_, hit, rfl, rfl⟩, Nat.succ_ne_self _, Nat.ne_of_lt al, Ne.symm (Nat.ne_of_lt (Nat.lt_succ_of_lt al))⟩, fun b hb => ?_, q⟩
    have e' : b = s1.heap.objs.size + 1 ∨ b = s1.heap.objs.size := by simpa using hb
    have hle : s1.heap.objs.size ≤ b := by
      rcases e' with z | z
      · rw [z]; exact Nat.le_add_right _ _
      · rw [z]; exact Nat.le_refl _
    exact I1.fpOk hle (I1.hok.fresh hle)
theorem walk_enumT {K : PySem.W.Frag} {a : Addr} {xs : List V} : Walk (IteT K a) xs.length (fun H => SqT K H a xs) (YPair (fun i => some (.int (i : Nat))) (fun i => xs[i]?)) := by
  refine ⟨fun i _ hi q => ⟨xs, xs[i], q, by simp [hi]⟩, fun _ q => ⟨xs, q, rfl⟩, fun i H v H' _ q y => ?_⟩
  obtain ⟨T, x, h1, h2, h3, h4⟩ := y
  exact ⟨T, .int (i : Nat), x, h1, h2, h3, rfl, h4 xs q⟩
end Xr

/-! k01, part A: the text by places; the deal of draws: _law_any -/
namespace K1
open PySem L2
def top (i : Nat) : Stmt := PySem.Challenge.pw_turnsfit_k01_any_values_as_nodes_and_for.main.body.getD i (.Pass ⟨0, 0, 0, 0⟩)
abbrev sSource : Stmt := top 23
abbrev sAny : Stmt := top 24
abbrev sOf : Stmt := top 25

/-- the deal stands at d: its great cells at c, its blend -/
structure DealAt (H : Hp) (d c : Addr) : Prop where
  ex : ∃ (cs : List Int) (b : Int), H d = some (.lst [.ref c, .int b]) ∧ H c = some (.lst (cs.map V.int)) ∧ (∀ x ∈ cs, 0 ≤ x) ∧ cs.length ≤ 63 ∧ 0 ≤ b ∧ b < 2147483647
/-- all tracked things but the deal's own two stand as before -/
def But (d c : Addr) (H H' : Hp) : Prop := ∀ q o, H q = some o → q ≠ d → q ≠ c → H' q = some o
theorem But.refl {d c : Addr} {H : Hp} : But d c H H := fun _ _ h _ _ => h
theorem But.trans {d c : Addr} {H H1 H2 : Hp} (a : But d c H H1) (b : But d c H1 H2) : But d c H H2 := fun q o h n m => b q o (a q o h n m) n m
/-- a promise of _law_any -/
def spAny : Sp := fun vs H Q _ => ∃ (d c : Addr) (n : Int), vs = [.ref d, .int n] ∧ DealAt H d c ∧ 0 < n ∧ n < 1073741824 ∧
  ∀ (r : Int) (H' : Hp), 0 ≤ r → r < n → DealAt H' d c → But d c H H' → Q (.int r) H'
theorem last_at {l : List Int} {x : Int} : atI ((l ++ [x]).map V.int) (-1) = some (.int x) := by
  have e : (l ++ [x]).map V.int = l.map V.int ++ [V.int x] := by simp
  rw [e]
  unfold atI ixN
  have h1 : ¬ (0 : Int) ≤ -1 := by omega
  have h2 : -(((l.map V.int ++ [V.int x]).length : Nat) : Int) ≤ -1 := by
    rw [List.length_append]
    simp
    omega
  rw [if_neg h1, if_pos h2]
  have e2 : (-1 + (((l.map V.int ++ [V.int x]).length : Nat) : Int)).toNat = (l.map V.int).length := by
    rw [List.length_append]
    simp
    omega
  rw [e2]
  simp
theorem canLayAll_ints : ∀ l : List Int, PyData.canLayAll0 (l.map PyData.int) = true
  | [] => rfl
  | x :: l => by
    have ih := canLayAll_ints l
    rw [List.map_cons]
    unfold PyData.canLayAll0
    rw [ih]
    rfl
theorem depthAll_ints : ∀ l : List Int, PyData.depthAll (l.map PyData.int) = 0
  | [] => rfl
  | x :: l => by
    have ih := depthAll_ints l
    rw [List.map_cons]
    unfold PyData.depthAll
    rw [ih]
    rfl
theorem shaped_ints (l : List Int) : SeqAt.shaped (.list (l.map PyData.int)) = true := by
  unfold SeqAt.shaped PyData.canLay0 PyData.depth
  rw [canLayAll_ints, depthAll_ints]
  rfl
theorem dp_ints {K : PySem.W.Frag} {H : Hp} : ∀ l : List Int, DpAll K H (l.map V.int) (l.map PyData.int)
  | [] => .nil
  | x :: l => .cons (.int x) (dp_ints l)
theorem eqv_nil_nil : PyData.eqv (.list []) (.list []) = true := rfl
theorem eqv_cons_nil {d : PyData} {ds : List PyData} : PyData.eqv (.list (d :: ds)) (.list []) = false := rfl
theorem scAny : FnScope ["deal", "bound", "rest"] ["deal", "bound"] (defScope sAny) := ⟨rfl, rfl, rfl, by decide +kernel, rfl, by decide +kernel, by decide +kernel⟩
structure AnyTxt (K : PySem.W.Frag) (mg : Str → Option Value) : Prop where
  int : mg "int" = none
section
variable {P : Program} {w : World} {K : PySem.W.Frag} {mg : Str → Option Value} {base : Heap}
theorem ok_any {f : Addr} {fd : FuncData} (F : Fun K "_law_any" "_law_any" sAny f fd) (T : AnyTxt K mg) : FnOk P w K mg base CX0 1 f fd ["deal", "bound"] spAny := by
  refine F.ok scAny (fun vs H Q E h => ?_) (fun cdv A outer s H vs Q E hr h => ?_)
  · obtain ⟨d, c, n, rfl, _⟩ := h
    rfl
  · obtain ⟨d, c, n, rfl, D, n0, n1, k⟩ := h
    refine ⟨_, pss_cons (ps_while PassesOwn.never
        (PW.pt (pw_and (pt_cmpR (op_neD hr.units) (pe_ix ix_list (pv 0) pe_int (fun _ _ => rfl)) (pe_lst pa_nil) (nomark _))
          (pw_and1 (pt_cmpR op_eq (pe_ix ix_list (pe_ix ix_list (pv 0) pe_int (fun _ _ => rfl)) (pe_un un_neg pe_int) (fun _ _ => rfl)) pe_int (nomark _)))))
        (pss_one (ps_expr (pe_bm0 PySem.F.plainAttrs_list PySem.F.slot_list_pop PySem.F.type_list_pop mt_pop (pe_ix ix_list (pv 0) pe_int (fun _ _ => rfl))))))
      (pss_cons (ps_if (pt_cmpR (op_neD hr.units) (pe_ix ix_list (pv 0) pe_int (fun _ _ => rfl)) (pe_lst pa_nil) (nomark _))
        (pss_cons (ps_set (i := 2) scAny.nd rfl (Or.inl rfl) (pe_callTy call_int1 (by rfl) T.int (by decide +kernel) (pa_cons (pe_bm0 PySem.F.plainAttrs_list PySem.F.slot_list_pop PySem.F.type_list_pop mt_pop (pe_ix ix_list (pv 0) pe_int (fun _ _ => rfl))) pa_nil)))
        (pss_cons (ps_expr (pe_bm PySem.F.plainAttrs_list PySem.F.slot_list_append PySem.F.type_list_append mt_append (pe_ix ix_list (pv 0) pe_int (fun _ _ => rfl)) (pa_cons (pe_op op_fdivW (pv 2) (pv 1)) pa_nil)))
        (pss_one (ps_ret (pe_op op_mod (pv 2) (pv 1))))))
        pss_nil)
      (pss_cons (ps_asg (pe_op op_mod (pe_callTy call_int1 (by rfl) T.int (by decide +kernel) (pa_cons (pe_op op_add (pe_op op_mul (pe_ix ix_list (pv 0) pe_int (fun _ _ => rfl)) pe_int) pe_int) pa_nil)) pe_int) (pg_sub (pv 0) pe_int set_list))
      (pss_one (ps_ret (pe_op op_mod (pe_callTy call_int1 (by rfl) T.int (by decide +kernel) (pa_cons (pe_op op_fdiv (pe_ix ix_list (pv 0) pe_int (fun _ _ => rfl)) pe_int) pa_nil)) (pv 1)))))), ?_⟩
    obtain ⟨cs0, b0, hd0, hc0, g0, l0, b1, b2⟩ := D.ex
    refine ⟨fun m σ H1 => ∃ (cs : List Int), σ = [some (.ref d), some (.int n), none] ∧ m = cs.length ∧ H1 d = some (.lst [.ref c, .int b0]) ∧ H1 c = some (.lst (cs.map V.int)) ∧ (∀ x ∈ cs, 0 ≤ x) ∧ cs.length ≤ 63 ∧ But d c H H1,
      ⟨cs0.length, cs0, rfl, rfl, hd0, hc0, g0, l0, But.refl⟩, ?_⟩
    rintro m σ H1 ⟨cs, rfl, rfl, hd, hc, g, l, bu⟩
    have dc : d ≠ c := by
      intro e
      subst e
      rw [hd] at hc
      have z := Option.some.inj hc
      injection z with z
      cases cs with
      | nil => cases z
      | cons x r => cases z
    -- deal[0] != []
    refine ⟨_, rfl, _, _, _, _, rfl, rfl, SqL.of hd, atI_nat (j := 0) rfl, Nat.zero_le _, fun p hp => ?_⟩
    have pd : d ≠ p := ne_of_none hd hp
    have pc : c ≠ p := ne_of_none hc hp
    have hd' : (upd H1 p (.lst [])) d = some (.lst [.ref c, .int b0]) := by rw [upd_ne pd]; exact hd
    have hc' : (upd H1 p (.lst [])) c = some (.lst (cs.map V.int)) := by rw [upd_ne pc]; exact hc
    have bu' : But d c H (upd H1 p (.lst [])) := fun q o hq n1 n2 => by
      have z := bu q o hq n1 n2
      rw [upd_ne (ne_of_none z hp)]
      exact z
    refine ⟨_, _, .lst (SqL.of hc') (dp_ints cs), .lst (SqL.of upd_same) .nil, shaped_ints cs, shaped_ints [], _, rfl, ?_⟩
    rcases List.eq_nil_or_concat cs with e | ⟨cs', x, e⟩
    · subst e
      refine iteF (iteF ?_)
      -- deal[0] != [] again: no
      refine ⟨_, rfl, _, _, _, _, rfl, rfl, SqL.of hd', atI_nat (j := 0) rfl, Nat.zero_le _, fun p2 hp2 => ?_⟩
      have qd : d ≠ p2 := ne_of_none hd' hp2
      have qc : c ≠ p2 := ne_of_none hc' hp2
      have hd2 : (upd (upd H1 p (.lst [])) p2 (.lst [])) d = some (.lst [.ref c, .int b0]) := by rw [upd_ne qd]; exact hd'
      have hc2 : (upd (upd H1 p (.lst [])) p2 (.lst [])) c = some (.lst []) := by rw [upd_ne qc]; exact hc'
      have bu2 : But d c H (upd (upd H1 p (.lst [])) p2 (.lst [])) := fun q o hq n1 n2 => by
        have z := bu' q o hq n1 n2
        rw [upd_ne (ne_of_none z hp2)]
        exact z
      refine ⟨_, _, .lst (SqL.of hc2) .nil, .lst (SqL.of upd_same) .nil, shaped_ints [], shaped_ints [], _, rfl, iteF ?_⟩
      -- deal[1] = int(deal[1] * 48271 + 41) % 2147483647
      generalize upd (upd H1 p (.lst [])) p2 (.lst []) = H3 at hd2 hc2 bu2 ⊢
      refine ⟨_, rfl, _, _, _, _, rfl, rfl, SqL.of hd2, atI_nat (j := 1) rfl, _, _, rfl, rfl, .inr ⟨by decide, by decide⟩, _, _, rfl, rfl, .inl ⟨_, rfl, _, _, rfl, rfl, (by show (0 : Int) < 2147483647; decide), ?_⟩⟩
      refine ⟨_, rfl, _, _, _, 1, rfl, rfl, hd2, rfl, ?_⟩
      refine ⟨_, rfl, _, _, _, _, rfl, rfl, SqL.of upd_same, atI_nat (j := 1) rfl, _, _, rfl, rfl, ⟨by decide, by decide⟩, .inl ⟨_, rfl, _, rfl, _, _, rfl, rfl, n0, ?_⟩⟩
      refine k _ _ (Int.emod_nonneg _ (by omega)) (Int.emod_lt_of_pos _ n0) ⟨[], _, upd_same, by rw [upd_ne (Ne.symm dc)]; exact hc2, by simp, by simp, Int.emod_nonneg _ (by decide), Int.emod_lt_of_pos _ (by decide)⟩ ?_
      intro q o hq n1 n2
      rw [upd_ne n1]
      exact bu2 q o hq n1 n2
    · rw [List.concat_eq_append] at e
      subst e
      have ec : (cs' ++ [x]).map V.int = cs'.map V.int ++ [V.int x] := by simp
      have e1 : PyData.eqv (.list ((cs' ++ [x]).map PyData.int)) (.list []) = false := by
        cases cs' with
        | nil => rfl
        | cons y r => rfl
      have gx : 0 ≤ x := g x (by simp)
      have lx : cs'.length + 1 ≤ 63 := by simpa using l
      rw [e1]
      refine iteT ?_
      -- deal[0][-1] == 0
      refine ⟨_, rfl, _, _, _, _, rfl, rfl, SqL.of hd', atI_nat (j := 0) rfl, _, rfl, _, _, _, _, rfl, rfl, SqL.of hc', last_at, rfl, _, rfl, ?_⟩
      by_cases hx : x = 0
      · subst hx
        refine iteT ?_
        refine ⟨fun σ' H' => σ' = [some (.ref d), some (.int n), none] ∧ H' d = some (.lst [.ref c, .int b0]) ∧ H' c = some (.lst (cs'.map V.int)) ∧ But d c H H', fun σ' H' ⟨e1, e2, e3, e4⟩ => ⟨cs'.length, by simp, cs', e1, rfl, e2, e3, fun y hy => g y (by simp [hy]), by omega, e4⟩, ?_⟩
        refine ⟨_, rfl, _, _, _, _, rfl, rfl, SqL.of hd', atI_nat (j := 0) rfl, .inl ⟨rfl, _, SqL.of hc'⟩, _, _, V.int 0, rfl, rfl, hc', (by rw [ec]; simp), rfl, ?_, ?_, ?_⟩
        · rw [upd_ne dc]
          exact hd'
        · rw [upd_same, ec, List.dropLast_concat]
        · intro q o hq n1 n2
          rw [upd_ne n2]
          exact bu' q o hq n1 n2
      · have dx : decide (V.int x = V.int 0) = false := decide_eq_false fun z => hx (V.int.inj z)
        rw [dx]
        refine iteF ?_
        -- deal[0] != []: yes
        refine ⟨_, rfl, _, _, _, _, rfl, rfl, SqL.of hd', atI_nat (j := 0) rfl, Nat.zero_le _, fun p2 hp2 => ?_⟩
        have qd : d ≠ p2 := ne_of_none hd' hp2
        have qc : c ≠ p2 := ne_of_none hc' hp2
        have hd2 : (upd (upd H1 p (.lst [])) p2 (.lst [])) d = some (.lst [.ref c, .int b0]) := by rw [upd_ne qd]; exact hd'
        have hc2 : (upd (upd H1 p (.lst [])) p2 (.lst [])) c = some (.lst ((cs' ++ [x]).map V.int)) := by rw [upd_ne qc]; exact hc'
        have bu2 : But d c H (upd (upd H1 p (.lst [])) p2 (.lst [])) := fun q o hq n1 n2 => by
          have z := bu' q o hq n1 n2
          rw [upd_ne (ne_of_none z hp2)]
          exact z
        refine ⟨_, _, .lst (SqL.of hc2) (dp_ints _), .lst (SqL.of upd_same) .nil, shaped_ints _, shaped_ints [], _, rfl, ?_⟩
        rw [e1]
        refine iteT ?_
        generalize upd (upd H1 p (.lst [])) p2 (.lst []) = H3 at hd2 hc2 bu2 ⊢
        -- rest = int(deal[0].pop())
        refine ⟨_, rfl, _, _, _, _, rfl, rfl, SqL.of hd2, atI_nat (j := 0) rfl, .inl ⟨rfl, _, SqL.of hc2⟩, _, _, .int x, rfl, rfl, hc2, (by rw [ec]; simp), .inl ⟨_, rfl, ?_⟩⟩
        have hd3 : ∀ o, (upd H3 c o) d = some (.lst [.ref c, .int b0]) := fun o => by rw [upd_ne dc]; exact hd2
        have ed : ((cs' ++ [x]).map V.int).dropLast = cs'.map V.int := by rw [ec, List.dropLast_concat]
        rw [ed]
        -- deal[0].append(rest // bound)
        refine ⟨_, rfl, _, _, _, _, rfl, rfl, SqL.of (hd3 _), atI_nat (j := 0) rfl, .inl ⟨rfl, _, SqL.of upd_same⟩, _, rfl, _, rfl, _, _, rfl, rfl, wide_div n0 (b := 31) (by omega) (by decide) (by decide), _, _, _, rfl, rfl, upd_same, small1000 (by simp; omega), ?_⟩
        refine ⟨_, rfl, _, rfl, _, _, rfl, rfl, n0, ?_⟩
        rw [upd_upd]
        refine k _ _ (Int.emod_nonneg _ (by omega)) (Int.emod_lt_of_pos _ n0) ⟨cs' ++ [x / n], b0, by rw [upd_ne dc]; exact hd2, by rw [upd_same]; simp, ?_, by simp; omega, b1, b2⟩ ?_
        · intro y hy
          rcases List.mem_append.mp hy with hy | hy
          · exact g y (by simp [hy])
          · rw [List.mem_singleton] at hy
            subst hy
            exact Int.ediv_nonneg gx (by omega)
        · intro q o hq n1 n2
          rw [upd_ne n2]
          exact bu2 q o hq n1 n2
end
end K1

namespace K1
open PySem L2
/-- _law_of(deal, some), some a list at a | a text -/
def spOf : Sp := fun vs H Q _ => ∃ (d c : Addr), DealAt H d c ∧
  ((∃ (a : Addr) (xs : List V), vs = [.ref d, .ref a] ∧ H a = some (.lst xs) ∧ a ≠ d ∧ a ≠ c ∧ 0 < xs.length ∧ xs.length < 1000000 ∧
      ∀ (v : V) (H' : Hp), v ∈ xs → DealAt H' d c → But d c H H' → Q v H') ∨
    (∃ z : Str, vs = [.ref d, .str z] ∧ 0 < z.length ∧ z.length < 1000000 ∧ ∀ (ch : Nat) (H' : Hp), ch ∈ z.cps.toList → DealAt H' d c → But d c H H' → Q (.str ⟨#[ch]⟩) H'))
theorem scOf : FnScope ["deal", "some"] ["deal", "some"] (defScope sOf) := ⟨rfl, rfl, rfl, by decide +kernel, rfl, by decide +kernel, by decide +kernel⟩
structure OfTxt (K : PySem.W.Frag) (mg : Str → Option Value) (fAny : Addr) : Prop where
  len : mg "len" = none
  any : mg "_law_any" = some (.ref fAny)
  kAny : PySem.W.keepIn K (.ref fAny) = true
section
variable {P : Program} {w : World} {K : PySem.W.Frag} {mg : Str → Option Value} {base : Heap}
theorem ok_of {f fA : Addr} {fd fdA : FuncData} (F : Fun K "_law_of" "_law_of" sOf f fd) (T : OfTxt K mg fA) (G : FnOk P w K mg base CX0 1 fA fdA ["deal", "bound"] spAny) (bA : Binds K fdA ["deal", "bound"] []) :
    FnOk P w K mg base CX0 2 f fd ["deal", "some"] spOf := by
  refine F.ok scOf (fun vs H Q E h => ?_) (fun cdv A outer s H vs Q E hr h => ?_)
  · obtain ⟨d, c, _, ⟨a, xs, rfl, _⟩ | ⟨z, rfl, _⟩⟩ := h <;> rfl
  · obtain ⟨d, c, D, h⟩ := h
    rcases h with ⟨a, xs, rfl, ha, nd, nc, l0, l1, k⟩ | ⟨z, rfl, l0, l1, k⟩
    · refine ⟨_, pss_one (ps_ret (pe_ix ix_list (pv 1) (pe_call G hr rfl T.any T.kAny bA .nil pass0 (pa_cons (pv 0) (pa_cons (pe_callB call_len_seq (by rfl) T.len PySem.boot_len (pa_cons (pv 1) pa_nil)) pa_nil))) (fun _ _ => rfl))), ?_⟩
      refine ⟨_, rfl, _, rfl, _, rfl, _, _, rfl, .inl (SqL.of ha), d, c, _, rfl, D, by omega, by omega, fun r H' r0 r1 D' bu => ?_⟩
      have ha' := bu a _ ha nd nc
      obtain ⟨j, rfl⟩ := Int.eq_ofNat_of_zero_le r0
      have hj : j < xs.length := by omega
      refine ⟨_, _, _, xs[j], rfl, rfl, SqL.of ha', atI_nat (by simp [hj]), k _ _ (List.getElem_mem hj) D' bu⟩
    · refine ⟨_, pss_one (ps_ret (pe_ix ix_str (pv 1) (pe_call G hr rfl T.any T.kAny bA .nil pass0 (pa_cons (pv 0) (pa_cons (pe_callB call_len_str (by rfl) T.len PySem.boot_len (pa_cons (pv 1) pa_nil)) pa_nil))) (fun _ _ => rfl))), ?_⟩
      refine ⟨_, rfl, _, rfl, _, rfl, _, rfl, (by show z.length ≤ sizeLine; rw [sizeLine_eq]; omega), d, c, _, rfl, D, by omega, by omega, fun r H' r0 r1 D' bu => ?_⟩
      obtain ⟨j, rfl⟩ := Int.eq_ofNat_of_zero_le r0
      have hz : z.length = z.cps.toList.length := by
        show z.cps.size = _
        simp
      have hj : j < z.cps.toList.length := by omega
      refine ⟨_, _, z.cps.toList[j], rfl, rfl, (by show z.length ≤ sizeLine; rw [sizeLine_eq]; omega), atI_nat (by rw [List.getElem?_eq_getElem hj]), k _ _ (List.getElem_mem hj) D' bu⟩
end
end K1

namespace K1
open PySem L2
def spSource (K : PySem.W.Frag) : Sp := fun vs H Q _ => ∃ (a : Addr) (ns : List Int), vs = [.ref a] ∧ SqL K H a (ns.map V.int) ∧ ns.length ≤ 63 ∧
  ∀ (d c : Addr) (H' : Hp), DealAt H' d c → Same H H' → H d = none → H c = none → Q (.ref d) H'
theorem scSource : FnScope ["script", "cells", "blend", "cell"] ["script"] (defScope sSource) := ⟨rfl, rfl, rfl, by decide +kernel, rfl, by decide +kernel, by decide +kernel⟩
structure SourceTxt (K : PySem.W.Frag) (mg : Str → Option Value) : Prop where
  int : mg "int" = none
  abs : mg "abs" = none
def absI (i : Int) : Int := if i < 0 then -i else i
theorem absI_nn (i : Int) : 0 ≤ absI i := by unfold absI; split <;> omega
theorem take_more {α : Type} : ∀ {l : List α} {i : Nat} {x : α}, l[i]? = some x → l.take (i + 1) = l.take i ++ [x]
  | [], i, x, h => by simp at h
  | a :: l, 0, x, h => by
    have e : a = x := Option.some.inj h
    subst e
    rfl
  | a :: l, i + 1, x, h => by
    have ih := take_more (l := l) (i := i) (x := x) h
    show a :: l.take (i + 1) = a :: l.take i ++ [x]
    rw [ih]
    rfl
theorem cut_ints (ns : List Int) (lo hi : Option Int) : ∃ ms : List Int, cutV (ns.map V.int) lo hi = ms.map V.int ∧ ms.length ≤ ns.length := by
  refine ⟨(ns.drop (HT.sIx (ns.map V.int).length 0 lo)).take (HT.sIx (ns.map V.int).length (ns.map V.int).length hi - HT.sIx (ns.map V.int).length 0 lo), ?_, ?_⟩
  · unfold cutV
    simp [List.map_take, List.map_drop]
  · rw [List.length_take, List.length_drop]
    omega
theorem map_at {l : List Int} {i : Nat} {x : V} (h : (l.map V.int)[i]? = some x) : ∃ z, l[i]? = some z ∧ x = V.int z := by
  rw [List.getElem?_map] at h
  cases e : l[i]? with
  | none =>
    rw [e] at h
    cases h
  | some z =>
    rw [e] at h
    exact ⟨z, rfl, (Option.some.inj h).symm⟩
section
variable {P : Program} {w : World} {K : PySem.W.Frag} {mg : Str → Option Value} {base : Heap}
theorem ok_source {f : Addr} {fd : FuncData} (F : Fun K "_law_source" "_law_source" sSource f fd) (T : SourceTxt K mg) : FnOk P w K mg base CX0 1 f fd ["script"] (spSource K) := by
  refine F.ok scSource (fun vs H Q E h => ?_) (fun cdv A outer s H vs Q E hr h => ?_)
  · obtain ⟨a, ns, rfl, _⟩ := h
    rfl
  · obtain ⟨a, ns, rfl, hS, l, k⟩ := h
    refine ⟨_, pss_cons (ps_setLc (i := 1) (own := [("cell", 3)]) (g := gName 3) (tt := tYes) (by rfl) scSource.nd rfl rfl (sw_true rfl rfl rfl (by decide +kernel)) (pi_list (pe_slice sl_list (pv 0) po_none (po_some pe_int)))
        (blkOk_by (own := [("cell", 3)]) (N := ["script", "cells", "blend", "cell"]) (sc := defScope sSource) (by decide +kernel)) (fun _ _ _ _ _ => pg_name (i := 3) scSource.nd rfl (Or.inl rfl)) (fun _ _ _ _ _ => pts_nil)
        (fun _ _ _ _ _ => pe_callB call_abs (by rfl) T.abs (by decide +kernel) (pa_cons (pe_callTy call_int1 (by rfl) T.int (by decide +kernel) (pa_cons (pv 3) pa_nil)) pa_nil)))
      (pss_cons (ps_set (i := 2) scSource.nd rfl (Or.inl rfl) pe_int)
      (pss_cons (ps_for PassesOwn.never rfl (pi_list (pv 1)) (pg_name (i := 3) scSource.nd rfl (Or.inl rfl))
        (pss_one (ps_set (i := 2) scSource.nd rfl (Or.inl rfl) (pe_op op_mod (pe_callTy call_int1 (by rfl) T.int (by decide +kernel) (pa_cons (pe_op op_add (pe_op op_add (pe_op op_mul (pv 2) pe_int) (pe_op op_mod (pv 3) pe_int)) pe_int) pa_nil)) pe_int))))
      (pss_one (ps_ret (pe_lst (pa_cons (pe_revL (pe_lc (own := [("cell", 3)]) (g := gName 3) (by rfl) scSource.nd (pi_list (pv 1))
          (blkOk_by (own := [("cell", 3)]) (N := ["script", "cells", "blend", "cell"]) (sc := defScope sSource) (by decide +kernel)) (fun _ _ _ _ _ => pg_name (i := 3) scSource.nd rfl (Or.inl rfl))
          (fun _ _ _ _ _ => pts_one (pt_cmpR op_ge (pv 3) (pe_op op_pow pe_int pe_int) (nomark _))) (fun _ _ _ _ _ => pv 3))) (pa_cons (pv 2) pa_nil))))))), ?_⟩
    obtain ⟨ms, em, lm⟩ := cut_ints ns none (some 63)
    refine ⟨_, rfl, 63, rfl, _, _, rfl, hS, fun p hp => ⟨p, rfl, ⟨_, SqL.of upd_same⟩, fun D hD => ?_⟩⟩
    have pD : p ≠ D := ne_of_none upd_same hD
    have hD0 : H D = none := by
      have z := hD
      rw [upd_ne (Ne.symm pD)] at z
      exact z
    rw [em] at hD ⊢
    refine lc_list (K := K) (a := p) (xs := ms.map V.int) (fun i H1 => Same H H1 ∧ H1 p = some (.lst (ms.map V.int)) ∧ H1 D = some (.lst (((ms.take i).map absI).map V.int))) ⟨?_, ?_, upd_same⟩ (fun i H1 _ q => SqL.of q.2.1) ?_ ?_
    · intro q o hq
      rw [upd_ne (ne_of_none hq hD0), upd_ne (ne_of_none hq hp)]
      exact hq
    · rw [upd_ne pD, upd_same]
    · rintro i x H1 hx ⟨q1, q2, q3⟩
      obtain ⟨z, hz, rfl⟩ := map_at hx
      have li : i < ms.length := (List.getElem?_eq_some_iff.mp hz).1
      refine ⟨rfl, ?_⟩
      refine ⟨_, rfl, .inl ⟨_, rfl, _, rfl, _, q3, small1000 (by simp; omega), ?_, ?_, ?_⟩⟩
      · intro q o hq
        rw [upd_ne (ne_of_none hq hD0)]
        exact q1 q o hq
      · rw [upd_ne pD]
        exact q2
      · rw [upd_same, take_more hz]
        simp [absI]
    · rintro H1 ⟨q1, q2, q3⟩
      rw [List.length_map, List.take_length] at q3
      have gc : ∀ x ∈ ms.map absI, 0 ≤ x := fun x hx => by
        obtain ⟨y, _, rfl⟩ := List.mem_map.mp hx
        exact absI_nn y
      have lc : (ms.map absI).length ≤ 63 := by rw [List.length_map]; omega
      generalize ms.map absI = cs at q3 gc lc
      -- the blend
      refine ⟨_, rfl, D, rfl, ⟨_, SqL.of q3⟩, for_list (K := K) (a := D) (xs := cs.map V.int) (fun i σ H2 => ∃ (b : Int) (v : Option V), σ = [some (.ref a), some (.ref D), some (.int b), v] ∧ H2 = H1 ∧ 0 ≤ b ∧ b < 2147483647)
        ⟨1401001, none, rfl, rfl, by decide, by decide⟩ (fun i σ H2 _ ⟨_, _, _, e, _⟩ => by rw [e]; exact SqL.of q3) ?_ ?_⟩
      · rintro i x σ H2 hx ⟨b, v, rfl, rfl, b0, b1⟩
        obtain ⟨z, hz, rfl⟩ := map_at hx
        refine ⟨_, rfl, _, _, rfl, rfl, .inr ⟨by decide, by decide⟩, _, rfl, _, _, rfl, rfl, (by show (0 : Int) < 2147483549; decide), _, _, rfl, rfl, _, _, rfl, rfl, .inl ⟨_, rfl, _, _, rfl, rfl, (by show (0 : Int) < 2147483647; decide), ?_⟩⟩
        exact ⟨_, _, rfl, rfl, Int.emod_nonneg _ (by decide), Int.emod_lt_of_pos _ (by decide)⟩
      · rintro σ H2 ⟨b, v, rfl, rfl, b0, b1⟩
        refine ⟨_, rfl, D, rfl, ⟨_, SqL.of q3⟩, fun D2 hD2 => ?_⟩
        have n2 : D ≠ D2 := ne_of_none q3 hD2
        refine lc_list (K := K) (a := D) (xs := cs.map V.int) (fun i H3 => ∃ fs : List Int, Same H2 H3 ∧ H3 D2 = some (.lst (fs.map V.int)) ∧ (∀ x ∈ fs, 0 ≤ x) ∧ fs.length ≤ i) ⟨[], fun q o hq => by rw [upd_ne (ne_of_none hq hD2)]; exact hq, upd_same, by simp, by simp⟩
          (fun i H3 _ ⟨_, s3, _⟩ => SqL.of (s3 _ _ q3)) ?_ ?_
        · rintro i x H3 hx ⟨fs, s3, f3, g3, l3⟩
          obtain ⟨z, hz, rfl⟩ := map_at hx
          have li : i < cs.length := (List.getElem?_eq_some_iff.mp hz).1
          refine ⟨rfl, _, rfl, _, _, rfl, rfl, ⟨by decide, by decide, by decide⟩, _, _, rfl, rfl, _, rfl, ?_⟩
          refine ite2 (fun _ => ?_) (fun _ => ?_)
          · refine ⟨_, rfl, _, f3, small1000 (by simp; omega), fs ++ [z], ?_, ?_, ?_, ?_⟩
            · intro q o hq
              rw [upd_ne (ne_of_none hq hD2)]
              exact s3 q o hq
            · rw [upd_same]
              simp
            · intro y hy
              rcases List.mem_append.mp hy with hy | hy
              · exact g3 y hy
              · rw [List.mem_singleton] at hy
                subst hy
                exact gc _ (List.mem_of_getElem? hz)
            · simp
              omega
          · exact ⟨fs, s3, f3, g3, by omega⟩
        · rintro H3 ⟨fs, s3, f3, g3, l3⟩
          rw [List.length_map] at l3
          refine ⟨D2, _, rfl, SqL.of f3, fun r hr => ⟨_, rfl, (by show 2 ≤ sizeLine; decide), fun t ht => ?_⟩⟩
          have nt : r ≠ t := ne_of_none upd_same ht
          have s4 : Same H (upd (upd H3 r (.lst (fs.map V.int).reverse)) t (.lst [.ref r, .int b])) := fun q o hq => by
            have z := s3 _ _ (q1 q o hq)
            have zr := ne_of_none z hr
            rw [upd_ne (ne_of_none (by rw [upd_ne zr]; exact z) ht), upd_ne zr]
            exact z
          refine k t r _ ⟨fs.reverse, b, upd_same, ?_, ?_, ?_, b0, b1⟩ s4 ?_ ?_
          · rw [upd_ne nt, upd_same, List.map_reverse]
          · intro x hx
            exact g3 x (List.mem_reverse.mp hx)
          · rw [List.length_reverse]
            omega
          · have ht3 : H3 t = none := by
              have z := ht
              rw [upd_ne (Ne.symm nt)] at z
              exact z
            exact (q1.trans s3).free ht3
          · exact (q1.trans s3).free hr
end
end K1

/-! data whose objects stand still: all but the cells N that may change -/
namespace K1
open PySem L2
/-- tracked -/
def Trk (H : Hp) : Addr → Prop := fun a => ∃ o, H a = some o
/-- what is no cell of N stays -/
def Bt (N : Addr → Prop) (H H' : Hp) : Prop := ∀ a o, ¬ N a → H a = some o → H' a = some o
theorem Bt.refl {N : Addr → Prop} {H : Hp} : Bt N H H := fun _ _ _ h => h
theorem Bt.trans {N : Addr → Prop} {H H1 H2 : Hp} (a : Bt N H H1) (b : Bt N H1 H2) : Bt N H H2 := fun q o n h => b q o n (a q o n h)
theorem Bt.mono {N N' : Addr → Prop} {H H' : Hp} (b : Bt N' H H') (h : ∀ a, N' a → N a) : Bt N H H' := fun q o n e => b q o (fun z => n (h _ z)) e
theorem Bt.same {N : Addr → Prop} {H H' : Hp} (s : Same H H') : Bt N H H' := fun q o _ h => s q o h
theorem Bt.new {N : Addr → Prop} {H H1 : Hp} {l : Addr} {o : HO} (b : Bt N H H1) (hl : H1 l = none) : Bt N H (upd H1 l o) := fun q u n e => by
  have z := b q u n e
  rw [upd_ne (ne_of_none z hl)]
  exact z
theorem Bt.cell {N : Addr → Prop} {H H1 : Hp} {l : Addr} {o : HO} (b : Bt N H H1) (hl : N l) : Bt N H (upd H1 l o) := fun q u n e => by
  have z := b q u n e
  have ne : q ≠ l := fun h => n (by rw [h]; exact hl)
  rw [upd_ne ne]
  exact z
theorem _root_.L2.Same.new {H H1 : Hp} {l : Addr} {o : HO} (b : Same H H1) (hl : H1 l = none) : Same H (upd H1 l o) := fun q u e => by
  have z := b q u e
  rw [upd_ne (ne_of_none z hl)]
  exact z
theorem _root_.L2.Same.cell {H H1 : Hp} {l : Addr} {o : HO} (b : Same H H1) (hl : H l = none) : Same H (upd H1 l o) := fun q u e => by
  have z := b q u e
  rw [upd_ne (ne_of_none e hl)]
  exact z
theorem Trk.same {H H' : Hp} (s : Same H H') {a : Addr} (h : Trk H a) : Trk H' a := by
  obtain ⟨o, e⟩ := h
  exact ⟨o, s a o e⟩
/-- a tuple of the text's own -/
def KTup (K : PySem.W.Frag) (a : Addr) (xs : List V) : Prop := ∃ (o : Obj) (its : Array Value) (n : Nat), K.lookup a = some o ∧ o.cls = .type "tuple" ∧ o.data = .seq its n ∧ its.size ≤ sizeLine ∧ Vals xs its.toList
theorem KTup.sq {K : PySem.W.Frag} {H : Hp} {a : Addr} {xs : List V} (h : KTup K a xs) : SqT K H a xs := .inr h
mutual
inductive Dm (K : PySem.W.Frag) (N : Addr → Prop) (H : Hp) : V → PyData → Prop
  | non : Dm K N H .non .none
  | bl (b : Bool) : Dm K N H (.bl b) (.bool b)
  | int (i : Int) : Dm K N H (.int i) (.int i)
  | str (x : Str) : Dm K N H (.str x) (.str x)
  | lst {a : Addr} {xs : List V} {ds : List PyData} : H a = some (.lst xs) → ¬ N a → DmAll K N H xs ds → Dm K N H (.ref a) (.list ds)
  | tup {a : Addr} {xs : List V} {ds : List PyData} : H a = some (.tup xs) → ¬ N a → DmAll K N H xs ds → Dm K N H (.ref a) (.tuple ds)
  | con {a : Addr} {xs : List V} {ds : List PyData} : KTup K a xs → DmAll K N H xs ds → Dm K N H (.ref a) (.tuple ds)
inductive DmAll (K : PySem.W.Frag) (N : Addr → Prop) (H : Hp) : List V → List PyData → Prop
  | nil : DmAll K N H [] []
  | cons {v : V} {vs : List V} {d : PyData} {ds : List PyData} : Dm K N H v d → DmAll K N H vs ds → DmAll K N H (v :: vs) (d :: ds)
end
section
variable {K : PySem.W.Frag}
mutual
theorem Dm.mono {N N' : Addr → Prop} {H H' : Hp} (hn : ∀ a, Trk H a → N' a → N a) (hh : Bt N H H') : ∀ (d : PyData) (v : V), Dm K N H v d → Dm K N' H' v d
  | .none, _, h => by
    cases h
    exact .non
  | .bool b, _, h => by
    cases h
    exact .bl b
  | .int i, _, h => by
    cases h
    exact .int i
  | .str x, _, h => by
    cases h
    exact .str x
  | .list ds, _, h => by
    cases h with
    | lst e n a => exact .lst (hh _ _ n e) (fun z => n (hn _ ⟨_, e⟩ z)) (DmAll.mono hn hh ds _ a)
  | .tuple ds, _, h => by
    cases h with
    | tup e n a => exact .tup (hh _ _ n e) (fun z => n (hn _ ⟨_, e⟩ z)) (DmAll.mono hn hh ds _ a)
    | con e a => exact .con e (DmAll.mono hn hh ds _ a)
  | .dict _, _, h => by cases h
theorem DmAll.mono {N N' : Addr → Prop} {H H' : Hp} (hn : ∀ a, Trk H a → N' a → N a) (hh : Bt N H H') : ∀ (ds : List PyData) (vs : List V), DmAll K N H vs ds → DmAll K N' H' vs ds
  | [], _, h => by
    cases h
    exact .nil
  | d :: ds, _, h => by
    cases h with
    | cons a b => exact .cons (Dm.mono hn hh d _ a) (DmAll.mono hn hh ds _ b)
end
mutual
theorem Dm.dp {N : Addr → Prop} {H : Hp} : ∀ (d : PyData) (v : V), Dm K N H v d → Dp K H v d
  | .none, _, h => by
    cases h
    exact .non
  | .bool b, _, h => by
    cases h
    exact .bl b
  | .int i, _, h => by
    cases h
    exact .int i
  | .str x, _, h => by
    cases h
    exact .str x
  | .list ds, _, h => by
    cases h with
    | lst e n a => exact .lst (SqL.of e) (DmAll.dp ds _ a)
  | .tuple ds, _, h => by
    cases h with
    | tup e n a => exact .tup (SqT.of e) (DmAll.dp ds _ a)
    | con e a => exact .tup e.sq (DmAll.dp ds _ a)
  | .dict _, _, h => by cases h
theorem DmAll.dp {N : Addr → Prop} {H : Hp} : ∀ (ds : List PyData) (vs : List V), DmAll K N H vs ds → DpAll K H vs ds
  | [], _, h => by
    cases h
    exact .nil
  | d :: ds, _, h => by
    cases h with
    | cons a b => exact .cons (Dm.dp d _ a) (DmAll.dp ds _ b)
end
variable {N : Addr → Prop} {H : Hp}
theorem Dm.up {d : PyData} {v : V} {H' : Hp} (h : Dm K N H v d) (b : Bt N H H') : Dm K N H' v d := Dm.mono (fun _ _ z => z) b _ _ h
theorem DmAll.up {ds : List PyData} {vs : List V} {H' : Hp} (h : DmAll K N H vs ds) (b : Bt N H H') : DmAll K N H' vs ds := DmAll.mono (fun _ _ z => z) b _ _ h
theorem DmAll.app : ∀ {vs ws : List V} {ds es : List PyData}, DmAll K N H vs ds → DmAll K N H ws es → DmAll K N H (vs ++ ws) (ds ++ es)
  | _, _, _, _, .nil, h => h
  | _, _, _, _, .cons a b, h => .cons a (DmAll.app b h)
theorem DmAll.snoc {vs : List V} {ds : List PyData} {w : V} {e : PyData} (h : DmAll K N H vs ds) (x : Dm K N H w e) : DmAll K N H (vs ++ [w]) (ds ++ [e]) := h.app (.cons x .nil)
theorem DmAll.len : ∀ {vs : List V} {ds : List PyData}, DmAll K N H vs ds → vs.length = ds.length
  | _, _, .nil => rfl
  | _, _, .cons _ b => by rw [List.length_cons, List.length_cons, DmAll.len b]
theorem DmAll.get : ∀ {vs : List V} {ds : List PyData} {i : Nat} {d : PyData}, DmAll K N H vs ds → ds[i]? = some d → ∃ v, vs[i]? = some v ∧ Dm K N H v d
  | _, _, i, d, .nil, h => by simp at h
  | _, _, 0, d, .cons a b, h => by
    have e := Option.some.inj h
    subst e
    exact ⟨_, rfl, a⟩
  | _, _, i + 1, d, .cons a b, h => DmAll.get (i := i) b h
theorem DmAll.getV : ∀ {vs : List V} {ds : List PyData} {i : Nat} {v : V}, DmAll K N H vs ds → vs[i]? = some v → ∃ d, ds[i]? = some d ∧ Dm K N H v d
  | _, _, i, d, .nil, h => by simp at h
  | _, _, 0, d, .cons a b, h => by
    have e := Option.some.inj h
    subst e
    exact ⟨_, rfl, a⟩
  | _, _, i + 1, d, .cons a b, h => DmAll.getV (i := i) b h
theorem DmAll.take : ∀ {vs : List V} {ds : List PyData} (i : Nat), DmAll K N H vs ds → DmAll K N H (vs.take i) (ds.take i)
  | _, _, _, .nil => by simp; exact .nil
  | _, _, 0, .cons a b => .nil
  | _, _, i + 1, .cons a b => .cons a (DmAll.take i b)
theorem DmAll.drop : ∀ {vs : List V} {ds : List PyData} (i : Nat), DmAll K N H vs ds → DmAll K N H (vs.drop i) (ds.drop i)
  | _, _, _, .nil => by simp; exact .nil
  | _, _, 0, .cons a b => .cons a b
  | _, _, i + 1, .cons a b => DmAll.drop i b
theorem DmAll.rev : ∀ {vs : List V} {ds : List PyData}, DmAll K N H vs ds → DmAll K N H vs.reverse ds.reverse
  | _, _, .nil => .nil
  | _, _, .cons a b => by
    rw [List.reverse_cons, List.reverse_cons]
    exact (DmAll.rev b).snoc a
/-- the tuple behind data that is one -/
theorem Dm.seqT {v : V} {ds : List PyData} (h : Dm K N H v (.tuple ds)) : ∃ a xs, v = .ref a ∧ SqT K H a xs ∧ DmAll K N H xs ds := by
  cases h with
  | tup e n a => exact ⟨_, _, rfl, SqT.of e, a⟩
  | con e a => exact ⟨_, _, rfl, e.sq, a⟩
/-- a tuple that stands -/
def Tp (K : PySem.W.Frag) (N : Addr → Prop) (H : Hp) (a : Addr) (xs : List V) : Prop := (H a = some (.tup xs) ∧ ¬ N a) ∨ KTup K a xs
theorem Tp.sq {a : Addr} {xs : List V} (h : Tp K N H a xs) : SqT K H a xs := h.elim (fun z => SqT.of z.1) fun z => z.sq
theorem Tp.up {H' : Hp} {a : Addr} {xs : List V} (h : Tp K N H a xs) (b : Bt N H H') : Tp K N H' a xs := h.elim (fun z => .inl ⟨b _ _ z.2 z.1, z.2⟩) .inr
theorem Tp.ty {a : Addr} {xs : List V} (h : Tp K N H a xs) : TyX K H (.ref a) (.type "tuple") := h.elim (fun z => .base (.tup z.1)) fun ⟨_, _, _, h1, h2, _⟩ => .kTuple h1 h2
theorem Dm.seq {v : V} {ds : List PyData} (h : Dm K N H v (.tuple ds)) : ∃ a xs, v = .ref a ∧ Tp K N H a xs ∧ DmAll K N H xs ds := by
  cases h with
  | tup e n a => exact ⟨_, _, rfl, .inl ⟨e, n⟩, a⟩
  | con e a => exact ⟨_, _, rfl, .inr e, a⟩
/-- a pair of a text and another thing -/
theorem Dm.pair {v : V} {x : Str} {d : PyData} (h : Dm K N H v (.tuple [.str x, d])) : ∃ a y, v = .ref a ∧ Tp K N H a [.str x, y] ∧ Dm K N H y d := by
  obtain ⟨a, xs, e, t, al⟩ := h.seq
  cases al with
  | cons h1 r =>
    cases r with
    | cons h2 r =>
      cases r
      cases h1
      exact ⟨a, _, e, t, h2⟩
theorem Dm.strV {v : V} {z : Str} (h : Dm K N H v (.str z)) : v = .str z := by
  cases h
  rfl
/-- the name of the type -/
def tyN : PyData → String
  | .none => "NoneType"
  | .bool _ => "bool"
  | .int _ => "int"
  | .str _ => "str"
  | .list _ => "list"
  | .tuple _ => "tuple"
  | .dict _ => "dict"
theorem Dm.ty {v : V} {d : PyData} (h : Dm K N H v d) : TyX K H v (.type (tyN d)) := by
  cases h with
  | non => exact .base .non
  | bl b => exact .base (.bl b)
  | int i => exact .base (.int i)
  | str x => exact .base (.str x)
  | lst e n a => exact .base (.lst e)
  | tup e n a => exact .base (.tup e)
  | con e a =>
    obtain ⟨o, its, n, h1, h2, _⟩ := e
    exact .kTuple h1 h2
def isTup : PyData → Bool
  | .tuple _ => true
  | _ => false
def isStr : PyData → Bool
  | .str _ => true
  | _ => false
theorem kit_tup (d : PyData) : PySem.W.kitOne K (.type (tyN d)) (.type "tuple") = some (isTup d) := by
  cases d
  · exact kit_ty (a := "NoneType") (b := "tuple") (r := false) (by decide +kernel)
  · exact kit_ty (a := "bool") (b := "tuple") (r := false) (by decide +kernel)
  · exact kit_ty (a := "int") (b := "tuple") (r := false) (by decide +kernel)
  · exact kit_ty (a := "str") (b := "tuple") (r := false) (by decide +kernel)
  · exact kit_ty (a := "list") (b := "tuple") (r := false) (by decide +kernel)
  · exact kit_ty (a := "tuple") (b := "tuple") (r := true) (by decide +kernel)
  · exact kit_ty (a := "dict") (b := "tuple") (r := false) (by decide +kernel)
theorem kit_str (d : PyData) : PySem.W.kitOne K (.type (tyN d)) (.type "str") = some (isStr d) := by
  cases d
  · exact kit_ty (a := "NoneType") (b := "str") (r := false) (by decide +kernel)
  · exact kit_ty (a := "bool") (b := "str") (r := false) (by decide +kernel)
  · exact kit_ty (a := "int") (b := "str") (r := false) (by decide +kernel)
  · exact kit_ty (a := "str") (b := "str") (r := true) (by decide +kernel)
  · exact kit_ty (a := "list") (b := "str") (r := false) (by decide +kernel)
  · exact kit_ty (a := "tuple") (b := "str") (r := false) (by decide +kernel)
  · exact kit_ty (a := "dict") (b := "str") (r := false) (by decide +kernel)
theorem Dm.tupV {v : V} {d : PyData} (h : Dm K N H v d) (e : isTup d = true) : ∃ ds, d = .tuple ds := by
  cases d <;> first | exact ⟨_, rfl⟩ | cases e
end
/-! documents -/
inductive Doc where
  | txt (z : Str)
  | nod (x : Str) (ts : List Doc)
def mOpen (x : Str) : PyData := .tuple [.str "open", .str x]
def mText (z : Str) : PyData := .tuple [.str "text", .str z]
def mClose : PyData := .tuple [.str "close"]
mutual
def Doc.dat : Doc → PyData
  | .txt z => .str z
  | .nod x ts => .tuple [.str x, .tuple (datAll ts)]
def datAll : List Doc → List PyData
  | [] => []
  | t :: ts => t.dat :: datAll ts
end
mutual
def Doc.marks : Doc → List PyData
  | .txt z => [mText z]
  | .nod x ts => mOpen x :: (marksAll ts ++ [mClose])
def marksAll : List Doc → List PyData
  | [] => []
  | t :: ts => t.marks ++ marksAll ts
end
theorem datAll_map : ∀ ts : List Doc, datAll ts = ts.map Doc.dat
  | [] => rfl
  | t :: ts => by
    unfold datAll
    rw [datAll_map ts]
    rfl
theorem datAll_length (ts : List Doc) : (datAll ts).length = ts.length := by rw [datAll_map, List.length_map]
theorem marks_pos (t : Doc) : 0 < t.marks.length := by
  cases t <;> unfold Doc.marks <;> simp
theorem marksAll_app : ∀ ts us : List Doc, marksAll (ts ++ us) = marksAll ts ++ marksAll us
  | [], us => rfl
  | t :: ts, us => by
    show t.marks ++ marksAll (ts ++ us) = (t.marks ++ marksAll ts) ++ marksAll us
    rw [marksAll_app ts us, List.append_assoc]
theorem marksAll_len : ∀ ts : List Doc, ts.length ≤ (marksAll ts).length
  | [] => Nat.le_refl _
  | t :: ts => by
    show ts.length + 1 ≤ (t.marks ++ marksAll ts).length
    have h1 := marks_pos t
    have h2 := marksAll_len ts
    rw [List.length_append]
    omega
end K1

/-! names and texts -/
namespace K1
open PySem L2 Xr
theorem smallM {n : Nat} (h : n ≤ 1000000) : n < sizeLine := Nat.lt_of_le_of_lt h (by decide)
abbrev sHas : Stmt := top 13
theorem scHas : FnScope ["value", "signs", "sign"] ["value", "signs"] (defScope sHas) := ⟨rfl, rfl, rfl, by decide +kernel, rfl, by decide +kernel, by decide +kernel⟩
abbrev sName : Stmt := top 11
theorem scName : FnScope ["value"] ["value"] (defScope sName) := ⟨rfl, rfl, rfl, by decide +kernel, rfl, by decide +kernel, by decide +kernel⟩
abbrev sText : Stmt := top 12
theorem scText : FnScope ["value"] ["value"] (defScope sText) := ⟨rfl, rfl, rfl, by decide +kernel, rfl, by decide +kernel, by decide +kernel⟩
def hasOnly (z g : Str) : Bool := z.cps.toList.all fun c => decide (c ∈ g.cps.toList)
abbrev abc : Str := Str.ofString "abcdefghijklmnopqrstuvwxyz"
abbrev abc9 : Str := Str.ofString "abcdefghijklmnopqrstuvwxyz0123456789 "
def nameD : PyData → Bool
  | .str z => decide (z.length ≠ 0) && (decide (z.length ≤ 8) && hasOnly z abc)
  | _ => false
def textD : PyData → Bool
  | .str z => decide (z.length ≤ 16) && hasOnly z abc9
  | _ => false
def spHas : Sp := fun vs H Q _ => ∃ (z g : Str), vs = [.str z, .str g] ∧ z.length ≤ 900000 ∧ ∀ H', Same H H' → Q (.bl (hasOnly z g)) H'
def spName (K : PySem.W.Frag) : Sp := fun vs H Q _ => ∃ (v : V) (d : PyData) (N : Addr → Prop), vs = [v] ∧ Dm K N H v d ∧ (∀ z, d = .str z → z.length ≤ 900000) ∧ ∀ H', Same H H' → Q (.bl (nameD d)) H'
def spText (K : PySem.W.Frag) : Sp := fun vs H Q _ => ∃ (v : V) (d : PyData) (N : Addr → Prop), vs = [v] ∧ Dm K N H v d ∧ (∀ z, d = .str z → z.length ≤ 900000) ∧ ∀ H', Same H H' → Q (.bl (textD d)) H'
structure WordTxt (K : PySem.W.Frag) (mg : Str → Option Value) (a_has_only : Addr) (t1 t2 t3 t4 : Tok) : Prop where
  n_isinstance : mg "isinstance" = none
  n_str : mg "str" = none
  n_len : mg "len" = none
  n_all : mg "all" = none
  g_NAME_MOST : mg "NAME_MOST" = some (.int 8 t1)
  g_TEXT_MOST : mg "TEXT_MOST" = some (.int 16 t2)
  g_NAME_SIGNS : mg "NAME_SIGNS" = some (.str abc t3)
  g_TEXT_SIGNS : mg "TEXT_SIGNS" = some (.str abc9 t4)
  g_has_only : mg "_has_only" = some (.ref a_has_only)
  k_has_only : PySem.W.keepIn K (.ref a_has_only) = true
section
variable {P : Program} {w : World} {K : PySem.W.Frag} {mg : Str → Option Value} {base : Heap}
theorem ok_has {f a_has_only : Addr} {t1 t2 t3 t4 : Tok} {fd : FuncData} (F : Fun K "_has_only" "_has_only" sHas f fd) (T : WordTxt K mg a_has_only t1 t2 t3 t4) : FnOk P w K mg base CX0 1 f fd ["value", "signs"] spHas := by
  refine F.ok scHas (fun vs H Q E h => ?_) (fun cdv A outer s H vs Q E hr h => ?_)
  · obtain ⟨z, g, rfl, _⟩ := h
    rfl
  · obtain ⟨z, g, rfl, hl, k⟩ := h
    refine ⟨_, (pss_one (ps_ret (pe_callB (cr_all (by rfl)) (by rfl) T.n_all (by decide +kernel) (pa_cons (pe_lc (own := [("sign", 2)]) (g := gName 2) (tt := tYes) (by rfl) scHas.nd (pi_str (pv 0)) (blkOk_by (own := [("sign", 2)]) (N := ["value", "signs", "sign"]) (sc := defScope sHas) (by decide +kernel)) (fun _ _ _ _ _ => pg_name (i := 2) scHas.nd rfl (Or.inl rfl)) (fun _ _ _ _ _ => pts_nil) (fun _ _ _ _ _ => (pe_cmpR op_in_sign (pv 2) (pv 1) (by rfl)))) pa_nil)))), ?_⟩
    refine ⟨_, rfl, z, rfl, fun D hD => ?_⟩
    refine lc_it walk_str (fun i H1 => Same H H1 ∧ H1 D = some (.lst ((z.cps.toList.take i).map fun c => V.bl (decide (c ∈ g.cps.toList))))) ⟨(Same.refl H).new hD, upd_same⟩ (fun _ _ _ _ => trivial) ?_ ?_
    · rintro i x H1 H2 hi ⟨s1, h1⟩ ⟨rfl, c, hc, rfl⟩
      have hz : z.length = z.cps.toList.length := by
        show z.cps.size = _
        simp
      have lt : i ≤ z.length := by
        show i ≤ z.cps.size
        omega
      refine ⟨rfl, _, rfl, _, rfl, c, g, rfl, rfl, _, h1, smallM (by rw [List.length_map, List.length_take]; omega), s1.cell hD, ?_⟩
      have ec : z.cps.toList[i]? = some c := by simpa using hc
      rw [upd_same, take_more ec]
      simp
    · rintro H1 ⟨s1, h1⟩
      have e1 : z.cps.toList.take z.cps.size = z.cps.toList := by
        rw [List.take_of_length_le]
        simp
      rw [e1] at h1
      refine ⟨D, z.cps.toList.map (fun c => decide (c ∈ g.cps.toList)), rfl, SqL.of (by rw [h1, List.map_map]; rfl), ?_⟩
      have e2 : (z.cps.toList.map fun c => decide (c ∈ g.cps.toList)).all id = hasOnly z g := by
        unfold hasOnly
        rw [List.all_map]
        rfl
      rw [e2]
      exact k _ s1
theorem ok_name {f a_has_only : Addr} {t1 t2 t3 t4 : Tok} {fd fdH : FuncData} (F : Fun K "is_name" "is_name" sName f fd) (T : WordTxt K mg a_has_only t1 t2 t3 t4) (G_has_only : FnOk P w K mg base CX0 1 a_has_only fdH ["value", "signs"] spHas) (b_has_only : Binds K fdH ["value", "signs"] []) :
    FnOk P w K mg base CX0 2 f fd ["value"] (spName K) := by
  refine F.ok scName (fun vs H Q E h => ?_) (fun cdv A outer s H vs Q E hr h => ?_)
  · obtain ⟨v, d, N, rfl, _⟩ := h
    rfl
  · obtain ⟨v, d, N, rfl, hv, hl, k⟩ := h
    refine ⟨_, (pss_cons (ps_if (PW.pt (pw_or (pt_not (pt_val (pe_callB call_isi (by rfl) T.n_isinstance (by decide +kernel) (pa_cons (pv 0) (pa_cons (pe_bltn (v := V.ty "str") (u := .type "str") (by rfl) T.n_str (by decide +kernel) (by rfl)) pa_nil))))) (pw_or (pt_cmpR op_eq (pv 0) pe_str (nomark _)) (pw_or1 (pt_cmpR op_gt (pe_callB call_len_str (by rfl) T.n_len PySem.boot_len (pa_cons (pv 0) pa_nil)) (pe_glob (v := V.int 8) (by rfl) T.g_NAME_MOST (by exact ⟨_, rfl⟩)) (nomark _))))))
      (pss_one (ps_ret pe_bl))
      pss_nil)
      (pss_one (ps_ret (pe_call G_has_only hr rfl T.g_has_only T.k_has_only b_has_only .nil pass0 (pa_cons (pv 0) (pa_cons (pe_glob (v := V.str abc) (by rfl) T.g_NAME_SIGNS (by exact ⟨_, rfl⟩)) pa_nil)))))), ?_⟩
    refine ⟨_, rfl, _, _, _, _, _, rfl, .ty "str", hv.ty, kit_str d, _, rfl, ?_⟩
    cases d with
    | str z =>
      have ev := hv.strV
      subst ev
      have l9 := hl z rfl
      refine iteF ⟨_, rfl, rfl, _, rfl, ?_⟩
      by_cases h0 : z.length = 0
      · have ez : z = Str.ofString "" := by
          have h1 : z.cps.size = 0 := h0
          cases z with
          | mk cps =>
            have : cps = #[] := Array.size_eq_zero_iff.mp h1
            rw [this]
            rfl
        subst ez
        exact iteT (k _ (Same.refl H))
      · have nz : ¬ (V.str z = V.str (Str.ofString "")) := fun e => h0 (by rw [V.str.inj e]; rfl)
        rw [decide_eq_false nz]
        refine iteF ⟨_, rfl, _, rfl, (by rw [sizeLine_eq]; omega), _, _, rfl, rfl, _, rfl, ?_⟩
        have en : nameD (.str z) = (decide (z.length ≤ 8) && hasOnly z abc) := by
          show (decide (z.length ≠ 0) && _) = _
          rw [decide_eq_true h0, Bool.true_and]
        refine ite2 (fun h8 => ?_) (fun h8 => ?_)
        · have h9 : ¬ z.length ≤ 8 := by
            have := of_decide_eq_true h8
            omega
          have := k H (Same.refl H)
          rw [en, decide_eq_false h9, Bool.false_and] at this
          exact this
        · have h9 : z.length ≤ 8 := by
            have : ¬ ((8 : Int) < (z.length : Int)) := fun q => h8 (decide_eq_true q)
            omega
          refine ⟨_, rfl, z, abc, rfl, l9, fun H' s' => ?_⟩
          have := k H' s'
          rw [en, decide_eq_true h9, Bool.true_and] at this
          exact this
    | _ => exact iteT (k _ (Same.refl H))
theorem ok_text {f a_has_only : Addr} {t1 t2 t3 t4 : Tok} {fd fdH : FuncData} (F : Fun K "is_text" "is_text" sText f fd) (T : WordTxt K mg a_has_only t1 t2 t3 t4) (G_has_only : FnOk P w K mg base CX0 1 a_has_only fdH ["value", "signs"] spHas) (b_has_only : Binds K fdH ["value", "signs"] []) :
    FnOk P w K mg base CX0 2 f fd ["value"] (spText K) := by
  refine F.ok scText (fun vs H Q E h => ?_) (fun cdv A outer s H vs Q E hr h => ?_)
  · obtain ⟨v, d, N, rfl, _⟩ := h
    rfl
  · obtain ⟨v, d, N, rfl, hv, hl, k⟩ := h
    refine ⟨_, (pss_cons (ps_if (PW.pt (pw_or (pt_not (pt_val (pe_callB call_isi (by rfl) T.n_isinstance (by decide +kernel) (pa_cons (pv 0) (pa_cons (pe_bltn (v := V.ty "str") (u := .type "str") (by rfl) T.n_str (by decide +kernel) (by rfl)) pa_nil))))) (pw_or1 (pt_cmpR op_gt (pe_callB call_len_str (by rfl) T.n_len PySem.boot_len (pa_cons (pv 0) pa_nil)) (pe_glob (v := V.int 16) (by rfl) T.g_TEXT_MOST (by exact ⟨_, rfl⟩)) (nomark _)))))
      (pss_one (ps_ret pe_bl))
      pss_nil)
      (pss_one (ps_ret (pe_call G_has_only hr rfl T.g_has_only T.k_has_only b_has_only .nil pass0 (pa_cons (pv 0) (pa_cons (pe_glob (v := V.str abc9) (by rfl) T.g_TEXT_SIGNS (by exact ⟨_, rfl⟩)) pa_nil)))))), ?_⟩
    refine ⟨_, rfl, _, _, _, _, _, rfl, .ty "str", hv.ty, kit_str d, _, rfl, ?_⟩
    cases d with
    | str z =>
      have ev := hv.strV
      subst ev
      have l9 := hl z rfl
      refine iteF ⟨_, rfl, _, rfl, (by rw [sizeLine_eq]; omega), _, _, rfl, rfl, _, rfl, ?_⟩
      refine ite2 (fun h8 => ?_) (fun h8 => ?_)
      · have h9 : ¬ z.length ≤ 16 := by
          have := of_decide_eq_true h8
          omega
        have := k H (Same.refl H)
        rw [show textD (.str z) = (decide (z.length ≤ 16) && hasOnly z abc9) from rfl, decide_eq_false h9, Bool.false_and] at this
        exact this
      · have h9 : z.length ≤ 16 := by
          have : ¬ ((16 : Int) < (z.length : Int)) := fun q => h8 (decide_eq_true q)
          omega
        refine ⟨_, rfl, z, abc9, rfl, l9, fun H' s' => ?_⟩
        have := k H' s'
        rw [show textD (.str z) = (decide (z.length ≤ 16) && hasOnly z abc9) from rfl, decide_eq_true h9, Bool.true_and] at this
        exact this
    | _ => exact iteT (k _ (Same.refl H))
end
end K1

/-! a document that is still being made: lists of a name and a list of things, into which things are put -/
namespace K1
open PySem L2
inductive AT where
  | txt (z : Str)
  | nod (a k : Addr) (x : Str) (ts : List AT)
def AT.val : AT → V
  | .txt z => .str z
  | .nod a _ _ _ => .ref a
mutual
/-- the nodes' own lists -/
def AT.na : AT → List Addr
  | .txt _ => []
  | .nod a _ _ ts => a :: naAll ts
def naAll : List AT → List Addr
  | [] => []
  | t :: ts => t.na ++ naAll ts
end
mutual
/-- the lists of what stands in them -/
def AT.ka : AT → List Addr
  | .txt _ => []
  | .nod _ k _ ts => k :: kaAll ts
def kaAll : List AT → List Addr
  | [] => []
  | t :: ts => t.ka ++ kaAll ts
end
mutual
def AT.At (H : Hp) : AT → Prop
  | .txt _ => True
  | .nod a k x ts => H a = some (.lst [.str x, .ref k]) ∧ H k = some (.lst (ts.map AT.val)) ∧ atAll H ts
def atAll (H : Hp) : List AT → Prop
  | [] => True
  | t :: ts => t.At H ∧ atAll H ts
end
mutual
theorem AT.frame {H H' : Hp} : ∀ t : AT, (∀ q ∈ t.na, H' q = H q) → (∀ q ∈ t.ka, H' q = H q) → t.At H → t.At H'
  | .txt _, _, _, _ => trivial
  | .nod a k x ts, h1, h2, h => by
    obtain ⟨e1, e2, e3⟩ := h
    have m1 : ∀ q ∈ a :: naAll ts, H' q = H q := h1
    have m2 : ∀ q ∈ k :: kaAll ts, H' q = H q := h2
    refine ⟨by rw [m1 a (by simp)]; exact e1, by rw [m2 k (by simp)]; exact e2, ?_⟩
    exact atAll_frame ts (fun q hq => m1 q (by simp [hq])) (fun q hq => m2 q (by simp [hq])) e3
theorem atAll_frame {H H' : Hp} : ∀ ts : List AT, (∀ q ∈ naAll ts, H' q = H q) → (∀ q ∈ kaAll ts, H' q = H q) → atAll H ts → atAll H' ts
  | [], _, _, _ => trivial
  | t :: ts, h1, h2, h => by
    have m1 : ∀ q ∈ t.na ++ naAll ts, H' q = H q := h1
    have m2 : ∀ q ∈ t.ka ++ kaAll ts, H' q = H q := h2
    exact ⟨AT.frame t (fun q hq => m1 q (by simp [hq])) (fun q hq => m2 q (by simp [hq])) h.1, atAll_frame ts (fun q hq => m1 q (by simp [hq])) (fun q hq => m2 q (by simp [hq])) h.2⟩
end
mutual
/-- n put into the list k0, ahead of its i-th thing -/
def putT (k0 : Addr) (i : Nat) (n : AT) : AT → AT
  | .txt z => .txt z
  | .nod a k x ts => if k = k0 then .nod a k x (ts.take i ++ n :: ts.drop i) else .nod a k x (putAll k0 i n ts)
def putAll (k0 : Addr) (i : Nat) (n : AT) : List AT → List AT
  | [] => []
  | t :: ts => putT k0 i n t :: putAll k0 i n ts
end
theorem put_val {k0 : Addr} {i : Nat} {n : AT} : ∀ t : AT, (putT k0 i n t).val = t.val
  | .txt _ => rfl
  | .nod a k x ts => by
    unfold putT
    split <;> rfl
theorem putAll_vals {k0 : Addr} {i : Nat} {n : AT} : ∀ ts : List AT, (putAll k0 i n ts).map AT.val = ts.map AT.val
  | [] => rfl
  | t :: ts => by
    show (putT k0 i n t).val :: (putAll k0 i n ts).map AT.val = t.val :: ts.map AT.val
    rw [put_val, putAll_vals ts]
mutual
/-- where the list isn't, nothing changes -/
theorem put_out {k0 : Addr} {i : Nat} {n : AT} : ∀ t : AT, k0 ∉ t.ka → putT k0 i n t = t
  | .txt _, _ => rfl
  | .nod a k x ts, h => by
    have h' : k0 ∉ k :: kaAll ts := h
    unfold putT
    rw [if_neg (fun e => h' (by rw [e]; simp)), putAll_out ts (fun z => h' (by simp [z]))]
theorem putAll_out {k0 : Addr} {i : Nat} {n : AT} : ∀ ts : List AT, k0 ∉ kaAll ts → putAll k0 i n ts = ts
  | [], _ => rfl
  | t :: ts, h => by
    have h' : k0 ∉ t.ka ++ kaAll ts := h
    show putT k0 i n t :: putAll k0 i n ts = t :: ts
    rw [put_out t (fun z => h' (by simp [z])), putAll_out ts (fun z => h' (by simp [z]))]
end
theorem naAll_app : ∀ ts us : List AT, naAll (ts ++ us) = naAll ts ++ naAll us
  | [], _ => rfl
  | t :: ts, us => by
    show t.na ++ naAll (ts ++ us) = (t.na ++ naAll ts) ++ naAll us
    rw [naAll_app ts us, List.append_assoc]
theorem kaAll_app : ∀ ts us : List AT, kaAll (ts ++ us) = kaAll ts ++ kaAll us
  | [], _ => rfl
  | t :: ts, us => by
    show t.ka ++ kaAll (ts ++ us) = (t.ka ++ kaAll ts) ++ kaAll us
    rw [kaAll_app ts us, List.append_assoc]
theorem atAll_app {H : Hp} : ∀ ts us : List AT, atAll H (ts ++ us) ↔ atAll H ts ∧ atAll H us
  | [], us => ⟨fun h => ⟨trivial, h⟩, fun h => h.2⟩
  | t :: ts, us => ⟨fun h => ⟨⟨h.1, ((atAll_app ts us).mp h.2).1⟩, ((atAll_app ts us).mp h.2).2⟩, fun h => ⟨h.1.1, (atAll_app ts us).mpr ⟨h.1.2, h.2⟩⟩⟩
mutual
/-- the store of a list with one thing more makes the document with that thing put in -/
theorem put_at {H : Hp} {k0 : Addr} {i : Nat} {n : AT} {vs : List V} (hk : H k0 = some (.lst vs)) (hn : n.At H) (n1 : k0 ∉ n.na) (n2 : k0 ∉ n.ka) : ∀ t : AT, t.At H → k0 ∉ t.na → t.ka.Nodup →
    (putT k0 i n t).At (upd H k0 (.lst (vs.take i ++ n.val :: vs.drop i)))
  | .txt _, _, _, _ => trivial
  | .nod a k x ts, h, hna, nd => by
    obtain ⟨e1, e2, e3⟩ := h
    have hna' : k0 ∉ a :: naAll ts := hna
    have nd' : (k :: kaAll ts).Nodup := nd
    have ka0 : k ∉ kaAll ts := (List.nodup_cons.mp nd').1
    have nd2 : (kaAll ts).Nodup := (List.nodup_cons.mp nd').2
    have ane : a ≠ k0 := fun e => hna' (by rw [e]; simp)
    unfold putT
    by_cases hkk : k = k0
    · subst hkk
      rw [if_pos rfl]
      rw [hk] at e2
      have ev : vs = ts.map AT.val := by
        have z := Option.some.inj e2
        injection z
      refine ⟨by rw [upd_ne ane]; exact e1, ?_, ?_⟩
      · rw [upd_same, ev]
        simp
      · have fr : ∀ us : List AT, (∀ q ∈ naAll us, q ≠ k) → (∀ q ∈ kaAll us, q ≠ k) → atAll H us → atAll (upd H k (.lst (vs.take i ++ n.val :: vs.drop i))) us := fun us u1 u2 u => atAll_frame us (fun q hq => upd_ne (u1 q hq)) (fun q hq => upd_ne (u2 q hq)) u
        have all := fr ts (fun q hq e => hna' (by rw [← e]; simp [hq])) (fun q hq e => ka0 (by rw [← e]; exact hq)) e3
        have sp : ts = ts.take i ++ ts.drop i := (List.take_append_drop i ts).symm
        rw [sp] at all
        obtain ⟨a1, a2⟩ := (atAll_app _ _).mp all
        refine (atAll_app _ _).mpr ⟨a1, ?_, a2⟩
        exact AT.frame n (fun q hq => upd_ne (fun e => n1 (by rw [← e]; exact hq))) (fun q hq => upd_ne (fun e => n2 (by rw [← e]; exact hq))) hn
    · rw [if_neg hkk]
      refine ⟨by rw [upd_ne ane]; exact e1, ?_, putAll_at hk hn n1 n2 ts e3 (fun z => hna' (by simp [z])) nd2⟩
      rw [upd_ne hkk, putAll_vals]
      exact e2
theorem putAll_at {H : Hp} {k0 : Addr} {i : Nat} {n : AT} {vs : List V} (hk : H k0 = some (.lst vs)) (hn : n.At H) (n1 : k0 ∉ n.na) (n2 : k0 ∉ n.ka) : ∀ ts : List AT, atAll H ts → k0 ∉ naAll ts → (kaAll ts).Nodup →
    atAll (upd H k0 (.lst (vs.take i ++ n.val :: vs.drop i))) (putAll k0 i n ts)
  | [], _, _, _ => trivial
  | t :: ts, h, hna, nd => by
    have hna' : k0 ∉ t.na ++ naAll ts := hna
    have nd' : (t.ka ++ kaAll ts).Nodup := nd
    obtain ⟨d1, d2, _⟩ := List.nodup_append.mp nd'
    exact ⟨put_at hk hn n1 n2 t h.1 (fun z => hna' (by simp [z])) d1, putAll_at hk hn n1 n2 ts h.2 (fun z => hna' (by simp [z])) d2⟩
end
mutual
/-- how many things -/
def AT.cnt : AT → Nat
  | .txt _ => 1
  | .nod _ _ _ ts => 1 + cntAll ts
def cntAll : List AT → Nat
  | [] => 0
  | t :: ts => t.cnt + cntAll ts
end
theorem cntAll_app : ∀ ts us : List AT, cntAll (ts ++ us) = cntAll ts + cntAll us
  | [], us => by show cntAll us = 0 + cntAll us; omega
  | t :: ts, us => by
    show t.cnt + cntAll (ts ++ us) = t.cnt + cntAll ts + cntAll us
    rw [cntAll_app ts us]
    omega
mutual
theorem put_cnt {k0 : Addr} {i : Nat} {n : AT} : ∀ t : AT, t.ka.Nodup → (putT k0 i n t).cnt ≤ t.cnt + n.cnt
  | .txt _, _ => by
    show 1 ≤ 1 + n.cnt
    omega
  | .nod a k x ts, nd => by
    have nd' : (k :: kaAll ts).Nodup := nd
    unfold putT
    by_cases hkk : k = k0
    · rw [if_pos hkk]
      show 1 + cntAll (ts.take i ++ n :: ts.drop i) ≤ 1 + cntAll ts + n.cnt
      have e : cntAll ts = cntAll (ts.take i) + cntAll (ts.drop i) := by rw [← cntAll_app, List.take_append_drop]
      rw [cntAll_app, e]
      show 1 + (cntAll (ts.take i) + (n.cnt + cntAll (ts.drop i))) ≤ _
      omega
    · rw [if_neg hkk]
      have := putAll_cnt (k0 := k0) (i := i) (n := n) ts (List.nodup_cons.mp nd').2
      show 1 + cntAll (putAll k0 i n ts) ≤ 1 + cntAll ts + n.cnt
      omega
theorem putAll_cnt {k0 : Addr} {i : Nat} {n : AT} : ∀ ts : List AT, (kaAll ts).Nodup → cntAll (putAll k0 i n ts) ≤ cntAll ts + n.cnt
  | [], _ => Nat.zero_le _
  | t :: ts, nd => by
    have nd' : (t.ka ++ kaAll ts).Nodup := nd
    obtain ⟨d1, d2, d3⟩ := List.nodup_append.mp nd'
    show (putT k0 i n t).cnt + cntAll (putAll k0 i n ts) ≤ t.cnt + cntAll ts + n.cnt
    by_cases hk : k0 ∈ t.ka
    · have out : k0 ∉ kaAll ts := fun z => d3 k0 hk k0 z rfl
      rw [putAll_out ts out]
      have := put_cnt (k0 := k0) (i := i) (n := n) t d1
      omega
    · rw [put_out t hk]
      have := putAll_cnt (k0 := k0) (i := i) (n := n) ts d2
      omega
end
end K1

/-! frozen: lists made tuples -/
namespace K1
open PySem L2 Xr
abbrev sFrozen : Stmt := top 28
theorem scFrozen : FnScope ["thing", "part"] ["thing"] (defScope sFrozen) := ⟨rfl, rfl, rfl, by decide +kernel, rfl, by decide +kernel, by decide +kernel⟩
theorem take_snoc {α : Type} {l : List α} {i : Nat} {x : α} (h : l[i]? = some x) : l.take (i + 1) = l.take i ++ [x] := by
  induction l generalizing i with
  | nil => simp at h
  | cons a l ih =>
    cases i with
    | zero =>
      have e : a = x := Option.some.inj h
      subst e
      rfl
    | succ i =>
      show a :: l.take (i + 1) = a :: l.take i ++ [x]
      rw [ih h]
      rfl
theorem not_new {N : Addr → Prop} {H H1 : Hp} {p : Addr} (hN : ∀ a, N a → Trk H a) (s : Same H H1) (hp : H1 p = none) : ¬ N p := fun n => by
  obtain ⟨_, z⟩ := (hN p n).same s
  rw [hp] at z
  cases z
mutual
def AT.doc : AT → Doc
  | .txt z => .txt z
  | .nod _ _ x ts => .nod x (docAll ts)
def docAll : List AT → List Doc
  | [] => []
  | t :: ts => t.doc :: docAll ts
end
theorem docAll_map : ∀ ts : List AT, docAll ts = ts.map AT.doc
  | [] => rfl
  | t :: ts => by
    show t.doc :: docAll ts = t.doc :: ts.map AT.doc
    rw [docAll_map ts]
theorem datAll_snoc (ts : List Doc) (t : Doc) : datAll (ts ++ [t]) = datAll ts ++ [t.dat] := by
  rw [datAll_map, datAll_map, List.map_append]
  rfl
mutual
/-- how many nodes -/
def AT.nds : AT → Nat
  | .txt _ => 0
  | .nod _ _ _ ts => 1 + ndsAll ts
def ndsAll : List AT → Nat
  | [] => 0
  | t :: ts => t.nds + ndsAll ts
end
theorem nds_part : ∀ (ts : List AT) (t : AT), t ∈ ts → t.nds ≤ ndsAll ts
  | u :: ts, t, h => by
    show t.nds ≤ u.nds + ndsAll ts
    rcases List.mem_cons.mp h with h | h
    · rw [h]
      omega
    · have := nds_part ts t h
      omega
theorem cnt_len : ∀ ts : List AT, ts.length ≤ cntAll ts
  | [] => Nat.le_refl _
  | t :: ts => by
    have := cnt_len ts
    have p : 1 ≤ t.cnt := by
      cases t with
      | txt z => exact Nat.le_refl _
      | nod a k x ts =>
        show 1 ≤ 1 + cntAll ts
        omega
    show ts.length + 1 ≤ t.cnt + cntAll ts
    omega
theorem cnt_part : ∀ (ts : List AT) (t : AT), t ∈ ts → t.cnt ≤ cntAll ts
  | u :: ts, t, h => by
    show t.cnt ≤ u.cnt + cntAll ts
    rcases List.mem_cons.mp h with h | h
    · rw [h]
      omega
    · have := cnt_part ts t h
      omega
theorem at_part {H : Hp} : ∀ (ts : List AT) (t : AT), t ∈ ts → atAll H ts → t.At H
  | u :: ts, t, h, a => by
    rcases List.mem_cons.mp h with h | h
    · rw [h]
      exact a.1
    · exact at_part ts t h a.2
mutual
theorem AT.same {H H' : Hp} (s : Same H H') : ∀ t : AT, t.At H → t.At H'
  | .txt _, _ => trivial
  | .nod a k x ts, h => ⟨s _ _ h.1, s _ _ h.2.1, atAll_same s ts h.2.2⟩
theorem atAll_same {H H' : Hp} (s : Same H H') : ∀ ts : List AT, atAll H ts → atAll H' ts
  | [], _ => trivial
  | t :: ts, h => ⟨AT.same s t h.1, atAll_same s ts h.2⟩
end
def spFrozen (K : PySem.W.Frag) (n : Nat) : Sp := fun vs H Q _ => ∃ (t : AT) (N : Addr → Prop), vs = [t.val] ∧ (∀ a, N a → Trk H a) ∧ t.At H ∧ t.nds ≤ n ∧ t.cnt ≤ 900 ∧ ∀ (u : V) (H' : Hp), Dm K N H' u t.doc.dat → Same H H' → Q u H'
structure FrozenTxt (K : PySem.W.Frag) (mg : Str → Option Value) (a_law_frozen : Addr) : Prop where
  n_isinstance : mg "isinstance" = none
  n_str : mg "str" = none
  n_tuple : mg "tuple" = none
  g_law_frozen : mg "_law_frozen" = some (.ref a_law_frozen)
  k_law_frozen : PySem.W.keepIn K (.ref a_law_frozen) = true
section
variable {P : Program} {w : World} {K : PySem.W.Frag} {mg : Str → Option Value} {base : Heap} {a_law_frozen : Addr}
theorem ok_frozen {fd : FuncData} (F : Fun K "_law_frozen" "_law_frozen" sFrozen a_law_frozen fd) (T : FrozenTxt K mg a_law_frozen) (b_law_frozen : Binds K fd ["thing"] []) : ∀ n : Nat, FnOk P w K mg base CX0 (1 + n) a_law_frozen fd ["thing"] (spFrozen K n) := by
  intro n
  induction n with
  | zero =>
    refine F.ok scFrozen (fun vs H Q E h => ?_) (fun cdv A outer s H vs Q E hr h => ?_)
    · obtain ⟨t, N, rfl, _⟩ := h
      rfl
    · obtain ⟨t, N, rfl, hN, ht, hn, hc, k⟩ := h
      refine ⟨_, pss_cons (ps_if (pt_val (pe_callB call_isi (by rfl) T.n_isinstance (by decide +kernel) (pa_cons (pv 0) (pa_cons (pe_bltn (v := V.ty "str") (u := .type "str") (by rfl) T.n_str (by decide +kernel) (by rfl)) pa_nil))))
        (pss_one (ps_ret (pv 0))) pss_nil) pss_never, ?_⟩
      cases t with
      | nod a k0 x ts =>
        have z : 1 + ndsAll ts ≤ 0 := hn
        omega
      | txt z => exact ⟨_, rfl, _, _, _, _, true, rfl, .ty "str", .base (.str z), kit_ty (by decide +kernel), _, rfl, iteT ⟨_, rfl, k _ _ (.str z) (Same.refl H)⟩⟩
  | succ n G_law_frozen =>
    refine F.ok scFrozen (fun vs H Q E h => ?_) (fun cdv A outer s H vs Q E hr h => ?_)
    · obtain ⟨t, N, rfl, _⟩ := h
      rfl
    · obtain ⟨t, N, rfl, hN, ht, hn, hc, k⟩ := h
      refine ⟨_, (pss_cons (ps_if (pt_val (pe_callB call_isi (by rfl) T.n_isinstance (by decide +kernel) (pa_cons (pv 0) (pa_cons (pe_bltn (v := V.ty "str") (u := .type "str") (by rfl) T.n_str (by decide +kernel) (by rfl)) pa_nil))))
      (pss_one (ps_ret (pv 0)))
      pss_nil)
      (pss_one (ps_ret (pe_tup (pa_cons (pe_ix ix_list (pv 0) pe_int (fun _ _ => rfl)) (pa_cons (pe_callTy call_tuple_of (by rfl) T.n_tuple (by decide +kernel) (pa_cons (pe_lc (own := [("part", 1)]) (g := gName 1) (tt := tYes) (by rfl) scFrozen.nd (pi_list (pe_ix ix_list (pv 0) pe_int (fun _ _ => rfl))) (blkOk_by (own := [("part", 1)]) (N := ["thing", "part"]) (sc := defScope sFrozen) (by decide +kernel)) (fun _ _ _ _ _ => pg_name (i := 1) scFrozen.nd rfl (Or.inl rfl)) (fun _ _ _ _ _ => pts_nil) (fun _ _ _ _ _ => (pe_call G_law_frozen hr rfl T.g_law_frozen T.k_law_frozen b_law_frozen .nil pass0 (pa_cons (pv 1) pa_nil)))) pa_nil)) pa_nil)))))), ?_⟩
      cases t with
      | txt z => exact ⟨_, rfl, _, _, _, _, true, rfl, .ty "str", .base (.str z), kit_ty (by decide +kernel), _, rfl, iteT ⟨_, rfl, k _ _ (.str z) (Same.refl H)⟩⟩
      | nod a k0 x ts =>
        obtain ⟨h1, h2, h3⟩ := ht
        have hn' : 1 + ndsAll ts ≤ n + 1 := hn
        have hc' : 1 + cntAll ts ≤ 900 := hc
        have lt := cnt_len ts
        refine ⟨_, rfl, _, _, _, _, false, rfl, .ty "str", .base (.lst h1), kit_ty (by decide +kernel), _, rfl, iteF ?_⟩
        refine ⟨_, rfl, _, _, _, _, rfl, rfl, SqL.of h1, atI_nat (j := 0) rfl, _, rfl, _, _, _, _, rfl, rfl, SqL.of h1, atI_nat (j := 1) rfl, k0, rfl, ⟨_, SqL.of h2⟩, fun D hD => ?_⟩
        have D0 : Same H (upd H D (.lst [])) := (Same.refl H).new hD
        refine lc_list (K := K) (a := k0) (xs := ts.map AT.val) (fun i H1 => ∃ vs : List V, Same H H1 ∧ H1 D = some (.lst vs) ∧ DmAll K (fun a => N a ∨ a = D) H1 vs (datAll (docAll (ts.take i)))) ⟨[], D0, upd_same, by rw [List.take_zero]; exact .nil⟩ (fun i H1 _ ⟨_, s1, _⟩ => SqL.of (s1 _ _ h2)) ?_ ?_
        · rintro i y H1 hy ⟨vs, s1, d1, d2⟩
          rw [List.getElem?_map] at hy
          cases et : ts[i]? with
          | none =>
            rw [et] at hy
            cases hy
          | some t =>
            rw [et] at hy
            have ey := Option.some.inj hy
            subst ey
            have mem : t ∈ ts := List.mem_of_getElem? et
            have il : i < ts.length := (List.getElem?_eq_some_iff.mp et).1
            have p1 := nds_part ts t mem
            have p2 := cnt_part ts t mem
            refine ⟨rfl, _, rfl, t, (fun a => N a ∨ a = D), rfl, ?_, AT.same s1 t (at_part ts t mem h3), by omega, by omega, fun u H2 du s2 => ?_⟩
            · rintro q (z | z)
              · exact (hN q z).same s1
              · rw [z]
                exact ⟨_, d1⟩
            · have l2 := d2.len
              rw [datAll_length, docAll_map, List.length_map, List.length_take] at l2
              have bD : Bt (fun a => N a ∨ a = D) H2 (upd H2 D (.lst (vs ++ [u]))) := Bt.refl.cell (.inr rfl)
              refine ⟨vs, s2 _ _ d1, small1000 (by omega), vs ++ [u], (s1.trans s2).cell hD, upd_same, ?_⟩
              have e9 : docAll (ts.take (i + 1)) = docAll (ts.take i) ++ [t.doc] := by rw [docAll_map, docAll_map, take_snoc et, List.map_append]; rfl
              rw [e9, datAll_snoc]
              exact ((d2.up (Bt.same s2)).up bD).snoc (du.up bD)
        · rintro H1 ⟨vs, s1, d1, d2⟩
          rw [List.length_map, List.take_length] at d2
          refine ⟨D, vs, rfl, .inl ⟨SqL.of d1, fun p hp => ⟨(by show 2 ≤ sizeLine; decide), fun p2 hp2 => ?_⟩⟩⟩
          have pp : p ≠ p2 := ne_of_none upd_same hp2
          have s2 := s1.new (o := .tup vs) hp
          refine k _ _ ?_ (s2.new hp2)
          show Dm K N _ _ (.tuple [.str x, .tuple (datAll (docAll ts))])
          refine .tup upd_same (not_new hN s2 hp2) (.cons (.str x) (.cons (.tup (xs := vs) (by rw [upd_ne pp, upd_same]) (not_new hN s1 hp) ?_) .nil))
          exact DmAll.mono (fun a _ z => .inl z) ((Bt.refl.new hp).new hp2) _ _ d2
end
end K1

/-! drawn texts -/
namespace K1
open PySem L2 Xr
abbrev sLText : Stmt := top 27
theorem scLText : FnScope ["deal", "many", "turn"] ["deal"] (defScope sLText) := ⟨rfl, rfl, rfl, by decide +kernel, rfl, by decide +kernel, by decide +kernel⟩
theorem DealAt.upd {H : Hp} {d c l : Addr} {o : HO} (h : DealAt H d c) (n1 : l ≠ d) (n2 : l ≠ c) : DealAt (upd H l o) d c := by
  obtain ⟨cs, b, h1, h2, r⟩ := h.ex
  exact ⟨cs, b, by rw [upd_ne (Ne.symm n1)]; exact h1, by rw [upd_ne (Ne.symm n2)]; exact h2, r⟩
theorem DealAt.trk {H : Hp} {d c : Addr} (h : DealAt H d c) : Trk H d ∧ Trk H c := by
  obtain ⟨cs, b, h1, h2, r⟩ := h.ex
  exact ⟨⟨_, h1⟩, ⟨_, h2⟩⟩
theorem DealAt.ne {H : Hp} {d c l : Addr} (D : DealAt H d c) (hl : H l = none) : l ≠ d ∧ l ≠ c := by
  obtain ⟨⟨_, z1⟩, ⟨_, z2⟩⟩ := D.trk
  refine ⟨fun e => ?_, fun e => ?_⟩
  · rw [e, z1] at hl
    cases hl
  · rw [e, z2] at hl
    cases hl
theorem DealAt.new {H : Hp} {d c l : Addr} {o : HO} (h : DealAt H d c) (hl : H l = none) : DealAt (L2.upd H l o) d c := h.upd (h.ne hl).1 (h.ne hl).2
theorem But.cell0 {d c l : Addr} {H H1 : Hp} {o : HO} (b : But d c H H1) (hl : H l = none) : But d c H (upd H1 l o) := fun q u e n m => by
  have z := b q u e n m
  rw [upd_ne (ne_of_none e hl)]
  exact z
theorem But.none {d c l : Addr} {H H' : Hp} (b : But d c H H') (hl : H' l = none) (D : DealAt H' d c) : H l = none := by
  cases e : H l with
  | none => rfl
  | some o =>
    obtain ⟨n1, n2⟩ := D.ne hl
    rw [b l o e n1 n2] at hl
    cases hl
/-- a text of signs out of some -/
structure From (S : List Nat) (n : Nat) (z : Str) : Prop where
  len : z.length = n
  sub : ∀ ch ∈ z.cps.toList, ch ∈ S
theorem cps_app (a b : Str) : (a ++ b).cps.toList = a.cps.toList ++ b.cps.toList := by
  show (a.cps ++ b.cps).toList = _
  simp
theorem join_from {S : List Nat} : ∀ (ys : List Str), (∀ y ∈ ys, From S 1 y) → From S ys.length (Str.join (Str.ofString "") ys)
  | [], _ => ⟨rfl, fun ch h => by simp [Str.join, Str.empty] at h⟩
  | [y], h => h y (by simp)
  | y :: y2 :: r, h => by
    have ih := join_from (y2 :: r) fun x hx => h x (List.mem_cons_of_mem _ hx)
    have hy := h y (by simp)
    have e : Str.join (Str.ofString "") (y :: y2 :: r) = y ++ Str.ofString "" ++ Str.join (Str.ofString "") (y2 :: r) := rfl
    have l0 : (Str.ofString "").length = 0 := by decide
    have t0 : (Str.ofString "").cps.toList = [] := by decide +kernel
    rw [e]
    refine ⟨?_, fun ch hc => ?_⟩
    · rw [strLen_append, strLen_append, l0]
      have h1 := ih.len
      have h2 := hy.len
      simp only [List.length_cons] at h1 ⊢
      omega
    · rw [cps_app, cps_app, t0, List.append_nil] at hc
      rcases List.mem_append.mp hc with hc | hc
      · exact hy.sub ch hc
      · exact ih.sub ch hc
theorem From.has {g z : Str} {n : Nat} (h : From g.cps.toList n z) : hasOnly z g = true := by
  unfold hasOnly
  rw [List.all_eq_true]
  intro c hc
  exact decide_eq_true (h.sub c hc)
def spLText : Sp := fun vs H Q _ => ∃ (d c : Addr), vs = [.ref d] ∧ DealAt H d c ∧ ∀ (z : Str) (H' : Hp), textD (.str z) = true → DealAt H' d c → But d c H H' → Q (.str z) H'
structure LTextTxt (K : PySem.W.Frag) (mg : Str → Option Value) (a_law_any a_law_of : Addr) : Prop where
  n_range : mg "range" = none
  g_law_of : mg "_law_of" = some (.ref a_law_of)
  k_law_of : PySem.W.keepIn K (.ref a_law_of) = true
  g_law_any : mg "_law_any" = some (.ref a_law_any)
  k_law_any : PySem.W.keepIn K (.ref a_law_any) = true
section
variable {P : Program} {w : World} {K : PySem.W.Frag} {mg : Str → Option Value} {base : Heap} {a_law_any a_law_of : Addr} {fdA fdO : FuncData}
theorem ok_ltext {f : Addr} {fd : FuncData} (F : Fun K "_law_text" "_law_text" sLText f fd) (T : LTextTxt K mg a_law_any a_law_of)
    (G_law_any : FnOk P w K mg base CX0 1 a_law_any fdA ["deal", "bound"] spAny) (b_law_any : Binds K fdA ["deal", "bound"] [])
    (G_law_of : FnOk P w K mg base CX0 2 a_law_of fdO ["deal", "some"] spOf) (b_law_of : Binds K fdO ["deal", "some"] []) : FnOk P w K mg base CX0 3 f fd ["deal"] spLText := by
  refine F.ok scLText (fun vs H Q E h => ?_) (fun cdv A outer s H vs Q E hr h => ?_)
  · obtain ⟨d, c, rfl, _⟩ := h
    rfl
  · obtain ⟨d, c, rfl, D, k⟩ := h
    have hr1 : Room 1 _ := hr.mono (by decide)
    have hr2 : Room 2 _ := hr
    refine ⟨_, (pss_cons (ps_set (i := 1) scLText.nd rfl (Or.inl rfl) (pe_call G_law_of hr2 rfl T.g_law_of T.k_law_of b_law_of .nil pass0 (pa_cons (pv 0) (pa_cons (pe_lst (pa_cons pe_int (pa_cons pe_int (pa_cons pe_int (pa_cons pe_int (pa_cons (pe_call G_law_any hr1 rfl T.g_law_any T.k_law_any b_law_any .nil pass0 (pa_cons (pv 0) (pa_cons pe_int pa_nil))) pa_nil)))))) pa_nil))))
      (pss_one (ps_ret (pe_join pe_str (pe_lc (own := [("turn", 2)]) (g := gName 2) (tt := tYes) (by rfl) scLText.nd (pi_range1 (by rfl) T.n_range (pa_cons (pv 1) pa_nil)) (blkOk_by (own := [("turn", 2)]) (N := ["deal", "many", "turn"]) (sc := defScope sLText) (by decide +kernel)) (fun _ _ _ _ _ => pg_name (i := 2) scLText.nd rfl (Or.inl rfl)) (fun _ _ _ _ _ => pts_nil) (fun _ _ _ _ _ => (pe_call G_law_of hr2 rfl T.g_law_of T.k_law_of b_law_of .nil pass0 (pa_cons (pv 0) (pa_cons pe_str pa_nil))))))))), ?_⟩
    refine ⟨_, rfl, _, rfl, d, c, 17, rfl, D, by decide, by decide, fun r H1 r0 r1 D1 b1 => ⟨(by show 5 ≤ sizeLine; decide), fun l hl => ?_⟩⟩
    obtain ⟨ld, lc⟩ := D1.ne hl
    refine ⟨d, c, D1.new hl, .inl ⟨l, _, rfl, upd_same, ld, lc, (by show 0 < 5; decide), (by show 5 < 1000000; decide), fun v H2 hv D2 b2 => ?_⟩⟩
    have B2 : But d c H H2 := fun q o e n m => by
      have z := b1 q o e n m
      exact b2 q o (by rw [upd_ne (ne_of_none z hl)]; exact z) n m
    obtain ⟨z, rfl, z0⟩ : ∃ z : Nat, v = .int (z : Int) ∧ z ≤ 16 := by
      simp only [List.mem_cons, List.not_mem_nil, or_false] at hv
      rcases hv with rfl | rfl | rfl | rfl | rfl
      · exact ⟨0, rfl, by decide⟩
      · exact ⟨1, rfl, by decide⟩
      · exact ⟨1, rfl, by decide⟩
      · exact ⟨2, rfl, by decide⟩
      · obtain ⟨j, rfl⟩ := Int.eq_ofNat_of_zero_le r0
        exact ⟨j, rfl, by omega⟩
    refine ⟨⟨_, rfl⟩, _, rfl, _, rfl, by omega, by omega, fun L hL => ?_⟩
    obtain ⟨Ld, Lc⟩ := D2.ne hL
    have HL : H L = none := B2.none hL D2
    refine lc_range (lo := 0) (n := ((z : Int) - 0).toNat) (fun i H4 => ∃ ys : List Str, H4 L = some (.lst (ys.map V.str)) ∧ ys.length = i ∧ (∀ y ∈ ys, From abc9.cps.toList 1 y) ∧ DealAt H4 d c ∧ But d c H H4) ⟨[], upd_same, rfl, by simp, D2.new hL, B2.cell0 HL⟩ ?_ ?_
    · rintro i H4 hi ⟨ys, y1, y2, y3, D4, b4⟩
      refine ⟨rfl, _, rfl, d, c, D4, .inr ⟨_, rfl, by decide, by decide, fun ch H5 hc D5 b5 => ?_⟩⟩
      have y1' := b5 L _ y1 Ld Lc
      refine ⟨_, y1', small1000 (by rw [List.length_map]; omega), ys ++ [⟨#[ch]⟩], ?_, by simp [y2], ?_, D5.upd Ld Lc, (b4.trans b5).cell0 HL⟩
      · rw [upd_same]
        simp
      · intro y hy
        rcases List.mem_append.mp hy with hy | hy
        · exact y3 y hy
        · rw [List.mem_singleton] at hy
          subst hy
          refine ⟨rfl, fun c2 h2 => ?_⟩
          have e : c2 = ch := by simpa using h2
          rw [e]
          exact hc
    · rintro H4 ⟨ys, y1, y2, y3, D4, b4⟩
      have lj : ys.length ≤ 16 := by omega
      have sm : (ys.map (·.length)).sum + ys.length * (Str.ofString "").length ≤ 16777216 := by
        have l0 : (Str.ofString "").length = 0 := by decide
        have : ∀ l : List Str, (∀ y ∈ l, From abc9.cps.toList 1 y) → (l.map (·.length)).sum ≤ l.length := by
          intro l
          induction l with
          | nil => intro _; exact Nat.le_refl _
          | cons y l ih =>
            intro h
            have := ih fun x hx => h x (List.mem_cons_of_mem _ hx)
            have := (h y (by simp)).len
            simp only [List.map_cons, List.sum_cons, List.length_cons]
            omega
        have := this ys y3
        rw [l0]
        omega
      refine ⟨_, L, ys, rfl, rfl, .inl (SqL.of y1), sm, ?_⟩
      have pl : From abc9.cps.toList ys.length (Txt.join (Str.ofString "") ys) := by
        show From _ _ (Builtin.Str.glued (Str.ofString "") ys)
        rw [StrLaws.glued_eq_join]
        exact join_from ys y3
      refine k _ _ ?_ D4 b4
      show (decide ((Txt.join (Str.ofString "") ys).length ≤ 16) && hasOnly _ abc9) = true
      rw [pl.has, pl.len, decide_eq_true lj]
      rfl
end
end K1

/-! what putting in leaves of the addresses, the names and the texts -/
namespace K1
open PySem L2
mutual
theorem put_ka {k0 : Addr} {i : Nat} {n : AT} : ∀ t : AT, ∀ q ∈ (putT k0 i n t).ka, q ∈ t.ka ∨ q ∈ n.ka
  | .txt z, q, h => .inl h
  | .nod a k x ts, q, h => by
    unfold putT at h
    by_cases hk : k = k0
    · rw [if_pos hk] at h
      have h' : q ∈ k :: kaAll (ts.take i ++ n :: ts.drop i) := h
      have sp : kaAll ts = kaAll (ts.take i) ++ kaAll (ts.drop i) := by rw [← kaAll_app, List.take_append_drop]
      rcases List.mem_cons.mp h' with e | h'
      · exact .inl (by rw [e]; show k ∈ k :: kaAll ts; simp)
      · rw [kaAll_app] at h'
        rcases List.mem_append.mp h' with h' | h'
        · exact .inl (by show q ∈ k :: kaAll ts; rw [sp]; simp [h'])
        · have h2 : q ∈ n.ka ++ kaAll (ts.drop i) := h'
          rcases List.mem_append.mp h2 with h2 | h2
          · exact .inr h2
          · exact .inl (by show q ∈ k :: kaAll ts; rw [sp]; simp [h2])
    · rw [if_neg hk] at h
      have h' : q ∈ k :: kaAll (putAll k0 i n ts) := h
      rcases List.mem_cons.mp h' with e | h'
      · exact .inl (by rw [e]; show k ∈ k :: kaAll ts; simp)
      · exact (putAll_ka ts q h').imp (fun z => by show q ∈ k :: kaAll ts; simp [z]) id
theorem putAll_ka {k0 : Addr} {i : Nat} {n : AT} : ∀ ts : List AT, ∀ q ∈ kaAll (putAll k0 i n ts), q ∈ kaAll ts ∨ q ∈ n.ka
  | [], q, h => .inl h
  | t :: ts, q, h => by
    have h' : q ∈ (putT k0 i n t).ka ++ kaAll (putAll k0 i n ts) := h
    rcases List.mem_append.mp h' with h' | h'
    · exact (put_ka t q h').imp (fun z => by show q ∈ t.ka ++ kaAll ts; simp [z]) id
    · exact (putAll_ka ts q h').imp (fun z => by show q ∈ t.ka ++ kaAll ts; simp [z]) id
end
mutual
theorem put_ka' {k0 : Addr} {i : Nat} {n : AT} : ∀ t : AT, ∀ q ∈ t.ka, q ∈ (putT k0 i n t).ka
  | .txt z, q, h => h
  | .nod a k x ts, q, h => by
    have h' : q ∈ k :: kaAll ts := h
    unfold putT
    by_cases hk : k = k0
    · rw [if_pos hk]
      show q ∈ k :: kaAll (ts.take i ++ n :: ts.drop i)
      have sp : kaAll ts = kaAll (ts.take i) ++ kaAll (ts.drop i) := by rw [← kaAll_app, List.take_append_drop]
      rw [kaAll_app]
      show q ∈ k :: (kaAll (ts.take i) ++ (n.ka ++ kaAll (ts.drop i)))
      rw [sp] at h'
      rcases List.mem_cons.mp h' with e | h'
      · simp [e]
      · rcases List.mem_append.mp h' with h' | h' <;> simp [h']
    · rw [if_neg hk]
      show q ∈ k :: kaAll (putAll k0 i n ts)
      rcases List.mem_cons.mp h' with e | h'
      · simp [e]
      · simp [putAll_ka' ts q h']
theorem putAll_ka' {k0 : Addr} {i : Nat} {n : AT} : ∀ ts : List AT, ∀ q ∈ kaAll ts, q ∈ kaAll (putAll k0 i n ts)
  | [], q, h => h
  | t :: ts, q, h => by
    have h' : q ∈ t.ka ++ kaAll ts := h
    show q ∈ (putT k0 i n t).ka ++ kaAll (putAll k0 i n ts)
    rcases List.mem_append.mp h' with h' | h'
    · simp [put_ka' t q h']
    · simp [putAll_ka' ts q h']
end
mutual
theorem put_na {k0 : Addr} {i : Nat} {n : AT} : ∀ t : AT, ∀ q ∈ (putT k0 i n t).na, q ∈ t.na ∨ q ∈ n.na
  | .txt z, q, h => .inl h
  | .nod a k x ts, q, h => by
    unfold putT at h
    by_cases hk : k = k0
    · rw [if_pos hk] at h
      have h' : q ∈ a :: naAll (ts.take i ++ n :: ts.drop i) := h
      have sp : naAll ts = naAll (ts.take i) ++ naAll (ts.drop i) := by rw [← naAll_app, List.take_append_drop]
      rcases List.mem_cons.mp h' with e | h'
      · exact .inl (by rw [e]; show a ∈ a :: naAll ts; simp)
      · rw [naAll_app] at h'
        rcases List.mem_append.mp h' with h' | h'
        · exact .inl (by show q ∈ a :: naAll ts; rw [sp]; simp [h'])
        · have h2 : q ∈ n.na ++ naAll (ts.drop i) := h'
          rcases List.mem_append.mp h2 with h2 | h2
          · exact .inr h2
          · exact .inl (by show q ∈ a :: naAll ts; rw [sp]; simp [h2])
    · rw [if_neg hk] at h
      have h' : q ∈ a :: naAll (putAll k0 i n ts) := h
      rcases List.mem_cons.mp h' with e | h'
      · exact .inl (by rw [e]; show a ∈ a :: naAll ts; simp)
      · exact (putAll_na ts q h').imp (fun z => by show q ∈ a :: naAll ts; simp [z]) id
theorem putAll_na {k0 : Addr} {i : Nat} {n : AT} : ∀ ts : List AT, ∀ q ∈ naAll (putAll k0 i n ts), q ∈ naAll ts ∨ q ∈ n.na
  | [], q, h => .inl h
  | t :: ts, q, h => by
    have h' : q ∈ (putT k0 i n t).na ++ naAll (putAll k0 i n ts) := h
    rcases List.mem_append.mp h' with h' | h'
    · exact (put_na t q h').imp (fun z => by show q ∈ t.na ++ naAll ts; simp [z]) id
    · exact (putAll_na ts q h').imp (fun z => by show q ∈ t.na ++ naAll ts; simp [z]) id
end
mutual
theorem put_na' {k0 : Addr} {i : Nat} {n : AT} : ∀ t : AT, ∀ q ∈ t.na, q ∈ (putT k0 i n t).na
  | .txt z, q, h => h
  | .nod a k x ts, q, h => by
    have h' : q ∈ a :: naAll ts := h
    unfold putT
    by_cases hk : k = k0
    · rw [if_pos hk]
      show q ∈ a :: naAll (ts.take i ++ n :: ts.drop i)
      have sp : naAll ts = naAll (ts.take i) ++ naAll (ts.drop i) := by rw [← naAll_app, List.take_append_drop]
      rw [naAll_app]
      show q ∈ a :: (naAll (ts.take i) ++ (n.na ++ naAll (ts.drop i)))
      rw [sp] at h'
      rcases List.mem_cons.mp h' with e | h'
      · simp [e]
      · rcases List.mem_append.mp h' with h' | h' <;> simp [h']
    · rw [if_neg hk]
      show q ∈ a :: naAll (putAll k0 i n ts)
      rcases List.mem_cons.mp h' with e | h'
      · simp [e]
      · simp [putAll_na' ts q h']
theorem putAll_na' {k0 : Addr} {i : Nat} {n : AT} : ∀ ts : List AT, ∀ q ∈ naAll ts, q ∈ naAll (putAll k0 i n ts)
  | [], q, h => h
  | t :: ts, q, h => by
    have h' : q ∈ t.na ++ naAll ts := h
    show q ∈ (putT k0 i n t).na ++ naAll (putAll k0 i n ts)
    rcases List.mem_append.mp h' with h' | h'
    · simp [put_na' t q h']
    · simp [putAll_na' ts q h']
end
theorem nodup_app {l m : List Addr} (h1 : l.Nodup) (h2 : m.Nodup) (h : ∀ q ∈ l, q ∉ m) : (l ++ m).Nodup := List.nodup_append.mpr ⟨h1, h2, fun a ha b hb e => h a ha (e ▸ hb)⟩
mutual
theorem put_nd {k0 : Addr} {i : Nat} {n : AT} (hn : n.ka.Nodup) : ∀ t : AT, t.ka.Nodup → (∀ q ∈ n.ka, q ∉ t.ka) → (putT k0 i n t).ka.Nodup
  | .txt z, h, _ => h
  | .nod a k x ts, h, hd => by
    have h' : (k :: kaAll ts).Nodup := h
    have hd' : ∀ q ∈ n.ka, q ∉ k :: kaAll ts := hd
    obtain ⟨k1, k2⟩ := List.nodup_cons.mp h'
    unfold putT
    by_cases hk : k = k0
    · rw [if_pos hk]
      show (k :: kaAll (ts.take i ++ n :: ts.drop i)).Nodup
      have sp : kaAll ts = kaAll (ts.take i) ++ kaAll (ts.drop i) := by rw [← kaAll_app, List.take_append_drop]
      rw [kaAll_app]
      show (k :: (kaAll (ts.take i) ++ (n.ka ++ kaAll (ts.drop i)))).Nodup
      rw [sp] at k1 k2 hd'
      obtain ⟨d1, d2, d3⟩ := List.nodup_append.mp k2
      refine List.nodup_cons.mpr ⟨fun z => ?_, nodup_app d1 (nodup_app hn d2 fun q hq z => hd' q hq (by simp [z])) fun q hq z => ?_⟩
      · rcases List.mem_append.mp z with z | z
        · exact k1 (by simp [z])
        · rcases List.mem_append.mp z with z | z
          · exact hd' k z (by simp)
          · exact k1 (by simp [z])
      · rcases List.mem_append.mp z with z | z
        · exact hd' q z (by simp [hq])
        · exact d3 q hq q z rfl
    · rw [if_neg hk]
      show (k :: kaAll (putAll k0 i n ts)).Nodup
      refine List.nodup_cons.mpr ⟨fun z => ?_, putAll_nd hn ts k2 fun q hq z => hd' q hq (by simp [z])⟩
      rcases putAll_ka ts k z with z | z
      · exact k1 z
      · exact hd' k z (by simp)
theorem putAll_nd {k0 : Addr} {i : Nat} {n : AT} (hn : n.ka.Nodup) : ∀ ts : List AT, (kaAll ts).Nodup → (∀ q ∈ n.ka, q ∉ kaAll ts) → (kaAll (putAll k0 i n ts)).Nodup
  | [], h, _ => h
  | t :: ts, h, hd => by
    have h' : (t.ka ++ kaAll ts).Nodup := h
    have hd' : ∀ q ∈ n.ka, q ∉ t.ka ++ kaAll ts := hd
    obtain ⟨d1, d2, d3⟩ := List.nodup_append.mp h'
    show ((putT k0 i n t).ka ++ kaAll (putAll k0 i n ts)).Nodup
    by_cases hk : k0 ∈ t.ka
    · have out : k0 ∉ kaAll ts := fun z => d3 k0 hk k0 z rfl
      rw [putAll_out ts out]
      refine nodup_app (put_nd hn t d1 fun q hq z => hd' q hq (by simp [z])) d2 fun q hq z => ?_
      rcases put_ka t q hq with e | e
      · exact d3 q e q z rfl
      · exact hd' q e (by simp [z])
    · rw [put_out t hk]
      refine nodup_app d1 (putAll_nd hn ts d2 fun q hq z => hd' q hq (by simp [z])) fun q hq z => ?_
      rcases putAll_ka ts q z with e | e
      · exact d3 q hq q e rfl
      · exact hd' q e (by simp [hq])
end
mutual
/-- right names and texts -/
def AT.ok : AT → Prop
  | .txt z => textD (.str z) = true
  | .nod _ _ x ts => nameD (.str x) = true ∧ okAll ts
def okAll : List AT → Prop
  | [] => True
  | t :: ts => t.ok ∧ okAll ts
end
theorem okAll_app : ∀ ts us : List AT, okAll (ts ++ us) ↔ okAll ts ∧ okAll us
  | [], us => ⟨fun h => ⟨trivial, h⟩, fun h => h.2⟩
  | t :: ts, us => ⟨fun h => ⟨⟨h.1, ((okAll_app ts us).mp h.2).1⟩, ((okAll_app ts us).mp h.2).2⟩, fun h => ⟨h.1.1, (okAll_app ts us).mpr ⟨h.1.2, h.2⟩⟩⟩
mutual
theorem put_ok {k0 : Addr} {i : Nat} {n : AT} (hn : n.ok) : ∀ t : AT, t.ok → (putT k0 i n t).ok
  | .txt z, h => h
  | .nod a k x ts, h => by
    unfold putT
    split
    · refine ⟨h.1, (okAll_app _ _).mpr ?_⟩
      have h2 : okAll ts := h.2
      rw [← List.take_append_drop i ts] at h2
      obtain ⟨a1, a2⟩ := (okAll_app _ _).mp h2
      exact ⟨a1, hn, a2⟩
    · exact ⟨h.1, putAll_ok hn ts h.2⟩
theorem putAll_ok {k0 : Addr} {i : Nat} {n : AT} (hn : n.ok) : ∀ ts : List AT, okAll ts → okAll (putAll k0 i n ts)
  | [], _ => trivial
  | t :: ts, h => ⟨put_ok hn t h.1, putAll_ok hn ts h.2⟩
end
mutual
theorem ka_at {H : Hp} : ∀ t : AT, t.At H → ∀ k ∈ t.ka, ∃ vs, H k = some (.lst vs) ∧ vs.length ≤ t.cnt
  | .nod a k x ts, h, q, hq => by
    have h' : q ∈ k :: kaAll ts := hq
    rcases List.mem_cons.mp h' with e | h'
    · refine ⟨_, by rw [e]; exact h.2.1, ?_⟩
      rw [List.length_map]
      have := cnt_len ts
      show ts.length ≤ 1 + cntAll ts
      omega
    · obtain ⟨vs, e, l⟩ := kaAll_at ts h.2.2 q h'
      refine ⟨vs, e, ?_⟩
      show vs.length ≤ 1 + cntAll ts
      omega
  | .txt z, _, q, hq => by
    have h' : q ∈ ([] : List Addr) := hq
    simp at h'
theorem kaAll_at {H : Hp} : ∀ ts : List AT, atAll H ts → ∀ k ∈ kaAll ts, ∃ vs, H k = some (.lst vs) ∧ vs.length ≤ cntAll ts
  | [], _, q, hq => by
    have h' : q ∈ ([] : List Addr) := hq
    simp at h'
  | t :: ts, h, q, hq => by
    have h' : q ∈ t.ka ++ kaAll ts := hq
    rcases List.mem_append.mp h' with h' | h'
    · obtain ⟨vs, e, l⟩ := ka_at t h.1 q h'
      exact ⟨vs, e, by show vs.length ≤ t.cnt + cntAll ts; omega⟩
    · obtain ⟨vs, e, l⟩ := kaAll_at ts h.2 q h'
      exact ⟨vs, e, by show vs.length ≤ t.cnt + cntAll ts; omega⟩
end
mutual
theorem na_at {H : Hp} : ∀ t : AT, t.At H → ∀ a ∈ t.na, ∃ o, H a = some o
  | .nod a k x ts, h, q, hq => by
    have h' : q ∈ a :: naAll ts := hq
    rcases List.mem_cons.mp h' with e | h'
    · exact ⟨_, by rw [e]; exact h.1⟩
    · exact naAll_at ts h.2.2 q h'
  | .txt z, _, q, hq => by
    have h' : q ∈ ([] : List Addr) := hq
    simp at h'
theorem naAll_at {H : Hp} : ∀ ts : List AT, atAll H ts → ∀ a ∈ naAll ts, ∃ o, H a = some o
  | [], _, q, hq => by
    have h' : q ∈ ([] : List Addr) := hq
    simp at h'
  | t :: ts, h, q, hq => by
    have h' : q ∈ t.na ++ naAll ts := hq
    rcases List.mem_append.mp h' with h' | h'
    · exact na_at t h.1 q h'
    · exact naAll_at ts h.2 q h'
end
mutual
theorem nds_le : ∀ t : AT, t.nds ≤ t.cnt
  | .txt z => Nat.zero_le _
  | .nod a k x ts => by
    have := ndsAll_le ts
    show 1 + ndsAll ts ≤ 1 + cntAll ts
    omega
theorem ndsAll_le : ∀ ts : List AT, ndsAll ts ≤ cntAll ts
  | [] => Nat.le_refl _
  | t :: ts => by
    have := nds_le t
    have := ndsAll_le ts
    show t.nds + ndsAll ts ≤ t.cnt + cntAll ts
    omega
end
end K1

/-! the state of a document that is being made -/
namespace K1
open PySem L2 Xr
/-- the document t, with its nodes in the list Nd; H0: what stood before -/
structure GSt (H0 : Hp) (d c Nd : Addr) (H : Hp) (t : AT) (xs : List V) (m : Nat) : Prop where
  at_ : t.At H
  nd : t.ka.Nodup
  dis : ∀ q ∈ t.na, q ∉ t.ka
  ok : t.ok
  cnt : t.cnt ≤ m ∧ m ≤ 100
  pos : 0 < xs.length
  few : xs.length ≤ m
  ndn : Nd ≠ d ∧ Nd ≠ c ∧ H0 Nd = none
  out : ∀ q, q ∈ t.na ∨ q ∈ t.ka → H0 q = none ∧ q ≠ d ∧ q ≠ c ∧ q ≠ Nd
  ent : ∀ e ∈ xs, ∃ (p a : Addr) (dp : Int) (k : Addr) (x : Str), e = .ref p ∧ H p = some (.tup [.ref a, .int dp]) ∧ k ∈ t.ka ∧ a ∈ t.na ∧ H a = some (.lst [.str x, .ref k])
theorem AT.keep {H H' : Hp} {d c : Addr} (b : But d c H H') (t : AT) (h : t.At H) (n1 : ∀ q, q ∈ t.na ∨ q ∈ t.ka → q ≠ d) (n2 : ∀ q, q ∈ t.na ∨ q ∈ t.ka → q ≠ c) : t.At H' := by
  have e : ∀ q, q ∈ t.na ∨ q ∈ t.ka → (∃ o, H q = some o) → H' q = H q := fun q hq ⟨o, z⟩ => by rw [z]; exact b q o z (n1 q hq) (n2 q hq)
  refine AT.frame t (fun q hq => e q (.inl hq) (na_at t h q hq)) (fun q hq => e q (.inr hq) ?_) h
  obtain ⟨vs, z, _⟩ := ka_at t h q hq
  exact ⟨_, z⟩
section
variable {H0 H H' : Hp} {d c Nd : Addr} {t n : AT} {xs : List V} {m : Nat}
theorem GSt.keepN {ys : List V} (g : GSt H0 d c Nd H t xs m) (hN : H Nd = some (.lst ys)) (D : DealAt H d c) (b : ∀ q o, H q = some o → q ≠ d → q ≠ c → q ≠ Nd → H' q = some o) : GSt H0 d c Nd H' t xs m := by
  have e : ∀ q, q ∈ t.na ∨ q ∈ t.ka → (∃ o, H q = some o) → H' q = H q := fun q hq ⟨o, z⟩ => by
    have n := g.out q hq
    rw [z]
    exact b q o z n.2.1 n.2.2.1 n.2.2.2
  refine ⟨AT.frame t (fun q hq => e q (.inl hq) (na_at t g.at_ q hq)) (fun q hq => e q (.inr hq) ?_) g.at_, g.nd, g.dis, g.ok, g.cnt, g.pos, g.few, g.ndn, g.out, fun e he => ?_⟩
  · obtain ⟨vs, z, _⟩ := ka_at t g.at_ q hq
    exact ⟨_, z⟩
  obtain ⟨p, a, dp, k, x, e1, e2, e3, e4, e5⟩ := g.ent e he
  have pd : p ≠ d ∧ p ≠ c ∧ p ≠ Nd := by
    obtain ⟨cs, bb, h1, h2, _⟩ := D.ex
    refine ⟨fun z => ?_, fun z => ?_, fun z => ?_⟩
    · rw [z, h1] at e2
      cases e2
    · rw [z, h2] at e2
      cases e2
    · rw [z, hN] at e2
      cases e2
  have n := g.out a (.inl e4)
  exact ⟨p, a, dp, k, x, e1, b _ _ e2 pd.1 pd.2.1 pd.2.2, e3, e4, b _ _ e5 n.2.1 n.2.2.1 n.2.2.2⟩
theorem GSt.keep {ys : List V} (g : GSt H0 d c Nd H t xs m) (b : But d c H H') (D : DealAt H d c) (hN : H Nd = some (.lst ys)) : GSt H0 d c Nd H' t xs m := g.keepN hN D fun q o e n1 n2 _ => b q o e n1 n2
/-- an entry more -/
theorem GSt.add {p a k : Addr} {dp : Int} {x : Str} (g : GSt H0 d c Nd H t xs m) (hp : H p = some (.tup [.ref a, .int dp])) (hk : k ∈ t.ka) (ha : a ∈ t.na) (h : H a = some (.lst [.str x, .ref k])) (hl : xs.length + 1 ≤ m) : GSt H0 d c Nd H t (xs ++ [.ref p]) m :=
  ⟨g.at_, g.nd, g.dis, g.ok, g.cnt, by rw [List.length_append]; have := g.pos; omega, by rw [List.length_append]; exact hl, g.ndn, g.out, fun e he => by
    rcases List.mem_append.mp he with he | he
    · exact g.ent e he
    · rw [List.mem_singleton] at he
      exact ⟨p, a, dp, k, x, he, hp, hk, ha, h⟩⟩
theorem GSt.put {k : Addr} {i : Nat} {vs : List V} (g : GSt H0 d c Nd H t xs m) (hk : k ∈ t.ka) (hv : H k = some (.lst vs)) (hn : n.At H) (hok : n.ok) (hnd : n.ka.Nodup) (hds : ∀ q ∈ n.na, q ∉ n.ka)
    (hout : ∀ q, q ∈ n.na ∨ q ∈ n.ka → H0 q = none ∧ q ≠ d ∧ q ≠ c ∧ q ≠ Nd ∧ q ∉ t.na ∧ q ∉ t.ka) (hm : t.cnt + n.cnt ≤ m) :
    GSt H0 d c Nd (upd H k (.lst (vs.take i ++ n.val :: vs.drop i))) (putT k i n t) xs m := by
  have k1 : k ∉ n.na := fun z => (hout k (.inl z)).2.2.2.2.2 hk
  have k2 : k ∉ n.ka := fun z => (hout k (.inr z)).2.2.2.2.2 hk
  have k3 : k ∉ t.na := fun z => g.dis k z hk
  have kN : k ≠ Nd := (g.out k (.inr hk)).2.2.2
  refine ⟨put_at hv hn k1 k2 t g.at_ k3 g.nd, put_nd hnd t g.nd fun q hq => (hout q (.inr hq)).2.2.2.2.2, fun q hq z => ?_, put_ok hok t g.ok, ⟨?_, g.cnt.2⟩, g.pos, g.few, g.ndn, fun q hq => ?_, fun e he => ?_⟩
  · rcases put_na t q hq with h | h
    · rcases put_ka t q z with z | z
      · exact g.dis q h z
      · exact (hout q (.inr z)).2.2.2.2.1 h
    · rcases put_ka t q z with z | z
      · exact (hout q (.inl h)).2.2.2.2.2 z
      · exact hds q h z
  · have := put_cnt (k0 := k) (i := i) (n := n) t g.nd
    omega
  · rcases hq with hq | hq
    · rcases put_na t q hq with h | h
      · exact g.out q (.inl h)
      · have := hout q (.inl h)
        exact ⟨this.1, this.2.1, this.2.2.1, this.2.2.2.1⟩
    · rcases put_ka t q hq with h | h
      · exact g.out q (.inr h)
      · have := hout q (.inr h)
        exact ⟨this.1, this.2.1, this.2.2.1, this.2.2.2.1⟩
  · obtain ⟨p, a, dp, k', x, e1, e2, e3, e4, e5⟩ := g.ent e he
    have pk : p ≠ k := fun z => by
      rw [z, hv] at e2
      cases e2
    have ak : a ≠ k := fun z => k3 (by rw [← z]; exact e4)
    have a' : a ∈ (putT k i n t).na := put_na' t a e4
    exact ⟨p, a, dp, k', x, e1, by rw [upd_ne pk]; exact e2, put_ka' t k' e3, a', by rw [upd_ne ak]; exact e5⟩
end
end K1
namespace K1
open PySem L2
theorem GSt.mono {H0 H : Hp} {d c Nd : Addr} {t : AT} {xs : List V} {m m' : Nat} (g : GSt H0 d c Nd H t xs m) (h : m ≤ m') (l : m' ≤ 100) : GSt H0 d c Nd H t xs m' :=
  ⟨g.at_, g.nd, g.dis, g.ok, ⟨Nat.le_trans g.cnt.1 h, l⟩, g.pos, Nat.le_trans g.few h, g.ndn, g.out, g.ent⟩
end K1
namespace K1
open PySem L2
mutual
theorem put_in {k0 : Addr} {i : Nat} {n : AT} : ∀ t : AT, k0 ∈ t.ka → (∀ q ∈ n.ka, q ∈ (putT k0 i n t).ka) ∧ ∀ q ∈ n.na, q ∈ (putT k0 i n t).na
  | .txt z, h => by
    have h' : k0 ∈ ([] : List Addr) := h
    simp at h'
  | .nod a k x ts, h => by
    have h' : k0 ∈ k :: kaAll ts := h
    unfold putT
    by_cases hk : k = k0
    · rw [if_pos hk]
      refine ⟨fun q hq => ?_, fun q hq => ?_⟩
      · show q ∈ k :: kaAll (ts.take i ++ n :: ts.drop i)
        rw [kaAll_app]
        show q ∈ k :: (kaAll (ts.take i) ++ (n.ka ++ kaAll (ts.drop i)))
        simp [hq]
      · show q ∈ a :: naAll (ts.take i ++ n :: ts.drop i)
        rw [naAll_app]
        show q ∈ a :: (naAll (ts.take i) ++ (n.na ++ naAll (ts.drop i)))
        simp [hq]
    · rw [if_neg hk]
      have h2 : k0 ∈ kaAll ts := (List.mem_cons.mp h').resolve_left (fun e => hk e.symm)
      obtain ⟨a1, a2⟩ := putAll_in (i := i) (n := n) ts h2
      refine ⟨fun q hq => ?_, fun q hq => ?_⟩
      · show q ∈ k :: kaAll (putAll k0 i n ts)
        simp [a1 q hq]
      · show q ∈ a :: naAll (putAll k0 i n ts)
        simp [a2 q hq]
theorem putAll_in {k0 : Addr} {i : Nat} {n : AT} : ∀ ts : List AT, k0 ∈ kaAll ts → (∀ q ∈ n.ka, q ∈ kaAll (putAll k0 i n ts)) ∧ ∀ q ∈ n.na, q ∈ naAll (putAll k0 i n ts)
  | [], h => by
    have h' : k0 ∈ ([] : List Addr) := h
    simp at h'
  | t :: ts, h => by
    have h' : k0 ∈ t.ka ++ kaAll ts := h
    show (∀ q ∈ n.ka, q ∈ (putT k0 i n t).ka ++ kaAll (putAll k0 i n ts)) ∧ ∀ q ∈ n.na, q ∈ (putT k0 i n t).na ++ naAll (putAll k0 i n ts)
    rcases List.mem_append.mp h' with h' | h'
    · obtain ⟨a1, a2⟩ := put_in (i := i) (n := n) t h'
      exact ⟨fun q hq => by simp [a1 q hq], fun q hq => by simp [a2 q hq]⟩
    · obtain ⟨a1, a2⟩ := putAll_in (i := i) (n := n) ts h'
      exact ⟨fun q hq => by simp [a1 q hq], fun q hq => by simp [a2 q hq]⟩
end
end K1

/-! grown -/
namespace K1
open PySem L2 Xr
abbrev sGrown : Stmt := top 29
theorem scGrown : FnScope ["deal", "names", "many", "deep", "top", "nodes", "turn", "node", "depth", "new"] ["deal", "names", "many", "deep"] (defScope sGrown) := ⟨rfl, rfl, rfl, by decide +kernel, rfl, by decide +kernel, by decide +kernel⟩
def spGrown (K : PySem.W.Frag) (n : Nat) : Sp := fun vs H Q _ => ∃ (d c nm : Addr) (ns : List Str) (many : Nat) (deep : Int), vs = [.ref d, .ref nm, .int (many : Int), .int deep] ∧ DealAt H d c ∧ H nm = some (.lst (ns.map V.str)) ∧ nm ≠ d ∧ nm ≠ c ∧
  (∀ x ∈ ns, nameD (.str x) = true) ∧ 0 < ns.length ∧ ns.length < 1000 ∧ 1 ≤ many ∧ many ≤ 90 ∧ many ≤ n ∧ ∀ (v : V) (a k : Addr) (x : Str) (ts : List AT) (H' : Hp), (AT.nod a k x ts).ok → (AT.nod a k x ts).cnt ≤ many → Dm K (Trk H) H' v (AT.nod a k x ts).doc.dat → DealAt H' d c → But d c H H' → Q v H'
structure GrownTxt (K : PySem.W.Frag) (mg : Str → Option Value) (a_law_any a_law_of a_law_text a_law_frozen : Addr) : Prop where
  n_range : mg "range" = none
  n_len : mg "len" = none
  n_list : mg "list" = none
  n_isinstance : mg "isinstance" = none
  g_law_of : mg "_law_of" = some (.ref a_law_of)
  k_law_of : PySem.W.keepIn K (.ref a_law_of) = true
  g_law_any : mg "_law_any" = some (.ref a_law_any)
  k_law_any : PySem.W.keepIn K (.ref a_law_any) = true
  g_law_text : mg "_law_text" = some (.ref a_law_text)
  k_law_text : PySem.W.keepIn K (.ref a_law_text) = true
  g_law_frozen : mg "_law_frozen" = some (.ref a_law_frozen)
  k_law_frozen : PySem.W.keepIn K (.ref a_law_frozen) = true
section
variable {P : Program} {w : World} {K : PySem.W.Frag} {mg : Str → Option Value} {base : Heap} {a_law_any a_law_of a_law_text a_law_frozen : Addr} {fdA fdO fdT fdF : FuncData}
theorem ok_grown {f : Addr} {fd : FuncData} {n : Nat} (F : Fun K "_law_grown" "_law_grown" sGrown f fd) (T : GrownTxt K mg a_law_any a_law_of a_law_text a_law_frozen)
    (G_law_any : FnOk P w K mg base CX0 1 a_law_any fdA ["deal", "bound"] spAny) (b_law_any : Binds K fdA ["deal", "bound"] [])
    (G_law_of : FnOk P w K mg base CX0 2 a_law_of fdO ["deal", "some"] spOf) (b_law_of : Binds K fdO ["deal", "some"] [])
    (G_law_text : FnOk P w K mg base CX0 3 a_law_text fdT ["deal"] spLText) (b_law_text : Binds K fdT ["deal"] [])
    (G_law_frozen : FnOk P w K mg base CX0 (1 + n) a_law_frozen fdF ["thing"] (spFrozen K n)) (b_law_frozen : Binds K fdF ["thing"] []) : FnOk P w K mg base CX0 (4 + n) f fd ["deal", "names", "many", "deep"] (spGrown K n) := by
  have e4 : 4 + n = (3 + n) + 1 := by omega
  rw [e4]
  refine F.ok scGrown (fun vs H Q E h => ?_) (fun cdv A outer s H vs Q E hr h => ?_)
  · obtain ⟨d, c, nm, ns, many, deep, rfl, _⟩ := h
    rfl
  · obtain ⟨d, c, nm, ns, many, deep, rfl, D, hnm, nm1, nm2, nok, nl0, nl1, m1, m2, m3, k⟩ := h
    have hr1 : Room 1 _ := hr.mono (by omega)
    have hr2 : Room 2 _ := hr.mono (by omega)
    have hr3 : Room 3 _ := hr.mono (by omega)
    have hrf : Room (1 + n) _ := hr.mono (by omega)
    refine ⟨_, (pss_cons (ps_set (i := 4) scGrown.nd rfl (Or.inl rfl) (pe_lst (pa_cons (pe_call G_law_of hr2 rfl T.g_law_of T.k_law_of b_law_of .nil pass0 (pa_cons (pv 0) (pa_cons (pv 1) pa_nil))) (pa_cons (pe_lst pa_nil) pa_nil))))
      (pss_cons (ps_set (i := 5) scGrown.nd rfl (Or.inl rfl) (pe_lst (pa_cons (pe_tup (pa_cons (pv 4) (pa_cons pe_int pa_nil))) pa_nil)))
      (pss_cons (ps_for PassesOwn.never rfl (pi_range1 (by rfl) T.n_range (pa_cons (pe_op op_sub (pv 2) pe_int) pa_nil)) (pg_name (i := 6) scGrown.nd rfl (Or.inl rfl))
      (pss_cons (ps_asg (pe_ix ix_list (pv 5) (pe_call G_law_of hr2 rfl T.g_law_of T.k_law_of b_law_of .nil pass0 (pa_cons (pv 0) (pa_cons (pe_lst (pa_cons (pe_op op_sub (pe_callB call_len_seq (by rfl) T.n_len PySem.boot_len (pa_cons (pv 5) pa_nil)) pe_int) (pa_cons (pe_call G_law_any hr1 rfl T.g_law_any T.k_law_any b_law_any .nil pass0 (pa_cons (pv 0) (pa_cons (pe_callB call_len_seq (by rfl) T.n_len PySem.boot_len (pa_cons (pv 5) pa_nil)) pa_nil))) pa_nil))) pa_nil))) (fun _ _ => rfl)) (pg_tup (by rfl) (pgs_cons (pg_name (i := 7) scGrown.nd rfl (Or.inl rfl)) (pgs_cons (pg_name (i := 8) scGrown.nd rfl (Or.inl rfl)) pgs_nil))))
      (pss_cons (ps_set (i := 9) scGrown.nd rfl (Or.inl rfl) (pe_ifExp (PW.pt (pw_and (pt_cmpR op_lt (pv 8) (pv 3) (nomark _)) (pw_and1 (pt_cmpR op_gt (pe_call G_law_any hr1 rfl T.g_law_any T.k_law_any b_law_any .nil pass0 (pa_cons (pv 0) (pa_cons pe_int pa_nil))) pe_int (nomark _))))) (pe_lst (pa_cons (pe_call G_law_of hr2 rfl T.g_law_of T.k_law_of b_law_of .nil pass0 (pa_cons (pv 0) (pa_cons (pv 1) pa_nil))) (pa_cons (pe_lst pa_nil) pa_nil))) (pe_call G_law_text hr3 rfl T.g_law_text T.k_law_text b_law_text .nil pass0 (pa_cons (pv 0) pa_nil))))
      (pss_cons (ps_if (pt_val (pe_callB call_isi (by rfl) T.n_isinstance (by decide +kernel) (pa_cons (pv 9) (pa_cons (pe_bltn (v := V.ty "list") (u := .type "list") (by rfl) T.n_list (by decide +kernel) (by rfl)) pa_nil))))
      (pss_one (ps_expr (pe_bm PySem.F.plainAttrs_list PySem.F.slot_list_append PySem.F.type_list_append mt_append (pv 5) (pa_cons (pe_tup (pa_cons (pv 9) (pa_cons (pe_op op_add (pv 8) pe_int) pa_nil))) pa_nil))))
      pss_nil)
      (pss_one (ps_expr (pe_bm PySem.F.plainAttrs_list PySem.F.slot_list_insert PySem.F.type_list_insert mt_insert (pe_ix ix_list (pv 7) pe_int (fun _ _ => rfl)) (pa_cons (pe_call G_law_any hr1 rfl T.g_law_any T.k_law_any b_law_any .nil pass0 (pa_cons (pv 0) (pa_cons (pe_op op_add (pe_callB call_len_seq (by rfl) T.n_len PySem.boot_len (pa_cons (pe_ix ix_list (pv 7) pe_int (fun _ _ => rfl)) pa_nil)) pe_int) pa_nil))) (pa_cons (pv 9) pa_nil)))))))))
      (pss_one (ps_ret (pe_call G_law_frozen hrf rfl T.g_law_frozen T.k_law_frozen b_law_frozen .nil pass0 (pa_cons (pv 4) pa_nil))))))), ?_⟩
    -- the top
    refine ⟨_, rfl, _, rfl, d, c, D, .inl ⟨nm, _, rfl, hnm, nm1, nm2, by rw [List.length_map]; exact nl0, by rw [List.length_map]; omega, fun y H1 hy D1 b1 => ⟨Nat.zero_le _, fun k0 hk0 => ⟨(by show 2 ≤ sizeLine; decide), fun top htop => ?_⟩⟩⟩⟩
    obtain ⟨x0, hx0, rfl⟩ := List.mem_map.mp hy
    have kt : k0 ≠ top := ne_of_none upd_same htop
    refine ⟨_, rfl, (by show 2 ≤ sizeLine; decide), fun p hp => ⟨(by show 1 ≤ sizeLine; decide), fun Nd hNd => ?_⟩⟩
    have tp : top ≠ p := ne_of_none upd_same hp
    have kp : k0 ≠ p := ne_of_none (by rw [upd_ne kt, upd_same]) hp
    have pN : p ≠ Nd := ne_of_none upd_same hNd
    have tN : top ≠ Nd := ne_of_none (by rw [upd_ne tp, upd_same]) hNd
    have kN : k0 ≠ Nd := ne_of_none (by rw [upd_ne kp, upd_ne kt, upd_same]) hNd
    have f1 : H1 top = none := by
      have z := htop
      rw [upd_ne (Ne.symm kt)] at z
      exact z
    have f2 : H1 p = none := by
      have z := hp
      rw [upd_ne (Ne.symm tp), upd_ne (Ne.symm kp)] at z
      exact z
    have f3 : H1 Nd = none := by
      have z := hNd
      rw [upd_ne (Ne.symm pN), upd_ne (Ne.symm tN), upd_ne (Ne.symm kN)] at z
      exact z
    have D5 := (((D1.new (o := .lst []) hk0).new (o := .lst [.str x0, .ref k0]) htop).new (o := .tup [.ref top, .int 1]) hp).new (o := .lst [.ref p]) hNd
    have b05 : But d c H (upd (upd (upd (upd H1 k0 (.lst [])) top (.lst [.str x0, .ref k0])) p (.tup [.ref top, .int 1])) Nd (.lst [.ref p])) := (((b1.cell0 (b1.none hk0 D1)).cell0 (b1.none f1 D1)).cell0 (b1.none f2 D1)).cell0 (b1.none f3 D1)
    have e1 : (upd (upd (upd (upd H1 k0 (.lst [])) top (.lst [.str x0, .ref k0])) p (.tup [.ref top, .int 1])) Nd (.lst [.ref p])) k0 = some (.lst []) := by rw [upd_ne kN, upd_ne kp, upd_ne kt, upd_same]
    have e2 : (upd (upd (upd (upd H1 k0 (.lst [])) top (.lst [.str x0, .ref k0])) p (.tup [.ref top, .int 1])) Nd (.lst [.ref p])) top = some (.lst [.str x0, .ref k0]) := by rw [upd_ne tN, upd_ne tp, upd_same]
    have e3 : (upd (upd (upd (upd H1 k0 (.lst [])) top (.lst [.str x0, .ref k0])) p (.tup [.ref top, .int 1])) Nd (.lst [.ref p])) p = some (.tup [.ref top, .int 1]) := by rw [upd_ne pN, upd_same]
    have e4 : (upd (upd (upd (upd H1 k0 (.lst [])) top (.lst [.str x0, .ref k0])) p (.tup [.ref top, .int 1])) Nd (.lst [.ref p])) Nd = some (.lst [.ref p]) := upd_same
    generalize upd (upd (upd (upd H1 k0 (.lst [])) top (.lst [.str x0, .ref k0])) p (.tup [.ref top, .int 1])) Nd (.lst [.ref p]) = H5 at D5 b05 e1 e2 e3 e4 ⊢
    have nN := D1.ne f3
    have g0 : GSt H d c Nd H5 (.nod top k0 x0 []) [.ref p] 1 := by
      refine ⟨⟨e2, e1, trivial⟩, by show [k0].Nodup; simp, fun q hq z => ?_, ⟨nok x0 hx0, trivial⟩, ⟨Nat.le_refl _, by decide⟩, Nat.one_pos, Nat.le_refl _, ⟨nN.1, nN.2, b1.none f3 D1⟩, fun q hq => ?_, fun e he => ?_⟩
      · have h1 : q ∈ [top] := hq
        have h2 : q ∈ [k0] := z
        rw [List.mem_singleton] at h1 h2
        exact kt (h2.symm.trans h1)
      · rcases hq with hq | hq
        · have h1 : q ∈ [top] := hq
          rw [List.mem_singleton] at h1
          rw [h1]
          exact ⟨b1.none f1 D1, (D1.ne f1).1, (D1.ne f1).2, tN⟩
        · have h1 : q ∈ [k0] := hq
          rw [List.mem_singleton] at h1
          rw [h1]
          exact ⟨b1.none hk0 D1, (D1.ne hk0).1, (D1.ne hk0).2, kN⟩
      · rw [List.mem_singleton] at he
        exact ⟨p, top, 1, k0, x0, he, e3, by show k0 ∈ [k0]; simp, by show top ∈ [top]; simp, e2⟩
    refine ⟨_, rfl, _, _, rfl, rfl, _, rfl, by omega, by omega, ?_⟩
    refine for_range (lo := 0) (n := ((many : Int) - 1).toNat) (fun i σ H4 => ∃ (t : AT) (xs : List V) (x6 x7 x8 x9 : Option V), σ = [some (.ref d), some (.ref nm), some (.int (many : Int)), some (.int deep), some (.ref top), some (.ref Nd), x6, x7, x8, x9] ∧ t.val = .ref top ∧ GSt H d c Nd H4 t xs (1 + i) ∧ H4 Nd = some (.lst xs) ∧ DealAt H4 d c ∧ But d c H H4)
      ⟨_, _, none, none, none, none, rfl, rfl, g0, e4, D5, b05⟩ ?_ ?_
    · rintro i σ H2 hi ⟨t, xs, x6, x7, x8, x9, rfl, tv, g, hN2, D2, b02⟩
      have fw := g.few
      have ps := g.pos
      refine ⟨_, rfl, _, rfl, _, rfl, _, xs, rfl, .inl (SqL.of hN2), _, _, rfl, rfl, ?_⟩
      refine ⟨_, rfl, _, rfl, _, xs, rfl, .inl (SqL.of hN2), d, c, (xs.length : Int), rfl, D2, by omega, by omega, fun r H3 r0 r1 D3 b3 => ⟨(by show 2 ≤ sizeLine; decide), fun l hl => ?_⟩⟩
      have g3 := g.keep b3 D2 hN2
      have hN3 : H3 Nd = some (.lst xs) := b3 Nd _ hN2 g.ndn.1 g.ndn.2.1
      have hN3l : (upd H3 l (.lst [.int ((xs.length : Int) - 1), .int r])) Nd = some (.lst xs) := by rw [upd_ne (ne_of_none hN3 hl)]; exact hN3
      have ln := D3.ne hl
      have g3l : GSt H d c Nd (upd H3 l (.lst [.int ((xs.length : Int) - 1), .int r])) t xs (1 + i) := g3.keep (fun q o e _ _ => by rw [upd_ne (ne_of_none e hl)]; exact e) D3 hN3
      refine ⟨d, c, D3.new hl, .inl ⟨l, _, rfl, upd_same, ln.1, ln.2, (by show 0 < 2; decide), (by show 2 < 1000000; decide), fun v H4 hv D4 b4 => ?_⟩⟩
      have g4 := g3l.keep b4 (D3.new hl) hN3l
      have hN4 : H4 Nd = some (.lst xs) := b4 Nd _ hN3l g.ndn.1 g.ndn.2.1
      have b04 : But d c H H4 := fun q o e n1 n2 => by
        have z := b3 q o (b02 q o e n1 n2) n1 n2
        exact b4 q o (by rw [upd_ne (ne_of_none z hl)]; exact z) n1 n2
      obtain ⟨j, hj, rfl⟩ : ∃ j : Nat, j < xs.length ∧ v = .int (j : Int) := by
        simp only [List.mem_cons, List.not_mem_nil, or_false] at hv
        rcases hv with rfl | rfl
        · exact ⟨xs.length - 1, by omega, by congr 1; omega⟩
        · obtain ⟨jj, rfl⟩ := Int.eq_ofNat_of_zero_le r0
          exact ⟨jj, by omega, rfl⟩
      have hxj : xs[j]? = some xs[j] := List.getElem?_eq_getElem hj
      obtain ⟨pp, a1, dp, k1, x1, ee, hpp, hk1, ha1, ha4⟩ := g4.ent xs[j] (List.getElem_mem hj)
      rw [ee] at hxj
      refine ⟨_, _, _, _, rfl, rfl, SqL.of hN4, atI_nat hxj, pp, _, rfl, SqT.of hpp, rfl, _, _, rfl, _, _, rfl, rfl, ?_⟩
      have i99 : 1 + i + 1 ≤ 100 := by omega
      -- the new thing
      refine ⟨_, rfl, _, rfl, _, _, rfl, rfl, _, rfl, ?_⟩
      refine ite2 (fun _ => ?_) (fun _ => ?_)
      · refine ⟨_, rfl, d, c, 3, rfl, D4, by decide, by decide, fun r4 H4' _ _ D4' b4' => ?_⟩
        replace g4 := g4.keep b4' D4 hN4
        replace hN4 : H4' Nd = some (.lst xs) := b4' Nd _ hN4 g4.ndn.1 g4.ndn.2.1
        replace ha4 : H4' a1 = some (.lst [.str x1, .ref k1]) := b4' a1 _ ha4 (g4.out a1 (.inl ha1)).2.1 (g4.out a1 (.inl ha1)).2.2.1
        replace b04 := b04.trans b4'
        clear D4 hpp b4'
        rename DealAt H4' d c => D4
        refine ⟨_, _, rfl, rfl, _, rfl, ?_⟩
        refine ite2 (fun _ => ?_) (fun _ => ?_)
        · refine ⟨_, rfl, _, rfl, d, c, D4, .inl ⟨nm, _, rfl, b04 nm _ hnm nm1 nm2, nm1, nm2, by rw [List.length_map]; omega, by rw [List.length_map]; omega, fun y2 H4b hy2 D4b b4b => ⟨Nat.zero_le _, fun kn hkn => ⟨(by show 2 ≤ sizeLine; decide), fun an han => ?_⟩⟩⟩⟩
          obtain ⟨x2, hx2, rfl⟩ := List.mem_map.mp hy2
          have akn : kn ≠ an := ne_of_none upd_same han
          have g4b := g4.keep b4b D4 hN4
          have hN4b : H4b Nd = some (.lst xs) := b4b Nd _ hN4 g4.ndn.1 g4.ndn.2.1
          have bb : But d c H4b (upd (upd H4b kn (.lst [])) an (.lst [.str x2, .ref kn])) := fun q o e _ _ => by
            have z1 := ne_of_none e hkn
            rw [upd_ne (ne_of_none (by rw [upd_ne z1]; exact e) han), upd_ne z1]
            exact e
          have D5 := (D4b.new (o := .lst []) hkn).new (o := .lst [.str x2, .ref kn]) han
          have hN5a := bb Nd _ hN4b g4.ndn.1 g4.ndn.2.1
          have g5a := (g4b.keep bb D4b hN4b).mono (Nat.le_succ _) (by omega)
          have b05a := (b04.trans b4b).trans bb
          have hk5a : (upd (upd H4b kn (.lst [])) an (.lst [.str x2, .ref kn])) kn = some (.lst []) := by rw [upd_ne akn, upd_same]
          have hn5a : (upd (upd H4b kn (.lst [])) an (.lst [.str x2, .ref kn])) an = some (.lst [.str x2, .ref kn]) := upd_same
          have ha4b : H4b a1 = some (.lst [.str x1, .ref k1]) := b4b a1 _ ha4 (g4.out a1 (.inl ha1)).2.1 (g4.out a1 (.inl ha1)).2.2.1
          have ha5a := bb a1 _ ha4b (g4.out a1 (.inl ha1)).2.1 (g4.out a1 (.inl ha1)).2.2.1
          have fresh : ∀ q, q = kn ∨ q = an → H4b q = none := fun q h => by
            rcases h with h | h
            · rw [h]
              exact hkn
            · rw [h]
              have z := han
              rw [upd_ne (Ne.symm akn)] at z
              exact z
          have fo : ∀ q, q = kn ∨ q = an → H q = none ∧ q ≠ d ∧ q ≠ c ∧ q ≠ Nd ∧ q ∉ t.na ∧ q ∉ t.ka := fun q h => by
            have f := fresh q h
            refine ⟨(b04.trans b4b).none f D4b, (D4b.ne f).1, (D4b.ne f).2, fun e => ?_, fun m => ?_, fun m => ?_⟩
            · rw [e, hN4b] at f
              cases f
            · obtain ⟨o, z⟩ := na_at t g4b.at_ q m
              rw [f] at z
              cases z
            · obtain ⟨o, z, _⟩ := ka_at t g4b.at_ q m
              rw [f] at z
              cases z
          generalize upd (upd H4b kn (.lst [])) an (.lst [.str x2, .ref kn]) = H5a at D5 g5a b05a hk5a hn5a ha5a hN5a ⊢
          refine ⟨_, rfl, _, _, _, _, true, rfl, .ty "list", .base (.lst hn5a), kit_ty (by decide +kernel), _, rfl, iteT ?_⟩
          refine ⟨_, rfl, .inl ⟨rfl, _, SqL.of hN5a⟩, _, rfl, _, rfl, _, _, rfl, rfl, (by show 2 ≤ sizeLine; decide), fun pn hpn => ?_⟩
          have pnN : Nd ≠ pn := ne_of_none hN5a hpn
          refine ⟨_, _, _, rfl, rfl, (by rw [upd_ne pnN]; exact hN5a), small1000 (by omega), ?_⟩
          have anN := (fo an (.inr rfl)).2.2.2.1
          have knN := (fo kn (.inl rfl)).2.2.2.1
          have anp : an ≠ pn := ne_of_none hn5a hpn
          have knp : kn ≠ pn := ne_of_none hk5a hpn
          have k1n := (g4.out k1 (.inr hk1))
          have a1n := (g4.out a1 (.inl ha1))
          have old : ∀ q o, H5a q = some o → q ≠ d → q ≠ c → q ≠ Nd → (upd (upd H5a pn (.tup [.ref an, .int (dp + 1)])) Nd (.lst (xs ++ [.ref pn]))) q = some o := fun q o e _ _ n3 => by
            rw [upd_ne n3, upd_ne (ne_of_none e hpn)]
            exact e
          have g5 := g5a.keepN hN5a D5 old
          have D5' := (D5.new (o := .tup [.ref an, .int (dp + 1)]) hpn).upd (o := .lst (xs ++ [.ref pn])) g4.ndn.1 g4.ndn.2.1
          have b05 : But d c H (upd (upd H5a pn (.tup [.ref an, .int (dp + 1)])) Nd (.lst (xs ++ [.ref pn]))) := (b05a.cell0 (b05a.none hpn D5)).cell0 g4.ndn.2.2
          have hN5 : (upd (upd H5a pn (.tup [.ref an, .int (dp + 1)])) Nd (.lst (xs ++ [.ref pn]))) Nd = some (.lst (xs ++ [.ref pn])) := upd_same
          have hp5 : (upd (upd H5a pn (.tup [.ref an, .int (dp + 1)])) Nd (.lst (xs ++ [.ref pn]))) pn = some (.tup [.ref an, .int (dp + 1)]) := by rw [upd_ne (Ne.symm pnN), upd_same]
          have hn5x : (upd (upd H5a pn (.tup [.ref an, .int (dp + 1)])) Nd (.lst (xs ++ [.ref pn]))) an = some (.lst [.str x2, .ref kn]) := by rw [upd_ne anN, upd_ne anp]; exact hn5a
          have hk5x : (upd (upd H5a pn (.tup [.ref an, .int (dp + 1)])) Nd (.lst (xs ++ [.ref pn]))) kn = some (.lst []) := by rw [upd_ne knN, upd_ne knp]; exact hk5a
          have ha5 := old a1 _ ha5a a1n.2.1 a1n.2.2.1 a1n.2.2.2
          have pnd := D5.ne hpn
          generalize upd (upd H5a pn (.tup [.ref an, .int (dp + 1)])) Nd (.lst (xs ++ [.ref pn])) = H5 at g5 D5' b05 hN5 hp5 hn5x hk5x ha5 ⊢
          clear D5
          rename DealAt H5 d c => D5
          let nn : AT := .nod an kn x2 []
          have hn5 : nn.At H5 := ⟨hn5x, hk5x, trivial⟩
          have hout : ∀ q, q ∈ nn.na ∨ q ∈ nn.ka → H q = none ∧ q ≠ d ∧ q ≠ c ∧ q ≠ Nd ∧ q ∉ t.na ∧ q ∉ t.ka := fun q h => by
            have h' : q ∈ [an] ∨ q ∈ [kn] := h
            simp only [List.mem_singleton] at h'
            exact fo q h'.symm
          have hno : nn.ok := ⟨nok x2 hx2, trivial⟩
          have hnd : nn.ka.Nodup := by
            show [kn].Nodup
            simp
          have hnds : ∀ q ∈ nn.na, q ∉ nn.ka := fun q h z => by
            have h1 : q ∈ [an] := h
            have h2 : q ∈ [kn] := z
            rw [List.mem_singleton] at h1 h2
            exact akn (h2.symm.trans h1)
          have hcn : t.cnt + nn.cnt ≤ 1 + i + 1 := Nat.add_le_add_right g4.cnt.1 1
          have ank1 : an ≠ k1 := fun e => (fo an (.inr rfl)).2.2.2.2.2 (by rw [e]; exact hk1)
          have pk1 : pn ≠ k1 := fun e => by
            obtain ⟨vs, z, _⟩ := ka_at t g5.at_ k1 hk1
            rw [← e, hp5] at z
            cases z

          -- put in
          obtain ⟨vs, hk5, lv⟩ := ka_at t g5.at_ k1 hk1
          have cm := g5.cnt
          refine ⟨_, rfl, _, _, _, _, rfl, rfl, SqL.of ha5, atI_nat (j := 1) rfl, .inl ⟨rfl, _, SqL.of hk5⟩, ?_⟩
          refine ⟨_, rfl, _, rfl, _, _, _, _, rfl, rfl, SqL.of ha5, atI_nat (j := 1) rfl, _, vs, rfl, .inl (SqL.of hk5), _, _, rfl, rfl, ?_⟩
          refine ⟨d, c, (vs.length : Int) + 1, rfl, D5, by omega, by omega, fun r6 H6 q0 q1 D6 b6 => ?_⟩
          have g6 := g5.keep b6 D5 hN5
          have hN6 := b6 Nd _ hN5 g5.ndn.1 g5.ndn.2.1
          have n6 := AT.keep b6 nn hn5 (fun q hq => (hout q hq).2.1) (fun q hq => (hout q hq).2.2.1)
          have ko := g5.out k1 (.inr hk1)
          have hk6 : H6 k1 = some (.lst vs) := b6 k1 _ hk5 ko.2.1 ko.2.2.1
          have hp6 : H6 pn = some (.tup [.ref an, .int (dp + 1)]) := b6 pn _ hp5 pnd.1 pnd.2
          have hn6 : H6 an = some (.lst [.str x2, .ref kn]) := b6 an _ hn5x (fo an (.inr rfl)).2.1 (fo an (.inr rfl)).2.2.1
          refine ⟨_, rfl, _, _, r6, _, rfl, rfl, hk6, small1000 (by omega), q0, by omega, ?_⟩
          have e9 : vs.take r6.toNat ++ [V.ref an] ++ vs.drop r6.toNat = vs.take r6.toNat ++ nn.val :: vs.drop r6.toNat := by
            show _ = vs.take r6.toNat ++ V.ref an :: vs.drop r6.toNat
            simp
          rw [e9]
          have g7 := g6.put (i := r6.toNat) hk1 hk6 n6 hno hnd hnds hout hcn
          have hN7 : (upd H6 k1 (.lst (vs.take r6.toNat ++ nn.val :: vs.drop r6.toNat))) Nd = some (.lst (xs ++ [.ref pn])) := by rw [upd_ne (Ne.symm ko.2.2.2)]; exact hN6
          have pn7 : (upd H6 k1 (.lst (vs.take r6.toNat ++ nn.val :: vs.drop r6.toNat))) pn = some (.tup [.ref an, .int (dp + 1)]) := by rw [upd_ne pk1]; exact hp6
          have an7 : (upd H6 k1 (.lst (vs.take r6.toNat ++ nn.val :: vs.drop r6.toNat))) an = some (.lst [.str x2, .ref kn]) := by rw [upd_ne ank1]; exact hn6
          have pin := put_in (i := r6.toNat) (n := nn) t hk1
          exact ⟨putT k1 r6.toNat nn t, _, _, _, _, _, rfl, (put_val t).trans tv, g7.add pn7 (pin.1 kn (by show kn ∈ [kn]; simp)) (pin.2 an (by show an ∈ [an]; simp)) an7 (by omega), hN7, D6.upd ko.2.1 ko.2.2.1, (b05.trans b6).cell0 ko.1⟩

        · refine ⟨_, rfl, d, c, rfl, D4, fun z H5 hz D5 b5 => ?_⟩
          have hN5 : H5 Nd = some (.lst xs) := b5 Nd _ hN4 g4.ndn.1 g4.ndn.2.1
          have g5 := (g4.keep b5 D4 hN4).mono (Nat.le_succ _) (by omega)
          have b05 := b04.trans b5
          have ha5 : H5 a1 = some (.lst [.str x1, .ref k1]) := b5 a1 _ ha4 (g4.out a1 (.inl ha1)).2.1 (g4.out a1 (.inl ha1)).2.2.1
          refine ⟨_, rfl, _, _, _, _, false, rfl, .ty "list", .base (.str z), kit_ty (by decide +kernel), _, rfl, iteF ?_⟩
          let nn : AT := .txt z
          have hn5 : nn.At H5 := trivial
          have hout : ∀ q, q ∈ nn.na ∨ q ∈ nn.ka → H q = none ∧ q ≠ d ∧ q ≠ c ∧ q ≠ Nd ∧ q ∉ t.na ∧ q ∉ t.ka := fun q h => by
            have h' : q ∈ ([] : List Addr) ∨ q ∈ ([] : List Addr) := h
            simp at h'
          have hno : nn.ok := hz
          have hnd : nn.ka.Nodup := List.nodup_nil
          have hnds : ∀ q ∈ nn.na, q ∉ nn.ka := fun q h => by
            have h' : q ∈ ([] : List Addr) := h
            simp at h'
          have hcn : t.cnt + nn.cnt ≤ 1 + i + 1 := Nat.add_le_add_right g4.cnt.1 1

          -- put in
          obtain ⟨vs, hk5, lv⟩ := ka_at t g5.at_ k1 hk1
          have cm := g5.cnt
          refine ⟨_, rfl, _, _, _, _, rfl, rfl, SqL.of ha5, atI_nat (j := 1) rfl, .inl ⟨rfl, _, SqL.of hk5⟩, ?_⟩
          refine ⟨_, rfl, _, rfl, _, _, _, _, rfl, rfl, SqL.of ha5, atI_nat (j := 1) rfl, _, vs, rfl, .inl (SqL.of hk5), _, _, rfl, rfl, ?_⟩
          refine ⟨d, c, (vs.length : Int) + 1, rfl, D5, by omega, by omega, fun r6 H6 q0 q1 D6 b6 => ?_⟩
          have g6 := g5.keep b6 D5 hN5
          have hN6 := b6 Nd _ hN5 g5.ndn.1 g5.ndn.2.1
          have n6 := AT.keep b6 nn hn5 (fun q hq => (hout q hq).2.1) (fun q hq => (hout q hq).2.2.1)
          have ko := g5.out k1 (.inr hk1)
          have hk6 : H6 k1 = some (.lst vs) := b6 k1 _ hk5 ko.2.1 ko.2.2.1

          refine ⟨_, rfl, _, _, r6, _, rfl, rfl, hk6, small1000 (by omega), q0, by omega, ?_⟩
          have e9 : vs.take r6.toNat ++ [V.str z] ++ vs.drop r6.toNat = vs.take r6.toNat ++ nn.val :: vs.drop r6.toNat := by
            show _ = vs.take r6.toNat ++ V.str z :: vs.drop r6.toNat
            simp
          rw [e9]
          have g7 := g6.put (i := r6.toNat) hk1 hk6 n6 hno hnd hnds hout hcn
          have hN7 : (upd H6 k1 (.lst (vs.take r6.toNat ++ nn.val :: vs.drop r6.toNat))) Nd = some (.lst (xs)) := by rw [upd_ne (Ne.symm ko.2.2.2)]; exact hN6
          exact ⟨putT k1 r6.toNat nn t, _, _, _, _, _, rfl, (put_val t).trans tv, g7, hN7, D6.upd ko.2.1 ko.2.2.1, (b05.trans b6).cell0 ko.1⟩

      · refine ⟨_, rfl, d, c, rfl, D4, fun z H5 hz D5 b5 => ?_⟩
        have hN5 : H5 Nd = some (.lst xs) := b5 Nd _ hN4 g4.ndn.1 g4.ndn.2.1
        have g5 := (g4.keep b5 D4 hN4).mono (Nat.le_succ _) (by omega)
        have b05 := b04.trans b5
        have ha5 : H5 a1 = some (.lst [.str x1, .ref k1]) := b5 a1 _ ha4 (g4.out a1 (.inl ha1)).2.1 (g4.out a1 (.inl ha1)).2.2.1
        refine ⟨_, rfl, _, _, _, _, false, rfl, .ty "list", .base (.str z), kit_ty (by decide +kernel), _, rfl, iteF ?_⟩
        let nn : AT := .txt z
        have hn5 : nn.At H5 := trivial
        have hout : ∀ q, q ∈ nn.na ∨ q ∈ nn.ka → H q = none ∧ q ≠ d ∧ q ≠ c ∧ q ≠ Nd ∧ q ∉ t.na ∧ q ∉ t.ka := fun q h => by
          have h' : q ∈ ([] : List Addr) ∨ q ∈ ([] : List Addr) := h
          simp at h'
        have hno : nn.ok := hz
        have hnd : nn.ka.Nodup := List.nodup_nil
        have hnds : ∀ q ∈ nn.na, q ∉ nn.ka := fun q h => by
          have h' : q ∈ ([] : List Addr) := h
          simp at h'
        have hcn : t.cnt + nn.cnt ≤ 1 + i + 1 := Nat.add_le_add_right g4.cnt.1 1

        -- put in
        obtain ⟨vs, hk5, lv⟩ := ka_at t g5.at_ k1 hk1
        have cm := g5.cnt
        refine ⟨_, rfl, _, _, _, _, rfl, rfl, SqL.of ha5, atI_nat (j := 1) rfl, .inl ⟨rfl, _, SqL.of hk5⟩, ?_⟩
        refine ⟨_, rfl, _, rfl, _, _, _, _, rfl, rfl, SqL.of ha5, atI_nat (j := 1) rfl, _, vs, rfl, .inl (SqL.of hk5), _, _, rfl, rfl, ?_⟩
        refine ⟨d, c, (vs.length : Int) + 1, rfl, D5, by omega, by omega, fun r6 H6 q0 q1 D6 b6 => ?_⟩
        have g6 := g5.keep b6 D5 hN5
        have hN6 := b6 Nd _ hN5 g5.ndn.1 g5.ndn.2.1
        have n6 := AT.keep b6 nn hn5 (fun q hq => (hout q hq).2.1) (fun q hq => (hout q hq).2.2.1)
        have ko := g5.out k1 (.inr hk1)
        have hk6 : H6 k1 = some (.lst vs) := b6 k1 _ hk5 ko.2.1 ko.2.2.1

        refine ⟨_, rfl, _, _, r6, _, rfl, rfl, hk6, small1000 (by omega), q0, by omega, ?_⟩
        have e9 : vs.take r6.toNat ++ [V.str z] ++ vs.drop r6.toNat = vs.take r6.toNat ++ nn.val :: vs.drop r6.toNat := by
          show _ = vs.take r6.toNat ++ V.str z :: vs.drop r6.toNat
          simp
        rw [e9]
        have g7 := g6.put (i := r6.toNat) hk1 hk6 n6 hno hnd hnds hout hcn
        have hN7 : (upd H6 k1 (.lst (vs.take r6.toNat ++ nn.val :: vs.drop r6.toNat))) Nd = some (.lst (xs)) := by rw [upd_ne (Ne.symm ko.2.2.2)]; exact hN6
        exact ⟨putT k1 r6.toNat nn t, _, _, _, _, _, rfl, (put_val t).trans tv, g7, hN7, D6.upd ko.2.1 ko.2.2.1, (b05.trans b6).cell0 ko.1⟩

    · rintro σ H2 ⟨t, xs, x6, x7, x8, x9, rfl, tv, g, hN2, D2, b02⟩
      have ct := g.cnt
      have nt := nds_le t
      cases t with
      | txt z => cases tv
      | nod a1 k1 x1 ts =>
        refine ⟨_, rfl, _, (Trk H), (by rw [tv]; rfl), fun a h => ?_, g.at_, by omega, by omega, fun u H3 du s3 => k u a1 k1 x1 ts H3 g.ok (by omega) du ?_ ?_⟩
        · obtain ⟨o, e⟩ := h
          by_cases h1 : a = d
          · rw [h1]
            exact D2.trk.1
          · by_cases h2 : a = c
            · rw [h2]
              exact D2.trk.2
            · exact ⟨o, b02 a o e h1 h2⟩
        · obtain ⟨cs, b, h1, h2, r⟩ := D2.ex
          exact ⟨cs, b, s3 _ _ h1, s3 _ _ h2, r⟩
        · exact fun q o e n1 n2 => s3 q o (b02 q o e n1 n2)
end
end K1

/-! drawn names -/
namespace K1
open PySem L2 Xr
abbrev sNames : Stmt := top 26
theorem scNames : FnScope ["deal", "many", "letters", "stem", "at", "first", "more", "found", "number", "tail", "turn"] ["deal", "many"] (defScope sNames) := ⟨rfl, rfl, rfl, by decide +kernel, rfl, by decide +kernel, by decide +kernel⟩
theorem From.app {S : List Nat} {n m : Nat} {a b : Str} (ha : From S n a) (hb : From S m b) : From S (n + m) (a ++ b) := by
  refine ⟨by rw [strLen_append, ha.len, hb.len], fun ch h => ?_⟩
  rw [cps_app] at h
  rcases List.mem_append.mp h with h | h
  · exact ha.sub ch h
  · exact hb.sub ch h
theorem cut_from {S : List Nat} {n i : Nat} {z : Str} (h : From S n z) (hi : i ≤ n) : From S i (cutS z none (some (i : Int))) ∧ From S (n - i) (cutS z (some (i : Int)) none) := by
  have e1 : HT.sIx z.length z.length (some (i : Int)) = i := by
    rw [HT.sIx_nat, h.len]
    omega
  have e2 : HT.sIx z.length 0 (some (i : Int)) = i := by
    rw [HT.sIx_nat, h.len]
    omega
  have l : z.cps.toList.length = n := by
    have := h.len
    show z.cps.toList.length = n
    rw [Array.length_toList]
    exact this
  have a1 : cutS z none (some (i : Int)) = ⟨((z.cps.toList.drop 0).take (i - 0)).toArray⟩ := by
    unfold cutS
    rw [e1]
    rfl
  have a2 : cutS z (some (i : Int)) none = ⟨((z.cps.toList.drop i).take (z.length - i)).toArray⟩ := by
    unfold cutS
    rw [e2]
    rfl
  refine ⟨⟨?_, fun ch hc => ?_⟩, ⟨?_, fun ch hc => ?_⟩⟩
  · rw [a1]
    show (((z.cps.toList.drop 0).take (i - 0)).toArray).size = i
    rw [List.size_toArray, List.length_take, List.length_drop]
    omega
  · rw [a1] at hc
    have hc' : ch ∈ ((z.cps.toList.drop 0).take (i - 0)) := by simpa using hc
    exact h.sub ch (List.mem_of_mem_drop (List.mem_of_mem_take hc'))
  · rw [a2]
    show (((z.cps.toList.drop i).take (z.length - i)).toArray).size = n - i
    rw [List.size_toArray, List.length_take, List.length_drop, h.len]
    omega
  · rw [a2] at hc
    have hc' : ch ∈ ((z.cps.toList.drop i).take (z.length - i)) := by simpa using hc
    exact h.sub ch (List.mem_of_mem_drop (List.mem_of_mem_take hc'))
theorem From.name {n : Nat} {z : Str} (h : From abc.cps.toList n z) (h1 : 1 ≤ n) (h8 : n ≤ 8) : nameD (.str z) = true := by
  show (decide (z.length ≠ 0) && (decide (z.length ≤ 8) && hasOnly z abc)) = true
  rw [h.has, h.len, decide_eq_true (show n ≠ 0 by omega), decide_eq_true h8]
  rfl
theorem sum_from {S : List Nat} : ∀ l : List Str, (∀ y ∈ l, From S 1 y) → (l.map (·.length)).sum + l.length * (Str.ofString "").length ≤ l.length := by
  intro l
  have l0 : (Str.ofString "").length = 0 := by decide
  rw [l0]
  induction l with
  | nil => intro _; exact Nat.le_refl _
  | cons y l ih =>
    intro h
    have := ih fun x hx => h x (List.mem_cons_of_mem _ hx)
    have := (h y (by simp)).len
    simp only [List.map_cons, List.sum_cons, List.length_cons] at *
    omega
def spNames : Sp := fun vs H Q _ => ∃ (d c : Addr) (many : Nat), vs = [.ref d, .int (many : Int)] ∧ DealAt H d c ∧ 1 ≤ many ∧ many < 60 ∧
  ∀ (p : Addr) (ns : List Str) (H' : Hp), H' p = some (.lst (ns.map V.str)) → H p = none → ns.length = many → (∀ x ∈ ns, nameD (.str x) = true) → DealAt H' d c → But d c H H' → Q (.ref p) H'
structure NamesTxt (K : PySem.W.Frag) (mg : Str → Option Value) (a_law_any a_law_of : Addr) : Prop where
  n_sorted : mg "sorted" = none
  n_range : mg "range" = none
  n_int : mg "int" = none
  n_len : mg "len" = none
  g_law_of : mg "_law_of" = some (.ref a_law_of)
  k_law_of : PySem.W.keepIn K (.ref a_law_of) = true
  g_law_any : mg "_law_any" = some (.ref a_law_any)
  k_law_any : PySem.W.keepIn K (.ref a_law_any) = true
section
variable {P : Program} {w : World} {K : PySem.W.Frag} {mg : Str → Option Value} {base : Heap} {a_law_any a_law_of : Addr} {fdA fdO : FuncData}
theorem ok_names {f : Addr} {fd : FuncData} (F : Fun K "_law_names" "_law_names" sNames f fd) (T : NamesTxt K mg a_law_any a_law_of)
    (G_law_any : FnOk P w K mg base CX0 1 a_law_any fdA ["deal", "bound"] spAny) (b_law_any : Binds K fdA ["deal", "bound"] [])
    (G_law_of : FnOk P w K mg base CX0 2 a_law_of fdO ["deal", "some"] spOf) (b_law_of : Binds K fdO ["deal", "some"] []) : FnOk P w K mg base CX0 3 f fd ["deal", "many"] spNames := by
  refine F.ok scNames (fun vs H Q E h => ?_) (fun cdv A outer s H vs Q E hr h => ?_)
  · obtain ⟨d, c, many, rfl, _⟩ := h
    rfl
  · obtain ⟨d, c, many, rfl, D, m1, m2, k⟩ := h
    have hr1 : Room 1 _ := hr.mono (by decide)
    have hr2 : Room 2 _ := hr
    refine ⟨_, (pss_cons (ps_set (i := 2) scNames.nd rfl (Or.inr rfl) pe_str)
      (pss_cons (ps_set (i := 3) scNames.nd rfl (Or.inl rfl) (pe_join pe_str (pe_lc (own := [("turn", 10)]) (g := gName 10) (tt := tYes) (by rfl) scNames.nd (pi_range1 (by rfl) T.n_range (pa_cons (pe_call G_law_any hr1 rfl T.g_law_any T.k_law_any b_law_any .nil pass0 (pa_cons (pv 0) (pa_cons pe_int pa_nil))) pa_nil)) (blkOk_by (own := [("turn", 10)]) (N := ["deal", "many", "letters", "stem", "at", "first", "more", "found", "number", "tail", "turn"]) (sc := defScope sNames) (by decide +kernel)) (fun _ _ _ _ _ => pg_name (i := 10) scNames.nd rfl (Or.inl rfl)) (fun _ _ _ _ _ => pts_nil) (fun _ _ _ _ _ => (pe_call G_law_of hr2 rfl T.g_law_of T.k_law_of b_law_of .nil pass0 (pa_cons (pv 0) (pa_cons (pv 2) pa_nil)))))))
      (pss_cons (ps_asg (pe_tup (pa_cons (pe_call G_law_any hr1 rfl T.g_law_any T.k_law_any b_law_any .nil pass0 (pa_cons (pv 0) (pa_cons (pe_op op_add (pe_callB call_len_str (by rfl) T.n_len PySem.boot_len (pa_cons (pv 3) pa_nil)) pe_int) pa_nil))) (pa_cons (pe_call G_law_any hr1 rfl T.g_law_any T.k_law_any b_law_any .nil pass0 (pa_cons (pv 0) (pa_cons pe_int pa_nil))) (pa_cons (pe_call G_law_any hr1 rfl T.g_law_any T.k_law_any b_law_any .nil pass0 (pa_cons (pv 0) (pa_cons pe_int pa_nil))) (pa_cons (pe_lst pa_nil) pa_nil))))) (pg_tup (by rfl) (pgs_cons (pg_name (i := 4) scNames.nd rfl (Or.inl rfl)) (pgs_cons (pg_name (i := 5) scNames.nd rfl (Or.inl rfl)) (pgs_cons (pg_name (i := 6) scNames.nd rfl (Or.inl rfl)) (pgs_cons (pg_name (i := 7) scNames.nd rfl (Or.inl rfl)) pgs_nil))))))
      (pss_cons (ps_for PassesOwn.never rfl (pi_range1 (by rfl) T.n_range (pa_cons (pv 1) pa_nil)) (pg_name (i := 8) scNames.nd rfl (Or.inl rfl))
      (pss_cons (ps_set (i := 9) scNames.nd rfl (Or.inl rfl) (pe_join pe_str (pe_lc (own := [("turn", 10)]) (g := gName 10) (tt := tYes) (by rfl) scNames.nd (pi_range1 (by rfl) T.n_range (pa_cons (pv 6) pa_nil)) (blkOk_by (own := [("turn", 10)]) (N := ["deal", "many", "letters", "stem", "at", "first", "more", "found", "number", "tail", "turn"]) (sc := defScope sNames) (by decide +kernel)) (fun _ _ _ _ _ => pg_name (i := 10) scNames.nd rfl (Or.inl rfl)) (fun _ _ _ _ _ => pts_nil) (fun _ _ _ _ _ => (pe_call G_law_of hr2 rfl T.g_law_of T.k_law_of b_law_of .nil pass0 (pa_cons (pv 0) (pa_cons (pv 2) pa_nil)))))))
      (pss_one (ps_expr (pe_bm PySem.F.plainAttrs_list PySem.F.slot_list_append PySem.F.type_list_append mt_append (pv 7) (pa_cons (pe_op op_add_str (pe_op op_add_str (pe_op op_add_str (pe_slice sl_str (pv 3) po_none (po_some (pv 4))) (pe_ix ix_str (pv 2) (pe_op op_mod (pe_callTy call_int1 (by rfl) T.n_int (by decide +kernel) (pa_cons (pe_op op_add (pv 5) (pv 8)) pa_nil)) pe_int) (fun _ _ => rfl))) (pe_slice sl_str (pv 3) (po_some (pv 4)) po_none)) (pv 9)) pa_nil))))))
      (pss_one (ps_ret (pe_callB cr_sortedS (by rfl) T.n_sorted (by decide +kernel) (pa_cons (pv 7) pa_nil)))))))), ?_⟩
    have l26 : abc.length = 26 := by decide
    have c26 : abc.cps.toList.length = 26 := by decide +kernel
    -- the stem
    refine ⟨⟨_, rfl⟩, _, rfl, d, c, 6, rfl, D, by decide, by decide, fun r H1 r0 r1 D1 b1 => ⟨_, rfl, by omega, by omega, fun L hL => ?_⟩⟩
    obtain ⟨Ld, Lc⟩ := D1.ne hL
    have HL : H L = none := b1.none hL D1
    refine lc_range (lo := 0) (n := r.toNat) (fun i H4 => ∃ ys : List Str, H4 L = some (.lst (ys.map V.str)) ∧ ys.length = i ∧ (∀ y ∈ ys, From abc.cps.toList 1 y) ∧ DealAt H4 d c ∧ But d c H H4) ⟨[], upd_same, rfl, by simp, D1.new hL, b1.cell0 HL⟩ ?_ ?_
    · rintro i H4 hi ⟨ys, y1, y2, y3, D4, b4⟩
      refine ⟨rfl, _, rfl, _, rfl, d, c, D4, .inr ⟨_, rfl, by decide, by decide, fun ch H5 hc D5 b5 => ?_⟩⟩
      have y1' := b5 L _ y1 Ld Lc
      refine ⟨_, y1', small1000 (by rw [List.length_map]; omega), ys ++ [⟨#[ch]⟩], ?_, by simp [y2], ?_, D5.upd Ld Lc, (b4.trans b5).cell0 HL⟩
      · rw [upd_same]
        simp
      · intro y hy
        rcases List.mem_append.mp hy with hy | hy
        · exact y3 y hy
        · rw [List.mem_singleton] at hy
          subst hy
          refine ⟨rfl, fun c2 h2 => ?_⟩
          have e : c2 = ch := by simpa using h2
          rw [e]
          exact hc
    rintro H2 ⟨ys, y1, y2, y3, D2, b2⟩
    refine ⟨_, L, ys, rfl, rfl, .inl (SqL.of y1), by have := sum_from ys y3; omega, ?_⟩
    have st : From abc.cps.toList ys.length (Txt.join (Str.ofString "") ys) := by
      show From _ _ (Builtin.Str.glued (Str.ofString "") ys)
      rw [StrLaws.glued_eq_join]
      exact join_from ys y3
    have ls : ys.length ≤ 5 := by omega
    generalize Txt.join (Str.ofString "") ys = stem at st ⊢
    generalize ys.length = sl at st ls y2
    clear y1 y3 b1 D1 HL Ld Lc hL
    have sl2 := st.len
    -- at, first, more, found
    refine ⟨_, rfl, _, rfl, _, rfl, (by rw [sizeLine_eq]; omega), _, _, rfl, rfl, d, c, (stem.length : Int) + 1, rfl, D2, by omega, by omega, fun at0 H3 a0 a1 D3 b3 => ?_⟩
    refine ⟨_, rfl, d, c, 26, rfl, D3, by decide, by decide, fun fi H4 f0 f1 D4 b4 => ?_⟩
    refine ⟨_, rfl, d, c, 3, rfl, D4, by decide, by decide, fun mo H5 g0 g1 D5 b5 => ⟨Nat.zero_le _, fun Fd hFd => ⟨(by show 4 ≤ sizeLine; decide), fun tp htp => ?_⟩⟩⟩
    refine ⟨tp, _, rfl, SqT.of upd_same, rfl, _, _, rfl, _, _, rfl, _, _, rfl, _, _, rfl, rfl, ?_⟩
    have Ft : Fd ≠ tp := ne_of_none upd_same htp
    have b25 := ((b2.trans b3).trans b4).trans b5
    have Fn := D5.ne hFd
    have HF : H Fd = none := b25.none hFd D5
    have ft : H5 tp = none := by
      have z := htp
      rw [upd_ne (Ne.symm Ft)] at z
      exact z
    have D6 := (D5.new (o := .lst []) hFd).new (o := .tup [.int at0, .int fi, .int mo, .ref Fd]) htp
    have b6 : But d c H (upd (upd H5 Fd (.lst [])) tp (.tup [.int at0, .int fi, .int mo, .ref Fd])) := (b25.cell0 HF).cell0 (b25.none ft D5)
    have h6 : (upd (upd H5 Fd (.lst [])) tp (.tup [.int at0, .int fi, .int mo, .ref Fd])) Fd = some (.lst []) := by rw [upd_ne Ft, upd_same]
    generalize upd (upd H5 Fd (.lst [])) tp (.tup [.int at0, .int fi, .int mo, .ref Fd]) = H6 at D6 b6 h6 ⊢
    obtain ⟨ai, rfl⟩ := Int.eq_ofNat_of_zero_le a0
    refine ⟨_, rfl, _, rfl, by omega, by omega, ?_⟩
    refine for_range (lo := 0) (n := (many : Int).toNat) (fun i σ H7 => ∃ (ns : List Str) (x8 x9 x10 : Option V), σ = [some (.ref d), some (.int (many : Int)), some (.str abc), some (.str stem), some (.int (ai : Int)), some (.int fi), some (.int mo), some (.ref Fd), x8, x9, x10] ∧ H7 Fd = some (.lst (ns.map V.str)) ∧ ns.length = i ∧ (∀ x ∈ ns, nameD (.str x) = true) ∧ DealAt H7 d c ∧ But d c H H7)
      ⟨[], none, none, none, rfl, h6, rfl, by simp, D6, b6⟩ ?_ ?_
    · rintro i σ H7 hi ⟨ns, x8, x9, x10, rfl, h7, n7, o7, D7, b7⟩
      refine ⟨⟨_, rfl⟩, _, rfl, _, rfl, by omega, by omega, fun L2 hL2 => ?_⟩
      obtain ⟨Ld2, Lc2⟩ := D7.ne hL2
      have HL2 : H L2 = none := b7.none hL2 D7
      have FL : Fd ≠ L2 := ne_of_none h7 hL2
      refine lc_range (lo := 0) (n := mo.toNat) (fun i H4 => ∃ ys : List Str, H4 L2 = some (.lst (ys.map V.str)) ∧ ys.length = i ∧ (∀ y ∈ ys, From abc.cps.toList 1 y) ∧ H4 Fd = some (.lst (ns.map V.str)) ∧ DealAt H4 d c ∧ But d c H H4) ⟨[], upd_same, rfl, by simp, by rw [upd_ne FL]; exact h7, D7.new hL2, b7.cell0 HL2⟩ ?_ ?_
      · rintro i H4 hi ⟨ys, y1, y2, y3, y4, D4, b4⟩
        refine ⟨rfl, _, rfl, _, rfl, d, c, D4, .inr ⟨_, rfl, by decide, by decide, fun ch H5 hc D5 b5 => ?_⟩⟩
        have y1' := b5 L2 _ y1 Ld2 Lc2
        refine ⟨_, y1', small1000 (by rw [List.length_map]; omega), ys ++ [⟨#[ch]⟩], ?_, by simp [y2], ?_, by rw [upd_ne FL]; exact b5 Fd _ y4 Fn.1 Fn.2, D5.upd Ld2 Lc2, (b4.trans b5).cell0 HL2⟩
        · rw [upd_same]
          simp
        · intro y hy
          rcases List.mem_append.mp hy with hy | hy
          · exact y3 y hy
          · rw [List.mem_singleton] at hy
            subst hy
            refine ⟨rfl, fun c2 h2 => ?_⟩
            have e : c2 = ch := by simpa using h2
            rw [e]
            exact hc
      · rintro H8 ⟨ys, y1, y2, y3, y4, D8, b8⟩
        refine ⟨_, L2, ys, rfl, rfl, .inl (SqL.of y1), by have := sum_from ys y3; omega, ?_⟩
        have tl : From abc.cps.toList ys.length (Txt.join (Str.ofString "") ys) := by
          show From _ _ (Builtin.Str.glued (Str.ofString "") ys)
          rw [StrLaws.glued_eq_join]
          exact join_from ys y3
        have lt : ys.length ≤ 2 := by omega
        generalize Txt.join (Str.ofString "") ys = tail at tl ⊢
        generalize ys.length = tn at tl lt y2
        have hai : ai ≤ sl := by omega
        obtain ⟨c1, c2⟩ := cut_from st hai
        have mm : ∃ jj : Nat, (fi + (0 + (i : Int))) % 26 = (jj : Int) ∧ jj < 26 := by
          obtain ⟨jj, e⟩ := Int.eq_ofNat_of_zero_le (Int.emod_nonneg (fi + (0 + (i : Int))) (by decide : (26 : Int) ≠ 0))
          have := Int.emod_lt_of_pos (fi + (0 + (i : Int))) (by decide : (0 : Int) < 26)
          exact ⟨jj, e, by omega⟩
        obtain ⟨jj, ej, lj⟩ := mm
        have hj : abc.cps.toList[jj]? = some abc.cps.toList[jj] := List.getElem?_eq_getElem (by omega)
        have mj : abc.cps.toList[jj] ∈ abc.cps.toList := List.getElem_mem (by omega)
        generalize abc.cps.toList[jj]'(by omega) = ch at hj mj
        have one : From abc.cps.toList 1 (⟨#[ch]⟩ : Str) := ⟨rfl, fun c2 h2 => by
          have e : c2 = ch := by simpa using h2
          rw [e]
          exact mj⟩
        have w1 := c1.app one
        have w2 := w1.app c2
        have w3 := w2.app tl
        refine ⟨_, rfl, .inl ⟨rfl, _, SqL.of y4⟩, _, rfl, _, rfl, _, rfl, stem, rfl, (by rw [sizeLine_eq]; omega), ?_⟩
        refine ⟨_, rfl, _, rfl, _, rfl, _, _, rfl, rfl, .inl ⟨_, rfl, _, _, rfl, rfl, (by show (0 : Int) < 26; decide), ?_⟩⟩
        refine ⟨_, _, ch, rfl, rfl, (by rw [sizeLine_eq, l26]; omega), (show atI abc.cps.toList ((fi + (0 + (i : Int))) % 26) = some ch by rw [ej]; exact atI_nat hj), ?_⟩
        refine ⟨_, _, rfl, rfl, (by rw [sizeLine_eq, c1.len, one.len]; omega), ?_⟩
        refine ⟨_, rfl, _, rfl, _, rfl, stem, rfl, (by rw [sizeLine_eq]; omega), _, _, rfl, rfl, (by rw [sizeLine_eq, w1.len, c2.len]; omega), ?_⟩
        refine ⟨_, rfl, _, _, rfl, rfl, (by rw [sizeLine_eq, w2.len, tl.len]; omega), ?_⟩
        refine ⟨_, _, _, rfl, rfl, y4, small1000 (by rw [List.length_map]; omega), ns ++ [cutS stem none (some (ai : Int)) ++ (⟨#[ch]⟩ : Str) ++ cutS stem (some (ai : Int)) none ++ tail], some (.int (0 + (i : Int))), some (.str tail), x10, rfl, ?_, by simp [n7], ?_, D8.upd Fn.1 Fn.2, b8.cell0 HF⟩
        · rw [upd_same, List.map_append]
          rfl
        · intro x hx
          rcases List.mem_append.mp hx with hx | hx
          · exact o7 x hx
          · rw [List.mem_singleton] at hx
            rw [hx]
            exact w3.name (by omega) (by omega)
    · rintro σ H7 ⟨ns, x8, x9, x10, rfl, h7, n7, o7, D7, b7⟩
      have nm : ns.length = many := by omega
      refine ⟨_, rfl, Fd, ns, rfl, SqL.of h7, by omega, fun zs p pm _ hp => ?_⟩
      exact k p zs _ upd_same (b7.none hp D7) (by rw [pm.length_eq, nm]) (fun x hx => o7 x (pm.mem_iff.mp hx)) (D7.new hp) (b7.cell0 (b7.none hp D7))
end
end K1

/-! pairs, numbers -/
namespace K1
open PySem L2 Xr
abbrev sPair : Stmt := top 18
theorem scPair : FnScope ["value"] ["value"] (defScope sPair) := ⟨rfl, rfl, rfl, by decide +kernel, rfl, by decide +kernel, by decide +kernel⟩
abbrev sNum : Stmt := top 10
theorem scNum : FnScope ["value"] ["value"] (defScope sNum) := ⟨rfl, rfl, rfl, by decide +kernel, rfl, by decide +kernel, by decide +kernel⟩
def pairD : PyData → Bool
  | .tuple [d0, d1] => nameD d0 && isTup d1
  | _ => false
def numD : PyData → Bool
  | .int i => decide (0 ≤ i)
  | _ => false
def spPair (K : PySem.W.Frag) : Sp := fun vs H Q _ => ∃ (v : V) (d : PyData) (N : Addr → Prop), vs = [v] ∧ Dm K N H v d ∧ (∀ z d1, d = .tuple [.str z, d1] → z.length ≤ 900000) ∧ ∀ H', Same H H' → Q (.bl (pairD d)) H'
def spNum (K : PySem.W.Frag) : Sp := fun vs H Q _ => ∃ (v : V) (d : PyData) (N : Addr → Prop), vs = [v] ∧ Dm K N H v d ∧ Q (.bl (numD d)) H
structure PairTxt (K : PySem.W.Frag) (mg : Str → Option Value) (a_is_name : Addr) : Prop where
  n_isinstance : mg "isinstance" = none
  n_tuple : mg "tuple" = none
  n_int : mg "int" = none
  n_bool : mg "bool" = none
  n_len : mg "len" = none
  g_is_name : mg "is_name" = some (.ref a_is_name)
  k_is_name : PySem.W.keepIn K (.ref a_is_name) = true
section
variable {P : Program} {w : World} {K : PySem.W.Frag} {mg : Str → Option Value} {base : Heap} {a_is_name : Addr} {fdN : FuncData}
theorem ok_pair {f : Addr} {fd : FuncData} (F : Fun K "_is_pair" "_is_pair" sPair f fd) (T : PairTxt K mg a_is_name) (G_is_name : FnOk P w K mg base CX0 2 a_is_name fdN ["value"] (spName K)) (b_is_name : Binds K fdN ["value"] []) : FnOk P w K mg base CX0 3 f fd ["value"] (spPair K) := by
  refine F.ok scPair (fun vs H Q E h => ?_) (fun cdv A outer s H vs Q E hr h => ?_)
  · obtain ⟨v, d, N, rfl, _⟩ := h
    rfl
  · obtain ⟨v, d, N, rfl, hv, hl, k⟩ := h
    refine ⟨_, (pss_one (ps_ret (pe_and (pe_callB call_isi (by rfl) T.n_isinstance (by decide +kernel) (pa_cons (pv 0) (pa_cons (pe_bltn (v := V.ty "tuple") (u := .type "tuple") (by rfl) T.n_tuple (by decide +kernel) (by rfl)) pa_nil))) (pe_and (pe_cmpR op_eq (pe_callB call_len_seq (by rfl) T.n_len PySem.boot_len (pa_cons (pv 0) pa_nil)) pe_int (nomark _)) (pe_and (pe_call G_is_name hr rfl T.g_is_name T.k_is_name b_is_name .nil pass0 (pa_cons (pe_ix ix_tup (pv 0) pe_int (fun _ _ => rfl)) pa_nil)) (pe_one (pe_callB call_isi (by rfl) T.n_isinstance (by decide +kernel) (pa_cons (pe_ix ix_tup (pv 0) pe_int (fun _ _ => rfl)) (pa_cons (pe_bltn (v := V.ty "tuple") (u := .type "tuple") (by rfl) T.n_tuple (by decide +kernel) (by rfl)) pa_nil))))))))), ?_⟩
    refine ⟨_, rfl, _, _, _, _, _, rfl, .ty "tuple", hv.ty, kit_tup d, _, rfl, ?_⟩
    cases d with
    | tuple ds =>
      obtain ⟨a, xs, rfl, ta, al⟩ := hv.seq
      have lx := al.len
      refine iteT ⟨_, rfl, _, xs, rfl, .inr ta.sq, rfl, _, rfl, ?_⟩
      match ds, xs, al, lx, hl, k, ta with
      | [], [], _, _, _, k, _ => exact iteF (k _ (Same.refl H))
      | [_], [_], _, _, _, k, _ => exact iteF (k _ (Same.refl H))
      | d0 :: d1 :: d2 :: r, x0 :: x1 :: x2 :: r', _, _, _, k, _ =>
        have e : decide (V.int ((x0 :: x1 :: x2 :: r').length : Int) = V.int 2) = false := decide_eq_false fun z => by
          have := V.int.inj z
          simp at this
          omega
        rw [e]
        exact iteF (k _ (Same.refl H))
      | [d0, d1], [x0, x1], .cons h0 (.cons h1 .nil), _, hl, k, ta =>
        refine iteT ⟨_, rfl, _, _, _, _, rfl, rfl, ta.sq, atI_nat (j := 0) rfl, _, _, N, rfl, h0, fun z e => hl z d1 (by rw [e]), fun H1 s1 => ⟨_, rfl, ?_⟩⟩
        have e0 : pairD (.tuple [d0, d1]) = (nameD d0 && isTup d1) := rfl
        have ta1 : Tp K (fun _ => False) H a [x0, x1] := ta.elim (fun z => .inl ⟨z.1, id⟩) .inr
        refine ite2 (fun hn => ?_) (fun hn => ?_)
        · refine ⟨_, rfl, _, _, _, _, rfl, rfl, (ta1.up (Bt.same s1)).sq, atI_nat (j := 1) rfl, _, _, _, _, _, rfl, .ty "tuple", (h1.up (Bt.same s1)).ty, kit_tup d1, ?_⟩
          have := k _ s1
          rw [e0, hn, Bool.true_and] at this
          exact this
        · have hf : nameD d0 = false := by simpa using hn
          have := k _ s1
          rw [e0, hf, Bool.false_and] at this
          exact this
    | _ => exact iteF (k _ (Same.refl H))
theorem ok_num {f : Addr} {fd : FuncData} (F : Fun K "is_number" "is_number" sNum f fd) (T : PairTxt K mg a_is_name) : FnOk P w K mg base CX0 1 f fd ["value"] (spNum K) := by
  refine F.ok scNum (fun vs H Q E h => ?_) (fun cdv A outer s H vs Q E hr h => ?_)
  · obtain ⟨v, d, N, rfl, _⟩ := h
    rfl
  · obtain ⟨v, d, N, rfl, hv, k⟩ := h
    refine ⟨_, (pss_one (ps_ret (pe_and (pe_callB call_isi (by rfl) T.n_isinstance (by decide +kernel) (pa_cons (pv 0) (pa_cons (pe_bltn (v := V.ty "int") (u := .type "int") (by rfl) T.n_int (by decide +kernel) (by rfl)) pa_nil))) (pe_and (pe_not (pe_callB call_isi (by rfl) T.n_isinstance (by decide +kernel) (pa_cons (pv 0) (pa_cons (pe_bltn (v := V.ty "bool") (u := .type "bool") (by rfl) T.n_bool (by decide +kernel) (by rfl)) pa_nil)))) (pe_one (pe_cmpR op_ge (pv 0) pe_int (nomark _))))))), ?_⟩
    cases d with
    | int i =>
      have e : v = .int i := by
        cases hv
        rfl
      subst e
      refine ⟨_, rfl, _, _, _, _, true, rfl, .ty "int", .base (.int i), kit_ty (by decide +kernel), _, rfl, iteT ?_⟩
      exact ⟨_, rfl, _, _, _, _, false, rfl, .ty "bool", .base (.int i), kit_ty (by decide +kernel), _, rfl, _, rfl, iteT ⟨_, rfl, _, _, rfl, rfl, k⟩⟩
    | bool b =>
      exact ⟨_, rfl, _, _, _, _, true, rfl, .ty "int", hv.ty, kit_ty (a := "bool") (b := "int") (r := true) (by decide +kernel), _, rfl, iteT ⟨_, rfl, _, _, _, _, true, rfl, .ty "bool", hv.ty, kit_ty (a := "bool") (b := "bool") (r := true) (by decide +kernel), _, rfl, _, rfl, iteF k⟩⟩
    | none => exact ⟨_, rfl, _, _, _, _, false, rfl, .ty "int", hv.ty, kit_ty (a := "NoneType") (b := "int") (r := false) (by decide +kernel), _, rfl, iteF k⟩
    | str z => exact ⟨_, rfl, _, _, _, _, false, rfl, .ty "int", hv.ty, kit_ty (a := "str") (b := "int") (r := false) (by decide +kernel), _, rfl, iteF k⟩
    | list ds => exact ⟨_, rfl, _, _, _, _, false, rfl, .ty "int", hv.ty, kit_ty (a := "list") (b := "int") (r := false) (by decide +kernel), _, rfl, iteF k⟩
    | tuple ds => exact ⟨_, rfl, _, _, _, _, false, rfl, .ty "int", hv.ty, kit_ty (a := "tuple") (b := "int") (r := false) (by decide +kernel), _, rfl, iteF k⟩
    | dict kvs => cases hv
end
end K1

/-! how great data is; displays of data -/
namespace K1
open PySem L2 Xr
mutual
def wt : PyData → Nat
  | .str z => 1 + z.length
  | .list ds => 1 + wtAll ds
  | .tuple ds => 1 + wtAll ds
  | _ => 1
def wtAll : List PyData → Nat
  | [] => 0
  | d :: ds => wt d + wtAll ds
end
theorem wt_pos (d : PyData) : 1 ≤ wt d := by cases d <;> unfold wt <;> omega
theorem wtAll_app : ∀ xs ys : List PyData, wtAll (xs ++ ys) = wtAll xs + wtAll ys
  | [], ys => by show wtAll ys = 0 + wtAll ys; omega
  | x :: xs, ys => by
    show wt x + wtAll (xs ++ ys) = wt x + wtAll xs + wtAll ys
    rw [wtAll_app xs ys]
    omega
theorem wtAll_len : ∀ xs : List PyData, xs.length ≤ wtAll xs
  | [] => Nat.le_refl _
  | x :: xs => by
    show xs.length + 1 ≤ wt x + wtAll xs
    have := wt_pos x
    have := wtAll_len xs
    omega
theorem wtAll_rev : ∀ xs : List PyData, wtAll xs.reverse = wtAll xs
  | [] => rfl
  | x :: xs => by
    rw [List.reverse_cons, wtAll_app, wtAll_rev xs]
    show wtAll xs + (wt x + 0) = wt x + wtAll xs
    omega
theorem wt_mem : ∀ {xs : List PyData} {d : PyData}, d ∈ xs → wt d ≤ wtAll xs
  | x :: xs, d, h => by
    show wt d ≤ wt x + wtAll xs
    rcases List.mem_cons.mp h with e | h
    · rw [e]
      omega
    · have := wt_mem h
      omega
theorem wt_split (xs : List PyData) (i : Nat) : wtAll xs = wtAll (xs.take i) + wtAll (xs.drop i) := by rw [← wtAll_app, List.take_append_drop]
theorem canLayAll_iff : ∀ xs : List PyData, PyData.canLayAll0 xs = true ↔ ∀ x ∈ xs, x.canLay0 = true
  | [] => ⟨fun _ x h => by simp at h, fun _ => rfl⟩
  | x :: xs => by
    have e : PyData.canLayAll0 (x :: xs) = (PyData.canLay0 x && PyData.canLayAll0 xs) := by
      conv => lhs; unfold PyData.canLayAll0
    rw [e, Bool.and_eq_true, canLayAll_iff xs]
    simp
theorem depthAll_le {m : Nat} : ∀ xs : List PyData, PyData.depthAll xs ≤ m ↔ ∀ x ∈ xs, x.depth ≤ m
  | [] => ⟨fun _ x h => by simp at h, fun _ => by unfold PyData.depthAll; exact Nat.zero_le _⟩
  | x :: xs => by
    have e : PyData.depthAll (x :: xs) = max x.depth (PyData.depthAll xs) := by
      conv => lhs; unfold PyData.depthAll
    rw [e, Nat.max_le, depthAll_le xs]
    simp
/-- data of a bounded kind: no dicts, right signs, at most m deep -/
structure Vd (m : Nat) (d : PyData) : Prop where
  lay : d.canLay0 = true
  dep : d.depth ≤ m
theorem Vd.mono {m m' : Nat} {d : PyData} (h : Vd m d) (l : m ≤ m') : Vd m' d := ⟨h.lay, Nat.le_trans h.dep l⟩
theorem vd_tup {m : Nat} {ds : List PyData} (h : ∀ x ∈ ds, Vd m x) : Vd (m + 1) (.tuple ds) := by
  refine ⟨?_, ?_⟩
  · unfold PyData.canLay0
    exact (canLayAll_iff ds).mpr fun x hx => (h x hx).lay
  · unfold PyData.depth
    have := (depthAll_le ds).mpr fun x hx => (h x hx).dep
    omega
theorem vd_lst {m : Nat} {ds : List PyData} (h : ∀ x ∈ ds, Vd m x) : Vd (m + 1) (.list ds) := by
  refine ⟨?_, ?_⟩
  · unfold PyData.canLay0
    exact (canLayAll_iff ds).mpr fun x hx => (h x hx).lay
  · unfold PyData.depth
    have := (depthAll_le ds).mpr fun x hx => (h x hx).dep
    omega
theorem Vd.tup {m : Nat} {ds : List PyData} (h : Vd m (.tuple ds)) : 0 < m ∧ ∀ x ∈ ds, Vd (m - 1) x := by
  obtain ⟨a, b⟩ := h
  unfold PyData.canLay0 at a
  unfold PyData.depth at b
  have a' := (canLayAll_iff ds).mp a
  have b' := (depthAll_le (m := m - 1) ds).mp (by omega)
  exact ⟨by omega, fun x hx => ⟨a' x hx, b' x hx⟩⟩
theorem Vd.shaped {m : Nat} {d : PyData} (h : Vd m d) (l : m ≤ 64) : SeqAt.shaped d = true := by
  unfold SeqAt.shaped
  rw [h.lay, decide_eq_true (Nat.le_trans h.dep l)]
  rfl
theorem vd_none : Vd 0 .none := ⟨rfl, by unfold PyData.depth; exact Nat.le_refl _⟩
theorem vd_bool (b : Bool) : Vd 0 (.bool b) := ⟨rfl, by unfold PyData.depth; exact Nat.le_refl _⟩
theorem vd_int (i : Int) : Vd 0 (.int i) := ⟨rfl, by unfold PyData.depth; exact Nat.le_refl _⟩
/-- right signs -/
def Sg (z : Str) : Prop := ∀ c ∈ z.cps.toList, c < 1114112
theorem vd_str {z : Str} (h : Sg z) : Vd 0 (.str z) := by
  refine ⟨?_, by unfold PyData.depth; exact Nat.le_refl _⟩
  unfold PyData.canLay0
  show (z.cps.all fun x => decide (x < 0x110000)) = true
  rw [Array.all_eq_true']
  intro ch hc
  have := h ch (by simpa using hc)
  simp
  omega
theorem Vd.sg {m : Nat} {z : Str} (h : Vd m (.str z)) : Sg z := by
  have a := h.lay
  unfold PyData.canLay0 at a
  have a : (z.cps.all fun x => decide (x < 0x110000)) = true := a
  rw [Array.all_eq_true'] at a
  intro c hc
  have := a c (by simpa using hc)
  simp at this
  omega
theorem Sg.app {a b : Str} (h : Sg a) (g : Sg b) : Sg (a ++ b) := fun c hc => by
  rw [cps_app] at hc
  exact (List.mem_append.mp hc).elim (h c) (g c)
/-! displays of data: what they give, by the data in the def's names -/
abbrev DEnv := Nat → PyData
def SEnv (K : PySem.W.Frag) (N : Addr → Prop) (L : List Nat) (σ : L2.St) (H : Hp) (D : DEnv) : Prop := ∀ i ∈ L, ∃ v, σ[i]? = some (some v) ∧ Dm K N H v (D i)
theorem SEnv.up {K : PySem.W.Frag} {N : Addr → Prop} {L : List Nat} {σ : L2.St} {H H' : Hp} {D : DEnv} (h : SEnv K N L σ H D) (s : Bt N H H') : SEnv K N L σ H' D := fun i hi => by
  obtain ⟨v, a, b⟩ := h i hi
  exact ⟨v, a, b.up s⟩
theorem trk_up {N : Addr → Prop} {H H' : Hp} (h : ∀ a, N a → Trk H a) (s : Same H H') : ∀ a, N a → Trk H' a := fun a n => (h a n).same s
def rD (K : PySem.W.Frag) (L : List Nat) (C : DEnv → Prop) (g : DEnv → PyData) : TE := fun σ H Q => ∃ (N : Addr → Prop) (D : DEnv), (∀ a, N a → Trk H a) ∧ SEnv K N L σ H D ∧ C D ∧ ∀ v H', Dm K N H' v (g D) → Same H H' → Q v H'
def rDs (K : PySem.W.Frag) (L : List Nat) (C : DEnv → Prop) (g : DEnv → List PyData) : TA := fun σ H Q => ∃ (N : Addr → Prop) (D : DEnv), (∀ a, N a → Trk H a) ∧ SEnv K N L σ H D ∧ C D ∧ ∀ vs H', DmAll K N H' vs (g D) → Same H H' → Q vs H'
def asT : PyData → List PyData
  | .tuple ds => ds
  | _ => []
def asL : PyData → List PyData
  | .list ds => ds
  | _ => []
def asS : PyData → Str
  | .str z => z
  | _ => Str.ofString ""
def isLst : PyData → Bool
  | .list _ => true
  | _ => false
theorem tup_eq {d : PyData} (h : isTup d = true) : d = .tuple (asT d) := by
  cases d <;> first | rfl | cases h
theorem lst_eq {d : PyData} (h : isLst d = true) : d = .list (asL d) := by
  cases d <;> first | rfl | cases h
theorem str_eq {d : PyData} (h : isStr d = true) : d = .str (asS d) := by
  cases d <;> first | rfl | cases h
abbrev yes : DEnv → Prop := fun _ => True
section
variable {X : Cx} {L : List Nat} {C C' : DEnv → Prop} {g g' : DEnv → PyData} {gs : DEnv → List PyData} {e e' : Expr} {es : List Expr} {pos : Pos}
theorem pd_var {i : Nat} (hp : PE X e (tVar i)) (hm : i ∈ L) : PE X e (rD X.K L yes fun D => D i) := by
  refine ⟨fun pins s σ H Q I h => hp.run pins s σ H Q I ?_⟩
  obtain ⟨N, D, hN, hs, _, k⟩ := h
  obtain ⟨v, a, b⟩ := hs i hm
  exact ⟨v, a, k v H b (Same.refl H)⟩
theorem pd_of {te : TE} {v : V} {d : PyData} (hp : PE X e te) (h : ∀ (σ : L2.St) (H : Hp) (Q : VK), Q v H → te σ H Q) (hd : ∀ (N : Addr → Prop) (H : Hp), Dm X.K N H v d) : PE X e (rD X.K L yes fun _ => d) := by
  refine ⟨fun pins s σ H Q I h2 => hp.run pins s σ H Q I ?_⟩
  obtain ⟨N, D, hN, hs, _, k⟩ := h2
  exact h σ H Q (k v H (hd N H) (Same.refl H))
theorem pds_nil : PA X [] (rDs X.K L yes fun _ => []) := by
  refine ⟨fun pos pins s σ H Q I h => pa_nil.run pos pins s σ H Q I ?_⟩
  obtain ⟨N, D, hN, hs, _, k⟩ := h
  exact k [] H .nil (Same.refl H)
theorem pds_cons (he : PE X e (rD X.K L C g)) (ha : PA X es (rDs X.K L C' gs)) (hs : starEach (e :: es) X.env = (false, eval e X.env) :: starEach es X.env := by rfl) : PA X (e :: es) (rDs X.K L (fun D => C D ∧ C' D) fun D => g D :: gs D) := by
  refine ⟨fun pos pins s σ H Q I h => (pa_cons he ha hs).run pos pins s σ H Q I ?_⟩
  obtain ⟨N, D, hN, hs, ⟨c1, c2⟩, k⟩ := h
  exact ⟨N, D, hN, hs, c1, fun v H1 dv s1 => ⟨N, D, trk_up hN s1, hs.up (Bt.same s1), c2, fun vs H2 dvs s2 => k (v :: vs) H2 (.cons (dv.up (Bt.same s2)) dvs) (s1.trans s2)⟩⟩
theorem pd_tup {x1} (ha : PA X es (rDs X.K L C gs)) (hl : ∀ D, C D → (gs D).length ≤ sizeLine) : PE X (.Tuple es x1 pos) (rD X.K L C fun D => .tuple (gs D)) := by
  refine ⟨fun pins s σ H Q I h => (pe_tup ha).run pins s σ H Q I ?_⟩
  obtain ⟨N, D, hN, hs, hc, k⟩ := h
  refine ⟨N, D, hN, hs, hc, fun vs H1 dm s1 => ⟨by rw [dm.len]; exact hl D hc, fun p hp => ?_⟩⟩
  exact k _ _ (.tup upd_same (not_new hN s1 hp) (dm.up (Bt.refl.new hp))) (s1.new hp)
theorem pd_lst (ha : PA X es (rDs X.K L C gs)) (hl : ∀ D, C D → (gs D).length ≤ sizeLine) : PE X (.List es pos) (rD X.K L C fun D => .list (gs D)) := by
  refine ⟨fun pins s σ H Q I h => (pe_lst ha).run pins s σ H Q I ?_⟩
  obtain ⟨N, D, hN, hs, hc, k⟩ := h
  refine ⟨N, D, hN, hs, hc, fun vs H1 dm s1 => ⟨by rw [dm.len]; exact hl D hc, fun p hp => ?_⟩⟩
  exact k _ _ (.lst upd_same (not_new hN s1 hp) (dm.up (Bt.refl.new hp))) (s1.new hp)
/-- a + b, lists -/
theorem pd_catL (ha : PE X e (rD X.K L C g)) (hb : PE X e' (rD X.K L C' g')) : PE X (.BinOp e .Add e' pos) (rD X.K L (fun D => (C D ∧ C' D) ∧ isLst (g D) = true ∧ isLst (g' D) = true ∧ (asL (g D)).length + (asL (g' D)).length ≤ 100000) fun D => .list (asL (g D) ++ asL (g' D))) := by
  refine ⟨fun pins s σ H Q I h => (pe_op op_cat ha hb).run pins s σ H Q I ?_⟩
  obtain ⟨N, D, hN, hs, ⟨⟨c1, c2⟩, i1, i2, hl⟩, k⟩ := h
  refine ⟨N, D, hN, hs, c1, fun v H1 dv s1 => ⟨N, D, trk_up hN s1, hs.up (Bt.same s1), c2, fun u H2 du s2 => ?_⟩⟩
  have dv2 := dv.up (Bt.same s2)
  rw [lst_eq i1] at dv2
  rw [lst_eq i2] at du
  cases dv2 with
  | lst h1 n1 a1 =>
    cases du with
    | lst h2 n2 a2 =>
      have l1 := a1.len
      have l2 := a2.len
      refine ⟨_, _, _, _, rfl, rfl, h1, h2, by rw [sizeLine_eq, l1, l2]; exact Nat.le_trans hl (by decide), fun p hp => ?_⟩
      have s3 := s1.trans s2
      exact k _ _ (.lst upd_same (not_new hN s3 hp) ((a1.up (Bt.refl.new hp)).app (a2.up (Bt.refl.new hp)))) (s3.new hp)
def cutP (ds : List PyData) (lo hi : Option Int) : List PyData := (ds.drop (HT.sIx ds.length 0 lo)).take (HT.sIx ds.length ds.length hi - HT.sIx ds.length 0 lo)
def rSlD (K : PySem.W.Frag) : V → Option Int → Option Int → Hp → VK → Prop := fun x lo hi H Q => ∃ (N : Addr → Prop) (ds : List PyData), Dm K N H x (.tuple ds) ∧ (∀ a, N a → Trk H a) ∧ ∀ u H', Dm K N H' u (.tuple (cutP ds lo hi)) → Same H H' → Q u H'
theorem sl_dm : SlR X (rSlD X.K) := by
  intro pins s σ H x v vl vu lo hi sl Q I rx hs pl pu h
  obtain ⟨N, ds, hx, hN, k⟩ := h
  obtain ⟨a, xs, rfl, ta, al⟩ := hx.seq
  have lx := al.len
  refine sl_tupA pins s σ H _ v vl vu lo hi sl Q I rx hs pl pu ⟨a, xs, rfl, ta.sq, fun hw => ?_, fun hw p hp => ?_⟩
  · rw [lx] at hw
    refine k _ _ ?_ (Same.refl H)
    have e : cutP ds lo hi = ds := by
      unfold cutP
      rw [hw.1, hw.2, List.drop_zero, Nat.sub_zero, List.take_length]
    rw [e]
    exact hx
  · refine k _ _ (.tup upd_same (not_new hN (Same.refl H) hp) ?_) ((Same.refl H).new hp)
    have e : cutV xs lo hi = (xs.drop (HT.sIx ds.length 0 lo)).take (HT.sIx ds.length ds.length hi - HT.sIx ds.length 0 lo) := by
      unfold cutV
      rw [lx]
    rw [e]
    exact ((al.drop _).take _).up (Bt.refl.new hp)
def rCatD (K : PySem.W.Frag) : R2 := fun x y H Q => ∃ (N : Addr → Prop) (ds es : List PyData), Dm K N H x (.tuple ds) ∧ Dm K N H y (.tuple es) ∧ (∀ a, N a → Trk H a) ∧ ds.length + es.length ≤ sizeLine ∧ ∀ u H', Dm K N H' u (.tuple (ds ++ es)) → Same H H' → Q u H'
theorem op_catD : OpR X (binaryOp .Add) (rCatD X.K) := by
  intro pins s σ H x y v u Q I rx ry h
  obtain ⟨N, ds, es, hx, hy, hN, hz, k⟩ := h
  obtain ⟨a, xs, rfl, ta, al⟩ := hx.seq
  obtain ⟨b, ys, rfl, tb, bl⟩ := hy.seq
  have lx := al.len
  have ly := bl.len
  refine op_catA pins s σ H _ _ v u Q I rx ry ⟨a, b, xs, ys, rfl, rfl, ta.sq, tb.sq, by omega, fun hx0 => ?_, fun _ hy0 => ?_, fun _ _ p hp => ?_⟩
  · subst hx0
    cases al
    exact k _ _ hy (Same.refl H)
  · subst hy0
    cases bl
    refine k _ _ ?_ (Same.refl H)
    rw [List.append_nil]
    exact hx
  · exact k _ _ (.tup upd_same (not_new hN (Same.refl H) hp) ((al.up (Bt.refl.new hp)).app (bl.up (Bt.refl.new hp)))) ((Same.refl H).new hp)
/-- a + b, tuples -/
theorem pd_catT (ha : PE X e (rD X.K L C g)) (hb : PE X e' (rD X.K L C' g')) : PE X (.BinOp e .Add e' pos) (rD X.K L (fun D => (C D ∧ C' D) ∧ isTup (g D) = true ∧ isTup (g' D) = true ∧ (asT (g D)).length + (asT (g' D)).length ≤ 100000) fun D => .tuple (asT (g D) ++ asT (g' D))) := by
  refine ⟨fun pins s σ H Q I h => (pe_op op_catD ha hb).run pins s σ H Q I ?_⟩
  obtain ⟨N, D, hN, hs, ⟨⟨c1, c2⟩, i1, i2, hl⟩, k⟩ := h
  refine ⟨N, D, hN, hs, c1, fun v H1 dv s1 => ⟨N, D, trk_up hN s1, hs.up (Bt.same s1), c2, fun u H2 du s2 => ?_⟩⟩
  have dv2 := dv.up (Bt.same s2)
  rw [tup_eq i1] at dv2
  rw [tup_eq i2] at du
  exact ⟨N, _, _, dv2, du, trk_up hN (s1.trans s2), Nat.le_trans hl (by decide), fun w H3 dw s3 => k w H3 dw ((s1.trans s2).trans s3)⟩
/-- a[lo:hi], a tuple, with bounds that are written -/
theorem pd_cutT {lo hi : Option Expr} {tl th : TO} {l u : Option Int} {p2 : Pos} (ha : PE X e (rD X.K L C g)) (hl : PO X lo tl) (hh : PO X hi th) (h1 : ∀ (σ : L2.St) (H : Hp) (Q : Option Int → Hp → Prop), Q l H → tl σ H Q) (h2 : ∀ (σ : L2.St) (H : Hp) (Q : Option Int → Hp → Prop), Q u H → th σ H Q) :
    PE X (.Subscript e (.Slice lo hi none p2) pos) (rD X.K L (fun D => C D ∧ isTup (g D) = true) fun D => .tuple (cutP (asT (g D)) l u)) := by
  refine ⟨fun pins s σ H Q I h => (pe_slice sl_dm ha hl hh).run pins s σ H Q I ?_⟩
  obtain ⟨N, D, hN, hs, ⟨c1, i1⟩, k⟩ := h
  refine ⟨N, D, hN, hs, c1, fun v H1 dv s1 => h1 _ _ _ (h2 _ _ _ ?_)⟩
  rw [tup_eq i1] at dv
  exact ⟨N, _, dv, trk_up hN s1, fun w H3 dw s3 => k w H3 dw (s1.trans s3)⟩
/-- a[::-1], a tuple -/
theorem pd_revT {k0 : Nat} {p1 p2 p3 : Pos} (ha : PE X e (rD X.K L C g)) : PE X (.Subscript e (.Slice none none (some (.UnaryOp .USub (.Constant (.int 1) k0 p1) p2)) p3) pos) (rD X.K L (fun D => C D ∧ isTup (g D) = true) fun D => .tuple (asT (g D)).reverse) := by
  refine ⟨fun pins s σ H Q I h => (pe_revT ha).run pins s σ H Q I ?_⟩
  obtain ⟨N, D, hN, hs, ⟨c1, i1⟩, k⟩ := h
  refine ⟨N, D, hN, hs, c1, fun v H1 dv s1 => ?_⟩
  rw [tup_eq i1] at dv
  obtain ⟨a, xs, rfl, ta, al⟩ := dv.seq
  exact ⟨a, xs, rfl, ta.sq, fun p hp => k _ _ (.tup upd_same (not_new hN s1 hp) (al.rev.up (Bt.refl.new hp))) (s1.new hp)⟩
/-- list(a), a tuple -/
theorem pd_listT {p : Pos} (ha : PE X e (rD X.K L C g)) (hg : Gl X "list") (hm : X.mg "list" = none) (he : starEach [e] X.env = (false, eval e X.env) :: starEach [] X.env := by rfl) : PE X (.Call (.Name "list" p) [e] [] pos) (rD X.K L (fun D => C D ∧ isTup (g D) = true) fun D => .list (asT (g D))) := by
  refine ⟨fun pins s σ H Q I h => (pe_callTy call_list_of hg hm (by decide +kernel) (pa_cons ha pa_nil he) (by decide) (by decide) he rfl).run pins s σ H Q I ?_⟩
  obtain ⟨N, D, hN, hs, ⟨c1, i1⟩, k⟩ := h
  refine ⟨N, D, hN, hs, c1, fun v H1 dv s1 => ?_⟩
  rw [tup_eq i1] at dv
  obtain ⟨a, xs, rfl, ta, al⟩ := dv.seq
  exact ⟨a, xs, rfl, .inr ta.sq, fun p hp => k _ _ (.lst upd_same (not_new hN s1 hp) (al.up (Bt.refl.new hp))) (s1.new hp)⟩
/-- a + b, texts -/
theorem pd_addS (ha : PE X e (rD X.K L C g)) (hb : PE X e' (rD X.K L C' g')) : PE X (.BinOp e .Add e' pos) (rD X.K L (fun D => (C D ∧ C' D) ∧ isStr (g D) = true ∧ isStr (g' D) = true ∧ (asS (g D)).length + (asS (g' D)).length ≤ 1000000) fun D => .str (asS (g D) ++ asS (g' D))) := by
  refine ⟨fun pins s σ H Q I h => (pe_op op_add_str ha hb).run pins s σ H Q I ?_⟩
  obtain ⟨N, D, hN, hs, ⟨⟨c1, c2⟩, i1, i2, hl⟩, k⟩ := h
  refine ⟨N, D, hN, hs, c1, fun v H1 dv s1 => ⟨N, D, trk_up hN s1, hs.up (Bt.same s1), c2, fun u H2 du s2 => ?_⟩⟩
  rw [str_eq i1] at dv
  rw [str_eq i2] at du
  exact ⟨_, _, dv.strV, du.strV, Nat.le_trans hl (by decide), k _ _ (.str _) (s1.trans s2)⟩
/-- a[lo:hi], a text, with bounds that are written -/
theorem pd_cutS {lo hi : Option Expr} {tl th : TO} {l u : Option Int} {p2 : Pos} (ha : PE X e (rD X.K L C g)) (hl : PO X lo tl) (hh : PO X hi th) (h1 : ∀ (σ : L2.St) (H : Hp) (Q : Option Int → Hp → Prop), Q l H → tl σ H Q) (h2 : ∀ (σ : L2.St) (H : Hp) (Q : Option Int → Hp → Prop), Q u H → th σ H Q) :
    PE X (.Subscript e (.Slice lo hi none p2) pos) (rD X.K L (fun D => C D ∧ isStr (g D) = true ∧ (asS (g D)).length ≤ 1000000) fun D => .str (cutS (asS (g D)) l u)) := by
  refine ⟨fun pins s σ H Q I h => (pe_slice sl_str ha hl hh).run pins s σ H Q I ?_⟩
  obtain ⟨N, D, hN, hs, ⟨c1, i1, hz⟩, k⟩ := h
  refine ⟨N, D, hN, hs, c1, fun v H1 dv s1 => h1 _ _ _ (h2 _ _ _ ?_)⟩
  rw [str_eq i1] at dv
  exact ⟨_, dv.strV, Nat.le_trans hz (by decide), k _ _ (.str _) s1⟩
end
end K1

/-! own exception classes over any built-in one, made with values and keywords -/
namespace PySem
namespace Exm
open PyProof.Rows
section
variable {M : Model} {A : Around} {E : Value → Shared → Prop} {hp : Heap} {gs : Array GenState} {dr : Drawn} {tk : Nat} {os : OsState}
variable {nm q : Str} {C N : Addr} {bs bm bmB : List Value} {hdct : Bool} {sn : List Str} {sub : List Value} {ab : Bool} {col : Option Bool} {dd : Option Addr} {k0 k1 k2 k3 k5 : Option Value} {B newId initId : String}
theorem checkNew (FB : ExcBaseFacts B newId initId bmB) (tB : bm.contains (.type B) = true) (tA : bm.contains (.type "AttributeError") = false) (tN : bm.contains (.type "NameError") = false) {us : List Value} {kw : List (Str × Value)} {Q : Unit → Shared → Prop}
    (cls : hp.get? C = some (excClassObj nm q C N bs bm hdct sn sub ab col dd k0 k1 k2 k3 k5 newId)) (fin : Q () ⟨hp, gs, dr, tk, os⟩) :
    wpAny M A (checkBuiltinCall newId ⟨.ref C :: us, kw⟩) Q E ⟨hp, gs, dr, tk, os⟩ := by
  have hb : (Value.ref C :: bm).contains (.type B) = true := by
    rw [List.contains_cons, tB]
    simp
  have hs := FB.noStar
  simp only [checkBuiltinCall, FB.newKind, FB.newSplit, FB.newRow]
  repeat (first
    | refine wpAny_loadPart_at cls ?_
    | (refine wpAny_isSubtype_exc cls ?_; rw [hb])
    | refine wpAny_staticBase_exc cls ?_
    | refine wpAny_madeBy_exc cls ?_
    | simp only [bne_self_eq_false, Bool.false_eq_true, if_false]
    | wp_step)
  exact fin
end
section
variable {prog : Program} {w : World} {A : Around} {E : Value → Shared → Prop} {R : Result → Shared → Prop} {hp : Heap} {gs : Array GenState} {dr : Drawn} {tk : Nat} {os : OsState}
variable {nm q : Str} {C N : Addr} {bs bm bmB : List Value} {hdct : Bool} {sn : List Str} {sub : List Value} {ab : Bool} {col : Option Bool} {dd : Option Addr} {k0 k1 k2 k3 k5 : Option Value} {B newId initId : String}
theorem runNew (FB : ExcBaseFacts B newId initId bmB) (tB : bm.contains (.type B) = true) (tA : bm.contains (.type "AttributeError") = false) (tN : bm.contains (.type "NameError") = false) {us : List Value} {kw : List (Str × Value)}
    (cls : hp.get? C = some (excClassObj nm q C N bs bm hdct sn sub ab col dd k0 k1 k2 k3 k5 newId)) (few : us.length ≤ sizeLine)
    (fin : R (.ok (.ret (.ref (hp.objs.size + 1)))) ⟨(hp.push (W.kdv_tup us)).push (HandSPX.excO C hp.objs.size), gs, dr, tk, os⟩) :
    codeAny (model prog w) A (.builtin newId ⟨.ref C :: us, kw⟩) R ⟨hp, gs, dr, tk, os⟩ := by
  have en := FB.ends
  have c1 : (Value.ref C :: bm).contains (.type B) = true := by
    rw [List.contains_cons, tB]
    simp
  have c2 : (Value.ref C :: bm).contains (.type "AttributeError") = false := by
    rw [List.contains_cons, tA]
    rfl
  have c3 : (Value.ref C :: bm).contains (.type "NameError") = false := by
    rw [List.contains_cons, tN]
    rfl
  refine codeAny_builtinAt FB.entry ?_
  unfold Builtin.«BaseException.__new__»
  refine wpAt_bind ?_
  show wpAt _ _ _ (stack >>= _) _ _ _
  refine wpAt_bind (wpAt_stack fun top low => wpAt_of_wpAny ?_)
  wp_walk
  refine wpAt_of_wpAny ?_
  rw [FB.owner]
  repeat (first
    | with_reducible refine wpAny_madeHere_exc FB.canon cls ?_
    | with_reducible refine wpAny_loadPart_at cls ?_
    | (with_reducible refine wpAny_isSubtype_exc cls ?_; first | rw [c1] | rw [c2] | rw [c3])
    | wp_step)
  show R _ _
  rw [Heap.size_push]
  exact fin
theorem runTypeCall (FB : ExcBaseFacts B newId initId bmB) (tB : bm.contains (.type B) = true) (tA : bm.contains (.type "AttributeError") = false) (tN : bm.contains (.type "NameError") = false) {us : List Value} {kw : List (Str × Value)} {fI : Addr} {Q : Fin → Shared → Prop}
    (cls : hp.get? C = some (excClassObj nm q C N bs bm hdct sn sub ab col dd k0 k1 k2 k3 k5 newId)) (few : us.length ≤ sizeLine)
    (li : W.Looks (model prog w) hp (typeLookup (.ref C) "__init__") (some (.ref fI))) (bi : ∀ self, W.Looks (model prog w) hp (bindSpecial (.ref fI) self) (.ref fI, [self]))
    (fin : codeAny (model prog w) A (.call (.ref fI) ⟨.ref (hp.objs.size + 1) :: us, kw⟩)
      (fun r s' => match r with | .ok (.ret v) => v = .none ∧ Q (.done (.ret (.ref (hp.objs.size + 1)))) s' | .ok _ => False | .error x => E x s')
      ⟨(hp.push (W.kdv_tup us)).push (HandSPX.excO C hp.objs.size), gs, dr, tk, os⟩) :
    wpAny (model prog w) A (Builtin.«type.__call__» ⟨.ref C :: us, kw⟩) Q E ⟨hp, gs, dr, tk, os⟩ := by
  repeat (first
    | with_reducible refine wpAny_loadPart_at cls ?_
    | with_reducible refine wpAny_madeBy_exc cls ?_
    | wp_step)
  refine codeAny_call_builtin_code (Code.quiet_builtin _ FB.quiet) (checkNew FB tB tA tN cls ?_)
  refine runNew FB tB tA tN cls few ?_
  show wpAny _ _ _ _ _ _
  have up : ∀ b o, hp.get? b = some o → ((hp.push (W.kdv_tup us)).push (HandSPX.excO C hp.objs.size)).get? b = some o := fun b o e => Heap.get?_push_of_some _ (Heap.get?_push_of_some _ e)
  have cls2 := up _ _ cls
  have at2 : ((hp.push (W.kdv_tup us)).push (HandSPX.excO C hp.objs.size)).get? (hp.objs.size + 1) = some (HandSPX.excO C hp.objs.size) := by heap_get
  have cc : (Value.ref C :: bm).contains (.ref C) = true := by simp
  have li2 := li.keeps up
  have bi2 := (bi (.ref (hp.objs.size + 1))).keeps up
  unfold isInstance
  repeat (first
    | with_reducible refine wpAny_loadPart_at at2 ?_
    | (with_reducible refine wpAny_isSubtype_exc cls2 ?_; rw [cc])
    | wp_step)
  show wpAny _ _ (typeLookup (.ref C) _) _ _ _
  refine li2.at ?_
  refine wpAny_holding (wpAny_bind (bi2.at ?_))
  refine wpAny_bind (wpAny_call (codeAny_mono fin fun r s' z => ?_))
  cases r with
  | error x => exact z
  | ok fl =>
    cases fl with
    | ret v =>
      obtain ⟨rfl, z⟩ := z
      first
        | exact wpAny_pure (wpAny_pure z)
        | (wp_walk; exact z)
    | next => exact z.elim
    | brk => exact z.elim
    | cont => exact z.elim
theorem checkTypeCallE {M : Model} {us : List Value} {kw : List (Str × Value)} {Q : Unit → Shared → Prop} (cls : hp.get? C = some (excClassObj nm q C N bs bm hdct sn sub ab col dd k0 k1 k2 k3 k5 newId))
    (fin : Q () ⟨hp, gs, dr, tk, os⟩) : wpAny M A (checkBuiltinCall "type.__call__" ⟨.ref C :: us, kw⟩) Q E ⟨hp, gs, dr, tk, os⟩ := by
  have f3 := tc_sub
  have ty : (⟨hp, gs, dr, tk, os⟩ : Shared).TypeIs (.ref C) "type" := ⟨_, cls, rfl⟩
  simp only [checkBuiltinCall, tc_kind, tc_split]
  repeat (any_goals (first
    | assumption
    | with_reducible refine wpAny_loadPart_at cls ?_
    | with_reducible refine wpAny_onRaise ?_
    | with_reducible refine wpAny_map ?_
    | wp_step))
theorem runCls (FB : ExcBaseFacts B newId initId bmB) (tB : bm.contains (.type B) = true) (tA : bm.contains (.type "AttributeError") = false) (tN : bm.contains (.type "NameError") = false) {us : List Value} {kw : List (Str × Value)} {fI : Addr}
    (cls : hp.get? C = some (excClassObj nm q C N bs bm hdct sn sub ab col dd k0 k1 k2 k3 k5 newId)) (few : us.length ≤ sizeLine)
    (li : W.Looks (model prog w) hp (typeLookup (.ref C) "__init__") (some (.ref fI))) (bi : ∀ self, W.Looks (model prog w) hp (bindSpecial (.ref fI) self) (.ref fI, [self]))
    (fin : codeAny (model prog w) (A.under (.builtin "type.__call__" ⟨.ref C :: us, kw⟩)) (.call (.ref fI) ⟨.ref (hp.objs.size + 1) :: us, kw⟩) (W.InitBack (hp.objs.size + 1) R)
      ⟨(hp.push (W.kdv_tup us)).push (HandSPX.excO C hp.objs.size), gs, dr, tk, os⟩) :
    codeAny (model prog w) A (.call (.ref C) ⟨us, kw⟩) R ⟨hp, gs, dr, tk, os⟩ := by
  have f1 := tc_lookup
  have f2 := tc_bind (.ref C)
  have ty : (⟨hp, gs, dr, tk, os⟩ : Shared).TypeIs (.ref C) "type" := ⟨_, cls, rfl⟩
  refine codeAny_of_tree ?_
  show wpAny _ _ (callAny (.ref C) _) _ _ _
  repeat (any_goals (first
    | assumption
    | with_reducible refine wpAny_loadPart_at cls ?_
    | wp_step))
  refine ⟨rfl, ?_⟩
  refine codeAny_call_builtin_at (Code.quiet_builtin _ (by decide +kernel)) entry_typeCall (checkTypeCallE cls (runTypeCall FB tB tA tN cls few li bi ?_))
  refine codeAny_mono fin fun r s' z => ?_
  cases r with
  | error x => exact z
  | ok fl => cases fl <;> exact z
end
end Exm
end PySem

namespace PySem
namespace Exm
open PyProof.Rows Builtin Builtin.ObjectAttr
section
variable {prog : Program} {w : World} {A : Around} {E : Value → Shared → Prop} {R : Result → Shared → Prop} {hp : Heap} {gs : Array GenState} {dr : Drawn} {tk : Nat} {os : OsState} {bmB : List Value} {B : String}
/-- the first store into an exception's own dict -/
theorem storeFirst {K : W.Frag} {name : Str} {t1 : Tok} {v : Value} {x C : Addr} {fv : Array Value} {cd : ClassData} (SB : StoreFacts B bmB "object.__setattr__" "object")
    (X : K.In hp) (hx : hp.get? x = some { cls := .ref C, data := .fields fv }) (ov : W.excOver K C bmB = true) (hcd : W.clsIn K C = some cd) (hh : cd.hasDict = true) (ha : W.takerIn K C name = some none)
    (fin : ∀ h' t' dx, (∀ b o, b ≠ x → hp.get? b = some o → h'.get? b = some o) → hp.objs.size ≤ dx → dx ≠ x → h'.get? x = some { cls := .ref C, dict := some dx, data := .fields fv } →
      h'.Ns1 dx (fun y => if y = name then some v else none) → R (.ok (.ret .none)) ⟨h', gs, dr, t', os⟩) :
    codeAny (model prog w) A (.call (.builtin "object.__setattr__") ⟨[.ref x, .str name t1, v], []⟩) R ⟨hp, gs, dr, tk, os⟩ := by
  have I : W.InstAt hp x { cls := .ref C, data := .fields fv } C none := ⟨hx, rfl, rfl, trivial⟩
  have far : x ≠ hp.objs.size := Nat.ne_of_lt (Heap.lt_size hx)
  have cl : W.Looks (model prog w) hp (classData C) cd := W.looks_clsIn X hcd
  refine W.osa_openX SB X I ov ha fun b => ?_
  show wpAny _ _ (storeInOwnDict (.ref x) (.ref C) (.str name t1) name v b) _ _ _
  obtain ⟨nm, bs, mro, ns, qn, hd, sn, sb, ab, col, del⟩ := cd
  dsimp only at hh
  subst hh
  unfold storeInOwnDict ownDictForStores
  repeat (first
    | with_reducible refine HandSPX.store_in_new ?_ ?_
    | with_reducible refine wpAny_loadPart_at hx ?_
    | with_reducible refine cl.at ?_
    | wp_step)
  · exact ⟨_, #[], _, (Heap.get?_update_ne _ _ _ _ far.symm).trans (Heap.get?_push_at rfl rfl), rfl, fun e he => absurd he (by simp), fun _ => rfl⟩
  · intro h' t' hn hs
    have old : (hp.push { cls := .type "dict", data := .dict #[] }).get? x = some { cls := .ref C, data := .fields fv } := Heap.get?_push_of_some _ hx
    refine fin h' t' hp.objs.size (fun c o hc ho => ?_) (Nat.le_refl _) far.symm ?_ hn
    · have e1 := hs.2 c (Nat.ne_of_lt (Heap.lt_size ho))
      exact e1.trans ((Heap.get?_update_ne _ _ _ _ hc).trans (Heap.get?_push_of_some _ ho))
    · have e1 := hs.2 x far
      exact e1.trans (Heap.get?_update_self _ old rfl)
end
end Exm
end PySem

/-! own exceptions as values: rules over the hand layer -/
namespace Exv
open PySem L2
/-- what the written part says of such a class: at C, its __init__ at fI stores the one field -/
structure ExT (K : PySem.W.Frag) (C fI : Addr) (fld : Str) (bmB : List Value) (newId : String) : Prop where
  ini : PySem.W.excInitIn K C bmB newId = true
  over : PySem.W.excOver K C bmB = true
  init : PySem.W.findIn K (.ref C) "__init__" = some (some (.ref fI))
  fn : PySem.W.typeIn K (.ref fI) = some (.type "function")
  sa : PySem.W.findIn K (.ref C) "__setattr__" = some (some (.builtin "object.__setattr__"))
  no : PySem.W.findIn K (.ref C) fld = some none
  hd : PySem.W.hasDictIn K C = true
  ga : PySem.W.findIn K (.ref C) "__getattribute__" = some (some (.builtin "BaseException.__getattribute__"))
  gg : PySem.W.findIn K (.ref C) "__getattr__" = some none
  ex : PySem.W.subIn K (.ref C) (.type "BaseException") = some true
  kp : PySem.W.keepIn K (.ref C) = true
section
variable {X : Cx} {pins : List (Addr × Obj)} {σ : St} {H : Hp} {s : Shared} {a C fI : Addr} {f : Str} {y : V} {u : Value} {Q : Unit → Shared → Prop} {E : Value → Shared → Prop} {A : Around} {B newId initId : String} {bmB bmF : List Value}
theorem taker_none {K : PySem.W.Frag} (h : PySem.W.findIn K (.ref C) f = some none) : PySem.W.takerIn K C f = some none := by
  unfold PySem.W.takerIn
  rw [h]
  rfl
/-- self.f = y, the first store -/
theorem put_field (T : ExT X.K C fI f bmB newId) (SB : StoreFacts B bmB "object.__setattr__" "object") (I : Inv X pins σ H s) (e : H a = some (exo a C none)) (ry : RelV y u)
    (h : ∀ dx s', H dx = none → dx ≠ a → Inv X pins σ (upd (upd H dx (exd dx [(f, y)])) a (exo a C (some dx))) s' → Q () s') : wpAny (model X.prog X.w) A (setAttr (.ref a) f u) Q E s := by
  obtain ⟨cd, hcd, hh⟩ := PySem.W.any_some T.hd
  obtain ⟨t1, ho⟩ := exo_at I.hok e
  obtain ⟨hp, gs, dr, tk, os⟩ := s
  refine PySem.W.set_plain I.kIn (ox := HandSPX.excO C t1) (od := none) ⟨ho, rfl, rfl, trivial⟩ T.sa ?_
  refine PySem.Exm.storeFirst SB I.kIn ho T.over hcd hh (taker_none T.no) fun h' t' dx old far ne hx hn => ?_
  have free : H dx = none := I.hok.fresh far
  have notD : ∀ {b : Addr} {o : Obj}, hp.get? b = some o → b ≠ dx := fun {b o} q => Nat.ne_of_lt (Nat.lt_of_lt_of_le (Heap.lt_size q) far)
  have notA : ∀ {b : Addr}, H b = none → b ≠ a := fun {b} n z => by
    rw [z, e] at n
    exact absurd n (by simp)
  have un : Un X.fs [] H (upd (upd H dx (exd dx [(f, y)])) a (exo a C (some dx))) hp h' := {
    keep := fun b o q n _ _ => old b o (notA n) q
    slot := fun b o q n _ _ => ⟨_, old b o (notA n) q⟩
    free := fun b o q n _ => by
      rw [upd_ne (notA n), upd_ne (notD q)]
      exact n
    there := fun b o q _ => by
      by_cases hb : b = a
      · exact ⟨_, hb ▸ hx⟩
      · exact ⟨_, old b o hb q⟩
    tups := fun b xs q => by
      rw [upd_ne (at_ne e q exo_tup), upd_ne (ne_of_none q free)]
      exact q
    frzs := fun b o v q => by
      rw [upd_ne (at_ne e q exo_frz), upd_ne (ne_of_none q free)]
      exact q
    tbls := fun b ps q => ⟨#[], by
      rw [upd_ne (at_ne e q exo_tbl), upd_ne (ne_of_none q free), q]
      simp⟩ }
  refine h dx _ free ne (I.un (t' := t') un fun b o q => ?_)
  by_cases hb : b = a
  · subst hb
    rw [upd_same] at q
    cases q
    exact exo_ok hx
  · rw [upd_ne hb] at q
    by_cases hd : b = dx
    · subst hd
      rw [upd_same] at q
      cases q
      exact exd_ok hn (relO_put (fs := []) ry fun g => True.intro)
    · rw [upd_ne hd] at q
      refine (I.hok b o q).stay (fun c v hc z => old c v ?_ z) (fun c hc => ?_) fun c xs hc => ?_
      · rcases hc with rfl | hc
        · exact hb
        · exact at_ne e hc exo_own
      · rw [upd_ne (at_ne e hc exo_own), upd_ne (ne_of_none hc free)]
        exact hc
      · rw [upd_ne (at_ne e hc exo_tup), upd_ne (ne_of_none hc free)]
        exact hc
end
/-- the built-in classes behind an own one: the maker's class among them -/
structure Base3 (bm : List Value) (B : String) : Prop where
  b : bm.contains (.type B) = true
  a : bm.contains (.type "AttributeError") = false
  n : bm.contains (.type "NameError") = false
/-- self.f = e in an __init__ -/
def tPutE (C : Addr) (f : Str) (to te : TE) : TS := fun D σ H => te σ H fun y H1 => to σ H1 fun x H2 => ∃ a : Addr, x = .ref a ∧ H2 a = some (exo a C none) ∧
  ∀ dx, H2 dx = none → dx ≠ a → D.nx σ (upd (upd H2 dx (exd dx [(f, y)])) a (exo a C (some dx)))
section
variable {X : Cx} {o e : Expr} {es : List Expr} {to te : TE} {ta : TA} {f x : Str} {p p' p1 p2 pos : Pos} {C fI : Addr} {B newId initId : String} {bmB bmF : List Value}
theorem ps_putE (T : ExT X.K C fI f bmB newId) (SB : StoreFacts B bmB "object.__setattr__" "object") (ho : PE X o to) (he : PE X e te) (hs : swapsWith e (some (.Attribute o f p')) pos.line X.env = pure false := by rfl) :
    PS X (.Assign [.Attribute o f p'] e pos) (tPutE C f to te) := by
  refine ⟨fun pins s σ H D I h => ?_⟩
  refine plainObj_wpAny_Assign_Attribute (thn (he.run pins s σ H _ I h) fun v s1 ⟨y, H1, I1, r1, q1⟩ => thn (ho.run pins s1 σ H1 _ I1 q1) fun u s2 ⟨z, H2, I2, r2, a, ez, ea, q⟩ => ?_) hs
  subst ez
  cases (show u = Value.ref a from r2)
  exact put_field T SB I2 ea r1 fun dx s' n ne J => ⟨σ, _, J, q dx n ne⟩
/-- a call of the class: the new exception, its __init__ run -/
theorem run_ex {CX : CXT} {pins : List (Addr × Obj)} {σ : St} {H : Hp} {s : Shared} {Q : VK} {us : List Value} {v : V} {u : Value} {k : Nat} {fd : FuncData} {ps : List Str} {sp : Sp} {kw : List (Str × Value)}
    (T : ExT X.K C fI f bmB newId) (FB : ExcBaseFacts B newId initId bmF) (hB : Base3 bmB B) (F : FnOk X.prog X.w X.K X.mg X.base CX k fI fd ps sp) (hr : Room (k + 1) X.A) (hx : Passes CX X E0)
    (I : Inv X pins σ H s) (few : us.length ≤ 1000) (rv : RelV v u) (hb : ∀ (s : Shared) (a : Addr), X.K.In s.heap → BindsTo s fd ⟨.ref a :: us, kw⟩ (ps.zip [.ref a, u]))
    (h : ∀ a, H a = none → sp [.ref a, v] (upd H a (exo a C none)) (fun z H2 => z = .non ∧ Q (.ref a) H2) E0) :
    wpAny (model X.prog X.w) X.A (call (.ref C) us kw) (EP X pins σ Q) X.xe s := by
  obtain ⟨nm, N, qn, bs, bm, hdct, sn, sub, ab, col, dd, k0, k1, k2, k3, k5, hC, tl⟩ := PySem.W.excInit_of I.kIn T.ini
  obtain ⟨hp, gs, dr, tk, os⟩ := s
  have sz : hp.objs.size ≤ hp.objs.size + 1 := Nat.le_succ _
  have new : H (hp.objs.size + 1) = none := I.hok.fresh sz
  have hq := h _ new
  have up : ∀ b o, hp.get? b = some o → ((hp.push (PySem.W.kdv_tup us)).push (HandSPX.excO C hp.objs.size)).get? b = some o := fun b o e => Heap.get?_push_of_some _ (Heap.get?_push_of_some _ e)
  have at2 : ((hp.push (PySem.W.kdv_tup us)).push (HandSPX.excO C hp.objs.size)).get? (hp.objs.size + 1) = some (HandSPX.excO C hp.objs.size) := by heap_get
  have I2 : Inv X pins σ (upd H (hp.objs.size + 1) (exo (hp.objs.size + 1) C none)) ⟨(hp.push (PySem.W.kdv_tup us)).push (HandSPX.excO C hp.objs.size), gs, dr, tk, os⟩ :=
    I.laid (t' := tk) (a := hp.objs.size + 1) (o := exo (hp.objs.size + 1) C none) up sz (exo_ok at2)
  have r2 : Vals [V.ref (hp.objs.size + 1), v] [Value.ref (hp.objs.size + 1), u] := .cons rfl (.cons rv .nil)
  have fewS : us.length ≤ sizeLine := by
    rw [sizeLine_eq]
    omega
  refine wpAny_call (PySem.Exm.runCls FB ((tl B).trans hB.b) ((tl _).trans hB.a) ((tl _).trans hB.n) hC fewS (PySem.W.looks_findIn I.kIn T.init) (fun self => PySem.W.bind_fn I.kIn self T.fn)
    (codeAny_mono (F.run _ X.stack _ _ ⟨Value.ref (hp.objs.size + 1) :: us, kw⟩ _ _ _ E0 (hr.make C us kw) (I2.env0.make C us kw) (hb _ _ I2.kIn) r2 hq) fun r s' q => ?_))
  cases r with
  | error x => exact hx pins σ _ _ x s' I2 q
  | ok fl =>
    cases fl with
    | ret w =>
      obtain ⟨z, H', J, rz, ez, q3⟩ := I2.after q
      subst ez
      exact ⟨rz, ⟨V.ref (hp.objs.size + 1), H', J, rfl, q3⟩⟩
    | next => exact q.elim
    | brk => exact q.elim
    | cont => exact q.elim
end
end Exv

namespace Exv
open PySem L2
/-- C(v), C(f=v): what the new exception's __init__ is to bring -/
def tNewE (C : Addr) (sp : Sp) (ta : TA) : TE := fun σ H Q => ta σ H fun vs H1 => ∃ v, vs = [v] ∧ ∀ a, H1 a = none → sp [.ref a, v] (upd H1 a (exo a C none)) (fun z H2 => z = .non ∧ Q (.ref a) H2) E0
section
variable {X : Cx} {o e : Expr} {ta : TA} {f x : Str} {p pos kpos : Pos} {C fI : Addr} {B newId initId : String} {bmB bmF : List Value} {CX : CXT} {k : Nat} {fd : FuncData} {ps : List Str} {sp : Sp}
theorem pe_newE (T : ExT X.K C fI f bmB newId) (FB : ExcBaseFacts B newId initId bmF) (hB : Base3 bmB B) (F : FnOk X.prog X.w X.K X.mg X.base CX k fI fd ps sp) (hr : Room (k + 1) X.A) (hx : Passes CX X E0) (hg : Gl X x) (hm : X.mg x = some (.ref C))
    (hb : ∀ (s : Shared) (a : Addr) (u : Value), X.K.In s.heap → BindsTo s fd ⟨[.ref a, u], []⟩ (ps.zip [.ref a, u])) (ha : PA X [e] ta)
    (hdb : (x == ("__debug__" : Str)) = false := by decide) (hs : starEach [e] X.env = (false, eval e X.env) :: starEach [] X.env := by rfl) (hpl : (backTo pos (starEach [] X.env)).any (·.1) = false := by rfl) :
    PE X (.Call (.Name x p) [e] [] pos) (tNewE C sp ta) := by
  refine ⟨fun pins s σ H Q I h => ?_⟩
  refine wpAny_Call_Name_kw (ld_glob I hg hm ?_ hdb)
  refine PySem.W.callWith_K (h₀ := X.base) I.ok.mod.kin T.kp (thn (ha.run pos pins s σ H _ I h) fun us s1 ⟨vs, H1, I1, r, v, ev, q⟩ => ⟨I1.kIn, ?_⟩) hs hpl
  subst ev
  cases r with
  | cons rv rn =>
    cases rn
    exact run_ex T FB hB F hr hx I1 (by show 1 ≤ 1000; decide) rv (fun s a X' => hb s a _ X') q
theorem pe_newEK (T : ExT X.K C fI f bmB newId) (FB : ExcBaseFacts B newId initId bmF) (hB : Base3 bmB B) (F : FnOk X.prog X.w X.K X.mg X.base CX k fI fd ps sp) (hr : Room (k + 1) X.A) (hx : Passes CX X E0) (hg : Gl X x) (hm : X.mg x = some (.ref C))
    (hb : ∀ (s : Shared) (a : Addr) (u : Value), X.K.In s.heap → BindsTo s fd ⟨[.ref a], [(f, u)]⟩ (ps.zip [.ref a, u])) (hkw : PK X [⟨some f, e, kpos⟩] ta)
    (hall : (backToKw pos (keywordEach [⟨some f, e, kpos⟩] X.env)).all (·.1.isSome) = true := by rfl) (hks : (backToKw pos (keywordEach [⟨some f, e, kpos⟩] X.env)).filterMap (·.1) = [f] := by rfl) (hdb : (x == ("__debug__" : Str)) = false := by decide)
    (hpl : ((backTo pos (starEach [] X.env)).any (·.1) || (backToKw pos (keywordEach [⟨some f, e, kpos⟩] X.env)).any (·.1.isNone)) = false := by rfl) :
    PE X (.Call (.Name x p) [] [⟨some f, e, kpos⟩] pos) (tNewE C sp ta) := by
  refine ⟨fun pins s σ H Q I h => ?_⟩
  refine wpAny_Call_Name_kw (ld_glob I hg hm ?_ hdb)
  refine PySem.W.callWith_KW0 (h₀ := X.base) I.ok.mod.kin T.kp hall ?_ hpl
  refine thn (hkw.run pos pins s σ H _ I h) fun ws s2 ⟨zs, H2, I2, rz, v, ev, q⟩ => ⟨I2.kIn, ?_⟩
  rw [hks]
  subst ev
  cases rz with
  | cons rv rn =>
    cases rn
    exact run_ex (us := []) T FB hB F hr hx I2 (Nat.zero_le _) rv (fun s a X' => hb s a _ X') q
/-- C(), an own exception class without __init__ -/
theorem pe_new0 {bmC : List Value} (FB : ExcBaseFacts B newId initId bmB) (q : PySem.W.excIn X.K C bmB newId = true) (kp : PySem.W.keepIn X.K (.ref C) = true) (hg : Gl X x) (hm : X.mg x = some (.ref C)) (hdb : (x == ("__debug__" : Str)) = false := by decide) :
    PE X (.Call (.Name x p) [] [] pos) (fun _ H Q => ∀ a, H a = none → Q (.ref a) (upd H a (exo a C none))) := by
  refine ⟨fun pins s σ H Q I h => ?_⟩
  refine wpAny_Call_Name_kw (ld_glob I hg hm ?_ hdb)
  refine PySem.W.callWith_K0 I.kIn kp ?_
  obtain ⟨bm, N, nm, qn, bs, hdct, sn, sub, ab, col, dd, k0, k1, k2, k3, k5, mN, hC, hN, hni, T⟩ := exc_obj I.kIn q
  refine wpAny_call_exc_subT FB T hC hN hni (fun h' a hm => ?_) (Nat.zero_le _)
  have new : H a = none := I.hok.gone hm.new
  obtain ⟨t, ht, _, _⟩ := hm.there
  exact ⟨.ref a, upd H a (exo a C none), I.laidN hm.keeps hm.new new (exo_ok ht), rfl, h a new⟩
/-- what is asked of an own exception class whose instances are read, or asked about -/
structure IsT (K : PySem.W.Frag) (C : Addr) : Prop where
  hd : PySem.W.hasDictIn K C = true
  ga : PySem.W.findIn K (.ref C) "__getattribute__" = some (some (.builtin "BaseException.__getattribute__"))
  gg : PySem.W.findIn K (.ref C) "__getattr__" = some none
  ex : PySem.W.subIn K (.ref C) (.type "BaseException") = some true
  cl : PySem.W.findIn K (.ref C) "__class__" = some (some (.builtin "object.__class__"))
  sp : PySem.W.specialIn K (.builtin "object.__class__") "__get__" = some (some (.builtin "getset_descriptor.__get__"))
  tk : PySem.W.takesIn K (.builtin "object.__class__") = some true
  mr : PySem.W.mroIn K C (.type "object") = some true
/-- e.f, e an own exception that has the field -/
def tAtE (K : PySem.W.Frag) (f : Str) (te : TE) : TE := fun σ H Q => te σ H fun x H1 => ∃ (a C d : Addr) (fs : List (Str × V)) (v : V), x = .ref a ∧ IsT K C ∧ PySem.W.findIn K (.ref C) f = some none ∧
  H1 a = some (exo a C (some d)) ∧ H1 d = some (exd d fs) ∧ fs.lookup f = some v ∧ Q v H1
theorem pe_atE {te : TE} (he : PE X e te) (hb : attributeBase e f X.env (eval e X.env) = eval e X.env := by rfl) : PE X (.Attribute e f pos) (tAtE X.K f te) := by
  refine ⟨fun pins s σ H Q I h => ?_⟩
  refine attr_of hb (thn (he.run pins s σ H _ I h) fun u s1 ⟨z, H1, I1, r1, a, C, d, fs, v, ez, T, no, ea, ed, l, q⟩ => ?_)
  subst ez
  cases (show u = Value.ref a from r1)
  obtain ⟨t1, ha⟩ := exo_at I1.hok ea
  obtain ⟨mA, hns, rel⟩ := exd_at I1.hok ed
  obtain ⟨od, hod, hl⟩ := lookIn_ns hns
  obtain ⟨w, hw, rw'⟩ := RelO.some_of (v := v) (o := mA f) (by rw [← l]; exact rel f)
  have J : PySem.W.InstAt s1.heap a ({ cls := .ref C, dict := some d, data := .fields #[.ref t1, .none, .none, .none, .bool false, .none] } : Obj) C (some od) := ⟨ha, rfl, rfl, hod⟩
  exact HandSPX.exc_get I1.kIn J T.ga T.gg T.ex (PySem.W.findObj_own T.hd no rfl (by rw [hl, hw])) (handed_of rw') ⟨v, H1, I1.tok _, rw', q⟩
/-- isinstance(e, c) -/
def rIsX (K : PySem.W.Frag) : List V → Hp → VK → Prop := fun xs H Q => ∃ (a C : Addr) (c : V) (cv : Value) (b : Bool), xs = [.ref a, c] ∧ ClsV c cv ∧ IsT K C ∧ PySem.W.kitOne K (.ref C) cv = some b ∧
  (H a = some (exo a C none) ∨ ∃ d fs, H a = some (exo a C (some d)) ∧ H d = some (exd d fs)) ∧ Q (.bl b) H
theorem call_isX : CallR X (.builtin "isinstance") (rIsX X.K) := by
  intro pins s σ H xs us Q I r h
  obtain ⟨a, C, c, cv, b, rfl, k, T, e, ea, q⟩ := h
  obtain ⟨u1, u2, rfl, r1, r2⟩ := vals2 r
  cases (show u1 = Value.ref a from r1)
  have e2 := k.eq r2
  subst e2
  have hcl : (PySem.W.clsIn X.K C).isSome = true := by
    obtain ⟨cd, hcd, _⟩ := PySem.W.any_some T.hd
    rw [hcd]
    rfl
  rcases ea with ea | ⟨d, fs, ea, ed⟩
  · obtain ⟨t1, ha⟩ := exo_at I.hok ea
    have J : PySem.W.InstAt s.heap a (HandSPX.excO C t1) C none := ⟨ha, rfl, rfl, trivial⟩
    exact PySem.W.kia_one (PySem.W.kitx_exc hcl T.ga T.gg T.ex T.cl T.sp T.tk T.mr) I.kIn J e (fun z => nomatch z) fun tk => ⟨.bl b, H, I.tok tk, rfl, q⟩
  · obtain ⟨t1, ha⟩ := exo_at I.hok ea
    obtain ⟨mA, hns, rel⟩ := exd_at I.hok ed
    obtain ⟨od, hod, _⟩ := lookIn_ns hns
    have J : PySem.W.InstAt s.heap a ({ cls := .ref C, dict := some d, data := .fields #[.ref t1, .none, .none, .none, .bool false, .none] } : Obj) C (some od) := ⟨ha, rfl, rfl, hod⟩
    exact PySem.W.kia_one (PySem.W.kitx_exc hcl T.ga T.gg T.ex T.cl T.sp T.tk T.mr) I.kIn J e (fun z => nomatch z) fun tk => ⟨.bl b, H, I.tok tk, rfl, q⟩
end
end Exv

namespace Exv
open PySem
abbrev bmKey : List Value := [.type "KeyError", .type "LookupError", .type "Exception", .type "BaseException", .type "object"]
abbrev bmExc : List Value := [.type "Exception", .type "BaseException", .type "object"]
theorem base3E : Base3 bmExc "Exception" := ⟨by decide +kernel, by decide +kernel, by decide +kernel⟩
theorem base3K : Base3 bmKey "LookupError" := ⟨by decide +kernel, by decide +kernel, by decide +kernel⟩
theorem keyStore : StoreFacts "KeyError" bmKey "object.__setattr__" "object" where
  mro := by kernel_rfl
  slot := (.of (owner := "object") (n := "__setattr__") (by rw [typeLookup_type, builtinLookup_eq_fast]; kernel_rfl) (by decide +kernel) (by decide +kernel) (by decide +kernel) (by first | exact .inl (by decide +kernel) | exact .inr (by decide +kernel)) (by rw [isSubtype_type]; kernel_rfl))
  entry := PySem.F.entry_object_sa
  kind := by decide +kernel
  split := by decide +kernel
  hasOwner := by decide +kernel
  args := fun x y z => by { unfold argsOk; kernel_rfl }
  passes := fun x => by kernel_rfl
end Exv

namespace Exv
open PySem L2
section
variable {X : Cx} {pins : List (Addr × Obj)} {σ : St} {H : Hp} {s : Shared}
/-- an exception's own dict, read as such -/
theorem Inv.asDict {d : Addr} {fs : List (Str × V)} (I : Inv X pins σ H s) (e : H d = some (exd d fs)) : Inv X pins σ (upd H d (.xd fs)) s := by
  have un : Un X.fs [] H (upd H d (.xd fs)) s.heap s.heap := {
    keep := fun b o q n _ _ => q
    slot := fun b o q n _ _ => ⟨_, q⟩
    free := fun b o q n _ => by
      rw [upd_ne (fun z => by rw [z, e] at n; cases n)]
      exact n
    there := fun b o q _ => ⟨_, q⟩
    tups := fun b xs q => by
      rw [upd_ne (at_ne e q exd_tup)]
      exact q
    frzs := fun b o v q => by
      rw [upd_ne (at_ne e q (fun z => by
        have z' : HO.ext _ = HO.frz o v := z
        cases z'))]
      exact q
    tbls := fun b ps q => ⟨#[], by
      rw [upd_ne (at_ne e q (fun z => by
        have z' : HO.ext _ = HO.tbl ps := z
        cases z')), q]
      simp⟩ }
  have J := I.un (t' := s.toks) un fun b o q => ?_
  · exact J
  · by_cases hb : b = d
    · subst hb
      rw [upd_same] at q
      cases q
      exact exd_at I.hok e
    · rw [upd_ne hb] at q
      refine (I.hok b o q).stay (fun c v _ z => z) (fun c hc => ?_) fun c xs hc => ?_
      · rw [upd_ne (at_ne e hc exd_own)]
        exact hc
      · rw [upd_ne (at_ne e hc exd_tup)]
        exact hc
end
/-- what is asked of a new own exception that is to be raised -/
def tMkE (K : PySem.W.Frag) (H0 : Hp) (te : TE) : St → Hp → XK → Prop := fun σ H Q => te σ H fun x H1 => ∃ (a C : Addr), x = .ref a ∧ Fr0 H0 a ∧ PySem.W.subIn K (.ref C) (.type "BaseException") = some true ∧ PySem.W.typeIn K (.ref C) = some (.type "type") ∧
  ((H1 a = some (exo a C none) ∧ Q (.ref C) none (delH H1 a)) ∨ ∃ d fs, d ≠ a ∧ H1 a = some (exo a C (some d)) ∧ H1 d = some (exd d fs) ∧ Q (.ref C) (some d) (upd (delH H1 a) d (.xd fs)))
/-- an expression that gives a new own exception makes an exception -/
theorem pmk_newE {X : Cx} {e : Expr} {te : TE} (hx : X.ex = []) (he : PE X e te) : PMk X e (tMkE X.K X.H_0 te) := by
  intro pins s σ H Q I h
  refine wpAny_mono (he.run pins s σ H _ I h) (fun u s1 hu => ?_) fun _ _ z => z
  obtain ⟨v, H1, I1, r1, a, C, rfl, h0, hr1, hr2, h1⟩ := hu
  cases (show u = Value.ref a from r1)
  have hr : Raises X (.ref C) := raises_own hr1 hr2
  rcases h1 with ⟨ea, q⟩ | ⟨d, fs, ne, ea, ed, q⟩
  · obtain ⟨t1, ha⟩ := exo_at I1.hok ea
    obtain ⟨G, gs, ga, J⟩ := Inv.untrack I1 ea h0 hx
    exact ⟨a, _, _, { s1 with heap := G }, delH H1 a, .ref C, none, rfl, J, gs, ga, ha, ⟨rfl, rfl⟩, rfl, rfl, delH_same, rfl, I1.bare, hr, q⟩
  · obtain ⟨t1, ha⟩ := exo_at I1.hok ea
    obtain ⟨G, gs, ga, J⟩ := Inv.untrack I1 ea h0 hx
    have ed' : delH H1 a d = some (exd d fs) := by rw [delH_ne ne]; exact ed
    have J2 := Inv.asDict J ed'
    exact ⟨a, _, _, { s1 with heap := G }, upd (delH H1 a) d (.xd fs), .ref C, some d, rfl, J2, gs, ga, ha, ⟨rfl, rfl⟩, rfl, rfl, by rw [upd_ne (Ne.symm ne), delH_same], rfl, I1.bare, hr, q⟩
end Exv

/-! calls by one keyword; isinstance of a caught error with a dict of its own; InvalidNode -/
namespace Xr
open PySem PySem.Spec PyProof.Rows L2 Exv
section
variable {X : Cx} {CX : CXT} {k : Nat} {f : Addr} {fd : FuncData} {pm : Str} {sp : Sp} {E : L2.St → XK} {x kn : Str} {p pos kpos : Pos} {e : Expr} {ta : TA}
/-- f(name=e), the one parameter -/
theorem pe_kw0 (F : FnOk X.prog X.w X.K X.mg X.base CX k f fd [pm] sp) (hr : Room k X.A) (hg : Gl X x) (hm : X.mg x = some (.ref f)) (kp : PySem.W.keepIn X.K (.ref f) = true) (hb : ∀ (s : Shared) (u : Value), BindsTo s fd ⟨[], [(kn, u)]⟩ [(pm, u)])
    (hx : ∀ σ, PassesAt CX X σ (E σ)) (hkw : PK X [⟨some kn, e, kpos⟩] ta)
    (hall : (backToKw pos (keywordEach [⟨some kn, e, kpos⟩] X.env)).all (·.1.isSome) = true := by rfl) (hks : (backToKw pos (keywordEach [⟨some kn, e, kpos⟩] X.env)).filterMap (·.1) = [kn] := by rfl) (hdb : (x == ("__debug__" : Str)) = false := by decide)
    (hpl : ((backTo pos (starEach [] X.env)).any (·.1) || (backToKw pos (keywordEach [⟨some kn, e, kpos⟩] X.env)).any (·.1.isNone)) = false := by rfl) :
    PE X (.Call (.Name x p) [] [⟨some kn, e, kpos⟩] pos) (tCallS sp E ta) := by
  refine ⟨fun pins s σ H Q I h => ?_⟩
  refine wpAny_Call_Name_kw (ld_glob I hg hm ?_ hdb)
  refine PySem.W.callWith_KW0 (h₀ := X.base) I.ok.mod.kin kp hall ?_ hpl
  refine thn (hkw.run pos pins s σ H _ I h) fun ws s2 ⟨zs, H2, I2, rz, q⟩ => ⟨I2.kIn, ?_⟩
  rw [hks]
  have q' : sp zs H2 Q (E σ) := q
  have lens : ws.length = 1 := by
    rw [← rz.length]
    exact F.len _ _ _ _ q'
  obtain ⟨u, rfl⟩ : ∃ u, ws = [u] := by
    match ws, lens with
    | [u], _ => exact ⟨u, rfl⟩
  refine wpAny_call (codeAny_mono (F.run X.A X.stack s2 H2 ⟨[], [(kn, u)]⟩ [u] zs Q (E σ) hr I2.env0 (hb s2 u) rz q') fun r s' hq => ?_)
  cases r with
  | error e => exact hx σ pins H2 s2 e s' I2 hq
  | ok fl =>
    cases fl with
    | ret u => exact I2.after hq
    | next => exact False.elim hq
    | brk => exact False.elim hq
    | cont => exact False.elim hq
theorem at0 {CX : CXT} {X : Cx} {E : XK} (h : Passes CX X E) (σ : L2.St) : PassesAt CX X σ E := fun pins H s e s' I c => h pins σ H s e s' I c
/-- isinstance(e, c), e the caught error, its class and dict by the reading -/
def rIsED (K : PySem.W.Frag) (a : Addr) (cls : Value) (d : Option Addr) : List V → Hp → VK → Prop := fun xs H Q => ∃ (C : Addr) (c : V) (cv : Value) (b : Bool) (dd : Addr) (fs : List (Str × V)), cls = .ref C ∧ xs = [.ref a, c] ∧ ClsV c cv ∧ IsT K C ∧ PySem.W.kitOne K (.ref C) cv = some b ∧
  d = some dd ∧ H dd = some (.xd fs) ∧ Q (.bl b) H
theorem call_isED {a : Addr} {oe : Obj} {cls : Value} {d : Option Addr} {pn : List (Addr × Obj)} (hz : Zc cls d oe) (hf : ∃ vs, oe.data = .fields vs) : CallR (X.suite a ((a, oe) :: pn)) (.builtin "isinstance") (rIsED X.K a cls d) := by
  intro pins s σ H xs us Q I r h
  obtain ⟨C, c, cv, b, dd, fs, ec, rfl, k, T, e, ed, ea, q⟩ := h
  obtain ⟨u1, u2, rfl, r1, r2⟩ := vals2 r
  cases (show u1 = Value.ref a from r1)
  have e2 := k.eq r2
  subst e2
  subst ec
  subst ed
  obtain ⟨ha, _⟩ := I.pin (a, oe) (List.mem_append_left _ List.mem_cons_self)
  obtain ⟨vs, hd⟩ := hf
  have hx : ObjOk X.prog X.w H s.heap dd (.xd fs) := I.hok dd _ ea
  obtain ⟨mA, hns, hr⟩ := hx
  obtain ⟨od, ho, hl⟩ := lookIn_ns hns
  have hcl : (PySem.W.clsIn X.K C).isSome = true := by
    obtain ⟨cd, hcd, _⟩ := PySem.W.any_some T.hd
    rw [hcd]
    rfl
  have J : PySem.W.InstAt s.heap a oe C (some od) := ⟨ha, hz.1, by unfold PySem.W.notCls; rw [hd] <;> rfl, by rw [hz.2]; exact ho⟩
  exact PySem.W.kia_one (PySem.W.kitx_exc hcl T.ga T.gg T.ex T.cl T.sp T.tk T.mr) I.kIn J e (fun z => nomatch z) fun tk => ⟨.bl b, H, I.tok tk, rfl, q⟩
/-- isinstance(e, (c1, c2)), e the caught error, its class and dict by the reading -/
def rIsEDT (K : PySem.W.Frag) (a : Addr) (cls : Value) (d : Option Addr) : List V → Hp → VK → Prop := fun xs H Q => ∃ (C tp : Addr) (cs : List V) (us : List Value) (b : Bool) (dd : Addr) (fs : List (Str × V)), cls = .ref C ∧ xs = [.ref a, .ref tp] ∧ H tp = some (.tup cs) ∧ Paired ClsV cs us ∧ IsT K C ∧ PySem.W.kitAny K (.ref C) us = some b ∧
  d = some dd ∧ H dd = some (.xd fs) ∧ Q (.bl b) H
theorem call_isEDT {a : Addr} {oe : Obj} {cls : Value} {d : Option Addr} {pn : List (Addr × Obj)} (hz : Zc cls d oe) (hf : ∃ vs, oe.data = .fields vs) : CallR (X.suite a ((a, oe) :: pn)) (.builtin "isinstance") (rIsEDT X.K a cls d) := by
  intro pins s σ H xs us Q I r h
  obtain ⟨C, tp, cs, ws, b, dd, fs, ec, rfl, hT, k, T, e, ed, ea, q⟩ := h
  obtain ⟨u1, u2, rfl, r1, r2⟩ := vals2 r
  cases (show u1 = Value.ref a from r1)
  cases (show u2 = Value.ref tp from r2)
  subst ec
  subst ed
  obtain ⟨ha, _⟩ := I.pin (a, oe) (List.mem_append_left _ List.mem_cons_self)
  obtain ⟨vs, hd⟩ := hf
  have hx : ObjOk X.prog X.w H s.heap dd (.xd fs) := I.hok dd _ ea
  obtain ⟨mA, hns, hr⟩ := hx
  obtain ⟨od, ho, hl⟩ := lookIn_ns hns
  have hcl : (PySem.W.clsIn X.K C).isSome = true := by
    obtain ⟨cd, hcd, _⟩ := PySem.W.any_some T.hd
    rw [hcd]
    rfl
  have J : PySem.W.InstAt s.heap a oe C (some od) := ⟨ha, hz.1, by unfold PySem.W.notCls; rw [hd] <;> rfl, by rw [hz.2]; exact ho⟩
  obtain ⟨_, its, rv, o, h1, h2, n, h3⟩ := (show ObjOk X.prog X.w H s.heap tp (.tup cs) from I.hok tp _ hT)
  have e3 := ClsV.all k rv
  subst e3
  obtain ⟨oc, od2, dt, sl⟩ := o
  simp only at h2 h3
  subst h2 h3
  exact PySem.W.kia_tup (PySem.W.kitx_exc hcl T.ga T.gg T.ex T.cl T.sp T.tk T.mr) I.kIn J h1 e (fun z => nomatch z) fun tk => ⟨.bl b, H, I.tok tk, rfl, q⟩
end
end Xr

/-! what the program says of values -/
namespace K1
open PySem L2 Xr Exv
mutual
/-- thing by thing, as they are read: whether each is right -/
def flg : PyData → List Bool
  | .tuple [d0, .tuple ds] => if nameD d0 then true :: flgAll ds else [false]
  | d => [textD d]
def flgAll : List PyData → List Bool
  | [] => []
  | d :: ds => flg d ++ flgAll ds
end
def firstF : List Bool → Option Nat
  | [] => none
  | false :: _ => some 0
  | true :: r => (firstF r).map (· + 1)
theorem firstF_true (r : List Bool) : firstF (true :: r) = (firstF r).map (· + 1) := rfl
theorem flg_pair {d0 : PyData} {ds : List PyData} (h : nameD d0 = true) : flg (.tuple [d0, .tuple ds]) = true :: flgAll ds := by
  have e : flg (.tuple [d0, .tuple ds]) = if nameD d0 then true :: flgAll ds else [false] := by
    conv => lhs; unfold flg
  rw [e, if_pos h]
theorem shape_of (d : PyData) : (∃ d0 ds, d = .tuple [d0, .tuple ds]) ∨ (pairD d = false ∧ flg d = [textD d]) := by
  cases d with
  | tuple l =>
    cases l with
    | nil => exact .inr ⟨rfl, rfl⟩
    | cons d0 l =>
      cases l with
      | nil => exact .inr ⟨rfl, rfl⟩
      | cons d1 l =>
        cases l with
        | nil =>
          cases d1 with
          | tuple ds => exact .inl ⟨d0, ds, rfl⟩
          | _ => exact .inr ⟨by show (_ && false) = false; rw [Bool.and_false], rfl⟩
        | cons d2 l => exact .inr ⟨rfl, by cases d1 <;> rfl⟩
  | _ => exact .inr ⟨rfl, rfl⟩
theorem pair_shape {d : PyData} (h : pairD d = true) : ∃ d0 ds, d = .tuple [d0, .tuple ds] ∧ nameD d0 = true := by
  rcases shape_of d with ⟨d0, ds, rfl⟩ | ⟨z, _⟩
  · have e : pairD (.tuple [d0, .tuple ds]) = (nameD d0 && true) := rfl
    rw [e, Bool.and_true] at h
    exact ⟨d0, ds, rfl, h⟩
  · rw [z] at h
    cases h
theorem flg_not {d : PyData} (h : pairD d = false) : flg d = [textD d] := by
  rcases shape_of d with ⟨d0, ds, rfl⟩ | ⟨_, z⟩
  · have e : pairD (.tuple [d0, .tuple ds]) = (nameD d0 && true) := rfl
    rw [e, Bool.and_true] at h
    have e : flg (.tuple [d0, .tuple ds]) = if nameD d0 then true :: flgAll ds else [false] := by
      conv => lhs; unfold flg
    rw [e, if_neg (by rw [h]; decide)]
    rfl
  · exact z
theorem flgAll_app : ∀ xs ys : List PyData, flgAll (xs ++ ys) = flgAll xs ++ flgAll ys
  | [], _ => rfl
  | x :: xs, ys => by
    show flg x ++ flgAll (xs ++ ys) = (flg x ++ flgAll xs) ++ flgAll ys
    rw [flgAll_app xs ys, List.append_assoc]
theorem flgAll_cons (x : PyData) (xs : List PyData) : flgAll (x :: xs) = flg x ++ flgAll xs := rfl
abbrev sThings : Stmt := top 19
theorem scThings : FnScope ["things", "waiting", "at", "thing"] ["things"] (defScope sThings) := ⟨rfl, rfl, rfl, by decide +kernel, rfl, by decide +kernel, by decide +kernel⟩
abbrev sNode : Stmt := top 15
theorem scNode : FnScope ["value"] ["value"] (defScope sNode) := ⟨rfl, rfl, rfl, by decide +kernel, rfl, by decide +kernel, by decide +kernel⟩
abbrev sThing : Stmt := top 16
theorem scThing : FnScope ["value"] ["value"] (defScope sThing) := ⟨rfl, rfl, rfl, by decide +kernel, rfl, by decide +kernel, by decide +kernel⟩
abbrev sForest : Stmt := top 17
theorem scForest : FnScope ["value"] ["value"] (defScope sForest) := ⟨rfl, rfl, rfl, by decide +kernel, rfl, by decide +kernel, by decide +kernel⟩
abbrev sIsNode : Stmt := top 20
theorem scIsNode : FnScope ["value"] ["value"] (defScope sIsNode) := ⟨rfl, rfl, rfl, by decide +kernel, rfl, by decide +kernel, by decide +kernel⟩
abbrev sIsForest : Stmt := top 21
theorem scIsForest : FnScope ["value"] ["value"] (defScope sIsForest) := ⟨rfl, rfl, rfl, by decide +kernel, rfl, by decide +kernel, by decide +kernel⟩
/-- 0 need_node, 1 need_thing, 2 need_forest: the number that the error tells -/
def nodeD (d : PyData) : Option Int := if pairD d then (firstF (flg d)).map fun (n : Nat) => (n : Int) else some 0
def thingD (d : PyData) : Option Int := (firstF (flg d)).map fun (n : Nat) => (n : Int)
def forestD : PyData → Option Int
  | .tuple ds => (firstF (flgAll ds)).map fun (n : Nat) => (n : Int)
  | _ => some (-1)
def Sm (d : PyData) : Prop := wt d ≤ 20000
def spErr (K : PySem.W.Frag) (C : Addr) (due : PyData → Option Int) : Sp := fun vs H Q E => ∃ (v : V) (d : PyData) (N : Addr → Prop), vs = [v] ∧ Dm K N H v d ∧ Sm d ∧ (∀ a, N a → Trk H a) ∧
  (∀ i, due d = some i → ∀ (dd : Addr) (H' : Hp), H' dd = some (.xd [("at", .int i)]) → Same H H' → E (.ref C) (some dd) H') ∧ (due d = none → ∀ H', Same H H' → Q .non H')
def thingsD : PyData → Option Int
  | .tuple ds => (firstF (flgAll ds)).map fun (n : Nat) => (n : Int)
  | _ => none
def spThings (K : PySem.W.Frag) (C : Addr) : Sp := fun vs H Q E => ∃ (v : V) (ds : List PyData) (N : Addr → Prop), vs = [v] ∧ Dm K N H v (.tuple ds) ∧ wtAll ds ≤ 30000 ∧
  (∀ n, firstF (flgAll ds) = some n → ∀ (dd : Addr) (H' : Hp), H' dd = some (.xd [("at", .int (n : Nat))]) → Same H H' → E (.ref C) (some dd) H') ∧ (firstF (flgAll ds) = none → ∀ H', Same H H' → Q .non H')
def spIs (K : PySem.W.Frag) (due : PyData → Option Int) : Sp := fun vs H Q _ => ∃ (v : V) (d : PyData) (N : Addr → Prop), vs = [v] ∧ Dm K N H v d ∧ Sm d ∧ (∀ a, N a → Trk H a) ∧ ∀ H', Same H H' → Q (.bl (due d).isNone) H'
def spInit (C : Addr) (f : Str) : Sp := fun vs H Q _ => ∃ (a : Addr) (v : V), vs = [.ref a, v] ∧ H a = some (exo a C none) ∧
  ∀ dx, H dx = none → dx ≠ a → Q .non (upd (upd H dx (exd dx [(f, v)])) a (exo a C (some dx)))
abbrev sI0 : Stmt := inClass (top 2) 0
theorem scI0 : FnScope ["self", "at"] ["self", "at"] (defScope sI0) := ⟨rfl, rfl, rfl, by decide +kernel, rfl, by decide +kernel, by decide +kernel⟩
theorem same_raised {H H1 : Hp} {a dx : Addr} {o o2 : HO} {fs : List (Str × V)} (s : Same H H1) (ha : H1 a = none) (hd : (upd H1 a o) dx = none) (ne : dx ≠ a) :
    Same H (upd (delH (upd (upd (upd H1 a o) dx (exd dx fs)) a o2) a) dx (.xd fs)) := fun q u e0 => by
  have e := s q u e0
  have hd' : H1 dx = none := by
    rw [upd_ne ne] at hd
    exact hd
  have na := ne_of_none e ha
  have nd := ne_of_none e hd'
  rw [upd_ne nd, delH_ne na, upd_ne na, upd_ne nd, upd_ne na]
  exact e
structure NeedTxt (K : PySem.W.Frag) (mg : Str → Option Value) (C fI a_is_pair a_is_text a_need_things a_need_node a_need_forest : Addr) : Prop where
  n_isinstance : mg "isinstance" = none
  n_tuple : mg "tuple" = none
  n_list : mg "list" = none
  m : mg "InvalidNode" = some (.ref C)
  t : ExT K C fI "at" bmExc "Exception.__new__"
  ex : PySem.W.subIn K (.ref C) (.type "BaseException") = some true
  ty : PySem.W.typeIn K (.ref C) = some (.type "type")
  one : PySem.W.exmOne K (.ref C) (.ref C) = some true
  g_is_pair : mg "_is_pair" = some (.ref a_is_pair)
  k_is_pair : PySem.W.keepIn K (.ref a_is_pair) = true
  g_is_text : mg "is_text" = some (.ref a_is_text)
  k_is_text : PySem.W.keepIn K (.ref a_is_text) = true
  g_need_things : mg "_need_things" = some (.ref a_need_things)
  k_need_things : PySem.W.keepIn K (.ref a_need_things) = true
  g_need_node : mg "need_node" = some (.ref a_need_node)
  k_need_node : PySem.W.keepIn K (.ref a_need_node) = true
  g_need_forest : mg "need_forest" = some (.ref a_need_forest)
  k_need_forest : PySem.W.keepIn K (.ref a_need_forest) = true
theorem str_len_of {z : Str} {d1 : PyData} (h : wt (.tuple [.str z, d1]) ≤ 30000) : z.length ≤ 900000 := by
  have e : wt (.tuple [.str z, d1]) = 1 + (1 + z.length + (wt d1 + 0)) := rfl
  omega
section
variable {P : Program} {w : World} {K : PySem.W.Frag} {mg : Str → Option Value} {base : Heap} {C fI a_is_pair a_is_text a_need_things a_need_node a_need_forest : Addr} {fdP fdX fdI fdT fdN fdF : FuncData}
theorem ok_init0 {f C : Addr} {fd : FuncData} (F : Fun K "__init__" "InvalidNode.__init__" sI0 f fd) (T : ExT K C f "at" bmExc "Exception.__new__") : FnOk P w K mg base CX0 1 f fd ["self", "at"] (spInit C "at") := by
  refine F.ok scI0 (fun vs H Q E h => ?_) (fun cdv A outer s H vs Q E hr h => ?_)
  · obtain ⟨a, v, rfl, _⟩ := h
    rfl
  · obtain ⟨a, v, rfl, ha, k⟩ := h
    exact ⟨_, pss_one (ps_putE T PySem.F.store_Exception (pv 0) (pv 1)), _, rfl, _, rfl, a, rfl, ha, fun dx n ne => k dx n ne⟩
theorem bp0 {f : Addr} {fd : FuncData} (F : Fun K "__init__" "InvalidNode.__init__" sI0 f fd) (s : Shared) (a : Addr) (u : Value) : BindsTo s fd ⟨[.ref a, u], []⟩ ((["self", "at"] : List Str).zip [.ref a, u]) := by
  obtain ⟨_, _, _, _, _, _, _, _, _, rfl, _, _⟩ := F.ex
  exact .of_eq rfl
theorem ok_things {fd : FuncData} (F : Fun K "_need_things" "_need_things" sThings a_need_things fd) (T : NeedTxt K mg C fI a_is_pair a_is_text a_need_things a_need_node a_need_forest) (FI : Fun K "__init__" "InvalidNode.__init__" sI0 fI fdI)
    (G_is_pair : FnOk P w K mg base CX0 3 a_is_pair fdP ["value"] (spPair K)) (b_is_pair : Binds K fdP ["value"] []) (G_is_text : FnOk P w K mg base CX0 2 a_is_text fdX ["value"] (spText K)) (b_is_text : Binds K fdX ["value"] []) :
    FnOk P w K mg base (L2.CX P w) 4 a_need_things fd ["things"] (spThings K C) := by
  refine F.okX scThings (fun vs H Q E h => ?_) (fun cdv A outer s H vs Q E hr h => ?_)
  · obtain ⟨v, d, N, rfl, _⟩ := h
    rfl
  · obtain ⟨v, ds, N, rfl, hv, hw, kE, kQ⟩ := h
    have hr2 : Room 2 _ := hr.mono (by decide)
    refine ⟨_, (pss_cons (ps_set (i := 1) scThings.nd rfl (Or.inl rfl) (pe_callTy call_list_of (by rfl) T.n_list (by decide +kernel) (pa_cons (pe_revT (pv 0)) pa_nil)))
      (pss_cons (ps_set (i := 2) scThings.nd rfl (Or.inl rfl) pe_int)
      (pss_one (ps_while PassesOwn.leaving (pt_truth (pv 1) (by intro _; rfl))
      (pss_cons (ps_set (i := 3) scThings.nd rfl (Or.inl rfl) (pe_bm0 PySem.F.plainAttrs_list PySem.F.slot_list_pop PySem.F.type_list_pop mt_pop (pv 1)))
      (pss_cons (ps_if (pt_val (pe_call G_is_pair hr rfl T.g_is_pair T.k_is_pair b_is_pair .nil pass0 (pa_cons (pv 3) pa_nil)))
      (pss_one (ps_expr (pe_bm PySem.F.plainAttrs_list PySem.F.slot_list_extend PySem.F.type_list_extend mt_extendT (pv 1) (pa_cons (pe_revT (pe_ix ix_tup (pv 3) pe_int (fun _ _ => rfl))) pa_nil))))
      (pss_one (ps_if (pt_not (pt_val (pe_call G_is_text hr2 rfl T.g_is_text T.k_is_text b_is_text .nil pass0 (pa_cons (pv 3) pa_nil))))
      (pss_one (ps_raise rfl (takes_of rfl rfl rfl rfl) (pmk_newE rfl (pe_newE T.t PySem.F.excBase_Exception base3E (ok_init0 FI T.t) hr2 pass0 rfl T.m (fun s a u _ => bp0 FI s a u) (pa_cons (pv 2) pa_nil)))))
      pss_nil)))
      (pss_one (ps_aug (i := 2) scThings.nd rfl (.inl rfl) pe_int ip_add)))))))), ?_⟩
    obtain ⟨a, xs, rfl, ta, al⟩ := hv.seq
    refine ⟨_, rfl, a, xs, rfl, ta.sq, fun p hp => ⟨p, xs.reverse, rfl, .inr (SqT.of upd_same), fun W hW => ?_⟩⟩
    have pW : p ≠ W := ne_of_none upd_same hW
    have s0 := ((Same.refl H).new (o := .tup xs.reverse) hp).new (o := .lst xs.reverse) hW
    have HW : H W = none := ((Same.refl H).new (o := .tup xs.reverse) hp).free hW
    refine ⟨fun m σ H1 => ∃ (n : Nat) (R : List PyData) (vs : List V) (x3 : Option V), σ = [some (.ref a), some (.ref W), some (.int (n : Int)), x3] ∧ m = wtAll R ∧ H1 W = some (.lst vs.reverse) ∧ DmAll K N H vs R ∧ wtAll R ≤ 30000 ∧ Same H H1 ∧ firstF (flgAll ds) = (firstF (flgAll R)).map (· + n),
      ⟨wtAll ds, 0, ds, xs, none, rfl, rfl, upd_same, al, hw, s0, by cases firstF (flgAll ds) <;> rfl⟩, ?_⟩
    rintro m σ H1 ⟨n, R, vs, x3, rfl, rfl, h1, dR, lR, s1, e⟩
    have lv := dR.len
    have lw := wtAll_len R
    refine ⟨_, rfl, _, .inl ⟨_, SqL.of h1, rfl⟩, ?_⟩
    cases dR with
    | nil => exact iteF (kQ (by rw [e]; rfl) _ s1)
    | @cons v vs d R dv dvs =>
      have nE : (!((v :: vs).reverse).isEmpty) = true := by simp
      rw [nE]
      have er : (v :: vs).reverse = vs.reverse ++ [v] := by simp
      rw [er] at h1
      have wp := wt_pos d
      have ew : wtAll (d :: R) = wt d + wtAll R := rfl
      rw [ew] at lR
      have sW : Same H (upd H1 W (.lst vs.reverse)) := s1.cell HW
      have len900 : ∀ z, d = .str z → z.length ≤ 900000 := fun z ez => by
        subst ez
        have e1 : wt (.str z) = 1 + z.length := rfl
        omega
      have hW2 : (upd H1 W (.lst vs.reverse)) W = some (.lst vs.reverse) := upd_same
      refine iteT ⟨fun σ' H' => ∃ m', m' < wtAll (d :: R) ∧ ∃ (n : Nat) (R : List PyData) (vs : List V) (x3 : Option V), σ' = [some (.ref a), some (.ref W), some (.int (n : Int)), x3] ∧ m' = wtAll R ∧ H' W = some (.lst vs.reverse) ∧ DmAll K N H vs R ∧ wtAll R ≤ 30000 ∧ Same H H' ∧ firstF (flgAll ds) = (firstF (flgAll R)).map (· + n), fun _ _ ⟨m', l, q⟩ => ⟨m', l, q⟩, ?_⟩
      refine ⟨_, rfl, .inl ⟨rfl, _, SqL.of h1⟩, _, _, v, rfl, rfl, h1, (by simp), ?_⟩
      rw [List.dropLast_concat]
      generalize upd H1 W (.lst vs.reverse) = H2 at sW hW2 ⊢
      refine ⟨_, rfl, v, d, N, rfl, dv.up (Bt.same sW), (fun z d1 ez => by subst ez; exact str_len_of (d1 := d1) (by omega)), fun H3 s3 => ?_⟩
      have s4 := sW.trans s3
      have hW3 := s3 _ _ hW2
      rw [flgAll_cons] at e
      refine ⟨_, rfl, ite2 (fun hp => ?_) (fun hp => ?_)⟩
      · obtain ⟨d0, cs, rfl, nm⟩ := pair_shape hp
        obtain ⟨b, ys, rfl, tb, bl⟩ := dv.seq
        obtain ⟨y0, y1, rfl, dy0, dy1⟩ : ∃ y0 y1, ys = [y0, y1] ∧ Dm K N H y0 d0 ∧ Dm K N H y1 (.tuple cs) := by
          cases bl with
          | cons u1 r =>
            cases r with
            | cons u2 r =>
              cases r
              exact ⟨_, _, rfl, u1, u2⟩
        obtain ⟨c, zs, rfl, tc, cl⟩ := dy1.seq
        have lc := cl.len
        have lw2 := wtAll_len cs
        have e5 : wt (.tuple [d0, .tuple cs]) = 1 + (wt d0 + (1 + wtAll cs + 0)) := rfl
        rw [flg_pair nm] at e
        refine ⟨_, rfl, .inl ⟨rfl, _, SqL.of hW3⟩, _, rfl, _, _, _, _, rfl, rfl, (tb.up (Bt.same s4)).sq, atI_nat (j := 1) rfl, c, zs, rfl, (tc.up (Bt.same s4)).sq, fun p2 hp2 => ?_⟩
        have W2 : W ≠ p2 := ne_of_none hW3 hp2
        have s5 : Same H (upd H3 p2 (.tup zs.reverse)) := s4.new hp2
        refine ⟨W, p2, vs.reverse, zs.reverse, rfl, rfl, (by rw [upd_ne W2]; exact hW3), upd_same, (by rw [sizeLine_eq, List.length_reverse, List.length_reverse]; have := dvs.len; have := wtAll_len R; omega), ?_⟩
        refine ⟨_, rfl, _, _, rfl, rfl, wtAll cs + wtAll R, (by rw [ew, e5]; omega), n + 1, cs ++ R, zs ++ vs, _, rfl, (wtAll_app cs R).symm, (by rw [upd_same, List.reverse_append]), cl.app dvs, (by rw [wtAll_app]; omega), s5.cell HW, ?_⟩
        rw [e, flgAll_app]
        show ((firstF (flgAll cs ++ flgAll R)).map (· + 1)).map (· + n) = _
        rw [Option.map_map]
        congr 1
        funext x
        show x + 1 + n = x + (n + 1)
        omega
      · have hp' : pairD d = false := by simpa using hp
        rw [flg_not hp'] at e
        refine ⟨_, rfl, v, d, N, rfl, dv.up (Bt.same s4), len900, fun H4 s5 => ?_⟩
        have s6 := s4.trans s5
        refine ⟨_, rfl, ?_⟩
        cases ht : textD d with
        | false =>
          rw [ht] at e
          have e' : firstF (flgAll ds) = some n := by
            rw [e]
            show some (0 + n) = some n
            rw [Nat.zero_add]
          refine iteT ⟨_, rfl, _, rfl, fun a1 ha1 => ⟨a1, _, rfl, upd_same, fun dx hd1 ne => ⟨rfl, a1, C, rfl, fr0_none (s6.free ha1), T.ex, T.ty, .inr ⟨dx, _, ne, upd_same, (by rw [upd_ne ne, upd_same]), kE n e' dx _ upd_same (same_raised s6 ha1 hd1 ne)⟩⟩⟩⟩
        | true =>
          rw [ht] at e
          refine iteF ⟨_, rfl, _, _, rfl, rfl, wtAll R, (by rw [ew]; omega), n + 1, R, vs, _, rfl, rfl, s5 _ _ hW3, dvs, (by omega), s6, ?_⟩
          rw [e]
          show ((firstF (flgAll R)).map (· + 1)).map (· + n) = _
          rw [Option.map_map]
          congr 1
          funext x
          show x + 1 + n = x + (n + 1)
          omega
end
end K1

/-! need_node, need_thing, need_forest, is_node, is_forest -/
namespace K1
open PySem L2 Xr Exv
section
variable {P : Program} {w : World} {K : PySem.W.Frag} {mg : Str → Option Value} {base : Heap} {C fI a_is_pair a_is_text a_need_things a_need_node a_need_forest : Addr} {fdP fdX fdI fdT fdN fdF : FuncData}
theorem ok_node {fd : FuncData} (F : Fun K "need_node" "need_node" sNode a_need_node fd) (T : NeedTxt K mg C fI a_is_pair a_is_text a_need_things a_need_node a_need_forest) (FI : Fun K "__init__" "InvalidNode.__init__" sI0 fI fdI)
    (G_is_pair : FnOk P w K mg base CX0 3 a_is_pair fdP ["value"] (spPair K)) (b_is_pair : Binds K fdP ["value"] []) (G_need_things : FnOk P w K mg base (L2.CX P w) 4 a_need_things fdT ["things"] (spThings K C)) (b_need_things : Binds K fdT ["things"] []) :
    FnOk P w K mg base (L2.CX P w) 5 a_need_node fd ["value"] (spErr K C nodeD) := by
  refine F.okX scNode (fun vs H Q E h => ?_) (fun cdv A outer s H vs Q E hr h => ?_)
  · obtain ⟨v, d, N, rfl, _⟩ := h
    rfl
  · obtain ⟨v, d, N, rfl, hv, hw, hN, kE, kQ⟩ := h
    have hr2 : Room 2 _ := hr.mono (by decide)
    have hr3 : Room 3 _ := hr.mono (by decide)
    refine ⟨_, (pss_cons (ps_if (pt_not (pt_val (pe_call G_is_pair hr3 rfl T.g_is_pair T.k_is_pair b_is_pair .nil pass0 (pa_cons (pv 0) pa_nil))))
      (pss_one (ps_raise rfl (takes_of rfl rfl rfl rfl) (pmk_newE rfl (pe_newE T.t PySem.F.excBase_Exception base3E (ok_init0 FI T.t) hr2 pass0 rfl T.m (fun s a u _ => bp0 FI s a u) (pa_cons pe_int pa_nil)))))
      pss_nil)
      (pss_one (ps_expr (pe_callS G_need_things hr (by rfl) T.g_need_things T.k_need_things b_need_things (fun σ => passAt (takes_of rfl rfl rfl rfl) σ) (by exact (pa_cons (pe_tup (pa_cons (pv 0) pa_nil)) pa_nil)))))), ?_⟩
    have hw' : wt d ≤ 20000 := hw
    refine ⟨_, rfl, v, d, N, rfl, hv, (fun z d1 ez => by subst ez; exact str_len_of (d1 := d1) (by omega)), fun H1 s1 => ⟨_, rfl, ?_⟩⟩
    cases hp : pairD d with
    | false =>
      have e : nodeD d = some 0 := by
        unfold nodeD
        rw [hp]
        rfl
      exact iteT ⟨_, rfl, fun a1 ha1 => ⟨a1, _, rfl, upd_same, fun dx hd1 ne => ⟨rfl, a1, C, rfl, fr0_none (s1.free ha1), T.ex, T.ty, .inr ⟨dx, _, ne, upd_same, (by rw [upd_ne ne, upd_same]), kE 0 e dx _ upd_same (same_raised s1 ha1 hd1 ne)⟩⟩⟩⟩
    | true =>
      have e : nodeD d = (firstF (flgAll [d])).map fun (n : Nat) => (n : Int) := by
        unfold nodeD
        rw [hp, if_pos rfl]
        show _ = (firstF (flg d ++ [])).map _
        rw [List.append_nil]
      refine iteF ⟨_, rfl, (by show 1 ≤ sizeLine; decide), fun p hp2 => ?_⟩
      refine ⟨.ref p, [d], N, rfl, .tup upd_same (not_new hN s1 hp2) (.cons ((hv.up (Bt.same s1)).up (Bt.refl.new hp2)) .nil), (by show wt d + 0 ≤ 30000; omega), fun n en dd H2 h2 s2 => ?_, fun en H2 s2 => ?_⟩
      · exact kE n (by rw [e, en]; rfl) dd H2 h2 ((s1.new hp2).trans s2)
      · exact kQ (by rw [e, en]; rfl) _ ((s1.new hp2).trans s2)
theorem ok_thing {f : Addr} {fd : FuncData} (F : Fun K "need_thing" "need_thing" sThing f fd) (T : NeedTxt K mg C fI a_is_pair a_is_text a_need_things a_need_node a_need_forest)
    (G_need_things : FnOk P w K mg base (L2.CX P w) 4 a_need_things fdT ["things"] (spThings K C)) (b_need_things : Binds K fdT ["things"] []) :
    FnOk P w K mg base (L2.CX P w) 5 f fd ["value"] (spErr K C thingD) := by
  refine F.okX scThing (fun vs H Q E h => ?_) (fun cdv A outer s H vs Q E hr h => ?_)
  · obtain ⟨v, d, N, rfl, _⟩ := h
    rfl
  · obtain ⟨v, d, N, rfl, hv, hw, hN, kE, kQ⟩ := h
    refine ⟨_, (pss_one (ps_expr (pe_callS G_need_things hr (by rfl) T.g_need_things T.k_need_things b_need_things (fun σ => passAt (takes_of rfl rfl rfl rfl) σ) (by exact (pa_cons (pe_tup (pa_cons (pv 0) pa_nil)) pa_nil))))), ?_⟩
    have hw' : wt d ≤ 20000 := hw
    have e : thingD d = (firstF (flgAll [d])).map fun (n : Nat) => (n : Int) := by
      unfold thingD
      show _ = (firstF (flg d ++ [])).map _
      rw [List.append_nil]
    refine ⟨_, rfl, (by show 1 ≤ sizeLine; decide), fun p hp2 => ?_⟩
    refine ⟨.ref p, [d], N, rfl, .tup upd_same (not_new hN (Same.refl H) hp2) (.cons (hv.up (Bt.refl.new hp2)) .nil), (by show wt d + 0 ≤ 30000; omega), fun n en dd H2 h2 s2 => ?_, fun en H2 s2 => ?_⟩
    · exact kE n (by rw [e, en]; rfl) dd H2 h2 (((Same.refl H).new hp2).trans s2)
    · exact kQ (by rw [e, en]; rfl) _ (((Same.refl H).new hp2).trans s2)
theorem ok_forest {fd : FuncData} (F : Fun K "need_forest" "need_forest" sForest a_need_forest fd) (T : NeedTxt K mg C fI a_is_pair a_is_text a_need_things a_need_node a_need_forest) (FI : Fun K "__init__" "InvalidNode.__init__" sI0 fI fdI)
    (G_need_things : FnOk P w K mg base (L2.CX P w) 4 a_need_things fdT ["things"] (spThings K C)) (b_need_things : Binds K fdT ["things"] []) :
    FnOk P w K mg base (L2.CX P w) 5 a_need_forest fd ["value"] (spErr K C forestD) := by
  refine F.okX scForest (fun vs H Q E h => ?_) (fun cdv A outer s H vs Q E hr h => ?_)
  · obtain ⟨v, d, N, rfl, _⟩ := h
    rfl
  · obtain ⟨v, d, N, rfl, hv, hw, hN, kE, kQ⟩ := h
    have hr2 : Room 2 _ := hr.mono (by decide)
    refine ⟨_, (pss_cons (ps_if (pt_not (pt_val (pe_callB call_isi (by rfl) T.n_isinstance (by decide +kernel) (pa_cons (pv 0) (pa_cons (pe_bltn (v := V.ty "tuple") (u := .type "tuple") (by rfl) T.n_tuple (by decide +kernel) (by rfl)) pa_nil)))))
      (pss_one (ps_raise rfl (takes_of rfl rfl rfl rfl) (pmk_newE rfl (pe_newE T.t PySem.F.excBase_Exception base3E (ok_init0 FI T.t) hr2 pass0 rfl T.m (fun s a u _ => bp0 FI s a u) (pa_cons (pe_un un_neg pe_int) pa_nil)))))
      pss_nil)
      (pss_one (ps_expr (pe_callS G_need_things hr (by rfl) T.g_need_things T.k_need_things b_need_things (fun σ => passAt (takes_of rfl rfl rfl rfl) σ) (by exact (pa_cons (pv 0) pa_nil)))))), ?_⟩
    refine ⟨_, rfl, _, _, _, _, _, rfl, .ty "tuple", hv.ty, kit_tup d, _, rfl, ?_⟩
    cases d with
    | tuple ds =>
      have hw' : 1 + wtAll ds ≤ 20000 := hw
      refine iteF ⟨_, rfl, v, ds, N, rfl, hv, (by omega), fun n en dd H2 h2 s2 => ?_, fun en H2 s2 => ?_⟩
      · exact kE n (by show (firstF (flgAll ds)).map _ = _; rw [en]; rfl) dd H2 h2 s2
      · exact kQ (by show (firstF (flgAll ds)).map _ = _; rw [en]; rfl) _ s2
    | _ => exact iteT ⟨1, rfl, _, rfl, fun a1 ha1 => ⟨a1, _, rfl, upd_same, fun dx hd1 ne => ⟨rfl, a1, C, rfl, fr0_none ha1, T.ex, T.ty, .inr ⟨dx, _, ne, upd_same, (by rw [upd_ne ne, upd_same]), kE (-1) rfl dx _ upd_same (same_raised (Same.refl H) ha1 hd1 ne)⟩⟩⟩⟩
theorem ok_isNode {f : Addr} {fd : FuncData} (F : Fun K "is_node" "is_node" sIsNode f fd) (T : NeedTxt K mg C fI a_is_pair a_is_text a_need_things a_need_node a_need_forest)
    (G : FnOk P w K mg base (L2.CX P w) 5 a_need_node fdN ["value"] (spErr K C nodeD)) (b : Binds K fdN ["value"] []) : FnOk P w K mg base CX0 6 f fd ["value"] (spIs K nodeD) := by
  refine F.ok scIsNode (fun vs H Q E h => ?_) (fun cdv A outer s H vs Q E hr h => ?_)
  · obtain ⟨v, d, N, rfl, _⟩ := h
    rfl
  · obtain ⟨v, d, N, rfl, hv, hm, hN, k⟩ := h
    refine ⟨_, pss_cons (ps_try_only (tb := fun W => tDrop (tCallS (spErr K C nodeD) (WE W) (tCons (tVar 0) tNil))) (ts := fun _ _ _ => tRet (tC (.bl false))) (Wout := fun _ _ _ _ => False) rfl rfl ⟨rfl, by decide, .inl T.m⟩ takes0
        (fun W pn xe tk _ => pss_one (ps_expr (pe_callS G hr (by rfl) T.g_need_node T.k_need_node b (fun σ => passAt tk σ) (by exact (pa_cons (pv 0) pa_nil)))))
        (fun a oe cls d pn _ _ => pss_one (ps_ret pe_bl)))
      (pss_one (ps_ret pe_bl)), ?_⟩
    refine ⟨_, rfl, v, d, N, rfl, hv, hm, hN, fun i hi dd H1 h1 s1 => ⟨true, T.one, fun _ a ha => ?_, fun q => nomatch q⟩, fun hn H1 s1 => ?_⟩
    · have := k H1 s1
      rw [hi] at this
      exact this
    · have := k H1 s1
      rw [hn] at this
      exact this
theorem ok_isForest {f : Addr} {fd : FuncData} (F : Fun K "is_forest" "is_forest" sIsForest f fd) (T : NeedTxt K mg C fI a_is_pair a_is_text a_need_things a_need_node a_need_forest)
    (G : FnOk P w K mg base (L2.CX P w) 5 a_need_forest fdN ["value"] (spErr K C forestD)) (b : Binds K fdN ["value"] []) : FnOk P w K mg base CX0 6 f fd ["value"] (spIs K forestD) := by
  refine F.ok scIsForest (fun vs H Q E h => ?_) (fun cdv A outer s H vs Q E hr h => ?_)
  · obtain ⟨v, d, N, rfl, _⟩ := h
    rfl
  · obtain ⟨v, d, N, rfl, hv, hm, hN, k⟩ := h
    refine ⟨_, pss_cons (ps_try_only (tb := fun W => tDrop (tCallS (spErr K C forestD) (WE W) (tCons (tVar 0) tNil))) (ts := fun _ _ _ => tRet (tC (.bl false))) (Wout := fun _ _ _ _ => False) rfl rfl ⟨rfl, by decide, .inl T.m⟩ takes0
        (fun W pn xe tk _ => pss_one (ps_expr (pe_callS G hr (by rfl) T.g_need_forest T.k_need_forest b (fun σ => passAt tk σ) (by exact (pa_cons (pv 0) pa_nil)))))
        (fun a oe cls d pn _ _ => pss_one (ps_ret pe_bl)))
      (pss_one (ps_ret pe_bl)), ?_⟩
    refine ⟨_, rfl, v, d, N, rfl, hv, hm, hN, fun i hi dd H1 h1 s1 => ⟨true, T.one, fun _ a ha => ?_, fun q => nomatch q⟩, fun hn H1 s1 => ?_⟩
    · have := k H1 s1
      rw [hi] at this
      exact this
    · have := k H1 s1
      rw [hn] at this
      exact this
end
end K1

/-! the law's own reading of values -/
namespace K1
open PySem L2 Xr Exv
abbrev sSigns : Stmt := top 30
theorem scSigns : FnScope ["value", "signs", "least", "most", "sign"] ["value", "signs", "least", "most"] (defScope sSigns) := ⟨rfl, rfl, rfl, by decide +kernel, rfl, by decide +kernel, by decide +kernel⟩
abbrev sLName : Stmt := top 31
theorem scLName : FnScope ["value"] ["value"] (defScope sLName) := ⟨rfl, rfl, rfl, by decide +kernel, rfl, by decide +kernel, by decide +kernel⟩
abbrev sLTxt : Stmt := top 32
theorem scLTxt : FnScope ["value"] ["value"] (defScope sLTxt) := ⟨rfl, rfl, rfl, by decide +kernel, rfl, by decide +kernel, by decide +kernel⟩
abbrev sHead : Stmt := top 33
theorem scHead : FnScope ["value"] ["value"] (defScope sHead) := ⟨rfl, rfl, rfl, by decide +kernel, rfl, by decide +kernel, by decide +kernel⟩
abbrev sFlags : Stmt := top 34
theorem scFlags : FnScope ["thing"] ["thing"] (defScope sFlags) := ⟨rfl, rfl, rfl, by decide +kernel, rfl, by decide +kernel, by decide +kernel⟩
abbrev sRow : Stmt := top 35
theorem scRow : FnScope ["things", "found", "thing"] ["things"] (defScope sRow) := ⟨rfl, rfl, rfl, by decide +kernel, rfl, by decide +kernel, by decide +kernel⟩
abbrev sFirst : Stmt := top 36
theorem scFirst : FnScope ["flags"] ["flags"] (defScope sFirst) := ⟨rfl, rfl, rfl, by decide +kernel, rfl, by decide +kernel, by decide +kernel⟩
abbrev sDue : Stmt := top 40
theorem scDue : FnScope ["number", "value", "at"] ["number", "value"] (defScope sDue) := ⟨rfl, rfl, rfl, by decide +kernel, rfl, by decide +kernel, by decide +kernel⟩
def sgD (g : Str) (l m : Int) : PyData → Bool
  | .str z => decide (l ≤ (z.length : Int)) && (decide ((z.length : Int) ≤ m) && hasOnly z g)
  | _ => false
theorem sg_name (d : PyData) : sgD abc 1 8 d = nameD d := by
  cases d with
  | str z =>
    show (decide ((1 : Int) ≤ (z.length : Int)) && (decide ((z.length : Int) ≤ 8) && hasOnly z abc)) = (decide (z.length ≠ 0) && (decide (z.length ≤ 8) && hasOnly z abc))
    have e1 : decide ((1 : Int) ≤ (z.length : Int)) = decide (z.length ≠ 0) := decide_eq_decide.mpr (by omega)
    have e2 : decide ((z.length : Int) ≤ 8) = decide (z.length ≤ 8) := decide_eq_decide.mpr (by omega)
    rw [e1, e2]
  | _ => rfl
theorem sg_text (d : PyData) : sgD abc9 0 16 d = textD d := by
  cases d with
  | str z =>
    show (decide ((0 : Int) ≤ (z.length : Int)) && (decide ((z.length : Int) ≤ 16) && hasOnly z abc9)) = (decide (z.length ≤ 16) && hasOnly z abc9)
    have e1 : decide ((0 : Int) ≤ (z.length : Int)) = true := decide_eq_true (by omega)
    have e2 : decide ((z.length : Int) ≤ 16) = decide (z.length ≤ 16) := decide_eq_decide.mpr (by omega)
    rw [e1, e2, Bool.true_and]
  | _ => rfl
def oneS (c : Nat) : Str := ⟨#[c]⟩
theorem vd_strs {cs : List Nat} (h : ∀ c ∈ cs, c < 1114112) : Vd 1 (.list (cs.map fun c => PyData.str (oneS c))) := by
  refine vd_lst fun x hx => ?_
  obtain ⟨c, hc, rfl⟩ := List.mem_map.mp hx
  refine vd_str fun c2 h2 => ?_
  have e : c2 = c := by simpa [oneS] using h2
  rw [e]
  exact h c hc
theorem dp_strs {K : PySem.W.Frag} {H : Hp} : ∀ cs : List Nat, DpAll K H (cs.map fun c => V.str (oneS c)) (cs.map fun c => PyData.str (oneS c))
  | [] => .nil
  | c :: cs => .cons (.str _) (dp_strs cs)
theorem eqv_nilL (ds : List PyData) : PyData.eqv (.list ds) (.list []) = ds.isEmpty := by
  cases ds <;> rfl
/-- the class of values that the law makes -/
structure Ok (d : PyData) : Prop where
  vd : Vd 60 d
  wt : wt d ≤ 20000
theorem Ok.sg {z : Str} (h : Ok (.str z)) : Sg z ∧ z.length ≤ 20000 := ⟨h.vd.sg, by
  have := h.wt
  have e : K1.wt (.str z) = 1 + z.length := rfl
  omega⟩
theorem Ok.part {ds : List PyData} (h : Ok (.tuple ds)) {d : PyData} (m : d ∈ ds) : Ok d := by
  refine ⟨(h.vd.tup.2 d m).mono (by decide), ?_⟩
  have := h.wt
  have e : K1.wt (.tuple ds) = 1 + wtAll ds := rfl
  have := wt_mem m
  omega
def spSigns (K : PySem.W.Frag) : Sp := fun vs H Q _ => ∃ (v : V) (d : PyData) (N : Addr → Prop) (g : Str) (l m : Int), vs = [v, .str g, .int l, .int m] ∧ Dm K N H v d ∧ Ok d ∧ ∀ H', Same H H' → Q (.bl (sgD g l m d)) H'
def spB (K : PySem.W.Frag) (f : PyData → Bool) : Sp := fun vs H Q _ => ∃ (v : V) (d : PyData) (N : Addr → Prop), vs = [v] ∧ Dm K N H v d ∧ Ok d ∧ ∀ H', Same H H' → Q (.bl (f d)) H'
def spFlags (K : PySem.W.Frag) (n : Nat) : Sp := fun vs H Q _ => ∃ (v : V) (d : PyData) (N : Addr → Prop), vs = [v] ∧ Dm K N H v d ∧ Ok d ∧ d.depth ≤ n ∧ ∀ (p : Addr) (H' : Hp), H' p = some (.lst ((flg d).map V.bl)) → H p = none → Same H H' → Q (.ref p) H'
def spRow (K : PySem.W.Frag) (n : Nat) : Sp := fun vs H Q _ => ∃ (v : V) (ds : List PyData) (N : Addr → Prop), vs = [v] ∧ Dm K N H v (.tuple ds) ∧ Ok (.tuple ds) ∧ (∀ d ∈ ds, d.depth ≤ n) ∧ ∀ (p : Addr) (H' : Hp), H' p = some (.lst ((flgAll ds).map V.bl)) → H p = none → Same H H' → Q (.ref p) H'
def optN : Option Nat → V
  | none => .non
  | some n => .int (n : Int)
def spFirst : Sp := fun vs H Q _ => ∃ (p : Addr) (bs : List Bool), vs = [.ref p] ∧ H p = some (.lst (bs.map V.bl)) ∧ Q (optN (firstF bs)) H
/-- None, or ("wrong", at) -/
def Told (H : Hp) (v : V) : Option Int → Prop
  | none => v = .non
  | some i => ∃ p, v = .ref p ∧ H p = some (.tup [.str (Str.ofString "wrong"), .int i])
def dueD : Int → PyData → Option Int
  | 2, d => forestD d
  | 0, d => nodeD d
  | _, d => thingD d
def spDue (K : PySem.W.Frag) : Sp := fun vs H Q _ => ∃ (k : Int) (v : V) (d : PyData) (N : Addr → Prop), vs = [.int k, v] ∧ (k = 0 ∨ k = 1 ∨ k = 2) ∧ Dm K N H v d ∧ Ok d ∧ ∀ u H', Told H' u (dueD k d) → Same H H' → Q u H'
theorem flg_lenN : ∀ (n : Nat) (d : PyData), wt d ≤ n → (flg d).length ≤ wt d
  | 0, d, h => by
    have := wt_pos d
    omega
  | n + 1, d, h => by
    have all : ∀ ds : List PyData, wtAll ds ≤ n → (flgAll ds).length ≤ wtAll ds := by
      intro ds
      induction ds with
      | nil => intro _; exact Nat.le_refl _
      | cons x xs ih =>
        intro hl
        have e : wtAll (x :: xs) = wt x + wtAll xs := rfl
        have h1 := flg_lenN n x (by omega)
        have h2 := ih (by omega)
        rw [flgAll_cons, List.length_append, e]
        omega
    rcases shape_of d with ⟨d0, ds, rfl⟩ | ⟨_, e⟩
    · have e1 : wt (.tuple [d0, .tuple ds]) = 1 + (wt d0 + (1 + wtAll ds + 0)) := rfl
      have e2 : flg (.tuple [d0, .tuple ds]) = if nameD d0 then true :: flgAll ds else [false] := by
        conv => lhs; unfold flg
      rw [e2]
      split
      · have := all ds (by omega)
        rw [List.length_cons]
        omega
      · rw [e1]
        show 1 ≤ _
        omega
    · rw [e]
      exact wt_pos d
theorem flg_len (d : PyData) : (flg d).length ≤ wt d := flg_lenN _ d (Nat.le_refl _)
theorem flgAll_len : ∀ ds : List PyData, (flgAll ds).length ≤ wtAll ds
  | [] => Nat.le_refl _
  | x :: xs => by
    have e : wtAll (x :: xs) = wt x + wtAll xs := rfl
    have := flg_len x
    have := flgAll_len xs
    rw [flgAll_cons, List.length_append, e]
    omega
structure ReadTxt (K : PySem.W.Frag) (mg : Str → Option Value) (a_law_signs a_law_is_name a_law_is_text a_law_is_head a_law_flags a_law_row_flags a_law_first : Addr) : Prop where
  n_isinstance : mg "isinstance" = none
  n_str : mg "str" = none
  n_tuple : mg "tuple" = none
  n_len : mg "len" = none
  g_law_signs : mg "_law_signs" = some (.ref a_law_signs)
  k_law_signs : PySem.W.keepIn K (.ref a_law_signs) = true
  g_law_is_name : mg "_law_is_name" = some (.ref a_law_is_name)
  k_law_is_name : PySem.W.keepIn K (.ref a_law_is_name) = true
  g_law_is_text : mg "_law_is_text" = some (.ref a_law_is_text)
  k_law_is_text : PySem.W.keepIn K (.ref a_law_is_text) = true
  g_law_is_head : mg "_law_is_head" = some (.ref a_law_is_head)
  k_law_is_head : PySem.W.keepIn K (.ref a_law_is_head) = true
  g_law_flags : mg "_law_flags" = some (.ref a_law_flags)
  k_law_flags : PySem.W.keepIn K (.ref a_law_flags) = true
  g_law_row_flags : mg "_law_row_flags" = some (.ref a_law_row_flags)
  k_law_row_flags : PySem.W.keepIn K (.ref a_law_row_flags) = true
  g_law_first : mg "_law_first" = some (.ref a_law_first)
  k_law_first : PySem.W.keepIn K (.ref a_law_first) = true
section
variable {P : Program} {w : World} {K : PySem.W.Frag} {mg : Str → Option Value} {base : Heap} {a_law_signs a_law_is_name a_law_is_text a_law_is_head a_law_flags a_law_row_flags a_law_first : Addr} {fdS fdN fdX fdH fdF fdR fd1 : FuncData}
theorem ok_signs {f : Addr} {fd : FuncData} (F : Fun K "_law_signs" "_law_signs" sSigns f fd) (T : ReadTxt K mg a_law_signs a_law_is_name a_law_is_text a_law_is_head a_law_flags a_law_row_flags a_law_first) : FnOk P w K mg base CX0 1 f fd ["value", "signs", "least", "most"] (spSigns K) := by
  refine F.ok scSigns (fun vs H Q E h => ?_) (fun cdv A outer s H vs Q E hr h => ?_)
  · obtain ⟨v, d, N, g, l, m, rfl, _⟩ := h
    rfl
  · obtain ⟨v, d, N, g, l, m, rfl, hv, ho, k⟩ := h
    refine ⟨_, (pss_cons (ps_if (PW.pt (pw_or (pt_not (pt_val (pe_callB call_isi (by rfl) T.n_isinstance (by decide +kernel) (pa_cons (pv 0) (pa_cons (pe_bltn (v := V.ty "str") (u := .type "str") (by rfl) T.n_str (by decide +kernel) (by rfl)) pa_nil))))) (pw_or (pt_cmpR op_lt (pe_callB call_len_str (by rfl) T.n_len PySem.boot_len (pa_cons (pv 0) pa_nil)) (pv 2) (nomark _)) (pw_or1 (pt_cmpR op_gt (pe_callB call_len_str (by rfl) T.n_len PySem.boot_len (pa_cons (pv 0) pa_nil)) (pv 3) (nomark _))))))
      (pss_one (ps_ret pe_bl))
      pss_nil)
      (pss_one (ps_ret (pe_cmpR (op_eqD hr.units) (pe_lc (own := [("sign", 4)]) (g := gName 4) (by rfl) scSigns.nd (pi_str (pv 0)) (blkOk_by (own := [("sign", 4)]) (N := ["value", "signs", "least", "most", "sign"]) (sc := defScope sSigns) (by decide +kernel)) (fun _ _ _ _ _ => pg_name (i := 4) scSigns.nd rfl (Or.inl rfl)) (fun _ _ _ _ _ => pts_one (pt_cmpR op_notIn_sign (pv 4) (pv 1) (by rfl))) (fun _ _ _ _ _ => (pv 4))) (pe_lst pa_nil) (nomark _))))), ?_⟩
    refine ⟨_, rfl, _, _, _, _, _, rfl, .ty "str", hv.ty, kit_str d, _, rfl, ?_⟩
    cases d with
    | str z =>
      have ev := hv.strV
      subst ev
      obtain ⟨sg, lz⟩ := ho.sg
      have e : sgD g l m (.str z) = (decide (l ≤ (z.length : Int)) && (decide ((z.length : Int) ≤ m) && hasOnly z g)) := rfl
      refine iteF ⟨_, rfl, _, rfl, (by rw [sizeLine_eq]; omega), _, rfl, _, _, rfl, rfl, _, rfl, ite2 (fun h1 => ?_) (fun h1 => ?_)⟩
      · have h2 : ¬ l ≤ (z.length : Int) := by
          have := of_decide_eq_true h1
          omega
        have := k H (Same.refl H)
        rw [e, decide_eq_false h2, Bool.false_and] at this
        exact this
      · have h2 : l ≤ (z.length : Int) := by
          have : ¬ ((z.length : Int) < l) := fun q => h1 (decide_eq_true q)
          omega
        rw [e, decide_eq_true h2, Bool.true_and] at k
        refine ⟨_, rfl, _, rfl, (by rw [sizeLine_eq]; omega), _, rfl, _, _, rfl, rfl, _, rfl, ite2 (fun h3 => ?_) (fun h3 => ?_)⟩
        · have h4 : ¬ (z.length : Int) ≤ m := by
            have := of_decide_eq_true h3
            omega
          have := k H (Same.refl H)
          rw [decide_eq_false h4, Bool.false_and] at this
          exact this
        · have h4 : (z.length : Int) ≤ m := by
            have : ¬ (m < (z.length : Int)) := fun q => h3 (decide_eq_true q)
            omega
          rw [decide_eq_true h4, Bool.true_and] at k
          refine ⟨_, rfl, z, rfl, fun D hD => ?_⟩
          refine lc_it walk_str (fun i H1 => Same H H1 ∧ H1 D = some (.lst (((z.cps.toList.take i).filter fun c => !decide (c ∈ g.cps.toList)).map fun c => V.str (oneS c)))) ⟨(Same.refl H).new hD, upd_same⟩ (fun _ _ _ _ => trivial) ?_ ?_
          · rintro i x H1 H2 hi ⟨s1, h1⟩ ⟨rfl, c, hc, rfl⟩
            have ec : z.cps.toList[i]? = some c := by simpa using hc
            have lf : (((z.cps.toList.take i).filter fun c => !decide (c ∈ g.cps.toList)).map fun c => V.str (oneS c)).length ≤ 1000000 := by
              rw [List.length_map]
              have h5 := List.length_filter_le (fun c => !decide (c ∈ g.cps.toList)) (z.cps.toList.take i)
              rw [List.length_take] at h5
              have : i ≤ z.length := by
                show i ≤ z.cps.size
                omega
              omega
            refine ⟨rfl, _, rfl, _, rfl, c, g, rfl, rfl, _, rfl, ?_⟩
            rw [take_more ec, List.filter_append]
            by_cases hg : c ∈ g.cps.toList
            · rw [decide_eq_true hg]
              refine iteF ⟨s1, ?_⟩
              simp only [List.filter_cons, List.filter_nil, decide_eq_true hg, Bool.not_true, Bool.false_eq_true, if_false, List.append_nil]
              exact h1
            · rw [decide_eq_false hg]
              refine iteT ⟨_, rfl, _, h1, smallM lf, s1.cell hD, ?_⟩
              rw [upd_same]
              simp only [List.filter_cons, List.filter_nil, decide_eq_false hg, Bool.not_false, if_true, List.map_append, List.map_cons, List.map_nil]
              rfl
          · rintro H1 ⟨s1, h1⟩
            have e1 : z.cps.toList.take z.cps.size = z.cps.toList := by
              rw [List.take_of_length_le]
              simp
            rw [e1] at h1
            refine ⟨Nat.zero_le _, fun p hp => ?_⟩
            have Dp : D ≠ p := ne_of_none h1 hp
            refine ⟨_, _, .lst (SqL.of (by rw [upd_ne Dp]; exact h1)) (dp_strs _), .lst (SqL.of upd_same) .nil, (vd_strs fun c hc => sg c (List.mem_filter.mp hc |>.1)).shaped (by decide), shaped_ints [], ?_⟩
            have := k _ (s1.new (o := .lst []) hp)
            have e2 : PyData.eqv (.list ((z.cps.toList.filter fun c => !decide (c ∈ g.cps.toList)).map fun c => PyData.str (oneS c))) (.list []) = hasOnly z g := by
              rw [eqv_nilL]
              unfold hasOnly
              rw [Bool.eq_iff_iff, List.isEmpty_iff, List.map_eq_nil_iff, List.filter_eq_nil_iff, List.all_eq_true]
              simp
            rw [e2]
            exact this
    | _ => exact iteT (k _ (Same.refl H))
end
end K1

namespace K1
open PySem L2 Xr Exv
theorem flatV_bl (l : List Bool) : (l.map V.bl).all flatV = true := by
  induction l with
  | nil => rfl
  | cons b l ih => rw [List.map_cons, List.all_cons, ih]; rfl
theorem inV_bl : ∀ l : List Bool, inV (V.bl false) (l.map V.bl) = (firstF l).isSome
  | [] => rfl
  | false :: l => rfl
  | true :: l => by
    have ih := inV_bl l
    show (eqV (V.bl true) (V.bl false) || inV (V.bl false) (l.map V.bl)) = ((firstF l).map (· + 1)).isSome
    rw [ih]
    cases firstF l <;> rfl
theorem firstF_at : ∀ {l : List Bool} {n : Nat}, firstF l = some n → l[n]? = some false ∧ ∀ m, m < n → ∀ b, l[m]? = some b → b = true
  | false :: l, n, h => by
    have e : n = 0 := (Option.some.inj h).symm
    subst e
    exact ⟨rfl, fun m hm => absurd hm (Nat.not_lt_zero m)⟩
  | true :: l, n, h => by
    rw [firstF_true] at h
    cases e : firstF l with
    | none => rw [e] at h; cases h
    | some k =>
      rw [e] at h
      have en : n = k + 1 := (Option.some.inj h).symm
      subst en
      obtain ⟨a, b⟩ := firstF_at e
      refine ⟨by simpa using a, fun m hm x hx => ?_⟩
      cases m with
      | zero => exact (Option.some.inj (by simpa using hx)).symm
      | succ m => exact b m (by omega) x (by simpa using hx)
section
variable {P : Program} {w : World} {K : PySem.W.Frag} {mg : Str → Option Value} {base : Heap} {a_law_signs a_law_is_name a_law_is_text a_law_is_head a_law_flags a_law_row_flags a_law_first : Addr} {fdS fdN fdX fdH fdF fdR fd1 : FuncData}
theorem ok_lname {f : Addr} {fd : FuncData} (F : Fun K "_law_is_name" "_law_is_name" sLName f fd) (T : ReadTxt K mg a_law_signs a_law_is_name a_law_is_text a_law_is_head a_law_flags a_law_row_flags a_law_first)
    (G_law_signs : FnOk P w K mg base CX0 1 a_law_signs fdS ["value", "signs", "least", "most"] (spSigns K)) (b_law_signs : Binds K fdS ["value", "signs", "least", "most"] []) : FnOk P w K mg base CX0 2 f fd ["value"] (spB K nameD) := by
  refine F.ok scLName (fun vs H Q E h => ?_) (fun cdv A outer s H vs Q E hr h => ?_)
  · obtain ⟨v, d, N, rfl, _⟩ := h
    rfl
  · obtain ⟨v, d, N, rfl, hv, ho, k⟩ := h
    refine ⟨_, (pss_one (ps_ret (pe_call G_law_signs hr rfl T.g_law_signs T.k_law_signs b_law_signs .nil pass0 (pa_cons (pv 0) (pa_cons pe_str (pa_cons pe_int (pa_cons pe_int pa_nil))))))), ?_⟩
    exact ⟨_, rfl, v, d, N, abc, 1, 8, rfl, hv, ho, fun H' s1 => by rw [sg_name]; exact k H' s1⟩
theorem ok_ltxt {f : Addr} {fd : FuncData} (F : Fun K "_law_is_text" "_law_is_text" sLTxt f fd) (T : ReadTxt K mg a_law_signs a_law_is_name a_law_is_text a_law_is_head a_law_flags a_law_row_flags a_law_first)
    (G_law_signs : FnOk P w K mg base CX0 1 a_law_signs fdS ["value", "signs", "least", "most"] (spSigns K)) (b_law_signs : Binds K fdS ["value", "signs", "least", "most"] []) : FnOk P w K mg base CX0 2 f fd ["value"] (spB K textD) := by
  refine F.ok scLTxt (fun vs H Q E h => ?_) (fun cdv A outer s H vs Q E hr h => ?_)
  · obtain ⟨v, d, N, rfl, _⟩ := h
    rfl
  · obtain ⟨v, d, N, rfl, hv, ho, k⟩ := h
    refine ⟨_, (pss_one (ps_ret (pe_call G_law_signs hr rfl T.g_law_signs T.k_law_signs b_law_signs .nil pass0 (pa_cons (pv 0) (pa_cons pe_str (pa_cons pe_int (pa_cons pe_int pa_nil))))))), ?_⟩
    exact ⟨_, rfl, v, d, N, abc9, 0, 16, rfl, hv, ho, fun H' s1 => by rw [sg_text]; exact k H' s1⟩
theorem ok_head {f : Addr} {fd : FuncData} (F : Fun K "_law_is_head" "_law_is_head" sHead f fd) (T : ReadTxt K mg a_law_signs a_law_is_name a_law_is_text a_law_is_head a_law_flags a_law_row_flags a_law_first)
    (G_law_is_name : FnOk P w K mg base CX0 2 a_law_is_name fdN ["value"] (spB K nameD)) (b_law_is_name : Binds K fdN ["value"] []) : FnOk P w K mg base CX0 3 f fd ["value"] (spB K pairD) := by
  refine F.ok scHead (fun vs H Q E h => ?_) (fun cdv A outer s H vs Q E hr h => ?_)
  · obtain ⟨v, d, N, rfl, _⟩ := h
    rfl
  · obtain ⟨v, d, N, rfl, hv, ho, k⟩ := h
    refine ⟨_, (pss_one (ps_ret (pe_and (pe_callB call_isi (by rfl) T.n_isinstance (by decide +kernel) (pa_cons (pv 0) (pa_cons (pe_bltn (v := V.ty "tuple") (u := .type "tuple") (by rfl) T.n_tuple (by decide +kernel) (by rfl)) pa_nil))) (pe_and (pe_cmpR op_eq (pe_callB call_len_seq (by rfl) T.n_len PySem.boot_len (pa_cons (pv 0) pa_nil)) pe_int (nomark _)) (pe_and (pe_call G_law_is_name hr rfl T.g_law_is_name T.k_law_is_name b_law_is_name .nil pass0 (pa_cons (pe_ix ix_tup (pv 0) pe_int (fun _ _ => rfl)) pa_nil)) (pe_one (pe_callB call_isi (by rfl) T.n_isinstance (by decide +kernel) (pa_cons (pe_ix ix_tup (pv 0) pe_int (fun _ _ => rfl)) (pa_cons (pe_bltn (v := V.ty "tuple") (u := .type "tuple") (by rfl) T.n_tuple (by decide +kernel) (by rfl)) pa_nil))))))))), ?_⟩
    refine ⟨_, rfl, _, _, _, _, _, rfl, .ty "tuple", hv.ty, kit_tup d, _, rfl, ?_⟩
    cases d with
    | tuple ds =>
      obtain ⟨a, xs, rfl, ta, al⟩ := hv.seq
      have lx := al.len
      refine iteT ⟨_, rfl, _, xs, rfl, .inr ta.sq, rfl, _, rfl, ?_⟩
      match ds, xs, al, lx, ho, k, ta with
      | [], [], _, _, _, k, _ => exact iteF (k _ (Same.refl H))
      | [_], [_], _, _, _, k, _ => exact iteF (k _ (Same.refl H))
      | d0 :: d1 :: d2 :: r, x0 :: x1 :: x2 :: r', _, _, _, k, _ =>
        have e : decide (V.int ((x0 :: x1 :: x2 :: r').length : Int) = V.int 2) = false := decide_eq_false fun z => by
          have := V.int.inj z
          simp at this
          omega
        rw [e]
        exact iteF (k _ (Same.refl H))
      | [d0, d1], [x0, x1], .cons h0 (.cons h1 .nil), _, ho, k, ta =>
        refine iteT ⟨_, rfl, _, _, _, _, rfl, rfl, ta.sq, atI_nat (j := 0) rfl, _, _, N, rfl, h0, ho.part (by simp), fun H1 s1 => ⟨_, rfl, ?_⟩⟩
        have e0 : pairD (.tuple [d0, d1]) = (nameD d0 && isTup d1) := rfl
        refine ite2 (fun hn => ?_) (fun hn => ?_)
        · refine ⟨_, rfl, _, _, _, _, rfl, rfl, (ta.up (Bt.same s1)).sq, atI_nat (j := 1) rfl, _, _, _, _, _, rfl, .ty "tuple", (h1.up (Bt.same s1)).ty, kit_tup d1, ?_⟩
          have := k _ s1
          rw [e0, hn, Bool.true_and] at this
          exact this
        · have hf : nameD d0 = false := by simpa using hn
          have := k _ s1
          rw [e0, hf, Bool.false_and] at this
          exact this
    | _ => exact iteF (k _ (Same.refl H))
theorem ok_first {f : Addr} {fd : FuncData} (F : Fun K "_law_first" "_law_first" sFirst f fd) : FnOk P w K mg base CX0 1 f fd ["flags"] spFirst := by
  refine F.ok scFirst (fun vs H Q E h => ?_) (fun cdv A outer s H vs Q E hr h => ?_)
  · obtain ⟨p, bs, rfl, _⟩ := h
    rfl
  · obtain ⟨p, bs, rfl, hp, k⟩ := h
    refine ⟨_, (pss_one (ps_ret (pe_ifExp (pt_cmpR op_in_seq pe_bl (pv 0) (by rfl)) (pe_bm PySem.F.plainAttrs_list PySem.F.slot_list_index PySem.F.type_list_index mt_index (pv 0) (pa_cons pe_bl pa_nil)) pe_non))), ?_⟩
    refine ⟨_, rfl, p, _, rfl, .inl (SqL.of hp), rfl, flatV_bl bs, _, rfl, ?_⟩
    have e : (if false = true then !inV (V.bl false) (bs.map V.bl) else inV (V.bl false) (bs.map V.bl)) = (firstF bs).isSome := by
      rw [if_neg (by decide), inV_bl]
    rw [e]
    cases ef : firstF bs with
    | none =>
      rw [ef] at k
      exact iteF k
    | some n =>
      rw [ef] at k
      obtain ⟨h1, h2⟩ := firstF_at ef
      refine iteT ⟨_, rfl, .inl ⟨rfl, _, SqL.of hp⟩, p, _, V.bl false, n, V.bl false, rfl, rfl, SqL.of hp, rfl, flatV_bl bs, (by rw [List.getElem?_map, h1]; rfl), rfl, fun m z hm hz => ?_, k⟩
      rw [List.getElem?_map] at hz
      cases eb : bs[m]? with
      | none => rw [eb] at hz; cases hz
      | some b =>
        rw [eb] at hz
        have := h2 m hm b eb
        subst this
        have ez := Option.some.inj hz
        rw [← ez]
        rfl
theorem ok_flags0 {fd : FuncData} (n : Nat) (F : Fun K "_law_flags" "_law_flags" sFlags a_law_flags fd) (T : ReadTxt K mg a_law_signs a_law_is_name a_law_is_text a_law_is_head a_law_flags a_law_row_flags a_law_first)
    (G_law_is_head : FnOk P w K mg base CX0 3 a_law_is_head fdH ["value"] (spB K pairD)) (b_law_is_head : Binds K fdH ["value"] []) (G_law_is_text : FnOk P w K mg base CX0 2 a_law_is_text fdX ["value"] (spB K textD)) (b_law_is_text : Binds K fdX ["value"] [])
    (b_law_row_flags : Binds K fdR ["things"] []) (R : ∀ m, n = m + 1 → FnOk P w K mg base CX0 (6 + 2 * m) a_law_row_flags fdR ["things"] (spRow K m)) : FnOk P w K mg base CX0 (5 + 2 * n) a_law_flags fd ["thing"] (spFlags K n) := by
  have e54 : 5 + 2 * n = 4 + 2 * n + 1 := by omega
  rw [e54]
  refine F.ok scFlags (fun vs H Q E h => ?_) (fun cdv A outer s H vs Q E hr h => ?_)
  · obtain ⟨v, d, N, rfl, _⟩ := h
    rfl
  · obtain ⟨v, d, N, rfl, hv, ho, hd, k⟩ := h
    have hr2 : Room 2 _ := hr.mono (by omega)
    have hr3 : Room 3 _ := hr.mono (by omega)
    cases n with
    | zero =>
      refine ⟨_, pss_cons (ps_if (pt_not (pt_val (pe_call G_law_is_head hr3 rfl T.g_law_is_head T.k_law_is_head b_law_is_head .nil pass0 (pa_cons (pv 0) pa_nil))))
        (pss_one (ps_ret (pe_lst (pa_cons (pe_call G_law_is_text hr2 rfl T.g_law_is_text T.k_law_is_text b_law_is_text .nil pass0 (pa_cons (pv 0) pa_nil)) pa_nil)))) pss_nil) pss_never, ?_⟩
      have np : pairD d = false := by
        cases d with
        | tuple ds =>
          unfold PyData.depth at hd
          omega
        | _ => rfl
      refine ⟨_, rfl, v, d, N, rfl, hv, ho, fun H1 s1 => ⟨_, rfl, ?_⟩⟩
      rw [np]
      refine iteT ⟨_, rfl, v, d, N, rfl, hv.up (Bt.same s1), ho, fun H2 s2 => ⟨(by show 1 ≤ sizeLine; decide), fun p hp => ?_⟩⟩
      refine k p _ ?_ ((s1.trans s2).free hp) ((s1.trans s2).new hp)
      rw [upd_same, flg_not np]
      rfl
    | succ m =>
      have G_law_row_flags := R m rfl
      have hrR : Room (6 + 2 * m) _ := hr.mono (by omega)
      refine ⟨_, (pss_cons (ps_if (pt_not (pt_val (pe_call G_law_is_head hr3 rfl T.g_law_is_head T.k_law_is_head b_law_is_head .nil pass0 (pa_cons (pv 0) pa_nil))))
      (pss_one (ps_ret (pe_lst (pa_cons (pe_call G_law_is_text hr2 rfl T.g_law_is_text T.k_law_is_text b_law_is_text .nil pass0 (pa_cons (pv 0) pa_nil)) pa_nil))))
      pss_nil)
      (pss_one (ps_ret (pe_op op_cat (pe_lst (pa_cons pe_bl pa_nil)) (pe_call G_law_row_flags hrR rfl T.g_law_row_flags T.k_law_row_flags b_law_row_flags .nil pass0 (pa_cons (pe_ix ix_tup (pv 0) pe_int (fun _ _ => rfl)) pa_nil)))))), ?_⟩
      refine ⟨_, rfl, v, d, N, rfl, hv, ho, fun H1 s1 => ⟨_, rfl, ?_⟩⟩
      cases hp : pairD d with
      | false =>
        refine iteT ⟨_, rfl, v, d, N, rfl, hv.up (Bt.same s1), ho, fun H2 s2 => ⟨(by show 1 ≤ sizeLine; decide), fun p hp2 => ?_⟩⟩
        refine k p _ ?_ ((s1.trans s2).free hp2) ((s1.trans s2).new hp2)
        rw [upd_same, flg_not hp]
        rfl
      | true =>
        obtain ⟨d0, cs, rfl, nm⟩ := pair_shape hp
        obtain ⟨b, ys, rfl, tb, bl⟩ := hv.seq
        obtain ⟨y0, y1, rfl, dy0, dy1⟩ : ∃ y0 y1, ys = [y0, y1] ∧ Dm K N H y0 d0 ∧ Dm K N H y1 (.tuple cs) := by
          cases bl with
          | cons u1 r =>
            cases r with
            | cons u2 r =>
              cases r
              exact ⟨_, _, rfl, u1, u2⟩
        have oc : Ok (.tuple cs) := ho.part (by simp)
        have dc : ∀ x ∈ cs, x.depth ≤ m := by
          have h1 : Vd (m + 1) (.tuple [d0, .tuple cs]) := ⟨ho.vd.lay, hd⟩
          have h2 := h1.tup.2 (.tuple cs) (by simp)
          intro x hx
          have h3 := (h2.tup.2 x hx).dep
          omega
        refine iteF ⟨(by show 1 ≤ sizeLine; decide), fun p hp2 => ?_⟩
        have s2 : Same H (upd H1 p (.lst [V.bl true])) := s1.new hp2
        have h2 : (upd H1 p (.lst [V.bl true])) p = some (.lst [V.bl true]) := upd_same
        generalize upd H1 p (.lst [V.bl true]) = H2 at s2 h2 ⊢
        refine ⟨_, rfl, _, _, _, _, rfl, rfl, (tb.up (Bt.same s2)).sq, atI_nat (j := 1) rfl, y1, cs, N, rfl, dy1.up (Bt.same s2), oc, dc, fun q H3 h3 hq s3 => ?_⟩
        have lc := flgAll_len cs
        have lw := oc.wt
        have ew : wt (.tuple cs) = 1 + wtAll cs := rfl
        refine ⟨p, q, _, _, rfl, rfl, s3 _ _ h2, h3, (by rw [List.length_map, sizeLine_eq]; show 1 + _ ≤ _; omega), fun r hr5 => ?_⟩
        refine k r _ ?_ ((s2.trans s3).free hr5) ((s2.trans s3).new hr5)
        rw [upd_same, flg_pair nm]
        rfl
theorem ok_row0 {fd : FuncData} (n : Nat) (F : Fun K "_law_row_flags" "_law_row_flags" sRow a_law_row_flags fd) (T : ReadTxt K mg a_law_signs a_law_is_name a_law_is_text a_law_is_head a_law_flags a_law_row_flags a_law_first)
    (b_law_flags : Binds K fdF ["thing"] []) (G_law_flags : FnOk P w K mg base CX0 (5 + 2 * n) a_law_flags fdF ["thing"] (spFlags K n)) : FnOk P w K mg base CX0 (6 + 2 * n) a_law_row_flags fd ["things"] (spRow K n) := by
  have e54 : 6 + 2 * n = 5 + 2 * n + 1 := by omega
  rw [e54]
  refine F.ok scRow (fun vs H Q E h => ?_) (fun cdv A outer s H vs Q E hr h => ?_)
  · obtain ⟨v, ds, N, rfl, _⟩ := h
    rfl
  · obtain ⟨v, ds, N, rfl, hv, ho, hd, k⟩ := h
    refine ⟨_, (pss_cons (ps_set (i := 1) scRow.nd rfl (Or.inl rfl) (pe_lst pa_nil))
      (pss_cons (ps_for PassesOwn.never rfl (pi_tup (pv 0)) (pg_name (i := 2) scRow.nd rfl (Or.inl rfl))
      (pss_one (ps_set (i := 1) scRow.nd rfl (Or.inl rfl) (pe_op op_cat (pv 1) (pe_call G_law_flags hr rfl T.g_law_flags T.k_law_flags b_law_flags .nil pass0 (pa_cons (pv 2) pa_nil))))))
      (pss_one (ps_ret (pv 1))))), ?_⟩
    obtain ⟨a, xs, rfl, ta, al⟩ := hv.seq
    have lx := al.len
    have lw := ho.wt
    have ew : wt (.tuple ds) = 1 + wtAll ds := rfl
    refine ⟨Nat.zero_le _, fun L hL => ?_⟩
    have s0 : Same H (upd H L (.lst [])) := (Same.refl H).new hL
    refine ⟨_, rfl, a, rfl, ⟨_, (ta.up (Bt.same s0)).sq⟩, ?_⟩
    refine for_tup (K := K) (a := a) (xs := xs) (fun i σ H1 => ∃ (L : Addr) (x2 : Option V), σ = [some (.ref a), some (.ref L), x2] ∧ Same H H1 ∧ H L = none ∧ H1 L = some (.lst ((flgAll (ds.take i)).map V.bl)))
      ⟨L, none, rfl, s0, hL, by rw [upd_same, List.take_zero]; rfl⟩ (fun i σ H1 _ ⟨_, _, _, s1, _⟩ => (ta.up (Bt.same s1)).sq) ?_ ?_
    · rintro i y σ H1 hy ⟨L, x2, rfl, s1, hL, h1⟩
      obtain ⟨d, hd2, dv⟩ := al.getV hy
      have mem : d ∈ ds := List.mem_of_getElem? hd2
      refine ⟨_, rfl, _, rfl, y, d, N, rfl, dv.up (Bt.same s1), ho.part mem, hd d mem, fun q H2 h2 hq s2 => ?_⟩
      have l1 := flgAll_len (ds.take i)
      have l2 := flg_len d
      have l3 := wt_split ds i
      have l4 := wt_mem mem
      refine ⟨L, q, _, _, rfl, rfl, s2 _ _ h1, h2, (by rw [List.length_map, List.length_map, sizeLine_eq]; omega), fun r hr5 => ?_⟩
      have s3 := s1.trans s2
      refine ⟨r, _, rfl, s3.new hr5, s3.free hr5, ?_⟩
      have e9 : flgAll (ds.take (i + 1)) = flgAll (ds.take i) ++ flg d := by
        rw [take_snoc hd2, flgAll_app]
        show _ ++ (flg d ++ []) = _
        rw [List.append_nil]
      rw [upd_same, e9, List.map_append]
    · rintro σ H1 ⟨L, x2, rfl, s1, hL, h1⟩
      have e9 : ds.take xs.length = ds := List.take_of_length_le (by omega)
      rw [e9] at h1
      exact ⟨_, rfl, k L H1 h1 hL s1⟩
theorem ok_both {fdF fdR : FuncData} (FF : Fun K "_law_flags" "_law_flags" sFlags a_law_flags fdF) (FR : Fun K "_law_row_flags" "_law_row_flags" sRow a_law_row_flags fdR) (T : ReadTxt K mg a_law_signs a_law_is_name a_law_is_text a_law_is_head a_law_flags a_law_row_flags a_law_first)
    (G_law_is_head : FnOk P w K mg base CX0 3 a_law_is_head fdH ["value"] (spB K pairD)) (b_law_is_head : Binds K fdH ["value"] []) (G_law_is_text : FnOk P w K mg base CX0 2 a_law_is_text fdX ["value"] (spB K textD)) (b_law_is_text : Binds K fdX ["value"] [])
    (b_law_flags : Binds K fdF ["thing"] []) (b_law_row_flags : Binds K fdR ["things"] []) : ∀ n : Nat, FnOk P w K mg base CX0 (5 + 2 * n) a_law_flags fdF ["thing"] (spFlags K n) ∧ FnOk P w K mg base CX0 (6 + 2 * n) a_law_row_flags fdR ["things"] (spRow K n)
  | 0 => by
    have a := ok_flags0 0 FF T G_law_is_head b_law_is_head G_law_is_text b_law_is_text b_law_row_flags (fun m h => absurd h (by omega))
    exact ⟨a, ok_row0 0 FR T b_law_flags a⟩
  | n + 1 => by
    have ih := ok_both FF FR T G_law_is_head b_law_is_head G_law_is_text b_law_is_text b_law_flags b_law_row_flags n
    have a := ok_flags0 (n + 1) FF T G_law_is_head b_law_is_head G_law_is_text b_law_is_text b_law_row_flags (fun m h => by
      have e : m = n := by omega
      rw [e]
      exact ih.2)
    exact ⟨a, ok_row0 (n + 1) FR T b_law_flags a⟩
theorem ok_due {f : Addr} {fd : FuncData} (F : Fun K "_law_due" "_law_due" sDue f fd) (T : ReadTxt K mg a_law_signs a_law_is_name a_law_is_text a_law_is_head a_law_flags a_law_row_flags a_law_first)
    (G_law_is_head : FnOk P w K mg base CX0 3 a_law_is_head fdH ["value"] (spB K pairD)) (b_law_is_head : Binds K fdH ["value"] []) (G_law_first : FnOk P w K mg base CX0 1 a_law_first fd1 ["flags"] spFirst) (b_law_first : Binds K fd1 ["flags"] [])
    (G_law_flags : FnOk P w K mg base CX0 125 a_law_flags fdF ["thing"] (spFlags K 60)) (b_law_flags : Binds K fdF ["thing"] []) (G_law_row_flags : FnOk P w K mg base CX0 126 a_law_row_flags fdR ["things"] (spRow K 60)) (b_law_row_flags : Binds K fdR ["things"] []) :
    FnOk P w K mg base CX0 127 f fd ["number", "value"] (spDue K) := by
  refine F.ok scDue (fun vs H Q E h => ?_) (fun cdv A outer s H vs Q E hr h => ?_)
  · obtain ⟨kk, v, d, N, rfl, _⟩ := h
    rfl
  · obtain ⟨kk, v, d, N, rfl, h3, hv, ho, k⟩ := h
    have hr1 : Room 1 _ := hr.mono (by decide)
    have hr3 : Room 3 _ := hr.mono (by decide)
    have hr5 : Room 125 _ := hr.mono (by decide)
    refine ⟨_, (pss_cons (ps_if (pt_cmpR op_eq (pv 0) pe_int (nomark _))
      (pss_one (ps_set (i := 2) scDue.nd rfl (Or.inl rfl) (pe_ifExp (pt_val (pe_callB call_isi (by rfl) T.n_isinstance (by decide +kernel) (pa_cons (pv 1) (pa_cons (pe_bltn (v := V.ty "tuple") (u := .type "tuple") (by rfl) T.n_tuple (by decide +kernel) (by rfl)) pa_nil)))) (pe_call G_law_first hr1 rfl T.g_law_first T.k_law_first b_law_first .nil pass0 (pa_cons (pe_call G_law_row_flags hr rfl T.g_law_row_flags T.k_law_row_flags b_law_row_flags .nil pass0 (pa_cons (pv 1) pa_nil)) pa_nil)) (pe_un un_neg pe_int))))
      (pss_one (ps_set (i := 2) scDue.nd rfl (Or.inl rfl) (pe_ifExp (PW.pt (pw_and (pt_cmpR op_eq (pv 0) pe_int (nomark _)) (pw_and1 (pt_not (pt_val (pe_call G_law_is_head hr3 rfl T.g_law_is_head T.k_law_is_head b_law_is_head .nil pass0 (pa_cons (pv 1) pa_nil))))))) pe_int (pe_call G_law_first hr1 rfl T.g_law_first T.k_law_first b_law_first .nil pass0 (pa_cons (pe_call G_law_flags hr5 rfl T.g_law_flags T.k_law_flags b_law_flags .nil pass0 (pa_cons (pv 1) pa_nil)) pa_nil))))))
      (pss_one (ps_ret (pe_ifExp (pt_cmpR op_isN (pv 2) pe_non (nomark _)) pe_non (pe_tup (pa_cons pe_str (pa_cons (pv 2) pa_nil))))))), ?_⟩
    have yes : ∀ (i : Int) (H' : Hp), Same H H' → dueD kk d = some i → ∀ p, H' p = none → Q (.ref p) (upd H' p (.tup [.str (Str.ofString "wrong"), .int i])) := fun i H' s1 e p hp => k (.ref p) _ (by rw [e]; exact ⟨p, rfl, upd_same⟩) (s1.new hp)
    have no : ∀ (H' : Hp), Same H H' → dueD kk d = none → Q .non H' := fun H' s1 e => k .non H' (by rw [e]; rfl) s1
    have l2 : 2 ≤ sizeLine := by decide
    have els : (kk = 0 ∨ kk = 1) → dueD kk d = if kk = 0 ∧ pairD d = false then some 0 else (firstF (flg d)).map fun (n : Nat) => (n : Int) := by
      rintro (rfl | rfl)
      · show nodeD d = _
        unfold nodeD
        cases pairD d <;> rfl
      · show thingD d = _
        rfl
    rcases h3 with h3 | h3 | h3
    · subst h3
      have e := els (.inl rfl)
      refine ⟨_, rfl, rfl, _, rfl, iteF ⟨_, rfl, rfl, _, rfl, iteT ⟨_, rfl, v, d, N, rfl, hv, ho, fun H1 s1 => ⟨_, rfl, ?_⟩⟩⟩⟩
      cases hp : pairD d with
      | false =>
        rw [hp, if_pos ⟨rfl, rfl⟩] at e
        exact iteT ⟨_, rfl, rfl, _, rfl, iteF ⟨_, rfl, l2, yes 0 _ s1 e⟩⟩
      | true =>
        rw [hp, if_neg (fun z => by cases z.2)] at e
        refine iteF ⟨_, rfl, v, d, N, rfl, hv.up (Bt.same s1), ho, ho.vd.dep, fun q H2 h2 hq s2 => ⟨q, _, rfl, h2, ?_⟩⟩
        cases ef : firstF (flg d) with
        | none => exact ⟨_, rfl, rfl, _, rfl, iteT (no _ (s1.trans s2) (by rw [e, ef]; rfl))⟩
        | some n => exact ⟨_, rfl, rfl, _, rfl, iteF ⟨_, rfl, l2, yes n _ (s1.trans s2) (by rw [e, ef]; rfl)⟩⟩
    · subst h3
      have e := els (.inr rfl)
      rw [if_neg (fun z => by cases z.1)] at e
      refine ⟨_, rfl, rfl, _, rfl, iteF ⟨_, rfl, rfl, _, rfl, iteF ?_⟩⟩
      refine iteF ⟨_, rfl, v, d, N, rfl, hv, ho, ho.vd.dep, fun q H2 h2 hq s2 => ⟨q, _, rfl, h2, ?_⟩⟩
      cases ef : firstF (flg d) with
      | none => exact ⟨_, rfl, rfl, _, rfl, iteT (no _ s2 (by rw [e, ef]; rfl))⟩
      | some n => exact ⟨_, rfl, rfl, _, rfl, iteF ⟨_, rfl, l2, yes n _ s2 (by rw [e, ef]; rfl)⟩⟩
    · subst h3
      refine ⟨_, rfl, rfl, _, rfl, iteT ⟨_, rfl, _, _, _, _, _, rfl, .ty "tuple", hv.ty, kit_tup d, _, rfl, ?_⟩⟩
      have other : isTup d = false → dueD 2 d = some (-1) := fun h => by
        show forestD d = _
        cases d <;> first | rfl | cases h
      cases ht : isTup d with
      | false => exact iteF ⟨1, rfl, _, rfl, rfl, _, rfl, iteF ⟨_, rfl, l2, yes (-1) _ (Same.refl H) (other ht)⟩⟩
      | true =>
        have et := tup_eq ht
        generalize asT d = ds at et
        subst et
        have e : dueD 2 (.tuple ds) = (firstF (flgAll ds)).map fun (n : Nat) => (n : Int) := rfl
        refine iteT ⟨_, rfl, v, ds, N, rfl, hv, ho, fun x hx => (ho.part hx).vd.dep, fun q H2 h2 hq s2 => ⟨q, _, rfl, h2, ?_⟩⟩
        cases ef : firstF (flgAll ds) with
        | none => exact ⟨_, rfl, rfl, _, rfl, iteT (no _ s2 (by rw [e, ef]; rfl))⟩
        | some n => exact ⟨_, rfl, rfl, _, rfl, iteF ⟨_, rfl, l2, yes n _ s2 (by rw [e, ef]; rfl)⟩⟩
end
end K1

/-! odd values -/
namespace K1
open PySem L2 Xr Exv
def N0 (d c : Addr) : Addr → Prop := fun a => a = d ∨ a = c
theorem But.bt {d c : Addr} {H H' : Hp} (b : But d c H H') : Bt (N0 d c) H H' := fun a o n e => b a o e (fun z => n (.inl z)) (fun z => n (.inr z))
/-- the deal went on, all else stands -/
structure Mv (d c : Addr) (H H' : Hp) : Prop where
  D : DealAt H' d c
  b : But d c H H'
theorem DealAt.same {d c : Addr} {H H' : Hp} (D : DealAt H d c) (s : Same H H') : DealAt H' d c := by
  obtain ⟨cs, b, h1, h2, r⟩ := D.ex
  exact ⟨cs, b, s _ _ h1, s _ _ h2, r⟩
theorem Mv.refl {d c : Addr} {H : Hp} (D : DealAt H d c) : Mv d c H H := ⟨D, But.refl⟩
theorem Mv.trans {d c : Addr} {H H1 H2 : Hp} (a : Mv d c H H1) (b : Mv d c H1 H2) : Mv d c H H2 := ⟨b.D, a.b.trans b.b⟩
theorem But.same {d c : Addr} {H H1 H2 : Hp} (a : But d c H H1) (s : Same H1 H2) : But d c H H2 := fun q o e n m => s q o (a q o e n m)
theorem Mv.same {d c : Addr} {H H1 H2 : Hp} (a : Mv d c H H1) (s : Same H1 H2) : Mv d c H H2 := ⟨a.D.same s, a.b.same s⟩
theorem Mv.new {d c l : Addr} {H H1 : Hp} {o : HO} (a : Mv d c H H1) (hl : H1 l = none) : Mv d c H (upd H1 l o) := a.same ((Same.refl H1).new hl)
theorem Mv.trk {d c : Addr} {H H1 : Hp} (a : Mv d c H H1) : ∀ x, N0 d c x → Trk H1 x := fun x hx => by
  obtain ⟨t1, t2⟩ := a.D.trk
  rcases hx with e | e
  · rw [e]; exact t1
  · rw [e]; exact t2
section
variable {K : PySem.W.Frag} {d c : Addr} {H H1 : Hp}
theorem Dm.mv {v : V} {x : PyData} (h : Dm K (N0 d c) H v x) (m : Mv d c H H1) : Dm K (N0 d c) H1 v x := h.up m.b.bt
theorem SEnv.mv {L : List Nat} {σ : L2.St} {D : DEnv} (h : SEnv K (N0 d c) L σ H D) (m : Mv d c H H1) : SEnv K (N0 d c) L σ H1 D := h.up m.b.bt
theorem of_data {v : V} {ds : List PyData} {Q : VK} {E : XK} (D : DealAt H d c) (h : Dm K (N0 d c) H v (.list ds)) (h0 : 0 < ds.length) (h1 : ds.length < 1000000)
    (k : ∀ (v' : V) (x : PyData) (H' : Hp), x ∈ ds → Dm K (N0 d c) H' v' x → Mv d c H H' → Q v' H') : spOf [.ref d, v] H Q E := by
  cases h with
  | @lst a xs _ e n al =>
    have l := al.len
    refine ⟨d, c, D, .inl ⟨a, xs, rfl, e, fun z => n (.inl z), fun z => n (.inr z), by omega, by omega, fun v' H' hv D' b' => ?_⟩⟩
    obtain ⟨i, hi⟩ := List.getElem?_of_mem hv
    obtain ⟨x, hx, dx⟩ := al.getV hi
    exact k v' x H' (List.mem_of_getElem? hx) (dx.mv ⟨D', b'⟩) ⟨D', b'⟩
end
def oddWords : List Str := ["a", "abcdefgh", "abcdefghi", "A", "a1", "a b", "", "0", "0123456789abcdef", "0123456789abcdefg", "-", "a\n"].map Str.ofString
theorem oddWords_ok : ∀ z ∈ oddWords, z.length ≤ 17 ∧ Sg z := by
  have h : (oddWords.all fun z => decide (z.length ≤ 17) && z.cps.toList.all fun c => decide (c < 1114112)) = true := by decide +kernel
  intro z hz
  have := List.all_eq_true.mp h z hz
  rw [Bool.and_eq_true] at this
  refine ⟨of_decide_eq_true this.1, fun c hc => ?_⟩
  exact of_decide_eq_true (List.all_eq_true.mp this.2 c hc)
def oddA (z n : PyData) : List PyData := [z, z, z, z, .none, n, .tuple [], .list [], .tuple [z, .tuple []], .tuple [z, .tuple []], .list [z, .tuple []], .tuple [z, .list []], .tuple [z, .str (Str.ofString "a")], .tuple [z]]
def oddB (z n : PyData) : List PyData := [.tuple [z, .tuple [], .tuple []], .tuple [n, .tuple []], .tuple [.tuple [z, .tuple []]], .tuple [.tuple [], z], .tuple [z, .tuple [z, z]], .tuple [z, .tuple [n]]]
structure Odd (x : PyData) : Prop where
  vd : Vd 3 x
  wt : wt x ≤ 60
theorem odd_all {z : Str} {n : PyData} (hz : z.length ≤ 17) (sz : Sg z) (hn : Vd 0 n) (wn : wt n ≤ 1) : ∀ x ∈ oddA (.str z) n ++ oddB (.str z) n, Odd x := by
  have c1 : PyData.canLay0 (.str z) = true := (vd_str sz).lay
  have c2 : PyData.canLay0 n = true := hn.lay
  have c3 : PyData.canLay0 (.str (Str.ofString "a")) = true := by decide +kernel
  have d1 : PyData.depth (.str z) = 0 := by unfold PyData.depth; rfl
  have d2 : PyData.depth n = 0 := Nat.le_zero.mp hn.dep
  have d3 : PyData.depth (.str (Str.ofString "a")) = 0 := by unfold PyData.depth; rfl
  have w1 : wt (.str z) ≤ 18 := by
    show 1 + z.length ≤ 18
    omega
  have w3 : wt (.str (Str.ofString "a")) = 2 := by decide +kernel
  generalize (PyData.str z) = y at c1 d1 w1 ⊢
  intro x hx
  simp only [oddA, oddB, List.cons_append, List.nil_append, List.mem_cons, List.not_mem_nil, or_false] at hx
  have ct : ∀ l, PyData.canLay0 (.tuple l) = PyData.canLayAll0 l := fun l => by conv => lhs; unfold PyData.canLay0
  have cl : ∀ l, PyData.canLay0 (.list l) = PyData.canLayAll0 l := fun l => by conv => lhs; unfold PyData.canLay0
  have cc : ∀ x l, PyData.canLayAll0 (x :: l) = (PyData.canLay0 x && PyData.canLayAll0 l) := fun x l => by conv => lhs; unfold PyData.canLayAll0
  have c0 : PyData.canLayAll0 [] = true := rfl
  have dt : ∀ l, PyData.depth (.tuple l) = PyData.depthAll l + 1 := fun l => by conv => lhs; unfold PyData.depth
  have dl : ∀ l, PyData.depth (.list l) = PyData.depthAll l + 1 := fun l => by conv => lhs; unfold PyData.depth
  have dc : ∀ x l, PyData.depthAll (x :: l) = max x.depth (PyData.depthAll l) := fun x l => by conv => lhs; unfold PyData.depthAll
  have d0 : PyData.depthAll [] = 0 := by unfold PyData.depthAll; rfl
  have cn : PyData.canLay0 .none = true := rfl
  have dn : PyData.depth .none = 0 := by unfold PyData.depth; rfl
  have wtt : ∀ l, wt (.tuple l) = 1 + wtAll l := fun _ => rfl
  have wl : ∀ l, wt (.list l) = 1 + wtAll l := fun _ => rfl
  have wc : ∀ x l, wtAll (x :: l) = wt x + wtAll l := fun _ _ => rfl
  have w0 : wtAll [] = 0 := rfl
  have wn0 : wt .none = 1 := rfl
  rcases hx with h | h | h | h | h | h | h | h | h | h | h | h | h | h | h | h | h | h | h | h <;> subst h <;>
    refine ⟨⟨by simp only [ct, cl, cc, c0, c1, c2, c3, cn, Bool.and_self], by simp only [dt, dl, dc, d0, d1, d2, d3, dn, Nat.max_self, Nat.zero_max, Nat.max_zero] <;> decide⟩, by first | omega | (simp only [wtt, wl, wc, w0, w3, wn0]; omega)⟩
abbrev sOdd : Stmt := top 37
theorem scOdd : FnScope ["deal", "words", "word", "number", "shapes"] ["deal"] (defScope sOdd) := ⟨rfl, rfl, rfl, by decide +kernel, rfl, by decide +kernel, by decide +kernel⟩
def spOdd (K : PySem.W.Frag) : Sp := fun vs H Q _ => ∃ (d c : Addr), vs = [.ref d] ∧ DealAt H d c ∧ ∀ (v : V) (x : PyData) (H' : Hp), Dm K (N0 d c) H' v x → Odd x → Mv d c H H' → Q v H'
structure OddTxt (K : PySem.W.Frag) (mg : Str → Option Value) (a_law_of a_law_any a_law_odd a_law_bent : Addr) : Prop where
  g_law_of : mg "_law_of" = some (.ref a_law_of)
  k_law_of : PySem.W.keepIn K (.ref a_law_of) = true
  g_law_any : mg "_law_any" = some (.ref a_law_any)
  k_law_any : PySem.W.keepIn K (.ref a_law_any) = true
  g_law_odd : mg "_law_odd" = some (.ref a_law_odd)
  k_law_odd : PySem.W.keepIn K (.ref a_law_odd) = true
  g_law_bent : mg "_law_bent" = some (.ref a_law_bent)
  k_law_bent : PySem.W.keepIn K (.ref a_law_bent) = true
  n_isinstance : mg "isinstance" = none
  n_tuple : mg "tuple" = none
  n_str : mg "str" = none
  n_len : mg "len" = none
  n_list : mg "list" = none
section
variable {P : Program} {w : World} {K : PySem.W.Frag} {mg : Str → Option Value} {base : Heap} {a_law_of a_law_any a_law_odd a_law_bent : Addr} {fdA fdO fdD : FuncData}
theorem ok_odd {f : Addr} {fd : FuncData} (F : Fun K "_law_odd" "_law_odd" sOdd f fd) (T : OddTxt K mg a_law_of a_law_any a_law_odd a_law_bent)
    (G_law_of : FnOk P w K mg base CX0 2 a_law_of fdO ["deal", "some"] spOf) (b_law_of : Binds K fdO ["deal", "some"] []) : FnOk P w K mg base CX0 3 f fd ["deal"] (spOdd K) := by
  refine F.ok scOdd (fun vs H Q E h => ?_) (fun cdv A outer s H vs Q E hr h => ?_)
  · obtain ⟨d, c, rfl, _⟩ := h
    rfl
  · obtain ⟨d, c, rfl, D, k⟩ := h
    refine ⟨_, (pss_cons (ps_set (i := 1) scOdd.nd rfl (Or.inl rfl) (pd_lst (pds_cons (pd_of (L := []) pe_str (fun _ _ _ h => h) (fun _ _ => .str _)) (pds_cons (pd_of (L := []) pe_str (fun _ _ _ h => h) (fun _ _ => .str _)) (pds_cons (pd_of (L := []) pe_str (fun _ _ _ h => h) (fun _ _ => .str _)) (pds_cons (pd_of (L := []) pe_str (fun _ _ _ h => h) (fun _ _ => .str _)) (pds_cons (pd_of (L := []) pe_str (fun _ _ _ h => h) (fun _ _ => .str _)) (pds_cons (pd_of (L := []) pe_str (fun _ _ _ h => h) (fun _ _ => .str _)) (pds_cons (pd_of (L := []) pe_str (fun _ _ _ h => h) (fun _ _ => .str _)) (pds_cons (pd_of (L := []) pe_str (fun _ _ _ h => h) (fun _ _ => .str _)) (pds_cons (pd_of (L := []) pe_str (fun _ _ _ h => h) (fun _ _ => .str _)) (pds_cons (pd_of (L := []) pe_str (fun _ _ _ h => h) (fun _ _ => .str _)) (pds_cons (pd_of (L := []) pe_str (fun _ _ _ h => h) (fun _ _ => .str _)) (pds_cons (pd_of (L := []) pe_str (fun _ _ _ h => h) (fun _ _ => .str _)) (pds_nil (L := [])))))))))))))) (fun _ _ => (by show 12 ≤ sizeLine; decide))))
      (pss_cons (ps_par (i := 2) (j := 3) (by rfl) scOdd.nd rfl rfl (by decide) rfl rfl (pa_cons (pe_call G_law_of hr rfl T.g_law_of T.k_law_of b_law_of .nil pass0 (pa_cons (pv 0) (pa_cons (pv 1) pa_nil))) (pa_cons (pe_call G_law_of hr rfl T.g_law_of T.k_law_of b_law_of .nil pass0 (pa_cons (pv 0) (pa_cons (pd_lst (pds_cons (pd_of (L := []) pe_int (fun _ _ _ h => h) (fun _ _ => .int _)) (pds_cons (pd_of (L := []) pe_int (fun _ _ _ h => h) (fun _ _ => .int _)) (pds_cons (pd_of (L := []) (pe_un un_neg pe_int) (fun _ _ _ h => ⟨_, rfl, h⟩) (fun _ _ => .int _)) (pds_cons (pd_of (L := []) pe_bl (fun _ _ _ h => h) (fun _ _ => .bl _)) (pds_cons (pd_of (L := []) pe_bl (fun _ _ _ h => h) (fun _ _ => .bl _)) (pds_cons (pd_of (L := []) (pe_op op_pow pe_int pe_int) (fun _ _ _ h => ⟨_, _, rfl, rfl, ⟨by decide, by decide, by decide⟩, h⟩) (fun _ _ => .int _)) (pds_nil (L := [])))))))) (fun _ _ => (by show 6 ≤ sizeLine; decide))) pa_nil))) pa_nil)) (by rfl))
      (pss_cons (ps_set (i := 4) scOdd.nd rfl (Or.inl rfl) (pd_lst (pds_cons (pd_var (L := [2, 3]) (i := 2) (pv 2) (by decide)) (pds_cons (pd_var (L := [2, 3]) (i := 2) (pv 2) (by decide)) (pds_cons (pd_var (L := [2, 3]) (i := 2) (pv 2) (by decide)) (pds_cons (pd_var (L := [2, 3]) (i := 2) (pv 2) (by decide)) (pds_cons (pd_of (L := [2, 3]) pe_non (fun _ _ _ h => h) (fun _ _ => .non)) (pds_cons (pd_var (L := [2, 3]) (i := 3) (pv 3) (by decide)) (pds_cons (pd_tup (pds_nil (L := [2, 3])) (fun _ _ => (by show 0 ≤ sizeLine; decide))) (pds_cons (pd_lst (pds_nil (L := [2, 3])) (fun _ _ => (by show 0 ≤ sizeLine; decide))) (pds_cons (pd_tup (pds_cons (pd_var (L := [2, 3]) (i := 2) (pv 2) (by decide)) (pds_cons (pd_tup (pds_nil (L := [2, 3])) (fun _ _ => (by show 0 ≤ sizeLine; decide))) (pds_nil (L := [2, 3])))) (fun _ _ => (by show 2 ≤ sizeLine; decide))) (pds_cons (pd_tup (pds_cons (pd_var (L := [2, 3]) (i := 2) (pv 2) (by decide)) (pds_cons (pd_tup (pds_nil (L := [2, 3])) (fun _ _ => (by show 0 ≤ sizeLine; decide))) (pds_nil (L := [2, 3])))) (fun _ _ => (by show 2 ≤ sizeLine; decide))) (pds_cons (pd_lst (pds_cons (pd_var (L := [2, 3]) (i := 2) (pv 2) (by decide)) (pds_cons (pd_tup (pds_nil (L := [2, 3])) (fun _ _ => (by show 0 ≤ sizeLine; decide))) (pds_nil (L := [2, 3])))) (fun _ _ => (by show 2 ≤ sizeLine; decide))) (pds_cons (pd_tup (pds_cons (pd_var (L := [2, 3]) (i := 2) (pv 2) (by decide)) (pds_cons (pd_lst (pds_nil (L := [2, 3])) (fun _ _ => (by show 0 ≤ sizeLine; decide))) (pds_nil (L := [2, 3])))) (fun _ _ => (by show 2 ≤ sizeLine; decide))) (pds_cons (pd_tup (pds_cons (pd_var (L := [2, 3]) (i := 2) (pv 2) (by decide)) (pds_cons (pd_of (L := [2, 3]) pe_str (fun _ _ _ h => h) (fun _ _ => .str _)) (pds_nil (L := [2, 3])))) (fun _ _ => (by show 2 ≤ sizeLine; decide))) (pds_cons (pd_tup (pds_cons (pd_var (L := [2, 3]) (i := 2) (pv 2) (by decide)) (pds_nil (L := [2, 3]))) (fun _ _ => (by show 1 ≤ sizeLine; decide))) (pds_nil (L := [2, 3])))))))))))))))) (fun _ _ => (by show 14 ≤ sizeLine; decide))))
      (pss_one (ps_ret (pe_call G_law_of hr rfl T.g_law_of T.k_law_of b_law_of .nil pass0 (pa_cons (pv 0) (pa_cons (pd_catL (pd_var (L := [2, 3, 4]) (i := 4) (pv 4) (by decide)) (pd_lst (pds_cons (pd_tup (pds_cons (pd_var (L := [2, 3, 4]) (i := 2) (pv 2) (by decide)) (pds_cons (pd_tup (pds_nil (L := [2, 3, 4])) (fun _ _ => (by show 0 ≤ sizeLine; decide))) (pds_cons (pd_tup (pds_nil (L := [2, 3, 4])) (fun _ _ => (by show 0 ≤ sizeLine; decide))) (pds_nil (L := [2, 3, 4]))))) (fun _ _ => (by show 3 ≤ sizeLine; decide))) (pds_cons (pd_tup (pds_cons (pd_var (L := [2, 3, 4]) (i := 3) (pv 3) (by decide)) (pds_cons (pd_tup (pds_nil (L := [2, 3, 4])) (fun _ _ => (by show 0 ≤ sizeLine; decide))) (pds_nil (L := [2, 3, 4])))) (fun _ _ => (by show 2 ≤ sizeLine; decide))) (pds_cons (pd_tup (pds_cons (pd_tup (pds_cons (pd_var (L := [2, 3, 4]) (i := 2) (pv 2) (by decide)) (pds_cons (pd_tup (pds_nil (L := [2, 3, 4])) (fun _ _ => (by show 0 ≤ sizeLine; decide))) (pds_nil (L := [2, 3, 4])))) (fun _ _ => (by show 2 ≤ sizeLine; decide))) (pds_nil (L := [2, 3, 4]))) (fun _ _ => (by show 1 ≤ sizeLine; decide))) (pds_cons (pd_tup (pds_cons (pd_tup (pds_nil (L := [2, 3, 4])) (fun _ _ => (by show 0 ≤ sizeLine; decide))) (pds_cons (pd_var (L := [2, 3, 4]) (i := 2) (pv 2) (by decide)) (pds_nil (L := [2, 3, 4])))) (fun _ _ => (by show 2 ≤ sizeLine; decide))) (pds_cons (pd_tup (pds_cons (pd_var (L := [2, 3, 4]) (i := 2) (pv 2) (by decide)) (pds_cons (pd_tup (pds_cons (pd_var (L := [2, 3, 4]) (i := 2) (pv 2) (by decide)) (pds_cons (pd_var (L := [2, 3, 4]) (i := 2) (pv 2) (by decide)) (pds_nil (L := [2, 3, 4])))) (fun _ _ => (by show 2 ≤ sizeLine; decide))) (pds_nil (L := [2, 3, 4])))) (fun _ _ => (by show 2 ≤ sizeLine; decide))) (pds_cons (pd_tup (pds_cons (pd_var (L := [2, 3, 4]) (i := 2) (pv 2) (by decide)) (pds_cons (pd_tup (pds_cons (pd_var (L := [2, 3, 4]) (i := 3) (pv 3) (by decide)) (pds_nil (L := [2, 3, 4]))) (fun _ _ => (by show 1 ≤ sizeLine; decide))) (pds_nil (L := [2, 3, 4])))) (fun _ _ => (by show 2 ≤ sizeLine; decide))) (pds_nil (L := [2, 3, 4])))))))) (fun _ _ => (by show 6 ≤ sizeLine; decide)))) pa_nil)))))))), ?_⟩
    have m0 := Mv.refl D
    refine ⟨N0 d c, fun _ => .none, m0.trk, fun _ h => by simp at h, by repeat' (first | exact trivial | refine And.intro ?_ ?_), fun v1 H1 d1 s1 => ?_⟩
    have m1 := m0.same s1
    refine ⟨_, rfl, _, rfl, of_data (E := E0)  m1.D d1 (by decide) (by decide) fun v2 x2 H2 h2 d2 m2 => ?_⟩
    obtain ⟨z, hz, rfl⟩ := List.mem_map.mp (show x2 ∈ oddWords.map PyData.str from h2)
    obtain ⟨lz, sz⟩ := oddWords_ok z hz
    have m2' := m1.trans m2
    refine ⟨_, rfl, N0 d c, fun _ => .none, m2.trk, fun _ h => by simp at h, by repeat' (first | exact trivial | refine And.intro ?_ ?_), fun v3 H3 d3 s3 => ?_⟩
    have m3 := (Mv.refl m2.D).same s3
    refine of_data (E := E0)  m3.D d3 (by decide) (by decide) fun v4 x4 H4 h4 d4 m4 => ?_
    have nn : Vd 0 x4 ∧ wt x4 ≤ 1 := by
      simp only [List.mem_cons, List.not_mem_nil, or_false] at h4
      rcases h4 with h | h | h | h | h | h <;> subst h
      · exact ⟨vd_int _, Nat.le_refl _⟩
      · exact ⟨vd_int _, Nat.le_refl _⟩
      · exact ⟨vd_int _, Nat.le_refl _⟩
      · exact ⟨vd_bool _, Nat.le_refl _⟩
      · exact ⟨vd_bool _, Nat.le_refl _⟩
      · exact ⟨vd_int _, Nat.le_refl _⟩
    refine ⟨_, _, rfl, ?_⟩
    have dz := (d2.mv m3).mv m4
    have m34 := m3.trans m4
    let DD : DEnv := fun i => if i = 2 then .str z else x4
    refine ⟨N0 d c, DD, m4.trk, fun i hi => ?_, by repeat' (first | exact trivial | refine And.intro ?_ ?_), fun v5 H5 d5 s5 => ?_⟩
    · simp only [List.mem_cons, List.not_mem_nil, or_false] at hi
      rcases hi with rfl | rfl
      · exact ⟨_, rfl, dz⟩
      · exact ⟨_, rfl, d4⟩
    have m5 := (Mv.refl m4.D).same s5
    let DE : DEnv := fun i => if i = 2 then .str z else if i = 3 then x4 else .list (oddA (.str z) x4)
    refine ⟨_, rfl, N0 d c, DE, m5.trk, fun i hi => ?_, ⟨by repeat' (first | exact trivial | refine And.intro ?_ ?_), rfl, rfl, (show 14 + 6 ≤ 100000 by decide)⟩, fun v6 H6 d6 s6 => ?_⟩
    · simp only [List.mem_cons, List.not_mem_nil, or_false] at hi
      rcases hi with rfl | rfl | rfl
      · exact ⟨_, rfl, dz.mv m5⟩
      · exact ⟨_, rfl, d4.mv m5⟩
      · exact ⟨_, rfl, d5⟩
    have m6 := m5.same s6
    refine of_data (E := E0) (ds := oddA (.str z) x4 ++ oddB (.str z) x4) m6.D d6 (show 0 < 20 by decide) (show 20 < 1000000 by decide) fun v7 x7 H7 h7 d7 m7 => ?_
    exact k v7 x7 H7 d7 (odd_all lz sz nn.1 nn.2 x7 h7) (((m2'.trans m34).trans m6).trans m7)
end
end K1

/-! bent values -/
namespace K1
open PySem L2 Xr Exv
theorem drop_at {α : Type} {l : List α} {i : Nat} {x : α} (h : l[i]? = some x) : l.drop i = x :: l.drop (i + 1) := by
  obtain ⟨lt, e⟩ := List.getElem?_eq_some_iff.mp h
  rw [List.drop_eq_getElem_cons lt, e]
theorem cutP_mem {ds : List PyData} {lo hi : Option Int} {d : PyData} (h : d ∈ cutP ds lo hi) : d ∈ ds := List.mem_of_mem_drop (List.mem_of_mem_take h)
theorem wt_cutP (ds : List PyData) (lo hi : Option Int) : wtAll (cutP ds lo hi) ≤ wtAll ds := by
  unfold cutP
  have h1 := wt_split ds (HT.sIx ds.length 0 lo)
  have h2 := wt_split (ds.drop (HT.sIx ds.length 0 lo)) (HT.sIx ds.length ds.length hi - HT.sIx ds.length 0 lo)
  omega
theorem cutP_take {ds : List PyData} {j : Nat} (h : j ≤ ds.length) : cutP ds none (some (j : Int)) = ds.take j := by
  unfold cutP
  rw [HT.sIx_nat, HT.sIx_none, List.drop_zero, Nat.sub_zero, Nat.min_eq_left h]
theorem cutP_drop {ds : List PyData} {j : Nat} (h : j ≤ ds.length) : cutP ds (some (j : Int)) none = ds.drop j := by
  unfold cutP
  rw [HT.sIx_nat, HT.sIx_none, Nat.min_eq_left h, List.take_of_length_le]
  rw [List.length_drop]
  exact Nat.le_refl _
theorem cutS_sub (z : Str) (lo hi : Option Int) : (∀ c ∈ (cutS z lo hi).cps.toList, c ∈ z.cps.toList) ∧ (cutS z lo hi).length ≤ z.length := by
  unfold cutS
  refine ⟨fun c hc => ?_, ?_⟩
  · have hc' : c ∈ ((z.cps.toList.drop (HT.sIx z.length 0 lo)).take (HT.sIx z.length z.length hi - HT.sIx z.length 0 lo)) := by simpa using hc
    exact List.mem_of_mem_drop (List.mem_of_mem_take hc')
  · show (((z.cps.toList.drop (HT.sIx z.length 0 lo)).take (HT.sIx z.length z.length hi - HT.sIx z.length 0 lo)).toArray).size ≤ z.length
    rw [List.size_toArray, List.length_take, List.length_drop]
    have : z.cps.toList.length = z.length := by
      show _ = z.cps.size
      simp
    omega
/-- what bending makes of data that is at most m deep, of weight w -/
structure Bent (m w : Nat) (x : PyData) : Prop where
  vd : Vd (m + 3) x
  wt : wt x ≤ 2 * w + 60
theorem Odd.bent {m w : Nat} {x : PyData} (h : Odd x) : Bent m w x := ⟨h.vd.mono (by omega), by have := h.wt; omega⟩
theorem empty_str : Sg (Str.ofString "") ∧ wt (.str (Str.ofString "")) = 1 := ⟨fun c h => by
  have e : (Str.ofString "").cps.toList = [] := by decide +kernel
  rw [e] at h
  simp at h, by decide +kernel⟩
def bentT (ds : List PyData) : List PyData := [.list ds, .tuple ds.reverse, .tuple (ds ++ cutP ds none (some 1)), .tuple (cutP ds (some 1) none), .tuple (ds ++ [.str (Str.ofString "")])]
theorem bentT_all {m : Nat} {ds : List PyData} (h : Vd m (.tuple ds)) : ∀ x ∈ bentT ds, Bent m (wt (.tuple ds)) x := by
  obtain ⟨m0, hp⟩ := h.tup
  have ew : wt (.tuple ds) = 1 + wtAll ds := rfl
  have up : ∀ {l : List PyData}, (∀ x ∈ l, x ∈ ds ∨ x = .str (Str.ofString "")) → ∀ x ∈ l, Vd (m - 1) x := fun hl x hx => by
    rcases hl x hx with e | e
    · exact hp x e
    · rw [e]
      exact (vd_str empty_str.1).mono (Nat.zero_le _)
  have tp : ∀ {l : List PyData}, (∀ x ∈ l, x ∈ ds ∨ x = .str (Str.ofString "")) → wtAll l ≤ 2 * wtAll ds + 1 → Bent m (wt (.tuple ds)) (.tuple l) := fun hl hw => ⟨(vd_tup (up hl)).mono (by omega), by
    show 1 + wtAll _ ≤ _
    omega⟩
  intro x hx
  simp only [bentT, List.mem_cons, List.not_mem_nil, or_false] at hx
  rcases hx with h | h | h | h | h <;> subst h
  · exact ⟨(vd_lst (up fun x hx => .inl hx)).mono (by omega), by show 1 + wtAll _ ≤ _; omega⟩
  · exact tp (fun x hx => .inl (List.mem_reverse.mp hx)) (by rw [wtAll_rev]; omega)
  · refine tp (fun x hx => .inl ?_) (by rw [wtAll_app]; have := wt_cutP ds none (some 1); omega)
    rcases List.mem_append.mp hx with e | e
    · exact e
    · exact cutP_mem e
  · exact tp (fun x hx => .inl (cutP_mem hx)) (by have := wt_cutP ds (some 1) none; omega)
  · refine tp (fun x hx => ?_) (by
      rw [wtAll_app]
      have e : wtAll [.str (Str.ofString "")] = 1 := by decide +kernel
      omega)
    rcases List.mem_append.mp hx with e | e
    · exact .inl e
    · exact .inr (List.mem_singleton.mp e)
def bentS (z : Str) : List PyData := [.str (z ++ Str.ofString "A"), .str (z ++ Str.ofString "qqqqqqqqq"), .str (cutS z (some 1) none), .str (z ++ Str.ofString "_"), .str (z ++ Str.ofString " "), .str (z ++ Str.ofString "q")]
theorem bentS_all {m : Nat} {z : Str} (h : Vd m (.str z)) : ∀ x ∈ bentS z, Bent m (wt (.str z)) x := by
  have sg := h.sg
  have ew : wt (.str z) = 1 + z.length := rfl
  have ad : ∀ y : Str, (decide (y.length ≤ 9) && y.cps.toList.all fun c => decide (c < 1114112)) = true → Bent m (wt (.str z)) (.str (z ++ y)) := fun y hy => by
    rw [Bool.and_eq_true] at hy
    have l := of_decide_eq_true hy.1
    refine ⟨(vd_str (sg.app fun c hc => of_decide_eq_true (List.all_eq_true.mp hy.2 c hc))).mono (Nat.zero_le _), ?_⟩
    show 1 + (z ++ y).length ≤ _
    rw [strLen_append]
    omega
  intro x hx
  simp only [bentS, List.mem_cons, List.not_mem_nil, or_false] at hx
  rcases hx with h | h | h | h | h | h <;> subst h
  · exact ad _ (by decide +kernel)
  · exact ad _ (by decide +kernel)
  · obtain ⟨a, b⟩ := cutS_sub z (some 1) none
    refine ⟨(vd_str fun c hc => sg c (a c hc)).mono (Nat.zero_le _), ?_⟩
    show 1 + (cutS z (some 1) none).length ≤ _
    omega
  · exact ad _ (by decide +kernel)
  · exact ad _ (by decide +kernel)
  · exact ad _ (by decide +kernel)
abbrev sBent : Stmt := top 38
theorem scBent : FnScope ["deal", "value", "at"] ["deal", "value"] (defScope sBent) := ⟨rfl, rfl, rfl, by decide +kernel, rfl, by decide +kernel, by decide +kernel⟩
def spBent (K : PySem.W.Frag) (n : Nat) : Sp := fun vs H Q _ => ∃ (d c : Addr) (v : V) (x : PyData) (m : Nat), vs = [.ref d, v] ∧ DealAt H d c ∧ Dm K (N0 d c) H v x ∧ Vd m x ∧ m ≤ 60 ∧ wt x ≤ 9000 ∧ x.depth < n ∧
  ∀ (u : V) (y : PyData) (H' : Hp), Dm K (N0 d c) H' u y → Bent m (wt x) y → Mv d c H H' → Q u H'
section
variable {P : Program} {w : World} {K : PySem.W.Frag} {mg : Str → Option Value} {base : Heap} {a_law_of a_law_any a_law_odd a_law_bent : Addr} {fdA fdO fdD : FuncData}
theorem ok_bent {fd : FuncData} (F : Fun K "_law_bent" "_law_bent" sBent a_law_bent fd) (T : OddTxt K mg a_law_of a_law_any a_law_odd a_law_bent) (b_law_bent : Binds K fd ["deal", "value"] [])
    (G_law_any : FnOk P w K mg base CX0 1 a_law_any fdA ["deal", "bound"] spAny) (b_law_any : Binds K fdA ["deal", "bound"] [])
    (G_law_of : FnOk P w K mg base CX0 2 a_law_of fdO ["deal", "some"] spOf) (b_law_of : Binds K fdO ["deal", "some"] []) (G_law_odd : FnOk P w K mg base CX0 3 a_law_odd fdD ["deal"] (spOdd K)) (b_law_odd : Binds K fdD ["deal"] []) :
    ∀ n : Nat, FnOk P w K mg base CX0 (4 + n) a_law_bent fd ["deal", "value"] (spBent K n) := by
  intro n
  induction n with
  | zero =>
    refine F.ok scBent (fun vs H Q E h => ?_) (fun cdv A outer s H vs Q E hr h => ?_)
    · obtain ⟨d, c, v, x, m, rfl, _⟩ := h
      rfl
    · obtain ⟨d, c, v, x, m, rfl, _, _, _, _, _, hd, _⟩ := h
      omega
  | succ n G_law_bent =>
    have e54 : 4 + (n + 1) = 4 + n + 1 := by omega
    rw [e54]
    refine F.ok scBent (fun vs H Q E h => ?_) (fun cdv A outer s H vs Q E hr h => ?_)
    · obtain ⟨d, c, v, x, m, rfl, _⟩ := h
      rfl
    · obtain ⟨d, c, v, x, m, rfl, D, hv, vd, hm, hw, hd, k⟩ := h
      have hr1 : Room 1 _ := hr.mono (by omega)
      have hr2 : Room 2 _ := hr.mono (by omega)
      have hr3 : Room 3 _ := hr.mono (by omega)
      refine ⟨_, (pss_cons (ps_if (PW.pt (pw_and (pt_val (pe_callB call_isi (by rfl) T.n_isinstance (by decide +kernel) (pa_cons (pv 1) (pa_cons (pe_bltn (v := V.ty "tuple") (u := .type "tuple") (by rfl) T.n_tuple (by decide +kernel) (by rfl)) pa_nil)))) (pw_and (pt_cmpR (op_neD hr.units) (pv 1) (pe_tup pa_nil) (nomark _)) (pw_and1 (pt_cmpR op_gt (pe_call G_law_any hr1 rfl T.g_law_any T.k_law_any b_law_any .nil pass0 (pa_cons (pv 0) (pa_cons pe_int pa_nil))) pe_int (nomark _))))))
      (pss_cons (ps_set (i := 2) scBent.nd rfl (Or.inl rfl) (pe_call G_law_any hr1 rfl T.g_law_any T.k_law_any b_law_any .nil pass0 (pa_cons (pv 0) (pa_cons (pe_callB call_len_seq (by rfl) T.n_len PySem.boot_len (pa_cons (pv 1) pa_nil)) pa_nil))))
      (pss_one (ps_ret (pe_op op_catD (pe_op op_catD (pe_slice sl_dm (pv 1) po_none (po_some (pv 2))) (pe_tup (pa_cons (pe_call G_law_bent hr rfl T.g_law_bent T.k_law_bent b_law_bent .nil pass0 (pa_cons (pv 0) (pa_cons (pe_ix ix_tup (pv 1) (pv 2) (fun _ _ => rfl)) pa_nil))) pa_nil))) (pe_slice sl_dm (pv 1) (po_some (pe_op op_add (pv 2) pe_int)) po_none)))))
      pss_nil)
      (pss_cons (ps_if (PW.pt (pw_and (pt_val (pe_callB call_isi (by rfl) T.n_isinstance (by decide +kernel) (pa_cons (pv 1) (pa_cons (pe_bltn (v := V.ty "tuple") (u := .type "tuple") (by rfl) T.n_tuple (by decide +kernel) (by rfl)) pa_nil)))) (pw_and1 (pt_cmpR op_eq (pe_call G_law_any hr1 rfl T.g_law_any T.k_law_any b_law_any .nil pass0 (pa_cons (pv 0) (pa_cons pe_int pa_nil))) pe_int (nomark _)))))
      (pss_one (ps_ret (pe_call G_law_of hr2 rfl T.g_law_of T.k_law_of b_law_of .nil pass0 (pa_cons (pv 0) (pa_cons (pd_lst (pds_cons (pd_listT (pd_var (L := [1]) (i := 1) (pv 1) (by decide)) (by rfl) T.n_list) (pds_cons (pd_revT (pd_var (L := [1]) (i := 1) (pv 1) (by decide))) (pds_cons (pd_catT (pd_var (L := [1]) (i := 1) (pv 1) (by decide)) (pd_cutT (l := none) (u := (some 1)) (pd_var (L := [1]) (i := 1) (pv 1) (by decide)) po_none (po_some pe_int) (fun _ _ _ h => h) (fun _ _ _ h => ⟨_, rfl, h⟩))) (pds_cons (pd_cutT (l := (some 1)) (u := none) (pd_var (L := [1]) (i := 1) (pv 1) (by decide)) (po_some pe_int) po_none (fun _ _ _ h => ⟨_, rfl, h⟩) (fun _ _ _ h => h)) (pds_cons (pd_catT (pd_var (L := [1]) (i := 1) (pv 1) (by decide)) (pd_tup (pds_cons (pd_of (L := [1]) pe_str (fun _ _ _ h => h) (fun _ _ => .str _)) (pds_nil (L := [1]))) (fun _ _ => (by show 1 ≤ sizeLine; decide)))) (pds_nil (L := [1]))))))) (fun _ _ => (by show 5 ≤ sizeLine; decide))) pa_nil)))))
      pss_nil)
      (pss_cons (ps_if (PW.pt (pw_and (pt_val (pe_callB call_isi (by rfl) T.n_isinstance (by decide +kernel) (pa_cons (pv 1) (pa_cons (pe_bltn (v := V.ty "str") (u := .type "str") (by rfl) T.n_str (by decide +kernel) (by rfl)) pa_nil)))) (pw_and1 (pt_cmpR op_eq (pe_call G_law_any hr1 rfl T.g_law_any T.k_law_any b_law_any .nil pass0 (pa_cons (pv 0) (pa_cons pe_int pa_nil))) pe_int (nomark _)))))
      (pss_one (ps_ret (pe_call G_law_of hr2 rfl T.g_law_of T.k_law_of b_law_of .nil pass0 (pa_cons (pv 0) (pa_cons (pd_lst (pds_cons (pd_addS (pd_var (L := [1]) (i := 1) (pv 1) (by decide)) (pd_of (L := [1]) pe_str (fun _ _ _ h => h) (fun _ _ => .str _))) (pds_cons (pd_addS (pd_var (L := [1]) (i := 1) (pv 1) (by decide)) (pd_of (L := [1]) pe_str (fun _ _ _ h => h) (fun _ _ => .str _))) (pds_cons (pd_cutS (l := (some 1)) (u := none) (pd_var (L := [1]) (i := 1) (pv 1) (by decide)) (po_some pe_int) po_none (fun _ _ _ h => ⟨_, rfl, h⟩) (fun _ _ _ h => h)) (pds_cons (pd_addS (pd_var (L := [1]) (i := 1) (pv 1) (by decide)) (pd_of (L := [1]) pe_str (fun _ _ _ h => h) (fun _ _ => .str _))) (pds_cons (pd_addS (pd_var (L := [1]) (i := 1) (pv 1) (by decide)) (pd_of (L := [1]) pe_str (fun _ _ _ h => h) (fun _ _ => .str _))) (pds_cons (pd_addS (pd_var (L := [1]) (i := 1) (pv 1) (by decide)) (pd_of (L := [1]) pe_str (fun _ _ _ h => h) (fun _ _ => .str _))) (pds_nil (L := [1])))))))) (fun _ _ => (by show 6 ≤ sizeLine; decide))) pa_nil)))))
      pss_nil)
      (pss_one (ps_ret (pe_call G_law_odd hr3 rfl T.g_law_odd T.k_law_odd b_law_odd .nil pass0 (pa_cons (pv 0) pa_nil))))))), ?_⟩
      have m0 := Mv.refl D
      have shp := vd.shaped (by omega)
      -- the last way: an odd value
      have odd : ∀ H1, Mv d c H H1 → spOdd K [.ref d] H1 Q E0 := fun H1 m1 => ⟨d, c, rfl, m1.D, fun u y H2 du ho m2 => k u y H2 du ho.bent (m1.trans m2)⟩
      cases ht : isTup x with
      | false =>
        refine ⟨_, rfl, _, _, _, _, _, rfl, .ty "tuple", hv.ty, kit_tup x, _, rfl, ?_⟩
        rw [ht]
        refine iteF ⟨_, rfl, _, _, _, _, _, rfl, .ty "tuple", hv.ty, kit_tup x, _, rfl, ?_⟩
        rw [ht]
        refine iteF ⟨_, rfl, _, _, _, _, _, rfl, .ty "str", hv.ty, kit_str x, _, rfl, ?_⟩
        cases hs : isStr x with
        | false => exact iteF ⟨_, rfl, odd H m0⟩
        | true =>
          have es := str_eq hs
          generalize asS x = z at es
          subst es
          have ew : wt (.str z) = 1 + z.length := rfl
          refine iteT ⟨_, rfl, d, c, 2, rfl, D, by decide, by decide, fun r H1 r0 r1 D1 b1 => ⟨rfl, _, rfl, ite2 (fun _ => ?_) (fun _ => ?_)⟩⟩
          · have m1 : Mv d c H H1 := ⟨D1, b1⟩
            refine ⟨_, rfl, N0 d c, fun _ => .str z, m1.trk, fun i hi => ?_, ?_, fun v6 H6 d6 s6 => ?_⟩
            · simp only [List.mem_cons, List.not_mem_nil, or_false] at hi
              subst hi
              exact ⟨_, rfl, hv.mv m1⟩
            · have a1 : ∀ y : Str, y.length ≤ 9 → z.length + y.length ≤ 1000000 := fun y hy => by omega
              exact ⟨⟨⟨trivial, trivial⟩, rfl, rfl, a1 _ (by decide +kernel)⟩, ⟨⟨trivial, trivial⟩, rfl, rfl, a1 _ (by decide +kernel)⟩, ⟨trivial, rfl, (show z.length ≤ 1000000 by omega)⟩, ⟨⟨trivial, trivial⟩, rfl, rfl, a1 _ (by decide +kernel)⟩, ⟨⟨trivial, trivial⟩, rfl, rfl, a1 _ (by decide +kernel)⟩, ⟨⟨trivial, trivial⟩, rfl, rfl, a1 _ (by decide +kernel)⟩, trivial⟩
            have m6 := m1.same s6
            refine of_data (E := E0) (ds := bentS z) m6.D d6 (show 0 < 6 by decide) (show 6 < 1000000 by decide) fun v7 x7 H7 h7 d7 m7 => ?_
            exact k v7 x7 H7 d7 (bentS_all vd x7 h7) (m6.trans m7)
          · exact ⟨_, rfl, odd H1 ⟨D1, b1⟩⟩
      | true =>
        have et := tup_eq ht
        generalize asT x = ds at et
        subst et
        have ew : wt (.tuple ds) = 1 + wtAll ds := rfl
        have lw := wtAll_len ds
        have l1 : ds.length + 1 ≤ 100000 := by omega
        have l2 : ds.length + (cutP ds none (some 1)).length ≤ 100000 := by
          have h1 := wtAll_len (cutP ds none (some 1))
          have h2 := wt_cutP ds none (some 1)
          omega
        refine ⟨_, rfl, _, _, _, _, _, rfl, .ty "tuple", hv.ty, kit_tup _, _, rfl, iteT ⟨_, rfl, Nat.zero_le _, fun p hp => ?_⟩⟩
        have m1 := m0.new (o := .tup []) hp
        have dv1 := hv.mv m1
        refine ⟨_, _, dv1.dp, .tup (SqT.of upd_same) .nil, shp, rfl, _, rfl, ?_⟩
        have eqe : PyData.eqv (.tuple ds) (.tuple []) = ds.isEmpty := by cases ds <;> rfl
        rw [eqe]
        generalize upd H p (.tup []) = H1 at m1 dv1 ⊢
        cases hds : ds.isEmpty with
        | true =>
          refine iteF ?_
          refine ⟨_, rfl, _, _, _, _, _, rfl, .ty "tuple", (hv.mv m1).ty, kit_tup _, _, rfl, iteT ⟨_, rfl, d, c, 2, rfl, m1.D, by decide, by decide, fun r2 H5 r0 r1 D5 b5 => ⟨rfl, _, rfl, ite2 (fun _ => ?_) (fun _ => ?_)⟩⟩⟩
          · have m5 : Mv d c H H5 := m1.trans ⟨D5, b5⟩
            refine ⟨_, rfl, N0 d c, fun _ => .tuple ds, m5.trk, fun i hi => ?_, ⟨⟨trivial, rfl⟩, ⟨trivial, rfl⟩, ⟨⟨trivial, ⟨trivial, rfl⟩⟩, rfl, rfl, l2⟩, ⟨trivial, rfl⟩, ⟨⟨trivial, ⟨trivial, trivial⟩⟩, rfl, rfl, l1⟩, trivial⟩, fun v6 H6 d6 s6 => ?_⟩
            · simp only [List.mem_cons, List.not_mem_nil, or_false] at hi
              subst hi
              exact ⟨_, rfl, hv.mv m5⟩
            have m6 := m5.same s6
            refine of_data (E := E0) (ds := bentT ds) m6.D d6 (show 0 < 5 by decide) (show 5 < 1000000 by decide) fun v7 x7 H7 h7 d7 m7 => ?_
            exact k v7 x7 H7 d7 (bentT_all vd x7 h7) (m6.trans m7)
          · have m5 : Mv d c H H5 := m1.trans ⟨D5, b5⟩
            exact ⟨_, rfl, _, _, _, _, false, rfl, .ty "str", (hv.mv m5).ty, kit_str (.tuple ds), _, rfl, iteF ⟨_, rfl, odd H5 m5⟩⟩
        | false =>
          have pos : 0 < ds.length := by
            cases ds with
            | nil => cases hds
            | cons y ys => simp
          refine iteT ⟨_, rfl, d, c, 6, rfl, m1.D, by decide, by decide, fun r H2 r0 r1 D2 b2 => ⟨_, _, rfl, rfl, _, rfl, ite2 (fun _ => ?_) (fun _ => ?_)⟩⟩
          · have m2 : Mv d c H H2 := m1.trans ⟨D2, b2⟩
            have dv2 := hv.mv m2
            obtain ⟨a, xs, rfl, ta, al⟩ := dv2.seq
            have lx := al.len
            refine ⟨_, rfl, _, rfl, _, xs, rfl, .inr ta.sq, d, c, _, rfl, D2, by omega, by omega, fun at0 H3 a0 a1 D3 b3 => ?_⟩
            have m3 : Mv d c H H3 := m2.trans ⟨D3, b3⟩
            have dv3 := hv.mv m3
            obtain ⟨j, rfl⟩ := Int.eq_ofNat_of_zero_le a0
            have lj : j < ds.length := by omega
            refine ⟨_, rfl, _, rfl, _, rfl, N0 d c, ds, dv3, m3.trk, fun u1 H4 du1 s4 => ?_⟩
            have m4 := m3.same s4
            have dv4 := hv.mv m4
            obtain ⟨b, ys, eb, tb, bl⟩ := dv4.seq
            have eba : a = b := V.ref.inj eb
            subst eba
            have ly := bl.len
            have hj : ds[j]? = some ds[j] := List.getElem?_eq_getElem lj
            have mj : ds[j] ∈ ds := List.getElem_mem lj
            generalize ds[j] = y at hj mj
            obtain ⟨z, hz, dz⟩ := bl.get hj
            have wy := wt_mem mj
            have dy : y.depth < n := by
              have h1 : Vd n (.tuple ds) := ⟨vd.lay, by omega⟩
              have h2 := h1.tup
              have h3 := (h2.2 y mj).dep
              omega
            refine ⟨_, rfl, _, rfl, _, rfl, _, _, _, _, rfl, rfl, tb.sq, atI_nat hz, d, c, z, y, m - 1, rfl, m4.D, dz, vd.tup.2 y mj, by omega, by omega, dy, fun u2 y2 H5 du2 by2 m5 => ?_⟩
            refine ⟨(by show 1 ≤ sizeLine; decide), fun p2 hp2 => ?_⟩
            have t5 := m5.trk
            have t6 : Dm K (N0 d c) (upd H5 p2 (.tup [u2])) (.ref p2) (.tuple [y2]) := .tup upd_same (not_new t5 (Same.refl H5) hp2) (.cons (du2.up (Bt.refl.new hp2)) .nil)
            have m45 := m4.trans m5
            have m6 := m45.new (o := .tup [u2]) hp2
            have du6 := (du1.mv m5).up (Bt.refl.new (o := .tup [u2]) hp2)
            generalize upd H5 p2 (.tup [u2]) = H6 at t6 m6 du6 ⊢
            have lc := wtAll_len (cutP ds none (some (j : Int)))
            have lc2 := wt_cutP ds none (some (j : Int))
            refine ⟨N0 d c, _, _, du6, t6, m6.trk, (by rw [sizeLine_eq]; show _ + 1 ≤ _; omega), fun u7 H7 du7 s7 => ?_⟩
            have m7 := m6.same s7
            refine ⟨_, rfl, _, rfl, _, _, rfl, rfl, _, rfl, N0 d c, ds, hv.mv m7, m7.trk, fun u8 H8 du8 s8 => ?_⟩
            have m8 := m7.same s8
            have ej : ((j : Int) + 1) = ((j + 1 : Nat) : Int) := by omega
            rw [ej, cutP_drop (by omega)] at du8
            rw [cutP_take (by omega)] at du7
            have w9 := wt_split ds j
            have w8 := wt_split ds (j + 1)
            have e9 : ds.drop j = y :: ds.drop (j + 1) := drop_at hj
            rw [e9] at w9
            have w10 : wtAll (y :: ds.drop (j + 1)) = wt y + wtAll (ds.drop (j + 1)) := rfl
            have lt1 := wtAll_len (ds.take j)
            have lt2 := wtAll_len (ds.drop (j + 1))
            refine ⟨N0 d c, _, _, du7.up (Bt.same s8), du8, m8.trk, (by rw [sizeLine_eq, List.length_append]; show _ + 1 + _ ≤ _; omega), fun u9 H9 du9 s9 => ?_⟩
            refine k u9 _ H9 du9 ⟨?_, ?_⟩ (m8.same s9)
            · have hp := vd.tup
              refine (vd_tup (m := m + 2) fun q hq => ?_).mono (by omega)
              rcases List.mem_append.mp hq with hq | hq
              · rcases List.mem_append.mp hq with hq | hq
                · exact (hp.2 q (List.mem_of_mem_take hq)).mono (by omega)
                · rw [List.mem_singleton] at hq
                  rw [hq]
                  exact by2.vd.mono (by omega)
              · exact (hp.2 q (List.mem_of_mem_drop hq)).mono (by omega)
            · have w2 := by2.wt
              show 1 + wtAll (ds.take j ++ [y2] ++ ds.drop (j + 1)) ≤ _
              rw [wtAll_app, wtAll_app]
              have e1 : wtAll [y2] = wt y2 + 0 := rfl
              omega
          · have m2 : Mv d c H H2 := m1.trans ⟨D2, b2⟩
            refine ⟨_, rfl, _, _, _, _, _, rfl, .ty "tuple", (hv.mv m2).ty, kit_tup _, _, rfl, iteT ⟨_, rfl, d, c, 2, rfl, m2.D, by decide, by decide, fun r2 H5 r0 r1 D5 b5 => ⟨rfl, _, rfl, ite2 (fun _ => ?_) (fun _ => ?_)⟩⟩⟩
            · have m5 : Mv d c H H5 := m2.trans ⟨D5, b5⟩
              refine ⟨_, rfl, N0 d c, fun _ => .tuple ds, m5.trk, fun i hi => ?_, ⟨⟨trivial, rfl⟩, ⟨trivial, rfl⟩, ⟨⟨trivial, ⟨trivial, rfl⟩⟩, rfl, rfl, l2⟩, ⟨trivial, rfl⟩, ⟨⟨trivial, ⟨trivial, trivial⟩⟩, rfl, rfl, l1⟩, trivial⟩, fun v6 H6 d6 s6 => ?_⟩
              · simp only [List.mem_cons, List.not_mem_nil, or_false] at hi
                subst hi
                exact ⟨_, rfl, hv.mv m5⟩
              have m6 := m5.same s6
              refine of_data (E := E0) (ds := bentT ds) m6.D d6 (show 0 < 5 by decide) (show 5 < 1000000 by decide) fun v7 x7 H7 h7 d7 m7 => ?_
              exact k v7 x7 H7 d7 (bentT_all vd x7 h7) (m6.trans m7)
            · have m5 : Mv d c H H5 := m2.trans ⟨D5, b5⟩
              exact ⟨_, rfl, _, _, _, _, false, rfl, .ty "str", (hv.mv m5).ty, kit_str (.tuple ds), _, rfl, iteF ⟨_, rfl, odd H5 m5⟩⟩
end
end K1

/-! defs that ask repr of data: promises kept where no repr runs around -/
namespace Grd
open PySem PySem.Spec PyProof.Rows L2
/-- as FnOk, where no guard stands around -/
structure FnG (P : Program) (w : World) (K : PySem.W.Frag) (mg : Str → Option Value) (base : Heap) (CX : CXT) (k : Nat) (f : Addr) (fd : FuncData) (ps : List Str) (sp : Sp) : Prop where
  len : ∀ vs H Q E, sp vs H Q E → vs.length = ps.length
  run : ∀ (A : Around) (outer : List Env) (s : Shared) (H : Hp) (args : Args) (us : List Value) (vs : List V) (Q : VK) (E : XK), A.guards = some [] → Room k A → Env0 P w K mg base A outer s H → BindsTo s fd args (ps.zip us) → Vals vs us → sp vs H Q E →
    codeAny (model P w) A (.call (.ref f) args) (CR CX outer P w H s Q E) s
section
variable {P : Program} {w : World} {K : PySem.W.Frag} {mg : Str → Option Value} {base : Heap}
theorem fng_of {CX : CXT} {k : Nat} {f : Addr} {x qual : Str} {st : Stmt} {fd : FuncData} {N ps : List Str} {sp : Sp} (F : Fun K x qual st f fd) (S : FnScope N ps (defScope st)) (len : ∀ vs H Q E, sp vs H Q E → vs.length = ps.length)
    (body : ∀ (cdv : Value) (A : Around) (outer : List Env) (s : Shared) (H : Hp) (vs : List V) (Q : VK) (E : XK), A.guards = some [] → Room k (A.deeper (envOfC qual (defScope st) s.heap.objs.size f cdv)) → sp vs H Q E →
      ∃ t, PSs (cxOf CX P w K mg base N qual (defScope st) f cdv A outer s H E) (defBody st) t ∧ t { nx := fun _ H' => Q .non H', rt := Q } (L2.start N vs) H) : FnG P w K mg base CX (k + 1) f fd ps sp := by
  obtain ⟨oc, od, kV, doc, pm, an, cdv, ct, osl, rfl, lk, hcd⟩ := F.ex
  refine ⟨len, fun A outer s H args us vs Q E gd hr e0 hb r hs => ?_⟩
  have lens := len _ _ _ _ hs
  have inK : K.In s.heap := e0.mod.kin.keeps fun b o e => (e0.bs b o e).1
  have free : s.heap.NoLimit := e0.mod.nolimit.keeps fun b o e => (e0.bs b o e).1
  have kinds : ∀ y ∈ ps.zip us, (defScope st).names.lookup y.1 = some .local ∨ ((defScope st).names.lookup y.1 = some .cell ∧ ((cellsFrom (s.heap.objs.size + 1) (defScope st).names []).lookup y.1).isSome = true) := fun ⟨n, v⟩ hy =>
    (S.par n (List.of_mem_zip hy).1).elim (fun q => .inl q) fun q => .inr ⟨q, PySem.W.cellsFrom_some _ _ _ (.inl q)⟩
  refine codeAny_call_function hr.depth (inK _ _ lk) rfl S.co S.gen rfl (PySem.W.codeRec_of inK hcd) (hb _ _ _ _ ?_)
  refine wpAny_newFunctionEnv_cells S.kind kinds fun env he s1 ic => ?_
  subst he
  refine ⟨free.keeps ic.toInCall.keep, codeAny_func ?_⟩
  obtain ⟨t, ht, hq⟩ := body cdv A outer s H vs Q E gd (hr.deeper _) hs
  have I := inv_start (CX := CX) (P := P) (K := K) (mg := mg) (base := base) (E := E) S hr.hd e0 lens r ic
  refine wpAny_mono (ht.run [] s1 _ H _ I hq) (fun fl s' z => ?_) fun e s' z => z
  cases fl with
  | ret u =>
    obtain ⟨v, σ', H', J, rv, q⟩ := z
    exact ⟨v, H', J.os, J.bare, J.base, J.hok, rv, q⟩
  | next =>
    obtain ⟨σ', H', J, q⟩ := z
    exact ⟨V.non, H', J.os, J.bare, J.base, J.hok, rfl, q⟩
  | brk =>
    obtain ⟨_, _, _, q⟩ := z
    exact q.elim
  | cont =>
    obtain ⟨_, _, _, q⟩ := z
    exact q.elim
end
section
variable {X : Cx} {CX : CXT} {k : Nat} {f : Addr} {fd : FuncData} {ps : List Str} {sp : Sp} {dvs : List V} {ds : List Value} {E : XK} {x : Str} {p pos : Pos} {e : Expr} {es : List Expr} {t : TA}
/-- f(e, ..) where f keeps its promise with no guard around -/
theorem pe_callG (F : FnG X.prog X.w X.K X.mg X.base CX k f fd ps sp) (gd : X.A.guards = some []) (hr : Room k X.A) (hg : Gl X x) (hm : X.mg x = some (.ref f)) (kp : PySem.W.keepIn X.K (.ref f) = true) (hb : Binds X.K fd ps []) (hx : Passes CX X E)
    (ha : PA X (e :: es) t) (hdb : (x == ("__debug__" : Str)) = false := by decide) (he : starEach (e :: es) X.env = (false, eval e X.env) :: starEach es X.env := by rfl) (hpl : (backTo pos (starEach es X.env)).any (·.1) = false := by rfl) :
    PE X (.Call (.Name x p) (e :: es) [] pos) (tCall sp [] E t) := by
  refine ⟨fun pins s σ H Q I h => ?_⟩
  refine wpAny_Call_Name_kw (ld_glob I hg hm ?_ hdb)
  refine PySem.W.callWith_K (h₀ := X.base) I.ok.mod.kin kp (thn (ha.run pos pins s σ H _ I h) fun us s1 ⟨vs, H1, I1, r, q⟩ => ⟨I1.kIn, ?_⟩) he hpl
  have q' : sp vs H1 Q E := by
    have z : sp (vs ++ []) H1 Q E := q
    rw [List.append_nil] at z
    exact z
  have lens : us.length = ps.length := by
    rw [← r.length]
    exact F.len _ _ _ _ q'
  have b := hb s1 us I1.kIn (by rw [List.append_nil]; exact lens)
  rw [List.append_nil] at b
  refine wpAny_call (codeAny_mono (F.run X.A X.stack s1 H1 ⟨us, []⟩ us vs Q E gd hr I1.env0 b r q') fun z s' hq => ?_)
  cases z with
  | error e => exact hx pins σ H1 s1 e s' I1 hq
  | ok fl =>
    cases fl with
    | ret u => exact I1.after hq
    | next => exact hq.elim
    | brk => exact hq.elim
    | cont => exact hq.elim
/-- repr of data -/
def rRepr (K : PySem.W.Frag) : List V → Hp → VK → Prop := fun xs H Q => ∃ (v : V) (d : PyData), xs = [v] ∧ Dp K H v d ∧ d.showable = true ∧ d.hasDict = false ∧ d.depth ≤ 60 ∧ d.shown.length ≤ sizeLine ∧ Q (.str d.shown) H
theorem call_repr (gd : X.A.guards = some []) (hu : X.A.units + 64 < cLine) : CallR X (.builtin "repr") (rRepr X.K) := by
  intro pins s σ H xs us Q I r h
  obtain ⟨v, d, rfl, hd, sh, nd, dep, len, q⟩ := h
  obtain ⟨u, rfl, ru⟩ := vals1 r
  cases hd with
  | non =>
    cases (show u = Value.none from ru)
    exact PySem.P.repr_of_none ⟨.str _, H, I.tok _, ⟨_, rfl⟩, q⟩
  | bl b =>
    cases (show u = Value.bool b from ru)
    exact PySem.P.repr_of_bool ⟨.str _, H, I.tok _, ⟨_, rfl⟩, q⟩
  | int i =>
    obtain ⟨t, rfl⟩ := ru
    have hz : i.natAbs.log2 < 1920 := by
      unfold PyData.showable at sh
      exact of_decide_eq_true sh
    exact PySem.P.repr_of_int hz ⟨.str _, H, I.tok _, ⟨_, rfl⟩, q⟩
  | str x =>
    obtain ⟨t, rfl⟩ := ru
    exact PySem.P.repr_of_str ⟨.str _, H, I.tok _, ⟨_, rfl⟩, q⟩ len
  | lst hs ha =>
    obtain ⟨as, rd⟩ := Dp.reads I _ _ _ (Dp.lst hs ha) ru
    cases (show u = Value.ref _ from ru)
    exact repr_of_reads' rd sh (PyData.noDict_hsm nd) gd (by omega) (fun _ _ e => e) (fun h' tk n up => ⟨.str _, H, I.kept (t' := n) up, ⟨_, rfl⟩, q⟩) len
  | tup hs ha =>
    obtain ⟨as, rd⟩ := Dp.reads I _ _ _ (Dp.tup hs ha) ru
    cases (show u = Value.ref _ from ru)
    exact repr_of_reads' rd sh (PyData.noDict_hsm nd) gd (by omega) (fun _ _ e => e) (fun h' tk n up => ⟨.str _, H, I.kept (t' := n) up, ⟨_, rfl⟩, q⟩) len
end
end Grd

/-! the end of a law whose def asks repr -/
namespace Grd
open PySem PySem.Spec PyProof.Rows L2
theorem lawG {P : Program} {w : World} {K : PySem.W.Frag} {mg mb : Str → Option Value} {k : Nat} {fa a : Addr} {fd : FuncData} {x : Str} {sp : Sp} {st : Shared} {vs : List Value} {ns : List Int}
    (inK : K.In st.heap) (ng : st.heap.Ns mainGlobals mg) (nb : st.heap.Ns builtinsNs mb) (bb : ∀ x : Str, x ≠ "__name__" → mb x = bootBuiltins x) (nl : st.heap.NoLimit) (gn : st.gens = #[])
    (sa : st.heap.get? a = some { cls := .type "list", data := .seq vs.toArray }) (ia : IntsAre vs ns) (few : ns.length ≤ sizeLine) (hr : Room k callerA)
    (F : ∀ base : Heap, K.In base → base.Ns mainGlobals mg → FnG P w K mg base CX0 k fa fd [x] sp) (bi : ∀ (s : Shared) (u : Value), BindsTo s fd ⟨[u], []⟩ [(x, u)])
    (hs : ∀ H : Hp, SqL K H a (ns.map V.int) → sp [.ref a] H (fun v _ => v = .bl true) fun _ _ _ => False) :
    codeAny (model P w) callerA (.call (.ref fa) ⟨[.ref a], []⟩) (fun r s' => r = .ok (.ret (.bool true)) ∧ PySem.OldK st.heap s'.heap ∧ s'.os = st.os ∧ AllBare s'.gens) st := by
  have rel := vals_ints ia
  have lens := ia.length
  -- what is tracked at the entry: nothing, or the script alone
  have go : ∀ H : Hp, (∀ b, H b = none ∨ (b = a ∧ H b = some (.frz { cls := .type "list", data := .seq vs.toArray } (.lst (ns.map V.int))))) → SqL K H a (ns.map V.int) → HOk P w H st.heap → (H a ≠ none → K.lookup a = none) →
      codeAny (model P w) callerA (.call (.ref fa) ⟨[.ref a], []⟩) (fun r s' => r = .ok (.ret (.bool true)) ∧ PySem.OldK st.heap s'.heap ∧ s'.os = st.os ∧ AllBare s'.gens) st := by
    intro H only sq hok notK
    have isA : ∀ {b : Addr}, H b ≠ none → b = a := fun {b} h => (only b).elim (fun z => absurd z h) fun z => z.1
    have free : ∀ {b : Addr} {o : Obj} {es : Array DictEntry} {ep : Nat}, st.heap.get? b = some o → o.data = .dict es ep → H b = none := fun {b o es ep} e d => by
      rcases only b with z | ⟨rfl, z⟩
      · exact z
      · rw [sa] at e
        cases e
        have d' : Data.seq vs.toArray _ = Data.dict es ep := d
        cases d'
    have hid : ∀ {b : Addr} {m : Str → Option Value}, st.heap.Ns b m → (hidT st.heap H).Ns b m := fun {b m} ⟨o, es, ep, e, d, r⟩ => ⟨o, es, ep, hidT_get e (free e d), d, r⟩
    have kb : K.In (hidT st.heap H) := fun b o e => by
      refine hidT_get (inK b o e) ?_
      rcases only b with z | ⟨rfl, z⟩
      · exact z
      · rw [notK (by rw [z]; simp)] at e
        cases e
    have md : Mod K mg (hidT st.heap H) := by
      obtain ⟨mc, c1, c2⟩ := nl
      exact ⟨kb, hid ng, ⟨mb, hid nb, bb⟩, ⟨mc, hid c1, c2⟩⟩
    have ev : Env0 P w K mg (hidT st.heap H) callerA [] st H := ⟨rfl, md, fun b o e => of_hidT e, Nat.le_of_eq (hidT_size _ _), trivial, fun b hb => absurd (show b ∈ ([] : List Addr) from hb) (by simp), hok, .of_eq gn⟩
    have run := (F _ kb (hid ng)).run callerA [] st H ⟨[.ref a], []⟩ [.ref a] [.ref a] _ _ rfl hr ev (bi st (.ref a)) (.cons rfl .nil) (hs H sq)
    refine codeAny_mono run fun r s' q => ?_
    cases r with
    | error e => exact q.elim
    | ok fl =>
      cases fl with
      | next => exact q.elim
      | brk => exact q.elim
      | cont => exact q.elim
      | ret u =>
        obtain ⟨v, H', os, bare, un, hok', rv, ev⟩ := q
        have ev' : v = .bl true := ev
        subst ev'
        cases (show u = Value.bool true from rv)
        refine ⟨rfl, PySem.OldK.of_keep fun b o e => ?_, os, bare⟩
        rcases only b with z | ⟨rfl, z⟩
        · exact un.keep b o e z (by intro h; exact absurd (show b ∈ ([] : List Addr) from h) (by simp)) (by simp)
        · have z2 := un.frzs _ _ _ z
          obtain ⟨g1, _⟩ := hok _ _ z
          obtain ⟨g2, _⟩ := hok' _ _ z2
          rw [e] at g1
          cases g1
          exact g2
  cases hk : K.lookup a with
  | some o =>
    have e := inK a o hk
    rw [sa] at e
    cases e
    exact go (fun _ => none) (fun _ => .inl rfl) (.inr ⟨_, vs.toArray, _, hk, rfl, rfl, rfl, by rw [List.size_toArray, lens]; exact few, by simpa using rel⟩) (fun b u z => by
      have z' : (none : Option HO) = some u := z
      cases z') fun z => absurd rfl z
  | none =>
    refine go (fun b => if b = a then some (.frz { cls := .type "list", data := .seq vs.toArray } (.lst (ns.map V.int))) else none) (fun b => ?_) (.inl (.inr ⟨_, if_pos rfl⟩)) (fun b u z => ?_) fun _ => hk
    · by_cases hb : b = a
      · exact .inr ⟨hb, if_pos hb⟩
      · exact .inl (if_neg hb)
    · by_cases hb : b = a
      · have z' := (if_pos hb).symm.trans z
        cases z'
        subst hb
        exact ⟨sa, by rw [List.length_map]; exact few, vs, _, rel, sa⟩
      · have z' := (if_neg hb).symm.trans z
        cases z'
theorem walkG {l : PySem.W.OpenLaw} {n k : Nat} {q : Program} {loose : List Str} {XP : (Str → Option Value) → Heap → Prop} {YP : World → Heap → Prop} {d : DefRec} {K : Params → PySem.W.Frag} {sp : PySem.W.Frag → Sp} {x : Str}
    (hn : l.most = some n) (h2 : n ≤ sizeLine) (hd : d.params.defaults = []) (hr : Room k callerA) (hY : ∀ (w : World) (h : Heap), YP w h → (K w.params).In h)
    (F : ∀ (w : World) (mg : Str → Option Value) (fa : Addr) (h : Heap), (K w.params).In h → h.Ns mainGlobals mg → mg d.name = some (.ref fa) →
      ∃ fd : FuncData, (∀ (s : Shared) (u : Value), BindsTo s fd ⟨[u], []⟩ [(x, u)]) ∧ ∀ base : Heap, (K w.params).In base → base.Ns mainGlobals mg → FnG l.prog w (K w.params) mg base CX0 k fa fd [x] (sp (K w.params)))
    (hs : ∀ (K : PySem.W.Frag) (H : Hp) (a : Addr) (ns : List Int), ns.length ≤ n → SqL K H a (ns.map V.int) → sp K [.ref a] H (fun v _ => v = .bl true) fun _ _ _ => False) :
    PySem.W.WalkO q loose XP YP l.row.toRowW d [] (fun f vs => PySem.call f vs) := by
  refine Att.attach_call hn hd fun w s₀ st mg mb fa o pm cd doc a vs ns G Y ho hdt hcd hmg hobj hints hlen hg => ?_
  have inK := hY w _ Y
  obtain ⟨fd, hb, hF⟩ := F w mg fa _ inK G.T.g hmg
  exact lawG inK G.T.g G.T.b G.T.builtins G.T.nolimit hg hobj hints (Nat.le_trans hlen h2) hr hF hb fun H sq => hs _ H a ns hlen sq
end Grd

/-! how great the texts of data are -/
namespace K1
open PySem L2
/-- a short plain text -/
structure Plain (n : Nat) (z : Str) : Prop where
  len : z.length ≤ n
  low : ∀ ch ∈ z.cps.toList, ch < 128
theorem canLay_plain {n : Nat} {z : Str} (h : Plain n z) : PyData.canLay0 (.str z) = true := by
  unfold PyData.canLay0
  show (z.cps.all fun x => decide (x < 0x110000)) = true
  rw [Array.all_eq_true']
  intro ch hc
  have := h.low ch (by simpa using hc)
  simp
  omega
structure Rp (n B : Nat) (d : PyData) : Prop where
  lay : d.canLay0 = true
  dep : d.depth ≤ n
  sh : d.showable = true
  len : d.shown.length ≤ B
theorem rp_all {n B : Nat} : ∀ (ds : List PyData), (∀ x ∈ ds, Rp n B x) → PyData.canLayAll0 ds = true ∧ PyData.depthAll ds ≤ n ∧ PyData.showableAll ds = true ∧ piled (PyData.shownAll ds) ≤ ds.length * (B + 2)
  | [], _ => by
    refine ⟨rfl, ?_, rfl, ?_⟩
    · unfold PyData.depthAll
      exact Nat.zero_le _
    · unfold PyData.shownAll
      exact Nat.zero_le _
  | x :: ds, h => by
    obtain ⟨a, b, c, e⟩ := rp_all ds fun y hy => h y (List.mem_cons_of_mem _ hy)
    have hx := h x (List.mem_cons_self ..)
    have l := hx.len
    refine ⟨?_, ?_, ?_, ?_⟩
    · unfold PyData.canLayAll0
      rw [hx.lay, a]
      rfl
    · unfold PyData.depthAll
      have := hx.dep
      omega
    · unfold PyData.showableAll
      rw [hx.sh, c]
      rfl
    · unfold PyData.shownAll
      rw [piled_cons, List.length_cons, Nat.succ_mul]
      omega
theorem join_le (ts : List Str) : (Str.join ", " ts).length ≤ piled ts := by
  by_cases h : ts = []
  · subst h
    exact Nat.zero_le _
  · have := join_length_add ts h
    omega
/-- a tuple by what its things are together -/
theorem rp_tupA {n C : Nat} {ds : List PyData} (a : PyData.canLayAll0 ds = true) (b : PyData.depthAll ds ≤ n) (c : PyData.showableAll ds = true) (e : piled (PyData.shownAll ds) ≤ C) : Rp (n + 1) (C + 3) (.tuple ds) := by
  refine ⟨?_, ?_, ?_, ?_⟩
  · unfold PyData.canLay0
    exact a
  · unfold PyData.depth
    omega
  · unfold PyData.showable
    exact c
  · unfold PyData.shown tupleText
    rw [strLen_append, strLen_append]
    have j := join_le (PyData.shownAll ds)
    have e1 : (("(" : String) : Str).length = 1 := rfl
    have e2 : ((if (PyData.shownAll ds).length == 1 then ",)" else ")" : String) : Str).length ≤ 2 := by split <;> decide
    rw [e1]
    omega
theorem rp_tup {n B : Nat} {ds : List PyData} (h : ∀ x ∈ ds, Rp n B x) : Rp (n + 1) (ds.length * (B + 2) + 3) (.tuple ds) := by
  obtain ⟨a, b, c, e⟩ := rp_all ds h
  exact rp_tupA a b c e
theorem Rp.mono {n n' B B' : Nat} {d : PyData} (h : Rp n B d) (a : n ≤ n') (b : B ≤ B') : Rp n' B' d := ⟨h.lay, Nat.le_trans h.dep a, h.sh, Nat.le_trans h.len b⟩
theorem rp_str {z : Str} (h : Plain 17 z) : Rp 0 300 (.str z) := by
  refine ⟨canLay_plain h, by unfold PyData.depth; exact Nat.le_refl _, rfl, ?_⟩
  unfold PyData.shown
  have r := StrLaws.reprText_len z fun ch hc => by
    have := h.low ch hc
    have : (128 : Nat) ≤ 16 ^ 8 := by decide
    omega
  have := h.len
  omega
theorem rp_none : Rp 0 300 .none := ⟨rfl, by unfold PyData.depth; exact Nat.le_refl _, rfl, by unfold PyData.shown; decide⟩
theorem rp_bool (b : Bool) : Rp 0 300 (.bool b) := ⟨rfl, by unfold PyData.depth; exact Nat.le_refl _, rfl, by unfold PyData.shown; cases b <;> decide⟩
theorem rp_int {i : Int} (h : i.natAbs < 1000000000) : Rp 0 300 (.int i) := by
  refine ⟨rfl, by unfold PyData.depth; exact Nat.le_refl _, ?_, ?_⟩
  · unfold PyData.showable
    have h2 : i.natAbs.log2 < 30 := by
      by_cases z : i.natAbs = 0
      · rw [z]
        decide
      · exact (Nat.log2_lt z).mpr (by omega)
    exact decide_eq_true (by omega)
  · unfold PyData.shown
    have q := int_text_length_le10 (a := i) (k := 9) (by decide) h
    show (Str.ofString (toString i)).length ≤ 300
    rw [ofString_length]
    omega
theorem Rp.ok {d : PyData} (r : Rp 60 10000000 d) : d.showable = true ∧ d.hasDict = false ∧ d.depth ≤ 60 ∧ d.shown.length ≤ sizeLine :=
  ⟨r.sh, PyData.hasDict_of_canLay _ r.lay, r.dep, by have := r.len; rw [sizeLine_eq]; omega⟩
theorem rp_ask {K : PySem.W.Frag} {H : Hp} {v : V} {d : PyData} {n B : Nat} {Q : VK} (h : Dp K H v d) (r : Rp n B d) (hn : n ≤ 60) (hB : B ≤ 10000000) (q : Q (.str d.shown) H) : Grd.rRepr K [v] H Q :=
  ⟨v, d, rfl, h, r.sh, PyData.hasDict_of_canLay _ r.lay, Nat.le_trans r.dep hn, by have := r.len; rw [sizeLine_eq]; omega, q⟩
theorem same_text (z : V) : (!decide (z = z)) = false := by simp
theorem same_textT (z : V) : decide (z = z) = true := by simp
end K1

/-! what is said, and whether it is due -/
namespace K1
open PySem L2 Xr Exv Grd
abbrev sSaid : Stmt := top 39
theorem scSaid : FnScope ["number", "value", "named", "e"] ["number", "value", "named"] (defScope sSaid) := ⟨rfl, rfl, rfl, by decide +kernel, rfl, by decide +kernel, by decide +kernel⟩
abbrev sValue : Stmt := top 41
theorem scValue : FnScope ["deal", "value", "number", "due"] ["deal", "value"] (defScope sValue) := ⟨rfl, rfl, rfl, by decide +kernel, rfl, by decide +kernel, by decide +kernel⟩
abbrev sWordR : Stmt := top 42
theorem scWordR : FnScope ["value", "number", "due"] ["value"] (defScope sWordR) := ⟨rfl, rfl, rfl, by decide +kernel, rfl, by decide +kernel, by decide +kernel⟩
theorem firstF_lt : ∀ {l : List Bool} {n : Nat}, firstF l = some n → n < l.length
  | false :: l, n, h => by
    have e : n = 0 := (Option.some.inj h).symm
    rw [e]
    simp
  | true :: l, n, h => by
    rw [firstF_true] at h
    cases e : firstF l with
    | none => rw [e] at h; cases h
    | some k =>
      rw [e] at h
      have en : n = k + 1 := (Option.some.inj h).symm
      have := firstF_lt e
      rw [List.length_cons]
      omega
def toldD : Option Int → PyData
  | none => .none
  | some i => .tuple [.str (Str.ofString "wrong"), .int i]
theorem Told.dp {K : PySem.W.Frag} {H : Hp} {v : V} : ∀ {o : Option Int}, Told H v o → Dp K H v (toldD o)
  | none, h => by
    have e : v = .non := h
    rw [e]
    exact .non
  | some i, ⟨p, e, h⟩ => by
    rw [e]
    exact .tup (SqT.of h) (.cons (.str _) (.cons (.int i) .nil))
theorem Told.up {H H' : Hp} {v : V} (s : Same H H') : ∀ {o : Option Int}, Told H v o → Told H' v o
  | none, h => h
  | some i, ⟨p, e, h⟩ => ⟨p, e, s _ _ h⟩
theorem Told.non {H : Hp} {v : V} {o : Option Int} (h : Told H v o) : decide (v = .non) = o.isNone := by
  cases o with
  | none =>
    have e : v = .non := h
    rw [e]
    rfl
  | some i =>
    obtain ⟨p, e, h⟩ := h
    rw [e]
    rfl
theorem due_small {d : PyData} (h : Ok d) (k : Int) : ∀ i, dueD k d = some i → i.natAbs < 1000000000 := by
  have w := h.wt
  have t : ∀ {o : Option Nat} {i : Int}, o.map (fun (n : Nat) => (n : Int)) = some i → (∀ n, o = some n → n < 1000000000) → i.natAbs < 1000000000 := by
    intro o i e f
    cases o with
    | none => cases e
    | some n =>
      have := f n rfl
      have e2 : (n : Int) = i := Option.some.inj e
      omega
  have f1 : ∀ n, firstF (flg d) = some n → n < 1000000000 := fun n e => by
    have := firstF_lt e
    have := flg_len d
    omega
  have nd : ∀ i, nodeD d = some i → i.natAbs < 1000000000 := fun i e => by
    unfold nodeD at e
    by_cases hp : pairD d = true
    · rw [if_pos hp] at e
      exact t e f1
    · rw [if_neg hp] at e
      have e2 : (0 : Int) = i := Option.some.inj e
      omega
  have fd : ∀ i, forestD d = some i → i.natAbs < 1000000000 := fun i e => by
    cases d with
    | tuple ds =>
      have ew : wt (.tuple ds) = 1 + wtAll ds := rfl
      refine t (o := firstF (flgAll ds)) e fun n en => ?_
      have := firstF_lt en
      have := flgAll_len ds
      omega
    | _ =>
      have e2 : (-1 : Int) = i := Option.some.inj e
      omega
  intro i e
  unfold dueD at e
  split at e
  · exact fd i e
  · exact nd i e
  · exact t e f1
theorem plain_wrong : Plain 17 (Str.ofString "wrong") := ⟨by decide, by decide +kernel⟩
theorem rp_told {o : Option Int} (h : ∀ i, o = some i → i.natAbs < 1000000000) : Rp 60 10000000 (toldD o) := by
  cases o with
  | none => exact rp_none.mono (by decide) (by decide)
  | some i =>
    refine (rp_tup (n := 0) (B := 300) (ds := [.str (Str.ofString "wrong"), .int i]) fun x hx => ?_).mono (by decide) (show 2 * (300 + 2) + 3 ≤ 10000000 by decide)
    simp only [List.mem_cons, List.not_mem_nil, or_false] at hx
    rcases hx with e | e
    · rw [e]
      exact rp_str plain_wrong
    · rw [e]
      exact rp_int (h i rfl)
theorem rp_bools (l : List Bool) (h : l.length ≤ 9) : Rp 60 10000000 (.tuple (l.map PyData.bool)) := by
  refine (rp_tup (n := 0) (B := 300) fun x hx => ?_).mono (by decide) (by rw [List.length_map]; omega)
  obtain ⟨b, _, rfl⟩ := List.mem_map.mp hx
  exact rp_bool b
def tTru (K : PySem.W.Frag) (te : TE) : TT := fun σ H Q => te σ H fun x H' => ∃ k, TruV K x H' k ∧ Q k H'
def tbSaid (K : PySem.W.Frag) (C : Addr) : WX → TS := fun W =>
  tSeq (tIfS (tTest (tOp rEq (tVar 0) (tC (.int 0)))) (tRet (tIf (tTru K (tVar 2)) (tCallS (spErr K C nodeD) (WE W) (tCons (tVar 1) tNil)) (tCallS (spErr K C nodeD) (WE W) (tCons (tVar 1) tNil)))) tNext)
  (tSeq (tIfS (tTest (tOp rEq (tVar 0) (tC (.int 1)))) (tRet (tIf (tTru K (tVar 2)) (tCallS (spErr K C thingD) (WE W) (tCons (tVar 1) tNil)) (tCallS (spErr K C thingD) (WE W) (tCons (tVar 1) tNil)))) tNext)
  (tRet (tIf (tTru K (tVar 2)) (tCallS (spErr K C forestD) (WE W) (tCons (tVar 1) tNil)) (tCallS (spErr K C forestD) (WE W) (tCons (tVar 1) tNil)))))
structure SaidTxt (K : PySem.W.Frag) (mg : Str → Option Value) (C cP cT fit a_need_node a_need_thing a_need_forest : Addr) : Prop where
  n_isinstance : mg "isinstance" = none
  m : mg "InvalidNode" = some (.ref C)
  mP : mg "InvalidPlace" = some (.ref cP)
  mT : mg "InvalidText" = some (.ref cT)
  mF : mg "FitError" = some (.ref fit)
  it : IsT K C
  no : PySem.W.findIn K (.ref C) "at" = some none
  one : PySem.W.exmOne K (.ref C) (.ref C) = some true
  isF : PySem.W.kitOne K (.ref C) (.ref fit) = some true
  isP : PySem.W.kitOne K (.ref C) (.ref cP) = some false
  isT : PySem.W.kitOne K (.ref C) (.ref cT) = some false
  g_need_node : mg "need_node" = some (.ref a_need_node)
  k_need_node : PySem.W.keepIn K (.ref a_need_node) = true
  g_need_thing : mg "need_thing" = some (.ref a_need_thing)
  k_need_thing : PySem.W.keepIn K (.ref a_need_thing) = true
  g_need_forest : mg "need_forest" = some (.ref a_need_forest)
  k_need_forest : PySem.W.keepIn K (.ref a_need_forest) = true
def spSaid (K : PySem.W.Frag) : Sp := fun vs H Q _ => ∃ (k : Int) (v : V) (d : PyData) (N : Addr → Prop) (b : Bool), vs = [.int k, v, .bl b] ∧ (k = 0 ∨ k = 1 ∨ k = 2) ∧ Dm K N H v d ∧ Ok d ∧ (∀ a, N a → Trk H a) ∧ ∀ u H', Told H' u (dueD k d) → Same H H' → Q u H'
section
variable {P : Program} {w : World} {K : PySem.W.Frag} {mg : Str → Option Value} {base : Heap} {C cP cT fit a_need_node a_need_thing a_need_forest : Addr} {fdN fdT fdF : FuncData}
theorem ok_said {f : Addr} {fd : FuncData} (F : Fun K "_law_said" "_law_said" sSaid f fd) (T : SaidTxt K mg C cP cT fit a_need_node a_need_thing a_need_forest)
    (Gn : FnOk P w K mg base (L2.CX P w) 5 a_need_node fdN ["value"] (spErr K C nodeD)) (bn : Binds K fdN ["value"] []) (kn : ∀ (s : Shared) (u : Value), BindsTo s fdN ⟨[], [("value", u)]⟩ [("value", u)])
    (Gt : FnOk P w K mg base (L2.CX P w) 5 a_need_thing fdT ["value"] (spErr K C thingD)) (bt : Binds K fdT ["value"] []) (kt : ∀ (s : Shared) (u : Value), BindsTo s fdT ⟨[], [("value", u)]⟩ [("value", u)])
    (Gf : FnOk P w K mg base (L2.CX P w) 5 a_need_forest fdF ["value"] (spErr K C forestD)) (bf : Binds K fdF ["value"] []) (kf : ∀ (s : Shared) (u : Value), BindsTo s fdF ⟨[], [("value", u)]⟩ [("value", u)]) :
    FnOk P w K mg base CX0 6 f fd ["number", "value", "named"] (spSaid K) := by
  refine F.ok scSaid (fun vs H Q E h => ?_) (fun cdv A outer s H vs Q E hr h => ?_)
  · obtain ⟨k, v, d, N, b, rfl, _⟩ := h
    rfl
  · obtain ⟨kk, v, d, N, b, rfl, h3, hv, ho, hN, k⟩ := h
    have xf : XfC K C := ⟨T.it.ga, T.it.gg, T.it.ex, T.it.hd⟩
    refine ⟨_, pss_one (ps_try_as (i := 3) (Wout := fun _ _ _ _ => False) (tb := tbSaid K C) rfl rfl scSaid.nd rfl rfl ⟨rfl, by decide, .inl T.m⟩ takes0
        (fun W pn xe tk _ => pss_cons (ps_if (pt_cmpR op_eq (pv 0) pe_int (nomark _)) (pss_one (ps_ret (pe_ifExp (pt_truth (pv 2) (by intro _; rfl)) (pe_kw0 Gn hr (by rfl) T.g_need_node T.k_need_node kn (fun σ => passAt tk σ) (by exact (pk_cons (pv 1) pk_nil))) (pe_callS Gn hr (by rfl) T.g_need_node T.k_need_node bn (fun σ => passAt tk σ) (by exact (pa_cons (pv 1) pa_nil)))))) pss_nil)
          (pss_cons (ps_if (pt_cmpR op_eq (pv 0) pe_int (nomark _)) (pss_one (ps_ret (pe_ifExp (pt_truth (pv 2) (by intro _; rfl)) (pe_kw0 Gt hr (by rfl) T.g_need_thing T.k_need_thing kt (fun σ => passAt tk σ) (by exact (pk_cons (pv 1) pk_nil))) (pe_callS Gt hr (by rfl) T.g_need_thing T.k_need_thing bt (fun σ => passAt tk σ) (by exact (pa_cons (pv 1) pa_nil)))))) pss_nil)
          (pss_one (ps_ret (pe_ifExp (pt_truth (pv 2) (by intro _; rfl)) (pe_kw0 Gf hr (by rfl) T.g_need_forest T.k_need_forest kf (fun σ => passAt tk σ) (by exact (pk_cons (pv 1) pk_nil))) (pe_callS Gf hr (by rfl) T.g_need_forest T.k_need_forest bf (fun σ => passAt tk σ) (by exact (pa_cons (pv 1) pa_nil))))))))
        (fun a oe cls d pn hz hf => pss_one (ps_ret (pe_ifExp (PW.pt (pw_and (pt_val (pe_callB (call_isED hz hf) (by rfl) T.n_isinstance (by decide +kernel) (pa_cons (pv 3) (pa_cons (pe_glob (v := V.ref fit) rfl T.mF rfl) pa_nil))))
          (pw_and1 (pt_not (pt_val (pe_callB (call_isEDT hz hf) (by rfl) T.n_isinstance (by decide +kernel) (pa_cons (pv 3) (pa_cons (pe_tup (pa_cons (pe_glob (v := V.ref cP) rfl T.mP rfl) (pa_cons (pe_glob (v := V.ref cT) rfl T.mT rfl) pa_nil))) pa_nil)))))))) (pe_tup (pa_cons pe_str (pa_cons (pe_xf xf T.no hz hf (pv 3)) pa_nil))) pe_str)))), ?_⟩
    have l2 : 2 ≤ sizeLine := by decide
    have any : PySem.W.kitAny K (.ref C) [.ref cP, .ref cT] = some false := kitAny_cons T.isP (fun _ => kitAny_cons T.isT (fun _ => kitAny_nil) (fun z => by cases z)) (fun z => by cases z)
    have yes : ∀ (i : Int) (H1 : Hp), Same H H1 → dueD kk d = some i → ∀ tp, H1 tp = none → ∀ p, (upd H1 tp (.tup [V.ref cP, V.ref cT])) p = none → Q (.ref p) (upd (upd H1 tp (.tup [V.ref cP, V.ref cT])) p (.tup [.str (Str.ofString "wrong"), .int i])) := fun i H1 s1 e tp htp p hp => k (.ref p) _ (by rw [e]; exact ⟨p, rfl, upd_same⟩) ((s1.new htp).new hp)
    have no : ∀ (H1 : Hp), Same H H1 → dueD kk d = none → Q .non H1 := fun H1 s1 e => k .non H1 (by rw [e]; rfl) s1
    rcases h3 with h3 | h3 | h3
    · subst h3
      have eD : dueD 0 d = nodeD d := rfl
      refine ⟨_, rfl, rfl, _, rfl, iteT ⟨_, rfl, b, rfl, ?_⟩⟩
      cases b with
      | true => exact iteT ⟨_, rfl, v, d, N, rfl, hv, ho.wt, hN, fun i hi dd H1 h1 s1 => ⟨true, T.one, fun _ a ha => ⟨_, rfl, C, .ref fit, .ref fit, true, dd, _, rfl, rfl, .own _, T.it, T.isF, rfl, h1, _, rfl, iteT ⟨_, rfl, l2, fun tp htp => ⟨C, tp, _, _, false, dd, _, rfl, rfl, upd_same, .cons (.own _) (.cons (.own _) .nil), T.it, any, rfl, (by rw [upd_ne (ne_of_none h1 htp)]; exact h1), _, rfl, iteT ⟨_, rfl, rfl, rfl, dd, _, _, rfl, (by rw [upd_ne (ne_of_none h1 htp)]; exact h1), rfl, l2, yes i H1 s1 (eD.trans hi) tp htp⟩⟩⟩⟩, fun q => nomatch q⟩, fun hn H1 s1 => no H1 s1 (eD.trans hn)⟩
      | false => exact iteF ⟨_, rfl, v, d, N, rfl, hv, ho.wt, hN, fun i hi dd H1 h1 s1 => ⟨true, T.one, fun _ a ha => ⟨_, rfl, C, .ref fit, .ref fit, true, dd, _, rfl, rfl, .own _, T.it, T.isF, rfl, h1, _, rfl, iteT ⟨_, rfl, l2, fun tp htp => ⟨C, tp, _, _, false, dd, _, rfl, rfl, upd_same, .cons (.own _) (.cons (.own _) .nil), T.it, any, rfl, (by rw [upd_ne (ne_of_none h1 htp)]; exact h1), _, rfl, iteT ⟨_, rfl, rfl, rfl, dd, _, _, rfl, (by rw [upd_ne (ne_of_none h1 htp)]; exact h1), rfl, l2, yes i H1 s1 (eD.trans hi) tp htp⟩⟩⟩⟩, fun q => nomatch q⟩, fun hn H1 s1 => no H1 s1 (eD.trans hn)⟩
    · subst h3
      have eD : dueD 1 d = thingD d := rfl
      refine ⟨_, rfl, rfl, _, rfl, iteF ⟨_, rfl, rfl, _, rfl, iteT ⟨_, rfl, b, rfl, ?_⟩⟩⟩
      cases b with
      | true => exact iteT ⟨_, rfl, v, d, N, rfl, hv, ho.wt, hN, fun i hi dd H1 h1 s1 => ⟨true, T.one, fun _ a ha => ⟨_, rfl, C, .ref fit, .ref fit, true, dd, _, rfl, rfl, .own _, T.it, T.isF, rfl, h1, _, rfl, iteT ⟨_, rfl, l2, fun tp htp => ⟨C, tp, _, _, false, dd, _, rfl, rfl, upd_same, .cons (.own _) (.cons (.own _) .nil), T.it, any, rfl, (by rw [upd_ne (ne_of_none h1 htp)]; exact h1), _, rfl, iteT ⟨_, rfl, rfl, rfl, dd, _, _, rfl, (by rw [upd_ne (ne_of_none h1 htp)]; exact h1), rfl, l2, yes i H1 s1 (eD.trans hi) tp htp⟩⟩⟩⟩, fun q => nomatch q⟩, fun hn H1 s1 => no H1 s1 (eD.trans hn)⟩
      | false => exact iteF ⟨_, rfl, v, d, N, rfl, hv, ho.wt, hN, fun i hi dd H1 h1 s1 => ⟨true, T.one, fun _ a ha => ⟨_, rfl, C, .ref fit, .ref fit, true, dd, _, rfl, rfl, .own _, T.it, T.isF, rfl, h1, _, rfl, iteT ⟨_, rfl, l2, fun tp htp => ⟨C, tp, _, _, false, dd, _, rfl, rfl, upd_same, .cons (.own _) (.cons (.own _) .nil), T.it, any, rfl, (by rw [upd_ne (ne_of_none h1 htp)]; exact h1), _, rfl, iteT ⟨_, rfl, rfl, rfl, dd, _, _, rfl, (by rw [upd_ne (ne_of_none h1 htp)]; exact h1), rfl, l2, yes i H1 s1 (eD.trans hi) tp htp⟩⟩⟩⟩, fun q => nomatch q⟩, fun hn H1 s1 => no H1 s1 (eD.trans hn)⟩
    · subst h3
      have eD : dueD 2 d = forestD d := rfl
      refine ⟨_, rfl, rfl, _, rfl, iteF ⟨_, rfl, rfl, _, rfl, iteF ⟨_, rfl, b, rfl, ?_⟩⟩⟩
      cases b with
      | true => exact iteT ⟨_, rfl, v, d, N, rfl, hv, ho.wt, hN, fun i hi dd H1 h1 s1 => ⟨true, T.one, fun _ a ha => ⟨_, rfl, C, .ref fit, .ref fit, true, dd, _, rfl, rfl, .own _, T.it, T.isF, rfl, h1, _, rfl, iteT ⟨_, rfl, l2, fun tp htp => ⟨C, tp, _, _, false, dd, _, rfl, rfl, upd_same, .cons (.own _) (.cons (.own _) .nil), T.it, any, rfl, (by rw [upd_ne (ne_of_none h1 htp)]; exact h1), _, rfl, iteT ⟨_, rfl, rfl, rfl, dd, _, _, rfl, (by rw [upd_ne (ne_of_none h1 htp)]; exact h1), rfl, l2, yes i H1 s1 (eD.trans hi) tp htp⟩⟩⟩⟩, fun q => nomatch q⟩, fun hn H1 s1 => no H1 s1 (eD.trans hn)⟩
      | false => exact iteF ⟨_, rfl, v, d, N, rfl, hv, ho.wt, hN, fun i hi dd H1 h1 s1 => ⟨true, T.one, fun _ a ha => ⟨_, rfl, C, .ref fit, .ref fit, true, dd, _, rfl, rfl, .own _, T.it, T.isF, rfl, h1, _, rfl, iteT ⟨_, rfl, l2, fun tp htp => ⟨C, tp, _, _, false, dd, _, rfl, rfl, upd_same, .cons (.own _) (.cons (.own _) .nil), T.it, any, rfl, (by rw [upd_ne (ne_of_none h1 htp)]; exact h1), _, rfl, iteT ⟨_, rfl, rfl, rfl, dd, _, _, rfl, (by rw [upd_ne (ne_of_none h1 htp)]; exact h1), rfl, l2, yes i H1 s1 (eD.trans hi) tp htp⟩⟩⟩⟩, fun q => nomatch q⟩, fun hn H1 s1 => no H1 s1 (eD.trans hn)⟩
end
end K1

/-! values and words held against the law -/
namespace K1
open PySem L2 Xr Exv Grd
theorem pe_conseq {X : Cx} {e : Expr} {te te' : TE} (h : PE X e te) (i : ∀ (σ : L2.St) (H : Hp) (Q : VK), te' σ H Q → te σ H Q) : PE X e te' := ⟨fun pins s σ H Q I q => h.run pins s σ H Q I (i σ H Q q)⟩
def rNumE (K : PySem.W.Frag) (i : Nat) : TE := fun σ H Q => ∃ (v : V) (d : PyData) (N : Addr → Prop), σ[i]? = some (some v) ∧ Dm K N H v d ∧ Q (.bl (numD d)) H
structure RightTxt (K : PySem.W.Frag) (mg : Str → Option Value) (a_law_due a_law_said a_is_node a_is_forest a_law_is_name a_law_is_text a_is_name a_is_text a_is_number : Addr) : Prop where
  n_repr : mg "repr" = none
  n_range : mg "range" = none
  n_isinstance : mg "isinstance" = none
  n_int : mg "int" = none
  n_bool : mg "bool" = none
  g_law_due : mg "_law_due" = some (.ref a_law_due)
  k_law_due : PySem.W.keepIn K (.ref a_law_due) = true
  g_law_said : mg "_law_said" = some (.ref a_law_said)
  k_law_said : PySem.W.keepIn K (.ref a_law_said) = true
  g_is_node : mg "is_node" = some (.ref a_is_node)
  k_is_node : PySem.W.keepIn K (.ref a_is_node) = true
  g_is_forest : mg "is_forest" = some (.ref a_is_forest)
  k_is_forest : PySem.W.keepIn K (.ref a_is_forest) = true
  g_law_is_name : mg "_law_is_name" = some (.ref a_law_is_name)
  k_law_is_name : PySem.W.keepIn K (.ref a_law_is_name) = true
  g_law_is_text : mg "_law_is_text" = some (.ref a_law_is_text)
  k_law_is_text : PySem.W.keepIn K (.ref a_law_is_text) = true
  g_is_name : mg "is_name" = some (.ref a_is_name)
  k_is_name : PySem.W.keepIn K (.ref a_is_name) = true
  g_is_text : mg "is_text" = some (.ref a_is_text)
  k_is_text : PySem.W.keepIn K (.ref a_is_text) = true
  g_is_number : mg "is_number" = some (.ref a_is_number)
  k_is_number : PySem.W.keepIn K (.ref a_is_number) = true
def spVR (K : PySem.W.Frag) : Sp := fun vs H Q _ => ∃ (dl v : V) (d : PyData) (N : Addr → Prop), vs = [dl, v] ∧ Dm K N H v d ∧ Ok d ∧ (∀ a, N a → Trk H a) ∧ ∀ H', Same H H' → Q (.bl true) H'
def spWR (K : PySem.W.Frag) : Sp := fun vs H Q _ => ∃ (v : V) (d : PyData) (N : Addr → Prop), vs = [v] ∧ Dm K N H v d ∧ Ok d ∧ (∀ a, N a → Trk H a) ∧ ∀ H', Same H H' → Q (.bl true) H'
theorem dp_bools {K : PySem.W.Frag} {H : Hp} : ∀ l : List Bool, DpAll K H (l.map V.bl) (l.map PyData.bool)
  | [] => .nil
  | b :: l => .cons (.bl b) (dp_bools l)
section
variable {P : Program} {w : World} {K : PySem.W.Frag} {mg : Str → Option Value} {base : Heap} {a_law_due a_law_said a_is_node a_is_forest a_law_is_name a_law_is_text a_is_name a_is_text a_is_number : Addr} {fdD fdS fdN fdF fd1 fd2 fd3 fd4 fd5 : FuncData}
theorem ok_value {f : Addr} {fd : FuncData} (F : Fun K "_law_value_right" "_law_value_right" sValue f fd) (T : RightTxt K mg a_law_due a_law_said a_is_node a_is_forest a_law_is_name a_law_is_text a_is_name a_is_text a_is_number)
    (G_law_due : FnOk P w K mg base CX0 127 a_law_due fdD ["number", "value"] (spDue K)) (b_law_due : Binds K fdD ["number", "value"] [])
    (G_law_said : FnOk P w K mg base CX0 6 a_law_said fdS ["number", "value", "named"] (spSaid K)) (b_law_said : Binds K fdS ["number", "value", "named"] [])
    (G_is_node : FnOk P w K mg base CX0 6 a_is_node fdN ["value"] (spIs K nodeD)) (b_is_node : Binds K fdN ["value"] []) (kb_is_node : ∀ (s : Shared) (u : Value), BindsTo s fdN ⟨[], [("value", u)]⟩ [("value", u)])
    (G_is_forest : FnOk P w K mg base CX0 6 a_is_forest fdF ["value"] (spIs K forestD)) (b_is_forest : Binds K fdF ["value"] []) (kb_is_forest : ∀ (s : Shared) (u : Value), BindsTo s fdF ⟨[], [("value", u)]⟩ [("value", u)]) :
    FnG P w K mg base CX0 128 f fd ["deal", "value"] (spVR K) := by
  refine fng_of F scValue (fun vs H Q E h => ?_) (fun cdv A outer s H vs Q E gd hr h => ?_)
  · obtain ⟨dl, v, d, N, rfl, _⟩ := h
    rfl
  · obtain ⟨dl, v, d, N, rfl, hv, ho, hN, k⟩ := h
    have hr6 : Room 6 _ := hr.mono (by decide)
    refine ⟨_, PSs.nox ((pss_cons (ps_for PassesOwn.never rfl (pi_range1 (by rfl) T.n_range (pa_cons pe_int pa_nil)) (pg_name (i := 2) scValue.nd rfl (Or.inl rfl))
      (pss_cons (ps_set (i := 3) scValue.nd rfl (Or.inl rfl) (pe_callB (Grd.call_repr gd hr.units) (by rfl) T.n_repr (by decide +kernel) (pa_cons (pe_call G_law_due hr rfl T.g_law_due T.k_law_due b_law_due .nil pass0 (pa_cons (pv 2) (pa_cons (pv 1) pa_nil))) pa_nil)))
      (pss_one (ps_if (PW.pt (pw_or (pt_cmpR op_ne (pe_callB (Grd.call_repr gd hr.units) (by rfl) T.n_repr (by decide +kernel) (pa_cons (pe_call G_law_said hr6 rfl T.g_law_said T.k_law_said b_law_said .nil pass0 (pa_cons (pv 2) (pa_cons (pv 1) (pa_cons pe_bl pa_nil)))) pa_nil)) (pv 3) (nomark _)) (pw_or1 (pt_cmpR op_ne (pe_callB (Grd.call_repr gd hr.units) (by rfl) T.n_repr (by decide +kernel) (pa_cons (pe_call G_law_said hr6 rfl T.g_law_said T.k_law_said b_law_said .nil pass0 (pa_cons (pv 2) (pa_cons (pv 1) (pa_cons pe_bl pa_nil)))) pa_nil)) (pv 3) (nomark _)))))
      (pss_one (ps_ret pe_bl))
      pss_nil))))
      (pss_cons (ps_set (i := 3) scValue.nd rfl (Or.inl rfl) (pe_callB (Grd.call_repr gd hr.units) (by rfl) T.n_repr (by decide +kernel) (pa_cons (pe_tup (pa_cons (pe_cmpR op_isN (pe_call G_law_due hr rfl T.g_law_due T.k_law_due b_law_due .nil pass0 (pa_cons pe_int (pa_cons (pv 1) pa_nil))) pe_non (nomark _)) (pa_cons (pe_cmpR op_isN (pe_call G_law_due hr rfl T.g_law_due T.k_law_due b_law_due .nil pass0 (pa_cons pe_int (pa_cons (pv 1) pa_nil))) pe_non (nomark _)) pa_nil))) pa_nil)))
      (pss_one (ps_ret (pe_and (pe_cmpR op_eq (pe_callB (Grd.call_repr gd hr.units) (by rfl) T.n_repr (by decide +kernel) (pa_cons (pe_tup (pa_cons (pe_call G_is_node hr6 rfl T.g_is_node T.k_is_node b_is_node .nil pass0 (pa_cons (pv 1) pa_nil)) (pa_cons (pe_call G_is_forest hr6 rfl T.g_is_forest T.k_is_forest b_is_forest .nil pass0 (pa_cons (pv 1) pa_nil)) pa_nil))) pa_nil)) (pv 3) (nomark _)) (pe_one (pe_cmpR op_eq (pe_callB (Grd.call_repr gd hr.units) (by rfl) T.n_repr (by decide +kernel) (pa_cons (pe_tup (pa_cons (pe_kw0 G_is_node hr6 (by rfl) T.g_is_node T.k_is_node kb_is_node (fun σ => at0 pass0 σ) (by exact (pk_cons (pv 1) pk_nil))) (pa_cons (pe_kw0 G_is_forest hr6 (by rfl) T.g_is_forest T.k_is_forest kb_is_forest (fun σ => at0 pass0 σ) (by exact (pk_cons (pv 1) pk_nil))) pa_nil))) pa_nil)) (pv 3) (nomark _))))))))), ?_⟩
    refine ⟨3, rfl, by decide, by decide, ?_⟩
    refine for_range (lo := 0) (n := 3) (fun i σ H1 => ∃ x2 x3 : Option V, σ = [some dl, some v, x2, x3] ∧ Same H H1) ⟨none, none, rfl, Same.refl H⟩ ?_ ?_
    · rintro i σ H1 hi ⟨x2, x3, rfl, s1⟩
      have h3 : (0 + (i : Int)) = 0 ∨ (0 + (i : Int)) = 1 ∨ (0 + (i : Int)) = 2 := by omega
      generalize (0 + (i : Int)) = kk at h3 ⊢
      have rp := rp_told (due_small ho kk)
      refine ⟨_, rfl, _, rfl, kk, v, d, N, rfl, h3, hv.up (Bt.same s1), ho, fun u1 H2 t1 s2 => ⟨_, _, rfl, t1.dp, rp.ok.1, rp.ok.2.1, rp.ok.2.2.1, rp.ok.2.2.2, ?_⟩⟩
      have s12 := s1.trans s2
      refine ⟨_, rfl, _, rfl, kk, v, d, N, false, rfl, h3, hv.up (Bt.same s12), ho, trk_up hN s12, fun u2 H3 t2 s3 => ⟨_, _, rfl, t2.dp, rp.ok.1, rp.ok.2.1, rp.ok.2.2.1, rp.ok.2.2.2, ?_⟩⟩
      have s13 := s12.trans s3
      refine ⟨_, rfl, rfl, _, rfl, ?_⟩
      rw [same_text]
      refine iteF ⟨_, rfl, _, rfl, kk, v, d, N, true, rfl, h3, hv.up (Bt.same s13), ho, trk_up hN s13, fun u3 H4 t3 s4 => ⟨_, _, rfl, t3.dp, rp.ok.1, rp.ok.2.1, rp.ok.2.2.1, rp.ok.2.2.2, ?_⟩⟩
      refine ⟨_, rfl, rfl, _, rfl, ?_⟩
      rw [same_text]
      exact iteF ⟨_, _, rfl, s13.trans s4⟩
    · rintro σ H1 ⟨x2, x3, rfl, s1⟩
      have l2 : 2 ≤ sizeLine := by decide
      refine ⟨_, rfl, 0, v, d, N, rfl, .inl rfl, hv.up (Bt.same s1), ho, fun u1 H2 t1 s2 => ⟨rfl, ?_⟩⟩
      have s12 := s1.trans s2
      refine ⟨_, rfl, 2, v, d, N, rfl, .inr (.inr rfl), hv.up (Bt.same s12), ho, fun u2 H3 t2 s3 => ⟨rfl, l2, fun p hp => ?_⟩⟩
      have s13 := s12.trans s3
      rw [t1.non, t2.non]
      have s14 := s13.new (o := .tup [.bl (dueD 0 d).isNone, .bl (dueD 2 d).isNone]) hp
      have rb := rp_bools [(dueD 0 d).isNone, (dueD 2 d).isNone] (show 2 ≤ 9 by decide)
      have dp : Dp K (upd H3 p (.tup [.bl (dueD 0 d).isNone, .bl (dueD 2 d).isNone])) (.ref p) (.tuple ([(dueD 0 d).isNone, (dueD 2 d).isNone].map PyData.bool)) := .tup (SqT.of upd_same) (dp_bools [(dueD 0 d).isNone, (dueD 2 d).isNone])
      refine ⟨_, _, rfl, dp, rb.ok.1, rb.ok.2.1, rb.ok.2.2.1, rb.ok.2.2.2, ?_⟩
      generalize upd H3 p (.tup [.bl (dueD 0 d).isNone, .bl (dueD 2 d).isNone]) = H4 at s14 ⊢
      refine ⟨_, rfl, v, d, N, rfl, hv.up (Bt.same s14), ho.wt, trk_up hN s14, fun H5 s5 => ?_⟩
      have s15 := s14.trans s5
      refine ⟨_, rfl, v, d, N, rfl, hv.up (Bt.same s15), ho.wt, trk_up hN s15, fun H6 s6 => ⟨l2, fun p2 hp2 => ?_⟩⟩
      have s16 := s15.trans s6
      have s17 := s16.new (o := .tup [.bl (nodeD d).isNone, .bl (forestD d).isNone]) hp2
      have dp2 : Dp K (upd H6 p2 (.tup [.bl (nodeD d).isNone, .bl (forestD d).isNone])) (.ref p2) (.tuple ([(dueD 0 d).isNone, (dueD 2 d).isNone].map PyData.bool)) := .tup (SqT.of upd_same) (dp_bools [(dueD 0 d).isNone, (dueD 2 d).isNone])
      refine ⟨_, _, rfl, dp2, rb.ok.1, rb.ok.2.1, rb.ok.2.2.1, rb.ok.2.2.2, ?_⟩
      generalize upd H6 p2 (.tup [.bl (nodeD d).isNone, .bl (forestD d).isNone]) = H7 at s17 ⊢
      refine ⟨_, rfl, rfl, _, rfl, ?_⟩
      rw [same_textT]
      refine iteT ⟨_, rfl, v, d, N, rfl, hv.up (Bt.same s17), ho.wt, trk_up hN s17, fun H8 s8 => ?_⟩
      have s18 := s17.trans s8
      refine ⟨_, rfl, v, d, N, rfl, hv.up (Bt.same s18), ho.wt, trk_up hN s18, fun H9 s9 => ⟨l2, fun p3 hp3 => ?_⟩⟩
      have s19 := s18.trans s9
      have s20 := s19.new (o := .tup [.bl (nodeD d).isNone, .bl (forestD d).isNone]) hp3
      have dp3 : Dp K (upd H9 p3 (.tup [.bl (nodeD d).isNone, .bl (forestD d).isNone])) (.ref p3) (.tuple ([(dueD 0 d).isNone, (dueD 2 d).isNone].map PyData.bool)) := .tup (SqT.of upd_same) (dp_bools [(dueD 0 d).isNone, (dueD 2 d).isNone])
      refine ⟨_, _, rfl, dp3, rb.ok.1, rb.ok.2.1, rb.ok.2.2.1, rb.ok.2.2.2, ?_⟩
      refine ⟨_, rfl, rfl, ?_⟩
      rw [same_textT]
      exact k _ s20
theorem ok_wordR {f : Addr} {fd : FuncData} (F : Fun K "_law_word_right" "_law_word_right" sWordR f fd) (T : RightTxt K mg a_law_due a_law_said a_is_node a_is_forest a_law_is_name a_law_is_text a_is_name a_is_text a_is_number)
    (G_law_is_name : FnOk P w K mg base CX0 2 a_law_is_name fd1 ["value"] (spB K nameD)) (b_law_is_name : Binds K fd1 ["value"] []) (G_law_is_text : FnOk P w K mg base CX0 2 a_law_is_text fd2 ["value"] (spB K textD)) (b_law_is_text : Binds K fd2 ["value"] [])
    (G_is_name : FnOk P w K mg base CX0 2 a_is_name fd3 ["value"] (spName K)) (b_is_name : Binds K fd3 ["value"] []) (kb_is_name : ∀ (s : Shared) (u : Value), BindsTo s fd3 ⟨[], [("value", u)]⟩ [("value", u)])
    (G_is_text : FnOk P w K mg base CX0 2 a_is_text fd4 ["value"] (spText K)) (b_is_text : Binds K fd4 ["value"] []) (kb_is_text : ∀ (s : Shared) (u : Value), BindsTo s fd4 ⟨[], [("value", u)]⟩ [("value", u)])
    (G_is_number : FnOk P w K mg base CX0 1 a_is_number fd5 ["value"] (spNum K)) (b_is_number : Binds K fd5 ["value"] []) (kb_is_number : ∀ (s : Shared) (u : Value), BindsTo s fd5 ⟨[], [("value", u)]⟩ [("value", u)]) :
    FnG P w K mg base CX0 3 f fd ["value"] (spWR K) := by
  refine fng_of F scWordR (fun vs H Q E h => ?_) (fun cdv A outer s H vs Q E gd hr h => ?_)
  · obtain ⟨v, d, N, rfl, _⟩ := h
    rfl
  · obtain ⟨v, d, N, rfl, hv, ho, hN, k⟩ := h
    have hr1 : Room 1 _ := hr.mono (by decide)
    have lz : ∀ z, d = .str z → z.length ≤ 900000 := fun z e => by
      subst e
      have := ho.sg.2
      omega
    refine ⟨_, PSs.nox ((pss_cons (ps_set (i := 1) scWordR.nd rfl (Or.inl rfl) (pe_conseq (te' := rNumE K 0) (pe_and (pe_callB call_isi (by rfl) T.n_isinstance (by decide +kernel) (pa_cons (pv 0) (pa_cons (pe_bltn (v := V.ty "int") (u := .type "int") (by rfl) T.n_int (by decide +kernel) (by rfl)) pa_nil))) (pe_and (pe_not (pe_callB call_isi (by rfl) T.n_isinstance (by decide +kernel) (pa_cons (pv 0) (pa_cons (pe_bltn (v := V.ty "bool") (u := .type "bool") (by rfl) T.n_bool (by decide +kernel) (by rfl)) pa_nil)))) (pe_one (pe_cmpR op_ge (pv 0) pe_int (nomark _))))) (by
      rintro σ H Q ⟨v, d, N, e, hv, k⟩
      cases d with
      | int i =>
        have ev : v = .int i := by
          cases hv
          rfl
        subst ev
        refine ⟨_, e, _, _, _, _, true, rfl, .ty "int", .base (.int i), kit_ty (by decide +kernel), _, rfl, iteT ?_⟩
        exact ⟨_, e, _, _, _, _, false, rfl, .ty "bool", .base (.int i), kit_ty (by decide +kernel), _, rfl, _, rfl, iteT ⟨_, e, _, _, rfl, rfl, k⟩⟩
      | bool b =>
        exact ⟨_, e, _, _, _, _, true, rfl, .ty "int", hv.ty, kit_ty (a := "bool") (b := "int") (r := true) (by decide +kernel), _, rfl, iteT ⟨_, e, _, _, _, _, true, rfl, .ty "bool", hv.ty, kit_ty (a := "bool") (b := "bool") (r := true) (by decide +kernel), _, rfl, _, rfl, iteF k⟩⟩
      | none => exact ⟨_, e, _, _, _, _, false, rfl, .ty "int", hv.ty, kit_ty (a := "NoneType") (b := "int") (r := false) (by decide +kernel), _, rfl, iteF k⟩
      | str z => exact ⟨_, e, _, _, _, _, false, rfl, .ty "int", hv.ty, kit_ty (a := "str") (b := "int") (r := false) (by decide +kernel), _, rfl, iteF k⟩
      | list ds => exact ⟨_, e, _, _, _, _, false, rfl, .ty "int", hv.ty, kit_ty (a := "list") (b := "int") (r := false) (by decide +kernel), _, rfl, iteF k⟩
      | tuple ds => exact ⟨_, e, _, _, _, _, false, rfl, .ty "int", hv.ty, kit_ty (a := "tuple") (b := "int") (r := false) (by decide +kernel), _, rfl, iteF k⟩
      | dict kvs => cases hv)))
      (pss_cons (ps_set (i := 2) scWordR.nd rfl (Or.inl rfl) (pe_callB (Grd.call_repr gd hr.units) (by rfl) T.n_repr (by decide +kernel) (pa_cons (pe_tup (pa_cons (pe_call G_law_is_name hr rfl T.g_law_is_name T.k_law_is_name b_law_is_name .nil pass0 (pa_cons (pv 0) pa_nil)) (pa_cons (pe_call G_law_is_text hr rfl T.g_law_is_text T.k_law_is_text b_law_is_text .nil pass0 (pa_cons (pv 0) pa_nil)) (pa_cons (pv 1) pa_nil)))) pa_nil)))
      (pss_cons (ps_if (pt_cmpR op_ne (pe_callB (Grd.call_repr gd hr.units) (by rfl) T.n_repr (by decide +kernel) (pa_cons (pe_tup (pa_cons (pe_call G_is_name hr rfl T.g_is_name T.k_is_name b_is_name .nil pass0 (pa_cons (pv 0) pa_nil)) (pa_cons (pe_call G_is_text hr rfl T.g_is_text T.k_is_text b_is_text .nil pass0 (pa_cons (pv 0) pa_nil)) (pa_cons (pe_call G_is_number hr1 rfl T.g_is_number T.k_is_number b_is_number .nil pass0 (pa_cons (pv 0) pa_nil)) pa_nil)))) pa_nil)) (pv 2) (nomark _))
      (pss_one (ps_ret pe_bl))
      pss_nil)
      (pss_one (ps_ret (pe_cmpR op_eq (pe_callB (Grd.call_repr gd hr.units) (by rfl) T.n_repr (by decide +kernel) (pa_cons (pe_tup (pa_cons (pe_kw0 G_is_name hr (by rfl) T.g_is_name T.k_is_name kb_is_name (fun σ => at0 pass0 σ) (by exact (pk_cons (pv 0) pk_nil))) (pa_cons (pe_kw0 G_is_text hr (by rfl) T.g_is_text T.k_is_text kb_is_text (fun σ => at0 pass0 σ) (by exact (pk_cons (pv 0) pk_nil))) (pa_cons (pe_kw0 G_is_number hr1 (by rfl) T.g_is_number T.k_is_number kb_is_number (fun σ => at0 pass0 σ) (by exact (pk_cons (pv 0) pk_nil))) pa_nil)))) pa_nil)) (pv 2) (nomark _)))))))), ?_⟩
    have l3 : 3 ≤ sizeLine := by decide
    refine ⟨v, d, N, rfl, hv, ?_⟩
    have rb := rp_bools [nameD d, textD d, numD d] (show 3 ≤ 9 by decide)
    refine ⟨_, rfl, v, d, N, rfl, hv, ho, fun H1 s1 => ?_⟩
    refine ⟨_, rfl, v, d, N, rfl, hv.up (Bt.same s1), ho, fun H2 s2 => ⟨_, rfl, l3, fun p hp => ?_⟩⟩
    have s12 := s1.trans s2
    have s13 := s12.new (o := .tup [.bl (nameD d), .bl (textD d), .bl (numD d)]) hp
    have dp : Dp K (upd H2 p (.tup [.bl (nameD d), .bl (textD d), .bl (numD d)])) (.ref p) (.tuple ([nameD d, textD d, numD d].map PyData.bool)) := .tup (SqT.of upd_same) (dp_bools [nameD d, textD d, numD d])
    refine ⟨_, _, rfl, dp, rb.ok.1, rb.ok.2.1, rb.ok.2.2.1, rb.ok.2.2.2, ?_⟩
    generalize upd H2 p (.tup [.bl (nameD d), .bl (textD d), .bl (numD d)]) = H4 at s13 ⊢
    refine ⟨_, rfl, v, d, N, rfl, hv.up (Bt.same s13), lz, fun H5 s5 => ?_⟩
    have s15 := s13.trans s5
    refine ⟨_, rfl, v, d, N, rfl, hv.up (Bt.same s15), lz, fun H6 s6 => ?_⟩
    have s16 := s15.trans s6
    refine ⟨_, rfl, v, d, N, rfl, hv.up (Bt.same s16), l3, fun p2 hp2 => ?_⟩
    have s17 := s16.new (o := .tup [.bl (nameD d), .bl (textD d), .bl (numD d)]) hp2
    have dp2 : Dp K (upd H6 p2 (.tup [.bl (nameD d), .bl (textD d), .bl (numD d)])) (.ref p2) (.tuple ([nameD d, textD d, numD d].map PyData.bool)) := .tup (SqT.of upd_same) (dp_bools [nameD d, textD d, numD d])
    refine ⟨_, _, rfl, dp2, rb.ok.1, rb.ok.2.1, rb.ok.2.2.1, rb.ok.2.2.2, ?_⟩
    generalize upd H6 p2 (.tup [.bl (nameD d), .bl (textD d), .bl (numD d)]) = H7 at s17 ⊢
    refine ⟨_, rfl, rfl, _, rfl, ?_⟩
    rw [same_text]
    refine iteF ⟨_, rfl, v, d, N, rfl, hv.up (Bt.same s17), lz, fun H8 s8 => ?_⟩
    have s18 := s17.trans s8
    refine ⟨_, rfl, v, d, N, rfl, hv.up (Bt.same s18), lz, fun H9 s9 => ?_⟩
    have s19 := s18.trans s9
    refine ⟨_, rfl, v, d, N, rfl, hv.up (Bt.same s19), l3, fun p3 hp3 => ?_⟩
    have s20 := s19.new (o := .tup [.bl (nameD d), .bl (textD d), .bl (numD d)]) hp3
    have dp3 : Dp K (upd H9 p3 (.tup [.bl (nameD d), .bl (textD d), .bl (numD d)])) (.ref p3) (.tuple ([nameD d, textD d, numD d].map PyData.bool)) := .tup (SqT.of upd_same) (dp_bools [nameD d, textD d, numD d])
    refine ⟨_, _, rfl, dp3, rb.ok.1, rb.ok.2.1, rb.ok.2.2.1, rb.ok.2.2.2, ?_⟩
    refine ⟨_, rfl, rfl, ?_⟩
    rw [same_textT]
    exact k _ s20
end
end K1

/-! the law -/
namespace K1
open PySem L2 Xr Exv Grd
section
variable {X : Cx}
def rMulS : R2 := fun x y H Q => ∃ z n, x = .str z ∧ y = .int n ∧ MulOk z n ∧ Q (.str (Txt.mul z n)) H
theorem op_mulS : OpR X (binaryOp .Mult) rMulS := by
  intro pins s σ H x y v u Q I rx ry h
  obtain ⟨z, n, rfl, rfl, hok, q⟩ := h
  obtain ⟨t, rfl⟩ := rx
  obtain ⟨t', rfl⟩ := ry
  exact SB.mul hok fun t2 k => ⟨.str _, H, I.tok k, ⟨_, rfl⟩, q⟩
end
theorem mulOk_one (ch : Nat) {j : Nat} (h : j < 19) : MulOk (⟨#[ch]⟩ : Str) (j : Int) := by
  have all : ∀ j : Fin 19, ((decide (((j.val : Nat) : Int) < -(2 ^ 63 : Int)) || decide (((j.val : Nat) : Int) ≥ 2 ^ 63)) = false) ∧ (j.val = 0 ∨ ¬ (((1 : Nat) : Int) > (2 ^ 63 - 1) / ((j.val : Nat) : Int))) ∧ Builtin.Str.tooLong (1 * ((j.val : Nat) : Int).toNat) = false := by decide +kernel
  obtain ⟨a, b, c⟩ := all ⟨j, h⟩
  refine ⟨a, fun h1 _ => ?_, fun _ _ => c⟩
  rcases b with b | b
  · have b' : j = 0 := b
    omega
  · exact b
theorem fold_rep (a : Array Nat) : ∀ (k : Nat) (acc : Array Nat), ((List.replicate k a).foldl (· ++ ·) acc).size = acc.size + k * a.size ∧ ∀ c ∈ ((List.replicate k a).foldl (· ++ ·) acc).toList, c ∈ acc.toList ∨ c ∈ a.toList
  | 0, acc => ⟨by show acc.size = acc.size + 0 * a.size; omega, fun c h => .inl h⟩
  | k + 1, acc => by
    obtain ⟨h1, h2⟩ := fold_rep a k (acc ++ a)
    refine ⟨?_, fun c h => ?_⟩
    · show ((List.replicate k a).foldl (· ++ ·) (acc ++ a)).size = _
      rw [h1, Array.size_append, Nat.succ_mul]
      omega
    · have h' : c ∈ ((List.replicate k a).foldl (· ++ ·) (acc ++ a)).toList := h
      rcases h2 c h' with e | e
      · rw [Array.toList_append] at e
        exact List.mem_append.mp e
      · exact .inr e
theorem mul_facts {ch j : Nat} (hc : ch < 1114112) (h : j < 19) : Sg (Txt.mul (⟨#[ch]⟩ : Str) (j : Int)) ∧ (Txt.mul (⟨#[ch]⟩ : Str) (j : Int)).length ≤ 19 := by
  unfold Txt.mul
  split
  · exact ⟨fun c hc => by simp [Str.empty] at hc, Nat.zero_le _⟩
  · split
    · refine ⟨fun c h2 => ?_, (by show 1 ≤ 19; decide)⟩
      have e : c = ch := by simpa using h2
      rw [e]
      exact hc
    · have f := fold_rep #[ch] (j : Int).toNat #[]
      refine ⟨fun c h2 => ?_, ?_⟩
      · rcases f.2 c h2 with e | e
        · simp at e
        · have e : c = ch := by simpa using e
          rw [e]
          exact hc
      · show Array.size _ ≤ 19
        rw [f.1]
        show 0 + (j : Int).toNat * 1 ≤ 19
        omega
theorem sg_of {g z : Str} (h : hasOnly z g = true) (hg : (g.cps.toList.all fun c => decide (c < 1114112)) = true) : Sg z := fun c hc => by
  unfold hasOnly at h
  have h1 := of_decide_eq_true (List.all_eq_true.mp h c hc)
  exact of_decide_eq_true (List.all_eq_true.mp hg c h1)
theorem name_facts {z : Str} (h : nameD (.str z) = true) : Sg z ∧ z.length ≤ 8 := by
  have e : nameD (.str z) = (decide (z.length ≠ 0) && (decide (z.length ≤ 8) && hasOnly z abc)) := rfl
  rw [e, Bool.and_eq_true, Bool.and_eq_true] at h
  exact ⟨sg_of h.2.2 (by decide +kernel), of_decide_eq_true h.2.1⟩
theorem text_facts {z : Str} (h : textD (.str z) = true) : Sg z ∧ z.length ≤ 16 := by
  have e : textD (.str z) = (decide (z.length ≤ 16) && hasOnly z abc9) := rfl
  rw [e, Bool.and_eq_true] at h
  exact ⟨sg_of h.2 (by decide +kernel), of_decide_eq_true h.1⟩
mutual
theorem AT.data : ∀ t : AT, t.ok → Vd (2 * t.cnt) t.doc.dat ∧ wt t.doc.dat ≤ 20 * t.cnt
  | .txt z, h => by
    obtain ⟨a, b⟩ := text_facts (show textD (.str z) = true from h)
    refine ⟨(vd_str a).mono (Nat.zero_le _), ?_⟩
    show 1 + z.length ≤ 20 * 1
    omega
  | .nod a k x ts, h => by
    obtain ⟨sx, lx⟩ := name_facts h.1
    obtain ⟨i1, i2⟩ := atAll_data ts h.2
    refine ⟨?_, ?_⟩
    · show Vd (2 * (1 + cntAll ts)) (.tuple [.str x, .tuple (datAll (docAll ts))])
      have e : 2 * (1 + cntAll ts) = 2 * cntAll ts + 1 + 1 := by omega
      rw [e]
      refine vd_tup fun y hy => ?_
      simp only [List.mem_cons, List.not_mem_nil, or_false] at hy
      rcases hy with hy | hy
      · rw [hy]
        exact (vd_str sx).mono (Nat.zero_le _)
      · rw [hy]
        exact vd_tup i1
    · show 1 + ((1 + x.length) + ((1 + wtAll (datAll (docAll ts))) + 0)) ≤ 20 * (1 + cntAll ts)
      omega
theorem atAll_data : ∀ ts : List AT, okAll ts → (∀ y ∈ datAll (docAll ts), Vd (2 * cntAll ts) y) ∧ wtAll (datAll (docAll ts)) ≤ 20 * cntAll ts
  | [], _ => ⟨fun y hy => by
      have hy' : y ∈ ([] : List PyData) := hy
      simp at hy', Nat.le_refl _⟩
  | t :: ts, h => by
    obtain ⟨a1, a2⟩ := AT.data t h.1
    obtain ⟨b1, b2⟩ := atAll_data ts h.2
    have ec : cntAll (t :: ts) = t.cnt + cntAll ts := rfl
    refine ⟨fun y hy => ?_, ?_⟩
    · have hy' : y ∈ t.doc.dat :: datAll (docAll ts) := hy
      rcases List.mem_cons.mp hy' with e | e
      · rw [e]
        exact a1.mono (by omega)
      · exact (b1 y e).mono (by omega)
    · show wt t.doc.dat + wtAll (datAll (docAll ts)) ≤ _
      omega
end
/-- data of the law's beginning -/
structure D0 (x : PyData) : Prop where
  vd : Vd 40 x
  wt : wt x ≤ 400
theorem D0.ok {x : PyData} (h : D0 x) : Ok x := ⟨h.vd.mono (by decide), by have := h.wt; omega⟩
theorem ok_bentD {m w : Nat} {x : PyData} (h : Bent m w x) (hm : m ≤ 57) (hw : w ≤ 9000) : Ok x := ⟨h.vd.mono (by omega), by have := h.wt; omega⟩
theorem d0_str {z : Str} (h : Sg z) (l : z.length ≤ 100) : D0 (.str z) := ⟨(vd_str h).mono (by decide), by show 1 + z.length ≤ 400; omega⟩
end K1

/-! the law -/
namespace K1
open PySem L2 Xr Exv Grd
abbrev sLaw : Stmt := top 43
theorem scLaw : FnScope ["script", "deal", "turn", "names", "many", "node", "forest", "value", "bend", "sign", "word", "at"] ["script"] (defScope sLaw) := ⟨rfl, rfl, rfl, by decide +kernel, rfl, by decide +kernel, by decide +kernel⟩
def spLaw (K : PySem.W.Frag) : Sp := fun vs H Q _ => ∃ (a : Addr) (ns : List Int), vs = [.ref a] ∧ SqL K H a (ns.map V.int) ∧ ns.length ≤ 63 ∧ ∀ H', Q (.bl true) H'
structure LawTxt (K : PySem.W.Frag) (mg : Str → Option Value) (a_law_source a_law_names a_law_any a_law_of a_law_text a_law_grown a_law_bent a_law_odd a_law_value_right a_law_word_right : Addr) : Prop where
  n_range : mg "range" = none
  n_len : mg "len" = none
  g_law_source : mg "_law_source" = some (.ref a_law_source)
  k_law_source : PySem.W.keepIn K (.ref a_law_source) = true
  g_law_names : mg "_law_names" = some (.ref a_law_names)
  k_law_names : PySem.W.keepIn K (.ref a_law_names) = true
  g_law_any : mg "_law_any" = some (.ref a_law_any)
  k_law_any : PySem.W.keepIn K (.ref a_law_any) = true
  g_law_of : mg "_law_of" = some (.ref a_law_of)
  k_law_of : PySem.W.keepIn K (.ref a_law_of) = true
  g_law_text : mg "_law_text" = some (.ref a_law_text)
  k_law_text : PySem.W.keepIn K (.ref a_law_text) = true
  g_law_grown : mg "_law_grown" = some (.ref a_law_grown)
  k_law_grown : PySem.W.keepIn K (.ref a_law_grown) = true
  g_law_bent : mg "_law_bent" = some (.ref a_law_bent)
  k_law_bent : PySem.W.keepIn K (.ref a_law_bent) = true
  g_law_odd : mg "_law_odd" = some (.ref a_law_odd)
  k_law_odd : PySem.W.keepIn K (.ref a_law_odd) = true
  g_law_value_right : mg "_law_value_right" = some (.ref a_law_value_right)
  k_law_value_right : PySem.W.keepIn K (.ref a_law_value_right) = true
  g_law_word_right : mg "_law_word_right" = some (.ref a_law_word_right)
  k_law_word_right : PySem.W.keepIn K (.ref a_law_word_right) = true
section
variable {P : Program} {w : World} {K : PySem.W.Frag} {mg : Str → Option Value} {base : Heap} {a_law_source a_law_names a_law_any a_law_of a_law_text a_law_grown a_law_bent a_law_odd a_law_value_right a_law_word_right : Addr} {fd_law_source fd_law_names fd_law_any fd_law_of fd_law_text fd_law_grown fd_law_bent fd_law_odd fd_law_value_right fd_law_word_right : FuncData}
theorem ok_law {f : Addr} {fd : FuncData} (F : Fun K "law" "law" sLaw f fd) (T : LawTxt K mg a_law_source a_law_names a_law_any a_law_of a_law_text a_law_grown a_law_bent a_law_odd a_law_value_right a_law_word_right)
    (G_law_source : FnOk P w K mg base CX0 1 a_law_source fd_law_source ["script"] (spSource K)) (b_law_source : Binds K fd_law_source ["script"] [])
    (G_law_names : FnOk P w K mg base CX0 3 a_law_names fd_law_names ["deal", "many"] (spNames)) (b_law_names : Binds K fd_law_names ["deal", "many"] [])
    (G_law_any : FnOk P w K mg base CX0 1 a_law_any fd_law_any ["deal", "bound"] (spAny)) (b_law_any : Binds K fd_law_any ["deal", "bound"] [])
    (G_law_of : FnOk P w K mg base CX0 2 a_law_of fd_law_of ["deal", "some"] (spOf)) (b_law_of : Binds K fd_law_of ["deal", "some"] [])
    (G_law_text : FnOk P w K mg base CX0 3 a_law_text fd_law_text ["deal"] (spLText)) (b_law_text : Binds K fd_law_text ["deal"] [])
    (G_law_grown : FnOk P w K mg base CX0 (4 + 20) a_law_grown fd_law_grown ["deal", "names", "many", "deep"] (spGrown K 20)) (b_law_grown : Binds K fd_law_grown ["deal", "names", "many", "deep"] [])
    (G_law_bent : FnOk P w K mg base CX0 (4 + 50) a_law_bent fd_law_bent ["deal", "value"] (spBent K 50)) (b_law_bent : Binds K fd_law_bent ["deal", "value"] [])
    (G_law_odd : FnOk P w K mg base CX0 3 a_law_odd fd_law_odd ["deal"] (spOdd K)) (b_law_odd : Binds K fd_law_odd ["deal"] [])
    (G_law_value_right : FnG P w K mg base CX0 128 a_law_value_right fd_law_value_right ["deal", "value"] (spVR K)) (b_law_value_right : Binds K fd_law_value_right ["deal", "value"] [])
    (G_law_word_right : FnG P w K mg base CX0 3 a_law_word_right fd_law_word_right ["value"] (spWR K)) (b_law_word_right : Binds K fd_law_word_right ["value"] []) :
    FnG P w K mg base CX0 129 f fd ["script"] (spLaw K) := by
  refine fng_of F scLaw (fun vs H Q E h => ?_) (fun cdv A outer s H vs Q E gd hr h => ?_)
  · obtain ⟨a, ns, rfl, _⟩ := h
    rfl
  · obtain ⟨a, ns, rfl, hS, l, k⟩ := h
    have hr_law_source : Room 1 _ := hr.mono (by decide)
    have hr_law_names : Room 3 _ := hr.mono (by decide)
    have hr_law_any : Room 1 _ := hr.mono (by decide)
    have hr_law_of : Room 2 _ := hr.mono (by decide)
    have hr_law_text : Room 3 _ := hr.mono (by decide)
    have hr_law_grown : Room (4 + 20) _ := hr.mono (by decide)
    have hr_law_bent : Room (4 + 50) _ := hr.mono (by decide)
    have hr_law_odd : Room 3 _ := hr.mono (by decide)
    have hr_law_value_right : Room 128 _ := hr.mono (by decide)
    have hr_law_word_right : Room 3 _ := hr.mono (by decide)
    refine ⟨_, PSs.nox ((pss_cons (ps_set (i := 1) scLaw.nd rfl (Or.inl rfl) (pe_call G_law_source hr_law_source rfl T.g_law_source T.k_law_source b_law_source .nil pass0 (pa_cons (pv 0) pa_nil)))
      (pss_cons (ps_for PassesOwn.never rfl (pi_range1 (by rfl) T.n_range (pa_cons pe_int pa_nil)) (pg_name (i := 2) scLaw.nd rfl (Or.inl rfl))
      (pss_cons (ps_par (i := 3) (j := 4) (by rfl) scLaw.nd rfl rfl (by decide) rfl rfl (pa_cons (pe_call G_law_names hr_law_names rfl T.g_law_names T.k_law_names b_law_names .nil pass0 (pa_cons (pv 1) (pa_cons (pe_op op_add pe_int (pe_call G_law_any hr_law_any rfl T.g_law_any T.k_law_any b_law_any .nil pass0 (pa_cons (pv 1) (pa_cons pe_int pa_nil)))) pa_nil))) (pa_cons (pe_op op_add pe_int (pe_call G_law_of hr_law_of rfl T.g_law_of T.k_law_of b_law_of .nil pass0 (pa_cons (pv 1) (pa_cons (pe_lst (pa_cons (pe_call G_law_any hr_law_any rfl T.g_law_any T.k_law_any b_law_any .nil pass0 (pa_cons (pv 1) (pa_cons pe_int pa_nil))) (pa_cons (pe_call G_law_any hr_law_any rfl T.g_law_any T.k_law_any b_law_any .nil pass0 (pa_cons (pv 1) (pa_cons pe_int pa_nil))) (pa_cons (pe_call G_law_any hr_law_any rfl T.g_law_any T.k_law_any b_law_any .nil pass0 (pa_cons (pv 1) (pa_cons pe_int pa_nil))) pa_nil)))) pa_nil)))) pa_nil)) (by rfl))
      (pss_cons (ps_set (i := 5) scLaw.nd rfl (Or.inl rfl) (pe_call G_law_grown hr_law_grown rfl T.g_law_grown T.k_law_grown b_law_grown .nil pass0 (pa_cons (pv 1) (pa_cons (pv 3) (pa_cons (pv 4) (pa_cons (pe_call G_law_of hr_law_of rfl T.g_law_of T.k_law_of b_law_of .nil pass0 (pa_cons (pv 1) (pa_cons (pe_lst (pa_cons pe_int (pa_cons pe_int (pa_cons pe_int pa_nil)))) pa_nil))) pa_nil))))))
      (pss_cons (ps_set (i := 6) scLaw.nd rfl (Or.inl rfl) (pe_call G_law_of hr_law_of rfl T.g_law_of T.k_law_of b_law_of .nil pass0 (pa_cons (pv 1) (pa_cons (pe_lst (pa_cons (pe_tup (pa_cons (pv 5) pa_nil)) (pa_cons (pe_ix ix_tup (pv 5) pe_int (fun _ _ => rfl)) (pa_cons (pe_op op_catD (pe_ix ix_tup (pv 5) pe_int (fun _ _ => rfl)) (pe_tup (pa_cons (pe_call G_law_text hr_law_text rfl T.g_law_text T.k_law_text b_law_text .nil pass0 (pa_cons (pv 1) pa_nil)) pa_nil))) (pa_cons (pe_tup pa_nil) pa_nil))))) pa_nil))))
      (pss_cons (ps_set (i := 7) scLaw.nd rfl (Or.inl rfl) (pe_call G_law_of hr_law_of rfl T.g_law_of T.k_law_of b_law_of .nil pass0 (pa_cons (pv 1) (pa_cons (pe_lst (pa_cons (pv 5) (pa_cons (pv 6) (pa_cons (pe_call G_law_text hr_law_text rfl T.g_law_text T.k_law_text b_law_text .nil pass0 (pa_cons (pv 1) pa_nil)) pa_nil)))) pa_nil))))
      (pss_cons (ps_for PassesOwn.never rfl (pi_range1 (by rfl) T.n_range (pa_cons (pe_call G_law_of hr_law_of rfl T.g_law_of T.k_law_of b_law_of .nil pass0 (pa_cons (pv 1) (pa_cons (pe_lst (pa_cons pe_int (pa_cons pe_int (pa_cons pe_int (pa_cons pe_int pa_nil))))) pa_nil))) pa_nil)) (pg_name (i := 8) scLaw.nd rfl (Or.inl rfl))
      (pss_one (ps_set (i := 7) scLaw.nd rfl (Or.inl rfl) (pe_call G_law_bent hr_law_bent rfl T.g_law_bent T.k_law_bent b_law_bent .nil pass0 (pa_cons (pv 1) (pa_cons (pv 7) pa_nil))))))
      (pss_cons (ps_if (PW.pt (pw_or (pt_not (pt_val (pe_callG G_law_value_right gd hr_law_value_right rfl T.g_law_value_right T.k_law_value_right b_law_value_right pass0 (pa_cons (pv 1) (pa_cons (pv 7) pa_nil))))) (pw_or (pt_not (pt_val (pe_callG G_law_value_right gd hr_law_value_right rfl T.g_law_value_right T.k_law_value_right b_law_value_right pass0 (pa_cons (pv 1) (pa_cons (pv 6) pa_nil))))) (pw_or1 (pt_not (pt_val (pe_callG G_law_value_right gd hr_law_value_right rfl T.g_law_value_right T.k_law_value_right b_law_value_right pass0 (pa_cons (pv 1) (pa_cons (pv 5) pa_nil)))))))))
      (pss_one (ps_ret pe_bl))
      pss_nil)
      (pss_one (ps_if (PW.pt (pw_or (pt_not (pt_val (pe_callG G_law_word_right gd hr_law_word_right rfl T.g_law_word_right T.k_law_word_right b_law_word_right pass0 (pa_cons (pe_call G_law_odd hr_law_odd rfl T.g_law_odd T.k_law_odd b_law_odd .nil pass0 (pa_cons (pv 1) pa_nil)) pa_nil)))) (pw_or (pt_not (pt_val (pe_callG G_law_word_right gd hr_law_word_right rfl T.g_law_word_right T.k_law_word_right b_law_word_right pass0 (pa_cons (pe_call G_law_bent hr_law_bent rfl T.g_law_bent T.k_law_bent b_law_bent .nil pass0 (pa_cons (pv 1) (pa_cons (pe_call G_law_text hr_law_text rfl T.g_law_text T.k_law_text b_law_text .nil pass0 (pa_cons (pv 1) pa_nil)) pa_nil))) pa_nil)))) (pw_or1 (pt_not (pt_val (pe_callG G_law_word_right gd hr_law_word_right rfl T.g_law_word_right T.k_law_word_right b_law_word_right pass0 (pa_cons (pe_call G_law_of hr_law_of rfl T.g_law_of T.k_law_of b_law_of .nil pass0 (pa_cons (pv 1) (pa_cons (pv 3) pa_nil))) pa_nil))))))))
      (pss_one (ps_ret pe_bl))
      pss_nil)))))))))
      (pss_cons (ps_set (i := 9) scLaw.nd rfl (Or.inl rfl) (pe_call G_law_of hr_law_of rfl T.g_law_of T.k_law_of b_law_of .nil pass0 (pa_cons (pv 1) (pa_cons pe_str pa_nil))))
      (pss_cons (ps_set (i := 10) scLaw.nd rfl (Or.inl rfl) (pe_slice sl_str pe_str (po_some (pe_call G_law_any hr_law_any rfl T.g_law_any T.k_law_any b_law_any .nil pass0 (pa_cons (pv 1) (pa_cons pe_int pa_nil)))) (po_some (pe_op op_add pe_int (pe_call G_law_any hr_law_any rfl T.g_law_any T.k_law_any b_law_any .nil pass0 (pa_cons (pv 1) (pa_cons pe_int pa_nil)))))))
      (pss_cons (ps_set (i := 11) scLaw.nd rfl (Or.inl rfl) (pe_call G_law_any hr_law_any rfl T.g_law_any T.k_law_any b_law_any .nil pass0 (pa_cons (pv 1) (pa_cons (pe_op op_add (pe_callB call_len_str (by rfl) T.n_len PySem.boot_len (pa_cons (pv 10) pa_nil)) pe_int) pa_nil))))
      (pss_one (ps_ret (pe_and (pe_callG G_law_word_right gd hr_law_word_right rfl T.g_law_word_right T.k_law_word_right b_law_word_right pass0 (pa_cons (pe_op op_add_str (pe_op op_add_str (pe_slice sl_str (pv 10) po_none (po_some (pv 11))) (pv 9)) (pe_slice sl_str (pv 10) (po_some (pv 11)) po_none)) pa_nil)) (pe_and (pe_callG G_law_word_right gd hr_law_word_right rfl T.g_law_word_right T.k_law_word_right b_law_word_right pass0 (pa_cons (pe_op op_mulS (pv 9) (pe_call G_law_any hr_law_any rfl T.g_law_any T.k_law_any b_law_any .nil pass0 (pa_cons (pv 1) (pa_cons pe_int pa_nil)))) pa_nil)) (pe_one (pe_callG G_law_word_right gd hr_law_word_right rfl T.g_law_word_right T.k_law_word_right b_law_word_right pass0 (pa_cons (pv 5) pa_nil))))))))))))), ?_⟩
    refine ⟨_, rfl, a, ns, rfl, hS, l, fun d c H1 D1 s1 _ _ => ⟨3, rfl, by decide, by decide, ?_⟩⟩
    refine for_range (lo := 0) (n := 3) (fun i σ H2 => ∃ (x2 x3 x4 x5 x6 x7 x8 : Option V), σ = [some (.ref a), some (.ref d), x2, x3, x4, x5, x6, x7, x8, none, none, none] ∧ DealAt H2 d c ∧ (0 < i → ∃ v x, x5 = some v ∧ Dm K (N0 d c) H2 v x ∧ D0 x)) ⟨none, none, none, none, none, none, none, rfl, D1, fun z => absurd z (by decide)⟩ ?_ ?_
    · rintro i σ H2 _ ⟨x2, x3, x4, x5, x6, x7, x8, rfl, D2, _⟩
      have l3 : 3 ≤ sizeLine := by decide
      have l4 : 4 ≤ sizeLine := by decide
      have l1 : 1 ≤ sizeLine := by decide
      -- names, many
      refine ⟨_, rfl, _, rfl, d, c, 3, rfl, D2, by decide, by decide, fun r1 H3 r10 r11 D3 b3 => ?_⟩
      obtain ⟨j1, rfl⟩ := Int.eq_ofNat_of_zero_le r10
      refine ⟨_, _, rfl, rfl, d, c, 1 + j1, rfl, D3, by omega, by omega, fun nm nms H4 hnm hnm0 lnm onm D4 b4 => ?_⟩
      obtain ⟨nd, nc⟩ := D3.ne hnm0
      refine ⟨_, rfl, _, rfl, d, c, 4, rfl, D4, by decide, by decide, fun q1 H5 q10 q11 D5 b5 => ⟨_, rfl, d, c, 10, rfl, D5, by decide, by decide, fun q2 H6 q20 q21 D6 b6 => ⟨_, rfl, d, c, 18, rfl, D6, by decide, by decide, fun q3 H7 q30 q31 D7 b7 => ⟨l3, fun L hL => ?_⟩⟩⟩⟩
      have m7 : Mv d c H4 H7 := ⟨D7, (b5.trans b6).trans b7⟩
      have m7' := m7.new (o := .lst [.int q1, .int q2, .int q3]) hL
      obtain ⟨Ld, Lc⟩ := D7.ne hL
      refine ⟨d, c, m7'.D, .inl ⟨L, _, rfl, upd_same, Ld, Lc, (by show 0 < 3; decide), (by show 3 < 1000000; decide), fun v H8 hv D8 b8 => ?_⟩⟩
      obtain ⟨j2, rfl, lj2⟩ : ∃ j2 : Nat, v = .int (j2 : Int) ∧ j2 < 18 := by
        have mk : ∀ q : Int, 0 ≤ q → q < 18 → ∃ j2 : Nat, V.int q = .int (j2 : Int) ∧ j2 < 18 := fun q a b => by
          obtain ⟨j, rfl⟩ := Int.eq_ofNat_of_zero_le a
          exact ⟨j, rfl, by omega⟩
        simp only [List.mem_cons, List.not_mem_nil, or_false] at hv
        rcases hv with e | e | e <;> rw [e]
        · exact mk q1 q10 (by omega)
        · exact mk q2 q20 (by omega)
        · exact mk q3 q30 q31
      have m8 := m7'.trans ⟨D8, b8⟩
      have hnm8 := m8.b nm _ hnm nd nc
      clear b3 b4 b5 b6 b7 b8 m7 m7' hnm D5 D6 D7
      refine ⟨_, _, rfl, rfl, ?_⟩
      refine ⟨_, _, rfl, ?_⟩
      -- node
      refine ⟨_, rfl, _, rfl, _, rfl, _, rfl, l3, fun L2 hL2 => ?_⟩
      obtain ⟨L2d, L2c⟩ := D8.ne hL2
      have m9 := (Mv.refl D8).new (o := .lst [.int 2, .int 4, .int 20]) hL2
      refine ⟨d, c, m9.D, .inl ⟨L2, _, rfl, upd_same, L2d, L2c, (by show 0 < 3; decide), (by show 3 < 1000000; decide), fun v H10 hv D10 b10 => ?_⟩⟩
      obtain ⟨deep, rfl⟩ : ∃ deep : Int, v = .int deep := by
        simp only [List.mem_cons, List.not_mem_nil, or_false] at hv
        rcases hv with e | e | e
        · exact ⟨_, e⟩
        · exact ⟨_, e⟩
        · exact ⟨_, e⟩
      have m10 := m9.trans ⟨D10, b10⟩
      have hnm10 := m10.b nm _ hnm8 nd nc
      refine ⟨d, c, nm, nms, 1 + j2, deep, rfl, D10, hnm10, nd, nc, onm, by omega, by omega, by omega, by omega, by omega, fun nv na nk nx nts H11 okn cntn dmn D11 b11 => ?_⟩
      have m11 : Mv d c H10 H11 := ⟨D11, b11⟩
      have hnm11 := m11.b nm _ hnm10 nd nc
      have cn : (AT.nod na nk nx nts).cnt ≤ 18 := by omega
      obtain ⟨vn, wn⟩ := AT.data _ okn
      have dn : Dm K (N0 d c) H11 nv (AT.nod na nk nx nts).doc.dat := Dm.mono (fun a _ z => by
        rcases z with e | e
        · rw [e]
          exact D10.trk.1
        · rw [e]
          exact D10.trk.2) Bt.refl _ _ dmn
      have en : (AT.nod na nk nx nts).doc.dat = .tuple [.str nx, .tuple (datAll (docAll nts))] := rfl
      rw [en] at dn vn wn
      generalize datAll (docAll nts) = ds at dn vn wn
      clear dmn en b11 b10 m9
      have d0n : D0 (.tuple [.str nx, .tuple ds]) := ⟨vn.mono (by omega), by omega⟩
      have vds : Vd 38 (.tuple ds) := by
        have h1 := vn.tup
        exact (h1.2 (.tuple ds) (by simp)).mono (by omega)
      have wds : wt (.tuple ds) ≤ 380 := by
        have e1 : wt (.tuple [.str nx, .tuple ds]) = 1 + ((1 + nx.length) + (wt (.tuple ds) + 0)) := rfl
        omega
      have ewd : wt (.tuple ds) = 1 + wtAll ds := rfl
      obtain ⟨na1, nxs, rfl, tn, an⟩ := dn.seq
      obtain ⟨y0, y1, rfl, dy0, dy1⟩ : ∃ y0 y1, nxs = [y0, y1] ∧ Dm K (N0 d c) H11 y0 (.str nx) ∧ Dm K (N0 d c) H11 y1 (.tuple ds) := by
        cases an with
        | cons u1 r =>
          cases r with
          | cons u2 r =>
            cases r
            exact ⟨_, _, rfl, u1, u2⟩
      clear an
      -- forest
      refine ⟨_, rfl, _, rfl, l1, fun p1 hp1 => ?_⟩
      have mf1 := (Mv.refl D11).new (o := .tup [.ref na1]) hp1
      have df1 : Dm K (N0 d c) (upd H11 p1 (.tup [.ref na1])) (.ref p1) (.tuple [.tuple [.str nx, .tuple ds]]) := .tup upd_same (not_new (Mv.refl D11).trk (Same.refl H11) hp1) (.cons (dn.mv mf1) .nil)
      have tn1 : ∀ H', Mv d c H11 H' → SqT K H' na1 [y0, y1] := fun H' m => (tn.up m.b.bt).sq
      generalize upd H11 p1 (.tup [.ref na1]) = H12 at mf1 df1 ⊢
      refine ⟨_, rfl, _, _, _, _, rfl, rfl, tn1 _ mf1, atI_nat (j := 1) rfl, _, rfl, _, _, _, _, rfl, rfl, tn1 _ mf1, atI_nat (j := 1) rfl, _, rfl, d, c, rfl, mf1.D, fun z H13 hz D13 b13 => ⟨l1, fun p2 hp2 => ?_⟩⟩
      obtain ⟨sz, lz⟩ := text_facts hz
      have mt := (Mv.refl D13).new (o := .tup [.str z]) hp2
      have mf2 : Mv d c H12 (upd H13 p2 (.tup [.str z])) := Mv.trans ⟨D13, b13⟩ mt
      have dt : Dm K (N0 d c) (upd H13 p2 (.tup [.str z])) (.ref p2) (.tuple [.str z]) := .tup upd_same (not_new (Mv.refl D13).trk (Same.refl H13) hp2) (.cons (.str z) .nil)
      generalize upd H13 p2 (.tup [.str z]) = H14 at mf2 dt ⊢
      have m12 := mf1.trans mf2
      have lds := wtAll_len ds
      refine ⟨N0 d c, ds, [.str z], dy1.mv m12, dt, m12.trk, (by rw [sizeLine_eq]; show _ + 1 ≤ _; omega), fun u3 H15 du3 s15 => ⟨Nat.zero_le _, fun p4 hp4 => ?_⟩⟩
      have m15 := (Mv.refl mf2.D).same s15
      have m16 := m15.new (o := .tup []) hp4
      have d4 : Dm K (N0 d c) (upd H15 p4 (.tup [])) (.ref p4) (.tuple []) := .tup upd_same (not_new m15.trk (Same.refl H15) hp4) .nil
      have du4 := du3.up (Bt.refl.new (o := .tup []) hp4)
      generalize upd H15 p4 (.tup []) = H16 at m16 d4 du4 ⊢
      refine ⟨l4, fun L3 hL3 => ?_⟩
      have m17 := m16.new (o := .lst [.ref p1, y1, u3, .ref p4]) hL3
      have up1 : Bt (N0 d c) H16 (upd H16 L3 (.lst [.ref p1, y1, u3, .ref p4])) := Bt.refl.new hL3
      have m11_16 := m12.trans m16
      have dL : Dm K (N0 d c) (upd H16 L3 (.lst [.ref p1, y1, u3, .ref p4])) (.ref L3) (.list [.tuple [.tuple [.str nx, .tuple ds]], .tuple ds, .tuple (ds ++ [.str z]), .tuple []]) :=
        .lst upd_same (not_new m16.trk (Same.refl H16) hL3) (.cons (((df1.mv mf2).mv m16).up up1) (.cons ((dy1.mv m11_16).up up1) (.cons (du4.up up1) (.cons (d4.up up1) .nil))))
      have m11_17 := m12.trans m17
      generalize upd H16 L3 (.lst [.ref p1, y1, u3, .ref p4]) = H17 at m17 dL m11_17 ⊢
      refine of_data (E := E0) m17.D dL (by show 0 < 4; decide) (by show 4 < 1000000; decide) fun fv fx H18 hf df mf => ?_
      have d0f : D0 fx := by
        simp only [List.mem_cons, List.not_mem_nil, or_false] at hf
        have pv := vds.tup
        rcases hf with e | e | e | e <;> subst e
        · refine ⟨(vd_tup (m := 39) fun y hy => ?_).mono (by decide), ?_⟩
          · rw [List.mem_singleton] at hy
            rw [hy]
            exact vn.mono (by omega)
          · show 1 + (wt (.tuple [.str nx, .tuple ds]) + 0) ≤ 400
            omega
        · exact ⟨vds.mono (by decide), by omega⟩
        · refine ⟨(vd_tup (m := 38) fun y hy => ?_).mono (by decide), ?_⟩
          · rcases List.mem_append.mp hy with hy | hy
            · exact (pv.2 y hy).mono (by decide)
            · rw [List.mem_singleton] at hy
              rw [hy]
              exact (vd_str sz).mono (Nat.zero_le _)
          · show 1 + wtAll (ds ++ [.str z]) ≤ 400
            rw [wtAll_app]
            have e1 : wtAll [.str z] = 1 + z.length + 0 := rfl
            omega
        · exact ⟨(vd_tup (m := 0) fun y hy => by simp at hy).mono (by decide), by show 1 + 0 ≤ 400; decide⟩
      have m18 := m11_17.trans mf
      have dn18 := dn.mv m18
      have hnm18 := m18.b nm _ hnm11 nd nc
      clear mf1 df1 mf2 dt du3 d4 du4 m15 m16 m17 dL up1 m11_16 m12 mt mf m11_17 s15 b13 tn1 dy0 dy1 tn dn hnm11 hnm10 hnm8
      -- value
      refine ⟨_, rfl, _, rfl, _, rfl, _, rfl, d, c, rfl, m18.D, fun z2 H19 hz2 D19 b19 => ⟨l3, fun L5 hL5 => ?_⟩⟩
      obtain ⟨sz2, lz2⟩ := text_facts hz2
      have m19 : Mv d c H18 H19 := ⟨D19, b19⟩
      have m20 := m19.new (o := .lst [.ref na1, fv, .str z2]) hL5
      have dV : Dm K (N0 d c) (upd H19 L5 (.lst [.ref na1, fv, .str z2])) (.ref L5) (.list [.tuple [.str nx, .tuple ds], fx, .str z2]) :=
        .lst upd_same (not_new m19.trk (Same.refl H19) hL5) (.cons (dn18.mv m20) (.cons (df.mv m20) (.cons (.str z2) .nil)))
      generalize upd H19 L5 (.lst [.ref na1, fv, .str z2]) = H20 at m20 dV ⊢
      refine of_data (E := E0) m20.D dV (by show 0 < 3; decide) (by show 3 < 1000000; decide) fun vv vx H21 hv2 dv2 mv2 => ?_
      have d0v : D0 vx := by
        simp only [List.mem_cons, List.not_mem_nil, or_false] at hv2
        rcases hv2 with e | e | e <;> subst e
        · exact d0n
        · exact d0f
        · exact d0_str sz2 (by omega)
      have m21 := m20.trans mv2
      have dn21 := dn18.mv m21
      have df21 := df.mv m21
      have hnm21 := m21.b nm _ hnm18 nd nc
      have D21 := m21.D
      clear m18 m19 m20 mv2 dV dn18 df hnm18 b19 D19 D11 D10
      -- bends
      refine ⟨_, rfl, l4, fun L6 hL6 => ?_⟩
      obtain ⟨L6d, L6c⟩ := D21.ne hL6
      have m22 := (Mv.refl D21).new (o := .lst [.int 0, .int 1, .int 1, .int 2]) hL6
      refine ⟨d, c, m22.D, .inl ⟨L6, _, rfl, upd_same, L6d, L6c, (by show 0 < 4; decide), (by show 4 < 1000000; decide), fun bv H23 hb D23 b23 => ?_⟩⟩
      obtain ⟨nb, rfl, lnb⟩ : ∃ nb : Nat, bv = .int (nb : Int) ∧ nb ≤ 2 := by
        simp only [List.mem_cons, List.not_mem_nil, or_false] at hb
        rcases hb with e | e | e | e
        · exact ⟨0, e, by decide⟩
        · exact ⟨1, e, by decide⟩
        · exact ⟨1, e, by decide⟩
        · exact ⟨2, e, by decide⟩
      have m23 := m22.trans ⟨D23, b23⟩
      refine ⟨_, rfl, by omega, by omega, ?_⟩
      refine for_range (lo := 0) (n := (nb : Int).toNat) (fun ix σ H => ∃ (x8 : Option V) (u : V) (x : PyData), σ = [some (.ref a), some (.ref d), some (.int (0 + (i : Int))), some (.ref nm), some (.int (1 + (j2 : Int))), some (.ref na1), some fv, some u, x8, none, none, none] ∧ Mv d c H21 H ∧ Dm K (N0 d c) H u x ∧ Vd (40 + 3 * ix) x ∧ wt x + 60 ≤ 460 * 2 ^ ix)
        ⟨_, vv, vx, rfl, m23, dv2.mv m23, d0v.vd, by have := d0v.wt; show _ ≤ 460 * 1; omega⟩ ?_ ?_
      · rintro ib σ H24 hib ⟨x8, u, x, rfl, m24, du, vu, wu⟩
        have lib : ib = 0 ∨ ib = 1 := by omega
        have ws : wt x ≤ 860 := by
          rcases lib with e | e <;> subst e <;> omega
        refine ⟨_, rfl, _, rfl, d, c, u, x, 40 + 3 * ib, rfl, m24.D, du, vu, by omega, by omega, by have := vu.dep; omega, fun u2 y2 H25 du2 by2 mv => ?_⟩
        refine ⟨_, u2, y2, rfl, m24.trans mv, du2, by2.vd.mono (by omega), ?_⟩
        have w2 := by2.wt
        rcases lib with e | e <;> subst e
        · show _ ≤ 460 * 2
          omega
        · show _ ≤ 460 * 4
          omega
      · rintro σ H24 ⟨x8, u, x, rfl, m24, du, vu, wu⟩
        have enb : ((nb : Int).toNat) = nb := by omega
        rw [enb] at vu wu
        have oku : Ok x := ⟨vu.mono (by omega), by
          have : nb = 0 ∨ nb = 1 ∨ nb = 2 := by omega
          rcases this with e | e | e <;> subst e <;> omega⟩
        have t24 := m24.trk
        refine ⟨_, rfl, _, rfl, .ref d, u, x, N0 d c, rfl, du, oku, t24, fun H25 s25 => ⟨_, rfl, iteF ?_⟩⟩
        have m25 := m24.same s25
        refine ⟨_, rfl, _, rfl, .ref d, fv, fx, N0 d c, rfl, df21.mv m25, d0f.ok, m25.trk, fun H26 s26 => ⟨_, rfl, iteF ?_⟩⟩
        have m26 := m25.same s26
        refine ⟨_, rfl, _, rfl, .ref d, .ref na1, _, N0 d c, rfl, dn21.mv m26, d0n.ok, m26.trk, fun H27 s27 => ⟨_, rfl, iteF ?_⟩⟩
        have m27 := m26.same s27
        -- words
        refine ⟨_, rfl, d, c, rfl, m27.D, fun ov ox H28 dox oox mo => ?_⟩
        have m28 := m27.trans mo
        refine ⟨ov, ox, N0 d c, rfl, dox, ⟨oox.vd.mono (by decide), by have := oox.wt; omega⟩, m28.trk, fun H29 s29 => ⟨_, rfl, iteF ?_⟩⟩
        have m29 := m28.same s29
        refine ⟨_, rfl, _, rfl, d, c, rfl, m29.D, fun z3 H30 hz3 D30 b30 => ?_⟩
        have m30 := m29.trans ⟨D30, b30⟩
        obtain ⟨sz3, lz3⟩ := text_facts hz3
        have ew3 : wt (.str z3) = 1 + z3.length := rfl
        refine ⟨d, c, .str z3, .str z3, 0, rfl, D30, .str z3, vd_str sz3, by decide, by omega, by have := (vd_str sz3).dep; omega, fun u4 y4 H31 du4 by4 m4 => ?_⟩
        have m31 := m30.trans m4
        refine ⟨u4, y4, N0 d c, rfl, du4, ok_bentD by4 (by decide) (by omega), m31.trk, fun H32 s32 => ⟨_, rfl, iteF ?_⟩⟩
        have m32 := m31.same s32
        refine ⟨_, rfl, _, rfl, d, c, m32.D, .inl ⟨nm, _, rfl, m32.b nm _ hnm21 nd nc, nd, nc, by rw [List.length_map]; omega, by rw [List.length_map]; omega, fun wv H33 hw D33 b33 => ?_⟩⟩
        obtain ⟨wz, hwz, rfl⟩ := List.mem_map.mp hw
        obtain ⟨swz, lwz⟩ := name_facts (onm wz hwz)
        have m33 := m32.trans ⟨D33, b33⟩
        refine ⟨.str wz, .str wz, N0 d c, rfl, .str wz, (d0_str swz (by omega)).ok, m33.trk, fun H34 s34 => ⟨_, rfl, iteF ?_⟩⟩
        have m34 := m33.same s34
        exact ⟨_, _, _, _, _, _, _, rfl, m34.D, fun _ => ⟨_, _, rfl, dn21.mv m34, d0n⟩⟩
    · rintro σ H2 ⟨x2, x3, x4, x5, x6, x7, x8, rfl, D2, h5⟩
      obtain ⟨nv, nx, rfl, hn, on⟩ := h5 (by decide)
      have m0 := Mv.refl D2
      refine ⟨_, rfl, d, c, D2, .inr ⟨_, rfl, by decide, by decide, fun ch H3 hc D3 b3 => ?_⟩⟩
      have m3 := m0.trans ⟨D3, b3⟩
      have hch : ch < 1114112 := by
        have all : ((Str.ofString "abcdefghijklmnopqrstuvwxyz0123456789 ABZ_-.(){}[]'\"/!~\n\t").cps.toList.all fun c => decide (c < 1114112)) = true := by decide +kernel
        exact of_decide_eq_true (List.all_eq_true.mp all ch hc)
      have sch : Sg (⟨#[ch]⟩ : Str) := fun c2 h2 => by
        have e : c2 = ch := by simpa using h2
        rw [e]
        exact hch
      refine ⟨_, rfl, d, c, 4, rfl, D3, by decide, by decide, fun r1 H4 r10 r11 D4 b4 => ⟨_, rfl, _, rfl, d, c, 4, rfl, D4, by decide, by decide, fun r2 H5 r20 r21 D5 b5 => ⟨_, _, rfl, rfl, _, rfl, _, rfl, by decide, ?_⟩⟩⟩
      obtain ⟨wsub, wlen⟩ := cutS_sub (Str.ofString "abcdefg") (some r1) (some (4 + r2))
      have wl7 : (Str.ofString "abcdefg").length = 7 := by decide +kernel
      have swd : Sg (cutS (Str.ofString "abcdefg") (some r1) (some (4 + r2))) := fun c hc => by
        have all : ((Str.ofString "abcdefg").cps.toList.all fun c => decide (c < 1114112)) = true := by decide +kernel
        exact of_decide_eq_true (List.all_eq_true.mp all c (wsub c hc))
      generalize cutS (Str.ofString "abcdefg") (some r1) (some (4 + r2)) = wd at wsub wlen swd ⊢
      have m5 := (m3.trans ⟨D4, b4⟩).trans ⟨D5, b5⟩
      refine ⟨_, rfl, _, rfl, _, rfl, (by rw [sizeLine_eq]; omega), _, _, rfl, rfl, d, c, _, rfl, D5, by omega, by omega, fun at0 H6 a0 a1 D6 b6 => ?_⟩
      have m6 := m5.trans ⟨D6, b6⟩
      obtain ⟨s1, l1⟩ := cutS_sub wd none (some at0)
      obtain ⟨s2, l2⟩ := cutS_sub wd (some at0) none
      have g1 : Sg (cutS wd none (some at0)) := fun c hc => swd c (s1 c hc)
      have g2 : Sg (cutS wd (some at0) none) := fun c hc => swd c (s2 c hc)
      have lch : (⟨#[ch]⟩ : Str).length = 1 := rfl
      refine ⟨_, rfl, _, rfl, _, rfl, wd, rfl, (by rw [sizeLine_eq]; omega), ?_⟩
      refine ⟨_, rfl, _, _, rfl, rfl, (by rw [sizeLine_eq, lch]; omega), ?_⟩
      refine ⟨_, rfl, _, rfl, _, rfl, wd, rfl, (by rw [sizeLine_eq]; omega), ?_⟩
      refine ⟨_, _, rfl, rfl, (by rw [sizeLine_eq, strLen_append, lch]; omega), ?_⟩
      have g3 := (g1.app sch).app g2
      have l3 : (cutS wd none (some at0) ++ (⟨#[ch]⟩ : Str) ++ cutS wd (some at0) none).length ≤ 100 := by
        rw [strLen_append, strLen_append, lch]
        omega
      refine ⟨_, _, N0 d c, rfl, .str _, (d0_str g3 l3).ok, m6.trk, fun H7 s7 => ⟨_, rfl, iteT ?_⟩⟩
      have m7 := m6.same s7
      refine ⟨_, rfl, _, rfl, d, c, 19, rfl, m7.D, by decide, by decide, fun r3 H8 r30 r31 D8 b8 => ?_⟩
      have m8 := m7.trans ⟨D8, b8⟩
      obtain ⟨j3, rfl⟩ := Int.eq_ofNat_of_zero_le r30
      have lj3 : j3 < 19 := by omega
      obtain ⟨g4, l4⟩ := mul_facts hch lj3
      refine ⟨_, _, rfl, rfl, mulOk_one ch lj3, ?_⟩
      refine ⟨_, _, N0 d c, rfl, .str _, (d0_str g4 (by omega)).ok, m8.trk, fun H9 s9 => ⟨_, rfl, iteT ?_⟩⟩
      have m9 := m8.same s9
      exact ⟨_, rfl, nv, nx, N0 d c, rfl, hn.mv m9, on.ok, m9.trk, fun H10 s10 => k H10⟩
end
end K1

namespace K1
open PySem L2 Exv Grd Xr
/-! what the top leaves, as one answer each -/
def isB (K : PySem.W.Frag) (C : Addr) : Bool :=
  PySem.W.hasDictIn K C && (decide (PySem.W.findIn K (.ref C) "__getattribute__" = some (some (.builtin "BaseException.__getattribute__"))) && (decide (PySem.W.findIn K (.ref C) "__getattr__" = some none) &&
  (decide (PySem.W.subIn K (.ref C) (.type "BaseException") = some true) && (decide (PySem.W.findIn K (.ref C) "__class__" = some (some (.builtin "object.__class__"))) &&
  (decide (PySem.W.specialIn K (.builtin "object.__class__") "__get__" = some (some (.builtin "getset_descriptor.__get__"))) && (decide (PySem.W.takesIn K (.builtin "object.__class__") = some true) &&
  (decide (PySem.W.mroIn K C (.type "object") = some true) && decide (PySem.W.typeIn K (.ref C) = some (.type "type")))))))))
theorem isB_ok {K : PySem.W.Frag} {C : Addr} (h : isB K C = true) : IsT K C ∧ PySem.W.typeIn K (.ref C) = some (.type "type") := by
  unfold isB at h
  simp only [Bool.and_eq_true, decide_eq_true_eq] at h
  obtain ⟨h1, h2, h3, h4, h5, h6, h7, h8, h9⟩ := h
  exact ⟨⟨h1, h2, h3, h4, h5, h6, h7, h8⟩, h9⟩
def exB (K : PySem.W.Frag) (C fI : Addr) (f : Str) (bm : List Value) (newId : String) : Bool :=
  PySem.W.excInitIn K C bm newId && (PySem.W.excOver K C bm && (decide (PySem.W.findIn K (.ref C) "__init__" = some (some (.ref fI))) && (decide (PySem.W.typeIn K (.ref fI) = some (.type "function")) &&
  (decide (PySem.W.findIn K (.ref C) "__setattr__" = some (some (.builtin "object.__setattr__"))) && (decide (PySem.W.findIn K (.ref C) f = some none) && PySem.W.keepIn K (.ref C))))))
theorem exB_ok {K : PySem.W.Frag} {C fI : Addr} {f : Str} {bm : List Value} {newId : String} (h : exB K C fI f bm newId = true) (t : IsT K C) : ExT K C fI f bm newId := by
  unfold exB at h
  simp only [Bool.and_eq_true, decide_eq_true_eq] at h
  obtain ⟨h1, h2, h3, h4, h5, h6, h7⟩ := h
  exact ⟨h1, h2, h3, h4, h5, h6, t.hd, t.ga, t.gg, t.ex, h7⟩
theorem all_mk {P : Program} {w : World} {K : PySem.W.Frag} {h : Heap} {mg : Str → Option Value} {fa f0 f1 f2 f3 f4 f5 f6 f7 f8 f9 f10 f11 f12 f13 f14 f15 f16 f17 f18 f19 f20 f21 f22 f23 f24 f25 f26 f27 f28 f29 f30 f31 : Addr} {C cP cT fit fI : Addr} {t1 t2 t3 t4 : Tok} (X : K.In h) (G : h.Ns mainGlobals mg) (hfa : mg "law" = some (.ref fa))
    (a0 : PySem.W.nsIn K mainGlobals "_law_source" = some (some (.ref f0))) (h0 : ∃ fd, Fun K "_law_source" "_law_source" sSource f0 fd)
    (a1 : PySem.W.nsIn K mainGlobals "_law_any" = some (some (.ref f1))) (h1 : ∃ fd, Fun K "_law_any" "_law_any" sAny f1 fd)
    (a2 : PySem.W.nsIn K mainGlobals "_law_of" = some (some (.ref f2))) (h2 : ∃ fd, Fun K "_law_of" "_law_of" sOf f2 fd)
    (a3 : PySem.W.nsIn K mainGlobals "_law_names" = some (some (.ref f3))) (h3 : ∃ fd, Fun K "_law_names" "_law_names" sNames f3 fd)
    (a4 : PySem.W.nsIn K mainGlobals "_law_text" = some (some (.ref f4))) (h4 : ∃ fd, Fun K "_law_text" "_law_text" sLText f4 fd)
    (a5 : PySem.W.nsIn K mainGlobals "_law_frozen" = some (some (.ref f5))) (h5 : ∃ fd, Fun K "_law_frozen" "_law_frozen" sFrozen f5 fd)
    (a6 : PySem.W.nsIn K mainGlobals "_law_grown" = some (some (.ref f6))) (h6 : ∃ fd, Fun K "_law_grown" "_law_grown" sGrown f6 fd)
    (a7 : PySem.W.nsIn K mainGlobals "_law_signs" = some (some (.ref f7))) (h7 : ∃ fd, Fun K "_law_signs" "_law_signs" sSigns f7 fd)
    (a8 : PySem.W.nsIn K mainGlobals "_law_is_name" = some (some (.ref f8))) (h8 : ∃ fd, Fun K "_law_is_name" "_law_is_name" sLName f8 fd)
    (a9 : PySem.W.nsIn K mainGlobals "_law_is_text" = some (some (.ref f9))) (h9 : ∃ fd, Fun K "_law_is_text" "_law_is_text" sLTxt f9 fd)
    (a10 : PySem.W.nsIn K mainGlobals "_law_is_head" = some (some (.ref f10))) (h10 : ∃ fd, Fun K "_law_is_head" "_law_is_head" sHead f10 fd)
    (a11 : PySem.W.nsIn K mainGlobals "_law_flags" = some (some (.ref f11))) (h11 : ∃ fd, Fun K "_law_flags" "_law_flags" sFlags f11 fd)
    (a12 : PySem.W.nsIn K mainGlobals "_law_row_flags" = some (some (.ref f12))) (h12 : ∃ fd, Fun K "_law_row_flags" "_law_row_flags" sRow f12 fd)
    (a13 : PySem.W.nsIn K mainGlobals "_law_first" = some (some (.ref f13))) (h13 : ∃ fd, Fun K "_law_first" "_law_first" sFirst f13 fd)
    (a14 : PySem.W.nsIn K mainGlobals "_law_odd" = some (some (.ref f14))) (h14 : ∃ fd, Fun K "_law_odd" "_law_odd" sOdd f14 fd)
    (a15 : PySem.W.nsIn K mainGlobals "_law_bent" = some (some (.ref f15))) (h15 : ∃ fd, Fun K "_law_bent" "_law_bent" sBent f15 fd)
    (a16 : PySem.W.nsIn K mainGlobals "_law_said" = some (some (.ref f16))) (h16 : ∃ fd, Fun K "_law_said" "_law_said" sSaid f16 fd)
    (a17 : PySem.W.nsIn K mainGlobals "_law_due" = some (some (.ref f17))) (h17 : ∃ fd, Fun K "_law_due" "_law_due" sDue f17 fd)
    (a18 : PySem.W.nsIn K mainGlobals "_law_value_right" = some (some (.ref f18))) (h18 : ∃ fd, Fun K "_law_value_right" "_law_value_right" sValue f18 fd)
    (a19 : PySem.W.nsIn K mainGlobals "_law_word_right" = some (some (.ref f19))) (h19 : ∃ fd, Fun K "_law_word_right" "_law_word_right" sWordR f19 fd)
    (a20 : PySem.W.nsIn K mainGlobals "is_number" = some (some (.ref f20))) (h20 : ∃ fd, Fun K "is_number" "is_number" sNum f20 fd)
    (a21 : PySem.W.nsIn K mainGlobals "is_name" = some (some (.ref f21))) (h21 : ∃ fd, Fun K "is_name" "is_name" sName f21 fd)
    (a22 : PySem.W.nsIn K mainGlobals "is_text" = some (some (.ref f22))) (h22 : ∃ fd, Fun K "is_text" "is_text" sText f22 fd)
    (a23 : PySem.W.nsIn K mainGlobals "_has_only" = some (some (.ref f23))) (h23 : ∃ fd, Fun K "_has_only" "_has_only" sHas f23 fd)
    (a24 : PySem.W.nsIn K mainGlobals "need_node" = some (some (.ref f24))) (h24 : ∃ fd, Fun K "need_node" "need_node" sNode f24 fd)
    (a25 : PySem.W.nsIn K mainGlobals "need_thing" = some (some (.ref f25))) (h25 : ∃ fd, Fun K "need_thing" "need_thing" sThing f25 fd)
    (a26 : PySem.W.nsIn K mainGlobals "need_forest" = some (some (.ref f26))) (h26 : ∃ fd, Fun K "need_forest" "need_forest" sForest f26 fd)
    (a27 : PySem.W.nsIn K mainGlobals "_is_pair" = some (some (.ref f27))) (h27 : ∃ fd, Fun K "_is_pair" "_is_pair" sPair f27 fd)
    (a28 : PySem.W.nsIn K mainGlobals "_need_things" = some (some (.ref f28))) (h28 : ∃ fd, Fun K "_need_things" "_need_things" sThings f28 fd)
    (a29 : PySem.W.nsIn K mainGlobals "is_node" = some (some (.ref f29))) (h29 : ∃ fd, Fun K "is_node" "is_node" sIsNode f29 fd)
    (a30 : PySem.W.nsIn K mainGlobals "is_forest" = some (some (.ref f30))) (h30 : ∃ fd, Fun K "is_forest" "is_forest" sIsForest f30 fd)
    (a31 : PySem.W.nsIn K mainGlobals "law" = some (some (.ref f31))) (h31 : ∃ fd, Fun K "law" "law" sLaw f31 fd)
    (b_C : PySem.W.nsIn K mainGlobals "InvalidNode" = some (some (.ref C)))
    (j_C : PySem.W.findIn K (.ref C) "__init__" = some (some (.ref fI)))
    (g_C : ∃ fd, Fun K "__init__" "InvalidNode.__init__" sI0 fI fd)
    (e1_C : isB K C = true)
    (e2_C : exB K C fI "at" bmExc "Exception.__new__" = true)
    (y_C : PySem.W.exmOne K (.ref C) (.ref C) = some true)
    (b_cP : PySem.W.nsIn K mainGlobals "InvalidPlace" = some (some (.ref cP)))
    (b_cT : PySem.W.nsIn K mainGlobals "InvalidText" = some (some (.ref cT)))
    (b_fit : PySem.W.nsIn K mainGlobals "FitError" = some (some (.ref fit)))
    (y1 : PySem.W.kitOne K (.ref C) (.ref fit) = some true)
    (y2 : PySem.W.kitOne K (.ref C) (.ref cP) = some false)
    (y3 : PySem.W.kitOne K (.ref C) (.ref cT) = some false)
    (c2 : PySem.W.nsIn K mainGlobals "NAME_MOST" = some (some (.int 8 t1)))
    (c3 : PySem.W.nsIn K mainGlobals "TEXT_MOST" = some (some (.int 16 t2)))
    (c4 : PySem.W.nsIn K mainGlobals "NAME_SIGNS" = some (some (.str abc t3)))
    (c5 : PySem.W.nsIn K mainGlobals "TEXT_SIGNS" = some (some (.str abc9 t4)))
    (z_int : PySem.W.nsIn K mainGlobals "int" = some none)
    (z_abs : PySem.W.nsIn K mainGlobals "abs" = some none)
    (z_len : PySem.W.nsIn K mainGlobals "len" = some none)
    (z_sorted : PySem.W.nsIn K mainGlobals "sorted" = some none)
    (z_range : PySem.W.nsIn K mainGlobals "range" = some none)
    (z_isinstance : PySem.W.nsIn K mainGlobals "isinstance" = some none)
    (z_str : PySem.W.nsIn K mainGlobals "str" = some none)
    (z_tuple : PySem.W.nsIn K mainGlobals "tuple" = some none)
    (z_list : PySem.W.nsIn K mainGlobals "list" = some none)
    (z_all : PySem.W.nsIn K mainGlobals "all" = some none)
    (z_bool : PySem.W.nsIn K mainGlobals "bool" = some none)
    (z_repr : PySem.W.nsIn K mainGlobals "repr" = some none)
    :
    ∃ fd : FuncData, (∀ (s : Shared) (v : Value), BindsTo s fd ⟨[v], []⟩ [("script", v)]) ∧ ∀ base : Heap, K.In base → base.Ns mainGlobals mg → FnG P w K mg base CX0 129 fa fd ["script"] (spLaw K) := by
  have e := hfa.symm.trans (PySem.W.mg_of X G a31)
  cases e
  obtain ⟨d0, F0⟩ := h0
  obtain ⟨d1, F1⟩ := h1
  obtain ⟨d2, F2⟩ := h2
  obtain ⟨d3, F3⟩ := h3
  obtain ⟨d4, F4⟩ := h4
  obtain ⟨d5, F5⟩ := h5
  obtain ⟨d6, F6⟩ := h6
  obtain ⟨d7, F7⟩ := h7
  obtain ⟨d8, F8⟩ := h8
  obtain ⟨d9, F9⟩ := h9
  obtain ⟨d10, F10⟩ := h10
  obtain ⟨d11, F11⟩ := h11
  obtain ⟨d12, F12⟩ := h12
  obtain ⟨d13, F13⟩ := h13
  obtain ⟨d14, F14⟩ := h14
  obtain ⟨d15, F15⟩ := h15
  obtain ⟨d16, F16⟩ := h16
  obtain ⟨d17, F17⟩ := h17
  obtain ⟨d18, F18⟩ := h18
  obtain ⟨d19, F19⟩ := h19
  obtain ⟨d20, F20⟩ := h20
  obtain ⟨d21, F21⟩ := h21
  obtain ⟨d22, F22⟩ := h22
  obtain ⟨d23, F23⟩ := h23
  obtain ⟨d24, F24⟩ := h24
  obtain ⟨d25, F25⟩ := h25
  obtain ⟨d26, F26⟩ := h26
  obtain ⟨d27, F27⟩ := h27
  obtain ⟨d28, F28⟩ := h28
  obtain ⟨d29, F29⟩ := h29
  obtain ⟨d30, F30⟩ := h30
  obtain ⟨d31, F31⟩ := h31
  have v0 := F0.binds (ps := ["script"]) fun _ _ _ _ _ _ us hl => match us, hl with | [_], _ => rfl
  have v1 := F1.binds (ps := ["deal", "bound"]) fun _ _ _ _ _ _ us hl => match us, hl with | [_, _], _ => rfl
  have v2 := F2.binds (ps := ["deal", "some"]) fun _ _ _ _ _ _ us hl => match us, hl with | [_, _], _ => rfl
  have v3 := F3.binds (ps := ["deal", "many"]) fun _ _ _ _ _ _ us hl => match us, hl with | [_, _], _ => rfl
  have v4 := F4.binds (ps := ["deal"]) fun _ _ _ _ _ _ us hl => match us, hl with | [_], _ => rfl
  have v5 := F5.binds (ps := ["thing"]) fun _ _ _ _ _ _ us hl => match us, hl with | [_], _ => rfl
  have v6 := F6.binds (ps := ["deal", "names", "many", "deep"]) fun _ _ _ _ _ _ us hl => match us, hl with | [_, _, _, _], _ => rfl
  have v7 := F7.binds (ps := ["value", "signs", "least", "most"]) fun _ _ _ _ _ _ us hl => match us, hl with | [_, _, _, _], _ => rfl
  have v8 := F8.binds (ps := ["value"]) fun _ _ _ _ _ _ us hl => match us, hl with | [_], _ => rfl
  have v9 := F9.binds (ps := ["value"]) fun _ _ _ _ _ _ us hl => match us, hl with | [_], _ => rfl
  have v10 := F10.binds (ps := ["value"]) fun _ _ _ _ _ _ us hl => match us, hl with | [_], _ => rfl
  have v11 := F11.binds (ps := ["thing"]) fun _ _ _ _ _ _ us hl => match us, hl with | [_], _ => rfl
  have v12 := F12.binds (ps := ["things"]) fun _ _ _ _ _ _ us hl => match us, hl with | [_], _ => rfl
  have v13 := F13.binds (ps := ["flags"]) fun _ _ _ _ _ _ us hl => match us, hl with | [_], _ => rfl
  have v14 := F14.binds (ps := ["deal"]) fun _ _ _ _ _ _ us hl => match us, hl with | [_], _ => rfl
  have v15 := F15.binds (ps := ["deal", "value"]) fun _ _ _ _ _ _ us hl => match us, hl with | [_, _], _ => rfl
  have v16 := F16.binds (ps := ["number", "value", "named"]) fun _ _ _ _ _ _ us hl => match us, hl with | [_, _, _], _ => rfl
  have v17 := F17.binds (ps := ["number", "value"]) fun _ _ _ _ _ _ us hl => match us, hl with | [_, _], _ => rfl
  have v18 := F18.binds (ps := ["deal", "value"]) fun _ _ _ _ _ _ us hl => match us, hl with | [_, _], _ => rfl
  have v19 := F19.binds (ps := ["value"]) fun _ _ _ _ _ _ us hl => match us, hl with | [_], _ => rfl
  have v20 := F20.binds (ps := ["value"]) fun _ _ _ _ _ _ us hl => match us, hl with | [_], _ => rfl
  have v21 := F21.binds (ps := ["value"]) fun _ _ _ _ _ _ us hl => match us, hl with | [_], _ => rfl
  have v22 := F22.binds (ps := ["value"]) fun _ _ _ _ _ _ us hl => match us, hl with | [_], _ => rfl
  have v23 := F23.binds (ps := ["value", "signs"]) fun _ _ _ _ _ _ us hl => match us, hl with | [_, _], _ => rfl
  have v24 := F24.binds (ps := ["value"]) fun _ _ _ _ _ _ us hl => match us, hl with | [_], _ => rfl
  have v25 := F25.binds (ps := ["value"]) fun _ _ _ _ _ _ us hl => match us, hl with | [_], _ => rfl
  have v26 := F26.binds (ps := ["value"]) fun _ _ _ _ _ _ us hl => match us, hl with | [_], _ => rfl
  have v27 := F27.binds (ps := ["value"]) fun _ _ _ _ _ _ us hl => match us, hl with | [_], _ => rfl
  have v28 := F28.binds (ps := ["things"]) fun _ _ _ _ _ _ us hl => match us, hl with | [_], _ => rfl
  have v29 := F29.binds (ps := ["value"]) fun _ _ _ _ _ _ us hl => match us, hl with | [_], _ => rfl
  have v30 := F30.binds (ps := ["value"]) fun _ _ _ _ _ _ us hl => match us, hl with | [_], _ => rfl
  obtain ⟨dI_C, FI_C⟩ := g_C
  have it_C := isB_ok e1_C
  have et_C := exB_ok e2_C it_C.1
  have T1 : SourceTxt K mg  := { int := PySem.W.mg_none_of X G z_int, abs := PySem.W.mg_none_of X G z_abs }
  have T2 : AnyTxt K mg  := { int := PySem.W.mg_none_of X G z_int }
  have T3 : OfTxt K mg f1 := { len := PySem.W.mg_none_of X G z_len, any := PySem.W.mg_of X G a1, kAny := F1.kp }
  have T4 : NamesTxt K mg f1 f2 := { n_sorted := PySem.W.mg_none_of X G z_sorted, n_range := PySem.W.mg_none_of X G z_range, n_int := PySem.W.mg_none_of X G z_int, n_len := PySem.W.mg_none_of X G z_len, g_law_of := PySem.W.mg_of X G a2, k_law_of := F2.kp, g_law_any := PySem.W.mg_of X G a1, k_law_any := F1.kp }
  have T5 : LTextTxt K mg f1 f2 := { n_range := PySem.W.mg_none_of X G z_range, g_law_of := PySem.W.mg_of X G a2, k_law_of := F2.kp, g_law_any := PySem.W.mg_of X G a1, k_law_any := F1.kp }
  have T6 : FrozenTxt K mg f5 := { n_isinstance := PySem.W.mg_none_of X G z_isinstance, n_str := PySem.W.mg_none_of X G z_str, n_tuple := PySem.W.mg_none_of X G z_tuple, g_law_frozen := PySem.W.mg_of X G a5, k_law_frozen := F5.kp }
  have T7 : GrownTxt K mg f1 f2 f4 f5 := { n_range := PySem.W.mg_none_of X G z_range, n_len := PySem.W.mg_none_of X G z_len, n_list := PySem.W.mg_none_of X G z_list, n_isinstance := PySem.W.mg_none_of X G z_isinstance, g_law_of := PySem.W.mg_of X G a2, k_law_of := F2.kp, g_law_any := PySem.W.mg_of X G a1, k_law_any := F1.kp, g_law_text := PySem.W.mg_of X G a4, k_law_text := F4.kp, g_law_frozen := PySem.W.mg_of X G a5, k_law_frozen := F5.kp }
  have T8 : ReadTxt K mg f7 f8 f9 f10 f11 f12 f13 := { n_isinstance := PySem.W.mg_none_of X G z_isinstance, n_str := PySem.W.mg_none_of X G z_str, n_tuple := PySem.W.mg_none_of X G z_tuple, n_len := PySem.W.mg_none_of X G z_len, g_law_signs := PySem.W.mg_of X G a7, k_law_signs := F7.kp, g_law_is_name := PySem.W.mg_of X G a8, k_law_is_name := F8.kp, g_law_is_text := PySem.W.mg_of X G a9, k_law_is_text := F9.kp, g_law_is_head := PySem.W.mg_of X G a10, k_law_is_head := F10.kp, g_law_flags := PySem.W.mg_of X G a11, k_law_flags := F11.kp, g_law_row_flags := PySem.W.mg_of X G a12, k_law_row_flags := F12.kp, g_law_first := PySem.W.mg_of X G a13, k_law_first := F13.kp }
  have T9 : OddTxt K mg f2 f1 f14 f15 := { g_law_of := PySem.W.mg_of X G a2, k_law_of := F2.kp, g_law_any := PySem.W.mg_of X G a1, k_law_any := F1.kp, g_law_odd := PySem.W.mg_of X G a14, k_law_odd := F14.kp, g_law_bent := PySem.W.mg_of X G a15, k_law_bent := F15.kp, n_isinstance := PySem.W.mg_none_of X G z_isinstance, n_tuple := PySem.W.mg_none_of X G z_tuple, n_str := PySem.W.mg_none_of X G z_str, n_len := PySem.W.mg_none_of X G z_len, n_list := PySem.W.mg_none_of X G z_list }
  have TD : WordTxt K mg f23 t1 t2 t3 t4 := { n_isinstance := PySem.W.mg_none_of X G z_isinstance, n_str := PySem.W.mg_none_of X G z_str, n_len := PySem.W.mg_none_of X G z_len, n_all := PySem.W.mg_none_of X G z_all, g_NAME_MOST := PySem.W.mg_of X G c2, g_TEXT_MOST := PySem.W.mg_of X G c3, g_NAME_SIGNS := PySem.W.mg_of X G c4, g_TEXT_SIGNS := PySem.W.mg_of X G c5, g_has_only := PySem.W.mg_of X G a23, k_has_only := F23.kp }
  have TP : PairTxt K mg f21 := { n_isinstance := PySem.W.mg_none_of X G z_isinstance, n_tuple := PySem.W.mg_none_of X G z_tuple, n_int := PySem.W.mg_none_of X G z_int, n_bool := PySem.W.mg_none_of X G z_bool, n_len := PySem.W.mg_none_of X G z_len, g_is_name := PySem.W.mg_of X G a21, k_is_name := F21.kp }
  have TN : NeedTxt K mg C fI f27 f22 f28 f24 f26 := { n_isinstance := PySem.W.mg_none_of X G z_isinstance, n_tuple := PySem.W.mg_none_of X G z_tuple, n_list := PySem.W.mg_none_of X G z_list, m := PySem.W.mg_of X G b_C, t := et_C, ex := it_C.1.ex, ty := it_C.2, one := y_C, g_is_pair := PySem.W.mg_of X G a27, k_is_pair := F27.kp, g_is_text := PySem.W.mg_of X G a22, k_is_text := F22.kp, g_need_things := PySem.W.mg_of X G a28, k_need_things := F28.kp, g_need_node := PySem.W.mg_of X G a24, k_need_node := F24.kp, g_need_forest := PySem.W.mg_of X G a26, k_need_forest := F26.kp }
  have TS : SaidTxt K mg C cP cT fit f24 f25 f26 := { n_isinstance := PySem.W.mg_none_of X G z_isinstance, m := PySem.W.mg_of X G b_C, mP := PySem.W.mg_of X G b_cP, mT := PySem.W.mg_of X G b_cT, mF := PySem.W.mg_of X G b_fit, it := it_C.1, no := et_C.no, one := y_C, isF := y1, isP := y2, isT := y3, g_need_node := PySem.W.mg_of X G a24, k_need_node := F24.kp, g_need_thing := PySem.W.mg_of X G a25, k_need_thing := F25.kp, g_need_forest := PySem.W.mg_of X G a26, k_need_forest := F26.kp }
  have TR : RightTxt K mg f17 f16 f29 f30 f8 f9 f21 f22 f20 := { n_repr := PySem.W.mg_none_of X G z_repr, n_range := PySem.W.mg_none_of X G z_range, n_isinstance := PySem.W.mg_none_of X G z_isinstance, n_int := PySem.W.mg_none_of X G z_int, n_bool := PySem.W.mg_none_of X G z_bool, g_law_due := PySem.W.mg_of X G a17, k_law_due := F17.kp, g_law_said := PySem.W.mg_of X G a16, k_law_said := F16.kp, g_is_node := PySem.W.mg_of X G a29, k_is_node := F29.kp, g_is_forest := PySem.W.mg_of X G a30, k_is_forest := F30.kp, g_law_is_name := PySem.W.mg_of X G a8, k_law_is_name := F8.kp, g_law_is_text := PySem.W.mg_of X G a9, k_law_is_text := F9.kp, g_is_name := PySem.W.mg_of X G a21, k_is_name := F21.kp, g_is_text := PySem.W.mg_of X G a22, k_is_text := F22.kp, g_is_number := PySem.W.mg_of X G a20, k_is_number := F20.kp }
  have TL : LawTxt K mg f0 f3 f1 f2 f4 f6 f15 f14 f18 f19 := { n_range := PySem.W.mg_none_of X G z_range, n_len := PySem.W.mg_none_of X G z_len, g_law_source := PySem.W.mg_of X G a0, k_law_source := F0.kp, g_law_names := PySem.W.mg_of X G a3, k_law_names := F3.kp, g_law_any := PySem.W.mg_of X G a1, k_law_any := F1.kp, g_law_of := PySem.W.mg_of X G a2, k_law_of := F2.kp, g_law_text := PySem.W.mg_of X G a4, k_law_text := F4.kp, g_law_grown := PySem.W.mg_of X G a6, k_law_grown := F6.kp, g_law_bent := PySem.W.mg_of X G a15, k_law_bent := F15.kp, g_law_odd := PySem.W.mg_of X G a14, k_law_odd := F14.kp, g_law_value_right := PySem.W.mg_of X G a18, k_law_value_right := F18.kp, g_law_word_right := PySem.W.mg_of X G a19, k_law_word_right := F19.kp }
  have kb24 : ∀ (s : Shared) (u : Value), BindsTo s d24 ⟨[], [("value", u)]⟩ [("value", u)] := fun s u => by
    obtain ⟨_, _, _, _, _, _, _, _, _, rfl, _, _⟩ := F24.ex
    exact .of_eq rfl
  have kb25 : ∀ (s : Shared) (u : Value), BindsTo s d25 ⟨[], [("value", u)]⟩ [("value", u)] := fun s u => by
    obtain ⟨_, _, _, _, _, _, _, _, _, rfl, _, _⟩ := F25.ex
    exact .of_eq rfl
  have kb26 : ∀ (s : Shared) (u : Value), BindsTo s d26 ⟨[], [("value", u)]⟩ [("value", u)] := fun s u => by
    obtain ⟨_, _, _, _, _, _, _, _, _, rfl, _, _⟩ := F26.ex
    exact .of_eq rfl
  have kb29 : ∀ (s : Shared) (u : Value), BindsTo s d29 ⟨[], [("value", u)]⟩ [("value", u)] := fun s u => by
    obtain ⟨_, _, _, _, _, _, _, _, _, rfl, _, _⟩ := F29.ex
    exact .of_eq rfl
  have kb30 : ∀ (s : Shared) (u : Value), BindsTo s d30 ⟨[], [("value", u)]⟩ [("value", u)] := fun s u => by
    obtain ⟨_, _, _, _, _, _, _, _, _, rfl, _, _⟩ := F30.ex
    exact .of_eq rfl
  have kb21 : ∀ (s : Shared) (u : Value), BindsTo s d21 ⟨[], [("value", u)]⟩ [("value", u)] := fun s u => by
    obtain ⟨_, _, _, _, _, _, _, _, _, rfl, _, _⟩ := F21.ex
    exact .of_eq rfl
  have kb22 : ∀ (s : Shared) (u : Value), BindsTo s d22 ⟨[], [("value", u)]⟩ [("value", u)] := fun s u => by
    obtain ⟨_, _, _, _, _, _, _, _, _, rfl, _, _⟩ := F22.ex
    exact .of_eq rfl
  have kb20 : ∀ (s : Shared) (u : Value), BindsTo s d20 ⟨[], [("value", u)]⟩ [("value", u)] := fun s u => by
    obtain ⟨_, _, _, _, _, _, _, _, _, rfl, _, _⟩ := F20.ex
    exact .of_eq rfl
  refine ⟨d31, fun s v => ?_, fun base _ _ => ?_⟩
  · obtain ⟨_, _, _, _, _, _, _, _, _, rfl, _, _⟩ := F31.ex
    exact .of_eq rfl
  · have GS : FnOk P w K mg base CX0 1 f0 d0 ["script"] (spSource K) := ok_source F0 T1
    have GA : FnOk P w K mg base CX0 1 f1 d1 ["deal", "bound"] (spAny) := ok_any F1 T2
    have GO : FnOk P w K mg base CX0 2 f2 d2 ["deal", "some"] (spOf) := ok_of F2 T3 GA v1
    have GN : FnOk P w K mg base CX0 3 f3 d3 ["deal", "many"] (spNames) := ok_names F3 T4 GA v1 GO v2
    have GT : FnOk P w K mg base CX0 3 f4 d4 ["deal"] (spLText) := ok_ltext F4 T5 GA v1 GO v2
    have GFr : FnOk P w K mg base CX0 (1 + 20) f5 d5 ["thing"] (spFrozen K 20) := ok_frozen F5 T6 v5 20
    have GG : FnOk P w K mg base CX0 (4 + 20) f6 d6 ["deal", "names", "many", "deep"] (spGrown K 20) := ok_grown F6 T7 GA v1 GO v2 GT v4 GFr v5
    have GSi : FnOk P w K mg base CX0 1 f7 d7 ["value", "signs", "least", "most"] (spSigns K) := ok_signs F7 T8
    have GLn : FnOk P w K mg base CX0 2 f8 d8 ["value"] (spB K nameD) := ok_lname F8 T8 GSi v7
    have GLt : FnOk P w K mg base CX0 2 f9 d9 ["value"] (spB K textD) := ok_ltxt F9 T8 GSi v7
    have GHd : FnOk P w K mg base CX0 3 f10 d10 ["value"] (spB K pairD) := ok_head F10 T8 GLn v8
    have GB := ok_both (P := P) (w := w) (mg := mg) (base := base) F11 F12 T8 GHd v10 GLt v9 v11 v12 60
    have GFi : FnOk P w K mg base CX0 1 f13 d13 ["flags"] (spFirst) := ok_first F13
    have GDu : FnOk P w K mg base CX0 127 f17 d17 ["number", "value"] (spDue K) := ok_due F17 T8 GHd v10 GFi v13 GB.1 v11 GB.2 v12
    have GOd : FnOk P w K mg base CX0 3 f14 d14 ["deal"] (spOdd K) := ok_odd F14 T9 GO v2
    have GBe : FnOk P w K mg base CX0 (4 + 50) f15 d15 ["deal", "value"] (spBent K 50) := ok_bent F15 T9 v15 GA v1 GO v2 GOd v14 50
    have GH : FnOk P w K mg base CX0 1 f23 d23 ["value", "signs"] (spHas) := ok_has F23 TD
    have GNm : FnOk P w K mg base CX0 2 f21 d21 ["value"] (spName K) := ok_name F21 TD GH v23
    have GTx : FnOk P w K mg base CX0 2 f22 d22 ["value"] (spText K) := ok_text F22 TD GH v23
    have GNu : FnOk P w K mg base CX0 1 f20 d20 ["value"] (spNum K) := ok_num F20 TP
    have GPa : FnOk P w K mg base CX0 3 f27 d27 ["value"] (spPair K) := ok_pair F27 TP GNm v21
    have GTh : FnOk P w K mg base (L2.CX P w) 4 f28 d28 ["things"] (spThings K C) := ok_things F28 TN FI_C GPa v27 GTx v22
    have GNn : FnOk P w K mg base (L2.CX P w) 5 f24 d24 ["value"] (spErr K C nodeD) := ok_node F24 TN FI_C GPa v27 GTh v28
    have GNt : FnOk P w K mg base (L2.CX P w) 5 f25 d25 ["value"] (spErr K C thingD) := ok_thing F25 TN GTh v28
    have GNf : FnOk P w K mg base (L2.CX P w) 5 f26 d26 ["value"] (spErr K C forestD) := ok_forest F26 TN FI_C GTh v28
    have GIn : FnOk P w K mg base CX0 6 f29 d29 ["value"] (spIs K nodeD) := ok_isNode F29 TN GNn v24
    have GIf : FnOk P w K mg base CX0 6 f30 d30 ["value"] (spIs K forestD) := ok_isForest F30 TN GNf v26
    have GSa : FnOk P w K mg base CX0 6 f16 d16 ["number", "value", "named"] (spSaid K) := ok_said F16 TS GNn v24 kb24 GNt v25 kb25 GNf v26 kb26
    have GVr : FnG P w K mg base CX0 128 f18 d18 ["deal", "value"] (spVR K) := ok_value F18 TR GDu v17 GSa v16 GIn v29 kb29 GIf v30 kb30
    have GWr : FnG P w K mg base CX0 3 f19 d19 ["value"] (spWR K) := ok_wordR F19 TR GLn v8 GLt v9 GNm v21 kb21 GTx v22 kb22 GNu v20 kb20
    exact ok_law F31 TL GS v0 GN v3 GA v1 GO v2 GT v4 GG v6 GBe v15 GOd v14 GVr v18 GWr v19
end K1

open PySem PySem.W PyProof.Rows
set_option maxRecDepth 100000 in
set_option maxHeartbeats 0 in
theorem PySem.Challenge.cw_turnsfit_k01_any_values_as_nodes_and_for_holds : PySem.Challenge.rw_turnsfit_k01_any_values_as_nodes_and_for.Holds := by
  w_on; o_law; k_head; (case hw => w_witness2)
  k_fill
  refine Grd.walkG (l := PySem.Challenge.rw_turnsfit_k01_any_values_as_nodes_and_for) (sp := K1.spLaw) (x := "script") (k := 129) rfl (by decide) rfl ⟨rfl, by decide, by decide⟩ (fun w h Y => PySem.W.kIn_of Y) ?F (fun K H a ns hl hS => ⟨a, ns, rfl, hS, hl, fun _ => rfl⟩)
  case F =>
    intro w mg fa h KX G hmg
    refine' K1.all_mk KX G hmg ?kq_a0 ?kq_h0 ?kq_a1 ?kq_h1 ?kq_a2 ?kq_h2 ?kq_a3 ?kq_h3 ?kq_a4 ?kq_h4 ?kq_a5 ?kq_h5 ?kq_a6 ?kq_h6 ?kq_a7 ?kq_h7 ?kq_a8 ?kq_h8 ?kq_a9 ?kq_h9 ?kq_a10 ?kq_h10 ?kq_a11 ?kq_h11 ?kq_a12 ?kq_h12 ?kq_a13 ?kq_h13 ?kq_a14 ?kq_h14 ?kq_a15 ?kq_h15 ?kq_a16 ?kq_h16 ?kq_a17 ?kq_h17 ?kq_a18 ?kq_h18 ?kq_a19 ?kq_h19 ?kq_a20 ?kq_h20 ?kq_a21 ?kq_h21 ?kq_a22 ?kq_h22 ?kq_a23 ?kq_h23 ?kq_a24 ?kq_h24 ?kq_a25 ?kq_h25 ?kq_a26 ?kq_h26 ?kq_a27 ?kq_h27 ?kq_a28 ?kq_h28 ?kq_a29 ?kq_h29 ?kq_a30 ?kq_h30 ?kq_a31 ?kq_h31 ?kq_b_C ?kq_j_C ?kq_g_C ?kq_e1_C ?kq_e2_C ?kq_y_C ?kq_b_cP ?kq_b_cT ?kq_b_fit ?kq_y1 ?kq_y2 ?kq_y3 ?kq_c2 ?kq_c3 ?kq_c4 ?kq_c5 ?kq_z_int ?kq_z_abs ?kq_z_len ?kq_z_sorted ?kq_z_range ?kq_z_isinstance ?kq_z_str ?kq_z_tuple ?kq_z_list ?kq_z_all ?kq_z_bool ?kq_z_repr
    (case kq_a0 => k_is)
    (case kq_h0 => refine' ⟨_, L2.fun_mk (st := K1.sSource) ?kql ?kqc ?kqk⟩; (case kql => k_is); (case kqc => k_is); (case kqk => k_is))
    (case kq_a1 => k_is)
    (case kq_h1 => refine' ⟨_, L2.fun_mk (st := K1.sAny) ?kql ?kqc ?kqk⟩; (case kql => k_is); (case kqc => k_is); (case kqk => k_is))
    (case kq_a2 => k_is)
    (case kq_h2 => refine' ⟨_, L2.fun_mk (st := K1.sOf) ?kql ?kqc ?kqk⟩; (case kql => k_is); (case kqc => k_is); (case kqk => k_is))
    (case kq_a3 => k_is)
    (case kq_h3 => refine' ⟨_, L2.fun_mk (st := K1.sNames) ?kql ?kqc ?kqk⟩; (case kql => k_is); (case kqc => k_is); (case kqk => k_is))
    (case kq_a4 => k_is)
    (case kq_h4 => refine' ⟨_, L2.fun_mk (st := K1.sLText) ?kql ?kqc ?kqk⟩; (case kql => k_is); (case kqc => k_is); (case kqk => k_is))
    (case kq_a5 => k_is)
    (case kq_h5 => refine' ⟨_, L2.fun_mk (st := K1.sFrozen) ?kql ?kqc ?kqk⟩; (case kql => k_is); (case kqc => k_is); (case kqk => k_is))
    (case kq_a6 => k_is)
    (case kq_h6 => refine' ⟨_, L2.fun_mk (st := K1.sGrown) ?kql ?kqc ?kqk⟩; (case kql => k_is); (case kqc => k_is); (case kqk => k_is))
    (case kq_a7 => k_is)
    (case kq_h7 => refine' ⟨_, L2.fun_mk (st := K1.sSigns) ?kql ?kqc ?kqk⟩; (case kql => k_is); (case kqc => k_is); (case kqk => k_is))
    (case kq_a8 => k_is)
    (case kq_h8 => refine' ⟨_, L2.fun_mk (st := K1.sLName) ?kql ?kqc ?kqk⟩; (case kql => k_is); (case kqc => k_is); (case kqk => k_is))
    (case kq_a9 => k_is)
    (case kq_h9 => refine' ⟨_, L2.fun_mk (st := K1.sLTxt) ?kql ?kqc ?kqk⟩; (case kql => k_is); (case kqc => k_is); (case kqk => k_is))
    (case kq_a10 => k_is)
    (case kq_h10 => refine' ⟨_, L2.fun_mk (st := K1.sHead) ?kql ?kqc ?kqk⟩; (case kql => k_is); (case kqc => k_is); (case kqk => k_is))
    (case kq_a11 => k_is)
    (case kq_h11 => refine' ⟨_, L2.fun_mk (st := K1.sFlags) ?kql ?kqc ?kqk⟩; (case kql => k_is); (case kqc => k_is); (case kqk => k_is))
    (case kq_a12 => k_is)
    (case kq_h12 => refine' ⟨_, L2.fun_mk (st := K1.sRow) ?kql ?kqc ?kqk⟩; (case kql => k_is); (case kqc => k_is); (case kqk => k_is))
    (case kq_a13 => k_is)
    (case kq_h13 => refine' ⟨_, L2.fun_mk (st := K1.sFirst) ?kql ?kqc ?kqk⟩; (case kql => k_is); (case kqc => k_is); (case kqk => k_is))
    (case kq_a14 => k_is)
    (case kq_h14 => refine' ⟨_, L2.fun_mk (st := K1.sOdd) ?kql ?kqc ?kqk⟩; (case kql => k_is); (case kqc => k_is); (case kqk => k_is))
    (case kq_a15 => k_is)
    (case kq_h15 => refine' ⟨_, L2.fun_mk (st := K1.sBent) ?kql ?kqc ?kqk⟩; (case kql => k_is); (case kqc => k_is); (case kqk => k_is))
    (case kq_a16 => k_is)
    (case kq_h16 => refine' ⟨_, L2.fun_mk (st := K1.sSaid) ?kql ?kqc ?kqk⟩; (case kql => k_is); (case kqc => k_is); (case kqk => k_is))
    (case kq_a17 => k_is)
    (case kq_h17 => refine' ⟨_, L2.fun_mk (st := K1.sDue) ?kql ?kqc ?kqk⟩; (case kql => k_is); (case kqc => k_is); (case kqk => k_is))
    (case kq_a18 => k_is)
    (case kq_h18 => refine' ⟨_, L2.fun_mk (st := K1.sValue) ?kql ?kqc ?kqk⟩; (case kql => k_is); (case kqc => k_is); (case kqk => k_is))
    (case kq_a19 => k_is)
    (case kq_h19 => refine' ⟨_, L2.fun_mk (st := K1.sWordR) ?kql ?kqc ?kqk⟩; (case kql => k_is); (case kqc => k_is); (case kqk => k_is))
    (case kq_a20 => k_is)
    (case kq_h20 => refine' ⟨_, L2.fun_mk (st := K1.sNum) ?kql ?kqc ?kqk⟩; (case kql => k_is); (case kqc => k_is); (case kqk => k_is))
    (case kq_a21 => k_is)
    (case kq_h21 => refine' ⟨_, L2.fun_mk (st := K1.sName) ?kql ?kqc ?kqk⟩; (case kql => k_is); (case kqc => k_is); (case kqk => k_is))
    (case kq_a22 => k_is)
    (case kq_h22 => refine' ⟨_, L2.fun_mk (st := K1.sText) ?kql ?kqc ?kqk⟩; (case kql => k_is); (case kqc => k_is); (case kqk => k_is))
    (case kq_a23 => k_is)
    (case kq_h23 => refine' ⟨_, L2.fun_mk (st := K1.sHas) ?kql ?kqc ?kqk⟩; (case kql => k_is); (case kqc => k_is); (case kqk => k_is))
    (case kq_a24 => k_is)
    (case kq_h24 => refine' ⟨_, L2.fun_mk (st := K1.sNode) ?kql ?kqc ?kqk⟩; (case kql => k_is); (case kqc => k_is); (case kqk => k_is))
    (case kq_a25 => k_is)
    (case kq_h25 => refine' ⟨_, L2.fun_mk (st := K1.sThing) ?kql ?kqc ?kqk⟩; (case kql => k_is); (case kqc => k_is); (case kqk => k_is))
    (case kq_a26 => k_is)
    (case kq_h26 => refine' ⟨_, L2.fun_mk (st := K1.sForest) ?kql ?kqc ?kqk⟩; (case kql => k_is); (case kqc => k_is); (case kqk => k_is))
    (case kq_a27 => k_is)
    (case kq_h27 => refine' ⟨_, L2.fun_mk (st := K1.sPair) ?kql ?kqc ?kqk⟩; (case kql => k_is); (case kqc => k_is); (case kqk => k_is))
    (case kq_a28 => k_is)
    (case kq_h28 => refine' ⟨_, L2.fun_mk (st := K1.sThings) ?kql ?kqc ?kqk⟩; (case kql => k_is); (case kqc => k_is); (case kqk => k_is))
    (case kq_a29 => k_is)
    (case kq_h29 => refine' ⟨_, L2.fun_mk (st := K1.sIsNode) ?kql ?kqc ?kqk⟩; (case kql => k_is); (case kqc => k_is); (case kqk => k_is))
    (case kq_a30 => k_is)
    (case kq_h30 => refine' ⟨_, L2.fun_mk (st := K1.sIsForest) ?kql ?kqc ?kqk⟩; (case kql => k_is); (case kqc => k_is); (case kqk => k_is))
    (case kq_a31 => k_is)
    (case kq_h31 => refine' ⟨_, L2.fun_mk (st := K1.sLaw) ?kql ?kqc ?kqk⟩; (case kql => k_is); (case kqc => k_is); (case kqk => k_is))
    (case kq_b_C => k_is)
    (case kq_j_C => k_is)
    (case kq_g_C => refine' ⟨_, L2.fun_mk (st := K1.sI0) ?kql ?kqc ?kqk⟩; (case kql => k_is); (case kqc => k_is); (case kqk => k_is))
    (case kq_e1_C => kernel_rfl)
    (case kq_e2_C => kernel_rfl)
    (case kq_y_C => kernel_rfl)
    (case kq_b_cP => k_is)
    (case kq_b_cT => k_is)
    (case kq_b_fit => k_is)
    (case kq_y1 => kernel_rfl)
    (case kq_y2 => kernel_rfl)
    (case kq_y3 => kernel_rfl)
    (case kq_c2 => k_is)
    (case kq_c3 => k_is)
    (case kq_c4 => k_is)
    (case kq_c5 => k_is)
    (case kq_z_int => k_is)
    (case kq_z_abs => k_is)
    (case kq_z_len => k_is)
    (case kq_z_sorted => k_is)
    (case kq_z_range => k_is)
    (case kq_z_isinstance => k_is)
    (case kq_z_str => k_is)
    (case kq_z_tuple => k_is)
    (case kq_z_list => k_is)
    (case kq_z_all => k_is)
    (case kq_z_bool => k_is)
    (case kq_z_repr => k_is)

