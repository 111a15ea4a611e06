import PyProof.Rows.All
import Wide.All
import OpenK.AllK
import Wide.FinOn
import HandS.ForMost
import HandS.Style
import HandS.TupAny
import HandS.Walk
import KE.GoesEnum
import HandS.Wide
import HandS.Flow
import HandS.IsInst
import KE.KExcInit
import HandS.ForExc
import HandS.ExcInit
import HandS.ExcIs
import KE.KExcIs
import HandS.ExcValue
import HandS.CallSlots
import HandS.ExcField
import PyProof.StrBlock2
import HandS.ExcOwn
import HandS.Ends
import PySem.Challenge.RW_turnsfit_k34_marks_of_documents
set_option Elab.async false
set_option linter.all false
set_option maxRecDepth 100000
set_option maxHeartbeats 16000000
/-! rules of general use: t[::-1], xs.extend(t), enumerate(t) of tuples -/
namespace Xr
open PySem PySem.Spec PyProof.Rows L2 HT
section
variable {prog : Program} {w : World} {A : Around} {E : Value → Shared → Prop} {s : Shared}
theorem adjust_back (n : Nat) : Builtin.Slice.sliceAdjust none none (-1) (n : Int) = ((n : Int) - 1, -1) := by
  unfold Builtin.Slice.sliceAdjust
  have h1 : ((-1 : Int) < 0) := by omega
  simp only [h1, if_true]
theorem places_back (n : Nat) : Builtin.Slice.slicePlaces ((n : Int) - 1) (-1) (-1) = n := by
  unfold Builtin.Slice.slicePlaces
  have h1 : ¬ (-1 : Int) > 0 := by omega
  simp only [h1, if_false]
  have e : (-(-1) : Int) = 1 := rfl
  rw [e, Int.ediv_one]
  split <;> omega
theorem sliceApplied_back {sl : Addr} {t : Tok} {n : Nat} {Q : Int × Int × Nat → Shared → Prop} (hs : s.heap.IsSliceOf sl .none .none (.int (-1) t)) (h : Q ((n : Int) - 1, -1, n) s) :
    wpAny (model prog w) A (Builtin.Slice.sliceApplied (.ref sl) (pure (n : Int))) Q E s := by
  obtain ⟨os, hos, hcs, hds⟩ := id hs
  unfold Builtin.Slice.sliceApplied Builtin.Slice.sliceFields
  refine wpAny_bind (wpAny_bind (wpAny_field hos hds (x := .none) rfl (wpAny_bind (wpAny_field hos hds (x := .none) rfl (wpAny_bind (wpAny_field hos hds (x := .int (-1) t) rfl (wpAny_pure ?_)))))))
  refine wpAny_bind (slicePart_int ?_)
  show wpAny _ _ (if ((-1 : Int) == 0) = true then _ else _) _ _ s
  rw [if_neg (by decide)]
  refine wpAny_bind (slicePart_none (wpAny_bind (slicePart_none (wpAny_bind (wpAny_pure ?_)))))
  show wpAny _ _ (match Builtin.Slice.sliceAdjust none none (-1) (n : Int) with | (lo, hi) => pure (lo, (-1 : Int), Builtin.Slice.slicePlaces lo hi (-1))) _ _ s
  rw [adjust_back n]
  show wpAny _ _ (pure ((n : Int) - 1, (-1 : Int), Builtin.Slice.slicePlaces ((n : Int) - 1) (-1) (-1))) _ _ s
  rw [places_back]
  exact wpAny_pure h
theorem fm_congr {α β : Type} {f g : α → Option β} : ∀ {l : List α}, (∀ x ∈ l, f x = g x) → l.filterMap f = l.filterMap g
  | [], _ => rfl
  | a :: l, h => by
    rw [List.filterMap_cons, List.filterMap_cons, h a (by simp), fm_congr fun x hx => h x (List.mem_cons_of_mem _ hx)]
theorem pick_back (xs : Array Value) : ((List.range xs.size).filterMap fun (m : Nat) => xs[(((xs.size : Int) - 1) + (m : Int) * (-1)).toNat]?).toArray = xs.toList.reverse.toArray := by
  have e := PySem.W.krv_pick xs
  rw [← e]
  unfold slicePick
  rw [PySem.W.krv_bounds]
  show _ = ((sliceRange ((xs.size : Int) - 1) (-1) (-1)).filterMap _).toArray
  rw [PySem.W.krv_sliceRange, List.filterMap_map]
  congr 1
  refine fm_congr fun m hm => ?_
  have h : m < xs.size := List.mem_range.mp hm
  have e2 : (((xs.size : Int) - 1) + (m : Int) * (-1)).toNat = xs.size - 1 - m := by omega
  rw [e2]
  rfl
theorem getItem_tuple_back {t sl : Addr} {items : Array Value} {u : Tok} {Q : Value → Shared → Prop} (ht : IsTup s.heap t items) (hs : s.heap.IsSliceOf sl .none .none (.int (-1) u))
    (h : Q (.ref s.heap.objs.size) { s with heap := s.heap.push { cls := .type "tuple", data := .seq items.toList.reverse.toArray } })
    (hsz : items.size ≤ sizeLine) : wpAny (model prog w) A (getItem (.ref t) (.ref sl)) Q E s := by
  have htake : sizeOk (.seq items.toList.reverse.toArray) := by
    show items.toList.reverse.toArray.size ≤ sizeLine
    rw [List.size_toArray, List.length_reverse, Array.length_toList]
    exact hsz
  obtain ⟨os, hos, hcs, hds⟩ := id hs
  have hTs : s.TypeIs (.ref sl) "slice" := ⟨os, hos, hcs⟩
  unfold getItem
  try with_reducible refine wpAny_holding ?_
  first | refine wpAny_bind (wpAny_pure ?_) | skip
  refine wpAny_bind (wpAny_sequenceKey ht.typeIs (by decide) ?_)
  refine wpAny_bind (wpAny_callSpecial?_slot (name := Str.ofString "__getitem__") ht.typeIs PyProof.Rows.slot_tuple_getitem
    (wpAny_call_entry PyProof.Rows.slot_tuple_getitem ht.typeIs entry_tuple_getitem ?_ (args_tuple_getitem _ _)))
  show wpAny _ _ (Builtin.Tuple.tupleItemsOf (.ref t) >>= _) _ _ s
  refine wpAny_bind (tupleItemsOf_ ht ?_)
  refine wpAny_bind (wpAny_typeOf hTs ?_)
  rw [if_pos (by decide)]
  refine wpAny_bind (sliceApplied_back hs ?_)
  have hno : ¬ ((((items.size : Int) - 1) == 0 && (-1 : Int) == 1 && items.size == items.size) = true) := by
    intro q
    rw [Bool.and_eq_true, Bool.and_eq_true] at q
    have q1 : (-1 : Int) = 1 := eq_of_beq q.1.2
    omega
  show wpAny _ _ (if (((items.size : Int) - 1) == 0 && (-1 : Int) == 1 && items.size == items.size) = true then _ else _) _ _ s
  rw [if_neg hno, pick_back]
  first
    | exact wpAny_bind (m := Builtin.Tuple.tupleExact _) (wpAny_newObj_type (wpAny_pure ⟨_, rfl, wpAny_pure h⟩) htake)
    | exact wpAny_bind (m := Builtin.Tuple.tupleExact _) (wpAny_newObj_type (wpAny_bind (wpAny_pure (wpAny_pure ⟨_, rfl, wpAny_pure h⟩))) htake)
    | exact wpAny_bind (wpAny_bind (m := Builtin.Tuple.tupleExact _) (wpAny_newObj_type (wpAny_pure (wpAny_pure ⟨_, rfl, wpAny_pure h⟩)) htake))
    | exact wpAny_bind (wpAny_bind (m := Builtin.Tuple.tupleExact _) (wpAny_newObj_type (wpAny_pure ⟨_, rfl, wpAny_pure h⟩) htake))
end
/-- list.extend by a tuple, whatever else the tuple's object bears -/
theorem extend_tupW (l b : Addr) (xs ys : Array Value) (n n2 : Nat) (dd : Option Addr) (sl : Array (Option Value)) (h0 : ¬(!xs.isEmpty && Builtin.List.listTooLong (xs.size + ys.size)) = true) (h1 : xs.size ≤ sizeLine) (h2 : xs.size + ys.size ≤ sizeLine + 1) :
    Meets (Builtin.«list.extend» ⟨[.ref l, .ref b], []⟩) (fun _ R s => s.heap.get? l = some { cls := .type "list", dict := none, data := .seq xs n, slots := #[] } ∧ s.heap.get? b = some { cls := .type "tuple", dict := dd, data := .seq ys n2, slots := sl } ∧ R (.ok (.ret Value.none)) { s with heap := s.heap.update l (Obj.mapSeq fun z => z ++ ys), toks := s.toks }) :=
  .of_wp fun prog w A R s h => by
    obtain ⟨hp, g, d, tk, os⟩ := s
    obtain ⟨hl, hb, h⟩ := h
    have f1 := AutoSeq1.idx_int
    have f2 := AutoSeq1.sub_tuple_tuple
    have f3 := AutoSeq1.sub_list_list
    have f4 := AutoSeq1.sub_tuple_list
    have f5 := AutoSeq1.sub_list_tuple
    have hz' : (xs ++ ys).size ≤ sizeLine + 1 := by rw [Array.size_append]; exact h2
    wp_walk using (wpAny_updateSeq hl rfl (hz := h1) (_hz' := hz')), AutoSeq1.wpAny_loadPart' hl, AutoSeq1.wpAny_loadPart' hb
    exact ⟨_, rfl, h⟩
section
variable {X : Cx}
/-- t[::-1] -/
def tRevT (K : PySem.W.Frag) (te : TE) : TE := fun σ H Q => te σ H fun x H1 => ∃ a xs, x = .ref a ∧ SqT K H1 a xs ∧ ∀ p, H1 p = none → Q (.ref p) (upd H1 p (.tup xs.reverse))
theorem pe_revT {e : Expr} {te : TE} {k : Nat} {p1 p2 p3 pos : Pos} (he : PE X e te) : PE X (.Subscript e (.Slice none none (some (.UnaryOp .USub (.Constant (.int 1) k p1) p2)) p3) pos) (tRevT X.K te) := by
  refine ⟨fun pins s σ H Q I h => ?_⟩
  refine Subscript_ (thn (he.run pins s σ H _ I h) fun v s1 ⟨x, H1, I1, r1, q1⟩ => ?_)
  obtain ⟨a, xs, ex, hx, q⟩ := q1
  subst ex
  cases r1
  have hst : PO X (some (.UnaryOp .USub (.Constant (.int 1) k p1) p2)) (tPart (tUn (rU fun i => .int (-i)) (tC (.int 1)))) := po_some (pe_un un_neg pe_int)
  refine wpAny_Slice (thn (po_none.run pins s1 σ H1 (fun o H2 => o = none ∧ H2 = H1) I1 ⟨rfl, rfl⟩) fun vl s2 ⟨l, H2, I2, pl, el, e2⟩ => ?_)
  subst el e2
  refine thn (po_none.run pins s2 σ H2 (fun o H3 => o = none ∧ H3 = H2) I2 ⟨rfl, rfl⟩) fun vu s3 ⟨u, H3, I3, pu, eu, e3⟩ => ?_
  subst eu e3
  refine thn (hst.run pins s3 σ H3 (fun o H4 => o = some (-1) ∧ H4 = H3) I3 ⟨1, rfl, -1, rfl, rfl, rfl⟩) fun vs s4 ⟨o, H4, I4, ps, eo, e4⟩ => ?_
  subst eo e4
  cases pl
  cases pu
  obtain ⟨tk, rfl⟩ : ∃ tk, vs = .int (-1) tk := by
    cases ps
    exact ⟨_, rfl⟩
  have I5 : L2.Inv X pins σ H4 { s4 with heap := s4.heap.push { cls := .type "slice", data := .fields #[.none, .none, .int (-1) tk] } } := I4.kept (t' := s4.toks) fun b ob q => Heap.get?_push_of_some _ q
  obtain ⟨its, r, ht, hz⟩ := I5.tuple hx
  have hlen := r.length
  show wpAny (model X.prog X.w) X.A (subscriptTail e (.Slice none none (some (.UnaryOp .USub (.Constant (.int 1) k p1) p2)) p3) (.ref a) (.ref s4.heap.objs.size)) (EP X pins σ Q) X.xe { s4 with heap := s4.heap.push { cls := .type "slice", data := .fields #[.none, .none, .int (-1) tk] } }
  refine tail_any (ops := [.ref a, .ref s4.heap.objs.size]) ht.typeIs (PyProof.Rows.slot_tuple_getitem.lookup) ?_ (by with_unfolding_all rfl)
  refine getItem_tuple_back ht (Heap.IsSliceOf.new _ .none .none (.int (-1) tk)) ?_ (by rw [List.size_toArray]; omega)
  refine ⟨.ref _, _, I5.laid (t' := s4.toks) (o := .tup xs.reverse) (fun b ob q => Heap.get?_push_of_some _ q) (Nat.le_refl _) ?_, rfl, q _ (I5.hok.fresh (Nat.le_refl _))⟩
  exact ⟨by show xs.reverse.length ≤ sizeLine; rw [List.length_reverse]; exact hz, _, r.reverse, ⟨_, Heap.get?_push_size _ rfl, rfl, _, rfl⟩⟩
/-- xs.extend(t), t a tuple -/
def rExtT (K : PySem.W.Frag) : V → List V → Hp → VK → Prop := fun x vs H Q => ∃ l b xs zs, x = .ref l ∧ vs = [.ref b] ∧ H l = some (.lst xs) ∧ H b = some (.tup zs) ∧ xs.length + zs.length ≤ sizeLine ∧ Q .non (upd H l (.lst (xs ++ zs)))
theorem mt_extendT : MtM X "list.extend" (rExtT X.K) := by
  intro pins s σ H x vs v us Q I rx rv h
  obtain ⟨l, b, xs, zs, rfl, rfl, hH, hB, hz, q⟩ := h
  cases rx
  obtain ⟨u, rfl, ru⟩ := rv.one
  cases ru
  obtain ⟨z, its, n, r, hl, e⟩ := I.lstM hH
  obtain ⟨its2, r2, p2, z2⟩ := I.tuple (SqT.of (K := X.K) hB)
  obtain ⟨⟨cls2, dd2, data2, sl2⟩, ho2, hc2, n2, hd2⟩ := id p2
  simp only at hc2 hd2
  subst hc2 hd2
  have hl2 := r2.length
  have hsz : its.toArray.size + its2.toArray.size ≤ sizeLine := by rw [List.size_toArray, List.size_toArray]; omega
  have hlong : ¬ (!its.toArray.isEmpty && Builtin.List.listTooLong (its.toArray.size + its2.toArray.size)) = true := by
    rw [notLongL hsz, Bool.and_false]
    exact Bool.false_ne_true
  refine call_meets PySem.F.slot_list_extend ⟨_, e, rfl⟩ PySem.F.entry_list_extend (PySem.F.args_list_extend_2 _ _)
    (extend_tupW l b its.toArray its2.toArray n n2 dd2 sl2 hlong (by rw [List.size_toArray]; omega) (by omega)) ⟨e, ho2, ?_⟩
  refine ⟨.non, _, I.lset (its' := its ++ its2) hH e (by simp) (r.append r2) ?_, rfl, q⟩
  rw [List.length_append]
  omega
end
end Xr

/-! enumerate(t), t a tuple -/
namespace Xr
open PySem PySem.Spec PyProof.Rows L2 HT
theorem meets_enum_one {v : Value} {o : Obj} {H : Heap → Prop} (B : Begins v o H) :
    Meets (Builtin.«enumerate.__new__» ⟨[.type "enumerate", v], []⟩) (fun _ R s => H s.heap ∧
      R (.ok (.ret (.ref (s.heap.push o).objs.size))) { s with heap := (s.heap.push o).push { cls := .type "enumerate", data := .fields #[.none, .bool false, .ref s.heap.objs.size, rawInt 0, .none, .none] } }) :=
  .of_wp fun prog w A R s h => by
    obtain ⟨hp, g, d, tk, os⟩ := s
    obtain ⟨h1, h⟩ := h
    have hsub := sub_enumerate
    have q1 : ∀ {A' : Around} {E : Value → Shared → Prop} {Q : Value → Shared → Prop}, Q (.ref hp.objs.size) ⟨hp.push o, g, d, tk, os⟩ → wpAny (model prog w) A' (pyIter v) Q E ⟨hp, g, d, tk, os⟩ :=
      fun q => B.iter prog w _ _ ⟨hp, g, d, tk, os⟩ _ h1 q
    wp_walk using q1
    refine wpAny_stack_any fun st => wpAny_pure ?_
    split
    · rename_i c _ _ _ _ _
      cases (c == Value.type "enumerate") <;> (wp_walk using q1; exact ⟨_, rfl, h⟩)
    · wp_walk using q1
      exact ⟨_, rfl, h⟩
section
variable {prog : Program} {w : World} {A : Around} {E : Value → Shared → Prop} {s : Shared}
theorem call_enum_one {v : Value} {o : Obj} {H : Heap → Prop} {Q : Value → Shared → Prop} (B : Begins v o H) (h1 : H s.heap)
    (h : ∀ h', IsEnum h' (s.heap.objs.size + 1) s.heap.objs.size 0 .none → h'.get? s.heap.objs.size = some o → h'.objs.size = s.heap.objs.size + 2 →
      (∀ b o, s.heap.get? b = some o → h'.get? b = some o) → Q (.ref (s.heap.objs.size + 1)) { s with heap := h' }) :
    wpAny (model prog w) A (call (.type "enumerate") [v]) Q E s := by
  refine callType_new F.called_enumerate (by decide) (F.typeCall_enumerate_1 _) (F.newCall_enumerate_1 _) (fun obj => F.args_object_init_2 obj _) F.entry_enumerate_new (meets_enum_one B) ⟨h1, ?_⟩
  have hz : (s.heap.push o).objs.size = s.heap.objs.size + 1 := Heap.size_push ..
  show _ ∧ _
  rw [hz]
  have he : IsEnum ((s.heap.push o).push { cls := .type "enumerate", data := .fields #[.none, .bool false, .ref s.heap.objs.size, rawInt 0, .none, .none] }) (s.heap.objs.size + 1) s.heap.objs.size 0 .none := by
    have := Heap.get?_push_size (s.heap.push o) (o := { cls := .type "enumerate", data := .fields #[.none, .bool false, .ref s.heap.objs.size, rawInt 0, .none, .none] }) rfl
    rw [hz] at this
    exact this
  exact ⟨⟨_, he, rfl⟩, h _ he (Heap.get?_push_of_some _ (Heap.get?_push_size _ B.free)) (by rw [Heap.size_push, hz]) fun b o x => Heap.get?_push_of_some _ (Heap.get?_push_of_some _ x)⟩
end
/-- the tuple at a as it stands at each turn, each item in a new pair -/
def IteT (K : PySem.W.Frag) (a : Addr) : It :=
  ⟨fun i H => ∃ (xs : List V) (x : V), SqT K H a xs ∧ xs[i]? = some x, fun i H v H' => ∃ T x, v = .ref T ∧ H T = none ∧ H' = upd H T (.tup [.int (i : Nat), x]) ∧ ∀ xs, SqT K H a xs → xs[i]? = some x, fun i H => ∃ xs : List V, SqT K H a xs ∧ xs.length = i⟩
theorem turn_enumT {P : Program} {w : World} {K : PySem.W.Frag} {elts : List Expr} {kk : Nat} {tpos : Pos} (a e it : Addr) :
    Turn P w K (.Tuple elts kk tpos) (IteT K a) [e, it] e (fun i h => (∃ old, IsEnum h e it ((i : Nat) : Int) old) ∧ h.IsTupleIter it a i ∧ e ≠ it ∧ a ≠ it ∧ e ≠ a) where
  mem := by simp
  obj := fun i h st b hb => by
    obtain ⟨⟨old, he⟩, ⟨o, ho, hc, hd⟩, _⟩ := st
    have e' : b = e ∨ b = it := by simpa using hb
    rcases e' with z | z
    · rw [z]; exact ⟨_, he, fun v q => nomatch q⟩
    · rw [z]; exact ⟨o, ho, fun v q => by rw [hd] at q; cases q⟩
  keep := fun i h h' st k => let ⟨⟨old, he⟩, hi, hne⟩ := st; ⟨⟨old, k e (by simp) _ he⟩, hi.at fun o q => k it (by simp) o q, hne⟩
  item := by
    intro X hP hw hK hc i pins s σ H E I hf st hg
    subst hP hw hK
    obtain ⟨⟨old, he⟩, hit, hne, hai, hea⟩ := st
    obtain ⟨xs, x, hq, hx⟩ := hg
    obtain ⟨its, rv, p, hz⟩ := I.tuple hq
    obtain ⟨u, hu, ru⟩ := rv.get hx
    have hel : e < s.heap.objs.size := Heap.lt_size he
    have hil : it < s.heap.objs.size := by obtain ⟨_, q, _⟩ := hit; exact Heap.lt_size q
    have hin : i < its.toArray.size := by
      rw [List.size_toArray]
      exact (List.getElem?_eq_some_iff.mp hu).1
    refine wpAny_pyNext_enum_itemC (Draws.tuple (prog := X.prog) (w := X.w) (A := X.A.in1) (I.ok.hd hc) it a hai its.toArray) he ⟨hit, p⟩ hin hne (by simp [hne, hea]) fun y h' tk hy ho hst' hT hsz hk => ?_
    have ey : y = u := by
      have z : its[i]? = some y := by simpa using hy
      rw [hu] at z
      exact (Option.some.inj z).symm
    subst ey
    refine ⟨_, rfl, wpAny_letOwnedTupleGo_enum (s := { s with heap := h', toks := tk + 1 }) ho fun h'' he' sb => ?_⟩
    have hT2 : h''.get? s.heap.objs.size = some { cls := .type "tuple", data := .seq #[.int i tk, y] } := (sb.2 _ (Nat.ne_of_gt hel)).trans hT
    have new : ObjOk X.prog X.w (upd H s.heap.objs.size (.tup [.int (i : Nat), x])) h'' s.heap.objs.size (.tup [.int (i : Nat), x]) :=
      ⟨by show 2 ≤ sizeLine; decide, [.int i tk, y], .cons ⟨_, rfl⟩ (.cons ru .nil), ⟨_, hT2, rfl, _, rfl⟩⟩
    have I1 : L2.Inv X pins σ (upd H s.heap.objs.size (.tup [.int (i : Nat), x])) { s with heap := h'', toks := tk + 1 } :=
      I.turnedNew (ch := [e, it]) (fun b ob hb q => (sb.2 b (fun z => hb (by simp [z]))).trans (hk b ob (fun z => hb (by simp [z])) (fun z => hb (by simp [z])) q)) hf (Nat.le_refl _) new
    refine ⟨.ref s.heap.objs.size, _, I1, rfl, ⟨_, x, rfl, I.hok.fresh (Nat.le_refl _), rfl, fun ys hy => ?_⟩, ⟨⟨y, ?_⟩, hst'.1.at fun o q => (sb.2 it (Ne.symm hne)).trans q, hne, hai, hea⟩, fun b hb => ?_⟩
    · obtain ⟨its2, rv2, p2, _⟩ := I.tuple hy
      have e1 : ys = xs := by
        first
          | exact I.tuple_inj hy hq
          | exact (I.tup_inj hy hq)
      rw [e1]
      exact hx
    · have e1 : ((i + 1 : Nat) : Int) = (i : Int) + 1 := by omega
      rw [e1]; exact he'
    · have hb' : b < s.heap.objs.size := by
        have e' : b = e ∨ b = it := by simpa using hb
        rcases e' with z | z
        · rw [z]; exact hel
        · rw [z]; exact hil
      rw [upd_ne (Nat.ne_of_lt hb')]
      exact (hf b hb).1
  done := by
    intro X hP hw hK hc i pins s σ H E I hf st hg
    subst hP hw hK
    obtain ⟨⟨old, he⟩, hit, hne, hai, hea⟩ := st
    obtain ⟨xs, hq, hx⟩ := hg
    obtain ⟨its, rv, p, hz⟩ := I.tuple hq
    obtain ⟨f0, f1, f2, f3, f4, f5⟩ := hf it (by simp)
    have hl := rv.length
    have hsz : its.toArray.size = i := by rw [List.size_toArray]; omega
    have D := Draws.tuple (prog := X.prog) (w := X.w) (A := X.A.in1) (I.ok.hd hc) it a hai its.toArray
    rw [hsz] at D
    exact wpAny_pyNext_enum_endD D he ⟨hit, p⟩ fun h' eb => ⟨rfl, I.turned (t' := s.toks) (fun b o hb q => eb b o hb q) f0 f1 f3 f4 f5⟩
  self := fun A i s Q E st h => let ⟨⟨_, he⟩, _⟩ := st; wpAny_pyIter_enum he h
def iEnumT (K : PySem.W.Frag) (ta : TA) : TI := fun σ H R => ta σ H fun vs H1 => ∃ a xs, vs = [.ref a] ∧ SqT K H1 a xs ∧ R (IteT K a) H1
theorem pi_enumT {X : Cx} {e : Expr} {ta : TA} {p pos tpos : Pos} {elts : List Expr} {kk : Nat} (hg : Gl X "enumerate") (hm : X.mg "enumerate" = none) (ha : PA X [e] ta) (hs : starEach [e] X.env = [(false, eval e X.env)] := by rfl) :
    PI X (.Tuple elts kk tpos) (.Call (.Name "enumerate" p) [e] [] pos) (iEnumT X.K ta) := by
  refine ⟨fun pins s σ H R I h => ?_⟩
  refine Call_ (ld_blt I hg hm boot_enumerate (PyProof.Rows.callWith_type1 (thn (ha.run pos pins s σ H _ I h) fun us s1 ⟨vs, H1, I1, r1, q1⟩ => ?_) hs rfl))
  obtain ⟨a, xs, ex, hq, q⟩ := q1
  subst ex
  cases r1 with
  | cons r rr =>
    cases rr
    cases r
    obtain ⟨its, rv, p', hz⟩ := I1.tuple hq
    have al : a < s1.heap.objs.size := by obtain ⟨_, q, _⟩ := p'; exact Heap.lt_size q
    refine call_enum_one (begins_tuple a its.toArray) p' fun h' he hit hsz hk => wpAny_pyIter_enum he ?_
    have I2 : L2.Inv X pins σ H1 { s1 with heap := h' } := I1.kept (t' := s1.toks) hk
    refine ⟨s1.heap.objs.size + 1, [s1.heap.objs.size + 1, s1.heap.objs.size], _, _, H1, rfl, I2, turn_enumT a (s1.heap.objs.size + 1) s1.heap.objs.size, ⟨⟨.none, he⟩, ⟨_, hit, rfl, rfl⟩, Nat.succ_ne_self _, Nat.ne_of_lt al, Ne.symm (Nat.ne_of_lt (Nat.lt_succ_of_lt al))⟩, fun b hb => ?_, q⟩
    have e' : b = s1.heap.objs.size + 1 ∨ b = s1.heap.objs.size := by simpa using hb
    have hle : s1.heap.objs.size ≤ b := by
      rcases e' with z | z
      · rw [z]; exact Nat.le_add_right _ _
      · rw [z]; exact Nat.le_refl _
    exact I1.fpOk hle (I1.hok.fresh hle)
theorem walk_enumT {K : PySem.W.Frag} {a : Addr} {xs : List V} : Walk (IteT K a) xs.length (fun H => SqT K H a xs) (YPair (fun i => some (.int (i : Nat))) (fun i => xs[i]?)) := by
  refine ⟨fun i _ hi q => ⟨xs, xs[i], q, by simp [hi]⟩, fun _ q => ⟨xs, q, rfl⟩, fun i H v H' _ q y => ?_⟩
  obtain ⟨T, x, h1, h2, h3, h4⟩ := y
  exact ⟨T, .int (i : Nat), x, h1, h2, h3, rfl, h4 xs q⟩
end Xr

/-! k34, part A: the text by places; the deal of draws: _law_any -/
namespace Km
open PySem L2
def top (i : Nat) : Stmt := PySem.Challenge.pw_turnsfit_k34_marks_of_documents.main.body.getD i (.Pass ⟨0, 0, 0, 0⟩)
abbrev sDeal : Stmt := top 22
abbrev sAny : Stmt := top 23
abbrev sOf : Stmt := top 24

/-- the deal stands at d: its great cells at c, its blend -/
structure DealAt (H : Hp) (d c : Addr) : Prop where
  ex : ∃ (cs : List Int) (b : Int), H d = some (.lst [.ref c, .int b]) ∧ H c = some (.lst (cs.map V.int)) ∧ (∀ x ∈ cs, 0 ≤ x) ∧ cs.length ≤ 63 ∧ 0 ≤ b ∧ b < 2147483647
/-- all tracked things but the deal's own two stand as before -/
def But (d c : Addr) (H H' : Hp) : Prop := ∀ q o, H q = some o → q ≠ d → q ≠ c → H' q = some o
theorem But.refl {d c : Addr} {H : Hp} : But d c H H := fun _ _ h _ _ => h
theorem But.trans {d c : Addr} {H H1 H2 : Hp} (a : But d c H H1) (b : But d c H1 H2) : But d c H H2 := fun q o h n m => b q o (a q o h n m) n m
/-- a promise of _law_any -/
def spAny : Sp := fun vs H Q _ => ∃ (d c : Addr) (n : Int), vs = [.ref d, .int n] ∧ DealAt H d c ∧ 0 < n ∧ n < 1073741824 ∧
  ∀ (r : Int) (H' : Hp), 0 ≤ r → r < n → DealAt H' d c → But d c H H' → Q (.int r) H'
theorem last_at {l : List Int} {x : Int} : atI ((l ++ [x]).map V.int) (-1) = some (.int x) := by
  have e : (l ++ [x]).map V.int = l.map V.int ++ [V.int x] := by simp
  rw [e]
  unfold atI ixN
  have h1 : ¬ (0 : Int) ≤ -1 := by omega
  have h2 : -(((l.map V.int ++ [V.int x]).length : Nat) : Int) ≤ -1 := by
    rw [List.length_append]
    simp
    omega
  rw [if_neg h1, if_pos h2]
  have e2 : (-1 + (((l.map V.int ++ [V.int x]).length : Nat) : Int)).toNat = (l.map V.int).length := by
    rw [List.length_append]
    simp
    omega
  rw [e2]
  simp
theorem canLayAll_ints : ∀ l : List Int, PyData.canLayAll0 (l.map PyData.int) = true
  | [] => rfl
  | x :: l => by
    have ih := canLayAll_ints l
    rw [List.map_cons]
    unfold PyData.canLayAll0
    rw [ih]
    rfl
theorem depthAll_ints : ∀ l : List Int, PyData.depthAll (l.map PyData.int) = 0
  | [] => rfl
  | x :: l => by
    have ih := depthAll_ints l
    rw [List.map_cons]
    unfold PyData.depthAll
    rw [ih]
    rfl
theorem shaped_ints (l : List Int) : SeqAt.shaped (.list (l.map PyData.int)) = true := by
  unfold SeqAt.shaped PyData.canLay0 PyData.depth
  rw [canLayAll_ints, depthAll_ints]
  rfl
theorem dp_ints {K : PySem.W.Frag} {H : Hp} : ∀ l : List Int, DpAll K H (l.map V.int) (l.map PyData.int)
  | [] => .nil
  | x :: l => .cons (.int x) (dp_ints l)
theorem eqv_nil_nil : PyData.eqv (.list []) (.list []) = true := rfl
theorem eqv_cons_nil {d : PyData} {ds : List PyData} : PyData.eqv (.list (d :: ds)) (.list []) = false := rfl
theorem scAny : FnScope ["deal", "bound", "rest"] ["deal", "bound"] (defScope sAny) := ⟨rfl, rfl, rfl, by decide +kernel, rfl, by decide +kernel, by decide +kernel⟩
structure AnyTxt (K : PySem.W.Frag) (mg : Str → Option Value) : Prop where
  int : mg "int" = none
section
variable {P : Program} {w : World} {K : PySem.W.Frag} {mg : Str → Option Value} {base : Heap}
theorem ok_any {f : Addr} {fd : FuncData} (F : Fun K "_law_any" "_law_any" sAny f fd) (T : AnyTxt K mg) : FnOk P w K mg base CX0 1 f fd ["deal", "bound"] spAny := by
  refine F.ok scAny (fun vs H Q E h => ?_) (fun cdv A outer s H vs Q E hr h => ?_)
  · obtain ⟨d, c, n, rfl, _⟩ := h
    rfl
  · obtain ⟨d, c, n, rfl, D, n0, n1, k⟩ := h
    refine ⟨_, pss_cons (ps_while PassesOwn.never
        (PW.pt (pw_and (pt_cmpR (op_neD hr.units) (pe_ix ix_list (pv 0) pe_int (fun _ _ => rfl)) (pe_lst pa_nil) (nomark _))
          (pw_and1 (pt_cmpR op_eq (pe_ix ix_list (pe_ix ix_list (pv 0) pe_int (fun _ _ => rfl)) (pe_un un_neg pe_int) (fun _ _ => rfl)) pe_int (nomark _)))))
        (pss_one (ps_expr (pe_bm0 PySem.F.plainAttrs_list PySem.F.slot_list_pop PySem.F.type_list_pop mt_pop (pe_ix ix_list (pv 0) pe_int (fun _ _ => rfl))))))
      (pss_cons (ps_if (pt_cmpR (op_neD hr.units) (pe_ix ix_list (pv 0) pe_int (fun _ _ => rfl)) (pe_lst pa_nil) (nomark _))
        (pss_cons (ps_set (i := 2) scAny.nd rfl (Or.inl rfl) (pe_callTy call_int1 (by rfl) T.int (by decide +kernel) (pa_cons (pe_bm0 PySem.F.plainAttrs_list PySem.F.slot_list_pop PySem.F.type_list_pop mt_pop (pe_ix ix_list (pv 0) pe_int (fun _ _ => rfl))) pa_nil)))
        (pss_cons (ps_expr (pe_bm PySem.F.plainAttrs_list PySem.F.slot_list_append PySem.F.type_list_append mt_append (pe_ix ix_list (pv 0) pe_int (fun _ _ => rfl)) (pa_cons (pe_op op_fdivW (pv 2) (pv 1)) pa_nil)))
        (pss_one (ps_ret (pe_op op_mod (pv 2) (pv 1))))))
        pss_nil)
      (pss_cons (ps_asg (pe_op op_mod (pe_callTy call_int1 (by rfl) T.int (by decide +kernel) (pa_cons (pe_op op_add (pe_op op_mul (pe_ix ix_list (pv 0) pe_int (fun _ _ => rfl)) pe_int) pe_int) pa_nil)) pe_int) (pg_sub (pv 0) pe_int set_list))
      (pss_one (ps_ret (pe_op op_mod (pe_callTy call_int1 (by rfl) T.int (by decide +kernel) (pa_cons (pe_op op_fdiv (pe_ix ix_list (pv 0) pe_int (fun _ _ => rfl)) pe_int) pa_nil)) (pv 1)))))), ?_⟩
    obtain ⟨cs0, b0, hd0, hc0, g0, l0, b1, b2⟩ := D.ex
    refine ⟨fun m σ H1 => ∃ (cs : List Int), σ = [some (.ref d), some (.int n), none] ∧ m = cs.length ∧ H1 d = some (.lst [.ref c, .int b0]) ∧ H1 c = some (.lst (cs.map V.int)) ∧ (∀ x ∈ cs, 0 ≤ x) ∧ cs.length ≤ 63 ∧ But d c H H1,
      ⟨cs0.length, cs0, rfl, rfl, hd0, hc0, g0, l0, But.refl⟩, ?_⟩
    rintro m σ H1 ⟨cs, rfl, rfl, hd, hc, g, l, bu⟩
    have dc : d ≠ c := by
      intro e
      subst e
      rw [hd] at hc
      have z := Option.some.inj hc
      injection z with z
      cases cs with
      | nil => cases z
      | cons x r => cases z
    -- deal[0] != []
    refine ⟨_, rfl, _, _, _, _, rfl, rfl, SqL.of hd, atI_nat (j := 0) rfl, Nat.zero_le _, fun p hp => ?_⟩
    have pd : d ≠ p := ne_of_none hd hp
    have pc : c ≠ p := ne_of_none hc hp
    have hd' : (upd H1 p (.lst [])) d = some (.lst [.ref c, .int b0]) := by rw [upd_ne pd]; exact hd
    have hc' : (upd H1 p (.lst [])) c = some (.lst (cs.map V.int)) := by rw [upd_ne pc]; exact hc
    have bu' : But d c H (upd H1 p (.lst [])) := fun q o hq n1 n2 => by
      have z := bu q o hq n1 n2
      rw [upd_ne (ne_of_none z hp)]
      exact z
    refine ⟨_, _, .lst (SqL.of hc') (dp_ints cs), .lst (SqL.of upd_same) .nil, shaped_ints cs, shaped_ints [], _, rfl, ?_⟩
    rcases List.eq_nil_or_concat cs with e | ⟨cs', x, e⟩
    · subst e
      refine iteF (iteF ?_)
      -- deal[0] != [] again: no
      refine ⟨_, rfl, _, _, _, _, rfl, rfl, SqL.of hd', atI_nat (j := 0) rfl, Nat.zero_le _, fun p2 hp2 => ?_⟩
      have qd : d ≠ p2 := ne_of_none hd' hp2
      have qc : c ≠ p2 := ne_of_none hc' hp2
      have hd2 : (upd (upd H1 p (.lst [])) p2 (.lst [])) d = some (.lst [.ref c, .int b0]) := by rw [upd_ne qd]; exact hd'
      have hc2 : (upd (upd H1 p (.lst [])) p2 (.lst [])) c = some (.lst []) := by rw [upd_ne qc]; exact hc'
      have bu2 : But d c H (upd (upd H1 p (.lst [])) p2 (.lst [])) := fun q o hq n1 n2 => by
        have z := bu' q o hq n1 n2
        rw [upd_ne (ne_of_none z hp2)]
        exact z
      refine ⟨_, _, .lst (SqL.of hc2) .nil, .lst (SqL.of upd_same) .nil, shaped_ints [], shaped_ints [], _, rfl, iteF ?_⟩
      -- deal[1] = int(deal[1] * 48271 + 41) % 2147483647
      generalize upd (upd H1 p (.lst [])) p2 (.lst []) = H3 at hd2 hc2 bu2 ⊢
      refine ⟨_, rfl, _, _, _, _, rfl, rfl, SqL.of hd2, atI_nat (j := 1) rfl, _, _, rfl, rfl, .inr ⟨by decide, by decide⟩, _, _, rfl, rfl, .inl ⟨_, rfl, _, _, rfl, rfl, (by show (0 : Int) < 2147483647; decide), ?_⟩⟩
      refine ⟨_, rfl, _, _, _, 1, rfl, rfl, hd2, rfl, ?_⟩
      refine ⟨_, rfl, _, _, _, _, rfl, rfl, SqL.of upd_same, atI_nat (j := 1) rfl, _, _, rfl, rfl, ⟨by decide, by decide⟩, .inl ⟨_, rfl, _, rfl, _, _, rfl, rfl, n0, ?_⟩⟩
      refine k _ _ (Int.emod_nonneg _ (by omega)) (Int.emod_lt_of_pos _ n0) ⟨[], _, upd_same, by rw [upd_ne (Ne.symm dc)]; exact hc2, by simp, by simp, Int.emod_nonneg _ (by decide), Int.emod_lt_of_pos _ (by decide)⟩ ?_
      intro q o hq n1 n2
      rw [upd_ne n1]
      exact bu2 q o hq n1 n2
    · rw [List.concat_eq_append] at e
      subst e
      have ec : (cs' ++ [x]).map V.int = cs'.map V.int ++ [V.int x] := by simp
      have e1 : PyData.eqv (.list ((cs' ++ [x]).map PyData.int)) (.list []) = false := by
        cases cs' with
        | nil => rfl
        | cons y r => rfl
      have gx : 0 ≤ x := g x (by simp)
      have lx : cs'.length + 1 ≤ 63 := by simpa using l
      rw [e1]
      refine iteT ?_
      -- deal[0][-1] == 0
      refine ⟨_, rfl, _, _, _, _, rfl, rfl, SqL.of hd', atI_nat (j := 0) rfl, _, rfl, _, _, _, _, rfl, rfl, SqL.of hc', last_at, rfl, _, rfl, ?_⟩
      by_cases hx : x = 0
      · subst hx
        refine iteT ?_
        refine ⟨fun σ' H' => σ' = [some (.ref d), some (.int n), none] ∧ H' d = some (.lst [.ref c, .int b0]) ∧ H' c = some (.lst (cs'.map V.int)) ∧ But d c H H', fun σ' H' ⟨e1, e2, e3, e4⟩ => ⟨cs'.length, by simp, cs', e1, rfl, e2, e3, fun y hy => g y (by simp [hy]), by omega, e4⟩, ?_⟩
        refine ⟨_, rfl, _, _, _, _, rfl, rfl, SqL.of hd', atI_nat (j := 0) rfl, .inl ⟨rfl, _, SqL.of hc'⟩, _, _, V.int 0, rfl, rfl, hc', (by rw [ec]; simp), rfl, ?_, ?_, ?_⟩
        · rw [upd_ne dc]
          exact hd'
        · rw [upd_same, ec, List.dropLast_concat]
        · intro q o hq n1 n2
          rw [upd_ne n2]
          exact bu' q o hq n1 n2
      · have dx : decide (V.int x = V.int 0) = false := decide_eq_false fun z => hx (V.int.inj z)
        rw [dx]
        refine iteF ?_
        -- deal[0] != []: yes
        refine ⟨_, rfl, _, _, _, _, rfl, rfl, SqL.of hd', atI_nat (j := 0) rfl, Nat.zero_le _, fun p2 hp2 => ?_⟩
        have qd : d ≠ p2 := ne_of_none hd' hp2
        have qc : c ≠ p2 := ne_of_none hc' hp2
        have hd2 : (upd (upd H1 p (.lst [])) p2 (.lst [])) d = some (.lst [.ref c, .int b0]) := by rw [upd_ne qd]; exact hd'
        have hc2 : (upd (upd H1 p (.lst [])) p2 (.lst [])) c = some (.lst ((cs' ++ [x]).map V.int)) := by rw [upd_ne qc]; exact hc'
        have bu2 : But d c H (upd (upd H1 p (.lst [])) p2 (.lst [])) := fun q o hq n1 n2 => by
          have z := bu' q o hq n1 n2
          rw [upd_ne (ne_of_none z hp2)]
          exact z
        refine ⟨_, _, .lst (SqL.of hc2) (dp_ints _), .lst (SqL.of upd_same) .nil, shaped_ints _, shaped_ints [], _, rfl, ?_⟩
        rw [e1]
        refine iteT ?_
        generalize upd (upd H1 p (.lst [])) p2 (.lst []) = H3 at hd2 hc2 bu2 ⊢
        -- rest = int(deal[0].pop())
        refine ⟨_, rfl, _, _, _, _, rfl, rfl, SqL.of hd2, atI_nat (j := 0) rfl, .inl ⟨rfl, _, SqL.of hc2⟩, _, _, .int x, rfl, rfl, hc2, (by rw [ec]; simp), .inl ⟨_, rfl, ?_⟩⟩
        have hd3 : ∀ o, (upd H3 c o) d = some (.lst [.ref c, .int b0]) := fun o => by rw [upd_ne dc]; exact hd2
        have ed : ((cs' ++ [x]).map V.int).dropLast = cs'.map V.int := by rw [ec, List.dropLast_concat]
        rw [ed]
        -- deal[0].append(rest // bound)
        refine ⟨_, rfl, _, _, _, _, rfl, rfl, SqL.of (hd3 _), atI_nat (j := 0) rfl, .inl ⟨rfl, _, SqL.of upd_same⟩, _, rfl, _, rfl, _, _, rfl, rfl, wide_div n0 (b := 31) (by omega) (by decide) (by decide), _, _, _, rfl, rfl, upd_same, small1000 (by simp; omega), ?_⟩
        refine ⟨_, rfl, _, rfl, _, _, rfl, rfl, n0, ?_⟩
        rw [upd_upd]
        refine k _ _ (Int.emod_nonneg _ (by omega)) (Int.emod_lt_of_pos _ n0) ⟨cs' ++ [x / n], b0, by rw [upd_ne dc]; exact hd2, by rw [upd_same]; simp, ?_, by simp; omega, b1, b2⟩ ?_
        · intro y hy
          rcases List.mem_append.mp hy with hy | hy
          · exact g y (by simp [hy])
          · rw [List.mem_singleton] at hy
            subst hy
            exact Int.ediv_nonneg gx (by omega)
        · intro q o hq n1 n2
          rw [upd_ne n2]
          exact bu2 q o hq n1 n2
end
end Km

namespace Km
open PySem L2
/-- _law_of(deal, some), some a list at a | a text -/
def spOf : Sp := fun vs H Q _ => ∃ (d c : Addr), DealAt H d c ∧
  ((∃ (a : Addr) (xs : List V), vs = [.ref d, .ref a] ∧ H a = some (.lst xs) ∧ a ≠ d ∧ a ≠ c ∧ 0 < xs.length ∧ xs.length < 1000000 ∧
      ∀ (v : V) (H' : Hp), v ∈ xs → DealAt H' d c → But d c H H' → Q v H') ∨
    (∃ z : Str, vs = [.ref d, .str z] ∧ 0 < z.length ∧ z.length < 1000000 ∧ ∀ (ch : Nat) (H' : Hp), ch ∈ z.cps.toList → DealAt H' d c → But d c H H' → Q (.str ⟨#[ch]⟩) H'))
theorem scOf : FnScope ["deal", "some"] ["deal", "some"] (defScope sOf) := ⟨rfl, rfl, rfl, by decide +kernel, rfl, by decide +kernel, by decide +kernel⟩
structure OfTxt (K : PySem.W.Frag) (mg : Str → Option Value) (fAny : Addr) : Prop where
  len : mg "len" = none
  any : mg "_law_any" = some (.ref fAny)
  kAny : PySem.W.keepIn K (.ref fAny) = true
section
variable {P : Program} {w : World} {K : PySem.W.Frag} {mg : Str → Option Value} {base : Heap}
theorem ok_of {f fA : Addr} {fd fdA : FuncData} (F : Fun K "_law_of" "_law_of" sOf f fd) (T : OfTxt K mg fA) (G : FnOk P w K mg base CX0 1 fA fdA ["deal", "bound"] spAny) (bA : Binds K fdA ["deal", "bound"] []) :
    FnOk P w K mg base CX0 2 f fd ["deal", "some"] spOf := by
  refine F.ok scOf (fun vs H Q E h => ?_) (fun cdv A outer s H vs Q E hr h => ?_)
  · obtain ⟨d, c, _, ⟨a, xs, rfl, _⟩ | ⟨z, rfl, _⟩⟩ := h <;> rfl
  · obtain ⟨d, c, D, h⟩ := h
    rcases h with ⟨a, xs, rfl, ha, nd, nc, l0, l1, k⟩ | ⟨z, rfl, l0, l1, k⟩
    · refine ⟨_, pss_one (ps_ret (pe_ix ix_list (pv 1) (pe_call G hr rfl T.any T.kAny bA .nil pass0 (pa_cons (pv 0) (pa_cons (pe_callB call_len_seq (by rfl) T.len PySem.boot_len (pa_cons (pv 1) pa_nil)) pa_nil))) (fun _ _ => rfl))), ?_⟩
      refine ⟨_, rfl, _, rfl, _, rfl, _, _, rfl, .inl (SqL.of ha), d, c, _, rfl, D, by omega, by omega, fun r H' r0 r1 D' bu => ?_⟩
      have ha' := bu a _ ha nd nc
      obtain ⟨j, rfl⟩ := Int.eq_ofNat_of_zero_le r0
      have hj : j < xs.length := by omega
      refine ⟨_, _, _, xs[j], rfl, rfl, SqL.of ha', atI_nat (by simp [hj]), k _ _ (List.getElem_mem hj) D' bu⟩
    · refine ⟨_, pss_one (ps_ret (pe_ix ix_str (pv 1) (pe_call G hr rfl T.any T.kAny bA .nil pass0 (pa_cons (pv 0) (pa_cons (pe_callB call_len_str (by rfl) T.len PySem.boot_len (pa_cons (pv 1) pa_nil)) pa_nil))) (fun _ _ => rfl))), ?_⟩
      refine ⟨_, rfl, _, rfl, _, rfl, _, rfl, (by show z.length ≤ sizeLine; rw [sizeLine_eq]; omega), d, c, _, rfl, D, by omega, by omega, fun r H' r0 r1 D' bu => ?_⟩
      obtain ⟨j, rfl⟩ := Int.eq_ofNat_of_zero_le r0
      have hz : z.length = z.cps.toList.length := by
        show z.cps.size = _
        simp
      have hj : j < z.cps.toList.length := by omega
      refine ⟨_, _, z.cps.toList[j], rfl, rfl, (by show z.length ≤ sizeLine; rw [sizeLine_eq]; omega), atI_nat (by rw [List.getElem?_eq_getElem hj]), k _ _ (List.getElem_mem hj) D' bu⟩
end
end Km

namespace Km
open PySem L2
def spDeal (K : PySem.W.Frag) : Sp := fun vs H Q _ => ∃ (a : Addr) (ns : List Int), vs = [.ref a, .int 34] ∧ SqL K H a (ns.map V.int) ∧ ns.length ≤ 63 ∧
  ∀ (d c : Addr) (H' : Hp), DealAt H' d c → Same H H' → H d = none → H c = none → Q (.ref d) H'
theorem scDeal : FnScope ["script", "base", "cells", "mix", "cell"] ["script", "base"] (defScope sDeal) := ⟨rfl, rfl, rfl, by decide +kernel, rfl, by decide +kernel, by decide +kernel⟩
structure DealTxt (K : PySem.W.Frag) (mg : Str → Option Value) : Prop where
  int : mg "int" = none
  abs : mg "abs" = none
def absI (i : Int) : Int := if i < 0 then -i else i
theorem absI_nn (i : Int) : 0 ≤ absI i := by unfold absI; split <;> omega
theorem take_more {α : Type} : ∀ {l : List α} {i : Nat} {x : α}, l[i]? = some x → l.take (i + 1) = l.take i ++ [x]
  | [], i, x, h => by simp at h
  | a :: l, 0, x, h => by
    have e : a = x := Option.some.inj h
    subst e
    rfl
  | a :: l, i + 1, x, h => by
    have ih := take_more (l := l) (i := i) (x := x) h
    show a :: l.take (i + 1) = a :: l.take i ++ [x]
    rw [ih]
    rfl
theorem cut_ints (ns : List Int) (lo hi : Option Int) : ∃ ms : List Int, cutV (ns.map V.int) lo hi = ms.map V.int ∧ ms.length ≤ ns.length := by
  refine ⟨(ns.drop (HT.sIx (ns.map V.int).length 0 lo)).take (HT.sIx (ns.map V.int).length (ns.map V.int).length hi - HT.sIx (ns.map V.int).length 0 lo), ?_, ?_⟩
  · unfold cutV
    simp [List.map_take, List.map_drop]
  · rw [List.length_take, List.length_drop]
    omega
theorem map_at {l : List Int} {i : Nat} {x : V} (h : (l.map V.int)[i]? = some x) : ∃ z, l[i]? = some z ∧ x = V.int z := by
  rw [List.getElem?_map] at h
  cases e : l[i]? with
  | none =>
    rw [e] at h
    cases h
  | some z =>
    rw [e] at h
    exact ⟨z, rfl, (Option.some.inj h).symm⟩
section
variable {P : Program} {w : World} {K : PySem.W.Frag} {mg : Str → Option Value} {base : Heap}
theorem ok_deal {f : Addr} {fd : FuncData} (F : Fun K "_law_deal" "_law_deal" sDeal f fd) (T : DealTxt K mg) : FnOk P w K mg base CX0 1 f fd ["script", "base"] (spDeal K) := by
  refine F.ok scDeal (fun vs H Q E h => ?_) (fun cdv A outer s H vs Q E hr h => ?_)
  · obtain ⟨a, ns, rfl, _⟩ := h
    rfl
  · obtain ⟨a, ns, rfl, hS, l, k⟩ := h
    refine ⟨_, pss_cons (ps_setLc (i := 2) (own := [("cell", 4)]) (g := gName 4) (tt := tYes) (by rfl) scDeal.nd rfl rfl (sw_true rfl rfl rfl (by decide +kernel)) (pi_list (pe_slice sl_list (pv 0) po_none (po_some pe_int)))
        (blkOk_by (own := [("cell", 4)]) (N := ["script", "base", "cells", "mix", "cell"]) (sc := defScope sDeal) (by decide +kernel)) (fun _ _ _ _ _ => pg_name (i := 4) scDeal.nd rfl (Or.inl rfl)) (fun _ _ _ _ _ => pts_nil)
        (fun _ _ _ _ _ => pe_callB call_abs (by rfl) T.abs (by decide +kernel) (pa_cons (pe_callTy call_int1 (by rfl) T.int (by decide +kernel) (pa_cons (pv 4) pa_nil)) pa_nil)))
      (pss_cons (ps_set (i := 3) scDeal.nd rfl (Or.inl rfl) (pe_op op_add (pe_op op_mul pe_int (pv 1)) pe_int))
      (pss_cons (ps_for PassesOwn.never rfl (pi_list (pv 2)) (pg_name (i := 4) scDeal.nd rfl (Or.inl rfl))
        (pss_one (ps_set (i := 3) scDeal.nd rfl (Or.inl rfl) (pe_op op_mod (pe_callTy call_int1 (by rfl) T.int (by decide +kernel) (pa_cons (pe_op op_add (pe_op op_add (pe_op op_mul (pv 3) pe_int) (pe_op op_mod (pv 4) pe_int)) pe_int) pa_nil)) pe_int))))
      (pss_one (ps_ret (pe_lst (pa_cons (pe_revL (pe_lc (own := [("cell", 4)]) (g := gName 4) (by rfl) scDeal.nd (pi_list (pv 2))
          (blkOk_by (own := [("cell", 4)]) (N := ["script", "base", "cells", "mix", "cell"]) (sc := defScope sDeal) (by decide +kernel)) (fun _ _ _ _ _ => pg_name (i := 4) scDeal.nd rfl (Or.inl rfl))
          (fun _ _ _ _ _ => pts_one (pt_cmpR op_ge (pv 4) (pe_op op_pow pe_int pe_int) (nomark _))) (fun _ _ _ _ _ => pv 4))) (pa_cons (pv 3) pa_nil))))))), ?_⟩
    obtain ⟨ms, em, lm⟩ := cut_ints ns none (some 63)
    refine ⟨_, rfl, 63, rfl, _, _, rfl, hS, fun p hp => ⟨p, rfl, ⟨_, SqL.of upd_same⟩, fun D hD => ?_⟩⟩
    have pD : p ≠ D := ne_of_none upd_same hD
    have hD0 : H D = none := by
      have z := hD
      rw [upd_ne (Ne.symm pD)] at z
      exact z
    rw [em] at hD ⊢
    refine lc_list (K := K) (a := p) (xs := ms.map V.int) (fun i H1 => Same H H1 ∧ H1 p = some (.lst (ms.map V.int)) ∧ H1 D = some (.lst (((ms.take i).map absI).map V.int))) ⟨?_, ?_, upd_same⟩ (fun i H1 _ q => SqL.of q.2.1) ?_ ?_
    · intro q o hq
      rw [upd_ne (ne_of_none hq hD0), upd_ne (ne_of_none hq hp)]
      exact hq
    · rw [upd_ne pD, upd_same]
    · rintro i x H1 hx ⟨q1, q2, q3⟩
      obtain ⟨z, hz, rfl⟩ := map_at hx
      have li : i < ms.length := (List.getElem?_eq_some_iff.mp hz).1
      refine ⟨rfl, ?_⟩
      refine ⟨_, rfl, .inl ⟨_, rfl, _, rfl, _, q3, small1000 (by simp; omega), ?_, ?_, ?_⟩⟩
      · intro q o hq
        rw [upd_ne (ne_of_none hq hD0)]
        exact q1 q o hq
      · rw [upd_ne pD]
        exact q2
      · rw [upd_same, take_more hz]
        simp [absI]
    · rintro H1 ⟨q1, q2, q3⟩
      rw [List.length_map, List.take_length] at q3
      have gc : ∀ x ∈ ms.map absI, 0 ≤ x := fun x hx => by
        obtain ⟨y, _, rfl⟩ := List.mem_map.mp hx
        exact absI_nn y
      have lc : (ms.map absI).length ≤ 63 := by rw [List.length_map]; omega
      generalize ms.map absI = cs at q3 gc lc
      -- the blend
      refine ⟨_, rfl, _, _, rfl, rfl, .inl ⟨by decide, by decide⟩, _, _, rfl, rfl, _, rfl, D, rfl, ⟨_, SqL.of q3⟩, for_list (K := K) (a := D) (xs := cs.map V.int) (fun i σ H2 => ∃ (b : Int) (v : Option V), σ = [some (.ref a), some (.int 34), some (.ref D), some (.int b), v] ∧ H2 = H1 ∧ 0 ≤ b ∧ b < 2147483647)
        ⟨40127 * 34 + 863, none, rfl, rfl, by decide, by decide⟩ (fun i σ H2 _ ⟨_, _, _, e, _⟩ => by rw [e]; exact SqL.of q3) ?_ ?_⟩
      · rintro i x σ H2 hx ⟨b, v, rfl, rfl, b0, b1⟩
        obtain ⟨z, hz, rfl⟩ := map_at hx
        refine ⟨_, rfl, _, _, rfl, rfl, .inr ⟨by decide, by decide⟩, _, rfl, _, _, rfl, rfl, (by show (0 : Int) < 2147483579; decide), _, _, rfl, rfl, _, _, rfl, rfl, .inl ⟨_, rfl, _, _, rfl, rfl, (by show (0 : Int) < 2147483647; decide), ?_⟩⟩
        exact ⟨_, _, rfl, rfl, Int.emod_nonneg _ (by decide), Int.emod_lt_of_pos _ (by decide)⟩
      · rintro σ H2 ⟨b, v, rfl, rfl, b0, b1⟩
        refine ⟨_, rfl, D, rfl, ⟨_, SqL.of q3⟩, fun D2 hD2 => ?_⟩
        have n2 : D ≠ D2 := ne_of_none q3 hD2
        refine lc_list (K := K) (a := D) (xs := cs.map V.int) (fun i H3 => ∃ fs : List Int, Same H2 H3 ∧ H3 D2 = some (.lst (fs.map V.int)) ∧ (∀ x ∈ fs, 0 ≤ x) ∧ fs.length ≤ i) ⟨[], fun q o hq => by rw [upd_ne (ne_of_none hq hD2)]; exact hq, upd_same, by simp, by simp⟩
          (fun i H3 _ ⟨_, s3, _⟩ => SqL.of (s3 _ _ q3)) ?_ ?_
        · rintro i x H3 hx ⟨fs, s3, f3, g3, l3⟩
          obtain ⟨z, hz, rfl⟩ := map_at hx
          have li : i < cs.length := (List.getElem?_eq_some_iff.mp hz).1
          refine ⟨rfl, _, rfl, _, _, rfl, rfl, ⟨by decide, by decide, by decide⟩, _, _, rfl, rfl, _, rfl, ?_⟩
          refine ite2 (fun _ => ?_) (fun _ => ?_)
          · refine ⟨_, rfl, _, f3, small1000 (by simp; omega), fs ++ [z], ?_, ?_, ?_, ?_⟩
            · intro q o hq
              rw [upd_ne (ne_of_none hq hD2)]
              exact s3 q o hq
            · rw [upd_same]
              simp
            · intro y hy
              rcases List.mem_append.mp hy with hy | hy
              · exact g3 y hy
              · rw [List.mem_singleton] at hy
                subst hy
                exact gc _ (List.mem_of_getElem? hz)
            · simp
              omega
          · exact ⟨fs, s3, f3, g3, by omega⟩
        · rintro H3 ⟨fs, s3, f3, g3, l3⟩
          rw [List.length_map] at l3
          refine ⟨D2, _, rfl, SqL.of f3, fun r hr => ⟨_, rfl, (by show 2 ≤ sizeLine; decide), fun t ht => ?_⟩⟩
          have nt : r ≠ t := ne_of_none upd_same ht
          have s4 : Same H (upd (upd H3 r (.lst (fs.map V.int).reverse)) t (.lst [.ref r, .int b])) := fun q o hq => by
            have z := s3 _ _ (q1 q o hq)
            have zr := ne_of_none z hr
            rw [upd_ne (ne_of_none (by rw [upd_ne zr]; exact z) ht), upd_ne zr]
            exact z
          refine k t r _ ⟨fs.reverse, b, upd_same, ?_, ?_, ?_, b0, b1⟩ s4 ?_ ?_
          · rw [upd_ne nt, upd_same, List.map_reverse]
          · intro x hx
            exact g3 x (List.mem_reverse.mp hx)
          · rw [List.length_reverse]
            omega
          · have ht3 : H3 t = none := by
              have z := ht
              rw [upd_ne (Ne.symm nt)] at z
              exact z
            exact (q1.trans s3).free ht3
          · exact (q1.trans s3).free hr
end
end Km

/-! data whose objects stand still: all but the cells N that may change -/
namespace Km
open PySem L2
/-- tracked -/
def Trk (H : Hp) : Addr → Prop := fun a => ∃ o, H a = some o
/-- what is no cell of N stays -/
def Bt (N : Addr → Prop) (H H' : Hp) : Prop := ∀ a o, ¬ N a → H a = some o → H' a = some o
theorem Bt.refl {N : Addr → Prop} {H : Hp} : Bt N H H := fun _ _ _ h => h
theorem Bt.trans {N : Addr → Prop} {H H1 H2 : Hp} (a : Bt N H H1) (b : Bt N H1 H2) : Bt N H H2 := fun q o n h => b q o n (a q o n h)
theorem Bt.mono {N N' : Addr → Prop} {H H' : Hp} (b : Bt N' H H') (h : ∀ a, N' a → N a) : Bt N H H' := fun q o n e => b q o (fun z => n (h _ z)) e
theorem Bt.same {N : Addr → Prop} {H H' : Hp} (s : Same H H') : Bt N H H' := fun q o _ h => s q o h
theorem Bt.new {N : Addr → Prop} {H H1 : Hp} {l : Addr} {o : HO} (b : Bt N H H1) (hl : H1 l = none) : Bt N H (upd H1 l o) := fun q u n e => by
  have z := b q u n e
  rw [upd_ne (ne_of_none z hl)]
  exact z
theorem Bt.cell {N : Addr → Prop} {H H1 : Hp} {l : Addr} {o : HO} (b : Bt N H H1) (hl : N l) : Bt N H (upd H1 l o) := fun q u n e => by
  have z := b q u n e
  have ne : q ≠ l := fun h => n (by rw [h]; exact hl)
  rw [upd_ne ne]
  exact z
theorem _root_.L2.Same.new {H H1 : Hp} {l : Addr} {o : HO} (b : Same H H1) (hl : H1 l = none) : Same H (upd H1 l o) := fun q u e => by
  have z := b q u e
  rw [upd_ne (ne_of_none z hl)]
  exact z
theorem _root_.L2.Same.cell {H H1 : Hp} {l : Addr} {o : HO} (b : Same H H1) (hl : H l = none) : Same H (upd H1 l o) := fun q u e => by
  have z := b q u e
  rw [upd_ne (ne_of_none e hl)]
  exact z
theorem Trk.same {H H' : Hp} (s : Same H H') {a : Addr} (h : Trk H a) : Trk H' a := by
  obtain ⟨o, e⟩ := h
  exact ⟨o, s a o e⟩
/-- a tuple of the text's own -/
def KTup (K : PySem.W.Frag) (a : Addr) (xs : List V) : Prop := ∃ (o : Obj) (its : Array Value) (n : Nat), K.lookup a = some o ∧ o.cls = .type "tuple" ∧ o.data = .seq its n ∧ its.size ≤ sizeLine ∧ Vals xs its.toList
theorem KTup.sq {K : PySem.W.Frag} {H : Hp} {a : Addr} {xs : List V} (h : KTup K a xs) : SqT K H a xs := .inr h
mutual
inductive Dm (K : PySem.W.Frag) (N : Addr → Prop) (H : Hp) : V → PyData → Prop
  | non : Dm K N H .non .none
  | bl (b : Bool) : Dm K N H (.bl b) (.bool b)
  | int (i : Int) : Dm K N H (.int i) (.int i)
  | str (x : Str) : Dm K N H (.str x) (.str x)
  | lst {a : Addr} {xs : List V} {ds : List PyData} : H a = some (.lst xs) → ¬ N a → DmAll K N H xs ds → Dm K N H (.ref a) (.list ds)
  | tup {a : Addr} {xs : List V} {ds : List PyData} : H a = some (.tup xs) → ¬ N a → DmAll K N H xs ds → Dm K N H (.ref a) (.tuple ds)
  | con {a : Addr} {xs : List V} {ds : List PyData} : KTup K a xs → DmAll K N H xs ds → Dm K N H (.ref a) (.tuple ds)
inductive DmAll (K : PySem.W.Frag) (N : Addr → Prop) (H : Hp) : List V → List PyData → Prop
  | nil : DmAll K N H [] []
  | cons {v : V} {vs : List V} {d : PyData} {ds : List PyData} : Dm K N H v d → DmAll K N H vs ds → DmAll K N H (v :: vs) (d :: ds)
end
section
variable {K : PySem.W.Frag}
mutual
theorem Dm.mono {N N' : Addr → Prop} {H H' : Hp} (hn : ∀ a, Trk H a → N' a → N a) (hh : Bt N H H') : ∀ (d : PyData) (v : V), Dm K N H v d → Dm K N' H' v d
  | .none, _, h => by
    cases h
    exact .non
  | .bool b, _, h => by
    cases h
    exact .bl b
  | .int i, _, h => by
    cases h
    exact .int i
  | .str x, _, h => by
    cases h
    exact .str x
  | .list ds, _, h => by
    cases h with
    | lst e n a => exact .lst (hh _ _ n e) (fun z => n (hn _ ⟨_, e⟩ z)) (DmAll.mono hn hh ds _ a)
  | .tuple ds, _, h => by
    cases h with
    | tup e n a => exact .tup (hh _ _ n e) (fun z => n (hn _ ⟨_, e⟩ z)) (DmAll.mono hn hh ds _ a)
    | con e a => exact .con e (DmAll.mono hn hh ds _ a)
  | .dict _, _, h => by cases h
theorem DmAll.mono {N N' : Addr → Prop} {H H' : Hp} (hn : ∀ a, Trk H a → N' a → N a) (hh : Bt N H H') : ∀ (ds : List PyData) (vs : List V), DmAll K N H vs ds → DmAll K N' H' vs ds
  | [], _, h => by
    cases h
    exact .nil
  | d :: ds, _, h => by
    cases h with
    | cons a b => exact .cons (Dm.mono hn hh d _ a) (DmAll.mono hn hh ds _ b)
end
mutual
theorem Dm.dp {N : Addr → Prop} {H : Hp} : ∀ (d : PyData) (v : V), Dm K N H v d → Dp K H v d
  | .none, _, h => by
    cases h
    exact .non
  | .bool b, _, h => by
    cases h
    exact .bl b
  | .int i, _, h => by
    cases h
    exact .int i
  | .str x, _, h => by
    cases h
    exact .str x
  | .list ds, _, h => by
    cases h with
    | lst e n a => exact .lst (SqL.of e) (DmAll.dp ds _ a)
  | .tuple ds, _, h => by
    cases h with
    | tup e n a => exact .tup (SqT.of e) (DmAll.dp ds _ a)
    | con e a => exact .tup e.sq (DmAll.dp ds _ a)
  | .dict _, _, h => by cases h
theorem DmAll.dp {N : Addr → Prop} {H : Hp} : ∀ (ds : List PyData) (vs : List V), DmAll K N H vs ds → DpAll K H vs ds
  | [], _, h => by
    cases h
    exact .nil
  | d :: ds, _, h => by
    cases h with
    | cons a b => exact .cons (Dm.dp d _ a) (DmAll.dp ds _ b)
end
variable {N : Addr → Prop} {H : Hp}
theorem Dm.up {d : PyData} {v : V} {H' : Hp} (h : Dm K N H v d) (b : Bt N H H') : Dm K N H' v d := Dm.mono (fun _ _ z => z) b _ _ h
theorem DmAll.up {ds : List PyData} {vs : List V} {H' : Hp} (h : DmAll K N H vs ds) (b : Bt N H H') : DmAll K N H' vs ds := DmAll.mono (fun _ _ z => z) b _ _ h
theorem DmAll.app : ∀ {vs ws : List V} {ds es : List PyData}, DmAll K N H vs ds → DmAll K N H ws es → DmAll K N H (vs ++ ws) (ds ++ es)
  | _, _, _, _, .nil, h => h
  | _, _, _, _, .cons a b, h => .cons a (DmAll.app b h)
theorem DmAll.snoc {vs : List V} {ds : List PyData} {w : V} {e : PyData} (h : DmAll K N H vs ds) (x : Dm K N H w e) : DmAll K N H (vs ++ [w]) (ds ++ [e]) := h.app (.cons x .nil)
theorem DmAll.len : ∀ {vs : List V} {ds : List PyData}, DmAll K N H vs ds → vs.length = ds.length
  | _, _, .nil => rfl
  | _, _, .cons _ b => by rw [List.length_cons, List.length_cons, DmAll.len b]
theorem DmAll.get : ∀ {vs : List V} {ds : List PyData} {i : Nat} {d : PyData}, DmAll K N H vs ds → ds[i]? = some d → ∃ v, vs[i]? = some v ∧ Dm K N H v d
  | _, _, i, d, .nil, h => by simp at h
  | _, _, 0, d, .cons a b, h => by
    have e := Option.some.inj h
    subst e
    exact ⟨_, rfl, a⟩
  | _, _, i + 1, d, .cons a b, h => DmAll.get (i := i) b h
theorem DmAll.getV : ∀ {vs : List V} {ds : List PyData} {i : Nat} {v : V}, DmAll K N H vs ds → vs[i]? = some v → ∃ d, ds[i]? = some d ∧ Dm K N H v d
  | _, _, i, d, .nil, h => by simp at h
  | _, _, 0, d, .cons a b, h => by
    have e := Option.some.inj h
    subst e
    exact ⟨_, rfl, a⟩
  | _, _, i + 1, d, .cons a b, h => DmAll.getV (i := i) b h
theorem DmAll.take : ∀ {vs : List V} {ds : List PyData} (i : Nat), DmAll K N H vs ds → DmAll K N H (vs.take i) (ds.take i)
  | _, _, _, .nil => by simp; exact .nil
  | _, _, 0, .cons a b => .nil
  | _, _, i + 1, .cons a b => .cons a (DmAll.take i b)
theorem DmAll.drop : ∀ {vs : List V} {ds : List PyData} (i : Nat), DmAll K N H vs ds → DmAll K N H (vs.drop i) (ds.drop i)
  | _, _, _, .nil => by simp; exact .nil
  | _, _, 0, .cons a b => .cons a b
  | _, _, i + 1, .cons a b => DmAll.drop i b
theorem DmAll.rev : ∀ {vs : List V} {ds : List PyData}, DmAll K N H vs ds → DmAll K N H vs.reverse ds.reverse
  | _, _, .nil => .nil
  | _, _, .cons a b => by
    rw [List.reverse_cons, List.reverse_cons]
    exact (DmAll.rev b).snoc a
/-- the tuple behind data that is one -/
theorem Dm.seqT {v : V} {ds : List PyData} (h : Dm K N H v (.tuple ds)) : ∃ a xs, v = .ref a ∧ SqT K H a xs ∧ DmAll K N H xs ds := by
  cases h with
  | tup e n a => exact ⟨_, _, rfl, SqT.of e, a⟩
  | con e a => exact ⟨_, _, rfl, e.sq, a⟩
/-- a tuple that stands -/
def Tp (K : PySem.W.Frag) (N : Addr → Prop) (H : Hp) (a : Addr) (xs : List V) : Prop := (H a = some (.tup xs) ∧ ¬ N a) ∨ KTup K a xs
theorem Tp.sq {a : Addr} {xs : List V} (h : Tp K N H a xs) : SqT K H a xs := h.elim (fun z => SqT.of z.1) fun z => z.sq
theorem Tp.up {H' : Hp} {a : Addr} {xs : List V} (h : Tp K N H a xs) (b : Bt N H H') : Tp K N H' a xs := h.elim (fun z => .inl ⟨b _ _ z.2 z.1, z.2⟩) .inr
theorem Tp.ty {a : Addr} {xs : List V} (h : Tp K N H a xs) : TyX K H (.ref a) (.type "tuple") := h.elim (fun z => .base (.tup z.1)) fun ⟨_, _, _, h1, h2, _⟩ => .kTuple h1 h2
theorem Dm.seq {v : V} {ds : List PyData} (h : Dm K N H v (.tuple ds)) : ∃ a xs, v = .ref a ∧ Tp K N H a xs ∧ DmAll K N H xs ds := by
  cases h with
  | tup e n a => exact ⟨_, _, rfl, .inl ⟨e, n⟩, a⟩
  | con e a => exact ⟨_, _, rfl, .inr e, a⟩
/-- a pair of a text and another thing -/
theorem Dm.pair {v : V} {x : Str} {d : PyData} (h : Dm K N H v (.tuple [.str x, d])) : ∃ a y, v = .ref a ∧ Tp K N H a [.str x, y] ∧ Dm K N H y d := by
  obtain ⟨a, xs, e, t, al⟩ := h.seq
  cases al with
  | cons h1 r =>
    cases r with
    | cons h2 r =>
      cases r
      cases h1
      exact ⟨a, _, e, t, h2⟩
theorem Dm.strV {v : V} {z : Str} (h : Dm K N H v (.str z)) : v = .str z := by
  cases h
  rfl
/-- the name of the type -/
def tyN : PyData → String
  | .none => "NoneType"
  | .bool _ => "bool"
  | .int _ => "int"
  | .str _ => "str"
  | .list _ => "list"
  | .tuple _ => "tuple"
  | .dict _ => "dict"
theorem Dm.ty {v : V} {d : PyData} (h : Dm K N H v d) : TyX K H v (.type (tyN d)) := by
  cases h with
  | non => exact .base .non
  | bl b => exact .base (.bl b)
  | int i => exact .base (.int i)
  | str x => exact .base (.str x)
  | lst e n a => exact .base (.lst e)
  | tup e n a => exact .base (.tup e)
  | con e a =>
    obtain ⟨o, its, n, h1, h2, _⟩ := e
    exact .kTuple h1 h2
def isTup : PyData → Bool
  | .tuple _ => true
  | _ => false
def isStr : PyData → Bool
  | .str _ => true
  | _ => false
theorem kit_tup (d : PyData) : PySem.W.kitOne K (.type (tyN d)) (.type "tuple") = some (isTup d) := by
  cases d
  · exact kit_ty (a := "NoneType") (b := "tuple") (r := false) (by decide +kernel)
  · exact kit_ty (a := "bool") (b := "tuple") (r := false) (by decide +kernel)
  · exact kit_ty (a := "int") (b := "tuple") (r := false) (by decide +kernel)
  · exact kit_ty (a := "str") (b := "tuple") (r := false) (by decide +kernel)
  · exact kit_ty (a := "list") (b := "tuple") (r := false) (by decide +kernel)
  · exact kit_ty (a := "tuple") (b := "tuple") (r := true) (by decide +kernel)
  · exact kit_ty (a := "dict") (b := "tuple") (r := false) (by decide +kernel)
theorem kit_str (d : PyData) : PySem.W.kitOne K (.type (tyN d)) (.type "str") = some (isStr d) := by
  cases d
  · exact kit_ty (a := "NoneType") (b := "str") (r := false) (by decide +kernel)
  · exact kit_ty (a := "bool") (b := "str") (r := false) (by decide +kernel)
  · exact kit_ty (a := "int") (b := "str") (r := false) (by decide +kernel)
  · exact kit_ty (a := "str") (b := "str") (r := true) (by decide +kernel)
  · exact kit_ty (a := "list") (b := "str") (r := false) (by decide +kernel)
  · exact kit_ty (a := "tuple") (b := "str") (r := false) (by decide +kernel)
  · exact kit_ty (a := "dict") (b := "str") (r := false) (by decide +kernel)
theorem Dm.tupV {v : V} {d : PyData} (h : Dm K N H v d) (e : isTup d = true) : ∃ ds, d = .tuple ds := by
  cases d <;> first | exact ⟨_, rfl⟩ | cases e
end
/-! documents -/
inductive Doc where
  | txt (z : Str)
  | nod (x : Str) (ts : List Doc)
def mOpen (x : Str) : PyData := .tuple [.str "open", .str x]
def mText (z : Str) : PyData := .tuple [.str "text", .str z]
def mClose : PyData := .tuple [.str "close"]
mutual
def Doc.dat : Doc → PyData
  | .txt z => .str z
  | .nod x ts => .tuple [.str x, .tuple (datAll ts)]
def datAll : List Doc → List PyData
  | [] => []
  | t :: ts => t.dat :: datAll ts
end
mutual
def Doc.marks : Doc → List PyData
  | .txt z => [mText z]
  | .nod x ts => mOpen x :: (marksAll ts ++ [mClose])
def marksAll : List Doc → List PyData
  | [] => []
  | t :: ts => t.marks ++ marksAll ts
end
theorem datAll_map : ∀ ts : List Doc, datAll ts = ts.map Doc.dat
  | [] => rfl
  | t :: ts => by
    unfold datAll
    rw [datAll_map ts]
    rfl
theorem datAll_length (ts : List Doc) : (datAll ts).length = ts.length := by rw [datAll_map, List.length_map]
theorem marks_pos (t : Doc) : 0 < t.marks.length := by
  cases t <;> unfold Doc.marks <;> simp
theorem marksAll_app : ∀ ts us : List Doc, marksAll (ts ++ us) = marksAll ts ++ marksAll us
  | [], us => rfl
  | t :: ts, us => by
    show t.marks ++ marksAll (ts ++ us) = (t.marks ++ marksAll ts) ++ marksAll us
    rw [marksAll_app ts us, List.append_assoc]
theorem marksAll_len : ∀ ts : List Doc, ts.length ≤ (marksAll ts).length
  | [] => Nat.le_refl _
  | t :: ts => by
    show ts.length + 1 ≤ (t.marks ++ marksAll ts).length
    have h1 := marks_pos t
    have h2 := marksAll_len ts
    rw [List.length_append]
    omega
end Km

/-! marks_of -/
namespace Km
open PySem L2 Xr
abbrev sMarksOf : Stmt := top 14
theorem scMarksOf : FnScope ["node", "waiting", "marks", "thing"] ["node"] (defScope sMarksOf) := ⟨rfl, rfl, rfl, by decide +kernel, rfl, by decide +kernel, by decide +kernel⟩
/-- marks_of(node) -/
def spMarksOf (K : PySem.W.Frag) : Sp := fun vs H Q _ => ∃ (v : V) (t : Doc) (N : Addr → Prop), vs = [v] ∧ (∀ a, N a → Trk H a) ∧ Dm K N H v t.dat ∧ t.marks.length ≤ 900 ∧
  ∀ (u : V) (H' : Hp), Dm K N H' u (.tuple t.marks) → Same H H' → Q u H'
structure MarksOfTxt (K : PySem.W.Frag) (mg : Str → Option Value) (a_CLOSE : Addr) : Prop where
  n_tuple : mg "tuple" = none
  n_isinstance : mg "isinstance" = none
  n_str : mg "str" = none
  g_CLOSE : mg "CLOSE" = some (.ref a_CLOSE)
  con : KTup K a_CLOSE [.str "close"]
/-- what waits: a node's end, or a thing -/
def wDat : Option Doc → PyData
  | none => .none
  | some t => t.dat
def wMarks : List (Option Doc) → List PyData
  | [] => []
  | none :: w => mClose :: wMarks w
  | some t :: w => t.marks ++ wMarks w
theorem wMarks_docs (ts : List Doc) (w : List (Option Doc)) : wMarks (ts.map some ++ w) = marksAll ts ++ wMarks w := by
  induction ts with
  | nil => rfl
  | cons t ts ih =>
    show t.marks ++ wMarks (ts.map some ++ w) = (t.marks ++ marksAll ts) ++ wMarks w
    rw [ih, List.append_assoc]
theorem wMarks_len : ∀ w : List (Option Doc), w.length ≤ (wMarks w).length
  | [] => Nat.le_refl _
  | none :: w => by
    show w.length + 1 ≤ (wMarks w).length + 1
    have := wMarks_len w
    omega
  | some t :: w => by
    show w.length + 1 ≤ (t.marks ++ wMarks w).length
    have h1 := marks_pos t
    have h2 := wMarks_len w
    rw [List.length_append]
    omega
/-- the cells of a call: W, M besides N -/
def N2 (N : Addr → Prop) (W M : Addr) : Addr → Prop := fun a => N a ∨ a = W ∨ a = M
def MInv (K : PySem.W.Frag) (N : Addr → Prop) (W M : Addr) (H : Hp) (t : Doc) (v : V) (m : Nat) (σ : St) (H3 : Hp) : Prop :=
  ∃ (ys : List V) (st : List (Option Doc)) (ms : List V) (out : List PyData) (x3 : Option V), σ = [some v, some (.ref W), some (.ref M), x3] ∧ m = (wMarks st).length ∧ H3 W = some (.lst ys.reverse) ∧ H3 M = some (.lst ms) ∧
    DmAll K (N2 N W M) H3 ys (st.map wDat) ∧ DmAll K (N2 N W M) H3 ms out ∧ out ++ wMarks st = t.marks ∧ Same H H3
section
variable {P : Program} {w : World} {K : PySem.W.Frag} {mg : Str → Option Value} {base : Heap}
theorem ok_marksOf {f a_CLOSE : Addr} {fd : FuncData} (F : Fun K "marks_of" "marks_of" sMarksOf f fd) (T : MarksOfTxt K mg a_CLOSE) : FnOk P w K mg base CX0 1 f fd ["node"] (spMarksOf K) := by
  refine F.ok scMarksOf (fun vs H Q E h => ?_) (fun cdv A outer s H vs Q E hr h => ?_)
  · obtain ⟨v, t, N, rfl, _⟩ := h
    rfl
  · obtain ⟨v, t, N, rfl, hN, hv, hlen, k⟩ := h
    refine ⟨_, (pss_cons (ps_set (i := 1) scMarksOf.nd rfl (Or.inl rfl) (pe_lst (pa_cons (pv 0) pa_nil)))
      (pss_cons (ps_set (i := 2) scMarksOf.nd rfl (Or.inl rfl) (pe_lst pa_nil))
      (pss_cons (ps_while PassesOwn.never (pt_truth (pv 1) (by intro _; rfl))
      (pss_cons (ps_set (i := 3) scMarksOf.nd rfl (Or.inl rfl) (pe_bm0 PySem.F.plainAttrs_list PySem.F.slot_list_pop PySem.F.type_list_pop mt_pop (pv 1)))
      (pss_one (ps_if (pt_cmpR op_isN (pv 3) pe_non (nomark _))
      (pss_one (ps_expr (pe_bm PySem.F.plainAttrs_list PySem.F.slot_list_append PySem.F.type_list_append mt_append (pv 2) (pa_cons (pe_glob (v := V.ref a_CLOSE) (by rfl) T.g_CLOSE (by rfl)) pa_nil))))
      (pss_one (ps_if (pt_val (pe_callB call_isi (by rfl) T.n_isinstance (by decide +kernel) (pa_cons (pv 3) (pa_cons (pe_bltn (v := V.ty "str") (u := .type "str") (by rfl) T.n_str (by decide +kernel) (by rfl)) pa_nil))))
      (pss_one (ps_expr (pe_bm PySem.F.plainAttrs_list PySem.F.slot_list_append PySem.F.type_list_append mt_append (pv 2) (pa_cons (pe_tup (pa_cons pe_str (pa_cons (pv 3) pa_nil))) pa_nil))))
      (pss_cons (ps_expr (pe_bm PySem.F.plainAttrs_list PySem.F.slot_list_append PySem.F.type_list_append mt_append (pv 2) (pa_cons (pe_tup (pa_cons pe_str (pa_cons (pe_ix ix_tup (pv 3) pe_int (fun _ _ => rfl)) pa_nil))) pa_nil)))
      (pss_cons (ps_expr (pe_bm PySem.F.plainAttrs_list PySem.F.slot_list_append PySem.F.type_list_append mt_append (pv 1) (pa_cons pe_non pa_nil)))
      (pss_one (ps_expr (pe_bm PySem.F.plainAttrs_list PySem.F.slot_list_extend PySem.F.type_list_extend mt_extendT (pv 1) (pa_cons (pe_revT (pe_ix ix_tup (pv 3) pe_int (fun _ _ => rfl))) pa_nil))))))))))))
      (pss_one (ps_ret (pe_callTy call_tuple_of (by rfl) T.n_tuple (by decide +kernel) (pa_cons (pv 2) pa_nil))))))), ?_⟩
    refine ⟨_, rfl, (by show 1 ≤ sizeLine; decide), fun W hW => ⟨Nat.zero_le _, fun M hM => ?_⟩⟩
    have WM : W ≠ M := ne_of_none upd_same hM
    have hM0 : H M = none := by
      have z := hM
      rw [upd_ne (Ne.symm WM)] at z
      exact z
    refine ⟨MInv K N W M H t v, ⟨_, [v], [some t], [], [], none, rfl, rfl, ?_, upd_same, ?_, .nil, by simp [wMarks], (((Same.refl H).new hW).new hM)⟩, ?_⟩
    · rw [upd_ne WM, upd_same]
      rfl
    · refine .cons (Dm.mono (N := N) (H := H) (fun a h n => ?_) (Bt.refl.new hW |>.new hM) _ _ hv) .nil
      rcases n with n | n | n
      · exact n
      · subst n
        obtain ⟨_, z⟩ := h
        rw [hW] at z
        cases z
      · subst n
        obtain ⟨_, z⟩ := h
        rw [hM0] at z
        cases z
    rintro m σ H3 ⟨ys, st, ms, out, x3, rfl, rfl, h1, h2, d1, d2, e, sm⟩
    have le : out.length + (wMarks st).length = t.marks.length := by rw [← e, List.length_append]
    have lst : ys.length = st.length := by rw [d1.len, List.length_map]
    have lw := wMarks_len st
    have lms := d2.len
    refine ⟨_, rfl, _, .inl ⟨_, SqL.of h1, rfl⟩, ?_⟩
    cases st with
    | nil =>
      cases ys with
      | cons y ys => simp at lst
      | nil =>
        refine iteF ?_
        have eo : out = t.marks := by
          have z := e
          simpa [wMarks] using z
        refine ⟨_, rfl, M, ms, rfl, .inl ⟨SqL.of h2, fun l hl => ?_⟩⟩
        refine k _ _ (.tup upd_same (fun n => ?_) (DmAll.mono (N := N2 N W M) (H := H3) (fun a _ n => .inl n) (Bt.refl.new hl) _ _ ?_)) (sm.new hl)
        · obtain ⟨_, z⟩ := (hN l n).same sm
          rw [hl] at z
          cases z
        · rw [← eo]
          exact d2
    | cons s st =>
      cases ys with
      | nil => simp at lst
      | cons y ys =>
        have nE : (!((y :: ys).reverse).isEmpty) = true := by simp
        rw [nE]
        refine iteT ⟨fun σ' H' => ∃ m', m' < (wMarks (s :: st)).length ∧ MInv K N W M H t v m' σ' H', fun _ _ h => h, ?_⟩
        have er : (y :: ys).reverse = ys.reverse ++ [y] := by simp
        rw [er] at h1
        cases d1 with
        | cons dy dys =>
          have bW : Bt (N2 N W M) H3 (upd H3 W (.lst ys.reverse)) := Bt.refl.cell (.inr (.inl rfl))
          have h2' : ∀ o, (upd H3 W o) M = some (.lst ms) := fun o => by rw [upd_ne (Ne.symm WM)]; exact h2
          have sW : Same H (upd H3 W (.lst ys.reverse)) := sm.cell hW
          have lys : ys.length ≤ 900 := by
            have : (y :: ys).length ≤ 900 := by omega
            simp at this
            omega
          refine ⟨_, rfl, .inl ⟨rfl, _, SqL.of h1⟩, _, _, y, rfl, rfl, h1, (by simp), ?_⟩
          rw [List.dropLast_concat]
          refine ⟨_, rfl, rfl, _, rfl, ?_⟩
          cases s with
          | none =>
            have ey : y = .non := by
              cases dy
              rfl
            subst ey
            refine iteT ?_
            refine ⟨_, rfl, .inl ⟨rfl, _, SqL.of (h2' _)⟩, _, _, _, rfl, rfl, h2' _, small1000 (by omega), ?_⟩
            have lt : (wMarks st).length < (wMarks (none :: st)).length := by
              show _ < (wMarks st).length + 1
              omega
            have bM : Bt (N2 N W M) H3 (upd (upd H3 W (.lst ys.reverse)) M (.lst (ms ++ [.ref a_CLOSE]))) := bW.cell (.inr (.inr rfl))
            refine ⟨_, lt, ys, st, ms ++ [.ref a_CLOSE], out ++ [mClose], _, rfl, rfl, ?_, upd_same, dys.up bM, (d2.up bM).snoc (.con T.con (.cons (.str _) .nil)), ?_, sW.cell hM0⟩
            · rw [upd_ne WM, upd_same]
            · rw [← e]
              simp [wMarks]
          | some d =>
            cases d with
            | txt z =>
              have ey : y = .str z := by
                have dz : Dm K (N2 N W M) H3 y (.str z) := dy
                exact dz.strV
              subst ey
              refine iteF ?_
              refine ⟨_, rfl, _, _, _, _, true, rfl, .ty "str", .base (.str z), kit_ty (by decide +kernel), _, rfl, iteT ?_⟩
              refine ⟨_, rfl, .inl ⟨rfl, _, SqL.of (h2' _)⟩, _, rfl, (by show 2 ≤ sizeLine; decide), fun p hp => ?_⟩
              have pM : M ≠ p := ne_of_none (h2' _) hp
              have pW : W ≠ p := ne_of_none upd_same hp
              have hp3 : H3 p = none := by
                have z := hp
                rw [upd_ne (Ne.symm pW)] at z
                exact z
              have h2'' : ∀ o, (upd (upd H3 W (.lst ys.reverse)) p o) M = some (.lst ms) := fun o => by rw [upd_ne pM]; exact h2' _
              refine ⟨_, _, _, rfl, rfl, h2'' _, small1000 (by omega), ?_⟩
              have lt : (wMarks st).length < (wMarks (some (.txt z) :: st)).length := by
                show _ < ((Doc.txt z).marks ++ wMarks st).length
                have := marks_pos (.txt z)
                rw [List.length_append]
                omega
              have bP : Bt (N2 N W M) H3 (upd (upd H3 W (.lst ys.reverse)) p (.tup [.str "text", .str z])) := bW.new hp
              have bM : Bt (N2 N W M) H3 (upd (upd (upd H3 W (.lst ys.reverse)) p (.tup [.str "text", .str z])) M (.lst (ms ++ [.ref p]))) := bP.cell (.inr (.inr rfl))
              have nP : ¬ N2 N W M p := by
                rintro (n | n | n)
                · obtain ⟨_, z⟩ := (hN p n).same sm
                  rw [hp3] at z
                  cases z
                · exact pW n.symm
                · exact pM n.symm
              refine ⟨_, lt, ys, st, ms ++ [.ref p], out ++ [mText z], _, rfl, rfl, ?_, upd_same, dys.up bM, (d2.up bM).snoc (.tup (xs := [.str "text", .str z]) ?_ nP (.cons (.str _) (.cons (.str _) .nil))), ?_, (sW.new hp).cell hM0⟩
              · rw [upd_ne WM, upd_ne pW, upd_same]
              · rw [upd_ne (Ne.symm pM), upd_same]
              · rw [← e]
                simp [wMarks, Doc.marks]
            | nod x ts =>
              have dz : Dm K (N2 N W M) H3 y (.tuple [.str x, .tuple (datAll ts)]) := dy
              obtain ⟨a, y1, ey, ta, d1⟩ := dz.pair
              subst ey
              obtain ⟨b, zs, ey, tb, db⟩ := d1.seq
              subst ey
              have lz : zs.length = ts.length := by rw [db.len, datAll_length]
              have lt2 : (wMarks (some (.nod x ts) :: st)).length = (wMarks (ts.map some ++ none :: st)).length + 1 := by
                rw [wMarks_docs]
                show ((mOpen x :: (marksAll ts ++ [mClose])) ++ wMarks st).length = (marksAll ts ++ (mClose :: wMarks st)).length + 1
                simp
              have lz2 : ts.length + ys.length ≤ 900 := by
                have h1 := wMarks_len (ts.map some ++ none :: st)
                rw [List.length_append, List.length_map, List.length_cons] at h1
                simp at lst
                omega
              refine iteF ?_
              refine ⟨_, rfl, _, _, _, _, false, rfl, .ty "str", (ta.up bW).ty, kit_ty (by decide +kernel), _, rfl, iteF ?_⟩
              refine ⟨_, rfl, .inl ⟨rfl, _, SqL.of (h2' _)⟩, _, rfl, _, _, _, _, rfl, rfl, (ta.up bW).sq, atI_nat (j := 0) rfl, (by show 2 ≤ sizeLine; decide), fun p hp => ?_⟩
              have pM : M ≠ p := ne_of_none (h2' _) hp
              have pW : W ≠ p := ne_of_none upd_same hp
              have hp3 : H3 p = none := by
                have z := hp
                rw [upd_ne (Ne.symm pW)] at z
                exact z
              have h2'' : ∀ o, (upd (upd H3 W (.lst ys.reverse)) p o) M = some (.lst ms) := fun o => by rw [upd_ne pM]; exact h2' _
              refine ⟨_, _, _, rfl, rfl, h2'' _, small1000 (by omega), ?_⟩
              have bP : Bt (N2 N W M) H3 (upd (upd H3 W (.lst ys.reverse)) p (.tup [.str "open", .str x])) := bW.new hp
              have bM : Bt (N2 N W M) H3 (upd (upd (upd H3 W (.lst ys.reverse)) p (.tup [.str "open", .str x])) M (.lst (ms ++ [.ref p]))) := bP.cell (.inr (.inr rfl))
              have sM : Same H (upd (upd (upd H3 W (.lst ys.reverse)) p (.tup [.str "open", .str x])) M (.lst (ms ++ [.ref p]))) := (sW.new hp).cell hM0
              have nP : ¬ N2 N W M p := by
                rintro (n | n | n)
                · obtain ⟨_, z⟩ := (hN p n).same sm
                  rw [hp3] at z
                  cases z
                · exact pW n.symm
                · exact pM n.symm
              have hWa : (upd (upd (upd H3 W (.lst ys.reverse)) p (.tup [.str "open", .str x])) M (.lst (ms ++ [.ref p]))) W = some (.lst ys.reverse) := by rw [upd_ne WM, upd_ne pW, upd_same]
              have hMa : (upd (upd (upd H3 W (.lst ys.reverse)) p (.tup [.str "open", .str x])) M (.lst (ms ++ [.ref p]))) M = some (.lst (ms ++ [.ref p])) := upd_same
              have hPa : (upd (upd (upd H3 W (.lst ys.reverse)) p (.tup [.str "open", .str x])) M (.lst (ms ++ [.ref p]))) p = some (.tup [.str "open", .str x]) := by rw [upd_ne (Ne.symm pM), upd_same]
              generalize upd (upd (upd H3 W (.lst ys.reverse)) p (.tup [.str "open", .str x])) M (.lst (ms ++ [.ref p])) = H4 at bM sM hWa hMa hPa ⊢
              refine ⟨_, rfl, .inl ⟨rfl, _, SqL.of hWa⟩, _, _, _, rfl, rfl, hWa, small1000 (by rw [List.length_reverse]; omega), ?_⟩
              have bN : Bt (N2 N W M) H3 (upd H4 W (.lst (ys.reverse ++ [.non]))) := bM.cell (.inr (.inl rfl))
              refine ⟨_, rfl, .inl ⟨rfl, _, SqL.of upd_same⟩, _, rfl, _, _, _, _, rfl, rfl, (ta.up bN).sq, atI_nat (j := 1) rfl, b, zs, rfl, (tb.up bN).sq, fun q hq => ?_⟩
              have qW : W ≠ q := ne_of_none upd_same hq
              have qM : M ≠ q := ne_of_none (by rw [upd_ne (Ne.symm WM)]; exact hMa) hq
              have qp : p ≠ q := ne_of_none (by rw [upd_ne (Ne.symm pW)]; exact hPa) hq
              refine ⟨_, _, _, _, rfl, rfl, (by rw [upd_ne qW, upd_same]), upd_same, (by rw [sizeLine_eq, List.length_append, List.length_reverse, List.length_reverse, List.length_singleton]; omega), ?_⟩
              have bQ : Bt (N2 N W M) H3 (upd (upd (upd H4 W (.lst (ys.reverse ++ [.non]))) q (.tup zs.reverse)) W (.lst (ys.reverse ++ [.non] ++ zs.reverse))) := (bN.new hq).cell (.inr (.inl rfl))
              refine ⟨_, (by rw [lt2]; exact Nat.lt_succ_self _), zs ++ .non :: ys, ts.map some ++ none :: st, ms ++ [.ref p], out ++ [mOpen x], _, rfl, rfl, ?_, ?_, ?_, ?_, ?_, (((sM.cell hW).new hq).cell hW)⟩
              · rw [upd_same]
                simp
              · rw [upd_ne (Ne.symm WM), upd_ne qM, upd_ne (Ne.symm WM)]
                exact hMa
              · rw [List.map_append, List.map_map]
                have e1 : ts.map (wDat ∘ some) = datAll ts := by rw [datAll_map]; rfl
                rw [e1]
                exact (db.up bQ).app (.cons .non (dys.up bQ))
              · refine (d2.up bQ).snoc (.tup (xs := [.str "open", .str x]) ?_ nP (.cons (.str _) (.cons (.str _) .nil)))
                rw [upd_ne (Ne.symm pW), upd_ne qp, upd_ne (Ne.symm pW)]
                exact hPa
              · rw [← e, wMarks_docs]
                simp [wMarks, Doc.marks]
end
end Km

/-! names and texts -/
namespace Km
open PySem L2 Xr
abbrev sHas : Stmt := top 11
theorem scHas : FnScope ["value", "signs", "sign"] ["value", "signs"] (defScope sHas) := ⟨rfl, rfl, rfl, by decide +kernel, rfl, by decide +kernel, by decide +kernel⟩
abbrev sName : Stmt := top 9
theorem scName : FnScope ["value"] ["value"] (defScope sName) := ⟨rfl, rfl, rfl, by decide +kernel, rfl, by decide +kernel, by decide +kernel⟩
abbrev sText : Stmt := top 10
theorem scText : FnScope ["value"] ["value"] (defScope sText) := ⟨rfl, rfl, rfl, by decide +kernel, rfl, by decide +kernel, by decide +kernel⟩
def hasOnly (z g : Str) : Bool := z.cps.toList.all fun c => decide (c ∈ g.cps.toList)
abbrev abc : Str := Str.ofString "abcdefghijklmnopqrstuvwxyz"
abbrev abc9 : Str := Str.ofString "abcdefghijklmnopqrstuvwxyz0123456789 "
def nameD : PyData → Bool
  | .str z => decide (z.length ≠ 0) && (decide (z.length ≤ 8) && hasOnly z abc)
  | _ => false
def textD : PyData → Bool
  | .str z => decide (z.length ≤ 16) && hasOnly z abc9
  | _ => false
def spHas : Sp := fun vs H Q _ => ∃ (z g : Str), vs = [.str z, .str g] ∧ z.length ≤ 900 ∧ ∀ H', Same H H' → Q (.bl (hasOnly z g)) H'
def spName (K : PySem.W.Frag) : Sp := fun vs H Q _ => ∃ (v : V) (d : PyData) (N : Addr → Prop), vs = [v] ∧ Dm K N H v d ∧ (∀ z, d = .str z → z.length ≤ 900) ∧ ∀ H', Same H H' → Q (.bl (nameD d)) H'
def spText (K : PySem.W.Frag) : Sp := fun vs H Q _ => ∃ (v : V) (d : PyData) (N : Addr → Prop), vs = [v] ∧ Dm K N H v d ∧ (∀ z, d = .str z → z.length ≤ 900) ∧ ∀ H', Same H H' → Q (.bl (textD d)) H'
structure WordTxt (K : PySem.W.Frag) (mg : Str → Option Value) (a_has_only : Addr) (t1 t2 t3 t4 : Tok) : Prop where
  n_isinstance : mg "isinstance" = none
  n_str : mg "str" = none
  n_len : mg "len" = none
  n_all : mg "all" = none
  g_NAME_MOST : mg "NAME_MOST" = some (.int 8 t1)
  g_TEXT_MOST : mg "TEXT_MOST" = some (.int 16 t2)
  g_NAME_SIGNS : mg "NAME_SIGNS" = some (.str abc t3)
  g_TEXT_SIGNS : mg "TEXT_SIGNS" = some (.str abc9 t4)
  g_has_only : mg "_has_only" = some (.ref a_has_only)
  k_has_only : PySem.W.keepIn K (.ref a_has_only) = true
section
variable {P : Program} {w : World} {K : PySem.W.Frag} {mg : Str → Option Value} {base : Heap}
theorem ok_has {f a_has_only : Addr} {t1 t2 t3 t4 : Tok} {fd : FuncData} (F : Fun K "_has_only" "_has_only" sHas f fd) (T : WordTxt K mg a_has_only t1 t2 t3 t4) : FnOk P w K mg base CX0 1 f fd ["value", "signs"] spHas := by
  refine F.ok scHas (fun vs H Q E h => ?_) (fun cdv A outer s H vs Q E hr h => ?_)
  · obtain ⟨z, g, rfl, _⟩ := h
    rfl
  · obtain ⟨z, g, rfl, hl, k⟩ := h
    refine ⟨_, (pss_one (ps_ret (pe_callB (cr_all (by rfl)) (by rfl) T.n_all (by decide +kernel) (pa_cons (pe_lc (own := [("sign", 2)]) (g := gName 2) (tt := tYes) (by rfl) scHas.nd (pi_str (pv 0)) (blkOk_by (own := [("sign", 2)]) (N := ["value", "signs", "sign"]) (sc := defScope sHas) (by decide +kernel)) (fun _ _ _ _ _ => pg_name (i := 2) scHas.nd rfl (Or.inl rfl)) (fun _ _ _ _ _ => pts_nil) (fun _ _ _ _ _ => (pe_cmpR op_in_sign (pv 2) (pv 1) (by rfl)))) pa_nil)))), ?_⟩
    refine ⟨_, rfl, z, rfl, fun D hD => ?_⟩
    refine lc_it walk_str (fun i H1 => Same H H1 ∧ H1 D = some (.lst ((z.cps.toList.take i).map fun c => V.bl (decide (c ∈ g.cps.toList))))) ⟨(Same.refl H).new hD, upd_same⟩ (fun _ _ _ _ => trivial) ?_ ?_
    · rintro i x H1 H2 hi ⟨s1, h1⟩ ⟨rfl, c, hc, rfl⟩
      have hz : z.length = z.cps.toList.length := by
        show z.cps.size = _
        simp
      have lt : i ≤ z.length := by
        show i ≤ z.cps.size
        omega
      refine ⟨rfl, _, rfl, _, rfl, c, g, rfl, rfl, _, h1, small1000 (by rw [List.length_map, List.length_take]; omega), s1.cell hD, ?_⟩
      have ec : z.cps.toList[i]? = some c := by simpa using hc
      rw [upd_same, take_more ec]
      simp
    · rintro H1 ⟨s1, h1⟩
      have e1 : z.cps.toList.take z.cps.size = z.cps.toList := by
        rw [List.take_of_length_le]
        simp
      rw [e1] at h1
      refine ⟨D, z.cps.toList.map (fun c => decide (c ∈ g.cps.toList)), rfl, SqL.of (by rw [h1, List.map_map]; rfl), ?_⟩
      have e2 : (z.cps.toList.map fun c => decide (c ∈ g.cps.toList)).all id = hasOnly z g := by
        unfold hasOnly
        rw [List.all_map]
        rfl
      rw [e2]
      exact k _ s1
theorem ok_name {f a_has_only : Addr} {t1 t2 t3 t4 : Tok} {fd fdH : FuncData} (F : Fun K "is_name" "is_name" sName f fd) (T : WordTxt K mg a_has_only t1 t2 t3 t4) (G_has_only : FnOk P w K mg base CX0 1 a_has_only fdH ["value", "signs"] spHas) (b_has_only : Binds K fdH ["value", "signs"] []) :
    FnOk P w K mg base CX0 2 f fd ["value"] (spName K) := by
  refine F.ok scName (fun vs H Q E h => ?_) (fun cdv A outer s H vs Q E hr h => ?_)
  · obtain ⟨v, d, N, rfl, _⟩ := h
    rfl
  · obtain ⟨v, d, N, rfl, hv, hl, k⟩ := h
    refine ⟨_, (pss_cons (ps_if (PW.pt (pw_or (pt_not (pt_val (pe_callB call_isi (by rfl) T.n_isinstance (by decide +kernel) (pa_cons (pv 0) (pa_cons (pe_bltn (v := V.ty "str") (u := .type "str") (by rfl) T.n_str (by decide +kernel) (by rfl)) pa_nil))))) (pw_or (pt_cmpR op_eq (pv 0) pe_str (nomark _)) (pw_or1 (pt_cmpR op_gt (pe_callB call_len_str (by rfl) T.n_len PySem.boot_len (pa_cons (pv 0) pa_nil)) (pe_glob (v := V.int 8) (by rfl) T.g_NAME_MOST (by exact ⟨_, rfl⟩)) (nomark _))))))
      (pss_one (ps_ret pe_bl))
      pss_nil)
      (pss_one (ps_ret (pe_call G_has_only hr rfl T.g_has_only T.k_has_only b_has_only .nil pass0 (pa_cons (pv 0) (pa_cons (pe_glob (v := V.str abc) (by rfl) T.g_NAME_SIGNS (by exact ⟨_, rfl⟩)) pa_nil)))))), ?_⟩
    refine ⟨_, rfl, _, _, _, _, _, rfl, .ty "str", hv.ty, kit_str d, _, rfl, ?_⟩
    cases d with
    | str z =>
      have ev := hv.strV
      subst ev
      have l9 := hl z rfl
      refine iteF ⟨_, rfl, rfl, _, rfl, ?_⟩
      by_cases h0 : z.length = 0
      · have ez : z = Str.ofString "" := by
          have h1 : z.cps.size = 0 := h0
          cases z with
          | mk cps =>
            have : cps = #[] := Array.size_eq_zero_iff.mp h1
            rw [this]
            rfl
        subst ez
        exact iteT (k _ (Same.refl H))
      · have nz : ¬ (V.str z = V.str (Str.ofString "")) := fun e => h0 (by rw [V.str.inj e]; rfl)
        rw [decide_eq_false nz]
        refine iteF ⟨_, rfl, _, rfl, (by rw [sizeLine_eq]; omega), _, _, rfl, rfl, _, rfl, ?_⟩
        have en : nameD (.str z) = (decide (z.length ≤ 8) && hasOnly z abc) := by
          show (decide (z.length ≠ 0) && _) = _
          rw [decide_eq_true h0, Bool.true_and]
        refine ite2 (fun h8 => ?_) (fun h8 => ?_)
        · have h9 : ¬ z.length ≤ 8 := by
            have := of_decide_eq_true h8
            omega
          have := k H (Same.refl H)
          rw [en, decide_eq_false h9, Bool.false_and] at this
          exact this
        · have h9 : z.length ≤ 8 := by
            have : ¬ ((8 : Int) < (z.length : Int)) := fun q => h8 (decide_eq_true q)
            omega
          refine ⟨_, rfl, z, abc, rfl, l9, fun H' s' => ?_⟩
          have := k H' s'
          rw [en, decide_eq_true h9, Bool.true_and] at this
          exact this
    | _ => exact iteT (k _ (Same.refl H))
theorem ok_text {f a_has_only : Addr} {t1 t2 t3 t4 : Tok} {fd fdH : FuncData} (F : Fun K "is_text" "is_text" sText f fd) (T : WordTxt K mg a_has_only t1 t2 t3 t4) (G_has_only : FnOk P w K mg base CX0 1 a_has_only fdH ["value", "signs"] spHas) (b_has_only : Binds K fdH ["value", "signs"] []) :
    FnOk P w K mg base CX0 2 f fd ["value"] (spText K) := by
  refine F.ok scText (fun vs H Q E h => ?_) (fun cdv A outer s H vs Q E hr h => ?_)
  · obtain ⟨v, d, N, rfl, _⟩ := h
    rfl
  · obtain ⟨v, d, N, rfl, hv, hl, k⟩ := h
    refine ⟨_, (pss_cons (ps_if (PW.pt (pw_or (pt_not (pt_val (pe_callB call_isi (by rfl) T.n_isinstance (by decide +kernel) (pa_cons (pv 0) (pa_cons (pe_bltn (v := V.ty "str") (u := .type "str") (by rfl) T.n_str (by decide +kernel) (by rfl)) pa_nil))))) (pw_or1 (pt_cmpR op_gt (pe_callB call_len_str (by rfl) T.n_len PySem.boot_len (pa_cons (pv 0) pa_nil)) (pe_glob (v := V.int 16) (by rfl) T.g_TEXT_MOST (by exact ⟨_, rfl⟩)) (nomark _)))))
      (pss_one (ps_ret pe_bl))
      pss_nil)
      (pss_one (ps_ret (pe_call G_has_only hr rfl T.g_has_only T.k_has_only b_has_only .nil pass0 (pa_cons (pv 0) (pa_cons (pe_glob (v := V.str abc9) (by rfl) T.g_TEXT_SIGNS (by exact ⟨_, rfl⟩)) pa_nil)))))), ?_⟩
    refine ⟨_, rfl, _, _, _, _, _, rfl, .ty "str", hv.ty, kit_str d, _, rfl, ?_⟩
    cases d with
    | str z =>
      have ev := hv.strV
      subst ev
      have l9 := hl z rfl
      refine iteF ⟨_, rfl, _, rfl, (by rw [sizeLine_eq]; omega), _, _, rfl, rfl, _, rfl, ?_⟩
      refine ite2 (fun h8 => ?_) (fun h8 => ?_)
      · have h9 : ¬ z.length ≤ 16 := by
          have := of_decide_eq_true h8
          omega
        have := k H (Same.refl H)
        rw [show textD (.str z) = (decide (z.length ≤ 16) && hasOnly z abc9) from rfl, decide_eq_false h9, Bool.false_and] at this
        exact this
      · have h9 : z.length ≤ 16 := by
          have : ¬ ((16 : Int) < (z.length : Int)) := fun q => h8 (decide_eq_true q)
          omega
        refine ⟨_, rfl, z, abc9, rfl, l9, fun H' s' => ?_⟩
        have := k H' s'
        rw [show textD (.str z) = (decide (z.length ≤ 16) && hasOnly z abc9) from rfl, decide_eq_true h9, Bool.true_and] at this
        exact this
    | _ => exact iteT (k _ (Same.refl H))
end
end Km

/-! what may stand where a mark is asked; _word_of -/
namespace Km
open PySem L2 Xr
abbrev sWord : Stmt := top 17
theorem scWord : FnScope ["value"] ["value"] (defScope sWord) := ⟨rfl, rfl, rfl, by decide +kernel, rfl, by decide +kernel, by decide +kernel⟩
/-- a short plain text -/
structure Plain (n : Nat) (z : Str) : Prop where
  len : z.length ≤ n
  low : ∀ ch ∈ z.cps.toList, ch < 128
inductive MkL : PyData → Prop
  | non : MkL .none
  | str (s : Str) (h : Plain 17 s) : MkL (.str s)
  | lst : MkL (.list [.str "close"])
  | one (s : Str) (h : Plain 17 s) : MkL (.tuple [.str s])
  | two (s z : Str) (h : Plain 17 s) (h2 : Plain 17 z) : MkL (.tuple [.str s, .str z])
  | twoN (s : Str) (h : Plain 17 s) : MkL (.tuple [.str s, .none])
/-- 1: a node opens; 2: a text; 3: a node closes; 0: no mark -/
def kindD : PyData → Nat
  | .tuple [.str s] => if s = Str.ofString "close" then 3 else 0
  | .tuple [.str s, .str z] => if s = Str.ofString "open" ∧ nameD (.str z) = true then 1 else if s = Str.ofString "text" ∧ textD (.str z) = true then 2 else 0
  | _ => 0
def kindV : Nat → V
  | 1 => .str "open"
  | 2 => .str "text"
  | 3 => .str "close"
  | _ => .non
theorem canLay_plain {n : Nat} {z : Str} (h : Plain n z) : PyData.canLay0 (.str z) = true := by
  unfold PyData.canLay0
  show (z.cps.all fun x => decide (x < 0x110000)) = true
  rw [Array.all_eq_true']
  intro ch hc
  have := h.low ch (by simpa using hc)
  simp
  omega
theorem plain_close : Plain 17 (Str.ofString "close") := ⟨by decide, by decide +kernel⟩
theorem shaped_one {s : Str} (h : Plain 17 s) : SeqAt.shaped (.tuple [.str s]) = true := by
  unfold SeqAt.shaped
  have e1 : PyData.canLay0 (.tuple [.str s]) = true := by
    unfold PyData.canLay0 PyData.canLayAll0
    rw [canLay_plain h]
    rfl
  rw [e1]
  rfl
theorem shaped_two {s z : Str} (h : Plain 17 s) (h2 : Plain 17 z) : SeqAt.shaped (.tuple [.str s, .str z]) = true := by
  unfold SeqAt.shaped
  have e1 : PyData.canLay0 (.tuple [.str s, .str z]) = true := by
    unfold PyData.canLay0 PyData.canLayAll0 PyData.canLayAll0
    rw [canLay_plain h, canLay_plain h2]
    rfl
  rw [e1]
  rfl
theorem shaped_twoN {s : Str} (h : Plain 17 s) : SeqAt.shaped (.tuple [.str s, .none]) = true := by
  unfold SeqAt.shaped
  have e1 : PyData.canLay0 (.tuple [.str s, .none]) = true := by
    unfold PyData.canLay0 PyData.canLayAll0 PyData.canLayAll0
    rw [canLay_plain h]
    rfl
  rw [e1]
  rfl
theorem str_beq (a b : Str) : (a == b) = decide (a = b) := by
  rw [Bool.eq_iff_iff]
  simp
theorem eqv_one (s : Str) : PyData.eqv (.tuple [.str s]) (.tuple [.str "close"]) = decide (s = Str.ofString "close") := by
  show (s == _ && true) = _
  rw [Bool.and_true, str_beq]
theorem eqv_two (s : Str) (d : PyData) : PyData.eqv (.tuple [.str s, d]) (.tuple [.str "close"]) = false := by
  show (s == _ && false) = false
  rw [Bool.and_false]
def spWord (K : PySem.W.Frag) : Sp := fun vs H Q _ => ∃ (v : V) (d : PyData) (N : Addr → Prop), vs = [v] ∧ Dm K N H v d ∧ MkL d ∧ ∀ H', Same H H' → Q (kindV (kindD d)) H'
structure WordOfTxt (K : PySem.W.Frag) (mg : Str → Option Value) (a_is_name a_is_text a_CLOSE : Addr) : Prop where
  n_isinstance : mg "isinstance" = none
  n_tuple : mg "tuple" = none
  n_len : mg "len" = none
  g_CLOSE : mg "CLOSE" = some (.ref a_CLOSE)
  con : KTup K a_CLOSE [.str "close"]
  g_is_name : mg "is_name" = some (.ref a_is_name)
  k_is_name : PySem.W.keepIn K (.ref a_is_name) = true
  g_is_text : mg "is_text" = some (.ref a_is_text)
  k_is_text : PySem.W.keepIn K (.ref a_is_text) = true
section
variable {P : Program} {w : World} {K : PySem.W.Frag} {mg : Str → Option Value} {base : Heap}
theorem ok_word {f a_is_name a_is_text a_CLOSE : Addr} {fd fdN fdT : FuncData} (F : Fun K "mark_word" "mark_word" sWord f fd) (T : WordOfTxt K mg a_is_name a_is_text a_CLOSE) (G_is_name : FnOk P w K mg base CX0 2 a_is_name fdN ["value"] (spName K)) (b_is_name : Binds K fdN ["value"] [])
    (G_is_text : FnOk P w K mg base CX0 2 a_is_text fdT ["value"] (spText K)) (b_is_text : Binds K fdT ["value"] []) : FnOk P w K mg base CX0 3 f fd ["value"] (spWord K) := by
  refine F.ok scWord (fun vs H Q E h => ?_) (fun cdv A outer s H vs Q E hr h => ?_)
  · obtain ⟨v, d, N, rfl, _⟩ := h
    rfl
  · obtain ⟨v, d, N, rfl, hv, hm, k⟩ := h
    refine ⟨_, (pss_cons (ps_if (PW.pt (pw_or (pt_not (pt_val (pe_callB call_isi (by rfl) T.n_isinstance (by decide +kernel) (pa_cons (pv 0) (pa_cons (pe_bltn (v := V.ty "tuple") (u := .type "tuple") (by rfl) T.n_tuple (by decide +kernel) (by rfl)) pa_nil))))) (pw_or1 (pt_cmpR op_eq (pe_callB call_len_seq (by rfl) T.n_len PySem.boot_len (pa_cons (pv 0) pa_nil)) pe_int (nomark _)))))
      (pss_one (ps_ret pe_non))
      pss_nil)
      (pss_cons (ps_if (pt_cmpR (op_eqD hr.units) (pv 0) (pe_glob (v := V.ref a_CLOSE) (by rfl) T.g_CLOSE (by rfl)) (nomark _))
      (pss_one (ps_ret pe_str))
      pss_nil)
      (pss_cons (ps_if (PW.pt (pw_and (pt_cmpR op_eq (pe_callB call_len_seq (by rfl) T.n_len PySem.boot_len (pa_cons (pv 0) pa_nil)) pe_int (nomark _)) (pw_and (pt_cmpR op_eq (pe_ix ix_tup (pv 0) pe_int (fun _ _ => rfl)) pe_str (nomark _)) (pw_and1 (pt_val (pe_call G_is_name hr rfl T.g_is_name T.k_is_name b_is_name .nil pass0 (pa_cons (pe_ix ix_tup (pv 0) pe_int (fun _ _ => rfl)) pa_nil)))))))
      (pss_one (ps_ret pe_str))
      pss_nil)
      (pss_cons (ps_if (PW.pt (pw_and (pt_cmpR op_eq (pe_callB call_len_seq (by rfl) T.n_len PySem.boot_len (pa_cons (pv 0) pa_nil)) pe_int (nomark _)) (pw_and (pt_cmpR op_eq (pe_ix ix_tup (pv 0) pe_int (fun _ _ => rfl)) pe_str (nomark _)) (pw_and1 (pt_val (pe_call G_is_text hr rfl T.g_is_text T.k_is_text b_is_text .nil pass0 (pa_cons (pe_ix ix_tup (pv 0) pe_int (fun _ _ => rfl)) pa_nil)))))))
      (pss_one (ps_ret pe_str))
      pss_nil)
      (pss_one (ps_ret pe_non)))))), ?_⟩
    refine ⟨_, rfl, _, _, _, _, _, rfl, .ty "tuple", hv.ty, kit_tup d, _, rfl, ?_⟩
    have dc : Dp K H (.ref a_CLOSE) (.tuple [.str "close"]) := .tup T.con.sq (.cons (.str _) .nil)
    cases hm with
    | non => exact iteT (k _ (Same.refl H))
    | str s h => exact iteT (k _ (Same.refl H))
    | lst => exact iteT (k _ (Same.refl H))
    | one s h =>
      obtain ⟨a, xs, rfl, ta, al⟩ := hv.seq
      cases al with
      | cons h1 r =>
        cases r
        cases h1
        refine iteF ⟨_, rfl, _, _, rfl, .inr ta.sq, rfl, _, rfl, iteF ?_⟩
        refine ⟨_, rfl, _, _, .tup ta.sq (.cons (.str _) .nil), dc, shaped_one h, shaped_one plain_close, _, rfl, ?_⟩
        rw [eqv_one]
        have e0 : kindD (.tuple [.str s]) = if s = Str.ofString "close" then 3 else 0 := rfl
        rw [e0] at k
        by_cases hc : s = Str.ofString "close"
        · rw [decide_eq_true hc]
          rw [if_pos hc] at k
          exact iteT (k _ (Same.refl H))
        · rw [decide_eq_false hc]
          rw [if_neg hc] at k
          refine iteF ⟨_, rfl, _, _, rfl, .inr ta.sq, rfl, _, rfl, iteF (iteF ?_)⟩
          exact ⟨_, rfl, _, _, rfl, .inr ta.sq, rfl, _, rfl, iteF (iteF (k _ (Same.refl H)))⟩
    | two s z h h2 =>
      obtain ⟨a, y, rfl, ta, hy⟩ := hv.pair
      have ey := hy.strV
      subst ey
      refine iteF ⟨_, rfl, _, _, rfl, .inr ta.sq, rfl, _, rfl, iteF ?_⟩
      refine ⟨_, rfl, _, _, .tup ta.sq (.cons (.str _) (.cons (.str _) .nil)), dc, shaped_two h h2, shaped_one plain_close, _, rfl, ?_⟩
      rw [eqv_two]
      have e0 : kindD (.tuple [.str s, .str z]) = if s = Str.ofString "open" ∧ nameD (.str z) = true then 1 else if s = Str.ofString "text" ∧ textD (.str z) = true then 2 else 0 := rfl
      rw [e0] at k
      have lz : ∀ z', PyData.str z = .str z' → z'.length ≤ 900 := fun z' e => by
        cases e
        have := h2.len
        omega
      refine iteF ⟨_, rfl, _, _, rfl, .inr ta.sq, rfl, _, rfl, iteT ?_⟩
      refine ⟨_, rfl, _, _, _, _, rfl, rfl, ta.sq, atI_nat (j := 0) rfl, rfl, _, rfl, ?_⟩
      by_cases ho : s = Str.ofString "open"
      · subst ho
        refine iteT ⟨_, rfl, _, _, _, _, rfl, rfl, ta.sq, atI_nat (j := 1) rfl, _, _, N, rfl, hy, lz, fun H1 s1 => ⟨_, rfl, ?_⟩⟩
        have e1 : (if Str.ofString "open" = Str.ofString "open" ∧ nameD (.str z) = true then 1 else if Str.ofString "open" = Str.ofString "text" ∧ textD (.str z) = true then 2 else 0) = if nameD (.str z) = true then 1 else 0 := by
          by_cases hn : nameD (.str z) = true
          · rw [if_pos ⟨rfl, hn⟩, if_pos hn]
          · rw [if_neg (fun q => hn q.2), if_neg hn, if_neg (fun q => absurd q.1 (by decide))]
        rw [e1] at k
        have ta1 : Tp K (fun _ => False) H a [.str "open", .str z] := ta.elim (fun z => .inl ⟨z.1, id⟩) .inr
        have ta2 := ta1.up (H' := H1) (Bt.same s1)
        refine ite2 (fun hn => ?_) (fun hn => ?_)
        · rw [if_pos hn] at k
          exact k _ s1
        · rw [if_neg hn] at k
          refine ⟨_, rfl, _, _, rfl, .inr ta2.sq, rfl, _, rfl, iteT ?_⟩
          exact ⟨_, rfl, _, _, _, _, rfl, rfl, ta2.sq, atI_nat (j := 0) rfl, rfl, _, rfl, iteF (iteF (k _ s1))⟩
      · have ne : ¬ (V.str s = V.str (Str.ofString "open")) := fun e => ho (V.str.inj e)
        rw [decide_eq_false ne]
        refine iteF (iteF ?_)
        rw [if_neg (fun q => ho q.1)] at k
        refine ⟨_, rfl, _, _, rfl, .inr ta.sq, rfl, _, rfl, iteT ?_⟩
        refine ⟨_, rfl, _, _, _, _, rfl, rfl, ta.sq, atI_nat (j := 0) rfl, rfl, _, rfl, ?_⟩
        by_cases hx : s = Str.ofString "text"
        · subst hx
          refine iteT ⟨_, rfl, _, _, _, _, rfl, rfl, ta.sq, atI_nat (j := 1) rfl, _, _, N, rfl, hy, lz, fun H1 s1 => ⟨_, rfl, ?_⟩⟩
          refine ite2 (fun hn => ?_) (fun hn => ?_)
          · rw [if_pos ⟨rfl, hn⟩] at k
            exact k _ s1
          · rw [if_neg (fun q => hn q.2)] at k
            exact k _ s1
        · have ne2 : ¬ (V.str s = V.str (Str.ofString "text")) := fun e => hx (V.str.inj e)
          rw [decide_eq_false ne2]
          rw [if_neg (fun q => hx q.1)] at k
          exact iteF (iteF (k _ (Same.refl H)))
    | twoN s h =>
      obtain ⟨a, y, rfl, ta, hy⟩ := hv.pair
      cases hy
      refine iteF ⟨_, rfl, _, _, rfl, .inr ta.sq, rfl, _, rfl, iteF ?_⟩
      refine ⟨_, rfl, _, _, .tup ta.sq (.cons (.str _) (.cons .non .nil)), dc, shaped_twoN h, shaped_one plain_close, _, rfl, ?_⟩
      rw [eqv_two]
      have lz : ∀ z', PyData.none = .str z' → z'.length ≤ 900 := fun z' e => by cases e
      refine iteF ⟨_, rfl, _, _, rfl, .inr ta.sq, rfl, _, rfl, iteT ?_⟩
      refine ⟨_, rfl, _, _, _, _, rfl, rfl, ta.sq, atI_nat (j := 0) rfl, rfl, _, rfl, ?_⟩
      have ta1 : Tp K (fun _ => False) H a [.str s, .non] := ta.elim (fun z => .inl ⟨z.1, id⟩) .inr
      have two : ∀ H1, Same H H1 → Tp K (fun _ => False) H1 a [.str s, .non] := fun H1 s1 => ta1.up (Bt.same s1)
      refine ite2 (fun ho => ?_) (fun ho => iteF ?_)
      · refine ⟨_, rfl, _, _, _, _, rfl, rfl, ta.sq, atI_nat (j := 1) rfl, _, _, N, rfl, .non, lz, fun H1 s1 => ⟨_, rfl, iteF ?_⟩⟩
        refine ⟨_, rfl, _, _, rfl, .inr (two H1 s1).sq, rfl, _, rfl, iteT ?_⟩
        refine ⟨_, rfl, _, _, _, _, rfl, rfl, (two H1 s1).sq, atI_nat (j := 0) rfl, rfl, _, rfl, ?_⟩
        refine ite2 (fun hx => ?_) (fun hx => iteF (k _ s1))
        exact ⟨_, rfl, _, _, _, _, rfl, rfl, (two H1 s1).sq, atI_nat (j := 1) rfl, _, _, (fun _ => False), rfl, .non, lz, fun H2 s2 => ⟨_, rfl, iteF (k _ (s1.trans s2))⟩⟩
      · refine ⟨_, rfl, _, _, rfl, .inr ta.sq, rfl, _, rfl, iteT ?_⟩
        refine ⟨_, rfl, _, _, _, _, rfl, rfl, ta.sq, atI_nat (j := 0) rfl, rfl, _, rfl, ?_⟩
        refine ite2 (fun hx => ?_) (fun hx => iteF (k _ (Same.refl H)))
        exact ⟨_, rfl, _, _, _, _, rfl, rfl, ta.sq, atI_nat (j := 1) rfl, _, _, N, rfl, .non, lz, fun H2 s2 => ⟨_, rfl, iteF (k _ s2)⟩⟩
end
end Km

/-! the law's documents -/
namespace Km
open PySem L2 Xr
abbrev sLText : Stmt := top 25
theorem scLText : FnScope ["deal"] ["deal"] (defScope sLText) := ⟨rfl, rfl, rfl, by decide +kernel, rfl, by decide +kernel, by decide +kernel⟩
abbrev sLNode : Stmt := top 26
theorem scLNode : FnScope ["deal", "names", "room", "things", "turn"] ["deal", "names", "room"] (defScope sLNode) := ⟨rfl, rfl, rfl, by decide +kernel, rfl, by decide +kernel, by decide +kernel⟩
theorem DealAt.upd {H : Hp} {d c l : Addr} {o : HO} (h : DealAt H d c) (n1 : l ≠ d) (n2 : l ≠ c) : DealAt (upd H l o) d c := by
  obtain ⟨cs, b, h1, h2, r⟩ := h.ex
  exact ⟨cs, b, by rw [upd_ne (Ne.symm n1)]; exact h1, by rw [upd_ne (Ne.symm n2)]; exact h2, r⟩
theorem DealAt.trk {H : Hp} {d c : Addr} (h : DealAt H d c) : Trk H d ∧ Trk H c := by
  obtain ⟨cs, b, h1, h2, r⟩ := h.ex
  exact ⟨⟨_, h1⟩, ⟨_, h2⟩⟩
theorem DealAt.ne {H : Hp} {d c l : Addr} (D : DealAt H d c) (hl : H l = none) : l ≠ d ∧ l ≠ c := by
  obtain ⟨⟨_, z1⟩, ⟨_, z2⟩⟩ := D.trk
  refine ⟨fun e => ?_, fun e => ?_⟩
  · rw [e, z1] at hl
    cases hl
  · rw [e, z2] at hl
    cases hl
theorem DealAt.new {H : Hp} {d c l : Addr} {o : HO} (h : DealAt H d c) (hl : H l = none) : DealAt (L2.upd H l o) d c := h.upd (h.ne hl).1 (h.ne hl).2
theorem Bt.cell0 {N : Addr → Prop} {H H1 : Hp} {l : Addr} {o : HO} (b : Bt N H H1) (hl : H l = none) : Bt N H (upd H1 l o) := fun q u n e => by
  have z := b q u n e
  rw [upd_ne (ne_of_none e hl)]
  exact z
theorem Bt.trk {N : Addr → Prop} {H H' : Hp} (b : Bt N H H') (hn : ∀ a, N a → Trk H' a) {a : Addr} (h : Trk H a) : Trk H' a := by
  obtain ⟨o, e⟩ := h
  by_cases n : N a
  · exact hn a n
  · exact ⟨o, b a o n e⟩
/-- the cells of the deal and of the room -/
def Md (d c r : Addr) : Addr → Prop := fun a => a = d ∨ a = c ∨ a = r
theorem But.bt {d c r : Addr} {H H' : Hp} (b : But d c H H') : Bt (Md d c r) H H' := fun q o n e => b q o e (fun z => n (.inl z)) (fun z => n (.inr (.inl z)))
def TxtOk (z : Str) : Prop := z = Str.ofString "" ∨ z = Str.ofString "q" ∨ z = Str.ofString "a 7"
def NameOk (x : Str) : Prop := x = Str.ofString "x" ∨ x = Str.ofString "y" ∨ x = Str.ofString "abcdefgh"
inductive Good : Doc → Prop
  | txt (z : Str) (h : TxtOk z) : Good (.txt z)
  | nod (x : Str) (ts : List Doc) (hx : NameOk x) (l : ts.length ≤ 3) (h : ∀ t ∈ ts, Good t) : Good (.nod x ts)
mutual
def nc : Doc → Nat
  | .txt _ => 0
  | .nod _ ts => 1 + ncAll ts
def ncAll : List Doc → Nat
  | [] => 0
  | t :: ts => nc t + ncAll ts
end
theorem ncAll_snoc : ∀ (ts : List Doc) (t : Doc), ncAll (ts ++ [t]) = ncAll ts + nc t
  | [], t => by show nc t + 0 = 0 + nc t; omega
  | u :: ts, t => by
    show nc u + ncAll (ts ++ [t]) = nc u + ncAll ts + nc t
    rw [ncAll_snoc ts t]
    omega
theorem datAll_snoc (ts : List Doc) (t : Doc) : datAll (ts ++ [t]) = datAll ts ++ [t.dat] := by
  rw [datAll_map, datAll_map, List.map_append]
  rfl
def spLText : Sp := fun vs H Q _ => ∃ (d c : Addr), vs = [.ref d] ∧ DealAt H d c ∧ ∀ (z : Str) (H' : Hp), TxtOk z → DealAt H' d c → But d c H H' → Q (.str z) H'
def spLNode (K : PySem.W.Frag) (n : Nat) : Sp := fun vs H Q _ => ∃ (d c nm r : Addr) (k : Nat), vs = [.ref d, .ref nm, .ref r] ∧ DealAt H d c ∧ H nm = some (.lst [.str "x", .str "y", .str "abcdefgh"]) ∧ H r = some (.lst [.int (k : Int)]) ∧
  r ≠ d ∧ r ≠ c ∧ ¬ Md d c r nm ∧ 1 ≤ k ∧ k ≤ n ∧ ∀ (v : V) (x : Str) (ts : List Doc) (k' : Nat) (H' : Hp), Good (.nod x ts) → nc (.nod x ts) + k' ≤ k → Dm K (Trk H) H' v (Doc.nod x ts).dat → DealAt H' d c → H' r = some (.lst [.int (k' : Int)]) → Bt (Md d c r) H H' → Q v H'
structure LNodeTxt (K : PySem.W.Frag) (mg : Str → Option Value) (a_law_any a_law_of a_law_text a_law_node : Addr) : Prop where
  n_tuple : mg "tuple" = none
  n_range : mg "range" = none
  g_law_of : mg "_law_of" = some (.ref a_law_of)
  k_law_of : PySem.W.keepIn K (.ref a_law_of) = true
  g_law_any : mg "_law_any" = some (.ref a_law_any)
  k_law_any : PySem.W.keepIn K (.ref a_law_any) = true
  g_law_text : mg "_law_text" = some (.ref a_law_text)
  k_law_text : PySem.W.keepIn K (.ref a_law_text) = true
  g_law_node : mg "_law_node" = some (.ref a_law_node)
  k_law_node : PySem.W.keepIn K (.ref a_law_node) = true
section
variable {P : Program} {w : World} {K : PySem.W.Frag} {mg : Str → Option Value} {base : Heap} {a_law_any a_law_of a_law_text a_law_node : Addr} {fdA fdO fdT : FuncData}
theorem ok_ltext {fd : FuncData} (F : Fun K "_law_text" "_law_text" sLText a_law_text fd) (T : LNodeTxt K mg a_law_any a_law_of a_law_text a_law_node) (G_law_of : FnOk P w K mg base CX0 2 a_law_of fdO ["deal", "some"] spOf) (b_law_of : Binds K fdO ["deal", "some"] []) :
    FnOk P w K mg base CX0 3 a_law_text fd ["deal"] spLText := by
  refine F.ok scLText (fun vs H Q E h => ?_) (fun cdv A outer s H vs Q E hr h => ?_)
  · obtain ⟨d, c, rfl, _⟩ := h
    rfl
  · obtain ⟨d, c, rfl, D, k⟩ := h
    refine ⟨_, (pss_one (ps_ret (pe_call G_law_of hr rfl T.g_law_of T.k_law_of b_law_of .nil pass0 (pa_cons (pv 0) (pa_cons (pe_lst (pa_cons pe_str (pa_cons pe_str (pa_cons pe_str (pa_cons pe_str pa_nil))))) pa_nil))))), ?_⟩
    refine ⟨_, rfl, (by show 4 ≤ sizeLine; decide), fun l hl => ?_⟩
    obtain ⟨ld, lc⟩ := D.ne hl
    refine ⟨d, c, D.new hl, .inl ⟨l, _, rfl, upd_same, ld, lc, (by show 0 < 4; decide), (by show 4 < 1000000; decide), fun v H2 hv D2 b2 => ?_⟩⟩
    have B2 : But d c H H2 := fun q o e n m => b2 q o (by rw [upd_ne (ne_of_none e hl)]; exact e) n m
    simp only [List.mem_cons, List.not_mem_nil, or_false] at hv
    rcases hv with rfl | rfl | rfl | rfl
    · exact k _ _ (.inl rfl) D2 B2
    · exact k _ _ (.inl rfl) D2 B2
    · exact k _ _ (.inr (.inl rfl)) D2 B2
    · exact k _ _ (.inr (.inr rfl)) D2 B2
theorem ok_lnode {fd : FuncData} (F : Fun K "_law_node" "_law_node" sLNode a_law_node fd) (T : LNodeTxt K mg a_law_any a_law_of a_law_text a_law_node) (b_law_node : Binds K fd ["deal", "names", "room"] [])
    (G_law_any : FnOk P w K mg base CX0 1 a_law_any fdA ["deal", "bound"] spAny) (b_law_any : Binds K fdA ["deal", "bound"] [])
    (G_law_of : FnOk P w K mg base CX0 2 a_law_of fdO ["deal", "some"] spOf) (b_law_of : Binds K fdO ["deal", "some"] [])
    (G_law_text : FnOk P w K mg base CX0 3 a_law_text fdT ["deal"] spLText) (b_law_text : Binds K fdT ["deal"] []) : ∀ n : Nat, FnOk P w K mg base CX0 (4 + n) a_law_node fd ["deal", "names", "room"] (spLNode K n) := by
  intro n
  induction n with
  | zero =>
    refine F.ok scLNode (fun vs H Q E h => ?_) (fun cdv A outer s H vs Q E hr h => ?_)
    · obtain ⟨d, c, nm, r, k, rfl, _⟩ := h
      rfl
    · obtain ⟨d, c, nm, r, k, rfl, _, _, _, _, _, _, k1, k2, _⟩ := h
      omega
  | succ n G_law_node =>
    refine F.ok scLNode (fun vs H Q E h => ?_) (fun cdv A outer s H vs Q E hr h => ?_)
    · obtain ⟨d, c, nm, r, k, rfl, _⟩ := h
      rfl
    · obtain ⟨d, c, nm, r, k, rfl, D, hnm, hr0, rd, rc, nN, k1, k2, kk⟩ := h
      have hr1 : Room 1 _ := hr.mono (by show 1 ≤ 4 + n; omega)
      have hr2 : Room 2 _ := hr.mono (by show 2 ≤ 4 + n; omega)
      have hr3 : Room 3 _ := hr.mono (by show 3 ≤ 4 + n; omega)
      have hr4 : Room (4 + n) _ := hr
      refine ⟨_, (pss_cons (ps_asg (pe_op op_sub (pe_ix ix_list (pv 2) pe_int (fun _ _ => rfl)) pe_int) (pg_sub (pv 2) pe_int set_list))
      (pss_cons (ps_set (i := 3) scLNode.nd rfl (Or.inl rfl) (pe_lst pa_nil))
      (pss_cons (ps_for PassesOwn.never rfl (pi_range1 (by rfl) T.n_range (pa_cons (pe_call G_law_any hr1 rfl T.g_law_any T.k_law_any b_law_any .nil pass0 (pa_cons (pv 0) (pa_cons pe_int pa_nil))) pa_nil)) (pg_name (i := 4) scLNode.nd rfl (Or.inl rfl))
      (pss_one (ps_if (pt_cmpR op_gt (pe_ix ix_list (pv 2) pe_int (fun _ _ => rfl)) pe_int (nomark _))
      (pss_one (ps_expr (pe_bm PySem.F.plainAttrs_list PySem.F.slot_list_append PySem.F.type_list_append mt_append (pv 3) (pa_cons (pe_ifExp (pt_cmpR op_eq (pe_call G_law_any hr1 rfl T.g_law_any T.k_law_any b_law_any .nil pass0 (pa_cons (pv 0) (pa_cons pe_int pa_nil))) pe_int (nomark _)) (pe_call G_law_text hr3 rfl T.g_law_text T.k_law_text b_law_text .nil pass0 (pa_cons (pv 0) pa_nil)) (pe_call G_law_node hr4 rfl T.g_law_node T.k_law_node b_law_node .nil pass0 (pa_cons (pv 0) (pa_cons (pv 1) (pa_cons (pv 2) pa_nil))))) pa_nil))))
      pss_nil)))
      (pss_one (ps_ret (pe_tup (pa_cons (pe_call G_law_of hr2 rfl T.g_law_of T.k_law_of b_law_of .nil pass0 (pa_cons (pv 0) (pa_cons (pv 1) pa_nil))) (pa_cons (pe_callTy call_tuple_of (by rfl) T.n_tuple (by decide +kernel) (pa_cons (pv 3) pa_nil)) pa_nil)))))))), ?_⟩
      refine ⟨_, rfl, _, _, _, _, rfl, rfl, SqL.of hr0, atI_nat (j := 0) rfl, _, _, rfl, rfl, _, rfl, _, _, _, 0, rfl, rfl, hr0, rfl, ?_⟩
      have e0 : ((k : Int) - 1) = ((k - 1 : Nat) : Int) := by omega
      have eS : HO.lst ([V.int (k : Int)].set 0 ((fun i j : Int => V.int (i - j)) (k : Int) 1)) = HO.lst [.int ((k - 1 : Nat) : Int)] := by
        show HO.lst [V.int ((k : Int) - 1)] = _
        rw [e0]
      rw [eS]
      refine ⟨Nat.zero_le _, fun L hL => ?_⟩
      have D0 : DealAt (upd H r (.lst [.int ((k - 1 : Nat) : Int)])) d c := D.upd rd rc
      have hr9 : (upd H r (.lst [.int ((k - 1 : Nat) : Int)])) r = some (.lst [.int ((k - 1 : Nat) : Int)]) := upd_same
      have hnm0 : (upd H r (.lst [.int ((k - 1 : Nat) : Int)])) nm = some (.lst [.str "x", .str "y", .str "abcdefgh"]) := by
        rw [upd_ne (fun z => nN (.inr (.inr z)))]
        exact hnm
      have B0 : Bt (Md d c r) H (upd H r (.lst [.int ((k - 1 : Nat) : Int)])) := Bt.refl.cell (.inr (.inr rfl))
      have Lr : r ≠ L := ne_of_none hr9 hL
      have hLH : H L = none := by
        have z := hL
        rw [upd_ne (Ne.symm Lr)] at z
        exact z
      generalize upd H r (.lst [.int ((k - 1 : Nat) : Int)]) = H0 at hL D0 hr9 hnm0 B0 ⊢
      have tm : ∀ a, Md d c r a → Trk H a := by
        rintro a (z | z | z)
        · rw [z]
          exact D.trk.1
        · rw [z]
          exact D.trk.2
        · rw [z]
          exact ⟨_, hr0⟩
      have nL : ¬ Md d c r L := by
        rintro (z | z | z)
        · exact (D0.ne hL).1 z
        · exact (D0.ne hL).2 z
        · exact Lr z.symm
      refine ⟨_, rfl, d, c, 4, rfl, D0.new hL, by decide, by decide, fun j H2 j0 j1 D2 b2 => ⟨_, rfl, by omega, by omega, ?_⟩⟩
      have hL2 : H2 L = some (.lst []) := b2 L _ upd_same (fun z => nL (.inl z)) (fun z => nL (.inr (.inl z)))
      have hr2' : H2 r = some (.lst [.int ((k - 1 : Nat) : Int)]) := b2 r _ (by rw [upd_ne Lr]; exact hr9) rd rc
      have B2 : Bt (Md d c r) H H2 := (B0.cell0 hLH).trans (But.bt b2)
      refine for_range (lo := 0) (n := j.toNat) (fun i σ H3 => ∃ (xs : List V) (ts : List Doc) (q : Nat) (x4 : Option V), σ = [some (.ref d), some (.ref nm), some (.ref r), some (.ref L), x4] ∧ H3 L = some (.lst xs) ∧ DmAll K (fun a => Trk H a ∨ a = L) H3 xs (datAll ts) ∧
        ts.length ≤ i ∧ (∀ t ∈ ts, Good t) ∧ H3 r = some (.lst [.int (q : Int)]) ∧ ncAll ts + q ≤ k - 1 ∧ DealAt H3 d c ∧ Bt (Md d c r) H H3)
        ⟨[], [], k - 1, none, rfl, hL2, .nil, Nat.le_refl _, by simp, hr2', by show 0 + (k - 1) ≤ k - 1; omega, D2, B2⟩ ?_ ?_
      · rintro i σ H3 hi ⟨xs, ts, q, x4, rfl, l1, l2, l3, l4, l5, l6, D3, B3⟩
        have lx : xs.length ≤ 10 := by
          have := l2.len
          rw [datAll_length] at this
          omega
        refine ⟨_, rfl, _, _, _, _, rfl, rfl, SqL.of l5, atI_nat (j := 0) rfl, _, _, rfl, rfl, _, rfl, ?_⟩
        refine ite2 (fun hq => ?_) (fun hq => ⟨xs, ts, q, _, rfl, l1, l2, by omega, l4, l5, l6, D3, B3⟩)
        have q1 : 1 ≤ q := by
          have : (0 : Int) < (q : Int) := of_decide_eq_true hq
          omega
        refine ⟨_, rfl, .inl ⟨rfl, _, SqL.of l1⟩, _, rfl, d, c, 4, rfl, D3, by decide, by decide, fun j2 H4 _ _ D4 b4 => ⟨rfl, _, rfl, ?_⟩⟩
        have l1' : H4 L = some (.lst xs) := b4 L _ l1 (fun z => nL (.inl z)) (fun z => nL (.inr (.inl z)))
        have l5' : H4 r = some (.lst [.int (q : Int)]) := b4 r _ l5 rd rc
        have b43 : Bt (fun a => Trk H a ∨ a = L) H3 H4 := (But.bt (r := r) b4).mono fun a h => .inl (tm a h)
        refine ite2 (fun _ => ?_) (fun _ => ?_)
        · refine ⟨_, rfl, d, c, rfl, D4, fun z H5 hz D5 b5 => ?_⟩
          have l1'' : H5 L = some (.lst xs) := b5 L _ l1' (fun z => nL (.inl z)) (fun z => nL (.inr (.inl z)))
          have b54 : Bt (fun a => Trk H a ∨ a = L) H3 (upd H5 L (.lst (xs ++ [.str z]))) := (b43.trans ((But.bt (r := r) b5).mono fun a h => .inl (tm a h))).cell (.inr rfl)
          refine ⟨_, _, _, rfl, rfl, l1'', small1000 (by omega), xs ++ [.str z], ts ++ [.txt z], q, _, rfl, upd_same, ?_, by simp; omega, ?_, ?_, ?_, D5.upd (fun z => nL (.inl z)) (fun z => nL (.inr (.inl z))), ?_⟩
          · rw [datAll_snoc]
            exact (l2.up b54).snoc (.str z)
          · intro t ht
            rcases List.mem_append.mp ht with ht | ht
            · exact l4 t ht
            · rw [List.mem_singleton] at ht
              rw [ht]
              exact .txt z hz
          · rw [upd_ne Lr]
            exact b5 r _ l5' rd rc
          · rw [ncAll_snoc]
            show ncAll ts + 0 + q ≤ k - 1
            omega
          · exact ((B3.trans (But.bt b4)).trans (But.bt b5)).cell0 hLH
        · refine ⟨_, rfl, _, rfl, _, rfl, d, c, nm, r, q, rfl, D4, ?_, l5', rd, rc, nN, q1, by omega, fun v x us q' H5 hg hn hv D5 h5 b5 => ?_⟩
          · exact (B3.trans (But.bt b4)) nm _ nN hnm
          have l1'' : H5 L = some (.lst xs) := b5 L _ nL l1'
          have b54 : Bt (fun a => Trk H a ∨ a = L) H3 (upd H5 L (.lst (xs ++ [v]))) := (b43.trans (b5.mono fun a h => .inl (tm a h))).cell (.inr rfl)
          have tr : Trk H4 L := ⟨_, l1'⟩
          refine ⟨_, _, _, rfl, rfl, l1'', small1000 (by omega), xs ++ [v], ts ++ [.nod x us], q', _, rfl, upd_same, ?_, by simp; omega, ?_, ?_, ?_, D5.upd (fun z => nL (.inl z)) (fun z => nL (.inr (.inl z))), ?_⟩
          · rw [datAll_snoc]
            refine (l2.up b54).snoc (Dm.mono (fun a _ h => ?_) (Bt.refl.cell tr) _ _ hv)
            rcases h with h | h
            · refine (B3.trans (But.bt b4)).trk (fun a h => ?_) h
              rcases h with z | z | z
              · rw [z]
                exact D4.trk.1
              · rw [z]
                exact D4.trk.2
              · rw [z]
                exact ⟨_, l5'⟩
            · rw [h]
              exact tr
          · intro t ht
            rcases List.mem_append.mp ht with ht | ht
            · exact l4 t ht
            · rw [List.mem_singleton] at ht
              rw [ht]
              exact hg
          · rw [upd_ne Lr]
            exact h5
          · rw [ncAll_snoc]
            omega
          · exact ((B3.trans (But.bt b4)).trans b5).cell0 hLH
      · rintro σ H3 ⟨xs, ts, q, x4, rfl, l1, l2, l3, l4, l5, l6, D3, B3⟩
        have lt3 : ts.length ≤ 3 := by omega
        refine ⟨_, rfl, _, rfl, d, c, D3, .inl ⟨nm, _, rfl, B3 nm _ nN hnm, fun z => nN (.inl z), fun z => nN (.inr (.inl z)), (by show 0 < 3; decide), (by show 3 < 1000000; decide), fun v H4 hv D4 b4 => ?_⟩⟩
        have l1' : H4 L = some (.lst xs) := b4 L _ l1 (fun z => nL (.inl z)) (fun z => nL (.inr (.inl z)))
        refine ⟨_, rfl, L, xs, rfl, .inl ⟨SqL.of l1', fun p hp => ⟨(by show 2 ≤ sizeLine; decide), fun p2 hp2 => ?_⟩⟩⟩
        have D5 := (D4.new (o := .tup xs) hp).new (o := .tup [v, .ref p]) hp2
        have pp : p ≠ p2 := ne_of_none upd_same hp2
        have hr5 : (upd (upd H4 p (.tup xs)) p2 (.tup [v, .ref p])) r = some (.lst [.int (q : Int)]) := by
          have z := b4 r _ l5 rd rc
          have z2 := ne_of_none z hp
          rw [upd_ne (ne_of_none (by rw [upd_ne z2]; exact z) hp2), upd_ne z2]
          exact z
        have tr4 : ∀ a, Trk H a → Trk H4 a := fun a h => (B3.trans (But.bt b4)).trk (fun a h => by
          rcases h with z | z | z
          · rw [z]
            exact D4.trk.1
          · rw [z]
            exact D4.trk.2
          · rw [z]
            exact ⟨_, b4 r _ l5 rd rc⟩) h
        have n1 : ¬ Trk H p := fun h => by
          obtain ⟨_, z⟩ := tr4 p h
          rw [hp] at z
          cases z
        have n2 : ¬ Trk H p2 := fun h => by
          obtain ⟨_, z⟩ := tr4 p2 h
          rw [upd_ne (Ne.symm pp), z] at hp2
          cases hp2
        have b34 : Bt (Md d c r) H3 (upd (upd H4 p (.tup xs)) p2 (.tup [v, .ref p])) := ((But.bt b4).new hp).new hp2
        have fin : ∀ x, NameOk x → v = .str x → Q (.ref p2) (upd (upd H4 p (.tup xs)) p2 (.tup [v, .ref p])) := by
          intro x hx ev
          refine kk _ x ts q _ (.nod x ts hx lt3 l4) ?_ ?_ D5 hr5 (B3.trans b34)
          · show 1 + ncAll ts + q ≤ k
            omega
          · refine .tup upd_same n2 (.cons (by rw [ev]; exact .str x) (.cons (.tup (xs := xs) ?_ n1 ?_) .nil))
            · rw [upd_ne pp, upd_same]
            · refine DmAll.mono (fun a _ h => .inl h) ?_ _ _ l2
              exact (b34.mono fun a h => .inl (tm a h))
        simp only [List.mem_cons, List.not_mem_nil, or_false] at hv
        rcases hv with ev | ev | ev
        · exact fin _ (.inl rfl) ev
        · exact fin _ (.inr (.inl rfl)) ev
        · exact fin _ (.inr (.inr rfl)) ev
end
end Km

/-! the law's marks -/
namespace Km
open PySem L2 Xr
abbrev sLMarks : Stmt := top 27
theorem scLMarks : FnScope ["thing", "found", "part"] ["thing"] (defScope sLMarks) := ⟨rfl, rfl, rfl, by decide +kernel, rfl, by decide +kernel, by decide +kernel⟩
theorem datAll_get {ts : List Doc} {i : Nat} {d : PyData} (h : (datAll ts)[i]? = some d) : ∃ t, ts[i]? = some t ∧ d = t.dat := by
  rw [datAll_map, List.getElem?_map] at h
  cases e : ts[i]? with
  | none =>
    rw [e] at h
    cases h
  | some t =>
    rw [e] at h
    exact ⟨t, rfl, (Option.some.inj h).symm⟩
theorem nc_part : ∀ (ts : List Doc) (t : Doc), t ∈ ts → nc t ≤ ncAll ts
  | u :: ts, t, h => by
    show nc t ≤ nc u + ncAll ts
    rcases List.mem_cons.mp h with h | h
    · rw [h]
      omega
    · have := nc_part ts t h
      omega
theorem marks_part : ∀ (ts : List Doc) (t : Doc), t ∈ ts → t.marks.length ≤ (marksAll ts).length
  | u :: ts, t, h => by
    show t.marks.length ≤ (u.marks ++ marksAll ts).length
    rw [List.length_append]
    rcases List.mem_cons.mp h with h | h
    · rw [h]
      omega
    · have := marks_part ts t h
      omega
theorem take_snoc {α : Type} {l : List α} {i : Nat} {x : α} (h : l[i]? = some x) : l.take (i + 1) = l.take i ++ [x] := by
  induction l generalizing i with
  | nil => simp at h
  | cons a l ih =>
    cases i with
    | zero =>
      have e : a = x := Option.some.inj h
      subst e
      rfl
    | succ i =>
      show a :: l.take (i + 1) = a :: l.take i ++ [x]
      rw [ih h]
      rfl
theorem marksAll_take (ts : List Doc) (i : Nat) : (marksAll (ts.take i)).length ≤ (marksAll ts).length := by
  have e : ts = ts.take i ++ ts.drop i := (List.take_append_drop i ts).symm
  have := congrArg (fun l => (marksAll l).length) e
  simp only [marksAll_app, List.length_append] at this
  omega
def spLMarks (K : PySem.W.Frag) (n : Nat) : Sp := fun vs H Q _ => ∃ (v : V) (t : Doc) (N : Addr → Prop), vs = [v] ∧ (∀ a, N a → Trk H a) ∧ Dm K N H v t.dat ∧ nc t ≤ n ∧ t.marks.length ≤ 900 ∧
  ∀ (L : Addr) (xs : List V) (H' : Hp), H' L = some (.lst xs) → DmAll K N H' xs t.marks → Same H H' → Q (.ref L) H'
structure LMarksTxt (K : PySem.W.Frag) (mg : Str → Option Value) (a_law_marks : Addr) : Prop where
  n_isinstance : mg "isinstance" = none
  n_str : mg "str" = none
  g_law_marks : mg "_law_marks" = some (.ref a_law_marks)
  k_law_marks : PySem.W.keepIn K (.ref a_law_marks) = true
theorem not_new {N : Addr → Prop} {H H1 : Hp} {p : Addr} (hN : ∀ a, N a → Trk H a) (s : Same H H1) (hp : H1 p = none) : ¬ N p := fun n => by
  obtain ⟨_, z⟩ := (hN p n).same s
  rw [hp] at z
  cases z
section
variable {P : Program} {w : World} {K : PySem.W.Frag} {mg : Str → Option Value} {base : Heap} {a_law_marks : Addr}
theorem lmarks_txt {fd : FuncData} {n : Nat} {A : Around} {cdv : Value} {outer : List Env} {s : Shared} {H : Hp} {E : XK} (T : LMarksTxt K mg a_law_marks) : True := trivial
theorem ok_lmarks {fd : FuncData} (F : Fun K "_law_marks" "_law_marks" sLMarks a_law_marks fd) (T : LMarksTxt K mg a_law_marks) (b_law_marks : Binds K fd ["thing"] []) : ∀ n : Nat, FnOk P w K mg base CX0 (1 + n) a_law_marks fd ["thing"] (spLMarks K n) := by
  intro n
  induction n with
  | zero =>
    refine F.ok scLMarks (fun vs H Q E h => ?_) (fun cdv A outer s H vs Q E hr h => ?_)
    · obtain ⟨v, t, N, rfl, _⟩ := h
      rfl
    · obtain ⟨v, t, N, rfl, hN, hv, hn, hl, k⟩ := h
      refine ⟨_, pss_cons (ps_if (pt_val (pe_callB call_isi (by rfl) T.n_isinstance (by decide +kernel) (pa_cons (pv 0) (pa_cons (pe_bltn (v := V.ty "str") (u := .type "str") (by rfl) T.n_str (by decide +kernel) (by rfl)) pa_nil))))
        (pss_one (ps_ret (pe_lst (pa_cons (pe_tup (pa_cons pe_str (pa_cons (pv 0) pa_nil))) pa_nil)))) pss_nil) pss_never, ?_⟩
      cases t with
      | nod x ts =>
        have z : 1 + ncAll ts ≤ 0 := hn
        omega
      | txt z =>
        have hv' : Dm K N H v (.str z) := hv
        have ev := hv'.strV
        subst ev
        refine ⟨_, rfl, _, _, _, _, true, rfl, .ty "str", .base (.str z), kit_ty (by decide +kernel), _, rfl, iteT ?_⟩
        refine ⟨_, rfl, (by show 2 ≤ sizeLine; decide), fun p hp => ⟨(by show 1 ≤ sizeLine; decide), fun L hL => ?_⟩⟩
        have pL : p ≠ L := ne_of_none upd_same hL
        exact k L _ _ upd_same (.cons (.tup (xs := [.str "text", .str z]) (by rw [upd_ne pL, upd_same]) (not_new hN (Same.refl H) hp) (.cons (.str _) (.cons (.str _) .nil))) .nil) (((Same.refl H).new hp).new hL)
  | succ n G_law_marks =>
    refine F.ok scLMarks (fun vs H Q E h => ?_) (fun cdv A outer s H vs Q E hr h => ?_)
    · obtain ⟨v, t, N, rfl, _⟩ := h
      rfl
    · obtain ⟨v, t, N, rfl, hN, hv, hn, hl, k⟩ := h
      refine ⟨_, (pss_cons (ps_if (pt_val (pe_callB call_isi (by rfl) T.n_isinstance (by decide +kernel) (pa_cons (pv 0) (pa_cons (pe_bltn (v := V.ty "str") (u := .type "str") (by rfl) T.n_str (by decide +kernel) (by rfl)) pa_nil))))
      (pss_one (ps_ret (pe_lst (pa_cons (pe_tup (pa_cons pe_str (pa_cons (pv 0) pa_nil))) pa_nil))))
      pss_nil)
      (pss_cons (ps_set (i := 1) scLMarks.nd rfl (Or.inl rfl) (pe_lst (pa_cons (pe_tup (pa_cons pe_str (pa_cons (pe_ix ix_tup (pv 0) pe_int (fun _ _ => rfl)) pa_nil))) pa_nil)))
      (pss_cons (ps_for PassesOwn.never rfl (pi_tup (pe_ix ix_tup (pv 0) pe_int (fun _ _ => rfl))) (pg_name (i := 2) scLMarks.nd rfl (Or.inl rfl))
      (pss_one (ps_set (i := 1) scLMarks.nd rfl (Or.inl rfl) (pe_op op_cat (pv 1) (pe_call G_law_marks hr rfl T.g_law_marks T.k_law_marks b_law_marks .nil pass0 (pa_cons (pv 2) pa_nil))))))
      (pss_one (ps_ret (pe_op op_cat (pv 1) (pe_lst (pa_cons (pe_tup (pa_cons pe_str pa_nil)) pa_nil)))))))), ?_⟩
      cases t with
      | txt z =>
        have hv' : Dm K N H v (.str z) := hv
        have ev := hv'.strV
        subst ev
        refine ⟨_, rfl, _, _, _, _, true, rfl, .ty "str", .base (.str z), kit_ty (by decide +kernel), _, rfl, iteT ?_⟩
        refine ⟨_, rfl, (by show 2 ≤ sizeLine; decide), fun p hp => ⟨(by show 1 ≤ sizeLine; decide), fun L hL => ?_⟩⟩
        have pL : p ≠ L := ne_of_none upd_same hL
        exact k L _ _ upd_same (.cons (.tup (xs := [.str "text", .str z]) (by rw [upd_ne pL, upd_same]) (not_new hN (Same.refl H) hp) (.cons (.str _) (.cons (.str _) .nil))) .nil) (((Same.refl H).new hp).new hL)
      | nod x ts =>
        have hv' : Dm K N H v (.tuple [.str x, .tuple (datAll ts)]) := hv
        obtain ⟨a, y1, ey, ta, d1⟩ := hv'.pair
        subst ey
        obtain ⟨b, zs, ey, tb, db⟩ := d1.seq
        subst ey
        have hn' : 1 + ncAll ts ≤ n + 1 := hn
        have hl' : (mOpen x :: (marksAll ts ++ [mClose])).length ≤ 900 := hl
        rw [List.length_cons, List.length_append, List.length_singleton] at hl'
        have lz : zs.length = ts.length := by rw [db.len, datAll_length]
        refine ⟨_, rfl, _, _, _, _, false, rfl, .ty "str", ta.ty, kit_ty (by decide +kernel), _, rfl, iteF ?_⟩
        refine ⟨_, rfl, _, _, _, _, rfl, rfl, ta.sq, atI_nat (j := 0) rfl, (by show 2 ≤ sizeLine; decide), fun p hp => ⟨(by show 1 ≤ sizeLine; decide), fun L hL => ?_⟩⟩
        have pL : p ≠ L := ne_of_none upd_same hL
        have s0 : Same H (upd (upd H p (.tup [.str "open", .str x])) L (.lst [.ref p])) := ((Same.refl H).new hp).new hL
        have p0 : ¬ N p := not_new hN (Same.refl H) hp
        refine ⟨_, rfl, _, _, _, _, rfl, rfl, (ta.up (Bt.same s0)).sq, atI_nat (j := 1) rfl, b, rfl, ⟨_, (tb.up (Bt.same s0)).sq⟩, ?_⟩
        refine for_tup (K := K) (a := b) (xs := zs) (fun i σ H1 => ∃ (M : Addr) (xs : List V) (x2 : Option V), σ = [some (.ref a), some (.ref M), x2] ∧ H1 M = some (.lst xs) ∧ DmAll K N H1 xs (mOpen x :: marksAll (ts.take i)) ∧ Same H H1)
          ⟨L, [.ref p], none, rfl, upd_same, .cons (.tup (xs := [.str "open", .str x]) (by rw [upd_ne pL, upd_same]) p0 (.cons (.str _) (.cons (.str _) .nil))) .nil, s0⟩ (fun i σ H1 _ ⟨_, _, _, _, _, _, s1⟩ => (tb.up (Bt.same s1)).sq) ?_ ?_
        · rintro i y σ H1 hy ⟨M, xs, x2, rfl, m1, m2, s1⟩
          obtain ⟨dd, hd, dy⟩ := db.getV hy
          obtain ⟨t, ht, rfl⟩ := datAll_get hd
          have mem : t ∈ ts := List.mem_of_getElem? ht
          have h1 := nc_part ts t mem
          have h2 := marks_part ts t mem
          refine ⟨_, rfl, _, rfl, y, t, N, rfl, fun a h => (hN a h).same s1, dy.up (Bt.same s1), by omega, by omega, fun M2 xs2 H2 q1 q2 s2 => ?_⟩
          have lx := m2.len
          have lx2 := q2.len
          have h3 := marksAll_take ts i
          rw [List.length_cons] at lx
          refine ⟨_, _, _, _, rfl, rfl, s2 _ _ m1, q1, (by rw [sizeLine_eq]; omega), fun q hq => ?_⟩
          have b2 : Bt N H1 (upd H2 q (.lst (xs ++ xs2))) := Bt.same (s2.new hq)
          refine ⟨q, xs ++ xs2, _, rfl, upd_same, ?_, (s1.trans s2).new hq⟩
          rw [take_snoc ht, marksAll_app]
          have e1 : marksAll [t] = t.marks := by
            show t.marks ++ [] = t.marks
            rw [List.append_nil]
          rw [e1]
          exact (m2.up b2).app (q2.up (Bt.same (fun a o e => by rw [upd_ne (ne_of_none e hq)]; exact e)))
        · rintro σ H1 ⟨M, xs, x2, rfl, m1, m2, s1⟩
          rw [lz, List.take_length] at m2
          have lx := m2.len
          rw [List.length_cons] at lx
          refine ⟨_, rfl, (by show 1 ≤ sizeLine; decide), fun q hq => ⟨(by show 1 ≤ sizeLine; decide), fun q2 hq2 => ?_⟩⟩
          have qq : q ≠ q2 := ne_of_none upd_same hq2
          have Mq := ne_of_none m1 hq
          have Mq2 : M ≠ q2 := ne_of_none (by rw [upd_ne Mq]; exact m1) hq2
          refine ⟨_, _, _, _, rfl, rfl, (by rw [upd_ne Mq2, upd_ne Mq]; exact m1), upd_same, (by rw [sizeLine_eq, List.length_singleton]; omega), fun q3 hq3 => ?_⟩
          have s2 : Same H1 (upd (upd (upd H1 q (.tup [.str "close"])) q2 (.lst [.ref q])) q3 (.lst (xs ++ [.ref q]))) := (((Same.refl H1).new hq).new hq2).new hq3
          have qq3 : q ≠ q3 := ne_of_none (by rw [upd_ne qq, upd_same]) hq3
          refine k q3 _ _ upd_same ?_ (s1.trans s2)
          show DmAll K N _ (xs ++ [.ref q]) ((mOpen x :: marksAll ts) ++ [mClose])
          refine (m2.up (Bt.same s2)).snoc (.tup (xs := [.str "close"]) ?_ (not_new hN s1 hq) (.cons (.str _) .nil))
          rw [upd_ne qq3, upd_ne qq, upd_same]
end
end Km

/-! whether a value is a mark, by the law -/
namespace Km
open PySem L2 Xr
abbrev sIsMark : Stmt := top 28
theorem scIsMark : FnScope ["value", "signs", "sign"] ["value"] (defScope sIsMark) := ⟨rfl, rfl, rfl, by decide +kernel, rfl, by decide +kernel, by decide +kernel⟩
abbrev dig : Str := Str.ofString "0123456789 "
def outAbc (z : Str) : List Nat := z.cps.toList.filter fun c => !decide (c ∈ abc.cps.toList)
def outDig (l : List Nat) : List Nat := l.filter fun c => !decide (c ∈ dig.cps.toList)
def sg (c : Nat) : V := .str ⟨#[c]⟩
def sgD (c : Nat) : PyData := .str ⟨#[c]⟩
theorem dp_sg {K : PySem.W.Frag} {H : Hp} : ∀ l : List Nat, DpAll K H (l.map sg) (l.map sgD)
  | [] => .nil
  | c :: l => .cons (.str _) (dp_sg l)
theorem shaped_sg {l : List Nat} (h : ∀ c ∈ l, c < 128) : SeqAt.shaped (.list (l.map sgD)) = true := by
  have e1 : ∀ l : List Nat, (∀ c ∈ l, c < 128) → PyData.canLayAll0 (l.map sgD) = true ∧ PyData.depthAll (l.map sgD) = 0 := by
    intro l
    induction l with
    | nil =>
      intro _
      exact ⟨rfl, rfl⟩
    | cons c l ih =>
      intro h
      obtain ⟨a, b⟩ := ih fun x hx => h x (List.mem_cons_of_mem _ hx)
      have hc : PyData.canLay0 (sgD c) = true := canLay_plain (n := 1) ⟨Nat.le_refl _, fun ch hch => by
        have e : ch = c := by simpa using hch
        rw [e]
        exact h c (by simp)⟩
      refine ⟨?_, ?_⟩
      · rw [List.map_cons]
        unfold PyData.canLayAll0
        rw [hc, a]
        rfl
      · rw [List.map_cons]
        unfold PyData.depthAll
        rw [b]
        unfold sgD PyData.depth
        rfl
  obtain ⟨a, b⟩ := e1 l h
  unfold SeqAt.shaped PyData.canLay0 PyData.depth
  rw [a, b]
  rfl
theorem eqv_sg (l : List Nat) : PyData.eqv (.list (l.map sgD)) (.list []) = l.isEmpty := by
  cases l <;> rfl
theorem shaped_nil : SeqAt.shaped (.list []) = true := rfl
theorem filter_empty {α : Type} (l : List α) (f : α → Bool) : (l.filter fun c => !f c).isEmpty = l.all f := by
  induction l with
  | nil => rfl
  | cons a l ih =>
    rw [List.filter_cons, List.all_cons]
    cases h : f a with
    | true =>
      rw [if_neg (by simp), ih, Bool.true_and]
    | false =>
      rw [if_pos (by simp), Bool.false_and]
      rfl
theorem abc9_mem (c : Nat) : decide (c ∈ abc9.cps.toList) = (decide (c ∈ abc.cps.toList) || decide (c ∈ dig.cps.toList)) := by
  have e : abc9.cps.toList = abc.cps.toList ++ dig.cps.toList := by decide +kernel
  rw [e, Bool.eq_iff_iff]
  simp
theorem outDig_empty (z : Str) : (outDig (outAbc z)).isEmpty = hasOnly z abc9 := by
  have e : outDig (outAbc z) = z.cps.toList.filter fun c => !decide (c ∈ abc9.cps.toList) := by
    unfold outDig outAbc
    rw [List.filter_filter]
    congr 1
    funext c
    rw [abc9_mem, Bool.not_or, Bool.and_comm]
  rw [e, filter_empty]
  rfl
theorem outAbc_empty (z : Str) : (outAbc z).isEmpty = hasOnly z abc := by
  unfold outAbc
  rw [filter_empty]
  rfl
theorem take_filter {α : Type} {l : List α} {i : Nat} {x : α} (f : α → Bool) (h : l[i]? = some x) : (l.take (i + 1)).filter f = (l.take i).filter f ++ if f x then [x] else [] := by
  rw [take_snoc h, List.filter_append]
  congr 1
  cases e : f x <;> simp [e]
theorem filter_len {α : Type} (l : List α) (f : α → Bool) (i : Nat) : ((l.take i).filter f).length ≤ l.length := by
  have := List.length_filter_le f (l.take i)
  rw [List.length_take] at this
  omega
def spIsMark (K : PySem.W.Frag) : Sp := fun vs H Q _ => ∃ (v : V) (d : PyData) (N : Addr → Prop), vs = [v] ∧ Dm K N H v d ∧ MkL d ∧ ∀ H', Same H H' → Q (.bl (decide (kindD d ≠ 0))) H'
structure IsMarkTxt (K : PySem.W.Frag) (mg : Str → Option Value) : Prop where
  n_isinstance : mg "isinstance" = none
  n_tuple : mg "tuple" = none
  n_str : mg "str" = none
  n_len : mg "len" = none
section
variable {P : Program} {w : World} {K : PySem.W.Frag} {mg : Str → Option Value} {base : Heap}
theorem ok_isMark {f : Addr} {fd : FuncData} (F : Fun K "_law_is_mark" "_law_is_mark" sIsMark f fd) (T : IsMarkTxt K mg) : FnOk P w K mg base CX0 1 f fd ["value"] (spIsMark K) := by
  refine F.ok scIsMark (fun vs H Q E h => ?_) (fun cdv A outer s H vs Q E hr h => ?_)
  · obtain ⟨v, d, N, rfl, _⟩ := h
    rfl
  · obtain ⟨v, d, N, rfl, hv, hm, k⟩ := h
    refine ⟨_, (pss_cons (ps_if (PW.pt (pw_or (pt_not (pt_val (pe_callB call_isi (by rfl) T.n_isinstance (by decide +kernel) (pa_cons (pv 0) (pa_cons (pe_bltn (v := V.ty "tuple") (u := .type "tuple") (by rfl) T.n_tuple (by decide +kernel) (by rfl)) pa_nil))))) (pw_or1 (pt_cmpR op_notIn_seq (pe_callB call_len_seq (by rfl) T.n_len PySem.boot_len (pa_cons (pv 0) pa_nil)) (pe_lst (pa_cons pe_int (pa_cons pe_int pa_nil))) (by rfl)))))
      (pss_one (ps_ret pe_bl))
      pss_nil)
      (pss_cons (ps_if (PW.pt (pw_or (pt_cmpR op_eq (pe_callB call_len_seq (by rfl) T.n_len PySem.boot_len (pa_cons (pv 0) pa_nil)) pe_int (nomark _)) (pw_or (pt_not (pt_val (pe_callB call_isi (by rfl) T.n_isinstance (by decide +kernel) (pa_cons (pe_ix ix_tup (pv 0) pe_int (fun _ _ => rfl)) (pa_cons (pe_bltn (v := V.ty "str") (u := .type "str") (by rfl) T.n_str (by decide +kernel) (by rfl)) pa_nil))))) (pw_or1 (pt_not (pt_val (pe_callB call_isi (by rfl) T.n_isinstance (by decide +kernel) (pa_cons (pe_ix ix_tup (pv 0) pe_int (fun _ _ => rfl)) (pa_cons (pe_bltn (v := V.ty "str") (u := .type "str") (by rfl) T.n_str (by decide +kernel) (by rfl)) pa_nil)))))))))
      (pss_one (ps_ret (pe_cmpR (op_eqD hr.units) (pv 0) (pe_tup (pa_cons pe_str pa_nil)) (nomark _))))
      pss_nil)
      (pss_cons (ps_setLc (i := 1) (own := [("sign", 2)]) (g := gName 2) (by rfl) scIsMark.nd rfl rfl (sw_true rfl rfl rfl (by decide +kernel)) (pi_str (pe_ix ix_tup (pv 0) pe_int (fun _ _ => rfl))) (blkOk_by (own := [("sign", 2)]) (N := ["value", "signs", "sign"]) (sc := defScope sIsMark) (by decide +kernel)) (fun _ _ _ _ _ => pg_name (i := 2) scIsMark.nd rfl (Or.inl rfl)) (fun _ _ _ _ _ => pts_one (pt_cmpR op_notIn_sign (pv 2) pe_str (by rfl))) (fun _ _ _ _ _ => (pv 2)))
      (pss_cons (ps_if (pt_cmpR op_eq (pe_ix ix_tup (pv 0) pe_int (fun _ _ => rfl)) pe_str (nomark _))
      (pss_one (ps_ret (pe_and (pe_cmpR (op_eqD hr.units) (pv 1) (pe_lst pa_nil) (nomark _)) (pe_one (pe_chain op_lt op_lt pe_int (pe_callB call_len_str (by rfl) T.n_len PySem.boot_len (pa_cons (pe_ix ix_tup (pv 0) pe_int (fun _ _ => rfl)) pa_nil)) pe_int)))))
      pss_nil)
      (pss_one (ps_ret (pe_and (pe_cmpR op_eq (pe_ix ix_tup (pv 0) pe_int (fun _ _ => rfl)) pe_str (nomark _)) (pe_and (pe_cmpR op_lt (pe_callB call_len_str (by rfl) T.n_len PySem.boot_len (pa_cons (pe_ix ix_tup (pv 0) pe_int (fun _ _ => rfl)) pa_nil)) pe_int (nomark _)) (pe_one (pe_cmpR (op_eqD hr.units) (pe_lc (own := [("sign", 2)]) (g := gName 2) (by rfl) scIsMark.nd (pi_list (pv 1)) (blkOk_by (own := [("sign", 2)]) (N := ["value", "signs", "sign"]) (sc := defScope sIsMark) (by decide +kernel)) (fun _ _ _ _ _ => pg_name (i := 2) scIsMark.nd rfl (Or.inl rfl)) (fun _ _ _ _ _ => pts_one (pt_cmpR op_notIn_sign (pv 2) pe_str (by rfl))) (fun _ _ _ _ _ => (pv 2))) (pe_lst pa_nil) (nomark _))))))))))), ?_⟩
    refine ⟨_, rfl, _, _, _, _, _, rfl, .ty "tuple", hv.ty, kit_tup d, _, rfl, ?_⟩
    cases hm with
    | non => exact iteT (k _ (Same.refl H))
    | str s h => exact iteT (k _ (Same.refl H))
    | lst => exact iteT (k _ (Same.refl H))
    | one s h =>
      obtain ⟨a, xs, rfl, ta, al⟩ := hv.seq
      cases al with
      | cons h1 r =>
        cases r
        cases h1
        have ta1 : Tp K (fun _ => False) H a [.str s] := ta.elim (fun z => .inl ⟨z.1, id⟩) .inr
        refine iteF ⟨_, rfl, _, _, rfl, .inr ta.sq, (by show 2 ≤ sizeLine; decide), fun l hl => ⟨l, _, rfl, .inl (SqL.of upd_same), rfl, rfl, _, rfl, iteF ?_⟩⟩
        have s1 : Same H (upd H l (.lst [.int 1, .int 2])) := (Same.refl H).new hl
        refine ⟨_, rfl, _, _, rfl, .inr (ta1.up (Bt.same s1)).sq, rfl, _, rfl, iteT ?_⟩
        refine ⟨_, rfl, (by show 1 ≤ sizeLine; decide), fun p hp => ?_⟩
        have s2 := s1.new (o := .tup [.str "close"]) hp
        refine ⟨_, _, .tup (ta1.up (Bt.same s2)).sq (.cons (.str _) .nil), .tup (SqT.of upd_same) (.cons (.str _) .nil), shaped_one h, shaped_one plain_close, ?_⟩
        rw [eqv_one]
        have e0 : kindD (.tuple [.str s]) = if s = Str.ofString "close" then 3 else 0 := rfl
        have := k _ s2
        rw [e0] at this
        by_cases hc : s = Str.ofString "close"
        · rw [if_pos hc] at this
          rw [decide_eq_true hc]
          exact this
        · rw [if_neg hc] at this
          rw [decide_eq_false hc]
          exact this
    | two s z h h2 =>
      obtain ⟨a, y, rfl, ta, hy⟩ := hv.pair
      have ey := hy.strV
      subst ey
      have ta1 : Tp K (fun _ => False) H a [.str s, .str z] := ta.elim (fun z => .inl ⟨z.1, id⟩) .inr
      have tt : ∀ H1, Same H H1 → SqT K H1 a [.str s, .str z] := fun H1 s1 => (ta1.up (Bt.same s1)).sq
      refine iteF ⟨_, rfl, _, _, rfl, .inr ta.sq, (by show 2 ≤ sizeLine; decide), fun l hl => ⟨l, _, rfl, .inl (SqL.of upd_same), rfl, rfl, _, rfl, iteF ?_⟩⟩
      have s1 : Same H (upd H l (.lst [.int 1, .int 2])) := (Same.refl H).new hl
      generalize upd H l (.lst [.int 1, .int 2]) = H1 at s1 ⊢
      refine ⟨_, rfl, _, _, rfl, .inr (tt _ s1), rfl, _, rfl, iteF ?_⟩
      refine ⟨_, rfl, _, _, _, _, rfl, rfl, tt _ s1, atI_nat (j := 0) rfl, _, _, _, _, true, rfl, .ty "str", .base (.str s), kit_ty (by decide +kernel), _, rfl, iteF ?_⟩
      refine ⟨_, rfl, _, _, _, _, rfl, rfl, tt _ s1, atI_nat (j := 1) rfl, _, _, _, _, true, rfl, .ty "str", .base (.str z), kit_ty (by decide +kernel), _, rfl, iteF ?_⟩
      have lz : z.length = z.cps.toList.length := by
        show z.cps.size = _
        simp
      have z17 := h2.len
      refine ⟨_, rfl, _, _, _, _, rfl, rfl, tt _ s1, atI_nat (j := 1) rfl, z, rfl, fun D hD => ?_⟩
      refine lc_it walk_str (fun i H2 => Same H H2 ∧ H2 D = some (.lst (((z.cps.toList.take i).filter fun c => !decide (c ∈ abc.cps.toList)).map sg))) ⟨s1.new hD, upd_same⟩ (fun _ _ _ _ => trivial) ?_ ?_
      · rintro i x H2 H3 hi ⟨q1, q2⟩ ⟨rfl, c, hc, rfl⟩
        have ec : z.cps.toList[i]? = some c := by simpa using hc
        refine ⟨rfl, _, rfl, c, abc, rfl, rfl, _, rfl, ?_⟩
        have fl := filter_len z.cps.toList (fun c => !decide (c ∈ abc.cps.toList)) i
        have e9 := take_filter (fun c => !decide (c ∈ abc.cps.toList)) ec
        refine ite2 (fun hb => ?_) (fun hb => ?_)
        · refine ⟨_, rfl, _, q2, small1000 (by rw [List.length_map]; omega), q1.cell (s1.free hD), ?_⟩
          rw [upd_same, e9, if_pos hb]
          simp [sg]
        · refine ⟨q1, ?_⟩
          rw [e9, if_neg hb, List.append_nil]
          exact q2
      · rintro H2 ⟨q1, q2⟩
        have e1 : z.cps.toList.take z.cps.size = z.cps.toList := by
          rw [List.take_of_length_le]
          simp
        rw [e1] at q2
        have q3 : H2 D = some (.lst ((outAbc z).map sg)) := q2
        have low : ∀ c ∈ outAbc z, c < 128 := fun c hc => h2.low c (List.mem_filter.mp hc).1
        refine ⟨_, rfl, _, _, _, _, rfl, rfl, tt _ q1, atI_nat (j := 0) rfl, rfl, _, rfl, ?_⟩
        have e0 : kindD (.tuple [.str s, .str z]) = if s = Str.ofString "open" ∧ nameD (.str z) = true then 1 else if s = Str.ofString "text" ∧ textD (.str z) = true then 2 else 0 := rfl
        rw [e0] at k
        by_cases ho : s = Str.ofString "open"
        · subst ho
          refine iteT ⟨_, rfl, Nat.zero_le _, fun p hp => ?_⟩
          have s3 := q1.new (o := .lst []) hp
          have nD : D ≠ p := ne_of_none q3 hp
          refine ⟨_, _, .lst (SqL.of (by rw [upd_ne nD]; exact q3)) (dp_sg _), .lst (SqL.of upd_same) .nil, shaped_sg low, shaped_nil, _, rfl, ?_⟩
          rw [eqv_sg, outAbc_empty]
          have kk : ∀ H', Same H H' → Q (.bl (nameD (.str z))) H' := fun H' s' => by
            have := k H' s'
            cases hn : nameD (.str z) with
            | true =>
              rw [if_pos ⟨rfl, hn⟩] at this
              exact this
            | false =>
              rw [if_neg (fun q => by rw [hn] at q; cases q.2), if_neg (fun q => absurd q.1 (by decide))] at this
              exact this
          have en : nameD (.str z) = (decide (z.length ≠ 0) && (decide (z.length ≤ 8) && hasOnly z abc)) := rfl
          refine ite2 (fun hh => ?_) (fun hh => ?_)
          · refine ⟨_, rfl, _, _, _, _, rfl, rfl, tt _ s3, atI_nat (j := 1) rfl, _, rfl, (by rw [sizeLine_eq]; omega), _, _, rfl, rfl, _, rfl, ?_⟩
            refine ite2 (fun h0 => ?_) (fun h0 => ?_)
            · have z0 : (0 : Int) < (z.length : Int) := of_decide_eq_true h0
              have := kk _ s3
              rw [en, hh, Bool.and_true, decide_eq_true (show z.length ≠ 0 by omega), Bool.true_and] at this
              refine ⟨_, _, rfl, rfl, ?_⟩
              have e8 : decide ((z.length : Int) < 9) = decide (z.length ≤ 8) := by
                rw [Bool.eq_iff_iff]
                simp
                omega
              show Q (.bl (decide ((z.length : Int) < 9))) _
              rw [e8]
              exact this
            · have z0 : ¬ (0 : Int) < (z.length : Int) := fun q => h0 (decide_eq_true q)
              have := kk _ s3
              rw [en, decide_eq_false (show ¬ z.length ≠ 0 by omega), Bool.false_and] at this
              exact this
          · have := kk _ s3
            have hf : hasOnly z abc = false := by simpa using hh
            rw [en, hf, Bool.and_false, Bool.and_false] at this
            exact this
        · have ne : ¬ (V.str s = V.str (Str.ofString "open")) := fun e => ho (V.str.inj e)
          rw [decide_eq_false ne]
          refine iteF ?_
          refine ⟨_, rfl, _, _, _, _, rfl, rfl, tt _ q1, atI_nat (j := 0) rfl, rfl, _, rfl, ?_⟩
          rw [if_neg (fun q => ho q.1)] at k
          by_cases hx : s = Str.ofString "text"
          · subst hx
            have kk : ∀ H', Same H H' → Q (.bl (textD (.str z))) H' := fun H' s' => by
              have := k H' s'
              cases hn : textD (.str z) with
              | true =>
                rw [if_pos ⟨rfl, hn⟩] at this
                exact this
              | false =>
                rw [if_neg (fun q => by rw [hn] at q; cases q.2)] at this
                exact this
            have en : textD (.str z) = (decide (z.length ≤ 16) && hasOnly z abc9) := rfl
            refine iteT ⟨_, rfl, _, _, _, _, rfl, rfl, tt _ q1, atI_nat (j := 1) rfl, _, rfl, (by rw [sizeLine_eq]; omega), _, _, rfl, rfl, _, rfl, ?_⟩
            have e8 : decide ((z.length : Int) < 17) = decide (z.length ≤ 16) := by
              rw [Bool.eq_iff_iff]
              simp
              omega
            show if decide ((z.length : Int) < 17) = true then _ else _
            rw [e8]
            refine ite2 (fun h0 => ?_) (fun h0 => ?_)
            · refine ⟨_, rfl, D, rfl, ⟨_, SqL.of q3⟩, fun D2 hD2 => ?_⟩
              have n2 : D ≠ D2 := ne_of_none q3 hD2
              refine lc_list (K := K) (a := D) (xs := (outAbc z).map sg) (fun i H4 => Same H2 H4 ∧ H4 D2 = some (.lst ((((outAbc z).take i).filter fun c => !decide (c ∈ dig.cps.toList)).map sg))) ⟨(Same.refl H2).new hD2, upd_same⟩ (fun i H4 _ q => SqL.of (q.1 _ _ q3)) ?_ ?_
              · rintro i x H4 hx2 ⟨r1, r2⟩
                rw [List.getElem?_map] at hx2
                cases ec : (outAbc z)[i]? with
                | none =>
                  rw [ec] at hx2
                  cases hx2
                | some c =>
                  rw [ec] at hx2
                  have ex := Option.some.inj hx2
                  subst ex
                  refine ⟨rfl, _, rfl, c, dig, rfl, rfl, _, rfl, ?_⟩
                  have fl := filter_len (outAbc z) (fun c => !decide (c ∈ dig.cps.toList)) i
                  have fl2 : (outAbc z).length ≤ z.cps.toList.length := List.length_filter_le _ _
                  have e9 := take_filter (fun c => !decide (c ∈ dig.cps.toList)) ec
                  refine ite2 (fun hb => ?_) (fun hb => ?_)
                  · refine ⟨_, rfl, _, r2, small1000 (by rw [List.length_map]; omega), r1.cell hD2, ?_⟩
                    rw [upd_same, e9, if_pos hb]
                    simp [sg]
                  · refine ⟨r1, ?_⟩
                    rw [e9, if_neg hb, List.append_nil]
                    exact r2
              · rintro H4 ⟨r1, r2⟩
                rw [List.length_map, List.take_length] at r2
                have r3 : H4 D2 = some (.lst ((outDig (outAbc z)).map sg)) := r2
                have low2 : ∀ c ∈ outDig (outAbc z), c < 128 := fun c hc => low c (List.mem_filter.mp hc).1
                refine ⟨Nat.zero_le _, fun p hp => ?_⟩
                have nD : D2 ≠ p := ne_of_none r3 hp
                refine ⟨_, _, .lst (SqL.of (by rw [upd_ne nD]; exact r3)) (dp_sg _), .lst (SqL.of upd_same) .nil, shaped_sg low2, shaped_nil, ?_⟩
                rw [eqv_sg, outDig_empty]
                have := kk _ ((q1.trans r1).new (o := .lst []) hp)
                rw [en, h0, Bool.true_and] at this
                exact this
            · have := kk _ q1
              have hf : decide (z.length ≤ 16) = false := by simpa using h0
              rw [en, hf, Bool.false_and] at this
              exact this
          · have ne2 : ¬ (V.str s = V.str (Str.ofString "text")) := fun e => hx (V.str.inj e)
            rw [decide_eq_false ne2]
            rw [if_neg (fun q => hx q.1)] at k
            exact iteF (k _ q1)
    | twoN s h =>
      obtain ⟨a, y, rfl, ta, hy⟩ := hv.pair
      cases hy
      have ta1 : Tp K (fun _ => False) H a [.str s, .non] := ta.elim (fun z => .inl ⟨z.1, id⟩) .inr
      have tt : ∀ H1, Same H H1 → SqT K H1 a [.str s, .non] := fun H1 s1 => (ta1.up (Bt.same s1)).sq
      refine iteF ⟨_, rfl, _, _, rfl, .inr ta.sq, (by show 2 ≤ sizeLine; decide), fun l hl => ⟨l, _, rfl, .inl (SqL.of upd_same), rfl, rfl, _, rfl, iteF ?_⟩⟩
      have s1 : Same H (upd H l (.lst [.int 1, .int 2])) := (Same.refl H).new hl
      generalize upd H l (.lst [.int 1, .int 2]) = H1 at s1 ⊢
      refine ⟨_, rfl, _, _, rfl, .inr (tt _ s1), rfl, _, rfl, iteF ?_⟩
      refine ⟨_, rfl, _, _, _, _, rfl, rfl, tt _ s1, atI_nat (j := 0) rfl, _, _, _, _, true, rfl, .ty "str", .base (.str s), kit_ty (by decide +kernel), _, rfl, iteF ?_⟩
      refine ⟨_, rfl, _, _, _, _, rfl, rfl, tt _ s1, atI_nat (j := 1) rfl, _, _, _, _, false, rfl, .ty "str", .base .non, kit_ty (by decide +kernel), _, rfl, iteT ?_⟩
      refine ⟨_, rfl, (by show 1 ≤ sizeLine; decide), fun p hp => ?_⟩
      have s2 := s1.new (o := .tup [.str "close"]) hp
      refine ⟨_, _, .tup (tt _ s2) (.cons (.str _) (.cons .non .nil)), .tup (SqT.of upd_same) (.cons (.str _) .nil), shaped_twoN h, shaped_one plain_close, ?_⟩
      rw [eqv_two]
      exact k _ s2
end
end Km

/-! the first wrong thing, by the law; what is due -/
namespace Km
open PySem L2 Xr
abbrev sWrong : Stmt := top 29
theorem scWrong : FnScope ["value", "deep", "at"] ["value"] (defScope sWrong) := ⟨rfl, rfl, rfl, by decide +kernel, rfl, by decide +kernel, by decide +kernel⟩
abbrev sDue : Stmt := top 30
theorem scDue : FnScope ["value", "at", "deep"] ["value"] (defScope sDue) := ⟨rfl, rfl, rfl, by decide +kernel, rfl, by decide +kernel, by decide +kernel⟩
/-- how many nodes are open behind a mark of a kind -/
def nxt : Nat → Nat → Nat
  | 1, n => n + 1
  | 2, n => n
  | _, n => n - 1
/-- the first wrong place and how many nodes are open there -/
def wr : List PyData → Nat → Nat → Option Nat × Nat
  | [], _, n => (none, n)
  | d :: ds, i, n => if kindD d = 0 ∨ (n = 0 ∧ (0 < i ∨ kindD d ≠ 1)) then (some i, n) else wr ds (i + 1) (nxt (kindD d) n)
def optV : Option Nat → V
  | none => .non
  | some n => .int (n : Int)
def optI : Option Int → V
  | none => .non
  | some n => .int n
def dueD : PyData → Option Int
  | .tuple ds => match wr ds 0 0 with
    | (some i, _) => some (i : Int)
    | (none, n) => if 0 < n ∨ ds = [] then some (ds.length : Int) else none
  | _ => some (-1)
theorem kind_cases {d : PyData} (h : MkL d) (k : kindD d ≠ 0) : (∃ x, d = mOpen x ∧ kindD d = 1 ∧ nameD (.str x) = true ∧ Plain 17 x) ∨ (∃ z, d = mText z ∧ kindD d = 2 ∧ textD (.str z) = true ∧ Plain 17 z) ∨ (d = mClose ∧ kindD d = 3) := by
  cases h with
  | non => exact absurd rfl k
  | str s h => exact absurd rfl k
  | lst => exact absurd rfl k
  | one s h =>
    have e0 : kindD (.tuple [.str s]) = if s = Str.ofString "close" then 3 else 0 := rfl
    by_cases hc : s = Str.ofString "close"
    · subst hc
      exact .inr (.inr ⟨rfl, rfl⟩)
    · rw [e0, if_neg hc] at k
      exact absurd rfl k
  | two s z h h2 =>
    have e0 : kindD (.tuple [.str s, .str z]) = if s = Str.ofString "open" ∧ nameD (.str z) = true then 1 else if s = Str.ofString "text" ∧ textD (.str z) = true then 2 else 0 := rfl
    by_cases ho : s = Str.ofString "open" ∧ nameD (.str z) = true
    · obtain ⟨rfl, hn⟩ := ho
      rw [e0, if_pos ⟨rfl, hn⟩] at *
      exact .inl ⟨z, rfl, rfl, hn, h2⟩
    · by_cases hx : s = Str.ofString "text" ∧ textD (.str z) = true
      · obtain ⟨rfl, hn⟩ := hx
        rw [e0, if_neg ho, if_pos ⟨rfl, hn⟩] at *
        exact .inr (.inl ⟨z, rfl, rfl, hn, h2⟩)
      · rw [e0, if_neg ho, if_neg hx] at k
        exact absurd rfl k
  | twoN s h => exact absurd rfl k
/-- the word that a mark begins with -/
def word0 : Nat → Str
  | 1 => Str.ofString "open"
  | 2 => Str.ofString "text"
  | _ => Str.ofString "close"
theorem head_of {K : PySem.W.Frag} {N : Addr → Prop} {H : Hp} {v : V} {d : PyData} (h : MkL d) (k : kindD d ≠ 0) (hv : Dm K N H v d) : ∃ a xs, v = .ref a ∧ Tp K N H a (.str (word0 (kindD d)) :: xs) := by
  rcases kind_cases h k with ⟨x, e, q, _⟩ | ⟨x, e, q, _⟩ | ⟨e, q⟩
  · rw [q]
    subst e
    obtain ⟨a, xs, ev, t, al⟩ := hv.seq
    cases al with
    | cons h1 r =>
      cases h1
      exact ⟨a, _, ev, t⟩
  · rw [q]
    subst e
    obtain ⟨a, xs, ev, t, al⟩ := hv.seq
    cases al with
    | cons h1 r =>
      cases h1
      exact ⟨a, _, ev, t⟩
  · rw [q]
    subst e
    obtain ⟨a, xs, ev, t, al⟩ := hv.seq
    cases al with
    | cons h1 r =>
      cases h1
      exact ⟨a, _, ev, t⟩
theorem kind_le (d : PyData) : kindD d ≤ 3 := by
  unfold kindD
  split
  · split <;> omega
  · split
    · omega
    · split <;> omega
  · omega
theorem drop_at {α : Type} {l : List α} {i : Nat} {x : α} (h : l[i]? = some x) : l.drop i = x :: l.drop (i + 1) := by
  induction l generalizing i with
  | nil => simp at h
  | cons a l ih =>
    cases i with
    | zero =>
      have e : a = x := Option.some.inj h
      subst e
      rfl
    | succ i => exact ih h
theorem atI_z {l : List V} {i : Nat} {x : V} (h : l[i]? = some x) : atI l (0 + (i : Int)) = some x := by
  have e : (0 + (i : Int)) = (i : Int) := by omega
  rw [e]
  exact atI_nat h
def spWrong (K : PySem.W.Frag) : Sp := fun vs H Q _ => ∃ (v : V) (ds : List PyData) (N : Addr → Prop), vs = [v] ∧ Dm K N H v (.tuple ds) ∧ (∀ d ∈ ds, MkL d) ∧ ds.length ≤ 400 ∧
  ∀ (p : Addr) (H' : Hp), H' p = some (.tup [optV (wr ds 0 0).1, .int ((wr ds 0 0).2 : Int)]) → Same H H' → Q (.ref p) H'
structure WrongTxt (K : PySem.W.Frag) (mg : Str → Option Value) (a_law_is_mark a_law_wrong : Addr) : Prop where
  n_range : mg "range" = none
  n_len : mg "len" = none
  n_isinstance : mg "isinstance" = none
  n_tuple : mg "tuple" = none
  g_law_is_mark : mg "_law_is_mark" = some (.ref a_law_is_mark)
  k_law_is_mark : PySem.W.keepIn K (.ref a_law_is_mark) = true
  g_law_wrong : mg "_law_wrong" = some (.ref a_law_wrong)
  k_law_wrong : PySem.W.keepIn K (.ref a_law_wrong) = true
section
variable {P : Program} {w : World} {K : PySem.W.Frag} {mg : Str → Option Value} {base : Heap} {a_law_is_mark a_law_wrong : Addr} {fdI fdW : FuncData}
theorem ok_wrong {fd : FuncData} (F : Fun K "_law_wrong" "_law_wrong" sWrong a_law_wrong fd) (T : WrongTxt K mg a_law_is_mark a_law_wrong) (G_law_is_mark : FnOk P w K mg base CX0 1 a_law_is_mark fdI ["value"] (spIsMark K)) (b_law_is_mark : Binds K fdI ["value"] []) :
    FnOk P w K mg base CX0 2 a_law_wrong fd ["value"] (spWrong K) := by
  refine F.ok scWrong (fun vs H Q E h => ?_) (fun cdv A outer s H vs Q E hr h => ?_)
  · obtain ⟨v, d, N, rfl, _⟩ := h
    rfl
  · obtain ⟨v, ds, N, rfl, hv, hm, hl, k⟩ := h
    refine ⟨_, (pss_cons (ps_set (i := 1) scWrong.nd rfl (Or.inl rfl) pe_int)
      (pss_cons (ps_for PassesOwn.never rfl (pi_range1 (by rfl) T.n_range (pa_cons (pe_callB call_len_seq (by rfl) T.n_len PySem.boot_len (pa_cons (pv 0) pa_nil)) pa_nil)) (pg_name (i := 2) scWrong.nd rfl (Or.inl rfl))
      (pss_cons (ps_if (PW.pt (pw_or (pt_not (pt_val (pe_call G_law_is_mark hr rfl T.g_law_is_mark T.k_law_is_mark b_law_is_mark .nil pass0 (pa_cons (pe_ix ix_tup (pv 0) (pv 2) (fun _ _ => rfl)) pa_nil)))) (pw_or1 (PW.pt (pw_and (pt_cmpR op_eq (pv 1) pe_int (nomark _)) (pw_and1 (PW.pt (pw_or (pt_cmpR op_gt (pv 2) pe_int (nomark _)) (pw_or1 (pt_cmpR op_ne (pe_ix ix_tup (pe_ix ix_tup (pv 0) (pv 2) (fun _ _ => rfl)) pe_int (fun _ _ => rfl)) pe_str (nomark _)))))))))))
      (pss_one (ps_ret (pe_tup (pa_cons (pv 2) (pa_cons (pv 1) pa_nil)))))
      pss_nil)
      (pss_one (ps_set (i := 1) scWrong.nd rfl (Or.inl rfl) (pe_op op_add (pv 1) (pe_ifExp (pt_cmpR op_eq (pe_ix ix_tup (pe_ix ix_tup (pv 0) (pv 2) (fun _ _ => rfl)) pe_int (fun _ _ => rfl)) pe_str (nomark _)) pe_int (pe_ifExp (pt_cmpR op_eq (pe_ix ix_tup (pe_ix ix_tup (pv 0) (pv 2) (fun _ _ => rfl)) pe_int (fun _ _ => rfl)) pe_str (nomark _)) pe_int (pe_un un_neg pe_int))))))))
      (pss_one (ps_ret (pe_tup (pa_cons pe_non (pa_cons (pv 1) pa_nil))))))), ?_⟩
    obtain ⟨a, xs, rfl, ta0, al0⟩ := hv.seq
    have ta : Tp K N H a xs := ta0
    have lx := al0.len
    refine ⟨_, rfl, _, _, rfl, .inr ta.sq, _, rfl, by rw [lx]; omega, by rw [lx]; omega, ?_⟩
    refine for_range (lo := 0) (n := xs.length) (fun i σ H1 => ∃ (n : Nat) (x2 : Option V), σ = [some (.ref a), some (.int (n : Int)), x2] ∧ Same H H1 ∧ wr ds 0 0 = wr (ds.drop i) i n) ⟨0, none, rfl, Same.refl H, rfl⟩ ?_ ?_
    · rintro i σ H1 hi ⟨n, x2, rfl, s1, e⟩
      have hx : xs[i]? = some xs[i] := List.getElem?_eq_getElem hi
      obtain ⟨d, hd, dv⟩ := al0.getV hx
      generalize xs[i] = y at hx dv
      have mk : MkL d := hm d (List.mem_of_getElem? hd)
      have tt : ∀ H1, Same H H1 → SqT K H1 a xs := fun H1 s1 => (ta.up (Bt.same s1)).sq
      rw [drop_at hd] at e
      have e1 : wr (d :: ds.drop (i + 1)) i n = if kindD d = 0 ∨ (n = 0 ∧ (0 < i ∨ kindD d ≠ 1)) then (some i, n) else wr (ds.drop (i + 1)) (i + 1) (nxt (kindD d) n) := rfl
      rw [e1] at e
      have stop : ∀ H2, Same H H2 → (kindD d = 0 ∨ (n = 0 ∧ (0 < i ∨ kindD d ≠ 1))) → ∀ p, H2 p = none → Q (.ref p) (upd H2 p (.tup [.int (0 + (i : Int)), .int (n : Int)])) := fun H2 s2 hc p hp => by
        rw [if_pos hc] at e
        refine k p _ ?_ (s2.new hp)
        rw [e, upd_same]
        show some (HO.tup [.int (0 + (i : Int)), .int (n : Int)]) = some (HO.tup [.int (i : Int), .int (n : Int)])
        have z : (0 + (i : Int)) = (i : Int) := by omega
        rw [z]
      refine ⟨_, rfl, _, rfl, _, _, _, y, rfl, rfl, tt _ s1, atI_z hx, _, d, N, rfl, dv.up (Bt.same s1), mk, fun H2 s2 => ⟨_, rfl, ?_⟩⟩
      have s12 := s1.trans s2
      by_cases k0 : kindD d = 0
      · rw [decide_eq_false (show ¬ kindD d ≠ 0 from fun q => q k0)]
        exact iteT ⟨_, rfl, _, rfl, (by show 2 ≤ sizeLine; decide), fun p hp => stop H2 s12 (.inl k0) p hp⟩
      · rw [decide_eq_true k0]
        obtain ⟨b, ys, rfl, tb⟩ := head_of mk k0 (dv.up (Bt.same s12))
        -- what is left of the turn
        have k3 := kind_le d
        have w0 : ∀ c : Str, decide (V.str (word0 (kindD d)) = V.str c) = decide (word0 (kindD d) = c) := fun c => by
          rw [Bool.eq_iff_iff]
          simp
        have i0 : decide (V.int (n : Int) = V.int 0) = decide (n = 0) := by
          rw [Bool.eq_iff_iff]
          simp
        have go : ∀ (hc : ¬ (kindD d = 0 ∨ (n = 0 ∧ (0 < i ∨ kindD d ≠ 1)))), ∃ (m : Nat), ((n : Int) + (if kindD d = 1 then 1 else if kindD d = 2 then 0 else -1)) = (m : Int) ∧ wr ds 0 0 = wr (ds.drop (i + 1)) (i + 1) m := fun hc => by
          rw [if_neg hc] at e
          refine ⟨_, ?_, e⟩
          have hk : kindD d = 1 ∨ kindD d = 2 ∨ kindD d = 3 := by omega
          rcases hk with q | q | q
          · rw [q, if_pos rfl]
            show (n : Int) + 1 = ((n + 1 : Nat) : Int)
            omega
          · rw [q, if_neg (by decide), if_pos rfl]
            show (n : Int) + 0 = (n : Int)
            omega
          · rw [q, if_neg (by decide), if_neg (by decide)]
            have n0 : n ≠ 0 := fun z => hc (.inr ⟨z, .inr (by omega)⟩)
            show (n : Int) + (-1) = ((n - 1 : Nat) : Int)
            omega
        refine iteF ⟨_, rfl, rfl, _, rfl, ?_⟩
        rw [i0]
        have gx := tt _ s12
        by_cases n0 : n = 0
        · rw [decide_eq_true n0]
          refine iteT ⟨_, rfl, _, _, rfl, rfl, _, rfl, ?_⟩
          refine ite2 (fun hi0 => ?_) (fun hi0 => ?_)
          · have z : 0 < i := by
              have : (0 : Int) < 0 + (i : Int) := of_decide_eq_true hi0
              omega
            exact ⟨_, rfl, _, rfl, (by show 2 ≤ sizeLine; decide), fun p hp => stop H2 s12 (.inr ⟨n0, .inl z⟩) p hp⟩
          · have z : ¬ 0 < i := fun q => hi0 (decide_eq_true (by omega))
            refine ⟨_, rfl, _, rfl, _, _, _, _, rfl, rfl, gx, atI_z hx, _, _, _, _, rfl, rfl, tb.sq, atI_nat (j := 0) rfl, rfl, _, rfl, ?_⟩
            rw [w0]
            by_cases k1 : kindD d = 1
            · have e3 : (!decide (word0 (kindD d) = Str.ofString "open")) = false := by
                rw [k1]
                rfl
              rw [e3]
              obtain ⟨m, em, er⟩ := go (fun q => q.elim k0 fun q => q.2.elim z fun q => q k1)
              refine iteF ⟨_, rfl, _, rfl, _, rfl, _, _, _, _, rfl, rfl, gx, atI_z hx, _, _, _, _, rfl, rfl, tb.sq, atI_nat (j := 0) rfl, rfl, _, rfl, ?_⟩
              rw [w0, k1]
              refine iteT ⟨_, _, rfl, rfl, m, some (.int (0 + (i : Int))), ?_, s12, er⟩
              rw [if_pos k1] at em
              rw [← em]
              rfl
            · have e3 : (!decide (word0 (kindD d) = Str.ofString "open")) = true := by
                have hk : kindD d = 2 ∨ kindD d = 3 := by omega
                rcases hk with q | q <;> rw [q] <;> decide
              rw [e3]
              exact iteT ⟨_, rfl, _, rfl, (by show 2 ≤ sizeLine; decide), fun p hp => stop H2 s12 (.inr ⟨n0, .inr k1⟩) p hp⟩
        · rw [decide_eq_false n0]
          obtain ⟨m, em, er⟩ := go (fun q => q.elim k0 fun q => n0 q.1)
          refine iteF ⟨_, rfl, _, rfl, _, rfl, _, _, _, _, rfl, rfl, gx, atI_z hx, _, _, _, _, rfl, rfl, tb.sq, atI_nat (j := 0) rfl, rfl, _, rfl, ?_⟩
          rw [w0]
          have hk : kindD d = 1 ∨ kindD d = 2 ∨ kindD d = 3 := by omega
          rcases hk with q | q | q
          · rw [q]
            refine iteT ⟨_, _, rfl, rfl, m, some (.int (0 + (i : Int))), ?_, s12, er⟩
            rw [if_pos q] at em
            rw [← em]
            rfl
          · rw [q]
            refine iteF ⟨_, rfl, _, rfl, _, _, _, _, rfl, rfl, gx, atI_z hx, _, _, _, _, rfl, rfl, tb.sq, atI_nat (j := 0) rfl, rfl, _, rfl, ?_⟩
            rw [w0, q]
            refine iteT ⟨_, _, rfl, rfl, m, some (.int (0 + (i : Int))), ?_, s12, er⟩
            rw [if_neg (by rw [q]; decide), if_pos q] at em
            rw [← em]
            rfl
          · rw [q]
            refine iteF ⟨_, rfl, _, rfl, _, _, _, _, rfl, rfl, gx, atI_z hx, _, _, _, _, rfl, rfl, tb.sq, atI_nat (j := 0) rfl, rfl, _, rfl, ?_⟩
            rw [w0, q]
            refine iteF ⟨_, rfl, _, _, rfl, rfl, m, some (.int (0 + (i : Int))), ?_, s12, er⟩
            rw [if_neg (by rw [q]; decide), if_neg (by rw [q]; decide)] at em
            rw [← em]
            rfl
    · rintro σ H1 ⟨n, x2, rfl, s1, e⟩
      have z : ds.drop xs.length = [] := List.drop_of_length_le (by omega)
      rw [z] at e
      have e2 : wr ds 0 0 = (none, n) := e
      refine ⟨_, rfl, (by show 2 ≤ sizeLine; decide), fun p hp => k p _ ?_ (s1.new hp)⟩
      rw [e2, upd_same]
      rfl
end
end Km

/-! what is due -/
namespace Km
open PySem L2 Xr
/-- a value that the law asks about -/
inductive Val : PyData → Prop
  | non : Val .none
  | int : Val (.int 5)
  | str (s : Str) (h : Plain 17 s) : Val (.str s)
  | lst (ds : List PyData) : Val (.list ds)
  | tup (ds : List PyData) (h : ∀ d ∈ ds, MkL d) (l : ds.length ≤ 400) : Val (.tuple ds)
theorem mk_shape {d : PyData} (h : MkL d) : PyData.canLay0 d = true ∧ d.depth ≤ 1 := by
  cases h with
  | non => exact ⟨rfl, by unfold PyData.depth; exact Nat.zero_le _⟩
  | str s h => exact ⟨canLay_plain h, by unfold PyData.depth; exact Nat.zero_le _⟩
  | lst => exact ⟨by decide +kernel, by decide +kernel⟩
  | one s h =>
    refine ⟨SeqAt.canLay_of_shaped (shaped_one h), ?_⟩
    unfold PyData.depth PyData.depthAll PyData.depthAll PyData.depth
    exact Nat.le_refl _
  | two s z h h2 =>
    refine ⟨SeqAt.canLay_of_shaped (shaped_two h h2), ?_⟩
    unfold PyData.depth PyData.depthAll PyData.depthAll PyData.depthAll PyData.depth
    exact Nat.le_refl _
  | twoN s h =>
    refine ⟨SeqAt.canLay_of_shaped (shaped_twoN h), ?_⟩
    unfold PyData.depth PyData.depthAll PyData.depthAll PyData.depthAll PyData.depth
    exact Nat.le_refl _
theorem all_shape : ∀ (ds : List PyData), (∀ d ∈ ds, MkL d) → PyData.canLayAll0 ds = true ∧ PyData.depthAll ds ≤ 1
  | [], _ => ⟨rfl, by unfold PyData.depthAll; exact Nat.zero_le _⟩
  | d :: ds, h => by
    obtain ⟨a, b⟩ := all_shape ds fun x hx => h x (List.mem_cons_of_mem _ hx)
    obtain ⟨a1, b1⟩ := mk_shape (h d (by simp))
    refine ⟨?_, ?_⟩
    · unfold PyData.canLayAll0
      rw [a1, a]
      rfl
    · unfold PyData.depthAll
      omega
theorem shaped_tup {ds : List PyData} (h : ∀ d ∈ ds, MkL d) : SeqAt.shaped (.tuple ds) = true := by
  obtain ⟨a, b⟩ := all_shape ds h
  unfold SeqAt.shaped PyData.canLay0 PyData.depth
  rw [a, Bool.true_and]
  exact decide_eq_true (by omega)
theorem eqv_tnil (ds : List PyData) : PyData.eqv (.tuple ds) (.tuple []) = ds.isEmpty := by
  cases ds <;> rfl
def spDue (K : PySem.W.Frag) : Sp := fun vs H Q _ => ∃ (v : V) (d : PyData) (N : Addr → Prop), vs = [v] ∧ Dm K N H v d ∧ Val d ∧ ∀ H', Same H H' → Q (optI (dueD d)) H'
section
variable {P : Program} {w : World} {K : PySem.W.Frag} {mg : Str → Option Value} {base : Heap} {a_law_is_mark a_law_wrong : Addr} {fdW : FuncData}
theorem ok_due {f : Addr} {fd : FuncData} (F : Fun K "_law_due" "_law_due" sDue f fd) (T : WrongTxt K mg a_law_is_mark a_law_wrong) (G_law_wrong : FnOk P w K mg base CX0 2 a_law_wrong fdW ["value"] (spWrong K)) (b_law_wrong : Binds K fdW ["value"] []) :
    FnOk P w K mg base CX0 3 f fd ["value"] (spDue K) := by
  refine F.ok scDue (fun vs H Q E h => ?_) (fun cdv A outer s H vs Q E hr h => ?_)
  · obtain ⟨v, d, N, rfl, _⟩ := h
    rfl
  · obtain ⟨v, d, N, rfl, hv, hm, k⟩ := h
    refine ⟨_, (pss_cons (ps_if (pt_not (pt_val (pe_callB call_isi (by rfl) T.n_isinstance (by decide +kernel) (pa_cons (pv 0) (pa_cons (pe_bltn (v := V.ty "tuple") (u := .type "tuple") (by rfl) T.n_tuple (by decide +kernel) (by rfl)) pa_nil)))))
      (pss_one (ps_ret (pe_un un_neg pe_int)))
      pss_nil)
      (pss_cons (ps_asg (pe_call G_law_wrong hr rfl T.g_law_wrong T.k_law_wrong b_law_wrong .nil pass0 (pa_cons (pv 0) pa_nil)) (pg_tup (by rfl) (pgs_cons (pg_name (i := 1) scDue.nd rfl (Or.inl rfl)) (pgs_cons (pg_name (i := 2) scDue.nd rfl (Or.inl rfl)) pgs_nil))))
      (pss_one (ps_ret (pe_ifExp (pt_cmpR op_notN (pv 1) pe_non (nomark _)) (pv 1) (pe_ifExp (PW.pt (pw_or (pt_cmpR op_gt (pv 2) pe_int (nomark _)) (pw_or1 (pt_cmpR (op_eqD hr.units) (pv 0) (pe_tup pa_nil) (nomark _))))) (pe_callB call_len_seq (by rfl) T.n_len PySem.boot_len (pa_cons (pv 0) pa_nil)) pe_non)))))), ?_⟩
    refine ⟨_, rfl, _, _, _, _, _, rfl, .ty "tuple", hv.ty, kit_tup d, _, rfl, ?_⟩
    cases hm with
    | non => exact iteT ⟨1, rfl, k _ (Same.refl H)⟩
    | int => exact iteT ⟨1, rfl, k _ (Same.refl H)⟩
    | str s h => exact iteT ⟨1, rfl, k _ (Same.refl H)⟩
    | lst ds => exact iteT ⟨1, rfl, k _ (Same.refl H)⟩
    | tup ds h l =>
      refine iteF ⟨_, rfl, v, ds, N, rfl, hv, h, l, fun p H1 hp s1 => ?_⟩
      obtain ⟨a, xs, rfl, ta, al⟩ := hv.seq
      have lx := al.len
      have e0 : dueD (.tuple ds) = match wr ds 0 0 with
        | (some i, _) => some (i : Int)
        | (none, n) => if 0 < n ∨ ds = [] then some (ds.length : Int) else none := rfl
      rw [e0] at k
      refine ⟨p, _, rfl, SqT.of hp, rfl, _, _, rfl, _, _, rfl, rfl, ?_⟩
      cases e : wr ds 0 0 with
      | mk o n =>
        rw [e] at k hp
        cases o with
        | some i =>
          refine ⟨_, rfl, rfl, _, rfl, iteT ⟨_, rfl, ?_⟩⟩
          exact k _ s1
        | none =>
          refine ⟨_, rfl, rfl, _, rfl, iteF ⟨_, rfl, _, _, rfl, rfl, _, rfl, ?_⟩⟩
          have k' : ∀ H', Same H H' → Q (optI (if 0 < n ∨ ds = [] then some (ds.length : Int) else none)) H' := k
          have ta1 : ∀ H', Same H H' → SqT K H' a xs := fun H' s' => (ta.up (Bt.same s')).sq
          have al1 : ∀ H', Same H H' → DpAll K H' xs ds := fun H' s' => DmAll.dp _ _ (al.up (Bt.same s'))
          refine ite2 (fun h0 => ?_) (fun h0 => ?_)
          · have n0 : 0 < n := by
              have : (0 : Int) < (n : Int) := of_decide_eq_true h0
              omega
            refine ⟨_, rfl, _, _, rfl, .inr (ta1 _ s1), ?_⟩
            have := k' _ s1
            rw [if_pos (.inl n0)] at this
            rw [lx]
            exact this
          · have n0 : ¬ 0 < n := fun q => h0 (decide_eq_true (by omega))
            refine ⟨_, rfl, Nat.zero_le _, fun q hq => ?_⟩
            have s2 := s1.new (o := .tup []) hq
            refine ⟨_, _, .tup (ta1 _ s2) (al1 _ s2), .tup (SqT.of upd_same) .nil, shaped_tup h, rfl, _, rfl, ?_⟩
            rw [eqv_tnil]
            have := k' _ s2
            cases ds with
            | nil =>
              rw [if_pos (.inr rfl)] at this
              refine iteT ⟨_, rfl, _, _, rfl, .inr (ta1 _ s2), ?_⟩
              rw [lx]
              exact this
            | cons d ds =>
              rw [if_neg (fun q => q.elim n0 fun q => by cases q)] at this
              exact iteF this
end
end Km

/-! own exception classes over any built-in one, made with values and keywords -/
namespace PySem
namespace Exm
open PyProof.Rows
section
variable {M : Model} {A : Around} {E : Value → Shared → Prop} {hp : Heap} {gs : Array GenState} {dr : Drawn} {tk : Nat} {os : OsState}
variable {nm q : Str} {C N : Addr} {bs bm bmB : List Value} {hdct : Bool} {sn : List Str} {sub : List Value} {ab : Bool} {col : Option Bool} {dd : Option Addr} {k0 k1 k2 k3 k5 : Option Value} {B newId initId : String}
theorem checkNew (FB : ExcBaseFacts B newId initId bmB) (tB : bm.contains (.type B) = true) (tA : bm.contains (.type "AttributeError") = false) (tN : bm.contains (.type "NameError") = false) {us : List Value} {kw : List (Str × Value)} {Q : Unit → Shared → Prop}
    (cls : hp.get? C = some (excClassObj nm q C N bs bm hdct sn sub ab col dd k0 k1 k2 k3 k5 newId)) (fin : Q () ⟨hp, gs, dr, tk, os⟩) :
    wpAny M A (checkBuiltinCall newId ⟨.ref C :: us, kw⟩) Q E ⟨hp, gs, dr, tk, os⟩ := by
  have hb : (Value.ref C :: bm).contains (.type B) = true := by
    rw [List.contains_cons, tB]
    simp
  have hs := FB.noStar
  simp only [checkBuiltinCall, FB.newKind, FB.newSplit, FB.newRow]
  repeat (first
    | refine wpAny_loadPart_at cls ?_
    | (refine wpAny_isSubtype_exc cls ?_; rw [hb])
    | refine wpAny_staticBase_exc cls ?_
    | refine wpAny_madeBy_exc cls ?_
    | simp only [bne_self_eq_false, Bool.false_eq_true, if_false]
    | wp_step)
  exact fin
end
section
variable {prog : Program} {w : World} {A : Around} {E : Value → Shared → Prop} {R : Result → Shared → Prop} {hp : Heap} {gs : Array GenState} {dr : Drawn} {tk : Nat} {os : OsState}
variable {nm q : Str} {C N : Addr} {bs bm bmB : List Value} {hdct : Bool} {sn : List Str} {sub : List Value} {ab : Bool} {col : Option Bool} {dd : Option Addr} {k0 k1 k2 k3 k5 : Option Value} {B newId initId : String}
theorem runNew (FB : ExcBaseFacts B newId initId bmB) (tB : bm.contains (.type B) = true) (tA : bm.contains (.type "AttributeError") = false) (tN : bm.contains (.type "NameError") = false) {us : List Value} {kw : List (Str × Value)}
    (cls : hp.get? C = some (excClassObj nm q C N bs bm hdct sn sub ab col dd k0 k1 k2 k3 k5 newId)) (few : us.length ≤ sizeLine)
    (fin : R (.ok (.ret (.ref (hp.objs.size + 1)))) ⟨(hp.push (W.kdv_tup us)).push (HandSPX.excO C hp.objs.size), gs, dr, tk, os⟩) :
    codeAny (model prog w) A (.builtin newId ⟨.ref C :: us, kw⟩) R ⟨hp, gs, dr, tk, os⟩ := by
  have en := FB.ends
  have c1 : (Value.ref C :: bm).contains (.type B) = true := by
    rw [List.contains_cons, tB]
    simp
  have c2 : (Value.ref C :: bm).contains (.type "AttributeError") = false := by
    rw [List.contains_cons, tA]
    rfl
  have c3 : (Value.ref C :: bm).contains (.type "NameError") = false := by
    rw [List.contains_cons, tN]
    rfl
  refine codeAny_builtinAt FB.entry ?_
  unfold Builtin.«BaseException.__new__»
  refine wpAt_bind ?_
  show wpAt _ _ _ (stack >>= _) _ _ _
  refine wpAt_bind (wpAt_stack fun top low => wpAt_of_wpAny ?_)
  wp_walk
  refine wpAt_of_wpAny ?_
  rw [FB.owner]
  repeat (first
    | with_reducible refine wpAny_madeHere_exc FB.canon cls ?_
    | with_reducible refine wpAny_loadPart_at cls ?_
    | (with_reducible refine wpAny_isSubtype_exc cls ?_; first | rw [c1] | rw [c2] | rw [c3])
    | wp_step)
  show R _ _
  rw [Heap.size_push]
  exact fin
theorem runTypeCall (FB : ExcBaseFacts B newId initId bmB) (tB : bm.contains (.type B) = true) (tA : bm.contains (.type "AttributeError") = false) (tN : bm.contains (.type "NameError") = false) {us : List Value} {kw : List (Str × Value)} {fI : Addr} {Q : Fin → Shared → Prop}
    (cls : hp.get? C = some (excClassObj nm q C N bs bm hdct sn sub ab col dd k0 k1 k2 k3 k5 newId)) (few : us.length ≤ sizeLine)
    (li : W.Looks (model prog w) hp (typeLookup (.ref C) "__init__") (some (.ref fI))) (bi : ∀ self, W.Looks (model prog w) hp (bindSpecial (.ref fI) self) (.ref fI, [self]))
    (fin : codeAny (model prog w) A (.call (.ref fI) ⟨.ref (hp.objs.size + 1) :: us, kw⟩)
      (fun r s' => match r with | .ok (.ret v) => v = .none ∧ Q (.done (.ret (.ref (hp.objs.size + 1)))) s' | .ok _ => False | .error x => E x s')
      ⟨(hp.push (W.kdv_tup us)).push (HandSPX.excO C hp.objs.size), gs, dr, tk, os⟩) :
    wpAny (model prog w) A (Builtin.«type.__call__» ⟨.ref C :: us, kw⟩) Q E ⟨hp, gs, dr, tk, os⟩ := by
  repeat (first
    | with_reducible refine wpAny_loadPart_at cls ?_
    | with_reducible refine wpAny_madeBy_exc cls ?_
    | wp_step)
  refine codeAny_call_builtin_code (Code.quiet_builtin _ FB.quiet) (checkNew FB tB tA tN cls ?_)
  refine runNew FB tB tA tN cls few ?_
  show wpAny _ _ _ _ _ _
  have up : ∀ b o, hp.get? b = some o → ((hp.push (W.kdv_tup us)).push (HandSPX.excO C hp.objs.size)).get? b = some o := fun b o e => Heap.get?_push_of_some _ (Heap.get?_push_of_some _ e)
  have cls2 := up _ _ cls
  have at2 : ((hp.push (W.kdv_tup us)).push (HandSPX.excO C hp.objs.size)).get? (hp.objs.size + 1) = some (HandSPX.excO C hp.objs.size) := by heap_get
  have cc : (Value.ref C :: bm).contains (.ref C) = true := by simp
  have li2 := li.keeps up
  have bi2 := (bi (.ref (hp.objs.size + 1))).keeps up
  unfold isInstance
  repeat (first
    | with_reducible refine wpAny_loadPart_at at2 ?_
    | (with_reducible refine wpAny_isSubtype_exc cls2 ?_; rw [cc])
    | wp_step)
  show wpAny _ _ (typeLookup (.ref C) _) _ _ _
  refine li2.at ?_
  refine wpAny_holding (wpAny_bind (bi2.at ?_))
  refine wpAny_bind (wpAny_call (codeAny_mono fin fun r s' z => ?_))
  cases r with
  | error x => exact z
  | ok fl =>
    cases fl with
    | ret v =>
      obtain ⟨rfl, z⟩ := z
      first
        | exact wpAny_pure (wpAny_pure z)
        | (wp_walk; exact z)
    | next => exact z.elim
    | brk => exact z.elim
    | cont => exact z.elim
theorem checkTypeCallE {M : Model} {us : List Value} {kw : List (Str × Value)} {Q : Unit → Shared → Prop} (cls : hp.get? C = some (excClassObj nm q C N bs bm hdct sn sub ab col dd k0 k1 k2 k3 k5 newId))
    (fin : Q () ⟨hp, gs, dr, tk, os⟩) : wpAny M A (checkBuiltinCall "type.__call__" ⟨.ref C :: us, kw⟩) Q E ⟨hp, gs, dr, tk, os⟩ := by
  have f3 := tc_sub
  have ty : (⟨hp, gs, dr, tk, os⟩ : Shared).TypeIs (.ref C) "type" := ⟨_, cls, rfl⟩
  simp only [checkBuiltinCall, tc_kind, tc_split]
  repeat (any_goals (first
    | assumption
    | with_reducible refine wpAny_loadPart_at cls ?_
    | with_reducible refine wpAny_onRaise ?_
    | with_reducible refine wpAny_map ?_
    | wp_step))
theorem runCls (FB : ExcBaseFacts B newId initId bmB) (tB : bm.contains (.type B) = true) (tA : bm.contains (.type "AttributeError") = false) (tN : bm.contains (.type "NameError") = false) {us : List Value} {kw : List (Str × Value)} {fI : Addr}
    (cls : hp.get? C = some (excClassObj nm q C N bs bm hdct sn sub ab col dd k0 k1 k2 k3 k5 newId)) (few : us.length ≤ sizeLine)
    (li : W.Looks (model prog w) hp (typeLookup (.ref C) "__init__") (some (.ref fI))) (bi : ∀ self, W.Looks (model prog w) hp (bindSpecial (.ref fI) self) (.ref fI, [self]))
    (fin : codeAny (model prog w) (A.under (.builtin "type.__call__" ⟨.ref C :: us, kw⟩)) (.call (.ref fI) ⟨.ref (hp.objs.size + 1) :: us, kw⟩) (W.InitBack (hp.objs.size + 1) R)
      ⟨(hp.push (W.kdv_tup us)).push (HandSPX.excO C hp.objs.size), gs, dr, tk, os⟩) :
    codeAny (model prog w) A (.call (.ref C) ⟨us, kw⟩) R ⟨hp, gs, dr, tk, os⟩ := by
  have f1 := tc_lookup
  have f2 := tc_bind (.ref C)
  have ty : (⟨hp, gs, dr, tk, os⟩ : Shared).TypeIs (.ref C) "type" := ⟨_, cls, rfl⟩
  refine codeAny_of_tree ?_
  show wpAny _ _ (callAny (.ref C) _) _ _ _
  repeat (any_goals (first
    | assumption
    | with_reducible refine wpAny_loadPart_at cls ?_
    | wp_step))
  refine ⟨rfl, ?_⟩
  refine codeAny_call_builtin_at (Code.quiet_builtin _ (by decide +kernel)) entry_typeCall (checkTypeCallE cls (runTypeCall FB tB tA tN cls few li bi ?_))
  refine codeAny_mono fin fun r s' z => ?_
  cases r with
  | error x => exact z
  | ok fl => cases fl <;> exact z
end
end Exm
end PySem

namespace PySem
namespace Exm
open PyProof.Rows Builtin Builtin.ObjectAttr
section
variable {prog : Program} {w : World} {A : Around} {E : Value → Shared → Prop} {R : Result → Shared → Prop} {hp : Heap} {gs : Array GenState} {dr : Drawn} {tk : Nat} {os : OsState} {bmB : List Value} {B : String}
/-- the first store into an exception's own dict -/
theorem storeFirst {K : W.Frag} {name : Str} {t1 : Tok} {v : Value} {x C : Addr} {fv : Array Value} {cd : ClassData} (SB : StoreFacts B bmB "object.__setattr__" "object")
    (X : K.In hp) (hx : hp.get? x = some { cls := .ref C, data := .fields fv }) (ov : W.excOver K C bmB = true) (hcd : W.clsIn K C = some cd) (hh : cd.hasDict = true) (ha : W.takerIn K C name = some none)
    (fin : ∀ h' t' dx, (∀ b o, b ≠ x → hp.get? b = some o → h'.get? b = some o) → hp.objs.size ≤ dx → dx ≠ x → h'.get? x = some { cls := .ref C, dict := some dx, data := .fields fv } →
      h'.Ns1 dx (fun y => if y = name then some v else none) → R (.ok (.ret .none)) ⟨h', gs, dr, t', os⟩) :
    codeAny (model prog w) A (.call (.builtin "object.__setattr__") ⟨[.ref x, .str name t1, v], []⟩) R ⟨hp, gs, dr, tk, os⟩ := by
  have I : W.InstAt hp x { cls := .ref C, data := .fields fv } C none := ⟨hx, rfl, rfl, trivial⟩
  have far : x ≠ hp.objs.size := Nat.ne_of_lt (Heap.lt_size hx)
  have cl : W.Looks (model prog w) hp (classData C) cd := W.looks_clsIn X hcd
  refine W.osa_openX SB X I ov ha fun b => ?_
  show wpAny _ _ (storeInOwnDict (.ref x) (.ref C) (.str name t1) name v b) _ _ _
  obtain ⟨nm, bs, mro, ns, qn, hd, sn, sb, ab, col, del⟩ := cd
  dsimp only at hh
  subst hh
  unfold storeInOwnDict ownDictForStores
  repeat (first
    | with_reducible refine HandSPX.store_in_new ?_ ?_
    | with_reducible refine wpAny_loadPart_at hx ?_
    | with_reducible refine cl.at ?_
    | wp_step)
  · exact ⟨_, #[], _, (Heap.get?_update_ne _ _ _ _ far.symm).trans (Heap.get?_push_at rfl rfl), rfl, fun e he => absurd he (by simp), fun _ => rfl⟩
  · intro h' t' hn hs
    have old : (hp.push { cls := .type "dict", data := .dict #[] }).get? x = some { cls := .ref C, data := .fields fv } := Heap.get?_push_of_some _ hx
    refine fin h' t' hp.objs.size (fun c o hc ho => ?_) (Nat.le_refl _) far.symm ?_ hn
    · have e1 := hs.2 c (Nat.ne_of_lt (Heap.lt_size ho))
      exact e1.trans ((Heap.get?_update_ne _ _ _ _ hc).trans (Heap.get?_push_of_some _ ho))
    · have e1 := hs.2 x far
      exact e1.trans (Heap.get?_update_self _ old rfl)
end
end Exm
end PySem

/-! own exceptions as values: rules over the hand layer -/
namespace Exv
open PySem L2
/-- what the written part says of such a class: at C, its __init__ at fI stores the one field -/
structure ExT (K : PySem.W.Frag) (C fI : Addr) (fld : Str) (bmB : List Value) (newId : String) : Prop where
  ini : PySem.W.excInitIn K C bmB newId = true
  over : PySem.W.excOver K C bmB = true
  init : PySem.W.findIn K (.ref C) "__init__" = some (some (.ref fI))
  fn : PySem.W.typeIn K (.ref fI) = some (.type "function")
  sa : PySem.W.findIn K (.ref C) "__setattr__" = some (some (.builtin "object.__setattr__"))
  no : PySem.W.findIn K (.ref C) fld = some none
  hd : PySem.W.hasDictIn K C = true
  ga : PySem.W.findIn K (.ref C) "__getattribute__" = some (some (.builtin "BaseException.__getattribute__"))
  gg : PySem.W.findIn K (.ref C) "__getattr__" = some none
  ex : PySem.W.subIn K (.ref C) (.type "BaseException") = some true
  kp : PySem.W.keepIn K (.ref C) = true
section
variable {X : Cx} {pins : List (Addr × Obj)} {σ : St} {H : Hp} {s : Shared} {a C fI : Addr} {f : Str} {y : V} {u : Value} {Q : Unit → Shared → Prop} {E : Value → Shared → Prop} {A : Around} {B newId initId : String} {bmB bmF : List Value}
theorem taker_none {K : PySem.W.Frag} (h : PySem.W.findIn K (.ref C) f = some none) : PySem.W.takerIn K C f = some none := by
  unfold PySem.W.takerIn
  rw [h]
  rfl
/-- self.f = y, the first store -/
theorem put_field (T : ExT X.K C fI f bmB newId) (SB : StoreFacts B bmB "object.__setattr__" "object") (I : Inv X pins σ H s) (e : H a = some (exo a C none)) (ry : RelV y u)
    (h : ∀ dx s', H dx = none → dx ≠ a → Inv X pins σ (upd (upd H dx (exd dx [(f, y)])) a (exo a C (some dx))) s' → Q () s') : wpAny (model X.prog X.w) A (setAttr (.ref a) f u) Q E s := by
  obtain ⟨cd, hcd, hh⟩ := PySem.W.any_some T.hd
  obtain ⟨t1, ho⟩ := exo_at I.hok e
  obtain ⟨hp, gs, dr, tk, os⟩ := s
  refine PySem.W.set_plain I.kIn (ox := HandSPX.excO C t1) (od := none) ⟨ho, rfl, rfl, trivial⟩ T.sa ?_
  refine PySem.Exm.storeFirst SB I.kIn ho T.over hcd hh (taker_none T.no) fun h' t' dx old far ne hx hn => ?_
  have free : H dx = none := I.hok.fresh far
  have notD : ∀ {b : Addr} {o : Obj}, hp.get? b = some o → b ≠ dx := fun {b o} q => Nat.ne_of_lt (Nat.lt_of_lt_of_le (Heap.lt_size q) far)
  have notA : ∀ {b : Addr}, H b = none → b ≠ a := fun {b} n z => by
    rw [z, e] at n
    exact absurd n (by simp)
  have un : Un X.fs [] H (upd (upd H dx (exd dx [(f, y)])) a (exo a C (some dx))) hp h' := {
    keep := fun b o q n _ _ => old b o (notA n) q
    slot := fun b o q n _ _ => ⟨_, old b o (notA n) q⟩
    free := fun b o q n _ => by
      rw [upd_ne (notA n), upd_ne (notD q)]
      exact n
    there := fun b o q _ => by
      by_cases hb : b = a
      · exact ⟨_, hb ▸ hx⟩
      · exact ⟨_, old b o hb q⟩
    tups := fun b xs q => by
      rw [upd_ne (at_ne e q exo_tup), upd_ne (ne_of_none q free)]
      exact q
    frzs := fun b o v q => by
      rw [upd_ne (at_ne e q exo_frz), upd_ne (ne_of_none q free)]
      exact q
    tbls := fun b ps q => ⟨#[], by
      rw [upd_ne (at_ne e q exo_tbl), upd_ne (ne_of_none q free), q]
      simp⟩ }
  refine h dx _ free ne (I.un (t' := t') un fun b o q => ?_)
  by_cases hb : b = a
  · subst hb
    rw [upd_same] at q
    cases q
    exact exo_ok hx
  · rw [upd_ne hb] at q
    by_cases hd : b = dx
    · subst hd
      rw [upd_same] at q
      cases q
      exact exd_ok hn (relO_put (fs := []) ry fun g => True.intro)
    · rw [upd_ne hd] at q
      refine (I.hok b o q).stay (fun c v hc z => old c v ?_ z) (fun c hc => ?_) fun c xs hc => ?_
      · rcases hc with rfl | hc
        · exact hb
        · exact at_ne e hc exo_own
      · rw [upd_ne (at_ne e hc exo_own), upd_ne (ne_of_none hc free)]
        exact hc
      · rw [upd_ne (at_ne e hc exo_tup), upd_ne (ne_of_none hc free)]
        exact hc
end
/-- the built-in classes behind an own one: the maker's class among them -/
structure Base3 (bm : List Value) (B : String) : Prop where
  b : bm.contains (.type B) = true
  a : bm.contains (.type "AttributeError") = false
  n : bm.contains (.type "NameError") = false
/-- self.f = e in an __init__ -/
def tPutE (C : Addr) (f : Str) (to te : TE) : TS := fun D σ H => te σ H fun y H1 => to σ H1 fun x H2 => ∃ a : Addr, x = .ref a ∧ H2 a = some (exo a C none) ∧
  ∀ dx, H2 dx = none → dx ≠ a → D.nx σ (upd (upd H2 dx (exd dx [(f, y)])) a (exo a C (some dx)))
section
variable {X : Cx} {o e : Expr} {es : List Expr} {to te : TE} {ta : TA} {f x : Str} {p p' p1 p2 pos : Pos} {C fI : Addr} {B newId initId : String} {bmB bmF : List Value}
theorem ps_putE (T : ExT X.K C fI f bmB newId) (SB : StoreFacts B bmB "object.__setattr__" "object") (ho : PE X o to) (he : PE X e te) (hs : swapsWith e (some (.Attribute o f p')) pos.line X.env = pure false := by rfl) :
    PS X (.Assign [.Attribute o f p'] e pos) (tPutE C f to te) := by
  refine ⟨fun pins s σ H D I h => ?_⟩
  refine plainObj_wpAny_Assign_Attribute (thn (he.run pins s σ H _ I h) fun v s1 ⟨y, H1, I1, r1, q1⟩ => thn (ho.run pins s1 σ H1 _ I1 q1) fun u s2 ⟨z, H2, I2, r2, a, ez, ea, q⟩ => ?_) hs
  subst ez
  cases (show u = Value.ref a from r2)
  exact put_field T SB I2 ea r1 fun dx s' n ne J => ⟨σ, _, J, q dx n ne⟩
/-- a call of the class: the new exception, its __init__ run -/
theorem run_ex {CX : CXT} {pins : List (Addr × Obj)} {σ : St} {H : Hp} {s : Shared} {Q : VK} {us : List Value} {v : V} {u : Value} {k : Nat} {fd : FuncData} {ps : List Str} {sp : Sp} {kw : List (Str × Value)}
    (T : ExT X.K C fI f bmB newId) (FB : ExcBaseFacts B newId initId bmF) (hB : Base3 bmB B) (F : FnOk X.prog X.w X.K X.mg X.base CX k fI fd ps sp) (hr : Room (k + 1) X.A) (hx : Passes CX X E0)
    (I : Inv X pins σ H s) (few : us.length ≤ 1000) (rv : RelV v u) (hb : ∀ (s : Shared) (a : Addr), X.K.In s.heap → BindsTo s fd ⟨.ref a :: us, kw⟩ (ps.zip [.ref a, u]))
    (h : ∀ a, H a = none → sp [.ref a, v] (upd H a (exo a C none)) (fun z H2 => z = .non ∧ Q (.ref a) H2) E0) :
    wpAny (model X.prog X.w) X.A (call (.ref C) us kw) (EP X pins σ Q) X.xe s := by
  obtain ⟨nm, N, qn, bs, bm, hdct, sn, sub, ab, col, dd, k0, k1, k2, k3, k5, hC, tl⟩ := PySem.W.excInit_of I.kIn T.ini
  obtain ⟨hp, gs, dr, tk, os⟩ := s
  have sz : hp.objs.size ≤ hp.objs.size + 1 := Nat.le_succ _
  have new : H (hp.objs.size + 1) = none := I.hok.fresh sz
  have hq := h _ new
  have up : ∀ b o, hp.get? b = some o → ((hp.push (PySem.W.kdv_tup us)).push (HandSPX.excO C hp.objs.size)).get? b = some o := fun b o e => Heap.get?_push_of_some _ (Heap.get?_push_of_some _ e)
  have at2 : ((hp.push (PySem.W.kdv_tup us)).push (HandSPX.excO C hp.objs.size)).get? (hp.objs.size + 1) = some (HandSPX.excO C hp.objs.size) := by heap_get
  have I2 : Inv X pins σ (upd H (hp.objs.size + 1) (exo (hp.objs.size + 1) C none)) ⟨(hp.push (PySem.W.kdv_tup us)).push (HandSPX.excO C hp.objs.size), gs, dr, tk, os⟩ :=
    I.laid (t' := tk) (a := hp.objs.size + 1) (o := exo (hp.objs.size + 1) C none) up sz (exo_ok at2)
  have r2 : Vals [V.ref (hp.objs.size + 1), v] [Value.ref (hp.objs.size + 1), u] := .cons rfl (.cons rv .nil)
  have fewS : us.length ≤ sizeLine := by
    rw [sizeLine_eq]
    omega
  refine wpAny_call (PySem.Exm.runCls FB ((tl B).trans hB.b) ((tl _).trans hB.a) ((tl _).trans hB.n) hC fewS (PySem.W.looks_findIn I.kIn T.init) (fun self => PySem.W.bind_fn I.kIn self T.fn)
    (codeAny_mono (F.run _ X.stack _ _ ⟨Value.ref (hp.objs.size + 1) :: us, kw⟩ _ _ _ E0 (hr.make C us kw) (I2.env0.make C us kw) (hb _ _ I2.kIn) r2 hq) fun r s' q => ?_))
  cases r with
  | error x => exact hx pins σ _ _ x s' I2 q
  | ok fl =>
    cases fl with
    | ret w =>
      obtain ⟨z, H', J, rz, ez, q3⟩ := I2.after q
      subst ez
      exact ⟨rz, ⟨V.ref (hp.objs.size + 1), H', J, rfl, q3⟩⟩
    | next => exact q.elim
    | brk => exact q.elim
    | cont => exact q.elim
end
end Exv

namespace Exv
open PySem L2
/-- C(v), C(f=v): what the new exception's __init__ is to bring -/
def tNewE (C : Addr) (sp : Sp) (ta : TA) : TE := fun σ H Q => ta σ H fun vs H1 => ∃ v, vs = [v] ∧ ∀ a, H1 a = none → sp [.ref a, v] (upd H1 a (exo a C none)) (fun z H2 => z = .non ∧ Q (.ref a) H2) E0
section
variable {X : Cx} {o e : Expr} {ta : TA} {f x : Str} {p pos kpos : Pos} {C fI : Addr} {B newId initId : String} {bmB bmF : List Value} {CX : CXT} {k : Nat} {fd : FuncData} {ps : List Str} {sp : Sp}
theorem pe_newE (T : ExT X.K C fI f bmB newId) (FB : ExcBaseFacts B newId initId bmF) (hB : Base3 bmB B) (F : FnOk X.prog X.w X.K X.mg X.base CX k fI fd ps sp) (hr : Room (k + 1) X.A) (hx : Passes CX X E0) (hg : Gl X x) (hm : X.mg x = some (.ref C))
    (hb : ∀ (s : Shared) (a : Addr) (u : Value), X.K.In s.heap → BindsTo s fd ⟨[.ref a, u], []⟩ (ps.zip [.ref a, u])) (ha : PA X [e] ta)
    (hdb : (x == ("__debug__" : Str)) = false := by decide) (hs : starEach [e] X.env = (false, eval e X.env) :: starEach [] X.env := by rfl) (hpl : (backTo pos (starEach [] X.env)).any (·.1) = false := by rfl) :
    PE X (.Call (.Name x p) [e] [] pos) (tNewE C sp ta) := by
  refine ⟨fun pins s σ H Q I h => ?_⟩
  refine wpAny_Call_Name_kw (ld_glob I hg hm ?_ hdb)
  refine PySem.W.callWith_K (h₀ := X.base) I.ok.mod.kin T.kp (thn (ha.run pos pins s σ H _ I h) fun us s1 ⟨vs, H1, I1, r, v, ev, q⟩ => ⟨I1.kIn, ?_⟩) hs hpl
  subst ev
  cases r with
  | cons rv rn =>
    cases rn
    exact run_ex T FB hB F hr hx I1 (by show 1 ≤ 1000; decide) rv (fun s a X' => hb s a _ X') q
theorem pe_newEK (T : ExT X.K C fI f bmB newId) (FB : ExcBaseFacts B newId initId bmF) (hB : Base3 bmB B) (F : FnOk X.prog X.w X.K X.mg X.base CX k fI fd ps sp) (hr : Room (k + 1) X.A) (hx : Passes CX X E0) (hg : Gl X x) (hm : X.mg x = some (.ref C))
    (hb : ∀ (s : Shared) (a : Addr) (u : Value), X.K.In s.heap → BindsTo s fd ⟨[.ref a], [(f, u)]⟩ (ps.zip [.ref a, u])) (hkw : PK X [⟨some f, e, kpos⟩] ta)
    (hall : (backToKw pos (keywordEach [⟨some f, e, kpos⟩] X.env)).all (·.1.isSome) = true := by rfl) (hks : (backToKw pos (keywordEach [⟨some f, e, kpos⟩] X.env)).filterMap (·.1) = [f] := by rfl) (hdb : (x == ("__debug__" : Str)) = false := by decide)
    (hpl : ((backTo pos (starEach [] X.env)).any (·.1) || (backToKw pos (keywordEach [⟨some f, e, kpos⟩] X.env)).any (·.1.isNone)) = false := by rfl) :
    PE X (.Call (.Name x p) [] [⟨some f, e, kpos⟩] pos) (tNewE C sp ta) := by
  refine ⟨fun pins s σ H Q I h => ?_⟩
  refine wpAny_Call_Name_kw (ld_glob I hg hm ?_ hdb)
  refine PySem.W.callWith_KW0 (h₀ := X.base) I.ok.mod.kin T.kp hall ?_ hpl
  refine thn (hkw.run pos pins s σ H _ I h) fun ws s2 ⟨zs, H2, I2, rz, v, ev, q⟩ => ⟨I2.kIn, ?_⟩
  rw [hks]
  subst ev
  cases rz with
  | cons rv rn =>
    cases rn
    exact run_ex (us := []) T FB hB F hr hx I2 (Nat.zero_le _) rv (fun s a X' => hb s a _ X') q
/-- C(), an own exception class without __init__ -/
theorem pe_new0 {bmC : List Value} (FB : ExcBaseFacts B newId initId bmB) (q : PySem.W.excIn X.K C bmB newId = true) (kp : PySem.W.keepIn X.K (.ref C) = true) (hg : Gl X x) (hm : X.mg x = some (.ref C)) (hdb : (x == ("__debug__" : Str)) = false := by decide) :
    PE X (.Call (.Name x p) [] [] pos) (fun _ H Q => ∀ a, H a = none → Q (.ref a) (upd H a (exo a C none))) := by
  refine ⟨fun pins s σ H Q I h => ?_⟩
  refine wpAny_Call_Name_kw (ld_glob I hg hm ?_ hdb)
  refine PySem.W.callWith_K0 I.kIn kp ?_
  obtain ⟨bm, N, nm, qn, bs, hdct, sn, sub, ab, col, dd, k0, k1, k2, k3, k5, mN, hC, hN, hni, T⟩ := exc_obj I.kIn q
  refine wpAny_call_exc_subT FB T hC hN hni (fun h' a hm => ?_) (Nat.zero_le _)
  have new : H a = none := I.hok.gone hm.new
  obtain ⟨t, ht, _, _⟩ := hm.there
  exact ⟨.ref a, upd H a (exo a C none), I.laidN hm.keeps hm.new new (exo_ok ht), rfl, h a new⟩
/-- what is asked of an own exception class whose instances are read, or asked about -/
structure IsT (K : PySem.W.Frag) (C : Addr) : Prop where
  hd : PySem.W.hasDictIn K C = true
  ga : PySem.W.findIn K (.ref C) "__getattribute__" = some (some (.builtin "BaseException.__getattribute__"))
  gg : PySem.W.findIn K (.ref C) "__getattr__" = some none
  ex : PySem.W.subIn K (.ref C) (.type "BaseException") = some true
  cl : PySem.W.findIn K (.ref C) "__class__" = some (some (.builtin "object.__class__"))
  sp : PySem.W.specialIn K (.builtin "object.__class__") "__get__" = some (some (.builtin "getset_descriptor.__get__"))
  tk : PySem.W.takesIn K (.builtin "object.__class__") = some true
  mr : PySem.W.mroIn K C (.type "object") = some true
/-- e.f, e an own exception that has the field -/
def tAtE (K : PySem.W.Frag) (f : Str) (te : TE) : TE := fun σ H Q => te σ H fun x H1 => ∃ (a C d : Addr) (fs : List (Str × V)) (v : V), x = .ref a ∧ IsT K C ∧ PySem.W.findIn K (.ref C) f = some none ∧
  H1 a = some (exo a C (some d)) ∧ H1 d = some (exd d fs) ∧ fs.lookup f = some v ∧ Q v H1
theorem pe_atE {te : TE} (he : PE X e te) (hb : attributeBase e f X.env (eval e X.env) = eval e X.env := by rfl) : PE X (.Attribute e f pos) (tAtE X.K f te) := by
  refine ⟨fun pins s σ H Q I h => ?_⟩
  refine attr_of hb (thn (he.run pins s σ H _ I h) fun u s1 ⟨z, H1, I1, r1, a, C, d, fs, v, ez, T, no, ea, ed, l, q⟩ => ?_)
  subst ez
  cases (show u = Value.ref a from r1)
  obtain ⟨t1, ha⟩ := exo_at I1.hok ea
  obtain ⟨mA, hns, rel⟩ := exd_at I1.hok ed
  obtain ⟨od, hod, hl⟩ := lookIn_ns hns
  obtain ⟨w, hw, rw'⟩ := RelO.some_of (v := v) (o := mA f) (by rw [← l]; exact rel f)
  have J : PySem.W.InstAt s1.heap a ({ cls := .ref C, dict := some d, data := .fields #[.ref t1, .none, .none, .none, .bool false, .none] } : Obj) C (some od) := ⟨ha, rfl, rfl, hod⟩
  exact HandSPX.exc_get I1.kIn J T.ga T.gg T.ex (PySem.W.findObj_own T.hd no rfl (by rw [hl, hw])) (handed_of rw') ⟨v, H1, I1.tok _, rw', q⟩
/-- isinstance(e, c) -/
def rIsX (K : PySem.W.Frag) : List V → Hp → VK → Prop := fun xs H Q => ∃ (a C : Addr) (c : V) (cv : Value) (b : Bool), xs = [.ref a, c] ∧ ClsV c cv ∧ IsT K C ∧ PySem.W.kitOne K (.ref C) cv = some b ∧
  (H a = some (exo a C none) ∨ ∃ d fs, H a = some (exo a C (some d)) ∧ H d = some (exd d fs)) ∧ Q (.bl b) H
theorem call_isX : CallR X (.builtin "isinstance") (rIsX X.K) := by
  intro pins s σ H xs us Q I r h
  obtain ⟨a, C, c, cv, b, rfl, k, T, e, ea, q⟩ := h
  obtain ⟨u1, u2, rfl, r1, r2⟩ := vals2 r
  cases (show u1 = Value.ref a from r1)
  have e2 := k.eq r2
  subst e2
  have hcl : (PySem.W.clsIn X.K C).isSome = true := by
    obtain ⟨cd, hcd, _⟩ := PySem.W.any_some T.hd
    rw [hcd]
    rfl
  rcases ea with ea | ⟨d, fs, ea, ed⟩
  · obtain ⟨t1, ha⟩ := exo_at I.hok ea
    have J : PySem.W.InstAt s.heap a (HandSPX.excO C t1) C none := ⟨ha, rfl, rfl, trivial⟩
    exact PySem.W.kia_one (PySem.W.kitx_exc hcl T.ga T.gg T.ex T.cl T.sp T.tk T.mr) I.kIn J e (fun z => nomatch z) fun tk => ⟨.bl b, H, I.tok tk, rfl, q⟩
  · obtain ⟨t1, ha⟩ := exo_at I.hok ea
    obtain ⟨mA, hns, rel⟩ := exd_at I.hok ed
    obtain ⟨od, hod, _⟩ := lookIn_ns hns
    have J : PySem.W.InstAt s.heap a ({ cls := .ref C, dict := some d, data := .fields #[.ref t1, .none, .none, .none, .bool false, .none] } : Obj) C (some od) := ⟨ha, rfl, rfl, hod⟩
    exact PySem.W.kia_one (PySem.W.kitx_exc hcl T.ga T.gg T.ex T.cl T.sp T.tk T.mr) I.kIn J e (fun z => nomatch z) fun tk => ⟨.bl b, H, I.tok tk, rfl, q⟩
end
end Exv

namespace Exv
open PySem
abbrev bmKey : List Value := [.type "KeyError", .type "LookupError", .type "Exception", .type "BaseException", .type "object"]
abbrev bmExc : List Value := [.type "Exception", .type "BaseException", .type "object"]
theorem base3E : Base3 bmExc "Exception" := ⟨by decide +kernel, by decide +kernel, by decide +kernel⟩
theorem base3K : Base3 bmKey "LookupError" := ⟨by decide +kernel, by decide +kernel, by decide +kernel⟩
theorem keyStore : StoreFacts "KeyError" bmKey "object.__setattr__" "object" where
  mro := by kernel_rfl
  slot := (.of (owner := "object") (n := "__setattr__") (by rw [typeLookup_type, builtinLookup_eq_fast]; kernel_rfl) (by decide +kernel) (by decide +kernel) (by decide +kernel) (by first | exact .inl (by decide +kernel) | exact .inr (by decide +kernel)) (by rw [isSubtype_type]; kernel_rfl))
  entry := PySem.F.entry_object_sa
  kind := by decide +kernel
  split := by decide +kernel
  hasOwner := by decide +kernel
  args := fun x y z => by { unfold argsOk; kernel_rfl }
  passes := fun x => by kernel_rfl
end Exv

namespace Exv
open PySem L2
section
variable {X : Cx} {pins : List (Addr × Obj)} {σ : St} {H : Hp} {s : Shared}
/-- an exception's own dict, read as such -/
theorem Inv.asDict {d : Addr} {fs : List (Str × V)} (I : Inv X pins σ H s) (e : H d = some (exd d fs)) : Inv X pins σ (upd H d (.xd fs)) s := by
  have un : Un X.fs [] H (upd H d (.xd fs)) s.heap s.heap := {
    keep := fun b o q n _ _ => q
    slot := fun b o q n _ _ => ⟨_, q⟩
    free := fun b o q n _ => by
      rw [upd_ne (fun z => by rw [z, e] at n; cases n)]
      exact n
    there := fun b o q _ => ⟨_, q⟩
    tups := fun b xs q => by
      rw [upd_ne (at_ne e q exd_tup)]
      exact q
    frzs := fun b o v q => by
      rw [upd_ne (at_ne e q (fun z => by
        have z' : HO.ext _ = HO.frz o v := z
        cases z'))]
      exact q
    tbls := fun b ps q => ⟨#[], by
      rw [upd_ne (at_ne e q (fun z => by
        have z' : HO.ext _ = HO.tbl ps := z
        cases z')), q]
      simp⟩ }
  have J := I.un (t' := s.toks) un fun b o q => ?_
  · exact J
  · by_cases hb : b = d
    · subst hb
      rw [upd_same] at q
      cases q
      exact exd_at I.hok e
    · rw [upd_ne hb] at q
      refine (I.hok b o q).stay (fun c v _ z => z) (fun c hc => ?_) fun c xs hc => ?_
      · rw [upd_ne (at_ne e hc exd_own)]
        exact hc
      · rw [upd_ne (at_ne e hc exd_tup)]
        exact hc
end
/-- what is asked of a new own exception that is to be raised -/
def tMkE (K : PySem.W.Frag) (H0 : Hp) (te : TE) : St → Hp → XK → Prop := fun σ H Q => te σ H fun x H1 => ∃ (a C : Addr), x = .ref a ∧ Fr0 H0 a ∧ PySem.W.subIn K (.ref C) (.type "BaseException") = some true ∧ PySem.W.typeIn K (.ref C) = some (.type "type") ∧
  ((H1 a = some (exo a C none) ∧ Q (.ref C) none (delH H1 a)) ∨ ∃ d fs, d ≠ a ∧ H1 a = some (exo a C (some d)) ∧ H1 d = some (exd d fs) ∧ Q (.ref C) (some d) (upd (delH H1 a) d (.xd fs)))
/-- an expression that gives a new own exception makes an exception -/
theorem pmk_newE {X : Cx} {e : Expr} {te : TE} (hx : X.ex = []) (he : PE X e te) : PMk X e (tMkE X.K X.H_0 te) := by
  intro pins s σ H Q I h
  refine wpAny_mono (he.run pins s σ H _ I h) (fun u s1 hu => ?_) fun _ _ z => z
  obtain ⟨v, H1, I1, r1, a, C, rfl, h0, hr1, hr2, h1⟩ := hu
  cases (show u = Value.ref a from r1)
  have hr : Raises X (.ref C) := raises_own hr1 hr2
  rcases h1 with ⟨ea, q⟩ | ⟨d, fs, ne, ea, ed, q⟩
  · obtain ⟨t1, ha⟩ := exo_at I1.hok ea
    obtain ⟨G, gs, ga, J⟩ := Inv.untrack I1 ea h0 hx
    exact ⟨a, _, _, { s1 with heap := G }, delH H1 a, .ref C, none, rfl, J, gs, ga, ha, ⟨rfl, rfl⟩, rfl, rfl, delH_same, rfl, I1.bare, hr, q⟩
  · obtain ⟨t1, ha⟩ := exo_at I1.hok ea
    obtain ⟨G, gs, ga, J⟩ := Inv.untrack I1 ea h0 hx
    have ed' : delH H1 a d = some (exd d fs) := by rw [delH_ne ne]; exact ed
    have J2 := Inv.asDict J ed'
    exact ⟨a, _, _, { s1 with heap := G }, upd (delH H1 a) d (.xd fs), .ref C, some d, rfl, J2, gs, ga, ha, ⟨rfl, rfl⟩, rfl, rfl, by rw [upd_ne (Ne.symm ne), delH_same], rfl, I1.bare, hr, q⟩
end Exv

/-! calls by one keyword; isinstance of a caught error with a dict of its own; InvalidNode -/
namespace Xr
open PySem PySem.Spec PyProof.Rows L2 Exv
section
variable {X : Cx} {CX : CXT} {k : Nat} {f : Addr} {fd : FuncData} {pm : Str} {sp : Sp} {E : L2.St → XK} {x kn : Str} {p pos kpos : Pos} {e : Expr} {ta : TA}
/-- f(name=e), the one parameter -/
theorem pe_kw0 (F : FnOk X.prog X.w X.K X.mg X.base CX k f fd [pm] sp) (hr : Room k X.A) (hg : Gl X x) (hm : X.mg x = some (.ref f)) (kp : PySem.W.keepIn X.K (.ref f) = true) (hb : ∀ (s : Shared) (u : Value), BindsTo s fd ⟨[], [(kn, u)]⟩ [(pm, u)])
    (hx : ∀ σ, PassesAt CX X σ (E σ)) (hkw : PK X [⟨some kn, e, kpos⟩] ta)
    (hall : (backToKw pos (keywordEach [⟨some kn, e, kpos⟩] X.env)).all (·.1.isSome) = true := by rfl) (hks : (backToKw pos (keywordEach [⟨some kn, e, kpos⟩] X.env)).filterMap (·.1) = [kn] := by rfl) (hdb : (x == ("__debug__" : Str)) = false := by decide)
    (hpl : ((backTo pos (starEach [] X.env)).any (·.1) || (backToKw pos (keywordEach [⟨some kn, e, kpos⟩] X.env)).any (·.1.isNone)) = false := by rfl) :
    PE X (.Call (.Name x p) [] [⟨some kn, e, kpos⟩] pos) (tCallS sp E ta) := by
  refine ⟨fun pins s σ H Q I h => ?_⟩
  refine wpAny_Call_Name_kw (ld_glob I hg hm ?_ hdb)
  refine PySem.W.callWith_KW0 (h₀ := X.base) I.ok.mod.kin kp hall ?_ hpl
  refine thn (hkw.run pos pins s σ H _ I h) fun ws s2 ⟨zs, H2, I2, rz, q⟩ => ⟨I2.kIn, ?_⟩
  rw [hks]
  have q' : sp zs H2 Q (E σ) := q
  have lens : ws.length = 1 := by
    rw [← rz.length]
    exact F.len _ _ _ _ q'
  obtain ⟨u, rfl⟩ : ∃ u, ws = [u] := by
    match ws, lens with
    | [u], _ => exact ⟨u, rfl⟩
  refine wpAny_call (codeAny_mono (F.run X.A X.stack s2 H2 ⟨[], [(kn, u)]⟩ [u] zs Q (E σ) hr I2.env0 (hb s2 u) rz q') fun r s' hq => ?_)
  cases r with
  | error e => exact hx σ pins H2 s2 e s' I2 hq
  | ok fl =>
    cases fl with
    | ret u => exact I2.after hq
    | next => exact False.elim hq
    | brk => exact False.elim hq
    | cont => exact False.elim hq
theorem at0 {CX : CXT} {X : Cx} {E : XK} (h : Passes CX X E) (σ : L2.St) : PassesAt CX X σ E := fun pins H s e s' I c => h pins σ H s e s' I c
/-- isinstance(e, c), e the caught error, its class and dict by the reading -/
def rIsED (K : PySem.W.Frag) (a : Addr) (cls : Value) (d : Option Addr) : List V → Hp → VK → Prop := fun xs H Q => ∃ (C : Addr) (c : V) (cv : Value) (b : Bool) (dd : Addr) (fs : List (Str × V)), cls = .ref C ∧ xs = [.ref a, c] ∧ ClsV c cv ∧ IsT K C ∧ PySem.W.kitOne K (.ref C) cv = some b ∧
  d = some dd ∧ H dd = some (.xd fs) ∧ Q (.bl b) H
theorem call_isED {a : Addr} {oe : Obj} {cls : Value} {d : Option Addr} {pn : List (Addr × Obj)} (hz : Zc cls d oe) (hf : ∃ vs, oe.data = .fields vs) : CallR (X.suite a ((a, oe) :: pn)) (.builtin "isinstance") (rIsED X.K a cls d) := by
  intro pins s σ H xs us Q I r h
  obtain ⟨C, c, cv, b, dd, fs, ec, rfl, k, T, e, ed, ea, q⟩ := h
  obtain ⟨u1, u2, rfl, r1, r2⟩ := vals2 r
  cases (show u1 = Value.ref a from r1)
  have e2 := k.eq r2
  subst e2
  subst ec
  subst ed
  obtain ⟨ha, _⟩ := I.pin (a, oe) (List.mem_append_left _ List.mem_cons_self)
  obtain ⟨vs, hd⟩ := hf
  have hx : ObjOk X.prog X.w H s.heap dd (.xd fs) := I.hok dd _ ea
  obtain ⟨mA, hns, hr⟩ := hx
  obtain ⟨od, ho, hl⟩ := lookIn_ns hns
  have hcl : (PySem.W.clsIn X.K C).isSome = true := by
    obtain ⟨cd, hcd, _⟩ := PySem.W.any_some T.hd
    rw [hcd]
    rfl
  have J : PySem.W.InstAt s.heap a oe C (some od) := ⟨ha, hz.1, by unfold PySem.W.notCls; rw [hd] <;> rfl, by rw [hz.2]; exact ho⟩
  exact PySem.W.kia_one (PySem.W.kitx_exc hcl T.ga T.gg T.ex T.cl T.sp T.tk T.mr) I.kIn J e (fun z => nomatch z) fun tk => ⟨.bl b, H, I.tok tk, rfl, q⟩
end
end Xr

/-! what the program says of marks -/
namespace Km
open PySem L2 Xr Exv
abbrev sLeft : Stmt := top 16
theorem scLeft : FnScope ["value", "left", "at", "mark", "word", "begins"] ["value"] (defScope sLeft) := ⟨rfl, rfl, rfl, by decide +kernel, rfl, by decide +kernel, by decide +kernel⟩
abbrev sNeed : Stmt := top 15
theorem scNeed : FnScope ["value"] ["value"] (defScope sNeed) := ⟨rfl, rfl, rfl, by decide +kernel, rfl, by decide +kernel, by decide +kernel⟩
abbrev sBegin : Stmt := top 18
theorem scBegin : FnScope ["value"] ["value"] (defScope sBegin) := ⟨rfl, rfl, rfl, by decide +kernel, rfl, by decide +kernel, by decide +kernel⟩
def spInit (C : Addr) (f : Str) : Sp := fun vs H Q _ => ∃ (a : Addr) (v : V), vs = [.ref a, v] ∧ H a = some (exo a C none) ∧
  ∀ dx, H dx = none → dx ≠ a → Q .non (upd (upd H dx (exd dx [(f, v)])) a (exo a C (some dx)))
abbrev sI0 : Stmt := inClass (top 2) 0
theorem scI0 : FnScope ["self", "at"] ["self", "at"] (defScope sI0) := ⟨rfl, rfl, rfl, by decide +kernel, rfl, by decide +kernel, by decide +kernel⟩
theorem same_raised {H H1 : Hp} {a dx : Addr} {o o2 : HO} {fs : List (Str × V)} (s : Same H H1) (ha : H1 a = none) (hd : (upd H1 a o) dx = none) (ne : dx ≠ a) :
    Same H (upd (delH (upd (upd (upd H1 a o) dx (exd dx fs)) a o2) a) dx (.xd fs)) := fun q u e0 => by
  have e := s q u e0
  have hd' : H1 dx = none := by
    rw [upd_ne ne] at hd
    exact hd
  have na := ne_of_none e ha
  have nd := ne_of_none e hd'
  rw [upd_ne nd, delH_ne na, upd_ne na, upd_ne nd, upd_ne na]
  exact e
/-- how many nodes are open behind a value, or where it is wrong -/
def leftD : PyData → Except Int Nat
  | .tuple ds => match wr ds 0 0 with
    | (some i, _) => .error (i : Int)
    | (none, n) => .ok (if ds = [] then 1 else n)
  | _ => .error (-1)
def spLeft (K : PySem.W.Frag) (C : Addr) : Sp := fun vs H Q E => ∃ (v : V) (d : PyData) (N : Addr → Prop), vs = [v] ∧ Dm K N H v d ∧ Val d ∧
  (∀ i, leftD d = .error i → ∀ (dd : Addr) (H' : Hp), H' dd = some (.xd [("at", .int i)]) → Same H H' → E (.ref C) (some dd) H') ∧ (∀ n, leftD d = .ok n → ∀ H', Same H H' → Q (.int (n : Int)) H')
/-- what need_marks says: the place that its error keeps, or none -/
def needD (d : PyData) : Option Int := match leftD d with
  | .error i => some i
  | .ok 0 => none
  | .ok _ => match d with
    | .tuple ds => some (ds.length : Int)
    | _ => none
def spNeed (K : PySem.W.Frag) (C : Addr) : Sp := fun vs H Q E => ∃ (v : V) (d : PyData) (N : Addr → Prop), vs = [v] ∧ Dm K N H v d ∧ Val d ∧
  (∀ i, dueD d = some i → ∀ (dd : Addr) (H' : Hp), H' dd = some (.xd [("at", .int i)]) → Same H H' → E (.ref C) (some dd) H') ∧ (dueD d = none → ∀ H', Same H H' → Q .non H')
def beginD (d : PyData) : Bool := match leftD d with
  | .error _ => false
  | .ok _ => true
def spBegin (K : PySem.W.Frag) : Sp := fun vs H Q _ => ∃ (v : V) (d : PyData) (N : Addr → Prop), vs = [v] ∧ Dm K N H v d ∧ Val d ∧ ∀ H', Same H H' → Q (.bl (beginD d)) H'
structure LeftTxt (K : PySem.W.Frag) (mg : Str → Option Value) (C fI a_word_of a_nodes_left : Addr) : Prop where
  n_isinstance : mg "isinstance" = none
  n_tuple : mg "tuple" = none
  n_enumerate : mg "enumerate" = none
  n_len : mg "len" = none
  m : mg "InvalidNode" = some (.ref C)
  t : ExT K C fI "at" bmExc "Exception.__new__"
  ex : PySem.W.subIn K (.ref C) (.type "BaseException") = some true
  ty : PySem.W.typeIn K (.ref C) = some (.type "type")
  one : PySem.W.exmOne K (.ref C) (.ref C) = some true
  g_word_of : mg "mark_word" = some (.ref a_word_of)
  k_word_of : PySem.W.keepIn K (.ref a_word_of) = true
  g_nodes_left : mg "_nodes_left" = some (.ref a_nodes_left)
  k_nodes_left : PySem.W.keepIn K (.ref a_nodes_left) = true
section
variable {P : Program} {w : World} {K : PySem.W.Frag} {mg : Str → Option Value} {base : Heap} {C fI a_word_of a_nodes_left : Addr} {fdW fdI fdL : FuncData}
theorem ok_init0 {f C : Addr} {fd : FuncData} (F : Fun K "__init__" "InvalidNode.__init__" sI0 f fd) (T : ExT K C f "at" bmExc "Exception.__new__") : FnOk P w K mg base CX0 1 f fd ["self", "at"] (spInit C "at") := by
  refine F.ok scI0 (fun vs H Q E h => ?_) (fun cdv A outer s H vs Q E hr h => ?_)
  · obtain ⟨a, v, rfl, _⟩ := h
    rfl
  · obtain ⟨a, v, rfl, ha, k⟩ := h
    exact ⟨_, pss_one (ps_putE T PySem.F.store_Exception (pv 0) (pv 1)), _, rfl, _, rfl, a, rfl, ha, fun dx n ne => k dx n ne⟩
theorem bp0 {f : Addr} {fd : FuncData} (F : Fun K "__init__" "InvalidNode.__init__" sI0 f fd) (s : Shared) (a : Addr) (u : Value) : BindsTo s fd ⟨[.ref a, u], []⟩ ((["self", "at"] : List Str).zip [.ref a, u]) := by
  obtain ⟨_, _, _, _, _, _, _, _, _, rfl, _, _⟩ := F.ex
  exact .of_eq rfl
theorem ok_left {fd : FuncData} (F : Fun K "_nodes_left" "_nodes_left" sLeft a_nodes_left fd) (T : LeftTxt K mg C fI a_word_of a_nodes_left) (FI : Fun K "__init__" "InvalidNode.__init__" sI0 fI fdI)
    (G_word_of : FnOk P w K mg base CX0 3 a_word_of fdW ["value"] (spWord K)) (b_word_of : Binds K fdW ["value"] []) : FnOk P w K mg base (L2.CX P w) 4 a_nodes_left fd ["value"] (spLeft K C) := by
  refine F.okX scLeft (fun vs H Q E h => ?_) (fun cdv A outer s H vs Q E hr h => ?_)
  · obtain ⟨v, d, N, rfl, _⟩ := h
    rfl
  · obtain ⟨v, d, N, rfl, hv, hm, kE, kQ⟩ := h
    have hr2 : Room 2 _ := hr.mono (by decide)
    refine ⟨_, (pss_cons (ps_if (pt_not (pt_val (pe_callB call_isi (by rfl) T.n_isinstance (by decide +kernel) (pa_cons (pv 0) (pa_cons (pe_bltn (v := V.ty "tuple") (u := .type "tuple") (by rfl) T.n_tuple (by decide +kernel) (by rfl)) pa_nil)))))
      (pss_one (ps_raise rfl (takes_of rfl rfl rfl rfl) (pmk_newE rfl (pe_newE T.t PySem.F.excBase_Exception base3E (ok_init0 FI T.t) hr2 pass0 rfl T.m (fun s a u _ => bp0 FI s a u) (pa_cons (pe_un un_neg pe_int) pa_nil)))))
      pss_nil)
      (pss_cons (ps_set (i := 1) scLeft.nd rfl (Or.inl rfl) pe_int)
      (pss_cons (ps_for PassesOwn.leaving rfl (pi_enumT (by rfl) T.n_enumerate (pa_cons (pv 0) pa_nil)) (pg_tup (by rfl) (pgs_cons (pg_name (i := 2) scLeft.nd rfl (Or.inl rfl)) (pgs_cons (pg_name (i := 3) scLeft.nd rfl (Or.inl rfl)) pgs_nil)))
      (pss_cons (ps_set (i := 4) scLeft.nd rfl (Or.inl rfl) (pe_call G_word_of hr rfl T.g_word_of T.k_word_of b_word_of .nil pass0 (pa_cons (pv 3) pa_nil)))
      (pss_cons (ps_set (i := 5) scLeft.nd rfl (Or.inl rfl) (pe_and (pe_cmpR op_eq (pv 2) pe_int (nomark _)) (pe_one (pe_cmpR op_eq (pv 4) pe_str (nomark _)))))
      (pss_cons (ps_if (PW.pt (pw_or (pt_cmpR op_isN (pv 4) pe_non (nomark _)) (pw_or1 (PW.pt (pw_and (pt_not (pt_truth (pv 5) (by intro _; rfl))) (pw_and1 (PW.pt (pw_or (pt_cmpR op_eq (pv 2) pe_int (nomark _)) (pw_or1 (pt_cmpR op_eq (pv 1) pe_int (nomark _)))))))))))
      (pss_one (ps_raise rfl (takes_of rfl rfl rfl rfl) (pmk_newE rfl (pe_newE T.t PySem.F.excBase_Exception base3E (ok_init0 FI T.t) hr2 pass0 rfl T.m (fun s a u _ => bp0 FI s a u) (pa_cons (pv 2) pa_nil)))))
      pss_nil)
      (pss_one (ps_if (PW.pt (pw_and (pt_cmpR op_eq (pv 4) pe_str (nomark _)) (pw_and1 (pt_not (pt_truth (pv 5) (by intro _; rfl))))))
      (pss_one (ps_aug (i := 1) scLeft.nd rfl (.inl rfl) pe_int ip_add))
      (pss_one (ps_if (pt_cmpR op_eq (pv 4) pe_str (nomark _))
      (pss_one (ps_aug (i := 1) scLeft.nd rfl (.inl rfl) pe_int ip_sub))
      pss_nil))))))))
      (pss_one (ps_ret (pv 1)))))), ?_⟩
    refine ⟨_, rfl, _, _, _, _, _, rfl, .ty "tuple", hv.ty, kit_tup d, _, rfl, ?_⟩
    have bad : leftD d = .error (-1) → isTup d = false → ∀ a, H a = none → ∀ dx, (upd H a (exo a C none)) dx = none → dx ≠ a → E (.ref C) (some dx) (upd (delH (upd (upd (upd H a (exo a C none)) dx (exd dx [("at", .int (-1))])) a (exo a C (some dx))) a) dx (.xd [("at", .int (-1))])) :=
      fun e _ a ha dx hd ne => kE _ e dx _ upd_same (same_raised (Same.refl H) ha hd ne)
    cases hm with
    | non => exact iteT ⟨1, rfl, _, rfl, fun a ha => ⟨a, _, rfl, upd_same, fun dx hd ne => ⟨rfl, a, C, rfl, fr0_none ha, T.ex, T.ty, .inr ⟨dx, _, ne, upd_same, (by rw [upd_ne ne, upd_same]), bad rfl rfl a ha dx hd ne⟩⟩⟩⟩
    | int => exact iteT ⟨1, rfl, _, rfl, fun a ha => ⟨a, _, rfl, upd_same, fun dx hd ne => ⟨rfl, a, C, rfl, fr0_none ha, T.ex, T.ty, .inr ⟨dx, _, ne, upd_same, (by rw [upd_ne ne, upd_same]), bad rfl rfl a ha dx hd ne⟩⟩⟩⟩
    | str s h => exact iteT ⟨1, rfl, _, rfl, fun a ha => ⟨a, _, rfl, upd_same, fun dx hd ne => ⟨rfl, a, C, rfl, fr0_none ha, T.ex, T.ty, .inr ⟨dx, _, ne, upd_same, (by rw [upd_ne ne, upd_same]), bad rfl rfl a ha dx hd ne⟩⟩⟩⟩
    | lst ds => exact iteT ⟨1, rfl, _, rfl, fun a ha => ⟨a, _, rfl, upd_same, fun dx hd ne => ⟨rfl, a, C, rfl, fr0_none ha, T.ex, T.ty, .inr ⟨dx, _, ne, upd_same, (by rw [upd_ne ne, upd_same]), bad rfl rfl a ha dx hd ne⟩⟩⟩⟩
    | tup ds hmk hl =>
      obtain ⟨a, xs, rfl, ta, al⟩ := hv.seq
      have lx := al.len
      have e0 : leftD (.tuple ds) = match wr ds 0 0 with
        | (some i, _) => .error (i : Int)
        | (none, n) => .ok (if ds = [] then 1 else n) := rfl
      refine iteF ⟨_, rfl, a, xs, rfl, ta.sq, ?_⟩
      refine for_it (walk_enumT (K := K) (a := a) (xs := xs)) (fun i σ H1 => ∃ (n : Nat) (x2 x3 x4 x5 : Option V), σ = [some (.ref a), some (.int ((if i = 0 then 1 else n : Nat) : Int)), x2, x3, x4, x5] ∧ Same H H1 ∧ wr ds 0 0 = wr (ds.drop i) i n ∧ (i = 0 → n = 0))
        ⟨0, none, none, none, none, rfl, Same.refl H, rfl, fun _ => rfl⟩ (fun i σ H1 _ ⟨_, _, _, _, _, _, s1, _⟩ => (ta.up (Bt.same s1)).sq) ?_ ?_
      · rintro i x σ H1 H2 hi ⟨n, x2, x3, x4, x5, rfl, s1, e, h0⟩ ⟨T0, i1, y, rfl, hT, rfl, e1, hy⟩
        have ei := Option.some.inj e1
        subst ei
        have s2 : Same H (upd H1 T0 (.tup [.int (i : Nat), y])) := s1.new hT
        have hT2 : (upd H1 T0 (.tup [.int (i : Nat), y])) T0 = some (.tup [.int (i : Nat), y]) := upd_same
        generalize upd H1 T0 (.tup [.int (i : Nat), y]) = H3 at s2 hT2 ⊢
        obtain ⟨d, hd, dv⟩ := al.getV hy
        have mk : MkL d := hmk d (List.mem_of_getElem? hd)
        rw [drop_at hd] at e
        have e2 : wr (d :: ds.drop (i + 1)) i n = if kindD d = 0 ∨ (n = 0 ∧ (0 < i ∨ kindD d ≠ 1)) then (some i, n) else wr (ds.drop (i + 1)) (i + 1) (nxt (kindD d) n) := rfl
        rw [e2] at e
        refine ⟨T0, _, rfl, SqT.of hT2, rfl, _, _, rfl, _, _, rfl, rfl, ?_⟩
        refine ⟨_, rfl, y, d, N, rfl, dv.up (Bt.same s2), mk, fun H4 s4 => ?_⟩
        have s5 := s2.trans s4
        have stop : (kindD d = 0 ∨ (n = 0 ∧ (0 < i ∨ kindD d ≠ 1))) → ∀ a1, H4 a1 = none → ∀ dx, (upd H4 a1 (exo a1 C none)) dx = none → dx ≠ a1 → E (.ref C) (some dx) (upd (delH (upd (upd (upd H4 a1 (exo a1 C none)) dx (exd dx [("at", .int (i : Nat))])) a1 (exo a1 C (some dx))) a1) dx (.xd [("at", .int (i : Nat))])) := by
          intro hc a1 ha1 dx hd1 ne
          rw [if_pos hc] at e
          refine kE (i : Nat) ?_ dx _ upd_same (same_raised s5 ha1 hd1 ne)
          rw [e0, e]
        have k3 := kind_le d
        have hk : kindD d = 0 ∨ kindD d = 1 ∨ kindD d = 2 ∨ kindD d = 3 := by omega
        have fin : ∀ (m : Nat) (L : Int) (x2 x3 x4 x5 : Option V), L = (m : Int) → wr ds 0 0 = wr (ds.drop (i + 1)) (i + 1) m →
            ∃ (n : Nat) (z2 z3 z4 z5 : Option V), ([some (.ref a), some (.int L), x2, x3, x4, x5] : List (Option V)) = [some (.ref a), some (.int ((if i + 1 = 0 then 1 else n : Nat) : Int)), z2, z3, z4, z5] ∧ Same H H4 ∧ wr ds 0 0 = wr (ds.drop (i + 1)) (i + 1) n ∧ (i + 1 = 0 → n = 0) :=
          fun m L x2 x3 x4 x5 eL er => ⟨m, x2, x3, x4, x5, by rw [if_neg (Nat.succ_ne_zero i), eL], s5, er, fun z => absurd z (Nat.succ_ne_zero i)⟩
        have rz : (kindD d = 0 ∨ (n = 0 ∧ (0 < i ∨ kindD d ≠ 1))) → ∀ a1, H4 a1 = none → _ := fun hc a1 ha1 =>
          (⟨a1, .int (i : Nat), rfl, upd_same, fun dx hd1 ne => ⟨rfl, a1, C, rfl, fr0_none (s5.free ha1), T.ex, T.ty, .inr ⟨dx, _, ne, upd_same, (by rw [upd_ne ne, upd_same]), stop hc a1 ha1 dx hd1 ne⟩⟩⟩ : spInit C "at" [.ref a1, .int (i : Nat)] (upd H4 a1 (exo a1 C none)) (fun z H2 => z = .non ∧ ∃ (a : Addr) (D : Addr), V.ref a1 = .ref a ∧ Fr0 H a ∧ PySem.W.subIn K (.ref D) (.type "BaseException") = some true ∧ PySem.W.typeIn K (.ref D) = some (.type "type") ∧
            ((H2 a = some (exo a D none) ∧ E (.ref D) none (delH H2 a)) ∨ ∃ d fs, d ≠ a ∧ H2 a = some (exo a D (some d)) ∧ H2 d = some (exd d fs) ∧ E (.ref D) (some d) (upd (delH H2 a) d (.xd fs)))) E0)
        cases i with
        | zero =>
          have n0 := h0 rfl
          subst n0
          rcases hk with q | q | q | q
          · rw [q]
            exact ⟨_, rfl, rfl, _, rfl, iteT ⟨_, rfl, rfl, _, rfl, rfl, _, rfl, iteT ⟨_, rfl, _, rfl, rz (.inl q)⟩⟩⟩
          · rw [if_neg (fun z => z.elim (fun z => by omega) fun z => z.2.elim (fun z => by omega) fun z => z q)] at e
            rw [q] at e ⊢
            exact ⟨_, rfl, rfl, _, rfl, iteT ⟨_, rfl, rfl, _, rfl, rfl, _, rfl, iteF ⟨_, rfl, _, rfl, iteF ⟨_, rfl, rfl, _, rfl, iteT ⟨_, rfl, _, rfl, iteF ⟨_, rfl, rfl, _, rfl, iteF (fin 1 _ _ _ _ _ rfl e)⟩⟩⟩⟩⟩⟩
          · have hc : kindD d = 0 ∨ (0 = 0 ∧ (0 < 0 ∨ kindD d ≠ 1)) := .inr ⟨rfl, .inr (by omega)⟩
            rw [q]
            exact ⟨_, rfl, rfl, _, rfl, iteT ⟨_, rfl, rfl, _, rfl, rfl, _, rfl, iteF ⟨_, rfl, _, rfl, iteT ⟨_, rfl, rfl, _, rfl, iteT ⟨_, rfl, _, rfl, rz hc⟩⟩⟩⟩⟩
          · have hc : kindD d = 0 ∨ (0 = 0 ∧ (0 < 0 ∨ kindD d ≠ 1)) := .inr ⟨rfl, .inr (by omega)⟩
            rw [q]
            exact ⟨_, rfl, rfl, _, rfl, iteT ⟨_, rfl, rfl, _, rfl, rfl, _, rfl, iteF ⟨_, rfl, _, rfl, iteT ⟨_, rfl, rfl, _, rfl, iteT ⟨_, rfl, _, rfl, rz hc⟩⟩⟩⟩⟩
        | succ i =>
          have ne0 : decide (V.int ((i + 1 : Nat) : Int) = V.int 0) = false := decide_eq_false fun z => by
            have := V.int.inj z
            omega
          have le : ((if i + 1 = 0 then 1 else n : Nat) : Int) = (n : Int) := by rw [if_neg (Nat.succ_ne_zero i)]
          rw [le]
          refine ⟨_, rfl, rfl, _, rfl, ?_⟩
          rw [ne0]
          refine iteF ⟨_, rfl, rfl, _, rfl, ?_⟩
          by_cases q0 : kindD d = 0
          · rw [q0]
            exact iteT ⟨_, rfl, _, rfl, rz (.inl q0)⟩
          · have kn : decide (kindV (kindD d) = V.non) = false := by
              rcases hk with q | q | q | q
              · exact absurd q q0
              all_goals (rw [q]; rfl)
            rw [kn]
            refine iteF ⟨_, rfl, _, rfl, iteT ⟨_, rfl, rfl, _, rfl, ?_⟩⟩
            rw [ne0]
            refine iteF ⟨_, rfl, rfl, _, rfl, ?_⟩
            by_cases n0 : n = 0
            · have hc : kindD d = 0 ∨ (n = 0 ∧ (0 < i + 1 ∨ kindD d ≠ 1)) := .inr ⟨n0, .inl (Nat.succ_pos i)⟩
              have z : decide (V.int (n : Int) = V.int 0) = true := by
                rw [n0]
                rfl
              rw [z]
              exact iteT ⟨_, rfl, _, rfl, rz hc⟩
            · have z : decide (V.int (n : Int) = V.int 0) = false := decide_eq_false fun z => by
                have := V.int.inj z
                omega
              rw [z]
              rw [if_neg (fun z => z.elim q0 fun z => n0 z.1)] at e
              refine iteF ?_
              rcases hk with q | q | q | q
              · exact absurd q q0
              · rw [q] at e ⊢
                exact ⟨_, rfl, rfl, _, rfl, iteT ⟨_, rfl, _, rfl, iteT ⟨_, rfl, _, _, rfl, rfl, fin (n + 1) _ _ _ _ _ (by show (n : Int) + 1 = ((n + 1 : Nat) : Int); omega) e⟩⟩⟩
              · rw [q] at e ⊢
                exact ⟨_, rfl, rfl, _, rfl, iteF ⟨_, rfl, rfl, _, rfl, iteF (fin n _ _ _ _ _ rfl e)⟩⟩
              · rw [q] at e ⊢
                exact ⟨_, rfl, rfl, _, rfl, iteF ⟨_, rfl, rfl, _, rfl, iteT ⟨_, rfl, _, _, rfl, rfl, fin (n - 1) _ _ _ _ _ (by show (n : Int) - 1 = ((n - 1 : Nat) : Int); omega) e⟩⟩⟩
      · rintro σ H1 ⟨n, x2, x3, x4, x5, rfl, s1, e, h0⟩
        have z : ds.drop xs.length = [] := List.drop_of_length_le (by omega)
        rw [z] at e
        have e2 : wr ds 0 0 = (none, n) := e
        rw [e2] at e0
        refine ⟨_, rfl, ?_⟩
        have := kQ _ e0 H1 s1
        have e3 : (if xs.length = 0 then 1 else n) = if ds = [] then 1 else n := by
          rw [lx]
          cases ds with
          | nil => rfl
          | cons d ds =>
            rw [if_neg (by simp), if_neg (by simp)]
        rw [e3]
        exact this
end
end Km

/-! need_marks, is_beginning, what is told -/
namespace Km
open PySem L2 Xr Exv
abbrev sTold : Stmt := top 31
theorem scTold : FnScope ["value", "e"] ["value"] (defScope sTold) := ⟨rfl, rfl, rfl, by decide +kernel, rfl, by decide +kernel, by decide +kernel⟩
theorem due_err {d : PyData} {i : Int} (h : leftD d = .error i) : dueD d = some i := by
  cases d with
  | tuple ds =>
    have e0 : leftD (.tuple ds) = match wr ds 0 0 with
      | (some i, _) => .error (i : Int)
      | (none, n) => .ok (if ds = [] then 1 else n) := rfl
    have e1 : dueD (.tuple ds) = match wr ds 0 0 with
      | (some i, _) => some (i : Int)
      | (none, n) => if 0 < n ∨ ds = [] then some (ds.length : Int) else none := rfl
    rw [e0] at h
    rw [e1]
    cases e : wr ds 0 0 with
    | mk o n =>
      rw [e] at h
      cases o with
      | some j =>
        have z : Except.error (ε := Int) (α := Nat) (j : Int) = .error i := h
        injection z with z
        rw [← z]
      | none => cases h
  | _ =>
    have z : Except.error (ε := Int) (α := Nat) (-1) = .error i := h
    injection z with z
    rw [← z]
    rfl
theorem due_ok {d : PyData} {n : Nat} (h : leftD d = .ok n) : ∃ ds, d = .tuple ds ∧ dueD d = if n = 0 then none else some (ds.length : Int) := by
  cases d with
  | tuple ds =>
    refine ⟨ds, rfl, ?_⟩
    have e0 : leftD (.tuple ds) = match wr ds 0 0 with
      | (some i, _) => .error (i : Int)
      | (none, n) => .ok (if ds = [] then 1 else n) := rfl
    have e1 : dueD (.tuple ds) = match wr ds 0 0 with
      | (some i, _) => some (i : Int)
      | (none, n) => if 0 < n ∨ ds = [] then some (ds.length : Int) else none := rfl
    rw [e0] at h
    rw [e1]
    cases e : wr ds 0 0 with
    | mk o m =>
      rw [e] at h
      cases o with
      | some j => cases h
      | none =>
        have z : Except.ok (ε := Int) (if ds = [] then 1 else m) = .ok n := h
        injection z with z
        show (if 0 < m ∨ ds = [] then some (ds.length : Int) else none) = _
        by_cases hd : ds = []
        · rw [if_pos hd] at z
          rw [if_pos (.inr hd), ← z, if_neg (by decide)]
        · rw [if_neg hd] at z
          subst z
          by_cases h0 : m = 0
          · rw [if_pos h0, if_neg (fun q => q.elim (fun q => by omega) hd)]
          · rw [if_neg h0, if_pos (.inl (by omega))]
  | _ => cases h
structure ToldTxt (K : PySem.W.Frag) (mg : Str → Option Value) (C cP fit a_need_marks : Addr) : Prop where
  n_isinstance : mg "isinstance" = none
  m : mg "InvalidNode" = some (.ref C)
  mP : mg "InvalidPlace" = some (.ref cP)
  mF : mg "FitError" = some (.ref fit)
  it : IsT K C
  no : PySem.W.findIn K (.ref C) "at" = some none
  one : PySem.W.exmOne K (.ref C) (.ref C) = some true
  isF : PySem.W.kitOne K (.ref C) (.ref fit) = some true
  isP : PySem.W.kitOne K (.ref C) (.ref cP) = some false
  g_need_marks : mg "need_marks" = some (.ref a_need_marks)
  k_need_marks : PySem.W.keepIn K (.ref a_need_marks) = true
def spTold (K : PySem.W.Frag) : Sp := fun vs H Q _ => ∃ (v : V) (d : PyData) (N : Addr → Prop), vs = [v] ∧ Dm K N H v d ∧ Val d ∧ ∀ H', Same H H' → Q (optI (dueD d)) H'
section
variable {P : Program} {w : World} {K : PySem.W.Frag} {mg : Str → Option Value} {base : Heap} {C fI cP fit a_word_of a_nodes_left a_need_marks : Addr} {fdW fdI fdL fdN : FuncData}
theorem ok_need {fd : FuncData} (F : Fun K "need_marks" "need_marks" sNeed a_need_marks fd) (T : LeftTxt K mg C fI a_word_of a_nodes_left) (FI : Fun K "__init__" "InvalidNode.__init__" sI0 fI fdI)
    (G_nodes_left : FnOk P w K mg base (L2.CX P w) 4 a_nodes_left fdL ["value"] (spLeft K C)) (b_nodes_left : Binds K fdL ["value"] []) : FnOk P w K mg base (L2.CX P w) 5 a_need_marks fd ["value"] (spNeed K C) := by
  refine F.okX scNeed (fun vs H Q E h => ?_) (fun cdv A outer s H vs Q E hr h => ?_)
  · obtain ⟨v, d, N, rfl, _⟩ := h
    rfl
  · obtain ⟨v, d, N, rfl, hv, hm, kE, kQ⟩ := h
    have hr2 : Room 2 _ := hr.mono (by decide)
    refine ⟨_, (pss_one (ps_if (pt_cmpR op_ne (pe_callS G_nodes_left hr (by rfl) T.g_nodes_left T.k_nodes_left b_nodes_left (fun σ => passAt (takes_of rfl rfl rfl rfl) σ) (by exact (pa_cons (pv 0) pa_nil))) pe_int (nomark _))
      (pss_one (ps_raise rfl (takes_of rfl rfl rfl rfl) (pmk_newE rfl (pe_newE T.t PySem.F.excBase_Exception base3E (ok_init0 FI T.t) hr2 pass0 rfl T.m (fun s a u _ => bp0 FI s a u) (pa_cons (pe_callB call_len_seq (by rfl) T.n_len PySem.boot_len (pa_cons (pv 0) pa_nil)) pa_nil)))))
      pss_nil)), ?_⟩
    refine ⟨_, rfl, v, d, N, rfl, hv, hm, fun i hi dd H1 h1 s1 => kE i (due_err hi) dd H1 h1 s1, fun n hn H1 s1 => ⟨rfl, _, rfl, ?_⟩⟩
    obtain ⟨ds, rfl, e⟩ := due_ok hn
    by_cases n0 : n = 0
    · subst n0
      exact iteF (kQ (by rw [e, if_pos rfl]) _ s1)
    · have z : decide (V.int (n : Int) = V.int 0) = false := decide_eq_false fun z => by
        have := V.int.inj z
        omega
      rw [z]
      rw [if_neg n0] at e
      obtain ⟨a, xs, rfl, ta, al⟩ := hv.seq
      have lx := al.len
      refine iteT ⟨_, rfl, _, xs, rfl, .inr (ta.up (Bt.same s1)).sq, _, rfl, fun a1 ha1 => ⟨a1, _, rfl, upd_same, fun dx hd1 ne => ⟨rfl, a1, C, rfl, fr0_none (s1.free ha1), T.ex, T.ty, .inr ⟨dx, _, ne, upd_same, (by rw [upd_ne ne, upd_same]), ?_⟩⟩⟩⟩
      rw [lx]
      exact kE _ e dx _ upd_same (same_raised s1 ha1 hd1 ne)
theorem ok_begin {f : Addr} {fd : FuncData} (F : Fun K "is_beginning" "is_beginning" sBegin f fd) (T : LeftTxt K mg C fI a_word_of a_nodes_left)
    (G_nodes_left : FnOk P w K mg base (L2.CX P w) 4 a_nodes_left fdL ["value"] (spLeft K C)) (b_nodes_left : Binds K fdL ["value"] []) : FnOk P w K mg base CX0 5 f fd ["value"] (spBegin K) := by
  refine F.ok scBegin (fun vs H Q E h => ?_) (fun cdv A outer s H vs Q E hr h => ?_)
  · obtain ⟨v, d, N, rfl, _⟩ := h
    rfl
  · obtain ⟨v, d, N, rfl, hv, hm, k⟩ := h
    refine ⟨_, pss_cons (ps_try_only (tb := fun W => tDrop (tCallS (spLeft K C) (WE W) (tCons (tVar 0) tNil))) (ts := fun _ _ _ => tRet (tC (.bl false))) (Wout := fun _ _ _ _ => False) rfl rfl ⟨rfl, by decide, .inl T.m⟩ takes0
        (fun W pn xe tk _ => pss_one (ps_expr (pe_callS G_nodes_left hr (by rfl) T.g_nodes_left T.k_nodes_left b_nodes_left (fun σ => passAt tk σ) (by exact (pa_cons (pv 0) pa_nil)))))
        (fun a oe cls d pn _ _ => pss_one (ps_ret pe_bl)))
      (pss_one (ps_ret pe_bl)), ?_⟩
    refine ⟨_, rfl, v, d, N, rfl, hv, hm, fun i hi dd H1 h1 s1 => ⟨true, T.one, fun _ a ha => ?_, fun q => nomatch q⟩, fun n hn H1 s1 => ?_⟩
    · have := k H1 s1
      unfold beginD at this
      rw [hi] at this
      exact this
    · have := k H1 s1
      unfold beginD at this
      rw [hn] at this
      exact this
theorem ok_told {f : Addr} {fd : FuncData} (F : Fun K "_law_told" "_law_told" sTold f fd) (T : ToldTxt K mg C cP fit a_need_marks)
    (G_need : FnOk P w K mg base (L2.CX P w) 5 a_need_marks fdN ["value"] (spNeed K C)) (kb : ∀ (s : Shared) (u : Value), BindsTo s fdN ⟨[], [("value", u)]⟩ [("value", u)]) : FnOk P w K mg base CX0 6 f fd ["value"] (spTold K) := by
  refine F.ok scTold (fun vs H Q E h => ?_) (fun cdv A outer s H vs Q E hr h => ?_)
  · obtain ⟨v, d, N, rfl, _⟩ := h
    rfl
  · obtain ⟨v, d, N, rfl, hv, hm, k⟩ := h
    have xf : XfC K C := ⟨T.it.ga, T.it.gg, T.it.ex, T.it.hd⟩
    refine ⟨_, pss_one (ps_try_as (i := 1) (Wout := fun _ _ _ _ => False) (tb := fun W => tRet (tCallS (spNeed K C) (WE W) (tCons (tVar 0) tNil))) rfl rfl scTold.nd rfl rfl ⟨rfl, by decide, .inl T.m⟩ takes0
        (fun W pn xe tk _ => pss_one (ps_ret (pe_kw0 G_need hr (by rfl) T.g_need_marks T.k_need_marks kb (fun σ => passAt tk σ) (by exact (pk_cons (pv 0) pk_nil)))))
        (fun a oe cls d pn hz hf => pss_one (ps_ret (pe_ifExp (PW.pt (pw_and (pt_val (pe_callB (call_isED hz hf) (by rfl) T.n_isinstance (by decide +kernel) (pa_cons (pv 1) (pa_cons (pe_glob (v := V.ref fit) rfl T.mF rfl) pa_nil))))
          (pw_and1 (pt_not (pt_val (pe_callB (call_isED hz hf) (by rfl) T.n_isinstance (by decide +kernel) (pa_cons (pv 1) (pa_cons (pe_glob (v := V.ref cP) rfl T.mP rfl) pa_nil)))))))) (pe_xf xf T.no hz hf (pv 1)) pe_str)))), ?_⟩
    refine ⟨_, rfl, v, d, N, rfl, hv, hm, fun i hi dd H1 h1 s1 => ⟨true, T.one, fun _ a ha => ?_, fun q => nomatch q⟩, fun hn H1 s1 => ?_⟩
    · have := k H1 s1
      rw [hi] at this
      exact ⟨_, rfl, C, .ref fit, .ref fit, true, dd, _, rfl, rfl, .own _, T.it, T.isF, rfl, h1, _, rfl, iteT ⟨_, rfl, C, .ref cP, .ref cP, false, dd, _, rfl, rfl, .own _, T.it, T.isP, rfl, h1, _, rfl, iteT ⟨_, rfl, rfl, rfl, dd, _, _, rfl, h1, rfl, this⟩⟩⟩
    · have := k H1 s1
      rw [hn] at this
      exact this
end
end Km

/-! node_of -/
namespace Km
open PySem L2 Xr
abbrev sNodeOf : Stmt := top 19
theorem scNodeOf : FnScope ["marks", "names", "rows", "mark", "things"] ["marks"] (defScope sNodeOf) := ⟨rfl, rfl, rfl, by decide +kernel, rfl, by decide +kernel, by decide +kernel⟩
abbrev F0 : Addr → Prop := fun _ => False
/-- tuples stay -/
def Tm (H H' : Hp) : Prop := ∀ a xs, H a = some (.tup xs) → H' a = some (.tup xs)
theorem Tm.refl {H : Hp} : Tm H H := fun _ _ h => h
theorem Tm.trans {H H1 H2 : Hp} (a : Tm H H1) (b : Tm H1 H2) : Tm H H2 := fun q xs h => b q xs (a q xs h)
theorem Tm.same {H H' : Hp} (s : Same H H') : Tm H H' := fun q xs h => s q _ h
theorem Tm.new {H H1 : Hp} {l : Addr} {o : HO} (t : Tm H H1) (h : H1 l = none) : Tm H (upd H1 l o) := fun q xs e => by
  have z := t q xs e
  rw [upd_ne (ne_of_none z h)]
  exact z
theorem Tm.cell {H H1 : Hp} {l : Addr} {o : HO} {ys : List V} (t : Tm H H1) (h : H1 l = some (.lst ys)) : Tm H (upd H1 l o) := fun q xs e => by
  have z := t q xs e
  have ne : q ≠ l := fun n => by
    rw [n, h] at z
    cases z
  rw [upd_ne ne]
  exact z
mutual
theorem doc_mono {K : PySem.W.Frag} {N : Addr → Prop} {H H' : Hp} (m : Tm H H') : ∀ (t : Doc) (v : V), Dm K N H v t.dat → Dm K F0 H' v t.dat
  | .txt z, v, h => by
    have h' : Dm K N H v (.str z) := h
    cases h'
    exact .str z
  | .nod x ts, v, h => by
    have h' : Dm K N H v (.tuple [.str x, .tuple (datAll ts)]) := h
    show Dm K F0 H' v (.tuple [.str x, .tuple (datAll ts)])
    cases h' with
    | tup e n a =>
      cases a with
      | cons a1 r =>
        cases r with
        | cons a2 r =>
          cases r
          cases a1
          refine .tup (m _ _ e) (fun z => z) (.cons (.str x) (.cons ?_ .nil))
          cases a2 with
          | tup e' n' a' => exact .tup (m _ _ e') (fun z => z) (docs_mono m ts _ a')
          | con e' a' => exact .con e' (docs_mono m ts _ a')
    | con e a =>
      cases a with
      | cons a1 r =>
        cases r with
        | cons a2 r =>
          cases r
          cases a1
          refine .con e (.cons (.str x) (.cons ?_ .nil))
          cases a2 with
          | tup e' n' a' => exact .tup (m _ _ e') (fun z => z) (docs_mono m ts _ a')
          | con e' a' => exact .con e' (docs_mono m ts _ a')
theorem docs_mono {K : PySem.W.Frag} {N : Addr → Prop} {H H' : Hp} (m : Tm H H') : ∀ (ts : List Doc) (vs : List V), DmAll K N H vs (datAll ts) → DmAll K F0 H' vs (datAll ts)
  | [], vs, h => by
    have h' : DmAll K N H vs [] := h
    cases h'
    exact .nil
  | t :: ts, vs, h => by
    have h' : DmAll K N H vs (t.dat :: datAll ts) := h
    show DmAll K F0 H' vs (t.dat :: datAll ts)
    cases h' with
    | cons a b => exact .cons (doc_mono m t _ a) (docs_mono m ts _ b)
end
/-- what becomes of the things of the innermost open node, once all is closed -/
def asm : List Doc → List (Str × List Doc × List Doc) → List Doc
  | cur, [] => cur
  | cur, (x, d, td) :: fs => asm (d ++ Doc.nod x cur :: td) fs
/-- the marks that are still to come -/
def rest : List Doc → List (Str × List Doc × List Doc) → List PyData
  | td, [] => marksAll td
  | td, (_, _, td') :: fs => marksAll td ++ mClose :: rest td' fs
theorem rest_cons (t : Doc) (td : List Doc) (fs : List (Str × List Doc × List Doc)) : rest (t :: td) fs = t.marks ++ rest td fs := by
  cases fs with
  | nil => rfl
  | cons f fs =>
    obtain ⟨x, d, td'⟩ := f
    show (t.marks ++ marksAll td) ++ mClose :: rest td' fs = t.marks ++ (marksAll td ++ mClose :: rest td' fs)
    rw [List.append_assoc]
theorem rest_len : ∀ (fs : List (Str × List Doc × List Doc)) (td : List Doc), fs.length ≤ (rest td fs).length
  | [], _ => Nat.zero_le _
  | (x, d, td') :: fs, td => by
    show fs.length + 1 ≤ (marksAll td ++ mClose :: rest td' fs).length
    have := rest_len fs td'
    rw [List.length_append, List.length_cons]
    omega
/-- the open rows stand -/
def Rows (K : PySem.W.Frag) (H : Hp) (n : Nat) : List Addr → List (List Doc) → Prop
  | [], [] => True
  | r :: rs, d :: ds => (∃ xs, H r = some (.lst xs) ∧ DmAll K F0 H xs (datAll d) ∧ xs.length ≤ n) ∧ Rows K H n rs ds
  | _, _ => False
theorem Rows.mono {K : PySem.W.Frag} {H H' : Hp} {n n' : Nat} (hn : n ≤ n') (m : Tm H H') : ∀ (rs : List Addr) (ds : List (List Doc)), (∀ q ∈ rs, H' q = H q) → Rows K H n rs ds → Rows K H' n' rs ds
  | [], [], _, _ => trivial
  | r :: rs, d :: ds, hq, h => by
    obtain ⟨⟨xs, h1, h2, h3⟩, h4⟩ := h
    exact ⟨⟨xs, by rw [hq r (by simp)]; exact h1, docs_mono m d _ h2, by omega⟩, Rows.mono hn m rs ds (fun q hm => hq q (List.mem_cons_of_mem _ hm)) h4⟩
  | [], _ :: _, _, h => h.elim
  | _ :: _, [], _, h => h.elim
theorem Rows.len {K : PySem.W.Frag} {H : Hp} {n : Nat} : ∀ (rs : List Addr) (ds : List (List Doc)), Rows K H n rs ds → rs.length = ds.length
  | [], [], _ => rfl
  | _ :: rs, _ :: ds, h => by rw [List.length_cons, List.length_cons, Rows.len rs ds h.2]
  | [], _ :: _, h => h.elim
  | _ :: _, [], h => h.elim
theorem Rows.trk {K : PySem.W.Frag} {H : Hp} {n : Nat} : ∀ (rs : List Addr) (ds : List (List Doc)), Rows K H n rs ds → ∀ q ∈ rs, ∃ o, H q = some o
  | r :: rs, d :: ds, h, q, hq => by
    rcases List.mem_cons.mp hq with e | e
    · obtain ⟨⟨xs, h1, _⟩, _⟩ := h
      rw [e]
      exact ⟨_, h1⟩
    · exact Rows.trk rs ds h.2 q e
  | _ :: _, [], h, _, _ => h.elim
theorem at_last {l : List V} {x : V} : atI (l ++ [x]) (-1) = some x := by
  unfold atI ixN
  have h1 : ¬ (0 : Int) ≤ -1 := by omega
  have h2 : -(((l ++ [x]).length : Nat) : Int) ≤ -1 := by
    rw [List.length_append]
    simp
    omega
  rw [if_neg h1, if_pos h2]
  have e2 : (-1 + (((l ++ [x]).length : Nat) : Int)).toNat = l.length := by
    rw [List.length_append]
    simp
    omega
  rw [e2]
  simp
def spNodeOf (K : PySem.W.Frag) : Sp := fun vs H Q _ => ∃ (v : V) (t : Doc) (N : Addr → Prop), vs = [v] ∧ Dm K N H v (.tuple t.marks) ∧ t.marks.length ≤ 900 ∧
  ∀ (u : V) (H' : Hp), Dm K F0 H' u t.dat → Same H H' → Q u H'
structure NodeOfTxt (K : PySem.W.Frag) (mg : Str → Option Value) : Prop where
  n_tuple : mg "tuple" = none
section
variable {P : Program} {w : World} {K : PySem.W.Frag} {mg : Str → Option Value} {base : Heap}
theorem ok_nodeOf {f : Addr} {fd : FuncData} (F : Fun K "node_of" "node_of" sNodeOf f fd) (T : NodeOfTxt K mg) : FnOk P w K mg base CX0 1 f fd ["marks"] (spNodeOf K) := by
  refine F.ok scNodeOf (fun vs H Q E h => ?_) (fun cdv A outer s H vs Q E hr h => ?_)
  · obtain ⟨v, t, N, rfl, _⟩ := h
    rfl
  · obtain ⟨v, t, N, rfl, hv, hlen, k⟩ := h
    refine ⟨_, (pss_cons (ps_set (i := 1) scNodeOf.nd rfl (Or.inl rfl) (pe_lst pa_nil))
      (pss_cons (ps_set (i := 2) scNodeOf.nd rfl (Or.inl rfl) (pe_lst (pa_cons (pe_lst pa_nil) pa_nil)))
      (pss_cons (ps_for PassesOwn.never rfl (pi_tup (pv 0)) (pg_name (i := 3) scNodeOf.nd rfl (Or.inl rfl))
      (pss_one (ps_if (pt_cmpR op_eq (pe_ix ix_tup (pv 3) pe_int (fun _ _ => rfl)) pe_str (nomark _))
      (pss_cons (ps_expr (pe_bm PySem.F.plainAttrs_list PySem.F.slot_list_append PySem.F.type_list_append mt_append (pv 1) (pa_cons (pe_ix ix_tup (pv 3) pe_int (fun _ _ => rfl)) pa_nil)))
      (pss_one (ps_expr (pe_bm PySem.F.plainAttrs_list PySem.F.slot_list_append PySem.F.type_list_append mt_append (pv 2) (pa_cons (pe_lst pa_nil) pa_nil)))))
      (pss_one (ps_if (pt_cmpR op_eq (pe_ix ix_tup (pv 3) pe_int (fun _ _ => rfl)) pe_str (nomark _))
      (pss_one (ps_expr (pe_bm PySem.F.plainAttrs_list PySem.F.slot_list_append PySem.F.type_list_append mt_append (pe_ix ix_list (pv 2) (pe_un un_neg pe_int) (fun _ _ => rfl)) (pa_cons (pe_ix ix_tup (pv 3) pe_int (fun _ _ => rfl)) pa_nil))))
      (pss_cons (ps_set (i := 4) scNodeOf.nd rfl (Or.inl rfl) (pe_bm0 PySem.F.plainAttrs_list PySem.F.slot_list_pop PySem.F.type_list_pop mt_pop (pv 2)))
      (pss_one (ps_expr (pe_bm PySem.F.plainAttrs_list PySem.F.slot_list_append PySem.F.type_list_append mt_append (pe_ix ix_list (pv 2) (pe_un un_neg pe_int) (fun _ _ => rfl)) (pa_cons (pe_tup (pa_cons (pe_bm0 PySem.F.plainAttrs_list PySem.F.slot_list_pop PySem.F.type_list_pop mt_pop (pv 1)) (pa_cons (pe_callTy call_tuple_of (by rfl) T.n_tuple (by decide +kernel) (pa_cons (pv 4) pa_nil)) pa_nil))) pa_nil))))))))))
      (pss_one (ps_ret (pe_ix ix_list (pe_ix ix_list (pv 2) pe_int (fun _ _ => rfl)) pe_int (fun _ _ => rfl))))))), ?_⟩
    obtain ⟨a, xs, rfl, ta, al⟩ := hv.seq
    have lx := al.len
    refine ⟨Nat.zero_le _, fun Nm hNm => ⟨Nat.zero_le _, fun r hr0 => ⟨(by show 1 ≤ sizeLine; decide), fun R hR => ?_⟩⟩⟩
    have n1 : Nm ≠ r := ne_of_none upd_same hr0
    have n2 : Nm ≠ R := ne_of_none (by rw [upd_ne n1, upd_same]) hR
    have n3 : r ≠ R := ne_of_none upd_same hR
    have z1 : H r = none := by
      have z := hr0
      rw [upd_ne (Ne.symm n1)] at z
      exact z
    have z2 : H R = none := by
      have z := hR
      rw [upd_ne (Ne.symm n3), upd_ne (Ne.symm n2)] at z
      exact z
    have s0 : Same H (upd (upd (upd H Nm (.lst [])) r (.lst [])) R (.lst [.ref r])) := (((Same.refl H).new hNm).new hr0).new hR
    refine ⟨_, rfl, a, rfl, ⟨_, (ta.up (Bt.same s0)).sq⟩, ?_⟩
    refine for_tup (K := K) (a := a) (xs := xs) (fun i σ H1 => ∃ (r : Addr) (rs : List Addr) (d td : List Doc) (fs : List (Str × List Doc × List Doc)) (x3 x4 : Option V), σ = [some (.ref a), some (.ref Nm), some (.ref R), x3, x4] ∧ Same H H1 ∧
        H1 R = some (.lst ((r :: rs).map V.ref).reverse) ∧ H1 Nm = some (.lst (fs.map fun f => V.str f.1).reverse) ∧ Rows K H1 i (r :: rs) (d :: fs.map fun f => f.2.1) ∧ (r :: rs).Nodup ∧ (∀ q ∈ r :: rs, H q = none ∧ q ≠ R ∧ q ≠ Nm) ∧ asm (d ++ td) fs = [t] ∧ rest td fs = t.marks.drop i)
      ⟨r, [], [], [t], [], none, none, rfl, s0, upd_same, by rw [upd_ne n2, upd_ne n1, upd_same]; rfl, ⟨⟨[], by rw [upd_ne n3, upd_same], .nil, Nat.le_refl _⟩, trivial⟩, by simp, (fun q hq => by
        have e : q = r := by simpa using hq
        rw [e]
        exact ⟨z1, n3, Ne.symm n1⟩), rfl, by show t.marks ++ [] = t.marks; rw [List.append_nil]⟩
      (fun i σ H1 _ ⟨_, _, _, _, _, _, _, _, s1, _⟩ => (ta.up (Bt.same s1)).sq) ?_ ?_
    · rintro i y σ H1 hy ⟨r, rs, d, td, fs, x3, x4, rfl, s1, hR1, hN1, ro, nd, hq, ea, er⟩
      obtain ⟨m, hm, dv⟩ := al.getV hy
      have dv1 := dv.up (Bt.same s1)
      rw [drop_at hm] at er
      have il : i < t.marks.length := (List.getElem?_eq_some_iff.mp hm).1
      have lr := Rows.len _ _ ro
      have lf := rest_len fs td
      rw [er, List.length_cons, List.length_drop] at lf
      rw [List.length_cons, List.length_cons, List.length_map] at lr
      obtain ⟨⟨zs, hr1, dz, lz⟩, ro2⟩ := ro
      have rN : r ≠ Nm := (hq r (by simp)).2.2
      have rR : r ≠ R := (hq r (by simp)).2.1
      have ndr : r ∉ rs := (List.nodup_cons.mp nd).1
      have nds : rs.Nodup := (List.nodup_cons.mp nd).2
      have hqs : ∀ q ∈ rs, H q = none ∧ q ≠ R ∧ q ≠ Nm := fun q h => hq q (List.mem_cons_of_mem _ h)
      cases td with
      | cons t0 td =>
        rw [rest_cons] at er
        cases t0 with
        | txt z =>
          have em : mText z = m := by
            have e9 : mText z :: rest td fs = m :: t.marks.drop (i + 1) := er
            injection e9
          have er2 : rest td fs = t.marks.drop (i + 1) := by
            have e9 : mText z :: rest td fs = m :: t.marks.drop (i + 1) := er
            injection e9
          subst em
          obtain ⟨b, y1, rfl, tb, hy1⟩ := Dm.pair dv1
          have ey := hy1.strV
          subst ey
          refine ⟨_, rfl, _, _, _, _, rfl, rfl, tb.sq, atI_nat (j := 0) rfl, rfl, _, rfl, iteF ⟨_, rfl, _, _, _, _, rfl, rfl, tb.sq, atI_nat (j := 0) rfl, rfl, _, rfl, iteT ?_⟩⟩
          have el : ((r :: rs).map V.ref).reverse = (rs.map V.ref).reverse ++ [.ref r] := by simp
          rw [el] at hR1
          refine ⟨_, rfl, 1, rfl, _, _, _, _, rfl, rfl, SqL.of hR1, at_last, .inl ⟨rfl, _, SqL.of hr1⟩, _, rfl, _, _, _, _, rfl, rfl, tb.sq, atI_nat (j := 1) rfl, _, _, _, rfl, rfl, hr1, small1000 (by omega), ?_⟩
          refine ⟨r, rs, d ++ [.txt z], td, fs, _, _, rfl, s1.cell (hq r (by simp)).1, ?_, ?_, ⟨⟨zs ++ [.str z], upd_same, ?_, by rw [List.length_append, List.length_singleton]; omega⟩, ?_⟩, nd, hq, ?_, er2⟩
          · rw [upd_ne (Ne.symm rR), el]
            exact hR1
          · rw [upd_ne (Ne.symm rN)]
            exact hN1
          · rw [datAll_snoc]
            exact (docs_mono (Tm.refl.cell hr1) _ _ dz).snoc (.str z)
          · exact Rows.mono (Nat.le_succ i) (Tm.refl.cell hr1) _ _ (fun q h => upd_ne (fun e => ndr (e ▸ h))) ro2
          · rw [List.append_assoc]
            exact ea
        | nod x ts =>
          have e9 : mOpen x :: ((marksAll ts ++ [mClose]) ++ rest td fs) = m :: t.marks.drop (i + 1) := er
          have em : mOpen x = m := by injection e9
          have er2 : (marksAll ts ++ [mClose]) ++ rest td fs = t.marks.drop (i + 1) := by injection e9
          subst em
          obtain ⟨b, y1, rfl, tb, hy1⟩ := Dm.pair dv1
          have ey := hy1.strV
          subst ey
          refine ⟨_, rfl, _, _, _, _, rfl, rfl, tb.sq, atI_nat (j := 0) rfl, rfl, _, rfl, iteT ?_⟩
          refine ⟨_, rfl, .inl ⟨rfl, _, SqL.of hN1⟩, _, rfl, _, _, _, _, rfl, rfl, tb.sq, atI_nat (j := 1) rfl, _, _, _, rfl, rfl, hN1, small1000 (by rw [List.length_reverse, List.length_map]; omega), ?_⟩
          have hR2 : (upd H1 Nm (.lst ((fs.map fun f => V.str f.1).reverse ++ [.str x]))) R = some (.lst ((r :: rs).map V.ref).reverse) := by
            rw [upd_ne (Ne.symm n2)]
            exact hR1
          have t2 : Tm H1 (upd H1 Nm (.lst ((fs.map fun f => V.str f.1).reverse ++ [.str x]))) := Tm.refl.cell hN1
          have s2 : Same H (upd H1 Nm (.lst ((fs.map fun f => V.str f.1).reverse ++ [.str x]))) := s1.cell hNm
          have hN2 : (upd H1 Nm (.lst ((fs.map fun f => V.str f.1).reverse ++ [.str x]))) Nm = some (.lst ((fs.map fun f => V.str f.1).reverse ++ [.str x])) := upd_same
          have ke : ∀ q ∈ r :: rs, (upd H1 Nm (.lst ((fs.map fun f => V.str f.1).reverse ++ [.str x]))) q = H1 q := fun q h => upd_ne (hq q h).2.2
          generalize upd H1 Nm (.lst ((fs.map fun f => V.str f.1).reverse ++ [.str x])) = H2 at hR2 t2 s2 hN2 ke ⊢
          refine ⟨_, rfl, .inl ⟨rfl, _, SqL.of hR2⟩, Nat.zero_le _, fun L hL => ?_⟩
          have LR : R ≠ L := ne_of_none hR2 hL
          have LN : Nm ≠ L := ne_of_none hN2 hL
          have Lq : ∀ q ∈ r :: rs, q ≠ L := fun q h e => by
            obtain ⟨o, z⟩ := Rows.trk (K := K) (H := H1) (n := i) (r :: rs) (d :: fs.map fun f => f.2.1) ⟨⟨zs, hr1, dz, lz⟩, ro2⟩ q h
            have z2 := ke q h
            rw [z, e, hL] at z2
            cases z2
          have LH : H L = none := s2.free hL
          refine ⟨_, _, _, rfl, rfl, (by rw [upd_ne LR]; exact hR2), small1000 (by rw [List.length_reverse, List.length_map, List.length_cons]; omega), ?_⟩
          have t3 : Tm H1 (upd (upd H2 L (.lst [])) R (.lst (((r :: rs).map V.ref).reverse ++ [.ref L]))) := (t2.new hL).cell (l := R) (ys := ((r :: rs).map V.ref).reverse) (by rw [upd_ne LR]; exact hR2)
          refine ⟨L, r :: rs, [], ts, (x, d, td) :: fs, _, _, rfl, (s2.new hL).cell z2, ?_, ?_, ⟨⟨[], ?_, .nil, Nat.zero_le _⟩, ?_⟩, ?_, ?_, ea, ?_⟩
          · rw [upd_same]
            simp
          · rw [upd_ne n2, upd_ne LN, hN2]
            simp
          · rw [upd_ne (Ne.symm LR), upd_same]
          · exact Rows.mono (Nat.le_succ i) t3 (r :: rs) (d :: fs.map fun f => f.2.1) (fun q h => by rw [upd_ne (hq q h).2.1, upd_ne (Lq q h)]; exact ke q h) ⟨⟨zs, hr1, dz, lz⟩, ro2⟩
          · exact List.nodup_cons.mpr ⟨fun h => Lq L h rfl, nd⟩
          · intro q h
            rcases List.mem_cons.mp h with e | e
            · rw [e]
              exact ⟨LH, Ne.symm LR, Ne.symm LN⟩
            · exact hq q e
          · show marksAll ts ++ mClose :: rest td fs = _
            rw [← er2, List.append_assoc]
            rfl
      | nil =>
        cases fs with
        | nil =>
          have e9 : ([] : List PyData) = m :: t.marks.drop (i + 1) := er
          cases e9
        | cons f fs =>
          obtain ⟨x, d', td'⟩ := f
          have e9 : mClose :: rest td' fs = m :: t.marks.drop (i + 1) := er
          have em : mClose = m := by injection e9
          have er2 : rest td' fs = t.marks.drop (i + 1) := by injection e9
          subst em
          cases rs with
          | nil => exact ro2.elim
          | cons r' rs =>
            obtain ⟨⟨zs', hr1', dz', lz'⟩, ro3⟩ := ro2
            have dvc : Dm K N H1 y (.tuple [.str "close"]) := dv1
            obtain ⟨b, ys, rfl, tb, aly⟩ := dvc.seq
            cases aly with
            | cons h1 h2 =>
              cases h2
              cases h1
              refine ⟨_, rfl, _, _, _, _, rfl, rfl, tb.sq, atI_nat (j := 0) rfl, rfl, _, rfl, iteF ⟨_, rfl, _, _, _, _, rfl, rfl, tb.sq, atI_nat (j := 0) rfl, rfl, _, rfl, iteF ?_⟩⟩
              have el : ((r :: r' :: rs).map V.ref).reverse = ((r' :: rs).map V.ref).reverse ++ [.ref r] := by simp
              have el2 : ((r' :: rs).map V.ref).reverse = (rs.map V.ref).reverse ++ [.ref r'] := by simp
              rw [el] at hR1
              refine ⟨_, rfl, .inl ⟨rfl, _, SqL.of hR1⟩, _, _, .ref r, rfl, rfl, hR1, (by simp), ?_⟩
              rw [List.dropLast_concat, el2]
              have rr : r ≠ r' := fun e => ndr (by rw [e]; simp)
              have rR' : r' ≠ R := (hqs r' (by simp)).2.1
              have rN' : r' ≠ Nm := (hqs r' (by simp)).2.2
              have t2 : Tm H1 (upd H1 R (.lst ((rs.map V.ref).reverse ++ [.ref r']))) := Tm.refl.cell hR1
              have s2 : Same H (upd H1 R (.lst ((rs.map V.ref).reverse ++ [.ref r']))) := s1.cell z2
              have hR2 : (upd H1 R (.lst ((rs.map V.ref).reverse ++ [.ref r']))) R = some (.lst ((rs.map V.ref).reverse ++ [.ref r'])) := upd_same
              have hN2 : (upd H1 R (.lst ((rs.map V.ref).reverse ++ [.ref r']))) Nm = some (.lst ((fs.map fun f => V.str f.1).reverse ++ [.str x])) := by
                rw [upd_ne n2, hN1]
                simp
              have ke : ∀ q, q ≠ R → (upd H1 R (.lst ((rs.map V.ref).reverse ++ [.ref r']))) q = H1 q := fun q h => upd_ne h
              generalize upd H1 R (.lst ((rs.map V.ref).reverse ++ [.ref r'])) = H2 at t2 s2 hR2 hN2 ke ⊢
              refine ⟨_, rfl, 1, rfl, _, _, _, _, rfl, rfl, SqL.of hR2, at_last, .inl ⟨rfl, _, SqL.of (by rw [ke r' rR']; exact hr1')⟩, ?_⟩
              refine ⟨_, rfl, .inl ⟨rfl, _, SqL.of hN2⟩, _, _, .str x, rfl, rfl, hN2, (by simp), ?_⟩
              rw [List.dropLast_concat]
              have t3 : Tm H1 (upd H2 Nm (.lst (fs.map fun f => V.str f.1).reverse)) := t2.cell hN2
              have s3 : Same H (upd H2 Nm (.lst (fs.map fun f => V.str f.1).reverse)) := s2.cell hNm
              have hR3 : (upd H2 Nm (.lst (fs.map fun f => V.str f.1).reverse)) R = some (.lst ((rs.map V.ref).reverse ++ [.ref r'])) := by rw [upd_ne (Ne.symm n2)]; exact hR2
              have hN3 : (upd H2 Nm (.lst (fs.map fun f => V.str f.1).reverse)) Nm = some (.lst (fs.map fun f => V.str f.1).reverse) := upd_same
              have ke3 : ∀ q, q ≠ R → q ≠ Nm → (upd H2 Nm (.lst (fs.map fun f => V.str f.1).reverse)) q = H1 q := fun q h h2 => by rw [upd_ne h2]; exact ke q h
              generalize upd H2 Nm (.lst (fs.map fun f => V.str f.1).reverse) = H3 at t3 s3 hR3 hN3 ke3 ⊢
              have hr3 : H3 r = some (.lst zs) := by rw [ke3 r rR rN]; exact hr1
              have hr3' : H3 r' = some (.lst zs') := by rw [ke3 r' rR' rN']; exact hr1'
              refine ⟨_, rfl, r, zs, rfl, .inl ⟨SqL.of hr3, fun p hp => ⟨(by show 2 ≤ sizeLine; decide), fun p2 hp2 => ?_⟩⟩⟩
              have pp : p ≠ p2 := ne_of_none upd_same hp2
              have new1 : ∀ q o, H3 q = some o → (upd (upd H3 p (.tup zs)) p2 (.tup [.str x, .ref p])) q = some o := fun q o e => by
                have z1 := ne_of_none e hp
                rw [upd_ne (ne_of_none (by rw [upd_ne z1]; exact e) hp2), upd_ne z1]
                exact e
              have t4 : Tm H1 (upd (upd H3 p (.tup zs)) p2 (.tup [.str x, .ref p])) := (t3.new hp).new hp2
              have t5 : Tm H1 (upd (upd (upd H3 p (.tup zs)) p2 (.tup [.str x, .ref p])) r' (.lst (zs' ++ [.ref p2]))) := t4.cell (new1 _ _ hr3')
              refine ⟨_, _, _, rfl, rfl, new1 _ _ hr3', small1000 (by omega), ?_⟩
              have p2r : p2 ≠ r' := fun e => by
                have z := new1 _ _ hr3'
                rw [← e, upd_same] at z
                cases z
              have pr : p ≠ r' := fun e => by
                rw [e, hr3'] at hp
                cases hp
              refine ⟨r', rs, d' ++ [.nod x d], td', fs, _, _, rfl, ((s3.new hp).new hp2).cell (hqs r' (by simp)).1, ?_, ?_, ⟨⟨zs' ++ [.ref p2], upd_same, ?_, by rw [List.length_append, List.length_singleton]; omega⟩, ?_⟩, nds, hqs, ?_, er2⟩
              · rw [upd_ne (Ne.symm rR'), el2]
                exact new1 _ _ hR3
              · rw [upd_ne (Ne.symm rN')]
                exact new1 _ _ hN3
              · rw [datAll_snoc]
                refine (docs_mono t5 _ _ dz').snoc (.tup (xs := [.str x, .ref p]) ?_ (fun z => z) (.cons (.str x) (.cons (.tup (xs := zs) ?_ (fun z => z) (docs_mono t5 _ _ dz)) .nil)))
                · rw [upd_ne p2r, upd_same]
                · rw [upd_ne pr, upd_ne pp, upd_same]
              · refine Rows.mono (Nat.le_succ i) t5 _ _ (fun q h => ?_) ro3
                have q1 := hqs q (List.mem_cons_of_mem _ h)
                have q2 : q ≠ r' := fun e => (List.nodup_cons.mp nds).1 (e ▸ h)
                obtain ⟨o, z⟩ := Rows.trk rs _ ro3 q h
                rw [upd_ne q2, z]
                exact new1 q o (by rw [ke3 q q1.2.1 q1.2.2]; exact z)
              · rw [List.append_assoc]
                have e8 : asm (d ++ []) ((x, d', td') :: fs) = [t] := ea
                rw [List.append_nil] at e8
                exact e8
    · rintro σ H1 ⟨r, rs, d, td, fs, x3, x4, rfl, s1, hR1, hN1, ro, nd, hq, ea, er⟩
      have z : t.marks.drop xs.length = [] := List.drop_of_length_le (by omega)
      rw [z] at er
      cases fs with
      | cons f fs =>
        obtain ⟨x, d', td'⟩ := f
        have e9 : marksAll td ++ mClose :: rest td' fs = [] := er
        simp at e9
      | nil =>
        cases td with
        | cons t0 td =>
          have e9 : t0.marks ++ marksAll td = [] := er
          have := marks_pos t0
          have e8 := congrArg List.length e9
          rw [List.length_append, List.length_nil] at e8
          omega
        | nil =>
          have ed : d = [t] := by
            have z : d ++ [] = [t] := ea
            rw [List.append_nil] at z
            exact z
          subst ed
          cases rs with
          | cons r' rs => exact ro.2.elim
          | nil =>
            obtain ⟨⟨zs, hr1, dz, lz⟩, _⟩ := ro
            have dz' : DmAll K F0 H1 zs [t.dat] := dz
            cases dz' with
            | cons h1 h2 =>
              cases h2
              exact ⟨_, rfl, _, _, _, _, rfl, rfl, SqL.of hR1, atI_nat (j := 0) rfl, _, _, _, _, rfl, rfl, SqL.of hr1, atI_nat (j := 0) rfl, k _ _ h1 s1⟩
end
end Km

/-! the place behind a beginning -/
namespace Km
open PySem L2 Xr
abbrev sPlace : Stmt := top 20
theorem scPlace : FnScope ["marks", "place", "mark"] ["marks"] (defScope sPlace) := ⟨rfl, rfl, rfl, by decide +kernel, rfl, by decide +kernel, by decide +kernel⟩
abbrev sLPlace : Stmt := top 33
theorem scLPlace : FnScope ["marks", "place", "whole", "mark"] ["marks"] (defScope sLPlace) := ⟨rfl, rfl, rfl, by decide +kernel, rfl, by decide +kernel, by decide +kernel⟩
def inc : List Nat → List Nat
  | [] => []
  | x :: p => (x + 1) :: p
/-- the place behind marks, the last number first -/
def plc : List PyData → List Nat → Option (List Nat)
  | [], p => some p
  | d :: ds, p => if kindD d = 1 then plc ds (0 :: p) else
    match (if kindD d = 3 then p.tail else p) with
    | [] => none
    | x :: q => plc ds ((x + 1) :: q)
def plV (p : List Nat) : List V := p.reverse.map fun (n : Nat) => V.int (n : Int)
def plD (p : List Nat) : List PyData := p.reverse.map fun (n : Nat) => PyData.int (n : Int)
def placeD : Option (List Nat) → PyData
  | none => .none
  | some p => .tuple (plD p)
theorem dm_ints {K : PySem.W.Frag} {N : Addr → Prop} {H : Hp} (p : List Nat) : DmAll K N H (plV p) (plD p) := by
  unfold plV plD
  induction p.reverse with
  | nil => exact .nil
  | cons x l ih => exact .cons (.int _) ih
theorem plV_cons (x : Nat) (p : List Nat) : plV (x :: p) = plV p ++ [.int (x : Int)] := by
  unfold plV
  simp
theorem plV_len (p : List Nat) : (plV p).length = p.length := by
  unfold plV
  simp
theorem ixN_last (n : Nat) : ixN (n + 1) (-1) = some n := by
  unfold ixN
  have h1 : ¬ (0 : Int) ≤ -1 := by omega
  have h2 : -(((n + 1 : Nat)) : Int) ≤ -1 := by omega
  rw [if_neg h1, if_pos h2]
  congr 1
  omega
theorem set_last (l : List V) (x y : V) : (l ++ [x]).set l.length y = l ++ [y] := by
  induction l with
  | nil => rfl
  | cons a l ih =>
    show a :: (l ++ [x]).set l.length y = a :: (l ++ [y])
    rw [ih]
theorem cut_last (l : List V) (x : V) : cutV (l ++ [x]) none (some (-1)) = l := by
  unfold cutV
  have e : HT.sIx (l ++ [x]).length (l ++ [x]).length (some (-1)) = l.length := by
    have z : HT.sIx (l ++ [x]).length (l ++ [x]).length (some (-1)) = if (-1 : Int) < 0 then (-1 + (((l ++ [x]).length : Nat) : Int)).toNat else min (-1 : Int).toNat (l ++ [x]).length := rfl
    rw [z, if_pos (by decide), List.length_append, List.length_singleton]
    omega
  have e0 : HT.sIx (l ++ [x]).length 0 none = 0 := rfl
  rw [e, e0, List.drop_zero, Nat.sub_zero, List.take_left]
theorem wr_dead {ds : List PyData} {i : Nat} (hi : 0 < i) (h : (wr ds i 0).1 = none) : ds = [] := by
  cases ds with
  | nil => rfl
  | cons d ds =>
    have e : wr (d :: ds) i 0 = if kindD d = 0 ∨ ((0 : Nat) = 0 ∧ (0 < i ∨ kindD d ≠ 1)) then (some i, 0) else wr ds (i + 1) (nxt (kindD d) 0) := rfl
    rw [e, if_pos (.inr ⟨rfl, .inl hi⟩)] at h
    cases h
def spPlace (K : PySem.W.Frag) : Sp := fun vs H Q _ => ∃ (v : V) (ds : List PyData) (N : Addr → Prop), vs = [v] ∧ Dm K N H v (.tuple ds) ∧ (∀ d ∈ ds, MkL d) ∧ ds.length ≤ 400 ∧ (wr ds 0 0).1 = none ∧
  ∀ (u : V) (H' : Hp), Dm K F0 H' u (placeD (plc ds [])) → Same H H' → Q u H'
structure PlaceTxt (K : PySem.W.Frag) (mg : Str → Option Value) : Prop where
  n_tuple : mg "tuple" = none
theorem dec_word (k : Nat) (c : Str) : decide (V.str (word0 k) = V.str c) = decide (word0 k = c) := by
  rw [Bool.eq_iff_iff]
  simp
section
variable {P : Program} {w : World} {K : PySem.W.Frag} {mg : Str → Option Value} {base : Heap}
theorem ok_place {f : Addr} {fd : FuncData} (F : Fun K "place_behind" "place_behind" sPlace f fd) (T : PlaceTxt K mg) : FnOk P w K mg base CX0 1 f fd ["marks"] (spPlace K) := by
  refine F.ok scPlace (fun vs H Q E h => ?_) (fun cdv A outer s H vs Q E hr h => ?_)
  · obtain ⟨v, d, N, rfl, _⟩ := h
    rfl
  · obtain ⟨v, ds, N, rfl, hv, hm, hl, hw, k⟩ := h
    refine ⟨_, (pss_cons (ps_set (i := 1) scPlace.nd rfl (Or.inl rfl) (pe_lst pa_nil))
      (pss_cons (ps_for PassesOwn.never rfl (pi_tup (pv 0)) (pg_name (i := 2) scPlace.nd rfl (Or.inl rfl))
      (pss_one (ps_if (pt_cmpR op_eq (pe_ix ix_tup (pv 2) pe_int (fun _ _ => rfl)) pe_str (nomark _))
      (pss_one (ps_expr (pe_bm PySem.F.plainAttrs_list PySem.F.slot_list_append PySem.F.type_list_append mt_append (pv 1) (pa_cons pe_int pa_nil))))
      (pss_cons (ps_if (pt_cmpR op_eq (pe_ix ix_tup (pv 2) pe_int (fun _ _ => rfl)) pe_str (nomark _))
      (pss_one (ps_expr (pe_bm0 PySem.F.plainAttrs_list PySem.F.slot_list_pop PySem.F.type_list_pop mt_pop (pv 1))))
      pss_nil)
      (pss_cons (ps_if (pt_not (pt_truth (pv 1) (by intro _; rfl)))
      (pss_one (ps_ret pe_non))
      pss_nil)
      (pss_one (ps_asg (pe_op op_add (pe_ix ix_list (pv 1) (pe_un un_neg pe_int) (fun _ _ => rfl)) pe_int) (pg_sub (pv 1) (pe_un un_neg pe_int) set_list))))))))
      (pss_one (ps_ret (pe_callTy call_tuple_of (by rfl) T.n_tuple (by decide +kernel) (pa_cons (pv 1) pa_nil)))))), ?_⟩
    obtain ⟨a, xs, rfl, ta, al⟩ := hv.seq
    have lx := al.len
    refine ⟨Nat.zero_le _, fun L hL => ?_⟩
    have s0 : Same H (upd H L (.lst [])) := (Same.refl H).new hL
    refine ⟨_, rfl, a, rfl, ⟨_, (ta.up (Bt.same s0)).sq⟩, ?_⟩
    refine for_tup (K := K) (a := a) (xs := xs) (fun i σ H1 => ∃ (p : List Nat) (x2 : Option V), σ = [some (.ref a), some (.ref L), x2] ∧ Same H H1 ∧ H1 L = some (.lst (plV p)) ∧ p.length ≤ i ∧ plc ds [] = plc (ds.drop i) p ∧ (wr (ds.drop i) i p.length).1 = none)
      ⟨[], none, rfl, s0, upd_same, Nat.le_refl _, rfl, hw⟩ (fun i σ H1 _ ⟨_, _, _, s1, _⟩ => (ta.up (Bt.same s1)).sq) ?_ ?_
    · rintro i y σ H1 hy ⟨p, x2, rfl, s1, hL1, lp, e, ew⟩
      obtain ⟨d, hd, dv⟩ := al.getV hy
      have mk : MkL d := hm d (List.mem_of_getElem? hd)
      have il : i < ds.length := (List.getElem?_eq_some_iff.mp hd).1
      rw [drop_at hd] at e ew
      have e1 : wr (d :: ds.drop (i + 1)) i p.length = if kindD d = 0 ∨ (p.length = 0 ∧ (0 < i ∨ kindD d ≠ 1)) then (some i, p.length) else wr (ds.drop (i + 1)) (i + 1) (nxt (kindD d) p.length) := rfl
      rw [e1] at ew
      by_cases hc : kindD d = 0 ∨ (p.length = 0 ∧ (0 < i ∨ kindD d ≠ 1))
      · rw [if_pos hc] at ew
        cases ew
      · rw [if_neg hc] at ew
        have k0 : kindD d ≠ 0 := fun z => hc (.inl z)
        have e2 : plc (d :: ds.drop (i + 1)) p = if kindD d = 1 then plc (ds.drop (i + 1)) (0 :: p) else
          match (if kindD d = 3 then p.tail else p) with
          | [] => none
          | x :: q => plc (ds.drop (i + 1)) ((x + 1) :: q) := rfl
        rw [e2] at e
        obtain ⟨b, ys, rfl, tb⟩ := head_of mk k0 (dv.up (Bt.same s1))
        refine ⟨_, rfl, _, _, _, _, rfl, rfl, tb.sq, atI_nat (j := 0) rfl, rfl, _, rfl, ?_⟩
        rw [dec_word]
        have k3 := kind_le d
        have hk : kindD d = 1 ∨ kindD d = 2 ∨ kindD d = 3 := by omega
        have lL : (plV p).length ≤ 1000 := by rw [plV_len]; omega
        -- what follows a mark that doesn't open
        have go : ∀ (x : Nat) (q : List Nat) (H2 : Hp), Same H H2 → H2 L = some (.lst (plV (x :: q))) → q.length < p.length + 1 → plc ds [] = plc (ds.drop (i + 1)) ((x + 1) :: q) → (wr (ds.drop (i + 1)) (i + 1) (q.length + 1)).1 = none →
            ∃ (p' : List Nat) (z2 : Option V), ([some (.ref a), some (.ref L), some (.ref b)] : List (Option V)) = [some (.ref a), some (.ref L), z2] ∧ Same H (upd H2 L (.lst ((plV q ++ [V.int (x : Int)]).set (plV q).length (V.int ((x : Int) + 1))))) ∧ (upd H2 L (.lst ((plV q ++ [V.int (x : Int)]).set (plV q).length (V.int ((x : Int) + 1))))) L = some (.lst (plV p')) ∧ p'.length ≤ i + 1 ∧ plc ds [] = plc (ds.drop (i + 1)) p' ∧ (wr (ds.drop (i + 1)) (i + 1) p'.length).1 = none :=
          fun x q H2 s2 h2 lq ee we => ⟨(x + 1) :: q, _, rfl, s2.cell hL, by rw [upd_same, set_last, plV_cons]; rfl, by rw [List.length_cons]; omega, ee, we⟩
        rcases hk with q | q | q
        · rw [q] at ew e ⊢
          rw [if_pos rfl] at e
          refine iteT ⟨_, rfl, .inl ⟨rfl, _, SqL.of hL1⟩, _, _, _, rfl, rfl, hL1, small1000 lL, 0 :: p, _, rfl, s1.cell hL, ?_, by rw [List.length_cons]; omega, e, ew⟩
          rw [upd_same, plV_cons]
          rfl
        · rw [q] at ew e ⊢
          rw [if_neg (by decide), if_neg (by decide)] at e
          cases p with
          | nil => exact absurd (.inr ⟨rfl, .inr (by omega)⟩) hc
          | cons x p =>
            refine iteF ⟨_, rfl, _, _, _, _, rfl, rfl, tb.sq, atI_nat (j := 0) rfl, rfl, _, rfl, ?_⟩
            rw [dec_word, q]
            have hL2 := hL1
            rw [plV_cons] at hL2
            refine iteF ⟨_, rfl, _, .inl ⟨_, SqL.of hL2, rfl⟩, ?_⟩
            have ne : (plV p ++ [V.int (x : Int)]).isEmpty = false := by simp
            rw [ne]
            refine iteF ⟨_, rfl, 1, rfl, _, _, _, _, rfl, rfl, SqL.of hL2, at_last, _, _, rfl, rfl, _, rfl, 1, rfl, _, _, _, (plV p).length, rfl, rfl, hL2, ?_, ?_⟩
            · rw [List.length_append]
              exact ixN_last _
            · exact go x p H1 s1 hL1 (by rw [List.length_cons]; omega) e ew
        · rw [q] at ew e ⊢
          rw [if_neg (by decide), if_pos rfl] at e
          cases p with
          | nil => exact absurd (.inr ⟨rfl, .inr (by omega)⟩) hc
          | cons x p =>
            refine iteF ⟨_, rfl, _, _, _, _, rfl, rfl, tb.sq, atI_nat (j := 0) rfl, rfl, _, rfl, ?_⟩
            rw [dec_word, q]
            rw [plV_cons] at hL1
            refine iteT ⟨_, rfl, .inl ⟨rfl, _, SqL.of hL1⟩, _, _, .int (x : Int), rfl, rfl, hL1, (by simp), ?_⟩
            rw [List.dropLast_concat]
            have s2 : Same H (upd H1 L (.lst (plV p))) := s1.cell hL
            have hL2 : (upd H1 L (.lst (plV p))) L = some (.lst (plV p)) := upd_same
            generalize upd H1 L (.lst (plV p)) = H2 at s2 hL2 ⊢
            refine ⟨_, rfl, _, .inl ⟨_, SqL.of hL2, rfl⟩, ?_⟩
            cases p with
            | nil =>
              have e3 : plc ds [] = none := e
              refine iteT (k _ _ ?_ s2)
              rw [e3]
              exact .non
            | cons x p =>
              have e3 : plc ds [] = plc (ds.drop (i + 1)) ((x + 1) :: p) := e
              have hL3 := hL2
              rw [plV_cons] at hL3
              have ne : (plV (x :: p)).isEmpty = false := by
                rw [plV_cons]
                simp
              rw [ne]
              refine iteF ⟨_, rfl, 1, rfl, _, _, _, _, rfl, rfl, SqL.of hL3, at_last, _, _, rfl, rfl, _, rfl, 1, rfl, _, _, _, (plV p).length, rfl, rfl, hL3, ?_, ?_⟩
              · rw [List.length_append]
                exact ixN_last _
              · exact go x p H2 s2 hL2 (by rw [List.length_cons, List.length_cons]; omega) e3 ew
    · rintro σ H1 ⟨p, x2, rfl, s1, hL1, lp, e, ew⟩
      have z : ds.drop xs.length = [] := List.drop_of_length_le (by omega)
      rw [z] at e
      have e2 : plc ds [] = some p := e
      refine ⟨_, rfl, L, _, rfl, .inl ⟨SqL.of hL1, fun q hq => ?_⟩⟩
      refine k _ _ ?_ (s1.new hq)
      rw [e2]
      exact .tup upd_same (fun z => z) (dm_ints p)
end
end Km

/-! the place, by the law -/
namespace Km
open PySem L2 Xr
theorem plD_eq (p : List Nat) : plD p = (p.reverse.map fun (n : Nat) => (n : Int)).map PyData.int := by
  unfold plD
  rw [List.map_map]
  rfl
theorem shaped_pl (p : List Nat) : SeqAt.shaped (.list (plD p)) = true := by
  rw [plD_eq]
  exact shaped_ints _
theorem eqv_pl (p : List Nat) : PyData.eqv (.list (plD p)) (.list []) = p.isEmpty := by
  cases p with
  | nil => rfl
  | cons x p =>
    have e : ∃ d l, plD (x :: p) = d :: l := by
      cases e : plD (x :: p) with
      | nil =>
        have := congrArg List.length e
        unfold plD at this
        simp at this
      | cons d l => exact ⟨d, l, rfl⟩
    obtain ⟨d, l, e⟩ := e
    rw [e]
    rfl
section
variable {P : Program} {w : World} {K : PySem.W.Frag} {mg : Str → Option Value} {base : Heap}
theorem ok_lplace {f : Addr} {fd : FuncData} (F : Fun K "_law_place" "_law_place" sLPlace f fd) (T : PlaceTxt K mg) : FnOk P w K mg base CX0 1 f fd ["marks"] (spPlace K) := by
  refine F.ok scLPlace (fun vs H Q E h => ?_) (fun cdv A outer s H vs Q E hr h => ?_)
  · obtain ⟨v, d, N, rfl, _⟩ := h
    rfl
  · obtain ⟨v, ds, N, rfl, hv, hm, hl, hw, k⟩ := h
    refine ⟨_, (pss_cons (ps_par (i := 1) (j := 2) (by rfl) scLPlace.nd rfl rfl (by decide) rfl rfl (pa_cons (pe_lst pa_nil) (pa_cons pe_bl pa_nil)) (by rfl))
      (pss_cons (ps_for PassesOwn.never rfl (pi_tup (pv 0)) (pg_name (i := 3) scLPlace.nd rfl (Or.inl rfl))
      (pss_one (ps_if (pt_cmpR op_eq (pe_ix ix_tup (pv 3) pe_int (fun _ _ => rfl)) pe_str (nomark _))
      (pss_one (ps_expr (pe_bm PySem.F.plainAttrs_list PySem.F.slot_list_append PySem.F.type_list_append mt_append (pv 1) (pa_cons pe_int pa_nil))))
      (pss_cons (ps_if (pt_cmpR op_eq (pe_ix ix_tup (pv 3) pe_int (fun _ _ => rfl)) pe_str (nomark _))
      (pss_one (ps_expr (pe_bm0 PySem.F.plainAttrs_list PySem.F.slot_list_pop PySem.F.type_list_pop mt_pop (pv 1))))
      pss_nil)
      (pss_cons (ps_set (i := 2) scLPlace.nd rfl (Or.inl rfl) (pe_cmpR (op_eqD hr.units) (pv 1) (pe_lst pa_nil) (nomark _)))
      (pss_one (ps_set (i := 1) scLPlace.nd rfl (Or.inl rfl) (pe_ifExp (pt_cmpR (op_neD hr.units) (pv 1) (pe_lst pa_nil) (nomark _)) (pe_op op_cat (pe_slice sl_list (pv 1) po_none (po_some (pe_un un_neg pe_int))) (pe_lst (pa_cons (pe_op op_add (pe_ix ix_list (pv 1) (pe_un un_neg pe_int) (fun _ _ => rfl)) pe_int) pa_nil))) (pe_lst pa_nil)))))))))
      (pss_one (ps_ret (pe_ifExp (pt_truth (pv 2) (by intro _; rfl)) pe_non (pe_callTy call_tuple_of (by rfl) T.n_tuple (by decide +kernel) (pa_cons (pv 1) pa_nil))))))), ?_⟩
    obtain ⟨a, xs, rfl, ta, al⟩ := hv.seq
    have lx := al.len
    refine ⟨Nat.zero_le _, fun L hL => ⟨_, _, rfl, ?_⟩⟩
    have s0 : Same H (upd H L (.lst [])) := (Same.refl H).new hL
    refine ⟨_, rfl, a, rfl, ⟨_, (ta.up (Bt.same s0)).sq⟩, ?_⟩
    refine for_tup (K := K) (a := a) (xs := xs) (fun i σ H1 => ∃ (L : Addr) (p : List Nat) (wh : Bool) (x3 : Option V), σ = [some (.ref a), some (.ref L), some (.bl wh), x3] ∧ Same H H1 ∧ H L = none ∧ H1 L = some (.lst (plV p)) ∧ p.length ≤ i ∧
        ((wh = false ∧ plc ds [] = plc (ds.drop i) p ∧ (wr (ds.drop i) i p.length).1 = none) ∨ (wh = true ∧ plc ds [] = none ∧ ds.drop i = [])))
      ⟨L, [], false, none, rfl, s0, hL, upd_same, Nat.le_refl _, .inl ⟨rfl, rfl, hw⟩⟩ (fun i σ H1 _ ⟨_, _, _, _, _, s1, _⟩ => (ta.up (Bt.same s1)).sq) ?_ ?_
    · rintro i y σ H1 hy ⟨L, p, wh, x3, rfl, s1, hL, hL1, lp, or1⟩
      obtain ⟨d, hd, dv⟩ := al.getV hy
      have mk : MkL d := hm d (List.mem_of_getElem? hd)
      have il : i < ds.length := (List.getElem?_eq_some_iff.mp hd).1
      rw [drop_at hd] at or1
      obtain ⟨rfl, e, ew⟩ : wh = false ∧ plc ds [] = plc (d :: ds.drop (i + 1)) p ∧ (wr (d :: ds.drop (i + 1)) i p.length).1 = none := by
        rcases or1 with h | ⟨_, _, h⟩
        · exact h
        · cases h
      have e1 : wr (d :: ds.drop (i + 1)) i p.length = if kindD d = 0 ∨ (p.length = 0 ∧ (0 < i ∨ kindD d ≠ 1)) then (some i, p.length) else wr (ds.drop (i + 1)) (i + 1) (nxt (kindD d) p.length) := rfl
      rw [e1] at ew
      by_cases hc : kindD d = 0 ∨ (p.length = 0 ∧ (0 < i ∨ kindD d ≠ 1))
      · rw [if_pos hc] at ew
        cases ew
      · rw [if_neg hc] at ew
        have k0 : kindD d ≠ 0 := fun z => hc (.inl z)
        have e2 : plc (d :: ds.drop (i + 1)) p = if kindD d = 1 then plc (ds.drop (i + 1)) (0 :: p) else
          match (if kindD d = 3 then p.tail else p) with
          | [] => none
          | x :: q => plc (ds.drop (i + 1)) ((x + 1) :: q) := rfl
        rw [e2] at e
        obtain ⟨b, ys, rfl, tb⟩ := head_of mk k0 (dv.up (Bt.same s1))
        refine ⟨_, rfl, _, _, _, _, rfl, rfl, tb.sq, atI_nat (j := 0) rfl, rfl, _, rfl, ?_⟩
        rw [dec_word]
        have k3 := kind_le d
        have hk : kindD d = 1 ∨ kindD d = 2 ∨ kindD d = 3 := by omega
        have lL : (plV p).length ≤ 1000 := by rw [plV_len]; omega
        rcases hk with q | q | q
        · rw [q] at ew e ⊢
          rw [if_pos rfl] at e
          refine iteT ⟨_, rfl, .inl ⟨rfl, _, SqL.of hL1⟩, _, _, _, rfl, rfl, hL1, small1000 lL, L, 0 :: p, false, _, rfl, s1.cell hL, hL, ?_, by rw [List.length_cons]; omega, .inl ⟨rfl, e, ew⟩⟩
          rw [upd_same, plV_cons]
          rfl
        · rw [q] at ew e ⊢
          rw [if_neg (by decide), if_neg (by decide)] at e
          cases p with
          | nil => exact absurd (.inr ⟨rfl, .inr (by omega)⟩) hc
          | cons x p =>
            refine iteF ⟨_, rfl, _, _, _, _, rfl, rfl, tb.sq, atI_nat (j := 0) rfl, rfl, _, rfl, ?_⟩
            rw [dec_word, q]
            refine iteF ⟨_, rfl, Nat.zero_le _, fun u hu => ?_⟩
            have Lu : L ≠ u := ne_of_none hL1 hu
            have s2 : Same H (upd H1 u (.lst [])) := s1.new hu
            have h2 : (upd H1 u (.lst [])) L = some (.lst (plV (x :: p))) := by rw [upd_ne Lu]; exact hL1
            refine ⟨_, _, .lst (SqL.of h2) (DmAll.dp _ _ (dm_ints (N := F0) (x :: p))), .lst (SqL.of upd_same) .nil, shaped_pl _, shaped_nil, ?_⟩
            rw [eqv_pl]
            generalize upd H1 u (.lst []) = H2 at s2 h2 ⊢
            refine ⟨_, rfl, Nat.zero_le _, fun u2 hu2 => ?_⟩
            have Lu2 : L ≠ u2 := ne_of_none h2 hu2
            have s3 : Same H (upd H2 u2 (.lst [])) := s2.new hu2
            have h3 : (upd H2 u2 (.lst [])) L = some (.lst (plV (x :: p))) := by rw [upd_ne Lu2]; exact h2
            refine ⟨_, _, .lst (SqL.of h3) (DmAll.dp _ _ (dm_ints (N := F0) (x :: p))), .lst (SqL.of upd_same) .nil, shaped_pl _, shaped_nil, _, rfl, ?_⟩
            rw [eqv_pl]
            generalize upd H2 u2 (.lst []) = H3 at s3 h3 ⊢
            rw [plV_cons] at h3
            refine iteT ⟨_, rfl, 1, rfl, -1, rfl, _, _, rfl, SqL.of h3, fun c hc2 => ?_⟩
            rw [cut_last]
            have Lc : L ≠ c := ne_of_none h3 hc2
            have h4 : (upd H3 c (.lst (plV p))) L = some (.lst (plV p ++ [.int (x : Int)])) := by rw [upd_ne Lc]; exact h3
            refine ⟨_, rfl, 1, rfl, _, _, _, _, rfl, rfl, SqL.of h4, at_last, _, _, rfl, rfl, (by show 1 ≤ sizeLine; decide), fun g hg => ?_⟩
            have cg : c ≠ g := ne_of_none upd_same hg
            refine ⟨_, _, _, _, rfl, rfl, (by rw [upd_ne cg, upd_same]), upd_same, (by rw [sizeLine_eq, plV_len]; simp at lp ⊢; omega), fun M hM => ?_⟩
            have s6 := ((s3.new (o := .lst (plV p)) hc2).new (o := .lst [.int ((x : Int) + 1)]) hg)
            refine ⟨M, (x + 1) :: p, false, _, rfl, s6.new hM, s6.free hM, ?_, by rw [List.length_cons] at lp ⊢; omega, .inl ⟨rfl, e, ew⟩⟩
            rw [upd_same, plV_cons]
            rfl
        · rw [q] at ew e ⊢
          rw [if_neg (by decide), if_pos rfl] at e
          cases p with
          | nil => exact absurd (.inr ⟨rfl, .inr (by omega)⟩) hc
          | cons x p =>
            refine iteF ⟨_, rfl, _, _, _, _, rfl, rfl, tb.sq, atI_nat (j := 0) rfl, rfl, _, rfl, ?_⟩
            rw [dec_word, q]
            rw [plV_cons] at hL1
            refine iteT ⟨_, rfl, .inl ⟨rfl, _, SqL.of hL1⟩, _, _, .int (x : Int), rfl, rfl, hL1, (by simp), ?_⟩
            rw [List.dropLast_concat]
            have s1' : Same H (upd H1 L (.lst (plV p))) := s1.cell hL
            have hL2 : (upd H1 L (.lst (plV p))) L = some (.lst (plV p)) := upd_same
            generalize upd H1 L (.lst (plV p)) = H1' at s1' hL2 ⊢
            refine ⟨_, rfl, Nat.zero_le _, fun u hu => ?_⟩
            have Lu : L ≠ u := ne_of_none hL2 hu
            have s2 : Same H (upd H1' u (.lst [])) := s1'.new hu
            have h2 : (upd H1' u (.lst [])) L = some (.lst (plV p)) := by rw [upd_ne Lu]; exact hL2
            refine ⟨_, _, .lst (SqL.of h2) (DmAll.dp _ _ (dm_ints (N := F0) p)), .lst (SqL.of upd_same) .nil, shaped_pl _, shaped_nil, ?_⟩
            rw [eqv_pl]
            generalize upd H1' u (.lst []) = H2 at s2 h2 ⊢
            refine ⟨_, rfl, Nat.zero_le _, fun u2 hu2 => ?_⟩
            have Lu2 : L ≠ u2 := ne_of_none h2 hu2
            have s3 : Same H (upd H2 u2 (.lst [])) := s2.new hu2
            have h3 : (upd H2 u2 (.lst [])) L = some (.lst (plV p)) := by rw [upd_ne Lu2]; exact h2
            refine ⟨_, _, .lst (SqL.of h3) (DmAll.dp _ _ (dm_ints (N := F0) p)), .lst (SqL.of upd_same) .nil, shaped_pl _, shaped_nil, _, rfl, ?_⟩
            rw [eqv_pl]
            generalize upd H2 u2 (.lst []) = H3 at s3 h3 ⊢
            rw [List.length_cons] at lp
            cases p with
            | nil =>
              have e3 : plc ds [] = none := e
              refine iteF ⟨Nat.zero_le _, fun M hM => ⟨M, [], true, _, rfl, s3.new hM, s3.free hM, upd_same, Nat.zero_le _, .inr ⟨rfl, e3, wr_dead (Nat.succ_pos i) ew⟩⟩⟩
            | cons x p =>
              have e3 : plc ds [] = plc (ds.drop (i + 1)) ((x + 1) :: p) := e
              rw [plV_cons] at h3
              refine iteT ⟨_, rfl, 1, rfl, -1, rfl, _, _, rfl, SqL.of h3, fun c hc2 => ?_⟩
              rw [cut_last]
              have Lc : L ≠ c := ne_of_none h3 hc2
              have h4 : (upd H3 c (.lst (plV p))) L = some (.lst (plV p ++ [.int (x : Int)])) := by rw [upd_ne Lc]; exact h3
              refine ⟨_, rfl, 1, rfl, _, _, _, _, rfl, rfl, SqL.of h4, at_last, _, _, rfl, rfl, (by show 1 ≤ sizeLine; decide), fun g hg => ?_⟩
              have cg : c ≠ g := ne_of_none upd_same hg
              refine ⟨_, _, _, _, rfl, rfl, (by rw [upd_ne cg, upd_same]), upd_same, (by rw [sizeLine_eq, plV_len]; simp at lp ⊢; omega), fun M hM => ?_⟩
              have s6 := ((s3.new (o := .lst (plV p)) hc2).new (o := .lst [.int ((x : Int) + 1)]) hg)
              refine ⟨M, (x + 1) :: p, false, _, rfl, s6.new hM, s6.free hM, ?_, by rw [List.length_cons] at lp ⊢; omega, .inl ⟨rfl, e3, ew⟩⟩
              rw [upd_same, plV_cons]
              rfl
    · rintro σ H1 ⟨L, p, wh, x3, rfl, s1, hL, hL1, lp, or1⟩
      have z : ds.drop xs.length = [] := List.drop_of_length_le (by omega)
      rcases or1 with ⟨rfl, e, ew⟩ | ⟨rfl, e, _⟩
      · rw [z] at e
        have e2 : plc ds [] = some p := e
        refine ⟨_, rfl, _, rfl, iteF ⟨_, rfl, L, _, rfl, .inl ⟨SqL.of hL1, fun q hq => ?_⟩⟩⟩
        refine k _ _ ?_ (s1.new hq)
        rw [e2]
        exact .tup upd_same (fun z => z) (dm_ints p)
      · refine ⟨_, rfl, _, rfl, iteT (k _ _ ?_ s1)⟩
        rw [e]
        exact .non
end
end Km

/-! slices and sums of tuples by their data; a text many times -/
namespace Km
open PySem L2 Xr
section
variable {X : Cx}
def cutP (ds : List PyData) (lo hi : Option Int) : List PyData := (ds.drop (HT.sIx ds.length 0 lo)).take (HT.sIx ds.length ds.length hi - HT.sIx ds.length 0 lo)
def rSlD (K : PySem.W.Frag) : V → Option Int → Option Int → Hp → VK → Prop := fun x lo hi H Q => ∃ (N : Addr → Prop) (ds : List PyData), Dm K N H x (.tuple ds) ∧ (∀ a, N a → Trk H a) ∧ ∀ u H', Dm K N H' u (.tuple (cutP ds lo hi)) → Same H H' → Q u H'
theorem sl_dm : SlR X (rSlD X.K) := by
  intro pins s σ H x v vl vu lo hi sl Q I rx hs pl pu h
  obtain ⟨N, ds, hx, hN, k⟩ := h
  obtain ⟨a, xs, rfl, ta, al⟩ := hx.seq
  have lx := al.len
  refine sl_tupA pins s σ H _ v vl vu lo hi sl Q I rx hs pl pu ⟨a, xs, rfl, ta.sq, fun hw => ?_, fun hw p hp => ?_⟩
  · rw [lx] at hw
    refine k _ _ ?_ (Same.refl H)
    have e : cutP ds lo hi = ds := by
      unfold cutP
      rw [hw.1, hw.2, List.drop_zero, Nat.sub_zero, List.take_length]
    rw [e]
    exact hx
  · refine k _ _ (.tup upd_same (not_new hN (Same.refl H) hp) ?_) ((Same.refl H).new hp)
    have e : cutV xs lo hi = (xs.drop (HT.sIx ds.length 0 lo)).take (HT.sIx ds.length ds.length hi - HT.sIx ds.length 0 lo) := by
      unfold cutV
      rw [lx]
    rw [e]
    exact ((al.drop _).take _).up (Bt.refl.new hp)
def rCatD (K : PySem.W.Frag) : R2 := fun x y H Q => ∃ (N : Addr → Prop) (ds es : List PyData), Dm K N H x (.tuple ds) ∧ Dm K N H y (.tuple es) ∧ (∀ a, N a → Trk H a) ∧ ds.length + es.length ≤ sizeLine ∧ ∀ u H', Dm K N H' u (.tuple (ds ++ es)) → Same H H' → Q u H'
theorem op_catD : OpR X (binaryOp .Add) (rCatD X.K) := by
  intro pins s σ H x y v u Q I rx ry h
  obtain ⟨N, ds, es, hx, hy, hN, hz, k⟩ := h
  obtain ⟨a, xs, rfl, ta, al⟩ := hx.seq
  obtain ⟨b, ys, rfl, tb, bl⟩ := hy.seq
  have lx := al.len
  have ly := bl.len
  refine op_catA pins s σ H _ _ v u Q I rx ry ⟨a, b, xs, ys, rfl, rfl, ta.sq, tb.sq, by omega, fun hx0 => ?_, fun _ hy0 => ?_, fun _ _ p hp => ?_⟩
  · subst hx0
    cases al
    exact k _ _ hy (Same.refl H)
  · subst hy0
    cases bl
    refine k _ _ ?_ (Same.refl H)
    rw [List.append_nil]
    exact hx
  · exact k _ _ (.tup upd_same (not_new hN (Same.refl H) hp) ((al.up (Bt.refl.new hp)).app (bl.up (Bt.refl.new hp)))) ((Same.refl H).new hp)
def rMulS : R2 := fun x y H Q => ∃ z n, x = .str z ∧ y = .int n ∧ MulOk z n ∧ Q (.str (Txt.mul z n)) H
theorem op_mulS : OpR X (binaryOp .Mult) rMulS := by
  intro pins s σ H x y v u Q I rx ry h
  obtain ⟨z, n, rfl, rfl, hok, q⟩ := h
  obtain ⟨t, rfl⟩ := rx
  obtain ⟨t', rfl⟩ := ry
  exact SB.mul hok fun t2 k => ⟨.str _, H, I.tok k, ⟨_, rfl⟩, q⟩
end
end Km

/-! marks with something turned -/
namespace Km
open PySem L2 Xr
abbrev sTurned : Stmt := top 32
theorem scTurned : FnScope ["deal", "marks", "kind", "at", "other", "new"] ["deal", "marks"] (defScope sTurned) := ⟨rfl, rfl, rfl, by decide +kernel, rfl, by decide +kernel, by decide +kernel⟩
abbrev nA (n : Int) : Str := Txt.mul (Str.ofString "a") n
theorem mulOk_17 : MulOk (Str.ofString "a") 17 := ⟨by decide, fun _ _ => by decide, fun _ _ => by decide⟩
theorem mulOk_16 : MulOk (Str.ofString "a") 16 := ⟨by decide, fun _ _ => by decide, fun _ _ => by decide⟩
theorem plain_a17 : Plain 17 (nA 17) := ⟨by decide +kernel, by decide +kernel⟩
theorem plain_a16 : Plain 17 (nA 16) := ⟨by decide +kernel, by decide +kernel⟩
def newD : List PyData := [.none, .tuple [.str (Str.ofString "close"), .str (Str.ofString "")], .tuple [.str (Str.ofString "open")], .tuple [.str (Str.ofString "open"), .str (Str.ofString "")], .tuple [.str (Str.ofString "open"), .str (Str.ofString "A")], .tuple [.str (Str.ofString "open"), .str (Str.ofString "abcdefghi")], .tuple [.str (Str.ofString "text"), .str (nA 17)], .tuple [.str (Str.ofString "text"), .str (Str.ofString "A")], .list [.str (Str.ofString "close")]] ++ [.tuple [.str (Str.ofString "text"), .none], .tuple [.str (Str.ofString "text"), .str (Str.ofString "")], .tuple [.str (Str.ofString "open"), .str (Str.ofString "abcdefgh")], .tuple [.str (Str.ofString "text"), .str (nA 16)], .str (Str.ofString "close"), .tuple [.str (Str.ofString "Close")], .tuple [.str (Str.ofString "close")]]
theorem new_mk : ∀ d ∈ newD, MkL d := by
  intro d hd
  unfold newD at hd
  simp only [List.mem_append, List.mem_cons, List.not_mem_nil, or_false] at hd
  have p1 : Plain 17 (Str.ofString "close") := plain_close
  have p2 : Plain 17 (Str.ofString "") := ⟨by decide, by decide +kernel⟩
  have p3 : Plain 17 (Str.ofString "open") := ⟨by decide, by decide +kernel⟩
  have p4 : Plain 17 (Str.ofString "A") := ⟨by decide, by decide +kernel⟩
  have p5 : Plain 17 (Str.ofString "abcdefghi") := ⟨by decide, by decide +kernel⟩
  have p6 : Plain 17 (Str.ofString "text") := ⟨by decide, by decide +kernel⟩
  have p7 : Plain 17 (Str.ofString "abcdefgh") := ⟨by decide, by decide +kernel⟩
  have p8 : Plain 17 (Str.ofString "Close") := ⟨by decide, by decide +kernel⟩
  rcases hd with (rfl | rfl | rfl | rfl | rfl | rfl | rfl | rfl | rfl) | (rfl | rfl | rfl | rfl | rfl | rfl | rfl)
  · exact .non
  · exact .two _ _ p1 p2
  · exact .one _ p3
  · exact .two _ _ p3 p2
  · exact .two _ _ p3 p4
  · exact .two _ _ p3 p5
  · exact .two _ _ p6 plain_a17
  · exact .two _ _ p6 p4
  · exact .lst
  · exact .twoN _ p6
  · exact .two _ _ p6 p2
  · exact .two _ _ p3 p7
  · exact .two _ _ p6 plain_a16
  · exact .str _ p1
  · exact .one _ p8
  · exact .one _ p1
theorem DmAll.mem {K : PySem.W.Frag} {N : Addr → Prop} {H : Hp} : ∀ {vs : List V} {ds : List PyData} {v : V}, DmAll K N H vs ds → v ∈ vs → ∃ d ∈ ds, Dm K N H v d
  | _, _, v, .nil, h => by simp at h
  | _, _, v, .cons a b, h => by
    rcases List.mem_cons.mp h with e | e
    · rw [e]
      exact ⟨_, by simp, a⟩
    · obtain ⟨d, hd, x⟩ := DmAll.mem b e
      exact ⟨d, by simp [hd], x⟩
/-- the deal's two cells -/
def DN (dl c : Addr) : Addr → Prop := fun a => a = dl ∨ a = c
theorem But.dn {d c : Addr} {H H' : Hp} (b : But d c H H') : Bt (DN d c) H H' := fun q o n e => b q o e (fun z => n (.inl z)) (fun z => n (.inr z))
theorem cutP_mem {ds : List PyData} {lo hi : Option Int} {d : PyData} (h : d ∈ cutP ds lo hi) : d ∈ ds := List.mem_of_mem_drop (List.mem_of_mem_take h)
theorem cutP_len (ds : List PyData) (lo hi : Option Int) : (cutP ds lo hi).length ≤ ds.length := by
  unfold cutP
  rw [List.length_take, List.length_drop]
  omega
def spTurned (K : PySem.W.Frag) : Sp := fun vs H Q _ => ∃ (dl c : Addr) (v : V) (ms : List PyData), vs = [.ref dl, v] ∧ DealAt H dl c ∧ Dm K (DN dl c) H v (.tuple ms) ∧ (∀ d ∈ ms, MkL d) ∧ 0 < ms.length ∧ ms.length ≤ 100 ∧
  (∀ d ∈ ms, kindD d ≠ 0) ∧ ∀ (u : V) (d : PyData) (H' : Hp), Val d → Dm K (DN dl c) H' u d → DealAt H' dl c → Bt (DN dl c) H H' → Q u H'
structure TurnedTxt (K : PySem.W.Frag) (mg : Str → Option Value) (a_law_any a_law_of : Addr) : Prop where
  n_len : mg "len" = none
  n_list : mg "list" = none
  g_law_of : mg "_law_of" = some (.ref a_law_of)
  k_law_of : PySem.W.keepIn K (.ref a_law_of) = true
  g_law_any : mg "_law_any" = some (.ref a_law_any)
  k_law_any : PySem.W.keepIn K (.ref a_law_any) = true
section
variable {P : Program} {w : World} {K : PySem.W.Frag} {mg : Str → Option Value} {base : Heap} {a_law_any a_law_of : Addr} {fdA fdO : FuncData}
theorem ok_turned {f : Addr} {fd : FuncData} (F : Fun K "_law_turned" "_law_turned" sTurned f fd) (T : TurnedTxt K mg a_law_any a_law_of)
    (G_law_any : FnOk P w K mg base CX0 1 a_law_any fdA ["deal", "bound"] spAny) (b_law_any : Binds K fdA ["deal", "bound"] [])
    (G_law_of : FnOk P w K mg base CX0 2 a_law_of fdO ["deal", "some"] spOf) (b_law_of : Binds K fdO ["deal", "some"] []) : FnOk P w K mg base CX0 3 f fd ["deal", "marks"] (spTurned K) := by
  refine F.ok scTurned (fun vs H Q E h => ?_) (fun cdv A outer s H vs Q E hr h => ?_)
  · obtain ⟨dl, c, v, ms, rfl, _⟩ := h
    rfl
  · obtain ⟨dl, c, v, ms, rfl, D, hv, hm, l0, l1, hk, k⟩ := h
    have hr1 : Room 1 _ := hr.mono (by decide)
    have hr2 : Room 2 _ := hr
    refine ⟨_, (pss_cons (ps_par (i := 2) (j := 3) (by rfl) scTurned.nd rfl rfl (by decide) rfl rfl (pa_cons (pe_call G_law_any hr1 rfl T.g_law_any T.k_law_any b_law_any .nil pass0 (pa_cons (pv 0) (pa_cons pe_int pa_nil))) (pa_cons (pe_call G_law_any hr1 rfl T.g_law_any T.k_law_any b_law_any .nil pass0 (pa_cons (pv 0) (pa_cons (pe_callB call_len_seq (by rfl) T.n_len PySem.boot_len (pa_cons (pv 1) pa_nil)) pa_nil))) pa_nil)) (by rfl))
      (pss_cons (ps_if (pt_cmpR op_eq (pv 2) pe_int (nomark _))
      (pss_one (ps_ret (pe_call G_law_of hr2 rfl T.g_law_of T.k_law_of b_law_of .nil pass0 (pa_cons (pv 0) (pa_cons (pe_lst (pa_cons pe_non (pa_cons (pe_callTy call_list_of (by rfl) T.n_list (by decide +kernel) (pa_cons (pv 1) pa_nil)) (pa_cons (pe_tup pa_nil) (pa_cons pe_str (pa_cons (pe_ix ix_tup (pv 1) pe_int (fun _ _ => rfl)) (pa_cons pe_int (pa_cons (pe_op op_catD (pv 1) (pv 1)) (pa_cons (pe_op op_catD (pv 1) (pe_tup (pa_cons (pe_tup (pa_cons pe_str (pa_cons pe_str pa_nil))) pa_nil))) pa_nil))))))))) pa_nil)))))
      pss_nil)
      (pss_cons (ps_if (pt_cmpR op_eq (pv 2) pe_int (nomark _))
      (pss_one (ps_ret (pe_slice sl_dm (pv 1) po_none (po_some (pv 3)))))
      pss_nil)
      (pss_cons (ps_if (pt_cmpR op_eq (pv 2) pe_int (nomark _))
      (pss_one (ps_ret (pe_op op_catD (pe_slice sl_dm (pv 1) po_none (po_some (pv 3))) (pe_slice sl_dm (pv 1) (po_some (pe_op op_add (pv 3) pe_int)) po_none))))
      pss_nil)
      (pss_cons (ps_if (pt_cmpR op_eq (pv 2) pe_int (nomark _))
      (pss_one (ps_ret (pe_op op_catD (pe_op op_catD (pe_slice sl_dm (pv 1) po_none (po_some (pv 3))) (pe_tup (pa_cons (pe_ix ix_tup (pv 1) (pv 3) (fun _ _ => rfl)) (pa_cons (pe_ix ix_tup (pv 1) (pv 3) (fun _ _ => rfl)) pa_nil)))) (pe_slice sl_dm (pv 1) (po_some (pe_op op_add (pv 3) pe_int)) po_none))))
      pss_nil)
      (pss_cons (ps_if (pt_cmpR op_eq (pv 2) pe_int (nomark _))
      (pss_cons (ps_set (i := 4) scTurned.nd rfl (Or.inl rfl) (pe_call G_law_any hr1 rfl T.g_law_any T.k_law_any b_law_any .nil pass0 (pa_cons (pv 0) (pa_cons (pe_callB call_len_seq (by rfl) T.n_len PySem.boot_len (pa_cons (pv 1) pa_nil)) pa_nil))))
      (pss_one (ps_ret (pe_op op_catD (pe_op op_catD (pe_slice sl_dm (pv 1) po_none (po_some (pv 3))) (pe_tup (pa_cons (pe_ix ix_tup (pv 1) (pv 4) (fun _ _ => rfl)) pa_nil))) (pe_slice sl_dm (pv 1) (po_some (pe_op op_add (pv 3) pe_int)) po_none)))))
      pss_nil)
      (pss_cons (ps_set (i := 5) scTurned.nd rfl (Or.inl rfl) (pe_lst (pa_cons pe_non (pa_cons (pe_tup (pa_cons pe_str (pa_cons pe_str pa_nil))) (pa_cons (pe_tup (pa_cons pe_str pa_nil)) (pa_cons (pe_tup (pa_cons pe_str (pa_cons pe_str pa_nil))) (pa_cons (pe_tup (pa_cons pe_str (pa_cons pe_str pa_nil))) (pa_cons (pe_tup (pa_cons pe_str (pa_cons pe_str pa_nil))) (pa_cons (pe_tup (pa_cons pe_str (pa_cons (pe_op op_mulS pe_str pe_int) pa_nil))) (pa_cons (pe_tup (pa_cons pe_str (pa_cons pe_str pa_nil))) (pa_cons (pe_lst (pa_cons pe_str pa_nil)) pa_nil)))))))))))
      (pss_cons (ps_set (i := 5) scTurned.nd rfl (Or.inl rfl) (pe_op op_cat (pv 5) (pe_lst (pa_cons (pe_tup (pa_cons pe_str (pa_cons pe_non pa_nil))) (pa_cons (pe_tup (pa_cons pe_str (pa_cons pe_str pa_nil))) (pa_cons (pe_tup (pa_cons pe_str (pa_cons pe_str pa_nil))) (pa_cons (pe_tup (pa_cons pe_str (pa_cons (pe_op op_mulS pe_str pe_int) pa_nil))) (pa_cons pe_str (pa_cons (pe_tup (pa_cons pe_str pa_nil)) (pa_cons (pe_tup (pa_cons pe_str pa_nil)) pa_nil))))))))))
      (pss_one (ps_ret (pe_op op_catD (pe_op op_catD (pe_slice sl_dm (pv 1) po_none (po_some (pv 3))) (pe_tup (pa_cons (pe_call G_law_of hr2 rfl T.g_law_of T.k_law_of b_law_of .nil pass0 (pa_cons (pv 0) (pa_cons (pv 5) pa_nil))) pa_nil))) (pe_slice sl_dm (pv 1) (po_some (pe_op op_add (pv 3) pe_int)) po_none)))))))))))), ?_⟩
    obtain ⟨a, xs, rfl, ta, al⟩ := hv.seq
    have lx := al.len
    refine ⟨_, rfl, dl, c, 8, rfl, D, by decide, by decide, fun j H1 j0 j1 D1 b1 => ?_⟩
    have hv1 := hv.up (But.dn b1)
    have ta1 := ta.up (But.dn b1)
    refine ⟨_, rfl, _, rfl, _, xs, rfl, .inr ta1.sq, dl, c, (xs.length : Int), rfl, D1, by omega, by omega, fun r H2 r0 r1 D2 b2 => ⟨_, _, rfl, ?_⟩⟩
    have B2 := (But.dn b1).trans (But.dn b2)
    have hv2 := hv1.up (But.dn b2)
    have ta2 := ta1.up (But.dn b2)
    have al2 := al.up B2
    have hN : ∀ a, DN dl c a → Trk H2 a := by
      rintro a (z | z)
      · rw [z]
        exact D2.trk.1
      · rw [z]
        exact D2.trk.2
    obtain ⟨at0, rfl⟩ := Int.eq_ofNat_of_zero_le r0
    have hat : at0 < xs.length := by omega
    have hxa : xs[at0]? = some xs[at0] := List.getElem?_eq_getElem hat
    obtain ⟨da, hda, dva⟩ := al2.getV hxa
    have mka : MkL da := hm da (List.mem_of_getElem? hda)
    generalize xs[at0] = xa at hxa dva
    have fin : ∀ (u : V) (d : PyData) (H' : Hp), Val d → Dm K (DN dl c) H' u d → DealAt H' dl c → Same H2 H' → Q u H' := fun u d H' h1 h2 h3 s => k u d H' h1 h2 h3 (B2.trans (Bt.same s))
    have dealS : ∀ H', Same H2 H' → DealAt H' dl c := fun H' s => by
      obtain ⟨cs, b, h1, h2, r⟩ := D2.ex
      exact ⟨cs, b, s _ _ h1, s _ _ h2, r⟩
    have cm : ∀ lo hi, ∀ d ∈ cutP ms lo hi, MkL d := fun lo hi d h => hm d (cutP_mem h)
    refine ⟨_, rfl, rfl, _, rfl, ite2 (fun _ => ?_) (fun _ => ?_)⟩
    · have h0 : xs[0]? = some (xs[0]'(by omega)) := List.getElem?_eq_getElem (by omega)
      obtain ⟨d0, hd0, dv0⟩ := al2.getV h0
      generalize xs[0]'(by omega) = x0 at h0 dv0
      have mk0 : d0 ∈ ms := List.mem_of_getElem? hd0
      have val0 : Val d0 := by
        have pO : Plain 17 (Str.ofString "open") := ⟨by decide, by decide +kernel⟩
        have pT : Plain 17 (Str.ofString "text") := ⟨by decide, by decide +kernel⟩
        rcases kind_cases (hm d0 mk0) (hk d0 mk0) with ⟨x, e, _, _, px⟩ | ⟨x, e, _, _, px⟩ | ⟨e, _⟩
        · rw [e]
          refine .tup _ (fun d h => ?_) (by show 2 ≤ 400; omega)
          simp only [List.mem_cons, List.not_mem_nil, or_false] at h
          rcases h with rfl | rfl
          · exact .str _ pO
          · exact .str _ px
        · rw [e]
          refine .tup _ (fun d h => ?_) (by show 2 ≤ 400; omega)
          simp only [List.mem_cons, List.not_mem_nil, or_false] at h
          rcases h with rfl | rfl
          · exact .str _ pT
          · exact .str _ px
        · rw [e]
          refine .tup _ (fun d h => ?_) (by decide)
          simp only [List.mem_cons, List.not_mem_nil, or_false] at h
          rw [h]
          exact .str _ plain_close
      refine ⟨_, rfl, _, rfl, _, xs, rfl, .inr ta2.sq, fun l hl => ?_⟩
      have S1 : Same H2 (upd H2 l (.lst xs)) := (Same.refl H2).new hl
      have dl1 : Dm K (DN dl c) (upd H2 l (.lst xs)) (.ref l) (.list ms) := .lst upd_same (not_new hN (Same.refl H2) hl) (al2.up (Bt.refl.new hl))
      generalize upd H2 l (.lst xs) = H3 at S1 dl1 ⊢
      refine ⟨Nat.zero_le _, fun e he => ?_⟩
      have S2 : Same H2 (upd H3 e (.tup [])) := S1.new he
      have dl2 : Dm K (DN dl c) (upd H3 e (.tup [])) (.ref l) (.list ms) := dl1.up (Bt.refl.new he)
      have de2 : Dm K (DN dl c) (upd H3 e (.tup [])) (.ref e) (.tuple []) := .tup upd_same (not_new hN S1 he) .nil
      generalize upd H3 e (.tup []) = H4 at S2 dl2 de2 ⊢
      refine ⟨_, rfl, _, _, _, _, rfl, rfl, (ta2.up (Bt.same S2)).sq, atI_nat (j := 0) h0, _, rfl, _, rfl, ?_⟩
      have hN4 : ∀ a, DN dl c a → Trk H4 a := fun a h => (hN a h).same S2
      refine ⟨_, ms, ms, hv2.up (Bt.same S2), hv2.up (Bt.same S2), hN4, by rw [sizeLine_eq]; omega, fun u1 H5 du1 s5 => ?_⟩
      have S5 := S2.trans s5
      refine ⟨_, rfl, (by show 2 ≤ sizeLine; decide), fun p hp => ⟨(by show 1 ≤ sizeLine; decide), fun p2 hp2 => ?_⟩⟩
      have pp : p ≠ p2 := ne_of_none upd_same hp2
      have S6 : Same H2 (upd (upd H5 p (.tup [.str "text", .str "a"])) p2 (.tup [.ref p])) := (S5.new hp).new hp2
      have s56 : Same H5 (upd (upd H5 p (.tup [.str "text", .str "a"])) p2 (.tup [.ref p])) := ((Same.refl H5).new hp).new hp2
      have dp2 : Dm K (DN dl c) (upd (upd H5 p (.tup [.str "text", .str "a"])) p2 (.tup [.ref p])) (.ref p2) (.tuple [mText (Str.ofString "a")]) :=
        .tup upd_same (not_new hN (S5.new (o := .tup [.str "text", .str "a"]) hp) hp2) (.cons (.tup (xs := [.str "text", .str "a"]) (by rw [upd_ne pp, upd_same]) (not_new hN S5 hp) (.cons (.str _) (.cons (.str _) .nil))) .nil)
      generalize upd (upd H5 p (.tup [.str "text", .str "a"])) p2 (.tup [.ref p]) = H6 at S6 s56 dp2 ⊢
      refine ⟨_, ms, [mText (Str.ofString "a")], hv2.up (Bt.same S6), dp2, fun a h => (hN a h).same S6, by rw [sizeLine_eq, List.length_singleton]; omega, fun u2 H7 du2 s7 => ⟨(by show 8 ≤ sizeLine; decide), fun L hL => ?_⟩⟩
      have S7 := S6.trans s7
      have S8 : Same H2 (upd H7 L (.lst [.non, .ref l, .ref e, .str "open", x0, .int 5, u1, u2])) := S7.new hL
      have D8 := dealS _ S8
      have Ln := (dealS _ S7).ne hL
      have b47 : Bt (DN dl c) H4 (upd H7 L (.lst [.non, .ref l, .ref e, .str "open", x0, .int 5, u1, u2])) := Bt.same ((((s5.trans s56).trans s7)).new hL)
      have b57 : Bt (DN dl c) H5 (upd H7 L (.lst [.non, .ref l, .ref e, .str "open", x0, .int 5, u1, u2])) := Bt.same ((s56.trans s7).new hL)
      have b77 : Bt (DN dl c) H7 (upd H7 L (.lst [.non, .ref l, .ref e, .str "open", x0, .int 5, u1, u2])) := Bt.refl.new hL
      refine ⟨dl, c, D8, .inl ⟨L, _, rfl, upd_same, Ln.1, Ln.2, (by show 0 < 8; decide), (by show 8 < 1000000; decide), fun y H9 hy D9 b9 => ?_⟩⟩
      have B9 : Bt (DN dl c) H H9 := (B2.trans (Bt.same S8)).trans (But.dn b9)
      have B29 : Bt (DN dl c) H2 H9 := (Bt.same S8).trans (But.dn b9)
      simp only [List.mem_cons, List.not_mem_nil, or_false] at hy
      rcases hy with rfl | rfl | rfl | rfl | rfl | rfl | rfl | rfl
      · exact k _ _ H9 .non .non D9 B9
      · exact k _ _ H9 (.lst ms) ((dl2.up b47).up (But.dn b9)) D9 B9
      · exact k _ _ H9 (.tup [] (fun d h => by simp at h) (Nat.zero_le _)) ((de2.up b47).up (But.dn b9)) D9 B9
      · exact k _ _ H9 (.str _ ⟨by decide, by decide +kernel⟩) (.str _) D9 B9
      · exact k _ _ H9 val0 (dv0.up B29) D9 B9
      · exact k _ _ H9 .int (.int _) D9 B9
      · refine k _ _ H9 (.tup _ (fun d h => ?_) (by rw [List.length_append]; omega)) ((du1.up b57).up (But.dn b9)) D9 B9
        rcases List.mem_append.mp h with h | h
        · exact hm d h
        · exact hm d h
      · refine k _ _ H9 (.tup _ (fun d h => ?_) (by rw [List.length_append, List.length_singleton]; omega)) ((du2.up b77).up (But.dn b9)) D9 B9
        rcases List.mem_append.mp h with h | h
        · exact hm d h
        · rw [List.mem_singleton] at h
          rw [h]
          exact .two _ _ ⟨by decide, by decide +kernel⟩ ⟨by decide, by decide +kernel⟩
    refine ⟨_, rfl, rfl, _, rfl, ite2 (fun _ => ?_) (fun _ => ?_)⟩
    · exact ⟨_, rfl, _, rfl, _, rfl, _, ms, hv2, hN, fun u H' du s => fin u _ H' (.tup _ (cm _ _) (by have := cutP_len ms none (some (at0 : Int)); omega)) du (dealS _ s) s⟩
    refine ⟨_, rfl, rfl, _, rfl, ite2 (fun _ => ?_) (fun _ => ?_)⟩
    · refine ⟨_, rfl, _, rfl, _, rfl, _, ms, hv2, hN, fun u H3 du s3 => ?_⟩
      have hN3 : ∀ a, DN dl c a → Trk H3 a := fun a h => (hN a h).same s3
      refine ⟨_, rfl, _, rfl, _, _, rfl, rfl, _, rfl, _, ms, hv2.up (Bt.same s3), hN3, fun u2 H4 du2 s4 => ?_⟩
      have c1 := cutP_len ms none (some (at0 : Int))
      have c2 := cutP_len ms (some ((at0 : Int) + 1)) none
      refine ⟨_, _, _, du.up (Bt.same s4), du2, fun a h => (hN3 a h).same s4, by rw [sizeLine_eq]; omega, fun u3 H5 du3 s5 => ?_⟩
      refine fin u3 _ H5 (.tup _ (fun d h => ?_) (by rw [List.length_append]; omega)) du3 (dealS _ ((s3.trans s4).trans s5)) ((s3.trans s4).trans s5)
      rcases List.mem_append.mp h with h | h
      · exact cm _ _ d h
      · exact cm _ _ d h
    -- a cut, a tuple of some marks, the rest
    have three : ∀ (H3 : Hp) (u : V) (y : V) (es : List PyData) (D3 : DealAt H3 dl c), Bt (DN dl c) H2 H3 → Dm K (DN dl c) H3 u (.tuple (cutP ms none (some (at0 : Int)))) → Dm K (DN dl c) H3 y (.tuple es) → (∀ d ∈ es, MkL d) → es.length ≤ 2 →
        rCatD K u y H3 (fun z H4 => rSlD K (.ref a) (some ((at0 : Int) + 1)) none H4 (fun z2 H5 => rCatD K z z2 H5 Q)) := by
      intro H3 u y es D3 B3 du dy hes le
      have hN3 : ∀ a, DN dl c a → Trk H3 a := by
        rintro a (z | z)
        · rw [z]
          exact D3.trk.1
        · rw [z]
          exact D3.trk.2
      have c1 := cutP_len ms none (some (at0 : Int))
      have c2 := cutP_len ms (some ((at0 : Int) + 1)) none
      refine ⟨_, _, _, du, dy, hN3, by rw [sizeLine_eq]; omega, fun z H4 dz s4 => ?_⟩
      refine ⟨_, ms, (hv2.up B3).up (Bt.same s4), fun a h => (hN3 a h).same s4, fun z2 H5 dz2 s5 => ⟨_, _, _, dz.up (Bt.same s5), dz2, fun a h => ((hN3 a h).same s4).same s5, by rw [sizeLine_eq, List.length_append]; omega, fun u6 H6 d6 s6 => ?_⟩⟩
      have s46 := (s4.trans s5).trans s6
      refine k u6 _ H6 (.tup _ (fun d h => ?_) (by rw [List.length_append, List.length_append]; omega)) d6 ?_ ((B2.trans B3).trans (Bt.same s46))
      · rcases List.mem_append.mp h with h | h
        · rcases List.mem_append.mp h with h | h
          · exact cm _ _ d h
          · exact hes d h
        · exact cm _ _ d h
      · obtain ⟨cs, b, h1, h2, r⟩ := D3.ex
        exact ⟨cs, b, s46 _ _ h1, s46 _ _ h2, r⟩
    refine ⟨_, rfl, rfl, _, rfl, ite2 (fun _ => ?_) (fun _ => ?_)⟩
    · refine ⟨_, rfl, _, rfl, _, rfl, _, ms, hv2, hN, fun u H3 du s3 => ?_⟩
      refine ⟨_, rfl, _, rfl, _, _, _, _, rfl, rfl, (ta2.up (Bt.same s3)).sq, atI_nat hxa, _, rfl, _, rfl, _, _, _, _, rfl, rfl, (ta2.up (Bt.same s3)).sq, atI_nat hxa, (by show 2 ≤ sizeLine; decide), fun p hp => ?_⟩
      have s4 := s3.new (o := .tup [xa, xa]) hp
      have dy : Dm K (DN dl c) (upd H3 p (.tup [xa, xa])) (.ref p) (.tuple [da, da]) := .tup upd_same (not_new hN s3 hp) (.cons (dva.up (Bt.same s4)) (.cons (dva.up (Bt.same s4)) .nil))
      obtain ⟨N', ds', es', t1, t2, t3, t4, t5⟩ := three _ u (.ref p) [da, da] (dealS _ s4) (Bt.same s4) (du.up (Bt.refl.new hp)) dy (fun d h => by
        have e : d = da := by simpa using h
        rw [e]
        exact mka) (Nat.le_refl 2)
      exact ⟨N', ds', es', t1, t2, t3, t4, fun z H4 dz s5 => ⟨_, rfl, _, rfl, _, _, rfl, rfl, _, rfl, t5 z H4 dz s5⟩⟩
    refine ⟨_, rfl, rfl, _, rfl, ite2 (fun _ => ?_) (fun _ => ?_)⟩
    · refine ⟨_, rfl, _, rfl, _, xs, rfl, .inr ta2.sq, dl, c, (xs.length : Int), rfl, D2, by omega, by omega, fun r2 H3 q0 q1 D3 b3 => ?_⟩
      have B3 := But.dn b3
      obtain ⟨ot, rfl⟩ := Int.eq_ofNat_of_zero_le q0
      have hot : ot < xs.length := by omega
      have hxo : xs[ot]? = some xs[ot] := List.getElem?_eq_getElem hot
      have al3 := al2.up B3
      obtain ⟨db, hdb, dvb⟩ := al3.getV hxo
      have mkb : MkL db := hm db (List.mem_of_getElem? hdb)
      generalize xs[ot] = xb at hxo dvb
      have hN3 : ∀ a, DN dl c a → Trk H3 a := by
        rintro a (z | z)
        · rw [z]
          exact D3.trk.1
        · rw [z]
          exact D3.trk.2
      refine ⟨_, rfl, _, rfl, _, rfl, _, ms, hv2.up B3, hN3, fun u H4 du s4 => ?_⟩
      refine ⟨_, rfl, _, rfl, _, _, _, _, rfl, rfl, ((ta2.up B3).up (Bt.same s4)).sq, atI_nat hxo, (by show 1 ≤ sizeLine; decide), fun p hp => ?_⟩
      have s5 := s4.new (o := .tup [xb]) hp
      have dy : Dm K (DN dl c) (upd H4 p (.tup [xb])) (.ref p) (.tuple [db]) := .tup upd_same (not_new hN3 s4 hp) (.cons (dvb.up (Bt.same s5)) .nil)
      have D5 : DealAt (upd H4 p (.tup [xb])) dl c := by
        obtain ⟨cs, b, h1, h2, r⟩ := D3.ex
        exact ⟨cs, b, s5 _ _ h1, s5 _ _ h2, r⟩
      obtain ⟨N', ds', es', t1, t2, t3, t4, t5⟩ := three _ u (.ref p) [db] D5 (B3.trans (Bt.same s5)) (du.up (Bt.refl.new hp)) dy (fun d h => by
        have e : d = db := by simpa using h
        rw [e]
        exact mkb) (Nat.le_succ 1)
      exact ⟨N', ds', es', t1, t2, t3, t4, fun z H4 dz s5 => ⟨_, rfl, _, rfl, _, _, rfl, rfl, _, rfl, t5 z H4 dz s5⟩⟩
    -- one of some other things
    have aA0 : DmAll K (DN dl c) H2 [] [] := .nil
    have aS0 : Same H2 H2 := Same.refl H2
    have aA1 := aA0.snoc .non
    refine ⟨(by show 2 ≤ sizeLine; decide), fun ap2 ah2 => ?_⟩
    have aA2 := (aA1.up (Bt.refl.new (o := .tup [V.str (Str.ofString "close"), V.str (Str.ofString "")]) ah2)).snoc (.tup (xs := [V.str (Str.ofString "close"), V.str (Str.ofString "")]) upd_same (not_new hN aS0 ah2) (.cons (.str (Str.ofString "close")) (.cons (.str (Str.ofString "")) .nil)))
    have aS2 := aS0.new (o := .tup [V.str (Str.ofString "close"), V.str (Str.ofString "")]) ah2
    generalize upd H2 ap2 (.tup [V.str (Str.ofString "close"), V.str (Str.ofString "")]) = aH2 at aA2 aS2 ⊢
    refine ⟨(by show 1 ≤ sizeLine; decide), fun ap3 ah3 => ?_⟩
    have aA3 := (aA2.up (Bt.refl.new (o := .tup [V.str (Str.ofString "open")]) ah3)).snoc (.tup (xs := [V.str (Str.ofString "open")]) upd_same (not_new hN aS2 ah3) (.cons (.str (Str.ofString "open")) .nil))
    have aS3 := aS2.new (o := .tup [V.str (Str.ofString "open")]) ah3
    generalize upd aH2 ap3 (.tup [V.str (Str.ofString "open")]) = aH3 at aA3 aS3 ⊢
    refine ⟨(by show 2 ≤ sizeLine; decide), fun ap4 ah4 => ?_⟩
    have aA4 := (aA3.up (Bt.refl.new (o := .tup [V.str (Str.ofString "open"), V.str (Str.ofString "")]) ah4)).snoc (.tup (xs := [V.str (Str.ofString "open"), V.str (Str.ofString "")]) upd_same (not_new hN aS3 ah4) (.cons (.str (Str.ofString "open")) (.cons (.str (Str.ofString "")) .nil)))
    have aS4 := aS3.new (o := .tup [V.str (Str.ofString "open"), V.str (Str.ofString "")]) ah4
    generalize upd aH3 ap4 (.tup [V.str (Str.ofString "open"), V.str (Str.ofString "")]) = aH4 at aA4 aS4 ⊢
    refine ⟨(by show 2 ≤ sizeLine; decide), fun ap5 ah5 => ?_⟩
    have aA5 := (aA4.up (Bt.refl.new (o := .tup [V.str (Str.ofString "open"), V.str (Str.ofString "A")]) ah5)).snoc (.tup (xs := [V.str (Str.ofString "open"), V.str (Str.ofString "A")]) upd_same (not_new hN aS4 ah5) (.cons (.str (Str.ofString "open")) (.cons (.str (Str.ofString "A")) .nil)))
    have aS5 := aS4.new (o := .tup [V.str (Str.ofString "open"), V.str (Str.ofString "A")]) ah5
    generalize upd aH4 ap5 (.tup [V.str (Str.ofString "open"), V.str (Str.ofString "A")]) = aH5 at aA5 aS5 ⊢
    refine ⟨(by show 2 ≤ sizeLine; decide), fun ap6 ah6 => ?_⟩
    have aA6 := (aA5.up (Bt.refl.new (o := .tup [V.str (Str.ofString "open"), V.str (Str.ofString "abcdefghi")]) ah6)).snoc (.tup (xs := [V.str (Str.ofString "open"), V.str (Str.ofString "abcdefghi")]) upd_same (not_new hN aS5 ah6) (.cons (.str (Str.ofString "open")) (.cons (.str (Str.ofString "abcdefghi")) .nil)))
    have aS6 := aS5.new (o := .tup [V.str (Str.ofString "open"), V.str (Str.ofString "abcdefghi")]) ah6
    generalize upd aH5 ap6 (.tup [V.str (Str.ofString "open"), V.str (Str.ofString "abcdefghi")]) = aH6 at aA6 aS6 ⊢
    refine ⟨_, _, rfl, rfl, mulOk_17, (by show 2 ≤ sizeLine; decide), fun ap7 ah7 => ?_⟩
    have aA7 := (aA6.up (Bt.refl.new (o := .tup [V.str (Str.ofString "text"), V.str (nA 17)]) ah7)).snoc (.tup (xs := [V.str (Str.ofString "text"), V.str (nA 17)]) upd_same (not_new hN aS6 ah7) (.cons (.str (Str.ofString "text")) (.cons (.str (nA 17)) .nil)))
    have aS7 := aS6.new (o := .tup [V.str (Str.ofString "text"), V.str (nA 17)]) ah7
    generalize upd aH6 ap7 (.tup [V.str (Str.ofString "text"), V.str (nA 17)]) = aH7 at aA7 aS7 ⊢
    refine ⟨(by show 2 ≤ sizeLine; decide), fun ap8 ah8 => ?_⟩
    have aA8 := (aA7.up (Bt.refl.new (o := .tup [V.str (Str.ofString "text"), V.str (Str.ofString "A")]) ah8)).snoc (.tup (xs := [V.str (Str.ofString "text"), V.str (Str.ofString "A")]) upd_same (not_new hN aS7 ah8) (.cons (.str (Str.ofString "text")) (.cons (.str (Str.ofString "A")) .nil)))
    have aS8 := aS7.new (o := .tup [V.str (Str.ofString "text"), V.str (Str.ofString "A")]) ah8
    generalize upd aH7 ap8 (.tup [V.str (Str.ofString "text"), V.str (Str.ofString "A")]) = aH8 at aA8 aS8 ⊢
    refine ⟨(by show 1 ≤ sizeLine; decide), fun ap9 ah9 => ?_⟩
    have aA9 := (aA8.up (Bt.refl.new (o := .lst [V.str (Str.ofString "close")]) ah9)).snoc (.lst (xs := [V.str (Str.ofString "close")]) upd_same (not_new hN aS8 ah9) (.cons (.str (Str.ofString "close")) .nil))
    have aS9 := aS8.new (o := .lst [V.str (Str.ofString "close")]) ah9
    generalize upd aH8 ap9 (.lst [V.str (Str.ofString "close")]) = aH9 at aA9 aS9 ⊢
    refine ⟨(by show 9 ≤ sizeLine; decide), fun l hl => ?_⟩
    have cA : DmAll K (DN dl c) (upd aH9 l (.lst [V.non, V.ref ap2, V.ref ap3, V.ref ap4, V.ref ap5, V.ref ap6, V.ref ap7, V.ref ap8, V.ref ap9])) [V.non, V.ref ap2, V.ref ap3, V.ref ap4, V.ref ap5, V.ref ap6, V.ref ap7, V.ref ap8, V.ref ap9] [.none, .tuple [.str (Str.ofString "close"), .str (Str.ofString "")], .tuple [.str (Str.ofString "open")], .tuple [.str (Str.ofString "open"), .str (Str.ofString "")], .tuple [.str (Str.ofString "open"), .str (Str.ofString "A")], .tuple [.str (Str.ofString "open"), .str (Str.ofString "abcdefghi")], .tuple [.str (Str.ofString "text"), .str (nA 17)], .tuple [.str (Str.ofString "text"), .str (Str.ofString "A")], .list [.str (Str.ofString "close")]] := aA9.up (Bt.refl.new hl)
    have cS : Same H2 (upd aH9 l (.lst [V.non, V.ref ap2, V.ref ap3, V.ref ap4, V.ref ap5, V.ref ap6, V.ref ap7, V.ref ap8, V.ref ap9])) := aS9.new hl
    have cL : (upd aH9 l (.lst [V.non, V.ref ap2, V.ref ap3, V.ref ap4, V.ref ap5, V.ref ap6, V.ref ap7, V.ref ap8, V.ref ap9])) l = some (.lst [V.non, V.ref ap2, V.ref ap3, V.ref ap4, V.ref ap5, V.ref ap6, V.ref ap7, V.ref ap8, V.ref ap9]) := upd_same
    generalize upd aH9 l (.lst [V.non, V.ref ap2, V.ref ap3, V.ref ap4, V.ref ap5, V.ref ap6, V.ref ap7, V.ref ap8, V.ref ap9]) = cH at cA cS cL ⊢
    have hNc : ∀ a, DN dl c a → Trk cH a := fun a h => (hN a h).same cS
    have bA0 : DmAll K (DN dl c) cH [] [] := .nil
    have bS0 : Same cH cH := Same.refl cH
    refine ⟨_, rfl, ?_⟩
    refine ⟨(by show 2 ≤ sizeLine; decide), fun bp1 bh1 => ?_⟩
    have bA1 := (bA0.up (Bt.refl.new (o := .tup [V.str (Str.ofString "text"), V.non]) bh1)).snoc (.tup (xs := [V.str (Str.ofString "text"), V.non]) upd_same (not_new hNc bS0 bh1) (.cons (.str (Str.ofString "text")) (.cons .non .nil)))
    have bS1 := bS0.new (o := .tup [V.str (Str.ofString "text"), V.non]) bh1
    generalize upd cH bp1 (.tup [V.str (Str.ofString "text"), V.non]) = bH1 at bA1 bS1 ⊢
    refine ⟨(by show 2 ≤ sizeLine; decide), fun bp2 bh2 => ?_⟩
    have bA2 := (bA1.up (Bt.refl.new (o := .tup [V.str (Str.ofString "text"), V.str (Str.ofString "")]) bh2)).snoc (.tup (xs := [V.str (Str.ofString "text"), V.str (Str.ofString "")]) upd_same (not_new hNc bS1 bh2) (.cons (.str (Str.ofString "text")) (.cons (.str (Str.ofString "")) .nil)))
    have bS2 := bS1.new (o := .tup [V.str (Str.ofString "text"), V.str (Str.ofString "")]) bh2
    generalize upd bH1 bp2 (.tup [V.str (Str.ofString "text"), V.str (Str.ofString "")]) = bH2 at bA2 bS2 ⊢
    refine ⟨(by show 2 ≤ sizeLine; decide), fun bp3 bh3 => ?_⟩
    have bA3 := (bA2.up (Bt.refl.new (o := .tup [V.str (Str.ofString "open"), V.str (Str.ofString "abcdefgh")]) bh3)).snoc (.tup (xs := [V.str (Str.ofString "open"), V.str (Str.ofString "abcdefgh")]) upd_same (not_new hNc bS2 bh3) (.cons (.str (Str.ofString "open")) (.cons (.str (Str.ofString "abcdefgh")) .nil)))
    have bS3 := bS2.new (o := .tup [V.str (Str.ofString "open"), V.str (Str.ofString "abcdefgh")]) bh3
    generalize upd bH2 bp3 (.tup [V.str (Str.ofString "open"), V.str (Str.ofString "abcdefgh")]) = bH3 at bA3 bS3 ⊢
    refine ⟨_, _, rfl, rfl, mulOk_16, (by show 2 ≤ sizeLine; decide), fun bp4 bh4 => ?_⟩
    have bA4 := (bA3.up (Bt.refl.new (o := .tup [V.str (Str.ofString "text"), V.str (nA 16)]) bh4)).snoc (.tup (xs := [V.str (Str.ofString "text"), V.str (nA 16)]) upd_same (not_new hNc bS3 bh4) (.cons (.str (Str.ofString "text")) (.cons (.str (nA 16)) .nil)))
    have bS4 := bS3.new (o := .tup [V.str (Str.ofString "text"), V.str (nA 16)]) bh4
    generalize upd bH3 bp4 (.tup [V.str (Str.ofString "text"), V.str (nA 16)]) = bH4 at bA4 bS4 ⊢
    have bA5 := bA4.snoc (.str (Str.ofString "close"))
    refine ⟨(by show 1 ≤ sizeLine; decide), fun bp6 bh6 => ?_⟩
    have bA6 := (bA5.up (Bt.refl.new (o := .tup [V.str (Str.ofString "Close")]) bh6)).snoc (.tup (xs := [V.str (Str.ofString "Close")]) upd_same (not_new hNc bS4 bh6) (.cons (.str (Str.ofString "Close")) .nil))
    have bS6 := bS4.new (o := .tup [V.str (Str.ofString "Close")]) bh6
    generalize upd bH4 bp6 (.tup [V.str (Str.ofString "Close")]) = bH6 at bA6 bS6 ⊢
    refine ⟨(by show 1 ≤ sizeLine; decide), fun bp7 bh7 => ?_⟩
    have bA7 := (bA6.up (Bt.refl.new (o := .tup [V.str (Str.ofString "close")]) bh7)).snoc (.tup (xs := [V.str (Str.ofString "close")]) upd_same (not_new hNc bS6 bh7) (.cons (.str (Str.ofString "close")) .nil))
    have bS7 := bS6.new (o := .tup [V.str (Str.ofString "close")]) bh7
    generalize upd bH6 bp7 (.tup [V.str (Str.ofString "close")]) = bH7 at bA7 bS7 ⊢
    refine ⟨(by show 7 ≤ sizeLine; decide), fun l2 hl2 => ?_⟩
    have ll : l ≠ l2 := ne_of_none (bS7 _ _ cL) hl2
    refine ⟨_, _, _, _, rfl, rfl, (by rw [upd_ne ll]; exact bS7 _ _ cL), upd_same, (by show 9 + 7 ≤ sizeLine; decide), fun l3 hl3 => ?_⟩
    have eA : DmAll K (DN dl c) (upd (upd bH7 l2 (.lst [V.ref bp1, V.ref bp2, V.ref bp3, V.ref bp4, V.str (Str.ofString "close"), V.ref bp6, V.ref bp7])) l3 (.lst ([V.non, V.ref ap2, V.ref ap3, V.ref ap4, V.ref ap5, V.ref ap6, V.ref ap7, V.ref ap8, V.ref ap9] ++ [V.ref bp1, V.ref bp2, V.ref bp3, V.ref bp4, V.str (Str.ofString "close"), V.ref bp6, V.ref bp7]))) ([V.non, V.ref ap2, V.ref ap3, V.ref ap4, V.ref ap5, V.ref ap6, V.ref ap7, V.ref ap8, V.ref ap9] ++ [V.ref bp1, V.ref bp2, V.ref bp3, V.ref bp4, V.str (Str.ofString "close"), V.ref bp6, V.ref bp7]) newD := (cA.up (Bt.same ((bS7.new (o := .lst [V.ref bp1, V.ref bp2, V.ref bp3, V.ref bp4, V.str (Str.ofString "close"), V.ref bp6, V.ref bp7]) hl2).new (o := .lst ([V.non, V.ref ap2, V.ref ap3, V.ref ap4, V.ref ap5, V.ref ap6, V.ref ap7, V.ref ap8, V.ref ap9] ++ [V.ref bp1, V.ref bp2, V.ref bp3, V.ref bp4, V.str (Str.ofString "close"), V.ref bp6, V.ref bp7])) hl3))).app ((bA7 : DmAll K (DN dl c) bH7 [V.ref bp1, V.ref bp2, V.ref bp3, V.ref bp4, V.str (Str.ofString "close"), V.ref bp6, V.ref bp7] [.tuple [.str (Str.ofString "text"), .none], .tuple [.str (Str.ofString "text"), .str (Str.ofString "")], .tuple [.str (Str.ofString "open"), .str (Str.ofString "abcdefgh")], .tuple [.str (Str.ofString "text"), .str (nA 16)], .str (Str.ofString "close"), .tuple [.str (Str.ofString "Close")], .tuple [.str (Str.ofString "close")]]).up ((Bt.refl.new hl2).new hl3))
    have eS : Same H2 (upd (upd bH7 l2 (.lst [V.ref bp1, V.ref bp2, V.ref bp3, V.ref bp4, V.str (Str.ofString "close"), V.ref bp6, V.ref bp7])) l3 (.lst ([V.non, V.ref ap2, V.ref ap3, V.ref ap4, V.ref ap5, V.ref ap6, V.ref ap7, V.ref ap8, V.ref ap9] ++ [V.ref bp1, V.ref bp2, V.ref bp3, V.ref bp4, V.str (Str.ofString "close"), V.ref bp6, V.ref bp7]))) := (cS.trans ((bS7.new (o := .lst [V.ref bp1, V.ref bp2, V.ref bp3, V.ref bp4, V.str (Str.ofString "close"), V.ref bp6, V.ref bp7]) hl2))).new hl3
    have e3 : (upd (upd bH7 l2 (.lst [V.ref bp1, V.ref bp2, V.ref bp3, V.ref bp4, V.str (Str.ofString "close"), V.ref bp6, V.ref bp7])) l3 (.lst ([V.non, V.ref ap2, V.ref ap3, V.ref ap4, V.ref ap5, V.ref ap6, V.ref ap7, V.ref ap8, V.ref ap9] ++ [V.ref bp1, V.ref bp2, V.ref bp3, V.ref bp4, V.str (Str.ofString "close"), V.ref bp6, V.ref bp7]))) l3 = some (.lst ([V.non, V.ref ap2, V.ref ap3, V.ref ap4, V.ref ap5, V.ref ap6, V.ref ap7, V.ref ap8, V.ref ap9] ++ [V.ref bp1, V.ref bp2, V.ref bp3, V.ref bp4, V.str (Str.ofString "close"), V.ref bp6, V.ref bp7])) := upd_same
    have e3n : l3 ≠ dl ∧ l3 ≠ c := (dealS _ (cS.trans (bS7.new (o := .lst [V.ref bp1, V.ref bp2, V.ref bp3, V.ref bp4, V.str (Str.ofString "close"), V.ref bp6, V.ref bp7]) hl2))).ne hl3
    have e3l : ([V.non, V.ref ap2, V.ref ap3, V.ref ap4, V.ref ap5, V.ref ap6, V.ref ap7, V.ref ap8, V.ref ap9] ++ [V.ref bp1, V.ref bp2, V.ref bp3, V.ref bp4, V.str (Str.ofString "close"), V.ref bp6, V.ref bp7]).length = 16 := rfl
    generalize ([V.non, V.ref ap2, V.ref ap3, V.ref ap4, V.ref ap5, V.ref ap6, V.ref ap7, V.ref ap8, V.ref ap9] ++ [V.ref bp1, V.ref bp2, V.ref bp3, V.ref bp4, V.str (Str.ofString "close"), V.ref bp6, V.ref bp7]) = LL at eA eS e3 e3l ⊢
    generalize upd (upd bH7 l2 (.lst [V.ref bp1, V.ref bp2, V.ref bp3, V.ref bp4, V.str (Str.ofString "close"), V.ref bp6, V.ref bp7])) l3 (.lst LL) = H6 at eA eS e3 ⊢
    refine ⟨_, rfl, _, rfl, _, rfl, _, ms, hv2.up (Bt.same eS), fun a h => (hN a h).same eS, fun u H7 du s7 => ?_⟩
    have D7 := dealS _ (eS.trans s7)
    refine ⟨_, rfl, _, rfl, dl, c, D7, .inl ⟨l3, _, rfl, s7 _ _ e3, e3n.1, e3n.2, by omega, by omega, fun y H8 hy D8 b8 => ⟨(by show 1 ≤ sizeLine; decide), fun p hp => ?_⟩⟩⟩
    obtain ⟨dy, mdy, vdy⟩ := eA.mem hy
    have B8 := ((Bt.same eS).trans (Bt.same s7)).trans (But.dn b8)
    have vdy8 := (vdy.up (Bt.same s7)).up (But.dn b8)
    have nP : ¬ DN dl c p := by
      rintro (z | z)
      · exact (D8.ne hp).1 z
      · exact (D8.ne hp).2 z
    obtain ⟨N', ds', es', t1, t2, t3, t4, t5⟩ := three (upd H8 p (.tup [y])) u (.ref p) [dy] (D8.new hp) (B8.new hp) ((du.up (But.dn b8)).up (Bt.refl.new hp)) (.tup upd_same nP (.cons (vdy8.up (Bt.refl.new hp)) .nil)) (fun d h => by
      have e : d = dy := by simpa using h
      rw [e]
      exact new_mk dy mdy) (Nat.le_succ 1)
    exact ⟨N', ds', es', t1, t2, t3, t4, fun z H4 dz s5 => ⟨_, rfl, _, rfl, _, _, rfl, rfl, _, rfl, t5 z H4 dz s5⟩⟩
end
end Km

/-! right marks are those of a document; how great the texts of data are -/
namespace Km
open PySem L2 Xr
/-- the marks of the open nodes, innermost first: a name, its things so far -/
def unS : List (Str × List Doc) → List PyData
  | [] => []
  | (x, d) :: fs => unS fs ++ mOpen x :: marksAll d
theorem parse_go : ∀ (ds : List PyData) (i : Nat) (x : Str) (dd : List Doc) (fs : List (Str × List Doc)), (∀ d ∈ ds, MkL d) → 0 < i → wr ds i (fs.length + 1) = (none, 0) → ∃ t : Doc, unS ((x, dd) :: fs) ++ ds = t.marks
  | [], i, x, dd, fs, _, _, h => by
    have e : ((none : Option Nat), fs.length + 1) = (none, 0) := h
    injection e with _ e
    omega
  | d :: ds, i, x, dd, fs, hm, hi, h => by
    have e : wr (d :: ds) i (fs.length + 1) = if kindD d = 0 ∨ (fs.length + 1 = 0 ∧ (0 < i ∨ kindD d ≠ 1)) then (some i, fs.length + 1) else wr ds (i + 1) (nxt (kindD d) (fs.length + 1)) := rfl
    rw [e] at h
    by_cases hc : kindD d = 0 ∨ (fs.length + 1 = 0 ∧ (0 < i ∨ kindD d ≠ 1))
    · rw [if_pos hc] at h
      injection h with h
      cases h
    · rw [if_neg hc] at h
      have hm' : ∀ d ∈ ds, MkL d := fun d h => hm d (List.mem_cons_of_mem _ h)
      have mk : MkL d := hm d (by simp)
      rcases kind_cases mk (fun z => hc (.inl z)) with ⟨y, ed, q, _⟩ | ⟨z, ed, q, _⟩ | ⟨ed, q⟩
      · rw [q] at h
        obtain ⟨t, ht⟩ := parse_go ds (i + 1) y [] ((x, dd) :: fs) hm' (Nat.succ_pos i) h
        refine ⟨t, ?_⟩
        rw [← ht, ed]
        show _ = (unS ((x, dd) :: fs) ++ [mOpen y]) ++ ds
        rw [List.append_assoc]
        rfl
      · rw [q] at h
        obtain ⟨t, ht⟩ := parse_go ds (i + 1) x (dd ++ [.txt z]) fs hm' (Nat.succ_pos i) h
        refine ⟨t, ?_⟩
        rw [← ht, ed]
        show (unS fs ++ mOpen x :: marksAll dd) ++ mText z :: ds = (unS fs ++ mOpen x :: marksAll (dd ++ [.txt z])) ++ ds
        rw [marksAll_app]
        show _ = (unS fs ++ mOpen x :: (marksAll dd ++ [mText z])) ++ ds
        simp
      · rw [q] at h
        cases fs with
        | nil =>
          have h' : wr ds (i + 1) 0 = (none, 0) := h
          have z : ds = [] := wr_dead (i := i + 1) (Nat.succ_pos i) (by rw [h'])
          subst z
          refine ⟨.nod x dd, ?_⟩
          rw [ed]
          show ([] ++ mOpen x :: marksAll dd) ++ [mClose] = mOpen x :: (marksAll dd ++ [mClose])
          simp
        | cons f fs =>
          obtain ⟨y, de⟩ := f
          have h' : wr ds (i + 1) (fs.length + 1) = (none, 0) := h
          obtain ⟨t, ht⟩ := parse_go ds (i + 1) y (de ++ [.nod x dd]) fs hm' (Nat.succ_pos i) h'
          refine ⟨t, ?_⟩
          rw [← ht, ed]
          show ((unS fs ++ mOpen y :: marksAll de) ++ mOpen x :: marksAll dd) ++ mClose :: ds = (unS fs ++ mOpen y :: marksAll (de ++ [.nod x dd])) ++ ds
          rw [marksAll_app]
          show _ = (unS fs ++ mOpen y :: (marksAll de ++ ((mOpen x :: (marksAll dd ++ [mClose])) ++ []))) ++ ds
          simp
theorem parse {ds : List PyData} (hm : ∀ d ∈ ds, MkL d) (h0 : ds ≠ []) (h : wr ds 0 0 = (none, 0)) : ∃ t : Doc, ds = t.marks := by
  cases ds with
  | nil => exact absurd rfl h0
  | cons d ds =>
    have e : wr (d :: ds) 0 0 = if kindD d = 0 ∨ ((0 : Nat) = 0 ∧ (0 < 0 ∨ kindD d ≠ 1)) then (some 0, 0) else wr ds 1 (nxt (kindD d) 0) := rfl
    rw [e] at h
    by_cases hc : kindD d = 0 ∨ ((0 : Nat) = 0 ∧ (0 < 0 ∨ kindD d ≠ 1))
    · rw [if_pos hc] at h
      injection h with h
      cases h
    · rw [if_neg hc] at h
      rcases kind_cases (hm d (by simp)) (fun z => hc (.inl z)) with ⟨y, ed, q, _⟩ | ⟨z, ed, q, _⟩ | ⟨ed, q⟩
      · rw [q] at h
        obtain ⟨t, ht⟩ := parse_go ds 1 y [] [] (fun d h => hm d (List.mem_cons_of_mem _ h)) (by decide) h
        refine ⟨t, ?_⟩
        rw [← ht, ed]
        rfl
      · exact absurd (.inr ⟨rfl, .inr (by omega)⟩) hc
      · exact absurd (.inr ⟨rfl, .inr (by omega)⟩) hc
/-! texts of data -/
structure Rp (n B : Nat) (d : PyData) : Prop where
  lay : d.canLay0 = true
  dep : d.depth ≤ n
  sh : d.showable = true
  len : d.shown.length ≤ B
theorem rp_all {n B : Nat} : ∀ (ds : List PyData), (∀ x ∈ ds, Rp n B x) → PyData.canLayAll0 ds = true ∧ PyData.depthAll ds ≤ n ∧ PyData.showableAll ds = true ∧ piled (PyData.shownAll ds) ≤ ds.length * (B + 2)
  | [], _ => by
    refine ⟨rfl, ?_, rfl, ?_⟩
    · unfold PyData.depthAll
      exact Nat.zero_le _
    · unfold PyData.shownAll
      exact Nat.zero_le _
  | x :: ds, h => by
    obtain ⟨a, b, c, e⟩ := rp_all ds fun y hy => h y (List.mem_cons_of_mem _ hy)
    have hx := h x (List.mem_cons_self ..)
    have l := hx.len
    refine ⟨?_, ?_, ?_, ?_⟩
    · unfold PyData.canLayAll0
      rw [hx.lay, a]
      rfl
    · unfold PyData.depthAll
      have := hx.dep
      omega
    · unfold PyData.showableAll
      rw [hx.sh, c]
      rfl
    · unfold PyData.shownAll
      rw [piled_cons, List.length_cons, Nat.succ_mul]
      omega
theorem join_le (ts : List Str) : (Str.join ", " ts).length ≤ piled ts := by
  by_cases h : ts = []
  · subst h
    exact Nat.zero_le _
  · have := join_length_add ts h
    omega
/-- a tuple by what its things are together -/
theorem rp_tupA {n C : Nat} {ds : List PyData} (a : PyData.canLayAll0 ds = true) (b : PyData.depthAll ds ≤ n) (c : PyData.showableAll ds = true) (e : piled (PyData.shownAll ds) ≤ C) : Rp (n + 1) (C + 3) (.tuple ds) := by
  refine ⟨?_, ?_, ?_, ?_⟩
  · unfold PyData.canLay0
    exact a
  · unfold PyData.depth
    omega
  · unfold PyData.showable
    exact c
  · unfold PyData.shown tupleText
    rw [strLen_append, strLen_append]
    have j := join_le (PyData.shownAll ds)
    have e1 : (("(" : String) : Str).length = 1 := rfl
    have e2 : ((if (PyData.shownAll ds).length == 1 then ",)" else ")" : String) : Str).length ≤ 2 := by split <;> decide
    rw [e1]
    omega
theorem rp_tup {n B : Nat} {ds : List PyData} (h : ∀ x ∈ ds, Rp n B x) : Rp (n + 1) (ds.length * (B + 2) + 3) (.tuple ds) := by
  obtain ⟨a, b, c, e⟩ := rp_all ds h
  exact rp_tupA a b c e
theorem Rp.mono {n n' B B' : Nat} {d : PyData} (h : Rp n B d) (a : n ≤ n') (b : B ≤ B') : Rp n' B' d := ⟨h.lay, Nat.le_trans h.dep a, h.sh, Nat.le_trans h.len b⟩
theorem rp_str {z : Str} (h : Plain 17 z) : Rp 0 300 (.str z) := by
  refine ⟨canLay_plain h, by unfold PyData.depth; exact Nat.le_refl _, rfl, ?_⟩
  unfold PyData.shown
  have r := StrLaws.reprText_len z fun ch hc => by
    have := h.low ch hc
    have : (128 : Nat) ≤ 16 ^ 8 := by decide
    omega
  have := h.len
  omega
theorem rp_none : Rp 0 300 .none := ⟨rfl, by unfold PyData.depth; exact Nat.le_refl _, rfl, by unfold PyData.shown; decide⟩
theorem rp_bool (b : Bool) : Rp 0 300 (.bool b) := ⟨rfl, by unfold PyData.depth; exact Nat.le_refl _, rfl, by unfold PyData.shown; cases b <;> decide⟩
theorem rp_int {i : Int} (h : i.natAbs < 1000000000) : Rp 0 300 (.int i) := by
  refine ⟨rfl, by unfold PyData.depth; exact Nat.le_refl _, ?_, ?_⟩
  · unfold PyData.showable
    have h2 : i.natAbs.log2 < 30 := by
      by_cases z : i.natAbs = 0
      · rw [z]
        decide
      · exact (Nat.log2_lt z).mpr (by omega)
    exact decide_eq_true (by omega)
  · unfold PyData.shown
    have q := int_text_length_le10 (a := i) (k := 9) (by decide) h
    show (Str.ofString (toString i)).length ≤ 300
    rw [ofString_length]
    omega
theorem rp_mk {d : PyData} (h : MkL d) : Rp 1 700 d := by
  cases h with
  | non => exact rp_none.mono (by decide) (by decide)
  | str s h => exact (rp_str h).mono (by decide) (by decide)
  | lst => exact ⟨by decide +kernel, by decide +kernel, by decide +kernel, by decide +kernel⟩
  | one s h =>
    exact (rp_tup (n := 0) (B := 300) (ds := [.str s]) (fun x hx => by
      rw [List.mem_singleton] at hx
      rw [hx]
      exact rp_str h)).mono (by decide) (by show 1 * 302 + 3 ≤ 700; decide)
  | two s z h h2 =>
    exact (rp_tup (n := 0) (B := 300) (ds := [.str s, .str z]) (fun x hx => by
      simp only [List.mem_cons, List.not_mem_nil, or_false] at hx
      rcases hx with rfl | rfl
      · exact rp_str h
      · exact rp_str h2)).mono (by decide) (by show 2 * 302 + 3 ≤ 700; decide)
  | twoN s h =>
    exact (rp_tup (n := 0) (B := 300) (ds := [.str s, .none]) (fun x hx => by
      simp only [List.mem_cons, List.not_mem_nil, or_false] at hx
      rcases hx with rfl | rfl
      · exact rp_str h
      · exact rp_none)).mono (by decide) (by show 2 * 302 + 3 ≤ 700; decide)
theorem rp_marks {ds : List PyData} (h : ∀ d ∈ ds, MkL d) (l : ds.length ≤ 900) : Rp 60 10000000 (.tuple ds) := (rp_tup (n := 1) (B := 700) fun x hx => rp_mk (h x hx)).mono (by decide) (by
  have : ds.length * 702 ≤ 900 * 702 := Nat.mul_le_mul_right _ l
  show ds.length * 702 + 3 ≤ 10000000
  omega)
theorem plain_txt {z : Str} (h : TxtOk z) : Plain 17 z := by
  rcases h with rfl | rfl | rfl <;> exact ⟨by decide, by decide +kernel⟩
theorem plain_name {z : Str} (h : NameOk z) : Plain 17 z := by
  rcases h with rfl | rfl | rfl <;> exact ⟨by decide, by decide +kernel⟩
mutual
theorem rp_doc : ∀ t : Doc, Good t → Rp (2 * nc t) (1000 * t.marks.length - 2) t.dat
  | .txt z, h => by
    cases h with
    | txt _ hz =>
      show Rp (2 * 0) (1000 * 1 - 2) (.str z)
      exact (rp_str (plain_txt hz)).mono (by decide) (by decide)
  | .nod x ts, h => by
    cases h with
    | nod _ _ hx hl ht =>
      obtain ⟨a, b, c, e⟩ := rp_docs ts ht
      have r1 := rp_tupA a b c e
      have rx := rp_str (plain_name hx)
      show Rp (2 * (1 + ncAll ts)) (1000 * (mOpen x :: (marksAll ts ++ [mClose])).length - 2) (.tuple [.str x, .tuple (datAll ts)])
      have r2 : Rp (2 * ncAll ts + 1 + 1) (302 + (1000 * (marksAll ts).length + 3 + 2) + 3) (.tuple [.str x, .tuple (datAll ts)]) := by
        refine rp_tupA ?_ ?_ ?_ ?_
        · unfold PyData.canLayAll0 PyData.canLayAll0 PyData.canLayAll0
          rw [rx.lay, r1.lay]
          rfl
        · unfold PyData.depthAll PyData.depthAll PyData.depthAll
          have h1 := rx.dep
          have h2 := r1.dep
          omega
        · unfold PyData.showableAll PyData.showableAll PyData.showableAll
          rw [rx.sh, r1.sh]
          rfl
        · unfold PyData.shownAll PyData.shownAll PyData.shownAll
          rw [piled_cons, piled_cons]
          have h1 := rx.len
          have h2 := r1.len
          have e0 : piled [] = 0 := rfl
          rw [e0]
          omega
      refine r2.mono (by omega) ?_
      rw [List.length_cons, List.length_append, List.length_singleton]
      omega
theorem rp_docs : ∀ ts : List Doc, (∀ t ∈ ts, Good t) → PyData.canLayAll0 (datAll ts) = true ∧ PyData.depthAll (datAll ts) ≤ 2 * ncAll ts ∧ PyData.showableAll (datAll ts) = true ∧ piled (PyData.shownAll (datAll ts)) ≤ 1000 * (marksAll ts).length
  | [], _ => by
    refine ⟨rfl, ?_, rfl, ?_⟩
    · unfold datAll PyData.depthAll
      exact Nat.zero_le _
    · unfold datAll PyData.shownAll
      exact Nat.zero_le _
  | t :: ts, h => by
    obtain ⟨a, b, c, e⟩ := rp_docs ts fun u hu => h u (List.mem_cons_of_mem _ hu)
    have r := rp_doc t (h t (by simp))
    have mp := marks_pos t
    refine ⟨?_, ?_, ?_, ?_⟩
    · show PyData.canLayAll0 (t.dat :: datAll ts) = true
      unfold PyData.canLayAll0
      rw [r.lay, a]
      rfl
    · show PyData.depthAll (t.dat :: datAll ts) ≤ 2 * (nc t + ncAll ts)
      unfold PyData.depthAll
      have := r.dep
      omega
    · show PyData.showableAll (t.dat :: datAll ts) = true
      unfold PyData.showableAll
      rw [r.sh, c]
      rfl
    · show piled (PyData.shownAll (t.dat :: datAll ts)) ≤ 1000 * (t.marks ++ marksAll ts).length
      unfold PyData.shownAll
      rw [piled_cons, List.length_append]
      have := r.len
      omega
end
mutual
theorem marks_le : ∀ t : Doc, Good t → t.marks.length ≤ 5 * nc t + 1
  | .txt z, h => Nat.le_refl _
  | .nod x ts, h => by
    cases h with
    | nod _ _ hx hl ht =>
      have := marksAll_le ts ht
      show (mOpen x :: (marksAll ts ++ [mClose])).length ≤ 5 * (1 + ncAll ts) + 1
      rw [List.length_cons, List.length_append, List.length_singleton]
      omega
theorem marksAll_le : ∀ ts : List Doc, (∀ t ∈ ts, Good t) → (marksAll ts).length ≤ 5 * ncAll ts + ts.length
  | [], _ => Nat.le_refl _
  | t :: ts, h => by
    have a := marksAll_le ts fun u hu => h u (List.mem_cons_of_mem _ hu)
    have b := marks_le t (h t (by simp))
    show (t.marks ++ marksAll ts).length ≤ 5 * (nc t + ncAll ts) + (ts.length + 1)
    rw [List.length_append]
    omega
end
mutual
theorem marks_mk : ∀ t : Doc, Good t → ∀ m ∈ t.marks, MkL m ∧ kindD m ≠ 0
  | .txt z, h, m, hm => by
    cases h with
    | txt _ hz =>
      have e : m = mText z := by
        have hm' : m ∈ [mText z] := hm
        simpa using hm'
      rw [e]
      refine ⟨.two _ _ ⟨by decide, by decide +kernel⟩ (plain_txt hz), ?_⟩
      rcases hz with rfl | rfl | rfl <;> decide +kernel
  | .nod x ts, h, m, hm => by
    cases h with
    | nod _ _ hx hl ht =>
      have hm' : m ∈ mOpen x :: (marksAll ts ++ [mClose]) := hm
      rcases List.mem_cons.mp hm' with e | hm'
      · rw [e]
        refine ⟨.two _ _ ⟨by decide, by decide +kernel⟩ (plain_name hx), ?_⟩
        rcases hx with rfl | rfl | rfl <;> decide +kernel
      · rcases List.mem_append.mp hm' with h | h
        · exact marksAll_mk ts ht m h
        · rw [List.mem_singleton] at h
          rw [h]
          exact ⟨.one _ plain_close, by decide +kernel⟩
theorem marksAll_mk : ∀ ts : List Doc, (∀ t ∈ ts, Good t) → ∀ m ∈ marksAll ts, MkL m ∧ kindD m ≠ 0
  | [], _, m, hm => by
    have hm' : m ∈ ([] : List PyData) := hm
    simp at hm'
  | t :: ts, h, m, hm => by
    have hm' : m ∈ t.marks ++ marksAll ts := hm
    rcases List.mem_append.mp hm' with h1 | h1
    · exact marks_mk t (h t (by simp)) m h1
    · exact marksAll_mk ts (fun u hu => h u (List.mem_cons_of_mem _ hu)) m h1
end
theorem plc_le : ∀ (ds : List PyData) (p q : List Nat) (B : Nat), (∀ x ∈ p, x ≤ B) → plc ds p = some q → q.length ≤ p.length + ds.length ∧ ∀ x ∈ q, x ≤ B + ds.length
  | [], p, q, B, hp, h => by
    have e : some p = some q := h
    injection e with e
    subst e
    exact ⟨Nat.le_refl _, fun x hx => hp x hx⟩
  | d :: ds, p, q, B, hp, h => by
    have e2 : plc (d :: ds) p = if kindD d = 1 then plc ds (0 :: p) else
      match (if kindD d = 3 then p.tail else p) with
      | [] => none
      | x :: q => plc ds ((x + 1) :: q) := rfl
    rw [e2] at h
    have fin : ∀ p', p'.length ≤ p.length + 1 → (∀ x ∈ p', x ≤ B + 1) → plc ds p' = some q → q.length ≤ p.length + (d :: ds).length ∧ ∀ x ∈ q, x ≤ B + (d :: ds).length := fun p' l1 l2 h' => by
      obtain ⟨a, b⟩ := plc_le ds p' q (B + 1) l2 h'
      rw [List.length_cons]
      exact ⟨by omega, fun x hx => by have := b x hx; omega⟩
    by_cases k1 : kindD d = 1
    · rw [if_pos k1] at h
      refine fin (0 :: p) (Nat.le_refl _) (fun x hx => ?_) h
      rcases List.mem_cons.mp hx with e | e
      · omega
      · have := hp x e
        omega
    · rw [if_neg k1] at h
      have sub : ∀ p' : List Nat, p' = (if kindD d = 3 then p.tail else p) → p'.length ≤ p.length ∧ ∀ x ∈ p', x ≤ B := fun p' e => by
        rw [e]
        split
        · refine ⟨by rw [List.length_tail]; omega, fun x hx => hp x (List.mem_of_mem_tail hx)⟩
        · exact ⟨Nat.le_refl _, hp⟩
      generalize hq : (if kindD d = 3 then p.tail else p) = p' at h
      obtain ⟨s1, s2⟩ := sub p' hq.symm
      cases p' with
      | nil => cases h
      | cons x r =>
        refine fin ((x + 1) :: r) (by rw [List.length_cons] at s1 ⊢; omega) (fun y hy => ?_) h
        rcases List.mem_cons.mp hy with e | e
        · have := s2 x (by simp)
          omega
        · have := s2 y (by simp [e])
          omega
theorem rp_place {ds : List PyData} (l : ds.length ≤ 400) : Rp 60 10000000 (placeD (plc ds [])) := by
  cases h : plc ds [] with
  | none => exact rp_none.mono (by decide) (by decide)
  | some q =>
    obtain ⟨a, b⟩ := plc_le ds [] q 0 (by simp) h
    have a' : q.length ≤ 400 := by
      have : ([] : List Nat).length = 0 := rfl
      omega
    have e : (plD q).length = q.length := by
      unfold plD
      simp
    refine (rp_tup (n := 0) (B := 300) (ds := plD q) fun x hx => ?_).mono (by decide) ?_
    · unfold plD at hx
      obtain ⟨n, hn, rfl⟩ := List.mem_map.mp hx
      have := b n (by simpa using hn)
      exact rp_int (by show ((n : Nat) : Int).natAbs < 1000000000; omega)
    · rw [e]
      have : q.length * 302 ≤ 400 * 302 := Nat.mul_le_mul_right _ a'
      show q.length * 302 + 3 ≤ 10000000
      omega
end Km

/-! defs that ask repr of data: promises kept where no repr runs around -/
namespace Grd
open PySem PySem.Spec PyProof.Rows L2
/-- as FnOk, where no guard stands around -/
structure FnG (P : Program) (w : World) (K : PySem.W.Frag) (mg : Str → Option Value) (base : Heap) (CX : CXT) (k : Nat) (f : Addr) (fd : FuncData) (ps : List Str) (sp : Sp) : Prop where
  len : ∀ vs H Q E, sp vs H Q E → vs.length = ps.length
  run : ∀ (A : Around) (outer : List Env) (s : Shared) (H : Hp) (args : Args) (us : List Value) (vs : List V) (Q : VK) (E : XK), A.guards = some [] → Room k A → Env0 P w K mg base A outer s H → BindsTo s fd args (ps.zip us) → Vals vs us → sp vs H Q E →
    codeAny (model P w) A (.call (.ref f) args) (CR CX outer P w H s Q E) s
section
variable {P : Program} {w : World} {K : PySem.W.Frag} {mg : Str → Option Value} {base : Heap}
theorem fng_of {CX : CXT} {k : Nat} {f : Addr} {x qual : Str} {st : Stmt} {fd : FuncData} {N ps : List Str} {sp : Sp} (F : Fun K x qual st f fd) (S : FnScope N ps (defScope st)) (len : ∀ vs H Q E, sp vs H Q E → vs.length = ps.length)
    (body : ∀ (cdv : Value) (A : Around) (outer : List Env) (s : Shared) (H : Hp) (vs : List V) (Q : VK) (E : XK), A.guards = some [] → Room k (A.deeper (envOfC qual (defScope st) s.heap.objs.size f cdv)) → sp vs H Q E →
      ∃ t, PSs (cxOf CX P w K mg base N qual (defScope st) f cdv A outer s H E) (defBody st) t ∧ t { nx := fun _ H' => Q .non H', rt := Q } (L2.start N vs) H) : FnG P w K mg base CX (k + 1) f fd ps sp := by
  obtain ⟨oc, od, kV, doc, pm, an, cdv, ct, osl, rfl, lk, hcd⟩ := F.ex
  refine ⟨len, fun A outer s H args us vs Q E gd hr e0 hb r hs => ?_⟩
  have lens := len _ _ _ _ hs
  have inK : K.In s.heap := e0.mod.kin.keeps fun b o e => (e0.bs b o e).1
  have free : s.heap.NoLimit := e0.mod.nolimit.keeps fun b o e => (e0.bs b o e).1
  have kinds : ∀ y ∈ ps.zip us, (defScope st).names.lookup y.1 = some .local ∨ ((defScope st).names.lookup y.1 = some .cell ∧ ((cellsFrom (s.heap.objs.size + 1) (defScope st).names []).lookup y.1).isSome = true) := fun ⟨n, v⟩ hy =>
    (S.par n (List.of_mem_zip hy).1).elim (fun q => .inl q) fun q => .inr ⟨q, PySem.W.cellsFrom_some _ _ _ (.inl q)⟩
  refine codeAny_call_function hr.depth (inK _ _ lk) rfl S.co S.gen rfl (PySem.W.codeRec_of inK hcd) (hb _ _ _ _ ?_)
  refine wpAny_newFunctionEnv_cells S.kind kinds fun env he s1 ic => ?_
  subst he
  refine ⟨free.keeps ic.toInCall.keep, codeAny_func ?_⟩
  obtain ⟨t, ht, hq⟩ := body cdv A outer s H vs Q E gd (hr.deeper _) hs
  have I := inv_start (CX := CX) (P := P) (K := K) (mg := mg) (base := base) (E := E) S hr.hd e0 lens r ic
  refine wpAny_mono (ht.run [] s1 _ H _ I hq) (fun fl s' z => ?_) fun e s' z => z
  cases fl with
  | ret u =>
    obtain ⟨v, σ', H', J, rv, q⟩ := z
    exact ⟨v, H', J.os, J.bare, J.base, J.hok, rv, q⟩
  | next =>
    obtain ⟨σ', H', J, q⟩ := z
    exact ⟨V.non, H', J.os, J.bare, J.base, J.hok, rfl, q⟩
  | brk =>
    obtain ⟨_, _, _, q⟩ := z
    exact q.elim
  | cont =>
    obtain ⟨_, _, _, q⟩ := z
    exact q.elim
end
section
variable {X : Cx} {CX : CXT} {k : Nat} {f : Addr} {fd : FuncData} {ps : List Str} {sp : Sp} {dvs : List V} {ds : List Value} {E : XK} {x : Str} {p pos : Pos} {e : Expr} {es : List Expr} {t : TA}
/-- f(e, ..) where f keeps its promise with no guard around -/
theorem pe_callG (F : FnG X.prog X.w X.K X.mg X.base CX k f fd ps sp) (gd : X.A.guards = some []) (hr : Room k X.A) (hg : Gl X x) (hm : X.mg x = some (.ref f)) (kp : PySem.W.keepIn X.K (.ref f) = true) (hb : Binds X.K fd ps []) (hx : Passes CX X E)
    (ha : PA X (e :: es) t) (hdb : (x == ("__debug__" : Str)) = false := by decide) (he : starEach (e :: es) X.env = (false, eval e X.env) :: starEach es X.env := by rfl) (hpl : (backTo pos (starEach es X.env)).any (·.1) = false := by rfl) :
    PE X (.Call (.Name x p) (e :: es) [] pos) (tCall sp [] E t) := by
  refine ⟨fun pins s σ H Q I h => ?_⟩
  refine wpAny_Call_Name_kw (ld_glob I hg hm ?_ hdb)
  refine PySem.W.callWith_K (h₀ := X.base) I.ok.mod.kin kp (thn (ha.run pos pins s σ H _ I h) fun us s1 ⟨vs, H1, I1, r, q⟩ => ⟨I1.kIn, ?_⟩) he hpl
  have q' : sp vs H1 Q E := by
    have z : sp (vs ++ []) H1 Q E := q
    rw [List.append_nil] at z
    exact z
  have lens : us.length = ps.length := by
    rw [← r.length]
    exact F.len _ _ _ _ q'
  have b := hb s1 us I1.kIn (by rw [List.append_nil]; exact lens)
  rw [List.append_nil] at b
  refine wpAny_call (codeAny_mono (F.run X.A X.stack s1 H1 ⟨us, []⟩ us vs Q E gd hr I1.env0 b r q') fun z s' hq => ?_)
  cases z with
  | error e => exact hx pins σ H1 s1 e s' I1 hq
  | ok fl =>
    cases fl with
    | ret u => exact I1.after hq
    | next => exact hq.elim
    | brk => exact hq.elim
    | cont => exact hq.elim
/-- repr of data -/
def rRepr (K : PySem.W.Frag) : List V → Hp → VK → Prop := fun xs H Q => ∃ (v : V) (d : PyData), xs = [v] ∧ Dp K H v d ∧ d.showable = true ∧ d.hasDict = false ∧ d.depth ≤ 60 ∧ d.shown.length ≤ sizeLine ∧ Q (.str d.shown) H
theorem call_repr (gd : X.A.guards = some []) (hu : X.A.units + 64 < cLine) : CallR X (.builtin "repr") (rRepr X.K) := by
  intro pins s σ H xs us Q I r h
  obtain ⟨v, d, rfl, hd, sh, nd, dep, len, q⟩ := h
  obtain ⟨u, rfl, ru⟩ := vals1 r
  cases hd with
  | non =>
    cases (show u = Value.none from ru)
    exact PySem.P.repr_of_none ⟨.str _, H, I.tok _, ⟨_, rfl⟩, q⟩
  | bl b =>
    cases (show u = Value.bool b from ru)
    exact PySem.P.repr_of_bool ⟨.str _, H, I.tok _, ⟨_, rfl⟩, q⟩
  | int i =>
    obtain ⟨t, rfl⟩ := ru
    have hz : i.natAbs.log2 < 1920 := by
      unfold PyData.showable at sh
      exact of_decide_eq_true sh
    exact PySem.P.repr_of_int hz ⟨.str _, H, I.tok _, ⟨_, rfl⟩, q⟩
  | str x =>
    obtain ⟨t, rfl⟩ := ru
    exact PySem.P.repr_of_str ⟨.str _, H, I.tok _, ⟨_, rfl⟩, q⟩ len
  | lst hs ha =>
    obtain ⟨as, rd⟩ := Dp.reads I _ _ _ (Dp.lst hs ha) ru
    cases (show u = Value.ref _ from ru)
    exact repr_of_reads' rd sh (PyData.noDict_hsm nd) gd (by omega) (fun _ _ e => e) (fun h' tk n up => ⟨.str _, H, I.kept (t' := n) up, ⟨_, rfl⟩, q⟩) len
  | tup hs ha =>
    obtain ⟨as, rd⟩ := Dp.reads I _ _ _ (Dp.tup hs ha) ru
    cases (show u = Value.ref _ from ru)
    exact repr_of_reads' rd sh (PyData.noDict_hsm nd) gd (by omega) (fun _ _ e => e) (fun h' tk n up => ⟨.str _, H, I.kept (t' := n) up, ⟨_, rfl⟩, q⟩) len
end
end Grd

/-! the end of a law whose def asks repr -/
namespace Grd
open PySem PySem.Spec PyProof.Rows L2
theorem lawG {P : Program} {w : World} {K : PySem.W.Frag} {mg mb : Str → Option Value} {k : Nat} {fa a : Addr} {fd : FuncData} {x : Str} {sp : Sp} {st : Shared} {vs : List Value} {ns : List Int}
    (inK : K.In st.heap) (ng : st.heap.Ns mainGlobals mg) (nb : st.heap.Ns builtinsNs mb) (bb : ∀ x : Str, x ≠ "__name__" → mb x = bootBuiltins x) (nl : st.heap.NoLimit) (gn : st.gens = #[])
    (sa : st.heap.get? a = some { cls := .type "list", data := .seq vs.toArray }) (ia : IntsAre vs ns) (few : ns.length ≤ sizeLine) (hr : Room k callerA)
    (F : ∀ base : Heap, K.In base → base.Ns mainGlobals mg → FnG P w K mg base CX0 k fa fd [x] sp) (bi : ∀ (s : Shared) (u : Value), BindsTo s fd ⟨[u], []⟩ [(x, u)])
    (hs : ∀ H : Hp, SqL K H a (ns.map V.int) → sp [.ref a] H (fun v _ => v = .bl true) fun _ _ _ => False) :
    codeAny (model P w) callerA (.call (.ref fa) ⟨[.ref a], []⟩) (fun r s' => r = .ok (.ret (.bool true)) ∧ PySem.OldK st.heap s'.heap ∧ s'.os = st.os ∧ AllBare s'.gens) st := by
  have rel := vals_ints ia
  have lens := ia.length
  -- what is tracked at the entry: nothing, or the script alone
  have go : ∀ H : Hp, (∀ b, H b = none ∨ (b = a ∧ H b = some (.frz { cls := .type "list", data := .seq vs.toArray } (.lst (ns.map V.int))))) → SqL K H a (ns.map V.int) → HOk P w H st.heap → (H a ≠ none → K.lookup a = none) →
      codeAny (model P w) callerA (.call (.ref fa) ⟨[.ref a], []⟩) (fun r s' => r = .ok (.ret (.bool true)) ∧ PySem.OldK st.heap s'.heap ∧ s'.os = st.os ∧ AllBare s'.gens) st := by
    intro H only sq hok notK
    have isA : ∀ {b : Addr}, H b ≠ none → b = a := fun {b} h => (only b).elim (fun z => absurd z h) fun z => z.1
    have free : ∀ {b : Addr} {o : Obj} {es : Array DictEntry} {ep : Nat}, st.heap.get? b = some o → o.data = .dict es ep → H b = none := fun {b o es ep} e d => by
      rcases only b with z | ⟨rfl, z⟩
      · exact z
      · rw [sa] at e
        cases e
        have d' : Data.seq vs.toArray _ = Data.dict es ep := d
        cases d'
    have hid : ∀ {b : Addr} {m : Str → Option Value}, st.heap.Ns b m → (hidT st.heap H).Ns b m := fun {b m} ⟨o, es, ep, e, d, r⟩ => ⟨o, es, ep, hidT_get e (free e d), d, r⟩
    have kb : K.In (hidT st.heap H) := fun b o e => by
      refine hidT_get (inK b o e) ?_
      rcases only b with z | ⟨rfl, z⟩
      · exact z
      · rw [notK (by rw [z]; simp)] at e
        cases e
    have md : Mod K mg (hidT st.heap H) := by
      obtain ⟨mc, c1, c2⟩ := nl
      exact ⟨kb, hid ng, ⟨mb, hid nb, bb⟩, ⟨mc, hid c1, c2⟩⟩
    have ev : Env0 P w K mg (hidT st.heap H) callerA [] st H := ⟨rfl, md, fun b o e => of_hidT e, Nat.le_of_eq (hidT_size _ _), trivial, fun b hb => absurd (show b ∈ ([] : List Addr) from hb) (by simp), hok, .of_eq gn⟩
    have run := (F _ kb (hid ng)).run callerA [] st H ⟨[.ref a], []⟩ [.ref a] [.ref a] _ _ rfl hr ev (bi st (.ref a)) (.cons rfl .nil) (hs H sq)
    refine codeAny_mono run fun r s' q => ?_
    cases r with
    | error e => exact q.elim
    | ok fl =>
      cases fl with
      | next => exact q.elim
      | brk => exact q.elim
      | cont => exact q.elim
      | ret u =>
        obtain ⟨v, H', os, bare, un, hok', rv, ev⟩ := q
        have ev' : v = .bl true := ev
        subst ev'
        cases (show u = Value.bool true from rv)
        refine ⟨rfl, PySem.OldK.of_keep fun b o e => ?_, os, bare⟩
        rcases only b with z | ⟨rfl, z⟩
        · exact un.keep b o e z (by intro h; exact absurd (show b ∈ ([] : List Addr) from h) (by simp)) (by simp)
        · have z2 := un.frzs _ _ _ z
          obtain ⟨g1, _⟩ := hok _ _ z
          obtain ⟨g2, _⟩ := hok' _ _ z2
          rw [e] at g1
          cases g1
          exact g2
  cases hk : K.lookup a with
  | some o =>
    have e := inK a o hk
    rw [sa] at e
    cases e
    exact go (fun _ => none) (fun _ => .inl rfl) (.inr ⟨_, vs.toArray, _, hk, rfl, rfl, rfl, by rw [List.size_toArray, lens]; exact few, by simpa using rel⟩) (fun b u z => by
      have z' : (none : Option HO) = some u := z
      cases z') fun z => absurd rfl z
  | none =>
    refine go (fun b => if b = a then some (.frz { cls := .type "list", data := .seq vs.toArray } (.lst (ns.map V.int))) else none) (fun b => ?_) (.inl (.inr ⟨_, if_pos rfl⟩)) (fun b u z => ?_) fun _ => hk
    · by_cases hb : b = a
      · exact .inr ⟨hb, if_pos hb⟩
      · exact .inl (if_neg hb)
    · by_cases hb : b = a
      · have z' := (if_pos hb).symm.trans z
        cases z'
        subst hb
        exact ⟨sa, by rw [List.length_map]; exact few, vs, _, rel, sa⟩
      · have z' := (if_neg hb).symm.trans z
        cases z'
theorem walkG {l : PySem.W.OpenLaw} {n k : Nat} {q : Program} {loose : List Str} {XP : (Str → Option Value) → Heap → Prop} {YP : World → Heap → Prop} {d : DefRec} {K : Params → PySem.W.Frag} {sp : PySem.W.Frag → Sp} {x : Str}
    (hn : l.most = some n) (h2 : n ≤ sizeLine) (hd : d.params.defaults = []) (hr : Room k callerA) (hY : ∀ (w : World) (h : Heap), YP w h → (K w.params).In h)
    (F : ∀ (w : World) (mg : Str → Option Value) (fa : Addr) (h : Heap), (K w.params).In h → h.Ns mainGlobals mg → mg d.name = some (.ref fa) →
      ∃ fd : FuncData, (∀ (s : Shared) (u : Value), BindsTo s fd ⟨[u], []⟩ [(x, u)]) ∧ ∀ base : Heap, (K w.params).In base → base.Ns mainGlobals mg → FnG l.prog w (K w.params) mg base CX0 k fa fd [x] (sp (K w.params)))
    (hs : ∀ (K : PySem.W.Frag) (H : Hp) (a : Addr) (ns : List Int), ns.length ≤ n → SqL K H a (ns.map V.int) → sp K [.ref a] H (fun v _ => v = .bl true) fun _ _ _ => False) :
    PySem.W.WalkO q loose XP YP l.row.toRowW d [] (fun f vs => PySem.call f vs) := by
  refine Att.attach_call hn hd fun w s₀ st mg mb fa o pm cd doc a vs ns G Y ho hdt hcd hmg hobj hints hlen hg => ?_
  have inK := hY w _ Y
  obtain ⟨fd, hb, hF⟩ := F w mg fa _ inK G.T.g hmg
  exact lawG inK G.T.g G.T.b G.T.builtins G.T.nolimit hg hobj hints (Nat.le_trans hlen h2) hr hF hb fun H sq => hs _ H a ns hlen sq
end Grd

/-! the law -/
namespace Km
open PySem L2 Xr Grd
abbrev sLaw : Stmt := top 34
theorem scLaw : FnScope ["script", "deal", "turn", "node", "marks", "step", "value", "begins"] ["script"] (defScope sLaw) := ⟨rfl, rfl, rfl, by decide +kernel, rfl, by decide +kernel, by decide +kernel⟩
def spLaw (K : PySem.W.Frag) : Sp := fun vs H Q _ => ∃ (a : Addr) (ns : List Int), vs = [.ref a] ∧ SqL K H a (ns.map V.int) ∧ ns.length ≤ 63 ∧ ∀ H', Q (.bl true) H'
def optD : Option Int → PyData
  | none => .none
  | some i => .int i
theorem dp_opt {K : PySem.W.Frag} {H : Hp} (o : Option Int) : Dp K H (optI o) (optD o) := by
  cases o with
  | none => exact .non
  | some i => exact .int i
theorem same_text (z : V) : (!decide (z = z)) = false := by simp
theorem wr_le : ∀ (ds : List PyData) (i n : Nat) (j m : Nat), wr ds i n = (some j, m) → j ≤ i + ds.length
  | [], i, n, j, m, h => by
    have e : ((none : Option Nat), n) = (some j, m) := h
    cases e
  | d :: ds, i, n, j, m, h => by
    have e : wr (d :: ds) i n = if kindD d = 0 ∨ (n = 0 ∧ (0 < i ∨ kindD d ≠ 1)) then (some i, n) else wr ds (i + 1) (nxt (kindD d) n) := rfl
    rw [e] at h
    rw [List.length_cons]
    by_cases hc : kindD d = 0 ∨ (n = 0 ∧ (0 < i ∨ kindD d ≠ 1))
    · rw [if_pos hc] at h
      injection h with h1 h2
      injection h1 with h1
      omega
    · rw [if_neg hc] at h
      have := wr_le ds (i + 1) _ j m h
      omega
theorem due_tup (ds : List PyData) : dueD (.tuple ds) = match wr ds 0 0 with
    | (some i, _) => some (i : Int)
    | (none, n) => if 0 < n ∨ ds = [] then some (ds.length : Int) else none := rfl
theorem rp_due {d : PyData} (h : Val d) : Rp 60 10000000 (optD (dueD d)) := by
  have one : Rp 60 10000000 (optD (some (-1))) := (rp_int (i := -1) (by decide)).mono (by decide) (by decide)
  cases h with
  | non => exact one
  | int => exact one
  | str s h => exact one
  | lst ds => exact one
  | tup ds h l =>
    rw [due_tup]
    cases e : wr ds 0 0 with
    | mk o n =>
      cases o with
      | some i =>
        have := wr_le ds 0 0 i n e
        exact (rp_int (i := (i : Int)) (by omega)).mono (by decide) (by decide)
      | none =>
        show Rp 60 10000000 (optD (if 0 < n ∨ ds = [] then some (ds.length : Int) else none))
        by_cases hc : 0 < n ∨ ds = []
        · rw [if_pos hc]
          exact (rp_int (i := (ds.length : Int)) (by omega)).mono (by decide) (by decide)
        · rw [if_neg hc]
          exact rp_none.mono (by decide) (by decide)
theorem val_cases {d : PyData} (h : Val d) : (isTup d = false ∧ dueD d = some (-1) ∧ beginD d = false) ∨ ∃ ds, d = .tuple ds ∧ (∀ x ∈ ds, MkL x) ∧ ds.length ≤ 400 := by
  cases h with
  | non => exact .inl ⟨rfl, rfl, rfl⟩
  | int => exact .inl ⟨rfl, rfl, rfl⟩
  | str s h => exact .inl ⟨rfl, rfl, rfl⟩
  | lst ds => exact .inl ⟨rfl, rfl, rfl⟩
  | tup ds h l => exact .inr ⟨ds, rfl, h, l⟩
theorem left_tup (ds : List PyData) : leftD (.tuple ds) = match wr ds 0 0 with
    | (some i, _) => .error (i : Int)
    | (none, n) => .ok (if ds = [] then 1 else n) := rfl
theorem begin_eq (ds : List PyData) : decide (optV (wr ds 0 0).1 = V.non) = beginD (.tuple ds) := by
  unfold beginD
  rw [left_tup]
  cases e : wr ds 0 0 with
  | mk o n =>
    cases o with
    | some i => rfl
    | none => rfl
theorem begin_wr {ds : List PyData} (h : beginD (.tuple ds) = true) : (wr ds 0 0).1 = none := by
  unfold beginD at h
  rw [left_tup] at h
  cases e : wr ds 0 0 with
  | mk o n =>
    rw [e] at h
    cases o with
    | some i => cases h
    | none => rfl
theorem due_none_begin {ds : List PyData} (h : dueD (.tuple ds) = none) : beginD (.tuple ds) = true := by
  unfold beginD
  rw [left_tup]
  rw [due_tup] at h
  cases e : wr ds 0 0 with
  | mk o n =>
    rw [e] at h
    cases o with
    | some i => cases h
    | none => rfl
theorem due_parse {ds : List PyData} (hm : ∀ d ∈ ds, MkL d) (h : dueD (.tuple ds) = none) : ∃ t : Doc, ds = t.marks := by
  rw [due_tup] at h
  cases e : wr ds 0 0 with
  | mk o n =>
    rw [e] at h
    cases o with
    | some i => cases h
    | none =>
      have h' : (if 0 < n ∨ ds = [] then some (ds.length : Int) else none) = none := h
      by_cases hc : 0 < n ∨ ds = []
      · rw [if_pos hc] at h'
        cases h'
      · have n0 : n = 0 := by omega
        rw [n0] at e
        exact parse hm (fun z => hc (.inr z)) e
theorem deal_same {H H' : Hp} {d c : Addr} (D : DealAt H d c) (s : Same H H') : DealAt H' d c := by
  obtain ⟨cs, b, h1, h2, r⟩ := D.ex
  exact ⟨cs, b, s _ _ h1, s _ _ h2, r⟩
structure LawTxt (K : PySem.W.Frag) (mg : Str → Option Value) (a_law_deal a_law_node a_law_marks a_law_turned a_law_told a_law_due a_law_wrong a_law_place a_marks_of a_node_of a_is_beginning a_place_behind : Addr) : Prop where
  n_range : mg "range" = none
  n_tuple : mg "tuple" = none
  n_repr : mg "repr" = none
  n_isinstance : mg "isinstance" = none
  g_law_deal : mg "_law_deal" = some (.ref a_law_deal)
  k_law_deal : PySem.W.keepIn K (.ref a_law_deal) = true
  g_law_node : mg "_law_node" = some (.ref a_law_node)
  k_law_node : PySem.W.keepIn K (.ref a_law_node) = true
  g_law_marks : mg "_law_marks" = some (.ref a_law_marks)
  k_law_marks : PySem.W.keepIn K (.ref a_law_marks) = true
  g_law_turned : mg "_law_turned" = some (.ref a_law_turned)
  k_law_turned : PySem.W.keepIn K (.ref a_law_turned) = true
  g_law_told : mg "_law_told" = some (.ref a_law_told)
  k_law_told : PySem.W.keepIn K (.ref a_law_told) = true
  g_law_due : mg "_law_due" = some (.ref a_law_due)
  k_law_due : PySem.W.keepIn K (.ref a_law_due) = true
  g_law_wrong : mg "_law_wrong" = some (.ref a_law_wrong)
  k_law_wrong : PySem.W.keepIn K (.ref a_law_wrong) = true
  g_law_place : mg "_law_place" = some (.ref a_law_place)
  k_law_place : PySem.W.keepIn K (.ref a_law_place) = true
  g_marks_of : mg "marks_of" = some (.ref a_marks_of)
  k_marks_of : PySem.W.keepIn K (.ref a_marks_of) = true
  g_node_of : mg "node_of" = some (.ref a_node_of)
  k_node_of : PySem.W.keepIn K (.ref a_node_of) = true
  g_is_beginning : mg "is_beginning" = some (.ref a_is_beginning)
  k_is_beginning : PySem.W.keepIn K (.ref a_is_beginning) = true
  g_place_behind : mg "place_behind" = some (.ref a_place_behind)
  k_place_behind : PySem.W.keepIn K (.ref a_place_behind) = true
section
variable {P : Program} {w : World} {K : PySem.W.Frag} {mg : Str → Option Value} {base : Heap} {a_law_deal a_law_node a_law_marks a_law_turned a_law_told a_law_due a_law_wrong a_law_place a_marks_of a_node_of a_is_beginning a_place_behind : Addr} {fd_law_deal fd_law_node fd_law_marks fd_law_turned fd_law_told fd_law_due fd_law_wrong fd_law_place fd_marks_of fd_node_of fd_is_beginning fd_place_behind : FuncData}
theorem ok_law {f : Addr} {fd : FuncData} (F : Fun K "law" "law" sLaw f fd) (T : LawTxt K mg a_law_deal a_law_node a_law_marks a_law_turned a_law_told a_law_due a_law_wrong a_law_place a_marks_of a_node_of a_is_beginning a_place_behind)
    (G_law_deal : FnOk P w K mg base CX0 1 a_law_deal fd_law_deal ["script", "base"] (spDeal K)) (b_law_deal : Binds K fd_law_deal ["script", "base"] [])
    (G_law_node : FnOk P w K mg base CX0 13 a_law_node fd_law_node ["deal", "names", "room"] (spLNode K 9)) (b_law_node : Binds K fd_law_node ["deal", "names", "room"] [])
    (G_law_marks : FnOk P w K mg base CX0 10 a_law_marks fd_law_marks ["thing"] (spLMarks K 9)) (b_law_marks : Binds K fd_law_marks ["thing"] [])
    (G_law_turned : FnOk P w K mg base CX0 3 a_law_turned fd_law_turned ["deal", "marks"] (spTurned K)) (b_law_turned : Binds K fd_law_turned ["deal", "marks"] [])
    (G_law_told : FnOk P w K mg base CX0 6 a_law_told fd_law_told ["value"] (spTold K)) (b_law_told : Binds K fd_law_told ["value"] [])
    (G_law_due : FnOk P w K mg base CX0 3 a_law_due fd_law_due ["value"] (spDue K)) (b_law_due : Binds K fd_law_due ["value"] [])
    (G_law_wrong : FnOk P w K mg base CX0 2 a_law_wrong fd_law_wrong ["value"] (spWrong K)) (b_law_wrong : Binds K fd_law_wrong ["value"] [])
    (G_law_place : FnOk P w K mg base CX0 1 a_law_place fd_law_place ["marks"] (spPlace K)) (b_law_place : Binds K fd_law_place ["marks"] [])
    (G_marks_of : FnOk P w K mg base CX0 1 a_marks_of fd_marks_of ["node"] (spMarksOf K)) (b_marks_of : Binds K fd_marks_of ["node"] [])
    (G_node_of : FnOk P w K mg base CX0 1 a_node_of fd_node_of ["marks"] (spNodeOf K)) (b_node_of : Binds K fd_node_of ["marks"] [])
    (G_is_beginning : FnOk P w K mg base CX0 5 a_is_beginning fd_is_beginning ["value"] (spBegin K)) (b_is_beginning : Binds K fd_is_beginning ["value"] [])
    (G_place_behind : FnOk P w K mg base CX0 1 a_place_behind fd_place_behind ["marks"] (spPlace K)) (b_place_behind : Binds K fd_place_behind ["marks"] [])
    (kb_marks_of : ∀ (s : Shared) (u : Value), BindsTo s fd_marks_of ⟨[], [("node", u)]⟩ [("node", u)]) (kb_node_of : ∀ (s : Shared) (u : Value), BindsTo s fd_node_of ⟨[], [("marks", u)]⟩ [("marks", u)]) (kb_is_beginning : ∀ (s : Shared) (u : Value), BindsTo s fd_is_beginning ⟨[], [("value", u)]⟩ [("value", u)]) (kb_place_behind : ∀ (s : Shared) (u : Value), BindsTo s fd_place_behind ⟨[], [("marks", u)]⟩ [("marks", u)]) : FnG P w K mg base CX0 14 f fd ["script"] (spLaw K) := by
  refine fng_of F scLaw (fun vs H Q E h => ?_) (fun cdv A outer s H vs Q E gd hr h => ?_)
  · obtain ⟨a, ns, rfl, _⟩ := h
    rfl
  · obtain ⟨a, ns, rfl, hS, l, k⟩ := h
    have hr_law_deal : Room 1 _ := hr.mono (by decide)
    have hr_law_node : Room 13 _ := hr.mono (by decide)
    have hr_law_marks : Room 10 _ := hr.mono (by decide)
    have hr_law_turned : Room 3 _ := hr.mono (by decide)
    have hr_law_told : Room 6 _ := hr.mono (by decide)
    have hr_law_due : Room 3 _ := hr.mono (by decide)
    have hr_law_wrong : Room 2 _ := hr.mono (by decide)
    have hr_law_place : Room 1 _ := hr.mono (by decide)
    have hr_marks_of : Room 1 _ := hr.mono (by decide)
    have hr_node_of : Room 1 _ := hr.mono (by decide)
    have hr_is_beginning : Room 5 _ := hr.mono (by decide)
    have hr_place_behind : Room 1 _ := hr.mono (by decide)
    refine ⟨_, PSs.nox (pss_cons (ps_set (i := 1) scLaw.nd rfl (Or.inl rfl) (pe_call G_law_deal hr_law_deal rfl T.g_law_deal T.k_law_deal b_law_deal .nil pass0 (pa_cons (pv 0) (pa_cons pe_int pa_nil))))
      (pss_cons (ps_for PassesOwn.never rfl (pi_range1 (by rfl) T.n_range (pa_cons pe_int pa_nil)) (pg_name (i := 2) scLaw.nd rfl (Or.inl rfl))
      (pss_cons (ps_set (i := 3) scLaw.nd rfl (Or.inl rfl) (pe_call G_law_node hr_law_node rfl T.g_law_node T.k_law_node b_law_node .nil pass0 (pa_cons (pv 1) (pa_cons (pe_lst (pa_cons pe_str (pa_cons pe_str (pa_cons pe_str pa_nil)))) (pa_cons (pe_lst (pa_cons pe_int pa_nil)) pa_nil)))))
      (pss_cons (ps_set (i := 4) scLaw.nd rfl (Or.inl rfl) (pe_callTy call_tuple_of (by rfl) T.n_tuple (by decide +kernel) (pa_cons (pe_call G_law_marks hr_law_marks rfl T.g_law_marks T.k_law_marks b_law_marks .nil pass0 (pa_cons (pv 3) pa_nil)) pa_nil)))
      (pss_cons (ps_if (PW.pt (pw_or (pt_cmpR op_ne (pe_callB (Grd.call_repr gd hr.units) (by rfl) T.n_repr (by decide +kernel) (pa_cons (pe_kw0 G_marks_of hr_marks_of (by rfl) T.g_marks_of T.k_marks_of kb_marks_of (fun σ => at0 pass0 σ) (by exact (pk_cons (pv 3) pk_nil))) pa_nil)) (pe_callB (Grd.call_repr gd hr.units) (by rfl) T.n_repr (by decide +kernel) (pa_cons (pv 4) pa_nil)) (nomark _)) (pw_or1 (pt_cmpR op_ne (pe_callB (Grd.call_repr gd hr.units) (by rfl) T.n_repr (by decide +kernel) (pa_cons (pe_kw0 G_node_of hr_node_of (by rfl) T.g_node_of T.k_node_of kb_node_of (fun σ => at0 pass0 σ) (by exact (pk_cons (pv 4) pk_nil))) pa_nil)) (pe_callB (Grd.call_repr gd hr.units) (by rfl) T.n_repr (by decide +kernel) (pa_cons (pv 3) pa_nil)) (nomark _)))))
      (pss_one (ps_ret pe_bl))
      pss_nil)
      (pss_one (ps_for PassesOwn.never rfl (pi_range1 (by rfl) T.n_range (pa_cons pe_int pa_nil)) (pg_name (i := 5) scLaw.nd rfl (Or.inl rfl))
      (pss_cons (ps_set (i := 6) scLaw.nd rfl (Or.inl rfl) (pe_ifExp (pt_cmpR op_gt (pv 5) pe_int (nomark _)) (pe_call G_law_turned hr_law_turned rfl T.g_law_turned T.k_law_turned b_law_turned .nil pass0 (pa_cons (pv 1) (pa_cons (pv 4) pa_nil))) (pv 4)))
      (pss_cons (ps_if (pt_cmpR op_ne (pe_callB (Grd.call_repr gd hr.units) (by rfl) T.n_repr (by decide +kernel) (pa_cons (pe_call G_law_told hr_law_told rfl T.g_law_told T.k_law_told b_law_told .nil pass0 (pa_cons (pv 6) pa_nil)) pa_nil)) (pe_callB (Grd.call_repr gd hr.units) (by rfl) T.n_repr (by decide +kernel) (pa_cons (pe_call G_law_due hr_law_due rfl T.g_law_due T.k_law_due b_law_due .nil pass0 (pa_cons (pv 6) pa_nil)) pa_nil)) (nomark _))
      (pss_one (ps_ret pe_bl))
      pss_nil)
      (pss_cons (ps_set (i := 7) scLaw.nd rfl (Or.inl rfl) (pe_and (pe_callB call_isi (by rfl) T.n_isinstance (by decide +kernel) (pa_cons (pv 6) (pa_cons (pe_bltn (v := V.ty "tuple") (u := .type "tuple") (by rfl) T.n_tuple (by decide +kernel) (by rfl)) pa_nil))) (pe_one (pe_cmpR op_isN (pe_ix ix_tup (pe_call G_law_wrong hr_law_wrong rfl T.g_law_wrong T.k_law_wrong b_law_wrong .nil pass0 (pa_cons (pv 6) pa_nil)) pe_int (fun _ _ => rfl)) pe_non (nomark _)))))
      (pss_cons (ps_if (pt_cmpR op_ne (pe_callB (Grd.call_repr gd hr.units) (by rfl) T.n_repr (by decide +kernel) (pa_cons (pe_kw0 G_is_beginning hr_is_beginning (by rfl) T.g_is_beginning T.k_is_beginning kb_is_beginning (fun σ => at0 pass0 σ) (by exact (pk_cons (pv 6) pk_nil))) pa_nil)) (pe_callB (Grd.call_repr gd hr.units) (by rfl) T.n_repr (by decide +kernel) (pa_cons (pv 7) pa_nil)) (nomark _))
      (pss_one (ps_ret pe_bl))
      pss_nil)
      (pss_cons (ps_if (PW.pt (pw_and (pt_truth (pv 7) (by intro _; rfl)) (pw_and1 (pt_cmpR op_ne (pe_callB (Grd.call_repr gd hr.units) (by rfl) T.n_repr (by decide +kernel) (pa_cons (pe_kw0 G_place_behind hr_place_behind (by rfl) T.g_place_behind T.k_place_behind kb_place_behind (fun σ => at0 pass0 σ) (by exact (pk_cons (pv 6) pk_nil))) pa_nil)) (pe_callB (Grd.call_repr gd hr.units) (by rfl) T.n_repr (by decide +kernel) (pa_cons (pe_call G_law_place hr_law_place rfl T.g_law_place T.k_law_place b_law_place .nil pass0 (pa_cons (pv 6) pa_nil)) pa_nil)) (nomark _)))))
      (pss_one (ps_ret pe_bl))
      pss_nil)
      (pss_one (ps_if (PW.pt (pw_and (pt_cmpR op_isN (pe_call G_law_due hr_law_due rfl T.g_law_due T.k_law_due b_law_due .nil pass0 (pa_cons (pv 6) pa_nil)) pe_non (nomark _)) (pw_and1 (pt_cmpR op_ne (pe_callB (Grd.call_repr gd hr.units) (by rfl) T.n_repr (by decide +kernel) (pa_cons (pe_call G_marks_of hr_marks_of rfl T.g_marks_of T.k_marks_of b_marks_of .nil pass0 (pa_cons (pe_call G_node_of hr_node_of rfl T.g_node_of T.k_node_of b_node_of .nil pass0 (pa_cons (pv 6) pa_nil)) pa_nil)) pa_nil)) (pe_callB (Grd.call_repr gd hr.units) (by rfl) T.n_repr (by decide +kernel) (pa_cons (pv 6) pa_nil)) (nomark _)))))
      (pss_one (ps_ret pe_bl))
      pss_nil)))))))))))))
      (pss_one (ps_ret pe_bl)))), ?_⟩
    refine ⟨_, rfl, a, ns, rfl, hS, l, fun d c H1 D1 s1 _ _ => ⟨3, rfl, by decide, by decide, ?_⟩⟩
    refine for_range (lo := 0) (n := 3) (fun i σ H2 => ∃ x2 x3 x4 x5 x6 x7 : Option V, σ = [some (.ref a), some (.ref d), x2, x3, x4, x5, x6, x7] ∧ DealAt H2 d c) ⟨none, none, none, none, none, none, rfl, D1⟩ ?_ (fun σ H2 ⟨_, _, _, _, _, _, _, _⟩ => k _)
    rintro i σ H2 _ ⟨x2, x3, x4, x5, x6, x7, rfl, D2⟩
    -- node
    refine ⟨_, rfl, (by show 3 ≤ sizeLine; decide), fun nm hnm => ⟨(by show 1 ≤ sizeLine; decide), fun r hr0 => ?_⟩⟩
    have nr : nm ≠ r := ne_of_none upd_same hr0
    have D3 := D2.new (o := .lst [.str "x", .str "y", .str "abcdefgh"]) hnm
    have rn := D3.ne hr0
    have nn := D2.ne hnm
    have D4 := D3.new (o := .lst [.int 9]) hr0
    refine ⟨d, c, nm, r, 9, rfl, D4, by rw [upd_ne nr, upd_same], upd_same, rn.1, rn.2, (fun z => z.elim nn.1 fun z => z.elim nn.2 nr), by decide, by decide, fun v x ts k' H5 hg hn dm D5 _ _ => ?_⟩
    have hN5 : ∀ a, DN d c a → Trk H5 a := by
      rintro a (z | z)
      · rw [z]
        exact D5.trk.1
      · rw [z]
        exact D5.trk.2
    have dv : Dm K (DN d c) H5 v (Doc.nod x ts).dat := Dm.mono (fun a _ z => by
      rcases z with z | z
      · rw [z]
        exact D4.trk.1
      · rw [z]
        exact D4.trk.2) Bt.refl _ _ dm
    clear dm
    have hnc : nc (.nod x ts) ≤ 9 := by omega
    have hml := marks_le _ hg
    have hmk := marks_mk _ hg
    have rpd := (rp_doc _ hg).mono (n' := 60) (B' := 10000000) (by omega) (by omega)
    generalize Doc.nod x ts = t at hg hnc hml hmk rpd dv ⊢
    clear hn
    have mpos := marks_pos t
    have rpm := rp_marks (fun m hm => (hmk m hm).1) (show t.marks.length ≤ 900 by omega)
    -- marks
    refine ⟨_, rfl, v, t, _, rfl, hN5, dv, hnc, by omega, fun L xs H6 hL dx s6 => ⟨L, xs, rfl, .inl ⟨SqL.of hL, fun m hm => ?_⟩⟩⟩
    have s7 := s6.new (o := .tup xs) hm
    have D7 := deal_same D5 s7
    have dm7 : Dm K (DN d c) (upd H6 m (.tup xs)) (.ref m) (.tuple t.marks) := .tup upd_same (not_new hN5 s6 hm) (dx.up (Bt.refl.new hm))
    have dv7 := dv.up (Bt.same s7)
    generalize upd H6 m (.tup xs) = H7 at D7 dm7 dv7 ⊢
    have hN7 : ∀ a, DN d c a → Trk H7 a := by
      rintro a (z | z)
      · rw [z]
        exact D7.trk.1
      · rw [z]
        exact D7.trk.2
    clear hN5 dv dx s7 s6
    -- there and back
    refine ⟨_, rfl, v, t, _, rfl, hN7, dv7, by omega, fun u1 H8 du1 s8 => ⟨_, _, rfl, Dm.dp _ _ du1, rpm.sh, PyData.hasDict_of_canLay _ rpm.lay, rpm.dep, by have := rpm.len; rw [sizeLine_eq]; omega, ?_⟩⟩
    refine ⟨_, rfl, _, _, rfl, Dm.dp _ _ (dm7.up (Bt.same s8)), rpm.sh, PyData.hasDict_of_canLay _ rpm.lay, rpm.dep, by have := rpm.len; rw [sizeLine_eq]; omega, rfl, _, rfl, ?_⟩
    rw [same_text]
    refine iteF ⟨_, rfl, .ref m, t, _, rfl, dm7.up (Bt.same s8), by omega, fun u2 H9 du2 s9 => ⟨_, _, rfl, Dm.dp _ _ du2, rpd.sh, PyData.hasDict_of_canLay _ rpd.lay, rpd.dep, by have := rpd.len; rw [sizeLine_eq]; omega, ?_⟩⟩
    have s79 := s8.trans s9
    refine ⟨_, rfl, _, _, rfl, Dm.dp _ _ (dv7.up (Bt.same s79)), rpd.sh, PyData.hasDict_of_canLay _ rpd.lay, rpd.dep, by have := rpd.len; rw [sizeLine_eq]; omega, rfl, _, rfl, ?_⟩
    rw [same_text]
    refine iteF ⟨4, rfl, by decide, by decide, ?_⟩
    refine for_range (lo := 0) (n := 4) (fun i σ H => ∃ x2 x5 x6 x7 : Option V, σ = [some (.ref a), some (.ref d), x2, some v, some (.ref m), x5, x6, x7] ∧ DealAt H d c ∧ Dm K (DN d c) H (.ref m) (.tuple t.marks)) ⟨_, _, _, _, rfl, deal_same D7 s79, dm7.up (Bt.same s79)⟩ ?_
      (fun σ H ⟨_, _, _, _, e, D, _⟩ => ⟨_, _, _, _, _, _, e, D⟩)
    rintro i σ Hs _ ⟨x2, x5, x6, x7, rfl, Ds, dms⟩
    refine ⟨_, rfl, _, _, rfl, rfl, _, rfl, ite2 (fun _ => ?_) (fun _ => ?_)⟩
    · refine ⟨_, rfl, _, rfl, d, c, .ref m, t.marks, rfl, Ds, dms, fun x hx => (hmk x hx).1, mpos, by omega, fun x hx => (hmk x hx).2, fun u dv H8 hval du D8 b8 => ?_⟩
      have dm8 := dms.up b8

      -- what is told, what is due
      have rpo := rp_due hval
      refine ⟨_, rfl, u, dv, _, rfl, du, hval, fun H9 s9 => ⟨_, _, rfl, dp_opt _, rpo.sh, PyData.hasDict_of_canLay _ rpo.lay, rpo.dep, by have := rpo.len; rw [sizeLine_eq]; omega, ?_⟩⟩
      refine ⟨_, rfl, u, dv, _, rfl, du.up (Bt.same s9), hval, fun H10 s10 => ⟨_, _, rfl, dp_opt _, rpo.sh, PyData.hasDict_of_canLay _ rpo.lay, rpo.dep, by have := rpo.len; rw [sizeLine_eq]; omega, rfl, _, rfl, ?_⟩⟩
      have S10 := s9.trans s10
      rw [same_text]
      refine iteF ⟨_, rfl, _, _, _, _, _, rfl, .ty "tuple", (du.up (Bt.same S10)).ty, kit_tup dv, _, rfl, ?_⟩
      have rb : ∀ b, Rp 0 300 (.bool b) := rp_bool
      rcases val_cases hval with ⟨t1, t2, t3⟩ | ⟨ds, rfl, mk, ln⟩
      · rw [t1]
        refine iteF ⟨_, rfl, u, dv, _, rfl, du.up (Bt.same S10), hval, fun H11 s11 => ⟨_, .bool (beginD dv), rfl, .bl _, rfl, rfl, Nat.le_trans (rb _).dep (by decide), by have := (rb (beginD dv)).len; rw [sizeLine_eq]; omega, ?_⟩⟩
        refine ⟨_, rfl, _, .bool false, rfl, .bl _, rfl, rfl, Nat.le_trans (rb _).dep (by decide), by have := (rb false).len; rw [sizeLine_eq]; omega, rfl, _, rfl, ?_⟩
        rw [t3, same_text]
        have S11 := S10.trans s11
        refine iteF ⟨_, rfl, _, rfl, iteF ?_⟩
        refine ⟨_, rfl, u, dv, _, rfl, du.up (Bt.same S11), hval, fun H12 s12 => ?_⟩
        rw [t2]
        have S12 := S11.trans s12
        exact ⟨rfl, _, rfl, iteF ⟨_, _, _, _, rfl, deal_same D8 S12, dm8.up (Bt.same S12)⟩⟩
      · refine iteT ⟨_, rfl, u, ds, _, rfl, du.up (Bt.same S10), mk, ln, fun p H11 hp s11 => ⟨_, _, _, _, rfl, rfl, SqT.of hp, atI_nat (j := 0) rfl, rfl, ?_⟩⟩
        have S11 := S10.trans s11
        have eb : decide (optV (wr ds 0 0).1 = V.non) = beginD (.tuple ds) := begin_eq ds
        rw [eb]
        refine ⟨_, rfl, u, .tuple ds, _, rfl, du.up (Bt.same S11), hval, fun H12 s12 => ⟨_, .bool (beginD (.tuple ds)), rfl, .bl _, rfl, rfl, Nat.le_trans (rb _).dep (by decide), by have := (rb (beginD (.tuple ds))).len; rw [sizeLine_eq]; omega, ?_⟩⟩
        refine ⟨_, rfl, _, .bool (beginD (.tuple ds)), rfl, .bl _, rfl, rfl, Nat.le_trans (rb _).dep (by decide), by have := (rb (beginD (.tuple ds))).len; rw [sizeLine_eq]; omega, rfl, _, rfl, ?_⟩
        rw [same_text]
        have S12 := S11.trans s12
        refine iteF ⟨_, rfl, _, rfl, ?_⟩
        by_cases hb : beginD (.tuple ds) = true
        · rw [hb]
          have ew := begin_wr hb
          have rpp := rp_place (ds := ds) ln
          refine iteT ⟨_, rfl, u, ds, _, rfl, du.up (Bt.same S12), mk, ln, ew, fun p1 H13 dp1 s13 => ⟨_, _, rfl, Dm.dp _ _ dp1, rpp.sh, PyData.hasDict_of_canLay _ rpp.lay, rpp.dep, by have := rpp.len; rw [sizeLine_eq]; omega, ?_⟩⟩
          have S13 := S12.trans s13
          refine ⟨_, rfl, u, ds, _, rfl, du.up (Bt.same S13), mk, ln, ew, fun p2 H14 dp2 s14 => ⟨_, _, rfl, Dm.dp _ _ dp2, rpp.sh, PyData.hasDict_of_canLay _ rpp.lay, rpp.dep, by have := rpp.len; rw [sizeLine_eq]; omega, rfl, _, rfl, ?_⟩⟩
          have S14 := S13.trans s14
          rw [same_text]
          refine iteF ⟨_, rfl, u, .tuple ds, _, rfl, du.up (Bt.same S14), hval, fun H15 s15 => ⟨rfl, _, rfl, ?_⟩⟩
          have S15 := S14.trans s15
          cases hd : dueD (.tuple ds) with
          | some i => exact iteF ⟨_, _, _, _, rfl, deal_same D8 S15, dm8.up (Bt.same S15)⟩
          | none =>
            obtain ⟨tt, rfl⟩ := due_parse mk hd
            have rpm := rp_marks mk (by omega)
            refine iteT ⟨_, rfl, u, tt, _, rfl, du.up (Bt.same S15), by omega, fun nd H16 dnd s16 => ?_⟩
            refine ⟨nd, tt, F0, rfl, fun _ z => z.elim, dnd, by omega, fun mk2 H17 dmk s17 => ⟨_, _, rfl, Dm.dp _ _ dmk, rpm.sh, PyData.hasDict_of_canLay _ rpm.lay, rpm.dep, by have := rpm.len; rw [sizeLine_eq]; omega, ?_⟩⟩
            have S17 := (S15.trans s16).trans s17
            refine ⟨_, rfl, _, _, rfl, Dm.dp _ _ (du.up (Bt.same S17)), rpm.sh, PyData.hasDict_of_canLay _ rpm.lay, rpm.dep, by have := rpm.len; rw [sizeLine_eq]; omega, rfl, _, rfl, ?_⟩
            rw [same_text]
            exact iteF ⟨_, _, _, _, rfl, deal_same D8 S17, dm8.up (Bt.same S17)⟩
        · have hb' : beginD (.tuple ds) = false := by simpa using hb
          rw [hb']
          refine iteF ⟨_, rfl, u, .tuple ds, _, rfl, du.up (Bt.same S12), hval, fun H15 s15 => ⟨rfl, _, rfl, ?_⟩⟩
          have S15 := S12.trans s15
          cases hd : dueD (.tuple ds) with
          | some i => exact iteF ⟨_, _, _, _, rfl, deal_same D8 S15, dm8.up (Bt.same S15)⟩
          | none => exact absurd (due_none_begin hd) hb

    · refine ⟨_, rfl, ?_⟩
      have D8 := Ds
      have dm8 := dms
      have du := dms
      have hval : Val (.tuple t.marks) := .tup _ (fun x hx => (hmk x hx).1) (by omega)
      generalize hu : V.ref m = u at du dm8 ⊢
      generalize hdv : PyData.tuple t.marks = dv at du hval dm8 ⊢

      -- what is told, what is due
      have rpo := rp_due hval
      refine ⟨_, rfl, u, dv, _, rfl, du, hval, fun H9 s9 => ⟨_, _, rfl, dp_opt _, rpo.sh, PyData.hasDict_of_canLay _ rpo.lay, rpo.dep, by have := rpo.len; rw [sizeLine_eq]; omega, ?_⟩⟩
      refine ⟨_, rfl, u, dv, _, rfl, du.up (Bt.same s9), hval, fun H10 s10 => ⟨_, _, rfl, dp_opt _, rpo.sh, PyData.hasDict_of_canLay _ rpo.lay, rpo.dep, by have := rpo.len; rw [sizeLine_eq]; omega, rfl, _, rfl, ?_⟩⟩
      have S10 := s9.trans s10
      rw [same_text]
      refine iteF ⟨_, rfl, _, _, _, _, _, rfl, .ty "tuple", (du.up (Bt.same S10)).ty, kit_tup dv, _, rfl, ?_⟩
      have rb : ∀ b, Rp 0 300 (.bool b) := rp_bool
      rcases val_cases hval with ⟨t1, t2, t3⟩ | ⟨ds, rfl, mk, ln⟩
      · rw [t1]
        refine iteF ⟨_, rfl, u, dv, _, rfl, du.up (Bt.same S10), hval, fun H11 s11 => ⟨_, .bool (beginD dv), rfl, .bl _, rfl, rfl, Nat.le_trans (rb _).dep (by decide), by have := (rb (beginD dv)).len; rw [sizeLine_eq]; omega, ?_⟩⟩
        refine ⟨_, rfl, _, .bool false, rfl, .bl _, rfl, rfl, Nat.le_trans (rb _).dep (by decide), by have := (rb false).len; rw [sizeLine_eq]; omega, rfl, _, rfl, ?_⟩
        rw [t3, same_text]
        have S11 := S10.trans s11
        refine iteF ⟨_, rfl, _, rfl, iteF ?_⟩
        refine ⟨_, rfl, u, dv, _, rfl, du.up (Bt.same S11), hval, fun H12 s12 => ?_⟩
        rw [t2]
        have S12 := S11.trans s12
        exact ⟨rfl, _, rfl, iteF ⟨_, _, _, _, rfl, deal_same D8 S12, dm8.up (Bt.same S12)⟩⟩
      · refine iteT ⟨_, rfl, u, ds, _, rfl, du.up (Bt.same S10), mk, ln, fun p H11 hp s11 => ⟨_, _, _, _, rfl, rfl, SqT.of hp, atI_nat (j := 0) rfl, rfl, ?_⟩⟩
        have S11 := S10.trans s11
        have eb : decide (optV (wr ds 0 0).1 = V.non) = beginD (.tuple ds) := begin_eq ds
        rw [eb]
        refine ⟨_, rfl, u, .tuple ds, _, rfl, du.up (Bt.same S11), hval, fun H12 s12 => ⟨_, .bool (beginD (.tuple ds)), rfl, .bl _, rfl, rfl, Nat.le_trans (rb _).dep (by decide), by have := (rb (beginD (.tuple ds))).len; rw [sizeLine_eq]; omega, ?_⟩⟩
        refine ⟨_, rfl, _, .bool (beginD (.tuple ds)), rfl, .bl _, rfl, rfl, Nat.le_trans (rb _).dep (by decide), by have := (rb (beginD (.tuple ds))).len; rw [sizeLine_eq]; omega, rfl, _, rfl, ?_⟩
        rw [same_text]
        have S12 := S11.trans s12
        refine iteF ⟨_, rfl, _, rfl, ?_⟩
        by_cases hb : beginD (.tuple ds) = true
        · rw [hb]
          have ew := begin_wr hb
          have rpp := rp_place (ds := ds) ln
          refine iteT ⟨_, rfl, u, ds, _, rfl, du.up (Bt.same S12), mk, ln, ew, fun p1 H13 dp1 s13 => ⟨_, _, rfl, Dm.dp _ _ dp1, rpp.sh, PyData.hasDict_of_canLay _ rpp.lay, rpp.dep, by have := rpp.len; rw [sizeLine_eq]; omega, ?_⟩⟩
          have S13 := S12.trans s13
          refine ⟨_, rfl, u, ds, _, rfl, du.up (Bt.same S13), mk, ln, ew, fun p2 H14 dp2 s14 => ⟨_, _, rfl, Dm.dp _ _ dp2, rpp.sh, PyData.hasDict_of_canLay _ rpp.lay, rpp.dep, by have := rpp.len; rw [sizeLine_eq]; omega, rfl, _, rfl, ?_⟩⟩
          have S14 := S13.trans s14
          rw [same_text]
          refine iteF ⟨_, rfl, u, .tuple ds, _, rfl, du.up (Bt.same S14), hval, fun H15 s15 => ⟨rfl, _, rfl, ?_⟩⟩
          have S15 := S14.trans s15
          cases hd : dueD (.tuple ds) with
          | some i => exact iteF ⟨_, _, _, _, rfl, deal_same D8 S15, dm8.up (Bt.same S15)⟩
          | none =>
            obtain ⟨tt, rfl⟩ := due_parse mk hd
            have rpm := rp_marks mk (by omega)
            refine iteT ⟨_, rfl, u, tt, _, rfl, du.up (Bt.same S15), by omega, fun nd H16 dnd s16 => ?_⟩
            refine ⟨nd, tt, F0, rfl, fun _ z => z.elim, dnd, by omega, fun mk2 H17 dmk s17 => ⟨_, _, rfl, Dm.dp _ _ dmk, rpm.sh, PyData.hasDict_of_canLay _ rpm.lay, rpm.dep, by have := rpm.len; rw [sizeLine_eq]; omega, ?_⟩⟩
            have S17 := (S15.trans s16).trans s17
            refine ⟨_, rfl, _, _, rfl, Dm.dp _ _ (du.up (Bt.same S17)), rpm.sh, PyData.hasDict_of_canLay _ rpm.lay, rpm.dep, by have := rpm.len; rw [sizeLine_eq]; omega, rfl, _, rfl, ?_⟩
            rw [same_text]
            exact iteF ⟨_, _, _, _, rfl, deal_same D8 S17, dm8.up (Bt.same S17)⟩
        · have hb' : beginD (.tuple ds) = false := by simpa using hb
          rw [hb']
          refine iteF ⟨_, rfl, u, .tuple ds, _, rfl, du.up (Bt.same S12), hval, fun H15 s15 => ⟨rfl, _, rfl, ?_⟩⟩
          have S15 := S12.trans s15
          cases hd : dueD (.tuple ds) with
          | some i => exact iteF ⟨_, _, _, _, rfl, deal_same D8 S15, dm8.up (Bt.same S15)⟩
          | none => exact absurd (due_none_begin hd) hb

end
end Km

namespace Km
open PySem L2 Exv Grd Xr
/-! what the top leaves, as one answer each -/
def isB (K : PySem.W.Frag) (C : Addr) : Bool :=
  PySem.W.hasDictIn K C && (decide (PySem.W.findIn K (.ref C) "__getattribute__" = some (some (.builtin "BaseException.__getattribute__"))) && (decide (PySem.W.findIn K (.ref C) "__getattr__" = some none) &&
  (decide (PySem.W.subIn K (.ref C) (.type "BaseException") = some true) && (decide (PySem.W.findIn K (.ref C) "__class__" = some (some (.builtin "object.__class__"))) &&
  (decide (PySem.W.specialIn K (.builtin "object.__class__") "__get__" = some (some (.builtin "getset_descriptor.__get__"))) && (decide (PySem.W.takesIn K (.builtin "object.__class__") = some true) &&
  (decide (PySem.W.mroIn K C (.type "object") = some true) && decide (PySem.W.typeIn K (.ref C) = some (.type "type")))))))))
theorem isB_ok {K : PySem.W.Frag} {C : Addr} (h : isB K C = true) : IsT K C ∧ PySem.W.typeIn K (.ref C) = some (.type "type") := by
  unfold isB at h
  simp only [Bool.and_eq_true, decide_eq_true_eq] at h
  obtain ⟨h1, h2, h3, h4, h5, h6, h7, h8, h9⟩ := h
  exact ⟨⟨h1, h2, h3, h4, h5, h6, h7, h8⟩, h9⟩
def exB (K : PySem.W.Frag) (C fI : Addr) (f : Str) (bm : List Value) (newId : String) : Bool :=
  PySem.W.excInitIn K C bm newId && (PySem.W.excOver K C bm && (decide (PySem.W.findIn K (.ref C) "__init__" = some (some (.ref fI))) && (decide (PySem.W.typeIn K (.ref fI) = some (.type "function")) &&
  (decide (PySem.W.findIn K (.ref C) "__setattr__" = some (some (.builtin "object.__setattr__"))) && (decide (PySem.W.findIn K (.ref C) f = some none) && PySem.W.keepIn K (.ref C))))))
theorem exB_ok {K : PySem.W.Frag} {C fI : Addr} {f : Str} {bm : List Value} {newId : String} (h : exB K C fI f bm newId = true) (t : IsT K C) : ExT K C fI f bm newId := by
  unfold exB at h
  simp only [Bool.and_eq_true, decide_eq_true_eq] at h
  obtain ⟨h1, h2, h3, h4, h5, h6, h7⟩ := h
  exact ⟨h1, h2, h3, h4, h5, h6, t.hd, t.ga, t.gg, t.ex, h7⟩
theorem all_mk {P : Program} {w : World} {K : PySem.W.Frag} {h : Heap} {mg : Str → Option Value} {fa C cP fit fI aC f0 f1 f2 f3 f4 f5 f6 f7 f8 f9 f10 f11 f12 f13 f14 f15 f16 f17 f18 f19 f20 f21 f22 : Addr} {dC : Option Addr} {nC : Nat} {slC : Array (Option Value)} {tC t1 t2 t3 t4 : Tok} (X : K.In h) (G : h.Ns mainGlobals mg) (hfa : mg "law" = some (.ref fa))
    (a0 : PySem.W.nsIn K mainGlobals "_law_deal" = some (some (.ref f0))) (h0 : ∃ fd, Fun K "_law_deal" "_law_deal" sDeal f0 fd)
    (a1 : PySem.W.nsIn K mainGlobals "_law_any" = some (some (.ref f1))) (h1 : ∃ fd, Fun K "_law_any" "_law_any" sAny f1 fd)
    (a2 : PySem.W.nsIn K mainGlobals "_law_of" = some (some (.ref f2))) (h2 : ∃ fd, Fun K "_law_of" "_law_of" sOf f2 fd)
    (a3 : PySem.W.nsIn K mainGlobals "_law_text" = some (some (.ref f3))) (h3 : ∃ fd, Fun K "_law_text" "_law_text" sLText f3 fd)
    (a4 : PySem.W.nsIn K mainGlobals "_law_node" = some (some (.ref f4))) (h4 : ∃ fd, Fun K "_law_node" "_law_node" sLNode f4 fd)
    (a5 : PySem.W.nsIn K mainGlobals "_law_marks" = some (some (.ref f5))) (h5 : ∃ fd, Fun K "_law_marks" "_law_marks" sLMarks f5 fd)
    (a6 : PySem.W.nsIn K mainGlobals "_law_is_mark" = some (some (.ref f6))) (h6 : ∃ fd, Fun K "_law_is_mark" "_law_is_mark" sIsMark f6 fd)
    (a7 : PySem.W.nsIn K mainGlobals "_law_wrong" = some (some (.ref f7))) (h7 : ∃ fd, Fun K "_law_wrong" "_law_wrong" sWrong f7 fd)
    (a8 : PySem.W.nsIn K mainGlobals "_law_due" = some (some (.ref f8))) (h8 : ∃ fd, Fun K "_law_due" "_law_due" sDue f8 fd)
    (a9 : PySem.W.nsIn K mainGlobals "_law_told" = some (some (.ref f9))) (h9 : ∃ fd, Fun K "_law_told" "_law_told" sTold f9 fd)
    (a10 : PySem.W.nsIn K mainGlobals "_law_turned" = some (some (.ref f10))) (h10 : ∃ fd, Fun K "_law_turned" "_law_turned" sTurned f10 fd)
    (a11 : PySem.W.nsIn K mainGlobals "_law_place" = some (some (.ref f11))) (h11 : ∃ fd, Fun K "_law_place" "_law_place" sLPlace f11 fd)
    (a12 : PySem.W.nsIn K mainGlobals "marks_of" = some (some (.ref f12))) (h12 : ∃ fd, Fun K "marks_of" "marks_of" sMarksOf f12 fd)
    (a13 : PySem.W.nsIn K mainGlobals "need_marks" = some (some (.ref f13))) (h13 : ∃ fd, Fun K "need_marks" "need_marks" sNeed f13 fd)
    (a14 : PySem.W.nsIn K mainGlobals "_nodes_left" = some (some (.ref f14))) (h14 : ∃ fd, Fun K "_nodes_left" "_nodes_left" sLeft f14 fd)
    (a15 : PySem.W.nsIn K mainGlobals "mark_word" = some (some (.ref f15))) (h15 : ∃ fd, Fun K "mark_word" "mark_word" sWord f15 fd)
    (a16 : PySem.W.nsIn K mainGlobals "is_beginning" = some (some (.ref f16))) (h16 : ∃ fd, Fun K "is_beginning" "is_beginning" sBegin f16 fd)
    (a17 : PySem.W.nsIn K mainGlobals "node_of" = some (some (.ref f17))) (h17 : ∃ fd, Fun K "node_of" "node_of" sNodeOf f17 fd)
    (a18 : PySem.W.nsIn K mainGlobals "place_behind" = some (some (.ref f18))) (h18 : ∃ fd, Fun K "place_behind" "place_behind" sPlace f18 fd)
    (a19 : PySem.W.nsIn K mainGlobals "is_name" = some (some (.ref f19))) (h19 : ∃ fd, Fun K "is_name" "is_name" sName f19 fd)
    (a20 : PySem.W.nsIn K mainGlobals "is_text" = some (some (.ref f20))) (h20 : ∃ fd, Fun K "is_text" "is_text" sText f20 fd)
    (a21 : PySem.W.nsIn K mainGlobals "_has_only" = some (some (.ref f21))) (h21 : ∃ fd, Fun K "_has_only" "_has_only" sHas f21 fd)
    (a22 : PySem.W.nsIn K mainGlobals "law" = some (some (.ref f22))) (h22 : ∃ fd, Fun K "law" "law" sLaw f22 fd)
    (b0 : PySem.W.nsIn K mainGlobals "InvalidNode" = some (some (.ref C))) (j0 : PySem.W.findIn K (.ref C) "__init__" = some (some (.ref fI))) (g0 : ∃ fd, Fun K "__init__" "InvalidNode.__init__" sI0 fI fd) (e1 : isB K C = true) (e2 : exB K C fI "at" bmExc "Exception.__new__" = true)
    (b1 : PySem.W.nsIn K mainGlobals "InvalidPlace" = some (some (.ref cP))) (b2 : PySem.W.nsIn K mainGlobals "FitError" = some (some (.ref fit)))
    (y1 : PySem.W.kitOne K (.ref C) (.ref fit) = some true) (y2 : PySem.W.kitOne K (.ref C) (.ref cP) = some false) (y3 : PySem.W.exmOne K (.ref C) (.ref C) = some true)
    (c0 : PySem.W.nsIn K mainGlobals "CLOSE" = some (some (.ref aC))) (c1 : K.lookup aC = some { cls := .type "tuple", dict := dC, data := .seq #[.str (Str.ofString "close") tC] nC, slots := slC })
    (c2 : PySem.W.nsIn K mainGlobals "NAME_MOST" = some (some (.int 8 t1))) (c3 : PySem.W.nsIn K mainGlobals "TEXT_MOST" = some (some (.int 16 t2)))
    (c4 : PySem.W.nsIn K mainGlobals "NAME_SIGNS" = some (some (.str abc t3))) (c5 : PySem.W.nsIn K mainGlobals "TEXT_SIGNS" = some (some (.str abc9 t4)))
    (z0 : PySem.W.nsIn K mainGlobals "int" = some none)    (z1 : PySem.W.nsIn K mainGlobals "abs" = some none)    (z2 : PySem.W.nsIn K mainGlobals "len" = some none)    (z3 : PySem.W.nsIn K mainGlobals "range" = some none)
    (z4 : PySem.W.nsIn K mainGlobals "tuple" = some none)    (z5 : PySem.W.nsIn K mainGlobals "isinstance" = some none)    (z6 : PySem.W.nsIn K mainGlobals "str" = some none)    (z7 : PySem.W.nsIn K mainGlobals "list" = some none)
    (z8 : PySem.W.nsIn K mainGlobals "enumerate" = some none)    (z9 : PySem.W.nsIn K mainGlobals "all" = some none)    (z10 : PySem.W.nsIn K mainGlobals "repr" = some none) :
    ∃ fd : FuncData, (∀ (s : Shared) (v : Value), BindsTo s fd ⟨[v], []⟩ [("script", v)]) ∧ ∀ base : Heap, K.In base → base.Ns mainGlobals mg → FnG P w K mg base CX0 14 fa fd ["script"] (spLaw K) := by
  have e := hfa.symm.trans (PySem.W.mg_of X G a22)
  cases e
  obtain ⟨d0, F0⟩ := h0
  obtain ⟨d1, F1⟩ := h1
  obtain ⟨d2, F2⟩ := h2
  obtain ⟨d3, F3⟩ := h3
  obtain ⟨d4, F4⟩ := h4
  obtain ⟨d5, F5⟩ := h5
  obtain ⟨d6, F6⟩ := h6
  obtain ⟨d7, F7⟩ := h7
  obtain ⟨d8, F8⟩ := h8
  obtain ⟨d9, F9⟩ := h9
  obtain ⟨d10, F10⟩ := h10
  obtain ⟨d11, F11⟩ := h11
  obtain ⟨d12, F12⟩ := h12
  obtain ⟨d13, F13⟩ := h13
  obtain ⟨d14, F14⟩ := h14
  obtain ⟨d15, F15⟩ := h15
  obtain ⟨d16, F16⟩ := h16
  obtain ⟨d17, F17⟩ := h17
  obtain ⟨d18, F18⟩ := h18
  obtain ⟨d19, F19⟩ := h19
  obtain ⟨d20, F20⟩ := h20
  obtain ⟨d21, F21⟩ := h21
  obtain ⟨d22, F22⟩ := h22
  obtain ⟨dI, FI⟩ := g0
  have v0 := F0.binds (ps := ["script", "base"]) fun _ _ _ _ _ _ us hl => match us, hl with | [_, _], _ => rfl
  have v1 := F1.binds (ps := ["deal", "bound"]) fun _ _ _ _ _ _ us hl => match us, hl with | [_, _], _ => rfl
  have v2 := F2.binds (ps := ["deal", "some"]) fun _ _ _ _ _ _ us hl => match us, hl with | [_, _], _ => rfl
  have v3 := F3.binds (ps := ["deal"]) fun _ _ _ _ _ _ us hl => match us, hl with | [_], _ => rfl
  have v4 := F4.binds (ps := ["deal", "names", "room"]) fun _ _ _ _ _ _ us hl => match us, hl with | [_, _, _], _ => rfl
  have v5 := F5.binds (ps := ["thing"]) fun _ _ _ _ _ _ us hl => match us, hl with | [_], _ => rfl
  have v6 := F6.binds (ps := ["value"]) fun _ _ _ _ _ _ us hl => match us, hl with | [_], _ => rfl
  have v7 := F7.binds (ps := ["value"]) fun _ _ _ _ _ _ us hl => match us, hl with | [_], _ => rfl
  have v8 := F8.binds (ps := ["value"]) fun _ _ _ _ _ _ us hl => match us, hl with | [_], _ => rfl
  have v9 := F9.binds (ps := ["value"]) fun _ _ _ _ _ _ us hl => match us, hl with | [_], _ => rfl
  have v10 := F10.binds (ps := ["deal", "marks"]) fun _ _ _ _ _ _ us hl => match us, hl with | [_, _], _ => rfl
  have v11 := F11.binds (ps := ["marks"]) fun _ _ _ _ _ _ us hl => match us, hl with | [_], _ => rfl
  have v12 := F12.binds (ps := ["node"]) fun _ _ _ _ _ _ us hl => match us, hl with | [_], _ => rfl
  have v13 := F13.binds (ps := ["value"]) fun _ _ _ _ _ _ us hl => match us, hl with | [_], _ => rfl
  have v14 := F14.binds (ps := ["value"]) fun _ _ _ _ _ _ us hl => match us, hl with | [_], _ => rfl
  have v15 := F15.binds (ps := ["value"]) fun _ _ _ _ _ _ us hl => match us, hl with | [_], _ => rfl
  have v16 := F16.binds (ps := ["value"]) fun _ _ _ _ _ _ us hl => match us, hl with | [_], _ => rfl
  have v17 := F17.binds (ps := ["marks"]) fun _ _ _ _ _ _ us hl => match us, hl with | [_], _ => rfl
  have v18 := F18.binds (ps := ["marks"]) fun _ _ _ _ _ _ us hl => match us, hl with | [_], _ => rfl
  have v19 := F19.binds (ps := ["value"]) fun _ _ _ _ _ _ us hl => match us, hl with | [_], _ => rfl
  have v20 := F20.binds (ps := ["value"]) fun _ _ _ _ _ _ us hl => match us, hl with | [_], _ => rfl
  have v21 := F21.binds (ps := ["value", "signs"]) fun _ _ _ _ _ _ us hl => match us, hl with | [_, _], _ => rfl
  have kb12 : ∀ (s : Shared) (u : Value), BindsTo s d12 ⟨[], [("node", u)]⟩ [("node", u)] := fun s u => by
    obtain ⟨_, _, _, _, _, _, _, _, _, rfl, _, _⟩ := F12.ex
    exact .of_eq rfl
  have kb17 : ∀ (s : Shared) (u : Value), BindsTo s d17 ⟨[], [("marks", u)]⟩ [("marks", u)] := fun s u => by
    obtain ⟨_, _, _, _, _, _, _, _, _, rfl, _, _⟩ := F17.ex
    exact .of_eq rfl
  have kb16 : ∀ (s : Shared) (u : Value), BindsTo s d16 ⟨[], [("value", u)]⟩ [("value", u)] := fun s u => by
    obtain ⟨_, _, _, _, _, _, _, _, _, rfl, _, _⟩ := F16.ex
    exact .of_eq rfl
  have kb18 : ∀ (s : Shared) (u : Value), BindsTo s d18 ⟨[], [("marks", u)]⟩ [("marks", u)] := fun s u => by
    obtain ⟨_, _, _, _, _, _, _, _, _, rfl, _, _⟩ := F18.ex
    exact .of_eq rfl
  have kb13 : ∀ (s : Shared) (u : Value), BindsTo s d13 ⟨[], [("value", u)]⟩ [("value", u)] := fun s u => by
    obtain ⟨_, _, _, _, _, _, _, _, _, rfl, _, _⟩ := F13.ex
    exact .of_eq rfl
  have con : KTup K aC [.str "close"] := ⟨_, _, _, c1, rfl, rfl, (by show 1 ≤ sizeLine; decide), .cons ⟨_, rfl⟩ .nil⟩
  have TL : LNodeTxt K mg f1 f2 f3 f4 := { n_tuple := PySem.W.mg_none_of X G z4, n_range := PySem.W.mg_none_of X G z3, g_law_of := PySem.W.mg_of X G a2, k_law_of := F2.kp, g_law_any := PySem.W.mg_of X G a1, k_law_any := F1.kp, g_law_text := PySem.W.mg_of X G a3, k_law_text := F3.kp, g_law_node := PySem.W.mg_of X G a4, k_law_node := F4.kp }
  have TW : WrongTxt K mg f6 f7 := { n_range := PySem.W.mg_none_of X G z3, n_len := PySem.W.mg_none_of X G z2, n_isinstance := PySem.W.mg_none_of X G z5, n_tuple := PySem.W.mg_none_of X G z4, g_law_is_mark := PySem.W.mg_of X G a6, k_law_is_mark := F6.kp, g_law_wrong := PySem.W.mg_of X G a7, k_law_wrong := F7.kp }
  have TT : TurnedTxt K mg f1 f2 := { n_len := PySem.W.mg_none_of X G z2, n_list := PySem.W.mg_none_of X G z7, g_law_of := PySem.W.mg_of X G a2, k_law_of := F2.kp, g_law_any := PySem.W.mg_of X G a1, k_law_any := F1.kp }
  have TD : WordTxt K mg f21 t1 t2 t3 t4 := { n_isinstance := PySem.W.mg_none_of X G z5, n_str := PySem.W.mg_none_of X G z6, n_len := PySem.W.mg_none_of X G z2, n_all := PySem.W.mg_none_of X G z9, g_NAME_MOST := PySem.W.mg_of X G c2, g_TEXT_MOST := PySem.W.mg_of X G c3, g_NAME_SIGNS := PySem.W.mg_of X G c4, g_TEXT_SIGNS := PySem.W.mg_of X G c5, g_has_only := PySem.W.mg_of X G a21, k_has_only := F21.kp }
  have TO : WordOfTxt K mg f19 f20 aC := { n_isinstance := PySem.W.mg_none_of X G z5, n_tuple := PySem.W.mg_none_of X G z4, n_len := PySem.W.mg_none_of X G z2, g_CLOSE := PySem.W.mg_of X G c0, con := con, g_is_name := PySem.W.mg_of X G a19, k_is_name := F19.kp, g_is_text := PySem.W.mg_of X G a20, k_is_text := F20.kp }
  have TM : MarksOfTxt K mg aC := { n_tuple := PySem.W.mg_none_of X G z4, n_isinstance := PySem.W.mg_none_of X G z5, n_str := PySem.W.mg_none_of X G z6, g_CLOSE := PySem.W.mg_of X G c0, con := con }
  have it := isB_ok e1
  have et := exB_ok e2 it.1
  have TF : LeftTxt K mg C fI f15 f14 := { n_isinstance := PySem.W.mg_none_of X G z5, n_tuple := PySem.W.mg_none_of X G z4, n_enumerate := PySem.W.mg_none_of X G z8, n_len := PySem.W.mg_none_of X G z2, m := PySem.W.mg_of X G b0, t := et, ex := it.1.ex, ty := it.2, one := y3, g_word_of := PySem.W.mg_of X G a15, k_word_of := F15.kp, g_nodes_left := PySem.W.mg_of X G a14, k_nodes_left := F14.kp }
  have TX : ToldTxt K mg C cP fit f13 := { n_isinstance := PySem.W.mg_none_of X G z5, m := PySem.W.mg_of X G b0, mP := PySem.W.mg_of X G b1, mF := PySem.W.mg_of X G b2, it := it.1, no := et.no, one := y3, isF := y1, isP := y2, g_need_marks := PySem.W.mg_of X G a13, k_need_marks := F13.kp }
  have TY : LawTxt K mg f0 f4 f5 f10 f9 f8 f7 f11 f12 f17 f16 f18 := { n_range := PySem.W.mg_none_of X G z3, n_tuple := PySem.W.mg_none_of X G z4, n_repr := PySem.W.mg_none_of X G z10, n_isinstance := PySem.W.mg_none_of X G z5, g_law_deal := PySem.W.mg_of X G a0, k_law_deal := F0.kp, g_law_node := PySem.W.mg_of X G a4, k_law_node := F4.kp, g_law_marks := PySem.W.mg_of X G a5, k_law_marks := F5.kp, g_law_turned := PySem.W.mg_of X G a10, k_law_turned := F10.kp, g_law_told := PySem.W.mg_of X G a9, k_law_told := F9.kp, g_law_due := PySem.W.mg_of X G a8, k_law_due := F8.kp, g_law_wrong := PySem.W.mg_of X G a7, k_law_wrong := F7.kp, g_law_place := PySem.W.mg_of X G a11, k_law_place := F11.kp, g_marks_of := PySem.W.mg_of X G a12, k_marks_of := F12.kp, g_node_of := PySem.W.mg_of X G a17, k_node_of := F17.kp, g_is_beginning := PySem.W.mg_of X G a16, k_is_beginning := F16.kp, g_place_behind := PySem.W.mg_of X G a18, k_place_behind := F18.kp }
  refine ⟨d22, fun s v => ?_, fun base _ _ => ?_⟩
  · obtain ⟨_, _, _, _, _, _, _, _, _, rfl, _, _⟩ := F22.ex
    exact .of_eq rfl
  · have GA : FnOk P w K mg base CX0 1 f1 d1 ["deal", "bound"] (spAny) := ok_any F1 ⟨PySem.W.mg_none_of X G z0⟩
    have GO : FnOk P w K mg base CX0 2 f2 d2 ["deal", "some"] (spOf) := ok_of F2 ⟨PySem.W.mg_none_of X G z2, PySem.W.mg_of X G a1, F1.kp⟩ GA v1
    have GD : FnOk P w K mg base CX0 1 f0 d0 ["script", "base"] (spDeal K) := ok_deal F0 ⟨PySem.W.mg_none_of X G z0, PySem.W.mg_none_of X G z1⟩
    have GT : FnOk P w K mg base CX0 3 f3 d3 ["deal"] (spLText) := ok_ltext F3 TL GO v2
    have GN : FnOk P w K mg base CX0 (4 + 9) f4 d4 ["deal", "names", "room"] (spLNode K 9) := ok_lnode F4 TL v4 GA v1 GO v2 GT v3 9
    have GM : FnOk P w K mg base CX0 (1 + 9) f5 d5 ["thing"] (spLMarks K 9) := ok_lmarks F5 ⟨PySem.W.mg_none_of X G z5, PySem.W.mg_none_of X G z6, PySem.W.mg_of X G a5, F5.kp⟩ v5 9
    have GI : FnOk P w K mg base CX0 1 f6 d6 ["value"] (spIsMark K) := ok_isMark F6 ⟨PySem.W.mg_none_of X G z5, PySem.W.mg_none_of X G z4, PySem.W.mg_none_of X G z6, PySem.W.mg_none_of X G z2⟩
    have GW : FnOk P w K mg base CX0 2 f7 d7 ["value"] (spWrong K) := ok_wrong F7 TW GI v6
    have GU : FnOk P w K mg base CX0 3 f8 d8 ["value"] (spDue K) := ok_due F8 TW GW v7
    have GR : FnOk P w K mg base CX0 3 f10 d10 ["deal", "marks"] (spTurned K) := ok_turned F10 TT GA v1 GO v2
    have GH : FnOk P w K mg base CX0 1 f21 d21 ["value", "signs"] (spHas) := ok_has F21 TD
    have GNm : FnOk P w K mg base CX0 2 f19 d19 ["value"] (spName K) := ok_name F19 TD GH v21
    have GTx : FnOk P w K mg base CX0 2 f20 d20 ["value"] (spText K) := ok_text F20 TD GH v21
    have GWd : FnOk P w K mg base CX0 3 f15 d15 ["value"] (spWord K) := ok_word F15 TO GNm v19 GTx v20
    have GL : FnOk P w K mg base (L2.CX P w) 4 f14 d14 ["value"] (spLeft K C) := ok_left F14 TF FI GWd v15
    have GNd : FnOk P w K mg base (L2.CX P w) 5 f13 d13 ["value"] (spNeed K C) := ok_need F13 TF FI GL v14
    have GB : FnOk P w K mg base CX0 5 f16 d16 ["value"] (spBegin K) := ok_begin F16 TF GL v14
    have GTo : FnOk P w K mg base CX0 6 f9 d9 ["value"] (spTold K) := ok_told F9 TX GNd kb13
    have GMo : FnOk P w K mg base CX0 1 f12 d12 ["node"] (spMarksOf K) := ok_marksOf F12 TM
    have GNo : FnOk P w K mg base CX0 1 f17 d17 ["marks"] (spNodeOf K) := ok_nodeOf F17 ⟨PySem.W.mg_none_of X G z4⟩
    have GP : FnOk P w K mg base CX0 1 f18 d18 ["marks"] (spPlace K) := ok_place F18 ⟨PySem.W.mg_none_of X G z4⟩
    have GLp : FnOk P w K mg base CX0 1 f11 d11 ["marks"] (spPlace K) := ok_lplace F11 ⟨PySem.W.mg_none_of X G z4⟩
    exact ok_law F22 TY GD v0 GN v4 GM v5 GR v10 GTo v9 GU v8 GW v7 GLp v11 GMo v12 GNo v17 GB v16 GP v18 kb12 kb17 kb16 kb18
end Km

open PySem PySem.W PyProof.Rows
set_option maxRecDepth 100000 in
set_option maxHeartbeats 0 in
theorem PySem.Challenge.cw_turnsfit_k34_marks_of_documents_holds : PySem.Challenge.rw_turnsfit_k34_marks_of_documents.Holds := by
  w_on; o_law; k_head; (case hw => w_witness2)
  k_fill
  refine Grd.walkG (l := PySem.Challenge.rw_turnsfit_k34_marks_of_documents) (sp := Km.spLaw) (x := "script") (k := 14) rfl (by decide) rfl ⟨rfl, by decide, by decide⟩ (fun w h Y => PySem.W.kIn_of Y) ?F (fun K H a ns hl hS => ⟨a, ns, rfl, hS, hl, fun _ => rfl⟩)
  case F =>
    intro w mg fa h KX G hmg
    refine' Km.all_mk KX G hmg ?kq_a0 ?kq_h0 ?kq_a1 ?kq_h1 ?kq_a2 ?kq_h2 ?kq_a3 ?kq_h3 ?kq_a4 ?kq_h4 ?kq_a5 ?kq_h5 ?kq_a6 ?kq_h6 ?kq_a7 ?kq_h7 ?kq_a8 ?kq_h8 ?kq_a9 ?kq_h9 ?kq_a10 ?kq_h10 ?kq_a11 ?kq_h11 ?kq_a12 ?kq_h12 ?kq_a13 ?kq_h13 ?kq_a14 ?kq_h14 ?kq_a15 ?kq_h15 ?kq_a16 ?kq_h16 ?kq_a17 ?kq_h17 ?kq_a18 ?kq_h18 ?kq_a19 ?kq_h19 ?kq_a20 ?kq_h20 ?kq_a21 ?kq_h21 ?kq_a22 ?kq_h22 ?kq_b0 ?kq_j0 ?kq_g0 ?kq_e1 ?kq_e2 ?kq_b1 ?kq_b2 ?kq_y1 ?kq_y2 ?kq_y3 ?kq_c0 ?kq_c1 ?kq_c2 ?kq_c3 ?kq_c4 ?kq_c5 ?kq_z0 ?kq_z1 ?kq_z2 ?kq_z3 ?kq_z4 ?kq_z5 ?kq_z6 ?kq_z7 ?kq_z8 ?kq_z9 ?kq_z10
    (case kq_a0 => k_is)
    (case kq_h0 => refine' ⟨_, L2.fun_mk (st := Km.sDeal) ?kql ?kqc ?kqk⟩; (case kql => k_is); (case kqc => k_is); (case kqk => k_is))
    (case kq_a1 => k_is)
    (case kq_h1 => refine' ⟨_, L2.fun_mk (st := Km.sAny) ?kql ?kqc ?kqk⟩; (case kql => k_is); (case kqc => k_is); (case kqk => k_is))
    (case kq_a2 => k_is)
    (case kq_h2 => refine' ⟨_, L2.fun_mk (st := Km.sOf) ?kql ?kqc ?kqk⟩; (case kql => k_is); (case kqc => k_is); (case kqk => k_is))
    (case kq_a3 => k_is)
    (case kq_h3 => refine' ⟨_, L2.fun_mk (st := Km.sLText) ?kql ?kqc ?kqk⟩; (case kql => k_is); (case kqc => k_is); (case kqk => k_is))
    (case kq_a4 => k_is)
    (case kq_h4 => refine' ⟨_, L2.fun_mk (st := Km.sLNode) ?kql ?kqc ?kqk⟩; (case kql => k_is); (case kqc => k_is); (case kqk => k_is))
    (case kq_a5 => k_is)
    (case kq_h5 => refine' ⟨_, L2.fun_mk (st := Km.sLMarks) ?kql ?kqc ?kqk⟩; (case kql => k_is); (case kqc => k_is); (case kqk => k_is))
    (case kq_a6 => k_is)
    (case kq_h6 => refine' ⟨_, L2.fun_mk (st := Km.sIsMark) ?kql ?kqc ?kqk⟩; (case kql => k_is); (case kqc => k_is); (case kqk => k_is))
    (case kq_a7 => k_is)
    (case kq_h7 => refine' ⟨_, L2.fun_mk (st := Km.sWrong) ?kql ?kqc ?kqk⟩; (case kql => k_is); (case kqc => k_is); (case kqk => k_is))
    (case kq_a8 => k_is)
    (case kq_h8 => refine' ⟨_, L2.fun_mk (st := Km.sDue) ?kql ?kqc ?kqk⟩; (case kql => k_is); (case kqc => k_is); (case kqk => k_is))
    (case kq_a9 => k_is)
    (case kq_h9 => refine' ⟨_, L2.fun_mk (st := Km.sTold) ?kql ?kqc ?kqk⟩; (case kql => k_is); (case kqc => k_is); (case kqk => k_is))
    (case kq_a10 => k_is)
    (case kq_h10 => refine' ⟨_, L2.fun_mk (st := Km.sTurned) ?kql ?kqc ?kqk⟩; (case kql => k_is); (case kqc => k_is); (case kqk => k_is))
    (case kq_a11 => k_is)
    (case kq_h11 => refine' ⟨_, L2.fun_mk (st := Km.sLPlace) ?kql ?kqc ?kqk⟩; (case kql => k_is); (case kqc => k_is); (case kqk => k_is))
    (case kq_a12 => k_is)
    (case kq_h12 => refine' ⟨_, L2.fun_mk (st := Km.sMarksOf) ?kql ?kqc ?kqk⟩; (case kql => k_is); (case kqc => k_is); (case kqk => k_is))
    (case kq_a13 => k_is)
    (case kq_h13 => refine' ⟨_, L2.fun_mk (st := Km.sNeed) ?kql ?kqc ?kqk⟩; (case kql => k_is); (case kqc => k_is); (case kqk => k_is))
    (case kq_a14 => k_is)
    (case kq_h14 => refine' ⟨_, L2.fun_mk (st := Km.sLeft) ?kql ?kqc ?kqk⟩; (case kql => k_is); (case kqc => k_is); (case kqk => k_is))
    (case kq_a15 => k_is)
    (case kq_h15 => refine' ⟨_, L2.fun_mk (st := Km.sWord) ?kql ?kqc ?kqk⟩; (case kql => k_is); (case kqc => k_is); (case kqk => k_is))
    (case kq_a16 => k_is)
    (case kq_h16 => refine' ⟨_, L2.fun_mk (st := Km.sBegin) ?kql ?kqc ?kqk⟩; (case kql => k_is); (case kqc => k_is); (case kqk => k_is))
    (case kq_a17 => k_is)
    (case kq_h17 => refine' ⟨_, L2.fun_mk (st := Km.sNodeOf) ?kql ?kqc ?kqk⟩; (case kql => k_is); (case kqc => k_is); (case kqk => k_is))
    (case kq_a18 => k_is)
    (case kq_h18 => refine' ⟨_, L2.fun_mk (st := Km.sPlace) ?kql ?kqc ?kqk⟩; (case kql => k_is); (case kqc => k_is); (case kqk => k_is))
    (case kq_a19 => k_is)
    (case kq_h19 => refine' ⟨_, L2.fun_mk (st := Km.sName) ?kql ?kqc ?kqk⟩; (case kql => k_is); (case kqc => k_is); (case kqk => k_is))
    (case kq_a20 => k_is)
    (case kq_h20 => refine' ⟨_, L2.fun_mk (st := Km.sText) ?kql ?kqc ?kqk⟩; (case kql => k_is); (case kqc => k_is); (case kqk => k_is))
    (case kq_a21 => k_is)
    (case kq_h21 => refine' ⟨_, L2.fun_mk (st := Km.sHas) ?kql ?kqc ?kqk⟩; (case kql => k_is); (case kqc => k_is); (case kqk => k_is))
    (case kq_a22 => k_is)
    (case kq_h22 => refine' ⟨_, L2.fun_mk (st := Km.sLaw) ?kql ?kqc ?kqk⟩; (case kql => k_is); (case kqc => k_is); (case kqk => k_is))
    (case kq_b0 => k_is)
    (case kq_j0 => k_is)
    (case kq_g0 => refine' ⟨_, L2.fun_mk (st := Km.sI0) ?kql ?kqc ?kqk⟩; (case kql => k_is); (case kqc => k_is); (case kqk => k_is))
    (case kq_e1 => kernel_rfl)
    (case kq_e2 => kernel_rfl)
    (case kq_b1 => k_is)
    (case kq_b2 => k_is)
    (case kq_y1 => kernel_rfl)
    (case kq_y2 => kernel_rfl)
    (case kq_y3 => kernel_rfl)
    (case kq_c0 => k_is)
    (case kq_c1 => k_is)
    (case kq_c2 => k_is)
    (case kq_c3 => k_is)
    (case kq_c4 => k_is)
    (case kq_c5 => k_is)
    (case kq_z0 => k_is)
    (case kq_z1 => k_is)
    (case kq_z2 => k_is)
    (case kq_z3 => k_is)
    (case kq_z4 => k_is)
    (case kq_z5 => k_is)
    (case kq_z6 => k_is)
    (case kq_z7 => k_is)
    (case kq_z8 => k_is)
    (case kq_z9 => k_is)
    (case kq_z10 => k_is)

