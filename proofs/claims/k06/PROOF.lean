import PyProof.Rows.All
import Wide.All
import OpenK.AllK
import Wide.FinOn
import HandS.ForMost
import HandS.Style
import HandS.TupAny
import HandS.Walk
import KE.GoesEnum
import HandS.Flow
import PyProof.FactsAll.list_1
import HandS.Wide
import HandS.IsInst
import HandS.Text
import HandS.More
import HandS.ExcOwn
import HandS.Ends
import KE.KExcInit
import HandS.ForExc
import HandS.ExcInit
import HandS.ExcIs
import KE.KExcIs
import HandS.ExcValue
import HandS.CallSlots
import HandS.ExcField
import HandS.CallLocal
import PySem.Challenge.RW_turnsfit_k06_whole_texts_there_and_back
set_option Elab.async false
set_option linter.all false
set_option maxRecDepth 100000
set_option maxHeartbeats 16000000
/-! rules of general use: t[::-1], xs.extend(t), enumerate(t) of tuples -/
namespace Xr
open PySem PySem.Spec PyProof.Rows L2 HT
section
variable {prog : Program} {w : World} {A : Around} {E : Value → Shared → Prop} {s : Shared}
theorem adjust_back (n : Nat) : Builtin.Slice.sliceAdjust none none (-1) (n : Int) = ((n : Int) - 1, -1) := by
  unfold Builtin.Slice.sliceAdjust
  have h1 : ((-1 : Int) < 0) := by omega
  simp only [h1, if_true]
theorem places_back (n : Nat) : Builtin.Slice.slicePlaces ((n : Int) - 1) (-1) (-1) = n := by
  unfold Builtin.Slice.slicePlaces
  have h1 : ¬ (-1 : Int) > 0 := by omega
  simp only [h1, if_false]
  have e : (-(-1) : Int) = 1 := rfl
  rw [e, Int.ediv_one]
  split <;> omega
theorem sliceApplied_back {sl : Addr} {t : Tok} {n : Nat} {Q : Int × Int × Nat → Shared → Prop} (hs : s.heap.IsSliceOf sl .none .none (.int (-1) t)) (h : Q ((n : Int) - 1, -1, n) s) :
    wpAny (model prog w) A (Builtin.Slice.sliceApplied (.ref sl) (pure (n : Int))) Q E s := by
  obtain ⟨os, hos, hcs, hds⟩ := id hs
  unfold Builtin.Slice.sliceApplied Builtin.Slice.sliceFields
  refine wpAny_bind (wpAny_bind (wpAny_field hos hds (x := .none) rfl (wpAny_bind (wpAny_field hos hds (x := .none) rfl (wpAny_bind (wpAny_field hos hds (x := .int (-1) t) rfl (wpAny_pure ?_)))))))
  refine wpAny_bind (slicePart_int ?_)
  show wpAny _ _ (if ((-1 : Int) == 0) = true then _ else _) _ _ s
  rw [if_neg (by decide)]
  refine wpAny_bind (slicePart_none (wpAny_bind (slicePart_none (wpAny_bind (wpAny_pure ?_)))))
  show wpAny _ _ (match Builtin.Slice.sliceAdjust none none (-1) (n : Int) with | (lo, hi) => pure (lo, (-1 : Int), Builtin.Slice.slicePlaces lo hi (-1))) _ _ s
  rw [adjust_back n]
  show wpAny _ _ (pure ((n : Int) - 1, (-1 : Int), Builtin.Slice.slicePlaces ((n : Int) - 1) (-1) (-1))) _ _ s
  rw [places_back]
  exact wpAny_pure h
theorem fm_congr {α β : Type} {f g : α → Option β} : ∀ {l : List α}, (∀ x ∈ l, f x = g x) → l.filterMap f = l.filterMap g
  | [], _ => rfl
  | a :: l, h => by
    rw [List.filterMap_cons, List.filterMap_cons, h a (by simp), fm_congr fun x hx => h x (List.mem_cons_of_mem _ hx)]
theorem pick_back (xs : Array Value) : ((List.range xs.size).filterMap fun (m : Nat) => xs[(((xs.size : Int) - 1) + (m : Int) * (-1)).toNat]?).toArray = xs.toList.reverse.toArray := by
  have e := PySem.W.krv_pick xs
  rw [← e]
  unfold slicePick
  rw [PySem.W.krv_bounds]
  show _ = ((sliceRange ((xs.size : Int) - 1) (-1) (-1)).filterMap _).toArray
  rw [PySem.W.krv_sliceRange, List.filterMap_map]
  congr 1
  refine fm_congr fun m hm => ?_
  have h : m < xs.size := List.mem_range.mp hm
  have e2 : (((xs.size : Int) - 1) + (m : Int) * (-1)).toNat = xs.size - 1 - m := by omega
  rw [e2]
  rfl
theorem getItem_tuple_back {t sl : Addr} {items : Array Value} {u : Tok} {Q : Value → Shared → Prop} (ht : IsTup s.heap t items) (hs : s.heap.IsSliceOf sl .none .none (.int (-1) u))
    (h : Q (.ref s.heap.objs.size) { s with heap := s.heap.push { cls := .type "tuple", data := .seq items.toList.reverse.toArray } })
    (hsz : items.size ≤ sizeLine) : wpAny (model prog w) A (getItem (.ref t) (.ref sl)) Q E s := by
  have htake : sizeOk (.seq items.toList.reverse.toArray) := by
    show items.toList.reverse.toArray.size ≤ sizeLine
    rw [List.size_toArray, List.length_reverse, Array.length_toList]
    exact hsz
  obtain ⟨os, hos, hcs, hds⟩ := id hs
  have hTs : s.TypeIs (.ref sl) "slice" := ⟨os, hos, hcs⟩
  unfold getItem
  try with_reducible refine wpAny_holding ?_
  first | refine wpAny_bind (wpAny_pure ?_) | skip
  refine wpAny_bind (wpAny_sequenceKey ht.typeIs (by decide) ?_)
  refine wpAny_bind (wpAny_callSpecial?_slot (name := Str.ofString "__getitem__") ht.typeIs PyProof.Rows.slot_tuple_getitem
    (wpAny_call_entry PyProof.Rows.slot_tuple_getitem ht.typeIs entry_tuple_getitem ?_ (args_tuple_getitem _ _)))
  show wpAny _ _ (Builtin.Tuple.tupleItemsOf (.ref t) >>= _) _ _ s
  refine wpAny_bind (tupleItemsOf_ ht ?_)
  refine wpAny_bind (wpAny_typeOf hTs ?_)
  rw [if_pos (by decide)]
  refine wpAny_bind (sliceApplied_back hs ?_)
  have hno : ¬ ((((items.size : Int) - 1) == 0 && (-1 : Int) == 1 && items.size == items.size) = true) := by
    intro q
    rw [Bool.and_eq_true, Bool.and_eq_true] at q
    have q1 : (-1 : Int) = 1 := eq_of_beq q.1.2
    omega
  show wpAny _ _ (if (((items.size : Int) - 1) == 0 && (-1 : Int) == 1 && items.size == items.size) = true then _ else _) _ _ s
  rw [if_neg hno, pick_back]
  first
    | exact wpAny_bind (m := Builtin.Tuple.tupleExact _) (wpAny_newObj_type (wpAny_pure ⟨_, rfl, wpAny_pure h⟩) htake)
    | exact wpAny_bind (m := Builtin.Tuple.tupleExact _) (wpAny_newObj_type (wpAny_bind (wpAny_pure (wpAny_pure ⟨_, rfl, wpAny_pure h⟩))) htake)
    | exact wpAny_bind (wpAny_bind (m := Builtin.Tuple.tupleExact _) (wpAny_newObj_type (wpAny_pure (wpAny_pure ⟨_, rfl, wpAny_pure h⟩)) htake))
    | exact wpAny_bind (wpAny_bind (m := Builtin.Tuple.tupleExact _) (wpAny_newObj_type (wpAny_pure ⟨_, rfl, wpAny_pure h⟩) htake))
end
/-- list.extend by a tuple, whatever else the tuple's object bears -/
theorem extend_tupW (l b : Addr) (xs ys : Array Value) (n n2 : Nat) (dd : Option Addr) (sl : Array (Option Value)) (h0 : ¬(!xs.isEmpty && Builtin.List.listTooLong (xs.size + ys.size)) = true) (h1 : xs.size ≤ sizeLine) (h2 : xs.size + ys.size ≤ sizeLine + 1) :
    Meets (Builtin.«list.extend» ⟨[.ref l, .ref b], []⟩) (fun _ R s => s.heap.get? l = some { cls := .type "list", dict := none, data := .seq xs n, slots := #[] } ∧ s.heap.get? b = some { cls := .type "tuple", dict := dd, data := .seq ys n2, slots := sl } ∧ R (.ok (.ret Value.none)) { s with heap := s.heap.update l (Obj.mapSeq fun z => z ++ ys), toks := s.toks }) :=
  .of_wp fun prog w A R s h => by
    obtain ⟨hp, g, d, tk, os⟩ := s
    obtain ⟨hl, hb, h⟩ := h
    have f1 := AutoSeq1.idx_int
    have f2 := AutoSeq1.sub_tuple_tuple
    have f3 := AutoSeq1.sub_list_list
    have f4 := AutoSeq1.sub_tuple_list
    have f5 := AutoSeq1.sub_list_tuple
    have hz' : (xs ++ ys).size ≤ sizeLine + 1 := by rw [Array.size_append]; exact h2
    wp_walk using (wpAny_updateSeq hl rfl (hz := h1) (_hz' := hz')), AutoSeq1.wpAny_loadPart' hl, AutoSeq1.wpAny_loadPart' hb
    exact ⟨_, rfl, h⟩
section
variable {X : Cx}
/-- t[::-1] -/
def tRevT (K : PySem.W.Frag) (te : TE) : TE := fun σ H Q => te σ H fun x H1 => ∃ a xs, x = .ref a ∧ SqT K H1 a xs ∧ ∀ p, H1 p = none → Q (.ref p) (upd H1 p (.tup xs.reverse))
theorem pe_revT {e : Expr} {te : TE} {k : Nat} {p1 p2 p3 pos : Pos} (he : PE X e te) : PE X (.Subscript e (.Slice none none (some (.UnaryOp .USub (.Constant (.int 1) k p1) p2)) p3) pos) (tRevT X.K te) := by
  refine ⟨fun pins s σ H Q I h => ?_⟩
  refine Subscript_ (thn (he.run pins s σ H _ I h) fun v s1 ⟨x, H1, I1, r1, q1⟩ => ?_)
  obtain ⟨a, xs, ex, hx, q⟩ := q1
  subst ex
  cases r1
  have hst : PO X (some (.UnaryOp .USub (.Constant (.int 1) k p1) p2)) (tPart (tUn (rU fun i => .int (-i)) (tC (.int 1)))) := po_some (pe_un un_neg pe_int)
  refine wpAny_Slice (thn (po_none.run pins s1 σ H1 (fun o H2 => o = none ∧ H2 = H1) I1 ⟨rfl, rfl⟩) fun vl s2 ⟨l, H2, I2, pl, el, e2⟩ => ?_)
  subst el e2
  refine thn (po_none.run pins s2 σ H2 (fun o H3 => o = none ∧ H3 = H2) I2 ⟨rfl, rfl⟩) fun vu s3 ⟨u, H3, I3, pu, eu, e3⟩ => ?_
  subst eu e3
  refine thn (hst.run pins s3 σ H3 (fun o H4 => o = some (-1) ∧ H4 = H3) I3 ⟨1, rfl, -1, rfl, rfl, rfl⟩) fun vs s4 ⟨o, H4, I4, ps, eo, e4⟩ => ?_
  subst eo e4
  cases pl
  cases pu
  obtain ⟨tk, rfl⟩ : ∃ tk, vs = .int (-1) tk := by
    cases ps
    exact ⟨_, rfl⟩
  have I5 : L2.Inv X pins σ H4 { s4 with heap := s4.heap.push { cls := .type "slice", data := .fields #[.none, .none, .int (-1) tk] } } := I4.kept (t' := s4.toks) fun b ob q => Heap.get?_push_of_some _ q
  obtain ⟨its, r, ht, hz⟩ := I5.tuple hx
  have hlen := r.length
  show wpAny (model X.prog X.w) X.A (subscriptTail e (.Slice none none (some (.UnaryOp .USub (.Constant (.int 1) k p1) p2)) p3) (.ref a) (.ref s4.heap.objs.size)) (EP X pins σ Q) X.xe { s4 with heap := s4.heap.push { cls := .type "slice", data := .fields #[.none, .none, .int (-1) tk] } }
  refine tail_any (ops := [.ref a, .ref s4.heap.objs.size]) ht.typeIs (PyProof.Rows.slot_tuple_getitem.lookup) ?_ (by with_unfolding_all rfl)
  refine getItem_tuple_back ht (Heap.IsSliceOf.new _ .none .none (.int (-1) tk)) ?_ (by rw [List.size_toArray]; omega)
  refine ⟨.ref _, _, I5.laid (t' := s4.toks) (o := .tup xs.reverse) (fun b ob q => Heap.get?_push_of_some _ q) (Nat.le_refl _) ?_, rfl, q _ (I5.hok.fresh (Nat.le_refl _))⟩
  exact ⟨by show xs.reverse.length ≤ sizeLine; rw [List.length_reverse]; exact hz, _, r.reverse, ⟨_, Heap.get?_push_size _ rfl, rfl, _, rfl⟩⟩
/-- xs.extend(t), t a tuple -/
def rExtT (K : PySem.W.Frag) : V → List V → Hp → VK → Prop := fun x vs H Q => ∃ l b xs zs, x = .ref l ∧ vs = [.ref b] ∧ H l = some (.lst xs) ∧ H b = some (.tup zs) ∧ xs.length + zs.length ≤ sizeLine ∧ Q .non (upd H l (.lst (xs ++ zs)))
theorem mt_extendT : MtM X "list.extend" (rExtT X.K) := by
  intro pins s σ H x vs v us Q I rx rv h
  obtain ⟨l, b, xs, zs, rfl, rfl, hH, hB, hz, q⟩ := h
  cases rx
  obtain ⟨u, rfl, ru⟩ := rv.one
  cases ru
  obtain ⟨z, its, n, r, hl, e⟩ := I.lstM hH
  obtain ⟨its2, r2, p2, z2⟩ := I.tuple (SqT.of (K := X.K) hB)
  obtain ⟨⟨cls2, dd2, data2, sl2⟩, ho2, hc2, n2, hd2⟩ := id p2
  simp only at hc2 hd2
  subst hc2 hd2
  have hl2 := r2.length
  have hsz : its.toArray.size + its2.toArray.size ≤ sizeLine := by rw [List.size_toArray, List.size_toArray]; omega
  have hlong : ¬ (!its.toArray.isEmpty && Builtin.List.listTooLong (its.toArray.size + its2.toArray.size)) = true := by
    rw [notLongL hsz, Bool.and_false]
    exact Bool.false_ne_true
  refine call_meets PySem.F.slot_list_extend ⟨_, e, rfl⟩ PySem.F.entry_list_extend (PySem.F.args_list_extend_2 _ _)
    (extend_tupW l b its.toArray its2.toArray n n2 dd2 sl2 hlong (by rw [List.size_toArray]; omega) (by omega)) ⟨e, ho2, ?_⟩
  refine ⟨.non, _, I.lset (its' := its ++ its2) hH e (by simp) (r.append r2) ?_, rfl, q⟩
  rw [List.length_append]
  omega
end
end Xr

/-! enumerate(t), t a tuple -/
namespace Xr
open PySem PySem.Spec PyProof.Rows L2 HT
theorem meets_enum_one {v : Value} {o : Obj} {H : Heap → Prop} (B : Begins v o H) :
    Meets (Builtin.«enumerate.__new__» ⟨[.type "enumerate", v], []⟩) (fun _ R s => H s.heap ∧
      R (.ok (.ret (.ref (s.heap.push o).objs.size))) { s with heap := (s.heap.push o).push { cls := .type "enumerate", data := .fields #[.none, .bool false, .ref s.heap.objs.size, rawInt 0, .none, .none] } }) :=
  .of_wp fun prog w A R s h => by
    obtain ⟨hp, g, d, tk, os⟩ := s
    obtain ⟨h1, h⟩ := h
    have hsub := sub_enumerate
    have q1 : ∀ {A' : Around} {E : Value → Shared → Prop} {Q : Value → Shared → Prop}, Q (.ref hp.objs.size) ⟨hp.push o, g, d, tk, os⟩ → wpAny (model prog w) A' (pyIter v) Q E ⟨hp, g, d, tk, os⟩ :=
      fun q => B.iter prog w _ _ ⟨hp, g, d, tk, os⟩ _ h1 q
    wp_walk using q1
    refine wpAny_stack_any fun st => wpAny_pure ?_
    split
    · rename_i c _ _ _ _ _
      cases (c == Value.type "enumerate") <;> (wp_walk using q1; exact ⟨_, rfl, h⟩)
    · wp_walk using q1
      exact ⟨_, rfl, h⟩
section
variable {prog : Program} {w : World} {A : Around} {E : Value → Shared → Prop} {s : Shared}
theorem call_enum_one {v : Value} {o : Obj} {H : Heap → Prop} {Q : Value → Shared → Prop} (B : Begins v o H) (h1 : H s.heap)
    (h : ∀ h', IsEnum h' (s.heap.objs.size + 1) s.heap.objs.size 0 .none → h'.get? s.heap.objs.size = some o → h'.objs.size = s.heap.objs.size + 2 →
      (∀ b o, s.heap.get? b = some o → h'.get? b = some o) → Q (.ref (s.heap.objs.size + 1)) { s with heap := h' }) :
    wpAny (model prog w) A (call (.type "enumerate") [v]) Q E s := by
  refine callType_new F.called_enumerate (by decide) (F.typeCall_enumerate_1 _) (F.newCall_enumerate_1 _) (fun obj => F.args_object_init_2 obj _) F.entry_enumerate_new (meets_enum_one B) ⟨h1, ?_⟩
  have hz : (s.heap.push o).objs.size = s.heap.objs.size + 1 := Heap.size_push ..
  show _ ∧ _
  rw [hz]
  have he : IsEnum ((s.heap.push o).push { cls := .type "enumerate", data := .fields #[.none, .bool false, .ref s.heap.objs.size, rawInt 0, .none, .none] }) (s.heap.objs.size + 1) s.heap.objs.size 0 .none := by
    have := Heap.get?_push_size (s.heap.push o) (o := { cls := .type "enumerate", data := .fields #[.none, .bool false, .ref s.heap.objs.size, rawInt 0, .none, .none] }) rfl
    rw [hz] at this
    exact this
  exact ⟨⟨_, he, rfl⟩, h _ he (Heap.get?_push_of_some _ (Heap.get?_push_size _ B.free)) (by rw [Heap.size_push, hz]) fun b o x => Heap.get?_push_of_some _ (Heap.get?_push_of_some _ x)⟩
end
/-- the tuple at a as it stands at each turn, each item in a new pair -/
def IteT (K : PySem.W.Frag) (a : Addr) : It :=
  ⟨fun i H => ∃ (xs : List V) (x : V), SqT K H a xs ∧ xs[i]? = some x, fun i H v H' => ∃ T x, v = .ref T ∧ H T = none ∧ H' = upd H T (.tup [.int (i : Nat), x]) ∧ ∀ xs, SqT K H a xs → xs[i]? = some x, fun i H => ∃ xs : List V, SqT K H a xs ∧ xs.length = i⟩
theorem turn_enumT {P : Program} {w : World} {K : PySem.W.Frag} {elts : List Expr} {kk : Nat} {tpos : Pos} (a e it : Addr) :
    Turn P w K (.Tuple elts kk tpos) (IteT K a) [e, it] e (fun i h => (∃ old, IsEnum h e it ((i : Nat) : Int) old) ∧ h.IsTupleIter it a i ∧ e ≠ it ∧ a ≠ it ∧ e ≠ a) where
  mem := by simp
  obj := fun i h st b hb => by
    obtain ⟨⟨old, he⟩, ⟨o, ho, hc, hd⟩, _⟩ := st
    have e' : b = e ∨ b = it := by simpa using hb
    rcases e' with z | z
    · rw [z]; exact ⟨_, he, fun v q => nomatch q⟩
    · rw [z]; exact ⟨o, ho, fun v q => by rw [hd] at q; cases q⟩
  keep := fun i h h' st k => let ⟨⟨old, he⟩, hi, hne⟩ := st; ⟨⟨old, k e (by simp) _ he⟩, hi.at fun o q => k it (by simp) o q, hne⟩
  item := by
    intro X hP hw hK hc i pins s σ H E I hf st hg
    subst hP hw hK
    obtain ⟨⟨old, he⟩, hit, hne, hai, hea⟩ := st
    obtain ⟨xs, x, hq, hx⟩ := hg
    obtain ⟨its, rv, p, hz⟩ := I.tuple hq
    obtain ⟨u, hu, ru⟩ := rv.get hx
    have hel : e < s.heap.objs.size := Heap.lt_size he
    have hil : it < s.heap.objs.size := by obtain ⟨_, q, _⟩ := hit; exact Heap.lt_size q
    have hin : i < its.toArray.size := by
      rw [List.size_toArray]
      exact (List.getElem?_eq_some_iff.mp hu).1
    refine wpAny_pyNext_enum_itemC (Draws.tuple (prog := X.prog) (w := X.w) (A := X.A.in1) (I.ok.hd hc) it a hai its.toArray) he ⟨hit, p⟩ hin hne (by simp [hne, hea]) fun y h' tk hy ho hst' hT hsz hk => ?_
    have ey : y = u := by
      have z : its[i]? = some y := by simpa using hy
      rw [hu] at z
      exact (Option.some.inj z).symm
    subst ey
    refine ⟨_, rfl, wpAny_letOwnedTupleGo_enum (s := { s with heap := h', toks := tk + 1 }) ho fun h'' he' sb => ?_⟩
    have hT2 : h''.get? s.heap.objs.size = some { cls := .type "tuple", data := .seq #[.int i tk, y] } := (sb.2 _ (Nat.ne_of_gt hel)).trans hT
    have new : ObjOk X.prog X.w (upd H s.heap.objs.size (.tup [.int (i : Nat), x])) h'' s.heap.objs.size (.tup [.int (i : Nat), x]) :=
      ⟨by show 2 ≤ sizeLine; decide, [.int i tk, y], .cons ⟨_, rfl⟩ (.cons ru .nil), ⟨_, hT2, rfl, _, rfl⟩⟩
    have I1 : L2.Inv X pins σ (upd H s.heap.objs.size (.tup [.int (i : Nat), x])) { s with heap := h'', toks := tk + 1 } :=
      I.turnedNew (ch := [e, it]) (fun b ob hb q => (sb.2 b (fun z => hb (by simp [z]))).trans (hk b ob (fun z => hb (by simp [z])) (fun z => hb (by simp [z])) q)) hf (Nat.le_refl _) new
    refine ⟨.ref s.heap.objs.size, _, I1, rfl, ⟨_, x, rfl, I.hok.fresh (Nat.le_refl _), rfl, fun ys hy => ?_⟩, ⟨⟨y, ?_⟩, hst'.1.at fun o q => (sb.2 it (Ne.symm hne)).trans q, hne, hai, hea⟩, fun b hb => ?_⟩
    · obtain ⟨its2, rv2, p2, _⟩ := I.tuple hy
      have e1 : ys = xs := by
        first
          | exact I.tuple_inj hy hq
          | exact (I.tup_inj hy hq)
      rw [e1]
      exact hx
    · have e1 : ((i + 1 : Nat) : Int) = (i : Int) + 1 := by omega
      rw [e1]; exact he'
    · have hb' : b < s.heap.objs.size := by
        have e' : b = e ∨ b = it := by simpa using hb
        rcases e' with z | z
        · rw [z]; exact hel
        · rw [z]; exact hil
      rw [upd_ne (Nat.ne_of_lt hb')]
      exact (hf b hb).1
  done := by
    intro X hP hw hK hc i pins s σ H E I hf st hg
    subst hP hw hK
    obtain ⟨⟨old, he⟩, hit, hne, hai, hea⟩ := st
    obtain ⟨xs, hq, hx⟩ := hg
    obtain ⟨its, rv, p, hz⟩ := I.tuple hq
    obtain ⟨f0, f1, f2, f3, f4, f5⟩ := hf it (by simp)
    have hl := rv.length
    have hsz : its.toArray.size = i := by rw [List.size_toArray]; omega
    have D := Draws.tuple (prog := X.prog) (w := X.w) (A := X.A.in1) (I.ok.hd hc) it a hai its.toArray
    rw [hsz] at D
    exact wpAny_pyNext_enum_endD D he ⟨hit, p⟩ fun h' eb => ⟨rfl, I.turned (t' := s.toks) (fun b o hb q => eb b o hb q) f0 f1 f3 f4 f5⟩
  self := fun A i s Q E st h => let ⟨⟨_, he⟩, _⟩ := st; wpAny_pyIter_enum he h
def iEnumT (K : PySem.W.Frag) (ta : TA) : TI := fun σ H R => ta σ H fun vs H1 => ∃ a xs, vs = [.ref a] ∧ SqT K H1 a xs ∧ R (IteT K a) H1
theorem pi_enumT {X : Cx} {e : Expr} {ta : TA} {p pos tpos : Pos} {elts : List Expr} {kk : Nat} (hg : Gl X "enumerate") (hm : X.mg "enumerate" = none) (ha : PA X [e] ta) (hs : starEach [e] X.env = [(false, eval e X.env)] := by rfl) :
    PI X (.Tuple elts kk tpos) (.Call (.Name "enumerate" p) [e] [] pos) (iEnumT X.K ta) := by
  refine ⟨fun pins s σ H R I h => ?_⟩
  refine Call_ (ld_blt I hg hm boot_enumerate (PyProof.Rows.callWith_type1 (thn (ha.run pos pins s σ H _ I h) fun us s1 ⟨vs, H1, I1, r1, q1⟩ => ?_) hs rfl))
  obtain ⟨a, xs, ex, hq, q⟩ := q1
  subst ex
  cases r1 with
  | cons r rr =>
    cases rr
    cases r
    obtain ⟨its, rv, p', hz⟩ := I1.tuple hq
    have al : a < s1.heap.objs.size := by obtain ⟨_, q, _⟩ := p'; exact Heap.lt_size q
    refine call_enum_one (begins_tuple a its.toArray) p' fun h' he hit hsz hk => wpAny_pyIter_enum he ?_
    have I2 : L2.Inv X pins σ H1 { s1 with heap := h' } := I1.kept (t' := s1.toks) hk
    refine ⟨s1.heap.objs.size + 1, [s1.heap.objs.size + 1, s1.heap.objs.size], _, _, H1, rfl, I2, turn_enumT a (s1.heap.objs.size + 1) s1.heap.objs.size, ⟨⟨.none, he⟩, ⟨_, hit, rfl, rfl⟩, Nat.succ_ne_self _, Nat.ne_of_lt al, Ne.symm (Nat.ne_of_lt (Nat.lt_succ_of_lt al))⟩, fun b hb => ?_, q⟩
    have e' : b = s1.heap.objs.size + 1 ∨ b = s1.heap.objs.size := by simpa using hb
    have hle : s1.heap.objs.size ≤ b := by
      rcases e' with z | z
      · rw [z]; exact Nat.le_add_right _ _
      · rw [z]; exact Nat.le_refl _
    exact I1.fpOk hle (I1.hok.fresh hle)
theorem walk_enumT {K : PySem.W.Frag} {a : Addr} {xs : List V} : Walk (IteT K a) xs.length (fun H => SqT K H a xs) (YPair (fun i => some (.int (i : Nat))) (fun i => xs[i]?)) := by
  refine ⟨fun i _ hi q => ⟨xs, xs[i], q, by simp [hi]⟩, fun _ q => ⟨xs, q, rfl⟩, fun i H v H' _ q y => ?_⟩
  obtain ⟨T, x, h1, h2, h3, h4⟩ := y
  exact ⟨T, .int (i : Nat), x, h1, h2, h3, rfl, h4 xs q⟩
end Xr

/-! del xs[a:] -/
namespace Xr
open PySem PySem.Spec PyProof.Rows L2 HT
def selV (a n : Int) (i : Nat) : Bool := if (1 : Int) > 0 then (decide (a ≤ (i : Int)) && decide ((i : Int) < n) && (((i : Int) - a) % 1 == 0)) else (decide (n < (i : Int)) && decide ((i : Int) ≤ a) && ((a - (i : Int)) % (-1) == 0))
theorem selV_eq (a n : Nat) (i : Nat) : selV (a : Int) (n : Int) i = (decide (a ≤ i) && decide (i < n)) := by
  unfold selV
  rw [if_pos (by decide)]
  have e1 : ((((i : Int) - (a : Int)) % 1 == 0) : Bool) = true := by
    rw [Int.emod_one]
    rfl
  rw [e1, Bool.and_true]
  have e2 : decide ((a : Int) ≤ (i : Int)) = decide (a ≤ i) := decide_eq_decide.mpr (by omega)
  have e3 : decide ((i : Int) < (n : Int)) = decide (i < n) := decide_eq_decide.mpr (by omega)
  rw [e2, e3]
theorem filt_take (a n : Nat) : ∀ (its : List Value) (j : Nat), j + its.length = n → ((its.zipIdx j).filterMap fun (p : Value × Nat) => if selV (a : Int) (n : Int) p.2 = true then none else some p.1) = its.take (a - j)
  | [], j, _ => by simp
  | x :: its, j, h => by
    rw [List.length_cons] at h
    have ih := filt_take a n its (j + 1) (by omega)
    rw [List.zipIdx_cons, List.filterMap_cons, selV_eq]
    by_cases hj : a ≤ j
    · have e : (decide (a ≤ j) && decide (j < n)) = true := by
        rw [decide_eq_true hj, decide_eq_true (by omega)]
        rfl
      simp only [e, if_true]
      rw [ih]
      have e1 : a - j = 0 := by omega
      have e2 : a - (j + 1) = 0 := by omega
      rw [e1, e2]
      rfl
    · have e : (decide (a ≤ j) && decide (j < n)) = false := by
        rw [decide_eq_false hj]
        rfl
      simp only [e, Bool.false_eq_true, if_false]
      rw [ih]
      have e1 : a - j = (a - (j + 1)) + 1 := by omega
      rw [e1]
      rfl
theorem bounds_tail {a n : Nat} (hc : a ≤ n) : sliceBounds (some (a : Int)) none none n = ((a : Int), (n : Int), 1) := by
  simp only [sliceBounds, Option.getD_none]
  have h1 : ¬ ((a : Int) < 0) := by omega
  simp only [h1, if_false, show (1 : Int) > 0 by decide, if_true]
  congr 1
  · omega
section
variable {prog : Program} {w : World} {A : Around} {E : Value → Shared → Prop} {s : Shared}
theorem delItem_tail {l sl : Addr} {items : List Value} {n : Nat} {vl : Value} {a : Nat} {Q : Unit → Shared → Prop}
    (e : s.heap.get? l = some { cls := .type "list", data := .seq items.toArray n }) (hs : s.heap.IsSliceOf sl vl .none .none) (pl : IsPart vl (some (a : Int))) (hc : a ≤ items.length)
    (hsz : items.length ≤ sizeLine) (h : Q () { s with heap := s.heap.update l (Obj.mapSeq fun xs => (xs.toList.zipIdx.filterMap fun (p : Value × Nat) => if selV (a : Int) (items.length : Int) p.2 = true then none else some p.1).toArray) }) :
    wpAny (model prog w) A (delItem (.ref l) (.ref sl)) Q E s := by
  have hl : s.heap.IsList l items.toArray := PySem.IsL.isList e
  obtain ⟨os, hos, hcs, hds⟩ := id hs
  have hTs : s.TypeIs (.ref sl) "slice" := ⟨os, hos, hcs⟩
  have hstep : ¬ ((rawPart none == rawInt 0) = true) := Bool.false_ne_true
  have hz' : ((fun xs : Array Value => (xs.toList.zipIdx.filterMap fun (p : Value × Nat) => if selV (a : Int) (items.length : Int) p.2 = true then none else some p.1).toArray) items.toArray).size ≤ sizeLine + 1 := by
    show ((items.toArray.toList.zipIdx 0).filterMap _).toArray.size ≤ _
    have e0 : items.toArray.toList = items := by simp
    rw [e0, filt_take a items.length items 0 (by omega), List.size_toArray, List.length_take]
    omega
  unfold delItem
  try with_reducible refine wpAny_holding ?_
  first | refine wpAny_bind (wpAny_pure ?_) | skip
  refine wpAny_bind (wpAny_sequenceKey hl.typeIs (by decide) ?_)
  refine wpAny_bind (wpAny_callSpecial?_slot (name := Str.ofString "__delitem__") hl.typeIs F.slot_list_delitem
    (wpAny_call_entry F.slot_list_delitem hl.typeIs F.entry_list_delitem ?_ (F.args_list_delitem_2 _ _)))
  show wpAny _ _ (Builtin.List.listSubscript? (.ref sl) >>= _) _ _ s
  refine wpAny_bind ?_
  unfold Builtin.List.listSubscript?
  refine wpAny_bind (wpAny_specialOf hTs slice_no_index ?_)
  simp only [Option.isNone_none, if_true]
  refine wpAny_pure ?_
  show wpAny _ _ (typeOf (.ref sl) >>= _) _ _ s
  refine wpAny_bind (wpAny_typeOf hTs ?_)
  first
    | rw [if_neg (by decide)]
    | refine PySem.W.KFB.if_not (by decide) ?_
  rw [listSliceParts_eq]
  refine wpAny_bind (wpAny_bind (wpAny_field hos hds (x := .none) rfl (wpAny_bind (wpAny_listPart .none ?_))))
  rw [if_neg hstep]
  refine wpAny_bind (wpAny_field hos hds (x := vl) rfl (wpAny_bind (wpAny_listPart pl ?_)))
  refine wpAny_bind (wpAny_field hos hds (x := .none) rfl (wpAny_bind (wpAny_listPart .none (wpAny_pure ?_))))
  unfold Builtin.List.listItems
  refine wpAny_bind (wpAny_bind (wpAny_seqItems e rfl (wpAny_pure ?_)))
  have hz : items.toArray.size = items.length := by simp
  rw [hz]
  refine wpAny_bind (wpAny_of_eq ((sliceIndices_raw (some (a : Int)) none none items.length (by simp)).trans (congrArg (pure : Int × Int × Int → Sem (Int × Int × Int)) (bounds_tail hc))) ?_)
  refine wpAny_bind (wpAny_rule ?_)
  show wpAny _ _ (updateSeq l (fun xs => (xs.toList.zipIdx.filterMap fun (p : Value × Nat) => if selV (a : Int) (items.length : Int) p.2 = true then none else some p.1).toArray) >>= _) _ _ s
  refine wpAny_bind (wpAny_updateSeq (hz := by rw [hz]; exact hsz) (_hz' := hz') e rfl ?_)
  refine wpAny_bind (wpAny_letGo ?_)
  first
    | exact wpAny_bind (wpAny_pure (wpAny_pure ⟨.none, rfl, wpAny_pure h⟩))
    | exact wpAny_pure ⟨.none, rfl, wpAny_pure h⟩
end
section
variable {X : Cx}
/-- del xs[lo:] of a list -/
def tDelTail (to : TE) (tl : TO) : TS := fun D σ H => to σ H fun x H1 => tl σ H1 fun o H2 => ∃ (l : Addr) (xs : List V) (a : Nat), x = .ref l ∧ o = some (a : Int) ∧ H2 l = some (.lst xs) ∧ a ≤ xs.length ∧ D.nx σ (upd H2 l (.lst (xs.take a)))
theorem ps_delTail {o lo : Expr} {to : TE} {tl : TO} {tpos pos p2 : Pos} (ho : PE X o to) (hl : PO X (some lo) tl) : PS X (.Delete [.Subscript o (.Slice (some lo) none none p2) tpos] pos) (tDelTail to tl) := by
  refine ⟨fun pins s σ H D I h => ?_⟩
  refine wpAny_Delete (wpAny_deleteEach_cons (wpAny_delete_Subscript (thn (ho.run pins s σ H _ I h) fun u s1 ⟨x, H1, I1, rx, q1⟩ => ?_)))
  refine wpAny_Slice (thn (hl.run pins s1 σ H1 _ I1 q1) fun vl s2 ⟨o2, H2, I2, pl, q2⟩ => ?_)
  refine thn (po_none.run pins s2 σ H2 (fun o H3 => o = none ∧ H3 = H2) I2 ⟨rfl, rfl⟩) fun vu s3 ⟨u2, H3, I3, pu, eu, e3⟩ => ?_
  subst eu e3
  refine thn (po_none.run pins s3 σ H3 (fun o H4 => o = none ∧ H4 = H3) I3 ⟨rfl, rfl⟩) fun vs s4 ⟨o4, H4, I4, ps, eo, e4⟩ => ?_
  subst eo e4
  cases pu
  cases ps
  obtain ⟨l, xs, a, rfl, rfl, hH, ha, q⟩ := q2
  cases (show u = Value.ref l from rx)
  have I5 : L2.Inv X pins σ H4 { s4 with heap := s4.heap.push { cls := .type "slice", data := .fields #[vl, .none, .none] } } := I4.kept (t' := s4.toks) fun b ob q => Heap.get?_push_of_some _ q
  obtain ⟨z, its, n, r, hlen, e⟩ := I5.lstM hH
  refine delItem_tail (a := a) e (Heap.IsSliceOf.new _ vl .none .none) pl (by omega) (by omega) ?_
  refine wpAny_deleteEach_nil ⟨σ, _, ?_, q⟩
  refine I5.lset (its' := its.take a) (t' := s4.toks) hH e ?_ (r.take _) ?_
  · show (((its.toArray.toList.zipIdx 0).filterMap fun (p : Value × Nat) => if selV (a : Int) (its.length : Int) p.2 = true then none else some p.1)).toArray = _
    have e0 : its.toArray.toList = its := by simp
    rw [e0, filt_take a its.length its 0 (by omega)]
    rfl
  · rw [List.length_take]
    omega
end
end Xr

/-! k01, part A: the text by places; the deal of draws: _law_any -/
namespace K1
open PySem L2
def top (i : Nat) : Stmt := PySem.Challenge.pw_turnsfit_k06_whole_texts_there_and_back.main.body.getD i (.Pass ⟨0, 0, 0, 0⟩)
abbrev sSource : Stmt := top 27
abbrev sAny : Stmt := top 28
abbrev sOf : Stmt := top 29

/-- the deal stands at d: its great cells at c, its blend -/
structure DealAt (H : Hp) (d c : Addr) : Prop where
  ex : ∃ (cs : List Int) (b : Int), H d = some (.lst [.ref c, .int b]) ∧ H c = some (.lst (cs.map V.int)) ∧ (∀ x ∈ cs, 0 ≤ x) ∧ cs.length ≤ 63 ∧ 0 ≤ b ∧ b < 2147483647
/-- all tracked things but the deal's own two stand as before -/
def But (d c : Addr) (H H' : Hp) : Prop := ∀ q o, H q = some o → q ≠ d → q ≠ c → H' q = some o
theorem But.refl {d c : Addr} {H : Hp} : But d c H H := fun _ _ h _ _ => h
theorem But.trans {d c : Addr} {H H1 H2 : Hp} (a : But d c H H1) (b : But d c H1 H2) : But d c H H2 := fun q o h n m => b q o (a q o h n m) n m
/-- a promise of _law_any -/
def spAny : Sp := fun vs H Q _ => ∃ (d c : Addr) (n : Int), vs = [.ref d, .int n] ∧ DealAt H d c ∧ 0 < n ∧ n < 1073741824 ∧
  ∀ (r : Int) (H' : Hp), 0 ≤ r → r < n → DealAt H' d c → But d c H H' → Q (.int r) H'
theorem last_at {l : List Int} {x : Int} : atI ((l ++ [x]).map V.int) (-1) = some (.int x) := by
  have e : (l ++ [x]).map V.int = l.map V.int ++ [V.int x] := by simp
  rw [e]
  unfold atI ixN
  have h1 : ¬ (0 : Int) ≤ -1 := by omega
  have h2 : -(((l.map V.int ++ [V.int x]).length : Nat) : Int) ≤ -1 := by
    rw [List.length_append]
    simp
    omega
  rw [if_neg h1, if_pos h2]
  have e2 : (-1 + (((l.map V.int ++ [V.int x]).length : Nat) : Int)).toNat = (l.map V.int).length := by
    rw [List.length_append]
    simp
    omega
  rw [e2]
  simp
theorem canLayAll_ints : ∀ l : List Int, PyData.canLayAll0 (l.map PyData.int) = true
  | [] => rfl
  | x :: l => by
    have ih := canLayAll_ints l
    rw [List.map_cons]
    unfold PyData.canLayAll0
    rw [ih]
    rfl
theorem depthAll_ints : ∀ l : List Int, PyData.depthAll (l.map PyData.int) = 0
  | [] => rfl
  | x :: l => by
    have ih := depthAll_ints l
    rw [List.map_cons]
    unfold PyData.depthAll
    rw [ih]
    rfl
theorem shaped_ints (l : List Int) : SeqAt.shaped (.list (l.map PyData.int)) = true := by
  unfold SeqAt.shaped PyData.canLay0 PyData.depth
  rw [canLayAll_ints, depthAll_ints]
  rfl
theorem dp_ints {K : PySem.W.Frag} {H : Hp} : ∀ l : List Int, DpAll K H (l.map V.int) (l.map PyData.int)
  | [] => .nil
  | x :: l => .cons (.int x) (dp_ints l)
theorem eqv_nil_nil : PyData.eqv (.list []) (.list []) = true := rfl
theorem eqv_cons_nil {d : PyData} {ds : List PyData} : PyData.eqv (.list (d :: ds)) (.list []) = false := rfl
theorem scAny : FnScope ["deal", "bound", "rest"] ["deal", "bound"] (defScope sAny) := ⟨rfl, rfl, rfl, by decide +kernel, rfl, by decide +kernel, by decide +kernel⟩
structure AnyTxt (K : PySem.W.Frag) (mg : Str → Option Value) : Prop where
  int : mg "int" = none
section
variable {P : Program} {w : World} {K : PySem.W.Frag} {mg : Str → Option Value} {base : Heap}
theorem ok_any {f : Addr} {fd : FuncData} (F : Fun K "_law_any" "_law_any" sAny f fd) (T : AnyTxt K mg) : FnOk P w K mg base CX0 1 f fd ["deal", "bound"] spAny := by
  refine F.ok scAny (fun vs H Q E h => ?_) (fun cdv A outer s H vs Q E hr h => ?_)
  · obtain ⟨d, c, n, rfl, _⟩ := h
    rfl
  · obtain ⟨d, c, n, rfl, D, n0, n1, k⟩ := h
    refine ⟨_, pss_cons (ps_while PassesOwn.never
        (PW.pt (pw_and (pt_cmpR (op_neD hr.units) (pe_ix ix_list (pv 0) pe_int (fun _ _ => rfl)) (pe_lst pa_nil) (nomark _))
          (pw_and1 (pt_cmpR op_eq (pe_ix ix_list (pe_ix ix_list (pv 0) pe_int (fun _ _ => rfl)) (pe_un un_neg pe_int) (fun _ _ => rfl)) pe_int (nomark _)))))
        (pss_one (ps_expr (pe_bm0 PySem.F.plainAttrs_list PySem.F.slot_list_pop PySem.F.type_list_pop mt_pop (pe_ix ix_list (pv 0) pe_int (fun _ _ => rfl))))))
      (pss_cons (ps_if (pt_cmpR (op_neD hr.units) (pe_ix ix_list (pv 0) pe_int (fun _ _ => rfl)) (pe_lst pa_nil) (nomark _))
        (pss_cons (ps_set (i := 2) scAny.nd rfl (Or.inl rfl) (pe_callTy call_int1 (by rfl) T.int (by decide +kernel) (pa_cons (pe_bm0 PySem.F.plainAttrs_list PySem.F.slot_list_pop PySem.F.type_list_pop mt_pop (pe_ix ix_list (pv 0) pe_int (fun _ _ => rfl))) pa_nil)))
        (pss_cons (ps_expr (pe_bm PySem.F.plainAttrs_list PySem.F.slot_list_append PySem.F.type_list_append mt_append (pe_ix ix_list (pv 0) pe_int (fun _ _ => rfl)) (pa_cons (pe_op op_fdivW (pv 2) (pv 1)) pa_nil)))
        (pss_one (ps_ret (pe_op op_mod (pv 2) (pv 1))))))
        pss_nil)
      (pss_cons (ps_asg (pe_op op_mod (pe_callTy call_int1 (by rfl) T.int (by decide +kernel) (pa_cons (pe_op op_add (pe_op op_mul (pe_ix ix_list (pv 0) pe_int (fun _ _ => rfl)) pe_int) pe_int) pa_nil)) pe_int) (pg_sub (pv 0) pe_int set_list))
      (pss_one (ps_ret (pe_op op_mod (pe_callTy call_int1 (by rfl) T.int (by decide +kernel) (pa_cons (pe_op op_fdiv (pe_ix ix_list (pv 0) pe_int (fun _ _ => rfl)) pe_int) pa_nil)) (pv 1)))))), ?_⟩
    obtain ⟨cs0, b0, hd0, hc0, g0, l0, b1, b2⟩ := D.ex
    refine ⟨fun m σ H1 => ∃ (cs : List Int), σ = [some (.ref d), some (.int n), none] ∧ m = cs.length ∧ H1 d = some (.lst [.ref c, .int b0]) ∧ H1 c = some (.lst (cs.map V.int)) ∧ (∀ x ∈ cs, 0 ≤ x) ∧ cs.length ≤ 63 ∧ But d c H H1,
      ⟨cs0.length, cs0, rfl, rfl, hd0, hc0, g0, l0, But.refl⟩, ?_⟩
    rintro m σ H1 ⟨cs, rfl, rfl, hd, hc, g, l, bu⟩
    have dc : d ≠ c := by
      intro e
      subst e
      rw [hd] at hc
      have z := Option.some.inj hc
      injection z with z
      cases cs with
      | nil => cases z
      | cons x r => cases z
    -- deal[0] != []
    refine ⟨_, rfl, _, _, _, _, rfl, rfl, SqL.of hd, atI_nat (j := 0) rfl, Nat.zero_le _, fun p hp => ?_⟩
    have pd : d ≠ p := ne_of_none hd hp
    have pc : c ≠ p := ne_of_none hc hp
    have hd' : (upd H1 p (.lst [])) d = some (.lst [.ref c, .int b0]) := by rw [upd_ne pd]; exact hd
    have hc' : (upd H1 p (.lst [])) c = some (.lst (cs.map V.int)) := by rw [upd_ne pc]; exact hc
    have bu' : But d c H (upd H1 p (.lst [])) := fun q o hq n1 n2 => by
      have z := bu q o hq n1 n2
      rw [upd_ne (ne_of_none z hp)]
      exact z
    refine ⟨_, _, .lst (SqL.of hc') (dp_ints cs), .lst (SqL.of upd_same) .nil, shaped_ints cs, shaped_ints [], _, rfl, ?_⟩
    rcases List.eq_nil_or_concat cs with e | ⟨cs', x, e⟩
    · subst e
      refine iteF (iteF ?_)
      -- deal[0] != [] again: no
      refine ⟨_, rfl, _, _, _, _, rfl, rfl, SqL.of hd', atI_nat (j := 0) rfl, Nat.zero_le _, fun p2 hp2 => ?_⟩
      have qd : d ≠ p2 := ne_of_none hd' hp2
      have qc : c ≠ p2 := ne_of_none hc' hp2
      have hd2 : (upd (upd H1 p (.lst [])) p2 (.lst [])) d = some (.lst [.ref c, .int b0]) := by rw [upd_ne qd]; exact hd'
      have hc2 : (upd (upd H1 p (.lst [])) p2 (.lst [])) c = some (.lst []) := by rw [upd_ne qc]; exact hc'
      have bu2 : But d c H (upd (upd H1 p (.lst [])) p2 (.lst [])) := fun q o hq n1 n2 => by
        have z := bu' q o hq n1 n2
        rw [upd_ne (ne_of_none z hp2)]
        exact z
      refine ⟨_, _, .lst (SqL.of hc2) .nil, .lst (SqL.of upd_same) .nil, shaped_ints [], shaped_ints [], _, rfl, iteF ?_⟩
      -- deal[1] = int(deal[1] * 48271 + 41) % 2147483647
      generalize upd (upd H1 p (.lst [])) p2 (.lst []) = H3 at hd2 hc2 bu2 ⊢
      refine ⟨_, rfl, _, _, _, _, rfl, rfl, SqL.of hd2, atI_nat (j := 1) rfl, _, _, rfl, rfl, .inr ⟨by decide, by decide⟩, _, _, rfl, rfl, .inl ⟨_, rfl, _, _, rfl, rfl, (by show (0 : Int) < 2147483647; decide), ?_⟩⟩
      refine ⟨_, rfl, _, _, _, 1, rfl, rfl, hd2, rfl, ?_⟩
      refine ⟨_, rfl, _, _, _, _, rfl, rfl, SqL.of upd_same, atI_nat (j := 1) rfl, _, _, rfl, rfl, ⟨by decide, by decide⟩, .inl ⟨_, rfl, _, rfl, _, _, rfl, rfl, n0, ?_⟩⟩
      refine k _ _ (Int.emod_nonneg _ (by omega)) (Int.emod_lt_of_pos _ n0) ⟨[], _, upd_same, by rw [upd_ne (Ne.symm dc)]; exact hc2, by simp, by simp, Int.emod_nonneg _ (by decide), Int.emod_lt_of_pos _ (by decide)⟩ ?_
      intro q o hq n1 n2
      rw [upd_ne n1]
      exact bu2 q o hq n1 n2
    · rw [List.concat_eq_append] at e
      subst e
      have ec : (cs' ++ [x]).map V.int = cs'.map V.int ++ [V.int x] := by simp
      have e1 : PyData.eqv (.list ((cs' ++ [x]).map PyData.int)) (.list []) = false := by
        cases cs' with
        | nil => rfl
        | cons y r => rfl
      have gx : 0 ≤ x := g x (by simp)
      have lx : cs'.length + 1 ≤ 63 := by simpa using l
      rw [e1]
      refine iteT ?_
      -- deal[0][-1] == 0
      refine ⟨_, rfl, _, _, _, _, rfl, rfl, SqL.of hd', atI_nat (j := 0) rfl, _, rfl, _, _, _, _, rfl, rfl, SqL.of hc', last_at, rfl, _, rfl, ?_⟩
      by_cases hx : x = 0
      · subst hx
        refine iteT ?_
        refine ⟨fun σ' H' => σ' = [some (.ref d), some (.int n), none] ∧ H' d = some (.lst [.ref c, .int b0]) ∧ H' c = some (.lst (cs'.map V.int)) ∧ But d c H H', fun σ' H' ⟨e1, e2, e3, e4⟩ => ⟨cs'.length, by simp, cs', e1, rfl, e2, e3, fun y hy => g y (by simp [hy]), by omega, e4⟩, ?_⟩
        refine ⟨_, rfl, _, _, _, _, rfl, rfl, SqL.of hd', atI_nat (j := 0) rfl, .inl ⟨rfl, _, SqL.of hc'⟩, _, _, V.int 0, rfl, rfl, hc', (by rw [ec]; simp), rfl, ?_, ?_, ?_⟩
        · rw [upd_ne dc]
          exact hd'
        · rw [upd_same, ec, List.dropLast_concat]
        · intro q o hq n1 n2
          rw [upd_ne n2]
          exact bu' q o hq n1 n2
      · have dx : decide (V.int x = V.int 0) = false := decide_eq_false fun z => hx (V.int.inj z)
        rw [dx]
        refine iteF ?_
        -- deal[0] != []: yes
        refine ⟨_, rfl, _, _, _, _, rfl, rfl, SqL.of hd', atI_nat (j := 0) rfl, Nat.zero_le _, fun p2 hp2 => ?_⟩
        have qd : d ≠ p2 := ne_of_none hd' hp2
        have qc : c ≠ p2 := ne_of_none hc' hp2
        have hd2 : (upd (upd H1 p (.lst [])) p2 (.lst [])) d = some (.lst [.ref c, .int b0]) := by rw [upd_ne qd]; exact hd'
        have hc2 : (upd (upd H1 p (.lst [])) p2 (.lst [])) c = some (.lst ((cs' ++ [x]).map V.int)) := by rw [upd_ne qc]; exact hc'
        have bu2 : But d c H (upd (upd H1 p (.lst [])) p2 (.lst [])) := fun q o hq n1 n2 => by
          have z := bu' q o hq n1 n2
          rw [upd_ne (ne_of_none z hp2)]
          exact z
        refine ⟨_, _, .lst (SqL.of hc2) (dp_ints _), .lst (SqL.of upd_same) .nil, shaped_ints _, shaped_ints [], _, rfl, ?_⟩
        rw [e1]
        refine iteT ?_
        generalize upd (upd H1 p (.lst [])) p2 (.lst []) = H3 at hd2 hc2 bu2 ⊢
        -- rest = int(deal[0].pop())
        refine ⟨_, rfl, _, _, _, _, rfl, rfl, SqL.of hd2, atI_nat (j := 0) rfl, .inl ⟨rfl, _, SqL.of hc2⟩, _, _, .int x, rfl, rfl, hc2, (by rw [ec]; simp), .inl ⟨_, rfl, ?_⟩⟩
        have hd3 : ∀ o, (upd H3 c o) d = some (.lst [.ref c, .int b0]) := fun o => by rw [upd_ne dc]; exact hd2
        have ed : ((cs' ++ [x]).map V.int).dropLast = cs'.map V.int := by rw [ec, List.dropLast_concat]
        rw [ed]
        -- deal[0].append(rest // bound)
        refine ⟨_, rfl, _, _, _, _, rfl, rfl, SqL.of (hd3 _), atI_nat (j := 0) rfl, .inl ⟨rfl, _, SqL.of upd_same⟩, _, rfl, _, rfl, _, _, rfl, rfl, wide_div n0 (b := 31) (by omega) (by decide) (by decide), _, _, _, rfl, rfl, upd_same, small1000 (by simp; omega), ?_⟩
        refine ⟨_, rfl, _, rfl, _, _, rfl, rfl, n0, ?_⟩
        rw [upd_upd]
        refine k _ _ (Int.emod_nonneg _ (by omega)) (Int.emod_lt_of_pos _ n0) ⟨cs' ++ [x / n], b0, by rw [upd_ne dc]; exact hd2, by rw [upd_same]; simp, ?_, by simp; omega, b1, b2⟩ ?_
        · intro y hy
          rcases List.mem_append.mp hy with hy | hy
          · exact g y (by simp [hy])
          · rw [List.mem_singleton] at hy
            subst hy
            exact Int.ediv_nonneg gx (by omega)
        · intro q o hq n1 n2
          rw [upd_ne n2]
          exact bu2 q o hq n1 n2
end
end K1

namespace K1
open PySem L2
/-- _law_of(deal, some), some a list at a | a text -/
def spOf : Sp := fun vs H Q _ => ∃ (d c : Addr), DealAt H d c ∧
  ((∃ (a : Addr) (xs : List V), vs = [.ref d, .ref a] ∧ H a = some (.lst xs) ∧ a ≠ d ∧ a ≠ c ∧ 0 < xs.length ∧ xs.length < 1000000 ∧
      ∀ (v : V) (H' : Hp), v ∈ xs → DealAt H' d c → But d c H H' → Q v H') ∨
    (∃ z : Str, vs = [.ref d, .str z] ∧ 0 < z.length ∧ z.length < 1000000 ∧ ∀ (ch : Nat) (H' : Hp), ch ∈ z.cps.toList → DealAt H' d c → But d c H H' → Q (.str ⟨#[ch]⟩) H'))
theorem scOf : FnScope ["deal", "some"] ["deal", "some"] (defScope sOf) := ⟨rfl, rfl, rfl, by decide +kernel, rfl, by decide +kernel, by decide +kernel⟩
structure OfTxt (K : PySem.W.Frag) (mg : Str → Option Value) (fAny : Addr) : Prop where
  len : mg "len" = none
  any : mg "_law_any" = some (.ref fAny)
  kAny : PySem.W.keepIn K (.ref fAny) = true
section
variable {P : Program} {w : World} {K : PySem.W.Frag} {mg : Str → Option Value} {base : Heap}
theorem ok_of {f fA : Addr} {fd fdA : FuncData} (F : Fun K "_law_of" "_law_of" sOf f fd) (T : OfTxt K mg fA) (G : FnOk P w K mg base CX0 1 fA fdA ["deal", "bound"] spAny) (bA : Binds K fdA ["deal", "bound"] []) :
    FnOk P w K mg base CX0 2 f fd ["deal", "some"] spOf := by
  refine F.ok scOf (fun vs H Q E h => ?_) (fun cdv A outer s H vs Q E hr h => ?_)
  · obtain ⟨d, c, _, ⟨a, xs, rfl, _⟩ | ⟨z, rfl, _⟩⟩ := h <;> rfl
  · obtain ⟨d, c, D, h⟩ := h
    rcases h with ⟨a, xs, rfl, ha, nd, nc, l0, l1, k⟩ | ⟨z, rfl, l0, l1, k⟩
    · refine ⟨_, pss_one (ps_ret (pe_ix ix_list (pv 1) (pe_call G hr rfl T.any T.kAny bA .nil pass0 (pa_cons (pv 0) (pa_cons (pe_callB call_len_seq (by rfl) T.len PySem.boot_len (pa_cons (pv 1) pa_nil)) pa_nil))) (fun _ _ => rfl))), ?_⟩
      refine ⟨_, rfl, _, rfl, _, rfl, _, _, rfl, .inl (SqL.of ha), d, c, _, rfl, D, by omega, by omega, fun r H' r0 r1 D' bu => ?_⟩
      have ha' := bu a _ ha nd nc
      obtain ⟨j, rfl⟩ := Int.eq_ofNat_of_zero_le r0
      have hj : j < xs.length := by omega
      refine ⟨_, _, _, xs[j], rfl, rfl, SqL.of ha', atI_nat (by simp [hj]), k _ _ (List.getElem_mem hj) D' bu⟩
    · refine ⟨_, pss_one (ps_ret (pe_ix ix_str (pv 1) (pe_call G hr rfl T.any T.kAny bA .nil pass0 (pa_cons (pv 0) (pa_cons (pe_callB call_len_str (by rfl) T.len PySem.boot_len (pa_cons (pv 1) pa_nil)) pa_nil))) (fun _ _ => rfl))), ?_⟩
      refine ⟨_, rfl, _, rfl, _, rfl, _, rfl, (by show z.length ≤ sizeLine; rw [sizeLine_eq]; omega), d, c, _, rfl, D, by omega, by omega, fun r H' r0 r1 D' bu => ?_⟩
      obtain ⟨j, rfl⟩ := Int.eq_ofNat_of_zero_le r0
      have hz : z.length = z.cps.toList.length := by
        show z.cps.size = _
        simp
      have hj : j < z.cps.toList.length := by omega
      refine ⟨_, _, z.cps.toList[j], rfl, rfl, (by show z.length ≤ sizeLine; rw [sizeLine_eq]; omega), atI_nat (by rw [List.getElem?_eq_getElem hj]), k _ _ (List.getElem_mem hj) D' bu⟩
end
end K1

namespace K1
open PySem L2
def spSource (K : PySem.W.Frag) : Sp := fun vs H Q _ => ∃ (a : Addr) (ns : List Int), vs = [.ref a] ∧ SqL K H a (ns.map V.int) ∧ ns.length ≤ 63 ∧
  ∀ (d c : Addr) (H' : Hp), DealAt H' d c → Same H H' → H d = none → H c = none → Q (.ref d) H'
theorem scSource : FnScope ["script", "cells", "blend", "cell"] ["script"] (defScope sSource) := ⟨rfl, rfl, rfl, by decide +kernel, rfl, by decide +kernel, by decide +kernel⟩
structure SourceTxt (K : PySem.W.Frag) (mg : Str → Option Value) : Prop where
  int : mg "int" = none
  abs : mg "abs" = none
def absI (i : Int) : Int := if i < 0 then -i else i
theorem absI_nn (i : Int) : 0 ≤ absI i := by unfold absI; split <;> omega
theorem take_more {α : Type} : ∀ {l : List α} {i : Nat} {x : α}, l[i]? = some x → l.take (i + 1) = l.take i ++ [x]
  | [], i, x, h => by simp at h
  | a :: l, 0, x, h => by
    have e : a = x := Option.some.inj h
    subst e
    rfl
  | a :: l, i + 1, x, h => by
    have ih := take_more (l := l) (i := i) (x := x) h
    show a :: l.take (i + 1) = a :: l.take i ++ [x]
    rw [ih]
    rfl
theorem cut_ints (ns : List Int) (lo hi : Option Int) : ∃ ms : List Int, cutV (ns.map V.int) lo hi = ms.map V.int ∧ ms.length ≤ ns.length := by
  refine ⟨(ns.drop (HT.sIx (ns.map V.int).length 0 lo)).take (HT.sIx (ns.map V.int).length (ns.map V.int).length hi - HT.sIx (ns.map V.int).length 0 lo), ?_, ?_⟩
  · unfold cutV
    simp [List.map_take, List.map_drop]
  · rw [List.length_take, List.length_drop]
    omega
theorem map_at {l : List Int} {i : Nat} {x : V} (h : (l.map V.int)[i]? = some x) : ∃ z, l[i]? = some z ∧ x = V.int z := by
  rw [List.getElem?_map] at h
  cases e : l[i]? with
  | none =>
    rw [e] at h
    cases h
  | some z =>
    rw [e] at h
    exact ⟨z, rfl, (Option.some.inj h).symm⟩
section
variable {P : Program} {w : World} {K : PySem.W.Frag} {mg : Str → Option Value} {base : Heap}
theorem ok_source {f : Addr} {fd : FuncData} (F : Fun K "_law_source" "_law_source" sSource f fd) (T : SourceTxt K mg) : FnOk P w K mg base CX0 1 f fd ["script"] (spSource K) := by
  refine F.ok scSource (fun vs H Q E h => ?_) (fun cdv A outer s H vs Q E hr h => ?_)
  · obtain ⟨a, ns, rfl, _⟩ := h
    rfl
  · obtain ⟨a, ns, rfl, hS, l, k⟩ := h
    refine ⟨_, pss_cons (ps_setLc (i := 1) (own := [("cell", 3)]) (g := gName 3) (tt := tYes) (by rfl) scSource.nd rfl rfl (sw_true rfl rfl rfl (by decide +kernel)) (pi_list (pe_slice sl_list (pv 0) po_none (po_some pe_int)))
        (blkOk_by (own := [("cell", 3)]) (N := ["script", "cells", "blend", "cell"]) (sc := defScope sSource) (by decide +kernel)) (fun _ _ _ _ _ => pg_name (i := 3) scSource.nd rfl (Or.inl rfl)) (fun _ _ _ _ _ => pts_nil)
        (fun _ _ _ _ _ => pe_callB call_abs (by rfl) T.abs (by decide +kernel) (pa_cons (pe_callTy call_int1 (by rfl) T.int (by decide +kernel) (pa_cons (pv 3) pa_nil)) pa_nil)))
      (pss_cons (ps_set (i := 2) scSource.nd rfl (Or.inl rfl) pe_int)
      (pss_cons (ps_for PassesOwn.never rfl (pi_list (pv 1)) (pg_name (i := 3) scSource.nd rfl (Or.inl rfl))
        (pss_one (ps_set (i := 2) scSource.nd rfl (Or.inl rfl) (pe_op op_mod (pe_callTy call_int1 (by rfl) T.int (by decide +kernel) (pa_cons (pe_op op_add (pe_op op_add (pe_op op_mul (pv 2) pe_int) (pe_op op_mod (pv 3) pe_int)) pe_int) pa_nil)) pe_int))))
      (pss_one (ps_ret (pe_lst (pa_cons (pe_revL (pe_lc (own := [("cell", 3)]) (g := gName 3) (by rfl) scSource.nd (pi_list (pv 1))
          (blkOk_by (own := [("cell", 3)]) (N := ["script", "cells", "blend", "cell"]) (sc := defScope sSource) (by decide +kernel)) (fun _ _ _ _ _ => pg_name (i := 3) scSource.nd rfl (Or.inl rfl))
          (fun _ _ _ _ _ => pts_one (pt_cmpR op_ge (pv 3) (pe_op op_pow pe_int pe_int) (nomark _))) (fun _ _ _ _ _ => pv 3))) (pa_cons (pv 2) pa_nil))))))), ?_⟩
    obtain ⟨ms, em, lm⟩ := cut_ints ns none (some 63)
    refine ⟨_, rfl, 63, rfl, _, _, rfl, hS, fun p hp => ⟨p, rfl, ⟨_, SqL.of upd_same⟩, fun D hD => ?_⟩⟩
    have pD : p ≠ D := ne_of_none upd_same hD
    have hD0 : H D = none := by
      have z := hD
      rw [upd_ne (Ne.symm pD)] at z
      exact z
    rw [em] at hD ⊢
    refine lc_list (K := K) (a := p) (xs := ms.map V.int) (fun i H1 => Same H H1 ∧ H1 p = some (.lst (ms.map V.int)) ∧ H1 D = some (.lst (((ms.take i).map absI).map V.int))) ⟨?_, ?_, upd_same⟩ (fun i H1 _ q => SqL.of q.2.1) ?_ ?_
    · intro q o hq
      rw [upd_ne (ne_of_none hq hD0), upd_ne (ne_of_none hq hp)]
      exact hq
    · rw [upd_ne pD, upd_same]
    · rintro i x H1 hx ⟨q1, q2, q3⟩
      obtain ⟨z, hz, rfl⟩ := map_at hx
      have li : i < ms.length := (List.getElem?_eq_some_iff.mp hz).1
      refine ⟨rfl, ?_⟩
      refine ⟨_, rfl, .inl ⟨_, rfl, _, rfl, _, q3, small1000 (by simp; omega), ?_, ?_, ?_⟩⟩
      · intro q o hq
        rw [upd_ne (ne_of_none hq hD0)]
        exact q1 q o hq
      · rw [upd_ne pD]
        exact q2
      · rw [upd_same, take_more hz]
        simp [absI]
    · rintro H1 ⟨q1, q2, q3⟩
      rw [List.length_map, List.take_length] at q3
      have gc : ∀ x ∈ ms.map absI, 0 ≤ x := fun x hx => by
        obtain ⟨y, _, rfl⟩ := List.mem_map.mp hx
        exact absI_nn y
      have lc : (ms.map absI).length ≤ 63 := by rw [List.length_map]; omega
      generalize ms.map absI = cs at q3 gc lc
      -- the blend
      refine ⟨_, rfl, D, rfl, ⟨_, SqL.of q3⟩, for_list (K := K) (a := D) (xs := cs.map V.int) (fun i σ H2 => ∃ (b : Int) (v : Option V), σ = [some (.ref a), some (.ref D), some (.int b), v] ∧ H2 = H1 ∧ 0 ≤ b ∧ b < 2147483647)
        ⟨1406019, none, rfl, rfl, by decide, by decide⟩ (fun i σ H2 _ ⟨_, _, _, e, _⟩ => by rw [e]; exact SqL.of q3) ?_ ?_⟩
      · rintro i x σ H2 hx ⟨b, v, rfl, rfl, b0, b1⟩
        obtain ⟨z, hz, rfl⟩ := map_at hx
        refine ⟨_, rfl, _, _, rfl, rfl, .inr ⟨by decide, by decide⟩, _, rfl, _, _, rfl, rfl, (by show (0 : Int) < 2147483549; decide), _, _, rfl, rfl, _, _, rfl, rfl, .inl ⟨_, rfl, _, _, rfl, rfl, (by show (0 : Int) < 2147483647; decide), ?_⟩⟩
        exact ⟨_, _, rfl, rfl, Int.emod_nonneg _ (by decide), Int.emod_lt_of_pos _ (by decide)⟩
      · rintro σ H2 ⟨b, v, rfl, rfl, b0, b1⟩
        refine ⟨_, rfl, D, rfl, ⟨_, SqL.of q3⟩, fun D2 hD2 => ?_⟩
        have n2 : D ≠ D2 := ne_of_none q3 hD2
        refine lc_list (K := K) (a := D) (xs := cs.map V.int) (fun i H3 => ∃ fs : List Int, Same H2 H3 ∧ H3 D2 = some (.lst (fs.map V.int)) ∧ (∀ x ∈ fs, 0 ≤ x) ∧ fs.length ≤ i) ⟨[], fun q o hq => by rw [upd_ne (ne_of_none hq hD2)]; exact hq, upd_same, by simp, by simp⟩
          (fun i H3 _ ⟨_, s3, _⟩ => SqL.of (s3 _ _ q3)) ?_ ?_
        · rintro i x H3 hx ⟨fs, s3, f3, g3, l3⟩
          obtain ⟨z, hz, rfl⟩ := map_at hx
          have li : i < cs.length := (List.getElem?_eq_some_iff.mp hz).1
          refine ⟨rfl, _, rfl, _, _, rfl, rfl, ⟨by decide, by decide, by decide⟩, _, _, rfl, rfl, _, rfl, ?_⟩
          refine ite2 (fun _ => ?_) (fun _ => ?_)
          · refine ⟨_, rfl, _, f3, small1000 (by simp; omega), fs ++ [z], ?_, ?_, ?_, ?_⟩
            · intro q o hq
              rw [upd_ne (ne_of_none hq hD2)]
              exact s3 q o hq
            · rw [upd_same]
              simp
            · intro y hy
              rcases List.mem_append.mp hy with hy | hy
              · exact g3 y hy
              · rw [List.mem_singleton] at hy
                subst hy
                exact gc _ (List.mem_of_getElem? hz)
            · simp
              omega
          · exact ⟨fs, s3, f3, g3, by omega⟩
        · rintro H3 ⟨fs, s3, f3, g3, l3⟩
          rw [List.length_map] at l3
          refine ⟨D2, _, rfl, SqL.of f3, fun r hr => ⟨_, rfl, (by show 2 ≤ sizeLine; decide), fun t ht => ?_⟩⟩
          have nt : r ≠ t := ne_of_none upd_same ht
          have s4 : Same H (upd (upd H3 r (.lst (fs.map V.int).reverse)) t (.lst [.ref r, .int b])) := fun q o hq => by
            have z := s3 _ _ (q1 q o hq)
            have zr := ne_of_none z hr
            rw [upd_ne (ne_of_none (by rw [upd_ne zr]; exact z) ht), upd_ne zr]
            exact z
          refine k t r _ ⟨fs.reverse, b, upd_same, ?_, ?_, ?_, b0, b1⟩ s4 ?_ ?_
          · rw [upd_ne nt, upd_same, List.map_reverse]
          · intro x hx
            exact g3 x (List.mem_reverse.mp hx)
          · rw [List.length_reverse]
            omega
          · have ht3 : H3 t = none := by
              have z := ht
              rw [upd_ne (Ne.symm nt)] at z
              exact z
            exact (q1.trans s3).free ht3
          · exact (q1.trans s3).free hr
end
end K1

/-! data whose objects stand still: all but the cells N that may change -/
namespace K1
open PySem L2
/-- tracked -/
def Trk (H : Hp) : Addr → Prop := fun a => ∃ o, H a = some o
/-- what is no cell of N stays -/
def Bt (N : Addr → Prop) (H H' : Hp) : Prop := ∀ a o, ¬ N a → H a = some o → H' a = some o
theorem Bt.refl {N : Addr → Prop} {H : Hp} : Bt N H H := fun _ _ _ h => h
theorem Bt.trans {N : Addr → Prop} {H H1 H2 : Hp} (a : Bt N H H1) (b : Bt N H1 H2) : Bt N H H2 := fun q o n h => b q o n (a q o n h)
theorem Bt.mono {N N' : Addr → Prop} {H H' : Hp} (b : Bt N' H H') (h : ∀ a, N' a → N a) : Bt N H H' := fun q o n e => b q o (fun z => n (h _ z)) e
theorem Bt.same {N : Addr → Prop} {H H' : Hp} (s : Same H H') : Bt N H H' := fun q o _ h => s q o h
theorem Bt.new {N : Addr → Prop} {H H1 : Hp} {l : Addr} {o : HO} (b : Bt N H H1) (hl : H1 l = none) : Bt N H (upd H1 l o) := fun q u n e => by
  have z := b q u n e
  rw [upd_ne (ne_of_none z hl)]
  exact z
theorem Bt.cell {N : Addr → Prop} {H H1 : Hp} {l : Addr} {o : HO} (b : Bt N H H1) (hl : N l) : Bt N H (upd H1 l o) := fun q u n e => by
  have z := b q u n e
  have ne : q ≠ l := fun h => n (by rw [h]; exact hl)
  rw [upd_ne ne]
  exact z
theorem _root_.L2.Same.new {H H1 : Hp} {l : Addr} {o : HO} (b : Same H H1) (hl : H1 l = none) : Same H (upd H1 l o) := fun q u e => by
  have z := b q u e
  rw [upd_ne (ne_of_none z hl)]
  exact z
theorem _root_.L2.Same.cell {H H1 : Hp} {l : Addr} {o : HO} (b : Same H H1) (hl : H l = none) : Same H (upd H1 l o) := fun q u e => by
  have z := b q u e
  rw [upd_ne (ne_of_none e hl)]
  exact z
theorem Trk.same {H H' : Hp} (s : Same H H') {a : Addr} (h : Trk H a) : Trk H' a := by
  obtain ⟨o, e⟩ := h
  exact ⟨o, s a o e⟩
/-- a tuple of the text's own -/
def KTup (K : PySem.W.Frag) (a : Addr) (xs : List V) : Prop := ∃ (o : Obj) (its : Array Value) (n : Nat), K.lookup a = some o ∧ o.cls = .type "tuple" ∧ o.data = .seq its n ∧ its.size ≤ sizeLine ∧ Vals xs its.toList
theorem KTup.sq {K : PySem.W.Frag} {H : Hp} {a : Addr} {xs : List V} (h : KTup K a xs) : SqT K H a xs := .inr h
mutual
inductive Dm (K : PySem.W.Frag) (N : Addr → Prop) (H : Hp) : V → PyData → Prop
  | non : Dm K N H .non .none
  | bl (b : Bool) : Dm K N H (.bl b) (.bool b)
  | int (i : Int) : Dm K N H (.int i) (.int i)
  | str (x : Str) : Dm K N H (.str x) (.str x)
  | lst {a : Addr} {xs : List V} {ds : List PyData} : H a = some (.lst xs) → ¬ N a → DmAll K N H xs ds → Dm K N H (.ref a) (.list ds)
  | tup {a : Addr} {xs : List V} {ds : List PyData} : H a = some (.tup xs) → ¬ N a → DmAll K N H xs ds → Dm K N H (.ref a) (.tuple ds)
  | con {a : Addr} {xs : List V} {ds : List PyData} : KTup K a xs → DmAll K N H xs ds → Dm K N H (.ref a) (.tuple ds)
inductive DmAll (K : PySem.W.Frag) (N : Addr → Prop) (H : Hp) : List V → List PyData → Prop
  | nil : DmAll K N H [] []
  | cons {v : V} {vs : List V} {d : PyData} {ds : List PyData} : Dm K N H v d → DmAll K N H vs ds → DmAll K N H (v :: vs) (d :: ds)
end
section
variable {K : PySem.W.Frag}
mutual
theorem Dm.mono {N N' : Addr → Prop} {H H' : Hp} (hn : ∀ a, Trk H a → N' a → N a) (hh : Bt N H H') : ∀ (d : PyData) (v : V), Dm K N H v d → Dm K N' H' v d
  | .none, _, h => by
    cases h
    exact .non
  | .bool b, _, h => by
    cases h
    exact .bl b
  | .int i, _, h => by
    cases h
    exact .int i
  | .str x, _, h => by
    cases h
    exact .str x
  | .list ds, _, h => by
    cases h with
    | lst e n a => exact .lst (hh _ _ n e) (fun z => n (hn _ ⟨_, e⟩ z)) (DmAll.mono hn hh ds _ a)
  | .tuple ds, _, h => by
    cases h with
    | tup e n a => exact .tup (hh _ _ n e) (fun z => n (hn _ ⟨_, e⟩ z)) (DmAll.mono hn hh ds _ a)
    | con e a => exact .con e (DmAll.mono hn hh ds _ a)
  | .dict _, _, h => by cases h
theorem DmAll.mono {N N' : Addr → Prop} {H H' : Hp} (hn : ∀ a, Trk H a → N' a → N a) (hh : Bt N H H') : ∀ (ds : List PyData) (vs : List V), DmAll K N H vs ds → DmAll K N' H' vs ds
  | [], _, h => by
    cases h
    exact .nil
  | d :: ds, _, h => by
    cases h with
    | cons a b => exact .cons (Dm.mono hn hh d _ a) (DmAll.mono hn hh ds _ b)
end
mutual
theorem Dm.dp {N : Addr → Prop} {H : Hp} : ∀ (d : PyData) (v : V), Dm K N H v d → Dp K H v d
  | .none, _, h => by
    cases h
    exact .non
  | .bool b, _, h => by
    cases h
    exact .bl b
  | .int i, _, h => by
    cases h
    exact .int i
  | .str x, _, h => by
    cases h
    exact .str x
  | .list ds, _, h => by
    cases h with
    | lst e n a => exact .lst (SqL.of e) (DmAll.dp ds _ a)
  | .tuple ds, _, h => by
    cases h with
    | tup e n a => exact .tup (SqT.of e) (DmAll.dp ds _ a)
    | con e a => exact .tup e.sq (DmAll.dp ds _ a)
  | .dict _, _, h => by cases h
theorem DmAll.dp {N : Addr → Prop} {H : Hp} : ∀ (ds : List PyData) (vs : List V), DmAll K N H vs ds → DpAll K H vs ds
  | [], _, h => by
    cases h
    exact .nil
  | d :: ds, _, h => by
    cases h with
    | cons a b => exact .cons (Dm.dp d _ a) (DmAll.dp ds _ b)
end
variable {N : Addr → Prop} {H : Hp}
theorem Dm.up {d : PyData} {v : V} {H' : Hp} (h : Dm K N H v d) (b : Bt N H H') : Dm K N H' v d := Dm.mono (fun _ _ z => z) b _ _ h
theorem DmAll.up {ds : List PyData} {vs : List V} {H' : Hp} (h : DmAll K N H vs ds) (b : Bt N H H') : DmAll K N H' vs ds := DmAll.mono (fun _ _ z => z) b _ _ h
theorem DmAll.app : ∀ {vs ws : List V} {ds es : List PyData}, DmAll K N H vs ds → DmAll K N H ws es → DmAll K N H (vs ++ ws) (ds ++ es)
  | _, _, _, _, .nil, h => h
  | _, _, _, _, .cons a b, h => .cons a (DmAll.app b h)
theorem DmAll.snoc {vs : List V} {ds : List PyData} {w : V} {e : PyData} (h : DmAll K N H vs ds) (x : Dm K N H w e) : DmAll K N H (vs ++ [w]) (ds ++ [e]) := h.app (.cons x .nil)
theorem DmAll.len : ∀ {vs : List V} {ds : List PyData}, DmAll K N H vs ds → vs.length = ds.length
  | _, _, .nil => rfl
  | _, _, .cons _ b => by rw [List.length_cons, List.length_cons, DmAll.len b]
theorem DmAll.get : ∀ {vs : List V} {ds : List PyData} {i : Nat} {d : PyData}, DmAll K N H vs ds → ds[i]? = some d → ∃ v, vs[i]? = some v ∧ Dm K N H v d
  | _, _, i, d, .nil, h => by simp at h
  | _, _, 0, d, .cons a b, h => by
    have e := Option.some.inj h
    subst e
    exact ⟨_, rfl, a⟩
  | _, _, i + 1, d, .cons a b, h => DmAll.get (i := i) b h
theorem DmAll.getV : ∀ {vs : List V} {ds : List PyData} {i : Nat} {v : V}, DmAll K N H vs ds → vs[i]? = some v → ∃ d, ds[i]? = some d ∧ Dm K N H v d
  | _, _, i, d, .nil, h => by simp at h
  | _, _, 0, d, .cons a b, h => by
    have e := Option.some.inj h
    subst e
    exact ⟨_, rfl, a⟩
  | _, _, i + 1, d, .cons a b, h => DmAll.getV (i := i) b h
theorem DmAll.take : ∀ {vs : List V} {ds : List PyData} (i : Nat), DmAll K N H vs ds → DmAll K N H (vs.take i) (ds.take i)
  | _, _, _, .nil => by simp; exact .nil
  | _, _, 0, .cons a b => .nil
  | _, _, i + 1, .cons a b => .cons a (DmAll.take i b)
theorem DmAll.drop : ∀ {vs : List V} {ds : List PyData} (i : Nat), DmAll K N H vs ds → DmAll K N H (vs.drop i) (ds.drop i)
  | _, _, _, .nil => by simp; exact .nil
  | _, _, 0, .cons a b => .cons a b
  | _, _, i + 1, .cons a b => DmAll.drop i b
theorem DmAll.rev : ∀ {vs : List V} {ds : List PyData}, DmAll K N H vs ds → DmAll K N H vs.reverse ds.reverse
  | _, _, .nil => .nil
  | _, _, .cons a b => by
    rw [List.reverse_cons, List.reverse_cons]
    exact (DmAll.rev b).snoc a
/-- the tuple behind data that is one -/
theorem Dm.seqT {v : V} {ds : List PyData} (h : Dm K N H v (.tuple ds)) : ∃ a xs, v = .ref a ∧ SqT K H a xs ∧ DmAll K N H xs ds := by
  cases h with
  | tup e n a => exact ⟨_, _, rfl, SqT.of e, a⟩
  | con e a => exact ⟨_, _, rfl, e.sq, a⟩
/-- a tuple that stands -/
def Tp (K : PySem.W.Frag) (N : Addr → Prop) (H : Hp) (a : Addr) (xs : List V) : Prop := (H a = some (.tup xs) ∧ ¬ N a) ∨ KTup K a xs
theorem Tp.sq {a : Addr} {xs : List V} (h : Tp K N H a xs) : SqT K H a xs := h.elim (fun z => SqT.of z.1) fun z => z.sq
theorem Tp.up {H' : Hp} {a : Addr} {xs : List V} (h : Tp K N H a xs) (b : Bt N H H') : Tp K N H' a xs := h.elim (fun z => .inl ⟨b _ _ z.2 z.1, z.2⟩) .inr
theorem Tp.ty {a : Addr} {xs : List V} (h : Tp K N H a xs) : TyX K H (.ref a) (.type "tuple") := h.elim (fun z => .base (.tup z.1)) fun ⟨_, _, _, h1, h2, _⟩ => .kTuple h1 h2
theorem Dm.seq {v : V} {ds : List PyData} (h : Dm K N H v (.tuple ds)) : ∃ a xs, v = .ref a ∧ Tp K N H a xs ∧ DmAll K N H xs ds := by
  cases h with
  | tup e n a => exact ⟨_, _, rfl, .inl ⟨e, n⟩, a⟩
  | con e a => exact ⟨_, _, rfl, .inr e, a⟩
/-- a pair of a text and another thing -/
theorem Dm.pair {v : V} {x : Str} {d : PyData} (h : Dm K N H v (.tuple [.str x, d])) : ∃ a y, v = .ref a ∧ Tp K N H a [.str x, y] ∧ Dm K N H y d := by
  obtain ⟨a, xs, e, t, al⟩ := h.seq
  cases al with
  | cons h1 r =>
    cases r with
    | cons h2 r =>
      cases r
      cases h1
      exact ⟨a, _, e, t, h2⟩
theorem Dm.strV {v : V} {z : Str} (h : Dm K N H v (.str z)) : v = .str z := by
  cases h
  rfl
/-- the name of the type -/
def tyN : PyData → String
  | .none => "NoneType"
  | .bool _ => "bool"
  | .int _ => "int"
  | .str _ => "str"
  | .list _ => "list"
  | .tuple _ => "tuple"
  | .dict _ => "dict"
theorem Dm.ty {v : V} {d : PyData} (h : Dm K N H v d) : TyX K H v (.type (tyN d)) := by
  cases h with
  | non => exact .base .non
  | bl b => exact .base (.bl b)
  | int i => exact .base (.int i)
  | str x => exact .base (.str x)
  | lst e n a => exact .base (.lst e)
  | tup e n a => exact .base (.tup e)
  | con e a =>
    obtain ⟨o, its, n, h1, h2, _⟩ := e
    exact .kTuple h1 h2
def isTup : PyData → Bool
  | .tuple _ => true
  | _ => false
def isStr : PyData → Bool
  | .str _ => true
  | _ => false
theorem kit_tup (d : PyData) : PySem.W.kitOne K (.type (tyN d)) (.type "tuple") = some (isTup d) := by
  cases d
  · exact kit_ty (a := "NoneType") (b := "tuple") (r := false) (by decide +kernel)
  · exact kit_ty (a := "bool") (b := "tuple") (r := false) (by decide +kernel)
  · exact kit_ty (a := "int") (b := "tuple") (r := false) (by decide +kernel)
  · exact kit_ty (a := "str") (b := "tuple") (r := false) (by decide +kernel)
  · exact kit_ty (a := "list") (b := "tuple") (r := false) (by decide +kernel)
  · exact kit_ty (a := "tuple") (b := "tuple") (r := true) (by decide +kernel)
  · exact kit_ty (a := "dict") (b := "tuple") (r := false) (by decide +kernel)
theorem kit_str (d : PyData) : PySem.W.kitOne K (.type (tyN d)) (.type "str") = some (isStr d) := by
  cases d
  · exact kit_ty (a := "NoneType") (b := "str") (r := false) (by decide +kernel)
  · exact kit_ty (a := "bool") (b := "str") (r := false) (by decide +kernel)
  · exact kit_ty (a := "int") (b := "str") (r := false) (by decide +kernel)
  · exact kit_ty (a := "str") (b := "str") (r := true) (by decide +kernel)
  · exact kit_ty (a := "list") (b := "str") (r := false) (by decide +kernel)
  · exact kit_ty (a := "tuple") (b := "str") (r := false) (by decide +kernel)
  · exact kit_ty (a := "dict") (b := "str") (r := false) (by decide +kernel)
theorem Dm.tupV {v : V} {d : PyData} (h : Dm K N H v d) (e : isTup d = true) : ∃ ds, d = .tuple ds := by
  cases d <;> first | exact ⟨_, rfl⟩ | cases e
end
/-! documents -/
inductive Doc where
  | txt (z : Str)
  | nod (x : Str) (ts : List Doc)
def mOpen (x : Str) : PyData := .tuple [.str "open", .str x]
def mText (z : Str) : PyData := .tuple [.str "text", .str z]
def mClose : PyData := .tuple [.str "close"]
mutual
def Doc.dat : Doc → PyData
  | .txt z => .str z
  | .nod x ts => .tuple [.str x, .tuple (datAll ts)]
def datAll : List Doc → List PyData
  | [] => []
  | t :: ts => t.dat :: datAll ts
end
mutual
def Doc.marks : Doc → List PyData
  | .txt z => [mText z]
  | .nod x ts => mOpen x :: (marksAll ts ++ [mClose])
def marksAll : List Doc → List PyData
  | [] => []
  | t :: ts => t.marks ++ marksAll ts
end
theorem datAll_map : ∀ ts : List Doc, datAll ts = ts.map Doc.dat
  | [] => rfl
  | t :: ts => by
    unfold datAll
    rw [datAll_map ts]
    rfl
theorem datAll_length (ts : List Doc) : (datAll ts).length = ts.length := by rw [datAll_map, List.length_map]
theorem marks_pos (t : Doc) : 0 < t.marks.length := by
  cases t <;> unfold Doc.marks <;> simp
theorem marksAll_app : ∀ ts us : List Doc, marksAll (ts ++ us) = marksAll ts ++ marksAll us
  | [], us => rfl
  | t :: ts, us => by
    show t.marks ++ marksAll (ts ++ us) = (t.marks ++ marksAll ts) ++ marksAll us
    rw [marksAll_app ts us, List.append_assoc]
theorem marksAll_len : ∀ ts : List Doc, ts.length ≤ (marksAll ts).length
  | [] => Nat.le_refl _
  | t :: ts => by
    show ts.length + 1 ≤ (t.marks ++ marksAll ts).length
    have h1 := marks_pos t
    have h2 := marksAll_len ts
    rw [List.length_append]
    omega
end K1

/-! names and texts -/
namespace K1
open PySem L2 Xr
theorem smallM {n : Nat} (h : n ≤ 1000000) : n < sizeLine := Nat.lt_of_le_of_lt h (by decide)
def hasOnly (z g : Str) : Bool := z.cps.toList.all fun c => decide (c ∈ g.cps.toList)
abbrev abc : Str := Str.ofString "abcdefghijklmnopqrstuvwxyz"
abbrev abc9 : Str := Str.ofString "abcdefghijklmnopqrstuvwxyz0123456789 "
def nameD : PyData → Bool
  | .str z => decide (z.length ≠ 0) && (decide (z.length ≤ 8) && hasOnly z abc)
  | _ => false
def textD : PyData → Bool
  | .str z => decide (z.length ≤ 16) && hasOnly z abc9
  | _ => false
def spHas : Sp := fun vs H Q _ => ∃ (z g : Str), vs = [.str z, .str g] ∧ z.length ≤ 900000 ∧ ∀ H', Same H H' → Q (.bl (hasOnly z g)) H'
def spName (K : PySem.W.Frag) : Sp := fun vs H Q _ => ∃ (v : V) (d : PyData) (N : Addr → Prop), vs = [v] ∧ Dm K N H v d ∧ (∀ z, d = .str z → z.length ≤ 900000) ∧ ∀ H', Same H H' → Q (.bl (nameD d)) H'
def spText (K : PySem.W.Frag) : Sp := fun vs H Q _ => ∃ (v : V) (d : PyData) (N : Addr → Prop), vs = [v] ∧ Dm K N H v d ∧ (∀ z, d = .str z → z.length ≤ 900000) ∧ ∀ H', Same H H' → Q (.bl (textD d)) H'
structure WordTxt (K : PySem.W.Frag) (mg : Str → Option Value) (a_has_only : Addr) (t1 t2 t3 t4 : Tok) : Prop where
  n_isinstance : mg "isinstance" = none
  n_str : mg "str" = none
  n_len : mg "len" = none
  n_all : mg "all" = none
  g_NAME_MOST : mg "NAME_MOST" = some (.int 8 t1)
  g_TEXT_MOST : mg "TEXT_MOST" = some (.int 16 t2)
  g_NAME_SIGNS : mg "NAME_SIGNS" = some (.str abc t3)
  g_TEXT_SIGNS : mg "TEXT_SIGNS" = some (.str abc9 t4)
section
variable {P : Program} {w : World} {K : PySem.W.Frag} {mg : Str → Option Value} {base : Heap}
end
end K1

/-! a document that is still being made: lists of a name and a list of things, into which things are put -/
namespace K1
open PySem L2
inductive AT where
  | txt (z : Str)
  | nod (a k : Addr) (x : Str) (ts : List AT)
def AT.val : AT → V
  | .txt z => .str z
  | .nod a _ _ _ => .ref a
mutual
/-- the nodes' own lists -/
def AT.na : AT → List Addr
  | .txt _ => []
  | .nod a _ _ ts => a :: naAll ts
def naAll : List AT → List Addr
  | [] => []
  | t :: ts => t.na ++ naAll ts
end
mutual
/-- the lists of what stands in them -/
def AT.ka : AT → List Addr
  | .txt _ => []
  | .nod _ k _ ts => k :: kaAll ts
def kaAll : List AT → List Addr
  | [] => []
  | t :: ts => t.ka ++ kaAll ts
end
mutual
def AT.At (H : Hp) : AT → Prop
  | .txt _ => True
  | .nod a k x ts => H a = some (.lst [.str x, .ref k]) ∧ H k = some (.lst (ts.map AT.val)) ∧ atAll H ts
def atAll (H : Hp) : List AT → Prop
  | [] => True
  | t :: ts => t.At H ∧ atAll H ts
end
mutual
theorem AT.frame {H H' : Hp} : ∀ t : AT, (∀ q ∈ t.na, H' q = H q) → (∀ q ∈ t.ka, H' q = H q) → t.At H → t.At H'
  | .txt _, _, _, _ => trivial
  | .nod a k x ts, h1, h2, h => by
    obtain ⟨e1, e2, e3⟩ := h
    have m1 : ∀ q ∈ a :: naAll ts, H' q = H q := h1
    have m2 : ∀ q ∈ k :: kaAll ts, H' q = H q := h2
    refine ⟨by rw [m1 a (by simp)]; exact e1, by rw [m2 k (by simp)]; exact e2, ?_⟩
    exact atAll_frame ts (fun q hq => m1 q (by simp [hq])) (fun q hq => m2 q (by simp [hq])) e3
theorem atAll_frame {H H' : Hp} : ∀ ts : List AT, (∀ q ∈ naAll ts, H' q = H q) → (∀ q ∈ kaAll ts, H' q = H q) → atAll H ts → atAll H' ts
  | [], _, _, _ => trivial
  | t :: ts, h1, h2, h => by
    have m1 : ∀ q ∈ t.na ++ naAll ts, H' q = H q := h1
    have m2 : ∀ q ∈ t.ka ++ kaAll ts, H' q = H q := h2
    exact ⟨AT.frame t (fun q hq => m1 q (by simp [hq])) (fun q hq => m2 q (by simp [hq])) h.1, atAll_frame ts (fun q hq => m1 q (by simp [hq])) (fun q hq => m2 q (by simp [hq])) h.2⟩
end
mutual
/-- n put into the list k0, ahead of its i-th thing -/
def putT (k0 : Addr) (i : Nat) (n : AT) : AT → AT
  | .txt z => .txt z
  | .nod a k x ts => if k = k0 then .nod a k x (ts.take i ++ n :: ts.drop i) else .nod a k x (putAll k0 i n ts)
def putAll (k0 : Addr) (i : Nat) (n : AT) : List AT → List AT
  | [] => []
  | t :: ts => putT k0 i n t :: putAll k0 i n ts
end
theorem put_val {k0 : Addr} {i : Nat} {n : AT} : ∀ t : AT, (putT k0 i n t).val = t.val
  | .txt _ => rfl
  | .nod a k x ts => by
    unfold putT
    split <;> rfl
theorem putAll_vals {k0 : Addr} {i : Nat} {n : AT} : ∀ ts : List AT, (putAll k0 i n ts).map AT.val = ts.map AT.val
  | [] => rfl
  | t :: ts => by
    show (putT k0 i n t).val :: (putAll k0 i n ts).map AT.val = t.val :: ts.map AT.val
    rw [put_val, putAll_vals ts]
mutual
/-- where the list isn't, nothing changes -/
theorem put_out {k0 : Addr} {i : Nat} {n : AT} : ∀ t : AT, k0 ∉ t.ka → putT k0 i n t = t
  | .txt _, _ => rfl
  | .nod a k x ts, h => by
    have h' : k0 ∉ k :: kaAll ts := h
    unfold putT
    rw [if_neg (fun e => h' (by rw [e]; simp)), putAll_out ts (fun z => h' (by simp [z]))]
theorem putAll_out {k0 : Addr} {i : Nat} {n : AT} : ∀ ts : List AT, k0 ∉ kaAll ts → putAll k0 i n ts = ts
  | [], _ => rfl
  | t :: ts, h => by
    have h' : k0 ∉ t.ka ++ kaAll ts := h
    show putT k0 i n t :: putAll k0 i n ts = t :: ts
    rw [put_out t (fun z => h' (by simp [z])), putAll_out ts (fun z => h' (by simp [z]))]
end
theorem naAll_app : ∀ ts us : List AT, naAll (ts ++ us) = naAll ts ++ naAll us
  | [], _ => rfl
  | t :: ts, us => by
    show t.na ++ naAll (ts ++ us) = (t.na ++ naAll ts) ++ naAll us
    rw [naAll_app ts us, List.append_assoc]
theorem kaAll_app : ∀ ts us : List AT, kaAll (ts ++ us) = kaAll ts ++ kaAll us
  | [], _ => rfl
  | t :: ts, us => by
    show t.ka ++ kaAll (ts ++ us) = (t.ka ++ kaAll ts) ++ kaAll us
    rw [kaAll_app ts us, List.append_assoc]
theorem atAll_app {H : Hp} : ∀ ts us : List AT, atAll H (ts ++ us) ↔ atAll H ts ∧ atAll H us
  | [], us => ⟨fun h => ⟨trivial, h⟩, fun h => h.2⟩
  | t :: ts, us => ⟨fun h => ⟨⟨h.1, ((atAll_app ts us).mp h.2).1⟩, ((atAll_app ts us).mp h.2).2⟩, fun h => ⟨h.1.1, (atAll_app ts us).mpr ⟨h.1.2, h.2⟩⟩⟩
mutual
/-- the store of a list with one thing more makes the document with that thing put in -/
theorem put_at {H : Hp} {k0 : Addr} {i : Nat} {n : AT} {vs : List V} (hk : H k0 = some (.lst vs)) (hn : n.At H) (n1 : k0 ∉ n.na) (n2 : k0 ∉ n.ka) : ∀ t : AT, t.At H → k0 ∉ t.na → t.ka.Nodup →
    (putT k0 i n t).At (upd H k0 (.lst (vs.take i ++ n.val :: vs.drop i)))
  | .txt _, _, _, _ => trivial
  | .nod a k x ts, h, hna, nd => by
    obtain ⟨e1, e2, e3⟩ := h
    have hna' : k0 ∉ a :: naAll ts := hna
    have nd' : (k :: kaAll ts).Nodup := nd
    have ka0 : k ∉ kaAll ts := (List.nodup_cons.mp nd').1
    have nd2 : (kaAll ts).Nodup := (List.nodup_cons.mp nd').2
    have ane : a ≠ k0 := fun e => hna' (by rw [e]; simp)
    unfold putT
    by_cases hkk : k = k0
    · subst hkk
      rw [if_pos rfl]
      rw [hk] at e2
      have ev : vs = ts.map AT.val := by
        have z := Option.some.inj e2
        injection z
      refine ⟨by rw [upd_ne ane]; exact e1, ?_, ?_⟩
      · rw [upd_same, ev]
        simp
      · have fr : ∀ us : List AT, (∀ q ∈ naAll us, q ≠ k) → (∀ q ∈ kaAll us, q ≠ k) → atAll H us → atAll (upd H k (.lst (vs.take i ++ n.val :: vs.drop i))) us := fun us u1 u2 u => atAll_frame us (fun q hq => upd_ne (u1 q hq)) (fun q hq => upd_ne (u2 q hq)) u
        have all := fr ts (fun q hq e => hna' (by rw [← e]; simp [hq])) (fun q hq e => ka0 (by rw [← e]; exact hq)) e3
        have sp : ts = ts.take i ++ ts.drop i := (List.take_append_drop i ts).symm
        rw [sp] at all
        obtain ⟨a1, a2⟩ := (atAll_app _ _).mp all
        refine (atAll_app _ _).mpr ⟨a1, ?_, a2⟩
        exact AT.frame n (fun q hq => upd_ne (fun e => n1 (by rw [← e]; exact hq))) (fun q hq => upd_ne (fun e => n2 (by rw [← e]; exact hq))) hn
    · rw [if_neg hkk]
      refine ⟨by rw [upd_ne ane]; exact e1, ?_, putAll_at hk hn n1 n2 ts e3 (fun z => hna' (by simp [z])) nd2⟩
      rw [upd_ne hkk, putAll_vals]
      exact e2
theorem putAll_at {H : Hp} {k0 : Addr} {i : Nat} {n : AT} {vs : List V} (hk : H k0 = some (.lst vs)) (hn : n.At H) (n1 : k0 ∉ n.na) (n2 : k0 ∉ n.ka) : ∀ ts : List AT, atAll H ts → k0 ∉ naAll ts → (kaAll ts).Nodup →
    atAll (upd H k0 (.lst (vs.take i ++ n.val :: vs.drop i))) (putAll k0 i n ts)
  | [], _, _, _ => trivial
  | t :: ts, h, hna, nd => by
    have hna' : k0 ∉ t.na ++ naAll ts := hna
    have nd' : (t.ka ++ kaAll ts).Nodup := nd
    obtain ⟨d1, d2, _⟩ := List.nodup_append.mp nd'
    exact ⟨put_at hk hn n1 n2 t h.1 (fun z => hna' (by simp [z])) d1, putAll_at hk hn n1 n2 ts h.2 (fun z => hna' (by simp [z])) d2⟩
end
mutual
/-- how many things -/
def AT.cnt : AT → Nat
  | .txt _ => 1
  | .nod _ _ _ ts => 1 + cntAll ts
def cntAll : List AT → Nat
  | [] => 0
  | t :: ts => t.cnt + cntAll ts
end
theorem cntAll_app : ∀ ts us : List AT, cntAll (ts ++ us) = cntAll ts + cntAll us
  | [], us => by show cntAll us = 0 + cntAll us; omega
  | t :: ts, us => by
    show t.cnt + cntAll (ts ++ us) = t.cnt + cntAll ts + cntAll us
    rw [cntAll_app ts us]
    omega
mutual
theorem put_cnt {k0 : Addr} {i : Nat} {n : AT} : ∀ t : AT, t.ka.Nodup → (putT k0 i n t).cnt ≤ t.cnt + n.cnt
  | .txt _, _ => by
    show 1 ≤ 1 + n.cnt
    omega
  | .nod a k x ts, nd => by
    have nd' : (k :: kaAll ts).Nodup := nd
    unfold putT
    by_cases hkk : k = k0
    · rw [if_pos hkk]
      show 1 + cntAll (ts.take i ++ n :: ts.drop i) ≤ 1 + cntAll ts + n.cnt
      have e : cntAll ts = cntAll (ts.take i) + cntAll (ts.drop i) := by rw [← cntAll_app, List.take_append_drop]
      rw [cntAll_app, e]
      show 1 + (cntAll (ts.take i) + (n.cnt + cntAll (ts.drop i))) ≤ _
      omega
    · rw [if_neg hkk]
      have := putAll_cnt (k0 := k0) (i := i) (n := n) ts (List.nodup_cons.mp nd').2
      show 1 + cntAll (putAll k0 i n ts) ≤ 1 + cntAll ts + n.cnt
      omega
theorem putAll_cnt {k0 : Addr} {i : Nat} {n : AT} : ∀ ts : List AT, (kaAll ts).Nodup → cntAll (putAll k0 i n ts) ≤ cntAll ts + n.cnt
  | [], _ => Nat.zero_le _
  | t :: ts, nd => by
    have nd' : (t.ka ++ kaAll ts).Nodup := nd
    obtain ⟨d1, d2, d3⟩ := List.nodup_append.mp nd'
    show (putT k0 i n t).cnt + cntAll (putAll k0 i n ts) ≤ t.cnt + cntAll ts + n.cnt
    by_cases hk : k0 ∈ t.ka
    · have out : k0 ∉ kaAll ts := fun z => d3 k0 hk k0 z rfl
      rw [putAll_out ts out]
      have := put_cnt (k0 := k0) (i := i) (n := n) t d1
      omega
    · rw [put_out t hk]
      have := putAll_cnt (k0 := k0) (i := i) (n := n) ts d2
      omega
end
end K1

/-! frozen: lists made tuples -/
namespace K1
open PySem L2 Xr
abbrev sFrozen : Stmt := top 32
theorem scFrozen : FnScope ["thing", "part"] ["thing"] (defScope sFrozen) := ⟨rfl, rfl, rfl, by decide +kernel, rfl, by decide +kernel, by decide +kernel⟩
theorem take_snoc {α : Type} {l : List α} {i : Nat} {x : α} (h : l[i]? = some x) : l.take (i + 1) = l.take i ++ [x] := by
  induction l generalizing i with
  | nil => simp at h
  | cons a l ih =>
    cases i with
    | zero =>
      have e : a = x := Option.some.inj h
      subst e
      rfl
    | succ i =>
      show a :: l.take (i + 1) = a :: l.take i ++ [x]
      rw [ih h]
      rfl
theorem not_new {N : Addr → Prop} {H H1 : Hp} {p : Addr} (hN : ∀ a, N a → Trk H a) (s : Same H H1) (hp : H1 p = none) : ¬ N p := fun n => by
  obtain ⟨_, z⟩ := (hN p n).same s
  rw [hp] at z
  cases z
mutual
def AT.doc : AT → Doc
  | .txt z => .txt z
  | .nod _ _ x ts => .nod x (docAll ts)
def docAll : List AT → List Doc
  | [] => []
  | t :: ts => t.doc :: docAll ts
end
theorem docAll_map : ∀ ts : List AT, docAll ts = ts.map AT.doc
  | [] => rfl
  | t :: ts => by
    show t.doc :: docAll ts = t.doc :: ts.map AT.doc
    rw [docAll_map ts]
theorem datAll_snoc (ts : List Doc) (t : Doc) : datAll (ts ++ [t]) = datAll ts ++ [t.dat] := by
  rw [datAll_map, datAll_map, List.map_append]
  rfl
mutual
/-- how many nodes -/
def AT.nds : AT → Nat
  | .txt _ => 0
  | .nod _ _ _ ts => 1 + ndsAll ts
def ndsAll : List AT → Nat
  | [] => 0
  | t :: ts => t.nds + ndsAll ts
end
theorem nds_part : ∀ (ts : List AT) (t : AT), t ∈ ts → t.nds ≤ ndsAll ts
  | u :: ts, t, h => by
    show t.nds ≤ u.nds + ndsAll ts
    rcases List.mem_cons.mp h with h | h
    · rw [h]
      omega
    · have := nds_part ts t h
      omega
theorem cnt_len : ∀ ts : List AT, ts.length ≤ cntAll ts
  | [] => Nat.le_refl _
  | t :: ts => by
    have := cnt_len ts
    have p : 1 ≤ t.cnt := by
      cases t with
      | txt z => exact Nat.le_refl _
      | nod a k x ts =>
        show 1 ≤ 1 + cntAll ts
        omega
    show ts.length + 1 ≤ t.cnt + cntAll ts
    omega
theorem cnt_part : ∀ (ts : List AT) (t : AT), t ∈ ts → t.cnt ≤ cntAll ts
  | u :: ts, t, h => by
    show t.cnt ≤ u.cnt + cntAll ts
    rcases List.mem_cons.mp h with h | h
    · rw [h]
      omega
    · have := cnt_part ts t h
      omega
theorem at_part {H : Hp} : ∀ (ts : List AT) (t : AT), t ∈ ts → atAll H ts → t.At H
  | u :: ts, t, h, a => by
    rcases List.mem_cons.mp h with h | h
    · rw [h]
      exact a.1
    · exact at_part ts t h a.2
mutual
theorem AT.same {H H' : Hp} (s : Same H H') : ∀ t : AT, t.At H → t.At H'
  | .txt _, _ => trivial
  | .nod a k x ts, h => ⟨s _ _ h.1, s _ _ h.2.1, atAll_same s ts h.2.2⟩
theorem atAll_same {H H' : Hp} (s : Same H H') : ∀ ts : List AT, atAll H ts → atAll H' ts
  | [], _ => trivial
  | t :: ts, h => ⟨AT.same s t h.1, atAll_same s ts h.2⟩
end
def spFrozen (K : PySem.W.Frag) (n : Nat) : Sp := fun vs H Q _ => ∃ (t : AT) (N : Addr → Prop), vs = [t.val] ∧ (∀ a, N a → Trk H a) ∧ t.At H ∧ t.nds ≤ n ∧ t.cnt ≤ 900 ∧ ∀ (u : V) (H' : Hp), Dm K N H' u t.doc.dat → Same H H' → Q u H'
structure FrozenTxt (K : PySem.W.Frag) (mg : Str → Option Value) (a_law_frozen : Addr) : Prop where
  n_isinstance : mg "isinstance" = none
  n_str : mg "str" = none
  n_tuple : mg "tuple" = none
  g_law_frozen : mg "_law_frozen" = some (.ref a_law_frozen)
  k_law_frozen : PySem.W.keepIn K (.ref a_law_frozen) = true
section
variable {P : Program} {w : World} {K : PySem.W.Frag} {mg : Str → Option Value} {base : Heap} {a_law_frozen : Addr}
theorem ok_frozen {fd : FuncData} (F : Fun K "_law_frozen" "_law_frozen" sFrozen a_law_frozen fd) (T : FrozenTxt K mg a_law_frozen) (b_law_frozen : Binds K fd ["thing"] []) : ∀ n : Nat, FnOk P w K mg base CX0 (1 + n) a_law_frozen fd ["thing"] (spFrozen K n) := by
  intro n
  induction n with
  | zero =>
    refine F.ok scFrozen (fun vs H Q E h => ?_) (fun cdv A outer s H vs Q E hr h => ?_)
    · obtain ⟨t, N, rfl, _⟩ := h
      rfl
    · obtain ⟨t, N, rfl, hN, ht, hn, hc, k⟩ := h
      refine ⟨_, pss_cons (ps_if (pt_val (pe_callB call_isi (by rfl) T.n_isinstance (by decide +kernel) (pa_cons (pv 0) (pa_cons (pe_bltn (v := V.ty "str") (u := .type "str") (by rfl) T.n_str (by decide +kernel) (by rfl)) pa_nil))))
        (pss_one (ps_ret (pv 0))) pss_nil) pss_never, ?_⟩
      cases t with
      | nod a k0 x ts =>
        have z : 1 + ndsAll ts ≤ 0 := hn
        omega
      | txt z => exact ⟨_, rfl, _, _, _, _, true, rfl, .ty "str", .base (.str z), kit_ty (by decide +kernel), _, rfl, iteT ⟨_, rfl, k _ _ (.str z) (Same.refl H)⟩⟩
  | succ n G_law_frozen =>
    refine F.ok scFrozen (fun vs H Q E h => ?_) (fun cdv A outer s H vs Q E hr h => ?_)
    · obtain ⟨t, N, rfl, _⟩ := h
      rfl
    · obtain ⟨t, N, rfl, hN, ht, hn, hc, k⟩ := h
      refine ⟨_, (pss_cons (ps_if (pt_val (pe_callB call_isi (by rfl) T.n_isinstance (by decide +kernel) (pa_cons (pv 0) (pa_cons (pe_bltn (v := V.ty "str") (u := .type "str") (by rfl) T.n_str (by decide +kernel) (by rfl)) pa_nil))))
      (pss_one (ps_ret (pv 0)))
      pss_nil)
      (pss_one (ps_ret (pe_tup (pa_cons (pe_ix ix_list (pv 0) pe_int (fun _ _ => rfl)) (pa_cons (pe_callTy call_tuple_of (by rfl) T.n_tuple (by decide +kernel) (pa_cons (pe_lc (own := [("part", 1)]) (g := gName 1) (tt := tYes) (by rfl) scFrozen.nd (pi_list (pe_ix ix_list (pv 0) pe_int (fun _ _ => rfl))) (blkOk_by (own := [("part", 1)]) (N := ["thing", "part"]) (sc := defScope sFrozen) (by decide +kernel)) (fun _ _ _ _ _ => pg_name (i := 1) scFrozen.nd rfl (Or.inl rfl)) (fun _ _ _ _ _ => pts_nil) (fun _ _ _ _ _ => (pe_call G_law_frozen hr rfl T.g_law_frozen T.k_law_frozen b_law_frozen .nil pass0 (pa_cons (pv 1) pa_nil)))) pa_nil)) pa_nil)))))), ?_⟩
      cases t with
      | txt z => exact ⟨_, rfl, _, _, _, _, true, rfl, .ty "str", .base (.str z), kit_ty (by decide +kernel), _, rfl, iteT ⟨_, rfl, k _ _ (.str z) (Same.refl H)⟩⟩
      | nod a k0 x ts =>
        obtain ⟨h1, h2, h3⟩ := ht
        have hn' : 1 + ndsAll ts ≤ n + 1 := hn
        have hc' : 1 + cntAll ts ≤ 900 := hc
        have lt := cnt_len ts
        refine ⟨_, rfl, _, _, _, _, false, rfl, .ty "str", .base (.lst h1), kit_ty (by decide +kernel), _, rfl, iteF ?_⟩
        refine ⟨_, rfl, _, _, _, _, rfl, rfl, SqL.of h1, atI_nat (j := 0) rfl, _, rfl, _, _, _, _, rfl, rfl, SqL.of h1, atI_nat (j := 1) rfl, k0, rfl, ⟨_, SqL.of h2⟩, fun D hD => ?_⟩
        have D0 : Same H (upd H D (.lst [])) := (Same.refl H).new hD
        refine lc_list (K := K) (a := k0) (xs := ts.map AT.val) (fun i H1 => ∃ vs : List V, Same H H1 ∧ H1 D = some (.lst vs) ∧ DmAll K (fun a => N a ∨ a = D) H1 vs (datAll (docAll (ts.take i)))) ⟨[], D0, upd_same, by rw [List.take_zero]; exact .nil⟩ (fun i H1 _ ⟨_, s1, _⟩ => SqL.of (s1 _ _ h2)) ?_ ?_
        · rintro i y H1 hy ⟨vs, s1, d1, d2⟩
          rw [List.getElem?_map] at hy
          cases et : ts[i]? with
          | none =>
            rw [et] at hy
            cases hy
          | some t =>
            rw [et] at hy
            have ey := Option.some.inj hy
            subst ey
            have mem : t ∈ ts := List.mem_of_getElem? et
            have il : i < ts.length := (List.getElem?_eq_some_iff.mp et).1
            have p1 := nds_part ts t mem
            have p2 := cnt_part ts t mem
            refine ⟨rfl, _, rfl, t, (fun a => N a ∨ a = D), rfl, ?_, AT.same s1 t (at_part ts t mem h3), by omega, by omega, fun u H2 du s2 => ?_⟩
            · rintro q (z | z)
              · exact (hN q z).same s1
              · rw [z]
                exact ⟨_, d1⟩
            · have l2 := d2.len
              rw [datAll_length, docAll_map, List.length_map, List.length_take] at l2
              have bD : Bt (fun a => N a ∨ a = D) H2 (upd H2 D (.lst (vs ++ [u]))) := Bt.refl.cell (.inr rfl)
              refine ⟨vs, s2 _ _ d1, small1000 (by omega), vs ++ [u], (s1.trans s2).cell hD, upd_same, ?_⟩
              have e9 : docAll (ts.take (i + 1)) = docAll (ts.take i) ++ [t.doc] := by rw [docAll_map, docAll_map, take_snoc et, List.map_append]; rfl
              rw [e9, datAll_snoc]
              exact ((d2.up (Bt.same s2)).up bD).snoc (du.up bD)
        · rintro H1 ⟨vs, s1, d1, d2⟩
          rw [List.length_map, List.take_length] at d2
          refine ⟨D, vs, rfl, .inl ⟨SqL.of d1, fun p hp => ⟨(by show 2 ≤ sizeLine; decide), fun p2 hp2 => ?_⟩⟩⟩
          have pp : p ≠ p2 := ne_of_none upd_same hp2
          have s2 := s1.new (o := .tup vs) hp
          refine k _ _ ?_ (s2.new hp2)
          show Dm K N _ _ (.tuple [.str x, .tuple (datAll (docAll ts))])
          refine .tup upd_same (not_new hN s2 hp2) (.cons (.str x) (.cons (.tup (xs := vs) (by rw [upd_ne pp, upd_same]) (not_new hN s1 hp) ?_) .nil))
          exact DmAll.mono (fun a _ z => .inl z) ((Bt.refl.new hp).new hp2) _ _ d2
end
end K1

/-! drawn texts -/
namespace K1
open PySem L2 Xr
abbrev sLText : Stmt := top 31
theorem scLText : FnScope ["deal", "many", "turn"] ["deal"] (defScope sLText) := ⟨rfl, rfl, rfl, by decide +kernel, rfl, by decide +kernel, by decide +kernel⟩
theorem DealAt.upd {H : Hp} {d c l : Addr} {o : HO} (h : DealAt H d c) (n1 : l ≠ d) (n2 : l ≠ c) : DealAt (upd H l o) d c := by
  obtain ⟨cs, b, h1, h2, r⟩ := h.ex
  exact ⟨cs, b, by rw [upd_ne (Ne.symm n1)]; exact h1, by rw [upd_ne (Ne.symm n2)]; exact h2, r⟩
theorem DealAt.trk {H : Hp} {d c : Addr} (h : DealAt H d c) : Trk H d ∧ Trk H c := by
  obtain ⟨cs, b, h1, h2, r⟩ := h.ex
  exact ⟨⟨_, h1⟩, ⟨_, h2⟩⟩
theorem DealAt.ne {H : Hp} {d c l : Addr} (D : DealAt H d c) (hl : H l = none) : l ≠ d ∧ l ≠ c := by
  obtain ⟨⟨_, z1⟩, ⟨_, z2⟩⟩ := D.trk
  refine ⟨fun e => ?_, fun e => ?_⟩
  · rw [e, z1] at hl
    cases hl
  · rw [e, z2] at hl
    cases hl
theorem DealAt.new {H : Hp} {d c l : Addr} {o : HO} (h : DealAt H d c) (hl : H l = none) : DealAt (L2.upd H l o) d c := h.upd (h.ne hl).1 (h.ne hl).2
theorem But.cell0 {d c l : Addr} {H H1 : Hp} {o : HO} (b : But d c H H1) (hl : H l = none) : But d c H (upd H1 l o) := fun q u e n m => by
  have z := b q u e n m
  rw [upd_ne (ne_of_none e hl)]
  exact z
theorem But.none {d c l : Addr} {H H' : Hp} (b : But d c H H') (hl : H' l = none) (D : DealAt H' d c) : H l = none := by
  cases e : H l with
  | none => rfl
  | some o =>
    obtain ⟨n1, n2⟩ := D.ne hl
    rw [b l o e n1 n2] at hl
    cases hl
/-- a text of signs out of some -/
structure From (S : List Nat) (n : Nat) (z : Str) : Prop where
  len : z.length = n
  sub : ∀ ch ∈ z.cps.toList, ch ∈ S
theorem cps_app (a b : Str) : (a ++ b).cps.toList = a.cps.toList ++ b.cps.toList := by
  show (a.cps ++ b.cps).toList = _
  simp
theorem join_from {S : List Nat} : ∀ (ys : List Str), (∀ y ∈ ys, From S 1 y) → From S ys.length (Str.join (Str.ofString "") ys)
  | [], _ => ⟨rfl, fun ch h => by simp [Str.join, Str.empty] at h⟩
  | [y], h => h y (by simp)
  | y :: y2 :: r, h => by
    have ih := join_from (y2 :: r) fun x hx => h x (List.mem_cons_of_mem _ hx)
    have hy := h y (by simp)
    have e : Str.join (Str.ofString "") (y :: y2 :: r) = y ++ Str.ofString "" ++ Str.join (Str.ofString "") (y2 :: r) := rfl
    have l0 : (Str.ofString "").length = 0 := by decide
    have t0 : (Str.ofString "").cps.toList = [] := by decide +kernel
    rw [e]
    refine ⟨?_, fun ch hc => ?_⟩
    · rw [strLen_append, strLen_append, l0]
      have h1 := ih.len
      have h2 := hy.len
      simp only [List.length_cons] at h1 ⊢
      omega
    · rw [cps_app, cps_app, t0, List.append_nil] at hc
      rcases List.mem_append.mp hc with hc | hc
      · exact hy.sub ch hc
      · exact ih.sub ch hc
theorem From.has {g z : Str} {n : Nat} (h : From g.cps.toList n z) : hasOnly z g = true := by
  unfold hasOnly
  rw [List.all_eq_true]
  intro c hc
  exact decide_eq_true (h.sub c hc)
def spLText : Sp := fun vs H Q _ => ∃ (d c : Addr), vs = [.ref d] ∧ DealAt H d c ∧ ∀ (z : Str) (H' : Hp), textD (.str z) = true → DealAt H' d c → But d c H H' → Q (.str z) H'
structure LTextTxt (K : PySem.W.Frag) (mg : Str → Option Value) (a_law_any a_law_of : Addr) : Prop where
  n_range : mg "range" = none
  g_law_of : mg "_law_of" = some (.ref a_law_of)
  k_law_of : PySem.W.keepIn K (.ref a_law_of) = true
  g_law_any : mg "_law_any" = some (.ref a_law_any)
  k_law_any : PySem.W.keepIn K (.ref a_law_any) = true
section
variable {P : Program} {w : World} {K : PySem.W.Frag} {mg : Str → Option Value} {base : Heap} {a_law_any a_law_of : Addr} {fdA fdO : FuncData}
theorem ok_ltext {f : Addr} {fd : FuncData} (F : Fun K "_law_text" "_law_text" sLText f fd) (T : LTextTxt K mg a_law_any a_law_of)
    (G_law_any : FnOk P w K mg base CX0 1 a_law_any fdA ["deal", "bound"] spAny) (b_law_any : Binds K fdA ["deal", "bound"] [])
    (G_law_of : FnOk P w K mg base CX0 2 a_law_of fdO ["deal", "some"] spOf) (b_law_of : Binds K fdO ["deal", "some"] []) : FnOk P w K mg base CX0 3 f fd ["deal"] spLText := by
  refine F.ok scLText (fun vs H Q E h => ?_) (fun cdv A outer s H vs Q E hr h => ?_)
  · obtain ⟨d, c, rfl, _⟩ := h
    rfl
  · obtain ⟨d, c, rfl, D, k⟩ := h
    have hr1 : Room 1 _ := hr.mono (by decide)
    have hr2 : Room 2 _ := hr
    refine ⟨_, (pss_cons (ps_set (i := 1) scLText.nd rfl (Or.inl rfl) (pe_call G_law_of hr2 rfl T.g_law_of T.k_law_of b_law_of .nil pass0 (pa_cons (pv 0) (pa_cons (pe_lst (pa_cons pe_int (pa_cons pe_int (pa_cons pe_int (pa_cons pe_int (pa_cons (pe_call G_law_any hr1 rfl T.g_law_any T.k_law_any b_law_any .nil pass0 (pa_cons (pv 0) (pa_cons pe_int pa_nil))) pa_nil)))))) pa_nil))))
      (pss_one (ps_ret (pe_join pe_str (pe_lc (own := [("turn", 2)]) (g := gName 2) (tt := tYes) (by rfl) scLText.nd (pi_range1 (by rfl) T.n_range (pa_cons (pv 1) pa_nil)) (blkOk_by (own := [("turn", 2)]) (N := ["deal", "many", "turn"]) (sc := defScope sLText) (by decide +kernel)) (fun _ _ _ _ _ => pg_name (i := 2) scLText.nd rfl (Or.inl rfl)) (fun _ _ _ _ _ => pts_nil) (fun _ _ _ _ _ => (pe_call G_law_of hr2 rfl T.g_law_of T.k_law_of b_law_of .nil pass0 (pa_cons (pv 0) (pa_cons pe_str pa_nil))))))))), ?_⟩
    refine ⟨_, rfl, _, rfl, d, c, 17, rfl, D, by decide, by decide, fun r H1 r0 r1 D1 b1 => ⟨(by show 5 ≤ sizeLine; decide), fun l hl => ?_⟩⟩
    obtain ⟨ld, lc⟩ := D1.ne hl
    refine ⟨d, c, D1.new hl, .inl ⟨l, _, rfl, upd_same, ld, lc, (by show 0 < 5; decide), (by show 5 < 1000000; decide), fun v H2 hv D2 b2 => ?_⟩⟩
    have B2 : But d c H H2 := fun q o e n m => by
      have z := b1 q o e n m
      exact b2 q o (by rw [upd_ne (ne_of_none z hl)]; exact z) n m
    obtain ⟨z, rfl, z0⟩ : ∃ z : Nat, v = .int (z : Int) ∧ z ≤ 16 := by
      simp only [List.mem_cons, List.not_mem_nil, or_false] at hv
      rcases hv with rfl | rfl | rfl | rfl | rfl
      · exact ⟨0, rfl, by decide⟩
      · exact ⟨1, rfl, by decide⟩
      · exact ⟨1, rfl, by decide⟩
      · exact ⟨2, rfl, by decide⟩
      · obtain ⟨j, rfl⟩ := Int.eq_ofNat_of_zero_le r0
        exact ⟨j, rfl, by omega⟩
    refine ⟨⟨_, rfl⟩, _, rfl, _, rfl, by omega, by omega, fun L hL => ?_⟩
    obtain ⟨Ld, Lc⟩ := D2.ne hL
    have HL : H L = none := B2.none hL D2
    refine lc_range (lo := 0) (n := ((z : Int) - 0).toNat) (fun i H4 => ∃ ys : List Str, H4 L = some (.lst (ys.map V.str)) ∧ ys.length = i ∧ (∀ y ∈ ys, From abc9.cps.toList 1 y) ∧ DealAt H4 d c ∧ But d c H H4) ⟨[], upd_same, rfl, by simp, D2.new hL, B2.cell0 HL⟩ ?_ ?_
    · rintro i H4 hi ⟨ys, y1, y2, y3, D4, b4⟩
      refine ⟨rfl, _, rfl, d, c, D4, .inr ⟨_, rfl, by decide, by decide, fun ch H5 hc D5 b5 => ?_⟩⟩
      have y1' := b5 L _ y1 Ld Lc
      refine ⟨_, y1', small1000 (by rw [List.length_map]; omega), ys ++ [⟨#[ch]⟩], ?_, by simp [y2], ?_, D5.upd Ld Lc, (b4.trans b5).cell0 HL⟩
      · rw [upd_same]
        simp
      · intro y hy
        rcases List.mem_append.mp hy with hy | hy
        · exact y3 y hy
        · rw [List.mem_singleton] at hy
          subst hy
          refine ⟨rfl, fun c2 h2 => ?_⟩
          have e : c2 = ch := by simpa using h2
          rw [e]
          exact hc
    · rintro H4 ⟨ys, y1, y2, y3, D4, b4⟩
      have lj : ys.length ≤ 16 := by omega
      have sm : (ys.map (·.length)).sum + ys.length * (Str.ofString "").length ≤ 16777216 := by
        have l0 : (Str.ofString "").length = 0 := by decide
        have : ∀ l : List Str, (∀ y ∈ l, From abc9.cps.toList 1 y) → (l.map (·.length)).sum ≤ l.length := by
          intro l
          induction l with
          | nil => intro _; exact Nat.le_refl _
          | cons y l ih =>
            intro h
            have := ih fun x hx => h x (List.mem_cons_of_mem _ hx)
            have := (h y (by simp)).len
            simp only [List.map_cons, List.sum_cons, List.length_cons]
            omega
        have := this ys y3
        rw [l0]
        omega
      refine ⟨_, L, ys, rfl, rfl, .inl (SqL.of y1), sm, ?_⟩
      have pl : From abc9.cps.toList ys.length (Txt.join (Str.ofString "") ys) := by
        show From _ _ (Builtin.Str.glued (Str.ofString "") ys)
        rw [StrLaws.glued_eq_join]
        exact join_from ys y3
      refine k _ _ ?_ D4 b4
      show (decide ((Txt.join (Str.ofString "") ys).length ≤ 16) && hasOnly _ abc9) = true
      rw [pl.has, pl.len, decide_eq_true lj]
      rfl
end
end K1

/-! what putting in leaves of the addresses, the names and the texts -/
namespace K1
open PySem L2
mutual
theorem put_ka {k0 : Addr} {i : Nat} {n : AT} : ∀ t : AT, ∀ q ∈ (putT k0 i n t).ka, q ∈ t.ka ∨ q ∈ n.ka
  | .txt z, q, h => .inl h
  | .nod a k x ts, q, h => by
    unfold putT at h
    by_cases hk : k = k0
    · rw [if_pos hk] at h
      have h' : q ∈ k :: kaAll (ts.take i ++ n :: ts.drop i) := h
      have sp : kaAll ts = kaAll (ts.take i) ++ kaAll (ts.drop i) := by rw [← kaAll_app, List.take_append_drop]
      rcases List.mem_cons.mp h' with e | h'
      · exact .inl (by rw [e]; show k ∈ k :: kaAll ts; simp)
      · rw [kaAll_app] at h'
        rcases List.mem_append.mp h' with h' | h'
        · exact .inl (by show q ∈ k :: kaAll ts; rw [sp]; simp [h'])
        · have h2 : q ∈ n.ka ++ kaAll (ts.drop i) := h'
          rcases List.mem_append.mp h2 with h2 | h2
          · exact .inr h2
          · exact .inl (by show q ∈ k :: kaAll ts; rw [sp]; simp [h2])
    · rw [if_neg hk] at h
      have h' : q ∈ k :: kaAll (putAll k0 i n ts) := h
      rcases List.mem_cons.mp h' with e | h'
      · exact .inl (by rw [e]; show k ∈ k :: kaAll ts; simp)
      · exact (putAll_ka ts q h').imp (fun z => by show q ∈ k :: kaAll ts; simp [z]) id
theorem putAll_ka {k0 : Addr} {i : Nat} {n : AT} : ∀ ts : List AT, ∀ q ∈ kaAll (putAll k0 i n ts), q ∈ kaAll ts ∨ q ∈ n.ka
  | [], q, h => .inl h
  | t :: ts, q, h => by
    have h' : q ∈ (putT k0 i n t).ka ++ kaAll (putAll k0 i n ts) := h
    rcases List.mem_append.mp h' with h' | h'
    · exact (put_ka t q h').imp (fun z => by show q ∈ t.ka ++ kaAll ts; simp [z]) id
    · exact (putAll_ka ts q h').imp (fun z => by show q ∈ t.ka ++ kaAll ts; simp [z]) id
end
mutual
theorem put_ka' {k0 : Addr} {i : Nat} {n : AT} : ∀ t : AT, ∀ q ∈ t.ka, q ∈ (putT k0 i n t).ka
  | .txt z, q, h => h
  | .nod a k x ts, q, h => by
    have h' : q ∈ k :: kaAll ts := h
    unfold putT
    by_cases hk : k = k0
    · rw [if_pos hk]
      show q ∈ k :: kaAll (ts.take i ++ n :: ts.drop i)
      have sp : kaAll ts = kaAll (ts.take i) ++ kaAll (ts.drop i) := by rw [← kaAll_app, List.take_append_drop]
      rw [kaAll_app]
      show q ∈ k :: (kaAll (ts.take i) ++ (n.ka ++ kaAll (ts.drop i)))
      rw [sp] at h'
      rcases List.mem_cons.mp h' with e | h'
      · simp [e]
      · rcases List.mem_append.mp h' with h' | h' <;> simp [h']
    · rw [if_neg hk]
      show q ∈ k :: kaAll (putAll k0 i n ts)
      rcases List.mem_cons.mp h' with e | h'
      · simp [e]
      · simp [putAll_ka' ts q h']
theorem putAll_ka' {k0 : Addr} {i : Nat} {n : AT} : ∀ ts : List AT, ∀ q ∈ kaAll ts, q ∈ kaAll (putAll k0 i n ts)
  | [], q, h => h
  | t :: ts, q, h => by
    have h' : q ∈ t.ka ++ kaAll ts := h
    show q ∈ (putT k0 i n t).ka ++ kaAll (putAll k0 i n ts)
    rcases List.mem_append.mp h' with h' | h'
    · simp [put_ka' t q h']
    · simp [putAll_ka' ts q h']
end
mutual
theorem put_na {k0 : Addr} {i : Nat} {n : AT} : ∀ t : AT, ∀ q ∈ (putT k0 i n t).na, q ∈ t.na ∨ q ∈ n.na
  | .txt z, q, h => .inl h
  | .nod a k x ts, q, h => by
    unfold putT at h
    by_cases hk : k = k0
    · rw [if_pos hk] at h
      have h' : q ∈ a :: naAll (ts.take i ++ n :: ts.drop i) := h
      have sp : naAll ts = naAll (ts.take i) ++ naAll (ts.drop i) := by rw [← naAll_app, List.take_append_drop]
      rcases List.mem_cons.mp h' with e | h'
      · exact .inl (by rw [e]; show a ∈ a :: naAll ts; simp)
      · rw [naAll_app] at h'
        rcases List.mem_append.mp h' with h' | h'
        · exact .inl (by show q ∈ a :: naAll ts; rw [sp]; simp [h'])
        · have h2 : q ∈ n.na ++ naAll (ts.drop i) := h'
          rcases List.mem_append.mp h2 with h2 | h2
          · exact .inr h2
          · exact .inl (by show q ∈ a :: naAll ts; rw [sp]; simp [h2])
    · rw [if_neg hk] at h
      have h' : q ∈ a :: naAll (putAll k0 i n ts) := h
      rcases List.mem_cons.mp h' with e | h'
      · exact .inl (by rw [e]; show a ∈ a :: naAll ts; simp)
      · exact (putAll_na ts q h').imp (fun z => by show q ∈ a :: naAll ts; simp [z]) id
theorem putAll_na {k0 : Addr} {i : Nat} {n : AT} : ∀ ts : List AT, ∀ q ∈ naAll (putAll k0 i n ts), q ∈ naAll ts ∨ q ∈ n.na
  | [], q, h => .inl h
  | t :: ts, q, h => by
    have h' : q ∈ (putT k0 i n t).na ++ naAll (putAll k0 i n ts) := h
    rcases List.mem_append.mp h' with h' | h'
    · exact (put_na t q h').imp (fun z => by show q ∈ t.na ++ naAll ts; simp [z]) id
    · exact (putAll_na ts q h').imp (fun z => by show q ∈ t.na ++ naAll ts; simp [z]) id
end
mutual
theorem put_na' {k0 : Addr} {i : Nat} {n : AT} : ∀ t : AT, ∀ q ∈ t.na, q ∈ (putT k0 i n t).na
  | .txt z, q, h => h
  | .nod a k x ts, q, h => by
    have h' : q ∈ a :: naAll ts := h
    unfold putT
    by_cases hk : k = k0
    · rw [if_pos hk]
      show q ∈ a :: naAll (ts.take i ++ n :: ts.drop i)
      have sp : naAll ts = naAll (ts.take i) ++ naAll (ts.drop i) := by rw [← naAll_app, List.take_append_drop]
      rw [naAll_app]
      show q ∈ a :: (naAll (ts.take i) ++ (n.na ++ naAll (ts.drop i)))
      rw [sp] at h'
      rcases List.mem_cons.mp h' with e | h'
      · simp [e]
      · rcases List.mem_append.mp h' with h' | h' <;> simp [h']
    · rw [if_neg hk]
      show q ∈ a :: naAll (putAll k0 i n ts)
      rcases List.mem_cons.mp h' with e | h'
      · simp [e]
      · simp [putAll_na' ts q h']
theorem putAll_na' {k0 : Addr} {i : Nat} {n : AT} : ∀ ts : List AT, ∀ q ∈ naAll ts, q ∈ naAll (putAll k0 i n ts)
  | [], q, h => h
  | t :: ts, q, h => by
    have h' : q ∈ t.na ++ naAll ts := h
    show q ∈ (putT k0 i n t).na ++ naAll (putAll k0 i n ts)
    rcases List.mem_append.mp h' with h' | h'
    · simp [put_na' t q h']
    · simp [putAll_na' ts q h']
end
theorem nodup_app {l m : List Addr} (h1 : l.Nodup) (h2 : m.Nodup) (h : ∀ q ∈ l, q ∉ m) : (l ++ m).Nodup := List.nodup_append.mpr ⟨h1, h2, fun a ha b hb e => h a ha (e ▸ hb)⟩
mutual
theorem put_nd {k0 : Addr} {i : Nat} {n : AT} (hn : n.ka.Nodup) : ∀ t : AT, t.ka.Nodup → (∀ q ∈ n.ka, q ∉ t.ka) → (putT k0 i n t).ka.Nodup
  | .txt z, h, _ => h
  | .nod a k x ts, h, hd => by
    have h' : (k :: kaAll ts).Nodup := h
    have hd' : ∀ q ∈ n.ka, q ∉ k :: kaAll ts := hd
    obtain ⟨k1, k2⟩ := List.nodup_cons.mp h'
    unfold putT
    by_cases hk : k = k0
    · rw [if_pos hk]
      show (k :: kaAll (ts.take i ++ n :: ts.drop i)).Nodup
      have sp : kaAll ts = kaAll (ts.take i) ++ kaAll (ts.drop i) := by rw [← kaAll_app, List.take_append_drop]
      rw [kaAll_app]
      show (k :: (kaAll (ts.take i) ++ (n.ka ++ kaAll (ts.drop i)))).Nodup
      rw [sp] at k1 k2 hd'
      obtain ⟨d1, d2, d3⟩ := List.nodup_append.mp k2
      refine List.nodup_cons.mpr ⟨fun z => ?_, nodup_app d1 (nodup_app hn d2 fun q hq z => hd' q hq (by simp [z])) fun q hq z => ?_⟩
      · rcases List.mem_append.mp z with z | z
        · exact k1 (by simp [z])
        · rcases List.mem_append.mp z with z | z
          · exact hd' k z (by simp)
          · exact k1 (by simp [z])
      · rcases List.mem_append.mp z with z | z
        · exact hd' q z (by simp [hq])
        · exact d3 q hq q z rfl
    · rw [if_neg hk]
      show (k :: kaAll (putAll k0 i n ts)).Nodup
      refine List.nodup_cons.mpr ⟨fun z => ?_, putAll_nd hn ts k2 fun q hq z => hd' q hq (by simp [z])⟩
      rcases putAll_ka ts k z with z | z
      · exact k1 z
      · exact hd' k z (by simp)
theorem putAll_nd {k0 : Addr} {i : Nat} {n : AT} (hn : n.ka.Nodup) : ∀ ts : List AT, (kaAll ts).Nodup → (∀ q ∈ n.ka, q ∉ kaAll ts) → (kaAll (putAll k0 i n ts)).Nodup
  | [], h, _ => h
  | t :: ts, h, hd => by
    have h' : (t.ka ++ kaAll ts).Nodup := h
    have hd' : ∀ q ∈ n.ka, q ∉ t.ka ++ kaAll ts := hd
    obtain ⟨d1, d2, d3⟩ := List.nodup_append.mp h'
    show ((putT k0 i n t).ka ++ kaAll (putAll k0 i n ts)).Nodup
    by_cases hk : k0 ∈ t.ka
    · have out : k0 ∉ kaAll ts := fun z => d3 k0 hk k0 z rfl
      rw [putAll_out ts out]
      refine nodup_app (put_nd hn t d1 fun q hq z => hd' q hq (by simp [z])) d2 fun q hq z => ?_
      rcases put_ka t q hq with e | e
      · exact d3 q e q z rfl
      · exact hd' q e (by simp [z])
    · rw [put_out t hk]
      refine nodup_app d1 (putAll_nd hn ts d2 fun q hq z => hd' q hq (by simp [z])) fun q hq z => ?_
      rcases putAll_ka ts q z with e | e
      · exact d3 q hq q e rfl
      · exact hd' q e (by simp [hq])
end
mutual
/-- right names and texts -/
def AT.ok : AT → Prop
  | .txt z => textD (.str z) = true
  | .nod _ _ x ts => nameD (.str x) = true ∧ okAll ts
def okAll : List AT → Prop
  | [] => True
  | t :: ts => t.ok ∧ okAll ts
end
theorem okAll_app : ∀ ts us : List AT, okAll (ts ++ us) ↔ okAll ts ∧ okAll us
  | [], us => ⟨fun h => ⟨trivial, h⟩, fun h => h.2⟩
  | t :: ts, us => ⟨fun h => ⟨⟨h.1, ((okAll_app ts us).mp h.2).1⟩, ((okAll_app ts us).mp h.2).2⟩, fun h => ⟨h.1.1, (okAll_app ts us).mpr ⟨h.1.2, h.2⟩⟩⟩
mutual
theorem put_ok {k0 : Addr} {i : Nat} {n : AT} (hn : n.ok) : ∀ t : AT, t.ok → (putT k0 i n t).ok
  | .txt z, h => h
  | .nod a k x ts, h => by
    unfold putT
    split
    · refine ⟨h.1, (okAll_app _ _).mpr ?_⟩
      have h2 : okAll ts := h.2
      rw [← List.take_append_drop i ts] at h2
      obtain ⟨a1, a2⟩ := (okAll_app _ _).mp h2
      exact ⟨a1, hn, a2⟩
    · exact ⟨h.1, putAll_ok hn ts h.2⟩
theorem putAll_ok {k0 : Addr} {i : Nat} {n : AT} (hn : n.ok) : ∀ ts : List AT, okAll ts → okAll (putAll k0 i n ts)
  | [], _ => trivial
  | t :: ts, h => ⟨put_ok hn t h.1, putAll_ok hn ts h.2⟩
end
mutual
theorem ka_at {H : Hp} : ∀ t : AT, t.At H → ∀ k ∈ t.ka, ∃ vs, H k = some (.lst vs) ∧ vs.length ≤ t.cnt
  | .nod a k x ts, h, q, hq => by
    have h' : q ∈ k :: kaAll ts := hq
    rcases List.mem_cons.mp h' with e | h'
    · refine ⟨_, by rw [e]; exact h.2.1, ?_⟩
      rw [List.length_map]
      have := cnt_len ts
      show ts.length ≤ 1 + cntAll ts
      omega
    · obtain ⟨vs, e, l⟩ := kaAll_at ts h.2.2 q h'
      refine ⟨vs, e, ?_⟩
      show vs.length ≤ 1 + cntAll ts
      omega
  | .txt z, _, q, hq => by
    have h' : q ∈ ([] : List Addr) := hq
    simp at h'
theorem kaAll_at {H : Hp} : ∀ ts : List AT, atAll H ts → ∀ k ∈ kaAll ts, ∃ vs, H k = some (.lst vs) ∧ vs.length ≤ cntAll ts
  | [], _, q, hq => by
    have h' : q ∈ ([] : List Addr) := hq
    simp at h'
  | t :: ts, h, q, hq => by
    have h' : q ∈ t.ka ++ kaAll ts := hq
    rcases List.mem_append.mp h' with h' | h'
    · obtain ⟨vs, e, l⟩ := ka_at t h.1 q h'
      exact ⟨vs, e, by show vs.length ≤ t.cnt + cntAll ts; omega⟩
    · obtain ⟨vs, e, l⟩ := kaAll_at ts h.2 q h'
      exact ⟨vs, e, by show vs.length ≤ t.cnt + cntAll ts; omega⟩
end
mutual
theorem na_at {H : Hp} : ∀ t : AT, t.At H → ∀ a ∈ t.na, ∃ o, H a = some o
  | .nod a k x ts, h, q, hq => by
    have h' : q ∈ a :: naAll ts := hq
    rcases List.mem_cons.mp h' with e | h'
    · exact ⟨_, by rw [e]; exact h.1⟩
    · exact naAll_at ts h.2.2 q h'
  | .txt z, _, q, hq => by
    have h' : q ∈ ([] : List Addr) := hq
    simp at h'
theorem naAll_at {H : Hp} : ∀ ts : List AT, atAll H ts → ∀ a ∈ naAll ts, ∃ o, H a = some o
  | [], _, q, hq => by
    have h' : q ∈ ([] : List Addr) := hq
    simp at h'
  | t :: ts, h, q, hq => by
    have h' : q ∈ t.na ++ naAll ts := hq
    rcases List.mem_append.mp h' with h' | h'
    · exact na_at t h.1 q h'
    · exact naAll_at ts h.2 q h'
end
mutual
theorem nds_le : ∀ t : AT, t.nds ≤ t.cnt
  | .txt z => Nat.zero_le _
  | .nod a k x ts => by
    have := ndsAll_le ts
    show 1 + ndsAll ts ≤ 1 + cntAll ts
    omega
theorem ndsAll_le : ∀ ts : List AT, ndsAll ts ≤ cntAll ts
  | [] => Nat.le_refl _
  | t :: ts => by
    have := nds_le t
    have := ndsAll_le ts
    show t.nds + ndsAll ts ≤ t.cnt + cntAll ts
    omega
end
mutual
/-- every list k0 in it stands at level j, its own level being l -/
def AT.lv (k0 : Addr) : Nat → Nat → AT → Prop
  | _, _, .txt _ => True
  | l, j, .nod _ k _ ts => (k = k0 → j = l) ∧ lvAll k0 (l + 1) j ts
def lvAll (k0 : Addr) : Nat → Nat → List AT → Prop
  | _, _, [] => True
  | l, j, t :: ts => t.lv k0 l j ∧ lvAll k0 l j ts
end
mutual
def AT.hgt : AT → Nat
  | .txt _ => 0
  | .nod _ _ _ ts => 1 + hgtAll ts
def hgtAll : List AT → Nat
  | [] => 0
  | t :: ts => max t.hgt (hgtAll ts)
end
theorem lvAll_app {k0 : Addr} {l j : Nat} : ∀ ts us : List AT, lvAll k0 l j (ts ++ us) ↔ lvAll k0 l j ts ∧ lvAll k0 l j us
  | [], us => ⟨fun h => ⟨trivial, h⟩, fun h => h.2⟩
  | t :: ts, us => ⟨fun h => ⟨⟨h.1, ((lvAll_app ts us).mp h.2).1⟩, ((lvAll_app ts us).mp h.2).2⟩, fun h => ⟨h.1.1, (lvAll_app ts us).mpr ⟨h.1.2, h.2⟩⟩⟩
theorem hgtAll_app : ∀ ts us : List AT, hgtAll (ts ++ us) = max (hgtAll ts) (hgtAll us)
  | [], us => by show hgtAll us = max 0 (hgtAll us); omega
  | t :: ts, us => by
    show max t.hgt (hgtAll (ts ++ us)) = max (max t.hgt (hgtAll ts)) (hgtAll us)
    rw [hgtAll_app ts us]
    omega
mutual
theorem lv_out {k0 : Addr} {j : Nat} : ∀ (l : Nat) (t : AT), k0 ∉ t.ka → t.lv k0 l j
  | _, .txt _, _ => trivial
  | l, .nod a k x ts, h => by
    have h' : k0 ∉ k :: kaAll ts := h
    exact ⟨fun e => absurd (by rw [e]; simp) h', lvAll_out (l + 1) ts (fun z => h' (by simp [z]))⟩
theorem lvAll_out {k0 : Addr} {j : Nat} : ∀ (l : Nat) (ts : List AT), k0 ∉ kaAll ts → lvAll k0 l j ts
  | _, [], _ => trivial
  | l, t :: ts, h => by
    have h' : k0 ∉ t.ka ++ kaAll ts := h
    exact ⟨lv_out l t (fun z => h' (by simp [z])), lvAll_out l ts (fun z => h' (by simp [z]))⟩
end
mutual
theorem put_lv {k0 k1 : Addr} {i j : Nat} {n : AT} (hn : k1 ∉ n.ka) : ∀ (l : Nat) (t : AT), t.lv k1 l j → (putT k0 i n t).lv k1 l j
  | _, .txt _, _ => trivial
  | l, .nod a k x ts, h => by
    unfold putT
    split
    · refine ⟨h.1, (lvAll_app _ _).mpr ?_⟩
      have h2 : lvAll k1 (l + 1) j ts := h.2
      rw [← List.take_append_drop i ts] at h2
      obtain ⟨a1, a2⟩ := (lvAll_app _ _).mp h2
      exact ⟨a1, lv_out (l + 1) n hn, a2⟩
    · exact ⟨h.1, putAll_lv hn (l + 1) ts h.2⟩
theorem putAll_lv {k0 k1 : Addr} {i j : Nat} {n : AT} (hn : k1 ∉ n.ka) : ∀ (l : Nat) (ts : List AT), lvAll k1 l j ts → lvAll k1 l j (putAll k0 i n ts)
  | _, [], _ => trivial
  | l, t :: ts, h => ⟨put_lv hn l t h.1, putAll_lv hn l ts h.2⟩
end
mutual
theorem put_lvn {k0 k1 a1 : Addr} {x1 : Str} {i j : Nat} : ∀ (l : Nat) (t : AT), k1 ∉ t.ka → t.lv k0 l j → (putT k0 i (.nod a1 k1 x1 []) t).lv k1 l (j + 1)
  | _, .txt _, _, _ => trivial
  | l, .nod a k x ts, h, g => by
    have h' : k1 ∉ k :: kaAll ts := h
    have hk : k = k1 → j + 1 = l := fun e => absurd (by rw [e]; simp) h'
    have ho : k1 ∉ kaAll ts := fun z => h' (by simp [z])
    unfold putT
    by_cases e : k = k0
    · rw [if_pos e]
      refine ⟨hk, (lvAll_app _ _).mpr ?_⟩
      have h2 := lvAll_out (j := j + 1) (l + 1) ts ho
      rw [← List.take_append_drop i ts] at h2
      obtain ⟨a1, a2⟩ := (lvAll_app _ _).mp h2
      exact ⟨a1, ⟨fun _ => by rw [g.1 e], trivial⟩, a2⟩
    · rw [if_neg e]
      exact ⟨hk, putAll_lvn (l + 1) ts ho g.2⟩
theorem putAll_lvn {k0 k1 a1 : Addr} {x1 : Str} {i j : Nat} : ∀ (l : Nat) (ts : List AT), k1 ∉ kaAll ts → lvAll k0 l j ts → lvAll k1 l (j + 1) (putAll k0 i (.nod a1 k1 x1 []) ts)
  | _, [], _, _ => trivial
  | l, t :: ts, h, g => by
    have h' : k1 ∉ t.ka ++ kaAll ts := h
    exact ⟨put_lvn l t (fun z => h' (by simp [z])) g.1, putAll_lvn l ts (fun z => h' (by simp [z])) g.2⟩
end
mutual
theorem put_hgt {k0 : Addr} {i j : Nat} {n : AT} : ∀ (l : Nat) (t : AT), t.lv k0 l j → l + (putT k0 i n t).hgt ≤ max (l + t.hgt) (j + 1 + n.hgt)
  | l, .txt z, _ => by
    show l + 0 ≤ max (l + 0) _
    omega
  | l, .nod a k x ts, g => by
    unfold putT
    by_cases e : k = k0
    · rw [if_pos e]
      have hj := g.1 e
      show l + (1 + hgtAll (ts.take i ++ n :: ts.drop i)) ≤ max (l + (1 + hgtAll ts)) (j + 1 + n.hgt)
      have sp : hgtAll ts = max (hgtAll (ts.take i)) (hgtAll (ts.drop i)) := by rw [← hgtAll_app, List.take_append_drop]
      rw [hgtAll_app]
      show l + (1 + max (hgtAll (ts.take i)) (max n.hgt (hgtAll (ts.drop i)))) ≤ _
      omega
    · rw [if_neg e]
      have := putAll_hgt (i := i) (n := n) (l + 1) ts g.2
      show l + (1 + hgtAll (putAll k0 i n ts)) ≤ max (l + (1 + hgtAll ts)) (j + 1 + n.hgt)
      omega
theorem putAll_hgt {k0 : Addr} {i j : Nat} {n : AT} : ∀ (l : Nat) (ts : List AT), lvAll k0 l j ts → l + hgtAll (putAll k0 i n ts) ≤ max (l + hgtAll ts) (j + 1 + n.hgt)
  | l, [], _ => by
    show l + 0 ≤ max (l + 0) _
    omega
  | l, t :: ts, g => by
    have h1 := put_hgt (i := i) (n := n) l t g.1
    have h2 := putAll_hgt (i := i) (n := n) l ts g.2
    show l + max (putT k0 i n t).hgt (hgtAll (putAll k0 i n ts)) ≤ max (l + max t.hgt (hgtAll ts)) _
    omega
end
end K1

/-! the state of a document that is being made -/
namespace K1
open PySem L2 Xr
/-- the document t, with its nodes in the list Nd; H0: what stood before -/
structure GSt (H0 : Hp) (d c Nd : Addr) (H : Hp) (t : AT) (xs : List V) (m : Nat) (dm : Int) : Prop where
  at_ : t.At H
  nd : t.ka.Nodup
  dis : ∀ q ∈ t.na, q ∉ t.ka
  ok : t.ok
  cnt : t.cnt ≤ m ∧ m ≤ 100
  pos : 0 < xs.length
  few : xs.length ≤ m
  ndn : Nd ≠ d ∧ Nd ≠ c ∧ H0 Nd = none
  out : ∀ q, q ∈ t.na ∨ q ∈ t.ka → H0 q = none ∧ q ≠ d ∧ q ≠ c ∧ q ≠ Nd
  ent : ∀ e ∈ xs, ∃ (p a : Addr) (dp : Int) (k : Addr) (x : Str), e = .ref p ∧ H p = some (.tup [.ref a, .int dp]) ∧ k ∈ t.ka ∧ a ∈ t.na ∧ H a = some (.lst [.str x, .ref k]) ∧ ∃ j : Nat, dp = (j : Int) + 1 ∧ dp ≤ dm ∧ t.lv k 0 j
  hgt : (t.hgt : Int) ≤ dm
theorem AT.keep {H H' : Hp} {d c : Addr} (b : But d c H H') (t : AT) (h : t.At H) (n1 : ∀ q, q ∈ t.na ∨ q ∈ t.ka → q ≠ d) (n2 : ∀ q, q ∈ t.na ∨ q ∈ t.ka → q ≠ c) : t.At H' := by
  have e : ∀ q, q ∈ t.na ∨ q ∈ t.ka → (∃ o, H q = some o) → H' q = H q := fun q hq ⟨o, z⟩ => by rw [z]; exact b q o z (n1 q hq) (n2 q hq)
  refine AT.frame t (fun q hq => e q (.inl hq) (na_at t h q hq)) (fun q hq => e q (.inr hq) ?_) h
  obtain ⟨vs, z, _⟩ := ka_at t h q hq
  exact ⟨_, z⟩
section
variable {H0 H H' : Hp} {d c Nd : Addr} {t n : AT} {xs : List V} {m : Nat} {dm : Int}
theorem GSt.keepN {ys : List V} (g : GSt H0 d c Nd H t xs m dm) (hN : H Nd = some (.lst ys)) (D : DealAt H d c) (b : ∀ q o, H q = some o → q ≠ d → q ≠ c → q ≠ Nd → H' q = some o) : GSt H0 d c Nd H' t xs m dm := by
  have e : ∀ q, q ∈ t.na ∨ q ∈ t.ka → (∃ o, H q = some o) → H' q = H q := fun q hq ⟨o, z⟩ => by
    have n := g.out q hq
    rw [z]
    exact b q o z n.2.1 n.2.2.1 n.2.2.2
  refine ⟨AT.frame t (fun q hq => e q (.inl hq) (na_at t g.at_ q hq)) (fun q hq => e q (.inr hq) ?_) g.at_, g.nd, g.dis, g.ok, g.cnt, g.pos, g.few, g.ndn, g.out, fun e he => ?_, g.hgt⟩
  · obtain ⟨vs, z, _⟩ := ka_at t g.at_ q hq
    exact ⟨_, z⟩
  obtain ⟨p, a, dp, k, x, e1, e2, e3, e4, e5, e6⟩ := g.ent e he
  have pd : p ≠ d ∧ p ≠ c ∧ p ≠ Nd := by
    obtain ⟨cs, bb, h1, h2, _⟩ := D.ex
    refine ⟨fun z => ?_, fun z => ?_, fun z => ?_⟩
    · rw [z, h1] at e2
      cases e2
    · rw [z, h2] at e2
      cases e2
    · rw [z, hN] at e2
      cases e2
  have n := g.out a (.inl e4)
  exact ⟨p, a, dp, k, x, e1, b _ _ e2 pd.1 pd.2.1 pd.2.2, e3, e4, b _ _ e5 n.2.1 n.2.2.1 n.2.2.2, e6⟩
theorem GSt.keep {ys : List V} (g : GSt H0 d c Nd H t xs m dm) (b : But d c H H') (D : DealAt H d c) (hN : H Nd = some (.lst ys)) : GSt H0 d c Nd H' t xs m dm := g.keepN hN D fun q o e n1 n2 _ => b q o e n1 n2
/-- an entry more -/
theorem GSt.add {p a k : Addr} {dp : Int} {x : Str} (g : GSt H0 d c Nd H t xs m dm) (hp : H p = some (.tup [.ref a, .int dp])) (hk : k ∈ t.ka) (ha : a ∈ t.na) (h : H a = some (.lst [.str x, .ref k])) (hl : xs.length + 1 ≤ m) (hj : ∃ j : Nat, dp = (j : Int) + 1 ∧ dp ≤ dm ∧ t.lv k 0 j) : GSt H0 d c Nd H t (xs ++ [.ref p]) m dm :=
  ⟨g.at_, g.nd, g.dis, g.ok, g.cnt, by rw [List.length_append]; have := g.pos; omega, by rw [List.length_append]; exact hl, g.ndn, g.out, fun e he => by
    rcases List.mem_append.mp he with he | he
    · exact g.ent e he
    · rw [List.mem_singleton] at he
      exact ⟨p, a, dp, k, x, he, hp, hk, ha, h, hj⟩, g.hgt⟩
theorem GSt.put {k : Addr} {i : Nat} {vs : List V} (g : GSt H0 d c Nd H t xs m dm) (hk : k ∈ t.ka) (hv : H k = some (.lst vs)) (hn : n.At H) (hok : n.ok) (hnd : n.ka.Nodup) (hds : ∀ q ∈ n.na, q ∉ n.ka)
    (hout : ∀ q, q ∈ n.na ∨ q ∈ n.ka → H0 q = none ∧ q ≠ d ∧ q ≠ c ∧ q ≠ Nd ∧ q ∉ t.na ∧ q ∉ t.ka) (hm : t.cnt + n.cnt ≤ m) {j : Nat} (hlv : t.lv k 0 j) (hgn : (j : Int) + 1 + (n.hgt : Int) ≤ dm) :
    GSt H0 d c Nd (upd H k (.lst (vs.take i ++ n.val :: vs.drop i))) (putT k i n t) xs m dm := by
  have k1 : k ∉ n.na := fun z => (hout k (.inl z)).2.2.2.2.2 hk
  have k2 : k ∉ n.ka := fun z => (hout k (.inr z)).2.2.2.2.2 hk
  have k3 : k ∉ t.na := fun z => g.dis k z hk
  have kN : k ≠ Nd := (g.out k (.inr hk)).2.2.2
  refine ⟨put_at hv hn k1 k2 t g.at_ k3 g.nd, put_nd hnd t g.nd fun q hq => (hout q (.inr hq)).2.2.2.2.2, fun q hq z => ?_, put_ok hok t g.ok, ⟨?_, g.cnt.2⟩, g.pos, g.few, g.ndn, fun q hq => ?_, fun e he => ?_, ?_⟩
  · rcases put_na t q hq with h | h
    · rcases put_ka t q z with z | z
      · exact g.dis q h z
      · exact (hout q (.inr z)).2.2.2.2.1 h
    · rcases put_ka t q z with z | z
      · exact (hout q (.inl h)).2.2.2.2.2 z
      · exact hds q h z
  · have := put_cnt (k0 := k) (i := i) (n := n) t g.nd
    omega
  · rcases hq with hq | hq
    · rcases put_na t q hq with h | h
      · exact g.out q (.inl h)
      · have := hout q (.inl h)
        exact ⟨this.1, this.2.1, this.2.2.1, this.2.2.2.1⟩
    · rcases put_ka t q hq with h | h
      · exact g.out q (.inr h)
      · have := hout q (.inr h)
        exact ⟨this.1, this.2.1, this.2.2.1, this.2.2.2.1⟩
  · obtain ⟨p, a, dp, k', x, e1, e2, e3, e4, e5, jj, j1, j2, j3⟩ := g.ent e he
    have pk : p ≠ k := fun z => by
      rw [z, hv] at e2
      cases e2
    have ak : a ≠ k := fun z => k3 (by rw [← z]; exact e4)
    have a' : a ∈ (putT k i n t).na := put_na' t a e4
    exact ⟨p, a, dp, k', x, e1, by rw [upd_ne pk]; exact e2, put_ka' t k' e3, a', by rw [upd_ne ak]; exact e5, jj, j1, j2, put_lv (fun z => (hout k' (.inr z)).2.2.2.2.2 e3) 0 t j3⟩
  · have h1 := put_hgt (i := i) (n := n) 0 t hlv
    have h2 := g.hgt
    omega
end
end K1
namespace K1
open PySem L2
theorem GSt.mono {H0 H : Hp} {d c Nd : Addr} {t : AT} {xs : List V} {m m' : Nat} (g : GSt H0 d c Nd H t xs m dm) (h : m ≤ m') (l : m' ≤ 100) : GSt H0 d c Nd H t xs m' dm :=
  ⟨g.at_, g.nd, g.dis, g.ok, ⟨Nat.le_trans g.cnt.1 h, l⟩, g.pos, Nat.le_trans g.few h, g.ndn, g.out, g.ent, g.hgt⟩
end K1
namespace K1
open PySem L2
mutual
theorem put_in {k0 : Addr} {i : Nat} {n : AT} : ∀ t : AT, k0 ∈ t.ka → (∀ q ∈ n.ka, q ∈ (putT k0 i n t).ka) ∧ ∀ q ∈ n.na, q ∈ (putT k0 i n t).na
  | .txt z, h => by
    have h' : k0 ∈ ([] : List Addr) := h
    simp at h'
  | .nod a k x ts, h => by
    have h' : k0 ∈ k :: kaAll ts := h
    unfold putT
    by_cases hk : k = k0
    · rw [if_pos hk]
      refine ⟨fun q hq => ?_, fun q hq => ?_⟩
      · show q ∈ k :: kaAll (ts.take i ++ n :: ts.drop i)
        rw [kaAll_app]
        show q ∈ k :: (kaAll (ts.take i) ++ (n.ka ++ kaAll (ts.drop i)))
        simp [hq]
      · show q ∈ a :: naAll (ts.take i ++ n :: ts.drop i)
        rw [naAll_app]
        show q ∈ a :: (naAll (ts.take i) ++ (n.na ++ naAll (ts.drop i)))
        simp [hq]
    · rw [if_neg hk]
      have h2 : k0 ∈ kaAll ts := (List.mem_cons.mp h').resolve_left (fun e => hk e.symm)
      obtain ⟨a1, a2⟩ := putAll_in (i := i) (n := n) ts h2
      refine ⟨fun q hq => ?_, fun q hq => ?_⟩
      · show q ∈ k :: kaAll (putAll k0 i n ts)
        simp [a1 q hq]
      · show q ∈ a :: naAll (putAll k0 i n ts)
        simp [a2 q hq]
theorem putAll_in {k0 : Addr} {i : Nat} {n : AT} : ∀ ts : List AT, k0 ∈ kaAll ts → (∀ q ∈ n.ka, q ∈ kaAll (putAll k0 i n ts)) ∧ ∀ q ∈ n.na, q ∈ naAll (putAll k0 i n ts)
  | [], h => by
    have h' : k0 ∈ ([] : List Addr) := h
    simp at h'
  | t :: ts, h => by
    have h' : k0 ∈ t.ka ++ kaAll ts := h
    show (∀ q ∈ n.ka, q ∈ (putT k0 i n t).ka ++ kaAll (putAll k0 i n ts)) ∧ ∀ q ∈ n.na, q ∈ (putT k0 i n t).na ++ naAll (putAll k0 i n ts)
    rcases List.mem_append.mp h' with h' | h'
    · obtain ⟨a1, a2⟩ := put_in (i := i) (n := n) t h'
      exact ⟨fun q hq => by simp [a1 q hq], fun q hq => by simp [a2 q hq]⟩
    · obtain ⟨a1, a2⟩ := putAll_in (i := i) (n := n) ts h'
      exact ⟨fun q hq => by simp [a1 q hq], fun q hq => by simp [a2 q hq]⟩
end
end K1

/-! grown -/
namespace K1
open PySem L2 Xr
abbrev sGrown : Stmt := top 33
theorem scGrown : FnScope ["deal", "names", "many", "deep", "top", "nodes", "turn", "node", "depth", "new"] ["deal", "names", "many", "deep"] (defScope sGrown) := ⟨rfl, rfl, rfl, by decide +kernel, rfl, by decide +kernel, by decide +kernel⟩
def spGrown (K : PySem.W.Frag) (n : Nat) : Sp := fun vs H Q _ => ∃ (d c nm : Addr) (ns : List Str) (many : Nat) (deep : Int), vs = [.ref d, .ref nm, .int (many : Int), .int deep] ∧ DealAt H d c ∧ H nm = some (.lst (ns.map V.str)) ∧ nm ≠ d ∧ nm ≠ c ∧
  (∀ x ∈ ns, nameD (.str x) = true) ∧ 0 < ns.length ∧ ns.length < 1000 ∧ 1 ≤ many ∧ many ≤ 90 ∧ many ≤ n ∧ 1 ≤ deep ∧ ∀ (v : V) (a k : Addr) (x : Str) (ts : List AT) (H' : Hp), (AT.nod a k x ts).ok → (AT.nod a k x ts).cnt ≤ many → ((AT.nod a k x ts).hgt : Int) ≤ deep → Dm K (Trk H) H' v (AT.nod a k x ts).doc.dat → DealAt H' d c → But d c H H' → Q v H'
structure GrownTxt (K : PySem.W.Frag) (mg : Str → Option Value) (a_law_any a_law_of a_law_text a_law_frozen : Addr) : Prop where
  n_range : mg "range" = none
  n_len : mg "len" = none
  n_list : mg "list" = none
  n_isinstance : mg "isinstance" = none
  g_law_of : mg "_law_of" = some (.ref a_law_of)
  k_law_of : PySem.W.keepIn K (.ref a_law_of) = true
  g_law_any : mg "_law_any" = some (.ref a_law_any)
  k_law_any : PySem.W.keepIn K (.ref a_law_any) = true
  g_law_text : mg "_law_text" = some (.ref a_law_text)
  k_law_text : PySem.W.keepIn K (.ref a_law_text) = true
  g_law_frozen : mg "_law_frozen" = some (.ref a_law_frozen)
  k_law_frozen : PySem.W.keepIn K (.ref a_law_frozen) = true
section
variable {P : Program} {w : World} {K : PySem.W.Frag} {mg : Str → Option Value} {base : Heap} {a_law_any a_law_of a_law_text a_law_frozen : Addr} {fdA fdO fdT fdF : FuncData}
theorem ok_grown {f : Addr} {fd : FuncData} {n : Nat} (F : Fun K "_law_grown" "_law_grown" sGrown f fd) (T : GrownTxt K mg a_law_any a_law_of a_law_text a_law_frozen)
    (G_law_any : FnOk P w K mg base CX0 1 a_law_any fdA ["deal", "bound"] spAny) (b_law_any : Binds K fdA ["deal", "bound"] [])
    (G_law_of : FnOk P w K mg base CX0 2 a_law_of fdO ["deal", "some"] spOf) (b_law_of : Binds K fdO ["deal", "some"] [])
    (G_law_text : FnOk P w K mg base CX0 3 a_law_text fdT ["deal"] spLText) (b_law_text : Binds K fdT ["deal"] [])
    (G_law_frozen : FnOk P w K mg base CX0 (1 + n) a_law_frozen fdF ["thing"] (spFrozen K n)) (b_law_frozen : Binds K fdF ["thing"] []) : FnOk P w K mg base CX0 (4 + n) f fd ["deal", "names", "many", "deep"] (spGrown K n) := by
  have e4 : 4 + n = (3 + n) + 1 := by omega
  rw [e4]
  refine F.ok scGrown (fun vs H Q E h => ?_) (fun cdv A outer s H vs Q E hr h => ?_)
  · obtain ⟨d, c, nm, ns, many, deep, rfl, _⟩ := h
    rfl
  · obtain ⟨d, c, nm, ns, many, deep, rfl, D, hnm, nm1, nm2, nok, nl0, nl1, m1, m2, m3, m4, k⟩ := h
    have hr1 : Room 1 _ := hr.mono (by omega)
    have hr2 : Room 2 _ := hr.mono (by omega)
    have hr3 : Room 3 _ := hr.mono (by omega)
    have hrf : Room (1 + n) _ := hr.mono (by omega)
    refine ⟨_, (pss_cons (ps_set (i := 4) scGrown.nd rfl (Or.inl rfl) (pe_lst (pa_cons (pe_call G_law_of hr2 rfl T.g_law_of T.k_law_of b_law_of .nil pass0 (pa_cons (pv 0) (pa_cons (pv 1) pa_nil))) (pa_cons (pe_lst pa_nil) pa_nil))))
      (pss_cons (ps_set (i := 5) scGrown.nd rfl (Or.inl rfl) (pe_lst (pa_cons (pe_tup (pa_cons (pv 4) (pa_cons pe_int pa_nil))) pa_nil)))
      (pss_cons (ps_for PassesOwn.never rfl (pi_range1 (by rfl) T.n_range (pa_cons (pe_op op_sub (pv 2) pe_int) pa_nil)) (pg_name (i := 6) scGrown.nd rfl (Or.inl rfl))
      (pss_cons (ps_asg (pe_ix ix_list (pv 5) (pe_call G_law_of hr2 rfl T.g_law_of T.k_law_of b_law_of .nil pass0 (pa_cons (pv 0) (pa_cons (pe_lst (pa_cons (pe_op op_sub (pe_callB call_len_seq (by rfl) T.n_len PySem.boot_len (pa_cons (pv 5) pa_nil)) pe_int) (pa_cons (pe_call G_law_any hr1 rfl T.g_law_any T.k_law_any b_law_any .nil pass0 (pa_cons (pv 0) (pa_cons (pe_callB call_len_seq (by rfl) T.n_len PySem.boot_len (pa_cons (pv 5) pa_nil)) pa_nil))) pa_nil))) pa_nil))) (fun _ _ => rfl)) (pg_tup (by rfl) (pgs_cons (pg_name (i := 7) scGrown.nd rfl (Or.inl rfl)) (pgs_cons (pg_name (i := 8) scGrown.nd rfl (Or.inl rfl)) pgs_nil))))
      (pss_cons (ps_set (i := 9) scGrown.nd rfl (Or.inl rfl) (pe_ifExp (PW.pt (pw_and (pt_cmpR op_lt (pv 8) (pv 3) (nomark _)) (pw_and1 (pt_cmpR op_gt (pe_call G_law_any hr1 rfl T.g_law_any T.k_law_any b_law_any .nil pass0 (pa_cons (pv 0) (pa_cons pe_int pa_nil))) pe_int (nomark _))))) (pe_lst (pa_cons (pe_call G_law_of hr2 rfl T.g_law_of T.k_law_of b_law_of .nil pass0 (pa_cons (pv 0) (pa_cons (pv 1) pa_nil))) (pa_cons (pe_lst pa_nil) pa_nil))) (pe_call G_law_text hr3 rfl T.g_law_text T.k_law_text b_law_text .nil pass0 (pa_cons (pv 0) pa_nil))))
      (pss_cons (ps_if (pt_val (pe_callB call_isi (by rfl) T.n_isinstance (by decide +kernel) (pa_cons (pv 9) (pa_cons (pe_bltn (v := V.ty "list") (u := .type "list") (by rfl) T.n_list (by decide +kernel) (by rfl)) pa_nil))))
      (pss_one (ps_expr (pe_bm PySem.F.plainAttrs_list PySem.F.slot_list_append PySem.F.type_list_append mt_append (pv 5) (pa_cons (pe_tup (pa_cons (pv 9) (pa_cons (pe_op op_add (pv 8) pe_int) pa_nil))) pa_nil))))
      pss_nil)
      (pss_one (ps_expr (pe_bm PySem.F.plainAttrs_list PySem.F.slot_list_insert PySem.F.type_list_insert mt_insert (pe_ix ix_list (pv 7) pe_int (fun _ _ => rfl)) (pa_cons (pe_call G_law_any hr1 rfl T.g_law_any T.k_law_any b_law_any .nil pass0 (pa_cons (pv 0) (pa_cons (pe_op op_add (pe_callB call_len_seq (by rfl) T.n_len PySem.boot_len (pa_cons (pe_ix ix_list (pv 7) pe_int (fun _ _ => rfl)) pa_nil)) pe_int) pa_nil))) (pa_cons (pv 9) pa_nil)))))))))
      (pss_one (ps_ret (pe_call G_law_frozen hrf rfl T.g_law_frozen T.k_law_frozen b_law_frozen .nil pass0 (pa_cons (pv 4) pa_nil))))))), ?_⟩
    -- the top
    refine ⟨_, rfl, _, rfl, d, c, D, .inl ⟨nm, _, rfl, hnm, nm1, nm2, by rw [List.length_map]; exact nl0, by rw [List.length_map]; omega, fun y H1 hy D1 b1 => ⟨Nat.zero_le _, fun k0 hk0 => ⟨(by show 2 ≤ sizeLine; decide), fun top htop => ?_⟩⟩⟩⟩
    obtain ⟨x0, hx0, rfl⟩ := List.mem_map.mp hy
    have kt : k0 ≠ top := ne_of_none upd_same htop
    refine ⟨_, rfl, (by show 2 ≤ sizeLine; decide), fun p hp => ⟨(by show 1 ≤ sizeLine; decide), fun Nd hNd => ?_⟩⟩
    have tp : top ≠ p := ne_of_none upd_same hp
    have kp : k0 ≠ p := ne_of_none (by rw [upd_ne kt, upd_same]) hp
    have pN : p ≠ Nd := ne_of_none upd_same hNd
    have tN : top ≠ Nd := ne_of_none (by rw [upd_ne tp, upd_same]) hNd
    have kN : k0 ≠ Nd := ne_of_none (by rw [upd_ne kp, upd_ne kt, upd_same]) hNd
    have f1 : H1 top = none := by
      have z := htop
      rw [upd_ne (Ne.symm kt)] at z
      exact z
    have f2 : H1 p = none := by
      have z := hp
      rw [upd_ne (Ne.symm tp), upd_ne (Ne.symm kp)] at z
      exact z
    have f3 : H1 Nd = none := by
      have z := hNd
      rw [upd_ne (Ne.symm pN), upd_ne (Ne.symm tN), upd_ne (Ne.symm kN)] at z
      exact z
    have D5 := (((D1.new (o := .lst []) hk0).new (o := .lst [.str x0, .ref k0]) htop).new (o := .tup [.ref top, .int 1]) hp).new (o := .lst [.ref p]) hNd
    have b05 : But d c H (upd (upd (upd (upd H1 k0 (.lst [])) top (.lst [.str x0, .ref k0])) p (.tup [.ref top, .int 1])) Nd (.lst [.ref p])) := (((b1.cell0 (b1.none hk0 D1)).cell0 (b1.none f1 D1)).cell0 (b1.none f2 D1)).cell0 (b1.none f3 D1)
    have e1 : (upd (upd (upd (upd H1 k0 (.lst [])) top (.lst [.str x0, .ref k0])) p (.tup [.ref top, .int 1])) Nd (.lst [.ref p])) k0 = some (.lst []) := by rw [upd_ne kN, upd_ne kp, upd_ne kt, upd_same]
    have e2 : (upd (upd (upd (upd H1 k0 (.lst [])) top (.lst [.str x0, .ref k0])) p (.tup [.ref top, .int 1])) Nd (.lst [.ref p])) top = some (.lst [.str x0, .ref k0]) := by rw [upd_ne tN, upd_ne tp, upd_same]
    have e3 : (upd (upd (upd (upd H1 k0 (.lst [])) top (.lst [.str x0, .ref k0])) p (.tup [.ref top, .int 1])) Nd (.lst [.ref p])) p = some (.tup [.ref top, .int 1]) := by rw [upd_ne pN, upd_same]
    have e4 : (upd (upd (upd (upd H1 k0 (.lst [])) top (.lst [.str x0, .ref k0])) p (.tup [.ref top, .int 1])) Nd (.lst [.ref p])) Nd = some (.lst [.ref p]) := upd_same
    generalize upd (upd (upd (upd H1 k0 (.lst [])) top (.lst [.str x0, .ref k0])) p (.tup [.ref top, .int 1])) Nd (.lst [.ref p]) = H5 at D5 b05 e1 e2 e3 e4 ⊢
    have nN := D1.ne f3
    have g0 : GSt H d c Nd H5 (.nod top k0 x0 []) [.ref p] 1 deep := by
      refine ⟨⟨e2, e1, trivial⟩, by show [k0].Nodup; simp, fun q hq z => ?_, ⟨nok x0 hx0, trivial⟩, ⟨Nat.le_refl _, by decide⟩, Nat.one_pos, Nat.le_refl _, ⟨nN.1, nN.2, b1.none f3 D1⟩, fun q hq => ?_, fun e he => ?_, (by show ((1 + 0 : Nat) : Int) ≤ deep; omega)⟩
      · have h1 : q ∈ [top] := hq
        have h2 : q ∈ [k0] := z
        rw [List.mem_singleton] at h1 h2
        exact kt (h2.symm.trans h1)
      · rcases hq with hq | hq
        · have h1 : q ∈ [top] := hq
          rw [List.mem_singleton] at h1
          rw [h1]
          exact ⟨b1.none f1 D1, (D1.ne f1).1, (D1.ne f1).2, tN⟩
        · have h1 : q ∈ [k0] := hq
          rw [List.mem_singleton] at h1
          rw [h1]
          exact ⟨b1.none hk0 D1, (D1.ne hk0).1, (D1.ne hk0).2, kN⟩
      · rw [List.mem_singleton] at he
        exact ⟨p, top, 1, k0, x0, he, e3, by show k0 ∈ [k0]; simp, by show top ∈ [top]; simp, e2, 0, rfl, m4, ⟨fun _ => rfl, trivial⟩⟩
    refine ⟨_, rfl, _, _, rfl, rfl, _, rfl, by omega, by omega, ?_⟩
    refine for_range (lo := 0) (n := ((many : Int) - 1).toNat) (fun i σ H4 => ∃ (t : AT) (xs : List V) (x6 x7 x8 x9 : Option V), σ = [some (.ref d), some (.ref nm), some (.int (many : Int)), some (.int deep), some (.ref top), some (.ref Nd), x6, x7, x8, x9] ∧ t.val = .ref top ∧ GSt H d c Nd H4 t xs (1 + i) deep ∧ H4 Nd = some (.lst xs) ∧ DealAt H4 d c ∧ But d c H H4)
      ⟨_, _, none, none, none, none, rfl, rfl, g0, e4, D5, b05⟩ ?_ ?_
    · rintro i σ H2 hi ⟨t, xs, x6, x7, x8, x9, rfl, tv, g, hN2, D2, b02⟩
      have fw := g.few
      have ps := g.pos
      refine ⟨_, rfl, _, rfl, _, rfl, _, xs, rfl, .inl (SqL.of hN2), _, _, rfl, rfl, ?_⟩
      refine ⟨_, rfl, _, rfl, _, xs, rfl, .inl (SqL.of hN2), d, c, (xs.length : Int), rfl, D2, by omega, by omega, fun r H3 r0 r1 D3 b3 => ⟨(by show 2 ≤ sizeLine; decide), fun l hl => ?_⟩⟩
      have g3 := g.keep b3 D2 hN2
      have hN3 : H3 Nd = some (.lst xs) := b3 Nd _ hN2 g.ndn.1 g.ndn.2.1
      have hN3l : (upd H3 l (.lst [.int ((xs.length : Int) - 1), .int r])) Nd = some (.lst xs) := by rw [upd_ne (ne_of_none hN3 hl)]; exact hN3
      have ln := D3.ne hl
      have g3l : GSt H d c Nd (upd H3 l (.lst [.int ((xs.length : Int) - 1), .int r])) t xs (1 + i) deep := g3.keep (fun q o e _ _ => by rw [upd_ne (ne_of_none e hl)]; exact e) D3 hN3
      refine ⟨d, c, D3.new hl, .inl ⟨l, _, rfl, upd_same, ln.1, ln.2, (by show 0 < 2; decide), (by show 2 < 1000000; decide), fun v H4 hv D4 b4 => ?_⟩⟩
      have g4 := g3l.keep b4 (D3.new hl) hN3l
      have hN4 : H4 Nd = some (.lst xs) := b4 Nd _ hN3l g.ndn.1 g.ndn.2.1
      have b04 : But d c H H4 := fun q o e n1 n2 => by
        have z := b3 q o (b02 q o e n1 n2) n1 n2
        exact b4 q o (by rw [upd_ne (ne_of_none z hl)]; exact z) n1 n2
      obtain ⟨j, hj, rfl⟩ : ∃ j : Nat, j < xs.length ∧ v = .int (j : Int) := by
        simp only [List.mem_cons, List.not_mem_nil, or_false] at hv
        rcases hv with rfl | rfl
        · exact ⟨xs.length - 1, by omega, by congr 1; omega⟩
        · obtain ⟨jj, rfl⟩ := Int.eq_ofNat_of_zero_le r0
          exact ⟨jj, by omega, rfl⟩
      have hxj : xs[j]? = some xs[j] := List.getElem?_eq_getElem hj
      obtain ⟨pp, a1, dp, k1, x1, ee, hpp, hk1, ha1, ha4, j1, ej1, dj1, lj1⟩ := g4.ent xs[j] (List.getElem_mem hj)
      rw [ee] at hxj
      refine ⟨_, _, _, _, rfl, rfl, SqL.of hN4, atI_nat hxj, pp, _, rfl, SqT.of hpp, rfl, _, _, rfl, _, _, rfl, rfl, ?_⟩
      have i99 : 1 + i + 1 ≤ 100 := by omega
      -- the new thing
      refine ⟨_, rfl, _, rfl, _, _, rfl, rfl, _, rfl, ?_⟩
      refine ite2 (fun hdd => ?_) (fun _ => ?_)
      · refine ⟨_, rfl, d, c, 3, rfl, D4, by decide, by decide, fun r4 H4' _ _ D4' b4' => ?_⟩
        replace g4 := g4.keep b4' D4 hN4
        replace hN4 : H4' Nd = some (.lst xs) := b4' Nd _ hN4 g4.ndn.1 g4.ndn.2.1
        replace ha4 : H4' a1 = some (.lst [.str x1, .ref k1]) := b4' a1 _ ha4 (g4.out a1 (.inl ha1)).2.1 (g4.out a1 (.inl ha1)).2.2.1
        replace b04 := b04.trans b4'
        clear D4 hpp b4'
        rename DealAt H4' d c => D4
        refine ⟨_, _, rfl, rfl, _, rfl, ?_⟩
        refine ite2 (fun _ => ?_) (fun _ => ?_)
        · refine ⟨_, rfl, _, rfl, d, c, D4, .inl ⟨nm, _, rfl, b04 nm _ hnm nm1 nm2, nm1, nm2, by rw [List.length_map]; omega, by rw [List.length_map]; omega, fun y2 H4b hy2 D4b b4b => ⟨Nat.zero_le _, fun kn hkn => ⟨(by show 2 ≤ sizeLine; decide), fun an han => ?_⟩⟩⟩⟩
          obtain ⟨x2, hx2, rfl⟩ := List.mem_map.mp hy2
          have akn : kn ≠ an := ne_of_none upd_same han
          have g4b := g4.keep b4b D4 hN4
          have hN4b : H4b Nd = some (.lst xs) := b4b Nd _ hN4 g4.ndn.1 g4.ndn.2.1
          have bb : But d c H4b (upd (upd H4b kn (.lst [])) an (.lst [.str x2, .ref kn])) := fun q o e _ _ => by
            have z1 := ne_of_none e hkn
            rw [upd_ne (ne_of_none (by rw [upd_ne z1]; exact e) han), upd_ne z1]
            exact e
          have D5 := (D4b.new (o := .lst []) hkn).new (o := .lst [.str x2, .ref kn]) han
          have hN5a := bb Nd _ hN4b g4.ndn.1 g4.ndn.2.1
          have g5a := (g4b.keep bb D4b hN4b).mono (Nat.le_succ _) (by omega)
          have b05a := (b04.trans b4b).trans bb
          have hk5a : (upd (upd H4b kn (.lst [])) an (.lst [.str x2, .ref kn])) kn = some (.lst []) := by rw [upd_ne akn, upd_same]
          have hn5a : (upd (upd H4b kn (.lst [])) an (.lst [.str x2, .ref kn])) an = some (.lst [.str x2, .ref kn]) := upd_same
          have ha4b : H4b a1 = some (.lst [.str x1, .ref k1]) := b4b a1 _ ha4 (g4.out a1 (.inl ha1)).2.1 (g4.out a1 (.inl ha1)).2.2.1
          have ha5a := bb a1 _ ha4b (g4.out a1 (.inl ha1)).2.1 (g4.out a1 (.inl ha1)).2.2.1
          have fresh : ∀ q, q = kn ∨ q = an → H4b q = none := fun q h => by
            rcases h with h | h
            · rw [h]
              exact hkn
            · rw [h]
              have z := han
              rw [upd_ne (Ne.symm akn)] at z
              exact z
          have fo : ∀ q, q = kn ∨ q = an → H q = none ∧ q ≠ d ∧ q ≠ c ∧ q ≠ Nd ∧ q ∉ t.na ∧ q ∉ t.ka := fun q h => by
            have f := fresh q h
            refine ⟨(b04.trans b4b).none f D4b, (D4b.ne f).1, (D4b.ne f).2, fun e => ?_, fun m => ?_, fun m => ?_⟩
            · rw [e, hN4b] at f
              cases f
            · obtain ⟨o, z⟩ := na_at t g4b.at_ q m
              rw [f] at z
              cases z
            · obtain ⟨o, z, _⟩ := ka_at t g4b.at_ q m
              rw [f] at z
              cases z
          generalize upd (upd H4b kn (.lst [])) an (.lst [.str x2, .ref kn]) = H5a at D5 g5a b05a hk5a hn5a ha5a hN5a ⊢
          refine ⟨_, rfl, _, _, _, _, true, rfl, .ty "list", .base (.lst hn5a), kit_ty (by decide +kernel), _, rfl, iteT ?_⟩
          refine ⟨_, rfl, .inl ⟨rfl, _, SqL.of hN5a⟩, _, rfl, _, rfl, _, _, rfl, rfl, (by show 2 ≤ sizeLine; decide), fun pn hpn => ?_⟩
          have pnN : Nd ≠ pn := ne_of_none hN5a hpn
          refine ⟨_, _, _, rfl, rfl, (by rw [upd_ne pnN]; exact hN5a), small1000 (by omega), ?_⟩
          have anN := (fo an (.inr rfl)).2.2.2.1
          have knN := (fo kn (.inl rfl)).2.2.2.1
          have anp : an ≠ pn := ne_of_none hn5a hpn
          have knp : kn ≠ pn := ne_of_none hk5a hpn
          have k1n := (g4.out k1 (.inr hk1))
          have a1n := (g4.out a1 (.inl ha1))
          have old : ∀ q o, H5a q = some o → q ≠ d → q ≠ c → q ≠ Nd → (upd (upd H5a pn (.tup [.ref an, .int (dp + 1)])) Nd (.lst (xs ++ [.ref pn]))) q = some o := fun q o e _ _ n3 => by
            rw [upd_ne n3, upd_ne (ne_of_none e hpn)]
            exact e
          have g5 := g5a.keepN hN5a D5 old
          have D5' := (D5.new (o := .tup [.ref an, .int (dp + 1)]) hpn).upd (o := .lst (xs ++ [.ref pn])) g4.ndn.1 g4.ndn.2.1
          have b05 : But d c H (upd (upd H5a pn (.tup [.ref an, .int (dp + 1)])) Nd (.lst (xs ++ [.ref pn]))) := (b05a.cell0 (b05a.none hpn D5)).cell0 g4.ndn.2.2
          have hN5 : (upd (upd H5a pn (.tup [.ref an, .int (dp + 1)])) Nd (.lst (xs ++ [.ref pn]))) Nd = some (.lst (xs ++ [.ref pn])) := upd_same
          have hp5 : (upd (upd H5a pn (.tup [.ref an, .int (dp + 1)])) Nd (.lst (xs ++ [.ref pn]))) pn = some (.tup [.ref an, .int (dp + 1)]) := by rw [upd_ne (Ne.symm pnN), upd_same]
          have hn5x : (upd (upd H5a pn (.tup [.ref an, .int (dp + 1)])) Nd (.lst (xs ++ [.ref pn]))) an = some (.lst [.str x2, .ref kn]) := by rw [upd_ne anN, upd_ne anp]; exact hn5a
          have hk5x : (upd (upd H5a pn (.tup [.ref an, .int (dp + 1)])) Nd (.lst (xs ++ [.ref pn]))) kn = some (.lst []) := by rw [upd_ne knN, upd_ne knp]; exact hk5a
          have ha5 := old a1 _ ha5a a1n.2.1 a1n.2.2.1 a1n.2.2.2
          have pnd := D5.ne hpn
          generalize upd (upd H5a pn (.tup [.ref an, .int (dp + 1)])) Nd (.lst (xs ++ [.ref pn])) = H5 at g5 D5' b05 hN5 hp5 hn5x hk5x ha5 ⊢
          clear D5
          rename DealAt H5 d c => D5
          let nn : AT := .nod an kn x2 []
          have hn5 : nn.At H5 := ⟨hn5x, hk5x, trivial⟩
          have hout : ∀ q, q ∈ nn.na ∨ q ∈ nn.ka → H q = none ∧ q ≠ d ∧ q ≠ c ∧ q ≠ Nd ∧ q ∉ t.na ∧ q ∉ t.ka := fun q h => by
            have h' : q ∈ [an] ∨ q ∈ [kn] := h
            simp only [List.mem_singleton] at h'
            exact fo q h'.symm
          have hno : nn.ok := ⟨nok x2 hx2, trivial⟩
          have hnd : nn.ka.Nodup := by
            show [kn].Nodup
            simp
          have hnds : ∀ q ∈ nn.na, q ∉ nn.ka := fun q h z => by
            have h1 : q ∈ [an] := h
            have h2 : q ∈ [kn] := z
            rw [List.mem_singleton] at h1 h2
            exact akn (h2.symm.trans h1)
          have hcn : t.cnt + nn.cnt ≤ 1 + i + 1 := Nat.add_le_add_right g4.cnt.1 1
          have ank1 : an ≠ k1 := fun e => (fo an (.inr rfl)).2.2.2.2.2 (by rw [e]; exact hk1)
          have pk1 : pn ≠ k1 := fun e => by
            obtain ⟨vs, z, _⟩ := ka_at t g5.at_ k1 hk1
            rw [← e, hp5] at z
            cases z

          -- put in
          obtain ⟨vs, hk5, lv⟩ := ka_at t g5.at_ k1 hk1
          have cm := g5.cnt
          refine ⟨_, rfl, _, _, _, _, rfl, rfl, SqL.of ha5, atI_nat (j := 1) rfl, .inl ⟨rfl, _, SqL.of hk5⟩, ?_⟩
          refine ⟨_, rfl, _, rfl, _, _, _, _, rfl, rfl, SqL.of ha5, atI_nat (j := 1) rfl, _, vs, rfl, .inl (SqL.of hk5), _, _, rfl, rfl, ?_⟩
          refine ⟨d, c, (vs.length : Int) + 1, rfl, D5, by omega, by omega, fun r6 H6 q0 q1 D6 b6 => ?_⟩
          have g6 := g5.keep b6 D5 hN5
          have hN6 := b6 Nd _ hN5 g5.ndn.1 g5.ndn.2.1
          have n6 := AT.keep b6 nn hn5 (fun q hq => (hout q hq).2.1) (fun q hq => (hout q hq).2.2.1)
          have ko := g5.out k1 (.inr hk1)
          have hk6 : H6 k1 = some (.lst vs) := b6 k1 _ hk5 ko.2.1 ko.2.2.1
          have hp6 : H6 pn = some (.tup [.ref an, .int (dp + 1)]) := b6 pn _ hp5 pnd.1 pnd.2
          have hn6 : H6 an = some (.lst [.str x2, .ref kn]) := b6 an _ hn5x (fo an (.inr rfl)).2.1 (fo an (.inr rfl)).2.2.1
          refine ⟨_, rfl, _, _, r6, _, rfl, rfl, hk6, small1000 (by omega), q0, by omega, ?_⟩
          have e9 : vs.take r6.toNat ++ [V.ref an] ++ vs.drop r6.toNat = vs.take r6.toNat ++ nn.val :: vs.drop r6.toNat := by
            show _ = vs.take r6.toNat ++ V.ref an :: vs.drop r6.toNat
            simp
          rw [e9]
          have g7 := g6.put (i := r6.toNat) hk1 hk6 n6 hno hnd hnds hout hcn lj1 (by have := of_decide_eq_true hdd; show (j1 : Int) + 1 + ((1 + 0 : Nat) : Int) ≤ deep; omega)
          have hN7 : (upd H6 k1 (.lst (vs.take r6.toNat ++ nn.val :: vs.drop r6.toNat))) Nd = some (.lst (xs ++ [.ref pn])) := by rw [upd_ne (Ne.symm ko.2.2.2)]; exact hN6
          have pn7 : (upd H6 k1 (.lst (vs.take r6.toNat ++ nn.val :: vs.drop r6.toNat))) pn = some (.tup [.ref an, .int (dp + 1)]) := by rw [upd_ne pk1]; exact hp6
          have an7 : (upd H6 k1 (.lst (vs.take r6.toNat ++ nn.val :: vs.drop r6.toNat))) an = some (.lst [.str x2, .ref kn]) := by rw [upd_ne ank1]; exact hn6
          have pin := put_in (i := r6.toNat) (n := nn) t hk1
          exact ⟨putT k1 r6.toNat nn t, _, _, _, _, _, rfl, (put_val t).trans tv, g7.add pn7 (pin.1 kn (by show kn ∈ [kn]; simp)) (pin.2 an (by show an ∈ [an]; simp)) an7 (by omega) ⟨j1 + 1, by omega, (by have := of_decide_eq_true hdd; omega), put_lvn 0 t ((fo kn (.inl rfl)).2.2.2.2.2) lj1⟩, hN7, D6.upd ko.2.1 ko.2.2.1, (b05.trans b6).cell0 ko.1⟩

        · refine ⟨_, rfl, d, c, rfl, D4, fun z H5 hz D5 b5 => ?_⟩
          have hN5 : H5 Nd = some (.lst xs) := b5 Nd _ hN4 g4.ndn.1 g4.ndn.2.1
          have g5 := (g4.keep b5 D4 hN4).mono (Nat.le_succ _) (by omega)
          have b05 := b04.trans b5
          have ha5 : H5 a1 = some (.lst [.str x1, .ref k1]) := b5 a1 _ ha4 (g4.out a1 (.inl ha1)).2.1 (g4.out a1 (.inl ha1)).2.2.1
          refine ⟨_, rfl, _, _, _, _, false, rfl, .ty "list", .base (.str z), kit_ty (by decide +kernel), _, rfl, iteF ?_⟩
          let nn : AT := .txt z
          have hn5 : nn.At H5 := trivial
          have hout : ∀ q, q ∈ nn.na ∨ q ∈ nn.ka → H q = none ∧ q ≠ d ∧ q ≠ c ∧ q ≠ Nd ∧ q ∉ t.na ∧ q ∉ t.ka := fun q h => by
            have h' : q ∈ ([] : List Addr) ∨ q ∈ ([] : List Addr) := h
            simp at h'
          have hno : nn.ok := hz
          have hnd : nn.ka.Nodup := List.nodup_nil
          have hnds : ∀ q ∈ nn.na, q ∉ nn.ka := fun q h => by
            have h' : q ∈ ([] : List Addr) := h
            simp at h'
          have hcn : t.cnt + nn.cnt ≤ 1 + i + 1 := Nat.add_le_add_right g4.cnt.1 1

          -- put in
          obtain ⟨vs, hk5, lv⟩ := ka_at t g5.at_ k1 hk1
          have cm := g5.cnt
          refine ⟨_, rfl, _, _, _, _, rfl, rfl, SqL.of ha5, atI_nat (j := 1) rfl, .inl ⟨rfl, _, SqL.of hk5⟩, ?_⟩
          refine ⟨_, rfl, _, rfl, _, _, _, _, rfl, rfl, SqL.of ha5, atI_nat (j := 1) rfl, _, vs, rfl, .inl (SqL.of hk5), _, _, rfl, rfl, ?_⟩
          refine ⟨d, c, (vs.length : Int) + 1, rfl, D5, by omega, by omega, fun r6 H6 q0 q1 D6 b6 => ?_⟩
          have g6 := g5.keep b6 D5 hN5
          have hN6 := b6 Nd _ hN5 g5.ndn.1 g5.ndn.2.1
          have n6 := AT.keep b6 nn hn5 (fun q hq => (hout q hq).2.1) (fun q hq => (hout q hq).2.2.1)
          have ko := g5.out k1 (.inr hk1)
          have hk6 : H6 k1 = some (.lst vs) := b6 k1 _ hk5 ko.2.1 ko.2.2.1

          refine ⟨_, rfl, _, _, r6, _, rfl, rfl, hk6, small1000 (by omega), q0, by omega, ?_⟩
          have e9 : vs.take r6.toNat ++ [V.str z] ++ vs.drop r6.toNat = vs.take r6.toNat ++ nn.val :: vs.drop r6.toNat := by
            show _ = vs.take r6.toNat ++ V.str z :: vs.drop r6.toNat
            simp
          rw [e9]
          have g7 := g6.put (i := r6.toNat) hk1 hk6 n6 hno hnd hnds hout hcn lj1 (by show (j1 : Int) + 1 + ((0 : Nat) : Int) ≤ deep; omega)
          have hN7 : (upd H6 k1 (.lst (vs.take r6.toNat ++ nn.val :: vs.drop r6.toNat))) Nd = some (.lst (xs)) := by rw [upd_ne (Ne.symm ko.2.2.2)]; exact hN6
          exact ⟨putT k1 r6.toNat nn t, _, _, _, _, _, rfl, (put_val t).trans tv, g7, hN7, D6.upd ko.2.1 ko.2.2.1, (b05.trans b6).cell0 ko.1⟩

      · refine ⟨_, rfl, d, c, rfl, D4, fun z H5 hz D5 b5 => ?_⟩
        have hN5 : H5 Nd = some (.lst xs) := b5 Nd _ hN4 g4.ndn.1 g4.ndn.2.1
        have g5 := (g4.keep b5 D4 hN4).mono (Nat.le_succ _) (by omega)
        have b05 := b04.trans b5
        have ha5 : H5 a1 = some (.lst [.str x1, .ref k1]) := b5 a1 _ ha4 (g4.out a1 (.inl ha1)).2.1 (g4.out a1 (.inl ha1)).2.2.1
        refine ⟨_, rfl, _, _, _, _, false, rfl, .ty "list", .base (.str z), kit_ty (by decide +kernel), _, rfl, iteF ?_⟩
        let nn : AT := .txt z
        have hn5 : nn.At H5 := trivial
        have hout : ∀ q, q ∈ nn.na ∨ q ∈ nn.ka → H q = none ∧ q ≠ d ∧ q ≠ c ∧ q ≠ Nd ∧ q ∉ t.na ∧ q ∉ t.ka := fun q h => by
          have h' : q ∈ ([] : List Addr) ∨ q ∈ ([] : List Addr) := h
          simp at h'
        have hno : nn.ok := hz
        have hnd : nn.ka.Nodup := List.nodup_nil
        have hnds : ∀ q ∈ nn.na, q ∉ nn.ka := fun q h => by
          have h' : q ∈ ([] : List Addr) := h
          simp at h'
        have hcn : t.cnt + nn.cnt ≤ 1 + i + 1 := Nat.add_le_add_right g4.cnt.1 1

        -- put in
        obtain ⟨vs, hk5, lv⟩ := ka_at t g5.at_ k1 hk1
        have cm := g5.cnt
        refine ⟨_, rfl, _, _, _, _, rfl, rfl, SqL.of ha5, atI_nat (j := 1) rfl, .inl ⟨rfl, _, SqL.of hk5⟩, ?_⟩
        refine ⟨_, rfl, _, rfl, _, _, _, _, rfl, rfl, SqL.of ha5, atI_nat (j := 1) rfl, _, vs, rfl, .inl (SqL.of hk5), _, _, rfl, rfl, ?_⟩
        refine ⟨d, c, (vs.length : Int) + 1, rfl, D5, by omega, by omega, fun r6 H6 q0 q1 D6 b6 => ?_⟩
        have g6 := g5.keep b6 D5 hN5
        have hN6 := b6 Nd _ hN5 g5.ndn.1 g5.ndn.2.1
        have n6 := AT.keep b6 nn hn5 (fun q hq => (hout q hq).2.1) (fun q hq => (hout q hq).2.2.1)
        have ko := g5.out k1 (.inr hk1)
        have hk6 : H6 k1 = some (.lst vs) := b6 k1 _ hk5 ko.2.1 ko.2.2.1

        refine ⟨_, rfl, _, _, r6, _, rfl, rfl, hk6, small1000 (by omega), q0, by omega, ?_⟩
        have e9 : vs.take r6.toNat ++ [V.str z] ++ vs.drop r6.toNat = vs.take r6.toNat ++ nn.val :: vs.drop r6.toNat := by
          show _ = vs.take r6.toNat ++ V.str z :: vs.drop r6.toNat
          simp
        rw [e9]
        have g7 := g6.put (i := r6.toNat) hk1 hk6 n6 hno hnd hnds hout hcn lj1 (by show (j1 : Int) + 1 + ((0 : Nat) : Int) ≤ deep; omega)
        have hN7 : (upd H6 k1 (.lst (vs.take r6.toNat ++ nn.val :: vs.drop r6.toNat))) Nd = some (.lst (xs)) := by rw [upd_ne (Ne.symm ko.2.2.2)]; exact hN6
        exact ⟨putT k1 r6.toNat nn t, _, _, _, _, _, rfl, (put_val t).trans tv, g7, hN7, D6.upd ko.2.1 ko.2.2.1, (b05.trans b6).cell0 ko.1⟩

    · rintro σ H2 ⟨t, xs, x6, x7, x8, x9, rfl, tv, g, hN2, D2, b02⟩
      have ct := g.cnt
      have nt := nds_le t
      cases t with
      | txt z => cases tv
      | nod a1 k1 x1 ts =>
        refine ⟨_, rfl, _, (Trk H), (by rw [tv]; rfl), fun a h => ?_, g.at_, by omega, by omega, fun u H3 du s3 => k u a1 k1 x1 ts H3 g.ok (by omega) g.hgt du ?_ ?_⟩
        · obtain ⟨o, e⟩ := h
          by_cases h1 : a = d
          · rw [h1]
            exact D2.trk.1
          · by_cases h2 : a = c
            · rw [h2]
              exact D2.trk.2
            · exact ⟨o, b02 a o e h1 h2⟩
        · obtain ⟨cs, b, h1, h2, r⟩ := D2.ex
          exact ⟨cs, b, s3 _ _ h1, s3 _ _ h2, r⟩
        · exact fun q o e n1 n2 => s3 q o (b02 q o e n1 n2)
end
end K1

/-! drawn names -/
namespace K1
open PySem L2 Xr
abbrev sNames : Stmt := top 30
theorem scNames : FnScope ["deal", "many", "letters", "stem", "at", "first", "more", "found", "number", "tail", "turn"] ["deal", "many"] (defScope sNames) := ⟨rfl, rfl, rfl, by decide +kernel, rfl, by decide +kernel, by decide +kernel⟩
theorem From.app {S : List Nat} {n m : Nat} {a b : Str} (ha : From S n a) (hb : From S m b) : From S (n + m) (a ++ b) := by
  refine ⟨by rw [strLen_append, ha.len, hb.len], fun ch h => ?_⟩
  rw [cps_app] at h
  rcases List.mem_append.mp h with h | h
  · exact ha.sub ch h
  · exact hb.sub ch h
theorem cut_from {S : List Nat} {n i : Nat} {z : Str} (h : From S n z) (hi : i ≤ n) : From S i (cutS z none (some (i : Int))) ∧ From S (n - i) (cutS z (some (i : Int)) none) := by
  have e1 : HT.sIx z.length z.length (some (i : Int)) = i := by
    rw [HT.sIx_nat, h.len]
    omega
  have e2 : HT.sIx z.length 0 (some (i : Int)) = i := by
    rw [HT.sIx_nat, h.len]
    omega
  have l : z.cps.toList.length = n := by
    have := h.len
    show z.cps.toList.length = n
    rw [Array.length_toList]
    exact this
  have a1 : cutS z none (some (i : Int)) = ⟨((z.cps.toList.drop 0).take (i - 0)).toArray⟩ := by
    unfold cutS
    rw [e1]
    rfl
  have a2 : cutS z (some (i : Int)) none = ⟨((z.cps.toList.drop i).take (z.length - i)).toArray⟩ := by
    unfold cutS
    rw [e2]
    rfl
  refine ⟨⟨?_, fun ch hc => ?_⟩, ⟨?_, fun ch hc => ?_⟩⟩
  · rw [a1]
    show (((z.cps.toList.drop 0).take (i - 0)).toArray).size = i
    rw [List.size_toArray, List.length_take, List.length_drop]
    omega
  · rw [a1] at hc
    have hc' : ch ∈ ((z.cps.toList.drop 0).take (i - 0)) := by simpa using hc
    exact h.sub ch (List.mem_of_mem_drop (List.mem_of_mem_take hc'))
  · rw [a2]
    show (((z.cps.toList.drop i).take (z.length - i)).toArray).size = n - i
    rw [List.size_toArray, List.length_take, List.length_drop, h.len]
    omega
  · rw [a2] at hc
    have hc' : ch ∈ ((z.cps.toList.drop i).take (z.length - i)) := by simpa using hc
    exact h.sub ch (List.mem_of_mem_drop (List.mem_of_mem_take hc'))
theorem From.name {n : Nat} {z : Str} (h : From abc.cps.toList n z) (h1 : 1 ≤ n) (h8 : n ≤ 8) : nameD (.str z) = true := by
  show (decide (z.length ≠ 0) && (decide (z.length ≤ 8) && hasOnly z abc)) = true
  rw [h.has, h.len, decide_eq_true (show n ≠ 0 by omega), decide_eq_true h8]
  rfl
theorem sum_from {S : List Nat} : ∀ l : List Str, (∀ y ∈ l, From S 1 y) → (l.map (·.length)).sum + l.length * (Str.ofString "").length ≤ l.length := by
  intro l
  have l0 : (Str.ofString "").length = 0 := by decide
  rw [l0]
  induction l with
  | nil => intro _; exact Nat.le_refl _
  | cons y l ih =>
    intro h
    have := ih fun x hx => h x (List.mem_cons_of_mem _ hx)
    have := (h y (by simp)).len
    simp only [List.map_cons, List.sum_cons, List.length_cons] at *
    omega
def spNames : Sp := fun vs H Q _ => ∃ (d c : Addr) (many : Nat), vs = [.ref d, .int (many : Int)] ∧ DealAt H d c ∧ 1 ≤ many ∧ many < 60 ∧
  ∀ (p : Addr) (ns : List Str) (H' : Hp), H' p = some (.lst (ns.map V.str)) → H p = none → ns.length = many → (∀ x ∈ ns, nameD (.str x) = true) → DealAt H' d c → But d c H H' → Q (.ref p) H'
structure NamesTxt (K : PySem.W.Frag) (mg : Str → Option Value) (a_law_any a_law_of : Addr) : Prop where
  n_sorted : mg "sorted" = none
  n_range : mg "range" = none
  n_int : mg "int" = none
  n_len : mg "len" = none
  g_law_of : mg "_law_of" = some (.ref a_law_of)
  k_law_of : PySem.W.keepIn K (.ref a_law_of) = true
  g_law_any : mg "_law_any" = some (.ref a_law_any)
  k_law_any : PySem.W.keepIn K (.ref a_law_any) = true
section
variable {P : Program} {w : World} {K : PySem.W.Frag} {mg : Str → Option Value} {base : Heap} {a_law_any a_law_of : Addr} {fdA fdO : FuncData}
theorem ok_names {f : Addr} {fd : FuncData} (F : Fun K "_law_names" "_law_names" sNames f fd) (T : NamesTxt K mg a_law_any a_law_of)
    (G_law_any : FnOk P w K mg base CX0 1 a_law_any fdA ["deal", "bound"] spAny) (b_law_any : Binds K fdA ["deal", "bound"] [])
    (G_law_of : FnOk P w K mg base CX0 2 a_law_of fdO ["deal", "some"] spOf) (b_law_of : Binds K fdO ["deal", "some"] []) : FnOk P w K mg base CX0 3 f fd ["deal", "many"] spNames := by
  refine F.ok scNames (fun vs H Q E h => ?_) (fun cdv A outer s H vs Q E hr h => ?_)
  · obtain ⟨d, c, many, rfl, _⟩ := h
    rfl
  · obtain ⟨d, c, many, rfl, D, m1, m2, k⟩ := h
    have hr1 : Room 1 _ := hr.mono (by decide)
    have hr2 : Room 2 _ := hr
    refine ⟨_, (pss_cons (ps_set (i := 2) scNames.nd rfl (Or.inr rfl) pe_str)
      (pss_cons (ps_set (i := 3) scNames.nd rfl (Or.inl rfl) (pe_join pe_str (pe_lc (own := [("turn", 10)]) (g := gName 10) (tt := tYes) (by rfl) scNames.nd (pi_range1 (by rfl) T.n_range (pa_cons (pe_call G_law_any hr1 rfl T.g_law_any T.k_law_any b_law_any .nil pass0 (pa_cons (pv 0) (pa_cons pe_int pa_nil))) pa_nil)) (blkOk_by (own := [("turn", 10)]) (N := ["deal", "many", "letters", "stem", "at", "first", "more", "found", "number", "tail", "turn"]) (sc := defScope sNames) (by decide +kernel)) (fun _ _ _ _ _ => pg_name (i := 10) scNames.nd rfl (Or.inl rfl)) (fun _ _ _ _ _ => pts_nil) (fun _ _ _ _ _ => (pe_call G_law_of hr2 rfl T.g_law_of T.k_law_of b_law_of .nil pass0 (pa_cons (pv 0) (pa_cons (pv 2) pa_nil)))))))
      (pss_cons (ps_asg (pe_tup (pa_cons (pe_call G_law_any hr1 rfl T.g_law_any T.k_law_any b_law_any .nil pass0 (pa_cons (pv 0) (pa_cons (pe_op op_add (pe_callB call_len_str (by rfl) T.n_len PySem.boot_len (pa_cons (pv 3) pa_nil)) pe_int) pa_nil))) (pa_cons (pe_call G_law_any hr1 rfl T.g_law_any T.k_law_any b_law_any .nil pass0 (pa_cons (pv 0) (pa_cons pe_int pa_nil))) (pa_cons (pe_call G_law_any hr1 rfl T.g_law_any T.k_law_any b_law_any .nil pass0 (pa_cons (pv 0) (pa_cons pe_int pa_nil))) (pa_cons (pe_lst pa_nil) pa_nil))))) (pg_tup (by rfl) (pgs_cons (pg_name (i := 4) scNames.nd rfl (Or.inl rfl)) (pgs_cons (pg_name (i := 5) scNames.nd rfl (Or.inl rfl)) (pgs_cons (pg_name (i := 6) scNames.nd rfl (Or.inl rfl)) (pgs_cons (pg_name (i := 7) scNames.nd rfl (Or.inl rfl)) pgs_nil))))))
      (pss_cons (ps_for PassesOwn.never rfl (pi_range1 (by rfl) T.n_range (pa_cons (pv 1) pa_nil)) (pg_name (i := 8) scNames.nd rfl (Or.inl rfl))
      (pss_cons (ps_set (i := 9) scNames.nd rfl (Or.inl rfl) (pe_join pe_str (pe_lc (own := [("turn", 10)]) (g := gName 10) (tt := tYes) (by rfl) scNames.nd (pi_range1 (by rfl) T.n_range (pa_cons (pv 6) pa_nil)) (blkOk_by (own := [("turn", 10)]) (N := ["deal", "many", "letters", "stem", "at", "first", "more", "found", "number", "tail", "turn"]) (sc := defScope sNames) (by decide +kernel)) (fun _ _ _ _ _ => pg_name (i := 10) scNames.nd rfl (Or.inl rfl)) (fun _ _ _ _ _ => pts_nil) (fun _ _ _ _ _ => (pe_call G_law_of hr2 rfl T.g_law_of T.k_law_of b_law_of .nil pass0 (pa_cons (pv 0) (pa_cons (pv 2) pa_nil)))))))
      (pss_one (ps_expr (pe_bm PySem.F.plainAttrs_list PySem.F.slot_list_append PySem.F.type_list_append mt_append (pv 7) (pa_cons (pe_op op_add_str (pe_op op_add_str (pe_op op_add_str (pe_slice sl_str (pv 3) po_none (po_some (pv 4))) (pe_ix ix_str (pv 2) (pe_op op_mod (pe_callTy call_int1 (by rfl) T.n_int (by decide +kernel) (pa_cons (pe_op op_add (pv 5) (pv 8)) pa_nil)) pe_int) (fun _ _ => rfl))) (pe_slice sl_str (pv 3) (po_some (pv 4)) po_none)) (pv 9)) pa_nil))))))
      (pss_one (ps_ret (pe_callB cr_sortedS (by rfl) T.n_sorted (by decide +kernel) (pa_cons (pv 7) pa_nil)))))))), ?_⟩
    have l26 : abc.length = 26 := by decide
    have c26 : abc.cps.toList.length = 26 := by decide +kernel
    -- the stem
    refine ⟨⟨_, rfl⟩, _, rfl, d, c, 6, rfl, D, by decide, by decide, fun r H1 r0 r1 D1 b1 => ⟨_, rfl, by omega, by omega, fun L hL => ?_⟩⟩
    obtain ⟨Ld, Lc⟩ := D1.ne hL
    have HL : H L = none := b1.none hL D1
    refine lc_range (lo := 0) (n := r.toNat) (fun i H4 => ∃ ys : List Str, H4 L = some (.lst (ys.map V.str)) ∧ ys.length = i ∧ (∀ y ∈ ys, From abc.cps.toList 1 y) ∧ DealAt H4 d c ∧ But d c H H4) ⟨[], upd_same, rfl, by simp, D1.new hL, b1.cell0 HL⟩ ?_ ?_
    · rintro i H4 hi ⟨ys, y1, y2, y3, D4, b4⟩
      refine ⟨rfl, _, rfl, _, rfl, d, c, D4, .inr ⟨_, rfl, by decide, by decide, fun ch H5 hc D5 b5 => ?_⟩⟩
      have y1' := b5 L _ y1 Ld Lc
      refine ⟨_, y1', small1000 (by rw [List.length_map]; omega), ys ++ [⟨#[ch]⟩], ?_, by simp [y2], ?_, D5.upd Ld Lc, (b4.trans b5).cell0 HL⟩
      · rw [upd_same]
        simp
      · intro y hy
        rcases List.mem_append.mp hy with hy | hy
        · exact y3 y hy
        · rw [List.mem_singleton] at hy
          subst hy
          refine ⟨rfl, fun c2 h2 => ?_⟩
          have e : c2 = ch := by simpa using h2
          rw [e]
          exact hc
    rintro H2 ⟨ys, y1, y2, y3, D2, b2⟩
    refine ⟨_, L, ys, rfl, rfl, .inl (SqL.of y1), by have := sum_from ys y3; omega, ?_⟩
    have st : From abc.cps.toList ys.length (Txt.join (Str.ofString "") ys) := by
      show From _ _ (Builtin.Str.glued (Str.ofString "") ys)
      rw [StrLaws.glued_eq_join]
      exact join_from ys y3
    have ls : ys.length ≤ 5 := by omega
    generalize Txt.join (Str.ofString "") ys = stem at st ⊢
    generalize ys.length = sl at st ls y2
    clear y1 y3 b1 D1 HL Ld Lc hL
    have sl2 := st.len
    -- at, first, more, found
    refine ⟨_, rfl, _, rfl, _, rfl, (by rw [sizeLine_eq]; omega), _, _, rfl, rfl, d, c, (stem.length : Int) + 1, rfl, D2, by omega, by omega, fun at0 H3 a0 a1 D3 b3 => ?_⟩
    refine ⟨_, rfl, d, c, 26, rfl, D3, by decide, by decide, fun fi H4 f0 f1 D4 b4 => ?_⟩
    refine ⟨_, rfl, d, c, 3, rfl, D4, by decide, by decide, fun mo H5 g0 g1 D5 b5 => ⟨Nat.zero_le _, fun Fd hFd => ⟨(by show 4 ≤ sizeLine; decide), fun tp htp => ?_⟩⟩⟩
    refine ⟨tp, _, rfl, SqT.of upd_same, rfl, _, _, rfl, _, _, rfl, _, _, rfl, _, _, rfl, rfl, ?_⟩
    have Ft : Fd ≠ tp := ne_of_none upd_same htp
    have b25 := ((b2.trans b3).trans b4).trans b5
    have Fn := D5.ne hFd
    have HF : H Fd = none := b25.none hFd D5
    have ft : H5 tp = none := by
      have z := htp
      rw [upd_ne (Ne.symm Ft)] at z
      exact z
    have D6 := (D5.new (o := .lst []) hFd).new (o := .tup [.int at0, .int fi, .int mo, .ref Fd]) htp
    have b6 : But d c H (upd (upd H5 Fd (.lst [])) tp (.tup [.int at0, .int fi, .int mo, .ref Fd])) := (b25.cell0 HF).cell0 (b25.none ft D5)
    have h6 : (upd (upd H5 Fd (.lst [])) tp (.tup [.int at0, .int fi, .int mo, .ref Fd])) Fd = some (.lst []) := by rw [upd_ne Ft, upd_same]
    generalize upd (upd H5 Fd (.lst [])) tp (.tup [.int at0, .int fi, .int mo, .ref Fd]) = H6 at D6 b6 h6 ⊢
    obtain ⟨ai, rfl⟩ := Int.eq_ofNat_of_zero_le a0
    refine ⟨_, rfl, _, rfl, by omega, by omega, ?_⟩
    refine for_range (lo := 0) (n := (many : Int).toNat) (fun i σ H7 => ∃ (ns : List Str) (x8 x9 x10 : Option V), σ = [some (.ref d), some (.int (many : Int)), some (.str abc), some (.str stem), some (.int (ai : Int)), some (.int fi), some (.int mo), some (.ref Fd), x8, x9, x10] ∧ H7 Fd = some (.lst (ns.map V.str)) ∧ ns.length = i ∧ (∀ x ∈ ns, nameD (.str x) = true) ∧ DealAt H7 d c ∧ But d c H H7)
      ⟨[], none, none, none, rfl, h6, rfl, by simp, D6, b6⟩ ?_ ?_
    · rintro i σ H7 hi ⟨ns, x8, x9, x10, rfl, h7, n7, o7, D7, b7⟩
      refine ⟨⟨_, rfl⟩, _, rfl, _, rfl, by omega, by omega, fun L2 hL2 => ?_⟩
      obtain ⟨Ld2, Lc2⟩ := D7.ne hL2
      have HL2 : H L2 = none := b7.none hL2 D7
      have FL : Fd ≠ L2 := ne_of_none h7 hL2
      refine lc_range (lo := 0) (n := mo.toNat) (fun i H4 => ∃ ys : List Str, H4 L2 = some (.lst (ys.map V.str)) ∧ ys.length = i ∧ (∀ y ∈ ys, From abc.cps.toList 1 y) ∧ H4 Fd = some (.lst (ns.map V.str)) ∧ DealAt H4 d c ∧ But d c H H4) ⟨[], upd_same, rfl, by simp, by rw [upd_ne FL]; exact h7, D7.new hL2, b7.cell0 HL2⟩ ?_ ?_
      · rintro i H4 hi ⟨ys, y1, y2, y3, y4, D4, b4⟩
        refine ⟨rfl, _, rfl, _, rfl, d, c, D4, .inr ⟨_, rfl, by decide, by decide, fun ch H5 hc D5 b5 => ?_⟩⟩
        have y1' := b5 L2 _ y1 Ld2 Lc2
        refine ⟨_, y1', small1000 (by rw [List.length_map]; omega), ys ++ [⟨#[ch]⟩], ?_, by simp [y2], ?_, by rw [upd_ne FL]; exact b5 Fd _ y4 Fn.1 Fn.2, D5.upd Ld2 Lc2, (b4.trans b5).cell0 HL2⟩
        · rw [upd_same]
          simp
        · intro y hy
          rcases List.mem_append.mp hy with hy | hy
          · exact y3 y hy
          · rw [List.mem_singleton] at hy
            subst hy
            refine ⟨rfl, fun c2 h2 => ?_⟩
            have e : c2 = ch := by simpa using h2
            rw [e]
            exact hc
      · rintro H8 ⟨ys, y1, y2, y3, y4, D8, b8⟩
        refine ⟨_, L2, ys, rfl, rfl, .inl (SqL.of y1), by have := sum_from ys y3; omega, ?_⟩
        have tl : From abc.cps.toList ys.length (Txt.join (Str.ofString "") ys) := by
          show From _ _ (Builtin.Str.glued (Str.ofString "") ys)
          rw [StrLaws.glued_eq_join]
          exact join_from ys y3
        have lt : ys.length ≤ 2 := by omega
        generalize Txt.join (Str.ofString "") ys = tail at tl ⊢
        generalize ys.length = tn at tl lt y2
        have hai : ai ≤ sl := by omega
        obtain ⟨c1, c2⟩ := cut_from st hai
        have mm : ∃ jj : Nat, (fi + (0 + (i : Int))) % 26 = (jj : Int) ∧ jj < 26 := by
          obtain ⟨jj, e⟩ := Int.eq_ofNat_of_zero_le (Int.emod_nonneg (fi + (0 + (i : Int))) (by decide : (26 : Int) ≠ 0))
          have := Int.emod_lt_of_pos (fi + (0 + (i : Int))) (by decide : (0 : Int) < 26)
          exact ⟨jj, e, by omega⟩
        obtain ⟨jj, ej, lj⟩ := mm
        have hj : abc.cps.toList[jj]? = some abc.cps.toList[jj] := List.getElem?_eq_getElem (by omega)
        have mj : abc.cps.toList[jj] ∈ abc.cps.toList := List.getElem_mem (by omega)
        generalize abc.cps.toList[jj]'(by omega) = ch at hj mj
        have one : From abc.cps.toList 1 (⟨#[ch]⟩ : Str) := ⟨rfl, fun c2 h2 => by
          have e : c2 = ch := by simpa using h2
          rw [e]
          exact mj⟩
        have w1 := c1.app one
        have w2 := w1.app c2
        have w3 := w2.app tl
        refine ⟨_, rfl, .inl ⟨rfl, _, SqL.of y4⟩, _, rfl, _, rfl, _, rfl, stem, rfl, (by rw [sizeLine_eq]; omega), ?_⟩
        refine ⟨_, rfl, _, rfl, _, rfl, _, _, rfl, rfl, .inl ⟨_, rfl, _, _, rfl, rfl, (by show (0 : Int) < 26; decide), ?_⟩⟩
        refine ⟨_, _, ch, rfl, rfl, (by rw [sizeLine_eq, l26]; omega), (show atI abc.cps.toList ((fi + (0 + (i : Int))) % 26) = some ch by rw [ej]; exact atI_nat hj), ?_⟩
        refine ⟨_, _, rfl, rfl, (by rw [sizeLine_eq, c1.len, one.len]; omega), ?_⟩
        refine ⟨_, rfl, _, rfl, _, rfl, stem, rfl, (by rw [sizeLine_eq]; omega), _, _, rfl, rfl, (by rw [sizeLine_eq, w1.len, c2.len]; omega), ?_⟩
        refine ⟨_, rfl, _, _, rfl, rfl, (by rw [sizeLine_eq, w2.len, tl.len]; omega), ?_⟩
        refine ⟨_, _, _, rfl, rfl, y4, small1000 (by rw [List.length_map]; omega), ns ++ [cutS stem none (some (ai : Int)) ++ (⟨#[ch]⟩ : Str) ++ cutS stem (some (ai : Int)) none ++ tail], some (.int (0 + (i : Int))), some (.str tail), x10, rfl, ?_, by simp [n7], ?_, D8.upd Fn.1 Fn.2, b8.cell0 HF⟩
        · rw [upd_same, List.map_append]
          rfl
        · intro x hx
          rcases List.mem_append.mp hx with hx | hx
          · exact o7 x hx
          · rw [List.mem_singleton] at hx
            rw [hx]
            exact w3.name (by omega) (by omega)
    · rintro σ H7 ⟨ns, x8, x9, x10, rfl, h7, n7, o7, D7, b7⟩
      have nm : ns.length = many := by omega
      refine ⟨_, rfl, Fd, ns, rfl, SqL.of h7, by omega, fun zs p pm _ hp => ?_⟩
      exact k p zs _ upd_same (b7.none hp D7) (by rw [pm.length_eq, nm]) (fun x hx => o7 x (pm.mem_iff.mp hx)) (D7.new hp) (b7.cell0 (b7.none hp D7))
end
end K1

/-! pairs, numbers -/
namespace K1
open PySem L2 Xr
def pairD : PyData → Bool
  | .tuple [d0, d1] => nameD d0 && isTup d1
  | _ => false
def numD : PyData → Bool
  | .int i => decide (0 ≤ i)
  | _ => false
def spPair (K : PySem.W.Frag) : Sp := fun vs H Q _ => ∃ (v : V) (d : PyData) (N : Addr → Prop), vs = [v] ∧ Dm K N H v d ∧ (∀ z d1, d = .tuple [.str z, d1] → z.length ≤ 900000) ∧ ∀ H', Same H H' → Q (.bl (pairD d)) H'
def spNum (K : PySem.W.Frag) : Sp := fun vs H Q _ => ∃ (v : V) (d : PyData) (N : Addr → Prop), vs = [v] ∧ Dm K N H v d ∧ Q (.bl (numD d)) H
structure PairTxt (K : PySem.W.Frag) (mg : Str → Option Value) (a_is_name : Addr) : Prop where
  n_isinstance : mg "isinstance" = none
  n_tuple : mg "tuple" = none
  n_int : mg "int" = none
  n_bool : mg "bool" = none
  n_len : mg "len" = none
section
variable {P : Program} {w : World} {K : PySem.W.Frag} {mg : Str → Option Value} {base : Heap} {a_is_name : Addr} {fdN : FuncData}
end
end K1

/-! how great data is; displays of data -/
namespace K1
open PySem L2 Xr
mutual
def wt : PyData → Nat
  | .str z => 1 + z.length
  | .list ds => 1 + wtAll ds
  | .tuple ds => 1 + wtAll ds
  | _ => 1
def wtAll : List PyData → Nat
  | [] => 0
  | d :: ds => wt d + wtAll ds
end
theorem wt_pos (d : PyData) : 1 ≤ wt d := by cases d <;> unfold wt <;> omega
theorem wtAll_app : ∀ xs ys : List PyData, wtAll (xs ++ ys) = wtAll xs + wtAll ys
  | [], ys => by show wtAll ys = 0 + wtAll ys; omega
  | x :: xs, ys => by
    show wt x + wtAll (xs ++ ys) = wt x + wtAll xs + wtAll ys
    rw [wtAll_app xs ys]
    omega
theorem wtAll_len : ∀ xs : List PyData, xs.length ≤ wtAll xs
  | [] => Nat.le_refl _
  | x :: xs => by
    show xs.length + 1 ≤ wt x + wtAll xs
    have := wt_pos x
    have := wtAll_len xs
    omega
theorem wtAll_rev : ∀ xs : List PyData, wtAll xs.reverse = wtAll xs
  | [] => rfl
  | x :: xs => by
    rw [List.reverse_cons, wtAll_app, wtAll_rev xs]
    show wtAll xs + (wt x + 0) = wt x + wtAll xs
    omega
theorem wt_mem : ∀ {xs : List PyData} {d : PyData}, d ∈ xs → wt d ≤ wtAll xs
  | x :: xs, d, h => by
    show wt d ≤ wt x + wtAll xs
    rcases List.mem_cons.mp h with e | h
    · rw [e]
      omega
    · have := wt_mem h
      omega
theorem wt_split (xs : List PyData) (i : Nat) : wtAll xs = wtAll (xs.take i) + wtAll (xs.drop i) := by rw [← wtAll_app, List.take_append_drop]
theorem canLayAll_iff : ∀ xs : List PyData, PyData.canLayAll0 xs = true ↔ ∀ x ∈ xs, x.canLay0 = true
  | [] => ⟨fun _ x h => by simp at h, fun _ => rfl⟩
  | x :: xs => by
    have e : PyData.canLayAll0 (x :: xs) = (PyData.canLay0 x && PyData.canLayAll0 xs) := by
      conv => lhs; unfold PyData.canLayAll0
    rw [e, Bool.and_eq_true, canLayAll_iff xs]
    simp
theorem depthAll_le {m : Nat} : ∀ xs : List PyData, PyData.depthAll xs ≤ m ↔ ∀ x ∈ xs, x.depth ≤ m
  | [] => ⟨fun _ x h => by simp at h, fun _ => by unfold PyData.depthAll; exact Nat.zero_le _⟩
  | x :: xs => by
    have e : PyData.depthAll (x :: xs) = max x.depth (PyData.depthAll xs) := by
      conv => lhs; unfold PyData.depthAll
    rw [e, Nat.max_le, depthAll_le xs]
    simp
/-- data of a bounded kind: no dicts, right signs, at most m deep -/
structure Vd (m : Nat) (d : PyData) : Prop where
  lay : d.canLay0 = true
  dep : d.depth ≤ m
theorem Vd.mono {m m' : Nat} {d : PyData} (h : Vd m d) (l : m ≤ m') : Vd m' d := ⟨h.lay, Nat.le_trans h.dep l⟩
theorem vd_tup {m : Nat} {ds : List PyData} (h : ∀ x ∈ ds, Vd m x) : Vd (m + 1) (.tuple ds) := by
  refine ⟨?_, ?_⟩
  · unfold PyData.canLay0
    exact (canLayAll_iff ds).mpr fun x hx => (h x hx).lay
  · unfold PyData.depth
    have := (depthAll_le ds).mpr fun x hx => (h x hx).dep
    omega
theorem vd_lst {m : Nat} {ds : List PyData} (h : ∀ x ∈ ds, Vd m x) : Vd (m + 1) (.list ds) := by
  refine ⟨?_, ?_⟩
  · unfold PyData.canLay0
    exact (canLayAll_iff ds).mpr fun x hx => (h x hx).lay
  · unfold PyData.depth
    have := (depthAll_le ds).mpr fun x hx => (h x hx).dep
    omega
theorem Vd.tup {m : Nat} {ds : List PyData} (h : Vd m (.tuple ds)) : 0 < m ∧ ∀ x ∈ ds, Vd (m - 1) x := by
  obtain ⟨a, b⟩ := h
  unfold PyData.canLay0 at a
  unfold PyData.depth at b
  have a' := (canLayAll_iff ds).mp a
  have b' := (depthAll_le (m := m - 1) ds).mp (by omega)
  exact ⟨by omega, fun x hx => ⟨a' x hx, b' x hx⟩⟩
theorem Vd.shaped {m : Nat} {d : PyData} (h : Vd m d) (l : m ≤ 64) : SeqAt.shaped d = true := by
  unfold SeqAt.shaped
  rw [h.lay, decide_eq_true (Nat.le_trans h.dep l)]
  rfl
theorem vd_none : Vd 0 .none := ⟨rfl, by unfold PyData.depth; exact Nat.le_refl _⟩
theorem vd_bool (b : Bool) : Vd 0 (.bool b) := ⟨rfl, by unfold PyData.depth; exact Nat.le_refl _⟩
theorem vd_int (i : Int) : Vd 0 (.int i) := ⟨rfl, by unfold PyData.depth; exact Nat.le_refl _⟩
/-- right signs -/
def Sg (z : Str) : Prop := ∀ c ∈ z.cps.toList, c < 1114112
theorem vd_str {z : Str} (h : Sg z) : Vd 0 (.str z) := by
  refine ⟨?_, by unfold PyData.depth; exact Nat.le_refl _⟩
  unfold PyData.canLay0
  show (z.cps.all fun x => decide (x < 0x110000)) = true
  rw [Array.all_eq_true']
  intro ch hc
  have := h ch (by simpa using hc)
  simp
  omega
theorem Vd.sg {m : Nat} {z : Str} (h : Vd m (.str z)) : Sg z := by
  have a := h.lay
  unfold PyData.canLay0 at a
  have a : (z.cps.all fun x => decide (x < 0x110000)) = true := a
  rw [Array.all_eq_true'] at a
  intro c hc
  have := a c (by simpa using hc)
  simp at this
  omega
theorem Sg.app {a b : Str} (h : Sg a) (g : Sg b) : Sg (a ++ b) := fun c hc => by
  rw [cps_app] at hc
  exact (List.mem_append.mp hc).elim (h c) (g c)
/-! displays of data: what they give, by the data in the def's names -/
abbrev DEnv := Nat → PyData
def SEnv (K : PySem.W.Frag) (N : Addr → Prop) (L : List Nat) (σ : L2.St) (H : Hp) (D : DEnv) : Prop := ∀ i ∈ L, ∃ v, σ[i]? = some (some v) ∧ Dm K N H v (D i)
theorem SEnv.up {K : PySem.W.Frag} {N : Addr → Prop} {L : List Nat} {σ : L2.St} {H H' : Hp} {D : DEnv} (h : SEnv K N L σ H D) (s : Bt N H H') : SEnv K N L σ H' D := fun i hi => by
  obtain ⟨v, a, b⟩ := h i hi
  exact ⟨v, a, b.up s⟩
theorem trk_up {N : Addr → Prop} {H H' : Hp} (h : ∀ a, N a → Trk H a) (s : Same H H') : ∀ a, N a → Trk H' a := fun a n => (h a n).same s
def rD (K : PySem.W.Frag) (L : List Nat) (C : DEnv → Prop) (g : DEnv → PyData) : TE := fun σ H Q => ∃ (N : Addr → Prop) (D : DEnv), (∀ a, N a → Trk H a) ∧ SEnv K N L σ H D ∧ C D ∧ ∀ v H', Dm K N H' v (g D) → Same H H' → Q v H'
def rDs (K : PySem.W.Frag) (L : List Nat) (C : DEnv → Prop) (g : DEnv → List PyData) : TA := fun σ H Q => ∃ (N : Addr → Prop) (D : DEnv), (∀ a, N a → Trk H a) ∧ SEnv K N L σ H D ∧ C D ∧ ∀ vs H', DmAll K N H' vs (g D) → Same H H' → Q vs H'
def asT : PyData → List PyData
  | .tuple ds => ds
  | _ => []
def asL : PyData → List PyData
  | .list ds => ds
  | _ => []
def asS : PyData → Str
  | .str z => z
  | _ => Str.ofString ""
def isLst : PyData → Bool
  | .list _ => true
  | _ => false
theorem tup_eq {d : PyData} (h : isTup d = true) : d = .tuple (asT d) := by
  cases d <;> first | rfl | cases h
theorem lst_eq {d : PyData} (h : isLst d = true) : d = .list (asL d) := by
  cases d <;> first | rfl | cases h
theorem str_eq {d : PyData} (h : isStr d = true) : d = .str (asS d) := by
  cases d <;> first | rfl | cases h
abbrev yes : DEnv → Prop := fun _ => True
section
variable {X : Cx} {L : List Nat} {C C' : DEnv → Prop} {g g' : DEnv → PyData} {gs : DEnv → List PyData} {e e' : Expr} {es : List Expr} {pos : Pos}
theorem pd_var {i : Nat} (hp : PE X e (tVar i)) (hm : i ∈ L) : PE X e (rD X.K L yes fun D => D i) := by
  refine ⟨fun pins s σ H Q I h => hp.run pins s σ H Q I ?_⟩
  obtain ⟨N, D, hN, hs, _, k⟩ := h
  obtain ⟨v, a, b⟩ := hs i hm
  exact ⟨v, a, k v H b (Same.refl H)⟩
theorem pd_of {te : TE} {v : V} {d : PyData} (hp : PE X e te) (h : ∀ (σ : L2.St) (H : Hp) (Q : VK), Q v H → te σ H Q) (hd : ∀ (N : Addr → Prop) (H : Hp), Dm X.K N H v d) : PE X e (rD X.K L yes fun _ => d) := by
  refine ⟨fun pins s σ H Q I h2 => hp.run pins s σ H Q I ?_⟩
  obtain ⟨N, D, hN, hs, _, k⟩ := h2
  exact h σ H Q (k v H (hd N H) (Same.refl H))
theorem pds_nil : PA X [] (rDs X.K L yes fun _ => []) := by
  refine ⟨fun pos pins s σ H Q I h => pa_nil.run pos pins s σ H Q I ?_⟩
  obtain ⟨N, D, hN, hs, _, k⟩ := h
  exact k [] H .nil (Same.refl H)
theorem pds_cons (he : PE X e (rD X.K L C g)) (ha : PA X es (rDs X.K L C' gs)) (hs : starEach (e :: es) X.env = (false, eval e X.env) :: starEach es X.env := by rfl) : PA X (e :: es) (rDs X.K L (fun D => C D ∧ C' D) fun D => g D :: gs D) := by
  refine ⟨fun pos pins s σ H Q I h => (pa_cons he ha hs).run pos pins s σ H Q I ?_⟩
  obtain ⟨N, D, hN, hs, ⟨c1, c2⟩, k⟩ := h
  exact ⟨N, D, hN, hs, c1, fun v H1 dv s1 => ⟨N, D, trk_up hN s1, hs.up (Bt.same s1), c2, fun vs H2 dvs s2 => k (v :: vs) H2 (.cons (dv.up (Bt.same s2)) dvs) (s1.trans s2)⟩⟩
theorem pd_tup {x1} (ha : PA X es (rDs X.K L C gs)) (hl : ∀ D, C D → (gs D).length ≤ sizeLine) : PE X (.Tuple es x1 pos) (rD X.K L C fun D => .tuple (gs D)) := by
  refine ⟨fun pins s σ H Q I h => (pe_tup ha).run pins s σ H Q I ?_⟩
  obtain ⟨N, D, hN, hs, hc, k⟩ := h
  refine ⟨N, D, hN, hs, hc, fun vs H1 dm s1 => ⟨by rw [dm.len]; exact hl D hc, fun p hp => ?_⟩⟩
  exact k _ _ (.tup upd_same (not_new hN s1 hp) (dm.up (Bt.refl.new hp))) (s1.new hp)
theorem pd_lst (ha : PA X es (rDs X.K L C gs)) (hl : ∀ D, C D → (gs D).length ≤ sizeLine) : PE X (.List es pos) (rD X.K L C fun D => .list (gs D)) := by
  refine ⟨fun pins s σ H Q I h => (pe_lst ha).run pins s σ H Q I ?_⟩
  obtain ⟨N, D, hN, hs, hc, k⟩ := h
  refine ⟨N, D, hN, hs, hc, fun vs H1 dm s1 => ⟨by rw [dm.len]; exact hl D hc, fun p hp => ?_⟩⟩
  exact k _ _ (.lst upd_same (not_new hN s1 hp) (dm.up (Bt.refl.new hp))) (s1.new hp)
/-- a + b, lists -/
theorem pd_catL (ha : PE X e (rD X.K L C g)) (hb : PE X e' (rD X.K L C' g')) : PE X (.BinOp e .Add e' pos) (rD X.K L (fun D => (C D ∧ C' D) ∧ isLst (g D) = true ∧ isLst (g' D) = true ∧ (asL (g D)).length + (asL (g' D)).length ≤ 100000) fun D => .list (asL (g D) ++ asL (g' D))) := by
  refine ⟨fun pins s σ H Q I h => (pe_op op_cat ha hb).run pins s σ H Q I ?_⟩
  obtain ⟨N, D, hN, hs, ⟨⟨c1, c2⟩, i1, i2, hl⟩, k⟩ := h
  refine ⟨N, D, hN, hs, c1, fun v H1 dv s1 => ⟨N, D, trk_up hN s1, hs.up (Bt.same s1), c2, fun u H2 du s2 => ?_⟩⟩
  have dv2 := dv.up (Bt.same s2)
  rw [lst_eq i1] at dv2
  rw [lst_eq i2] at du
  cases dv2 with
  | lst h1 n1 a1 =>
    cases du with
    | lst h2 n2 a2 =>
      have l1 := a1.len
      have l2 := a2.len
      refine ⟨_, _, _, _, rfl, rfl, h1, h2, by rw [sizeLine_eq, l1, l2]; exact Nat.le_trans hl (by decide), fun p hp => ?_⟩
      have s3 := s1.trans s2
      exact k _ _ (.lst upd_same (not_new hN s3 hp) ((a1.up (Bt.refl.new hp)).app (a2.up (Bt.refl.new hp)))) (s3.new hp)
def cutP (ds : List PyData) (lo hi : Option Int) : List PyData := (ds.drop (HT.sIx ds.length 0 lo)).take (HT.sIx ds.length ds.length hi - HT.sIx ds.length 0 lo)
def rSlD (K : PySem.W.Frag) : V → Option Int → Option Int → Hp → VK → Prop := fun x lo hi H Q => ∃ (N : Addr → Prop) (ds : List PyData), Dm K N H x (.tuple ds) ∧ (∀ a, N a → Trk H a) ∧ ∀ u H', Dm K N H' u (.tuple (cutP ds lo hi)) → Same H H' → Q u H'
theorem sl_dm : SlR X (rSlD X.K) := by
  intro pins s σ H x v vl vu lo hi sl Q I rx hs pl pu h
  obtain ⟨N, ds, hx, hN, k⟩ := h
  obtain ⟨a, xs, rfl, ta, al⟩ := hx.seq
  have lx := al.len
  refine sl_tupA pins s σ H _ v vl vu lo hi sl Q I rx hs pl pu ⟨a, xs, rfl, ta.sq, fun hw => ?_, fun hw p hp => ?_⟩
  · rw [lx] at hw
    refine k _ _ ?_ (Same.refl H)
    have e : cutP ds lo hi = ds := by
      unfold cutP
      rw [hw.1, hw.2, List.drop_zero, Nat.sub_zero, List.take_length]
    rw [e]
    exact hx
  · refine k _ _ (.tup upd_same (not_new hN (Same.refl H) hp) ?_) ((Same.refl H).new hp)
    have e : cutV xs lo hi = (xs.drop (HT.sIx ds.length 0 lo)).take (HT.sIx ds.length ds.length hi - HT.sIx ds.length 0 lo) := by
      unfold cutV
      rw [lx]
    rw [e]
    exact ((al.drop _).take _).up (Bt.refl.new hp)
def rCatD (K : PySem.W.Frag) : R2 := fun x y H Q => ∃ (N : Addr → Prop) (ds es : List PyData), Dm K N H x (.tuple ds) ∧ Dm K N H y (.tuple es) ∧ (∀ a, N a → Trk H a) ∧ ds.length + es.length ≤ sizeLine ∧ ∀ u H', Dm K N H' u (.tuple (ds ++ es)) → Same H H' → Q u H'
theorem op_catD : OpR X (binaryOp .Add) (rCatD X.K) := by
  intro pins s σ H x y v u Q I rx ry h
  obtain ⟨N, ds, es, hx, hy, hN, hz, k⟩ := h
  obtain ⟨a, xs, rfl, ta, al⟩ := hx.seq
  obtain ⟨b, ys, rfl, tb, bl⟩ := hy.seq
  have lx := al.len
  have ly := bl.len
  refine op_catA pins s σ H _ _ v u Q I rx ry ⟨a, b, xs, ys, rfl, rfl, ta.sq, tb.sq, by omega, fun hx0 => ?_, fun _ hy0 => ?_, fun _ _ p hp => ?_⟩
  · subst hx0
    cases al
    exact k _ _ hy (Same.refl H)
  · subst hy0
    cases bl
    refine k _ _ ?_ (Same.refl H)
    rw [List.append_nil]
    exact hx
  · exact k _ _ (.tup upd_same (not_new hN (Same.refl H) hp) ((al.up (Bt.refl.new hp)).app (bl.up (Bt.refl.new hp)))) ((Same.refl H).new hp)
/-- a + b, tuples -/
theorem pd_catT (ha : PE X e (rD X.K L C g)) (hb : PE X e' (rD X.K L C' g')) : PE X (.BinOp e .Add e' pos) (rD X.K L (fun D => (C D ∧ C' D) ∧ isTup (g D) = true ∧ isTup (g' D) = true ∧ (asT (g D)).length + (asT (g' D)).length ≤ 100000) fun D => .tuple (asT (g D) ++ asT (g' D))) := by
  refine ⟨fun pins s σ H Q I h => (pe_op op_catD ha hb).run pins s σ H Q I ?_⟩
  obtain ⟨N, D, hN, hs, ⟨⟨c1, c2⟩, i1, i2, hl⟩, k⟩ := h
  refine ⟨N, D, hN, hs, c1, fun v H1 dv s1 => ⟨N, D, trk_up hN s1, hs.up (Bt.same s1), c2, fun u H2 du s2 => ?_⟩⟩
  have dv2 := dv.up (Bt.same s2)
  rw [tup_eq i1] at dv2
  rw [tup_eq i2] at du
  exact ⟨N, _, _, dv2, du, trk_up hN (s1.trans s2), Nat.le_trans hl (by decide), fun w H3 dw s3 => k w H3 dw ((s1.trans s2).trans s3)⟩
/-- a[lo:hi], a tuple, with bounds that are written -/
theorem pd_cutT {lo hi : Option Expr} {tl th : TO} {l u : Option Int} {p2 : Pos} (ha : PE X e (rD X.K L C g)) (hl : PO X lo tl) (hh : PO X hi th) (h1 : ∀ (σ : L2.St) (H : Hp) (Q : Option Int → Hp → Prop), Q l H → tl σ H Q) (h2 : ∀ (σ : L2.St) (H : Hp) (Q : Option Int → Hp → Prop), Q u H → th σ H Q) :
    PE X (.Subscript e (.Slice lo hi none p2) pos) (rD X.K L (fun D => C D ∧ isTup (g D) = true) fun D => .tuple (cutP (asT (g D)) l u)) := by
  refine ⟨fun pins s σ H Q I h => (pe_slice sl_dm ha hl hh).run pins s σ H Q I ?_⟩
  obtain ⟨N, D, hN, hs, ⟨c1, i1⟩, k⟩ := h
  refine ⟨N, D, hN, hs, c1, fun v H1 dv s1 => h1 _ _ _ (h2 _ _ _ ?_)⟩
  rw [tup_eq i1] at dv
  exact ⟨N, _, dv, trk_up hN s1, fun w H3 dw s3 => k w H3 dw (s1.trans s3)⟩
/-- a[::-1], a tuple -/
theorem pd_revT {k0 : Nat} {p1 p2 p3 : Pos} (ha : PE X e (rD X.K L C g)) : PE X (.Subscript e (.Slice none none (some (.UnaryOp .USub (.Constant (.int 1) k0 p1) p2)) p3) pos) (rD X.K L (fun D => C D ∧ isTup (g D) = true) fun D => .tuple (asT (g D)).reverse) := by
  refine ⟨fun pins s σ H Q I h => (pe_revT ha).run pins s σ H Q I ?_⟩
  obtain ⟨N, D, hN, hs, ⟨c1, i1⟩, k⟩ := h
  refine ⟨N, D, hN, hs, c1, fun v H1 dv s1 => ?_⟩
  rw [tup_eq i1] at dv
  obtain ⟨a, xs, rfl, ta, al⟩ := dv.seq
  exact ⟨a, xs, rfl, ta.sq, fun p hp => k _ _ (.tup upd_same (not_new hN s1 hp) (al.rev.up (Bt.refl.new hp))) (s1.new hp)⟩
/-- list(a), a tuple -/
theorem pd_listT {p : Pos} (ha : PE X e (rD X.K L C g)) (hg : Gl X "list") (hm : X.mg "list" = none) (he : starEach [e] X.env = (false, eval e X.env) :: starEach [] X.env := by rfl) : PE X (.Call (.Name "list" p) [e] [] pos) (rD X.K L (fun D => C D ∧ isTup (g D) = true) fun D => .list (asT (g D))) := by
  refine ⟨fun pins s σ H Q I h => (pe_callTy call_list_of hg hm (by decide +kernel) (pa_cons ha pa_nil he) (by decide) (by decide) he rfl).run pins s σ H Q I ?_⟩
  obtain ⟨N, D, hN, hs, ⟨c1, i1⟩, k⟩ := h
  refine ⟨N, D, hN, hs, c1, fun v H1 dv s1 => ?_⟩
  rw [tup_eq i1] at dv
  obtain ⟨a, xs, rfl, ta, al⟩ := dv.seq
  exact ⟨a, xs, rfl, .inr ta.sq, fun p hp => k _ _ (.lst upd_same (not_new hN s1 hp) (al.up (Bt.refl.new hp))) (s1.new hp)⟩
/-- a + b, texts -/
theorem pd_addS (ha : PE X e (rD X.K L C g)) (hb : PE X e' (rD X.K L C' g')) : PE X (.BinOp e .Add e' pos) (rD X.K L (fun D => (C D ∧ C' D) ∧ isStr (g D) = true ∧ isStr (g' D) = true ∧ (asS (g D)).length + (asS (g' D)).length ≤ 1000000) fun D => .str (asS (g D) ++ asS (g' D))) := by
  refine ⟨fun pins s σ H Q I h => (pe_op op_add_str ha hb).run pins s σ H Q I ?_⟩
  obtain ⟨N, D, hN, hs, ⟨⟨c1, c2⟩, i1, i2, hl⟩, k⟩ := h
  refine ⟨N, D, hN, hs, c1, fun v H1 dv s1 => ⟨N, D, trk_up hN s1, hs.up (Bt.same s1), c2, fun u H2 du s2 => ?_⟩⟩
  rw [str_eq i1] at dv
  rw [str_eq i2] at du
  exact ⟨_, _, dv.strV, du.strV, Nat.le_trans hl (by decide), k _ _ (.str _) (s1.trans s2)⟩
/-- a[lo:hi], a text, with bounds that are written -/
theorem pd_cutS {lo hi : Option Expr} {tl th : TO} {l u : Option Int} {p2 : Pos} (ha : PE X e (rD X.K L C g)) (hl : PO X lo tl) (hh : PO X hi th) (h1 : ∀ (σ : L2.St) (H : Hp) (Q : Option Int → Hp → Prop), Q l H → tl σ H Q) (h2 : ∀ (σ : L2.St) (H : Hp) (Q : Option Int → Hp → Prop), Q u H → th σ H Q) :
    PE X (.Subscript e (.Slice lo hi none p2) pos) (rD X.K L (fun D => C D ∧ isStr (g D) = true ∧ (asS (g D)).length ≤ 1000000) fun D => .str (cutS (asS (g D)) l u)) := by
  refine ⟨fun pins s σ H Q I h => (pe_slice sl_str ha hl hh).run pins s σ H Q I ?_⟩
  obtain ⟨N, D, hN, hs, ⟨c1, i1, hz⟩, k⟩ := h
  refine ⟨N, D, hN, hs, c1, fun v H1 dv s1 => h1 _ _ _ (h2 _ _ _ ?_)⟩
  rw [str_eq i1] at dv
  exact ⟨_, dv.strV, Nat.le_trans hz (by decide), k _ _ (.str _) s1⟩
end
end K1

/-! what moves while the deal goes on -/
namespace K1
open PySem L2 Xr
def N0 (d c : Addr) : Addr → Prop := fun a => a = d ∨ a = c
theorem But.bt {d c : Addr} {H H' : Hp} (b : But d c H H') : Bt (N0 d c) H H' := fun a o n e => b a o e (fun z => n (.inl z)) (fun z => n (.inr z))
/-- the deal went on, all else stands -/
structure Mv (d c : Addr) (H H' : Hp) : Prop where
  D : DealAt H' d c
  b : But d c H H'
theorem DealAt.same {d c : Addr} {H H' : Hp} (D : DealAt H d c) (s : Same H H') : DealAt H' d c := by
  obtain ⟨cs, b, h1, h2, r⟩ := D.ex
  exact ⟨cs, b, s _ _ h1, s _ _ h2, r⟩
theorem Mv.refl {d c : Addr} {H : Hp} (D : DealAt H d c) : Mv d c H H := ⟨D, But.refl⟩
theorem Mv.trans {d c : Addr} {H H1 H2 : Hp} (a : Mv d c H H1) (b : Mv d c H1 H2) : Mv d c H H2 := ⟨b.D, a.b.trans b.b⟩
theorem But.same {d c : Addr} {H H1 H2 : Hp} (a : But d c H H1) (s : Same H1 H2) : But d c H H2 := fun q o e n m => s q o (a q o e n m)
theorem Mv.same {d c : Addr} {H H1 H2 : Hp} (a : Mv d c H H1) (s : Same H1 H2) : Mv d c H H2 := ⟨a.D.same s, a.b.same s⟩
theorem Mv.new {d c l : Addr} {H H1 : Hp} {o : HO} (a : Mv d c H H1) (hl : H1 l = none) : Mv d c H (upd H1 l o) := a.same ((Same.refl H1).new hl)
theorem Mv.trk {d c : Addr} {H H1 : Hp} (a : Mv d c H H1) : ∀ x, N0 d c x → Trk H1 x := fun x hx => by
  obtain ⟨t1, t2⟩ := a.D.trk
  rcases hx with e | e
  · rw [e]; exact t1
  · rw [e]; exact t2
section
variable {K : PySem.W.Frag} {d c : Addr} {H H1 : Hp}
theorem Dm.mv {v : V} {x : PyData} (h : Dm K (N0 d c) H v x) (m : Mv d c H H1) : Dm K (N0 d c) H1 v x := h.up m.b.bt
theorem SEnv.mv {L : List Nat} {σ : L2.St} {D : DEnv} (h : SEnv K (N0 d c) L σ H D) (m : Mv d c H H1) : SEnv K (N0 d c) L σ H1 D := h.up m.b.bt
theorem of_data {v : V} {ds : List PyData} {Q : VK} {E : XK} (D : DealAt H d c) (h : Dm K (N0 d c) H v (.list ds)) (h0 : 0 < ds.length) (h1 : ds.length < 1000000)
    (k : ∀ (v' : V) (x : PyData) (H' : Hp), x ∈ ds → Dm K (N0 d c) H' v' x → Mv d c H H' → Q v' H') : spOf [.ref d, v] H Q E := by
  cases h with
  | @lst a xs _ e n al =>
    have l := al.len
    refine ⟨d, c, D, .inl ⟨a, xs, rfl, e, fun z => n (.inl z), fun z => n (.inr z), by omega, by omega, fun v' H' hv D' b' => ?_⟩⟩
    obtain ⟨i, hi⟩ := List.getElem?_of_mem hv
    obtain ⟨x, hx, dx⟩ := al.getV hi
    exact k v' x H' (List.mem_of_getElem? hx) (dx.mv ⟨D', b'⟩) ⟨D', b'⟩
end
end K1

/-! data of drawn documents -/
namespace K1
open PySem L2 Xr
theorem sg_of {g z : Str} (h : hasOnly z g = true) (hg : (g.cps.toList.all fun c => decide (c < 1114112)) = true) : Sg z := fun c hc => by
  unfold hasOnly at h
  have h1 := of_decide_eq_true (List.all_eq_true.mp h c hc)
  exact of_decide_eq_true (List.all_eq_true.mp hg c h1)
theorem name_facts {z : Str} (h : nameD (.str z) = true) : Sg z ∧ z.length ≤ 8 := by
  have e : nameD (.str z) = (decide (z.length ≠ 0) && (decide (z.length ≤ 8) && hasOnly z abc)) := rfl
  rw [e, Bool.and_eq_true, Bool.and_eq_true] at h
  exact ⟨sg_of h.2.2 (by decide +kernel), of_decide_eq_true h.2.1⟩
theorem text_facts {z : Str} (h : textD (.str z) = true) : Sg z ∧ z.length ≤ 16 := by
  have e : textD (.str z) = (decide (z.length ≤ 16) && hasOnly z abc9) := rfl
  rw [e, Bool.and_eq_true] at h
  exact ⟨sg_of h.2 (by decide +kernel), of_decide_eq_true h.1⟩
mutual
def Doc.cnt : Doc → Nat
  | .txt _ => 1
  | .nod _ ts => 1 + cntD ts
def cntD : List Doc → Nat
  | [] => 0
  | t :: ts => t.cnt + cntD ts
end
mutual
def Doc.hgt : Doc → Nat
  | .txt _ => 0
  | .nod _ ts => 1 + hgtD ts
def hgtD : List Doc → Nat
  | [] => 0
  | t :: ts => max t.hgt (hgtD ts)
end
mutual
def Doc.ok : Doc → Prop
  | .txt z => textD (.str z) = true
  | .nod x ts => nameD (.str x) = true ∧ okD ts
def okD : List Doc → Prop
  | [] => True
  | t :: ts => t.ok ∧ okD ts
end
theorem cntD_app : ∀ ts us : List Doc, cntD (ts ++ us) = cntD ts + cntD us
  | [], us => by show cntD us = 0 + cntD us; omega
  | t :: ts, us => by
    show t.cnt + cntD (ts ++ us) = t.cnt + cntD ts + cntD us
    rw [cntD_app ts us]
    omega
theorem hgtD_app : ∀ ts us : List Doc, hgtD (ts ++ us) = max (hgtD ts) (hgtD us)
  | [], us => by show hgtD us = max 0 (hgtD us); omega
  | t :: ts, us => by
    show max t.hgt (hgtD (ts ++ us)) = max (max t.hgt (hgtD ts)) (hgtD us)
    rw [hgtD_app ts us]
    omega
theorem okD_app : ∀ ts us : List Doc, okD (ts ++ us) ↔ okD ts ∧ okD us
  | [], us => ⟨fun h => ⟨trivial, h⟩, fun h => h.2⟩
  | t :: ts, us => ⟨fun h => ⟨⟨h.1, ((okD_app ts us).mp h.2).1⟩, ((okD_app ts us).mp h.2).2⟩, fun h => ⟨h.1.1, (okD_app ts us).mpr ⟨h.1.2, h.2⟩⟩⟩
theorem cnt_pos (t : Doc) : 1 ≤ t.cnt := by
  cases t with
  | txt z => exact Nat.le_refl _
  | nod x ts =>
    show 1 ≤ 1 + cntD ts
    omega
theorem cntD_len : ∀ ts : List Doc, ts.length ≤ cntD ts
  | [] => Nat.le_refl _
  | t :: ts => by
    have := cntD_len ts
    have := cnt_pos t
    show ts.length + 1 ≤ t.cnt + cntD ts
    omega
theorem cntD_mem : ∀ {ts : List Doc} {t : Doc}, t ∈ ts → t.cnt ≤ cntD ts
  | u :: ts, t, h => by
    show t.cnt ≤ u.cnt + cntD ts
    rcases List.mem_cons.mp h with e | h
    · rw [e]
      omega
    · have := cntD_mem h
      omega
theorem hgtD_mem : ∀ {ts : List Doc} {t : Doc}, t ∈ ts → t.hgt ≤ hgtD ts
  | u :: ts, t, h => by
    show t.hgt ≤ max u.hgt (hgtD ts)
    rcases List.mem_cons.mp h with e | h
    · rw [e]
      omega
    · have := hgtD_mem h
      omega
theorem okD_mem : ∀ {ts : List Doc} {t : Doc}, okD ts → t ∈ ts → t.ok
  | u :: ts, t, o, h => by
    rcases List.mem_cons.mp h with e | h
    · rw [e]
      exact o.1
    · exact okD_mem o.2 h
mutual
theorem AT.facts : ∀ t : AT, t.doc.cnt = t.cnt ∧ t.doc.hgt = t.hgt ∧ (t.ok → t.doc.ok)
  | .txt z => ⟨rfl, rfl, id⟩
  | .nod a k x ts => by
    obtain ⟨h1, h2, h3⟩ := atAll_facts ts
    refine ⟨?_, ?_, fun h => ⟨h.1, h3 h.2⟩⟩
    · show 1 + cntD (docAll ts) = 1 + cntAll ts
      rw [h1]
    · show 1 + hgtD (docAll ts) = 1 + hgtAll ts
      rw [h2]
theorem atAll_facts : ∀ ts : List AT, cntD (docAll ts) = cntAll ts ∧ hgtD (docAll ts) = hgtAll ts ∧ (okAll ts → okD (docAll ts))
  | [] => ⟨rfl, rfl, fun _ => trivial⟩
  | t :: ts => by
    obtain ⟨a1, a2, a3⟩ := AT.facts t
    obtain ⟨b1, b2, b3⟩ := atAll_facts ts
    refine ⟨?_, ?_, fun h => ⟨a3 h.1, b3 h.2⟩⟩
    · show t.doc.cnt + cntD (docAll ts) = t.cnt + cntAll ts
      rw [a1, b1]
    · show max t.doc.hgt (hgtD (docAll ts)) = max t.hgt (hgtAll ts)
      rw [a2, b2]
end
mutual
theorem Doc.data : ∀ t : Doc, t.ok → Vd (2 * t.hgt) t.dat ∧ wt t.dat ≤ 20 * t.cnt
  | .txt z, h => by
    obtain ⟨a, b⟩ := text_facts (show textD (.str z) = true from h)
    refine ⟨(vd_str a).mono (Nat.zero_le _), ?_⟩
    show 1 + z.length ≤ 20 * 1
    omega
  | .nod x ts, h => by
    obtain ⟨sx, lx⟩ := name_facts h.1
    obtain ⟨i1, i2⟩ := docs_data ts h.2
    refine ⟨?_, ?_⟩
    · show Vd (2 * (1 + hgtD ts)) (.tuple [.str x, .tuple (datAll ts)])
      have e : 2 * (1 + hgtD ts) = 2 * hgtD ts + 1 + 1 := by omega
      rw [e]
      refine vd_tup fun y hy => ?_
      simp only [List.mem_cons, List.not_mem_nil, or_false] at hy
      rcases hy with hy | hy
      · rw [hy]
        exact (vd_str sx).mono (Nat.zero_le _)
      · rw [hy]
        exact vd_tup i1
    · show 1 + ((1 + x.length) + ((1 + wtAll (datAll ts)) + 0)) ≤ 20 * (1 + cntD ts)
      omega
theorem docs_data : ∀ ts : List Doc, okD ts → (∀ y ∈ datAll ts, Vd (2 * hgtD ts) y) ∧ wtAll (datAll ts) ≤ 20 * cntD ts
  | [], _ => ⟨fun y hy => by
      have hy' : y ∈ ([] : List PyData) := hy
      simp at hy', Nat.le_refl _⟩
  | t :: ts, h => by
    obtain ⟨a1, a2⟩ := Doc.data t h.1
    obtain ⟨b1, b2⟩ := docs_data ts h.2
    have ec : cntD (t :: ts) = t.cnt + cntD ts := rfl
    have eh : hgtD (t :: ts) = max t.hgt (hgtD ts) := rfl
    refine ⟨fun y hy => ?_, ?_⟩
    · have hy' : y ∈ t.dat :: datAll ts := hy
      rcases List.mem_cons.mp hy' with e | e
      · rw [e]
        exact a1.mono (by omega)
      · exact (b1 y e).mono (by omega)
    · show wt t.dat + wtAll (datAll ts) ≤ _
      omega
end
end K1

/-! documents by their tuples alone; rows that are still being made -/
namespace K1
open PySem L2 Xr
abbrev F0 : Addr → Prop := fun _ => False
/-- tuples stay -/
def Tm (H H' : Hp) : Prop := ∀ a xs, H a = some (.tup xs) → H' a = some (.tup xs)
theorem Tm.refl {H : Hp} : Tm H H := fun _ _ h => h
theorem Tm.trans {H H1 H2 : Hp} (a : Tm H H1) (b : Tm H1 H2) : Tm H H2 := fun q xs h => b q xs (a q xs h)
theorem Tm.same {H H' : Hp} (s : Same H H') : Tm H H' := fun q xs h => s q _ h
theorem Tm.new {H H1 : Hp} {l : Addr} {o : HO} (t : Tm H H1) (h : H1 l = none) : Tm H (upd H1 l o) := fun q xs e => by
  have z := t q xs e
  rw [upd_ne (ne_of_none z h)]
  exact z
theorem Tm.cell {H H1 : Hp} {l : Addr} {o : HO} {ys : List V} (t : Tm H H1) (h : H1 l = some (.lst ys)) : Tm H (upd H1 l o) := fun q xs e => by
  have z := t q xs e
  have ne : q ≠ l := fun n => by
    rw [n, h] at z
    cases z
  rw [upd_ne ne]
  exact z
mutual
theorem doc_mono {K : PySem.W.Frag} {N : Addr → Prop} {H H' : Hp} (m : Tm H H') : ∀ (t : Doc) (v : V), Dm K N H v t.dat → Dm K F0 H' v t.dat
  | .txt z, v, h => by
    have h' : Dm K N H v (.str z) := h
    cases h'
    exact .str z
  | .nod x ts, v, h => by
    have h' : Dm K N H v (.tuple [.str x, .tuple (datAll ts)]) := h
    show Dm K F0 H' v (.tuple [.str x, .tuple (datAll ts)])
    cases h' with
    | tup e n a =>
      cases a with
      | cons a1 r =>
        cases r with
        | cons a2 r =>
          cases r
          cases a1
          refine .tup (m _ _ e) (fun z => z) (.cons (.str x) (.cons ?_ .nil))
          cases a2 with
          | tup e' n' a' => exact .tup (m _ _ e') (fun z => z) (docs_mono m ts _ a')
          | con e' a' => exact .con e' (docs_mono m ts _ a')
    | con e a =>
      cases a with
      | cons a1 r =>
        cases r with
        | cons a2 r =>
          cases r
          cases a1
          refine .con e (.cons (.str x) (.cons ?_ .nil))
          cases a2 with
          | tup e' n' a' => exact .tup (m _ _ e') (fun z => z) (docs_mono m ts _ a')
          | con e' a' => exact .con e' (docs_mono m ts _ a')
theorem docs_mono {K : PySem.W.Frag} {N : Addr → Prop} {H H' : Hp} (m : Tm H H') : ∀ (ts : List Doc) (vs : List V), DmAll K N H vs (datAll ts) → DmAll K F0 H' vs (datAll ts)
  | [], vs, h => by
    have h' : DmAll K N H vs [] := h
    cases h'
    exact .nil
  | t :: ts, vs, h => by
    have h' : DmAll K N H vs (t.dat :: datAll ts) := h
    show DmAll K F0 H' vs (t.dat :: datAll ts)
    cases h' with
    | cons a b => exact .cons (doc_mono m t _ a) (docs_mono m ts _ b)
end
/-- the open rows stand -/
def Rows (K : PySem.W.Frag) (H : Hp) (n : Nat) : List Addr → List (List Doc) → Prop
  | [], [] => True
  | r :: rs, d :: ds => (∃ xs, H r = some (.lst xs) ∧ DmAll K F0 H xs (datAll d) ∧ xs.length ≤ n) ∧ Rows K H n rs ds
  | _, _ => False
theorem Rows.mono {K : PySem.W.Frag} {H H' : Hp} {n n' : Nat} (hn : n ≤ n') (m : Tm H H') : ∀ (rs : List Addr) (ds : List (List Doc)), (∀ q ∈ rs, H' q = H q) → Rows K H n rs ds → Rows K H' n' rs ds
  | [], [], _, _ => trivial
  | r :: rs, d :: ds, hq, h => by
    obtain ⟨⟨xs, h1, h2, h3⟩, h4⟩ := h
    exact ⟨⟨xs, by rw [hq r (by simp)]; exact h1, docs_mono m d _ h2, by omega⟩, Rows.mono hn m rs ds (fun q hm => hq q (List.mem_cons_of_mem _ hm)) h4⟩
  | [], _ :: _, _, h => h.elim
  | _ :: _, [], _, h => h.elim
theorem Rows.len {K : PySem.W.Frag} {H : Hp} {n : Nat} : ∀ (rs : List Addr) (ds : List (List Doc)), Rows K H n rs ds → rs.length = ds.length
  | [], [], _ => rfl
  | _ :: rs, _ :: ds, h => by rw [List.length_cons, List.length_cons, Rows.len rs ds h.2]
  | [], _ :: _, h => h.elim
  | _ :: _, [], h => h.elim
theorem Rows.trk {K : PySem.W.Frag} {H : Hp} {n : Nat} : ∀ (rs : List Addr) (ds : List (List Doc)), Rows K H n rs ds → ∀ q ∈ rs, ∃ o, H q = some o
  | r :: rs, d :: ds, h, q, hq => by
    rcases List.mem_cons.mp hq with e | e
    · obtain ⟨⟨xs, h1, _⟩, _⟩ := h
      rw [e]
      exact ⟨_, h1⟩
    · exact Rows.trk rs ds h.2 q e
  | _ :: _, [], h, _, _ => h.elim
theorem at_last {l : List V} {x : V} : atI (l ++ [x]) (-1) = some x := by
  unfold atI ixN
  have h1 : ¬ (0 : Int) ≤ -1 := by omega
  have h2 : -(((l ++ [x]).length : Nat) : Int) ≤ -1 := by
    rw [List.length_append]
    simp
    omega
  rw [if_neg h1, if_pos h2]
  have e2 : (-1 + (((l ++ [x]).length : Nat) : Int)).toNat = l.length := by
    rw [List.length_append]
    simp
    omega
  rw [e2]
  simp
end K1

/-! defs that ask repr of data: promises kept where no repr runs around -/
namespace Grd
open PySem PySem.Spec PyProof.Rows L2
/-- as FnOk, where no guard stands around -/
structure FnG (P : Program) (w : World) (K : PySem.W.Frag) (mg : Str → Option Value) (base : Heap) (CX : CXT) (k : Nat) (f : Addr) (fd : FuncData) (ps : List Str) (sp : Sp) : Prop where
  len : ∀ vs H Q E, sp vs H Q E → vs.length = ps.length
  run : ∀ (A : Around) (outer : List Env) (s : Shared) (H : Hp) (args : Args) (us : List Value) (vs : List V) (Q : VK) (E : XK), A.guards = some [] → Room k A → Env0 P w K mg base A outer s H → BindsTo s fd args (ps.zip us) → Vals vs us → sp vs H Q E →
    codeAny (model P w) A (.call (.ref f) args) (CR CX outer P w H s Q E) s
section
variable {P : Program} {w : World} {K : PySem.W.Frag} {mg : Str → Option Value} {base : Heap}
theorem fng_of {CX : CXT} {k : Nat} {f : Addr} {x qual : Str} {st : Stmt} {fd : FuncData} {N ps : List Str} {sp : Sp} (F : Fun K x qual st f fd) (S : FnScope N ps (defScope st)) (len : ∀ vs H Q E, sp vs H Q E → vs.length = ps.length)
    (body : ∀ (cdv : Value) (A : Around) (outer : List Env) (s : Shared) (H : Hp) (vs : List V) (Q : VK) (E : XK), A.guards = some [] → Room k (A.deeper (envOfC qual (defScope st) s.heap.objs.size f cdv)) → sp vs H Q E →
      ∃ t, PSs (cxOf CX P w K mg base N qual (defScope st) f cdv A outer s H E) (defBody st) t ∧ t { nx := fun _ H' => Q .non H', rt := Q } (L2.start N vs) H) : FnG P w K mg base CX (k + 1) f fd ps sp := by
  obtain ⟨oc, od, kV, doc, pm, an, cdv, ct, osl, rfl, lk, hcd⟩ := F.ex
  refine ⟨len, fun A outer s H args us vs Q E gd hr e0 hb r hs => ?_⟩
  have lens := len _ _ _ _ hs
  have inK : K.In s.heap := e0.mod.kin.keeps fun b o e => (e0.bs b o e).1
  have free : s.heap.NoLimit := e0.mod.nolimit.keeps fun b o e => (e0.bs b o e).1
  have kinds : ∀ y ∈ ps.zip us, (defScope st).names.lookup y.1 = some .local ∨ ((defScope st).names.lookup y.1 = some .cell ∧ ((cellsFrom (s.heap.objs.size + 1) (defScope st).names []).lookup y.1).isSome = true) := fun ⟨n, v⟩ hy =>
    (S.par n (List.of_mem_zip hy).1).elim (fun q => .inl q) fun q => .inr ⟨q, PySem.W.cellsFrom_some _ _ _ (.inl q)⟩
  refine codeAny_call_function hr.depth (inK _ _ lk) rfl S.co S.gen rfl (PySem.W.codeRec_of inK hcd) (hb _ _ _ _ ?_)
  refine wpAny_newFunctionEnv_cells S.kind kinds fun env he s1 ic => ?_
  subst he
  refine ⟨free.keeps ic.toInCall.keep, codeAny_func ?_⟩
  obtain ⟨t, ht, hq⟩ := body cdv A outer s H vs Q E gd (hr.deeper _) hs
  have I := inv_start (CX := CX) (P := P) (K := K) (mg := mg) (base := base) (E := E) S hr.hd e0 lens r ic
  refine wpAny_mono (ht.run [] s1 _ H _ I hq) (fun fl s' z => ?_) fun e s' z => z
  cases fl with
  | ret u =>
    obtain ⟨v, σ', H', J, rv, q⟩ := z
    exact ⟨v, H', J.os, J.bare, J.base, J.hok, rv, q⟩
  | next =>
    obtain ⟨σ', H', J, q⟩ := z
    exact ⟨V.non, H', J.os, J.bare, J.base, J.hok, rfl, q⟩
  | brk =>
    obtain ⟨_, _, _, q⟩ := z
    exact q.elim
  | cont =>
    obtain ⟨_, _, _, q⟩ := z
    exact q.elim
end
section
variable {X : Cx} {CX : CXT} {k : Nat} {f : Addr} {fd : FuncData} {ps : List Str} {sp : Sp} {dvs : List V} {ds : List Value} {E : XK} {x : Str} {p pos : Pos} {e : Expr} {es : List Expr} {t : TA}
/-- f(e, ..) where f keeps its promise with no guard around -/
theorem pe_callG (F : FnG X.prog X.w X.K X.mg X.base CX k f fd ps sp) (gd : X.A.guards = some []) (hr : Room k X.A) (hg : Gl X x) (hm : X.mg x = some (.ref f)) (kp : PySem.W.keepIn X.K (.ref f) = true) (hb : Binds X.K fd ps []) (hx : Passes CX X E)
    (ha : PA X (e :: es) t) (hdb : (x == ("__debug__" : Str)) = false := by decide) (he : starEach (e :: es) X.env = (false, eval e X.env) :: starEach es X.env := by rfl) (hpl : (backTo pos (starEach es X.env)).any (·.1) = false := by rfl) :
    PE X (.Call (.Name x p) (e :: es) [] pos) (tCall sp [] E t) := by
  refine ⟨fun pins s σ H Q I h => ?_⟩
  refine wpAny_Call_Name_kw (ld_glob I hg hm ?_ hdb)
  refine PySem.W.callWith_K (h₀ := X.base) I.ok.mod.kin kp (thn (ha.run pos pins s σ H _ I h) fun us s1 ⟨vs, H1, I1, r, q⟩ => ⟨I1.kIn, ?_⟩) he hpl
  have q' : sp vs H1 Q E := by
    have z : sp (vs ++ []) H1 Q E := q
    rw [List.append_nil] at z
    exact z
  have lens : us.length = ps.length := by
    rw [← r.length]
    exact F.len _ _ _ _ q'
  have b := hb s1 us I1.kIn (by rw [List.append_nil]; exact lens)
  rw [List.append_nil] at b
  refine wpAny_call (codeAny_mono (F.run X.A X.stack s1 H1 ⟨us, []⟩ us vs Q E gd hr I1.env0 b r q') fun z s' hq => ?_)
  cases z with
  | error e => exact hx pins σ H1 s1 e s' I1 hq
  | ok fl =>
    cases fl with
    | ret u => exact I1.after hq
    | next => exact hq.elim
    | brk => exact hq.elim
    | cont => exact hq.elim
/-- repr of data -/
def rRepr (K : PySem.W.Frag) : List V → Hp → VK → Prop := fun xs H Q => ∃ (v : V) (d : PyData), xs = [v] ∧ Dp K H v d ∧ d.showable = true ∧ d.hasDict = false ∧ d.depth ≤ 150 ∧ d.shown.length ≤ sizeLine ∧ Q (.str d.shown) H
theorem call_repr (gd : X.A.guards = some []) (hu : X.A.units + 200 < cLine) : CallR X (.builtin "repr") (rRepr X.K) := by
  intro pins s σ H xs us Q I r h
  obtain ⟨v, d, rfl, hd, sh, nd, dep, len, q⟩ := h
  obtain ⟨u, rfl, ru⟩ := vals1 r
  cases hd with
  | non =>
    cases (show u = Value.none from ru)
    exact PySem.P.repr_of_none ⟨.str _, H, I.tok _, ⟨_, rfl⟩, q⟩
  | bl b =>
    cases (show u = Value.bool b from ru)
    exact PySem.P.repr_of_bool ⟨.str _, H, I.tok _, ⟨_, rfl⟩, q⟩
  | int i =>
    obtain ⟨t, rfl⟩ := ru
    have hz : i.natAbs.log2 < 1920 := by
      unfold PyData.showable at sh
      exact of_decide_eq_true sh
    exact PySem.P.repr_of_int hz ⟨.str _, H, I.tok _, ⟨_, rfl⟩, q⟩
  | str x =>
    obtain ⟨t, rfl⟩ := ru
    exact PySem.P.repr_of_str ⟨.str _, H, I.tok _, ⟨_, rfl⟩, q⟩ len
  | lst hs ha =>
    obtain ⟨as, rd⟩ := Dp.reads I _ _ _ (Dp.lst hs ha) ru
    cases (show u = Value.ref _ from ru)
    exact repr_of_reads' rd sh (PyData.noDict_hsm nd) gd (by omega) (fun _ _ e => e) (fun h' tk n up => ⟨.str _, H, I.kept (t' := n) up, ⟨_, rfl⟩, q⟩) len
  | tup hs ha =>
    obtain ⟨as, rd⟩ := Dp.reads I _ _ _ (Dp.tup hs ha) ru
    cases (show u = Value.ref _ from ru)
    exact repr_of_reads' rd sh (PyData.noDict_hsm nd) gd (by omega) (fun _ _ e => e) (fun h' tk n up => ⟨.str _, H, I.kept (t' := n) up, ⟨_, rfl⟩, q⟩) len
theorem u200 {k : Nat} {A : Around} (hr : Room k A) : A.units + 200 < cLine := by
  have := hr.un
  omega
end
end Grd

/-! the end of a law whose def asks repr -/
namespace Grd
open PySem PySem.Spec PyProof.Rows L2
theorem lawG {P : Program} {w : World} {K : PySem.W.Frag} {mg mb : Str → Option Value} {k : Nat} {fa a : Addr} {fd : FuncData} {x : Str} {sp : Sp} {st : Shared} {vs : List Value} {ns : List Int}
    (inK : K.In st.heap) (ng : st.heap.Ns mainGlobals mg) (nb : st.heap.Ns builtinsNs mb) (bb : ∀ x : Str, x ≠ "__name__" → mb x = bootBuiltins x) (nl : st.heap.NoLimit) (gn : st.gens = #[])
    (sa : st.heap.get? a = some { cls := .type "list", data := .seq vs.toArray }) (ia : IntsAre vs ns) (few : ns.length ≤ sizeLine) (hr : Room k callerA)
    (F : ∀ base : Heap, K.In base → base.Ns mainGlobals mg → FnG P w K mg base CX0 k fa fd [x] sp) (bi : ∀ (s : Shared) (u : Value), BindsTo s fd ⟨[u], []⟩ [(x, u)])
    (hs : ∀ H : Hp, SqL K H a (ns.map V.int) → sp [.ref a] H (fun v _ => v = .bl true) fun _ _ _ => False) :
    codeAny (model P w) callerA (.call (.ref fa) ⟨[.ref a], []⟩) (fun r s' => r = .ok (.ret (.bool true)) ∧ PySem.OldK st.heap s'.heap ∧ s'.os = st.os ∧ AllBare s'.gens) st := by
  have rel := vals_ints ia
  have lens := ia.length
  -- what is tracked at the entry: nothing, or the script alone
  have go : ∀ H : Hp, (∀ b, H b = none ∨ (b = a ∧ H b = some (.frz { cls := .type "list", data := .seq vs.toArray } (.lst (ns.map V.int))))) → SqL K H a (ns.map V.int) → HOk P w H st.heap → (H a ≠ none → K.lookup a = none) →
      codeAny (model P w) callerA (.call (.ref fa) ⟨[.ref a], []⟩) (fun r s' => r = .ok (.ret (.bool true)) ∧ PySem.OldK st.heap s'.heap ∧ s'.os = st.os ∧ AllBare s'.gens) st := by
    intro H only sq hok notK
    have isA : ∀ {b : Addr}, H b ≠ none → b = a := fun {b} h => (only b).elim (fun z => absurd z h) fun z => z.1
    have free : ∀ {b : Addr} {o : Obj} {es : Array DictEntry} {ep : Nat}, st.heap.get? b = some o → o.data = .dict es ep → H b = none := fun {b o es ep} e d => by
      rcases only b with z | ⟨rfl, z⟩
      · exact z
      · rw [sa] at e
        cases e
        have d' : Data.seq vs.toArray _ = Data.dict es ep := d
        cases d'
    have hid : ∀ {b : Addr} {m : Str → Option Value}, st.heap.Ns b m → (hidT st.heap H).Ns b m := fun {b m} ⟨o, es, ep, e, d, r⟩ => ⟨o, es, ep, hidT_get e (free e d), d, r⟩
    have kb : K.In (hidT st.heap H) := fun b o e => by
      refine hidT_get (inK b o e) ?_
      rcases only b with z | ⟨rfl, z⟩
      · exact z
      · rw [notK (by rw [z]; simp)] at e
        cases e
    have md : Mod K mg (hidT st.heap H) := by
      obtain ⟨mc, c1, c2⟩ := nl
      exact ⟨kb, hid ng, ⟨mb, hid nb, bb⟩, ⟨mc, hid c1, c2⟩⟩
    have ev : Env0 P w K mg (hidT st.heap H) callerA [] st H := ⟨rfl, md, fun b o e => of_hidT e, Nat.le_of_eq (hidT_size _ _), trivial, fun b hb => absurd (show b ∈ ([] : List Addr) from hb) (by simp), hok, .of_eq gn⟩
    have run := (F _ kb (hid ng)).run callerA [] st H ⟨[.ref a], []⟩ [.ref a] [.ref a] _ _ rfl hr ev (bi st (.ref a)) (.cons rfl .nil) (hs H sq)
    refine codeAny_mono run fun r s' q => ?_
    cases r with
    | error e => exact q.elim
    | ok fl =>
      cases fl with
      | next => exact q.elim
      | brk => exact q.elim
      | cont => exact q.elim
      | ret u =>
        obtain ⟨v, H', os, bare, un, hok', rv, ev⟩ := q
        have ev' : v = .bl true := ev
        subst ev'
        cases (show u = Value.bool true from rv)
        refine ⟨rfl, PySem.OldK.of_keep fun b o e => ?_, os, bare⟩
        rcases only b with z | ⟨rfl, z⟩
        · exact un.keep b o e z (by intro h; exact absurd (show b ∈ ([] : List Addr) from h) (by simp)) (by simp)
        · have z2 := un.frzs _ _ _ z
          obtain ⟨g1, _⟩ := hok _ _ z
          obtain ⟨g2, _⟩ := hok' _ _ z2
          rw [e] at g1
          cases g1
          exact g2
  cases hk : K.lookup a with
  | some o =>
    have e := inK a o hk
    rw [sa] at e
    cases e
    exact go (fun _ => none) (fun _ => .inl rfl) (.inr ⟨_, vs.toArray, _, hk, rfl, rfl, rfl, by rw [List.size_toArray, lens]; exact few, by simpa using rel⟩) (fun b u z => by
      have z' : (none : Option HO) = some u := z
      cases z') fun z => absurd rfl z
  | none =>
    refine go (fun b => if b = a then some (.frz { cls := .type "list", data := .seq vs.toArray } (.lst (ns.map V.int))) else none) (fun b => ?_) (.inl (.inr ⟨_, if_pos rfl⟩)) (fun b u z => ?_) fun _ => hk
    · by_cases hb : b = a
      · exact .inr ⟨hb, if_pos hb⟩
      · exact .inl (if_neg hb)
    · by_cases hb : b = a
      · have z' := (if_pos hb).symm.trans z
        cases z'
        subst hb
        exact ⟨sa, by rw [List.length_map]; exact few, vs, _, rel, sa⟩
      · have z' := (if_neg hb).symm.trans z
        cases z'
theorem walkG {l : PySem.W.OpenLaw} {n k : Nat} {q : Program} {loose : List Str} {XP : (Str → Option Value) → Heap → Prop} {YP : World → Heap → Prop} {d : DefRec} {K : Params → PySem.W.Frag} {sp : PySem.W.Frag → Sp} {x : Str}
    (hn : l.most = some n) (h2 : n ≤ sizeLine) (hd : d.params.defaults = []) (hr : Room k callerA) (hY : ∀ (w : World) (h : Heap), YP w h → (K w.params).In h)
    (F : ∀ (w : World) (mg : Str → Option Value) (fa : Addr) (h : Heap), (K w.params).In h → h.Ns mainGlobals mg → mg d.name = some (.ref fa) →
      ∃ fd : FuncData, (∀ (s : Shared) (u : Value), BindsTo s fd ⟨[u], []⟩ [(x, u)]) ∧ ∀ base : Heap, (K w.params).In base → base.Ns mainGlobals mg → FnG l.prog w (K w.params) mg base CX0 k fa fd [x] (sp (K w.params)))
    (hs : ∀ (K : PySem.W.Frag) (H : Hp) (a : Addr) (ns : List Int), ns.length ≤ n → SqL K H a (ns.map V.int) → sp K [.ref a] H (fun v _ => v = .bl true) fun _ _ _ => False) :
    PySem.W.WalkO q loose XP YP l.row.toRowW d [] (fun f vs => PySem.call f vs) := by
  refine Att.attach_call hn hd fun w s₀ st mg mb fa o pm cd doc a vs ns G Y ho hdt hcd hmg hobj hints hlen hg => ?_
  have inK := hY w _ Y
  obtain ⟨fd, hb, hF⟩ := F w mg fa _ inK G.T.g hmg
  exact lawG inK G.T.g G.T.b G.T.builtins G.T.nolimit hg hobj hints (Nat.le_trans hlen h2) hr hF hb fun H sq => hs _ H a ns hlen sq
end Grd

/-! how great the texts of data are -/
namespace K1
open PySem L2
/-- a short plain text -/
structure Plain (n : Nat) (z : Str) : Prop where
  len : z.length ≤ n
  low : ∀ ch ∈ z.cps.toList, ch < 128
theorem canLay_plain {n : Nat} {z : Str} (h : Plain n z) : PyData.canLay0 (.str z) = true := by
  unfold PyData.canLay0
  show (z.cps.all fun x => decide (x < 0x110000)) = true
  rw [Array.all_eq_true']
  intro ch hc
  have := h.low ch (by simpa using hc)
  simp
  omega
structure Rp (n B : Nat) (d : PyData) : Prop where
  lay : d.canLay0 = true
  dep : d.depth ≤ n
  sh : d.showable = true
  len : d.shown.length ≤ B
theorem rp_all {n B : Nat} : ∀ (ds : List PyData), (∀ x ∈ ds, Rp n B x) → PyData.canLayAll0 ds = true ∧ PyData.depthAll ds ≤ n ∧ PyData.showableAll ds = true ∧ piled (PyData.shownAll ds) ≤ ds.length * (B + 2)
  | [], _ => by
    refine ⟨rfl, ?_, rfl, ?_⟩
    · unfold PyData.depthAll
      exact Nat.zero_le _
    · unfold PyData.shownAll
      exact Nat.zero_le _
  | x :: ds, h => by
    obtain ⟨a, b, c, e⟩ := rp_all ds fun y hy => h y (List.mem_cons_of_mem _ hy)
    have hx := h x (List.mem_cons_self ..)
    have l := hx.len
    refine ⟨?_, ?_, ?_, ?_⟩
    · unfold PyData.canLayAll0
      rw [hx.lay, a]
      rfl
    · unfold PyData.depthAll
      have := hx.dep
      omega
    · unfold PyData.showableAll
      rw [hx.sh, c]
      rfl
    · unfold PyData.shownAll
      rw [piled_cons, List.length_cons, Nat.succ_mul]
      omega
theorem join_le (ts : List Str) : (Str.join ", " ts).length ≤ piled ts := by
  by_cases h : ts = []
  · subst h
    exact Nat.zero_le _
  · have := join_length_add ts h
    omega
/-- a tuple by what its things are together -/
theorem rp_tupA {n C : Nat} {ds : List PyData} (a : PyData.canLayAll0 ds = true) (b : PyData.depthAll ds ≤ n) (c : PyData.showableAll ds = true) (e : piled (PyData.shownAll ds) ≤ C) : Rp (n + 1) (C + 3) (.tuple ds) := by
  refine ⟨?_, ?_, ?_, ?_⟩
  · unfold PyData.canLay0
    exact a
  · unfold PyData.depth
    omega
  · unfold PyData.showable
    exact c
  · unfold PyData.shown tupleText
    rw [strLen_append, strLen_append]
    have j := join_le (PyData.shownAll ds)
    have e1 : (("(" : String) : Str).length = 1 := rfl
    have e2 : ((if (PyData.shownAll ds).length == 1 then ",)" else ")" : String) : Str).length ≤ 2 := by split <;> decide
    rw [e1]
    omega
theorem rp_tup {n B : Nat} {ds : List PyData} (h : ∀ x ∈ ds, Rp n B x) : Rp (n + 1) (ds.length * (B + 2) + 3) (.tuple ds) := by
  obtain ⟨a, b, c, e⟩ := rp_all ds h
  exact rp_tupA a b c e
theorem Rp.mono {n n' B B' : Nat} {d : PyData} (h : Rp n B d) (a : n ≤ n') (b : B ≤ B') : Rp n' B' d := ⟨h.lay, Nat.le_trans h.dep a, h.sh, Nat.le_trans h.len b⟩
theorem rp_str {z : Str} (h : Plain 17 z) : Rp 0 300 (.str z) := by
  refine ⟨canLay_plain h, by unfold PyData.depth; exact Nat.le_refl _, rfl, ?_⟩
  unfold PyData.shown
  have r := StrLaws.reprText_len z fun ch hc => by
    have := h.low ch hc
    have : (128 : Nat) ≤ 16 ^ 8 := by decide
    omega
  have := h.len
  omega
theorem rp_none : Rp 0 300 .none := ⟨rfl, by unfold PyData.depth; exact Nat.le_refl _, rfl, by unfold PyData.shown; decide⟩
theorem rp_bool (b : Bool) : Rp 0 300 (.bool b) := ⟨rfl, by unfold PyData.depth; exact Nat.le_refl _, rfl, by unfold PyData.shown; cases b <;> decide⟩
theorem rp_int {i : Int} (h : i.natAbs < 1000000000) : Rp 0 300 (.int i) := by
  refine ⟨rfl, by unfold PyData.depth; exact Nat.le_refl _, ?_, ?_⟩
  · unfold PyData.showable
    have h2 : i.natAbs.log2 < 30 := by
      by_cases z : i.natAbs = 0
      · rw [z]
        decide
      · exact (Nat.log2_lt z).mpr (by omega)
    exact decide_eq_true (by omega)
  · unfold PyData.shown
    have q := int_text_length_le10 (a := i) (k := 9) (by decide) h
    show (Str.ofString (toString i)).length ≤ 300
    rw [ofString_length]
    omega
theorem Rp.ok {d : PyData} (r : Rp 150 10000000 d) : d.showable = true ∧ d.hasDict = false ∧ d.depth ≤ 150 ∧ d.shown.length ≤ sizeLine :=
  ⟨r.sh, PyData.hasDict_of_canLay _ r.lay, r.dep, by have := r.len; rw [sizeLine_eq]; omega⟩
theorem rp_ask {K : PySem.W.Frag} {H : Hp} {v : V} {d : PyData} {n B : Nat} {Q : VK} (h : Dp K H v d) (r : Rp n B d) (hn : n ≤ 150) (hB : B ≤ 10000000) (q : Q (.str d.shown) H) : Grd.rRepr K [v] H Q :=
  ⟨v, d, rfl, h, r.sh, PyData.hasDict_of_canLay _ r.lay, Nat.le_trans r.dep hn, by have := r.len; rw [sizeLine_eq]; omega, q⟩
theorem same_text (z : V) : (!decide (z = z)) = false := by simp
theorem same_textT (z : V) : decide (z = z) = true := by simp
end K1

/-! own exception classes over any built-in one, made with values and keywords -/
namespace PySem
namespace Exm
open PyProof.Rows
section
variable {M : Model} {A : Around} {E : Value → Shared → Prop} {hp : Heap} {gs : Array GenState} {dr : Drawn} {tk : Nat} {os : OsState}
variable {nm q : Str} {C N : Addr} {bs bm bmB : List Value} {hdct : Bool} {sn : List Str} {sub : List Value} {ab : Bool} {col : Option Bool} {dd : Option Addr} {k0 k1 k2 k3 k5 : Option Value} {B newId initId : String}
theorem checkNew (FB : ExcBaseFacts B newId initId bmB) (tB : bm.contains (.type B) = true) (tA : bm.contains (.type "AttributeError") = false) (tN : bm.contains (.type "NameError") = false) {us : List Value} {kw : List (Str × Value)} {Q : Unit → Shared → Prop}
    (cls : hp.get? C = some (excClassObj nm q C N bs bm hdct sn sub ab col dd k0 k1 k2 k3 k5 newId)) (fin : Q () ⟨hp, gs, dr, tk, os⟩) :
    wpAny M A (checkBuiltinCall newId ⟨.ref C :: us, kw⟩) Q E ⟨hp, gs, dr, tk, os⟩ := by
  have hb : (Value.ref C :: bm).contains (.type B) = true := by
    rw [List.contains_cons, tB]
    simp
  have hs := FB.noStar
  simp only [checkBuiltinCall, FB.newKind, FB.newSplit, FB.newRow]
  repeat (first
    | refine wpAny_loadPart_at cls ?_
    | (refine wpAny_isSubtype_exc cls ?_; rw [hb])
    | refine wpAny_staticBase_exc cls ?_
    | refine wpAny_madeBy_exc cls ?_
    | simp only [bne_self_eq_false, Bool.false_eq_true, if_false]
    | wp_step)
  exact fin
end
section
variable {prog : Program} {w : World} {A : Around} {E : Value → Shared → Prop} {R : Result → Shared → Prop} {hp : Heap} {gs : Array GenState} {dr : Drawn} {tk : Nat} {os : OsState}
variable {nm q : Str} {C N : Addr} {bs bm bmB : List Value} {hdct : Bool} {sn : List Str} {sub : List Value} {ab : Bool} {col : Option Bool} {dd : Option Addr} {k0 k1 k2 k3 k5 : Option Value} {B newId initId : String}
theorem runNew (FB : ExcBaseFacts B newId initId bmB) (tB : bm.contains (.type B) = true) (tA : bm.contains (.type "AttributeError") = false) (tN : bm.contains (.type "NameError") = false) {us : List Value} {kw : List (Str × Value)}
    (cls : hp.get? C = some (excClassObj nm q C N bs bm hdct sn sub ab col dd k0 k1 k2 k3 k5 newId)) (few : us.length ≤ sizeLine)
    (fin : R (.ok (.ret (.ref (hp.objs.size + 1)))) ⟨(hp.push (W.kdv_tup us)).push (HandSPX.excO C hp.objs.size), gs, dr, tk, os⟩) :
    codeAny (model prog w) A (.builtin newId ⟨.ref C :: us, kw⟩) R ⟨hp, gs, dr, tk, os⟩ := by
  have en := FB.ends
  have c1 : (Value.ref C :: bm).contains (.type B) = true := by
    rw [List.contains_cons, tB]
    simp
  have c2 : (Value.ref C :: bm).contains (.type "AttributeError") = false := by
    rw [List.contains_cons, tA]
    rfl
  have c3 : (Value.ref C :: bm).contains (.type "NameError") = false := by
    rw [List.contains_cons, tN]
    rfl
  refine codeAny_builtinAt FB.entry ?_
  unfold Builtin.«BaseException.__new__»
  refine wpAt_bind ?_
  show wpAt _ _ _ (stack >>= _) _ _ _
  refine wpAt_bind (wpAt_stack fun top low => wpAt_of_wpAny ?_)
  wp_walk
  refine wpAt_of_wpAny ?_
  rw [FB.owner]
  repeat (first
    | with_reducible refine wpAny_madeHere_exc FB.canon cls ?_
    | with_reducible refine wpAny_loadPart_at cls ?_
    | (with_reducible refine wpAny_isSubtype_exc cls ?_; first | rw [c1] | rw [c2] | rw [c3])
    | wp_step)
  show R _ _
  rw [Heap.size_push]
  exact fin
theorem runTypeCall (FB : ExcBaseFacts B newId initId bmB) (tB : bm.contains (.type B) = true) (tA : bm.contains (.type "AttributeError") = false) (tN : bm.contains (.type "NameError") = false) {us : List Value} {kw : List (Str × Value)} {fI : Addr} {Q : Fin → Shared → Prop}
    (cls : hp.get? C = some (excClassObj nm q C N bs bm hdct sn sub ab col dd k0 k1 k2 k3 k5 newId)) (few : us.length ≤ sizeLine)
    (li : W.Looks (model prog w) hp (typeLookup (.ref C) "__init__") (some (.ref fI))) (bi : ∀ self, W.Looks (model prog w) hp (bindSpecial (.ref fI) self) (.ref fI, [self]))
    (fin : codeAny (model prog w) A (.call (.ref fI) ⟨.ref (hp.objs.size + 1) :: us, kw⟩)
      (fun r s' => match r with | .ok (.ret v) => v = .none ∧ Q (.done (.ret (.ref (hp.objs.size + 1)))) s' | .ok _ => False | .error x => E x s')
      ⟨(hp.push (W.kdv_tup us)).push (HandSPX.excO C hp.objs.size), gs, dr, tk, os⟩) :
    wpAny (model prog w) A (Builtin.«type.__call__» ⟨.ref C :: us, kw⟩) Q E ⟨hp, gs, dr, tk, os⟩ := by
  repeat (first
    | with_reducible refine wpAny_loadPart_at cls ?_
    | with_reducible refine wpAny_madeBy_exc cls ?_
    | wp_step)
  refine codeAny_call_builtin_code (Code.quiet_builtin _ FB.quiet) (checkNew FB tB tA tN cls ?_)
  refine runNew FB tB tA tN cls few ?_
  show wpAny _ _ _ _ _ _
  have up : ∀ b o, hp.get? b = some o → ((hp.push (W.kdv_tup us)).push (HandSPX.excO C hp.objs.size)).get? b = some o := fun b o e => Heap.get?_push_of_some _ (Heap.get?_push_of_some _ e)
  have cls2 := up _ _ cls
  have at2 : ((hp.push (W.kdv_tup us)).push (HandSPX.excO C hp.objs.size)).get? (hp.objs.size + 1) = some (HandSPX.excO C hp.objs.size) := by heap_get
  have cc : (Value.ref C :: bm).contains (.ref C) = true := by simp
  have li2 := li.keeps up
  have bi2 := (bi (.ref (hp.objs.size + 1))).keeps up
  unfold isInstance
  repeat (first
    | with_reducible refine wpAny_loadPart_at at2 ?_
    | (with_reducible refine wpAny_isSubtype_exc cls2 ?_; rw [cc])
    | wp_step)
  show wpAny _ _ (typeLookup (.ref C) _) _ _ _
  refine li2.at ?_
  refine wpAny_holding (wpAny_bind (bi2.at ?_))
  refine wpAny_bind (wpAny_call (codeAny_mono fin fun r s' z => ?_))
  cases r with
  | error x => exact z
  | ok fl =>
    cases fl with
    | ret v =>
      obtain ⟨rfl, z⟩ := z
      first
        | exact wpAny_pure (wpAny_pure z)
        | (wp_walk; exact z)
    | next => exact z.elim
    | brk => exact z.elim
    | cont => exact z.elim
theorem checkTypeCallE {M : Model} {us : List Value} {kw : List (Str × Value)} {Q : Unit → Shared → Prop} (cls : hp.get? C = some (excClassObj nm q C N bs bm hdct sn sub ab col dd k0 k1 k2 k3 k5 newId))
    (fin : Q () ⟨hp, gs, dr, tk, os⟩) : wpAny M A (checkBuiltinCall "type.__call__" ⟨.ref C :: us, kw⟩) Q E ⟨hp, gs, dr, tk, os⟩ := by
  have f3 := tc_sub
  have ty : (⟨hp, gs, dr, tk, os⟩ : Shared).TypeIs (.ref C) "type" := ⟨_, cls, rfl⟩
  simp only [checkBuiltinCall, tc_kind, tc_split]
  repeat (any_goals (first
    | assumption
    | with_reducible refine wpAny_loadPart_at cls ?_
    | with_reducible refine wpAny_onRaise ?_
    | with_reducible refine wpAny_map ?_
    | wp_step))
theorem runCls (FB : ExcBaseFacts B newId initId bmB) (tB : bm.contains (.type B) = true) (tA : bm.contains (.type "AttributeError") = false) (tN : bm.contains (.type "NameError") = false) {us : List Value} {kw : List (Str × Value)} {fI : Addr}
    (cls : hp.get? C = some (excClassObj nm q C N bs bm hdct sn sub ab col dd k0 k1 k2 k3 k5 newId)) (few : us.length ≤ sizeLine)
    (li : W.Looks (model prog w) hp (typeLookup (.ref C) "__init__") (some (.ref fI))) (bi : ∀ self, W.Looks (model prog w) hp (bindSpecial (.ref fI) self) (.ref fI, [self]))
    (fin : codeAny (model prog w) (A.under (.builtin "type.__call__" ⟨.ref C :: us, kw⟩)) (.call (.ref fI) ⟨.ref (hp.objs.size + 1) :: us, kw⟩) (W.InitBack (hp.objs.size + 1) R)
      ⟨(hp.push (W.kdv_tup us)).push (HandSPX.excO C hp.objs.size), gs, dr, tk, os⟩) :
    codeAny (model prog w) A (.call (.ref C) ⟨us, kw⟩) R ⟨hp, gs, dr, tk, os⟩ := by
  have f1 := tc_lookup
  have f2 := tc_bind (.ref C)
  have ty : (⟨hp, gs, dr, tk, os⟩ : Shared).TypeIs (.ref C) "type" := ⟨_, cls, rfl⟩
  refine codeAny_of_tree ?_
  show wpAny _ _ (callAny (.ref C) _) _ _ _
  repeat (any_goals (first
    | assumption
    | with_reducible refine wpAny_loadPart_at cls ?_
    | wp_step))
  refine ⟨rfl, ?_⟩
  refine codeAny_call_builtin_at (Code.quiet_builtin _ (by decide +kernel)) entry_typeCall (checkTypeCallE cls (runTypeCall FB tB tA tN cls few li bi ?_))
  refine codeAny_mono fin fun r s' z => ?_
  cases r with
  | error x => exact z
  | ok fl => cases fl <;> exact z
end
end Exm
end PySem

namespace PySem
namespace Exm
open PyProof.Rows Builtin Builtin.ObjectAttr
section
variable {prog : Program} {w : World} {A : Around} {E : Value → Shared → Prop} {R : Result → Shared → Prop} {hp : Heap} {gs : Array GenState} {dr : Drawn} {tk : Nat} {os : OsState} {bmB : List Value} {B : String}
/-- the first store into an exception's own dict -/
theorem storeFirst {K : W.Frag} {name : Str} {t1 : Tok} {v : Value} {x C : Addr} {fv : Array Value} {cd : ClassData} (SB : StoreFacts B bmB "object.__setattr__" "object")
    (X : K.In hp) (hx : hp.get? x = some { cls := .ref C, data := .fields fv }) (ov : W.excOver K C bmB = true) (hcd : W.clsIn K C = some cd) (hh : cd.hasDict = true) (ha : W.takerIn K C name = some none)
    (fin : ∀ h' t' dx, (∀ b o, b ≠ x → hp.get? b = some o → h'.get? b = some o) → hp.objs.size ≤ dx → dx ≠ x → h'.get? x = some { cls := .ref C, dict := some dx, data := .fields fv } →
      h'.Ns1 dx (fun y => if y = name then some v else none) → R (.ok (.ret .none)) ⟨h', gs, dr, t', os⟩) :
    codeAny (model prog w) A (.call (.builtin "object.__setattr__") ⟨[.ref x, .str name t1, v], []⟩) R ⟨hp, gs, dr, tk, os⟩ := by
  have I : W.InstAt hp x { cls := .ref C, data := .fields fv } C none := ⟨hx, rfl, rfl, trivial⟩
  have far : x ≠ hp.objs.size := Nat.ne_of_lt (Heap.lt_size hx)
  have cl : W.Looks (model prog w) hp (classData C) cd := W.looks_clsIn X hcd
  refine W.osa_openX SB X I ov ha fun b => ?_
  show wpAny _ _ (storeInOwnDict (.ref x) (.ref C) (.str name t1) name v b) _ _ _
  obtain ⟨nm, bs, mro, ns, qn, hd, sn, sb, ab, col, del⟩ := cd
  dsimp only at hh
  subst hh
  unfold storeInOwnDict ownDictForStores
  repeat (first
    | with_reducible refine HandSPX.store_in_new ?_ ?_
    | with_reducible refine wpAny_loadPart_at hx ?_
    | with_reducible refine cl.at ?_
    | wp_step)
  · exact ⟨_, #[], _, (Heap.get?_update_ne _ _ _ _ far.symm).trans (Heap.get?_push_at rfl rfl), rfl, fun e he => absurd he (by simp), fun _ => rfl⟩
  · intro h' t' hn hs
    have old : (hp.push { cls := .type "dict", data := .dict #[] }).get? x = some { cls := .ref C, data := .fields fv } := Heap.get?_push_of_some _ hx
    refine fin h' t' hp.objs.size (fun c o hc ho => ?_) (Nat.le_refl _) far.symm ?_ hn
    · have e1 := hs.2 c (Nat.ne_of_lt (Heap.lt_size ho))
      exact e1.trans ((Heap.get?_update_ne _ _ _ _ hc).trans (Heap.get?_push_of_some _ ho))
    · have e1 := hs.2 x far
      exact e1.trans (Heap.get?_update_self _ old rfl)
end
end Exm
end PySem

/-! own exceptions as values: rules over the hand layer -/
namespace Exv
open PySem L2
/-- what the written part says of such a class: at C, its __init__ at fI stores the one field -/
structure ExT (K : PySem.W.Frag) (C fI : Addr) (fld : Str) (bmB : List Value) (newId : String) : Prop where
  ini : PySem.W.excInitIn K C bmB newId = true
  over : PySem.W.excOver K C bmB = true
  init : PySem.W.findIn K (.ref C) "__init__" = some (some (.ref fI))
  fn : PySem.W.typeIn K (.ref fI) = some (.type "function")
  sa : PySem.W.findIn K (.ref C) "__setattr__" = some (some (.builtin "object.__setattr__"))
  no : PySem.W.findIn K (.ref C) fld = some none
  hd : PySem.W.hasDictIn K C = true
  ga : PySem.W.findIn K (.ref C) "__getattribute__" = some (some (.builtin "BaseException.__getattribute__"))
  gg : PySem.W.findIn K (.ref C) "__getattr__" = some none
  ex : PySem.W.subIn K (.ref C) (.type "BaseException") = some true
  kp : PySem.W.keepIn K (.ref C) = true
section
variable {X : Cx} {pins : List (Addr × Obj)} {σ : St} {H : Hp} {s : Shared} {a C fI : Addr} {f : Str} {y : V} {u : Value} {Q : Unit → Shared → Prop} {E : Value → Shared → Prop} {A : Around} {B newId initId : String} {bmB bmF : List Value}
theorem taker_none {K : PySem.W.Frag} (h : PySem.W.findIn K (.ref C) f = some none) : PySem.W.takerIn K C f = some none := by
  unfold PySem.W.takerIn
  rw [h]
  rfl
/-- self.f = y, the first store -/
theorem put_field (T : ExT X.K C fI f bmB newId) (SB : StoreFacts B bmB "object.__setattr__" "object") (I : Inv X pins σ H s) (e : H a = some (exo a C none)) (ry : RelV y u)
    (h : ∀ dx s', H dx = none → dx ≠ a → Inv X pins σ (upd (upd H dx (exd dx [(f, y)])) a (exo a C (some dx))) s' → Q () s') : wpAny (model X.prog X.w) A (setAttr (.ref a) f u) Q E s := by
  obtain ⟨cd, hcd, hh⟩ := PySem.W.any_some T.hd
  obtain ⟨t1, ho⟩ := exo_at I.hok e
  obtain ⟨hp, gs, dr, tk, os⟩ := s
  refine PySem.W.set_plain I.kIn (ox := HandSPX.excO C t1) (od := none) ⟨ho, rfl, rfl, trivial⟩ T.sa ?_
  refine PySem.Exm.storeFirst SB I.kIn ho T.over hcd hh (taker_none T.no) fun h' t' dx old far ne hx hn => ?_
  have free : H dx = none := I.hok.fresh far
  have notD : ∀ {b : Addr} {o : Obj}, hp.get? b = some o → b ≠ dx := fun {b o} q => Nat.ne_of_lt (Nat.lt_of_lt_of_le (Heap.lt_size q) far)
  have notA : ∀ {b : Addr}, H b = none → b ≠ a := fun {b} n z => by
    rw [z, e] at n
    exact absurd n (by simp)
  have un : Un X.fs [] H (upd (upd H dx (exd dx [(f, y)])) a (exo a C (some dx))) hp h' := {
    keep := fun b o q n _ _ => old b o (notA n) q
    slot := fun b o q n _ _ => ⟨_, old b o (notA n) q⟩
    free := fun b o q n _ => by
      rw [upd_ne (notA n), upd_ne (notD q)]
      exact n
    there := fun b o q _ => by
      by_cases hb : b = a
      · exact ⟨_, hb ▸ hx⟩
      · exact ⟨_, old b o hb q⟩
    tups := fun b xs q => by
      rw [upd_ne (at_ne e q exo_tup), upd_ne (ne_of_none q free)]
      exact q
    frzs := fun b o v q => by
      rw [upd_ne (at_ne e q exo_frz), upd_ne (ne_of_none q free)]
      exact q
    tbls := fun b ps q => ⟨#[], by
      rw [upd_ne (at_ne e q exo_tbl), upd_ne (ne_of_none q free), q]
      simp⟩ }
  refine h dx _ free ne (I.un (t' := t') un fun b o q => ?_)
  by_cases hb : b = a
  · subst hb
    rw [upd_same] at q
    cases q
    exact exo_ok hx
  · rw [upd_ne hb] at q
    by_cases hd : b = dx
    · subst hd
      rw [upd_same] at q
      cases q
      exact exd_ok hn (relO_put (fs := []) ry fun g => True.intro)
    · rw [upd_ne hd] at q
      refine (I.hok b o q).stay (fun c v hc z => old c v ?_ z) (fun c hc => ?_) fun c xs hc => ?_
      · rcases hc with rfl | hc
        · exact hb
        · exact at_ne e hc exo_own
      · rw [upd_ne (at_ne e hc exo_own), upd_ne (ne_of_none hc free)]
        exact hc
      · rw [upd_ne (at_ne e hc exo_tup), upd_ne (ne_of_none hc free)]
        exact hc
end
/-- the built-in classes behind an own one: the maker's class among them -/
structure Base3 (bm : List Value) (B : String) : Prop where
  b : bm.contains (.type B) = true
  a : bm.contains (.type "AttributeError") = false
  n : bm.contains (.type "NameError") = false
/-- self.f = e in an __init__ -/
def tPutE (C : Addr) (f : Str) (to te : TE) : TS := fun D σ H => te σ H fun y H1 => to σ H1 fun x H2 => ∃ a : Addr, x = .ref a ∧ H2 a = some (exo a C none) ∧
  ∀ dx, H2 dx = none → dx ≠ a → D.nx σ (upd (upd H2 dx (exd dx [(f, y)])) a (exo a C (some dx)))
section
variable {X : Cx} {o e : Expr} {es : List Expr} {to te : TE} {ta : TA} {f x : Str} {p p' p1 p2 pos : Pos} {C fI : Addr} {B newId initId : String} {bmB bmF : List Value}
theorem ps_putE (T : ExT X.K C fI f bmB newId) (SB : StoreFacts B bmB "object.__setattr__" "object") (ho : PE X o to) (he : PE X e te) (hs : swapsWith e (some (.Attribute o f p')) pos.line X.env = pure false := by rfl) :
    PS X (.Assign [.Attribute o f p'] e pos) (tPutE C f to te) := by
  refine ⟨fun pins s σ H D I h => ?_⟩
  refine plainObj_wpAny_Assign_Attribute (thn (he.run pins s σ H _ I h) fun v s1 ⟨y, H1, I1, r1, q1⟩ => thn (ho.run pins s1 σ H1 _ I1 q1) fun u s2 ⟨z, H2, I2, r2, a, ez, ea, q⟩ => ?_) hs
  subst ez
  cases (show u = Value.ref a from r2)
  exact put_field T SB I2 ea r1 fun dx s' n ne J => ⟨σ, _, J, q dx n ne⟩
/-- a call of the class: the new exception, its __init__ run -/
theorem run_ex {CX : CXT} {pins : List (Addr × Obj)} {σ : St} {H : Hp} {s : Shared} {Q : VK} {us : List Value} {v : V} {u : Value} {k : Nat} {fd : FuncData} {ps : List Str} {sp : Sp} {kw : List (Str × Value)}
    (T : ExT X.K C fI f bmB newId) (FB : ExcBaseFacts B newId initId bmF) (hB : Base3 bmB B) (F : FnOk X.prog X.w X.K X.mg X.base CX k fI fd ps sp) (hr : Room (k + 1) X.A) (hx : Passes CX X E0)
    (I : Inv X pins σ H s) (few : us.length ≤ 1000) (rv : RelV v u) (hb : ∀ (s : Shared) (a : Addr), X.K.In s.heap → BindsTo s fd ⟨.ref a :: us, kw⟩ (ps.zip [.ref a, u]))
    (h : ∀ a, H a = none → sp [.ref a, v] (upd H a (exo a C none)) (fun z H2 => z = .non ∧ Q (.ref a) H2) E0) :
    wpAny (model X.prog X.w) X.A (call (.ref C) us kw) (EP X pins σ Q) X.xe s := by
  obtain ⟨nm, N, qn, bs, bm, hdct, sn, sub, ab, col, dd, k0, k1, k2, k3, k5, hC, tl⟩ := PySem.W.excInit_of I.kIn T.ini
  obtain ⟨hp, gs, dr, tk, os⟩ := s
  have sz : hp.objs.size ≤ hp.objs.size + 1 := Nat.le_succ _
  have new : H (hp.objs.size + 1) = none := I.hok.fresh sz
  have hq := h _ new
  have up : ∀ b o, hp.get? b = some o → ((hp.push (PySem.W.kdv_tup us)).push (HandSPX.excO C hp.objs.size)).get? b = some o := fun b o e => Heap.get?_push_of_some _ (Heap.get?_push_of_some _ e)
  have at2 : ((hp.push (PySem.W.kdv_tup us)).push (HandSPX.excO C hp.objs.size)).get? (hp.objs.size + 1) = some (HandSPX.excO C hp.objs.size) := by heap_get
  have I2 : Inv X pins σ (upd H (hp.objs.size + 1) (exo (hp.objs.size + 1) C none)) ⟨(hp.push (PySem.W.kdv_tup us)).push (HandSPX.excO C hp.objs.size), gs, dr, tk, os⟩ :=
    I.laid (t' := tk) (a := hp.objs.size + 1) (o := exo (hp.objs.size + 1) C none) up sz (exo_ok at2)
  have r2 : Vals [V.ref (hp.objs.size + 1), v] [Value.ref (hp.objs.size + 1), u] := .cons rfl (.cons rv .nil)
  have fewS : us.length ≤ sizeLine := by
    rw [sizeLine_eq]
    omega
  refine wpAny_call (PySem.Exm.runCls FB ((tl B).trans hB.b) ((tl _).trans hB.a) ((tl _).trans hB.n) hC fewS (PySem.W.looks_findIn I.kIn T.init) (fun self => PySem.W.bind_fn I.kIn self T.fn)
    (codeAny_mono (F.run _ X.stack _ _ ⟨Value.ref (hp.objs.size + 1) :: us, kw⟩ _ _ _ E0 (hr.make C us kw) (I2.env0.make C us kw) (hb _ _ I2.kIn) r2 hq) fun r s' q => ?_))
  cases r with
  | error x => exact hx pins σ _ _ x s' I2 q
  | ok fl =>
    cases fl with
    | ret w =>
      obtain ⟨z, H', J, rz, ez, q3⟩ := I2.after q
      subst ez
      exact ⟨rz, ⟨V.ref (hp.objs.size + 1), H', J, rfl, q3⟩⟩
    | next => exact q.elim
    | brk => exact q.elim
    | cont => exact q.elim
end
end Exv

namespace Exv
open PySem L2
/-- C(v), C(f=v): what the new exception's __init__ is to bring -/
def tNewE (C : Addr) (sp : Sp) (ta : TA) : TE := fun σ H Q => ta σ H fun vs H1 => ∃ v, vs = [v] ∧ ∀ a, H1 a = none → sp [.ref a, v] (upd H1 a (exo a C none)) (fun z H2 => z = .non ∧ Q (.ref a) H2) E0
section
variable {X : Cx} {o e : Expr} {ta : TA} {f x : Str} {p pos kpos : Pos} {C fI : Addr} {B newId initId : String} {bmB bmF : List Value} {CX : CXT} {k : Nat} {fd : FuncData} {ps : List Str} {sp : Sp}
theorem pe_newE (T : ExT X.K C fI f bmB newId) (FB : ExcBaseFacts B newId initId bmF) (hB : Base3 bmB B) (F : FnOk X.prog X.w X.K X.mg X.base CX k fI fd ps sp) (hr : Room (k + 1) X.A) (hx : Passes CX X E0) (hg : Gl X x) (hm : X.mg x = some (.ref C))
    (hb : ∀ (s : Shared) (a : Addr) (u : Value), X.K.In s.heap → BindsTo s fd ⟨[.ref a, u], []⟩ (ps.zip [.ref a, u])) (ha : PA X [e] ta)
    (hdb : (x == ("__debug__" : Str)) = false := by decide) (hs : starEach [e] X.env = (false, eval e X.env) :: starEach [] X.env := by rfl) (hpl : (backTo pos (starEach [] X.env)).any (·.1) = false := by rfl) :
    PE X (.Call (.Name x p) [e] [] pos) (tNewE C sp ta) := by
  refine ⟨fun pins s σ H Q I h => ?_⟩
  refine wpAny_Call_Name_kw (ld_glob I hg hm ?_ hdb)
  refine PySem.W.callWith_K (h₀ := X.base) I.ok.mod.kin T.kp (thn (ha.run pos pins s σ H _ I h) fun us s1 ⟨vs, H1, I1, r, v, ev, q⟩ => ⟨I1.kIn, ?_⟩) hs hpl
  subst ev
  cases r with
  | cons rv rn =>
    cases rn
    exact run_ex T FB hB F hr hx I1 (by show 1 ≤ 1000; decide) rv (fun s a X' => hb s a _ X') q
theorem pe_newEK (T : ExT X.K C fI f bmB newId) (FB : ExcBaseFacts B newId initId bmF) (hB : Base3 bmB B) (F : FnOk X.prog X.w X.K X.mg X.base CX k fI fd ps sp) (hr : Room (k + 1) X.A) (hx : Passes CX X E0) (hg : Gl X x) (hm : X.mg x = some (.ref C))
    (hb : ∀ (s : Shared) (a : Addr) (u : Value), X.K.In s.heap → BindsTo s fd ⟨[.ref a], [(f, u)]⟩ (ps.zip [.ref a, u])) (hkw : PK X [⟨some f, e, kpos⟩] ta)
    (hall : (backToKw pos (keywordEach [⟨some f, e, kpos⟩] X.env)).all (·.1.isSome) = true := by rfl) (hks : (backToKw pos (keywordEach [⟨some f, e, kpos⟩] X.env)).filterMap (·.1) = [f] := by rfl) (hdb : (x == ("__debug__" : Str)) = false := by decide)
    (hpl : ((backTo pos (starEach [] X.env)).any (·.1) || (backToKw pos (keywordEach [⟨some f, e, kpos⟩] X.env)).any (·.1.isNone)) = false := by rfl) :
    PE X (.Call (.Name x p) [] [⟨some f, e, kpos⟩] pos) (tNewE C sp ta) := by
  refine ⟨fun pins s σ H Q I h => ?_⟩
  refine wpAny_Call_Name_kw (ld_glob I hg hm ?_ hdb)
  refine PySem.W.callWith_KW0 (h₀ := X.base) I.ok.mod.kin T.kp hall ?_ hpl
  refine thn (hkw.run pos pins s σ H _ I h) fun ws s2 ⟨zs, H2, I2, rz, v, ev, q⟩ => ⟨I2.kIn, ?_⟩
  rw [hks]
  subst ev
  cases rz with
  | cons rv rn =>
    cases rn
    exact run_ex (us := []) T FB hB F hr hx I2 (Nat.zero_le _) rv (fun s a X' => hb s a _ X') q
/-- C(), an own exception class without __init__ -/
theorem pe_new0 {bmC : List Value} (FB : ExcBaseFacts B newId initId bmB) (q : PySem.W.excIn X.K C bmB newId = true) (kp : PySem.W.keepIn X.K (.ref C) = true) (hg : Gl X x) (hm : X.mg x = some (.ref C)) (hdb : (x == ("__debug__" : Str)) = false := by decide) :
    PE X (.Call (.Name x p) [] [] pos) (fun _ H Q => ∀ a, H a = none → Q (.ref a) (upd H a (exo a C none))) := by
  refine ⟨fun pins s σ H Q I h => ?_⟩
  refine wpAny_Call_Name_kw (ld_glob I hg hm ?_ hdb)
  refine PySem.W.callWith_K0 I.kIn kp ?_
  obtain ⟨bm, N, nm, qn, bs, hdct, sn, sub, ab, col, dd, k0, k1, k2, k3, k5, mN, hC, hN, hni, T⟩ := exc_obj I.kIn q
  refine wpAny_call_exc_subT FB T hC hN hni (fun h' a hm => ?_) (Nat.zero_le _)
  have new : H a = none := I.hok.gone hm.new
  obtain ⟨t, ht, _, _⟩ := hm.there
  exact ⟨.ref a, upd H a (exo a C none), I.laidN hm.keeps hm.new new (exo_ok ht), rfl, h a new⟩
/-- what is asked of an own exception class whose instances are read, or asked about -/
structure IsT (K : PySem.W.Frag) (C : Addr) : Prop where
  hd : PySem.W.hasDictIn K C = true
  ga : PySem.W.findIn K (.ref C) "__getattribute__" = some (some (.builtin "BaseException.__getattribute__"))
  gg : PySem.W.findIn K (.ref C) "__getattr__" = some none
  ex : PySem.W.subIn K (.ref C) (.type "BaseException") = some true
  cl : PySem.W.findIn K (.ref C) "__class__" = some (some (.builtin "object.__class__"))
  sp : PySem.W.specialIn K (.builtin "object.__class__") "__get__" = some (some (.builtin "getset_descriptor.__get__"))
  tk : PySem.W.takesIn K (.builtin "object.__class__") = some true
  mr : PySem.W.mroIn K C (.type "object") = some true
/-- e.f, e an own exception that has the field -/
def tAtE (K : PySem.W.Frag) (f : Str) (te : TE) : TE := fun σ H Q => te σ H fun x H1 => ∃ (a C d : Addr) (fs : List (Str × V)) (v : V), x = .ref a ∧ IsT K C ∧ PySem.W.findIn K (.ref C) f = some none ∧
  H1 a = some (exo a C (some d)) ∧ H1 d = some (exd d fs) ∧ fs.lookup f = some v ∧ Q v H1
theorem pe_atE {te : TE} (he : PE X e te) (hb : attributeBase e f X.env (eval e X.env) = eval e X.env := by rfl) : PE X (.Attribute e f pos) (tAtE X.K f te) := by
  refine ⟨fun pins s σ H Q I h => ?_⟩
  refine attr_of hb (thn (he.run pins s σ H _ I h) fun u s1 ⟨z, H1, I1, r1, a, C, d, fs, v, ez, T, no, ea, ed, l, q⟩ => ?_)
  subst ez
  cases (show u = Value.ref a from r1)
  obtain ⟨t1, ha⟩ := exo_at I1.hok ea
  obtain ⟨mA, hns, rel⟩ := exd_at I1.hok ed
  obtain ⟨od, hod, hl⟩ := lookIn_ns hns
  obtain ⟨w, hw, rw'⟩ := RelO.some_of (v := v) (o := mA f) (by rw [← l]; exact rel f)
  have J : PySem.W.InstAt s1.heap a ({ cls := .ref C, dict := some d, data := .fields #[.ref t1, .none, .none, .none, .bool false, .none] } : Obj) C (some od) := ⟨ha, rfl, rfl, hod⟩
  exact HandSPX.exc_get I1.kIn J T.ga T.gg T.ex (PySem.W.findObj_own T.hd no rfl (by rw [hl, hw])) (handed_of rw') ⟨v, H1, I1.tok _, rw', q⟩
/-- isinstance(e, c) -/
def rIsX (K : PySem.W.Frag) : List V → Hp → VK → Prop := fun xs H Q => ∃ (a C : Addr) (c : V) (cv : Value) (b : Bool), xs = [.ref a, c] ∧ ClsV c cv ∧ IsT K C ∧ PySem.W.kitOne K (.ref C) cv = some b ∧
  (H a = some (exo a C none) ∨ ∃ d fs, H a = some (exo a C (some d)) ∧ H d = some (exd d fs)) ∧ Q (.bl b) H
theorem call_isX : CallR X (.builtin "isinstance") (rIsX X.K) := by
  intro pins s σ H xs us Q I r h
  obtain ⟨a, C, c, cv, b, rfl, k, T, e, ea, q⟩ := h
  obtain ⟨u1, u2, rfl, r1, r2⟩ := vals2 r
  cases (show u1 = Value.ref a from r1)
  have e2 := k.eq r2
  subst e2
  have hcl : (PySem.W.clsIn X.K C).isSome = true := by
    obtain ⟨cd, hcd, _⟩ := PySem.W.any_some T.hd
    rw [hcd]
    rfl
  rcases ea with ea | ⟨d, fs, ea, ed⟩
  · obtain ⟨t1, ha⟩ := exo_at I.hok ea
    have J : PySem.W.InstAt s.heap a (HandSPX.excO C t1) C none := ⟨ha, rfl, rfl, trivial⟩
    exact PySem.W.kia_one (PySem.W.kitx_exc hcl T.ga T.gg T.ex T.cl T.sp T.tk T.mr) I.kIn J e (fun z => nomatch z) fun tk => ⟨.bl b, H, I.tok tk, rfl, q⟩
  · obtain ⟨t1, ha⟩ := exo_at I.hok ea
    obtain ⟨mA, hns, rel⟩ := exd_at I.hok ed
    obtain ⟨od, hod, _⟩ := lookIn_ns hns
    have J : PySem.W.InstAt s.heap a ({ cls := .ref C, dict := some d, data := .fields #[.ref t1, .none, .none, .none, .bool false, .none] } : Obj) C (some od) := ⟨ha, rfl, rfl, hod⟩
    exact PySem.W.kia_one (PySem.W.kitx_exc hcl T.ga T.gg T.ex T.cl T.sp T.tk T.mr) I.kIn J e (fun z => nomatch z) fun tk => ⟨.bl b, H, I.tok tk, rfl, q⟩
end
end Exv

namespace Exv
open PySem
abbrev bmKey : List Value := [.type "KeyError", .type "LookupError", .type "Exception", .type "BaseException", .type "object"]
abbrev bmExc : List Value := [.type "Exception", .type "BaseException", .type "object"]
theorem base3E : Base3 bmExc "Exception" := ⟨by decide +kernel, by decide +kernel, by decide +kernel⟩
theorem base3K : Base3 bmKey "LookupError" := ⟨by decide +kernel, by decide +kernel, by decide +kernel⟩
theorem keyStore : StoreFacts "KeyError" bmKey "object.__setattr__" "object" where
  mro := by kernel_rfl
  slot := (.of (owner := "object") (n := "__setattr__") (by rw [typeLookup_type, builtinLookup_eq_fast]; kernel_rfl) (by decide +kernel) (by decide +kernel) (by decide +kernel) (by first | exact .inl (by decide +kernel) | exact .inr (by decide +kernel)) (by rw [isSubtype_type]; kernel_rfl))
  entry := PySem.F.entry_object_sa
  kind := by decide +kernel
  split := by decide +kernel
  hasOwner := by decide +kernel
  args := fun x y z => by { unfold argsOk; kernel_rfl }
  passes := fun x => by kernel_rfl
end Exv

namespace Exv
open PySem L2
section
variable {X : Cx} {pins : List (Addr × Obj)} {σ : St} {H : Hp} {s : Shared}
/-- an exception's own dict, read as such -/
theorem Inv.asDict {d : Addr} {fs : List (Str × V)} (I : Inv X pins σ H s) (e : H d = some (exd d fs)) : Inv X pins σ (upd H d (.xd fs)) s := by
  have un : Un X.fs [] H (upd H d (.xd fs)) s.heap s.heap := {
    keep := fun b o q n _ _ => q
    slot := fun b o q n _ _ => ⟨_, q⟩
    free := fun b o q n _ => by
      rw [upd_ne (fun z => by rw [z, e] at n; cases n)]
      exact n
    there := fun b o q _ => ⟨_, q⟩
    tups := fun b xs q => by
      rw [upd_ne (at_ne e q exd_tup)]
      exact q
    frzs := fun b o v q => by
      rw [upd_ne (at_ne e q (fun z => by
        have z' : HO.ext _ = HO.frz o v := z
        cases z'))]
      exact q
    tbls := fun b ps q => ⟨#[], by
      rw [upd_ne (at_ne e q (fun z => by
        have z' : HO.ext _ = HO.tbl ps := z
        cases z')), q]
      simp⟩ }
  have J := I.un (t' := s.toks) un fun b o q => ?_
  · exact J
  · by_cases hb : b = d
    · subst hb
      rw [upd_same] at q
      cases q
      exact exd_at I.hok e
    · rw [upd_ne hb] at q
      refine (I.hok b o q).stay (fun c v _ z => z) (fun c hc => ?_) fun c xs hc => ?_
      · rw [upd_ne (at_ne e hc exd_own)]
        exact hc
      · rw [upd_ne (at_ne e hc exd_tup)]
        exact hc
end
/-- what is asked of a new own exception that is to be raised -/
def tMkE (K : PySem.W.Frag) (H0 : Hp) (te : TE) : St → Hp → XK → Prop := fun σ H Q => te σ H fun x H1 => ∃ (a C : Addr), x = .ref a ∧ Fr0 H0 a ∧ PySem.W.subIn K (.ref C) (.type "BaseException") = some true ∧ PySem.W.typeIn K (.ref C) = some (.type "type") ∧
  ((H1 a = some (exo a C none) ∧ Q (.ref C) none (delH H1 a)) ∨ ∃ d fs, d ≠ a ∧ H1 a = some (exo a C (some d)) ∧ H1 d = some (exd d fs) ∧ Q (.ref C) (some d) (upd (delH H1 a) d (.xd fs)))
/-- an expression that gives a new own exception makes an exception -/
theorem pmk_newE {X : Cx} {e : Expr} {te : TE} (hx : X.ex = []) (he : PE X e te) : PMk X e (tMkE X.K X.H_0 te) := by
  intro pins s σ H Q I h
  refine wpAny_mono (he.run pins s σ H _ I h) (fun u s1 hu => ?_) fun _ _ z => z
  obtain ⟨v, H1, I1, r1, a, C, rfl, h0, hr1, hr2, h1⟩ := hu
  cases (show u = Value.ref a from r1)
  have hr : Raises X (.ref C) := raises_own hr1 hr2
  rcases h1 with ⟨ea, q⟩ | ⟨d, fs, ne, ea, ed, q⟩
  · obtain ⟨t1, ha⟩ := exo_at I1.hok ea
    obtain ⟨G, gs, ga, J⟩ := Inv.untrack I1 ea h0 hx
    exact ⟨a, _, _, { s1 with heap := G }, delH H1 a, .ref C, none, rfl, J, gs, ga, ha, ⟨rfl, rfl⟩, rfl, rfl, delH_same, rfl, I1.bare, hr, q⟩
  · obtain ⟨t1, ha⟩ := exo_at I1.hok ea
    obtain ⟨G, gs, ga, J⟩ := Inv.untrack I1 ea h0 hx
    have ed' : delH H1 a d = some (exd d fs) := by rw [delH_ne ne]; exact ed
    have J2 := Inv.asDict J ed'
    exact ⟨a, _, _, { s1 with heap := G }, upd (delH H1 a) d (.xd fs), .ref C, some d, rfl, J2, gs, ga, ha, ⟨rfl, rfl⟩, rfl, rfl, by rw [upd_ne (Ne.symm ne), delH_same], rfl, I1.bare, hr, q⟩
end Exv

/-! calls by one keyword; isinstance of a caught error with a dict of its own; InvalidNode -/
namespace Xr
open PySem PySem.Spec PyProof.Rows L2 Exv
section
variable {X : Cx} {CX : CXT} {k : Nat} {f : Addr} {fd : FuncData} {pm : Str} {sp : Sp} {E : L2.St → XK} {x kn : Str} {p pos kpos : Pos} {e : Expr} {ta : TA}
/-- f(name=e), the one parameter -/
theorem pe_kw0 (F : FnOk X.prog X.w X.K X.mg X.base CX k f fd [pm] sp) (hr : Room k X.A) (hg : Gl X x) (hm : X.mg x = some (.ref f)) (kp : PySem.W.keepIn X.K (.ref f) = true) (hb : ∀ (s : Shared) (u : Value), BindsTo s fd ⟨[], [(kn, u)]⟩ [(pm, u)])
    (hx : ∀ σ, PassesAt CX X σ (E σ)) (hkw : PK X [⟨some kn, e, kpos⟩] ta)
    (hall : (backToKw pos (keywordEach [⟨some kn, e, kpos⟩] X.env)).all (·.1.isSome) = true := by rfl) (hks : (backToKw pos (keywordEach [⟨some kn, e, kpos⟩] X.env)).filterMap (·.1) = [kn] := by rfl) (hdb : (x == ("__debug__" : Str)) = false := by decide)
    (hpl : ((backTo pos (starEach [] X.env)).any (·.1) || (backToKw pos (keywordEach [⟨some kn, e, kpos⟩] X.env)).any (·.1.isNone)) = false := by rfl) :
    PE X (.Call (.Name x p) [] [⟨some kn, e, kpos⟩] pos) (tCallS sp E ta) := by
  refine ⟨fun pins s σ H Q I h => ?_⟩
  refine wpAny_Call_Name_kw (ld_glob I hg hm ?_ hdb)
  refine PySem.W.callWith_KW0 (h₀ := X.base) I.ok.mod.kin kp hall ?_ hpl
  refine thn (hkw.run pos pins s σ H _ I h) fun ws s2 ⟨zs, H2, I2, rz, q⟩ => ⟨I2.kIn, ?_⟩
  rw [hks]
  have q' : sp zs H2 Q (E σ) := q
  have lens : ws.length = 1 := by
    rw [← rz.length]
    exact F.len _ _ _ _ q'
  obtain ⟨u, rfl⟩ : ∃ u, ws = [u] := by
    match ws, lens with
    | [u], _ => exact ⟨u, rfl⟩
  refine wpAny_call (codeAny_mono (F.run X.A X.stack s2 H2 ⟨[], [(kn, u)]⟩ [u] zs Q (E σ) hr I2.env0 (hb s2 u) rz q') fun r s' hq => ?_)
  cases r with
  | error e => exact hx σ pins H2 s2 e s' I2 hq
  | ok fl =>
    cases fl with
    | ret u => exact I2.after hq
    | next => exact False.elim hq
    | brk => exact False.elim hq
    | cont => exact False.elim hq
theorem at0 {CX : CXT} {X : Cx} {E : XK} (h : Passes CX X E) (σ : L2.St) : PassesAt CX X σ E := fun pins H s e s' I c => h pins σ H s e s' I c
/-- isinstance(e, c), e the caught error, its class and dict by the reading -/
def rIsED (K : PySem.W.Frag) (a : Addr) (cls : Value) (d : Option Addr) : List V → Hp → VK → Prop := fun xs H Q => ∃ (C : Addr) (c : V) (cv : Value) (b : Bool) (dd : Addr) (fs : List (Str × V)), cls = .ref C ∧ xs = [.ref a, c] ∧ ClsV c cv ∧ IsT K C ∧ PySem.W.kitOne K (.ref C) cv = some b ∧
  d = some dd ∧ H dd = some (.xd fs) ∧ Q (.bl b) H
theorem call_isED {a : Addr} {oe : Obj} {cls : Value} {d : Option Addr} {pn : List (Addr × Obj)} (hz : Zc cls d oe) (hf : ∃ vs, oe.data = .fields vs) : CallR (X.suite a ((a, oe) :: pn)) (.builtin "isinstance") (rIsED X.K a cls d) := by
  intro pins s σ H xs us Q I r h
  obtain ⟨C, c, cv, b, dd, fs, ec, rfl, k, T, e, ed, ea, q⟩ := h
  obtain ⟨u1, u2, rfl, r1, r2⟩ := vals2 r
  cases (show u1 = Value.ref a from r1)
  have e2 := k.eq r2
  subst e2
  subst ec
  subst ed
  obtain ⟨ha, _⟩ := I.pin (a, oe) (List.mem_append_left _ List.mem_cons_self)
  obtain ⟨vs, hd⟩ := hf
  have hx : ObjOk X.prog X.w H s.heap dd (.xd fs) := I.hok dd _ ea
  obtain ⟨mA, hns, hr⟩ := hx
  obtain ⟨od, ho, hl⟩ := lookIn_ns hns
  have hcl : (PySem.W.clsIn X.K C).isSome = true := by
    obtain ⟨cd, hcd, _⟩ := PySem.W.any_some T.hd
    rw [hcd]
    rfl
  have J : PySem.W.InstAt s.heap a oe C (some od) := ⟨ha, hz.1, by unfold PySem.W.notCls; rw [hd] <;> rfl, by rw [hz.2]; exact ho⟩
  exact PySem.W.kia_one (PySem.W.kitx_exc hcl T.ga T.gg T.ex T.cl T.sp T.tk T.mr) I.kIn J e (fun z => nomatch z) fun tk => ⟨.bl b, H, I.tok tk, rfl, q⟩
/-- isinstance(e, (c1, c2)), e the caught error, its class and dict by the reading -/
def rIsEDT (K : PySem.W.Frag) (a : Addr) (cls : Value) (d : Option Addr) : List V → Hp → VK → Prop := fun xs H Q => ∃ (C tp : Addr) (cs : List V) (us : List Value) (b : Bool) (dd : Addr) (fs : List (Str × V)), cls = .ref C ∧ xs = [.ref a, .ref tp] ∧ H tp = some (.tup cs) ∧ Paired ClsV cs us ∧ IsT K C ∧ PySem.W.kitAny K (.ref C) us = some b ∧
  d = some dd ∧ H dd = some (.xd fs) ∧ Q (.bl b) H
theorem call_isEDT {a : Addr} {oe : Obj} {cls : Value} {d : Option Addr} {pn : List (Addr × Obj)} (hz : Zc cls d oe) (hf : ∃ vs, oe.data = .fields vs) : CallR (X.suite a ((a, oe) :: pn)) (.builtin "isinstance") (rIsEDT X.K a cls d) := by
  intro pins s σ H xs us Q I r h
  obtain ⟨C, tp, cs, ws, b, dd, fs, ec, rfl, hT, k, T, e, ed, ea, q⟩ := h
  obtain ⟨u1, u2, rfl, r1, r2⟩ := vals2 r
  cases (show u1 = Value.ref a from r1)
  cases (show u2 = Value.ref tp from r2)
  subst ec
  subst ed
  obtain ⟨ha, _⟩ := I.pin (a, oe) (List.mem_append_left _ List.mem_cons_self)
  obtain ⟨vs, hd⟩ := hf
  have hx : ObjOk X.prog X.w H s.heap dd (.xd fs) := I.hok dd _ ea
  obtain ⟨mA, hns, hr⟩ := hx
  obtain ⟨od, ho, hl⟩ := lookIn_ns hns
  have hcl : (PySem.W.clsIn X.K C).isSome = true := by
    obtain ⟨cd, hcd, _⟩ := PySem.W.any_some T.hd
    rw [hcd]
    rfl
  have J : PySem.W.InstAt s.heap a oe C (some od) := ⟨ha, hz.1, by unfold PySem.W.notCls; rw [hd] <;> rfl, by rw [hz.2]; exact ho⟩
  obtain ⟨_, its, rv, o, h1, h2, n, h3⟩ := (show ObjOk X.prog X.w H s.heap tp (.tup cs) from I.hok tp _ hT)
  have e3 := ClsV.all k rv
  subst e3
  obtain ⟨oc, od2, dt, sl⟩ := o
  simp only at h2 h3
  subst h2 h3
  exact PySem.W.kia_tup (PySem.W.kitx_exc hcl T.ga T.gg T.ex T.cl T.sp T.tk T.mr) I.kIn J h1 e (fun z => nomatch z) fun tk => ⟨.bl b, H, I.tok tk, rfl, q⟩
end
end Xr

/-! texts of documents -/
namespace K1
open PySem L2 Xr
mutual
/-- the signs of a thing's text -/
def Doc.ch : Doc → List Nat
  | .txt z => 34 :: (z.cps.toList ++ [34])
  | .nod x ts => x.cps.toList ++ 40 :: ((chT ts).tail ++ [41])
/-- the texts of things, a blank ahead of each -/
def chT : List Doc → List Nat
  | [] => []
  | t :: ts => 32 :: (t.ch ++ chT ts)
end
def strOf (l : List Nat) : Str := ⟨l.toArray⟩
theorem strOf_cps (l : List Nat) : (strOf l).cps.toList = l := by simp [strOf]
theorem strOf_len (l : List Nat) : (strOf l).length = l.length := by
  show l.toArray.size = l.length
  simp
theorem strOf_eq (z : Str) : strOf z.cps.toList = z := by
  cases z
  simp [strOf]
theorem str_ext {a b : Str} (h : a.cps.toList = b.cps.toList) : a = b := by rw [← strOf_eq a, ← strOf_eq b, h]
theorem strOf_app (a b : List Nat) : strOf a ++ strOf b = strOf (a ++ b) := str_ext (by rw [cps_app, strOf_cps, strOf_cps, strOf_cps])
def Doc.tx (t : Doc) : Str := strOf t.ch
def txAll (ts : List Doc) : Str := strOf (chT ts).tail
theorem chT_map : ∀ ts : List Doc, chT ts = (ts.map fun t => 32 :: t.ch).flatten
  | [] => rfl
  | t :: ts => by
    show 32 :: (t.ch ++ chT ts) = _
    rw [chT_map ts]
    rfl
theorem join_sp : ∀ ys : List Str, (Str.join (Str.ofString " ") ys).cps.toList = ((ys.map fun y => 32 :: y.cps.toList).flatten).tail
  | [] => rfl
  | [y] => by
    show y.cps.toList = _
    simp
  | y :: y2 :: r => by
    have ih := join_sp (y2 :: r)
    have e : Str.join (Str.ofString " ") (y :: y2 :: r) = y ++ Str.ofString " " ++ Str.join (Str.ofString " ") (y2 :: r) := rfl
    have t0 : (Str.ofString " ").cps.toList = [32] := by decide +kernel
    rw [e, cps_app, cps_app, ih, t0]
    simp
theorem join_tx (ts : List Doc) : Txt.join (Str.ofString " ") (ts.map Doc.tx) = txAll ts := by
  show Builtin.Str.glued (Str.ofString " ") (ts.map Doc.tx) = _
  rw [StrLaws.glued_eq_join]
  refine str_ext ?_
  rw [join_sp, txAll, strOf_cps, chT_map, List.map_map]
  have e : ((fun y => 32 :: y.cps.toList) ∘ Doc.tx) = fun (t : Doc) => 32 :: t.ch := by
    funext t
    show 32 :: (strOf t.ch).cps.toList = _
    rw [strOf_cps]
  rw [e]
theorem tx_txt (z : Str) : Str.ofString "\"" ++ z ++ Str.ofString "\"" = (Doc.txt z).tx := by
  refine str_ext ?_
  have t0 : (Str.ofString "\"").cps.toList = [34] := by decide +kernel
  rw [cps_app, cps_app, t0]
  show [34] ++ z.cps.toList ++ [34] = (strOf (34 :: (z.cps.toList ++ [34]))).cps.toList
  rw [strOf_cps]
  rfl
theorem tx_nod (x : Str) (ts : List Doc) : x ++ Str.ofString "(" ++ txAll ts ++ Str.ofString ")" = (Doc.nod x ts).tx := by
  refine str_ext ?_
  have t0 : (Str.ofString "(").cps.toList = [40] := by decide +kernel
  have t1 : (Str.ofString ")").cps.toList = [41] := by decide +kernel
  rw [cps_app, cps_app, cps_app, t0, t1]
  show x.cps.toList ++ [40] ++ (strOf (chT ts).tail).cps.toList ++ [41] = (strOf (x.cps.toList ++ 40 :: ((chT ts).tail ++ [41]))).cps.toList
  rw [strOf_cps, strOf_cps]
  simp
theorem cps_len (z : Str) : z.cps.toList.length = z.length := by
  show z.cps.toList.length = z.cps.size
  simp
mutual
theorem ch_len : ∀ t : Doc, t.ok → t.ch.length + 1 ≤ 21 * t.cnt ∧ 0 < t.ch.length
  | .txt z, h => by
    obtain ⟨a, b⟩ := text_facts (show textD (.str z) = true from h)
    have e : (Doc.txt z).ch.length = z.cps.toList.length + 2 := by
      show (34 :: (z.cps.toList ++ [34])).length = _
      simp
    rw [e, cps_len]
    show z.length + 2 + 1 ≤ 21 * 1 ∧ 0 < _
    omega
  | .nod x ts, h => by
    obtain ⟨sx, lx⟩ := name_facts h.1
    have i := chT_len ts h.2
    have e : (Doc.nod x ts).ch.length = x.cps.toList.length + ((chT ts).tail.length + 2) := by
      show (x.cps.toList ++ 40 :: ((chT ts).tail ++ [41])).length = _
      simp
    rw [e, cps_len, List.length_tail]
    show _ ≤ 21 * (1 + cntD ts) ∧ 0 < _
    omega
theorem chT_len : ∀ ts : List Doc, okD ts → (chT ts).length ≤ 21 * cntD ts
  | [], _ => Nat.le_refl _
  | t :: ts, h => by
    have a := ch_len t h.1
    have b := chT_len ts h.2
    show (32 :: (t.ch ++ chT ts)).length ≤ 21 * (t.cnt + cntD ts)
    rw [List.length_cons, List.length_append]
    have := cnt_pos t
    omega
end
end K1

/-! all things of a forest, as they are read; texts built from behind -/
namespace K1
open PySem L2 Xr
mutual
def Doc.pre : Doc → List Doc
  | .txt z => [.txt z]
  | .nod x ts => .nod x ts :: preAll ts
def preAll : List Doc → List Doc
  | [] => []
  | t :: ts => t.pre ++ preAll ts
end
def Doc.kids : Doc → List Doc
  | .txt _ => []
  | .nod _ ts => ts
theorem preAll_app : ∀ ts us : List Doc, preAll (ts ++ us) = preAll ts ++ preAll us
  | [], _ => rfl
  | t :: ts, us => by
    show t.pre ++ preAll (ts ++ us) = (t.pre ++ preAll ts) ++ preAll us
    rw [preAll_app ts us, List.append_assoc]
theorem preAll_cons (g : Doc) (gs : List Doc) : preAll (g :: gs) = g :: preAll (g.kids ++ gs) := by
  rw [preAll_app]
  cases g with
  | txt z => rfl
  | nod x ts => rfl
theorem cnt_kids (g : Doc) (gs : List Doc) : cntD (g :: gs) = 1 + cntD (g.kids ++ gs) := by
  rw [cntD_app]
  cases g with
  | txt z =>
    show 1 + cntD gs = 1 + (0 + cntD gs)
    omega
  | nod x ts =>
    show 1 + cntD ts + cntD gs = 1 + (cntD ts + cntD gs)
    omega
theorem preAll_len : ∀ (n : Nat) (fs : List Doc), cntD fs ≤ n → (preAll fs).length = cntD fs
  | _, [], _ => rfl
  | 0, g :: gs, h => by
    have := cnt_kids g gs
    omega
  | n + 1, g :: gs, h => by
    have e := cnt_kids g gs
    rw [preAll_cons, List.length_cons, preAll_len n _ (by omega)]
    omega
theorem suf : ∀ (n : Nat) (gs P S : List Doc) (u : Doc), cntD gs ≤ n → preAll gs = P ++ u :: S → ∃ r, S = preAll (u.kids ++ r)
  | _, [], P, S, u, _, h => by
    have h' : ([] : List Doc) = P ++ u :: S := h
    simp at h'
  | 0, g :: gs, _, _, _, h, _ => by
    have := cnt_kids g gs
    omega
  | n + 1, g :: gs, P, S, u, hl, h => by
    have e := cnt_kids g gs
    rw [preAll_cons] at h
    cases P with
    | nil =>
      injection h with h1 h2
      subst h1
      exact ⟨gs, h2.symm⟩
    | cons p P =>
      injection h with h1 h2
      exact suf n (g.kids ++ gs) P S u (by omega) h2
theorem preAll_inj : ∀ (n : Nat) (fs gs : List Doc), cntD fs ≤ n → preAll fs = preAll gs → fs = gs
  | _, [], [], _, _ => rfl
  | _, [], g :: gs, _, h => by
    rw [preAll_cons] at h
    cases h
  | _, f :: fs, [], _, h => by
    rw [preAll_cons] at h
    cases h
  | 0, f :: fs, _, h, _ => by
    have := cnt_kids f fs
    omega
  | n + 1, f :: fs, g :: gs, hl, h => by
    have e := cnt_kids f fs
    rw [preAll_cons, preAll_cons] at h
    injection h with h1 h2
    subst h1
    have := preAll_inj n (f.kids ++ fs) (f.kids ++ gs) (by omega) h2
    rw [List.append_cancel_left this]
theorem cnt_pre : ∀ (n : Nat) (fs : List Doc), cntD fs ≤ n → ∀ u ∈ preAll fs, u.cnt ≤ cntD fs
  | _, [], _, u, h => by
    have h' : u ∈ ([] : List Doc) := h
    simp at h'
  | 0, g :: gs, h, _, _ => by
    have := cnt_kids g gs
    omega
  | n + 1, g :: gs, hl, u, h => by
    have e := cnt_kids g gs
    rw [preAll_cons] at h
    rcases List.mem_cons.mp h with h | h
    · rw [h]
      show g.cnt ≤ g.cnt + cntD gs
      omega
    · have := cnt_pre n (g.kids ++ gs) (by omega) u h
      omega
theorem ok_kids {g : Doc} {gs : List Doc} (h : okD (g :: gs)) : okD (g.kids ++ gs) := by
  refine (okD_app _ _).mpr ⟨?_, h.2⟩
  cases g with
  | txt z => trivial
  | nod x ts => exact h.1.2
theorem ok_pre : ∀ (n : Nat) (fs : List Doc), cntD fs ≤ n → okD fs → ∀ u ∈ preAll fs, u.ok
  | _, [], _, _, u, h => by
    have h' : u ∈ ([] : List Doc) := h
    simp at h'
  | 0, g :: gs, h, _, _, _ => by
    have := cnt_kids g gs
    omega
  | n + 1, g :: gs, hl, ho, u, h => by
    have e := cnt_kids g gs
    rw [preAll_cons] at h
    rcases List.mem_cons.mp h with h | h
    · rw [h]
      exact ho.1
    · exact ok_pre n (g.kids ++ gs) (by omega) (ok_kids ho) u h
abbrev sTaken : Stmt := top 5
theorem scTaken : FnScope ["made", "many", "start", "found"] ["made", "many"] (defScope sTaken) := ⟨rfl, rfl, rfl, by decide +kernel, rfl, by decide +kernel, by decide +kernel⟩
abbrev sAll : Stmt := top 11
theorem scAll : FnScope ["forest", "waiting", "things", "thing"] ["forest"] (defScope sAll) := ⟨rfl, rfl, rfl, by decide +kernel, rfl, by decide +kernel, by decide +kernel⟩
abbrev sBuilt : Stmt := top 12
theorem scBuilt : FnScope ["thing", "of_text", "of_node", "made", "part"] ["thing", "of_text", "of_node"] (defScope sBuilt) := ⟨rfl, rfl, rfl, by decide +kernel, rfl, by decide +kernel, by decide +kernel⟩
abbrev sQuoted : Stmt := top 18
theorem scQuoted : FnScope ["text"] ["text"] (defScope sQuoted) := ⟨rfl, rfl, rfl, by decide +kernel, rfl, by decide +kernel, by decide +kernel⟩
abbrev sNodeText : Stmt := top 19
theorem scNodeText : FnScope ["name", "texts"] ["name", "texts"] (defScope sNodeText) := ⟨rfl, rfl, rfl, by decide +kernel, rfl, by decide +kernel, by decide +kernel⟩
abbrev sThingText : Stmt := top 17
theorem scThingText : FnScope ["thing"] ["thing"] (defScope sThingText) := ⟨rfl, rfl, rfl, by decide +kernel, rfl, by decide +kernel, by decide +kernel⟩
abbrev sForestText : Stmt := top 20
theorem scForestText : FnScope ["forest", "thing"] ["forest"] (defScope sForestText) := ⟨rfl, rfl, rfl, by decide +kernel, rfl, by decide +kernel, by decide +kernel⟩
def spTaken (K : PySem.W.Frag) : Sp := fun vs H Q _ => ∃ (m : Addr) (xs ys : List V), vs = [.ref m, .int (ys.length : Int)] ∧ H m = some (.lst (xs ++ ys)) ∧ xs.length + ys.length ≤ 900000 ∧
  ∀ (p : Addr) (H' : Hp), H' m = some (.lst xs) → H' p = some (.lst ys.reverse) → H p = none → (∀ q o, H q = some o → q ≠ m → H' q = some o) → Q (.ref p) H'
def spAllT (K : PySem.W.Frag) : Sp := fun vs H Q _ => ∃ (v : V) (ts : List Doc) (N : Addr → Prop), vs = [v] ∧ Dm K N H v (.tuple (datAll ts)) ∧ cntD ts ≤ 900000 ∧
  ∀ (p : Addr) (us : List V) (H' : Hp), H' p = some (.lst us) → DmAll K N H' us (datAll (preAll ts)) → H p = none → Same H H' → Q (.ref p) H'
def spQuoted : Sp := fun vs H Q _ => ∃ (z : Str), vs = [.str z] ∧ z.length ≤ 1000 ∧ Q (.str (Doc.txt z).tx) H
def spNodeText : Sp := fun vs H Q _ => ∃ (x : Str) (p : Addr) (ts : List Doc), vs = [.str x, .ref p] ∧ H p = some (.lst (ts.map fun t => V.str t.tx)) ∧ x.length ≤ 1000 ∧ okD ts ∧ cntD ts ≤ 1000 ∧ Q (.str (Doc.nod x ts).tx) H
def spText1 (K : PySem.W.Frag) : Sp := fun vs H Q _ => ∃ (v : V) (t : Doc) (N : Addr → Prop), vs = [v] ∧ Dm K N H v t.dat ∧ t.ok ∧ t.cnt ≤ 900 ∧ (∀ a, N a → Trk H a) ∧ ∀ H', Same H H' → Q (.str t.tx) H'
def spBuilt (K : PySem.W.Frag) (aq an : Addr) : Sp := fun vs H Q _ => ∃ (v : V) (t : Doc) (N : Addr → Prop), vs = [v, .ref aq, .ref an] ∧ Dm K N H v t.dat ∧ t.ok ∧ t.cnt ≤ 900 ∧ (∀ a, N a → Trk H a) ∧ ∀ H', Same H H' → Q (.str t.tx) H'
def spForest (K : PySem.W.Frag) : Sp := fun vs H Q _ => ∃ (v : V) (ts : List Doc) (N : Addr → Prop), vs = [v] ∧ Dm K N H v (.tuple (datAll ts)) ∧ okD ts ∧ cntD ts ≤ 900 ∧ (∀ a, N a → Trk H a) ∧ ∀ H', Same H H' → Q (.str (txAll ts)) H'
structure TextTxt (K : PySem.W.Frag) (mg : Str → Option Value) (a_taken a_all_things a_built a_quoted a_node_text a_thing_text : Addr) : Prop where
  n_len : mg "len" = none
  n_list : mg "list" = none
  n_isinstance : mg "isinstance" = none
  n_str : mg "str" = none
  g_taken : mg "taken" = some (.ref a_taken)
  k_taken : PySem.W.keepIn K (.ref a_taken) = true
  g_all_things : mg "all_things" = some (.ref a_all_things)
  k_all_things : PySem.W.keepIn K (.ref a_all_things) = true
  g_built : mg "built" = some (.ref a_built)
  k_built : PySem.W.keepIn K (.ref a_built) = true
  g_quoted : mg "quoted" = some (.ref a_quoted)
  k_quoted : PySem.W.keepIn K (.ref a_quoted) = true
  g_node_text : mg "_node_text" = some (.ref a_node_text)
  k_node_text : PySem.W.keepIn K (.ref a_node_text) = true
  g_thing_text : mg "thing_text" = some (.ref a_thing_text)
  k_thing_text : PySem.W.keepIn K (.ref a_thing_text) = true
theorem datAll_app (ts us : List Doc) : datAll (ts ++ us) = datAll ts ++ datAll us := by rw [datAll_map, datAll_map, datAll_map, List.map_append]
theorem datAll_rev (ts : List Doc) : datAll ts.reverse = (datAll ts).reverse := by rw [datAll_map, datAll_map, List.map_reverse]
/-- the tuple of a node's things -/
theorem Dm.nod {K : PySem.W.Frag} {N : Addr → Prop} {H : Hp} {v : V} {x : Str} {ts : List Doc} (h : Dm K N H v (Doc.nod x ts).dat) : ∃ a y, v = .ref a ∧ Tp K N H a [.str x, y] ∧ Dm K N H y (.tuple (datAll ts)) := Dm.pair h
theorem pt_strD {K : PySem.W.Frag} {N : Addr → Prop} {H : Hp} {v : V} {t : Doc} (h : Dm K N H v t.dat) : TyX K H v (.type (tyN t.dat)) := h.ty
section
variable {P : Program} {w : World} {K : PySem.W.Frag} {mg : Str → Option Value} {base : Heap} {a_taken a_all_things a_built a_quoted a_node_text a_thing_text : Addr} {fdT fdA fdB fdQ fdN fd1 : FuncData}
theorem ok_taken {f : Addr} {fd : FuncData} (F : Fun K "taken" "taken" sTaken f fd) (T : TextTxt K mg a_taken a_all_things a_built a_quoted a_node_text a_thing_text) : FnOk P w K mg base CX0 1 f fd ["made", "many"] (spTaken K) := by
  refine F.ok scTaken (fun vs H Q E h => ?_) (fun cdv A outer s H vs Q E hr h => ?_)
  · obtain ⟨m, xs, ys, rfl, _⟩ := h
    rfl
  · obtain ⟨m, xs, ys, rfl, hm, hl, k⟩ := h
    refine ⟨_, (pss_cons (ps_set (i := 2) scTaken.nd rfl (Or.inl rfl) (pe_op op_sub (pe_callB call_len_seq (by rfl) T.n_len PySem.boot_len (pa_cons (pv 0) pa_nil)) (pv 1)))
      (pss_cons (ps_set (i := 3) scTaken.nd rfl (Or.inl rfl) (pe_slice sl_list (pv 0) (po_some (pv 2)) po_none))
      (pss_cons (ps_delTail (pv 0) (po_some (pv 2)))
      (pss_one (ps_ret (pe_revL (pv 3))))))), ?_⟩
    have e0 : (((xs ++ ys).length : Nat) : Int) - (ys.length : Int) = (xs.length : Int) := by
      rw [List.length_append]
      omega
    refine ⟨_, rfl, m, _, rfl, .inl (SqL.of hm), _, rfl, _, _, rfl, rfl, ?_⟩
    refine ⟨_, rfl, _, rfl, _, rfl, m, _, rfl, SqL.of hm, fun p hp => ?_⟩
    have mp : m ≠ p := ne_of_none hm hp
    rw [e0]
    have ec : cutV (xs ++ ys) (some (xs.length : Int)) none = ys := by
      unfold cutV
      rw [HT.sIx_nat, HT.sIx_none, List.length_append, Nat.min_eq_left (by omega), List.drop_left, List.take_of_length_le (by omega)]
    rw [ec]
    refine ⟨_, rfl, _, rfl, _, rfl, m, xs ++ ys, xs.length, rfl, congrArg some e0, (by rw [upd_ne mp]; exact hm), (by rw [List.length_append]; omega), ?_⟩
    rw [List.take_left]
    refine ⟨_, rfl, p, ys, rfl, SqL.of (by rw [upd_ne (Ne.symm mp), upd_same]), fun r hr2 => ?_⟩
    have hm2 : (upd (upd H p (.lst ys)) m (.lst xs)) m = some (.lst xs) := upd_same
    have hp2 : (upd (upd H p (.lst ys)) m (.lst xs)) p = some (.lst ys) := by rw [upd_ne (Ne.symm mp), upd_same]
    refine k r _ (by rw [upd_ne (ne_of_none hm2 hr2)]; exact hm2) upd_same ?_ ?_
    · cases e : H r with
      | none => rfl
      | some o =>
        have z1 : r ≠ p := ne_of_none e hp
        by_cases z2 : r = m
        · rw [z2, hm2] at hr2
          cases hr2
        · rw [upd_ne z2, upd_ne z1, e] at hr2
          cases hr2
    · intro q o e n
      have z1 : q ≠ p := ne_of_none e hp
      have e2 : (upd (upd H p (.lst ys)) m (.lst xs)) q = some o := by rw [upd_ne n, upd_ne z1]; exact e
      rw [upd_ne (ne_of_none e2 hr2)]
      exact e2
theorem ok_all {f : Addr} {fd : FuncData} (F : Fun K "all_things" "all_things" sAll f fd) (T : TextTxt K mg a_taken a_all_things a_built a_quoted a_node_text a_thing_text) : FnOk P w K mg base CX0 1 f fd ["forest"] (spAllT K) := by
  refine F.ok scAll (fun vs H Q E h => ?_) (fun cdv A outer s H vs Q E hr h => ?_)
  · obtain ⟨v, ts, N, rfl, _⟩ := h
    rfl
  · obtain ⟨v, ts, N, rfl, hv, hl, k⟩ := h
    refine ⟨_, (pss_cons (ps_set (i := 1) scAll.nd rfl (Or.inl rfl) (pe_callTy call_list_of (by rfl) T.n_list (by decide +kernel) (pa_cons (pe_revT (pv 0)) pa_nil)))
      (pss_cons (ps_set (i := 2) scAll.nd rfl (Or.inl rfl) (pe_lst pa_nil))
      (pss_cons (ps_while PassesOwn.never (pt_truth (pv 1) (by intro _; rfl))
      (pss_cons (ps_set (i := 3) scAll.nd rfl (Or.inl rfl) (pe_bm0 PySem.F.plainAttrs_list PySem.F.slot_list_pop PySem.F.type_list_pop mt_pop (pv 1)))
      (pss_cons (ps_expr (pe_bm PySem.F.plainAttrs_list PySem.F.slot_list_append PySem.F.type_list_append mt_append (pv 2) (pa_cons (pv 3) pa_nil)))
      (pss_one (ps_if (pt_not (pt_val (pe_callB call_isi (by rfl) T.n_isinstance (by decide +kernel) (pa_cons (pv 3) (pa_cons (pe_bltn (v := V.ty "str") (u := .type "str") (by rfl) T.n_str (by decide +kernel) (by rfl)) pa_nil)))))
      (pss_one (ps_expr (pe_bm PySem.F.plainAttrs_list PySem.F.slot_list_extend PySem.F.type_list_extend mt_extendT (pv 1) (pa_cons (pe_revT (pe_ix ix_tup (pv 3) pe_int (fun _ _ => rfl))) pa_nil))))
      pss_nil)))))
      (pss_one (ps_ret (pv 2)))))), ?_⟩
    obtain ⟨a, xs, rfl, ta, al⟩ := hv.seq
    refine ⟨_, rfl, a, xs, rfl, ta.sq, fun p hp => ⟨p, xs.reverse, rfl, .inr (SqT.of upd_same), fun W hW => ⟨Nat.zero_le _, fun M hM => ?_⟩⟩⟩
    have pW : p ≠ W := ne_of_none upd_same hW
    have s0 := (((Same.refl H).new (o := .tup xs.reverse) hp).new (o := .lst xs.reverse) hW).new (o := .lst []) hM
    have HW : H W = none := ((Same.refl H).new (o := .tup xs.reverse) hp).free hW
    have HM : H M = none := (((Same.refl H).new (o := .tup xs.reverse) hp).new (o := .lst xs.reverse) hW).free hM
    have WM : W ≠ M := ne_of_none upd_same hM
    refine ⟨fun m σ H1 => ∃ (R out : List Doc) (vs us : List V) (x3 : Option V), σ = [some (.ref a), some (.ref W), some (.ref M), x3] ∧ m = cntD R ∧ H1 W = some (.lst vs.reverse) ∧ H1 M = some (.lst us) ∧ DmAll K N H vs (datAll R) ∧ DmAll K N H us (datAll out) ∧ preAll ts = out ++ preAll R ∧ out.length + cntD R ≤ 900000 ∧ Same H H1,
      ⟨cntD ts, ts, [], xs, [], none, rfl, rfl, by rw [upd_ne WM, upd_same], upd_same, al, .nil, rfl, by show 0 + _ ≤ _; omega, s0⟩, ?_⟩
    rintro m σ H1 ⟨R, out, vs, us, x3, rfl, rfl, h1, h2, dR, dU, ep, hb, s1⟩
    refine ⟨_, rfl, _, .inl ⟨_, SqL.of h1, rfl⟩, ?_⟩
    cases R with
    | nil =>
      have dR' : DmAll K N H vs [] := dR
      cases dR'
      refine iteF ⟨_, rfl, k M us H1 h2 ?_ HM s1⟩
      rw [ep]
      show DmAll K N H1 us (datAll (out ++ []))
      rw [List.append_nil]
      exact dU.up (Bt.same s1)
    | cons t R =>
      have dR' : DmAll K N H vs (t.dat :: datAll R) := dR
      cases dR' with
      | @cons v vs _ _ dv dvs =>
      have nE : (!((v :: vs).reverse).isEmpty) = true := by simp
      rw [nE]
      have er : (v :: vs).reverse = vs.reverse ++ [v] := by simp
      rw [er] at h1
      have ec := cnt_kids t R
      have lv := dvs.len
      rw [datAll_length] at lv
      have lu := dU.len
      rw [datAll_length] at lu
      have lR := cntD_len R
      have ecR : cntD (t :: R) = t.cnt + cntD R := rfl
      have tp := cnt_pos t
      refine iteT ⟨fun σ' H' => ∃ m', m' < cntD (t :: R) ∧ ∃ (R out : List Doc) (vs us : List V) (x3 : Option V), σ' = [some (.ref a), some (.ref W), some (.ref M), x3] ∧ m' = cntD R ∧ H' W = some (.lst vs.reverse) ∧ H' M = some (.lst us) ∧ DmAll K N H vs (datAll R) ∧ DmAll K N H us (datAll out) ∧ preAll ts = out ++ preAll R ∧ out.length + cntD R ≤ 900000 ∧ Same H H', fun _ _ ⟨m', l, q⟩ => ⟨m', l, q⟩, ?_⟩
      refine ⟨_, rfl, .inl ⟨rfl, _, SqL.of h1⟩, _, _, v, rfl, rfl, h1, (by simp), ?_⟩
      rw [List.dropLast_concat]
      have s2 : Same H (upd H1 W (.lst vs.reverse)) := s1.cell HW
      have hM2 : (upd H1 W (.lst vs.reverse)) M = some (.lst us) := by rw [upd_ne (Ne.symm WM)]; exact h2
      refine ⟨_, rfl, .inl ⟨rfl, _, SqL.of hM2⟩, _, rfl, _, _, _, rfl, rfl, hM2, smallM (by omega), ?_⟩
      have s3 : Same H (upd (upd H1 W (.lst vs.reverse)) M (.lst (us ++ [v]))) := s2.cell HM
      have hW3 : (upd (upd H1 W (.lst vs.reverse)) M (.lst (us ++ [v]))) W = some (.lst vs.reverse) := by rw [upd_ne WM, upd_same]
      have hM3 : (upd (upd H1 W (.lst vs.reverse)) M (.lst (us ++ [v]))) M = some (.lst (us ++ [v])) := upd_same
      generalize upd (upd H1 W (.lst vs.reverse)) M (.lst (us ++ [v])) = H3 at s3 hW3 hM3 ⊢
      have dU2 : DmAll K N H (us ++ [v]) (datAll (out ++ [t])) := by rw [datAll_snoc]; exact dU.snoc dv
      have ep2 : preAll ts = (out ++ [t]) ++ preAll (t.kids ++ R) := by rw [ep, preAll_cons, List.append_assoc]; rfl
      refine ⟨_, rfl, _, _, _, _, _, rfl, .ty "str", (dv.up (Bt.same s3)).ty, kit_str t.dat, _, rfl, ?_⟩
      cases t with
      | txt z => exact iteF ⟨cntD R, by omega, R, out ++ [.txt z], vs, us ++ [v], _, rfl, rfl, hW3, hM3, dvs, dU2, ep2, by rw [List.length_append]; show _ + 1 + _ ≤ _; omega, s3⟩
      | nod x cs =>
        obtain ⟨b, y1, rfl, tb, dy1⟩ := dv.nod
        obtain ⟨c, zs, rfl, tc, cl⟩ := dy1.seq
        have lc := cl.len
        rw [datAll_length] at lc
        have lcs := cntD_len cs
        have ecs : (Doc.nod x cs).cnt = 1 + cntD cs := rfl
        refine iteT ⟨_, rfl, .inl ⟨rfl, _, SqL.of hW3⟩, _, rfl, _, _, _, _, rfl, rfl, (tb.up (Bt.same s3)).sq, atI_nat (j := 1) rfl, c, zs, rfl, (tc.up (Bt.same s3)).sq, fun p2 hp2 => ?_⟩
        have W2 : W ≠ p2 := ne_of_none hW3 hp2
        have M2 : M ≠ p2 := ne_of_none hM3 hp2
        have s5 : Same H (upd H3 p2 (.tup zs.reverse)) := s3.new hp2
        refine ⟨W, p2, vs.reverse, zs.reverse, rfl, rfl, (by rw [upd_ne W2]; exact hW3), upd_same, (by rw [sizeLine_eq, List.length_reverse, List.length_reverse]; omega), ?_⟩
        refine ⟨cntD (cs ++ R), (by rw [cntD_app]; omega), cs ++ R, out ++ [.nod x cs], zs ++ vs, us ++ [.ref b], _, rfl, rfl, (by rw [upd_same, List.reverse_append]), (by rw [upd_ne (Ne.symm WM), upd_ne M2]; exact hM3), (by rw [datAll_app]; exact cl.app dvs), dU2, ep2, ?_, s5.cell HW⟩
        rw [List.length_append, cntD_app]
        show _ + 1 + _ ≤ _
        omega
theorem ok_quoted {f : Addr} {fd : FuncData} (F : Fun K "quoted" "quoted" sQuoted f fd) : FnOk P w K mg base CX0 1 f fd ["text"] spQuoted := by
  refine F.ok scQuoted (fun vs H Q E h => ?_) (fun cdv A outer s H vs Q E hr h => ?_)
  · obtain ⟨z, rfl, _⟩ := h
    rfl
  · obtain ⟨z, rfl, hl, k⟩ := h
    refine ⟨_, (pss_one (ps_ret (pe_op op_add_str (pe_op op_add_str pe_str (pv 0)) pe_str))), ?_⟩
    have l1 : (Str.ofString "\"").length = 1 := by decide +kernel
    refine ⟨_, rfl, _, _, rfl, rfl, (by rw [sizeLine_eq, l1]; omega), _, _, rfl, rfl, (by rw [sizeLine_eq, strLen_append, l1]; omega), ?_⟩
    rw [tx_txt]
    exact k
theorem sum_tx : ∀ ts : List Doc, okD ts → ((ts.map Doc.tx).map (·.length)).sum ≤ 21 * cntD ts
  | [], _ => Nat.le_refl _
  | t :: ts, h => by
    have a := ch_len t h.1
    have b := sum_tx ts h.2
    have e : t.tx.length = t.ch.length := strOf_len _
    have ec : cntD (t :: ts) = t.cnt + cntD ts := rfl
    simp only [List.map_cons, List.sum_cons]
    omega
theorem ok_nodeText {f : Addr} {fd : FuncData} (F : Fun K "_node_text" "_node_text" sNodeText f fd) : FnOk P w K mg base CX0 1 f fd ["name", "texts"] spNodeText := by
  refine F.ok scNodeText (fun vs H Q E h => ?_) (fun cdv A outer s H vs Q E hr h => ?_)
  · obtain ⟨x, p, ts, rfl, _⟩ := h
    rfl
  · obtain ⟨x, p, ts, rfl, hp, hx, ho, hc, k⟩ := h
    refine ⟨_, (pss_one (ps_ret (pe_op op_add_str (pe_op op_add_str (pe_op op_add_str (pv 0) pe_str) (pe_join pe_str (pv 1))) pe_str))), ?_⟩
    have l1 : (Str.ofString "(").length = 1 := by decide +kernel
    have l2 : (Str.ofString ")").length = 1 := by decide +kernel
    have l3 : (Str.ofString " ").length = 1 := by decide +kernel
    have lt := cntD_len ts
    have ls := sum_tx ts ho
    have lT : (txAll ts).length ≤ 21 * cntD ts := by
      unfold txAll
      rw [strOf_len, List.length_tail]
      have := chT_len ts ho
      omega
    refine ⟨_, rfl, _, _, rfl, rfl, (by rw [sizeLine_eq, l1]; omega), ⟨_, rfl⟩, _, rfl, _, p, ts.map Doc.tx, rfl, rfl, .inl (SqL.of (by rw [hp, List.map_map]; rfl)), (by rw [List.length_map, l3]; omega), ?_⟩
    rw [join_tx]
    refine ⟨_, _, rfl, rfl, (by rw [sizeLine_eq, strLen_append, l1]; omega), _, _, rfl, rfl, (by rw [sizeLine_eq, strLen_append, strLen_append, l1, l2]; omega), ?_⟩
    rw [tx_nod]
    exact k
end
end K1

namespace K1
open PySem L2 Xr
section
variable {P : Program} {w : World} {K : PySem.W.Frag} {mg : Str → Option Value} {base : Heap} {a_taken a_all_things a_built a_quoted a_node_text a_thing_text : Addr} {fdT fdA fdB fdQ fdN fd1 : FuncData}
theorem ok_built {f : Addr} {fd : FuncData} (F : Fun K "built" "built" sBuilt f fd) (T : TextTxt K mg a_taken a_all_things a_built a_quoted a_node_text a_thing_text)
    (G_taken : FnOk P w K mg base CX0 1 a_taken fdT ["made", "many"] (spTaken K)) (b_taken : Binds K fdT ["made", "many"] []) (G_all_things : FnOk P w K mg base CX0 1 a_all_things fdA ["forest"] (spAllT K)) (b_all_things : Binds K fdA ["forest"] [])
    (G_quoted : FnOk P w K mg base CX0 1 a_quoted fdQ ["text"] spQuoted) (b_quoted : Binds K fdQ ["text"] []) (G_node_text : FnOk P w K mg base CX0 1 a_node_text fdN ["name", "texts"] spNodeText) (b_node_text : Binds K fdN ["name", "texts"] []) :
    FnOk P w K mg base CX0 2 f fd ["thing", "of_text", "of_node"] (spBuilt K a_quoted a_node_text) := by
  refine F.ok scBuilt (fun vs H Q E h => ?_) (fun cdv A outer s H vs Q E hr h => ?_)
  · obtain ⟨v, t, N, rfl, _⟩ := h
    rfl
  · obtain ⟨v, t, N, rfl, hv, ho, hc, hN, k⟩ := h
    refine ⟨_, (pss_cons (ps_set (i := 3) scBuilt.nd rfl (Or.inl rfl) (pe_lst pa_nil))
      (pss_cons (ps_for PassesOwn.never rfl (pi_list (pe_revL (pe_call G_all_things hr rfl T.g_all_things T.k_all_things b_all_things .nil pass0 (pa_cons (pe_tup (pa_cons (pv 0) pa_nil)) pa_nil)))) (pg_name (i := 4) scBuilt.nd rfl (Or.inl rfl))
      (pss_one (ps_if (pt_val (pe_callB call_isi (by rfl) T.n_isinstance (by decide +kernel) (pa_cons (pv 4) (pa_cons (pe_bltn (v := V.ty "str") (u := .type "str") (by rfl) T.n_str (by decide +kernel) (by rfl)) pa_nil))))
      (pss_one (ps_expr (pe_bm PySem.F.plainAttrs_list PySem.F.slot_list_append PySem.F.type_list_append mt_append (pv 3) (pa_cons (pe_callL (i := 1) (f := a_quoted) G_quoted hr rfl (Or.inl rfl) T.k_quoted b_quoted .nil pass0 (pa_cons (pv 4) pa_nil)) pa_nil))))
      (pss_one (ps_expr (pe_bm PySem.F.plainAttrs_list PySem.F.slot_list_append PySem.F.type_list_append mt_append (pv 3) (pa_cons (pe_callL (i := 2) (f := a_node_text) G_node_text hr rfl (Or.inl rfl) T.k_node_text b_node_text .nil pass0 (pa_cons (pe_ix ix_tup (pv 4) pe_int (fun _ _ => rfl)) (pa_cons (pe_call G_taken hr rfl T.g_taken T.k_taken b_taken .nil pass0 (pa_cons (pv 3) (pa_cons (pe_callB call_len_seq (by rfl) T.n_len PySem.boot_len (pa_cons (pe_ix ix_tup (pv 4) pe_int (fun _ _ => rfl)) pa_nil)) pa_nil))) pa_nil))) pa_nil)))))))
      (pss_one (ps_ret (pe_ix ix_list (pv 3) pe_int (fun _ _ => rfl)))))), ?_⟩
    refine ⟨Nat.zero_le _, fun M hM => ?_⟩
    have s0 := (Same.refl H).new (o := .lst []) hM
    have hM0 : (upd H M (.lst [])) M = some (.lst []) := upd_same
    generalize upd H M (.lst []) = H0 at s0 hM0 ⊢
    refine ⟨_, rfl, (by show 1 ≤ sizeLine; decide), fun p hp => ?_⟩
    have s1 := s0.new (o := .tup [v]) hp
    have hM1 : (upd H0 p (.tup [v])) M = some (.lst []) := by rw [upd_ne (ne_of_none hM0 hp)]; exact hM0
    have d1 : Dm K N (upd H0 p (.tup [v])) (.ref p) (.tuple (datAll [t])) := .tup upd_same (not_new hN s0 hp) (.cons (hv.up (Bt.same s1)) .nil)
    generalize upd H0 p (.tup [v]) = H1 at s1 hM1 d1 ⊢
    have c1 : cntD [t] = t.cnt := rfl
    refine ⟨_, [t], N, rfl, d1, by omega, fun L us H2 hL dU hL0 s2 => ⟨L, us, rfl, SqL.of hL, fun R hR => ?_⟩⟩
    have s12 := s1.trans s2
    have hM2 := s2 _ _ hM1
    have s13 := s12.new (o := .lst us.reverse) hR
    have MR : M ≠ R := ne_of_none hM2 hR
    have hM3 : (upd H2 R (.lst us.reverse)) M = some (.lst []) := by rw [upd_ne MR]; exact hM2
    have hR3 : (upd H2 R (.lst us.reverse)) R = some (.lst us.reverse) := upd_same
    have dU3 := dU.up (Bt.refl.new (o := .lst us.reverse) hR)
    generalize upd H2 R (.lst us.reverse) = H3 at s13 hM3 hR3 dU3 ⊢
    have lU := dU.len
    rw [datAll_length, preAll_len _ [t] (Nat.le_refl _), c1] at lU
    have hpre := preAll_len _ [t] (Nat.le_refl _)
    rw [c1] at hpre
    refine ⟨R, rfl, ⟨_, SqL.of hR3⟩, ?_⟩
    refine for_list (K := K) (a := R) (xs := us.reverse) (fun i σ H4 => ∃ (fs P : List Doc) (x4 : Option V), σ = [some v, some (.ref a_quoted), some (.ref a_node_text), some (.ref M), x4] ∧ preAll [t] = P ++ preAll fs ∧ (preAll fs).length = i ∧ H4 M = some (.lst (fs.reverse.map fun t => V.str t.tx)) ∧ (∀ q o, H3 q = some o → q ≠ M → H4 q = some o))
      ⟨[], preAll [t], none, rfl, by show _ = _ ++ []; rw [List.append_nil], rfl, hM3, fun q o e _ => e⟩ (fun i σ H4 _ ⟨_, _, _, _, _, _, _, hk⟩ => SqL.of (hk R _ hR3 (Ne.symm MR))) ?_ ?_
    · rintro i u σ H4 hu ⟨fs, P, x4, rfl, ep, ei, hM4, hk⟩
      -- the thing ahead
      have li := (List.getElem?_eq_some_iff.mp hu).1
      rw [List.length_reverse, lU] at li
      have lP : P.length = t.cnt - i := by
        have := congrArg List.length ep
        rw [List.length_append, hpre, ei] at this
        omega
      obtain ⟨P', g, rfl⟩ : ∃ P' g, P = P' ++ [g] := by
        rcases List.eq_nil_or_concat P with e | ⟨P', g, e⟩
        · rw [e] at lP
          simp at lP
          omega
        · exact ⟨P', g, by rw [e, List.concat_eq_append]⟩
      have lP' : P'.length + 1 = t.cnt - i := by simpa using lP
      have ep2 : preAll [t] = P' ++ g :: preAll fs := by rw [ep, List.append_assoc]; rfl
      have hg : (preAll [t])[P'.length]? = some g := by rw [ep2]; simp
      obtain ⟨u', hu', du⟩ := dU3.get (i := P'.length) (d := g.dat) (by rw [datAll_map, List.getElem?_map, hg]; rfl)
      have eu : u' = u := by
        have h1 : us.reverse[i]? = us[us.length - 1 - i]? := List.getElem?_reverse (by omega)
        have h2 : us.length - 1 - i = P'.length := by omega
        rw [h1, h2, hu'] at hu
        exact Option.some.inj hu
      subst eu
      have gm : g ∈ preAll [t] := List.mem_of_getElem? hg
      have og := ok_pre _ [t] (Nat.le_refl _) ⟨ho, trivial⟩ g gm
      have cg := cnt_pre _ [t] (Nat.le_refl _) g gm
      rw [c1] at cg
      obtain ⟨r, er⟩ := suf _ [t] P' (preAll fs) g (Nat.le_refl _) ep2
      have efs := preAll_inj _ fs (g.kids ++ r) (Nat.le_refl _) er
      have e9 : preAll (g :: r) = g :: preAll fs := by rw [preAll_cons, ← er]
      have tm : Tm H3 H4 := fun q ys e => hk q _ e (fun z => by
        rw [z, hM3] at e
        cases e)
      have du4 : Dm K F0 H4 u' g.dat := doc_mono tm g u' du
      have lfs := cntD_len fs
      have cfs : cntD fs ≤ t.cnt := by
        have := preAll_len _ fs (Nat.le_refl _)
        omega
      refine ⟨_, rfl, _, _, _, _, _, rfl, .ty "str", du4.ty, kit_str g.dat, _, rfl, ?_⟩
      cases g with
      | txt z =>
        have ev := du4.strV
        subst ev
        obtain ⟨sz, lz⟩ := text_facts (show textD (.str z) = true from og)
        refine iteT ⟨_, rfl, .inl ⟨rfl, _, SqL.of hM4⟩, rfl, _, rfl, z, rfl, by omega, _, _, _, rfl, rfl, hM4, smallM (by rw [List.length_map, List.length_reverse]; omega), ?_⟩
        refine ⟨.txt z :: fs, P', _, rfl, ?_, ?_, ?_, fun q o e n => by rw [upd_ne n]; exact hk q o e n⟩
        · exact ep2
        · show ([Doc.txt z] ++ preAll fs).length = i + 1
          rw [List.length_append, ei]
          show 1 + i = i + 1
          omega
        · rw [upd_same]
          simp
      | nod x cs =>
        have efs' : fs = cs ++ r := efs
        obtain ⟨b, y1, rfl, tb, dy1⟩ := du4.nod
        obtain ⟨c, zs, rfl, tc, cl⟩ := dy1.seq
        have lc := cl.len
        rw [datAll_length] at lc
        obtain ⟨sx, lx⟩ := name_facts og.1
        have ecg : (Doc.nod x cs).cnt = 1 + cntD cs := rfl
        have em : (fs.reverse.map fun t => V.str t.tx) = (r.reverse.map fun t => V.str t.tx) ++ (cs.reverse.map fun t => V.str t.tx) := by
          rw [efs', List.reverse_append, List.map_append]
        rw [em] at hM4
        have lr : cs.length + r.length = fs.length := by rw [efs', List.length_append]
        refine iteF ⟨_, rfl, .inl ⟨rfl, _, SqL.of hM4⟩, rfl, _, rfl, _, _, _, _, rfl, rfl, tb.sq, atI_nat (j := 0) rfl, _, rfl, _, rfl, _, _, _, _, rfl, rfl, tb.sq, atI_nat (j := 1) rfl, c, zs, rfl, .inr tc.sq, ?_⟩
        refine ⟨M, _, (cs.reverse.map fun t => V.str t.tx), (by rw [List.length_map, List.length_reverse, ← lc]; rfl), hM4, (by rw [List.length_map, List.length_map, List.length_reverse, List.length_reverse]; omega), fun p2 H5 hM5 hp5 hp0 hk5 => ?_⟩
        have hp5' : H5 p2 = some (.lst (cs.map fun t => V.str t.tx)) := by
          rw [hp5]
          congr 2
          rw [← List.map_reverse, List.reverse_reverse]
        refine ⟨x, p2, cs, rfl, hp5', by omega, og.2, by omega, _, _, _, rfl, rfl, hM5, smallM (by rw [List.length_map, List.length_reverse]; omega), ?_⟩
        refine ⟨.nod x cs :: r, P', _, rfl, ?_, ?_, ?_, fun q o e n => by rw [upd_ne n]; exact hk5 q o (hk q o e n) n⟩
        · rw [e9]
          exact ep2
        · rw [e9, List.length_cons]
          show (preAll fs).length + 1 = i + 1
          omega
        · rw [upd_same]
          simp
    · rintro σ H4 ⟨fs, P, x4, rfl, ep, ei, hM4, hk⟩
      rw [List.length_reverse, lU] at ei
      have lP : P = [] := by
        have := congrArg List.length ep
        rw [List.length_append, hpre, ei] at this
        exact List.eq_nil_of_length_eq_zero (by omega)
      subst lP
      have efs : fs = [t] := (preAll_inj _ [t] fs (Nat.le_refl _) ep).symm
      subst efs
      refine ⟨_, rfl, _, _, _, _, rfl, rfl, SqL.of hM4, atI_nat (j := 0) rfl, k _ ?_⟩
      exact fun q o e => hk q o (s13 q o e) (ne_of_none e hM)
theorem ok_thingText {f : Addr} {fd : FuncData} (F : Fun K "thing_text" "thing_text" sThingText f fd) (T : TextTxt K mg a_taken a_all_things a_built a_quoted a_node_text a_thing_text)
    (G_built : FnOk P w K mg base CX0 2 a_built fdB ["thing", "of_text", "of_node"] (spBuilt K a_quoted a_node_text)) (b_built : Binds K fdB ["thing", "of_text", "of_node"] []) : FnOk P w K mg base CX0 3 f fd ["thing"] (spText1 K) := by
  refine F.ok scThingText (fun vs H Q E h => ?_) (fun cdv A outer s H vs Q E hr h => ?_)
  · obtain ⟨v, t, N, rfl, _⟩ := h
    rfl
  · obtain ⟨v, t, N, rfl, hv, ho, hc, hN, k⟩ := h
    refine ⟨_, (pss_one (ps_ret (pe_call G_built hr rfl T.g_built T.k_built b_built .nil pass0 (pa_cons (pv 0) (pa_cons (pe_glob (v := V.ref a_quoted) (by rfl) T.g_quoted (by rfl)) (pa_cons (pe_glob (v := V.ref a_node_text) (by rfl) T.g_node_text (by rfl)) pa_nil)))))), ?_⟩
    exact ⟨_, rfl, v, t, N, rfl, hv, ho, hc, hN, k⟩
theorem ok_forestText {f : Addr} {fd : FuncData} (F : Fun K "forest_text" "forest_text" sForestText f fd) (T : TextTxt K mg a_taken a_all_things a_built a_quoted a_node_text a_thing_text)
    (G_thing_text : FnOk P w K mg base CX0 3 a_thing_text fd1 ["thing"] (spText1 K)) (b_thing_text : Binds K fd1 ["thing"] []) : FnOk P w K mg base CX0 4 f fd ["forest"] (spForest K) := by
  refine F.ok scForestText (fun vs H Q E h => ?_) (fun cdv A outer s H vs Q E hr h => ?_)
  · obtain ⟨v, ts, N, rfl, _⟩ := h
    rfl
  · obtain ⟨v, ts, N, rfl, hv, ho, hc, hN, k⟩ := h
    refine ⟨_, (pss_one (ps_ret (pe_join pe_str (pe_lc (own := [("thing", 1)]) (g := gName 1) (tt := tYes) (by rfl) scForestText.nd (pi_tup (pv 0)) (blkOk_by (own := [("thing", 1)]) (N := ["forest", "thing"]) (sc := defScope sForestText) (by decide +kernel)) (fun _ _ _ _ _ => pg_name (i := 1) scForestText.nd rfl (Or.inl rfl)) (fun _ _ _ _ _ => pts_nil) (fun _ _ _ _ _ => (pe_call G_thing_text hr rfl T.g_thing_text T.k_thing_text b_thing_text .nil pass0 (pa_cons (pv 1) pa_nil))))))), ?_⟩
    obtain ⟨a, xs, rfl, ta, al⟩ := hv.seq
    have lx := al.len
    rw [datAll_length] at lx
    have lt := cntD_len ts
    refine ⟨⟨_, rfl⟩, _, rfl, a, rfl, ⟨_, ta.sq⟩, fun D hD => ?_⟩
    refine lc_tup (K := K) (a := a) (xs := xs) (fun i H1 => Same H H1 ∧ H1 D = some (.lst ((ts.take i).map fun t => V.str t.tx))) ⟨(Same.refl H).new hD, by rw [upd_same]; rfl⟩ (fun i H1 _ ⟨s1, _⟩ => (ta.up (Bt.same s1)).sq) ?_ ?_
    · rintro i y H1 hy ⟨s1, h1⟩
      obtain ⟨d, hd, dv⟩ := al.getV hy
      rw [datAll_map, List.getElem?_map] at hd
      cases et : ts[i]? with
      | none => rw [et] at hd; cases hd
      | some t =>
        rw [et] at hd
        have ed := Option.some.inj hd
        subst ed
        have mem : t ∈ ts := List.mem_of_getElem? et
        have il : i < ts.length := (List.getElem?_eq_some_iff.mp et).1
        have cm := cntD_mem mem
        refine ⟨rfl, _, rfl, y, t, N, rfl, dv.up (Bt.same s1), okD_mem ho mem, by omega, trk_up hN s1, fun H2 s2 => ⟨_, s2 _ _ h1, smallM (by rw [List.length_map, List.length_take]; omega), (s1.trans s2).cell hD, ?_⟩⟩
        rw [upd_same, take_snoc et, List.map_append]
        rfl
    · rintro H1 ⟨s1, h1⟩
      rw [lx, List.take_length] at h1
      have ls := sum_tx ts ho
      have l3 : (Str.ofString " ").length = 1 := by decide +kernel
      refine ⟨_, D, ts.map Doc.tx, rfl, rfl, .inl (SqL.of (by rw [h1, List.map_map]; rfl)), (by rw [List.length_map, l3]; omega), ?_⟩
      rw [join_tx]
      exact k _ s1
end
end K1

/-! texts read: where a text and a name end -/
namespace K1
open PySem L2 Xr Exv
theorem pe_conseq {X : Cx} {e : Expr} {te te' : TE} (h : PE X e te) (i : ∀ (σ : L2.St) (H : Hp) (Q : VK), te' σ H Q → te σ H Q) : PE X e te' := ⟨fun pins s σ H Q I q => h.run pins s σ H Q I (i σ H Q q)⟩
theorem pt_conseq {X : Cx} {e : Expr} {t t' : TT} (h : PT X e t) (i : ∀ (σ : L2.St) (H : Hp) (Q : Bool → Hp → Prop), t' σ H Q → t σ H Q) : PT X e t' := ⟨fun pins s σ H Q I q => h.run pins s σ H Q I (i σ H Q q)⟩
abbrev sQuoteEnd : Stmt := top 24
theorem scQuoteEnd : FnScope ["text", "at", "end"] ["text", "at"] (defScope sQuoteEnd) := ⟨rfl, rfl, rfl, by decide +kernel, rfl, by decide +kernel, by decide +kernel⟩
abbrev sNameEnd : Stmt := top 25
theorem scNameEnd : FnScope ["text", "at", "end"] ["text", "at"] (defScope sNameEnd) := ⟨rfl, rfl, rfl, by decide +kernel, rfl, by decide +kernel, by decide +kernel⟩
def spInit (C : Addr) (f : Str) : Sp := fun vs H Q _ => ∃ (a : Addr) (v : V), vs = [.ref a, v] ∧ H a = some (exo a C none) ∧
  ∀ dx, H dx = none → dx ≠ a → Q .non (upd (upd H dx (exd dx [(f, v)])) a (exo a C (some dx)))
abbrev sI0 : Stmt := inClass (top 3) 0
theorem scI0 : FnScope ["self", "at"] ["self", "at"] (defScope sI0) := ⟨rfl, rfl, rfl, by decide +kernel, rfl, by decide +kernel, by decide +kernel⟩
theorem same_raised {H H1 : Hp} {a dx : Addr} {o o2 : HO} {fs : List (Str × V)} (s : Same H H1) (ha : H1 a = none) (hd : (upd H1 a o) dx = none) (ne : dx ≠ a) :
    Same H (upd (delH (upd (upd (upd H1 a o) dx (exd dx fs)) a o2) a) dx (.xd fs)) := fun q u e0 => by
  have e := s q u e0
  have hd' : H1 dx = none := by
    rw [upd_ne ne] at hd
    exact hd
  have na := ne_of_none e ha
  have nd := ne_of_none e hd'
  rw [upd_ne nd, delH_ne na, upd_ne na, upd_ne nd, upd_ne na]
  exact e
structure ReadTxt (K : PySem.W.Frag) (mg : Str → Option Value) (C fI a_quote_end a_name_end a_read : Addr) (t1 t2 t3 t4 t5 t6 t7 : Tok) : Prop where
  n_isinstance : mg "isinstance" = none
  n_str : mg "str" = none
  n_tuple : mg "tuple" = none
  n_len : mg "len" = none
  n_range : mg "range" = none
  m : mg "InvalidText" = some (.ref C)
  t : ExT K C fI "at" bmExc "Exception.__new__"
  ex : PySem.W.subIn K (.ref C) (.type "BaseException") = some true
  ty : PySem.W.typeIn K (.ref C) = some (.type "type")
  g_NAME_MOST : mg "NAME_MOST" = some (.int 8 t1)
  g_TEXT_MOST : mg "TEXT_MOST" = some (.int 16 t2)
  g_NAME_SIGNS : mg "NAME_SIGNS" = some (.str abc t3)
  g_TEXT_SIGNS : mg "TEXT_SIGNS" = some (.str abc9 t4)
  g_AT_FIRST : mg "AT_FIRST" = some (.int 0 t5)
  g_AT_THING : mg "AT_THING" = some (.int 1 t6)
  g_BEHIND : mg "BEHIND" = some (.int 2 t7)
  g_quote_end : mg "quote_end" = some (.ref a_quote_end)
  k_quote_end : PySem.W.keepIn K (.ref a_quote_end) = true
  g_name_end : mg "_name_end" = some (.ref a_name_end)
  k_name_end : PySem.W.keepIn K (.ref a_name_end) = true
  g_read : mg "_read" = some (.ref a_read)
  k_read : PySem.W.keepIn K (.ref a_read) = true
def spEnd (g : Nat) (G : Str) (most : Nat) (off : Nat) : Sp := fun vs H Q _ => ∃ (z : Str) (A B w : List Nat), vs = [.str z, .int (A.length : Int)] ∧ z.cps.toList = A ++ (if off = 1 then [34] else []) ++ w ++ g :: B ∧ z.length ≤ 100000 ∧ w.length ≤ most ∧ (off = 0 → 0 < w.length) ∧ (∀ c ∈ w, c ∈ G.cps.toList) ∧
  Q (.int ((A.length + off + w.length : Nat) : Int)) H
theorem str1_inj {a b : Nat} (h : V.str (⟨#[a]⟩ : Str) = V.str (⟨#[b]⟩ : Str)) : a = b := by
  have := V.str.inj h
  injection this with this
  have := congrArg Array.toList this
  simpa using this
theorem dec1 (a b : Nat) : decide (V.str (⟨#[a]⟩ : Str) = V.str (⟨#[b]⟩ : Str)) = decide (a = b) := by
  by_cases h : a = b
  · rw [h, decide_eq_true rfl, decide_eq_true rfl]
  · rw [decide_eq_false h, decide_eq_false (fun e => h (str1_inj e))]
theorem at_mid {A w B : List Nat} {i : Nat} (h : i < w.length) : (A ++ w ++ B)[A.length + i]? = some w[i] := by
  rw [List.append_assoc, List.getElem?_append_right (by omega), Nat.add_sub_cancel_left, List.getElem?_append_left h, List.getElem?_eq_getElem h]
theorem at_end {A w B : List Nat} {g : Nat} : (A ++ w ++ g :: B)[A.length + w.length]? = some g := by
  rw [List.getElem?_append_right (by rw [List.length_append]; omega), List.length_append, Nat.sub_self]
  rfl
section
variable {P : Program} {w : World} {K : PySem.W.Frag} {mg : Str → Option Value} {base : Heap} {C fI a_quote_end a_name_end a_read : Addr} {t1 t2 t3 t4 t5 t6 t7 : Tok} {fdI fdQ fdN fdR : FuncData}
theorem ok_init0 {f C : Addr} {fd : FuncData} (F : Fun K "__init__" "InvalidText.__init__" sI0 f fd) (T : ExT K C f "at" bmExc "Exception.__new__") : FnOk P w K mg base CX0 1 f fd ["self", "at"] (spInit C "at") := by
  refine F.ok scI0 (fun vs H Q E h => ?_) (fun cdv A outer s H vs Q E hr h => ?_)
  · obtain ⟨a, v, rfl, _⟩ := h
    rfl
  · obtain ⟨a, v, rfl, ha, k⟩ := h
    exact ⟨_, pss_one (ps_putE T PySem.F.store_Exception (pv 0) (pv 1)), _, rfl, _, rfl, a, rfl, ha, fun dx n ne => k dx n ne⟩
theorem bp0 {f : Addr} {fd : FuncData} (F : Fun K "__init__" "InvalidText.__init__" sI0 f fd) (s : Shared) (a : Addr) (u : Value) : BindsTo s fd ⟨[.ref a, u], []⟩ ((["self", "at"] : List Str).zip [.ref a, u]) := by
  obtain ⟨_, _, _, _, _, _, _, _, _, rfl, _, _⟩ := F.ex
  exact .of_eq rfl
theorem ok_quoteEnd {fd : FuncData} (F : Fun K "quote_end" "quote_end" sQuoteEnd a_quote_end fd) (T : ReadTxt K mg C fI a_quote_end a_name_end a_read t1 t2 t3 t4 t5 t6 t7) (FI : Fun K "__init__" "InvalidText.__init__" sI0 fI fdI) :
    FnOk P w K mg base (L2.CX P w) 4 a_quote_end fd ["text", "at"] (spEnd 34 abc9 16 1) := by
  refine F.okX scQuoteEnd (fun vs H Q E h => ?_) (fun cdv A outer s H vs Q E hr h => ?_)
  · obtain ⟨z, A, B, w, rfl, _⟩ := h
    rfl
  · obtain ⟨z, A, B, w, rfl, hz, lz, lw, _, hw, k⟩ := h
    have hr2 : Room 2 _ := hr.mono (by decide)
    refine ⟨_, (pss_cons (ps_for PassesOwn.leaving rfl (pi_range2 (by rfl) T.n_range (pa_cons (pe_op op_add (pv 1) pe_int) (pa_cons (pe_callB call_len_str (by rfl) T.n_len PySem.boot_len (pa_cons (pv 0) pa_nil)) pa_nil))) (pg_name (i := 2) scQuoteEnd.nd rfl (Or.inl rfl))
      (pss_cons (ps_if (pt_cmpR op_eq (pe_ix ix_str (pv 0) (pv 2) (fun _ _ => rfl)) pe_str (nomark _))
      (pss_one (ps_ret (pv 2)))
      pss_nil)
      (pss_one (ps_if (PW.pt (pw_or (pt_cmpR op_gt (pe_op op_sub (pv 2) (pv 1)) (pe_glob (v := V.int 16) (by rfl) T.g_TEXT_MOST (by exact ⟨_, rfl⟩)) (nomark _)) (pw_or1 (pt_cmpR op_notIn_sign (pe_ix ix_str (pv 0) (pv 2) (fun _ _ => rfl)) (pe_glob (v := V.str abc9) (by rfl) T.g_TEXT_SIGNS (by exact ⟨_, rfl⟩)) (by rfl)))))
      (pss_one (ps_raise rfl (takes_of rfl rfl rfl rfl) (pmk_newE rfl (pe_newE T.t PySem.F.excBase_Exception base3E (ok_init0 FI T.t) hr2 pass0 rfl T.m (fun s a u _ => bp0 FI s a u) (pa_cons (pv 2) pa_nil)))))
      pss_nil))))
      (pss_one (ps_raise rfl (takes_of rfl rfl rfl rfl) (pmk_newE rfl (pe_newE T.t PySem.F.excBase_Exception base3E (ok_init0 FI T.t) hr2 pass0 rfl T.m (fun s a u _ => bp0 FI s a u) (pa_cons (pe_callB call_len_str (by rfl) T.n_len PySem.boot_len (pa_cons (pv 0) pa_nil)) pa_nil)))))), ?_⟩
    rw [if_pos rfl] at hz
    have hlen : z.length = A.length + 1 + w.length + 1 + B.length := by
      rw [← cps_len, hz]
      simp
      omega
    refine ⟨_, rfl, _, _, rfl, rfl, _, rfl, _, rfl, (by rw [sizeLine_eq]; omega), _, _, rfl, ⟨by omega, by omega, by omega, by omega⟩, ?_⟩
    refine for_range (lo := (A.length : Int) + 1) (n := ((z.length : Int) - ((A.length : Int) + 1)).toNat) (fun i σ H1 => H1 = H ∧ i ≤ w.length ∧ ∃ x2, σ = [some (.str z), some (.int (A.length : Int)), x2]) ⟨rfl, Nat.zero_le _, none, rfl⟩ ?_ ?_
    · rintro i σ H1 hi ⟨rfl, li, x2, rfl⟩
      have ee : ((A.length : Int) + 1 + (i : Int)) = ((A.length + 1 + i : Nat) : Int) := by omega
      rw [ee]
      by_cases hiw : i < w.length
      · have hc : z.cps.toList[A.length + 1 + i]? = some w[i] := by
          rw [hz]
          have e1 : A.length + 1 + i = (A ++ [34]).length + i := by simp
          rw [e1]
          exact at_mid hiw
        have mc : w[i] ∈ abc9.cps.toList := hw _ (List.getElem_mem hiw)
        generalize w[i] = c at hc mc
        have c34 : c ≠ 34 := by
          intro e
          rw [e] at mc
          exact absurd mc (by decide +kernel)
        refine ⟨_, rfl, _, rfl, z, _, c, rfl, rfl, (by rw [sizeLine_eq]; omega), atI_nat hc, rfl, _, rfl, ?_⟩
        have e0 : decide (V.str (⟨#[c]⟩ : Str) = V.str (Str.ofString "\"")) = false := decide_eq_false (fun e => c34 (str1_inj (b := 34) e))
        rw [e0]
        refine iteF ⟨_, rfl, _, rfl, _, _, rfl, rfl, _, _, rfl, rfl, _, rfl, ?_⟩
        have e1 : decide ((16 : Int) < (((A.length + 1 + i : Nat) : Int) - (A.length : Int))) = false := decide_eq_false (by omega)
        rw [show decide ((((A.length + 1 + i : Nat) : Int) - (A.length : Int)) > 16) = false from e1]
        refine iteF ⟨_, rfl, _, rfl, z, _, c, rfl, rfl, (by rw [sizeLine_eq]; omega), atI_nat hc, c, abc9, rfl, rfl, _, rfl, ?_⟩
        rw [decide_eq_true mc]
        exact iteF ⟨rfl, by omega, _, rfl⟩
      · have ei : i = w.length := by omega
        subst ei
        have hc : z.cps.toList[A.length + 1 + w.length]? = some 34 := by
          rw [hz]
          have e1 : A.length + 1 + w.length = (A ++ [34]).length + w.length := by simp
          rw [e1]
          exact at_end
        refine ⟨_, rfl, _, rfl, z, _, 34, rfl, rfl, (by rw [sizeLine_eq]; omega), atI_nat hc, rfl, _, rfl, ?_⟩
        exact iteT ⟨_, rfl, k⟩
    · rintro σ H1 ⟨rfl, li, x2, rfl⟩
      omega
theorem ok_nameEnd {fd : FuncData} (F : Fun K "_name_end" "_name_end" sNameEnd a_name_end fd) (T : ReadTxt K mg C fI a_quote_end a_name_end a_read t1 t2 t3 t4 t5 t6 t7) (FI : Fun K "__init__" "InvalidText.__init__" sI0 fI fdI) :
    FnOk P w K mg base (L2.CX P w) 4 a_name_end fd ["text", "at"] (spEnd 40 abc 8 0) := by
  refine F.okX scNameEnd (fun vs H Q E h => ?_) (fun cdv A outer s H vs Q E hr h => ?_)
  · obtain ⟨z, A, B, w, rfl, _⟩ := h
    rfl
  · obtain ⟨z, A, B, w, rfl, hz, lz, lw, pw, hw, k⟩ := h
    have hr2 : Room 2 _ := hr.mono (by decide)
    refine ⟨_, (pss_cons (ps_for PassesOwn.leaving rfl (pi_range2 (by rfl) T.n_range (pa_cons (pv 1) (pa_cons (pe_callB call_len_str (by rfl) T.n_len PySem.boot_len (pa_cons (pv 0) pa_nil)) pa_nil))) (pg_name (i := 2) scNameEnd.nd rfl (Or.inl rfl))
      (pss_cons (ps_if (PW.pt (pw_and (pt_cmpR op_gt (pv 2) (pv 1) (nomark _)) (pw_and1 (pt_cmpR op_eq (pe_ix ix_str (pv 0) (pv 2) (fun _ _ => rfl)) pe_str (nomark _)))))
      (pss_one (ps_ret (pv 2)))
      pss_nil)
      (pss_one (ps_if (PW.pt (pw_or (pt_cmpR op_ge (pe_op op_sub (pv 2) (pv 1)) (pe_glob (v := V.int 8) (by rfl) T.g_NAME_MOST (by exact ⟨_, rfl⟩)) (nomark _)) (pw_or1 (pt_cmpR op_notIn_sign (pe_ix ix_str (pv 0) (pv 2) (fun _ _ => rfl)) (pe_glob (v := V.str abc) (by rfl) T.g_NAME_SIGNS (by exact ⟨_, rfl⟩)) (by rfl)))))
      (pss_one (ps_raise rfl (takes_of rfl rfl rfl rfl) (pmk_newE rfl (pe_newE T.t PySem.F.excBase_Exception base3E (ok_init0 FI T.t) hr2 pass0 rfl T.m (fun s a u _ => bp0 FI s a u) (pa_cons (pv 2) pa_nil)))))
      pss_nil))))
      (pss_one (ps_raise rfl (takes_of rfl rfl rfl rfl) (pmk_newE rfl (pe_newE T.t PySem.F.excBase_Exception base3E (ok_init0 FI T.t) hr2 pass0 rfl T.m (fun s a u _ => bp0 FI s a u) (pa_cons (pe_callB call_len_str (by rfl) T.n_len PySem.boot_len (pa_cons (pv 0) pa_nil)) pa_nil)))))), ?_⟩
    rw [if_neg (by decide), List.append_nil] at hz
    have pw' := pw rfl
    have hlen : z.length = A.length + w.length + 1 + B.length := by
      rw [← cps_len, hz]
      simp
      omega
    refine ⟨_, rfl, _, rfl, _, rfl, (by rw [sizeLine_eq]; omega), _, _, rfl, ⟨by omega, by omega, by omega, by omega⟩, ?_⟩
    refine for_range (lo := (A.length : Int)) (n := ((z.length : Int) - (A.length : Int)).toNat) (fun i σ H1 => H1 = H ∧ i ≤ w.length ∧ ∃ x2, σ = [some (.str z), some (.int (A.length : Int)), x2]) ⟨rfl, Nat.zero_le _, none, rfl⟩ ?_ ?_
    · rintro i σ H1 hi ⟨rfl, li, x2, rfl⟩
      have ee : ((A.length : Int) + (i : Int)) = ((A.length + i : Nat) : Int) := by omega
      rw [ee]
      by_cases hiw : i < w.length
      · have hc : z.cps.toList[A.length + i]? = some w[i] := by
          rw [hz]
          exact at_mid hiw
        have mc : w[i] ∈ abc.cps.toList := hw _ (List.getElem_mem hiw)
        generalize w[i] = c at hc mc
        have c40 : c ≠ 40 := by
          intro e
          rw [e] at mc
          exact absurd mc (by decide +kernel)
        have e0 : decide (V.str (⟨#[c]⟩ : Str) = V.str (Str.ofString "(")) = false := decide_eq_false (fun e => c40 (str1_inj (b := 40) e))
        have e1 : decide ((((A.length + i : Nat) : Int) - (A.length : Int)) ≥ 8) = false := decide_eq_false (by omega)
        have rest : (fun _ : Unit => True) () := trivial
        refine ⟨_, rfl, _, rfl, _, _, rfl, rfl, _, rfl, ite2 (fun _ => ?_) (fun _ => ?_)⟩
        · refine ⟨_, rfl, _, rfl, z, _, c, rfl, rfl, (by rw [sizeLine_eq]; omega), atI_nat hc, rfl, _, rfl, ?_⟩
          rw [e0]
          refine iteF ⟨_, rfl, _, rfl, _, _, rfl, rfl, _, _, rfl, rfl, _, rfl, ?_⟩
          rw [e1]
          refine iteF ⟨_, rfl, _, rfl, z, _, c, rfl, rfl, (by rw [sizeLine_eq]; omega), atI_nat hc, c, abc, rfl, rfl, _, rfl, ?_⟩
          rw [decide_eq_true mc]
          exact iteF ⟨rfl, by omega, _, rfl⟩
        · refine ⟨_, rfl, _, rfl, _, _, rfl, rfl, _, _, rfl, rfl, _, rfl, ?_⟩
          rw [e1]
          refine iteF ⟨_, rfl, _, rfl, z, _, c, rfl, rfl, (by rw [sizeLine_eq]; omega), atI_nat hc, c, abc, rfl, rfl, _, rfl, ?_⟩
          rw [decide_eq_true mc]
          exact iteF ⟨rfl, by omega, _, rfl⟩
      · have ei : i = w.length := by omega
        subst ei
        have hc : z.cps.toList[A.length + w.length]? = some 40 := by
          rw [hz]
          exact at_end
        have e2 : decide (((A.length + w.length : Nat) : Int) > (A.length : Int)) = true := decide_eq_true (by omega)
        refine ⟨_, rfl, _, rfl, _, _, rfl, rfl, _, rfl, ?_⟩
        rw [e2]
        refine iteT ⟨_, rfl, _, rfl, z, _, 40, rfl, rfl, (by rw [sizeLine_eq]; omega), atI_nat hc, rfl, _, rfl, ?_⟩
        exact iteT ⟨_, rfl, k⟩
    · rintro σ H1 ⟨rfl, li, x2, rfl⟩
      omega
end
end K1

/-! texts read: as far as one has come -/
namespace K1
open PySem L2 Xr Exv
abbrev Fr := Str × List Doc × List Doc
/-- what becomes of the things of the innermost open node, once all is closed -/
def asm : List Doc → List Fr → List Doc
  | cur, [] => cur
  | cur, (x, d, td) :: fs => asm (d ++ Doc.nod x cur :: td) fs
/-- the signs that close what is open -/
def clo : List Fr → List Nat
  | [] => []
  | (_, _, td) :: fs => 41 :: (chT td ++ clo fs)
theorem asm_ok : ∀ (fs : List Fr) (cur : List Doc), okD (asm cur fs) → okD cur ∧ ∀ f ∈ fs, nameD (.str f.1) = true ∧ okD f.2.1 ∧ okD f.2.2
  | [], cur, h => ⟨h, fun f hf => by simp at hf⟩
  | (x, d, td) :: fs, cur, h => by
    obtain ⟨a, b⟩ := asm_ok fs (d ++ Doc.nod x cur :: td) h
    obtain ⟨a1, a2⟩ := (okD_app _ _).mp a
    refine ⟨a2.1.2, fun f hf => ?_⟩
    rcases List.mem_cons.mp hf with e | e
    · rw [e]
      exact ⟨a2.1.1, a1, a2.2⟩
    · exact b f e
theorem asm_cnt : ∀ (fs : List Fr) (cur : List Doc), cntD cur + fs.length ≤ cntD (asm cur fs) ∧ ∀ f ∈ fs, cntD f.2.1 ≤ cntD (asm cur fs)
  | [], cur => ⟨Nat.le_refl _, fun f hf => by simp at hf⟩
  | (x, d, td) :: fs, cur => by
    obtain ⟨a, b⟩ := asm_cnt fs (d ++ Doc.nod x cur :: td)
    have e : cntD (d ++ Doc.nod x cur :: td) = cntD d + ((1 + cntD cur) + cntD td) := by rw [cntD_app]; rfl
    rw [e] at a
    refine ⟨?_, fun f hf => ?_⟩
    · show cntD cur + (fs.length + 1) ≤ cntD (asm (d ++ Doc.nod x cur :: td) fs)
      omega
    · rcases List.mem_cons.mp hf with e | e
      · rw [e]
        show cntD d ≤ cntD (asm (d ++ Doc.nod x cur :: td) fs)
        omega
      · exact b f e
abbrev sRead : Stmt := top 23
theorem scRead : FnScope ["value", "alone", "names", "rows", "state", "at", "sign", "free", "end", "things"] ["value", "alone"] (defScope sRead) := ⟨rfl, rfl, rfl, by decide +kernel, rfl, by decide +kernel, by decide +kernel⟩
abbrev sReadNode : Stmt := top 21
theorem scReadNode : FnScope ["value"] ["value"] (defScope sReadNode) := ⟨rfl, rfl, rfl, by decide +kernel, rfl, by decide +kernel, by decide +kernel⟩
abbrev sReadForest : Stmt := top 22
theorem scReadForest : FnScope ["value"] ["value"] (defScope sReadForest) := ⟨rfl, rfl, rfl, by decide +kernel, rfl, by decide +kernel, by decide +kernel⟩
/-- the beginning of what is still to come -/
def rem (st : Nat) (td : List Doc) (fs : List Fr) : List Nat := (if st = 2 then chT td else (chT td).tail) ++ clo fs
def spRead (K : PySem.W.Frag) (C : Addr) : Sp := fun vs H Q E => ∃ (v : V) (d : PyData) (N : Addr → Prop) (b : Bool), vs = [v, .bl b] ∧ Dm K N H v d ∧
  ((isStr d = false ∧ ∀ (dd : Addr) (H' : Hp), H' dd = some (.xd [("at", .int (-1))]) → Same H H' → E (.ref C) (some dd) H') ∨
   (∃ ts, d = .str (txAll ts) ∧ okD ts ∧ cntD ts ≤ 900 ∧ (b = true → ∃ x cs, ts = [.nod x cs]) ∧ ∀ u H', Dm K F0 H' u (.tuple (datAll ts)) → Same H H' → Q u H'))
def tFree (K : PySem.W.Frag) : TE := fun σ H Q => ∃ (nm : Addr) (xs : List V) (b : Bool), σ[2]? = some (some (.ref nm)) ∧ SqL K H nm xs ∧ σ[1]? = some (some (.bl b)) ∧ Q (.bl (!xs.isEmpty || !b)) H
def tC1 : TT := fun σ H Q => ∃ (st c : Nat) (b : Bool), σ[4]? = some (some (.int (st : Int))) ∧ σ[6]? = some (some (.str ⟨#[c]⟩)) ∧ σ[7]? = some (some (.bl b)) ∧ Q (!decide (st = 2) && (decide (c = 34) && b)) H
def tC2 : TT := fun σ H Q => ∃ (st c : Nat), σ[4]? = some (some (.int (st : Int))) ∧ σ[6]? = some (some (.str ⟨#[c]⟩)) ∧ Q (!decide (st = 2) && decide (c ∈ abc.cps.toList)) H
def tC3 (K : PySem.W.Frag) : TT := fun σ H Q => ∃ (st c : Nat) (nm : Addr) (xs : List V), σ[4]? = some (some (.int (st : Int))) ∧ σ[6]? = some (some (.str ⟨#[c]⟩)) ∧ σ[2]? = some (some (.ref nm)) ∧ SqL K H nm xs ∧ Q (!decide (st = 1) && (decide (c = 41) && !xs.isEmpty)) H
def tC4 : TT := fun σ H Q => ∃ (st c : Nat) (b : Bool), σ[4]? = some (some (.int (st : Int))) ∧ σ[6]? = some (some (.str ⟨#[c]⟩)) ∧ σ[7]? = some (some (.bl b)) ∧ Q (decide (st = 2) && (decide (c = 32) && b)) H
theorem decI (a k : Nat) : decide (V.int (a : Int) = V.int (k : Int)) = decide (a = k) := by
  by_cases h : a = k
  · rw [h, decide_eq_true rfl, decide_eq_true rfl]
  · rw [decide_eq_false h, decide_eq_false (fun e => h (by have := V.int.inj e; omega))]
/-- as far as the text is read -/
def RInv (K : PySem.W.Frag) (H : Hp) (z : Str) (alone : Bool) (Nm R : Addr) (ts : List Doc) : Nat → L2.St → Hp → Prop := fun m σ H1 => ∃ (r : Addr) (rs : List Addr) (d td : List Doc) (fs : List Fr) (st at0 : Nat) (x6 x7 x8 x9 : Option V), σ = [some (.str z), some (.bl alone), some (.ref Nm), some (.ref R), some (.int (st : Int)), some (.int (at0 : Int)), x6, x7, x8, x9] ∧ m = z.length - at0 ∧ at0 ≤ z.length ∧ z.cps.toList.drop at0 = rem st td fs ∧ (st = 2 → d ≠ []) ∧ (st = 1 → td ≠ []) ∧ st ≤ 2 ∧ Same H H1 ∧
  H1 R = some (.lst ((r :: rs).map V.ref).reverse) ∧ H1 Nm = some (.lst (fs.map fun f => V.str f.1).reverse) ∧ Rows K H1 900 (r :: rs) (d :: fs.map fun f => f.2.1) ∧ (r :: rs).Nodup ∧ (∀ q ∈ r :: rs, H q = none ∧ q ≠ R ∧ q ≠ Nm) ∧ asm (d ++ td) fs = ts
theorem cutS_mid {z : Str} {A w B : List Nat} {lo hi : Int} (h : z.cps.toList = A ++ w ++ B) (h1 : lo = (A.length : Int)) (h2 : hi = ((A.length + w.length : Nat) : Int)) : cutS z (some lo) (some hi) = strOf w := by
  subst h1 h2
  have hl : z.length = A.length + w.length + B.length := by
    rw [← cps_len, h]
    simp
    omega
  unfold cutS
  rw [HT.sIx_nat, HT.sIx_nat, hl, Nat.min_eq_left (by omega), Nat.min_eq_left (by omega), h]
  refine str_ext ?_
  rw [strOf_cps]
  show (((A ++ w ++ B).drop A.length).take (A.length + w.length - A.length)).toArray.toList = w
  rw [List.append_assoc, List.drop_left, Nat.add_sub_cancel_left, List.take_left]
theorem drop_split {l : List Nat} {n : Nat} {a b : List Nat} (hn : n ≤ l.length) (h : l.drop n = a ++ b) : l = l.take n ++ a ++ b ∧ (l.take n).length = n ∧ l.drop (n + a.length) = b ∧ n + a.length ≤ l.length := by
  have e : l = l.take n ++ (a ++ b) := by rw [← h, List.take_append_drop]
  have lt : (l.take n).length = n := by rw [List.length_take]; omega
  refine ⟨by rw [List.append_assoc]; exact e, lt, ?_, ?_⟩
  · rw [← List.drop_drop, h, List.drop_left]
  · have := congrArg List.length e
    rw [List.length_append, List.length_append, lt] at this
    omega
theorem head_at {l : List Nat} {n c : Nat} {b : List Nat} (h : l.drop n = c :: b) : l[n]? = some c := by
  have := List.getElem?_drop (xs := l) (i := n) (j := 0)
  rw [h] at this
  simpa using this.symm
end K1

namespace K1
open PySem L2 Xr Exv
section
variable {P : Program} {w : World} {K : PySem.W.Frag} {mg : Str → Option Value} {base : Heap} {C fI a_quote_end a_name_end a_read : Addr} {t1 t2 t3 t4 t5 t6 t7 : Tok} {fdI fdQ fdN fdR : FuncData}
theorem ok_read {fd : FuncData} (F : Fun K "_read" "_read" sRead a_read fd) (T : ReadTxt K mg C fI a_quote_end a_name_end a_read t1 t2 t3 t4 t5 t6 t7) (FI : Fun K "__init__" "InvalidText.__init__" sI0 fI fdI)
    (G_quote_end : FnOk P w K mg base (L2.CX P w) 4 a_quote_end fdQ ["text", "at"] (spEnd 34 abc9 16 1)) (b_quote_end : Binds K fdQ ["text", "at"] []) (G_name_end : FnOk P w K mg base (L2.CX P w) 4 a_name_end fdN ["text", "at"] (spEnd 40 abc 8 0)) (b_name_end : Binds K fdN ["text", "at"] []) :
    FnOk P w K mg base (L2.CX P w) 5 a_read fd ["value", "alone"] (spRead K C) := by
  refine F.okX scRead (fun vs H Q E h => ?_) (fun cdv A outer s H vs Q E hr h => ?_)
  · obtain ⟨v, d, N, b, rfl, _⟩ := h
    rfl
  · obtain ⟨v, d, N, alone, rfl, hv, h⟩ := h
    have hr2 : Room 2 _ := hr.mono (by decide)
    refine ⟨_, (pss_cons (ps_if (pt_not (pt_val (pe_callB call_isi (by rfl) T.n_isinstance (by decide +kernel) (pa_cons (pv 0) (pa_cons (pe_bltn (v := V.ty "str") (u := .type "str") (by rfl) T.n_str (by decide +kernel) (by rfl)) pa_nil)))))
      (pss_one (ps_raise rfl (takes_of rfl rfl rfl rfl) (pmk_newE rfl (pe_newE T.t PySem.F.excBase_Exception base3E (ok_init0 FI T.t) hr2 pass0 rfl T.m (fun s a u _ => bp0 FI s a u) (pa_cons (pe_un un_neg pe_int) pa_nil)))))
      pss_nil)
      (pss_cons (ps_set (i := 2) scRead.nd rfl (Or.inl rfl) (pe_lst pa_nil))
      (pss_cons (ps_set (i := 3) scRead.nd rfl (Or.inl rfl) (pe_lst (pa_cons (pe_lst pa_nil) pa_nil)))
      (pss_cons (ps_set (i := 4) scRead.nd rfl (Or.inl rfl) (pe_glob (v := V.int 0) (by rfl) T.g_AT_FIRST (by exact ⟨_, rfl⟩)))
      (pss_cons (ps_set (i := 5) scRead.nd rfl (Or.inl rfl) pe_int)
      (pss_cons (ps_while PassesOwn.leaving (pt_cmpR op_lt (pv 5) (pe_callB call_len_str (by rfl) T.n_len PySem.boot_len (pa_cons (pv 0) pa_nil)) (nomark _))
      (pss_cons (ps_set (i := 6) scRead.nd rfl (Or.inl rfl) (pe_ix ix_str (pv 0) (pv 5) (fun _ _ => rfl)))
      (pss_cons (ps_set (i := 7) scRead.nd rfl (Or.inl rfl) (pe_conseq (te' := tFree K) (pe_or (pe_cmpR op_gt (pe_callB call_len_seq (by rfl) T.n_len PySem.boot_len (pa_cons (pv 2) pa_nil)) pe_int (nomark _)) (pe_one (pe_not (pv 1)))) (by
      rintro σ H Q ⟨nm, xs, b, e2, sq, e1, q⟩
      refine ⟨_, e2, nm, xs, rfl, .inl sq, _, _, rfl, rfl, _, rfl, ?_⟩
      cases xs with
      | nil => exact iteF ⟨_, e1, b, rfl, q⟩
      | cons x xs =>
        have e : decide ((((x :: xs).length : Nat) : Int) > 0) = true := decide_eq_true (by rw [List.length_cons]; omega)
        rw [e]
        exact iteT q)))
      (pss_cons (ps_if (pt_conseq (t' := tC1) (PW.pt (pw_and (pt_cmpR op_ne (pv 4) (pe_glob (v := V.int 2) (by rfl) T.g_BEHIND (by exact ⟨_, rfl⟩)) (nomark _)) (pw_and (pt_cmpR op_eq (pv 6) pe_str (nomark _)) (pw_and1 (pt_truth (pv 7) (by intro _; rfl)))))) (by
      rintro σ H Q ⟨st, c, b, e4, e6, e7, q⟩
      refine ⟨_, e4, rfl, _, rfl, ?_⟩
      rw [show decide (V.int (st : Int) = V.int 2) = decide (st = 2) from decI st 2]
      by_cases h : st = 2
      · rw [decide_eq_true h] at q ⊢
        exact iteF q
      · rw [decide_eq_false h] at q ⊢
        refine iteT ⟨_, e6, rfl, _, rfl, ?_⟩
        rw [show decide (V.str (⟨#[c]⟩ : Str) = V.str (Str.ofString "\"")) = decide (c = 34) from dec1 c 34]
        by_cases h2 : c = 34
        · rw [decide_eq_true h2] at q ⊢
          exact iteT ⟨_, e7, b, rfl, q⟩
        · rw [decide_eq_false h2] at q ⊢
          exact iteF q))
      (pss_cons (ps_set (i := 8) scRead.nd rfl (Or.inl rfl) (pe_callS G_quote_end hr (by rfl) T.g_quote_end T.k_quote_end b_quote_end (fun σ => passAt (takes_of rfl rfl rfl rfl) σ) (by exact (pa_cons (pv 0) (pa_cons (pv 5) pa_nil)))))
      (pss_cons (ps_expr (pe_bm PySem.F.plainAttrs_list PySem.F.slot_list_append PySem.F.type_list_append mt_append (pe_ix ix_list (pv 3) (pe_un un_neg pe_int) (fun _ _ => rfl)) (pa_cons (pe_slice sl_str (pv 0) (po_some (pe_op op_add (pv 5) pe_int)) (po_some (pv 8))) pa_nil)))
      (pss_one (ps_set (i := 4) scRead.nd rfl (Or.inl rfl) (pe_glob (v := V.int 2) (by rfl) T.g_BEHIND (by exact ⟨_, rfl⟩))))))
      (pss_one (ps_if (pt_conseq (t' := tC2) (PW.pt (pw_and (pt_cmpR op_ne (pv 4) (pe_glob (v := V.int 2) (by rfl) T.g_BEHIND (by exact ⟨_, rfl⟩)) (nomark _)) (pw_and1 (pt_cmpR op_in_sign (pv 6) (pe_glob (v := V.str abc) (by rfl) T.g_NAME_SIGNS (by exact ⟨_, rfl⟩)) (by rfl))))) (by
      rintro σ H Q ⟨st, c, e4, e6, q⟩
      refine ⟨_, e4, rfl, _, rfl, ?_⟩
      rw [show decide (V.int (st : Int) = V.int 2) = decide (st = 2) from decI st 2]
      by_cases h : st = 2
      · rw [decide_eq_true h] at q ⊢
        exact iteF q
      · rw [decide_eq_false h] at q ⊢
        exact iteT ⟨_, e6, c, abc, rfl, rfl, _, rfl, q⟩))
      (pss_cons (ps_set (i := 8) scRead.nd rfl (Or.inl rfl) (pe_callS G_name_end hr (by rfl) T.g_name_end T.k_name_end b_name_end (fun σ => passAt (takes_of rfl rfl rfl rfl) σ) (by exact (pa_cons (pv 0) (pa_cons (pv 5) pa_nil)))))
      (pss_cons (ps_expr (pe_bm PySem.F.plainAttrs_list PySem.F.slot_list_append PySem.F.type_list_append mt_append (pv 2) (pa_cons (pe_slice sl_str (pv 0) (po_some (pv 5)) (po_some (pv 8))) pa_nil)))
      (pss_cons (ps_expr (pe_bm PySem.F.plainAttrs_list PySem.F.slot_list_append PySem.F.type_list_append mt_append (pv 3) (pa_cons (pe_lst pa_nil) pa_nil)))
      (pss_one (ps_set (i := 4) scRead.nd rfl (Or.inl rfl) (pe_glob (v := V.int 0) (by rfl) T.g_AT_FIRST (by exact ⟨_, rfl⟩)))))))
      (pss_one (ps_if (pt_conseq (t' := tC3 K) (PW.pt (pw_and (pt_cmpR op_ne (pv 4) (pe_glob (v := V.int 1) (by rfl) T.g_AT_THING (by exact ⟨_, rfl⟩)) (nomark _)) (pw_and (pt_cmpR op_eq (pv 6) pe_str (nomark _)) (pw_and1 (pt_truth (pv 2) (by intro _; rfl)))))) (by
      rintro σ H Q ⟨st, c, nm, xs, e4, e6, e2, sq, q⟩
      refine ⟨_, e4, rfl, _, rfl, ?_⟩
      rw [show decide (V.int (st : Int) = V.int 1) = decide (st = 1) from decI st 1]
      by_cases h : st = 1
      · rw [decide_eq_true h] at q ⊢
        exact iteF q
      · rw [decide_eq_false h] at q ⊢
        refine iteT ⟨_, e6, rfl, _, rfl, ?_⟩
        rw [show decide (V.str (⟨#[c]⟩ : Str) = V.str (Str.ofString ")")) = decide (c = 41) from dec1 c 41]
        by_cases h2 : c = 41
        · rw [decide_eq_true h2] at q ⊢
          exact iteT ⟨_, e2, _, .inl ⟨_, sq, rfl⟩, q⟩
        · rw [decide_eq_false h2] at q ⊢
          exact iteF q))
      (pss_cons (ps_set (i := 9) scRead.nd rfl (Or.inl rfl) (pe_bm0 PySem.F.plainAttrs_list PySem.F.slot_list_pop PySem.F.type_list_pop mt_pop (pv 3)))
      (pss_cons (ps_expr (pe_bm PySem.F.plainAttrs_list PySem.F.slot_list_append PySem.F.type_list_append mt_append (pe_ix ix_list (pv 3) (pe_un un_neg pe_int) (fun _ _ => rfl)) (pa_cons (pe_tup (pa_cons (pe_bm0 PySem.F.plainAttrs_list PySem.F.slot_list_pop PySem.F.type_list_pop mt_pop (pv 2)) (pa_cons (pe_callTy call_tuple_of (by rfl) T.n_tuple (by decide +kernel) (pa_cons (pv 9) pa_nil)) pa_nil))) pa_nil)))
      (pss_cons (ps_set (i := 8) scRead.nd rfl (Or.inl rfl) (pv 5))
      (pss_one (ps_set (i := 4) scRead.nd rfl (Or.inl rfl) (pe_glob (v := V.int 2) (by rfl) T.g_BEHIND (by exact ⟨_, rfl⟩)))))))
      (pss_one (ps_if (pt_conseq (t' := tC4) (PW.pt (pw_and (pt_cmpR op_eq (pv 4) (pe_glob (v := V.int 2) (by rfl) T.g_BEHIND (by exact ⟨_, rfl⟩)) (nomark _)) (pw_and (pt_cmpR op_eq (pv 6) pe_str (nomark _)) (pw_and1 (pt_truth (pv 7) (by intro _; rfl)))))) (by
      rintro σ H Q ⟨st, c, b, e4, e6, e7, q⟩
      refine ⟨_, e4, rfl, _, rfl, ?_⟩
      rw [show decide (V.int (st : Int) = V.int 2) = decide (st = 2) from decI st 2]
      by_cases h : st = 2
      · rw [decide_eq_true h] at q ⊢
        refine iteT ⟨_, e6, rfl, _, rfl, ?_⟩
        rw [show decide (V.str (⟨#[c]⟩ : Str) = V.str (Str.ofString " ")) = decide (c = 32) from dec1 c 32]
        by_cases h2 : c = 32
        · rw [decide_eq_true h2] at q ⊢
          exact iteT ⟨_, e7, b, rfl, q⟩
        · rw [decide_eq_false h2] at q ⊢
          exact iteF q
      · rw [decide_eq_false h] at q ⊢
        exact iteF q))
      (pss_cons (ps_set (i := 8) scRead.nd rfl (Or.inl rfl) (pv 5))
      (pss_one (ps_set (i := 4) scRead.nd rfl (Or.inl rfl) (pe_glob (v := V.int 1) (by rfl) T.g_AT_THING (by exact ⟨_, rfl⟩)))))
      (pss_one (ps_raise rfl (takes_of rfl rfl rfl rfl) (pmk_newE rfl (pe_newE T.t PySem.F.excBase_Exception base3E (ok_init0 FI T.t) hr2 pass0 rfl T.m (fun s a u _ => bp0 FI s a u) (pa_cons (pv 5) pa_nil))))))))))))
      (pss_one (ps_set (i := 5) scRead.nd rfl (Or.inl rfl) (pe_op op_add (pv 8) pe_int)))))))
      (pss_cons (ps_if (PW.pt (pw_or (pt_truth (pv 2) (by intro _; rfl)) (pw_or (pt_cmpR op_eq (pv 4) (pe_glob (v := V.int 1) (by rfl) T.g_AT_THING (by exact ⟨_, rfl⟩)) (nomark _)) (pw_or1 (PW.pt (pw_and (pt_truth (pv 1) (by intro _; rfl)) (pw_and1 (pt_not (pt_truth (pe_ix ix_list (pv 3) pe_int (fun _ _ => rfl)) (by intro _; rfl))))))))))
      (pss_one (ps_raise rfl (takes_of rfl rfl rfl rfl) (pmk_newE rfl (pe_newE T.t PySem.F.excBase_Exception base3E (ok_init0 FI T.t) hr2 pass0 rfl T.m (fun s a u _ => bp0 FI s a u) (pa_cons (pe_callB call_len_str (by rfl) T.n_len PySem.boot_len (pa_cons (pv 0) pa_nil)) pa_nil)))))
      pss_nil)
      (pss_one (ps_ret (pe_callTy call_tuple_of (by rfl) T.n_tuple (by decide +kernel) (pa_cons (pe_ix ix_list (pv 3) pe_int (fun _ _ => rfl)) pa_nil))))))))))), ?_⟩
    refine ⟨_, rfl, _, _, _, _, _, rfl, .ty "str", hv.ty, kit_str d, _, rfl, ?_⟩
    rcases h with ⟨hs, kE⟩ | ⟨ts, rfl, ho, hcn, hal, k⟩
    · rw [hs]
      exact iteT ⟨1, rfl, _, rfl, fun a1 ha1 => ⟨a1, _, rfl, upd_same, fun dx hd1 ne => ⟨rfl, a1, C, rfl, fr0_none ha1, T.ex, T.ty, .inr ⟨dx, _, ne, upd_same, (by rw [upd_ne ne, upd_same]), kE dx _ upd_same (same_raised (Same.refl H) ha1 hd1 ne)⟩⟩⟩⟩
    · have ev := hv.strV
      subst ev
      have lz : (txAll ts).length ≤ 20000 := by
        unfold txAll
        rw [strOf_len, List.length_tail]
        have := chT_len ts ho
        omega
      have ez : (txAll ts).cps.toList = (chT ts).tail := strOf_cps _
      generalize txAll ts = z at lz ez hv ⊢
      refine iteF ⟨Nat.zero_le _, fun Nm hNm => ⟨Nat.zero_le _, fun r hr0 => ⟨(by show 1 ≤ sizeLine; decide), fun R hR => ?_⟩⟩⟩
      have n1 : Nm ≠ r := ne_of_none upd_same hr0
      have n2 : Nm ≠ R := ne_of_none (by rw [upd_ne n1, upd_same]) hR
      have n3 : r ≠ R := ne_of_none upd_same hR
      have z1 : H r = none := by
        have z := hr0
        rw [upd_ne (Ne.symm n1)] at z
        exact z
      have z2 : H R = none := by
        have z := hR
        rw [upd_ne (Ne.symm n3), upd_ne (Ne.symm n2)] at z
        exact z
      have s0 : Same H (upd (upd (upd H Nm (.lst [])) r (.lst [])) R (.lst [.ref r])) := (((Same.refl H).new hNm).new hr0).new hR
      refine ⟨RInv K H z alone Nm R ts,
        ⟨z.length, r, [], [], ts, [], 0, 0, none, none, none, none, rfl, rfl, Nat.zero_le _, ?_, (fun h => nomatch h), (fun h => nomatch h), by decide, s0, upd_same, by rw [upd_ne n2, upd_ne n1, upd_same]; rfl, ⟨⟨[], by rw [upd_ne n3, upd_same], .nil, Nat.zero_le _⟩, trivial⟩, by simp, (fun q hq => by
          have e : q = r := by simpa using hq
          rw [e]
          exact ⟨z1, n3, Ne.symm n1⟩), rfl⟩, ?_⟩
      · show z.cps.toList = (chT ts).tail ++ []
        rw [List.append_nil, ez]
      clear n3 z1 s0 hR hr0
      rintro m σ H1 ⟨r, rs, d, td, fs, st, at0, x6, x7, x8, x9, rfl, rfl, la, er, hd2, ht1, lst, s1, hR1, hN1, ro, nd, hq, ea⟩
      have oks := asm_ok fs (d ++ td) (by rw [ea]; exact ho)
      have cns := asm_cnt fs (d ++ td)
      rw [ea, cntD_app] at cns
      have okd := (okD_app _ _).mp oks.1
      have lfs : fs.length ≤ 900 := by omega
      have ro0 := ro
      have lr := Rows.len _ _ ro
      rw [List.length_cons, List.length_cons, List.length_map] at lr
      obtain ⟨⟨zs, hr1, dz, lzs⟩, ro2⟩ := ro
      have rN : r ≠ Nm := (hq r (by simp)).2.2
      have rR : r ≠ R := (hq r (by simp)).2.1
      have ndr : r ∉ rs := (List.nodup_cons.mp nd).1
      have nds : rs.Nodup := (List.nodup_cons.mp nd).2
      have hqs : ∀ q ∈ rs, H q = none ∧ q ≠ R ∧ q ≠ Nm := fun q h => hq q (List.mem_cons_of_mem _ h)
      have ldz := dz.len
      rw [datAll_length] at ldz
      have ldd := cntD_len d
      have el : ((r :: rs).map V.ref).reverse = (rs.map V.ref).reverse ++ [.ref r] := by simp
      refine ⟨_, rfl, _, rfl, _, rfl, (by rw [sizeLine_eq]; omega), _, _, rfl, rfl, _, rfl, ite2 (fun hlt => ?_) (fun hge => ?_)⟩
      · have hlt' : at0 < z.length := by
          have := of_decide_eq_true hlt
          omega
        have la2 : at0 ≤ z.cps.toList.length := by rw [cps_len]; exact la
        refine ⟨fun σ' H' => ∃ m', m' < z.length - at0 ∧ RInv K H z alone Nm R ts m' σ' H', fun _ _ ⟨m', l, q⟩ => ⟨m', l, q⟩, ?_⟩
        have sgn : ∀ c b, rem st td fs = c :: b → z.cps.toList[at0]? = some c := fun c b e => head_at (er.trans e)
        cases td with
        | nil =>
          have st1 : st ≠ 1 := fun e => ht1 e rfl
          have er0 : rem st [] fs = clo fs := by
            unfold rem
            split <;> rfl
          rw [er0] at er sgn
          cases fs with
          | nil =>
            have z9 := congrArg List.length er
            rw [List.length_drop, cps_len] at z9
            have z8 : z.length - at0 = 0 := z9
            omega
          | cons f fs =>
            obtain ⟨x, d', td'⟩ := f
            have hc := sgn 41 _ rfl
            refine ⟨_, rfl, _, rfl, z, _, 41, rfl, rfl, (by rw [sizeLine_eq]; omega), atI_nat hc, ?_⟩
            refine ⟨Nm, _, alone, rfl, SqL.of hN1, rfl, ?_⟩
            have ne : ((((x, d', td') :: fs).map fun f : Fr => V.str f.1).reverse).isEmpty = false := by simp
            refine ⟨st, 41, _, rfl, rfl, rfl, ?_⟩
            rw [show (!decide (st = 2) && (decide (41 = 34) && (!((((x, d', td') :: fs).map fun f : Fr => V.str f.1).reverse).isEmpty || !alone))) = false by rw [show decide (41 = 34) = false from rfl, Bool.false_and, Bool.and_false]]
            refine iteF ⟨st, 41, rfl, rfl, ?_⟩
            rw [show (!decide (st = 2) && decide (41 ∈ abc.cps.toList)) = false by rw [show decide (41 ∈ abc.cps.toList) = false by decide +kernel, Bool.and_false]]
            refine iteF ⟨st, 41, Nm, _, rfl, rfl, rfl, SqL.of hN1, ?_⟩
            rw [show (!decide (st = 1) && (decide (41 = 41) && !((((x, d', td') :: fs).map fun f : Fr => V.str f.1).reverse).isEmpty)) = true by rw [ne, decide_eq_false st1]; rfl]
            cases rs with
            | nil => exact ro2.elim
            | cons r' rs =>
              obtain ⟨⟨zs', hr1', dz', lz'⟩, ro3⟩ := ro2
              have el : ((r :: r' :: rs).map V.ref).reverse = ((r' :: rs).map V.ref).reverse ++ [.ref r] := by simp
              have el2 : ((r' :: rs).map V.ref).reverse = (rs.map V.ref).reverse ++ [.ref r'] := by simp
              rw [el] at hR1
              refine iteT ⟨_, rfl, .inl ⟨rfl, _, SqL.of hR1⟩, _, _, .ref r, rfl, rfl, hR1, (by simp), ?_⟩
              rw [List.dropLast_concat, el2]
              have rr : r ≠ r' := fun e => ndr (by rw [e]; simp)
              have rR' : r' ≠ R := (hqs r' (by simp)).2.1
              have rN' : r' ≠ Nm := (hqs r' (by simp)).2.2
              have t2 : Tm H1 (upd H1 R (.lst ((rs.map V.ref).reverse ++ [.ref r']))) := Tm.refl.cell hR1
              have s2 : Same H (upd H1 R (.lst ((rs.map V.ref).reverse ++ [.ref r']))) := s1.cell z2
              have hR2 : (upd H1 R (.lst ((rs.map V.ref).reverse ++ [.ref r']))) R = some (.lst ((rs.map V.ref).reverse ++ [.ref r'])) := upd_same
              have hN2 : (upd H1 R (.lst ((rs.map V.ref).reverse ++ [.ref r']))) Nm = some (.lst ((fs.map fun f => V.str f.1).reverse ++ [.str x])) := by
                rw [upd_ne n2, hN1]
                simp
              have ke : ∀ q, q ≠ R → (upd H1 R (.lst ((rs.map V.ref).reverse ++ [.ref r']))) q = H1 q := fun q h => upd_ne h
              generalize upd H1 R (.lst ((rs.map V.ref).reverse ++ [.ref r'])) = H2 at t2 s2 hR2 hN2 ke ⊢
              refine ⟨_, rfl, 1, rfl, _, _, _, _, rfl, rfl, SqL.of hR2, at_last, .inl ⟨rfl, _, SqL.of (by rw [ke r' rR']; exact hr1')⟩, ?_⟩
              refine ⟨_, rfl, .inl ⟨rfl, _, SqL.of hN2⟩, _, _, .str x, rfl, rfl, hN2, (by simp), ?_⟩
              rw [List.dropLast_concat]
              have t3 : Tm H1 (upd H2 Nm (.lst (fs.map fun f => V.str f.1).reverse)) := t2.cell hN2
              have s3 : Same H (upd H2 Nm (.lst (fs.map fun f => V.str f.1).reverse)) := s2.cell hNm
              have hR3 : (upd H2 Nm (.lst (fs.map fun f => V.str f.1).reverse)) R = some (.lst ((rs.map V.ref).reverse ++ [.ref r'])) := by rw [upd_ne (Ne.symm n2)]; exact hR2
              have hN3 : (upd H2 Nm (.lst (fs.map fun f => V.str f.1).reverse)) Nm = some (.lst (fs.map fun f => V.str f.1).reverse) := upd_same
              have ke3 : ∀ q, q ≠ R → q ≠ Nm → (upd H2 Nm (.lst (fs.map fun f => V.str f.1).reverse)) q = H1 q := fun q h h2 => by rw [upd_ne h2]; exact ke q h
              generalize upd H2 Nm (.lst (fs.map fun f => V.str f.1).reverse) = H3 at t3 s3 hR3 hN3 ke3 ⊢
              have hr3 : H3 r = some (.lst zs) := by rw [ke3 r rR rN]; exact hr1
              have hr3' : H3 r' = some (.lst zs') := by rw [ke3 r' rR' rN']; exact hr1'
              refine ⟨_, rfl, r, zs, rfl, .inl ⟨SqL.of hr3, fun p hp => ⟨(by show 2 ≤ sizeLine; decide), fun p2 hp2 => ?_⟩⟩⟩
              have pp : p ≠ p2 := ne_of_none upd_same hp2
              have new1 : ∀ q o, H3 q = some o → (upd (upd H3 p (.tup zs)) p2 (.tup [.str x, .ref p])) q = some o := fun q o e => by
                have z1 := ne_of_none e hp
                rw [upd_ne (ne_of_none (by rw [upd_ne z1]; exact e) hp2), upd_ne z1]
                exact e
              have t4 : Tm H1 (upd (upd H3 p (.tup zs)) p2 (.tup [.str x, .ref p])) := (t3.new hp).new hp2
              have t5 : Tm H1 (upd (upd (upd H3 p (.tup zs)) p2 (.tup [.str x, .ref p])) r' (.lst (zs' ++ [.ref p2]))) := t4.cell (new1 _ _ hr3')
              have ldz' : zs'.length = d'.length := by
                have z := dz'.len
                rw [datAll_length] at z
                exact z
              have ldd' := cntD_len d'
              have cns2 := asm_cnt fs (d' ++ Doc.nod x (d ++ []) :: td')
              have ea8 : asm (d' ++ Doc.nod x (d ++ []) :: td') fs = ts := ea
              rw [ea8, cntD_app] at cns2
              have ecd : cntD (Doc.nod x (d ++ []) :: td') = (1 + cntD (d ++ [])) + cntD td' := rfl
              have b900 : zs'.length + 1 ≤ 900 := by
                have b1 := cns2.1
                rw [ecd] at b1
                omega
              refine ⟨_, _, _, rfl, rfl, new1 _ _ hr3', smallM (by omega), ?_⟩
              have p2r : p2 ≠ r' := fun e => by
                have z := new1 _ _ hr3'
                rw [← e, upd_same] at z
                cases z
              have pr : p ≠ r' := fun e => by
                rw [e, hr3'] at hp
                cases hp
              obtain ⟨f1, f2, f3, f4⟩ := drop_split (a := [41]) la2 er
              refine ⟨_, rfl, _, rfl, _, _, rfl, rfl, ?_⟩
              rw [cps_len] at f4
              have f4' : at0 + 1 ≤ z.length := f4
              refine ⟨z.length - (at0 + 1), by omega, r', rs, d' ++ [.nod x d], td', fs, 2, at0 + 1, _, _, _, _, rfl, rfl, f4', f3, (fun _ => by simp), (fun h => nomatch h), by decide, ((s3.new hp).new hp2).cell (hqs r' (by simp)).1, ?_, ?_, ⟨⟨zs' ++ [.ref p2], upd_same, ?_, by rw [List.length_append, List.length_singleton]; exact b900⟩, ?_⟩, nds, hqs, ?_⟩
              · rw [upd_ne (Ne.symm rR'), el2]
                exact new1 _ _ hR3
              · rw [upd_ne (Ne.symm rN')]
                exact new1 _ _ hN3
              · rw [datAll_snoc]
                refine (docs_mono t5 _ _ dz').snoc (.tup (xs := [.str x, .ref p]) ?_ (fun z => z) (.cons (.str x) (.cons (.tup (xs := zs) ?_ (fun z => z) (docs_mono t5 _ _ dz)) .nil)))
                · rw [upd_ne p2r, upd_same]
                · rw [upd_ne pr, upd_ne pp, upd_same]
              · refine Rows.mono (Nat.le_refl 900) t5 _ _ (fun q h => ?_) ro3
                have q1 := hqs q (List.mem_cons_of_mem _ h)
                have q2 : q ≠ r' := fun e => (List.nodup_cons.mp nds).1 (e ▸ h)
                obtain ⟨o, z⟩ := Rows.trk rs _ ro3 q h
                rw [upd_ne q2, z]
                exact new1 q o (by rw [ke3 q q1.2.1 q1.2.2]; exact z)
              · rw [List.append_assoc]
                rw [List.append_nil] at ea8
                exact ea8
        | cons t td =>
          by_cases h2 : st = 2
          · -- a blank
            subst h2
            have er0 : rem 2 (t :: td) fs = 32 :: ((t.ch ++ chT td) ++ clo fs) := rfl
            have hc := sgn 32 _ er0
            refine ⟨_, rfl, _, rfl, z, _, 32, rfl, rfl, (by rw [sizeLine_eq]; omega), atI_nat hc, ?_⟩
            refine ⟨Nm, _, alone, rfl, SqL.of hN1, rfl, ?_⟩
            have fr : (!((fs.map fun f : Fr => V.str f.1).reverse).isEmpty || !alone) = true := by
              cases fs with
              | cons f fs => simp
              | nil =>
                cases alone with
                | false => rfl
                | true =>
                  obtain ⟨x, cs, ets⟩ := hal rfl
                  have e9 : d ++ t :: td = ts := ea
                  rw [ets] at e9
                  cases d with
                  | nil => exact absurd rfl (hd2 rfl)
                  | cons d0 ds =>
                    have := congrArg List.length e9
                    simp at this
            rw [fr]
            refine ⟨2, 32, _, rfl, rfl, rfl, iteF ⟨2, 32, rfl, rfl, iteF ⟨2, 32, Nm, _, rfl, rfl, rfl, SqL.of hN1, iteF ⟨2, 32, true, rfl, rfl, rfl, iteT ?_⟩⟩⟩⟩
            obtain ⟨f1, f2, f3, f4⟩ := drop_split (a := [32]) la2 (er.trans er0)
            rw [cps_len] at f4
            have f4' : at0 + 1 ≤ z.length := f4
            refine ⟨_, rfl, _, rfl, _, _, rfl, rfl, ?_⟩
            exact ⟨z.length - (at0 + 1), by omega, r, rs, d, t :: td, fs, 1, at0 + 1, _, _, _, _, rfl, rfl, f4', f3, (fun h => nomatch h), (fun _ => by simp), by decide, s1, hR1, hN1, ro0, nd, hq, ea⟩
          · have er0 : rem st (t :: td) fs = (t.ch ++ chT td) ++ clo fs := by
              unfold rem
              rw [if_neg h2]
              rfl
            rw [er0] at er sgn
            have s2F : decide (st = 2) = false := decide_eq_false h2
            have cdt : cntD (t :: td) = t.cnt + cntD td := rfl
            have tp := cnt_pos t
            cases t with
            | txt w =>
              obtain ⟨sw, lw⟩ := text_facts (show textD (.str w) = true from okd.2.1)
              have hsig : ∀ c ∈ w.cps.toList, c ∈ abc9.cps.toList := by
                have h9 : textD (.str w) = true := okd.2.1
                have e9 : textD (.str w) = (decide (w.length ≤ 16) && hasOnly w abc9) := rfl
                rw [e9, Bool.and_eq_true] at h9
                unfold hasOnly at h9
                exact fun c hc => of_decide_eq_true (List.all_eq_true.mp h9.2 c hc)
              have ech : (Doc.txt w).ch ++ chT td ++ clo fs = 34 :: (w.cps.toList ++ 34 :: (chT td ++ clo fs)) := by
                show (34 :: (w.cps.toList ++ [34])) ++ chT td ++ clo fs = _
                simp
              rw [ech] at er sgn
              have hc := sgn 34 _ rfl
              refine ⟨_, rfl, _, rfl, z, _, 34, rfl, rfl, (by rw [sizeLine_eq]; omega), atI_nat hc, ?_⟩
              refine ⟨Nm, _, alone, rfl, SqL.of hN1, rfl, ?_⟩
              have fr : (!((fs.map fun f : Fr => V.str f.1).reverse).isEmpty || !alone) = true := by
                cases fs with
                | cons f fs => simp
                | nil =>
                  cases alone with
                  | false => rfl
                  | true =>
                    obtain ⟨x, cs, ets⟩ := hal rfl
                    have e9 : d ++ Doc.txt w :: td = ts := ea
                    rw [ets] at e9
                    cases d with
                    | nil =>
                      injection e9 with e9 _
                      cases e9
                    | cons d0 ds =>
                      have := congrArg List.length e9
                      simp at this
              rw [fr]
              refine ⟨st, 34, true, rfl, rfl, rfl, ?_⟩
              rw [s2F]
              have er1 : z.cps.toList.drop at0 = ([34] ++ w.cps.toList) ++ 34 :: (chT td ++ clo fs) := by rw [er]; simp
              obtain ⟨f1, f2, f3, f4⟩ := drop_split la2 er1
              have er2 : z.cps.toList.drop at0 = ([34] ++ w.cps.toList ++ [34]) ++ (chT td ++ clo fs) := by rw [er]; simp
              obtain ⟨g1, g2, g3, g4⟩ := drop_split la2 er2
              have lw1 : ([34] ++ w.cps.toList ++ [34]).length = w.length + 2 := by
                rw [List.length_append, List.length_append, cps_len]
                show 1 + w.length + 1 = _
                omega
              rw [lw1] at g3 g4
              rw [cps_len] at g4
              have ra0 : z.cps.toList = z.cps.toList.take at0 ++ [34] ++ w.cps.toList ++ 34 :: (chT td ++ clo fs) := by
                rw [← List.append_assoc] at f1
                exact f1
              refine iteT ⟨_, rfl, _, rfl, z, z.cps.toList.take at0, chT td ++ clo fs, w.cps.toList, by rw [f2], ra0, by omega, by rw [cps_len]; exact lw, (fun h => nomatch h), hsig, ?_⟩
              rw [el] at hR1
              refine ⟨_, rfl, 1, rfl, _, _, _, _, rfl, rfl, SqL.of hR1, at_last, .inl ⟨rfl, _, SqL.of hr1⟩, ?_⟩
              refine ⟨_, rfl, _, rfl, _, _, rfl, rfl, _, rfl, _, rfl, _, rfl, z, rfl, (by rw [sizeLine_eq]; omega), ?_⟩
              have ecut : cutS z (some ((at0 : Int) + 1)) (some (((z.cps.toList.take at0).length + 1 + w.cps.toList.length : Nat) : Int)) = w := by
                rw [cutS_mid (A := z.cps.toList.take at0 ++ [34]) (w := w.cps.toList) (B := 34 :: (chT td ++ clo fs)) ra0 (by rw [List.length_append, f2]; rfl) (by rw [List.length_append]; rfl), strOf_eq]
              rw [ecut]
              refine ⟨_, _, _, rfl, rfl, hr1, smallM (by omega), ?_⟩
              refine ⟨_, rfl, _, _, rfl, rfl, ?_⟩
              rw [f2, cps_len]
              have eat : at0 + (w.length + 2) = at0 + 1 + w.length + 1 := by omega
              rw [eat] at g3 g4
              refine ⟨z.length - (at0 + 1 + w.length + 1), by omega, r, rs, d ++ [.txt w], td, fs, 2, at0 + 1 + w.length + 1, _, _, _, _, rfl, rfl, g4, g3, (fun _ => by simp), (fun h => nomatch h), by decide, s1.cell (hq r (by simp)).1, ?_, ?_, ⟨⟨zs ++ [.str w], upd_same, ?_, by rw [List.length_append, List.length_singleton]; omega⟩, ?_⟩, nd, hq, ?_⟩
              · rw [upd_ne (Ne.symm rR), el]
                exact hR1
              · rw [upd_ne (Ne.symm rN)]
                exact hN1
              · rw [datAll_snoc]
                exact (docs_mono (Tm.refl.cell hr1) _ _ dz).snoc (.str w)
              · exact Rows.mono (Nat.le_refl 900) (Tm.refl.cell hr1) _ _ (fun q h => upd_ne (fun e => ndr (e ▸ h))) ro2
              · rw [List.append_assoc]
                exact ea
            | nod x cs =>
              have nx : nameD (.str x) = true := okd.2.1.1
              obtain ⟨sx, lx⟩ := name_facts nx
              have hsig : ∀ c ∈ x.cps.toList, c ∈ abc.cps.toList := by
                have e9 : nameD (.str x) = (decide (x.length ≠ 0) && (decide (x.length ≤ 8) && hasOnly x abc)) := rfl
                rw [e9, Bool.and_eq_true, Bool.and_eq_true] at nx
                have h9 := nx.2.2
                unfold hasOnly at h9
                exact fun c hc => of_decide_eq_true (List.all_eq_true.mp h9 c hc)
              have px : 0 < x.length := by
                have e9 : nameD (.str x) = (decide (x.length ≠ 0) && (decide (x.length ≤ 8) && hasOnly x abc)) := rfl
                rw [e9, Bool.and_eq_true] at nx
                have := of_decide_eq_true nx.1
                omega
              have ech : (Doc.nod x cs).ch ++ chT td ++ clo fs = x.cps.toList ++ 40 :: ((chT cs).tail ++ clo ((x, d, td) :: fs)) := by
                show (x.cps.toList ++ 40 :: ((chT cs).tail ++ [41])) ++ chT td ++ clo fs = x.cps.toList ++ 40 :: ((chT cs).tail ++ 41 :: (chT td ++ clo fs))
                simp
              rw [ech] at er sgn
              obtain ⟨c, cr, ecx⟩ : ∃ c cr, x.cps.toList = c :: cr := by
                cases e : x.cps.toList with
                | nil =>
                  have := cps_len x
                  rw [e] at this
                  simp at this
                  omega
                | cons c cr => exact ⟨c, cr, rfl⟩
              have mc : c ∈ abc.cps.toList := hsig c (by rw [ecx]; simp)
              have hc := sgn c _ (by rw [ecx]; rfl)
              have c34 : decide (c = 34) = false := decide_eq_false (fun e => by
                rw [e] at mc
                exact absurd mc (by decide +kernel))
              refine ⟨_, rfl, _, rfl, z, _, c, rfl, rfl, (by rw [sizeLine_eq]; omega), atI_nat hc, ?_⟩
              refine ⟨Nm, _, alone, rfl, SqL.of hN1, rfl, ?_⟩
              refine ⟨st, c, _, rfl, rfl, rfl, ?_⟩
              rw [s2F, c34]
              refine iteF ⟨st, c, rfl, rfl, ?_⟩
              rw [s2F, decide_eq_true mc]
              obtain ⟨f1, f2, f3, f4⟩ := drop_split la2 er
              have er2 : z.cps.toList.drop at0 = (x.cps.toList ++ [40]) ++ ((chT cs).tail ++ clo ((x, d, td) :: fs)) := by rw [er]; simp
              obtain ⟨g1, g2, g3, g4⟩ := drop_split la2 er2
              have lw1 : (x.cps.toList ++ [40]).length = x.length + 1 := by
                rw [List.length_append, cps_len]
                rfl
              rw [lw1] at g3 g4
              rw [cps_len] at g4
              have ra0 : z.cps.toList = z.cps.toList.take at0 ++ (if (0 : Nat) = 1 then [34] else []) ++ x.cps.toList ++ 40 :: ((chT cs).tail ++ clo ((x, d, td) :: fs)) := by
                rw [if_neg (by decide), List.append_nil]
                exact f1
              refine iteT ⟨_, rfl, _, rfl, z, z.cps.toList.take at0, (chT cs).tail ++ clo ((x, d, td) :: fs), x.cps.toList, by rw [f2], ra0, by omega, by rw [cps_len]; exact lx, (fun _ => by rw [cps_len]; exact px), hsig, ?_⟩
              refine ⟨_, rfl, .inl ⟨rfl, _, SqL.of hN1⟩, ?_⟩
              refine ⟨_, rfl, _, rfl, _, rfl, _, rfl, _, rfl, z, rfl, (by rw [sizeLine_eq]; omega), ?_⟩
              have ecut : cutS z (some (at0 : Int)) (some (((z.cps.toList.take at0).length + 0 + x.cps.toList.length : Nat) : Int)) = x := by
                rw [cutS_mid (A := z.cps.toList.take at0) (w := x.cps.toList) (B := 40 :: ((chT cs).tail ++ clo ((x, d, td) :: fs))) f1 (by rw [f2]) (by rw [Nat.add_zero]), strOf_eq]
              rw [ecut]
              refine ⟨_, _, _, rfl, rfl, hN1, smallM (by rw [List.length_reverse, List.length_map]; omega), ?_⟩
              have hR2 : (upd H1 Nm (.lst ((fs.map fun f => V.str f.1).reverse ++ [.str x]))) R = some (.lst ((r :: rs).map V.ref).reverse) := by
                rw [upd_ne (Ne.symm n2)]
                exact hR1
              have t2 : Tm H1 (upd H1 Nm (.lst ((fs.map fun f => V.str f.1).reverse ++ [.str x]))) := Tm.refl.cell hN1
              have s2 : Same H (upd H1 Nm (.lst ((fs.map fun f => V.str f.1).reverse ++ [.str x]))) := s1.cell hNm
              have hN2 : (upd H1 Nm (.lst ((fs.map fun f => V.str f.1).reverse ++ [.str x]))) Nm = some (.lst ((fs.map fun f => V.str f.1).reverse ++ [.str x])) := upd_same
              have ke : ∀ q ∈ r :: rs, (upd H1 Nm (.lst ((fs.map fun f => V.str f.1).reverse ++ [.str x]))) q = H1 q := fun q h => upd_ne (hq q h).2.2
              generalize upd H1 Nm (.lst ((fs.map fun f => V.str f.1).reverse ++ [.str x])) = H2 at hR2 t2 s2 hN2 ke ⊢
              refine ⟨_, rfl, .inl ⟨rfl, _, SqL.of hR2⟩, Nat.zero_le _, fun L hL => ?_⟩
              have LR : R ≠ L := ne_of_none hR2 hL
              have LN : Nm ≠ L := ne_of_none hN2 hL
              have Lq : ∀ q ∈ r :: rs, q ≠ L := fun q h e => by
                obtain ⟨o, z⟩ := Rows.trk (K := K) (H := H1) (n := 900) (r :: rs) (d :: fs.map fun f => f.2.1) ro0 q h
                have z2 := ke q h
                rw [z, e, hL] at z2
                cases z2
              have LH : H L = none := s2.free hL
              refine ⟨_, _, _, rfl, rfl, (by rw [upd_ne LR]; exact hR2), smallM (by rw [List.length_reverse, List.length_map, List.length_cons]; omega), ?_⟩
              have t3 : Tm H1 (upd (upd H2 L (.lst [])) R (.lst (((r :: rs).map V.ref).reverse ++ [.ref L]))) := (t2.new hL).cell (l := R) (ys := ((r :: rs).map V.ref).reverse) (by rw [upd_ne LR]; exact hR2)
              refine ⟨_, rfl, _, _, rfl, rfl, ?_⟩
              rw [f2, cps_len]
              have eat : at0 + (x.length + 1) = at0 + 0 + x.length + 1 := by omega
              rw [eat] at g3 g4
              refine ⟨z.length - (at0 + 0 + x.length + 1), by omega, L, r :: rs, [], cs, (x, d, td) :: fs, 0, at0 + 0 + x.length + 1, _, _, _, _, rfl, rfl, g4, g3, (fun h => nomatch h), (fun h => nomatch h), by decide, (s2.new hL).cell z2, ?_, ?_, ⟨⟨[], ?_, .nil, Nat.zero_le _⟩, ?_⟩, ?_, ?_, ea⟩
              · rw [upd_same]
                simp
              · rw [upd_ne n2, upd_ne LN, hN2]
                simp
              · rw [upd_ne (Ne.symm LR), upd_same]
              · exact Rows.mono (Nat.le_refl 900) t3 (r :: rs) (d :: fs.map fun f => f.2.1) (fun q h => by rw [upd_ne (hq q h).2.1, upd_ne (Lq q h)]; exact ke q h) ro0
              · exact List.nodup_cons.mpr ⟨fun h => Lq L h rfl, nd⟩
              · intro q h
                rcases List.mem_cons.mp h with e | e
                · rw [e]
                  exact ⟨LH, Ne.symm LR, Ne.symm LN⟩
                · exact hq q e
      · have hge' : z.length ≤ at0 := by
          have : ¬ ((at0 : Int) < (z.length : Int)) := fun q => hge (decide_eq_true q)
          omega
        have z9 : z.cps.toList.drop at0 = [] := List.drop_of_length_le (by rw [cps_len]; exact hge')
        rw [z9] at er
        have er' : [] = (if st = 2 then chT td else (chT td).tail) ++ clo fs := er
        cases fs with
        | cons f fs =>
          obtain ⟨x, d', td'⟩ := f
          have e9 : [] = (if st = 2 then chT td else (chT td).tail) ++ 41 :: (chT td' ++ clo fs) := er'
          have := congrArg List.length e9
          rw [List.length_append, List.length_cons] at this
          simp at this
        | nil =>
          have e9 : [] = (if st = 2 then chT td else (chT td).tail) := by
            have : [] = (if st = 2 then chT td else (chT td).tail) ++ [] := er'
            rw [List.append_nil] at this
            exact this
          have etd : td = [] := by
            cases td with
            | nil => rfl
            | cons t td =>
              exfalso
              have hp := (ch_len t okd.2.1).2
              by_cases h2 : st = 2
              · rw [if_pos h2] at e9
                cases e9
              · rw [if_neg h2] at e9
                have e8 : [] = t.ch ++ chT td := e9
                have := congrArg List.length e8
                rw [List.length_append] at this
                simp at this
                omega
          subst etd
          have st1 : st ≠ 1 := fun e => ht1 e rfl
          have ed : d = ts := by
            have e8 : d ++ [] = ts := ea
            rw [List.append_nil] at e8
            exact e8
          cases rs with
          | cons r' rs => exact ro2.elim
          | nil =>
            have hN9 : H1 Nm = some (.lst []) := hN1
            have hR9 : H1 R = some (.lst [.ref r]) := hR1
            refine ⟨_, rfl, false, .inl ⟨_, SqL.of hN9, rfl⟩, iteF ⟨_, rfl, rfl, _, rfl, ?_⟩⟩
            rw [show decide (V.int (st : Int) = V.int 1) = decide (st = 1) from decI st 1, decide_eq_false st1]
            have fin : ∀ (l : Addr), (upd H1 l (.tup zs)) l = some (.tup zs) → H1 l = none → Q (.ref l) (upd H1 l (.tup zs)) := fun l hl hn => by
              refine k _ _ (.tup hl (fun z => z) ?_) (s1.new hn)
              rw [ed] at dz
              exact docs_mono (Tm.refl.new hn) _ _ dz
            refine iteF ⟨_, rfl, alone, rfl, ?_⟩
            cases alone with
            | false => exact iteF ⟨_, rfl, _, _, _, _, rfl, rfl, SqL.of hR9, atI_nat (j := 0) rfl, r, zs, rfl, .inl ⟨SqL.of hr1, fun l hl => fin l upd_same hl⟩⟩
            | true =>
              obtain ⟨x, cs, ets⟩ := hal rfl
              have nz : zs.isEmpty = false := by
                cases zs with
                | nil =>
                  rw [ed, ets] at ldz
                  simp at ldz
                | cons y ys => rfl
              refine iteT ⟨_, rfl, _, _, _, _, rfl, rfl, SqL.of hR9, atI_nat (j := 0) rfl, (!zs.isEmpty), .inl ⟨zs, SqL.of hr1, rfl⟩, ?_⟩
              rw [nz]
              exact iteF ⟨_, rfl, _, _, _, _, rfl, rfl, SqL.of hR9, atI_nat (j := 0) rfl, r, zs, rfl, .inl ⟨SqL.of hr1, fun l hl => fin l upd_same hl⟩⟩
end
end K1

/-! read_node, read_forest; unlike documents have unlike texts; the law's places -/
namespace K1
open PySem L2 Xr Exv
/-! unlike texts -/
theorem split34 {a b r s : List Nat} {g : Nat} (ha : g ∉ a) (hb : g ∉ b) (h : a ++ g :: r = b ++ g :: s) : a = b ∧ r = s := by
  induction a generalizing b with
  | nil =>
    cases b with
    | nil =>
      injection h with _ h
      exact ⟨rfl, h⟩
    | cons y b =>
      injection h with h1 h2
      exact absurd (by rw [h1]; simp) hb
  | cons x a ih =>
    cases b with
    | nil =>
      injection h with h1 h2
      exact absurd (by rw [← h1]; simp) ha
    | cons y b =>
      injection h with h1 h2
      obtain ⟨e1, e2⟩ := ih (fun z => ha (by simp [z])) (fun z => hb (by simp [z])) h2
      exact ⟨by rw [h1, e1], e2⟩
theorem no34 {w : Str} (h : textD (.str w) = true) : 34 ∉ w.cps.toList := fun m => by
  have e9 : textD (.str w) = (decide (w.length ≤ 16) && hasOnly w abc9) := rfl
  rw [e9, Bool.and_eq_true] at h
  unfold hasOnly at h
  have := of_decide_eq_true (List.all_eq_true.mp h.2 34 m)
  exact absurd this (by decide +kernel)
theorem name_sig {x : Str} (h : nameD (.str x) = true) : (∀ c ∈ x.cps.toList, c ∈ abc.cps.toList) ∧ x.cps.toList ≠ [] := by
  have e9 : nameD (.str x) = (decide (x.length ≠ 0) && (decide (x.length ≤ 8) && hasOnly x abc)) := rfl
  rw [e9, Bool.and_eq_true, Bool.and_eq_true] at h
  have h9 := h.2.2
  unfold hasOnly at h9
  refine ⟨fun c hc => of_decide_eq_true (List.all_eq_true.mp h9 c hc), fun e => ?_⟩
  have := cps_len x
  rw [e] at this
  exact of_decide_eq_true h.1 this.symm
mutual
theorem ch_inj : ∀ (t u : Doc) (r s : List Nat), t.ok → u.ok → t.ch ++ r = u.ch ++ s → t = u ∧ r = s
  | .txt w, .txt v, r, s, hw, hv, h => by
    have h' : 34 :: ((w.cps.toList ++ [34]) ++ r) = 34 :: ((v.cps.toList ++ [34]) ++ s) := h
    injection h' with _ h2
    rw [List.append_assoc, List.append_assoc] at h2
    obtain ⟨a, b⟩ := split34 (no34 hw) (no34 hv) h2
    rw [str_ext a]
    exact ⟨rfl, b⟩
  | .txt w, .nod y us, r, s, hw, hu, h => by
    obtain ⟨n1, n2⟩ := name_sig hu.1
    have h' : 34 :: ((w.cps.toList ++ [34]) ++ r) = (y.cps.toList ++ 40 :: ((chT us).tail ++ [41])) ++ s := h
    cases e : y.cps.toList with
    | nil => exact absurd e n2
    | cons c cs =>
      rw [e] at h'
      injection h' with h1 _
      have := n1 c (by rw [e]; simp)
      rw [← h1] at this
      exact absurd this (by decide +kernel)
  | .nod x ts, .txt v, r, s, ht, hv, h => by
    obtain ⟨n1, n2⟩ := name_sig ht.1
    have h' : (x.cps.toList ++ 40 :: ((chT ts).tail ++ [41])) ++ r = 34 :: ((v.cps.toList ++ [34]) ++ s) := h
    cases e : x.cps.toList with
    | nil => exact absurd e n2
    | cons c cs =>
      rw [e] at h'
      injection h' with h1 _
      have := n1 c (by rw [e]; simp)
      rw [h1] at this
      exact absurd this (by decide +kernel)
  | .nod x ts, .nod y us, r, s, ht, hu, h => by
    obtain ⟨n1, n2⟩ := name_sig ht.1
    obtain ⟨m1, m2⟩ := name_sig hu.1
    have h' : x.cps.toList ++ 40 :: ((chT ts).tail ++ 41 :: r) = y.cps.toList ++ 40 :: ((chT us).tail ++ 41 :: s) := by
      have h0 : (x.cps.toList ++ 40 :: ((chT ts).tail ++ [41])) ++ r = (y.cps.toList ++ 40 :: ((chT us).tail ++ [41])) ++ s := h
      simpa using h0
    have f1 : 40 ∉ x.cps.toList := fun m => absurd (n1 40 m) (by decide +kernel)
    have f2 : 40 ∉ y.cps.toList := fun m => absurd (m1 40 m) (by decide +kernel)
    obtain ⟨a, b⟩ := split34 f1 f2 h'
    obtain ⟨c, d⟩ := chL_inj ts us r s ht.2 hu.2 b
    rw [str_ext a, c]
    exact ⟨rfl, d⟩
theorem chL_inj : ∀ (ts us : List Doc) (r s : List Nat), okD ts → okD us → (chT ts).tail ++ 41 :: r = (chT us).tail ++ 41 :: s → ts = us ∧ r = s
  | [], [], r, s, _, _, h => by
    have h' : 41 :: r = 41 :: s := h
    injection h' with _ h2
    exact ⟨rfl, h2⟩
  | [], u :: us, r, s, _, hu, h => by
    have h' : 41 :: r = (u.ch ++ chT us) ++ 41 :: s := h
    exact absurd (first_not41 u hu.1 _ _ (by rw [List.append_assoc] at h'; exact h'.symm)) id
  | t :: ts, [], r, s, ht, _, h => by
    have h' : (t.ch ++ chT ts) ++ 41 :: r = 41 :: s := h
    exact absurd (first_not41 t ht.1 _ _ (by rw [List.append_assoc] at h'; exact h')) id
  | t :: ts, u :: us, r, s, ht, hu, h => by
    have h' : t.ch ++ (chT ts ++ 41 :: r) = u.ch ++ (chT us ++ 41 :: s) := by
      have h0 : (t.ch ++ chT ts) ++ 41 :: r = (u.ch ++ chT us) ++ 41 :: s := h
      rw [List.append_assoc, List.append_assoc] at h0
      exact h0
    obtain ⟨a, b⟩ := ch_inj t u _ _ ht.1 hu.1 h'
    obtain ⟨c, d⟩ := chR_inj ts us r s ht.2 hu.2 b
    rw [a, c]
    exact ⟨rfl, d⟩
theorem chR_inj : ∀ (ts us : List Doc) (r s : List Nat), okD ts → okD us → chT ts ++ 41 :: r = chT us ++ 41 :: s → ts = us ∧ r = s
  | [], [], r, s, _, _, h => by
    have h' : 41 :: r = 41 :: s := h
    injection h' with _ h2
    exact ⟨rfl, h2⟩
  | [], u :: us, r, s, _, _, h => by
    have h' : 41 :: r = 32 :: ((u.ch ++ chT us) ++ 41 :: s) := h
    injection h' with h1 _
    cases h1
  | t :: ts, [], r, s, _, _, h => by
    have h' : 32 :: ((t.ch ++ chT ts) ++ 41 :: r) = 41 :: s := h
    injection h' with h1 _
    cases h1
  | t :: ts, u :: us, r, s, ht, hu, h => by
    have h' : 32 :: ((t.ch ++ chT ts) ++ 41 :: r) = 32 :: ((u.ch ++ chT us) ++ 41 :: s) := h
    injection h' with _ h2
    rw [List.append_assoc, List.append_assoc] at h2
    obtain ⟨a, b⟩ := ch_inj t u _ _ ht.1 hu.1 h2
    obtain ⟨c, d⟩ := chR_inj ts us r s ht.2 hu.2 b
    rw [a, c]
    exact ⟨rfl, d⟩
theorem first_not41 : ∀ (t : Doc), t.ok → ∀ (r s : List Nat), t.ch ++ r = 41 :: s → False
  | .txt w, _, r, s, h => by
    have h' : 34 :: ((w.cps.toList ++ [34]) ++ r) = 41 :: s := h
    injection h' with h1 _
    cases h1
  | .nod x ts, ht, r, s, h => by
    obtain ⟨n1, n2⟩ := name_sig ht.1
    have h' : (x.cps.toList ++ 40 :: ((chT ts).tail ++ [41])) ++ r = 41 :: s := h
    cases e : x.cps.toList with
    | nil => exact absurd e n2
    | cons c cs =>
      rw [e] at h'
      injection h' with h1 _
      have := n1 c (by rw [e]; simp)
      rw [h1] at this
      exact absurd this (by decide +kernel)
end
theorem tx_inj {t u : Doc} (ht : t.ok) (hu : u.ok) (h : t.tx = u.tx) : t = u := by
  have e : t.ch = u.ch := by
    have := congrArg (fun z : Str => z.cps.toList) h
    show t.ch = u.ch
    rw [← strOf_cps t.ch, ← strOf_cps u.ch]
    exact this
  exact (ch_inj t u [] [] ht hu (by rw [e])).1
mutual
theorem eqv_doc : ∀ t u : Doc, (PyData.eqv t.dat u.dat = true ↔ t = u)
  | .txt w, .txt v => by
    show (w == v) = true ↔ _
    rw [beq_iff_eq]
    exact ⟨fun e => by rw [e], fun e => by injection e⟩
  | .txt w, .nod y us => ⟨fun h => Bool.noConfusion (show false = true from h), fun e => nomatch e⟩
  | .nod x ts, .txt v => ⟨fun h => Bool.noConfusion (show false = true from h), fun e => nomatch e⟩
  | .nod x ts, .nod y us => by
    have ih := eqv_docs ts us
    show ((x == y) && (PyData.eqvAll (datAll ts) (datAll us) && true)) = true ↔ _
    rw [Bool.and_true, Bool.and_eq_true, beq_iff_eq, ih]
    exact ⟨fun e => by rw [e.1, e.2], fun e => by injection e with a b; exact ⟨a, b⟩⟩
theorem eqv_docs : ∀ ts us : List Doc, (PyData.eqvAll (datAll ts) (datAll us) = true ↔ ts = us)
  | [], [] => ⟨fun _ => rfl, fun _ => rfl⟩
  | [], u :: us => ⟨fun h => Bool.noConfusion (show false = true from h), fun e => nomatch e⟩
  | t :: ts, [] => ⟨fun h => Bool.noConfusion (show false = true from h), fun e => nomatch e⟩
  | t :: ts, u :: us => by
    have a := eqv_doc t u
    have b := eqv_docs ts us
    show (PyData.eqv t.dat u.dat && PyData.eqvAll (datAll ts) (datAll us)) = true ↔ _
    rw [Bool.and_eq_true, a, b]
    exact ⟨fun e => by rw [e.1, e.2], fun e => by injection e with a b; exact ⟨a, b⟩⟩
end
/-! how great the texts of data are -/
theorem plain_of {n : Nat} {z g : Str} (h : hasOnly z g = true) (l : z.length ≤ n) (hg : (g.cps.toList.all fun c => decide (c < 128)) = true) : Plain n z := ⟨l, fun ch hc => by
  unfold hasOnly at h
  exact of_decide_eq_true (List.all_eq_true.mp hg ch (of_decide_eq_true (List.all_eq_true.mp h ch hc)))⟩
theorem plain_txt {z : Str} (h : textD (.str z) = true) : Plain 17 z := by
  have e9 : textD (.str z) = (decide (z.length ≤ 16) && hasOnly z abc9) := rfl
  rw [e9, Bool.and_eq_true] at h
  exact plain_of h.2 (by have := of_decide_eq_true h.1; omega) (by decide +kernel)
theorem plain_name {z : Str} (h : nameD (.str z) = true) : Plain 17 z := by
  have e9 : nameD (.str z) = (decide (z.length ≠ 0) && (decide (z.length ≤ 8) && hasOnly z abc)) := rfl
  rw [e9, Bool.and_eq_true, Bool.and_eq_true] at h
  exact plain_of h.2.2 (by have := of_decide_eq_true h.2.1; omega) (by decide +kernel)
mutual
theorem rp_doc : ∀ t : Doc, t.ok → Rp (2 * t.hgt) (1000 * t.cnt - 2) t.dat
  | .txt z, h => by
    show Rp (2 * 0) (1000 * 1 - 2) (.str z)
    exact (rp_str (plain_txt h)).mono (by decide) (by decide)
  | .nod x ts, h => by
    obtain ⟨a, b, c, e⟩ := rp_docs ts h.2
    have r1 := rp_tupA a b c e
    have rx := rp_str (plain_name h.1)
    show Rp (2 * (1 + hgtD ts)) (1000 * (1 + cntD ts) - 2) (.tuple [.str x, .tuple (datAll ts)])
    have r2 : Rp (2 * hgtD ts + 1 + 1) (302 + (1000 * cntD ts + 3 + 2) + 3) (.tuple [.str x, .tuple (datAll ts)]) := by
      refine rp_tupA ?_ ?_ ?_ ?_
      · unfold PyData.canLayAll0 PyData.canLayAll0 PyData.canLayAll0
        rw [rx.lay, r1.lay]
        rfl
      · unfold PyData.depthAll PyData.depthAll PyData.depthAll
        have h1 := rx.dep
        have h2 := r1.dep
        omega
      · unfold PyData.showableAll PyData.showableAll PyData.showableAll
        rw [rx.sh, r1.sh]
        rfl
      · unfold PyData.shownAll PyData.shownAll PyData.shownAll
        rw [piled_cons, piled_cons]
        have h1 := rx.len
        have h2 := r1.len
        have e0 : piled [] = 0 := rfl
        rw [e0]
        omega
    exact r2.mono (by omega) (by omega)
theorem rp_docs : ∀ ts : List Doc, okD ts → PyData.canLayAll0 (datAll ts) = true ∧ PyData.depthAll (datAll ts) ≤ 2 * hgtD ts ∧ PyData.showableAll (datAll ts) = true ∧ piled (PyData.shownAll (datAll ts)) ≤ 1000 * cntD ts
  | [], _ => by
    refine ⟨rfl, ?_, rfl, ?_⟩
    · unfold datAll PyData.depthAll
      exact Nat.zero_le _
    · unfold datAll PyData.shownAll
      exact Nat.zero_le _
  | t :: ts, h => by
    obtain ⟨a, b, c, e⟩ := rp_docs ts h.2
    have r := rp_doc t h.1
    have mp := cnt_pos t
    refine ⟨?_, ?_, ?_, ?_⟩
    · show PyData.canLayAll0 (t.dat :: datAll ts) = true
      unfold PyData.canLayAll0
      rw [r.lay, a]
      rfl
    · show PyData.depthAll (t.dat :: datAll ts) ≤ 2 * max t.hgt (hgtD ts)
      unfold PyData.depthAll
      have := r.dep
      omega
    · show PyData.showableAll (t.dat :: datAll ts) = true
      unfold PyData.showableAll
      rw [r.sh, c]
      rfl
    · show piled (PyData.shownAll (t.dat :: datAll ts)) ≤ 1000 * (t.cnt + cntD ts)
      unfold PyData.shownAll
      rw [piled_cons]
      have := r.len
      omega
end
def spReadN (K : PySem.W.Frag) (C : Addr) : Sp := fun vs H Q E => ∃ (v : V) (d : PyData) (N : Addr → Prop), vs = [v] ∧ Dm K N H v d ∧
  ((isStr d = false ∧ ∀ (dd : Addr) (H' : Hp), H' dd = some (.xd [("at", .int (-1))]) → Same H H' → E (.ref C) (some dd) H') ∨
   (∃ t : Doc, d = .str t.tx ∧ t.ok ∧ t.cnt ≤ 900 ∧ (∃ x cs, t = .nod x cs) ∧ ∀ u H', Dm K F0 H' u t.dat → Same H H' → Q u H'))
def spReadF (K : PySem.W.Frag) (C : Addr) : Sp := fun vs H Q E => ∃ (v : V) (d : PyData) (N : Addr → Prop), vs = [v] ∧ Dm K N H v d ∧
  ((isStr d = false ∧ ∀ (dd : Addr) (H' : Hp), H' dd = some (.xd [("at", .int (-1))]) → Same H H' → E (.ref C) (some dd) H') ∨
   (∃ ts, d = .str (txAll ts) ∧ okD ts ∧ cntD ts ≤ 900 ∧ ∀ u H', Dm K F0 H' u (.tuple (datAll ts)) → Same H H' → Q u H'))
theorem txAll_one (t : Doc) : txAll [t] = t.tx := by
  unfold txAll
  show strOf (t.ch ++ []) = _
  rw [List.append_nil]
  rfl
section
variable {P : Program} {w : World} {K : PySem.W.Frag} {mg : Str → Option Value} {base : Heap} {C fI a_quote_end a_name_end a_read : Addr} {t1 t2 t3 t4 t5 t6 t7 : Tok} {fdI fdQ fdN fdR : FuncData}
theorem ok_readNode {f : Addr} {fd : FuncData} (F : Fun K "read_node" "read_node" sReadNode f fd) (T : ReadTxt K mg C fI a_quote_end a_name_end a_read t1 t2 t3 t4 t5 t6 t7)
    (G_read : FnOk P w K mg base (L2.CX P w) 5 a_read fdR ["value", "alone"] (spRead K C)) (b_read : Binds K fdR ["value", "alone"] []) : FnOk P w K mg base (L2.CX P w) 6 f fd ["value"] (spReadN K C) := by
  refine F.okX scReadNode (fun vs H Q E h => ?_) (fun cdv A outer s H vs Q E hr h => ?_)
  · obtain ⟨v, d, N, rfl, _⟩ := h
    rfl
  · obtain ⟨v, d, N, rfl, hv, h⟩ := h
    refine ⟨_, (pss_one (ps_ret (pe_ix ix_tup (pe_callS G_read hr (by rfl) T.g_read T.k_read b_read (fun σ => passAt (takes_of rfl rfl rfl rfl) σ) (by exact (pa_cons (pv 0) (pa_cons pe_bl pa_nil)))) pe_int (fun _ _ => rfl)))), ?_⟩
    refine ⟨_, rfl, v, d, N, true, rfl, hv, ?_⟩
    rcases h with ⟨hs, kE⟩ | ⟨t, rfl, ho, hc, hn, k⟩
    · exact .inl ⟨hs, kE⟩
    · refine .inr ⟨[t], by rw [txAll_one], ⟨ho, trivial⟩, (by show t.cnt + 0 ≤ 900; omega), fun _ => ?_, fun u H1 du s1 => ?_⟩
      · obtain ⟨x, cs, e⟩ := hn
        exact ⟨x, cs, by rw [e]⟩
      · obtain ⟨a, xs, rfl, ta, al⟩ := du.seq
        have al' : DmAll K F0 H1 xs [t.dat] := al
        cases al' with
        | cons h1 h2 =>
          cases h2
          exact ⟨_, _, _, _, rfl, rfl, ta.sq, atI_nat (j := 0) rfl, k _ _ h1 s1⟩
theorem ok_readForest {f : Addr} {fd : FuncData} (F : Fun K "read_forest" "read_forest" sReadForest f fd) (T : ReadTxt K mg C fI a_quote_end a_name_end a_read t1 t2 t3 t4 t5 t6 t7)
    (G_read : FnOk P w K mg base (L2.CX P w) 5 a_read fdR ["value", "alone"] (spRead K C)) (b_read : Binds K fdR ["value", "alone"] []) : FnOk P w K mg base (L2.CX P w) 6 f fd ["value"] (spReadF K C) := by
  refine F.okX scReadForest (fun vs H Q E h => ?_) (fun cdv A outer s H vs Q E hr h => ?_)
  · obtain ⟨v, d, N, rfl, _⟩ := h
    rfl
  · obtain ⟨v, d, N, rfl, hv, h⟩ := h
    refine ⟨_, (pss_one (ps_ret (pe_callS G_read hr (by rfl) T.g_read T.k_read b_read (fun σ => passAt (takes_of rfl rfl rfl rfl) σ) (by exact (pa_cons (pv 0) (pa_cons pe_bl pa_nil)))))), ?_⟩
    refine ⟨_, rfl, v, d, N, false, rfl, hv, ?_⟩
    rcases h with ⟨hs, kE⟩ | ⟨ts, rfl, ho, hc, k⟩
    · exact .inl ⟨hs, kE⟩
    · exact .inr ⟨ts, rfl, ho, hc, (fun h => nomatch h), k⟩
end
end K1

/-! the law's places; what stands there; what is put there -/
namespace K1
open PySem L2 Xr Exv
theorem drop_at {α : Type} {l : List α} {i : Nat} {x : α} (h : l[i]? = some x) : l.drop i = x :: l.drop (i + 1) := by
  obtain ⟨lt, e⟩ := List.getElem?_eq_some_iff.mp h
  rw [List.drop_eq_getElem_cons lt, e]
abbrev Pl := List Nat
mutual
/-- all places, as they are read -/
def Doc.pls : Doc → List Pl
  | .txt _ => [[]]
  | .nod _ ts => [] :: plsAt 0 ts
def plsAt : Nat → List Doc → List Pl
  | _, [] => []
  | i, t :: ts => t.pls.map (i :: ·) ++ plsAt (i + 1) ts
end
/-- what stands at a place -/
def Doc.at? : Doc → Pl → Option Doc
  | t, [] => some t
  | .txt _, _ :: _ => none
  | .nod _ ts, i :: p => match ts[i]? with
    | some t => t.at? p
    | none => none
/-- a thing put at a place -/
def Doc.with_ : Doc → Pl → Doc → Doc
  | _, [], n => n
  | .txt z, _ :: _, _ => .txt z
  | .nod x ts, i :: p, n => match ts[i]? with
    | some t => .nod x (ts.take i ++ t.with_ p n :: ts.drop (i + 1))
    | none => .nod x ts
def plD (p : Pl) : PyData := .tuple (p.map fun (n : Nat) => PyData.int (n : Int))
mutual
theorem pls_at : ∀ (t : Doc) (p : Pl), p ∈ t.pls → ∃ u, t.at? p = some u
  | .txt z, p, h => by
    have h' : p ∈ [([] : Pl)] := h
    rw [List.mem_singleton] at h'
    rw [h']
    exact ⟨_, rfl⟩
  | .nod x ts, p, h => by
    have h' : p ∈ [] :: plsAt 0 ts := h
    rcases List.mem_cons.mp h' with e | e
    · rw [e]
      exact ⟨_, rfl⟩
    · obtain ⟨i, q, t, e1, e2, e3⟩ := plsAt_at 0 ts p e
      obtain ⟨u, hu⟩ := e3
      rw [e1]
      refine ⟨u, ?_⟩
      show (match ts[0 + i]? with | some t => t.at? q | none => none) = _
      rw [Nat.zero_add, e2]
      exact hu
theorem plsAt_at : ∀ (j : Nat) (ts : List Doc) (p : Pl), p ∈ plsAt j ts → ∃ (i : Nat) (q : Pl) (t : Doc), p = (j + i) :: q ∧ ts[i]? = some t ∧ ∃ u, t.at? q = some u
  | _, [], p, h => by
    have h' : p ∈ ([] : List Pl) := h
    simp at h'
  | j, t :: ts, p, h => by
    have h' : p ∈ t.pls.map (j :: ·) ++ plsAt (j + 1) ts := h
    rcases List.mem_append.mp h' with e | e
    · obtain ⟨q, hq, rfl⟩ := List.mem_map.mp e
      exact ⟨0, q, t, rfl, rfl, pls_at t q hq⟩
    · obtain ⟨i, q, u, e1, e2, e3⟩ := plsAt_at (j + 1) ts p e
      exact ⟨i + 1, q, u, by rw [e1]; congr 1; omega, by simpa using e2, e3⟩
end
mutual
theorem pls_len : ∀ t : Doc, t.pls.length = t.cnt
  | .txt z => rfl
  | .nod x ts => by
    show ([] :: plsAt 0 ts).length = 1 + cntD ts
    rw [List.length_cons, plsAt_len 0 ts]
    omega
theorem plsAt_len : ∀ (j : Nat) (ts : List Doc), (plsAt j ts).length = cntD ts
  | _, [] => rfl
  | j, t :: ts => by
    show (t.pls.map (j :: ·) ++ plsAt (j + 1) ts).length = t.cnt + cntD ts
    rw [List.length_append, List.length_map, pls_len t, plsAt_len (j + 1) ts]
end
theorem plsAt_app : ∀ (ts us : List Doc) (j : Nat), plsAt j (ts ++ us) = plsAt j ts ++ plsAt (j + ts.length) us
  | [], us, j => rfl
  | t :: ts, us, j => by
    show t.pls.map (j :: ·) ++ plsAt (j + 1) (ts ++ us) = (t.pls.map (j :: ·) ++ plsAt (j + 1) ts) ++ plsAt (j + (ts.length + 1)) us
    rw [plsAt_app ts us (j + 1), List.append_assoc]
    congr 3
    omega
theorem at_ok : ∀ (p : Pl) (t u : Doc), t.ok → t.at? p = some u → u.ok ∧ u.cnt ≤ t.cnt ∧ u.hgt + p.length ≤ t.hgt + (if u.hgt = 0 then 1 else 0) ∧ p.length ≤ t.cnt
  | [], t, u, h, e => by
    have e' : some t = some u := by
      cases t <;> exact e
    injection e' with e'
    subst e'
    refine ⟨h, Nat.le_refl _, ?_, Nat.zero_le _⟩
    show t.hgt + 0 ≤ _
    split <;> omega
  | i :: p, .txt z, u, _, e => by cases e
  | i :: p, .nod x ts, u, h, e => by
    have e' : (match ts[i]? with | some t => t.at? p | none => none) = some u := e
    cases ht : ts[i]? with
    | none =>
      rw [ht] at e'
      cases e'
    | some t =>
      rw [ht] at e'
      have m : t ∈ ts := List.mem_of_getElem? ht
      obtain ⟨a, b, c, d⟩ := at_ok p t u (okD_mem h.2 m) e'
      have := cntD_mem m
      have := hgtD_mem m
      refine ⟨a, ?_, ?_, ?_⟩
      · show u.cnt ≤ 1 + cntD ts
        omega
      · show u.hgt + (p.length + 1) ≤ 1 + hgtD ts + _
        omega
      · show p.length + 1 ≤ 1 + cntD ts
        omega
theorem at_len : ∀ (p : Pl) (t u : Doc), t.at? p = some u → p.length ≤ t.cnt
  | [], t, u, e => Nat.zero_le _
  | i :: p, .txt z, u, e => by cases e
  | i :: p, .nod x ts, u, e => by
    have e' : (match ts[i]? with | some t => t.at? p | none => none) = some u := e
    cases ht : ts[i]? with
    | none =>
      rw [ht] at e'
      cases e'
    | some t =>
      rw [ht] at e'
      have m : t ∈ ts := List.mem_of_getElem? ht
      have := at_len p t u e'
      have := cntD_mem m
      show p.length + 1 ≤ 1 + cntD ts
      omega
theorem with_facts : ∀ (p : Pl) (t u n : Doc), t.ok → t.at? p = some u → n.ok → (t.with_ p n).ok ∧ (t.with_ p n).cnt ≤ t.cnt + n.cnt ∧ (t.with_ p n).hgt ≤ max t.hgt (p.length + n.hgt) ∧ (p ≠ [] → ∃ x cs, t.with_ p n = .nod x cs)
  | [], t, u, n, _, _, hn => by
    have e : t.with_ [] n = n := by cases t <;> rfl
    rw [e]
    refine ⟨hn, by omega, ?_, fun h => absurd rfl h⟩
    show n.hgt ≤ max t.hgt (0 + n.hgt)
    omega
  | i :: p, .txt z, u, n, _, e, _ => by cases e
  | i :: p, .nod x ts, u, n, h, e, hn => by
    have e' : (match ts[i]? with | some t => t.at? p | none => none) = some u := e
    cases ht : ts[i]? with
    | none =>
      rw [ht] at e'
      cases e'
    | some t =>
      rw [ht] at e'
      have m : t ∈ ts := List.mem_of_getElem? ht
      have ew : (Doc.nod x ts).with_ (i :: p) n = .nod x (ts.take i ++ t.with_ p n :: ts.drop (i + 1)) := by
        show (match ts[i]? with | some t => Doc.nod x (ts.take i ++ t.with_ p n :: ts.drop (i + 1)) | none => .nod x ts) = _
        rw [ht]
      obtain ⟨a, b, c, _⟩ := with_facts p t u n (okD_mem h.2 m) e' hn
      have sp : ts = ts.take i ++ t :: ts.drop (i + 1) := by rw [← drop_at ht, List.take_append_drop]
      have h2 : okD ts := h.2
      have c2 : cntD ts = cntD (ts.take i) + (t.cnt + cntD (ts.drop (i + 1))) := by
        conv => lhs; rw [sp]
        rw [cntD_app]
        rfl
      have g2 : hgtD ts = max (hgtD (ts.take i)) (max t.hgt (hgtD (ts.drop (i + 1)))) := by
        conv => lhs; rw [sp]
        rw [hgtD_app]
        rfl
      rw [sp] at h2
      obtain ⟨o1, o2⟩ := (okD_app _ _).mp h2
      rw [ew]
      refine ⟨⟨h.1, (okD_app _ _).mpr ⟨o1, a, o2.2⟩⟩, ?_, ?_, fun _ => ⟨_, _, rfl⟩⟩
      · show 1 + cntD (ts.take i ++ t.with_ p n :: ts.drop (i + 1)) ≤ 1 + cntD ts + n.cnt
        rw [cntD_app]
        show 1 + (cntD (ts.take i) + ((t.with_ p n).cnt + cntD (ts.drop (i + 1)))) ≤ _
        omega
      · show 1 + hgtD (ts.take i ++ t.with_ p n :: ts.drop (i + 1)) ≤ max (1 + hgtD ts) (p.length + 1 + n.hgt)
        rw [hgtD_app]
        show 1 + max (hgtD (ts.take i)) (max (t.with_ p n).hgt (hgtD (ts.drop (i + 1)))) ≤ _
        omega
abbrev sPlaces : Stmt := top 34
theorem scPlaces : FnScope ["thing", "found", "at", "place"] ["thing"] (defScope sPlaces) := ⟨rfl, rfl, rfl, by decide +kernel, rfl, by decide +kernel, by decide +kernel⟩
abbrev sLAt : Stmt := top 35
theorem scLAt : FnScope ["thing", "place", "number"] ["thing", "place"] (defScope sLAt) := ⟨rfl, rfl, rfl, by decide +kernel, rfl, by decide +kernel, by decide +kernel⟩
abbrev sWith : Stmt := top 36
theorem scWith : FnScope ["thing", "place", "new", "at", "things"] ["thing", "place", "new"] (defScope sWith) := ⟨rfl, rfl, rfl, by decide +kernel, rfl, by decide +kernel, by decide +kernel⟩
abbrev sWritten : Stmt := top 37
theorem scWritten : FnScope ["thing"] ["thing"] (defScope sWritten) := ⟨rfl, rfl, rfl, by decide +kernel, rfl, by decide +kernel, by decide +kernel⟩
abbrev sRowW : Stmt := top 38
theorem scRowW : FnScope ["things", "thing"] ["things"] (defScope sRowW) := ⟨rfl, rfl, rfl, by decide +kernel, rfl, by decide +kernel, by decide +kernel⟩
def spPlaces (K : PySem.W.Frag) (n : Nat) : Sp := fun vs H Q _ => ∃ (v : V) (t : Doc) (N : Addr → Prop), vs = [v] ∧ Dm K N H v t.dat ∧ t.cnt ≤ 900 ∧ t.hgt < n ∧ (∀ a, N a → Trk H a) ∧ ∀ (u : V) (H' : Hp), Dm K N H' u (.list (t.pls.map plD)) → Same H H' → Q u H'
def spLAt (K : PySem.W.Frag) : Sp := fun vs H Q _ => ∃ (v pv : V) (t u : Doc) (p : Pl) (N : Addr → Prop), vs = [v, pv] ∧ Dm K N H v t.dat ∧ Dm K N H pv (plD p) ∧ t.at? p = some u ∧ ∀ w, Dm K N H w u.dat → Q w H
def spWith (K : PySem.W.Frag) (n : Nat) : Sp := fun vs H Q _ => ∃ (v pv nv : V) (t u m : Doc) (p : Pl) (N : Addr → Prop), vs = [v, pv, nv] ∧ Dm K N H v t.dat ∧ Dm K N H pv (plD p) ∧ Dm K N H nv m.dat ∧ t.at? p = some u ∧ t.cnt ≤ 900 ∧ p.length < n ∧ p.length ≤ 900 ∧ (∀ a, N a → Trk H a) ∧ ∀ (w : V) (H' : Hp), Dm K N H' w (t.with_ p m).dat → Same H H' → Q w H'
def spWritten (K : PySem.W.Frag) (n : Nat) : Sp := fun vs H Q _ => ∃ (v : V) (t : Doc) (N : Addr → Prop), vs = [v] ∧ Dm K N H v t.dat ∧ t.ok ∧ t.cnt ≤ 900 ∧ t.hgt ≤ n ∧ ∀ H', Same H H' → Q (.str t.tx) H'
def spRowW (K : PySem.W.Frag) (n : Nat) : Sp := fun vs H Q _ => ∃ (v : V) (ts : List Doc) (N : Addr → Prop), vs = [v] ∧ Dm K N H v (.tuple (datAll ts)) ∧ okD ts ∧ cntD ts ≤ 900 ∧ hgtD ts ≤ n ∧ ∀ H', Same H H' → Q (.str (txAll ts)) H'
structure LawATxt (K : PySem.W.Frag) (mg : Str → Option Value) (a_law_places a_law_with a_law_written a_law_row_written : Addr) : Prop where
  n_range : mg "range" = none
  n_isinstance : mg "isinstance" = none
  n_tuple : mg "tuple" = none
  n_str : mg "str" = none
  n_len : mg "len" = none
  g_law_places : mg "_law_places" = some (.ref a_law_places)
  k_law_places : PySem.W.keepIn K (.ref a_law_places) = true
  g_law_with : mg "_law_with" = some (.ref a_law_with)
  k_law_with : PySem.W.keepIn K (.ref a_law_with) = true
  g_law_written : mg "_law_written" = some (.ref a_law_written)
  k_law_written : PySem.W.keepIn K (.ref a_law_written) = true
  g_law_row_written : mg "_law_row_written" = some (.ref a_law_row_written)
  k_law_row_written : PySem.W.keepIn K (.ref a_law_row_written) = true
section
variable {P : Program} {w : World} {K : PySem.W.Frag} {mg : Str → Option Value} {base : Heap} {a_law_places a_law_with a_law_written a_law_row_written : Addr} {fdR fdW : FuncData}
theorem ok_lat {f : Addr} {fd : FuncData} (F : Fun K "_law_at" "_law_at" sLAt f fd) : FnOk P w K mg base CX0 1 f fd ["thing", "place"] (spLAt K) := by
  refine F.ok scLAt (fun vs H Q E h => ?_) (fun cdv A outer s H vs Q E hr h => ?_)
  · obtain ⟨v, pl, t, u, p, N, rfl, _⟩ := h
    rfl
  · obtain ⟨v, pl, t, u, p, N, rfl, hv, hp, ha, k⟩ := h
    refine ⟨_, (pss_cons (ps_for PassesOwn.never rfl (pi_tup (pv 1)) (pg_name (i := 2) scLAt.nd rfl (Or.inl rfl))
      (pss_one (ps_set (i := 0) scLAt.nd rfl (Or.inl rfl) (pe_ix ix_tup (pe_ix ix_tup (pv 0) pe_int (fun _ _ => rfl)) (pv 2) (fun _ _ => rfl)))))
      (pss_one (ps_ret (pv 0)))), ?_⟩
    obtain ⟨a, xs, rfl, ta, al⟩ := hp.seq
    have lx := al.len
    rw [List.length_map] at lx
    refine ⟨_, rfl, a, rfl, ⟨_, ta.sq⟩, ?_⟩
    refine for_tup (K := K) (a := a) (xs := xs) (fun i σ H1 => H1 = H ∧ ∃ (v : V) (t : Doc) (x2 : Option V), σ = [some v, some (.ref a), x2] ∧ Dm K N H v t.dat ∧ t.at? (p.drop i) = some u) ⟨rfl, v, t, none, rfl, hv, ha⟩ (fun i σ H1 _ ⟨e, _⟩ => by rw [e]; exact ta.sq) ?_ ?_
    · rintro i y σ H1 hy ⟨rfl, v, t, x2, rfl, hv, ha⟩
      obtain ⟨d, hd, dv⟩ := al.getV hy
      rw [List.getElem?_map] at hd
      cases ej : p[i]? with
      | none => rw [ej] at hd; cases hd
      | some j =>
        rw [ej] at hd
        have ed := Option.some.inj hd
        subst ed
        have ey : y = .int (j : Int) := by
          cases dv
          rfl
        subst ey
        rw [drop_at ej] at ha
        cases t with
        | txt z => cases ha
        | nod x ts =>
          have e' : (match ts[j]? with | some t => t.at? (p.drop (i + 1)) | none => none) = some u := ha
          cases ht : ts[j]? with
          | none => rw [ht] at e'; cases e'
          | some t =>
            rw [ht] at e'
            obtain ⟨b, y1, rfl, tb, dy1⟩ := hv.nod
            obtain ⟨c, zs, rfl, tc, cl⟩ := dy1.seq
            obtain ⟨z, hz, dz⟩ := cl.get (i := j) (d := t.dat) (by rw [datAll_map, List.getElem?_map, ht]; rfl)
            exact ⟨_, rfl, _, _, _, _, rfl, rfl, tb.sq, atI_nat (j := 1) rfl, _, rfl, _, _, _, _, rfl, rfl, tc.sq, atI_nat hz, rfl, z, t, _, rfl, dz, e'⟩
    · rintro σ H1 ⟨rfl, v, t, x2, rfl, hv, ha⟩
      have e : p.drop xs.length = [] := List.drop_of_length_le (by omega)
      rw [e] at ha
      have e2 : some t = some u := by
        cases t <;> exact ha
      injection e2 with e2
      subst e2
      exact ⟨_, rfl, k v hv⟩
end
end K1

namespace K1
open PySem L2 Xr Exv
theorem cutP_take {ds : List PyData} {j : Nat} (h : j ≤ ds.length) : cutP ds none (some (j : Int)) = ds.take j := by
  unfold cutP
  rw [HT.sIx_nat, HT.sIx_none, List.drop_zero, Nat.sub_zero, Nat.min_eq_left h]
theorem cutP_drop {ds : List PyData} {j : Nat} (h : j ≤ ds.length) : cutP ds (some (j : Int)) none = ds.drop j := by
  unfold cutP
  rw [HT.sIx_nat, HT.sIx_none, Nat.min_eq_left h, List.take_of_length_le]
  rw [List.length_drop]
  exact Nat.le_refl _
theorem vd_pl (p : Pl) : Vd 1 (plD p) := vd_tup fun x hx => by
  obtain ⟨n, _, rfl⟩ := List.mem_map.mp hx
  exact vd_int _
section
variable {P : Program} {w : World} {K : PySem.W.Frag} {mg : Str → Option Value} {base : Heap} {a_law_places a_law_with a_law_written a_law_row_written : Addr} {fdR fdW : FuncData}
theorem ok_places {fd : FuncData} (F : Fun K "_law_places" "_law_places" sPlaces a_law_places fd) (T : LawATxt K mg a_law_places a_law_with a_law_written a_law_row_written) (b_law_places : Binds K fd ["thing"] []) :
    ∀ n : Nat, FnOk P w K mg base CX0 (1 + n) a_law_places fd ["thing"] (spPlaces K n) := by
  intro n
  induction n with
  | zero =>
    refine F.ok scPlaces (fun vs H Q E h => ?_) (fun cdv A outer s H vs Q E hr h => ?_)
    · obtain ⟨v, t, N, rfl, _⟩ := h
      rfl
    · obtain ⟨v, t, N, rfl, _, _, hd, _⟩ := h
      omega
  | succ n G_law_places =>
    have e54 : 1 + (n + 1) = 1 + n + 1 := by omega
    rw [e54]
    refine F.ok scPlaces (fun vs H Q E h => ?_) (fun cdv A outer s H vs Q E hr h => ?_)
    · obtain ⟨v, t, N, rfl, _⟩ := h
      rfl
    · obtain ⟨v, t, N, rfl, hv, hc, hd, hN, k⟩ := h
      refine ⟨_, (pss_cons (ps_set (i := 1) scPlaces.nd rfl (Or.inl rfl) (pe_lst (pa_cons (pe_tup pa_nil) pa_nil)))
      (pss_cons (ps_for PassesOwn.never rfl (pi_range1 (by rfl) T.n_range (pa_cons (pe_ifExp (pt_val (pe_callB call_isi (by rfl) T.n_isinstance (by decide +kernel) (pa_cons (pv 0) (pa_cons (pe_bltn (v := V.ty "tuple") (u := .type "tuple") (by rfl) T.n_tuple (by decide +kernel) (by rfl)) pa_nil)))) (pe_callB call_len_seq (by rfl) T.n_len PySem.boot_len (pa_cons (pe_ix ix_tup (pv 0) pe_int (fun _ _ => rfl)) pa_nil)) pe_int) pa_nil)) (pg_name (i := 2) scPlaces.nd rfl (Or.inr rfl))
      (pss_one (ps_set (i := 1) scPlaces.nd rfl (Or.inl rfl) (pe_op op_cat (pv 1) (pe_lc (own := [("place", 3)]) (g := gName 3) (tt := tYes) (by rfl) scPlaces.nd (pi_list (pe_call G_law_places hr rfl T.g_law_places T.k_law_places b_law_places .nil pass0 (pa_cons (pe_ix ix_tup (pe_ix ix_tup (pv 0) pe_int (fun _ _ => rfl)) (pv 2) (fun _ _ => rfl)) pa_nil))) (blkOk_by (own := [("place", 3)]) (N := ["thing", "found", "at", "place"]) (sc := defScope sPlaces) (by decide +kernel)) (fun _ _ _ _ _ => pg_name (i := 3) scPlaces.nd rfl (Or.inl rfl)) (fun _ _ _ _ _ => pts_nil) (fun _ _ _ _ _ => (pe_op (r := rCatD K) op_catD (pe_tup (pa_cons (pv 2) pa_nil)) (pv 3))))))))
      (pss_one (ps_ret (pv 1))))), ?_⟩
      refine ⟨Nat.zero_le _, fun p0 hp0 => ⟨(by show 1 ≤ sizeLine; decide), fun L0 hL0 => ?_⟩⟩
      have s0 := ((Same.refl H).new (o := .tup []) hp0).new (o := .lst [.ref p0]) hL0
      have pL : p0 ≠ L0 := ne_of_none upd_same hL0
      have nL : ¬ N L0 := not_new hN ((Same.refl H).new (o := .tup []) hp0) hL0
      have np : ¬ N p0 := not_new hN (Same.refl H) hp0
      have dL : DmAll K N (upd (upd H p0 (.tup [])) L0 (.lst [.ref p0])) [.ref p0] [plD []] := .cons (.tup (by rw [upd_ne pL, upd_same]) np .nil) .nil
      have hL : (upd (upd H p0 (.tup [])) L0 (.lst [.ref p0])) L0 = some (.lst [.ref p0]) := upd_same
      generalize upd (upd H p0 (.tup [])) L0 (.lst [.ref p0]) = H1 at s0 dL hL ⊢
      refine ⟨_, rfl, _, _, _, _, _, rfl, .ty "tuple", (hv.up (Bt.same s0)).ty, kit_tup t.dat, _, rfl, ?_⟩
      have fin : ∀ (L : Addr) (vs : List V) (H2 : Hp), Same H H2 → H2 L = some (.lst vs) → ¬ N L → DmAll K N H2 vs (t.pls.map plD) → Q (.ref L) H2 := fun L vs H2 s2 h2 n2 d2 => k _ _ (.lst h2 n2 d2) s2
      cases t with
      | txt z =>
        refine iteF ⟨_, rfl, by decide, by decide, ?_⟩
        exact for_range (lo := 0) (n := ((0 : Int)).toNat) (fun i σ H2 => σ = [some v, some (.ref L0), none, none] ∧ H2 = H1) ⟨rfl, rfl⟩ (fun i σ H2 hi _ => absurd hi (Nat.not_lt_zero i)) (fun σ H2 ⟨e1, e2⟩ => by
          subst e1 e2
          exact ⟨_, rfl, fin L0 _ _ s0 hL nL dL⟩)
      | nod x ts =>
        obtain ⟨b, y1, rfl, tb, dy1⟩ := hv.nod
        obtain ⟨c, zs, rfl, tc, cl⟩ := dy1.seq
        have lc := cl.len
        rw [datAll_length] at lc
        have lts := cntD_len ts
        have ecx : (Doc.nod x ts).cnt = 1 + cntD ts := rfl
        have egx : (Doc.nod x ts).hgt = 1 + hgtD ts := rfl
        refine iteT ⟨_, rfl, _, _, _, _, rfl, rfl, (tb.up (Bt.same s0)).sq, atI_nat (j := 1) rfl, c, zs, rfl, .inr (tc.up (Bt.same s0)).sq, _, rfl, by omega, by omega, ?_⟩
        refine for_range (lo := 0) (n := ((zs.length : Int)).toNat) (fun i σ H2 => ∃ (L : Addr) (vs : List V) (x2 x3 : Option V), σ = [some (.ref b), some (.ref L), x2, x3] ∧ Same H H2 ∧ H2 L = some (.lst vs) ∧ ¬ N L ∧ DmAll K N H2 vs (([] :: plsAt 0 (ts.take i)).map plD))
          ⟨L0, _, none, none, rfl, s0, hL, nL, dL⟩ ?_ ?_
        · rintro i σ H2 hi ⟨L, vs, x2, x3, rfl, s2, h2, n2, d2⟩
          have hiz : i < ts.length := by omega
          have ht : ts[i]? = some ts[i] := List.getElem?_eq_getElem hiz
          have mt : ts[i] ∈ ts := List.getElem_mem hiz
          generalize ts[i] = t at ht mt
          have ct := cntD_mem mt
          have gt := hgtD_mem mt
          obtain ⟨z, hz, dz⟩ := cl.get (i := i) (d := t.dat) (by rw [datAll_map, List.getElem?_map, ht]; rfl)
          have e0 : (0 + (i : Int)) = (i : Int) := by omega
          rw [e0]
          refine ⟨_, rfl, _, rfl, _, _, _, _, rfl, rfl, (tb.up (Bt.same s2)).sq, atI_nat (j := 1) rfl, _, rfl, _, _, _, _, rfl, rfl, (tc.up (Bt.same s2)).sq, atI_nat hz, z, t, N, rfl, dz.up (Bt.same s2), by omega, by omega, trk_up hN s2, fun u H3 du s3 => ?_⟩
          have s23 := s2.trans s3
          cases du with
          | @lst q us _ hq nq dq =>
            have lq := dq.len
            rw [List.length_map, pls_len] at lq
            refine ⟨q, rfl, ⟨_, SqL.of hq⟩, fun D hD => ?_⟩
            have DH : H D = none := s23.free hD
            refine lc_list (K := K) (a := q) (xs := us) (fun j H4 => ∃ ws : List V, Same H3 H4 ∧ H4 D = some (.lst ws) ∧ DmAll K (fun a => N a ∨ a = D) H4 ws ((t.pls.take j).map fun p => plD (i :: p))) ⟨[], (Same.refl H3).new hD, upd_same, .nil⟩ (fun j H4 _ ⟨_, s4, _⟩ => SqL.of (s4 _ _ hq)) ?_ ?_
            · rintro j y H4 hy ⟨ws, s4, hD4, dw⟩
              obtain ⟨dd, hdd, dy⟩ := dq.getV hy
              rw [List.getElem?_map] at hdd
              cases ep : t.pls[j]? with
              | none => rw [ep] at hdd; cases hdd
              | some p =>
                rw [ep] at hdd
                have ed := Option.some.inj hdd
                subst ed
                have jl : j < t.pls.length := (List.getElem?_eq_some_iff.mp ep).1
                rw [pls_len] at jl
                have lw := dw.len
                rw [List.length_map, List.length_take, pls_len] at lw
                have hN4 : ∀ a, (N a ∨ a = D) → Trk H4 a := fun a h => by
                  rcases h with h | h
                  · exact (trk_up hN (s23.trans s4)) a h
                  · rw [h]
                    exact ⟨_, hD4⟩
                refine ⟨rfl, _, rfl, (by show 1 ≤ sizeLine; decide), fun p5 hp5 => ?_⟩
                have s5 : Same H3 (upd H4 p5 (.tup [.int (i : Int)])) := s4.new hp5
                have dy5 : Dm K (fun a => N a ∨ a = D) (upd H4 p5 (.tup [.int (i : Int)])) y (plD p) := Dm.mono (fun a t h => by
                  rcases h with h | h
                  · exact h
                  · exfalso
                    obtain ⟨o, e⟩ := t
                    rw [h, hD] at e
                    cases e) (Bt.same s5) _ _ dy
                have di5 : Dm K (fun a => N a ∨ a = D) (upd H4 p5 (.tup [.int (i : Int)])) (.ref p5) (.tuple [.int (i : Int)]) := .tup upd_same (not_new hN4 (Same.refl H4) hp5) (.cons (.int _) .nil)
                have hD5 : (upd H4 p5 (.tup [.int (i : Int)])) D = some (.lst ws) := by rw [upd_ne (ne_of_none hD4 hp5)]; exact hD4
                have hN5 := trk_up hN4 ((Same.refl H4).new (o := .tup [.int (i : Int)]) hp5)
                have dw5 := dw.up (Bt.refl.new (o := .tup [.int (i : Int)]) hp5)
                generalize upd H4 p5 (.tup [.int (i : Int)]) = H5 at s5 dy5 di5 hD5 hN5 dw5 ⊢
                have lpp : p.length ≤ t.cnt := by
                  obtain ⟨u, hu⟩ := pls_at t p (List.mem_of_getElem? ep)
                  exact at_len p t u hu
                refine ⟨_, rfl, _, [.int (i : Int)], p.map fun (n : Nat) => PyData.int (n : Int), di5, dy5, hN5, (by rw [List.length_map, sizeLine_eq]; show 1 + _ ≤ _; omega), fun u6 H6 du6 s6 => ?_⟩
                refine ⟨ws, s6 _ _ hD5, smallM (by omega), ws ++ [u6], (s5.trans s6).cell hD, upd_same, ?_⟩
                have bD : Bt (fun a => N a ∨ a = D) H6 (upd H6 D (.lst (ws ++ [u6]))) := Bt.refl.cell (.inr rfl)
                rw [take_snoc ep, List.map_append]
                exact ((dw5.up (Bt.same s6)).up bD).snoc (du6.up bD)
            · rintro H4 ⟨ws, s4, hD4, dw⟩
              rw [lq, ← pls_len, List.take_length] at dw
              have s24 := s23.trans s4
              have lvs := d2.len
              rw [List.length_map, List.length_cons, plsAt_len] at lvs
              have lws := dw.len
              rw [List.length_map, pls_len] at lws
              have ctk : cntD (ts.take i) ≤ cntD ts := by
                have e : ts = ts.take i ++ ts.drop i := (List.take_append_drop i ts).symm
                conv => rhs; rw [e]
                rw [cntD_app]
                omega
              have hL4 : H4 L = some (.lst vs) := s4 _ _ (s3 _ _ h2)
              refine ⟨L, D, vs, ws, rfl, rfl, hL4, hD4, (by rw [sizeLine_eq]; omega), fun M hM => ?_⟩
              have s5 := s24.new (o := .lst (vs ++ ws)) hM
              refine ⟨M, vs ++ ws, _, _, rfl, s5, upd_same, not_new hN s24 hM, ?_⟩
              have e9 : ([] :: plsAt 0 (ts.take (i + 1))).map plD = ([] :: plsAt 0 (ts.take i)).map plD ++ t.pls.map fun p => plD (i :: p) := by
                rw [take_snoc ht, plsAt_app]
                show _ = plD [] :: (plsAt 0 (ts.take i)).map plD ++ _
                rw [List.map_cons, List.map_append, List.cons_append]
                congr 2
                show (t.pls.map ((0 + (ts.take i).length) :: ·) ++ []).map plD = _
                have el : 0 + (ts.take i).length = i := by rw [List.length_take]; omega
                rw [el, List.append_nil, List.map_map]
                rfl
              rw [e9]
              refine (d2.up (Bt.same ((s3.trans s4).new hM))).app ?_
              exact DmAll.mono (fun a _ z => .inl z) (Bt.refl.new hM) _ _ dw
        · rintro σ H2 ⟨L, vs, x2, x3, rfl, s2, h2, n2, d2⟩
          have el : ts.take ((zs.length : Int)).toNat = ts := List.take_of_length_le (by omega)
          rw [el] at d2
          exact ⟨_, rfl, fin L vs H2 s2 h2 n2 d2⟩
end
end K1

namespace K1
open PySem L2 Xr Exv
section
variable {P : Program} {w : World} {K : PySem.W.Frag} {mg : Str → Option Value} {base : Heap} {a_law_places a_law_with a_law_written a_law_row_written : Addr} {fdR fdW : FuncData}
theorem ok_with {fd : FuncData} (F : Fun K "_law_with" "_law_with" sWith a_law_with fd) (T : LawATxt K mg a_law_places a_law_with a_law_written a_law_row_written) (b_law_with : Binds K fd ["thing", "place", "new"] []) :
    ∀ n : Nat, FnOk P w K mg base CX0 (1 + n) a_law_with fd ["thing", "place", "new"] (spWith K n) := by
  intro n
  induction n with
  | zero =>
    refine F.ok scWith (fun vs H Q E h => ?_) (fun cdv A outer s H vs Q E hr h => ?_)
    · obtain ⟨v, pl, nv, t, u, m, p, N, rfl, _⟩ := h
      rfl
    · obtain ⟨v, pl, nv, t, u, m, p, N, rfl, _, _, _, _, _, hd, _⟩ := h
      omega
  | succ n G_law_with =>
    have e54 : 1 + (n + 1) = 1 + n + 1 := by omega
    rw [e54]
    refine F.ok scWith (fun vs H Q E h => ?_) (fun cdv A outer s H vs Q E hr h => ?_)
    · obtain ⟨v, pl, nv, t, u, m, p, N, rfl, _⟩ := h
      rfl
    · obtain ⟨v, pl, nv, t, u, m, p, N, rfl, hv, hp, hm, ha, hc, hd, hl, hN, k⟩ := h
      refine ⟨_, (pss_cons (ps_if (pt_cmpR (op_eqD hr.units) (pv 1) (pe_tup pa_nil) (nomark _))
      (pss_one (ps_ret (pv 2)))
      pss_nil)
      (pss_cons (ps_par (i := 3) (j := 4) (by rfl) scWith.nd rfl rfl (by decide) rfl rfl (pa_cons (pe_ix ix_tup (pv 1) pe_int (fun _ _ => rfl)) (pa_cons (pe_ix ix_tup (pv 0) pe_int (fun _ _ => rfl)) pa_nil)) (by rfl))
      (pss_one (ps_ret (pe_tup (pa_cons (pe_ix ix_tup (pv 0) pe_int (fun _ _ => rfl)) (pa_cons (pe_op op_catD (pe_op op_catD (pe_slice sl_dm (pv 4) po_none (po_some (pv 3))) (pe_tup (pa_cons (pe_call G_law_with hr rfl T.g_law_with T.k_law_with b_law_with .nil pass0 (pa_cons (pe_ix ix_tup (pv 4) (pv 3) (fun _ _ => rfl)) (pa_cons (pe_slice sl_dm (pv 1) (po_some pe_int) po_none) (pa_cons (pv 2) pa_nil)))) pa_nil))) (pe_slice sl_dm (pv 4) (po_some (pe_op op_add (pv 3) pe_int)) po_none)) pa_nil))))))), ?_⟩
      refine ⟨_, rfl, Nat.zero_le _, fun p0 hp0 => ?_⟩
      have s0 := (Same.refl H).new (o := .tup []) hp0
      refine ⟨_, _, (hp.up (Bt.same s0)).dp, .tup (SqT.of upd_same) .nil, (vd_pl p).shaped (by decide), rfl, _, rfl, ?_⟩
      generalize upd H p0 (.tup []) = H1 at s0 ⊢
      have eqe : PyData.eqv (plD p) (.tuple []) = p.isEmpty := by cases p <;> rfl
      rw [eqe]
      cases p with
      | nil =>
        have e : t.with_ [] m = m := by cases t <;> rfl
        rw [e] at k
        exact iteT ⟨_, rfl, k _ _ (hm.up (Bt.same s0)) s0⟩
      | cons i p =>
        cases t with
        | txt z => cases ha
        | nod x ts =>
          have e' : (match ts[i]? with | some t => t.at? p | none => none) = some u := ha
          cases ht : ts[i]? with
          | none => rw [ht] at e'; cases e'
          | some t =>
            rw [ht] at e'
            have mt : t ∈ ts := List.mem_of_getElem? ht
            have it : i < ts.length := (List.getElem?_eq_some_iff.mp ht).1
            have ew : (Doc.nod x ts).with_ (i :: p) m = .nod x (ts.take i ++ t.with_ p m :: ts.drop (i + 1)) := by
              show (match ts[i]? with | some t => Doc.nod x (ts.take i ++ t.with_ p m :: ts.drop (i + 1)) | none => .nod x ts) = _
              rw [ht]
            rw [ew] at k
            have ct := cntD_mem mt
            have lts := cntD_len ts
            have ecx : (Doc.nod x ts).cnt = 1 + cntD ts := rfl
            have hl' : p.length + 1 ≤ 900 := hl
            have hd' : p.length + 1 < n + 1 := hd
            obtain ⟨b, y1, rfl, tb, dy1⟩ := hv.nod
            obtain ⟨pa, pxs, rfl, tpa, apl⟩ := hp.seq
            have apl' : DmAll K N H pxs (.int (i : Int) :: (p.map fun (n : Nat) => PyData.int (n : Int))) := apl
            cases apl' with
            | @cons pi pis _ _ hpi hpis =>
            have ei : pi = .int (i : Int) := by
              cases hpi
              rfl
            subst ei
            refine iteF ⟨_, rfl, _, _, _, _, rfl, rfl, (tpa.up (Bt.same s0)).sq, atI_nat (j := 0) rfl, _, rfl, _, _, _, _, rfl, rfl, (tb.up (Bt.same s0)).sq, atI_nat (j := 1) rfl, ?_⟩
            refine ⟨_, _, rfl, ?_⟩
            have dts := dy1.up (Bt.same s0)
            have hN1 := trk_up hN s0
            -- (thing[0], things[:at] + (..) + things[at + 1:])
            refine ⟨_, rfl, _, _, _, _, rfl, rfl, (tb.up (Bt.same s0)).sq, atI_nat (j := 0) rfl, ?_⟩
            refine ⟨_, rfl, _, rfl, _, rfl, N, _, dts, hN1, fun u1 H2 du1 s2 => ?_⟩
            have s12 := s0.trans s2
            have hN2 := trk_up hN s12
            obtain ⟨c, zs, ec, tc, cl⟩ := (dy1.up (Bt.same s12)).seq
            obtain ⟨z, hz, dz⟩ := cl.get (i := i) (d := t.dat) (by rw [datAll_map, List.getElem?_map, ht]; rfl)
            subst ec
            refine ⟨_, rfl, _, rfl, _, _, _, _, rfl, rfl, tc.sq, atI_nat hz, _, rfl, _, rfl, N, _, hp.up (Bt.same s12), hN2, fun u2 H3 du2 s3 => ⟨_, rfl, ?_⟩⟩
            have s13 := s12.trans s3
            have hN3 := trk_up hN s13
            have ecut : cutP (.int (i : Int) :: (p.map fun (n : Nat) => PyData.int (n : Int))) (some 1) none = p.map fun (n : Nat) => PyData.int (n : Int) := by
              rw [show (some (1 : Int)) = some ((1 : Nat) : Int) from rfl, cutP_drop (by simp)]
              rfl
            have du2' : Dm K N H3 u2 (plD p) := by
              have z : Dm K N H3 u2 (.tuple (cutP (.int (i : Int) :: (p.map fun (n : Nat) => PyData.int (n : Int))) (some 1) none)) := du2
              rw [ecut] at z
              exact z
            refine ⟨z, u2, nv, t, u, m, p, N, rfl, dz.up (Bt.same s3), du2', hm.up (Bt.same s13), e', by omega, by omega, by omega, hN3, fun w4 H4 dw4 s4 => ⟨(by show 1 ≤ sizeLine; decide), fun p5 hp5 => ?_⟩⟩
            have s14 := s13.trans s4
            have hN4 := trk_up hN s14
            have d5 : Dm K N (upd H4 p5 (.tup [w4])) (.ref p5) (.tuple [(t.with_ p m).dat]) := .tup upd_same (not_new hN4 (Same.refl H4) hp5) (.cons (dw4.up (Bt.refl.new hp5)) .nil)
            have s15 := s14.new (o := .tup [w4]) hp5
            have du15 := ((du1.up (Bt.same s3)).up (Bt.same s4)).up (Bt.refl.new (o := .tup [w4]) hp5)
            generalize upd H4 p5 (.tup [w4]) = H5 at d5 s15 du15 ⊢
            have ld : (datAll ts).length = ts.length := datAll_length ts
            rw [cutP_take (by omega)] at du15
            refine ⟨N, _, _, du15, d5, trk_up hN s15, (by rw [sizeLine_eq, List.length_take]; show _ + 1 ≤ _; omega), fun u6 H6 du6 s6 => ?_⟩
            have s16 := s15.trans s6
            refine ⟨_, rfl, _, rfl, _, _, rfl, rfl, _, rfl, N, _, dy1.up (Bt.same s16), trk_up hN s16, fun u7 H7 du7 s7 => ?_⟩
            have s17 := s16.trans s7
            have ej : ((i : Int) + 1) = ((i + 1 : Nat) : Int) := by omega
            rw [ej, cutP_drop (by omega)] at du7
            refine ⟨N, _, _, du6.up (Bt.same s7), du7, trk_up hN s17, (by rw [sizeLine_eq, List.length_append, List.length_take, List.length_drop]; show _ + 1 + _ ≤ _; omega), fun u8 H8 du8 s8 => ⟨(by show 2 ≤ sizeLine; decide), fun p9 hp9 => ?_⟩⟩
            have s18 := s17.trans s8
            refine k _ _ ?_ (s18.new hp9)
            show Dm K N _ _ (.tuple [.str x, .tuple (datAll (ts.take i ++ t.with_ p m :: ts.drop (i + 1)))])
            have ed : datAll (ts.take i ++ t.with_ p m :: ts.drop (i + 1)) = (datAll ts).take i ++ [(t.with_ p m).dat] ++ (datAll ts).drop (i + 1) := by
              rw [datAll_map, datAll_map, List.map_append, List.map_take]
              show _ ++ ((t.with_ p m).dat :: (ts.drop (i + 1)).map Doc.dat) = _
              rw [List.map_drop]
              simp
            rw [ed]
            exact .tup upd_same (not_new hN s18 hp9) (.cons (.str x) (.cons (du8.up (Bt.refl.new hp9)) .nil))
theorem ok_written0 {fd : FuncData} (n : Nat) (F : Fun K "_law_written" "_law_written" sWritten a_law_written fd) (T : LawATxt K mg a_law_places a_law_with a_law_written a_law_row_written)
    (b_law_row_written : Binds K fdR ["things"] []) (R : ∀ m, n = m + 1 → FnOk P w K mg base CX0 (2 + 2 * m) a_law_row_written fdR ["things"] (spRowW K m)) : FnOk P w K mg base CX0 (1 + 2 * n) a_law_written fd ["thing"] (spWritten K n) := by
  have e54 : 1 + 2 * n = 2 * n + 1 := by omega
  rw [e54]
  refine F.ok scWritten (fun vs H Q E h => ?_) (fun cdv A outer s H vs Q E hr h => ?_)
  · obtain ⟨v, t, N, rfl, _⟩ := h
    rfl
  · obtain ⟨v, t, N, rfl, hv, ho, hc, hg, k⟩ := h
    have l1 : (Str.ofString "\"").length = 1 := by decide +kernel
    cases n with
    | zero =>
      refine ⟨_, pss_cons (ps_if (pt_val (pe_callB call_isi (by rfl) T.n_isinstance (by decide +kernel) (pa_cons (pv 0) (pa_cons (pe_bltn (v := V.ty "str") (u := .type "str") (by rfl) T.n_str (by decide +kernel) (by rfl)) pa_nil))))
        (pss_one (ps_ret (pe_op op_add_str (pe_op op_add_str pe_str (pv 0)) pe_str))) pss_nil) pss_never, ?_⟩
      cases t with
      | nod x ts =>
        have z : 1 + hgtD ts ≤ 0 := hg
        omega
      | txt z =>
        have ev := hv.strV
        subst ev
        obtain ⟨sz, lz⟩ := text_facts (show textD (.str z) = true from ho)
        refine ⟨_, rfl, _, _, _, _, true, rfl, .ty "str", .base (.str z), kit_ty (by decide +kernel), _, rfl, iteT ?_⟩
        refine ⟨_, rfl, _, _, rfl, rfl, (by rw [sizeLine_eq, l1]; omega), _, _, rfl, rfl, (by rw [sizeLine_eq, strLen_append, l1]; omega), ?_⟩
        rw [tx_txt]
        exact k _ (Same.refl H)
    | succ m =>
      have G_law_row_written := R m rfl
      have hrR : Room (2 + 2 * m) _ := hr.mono (by omega)
      refine ⟨_, (pss_cons (ps_if (pt_val (pe_callB call_isi (by rfl) T.n_isinstance (by decide +kernel) (pa_cons (pv 0) (pa_cons (pe_bltn (v := V.ty "str") (u := .type "str") (by rfl) T.n_str (by decide +kernel) (by rfl)) pa_nil))))
      (pss_one (ps_ret (pe_op op_add_str (pe_op op_add_str pe_str (pv 0)) pe_str)))
      pss_nil)
      (pss_one (ps_ret (pe_op op_add_str (pe_op op_add_str (pe_op op_add_str (pe_ix ix_tup (pv 0) pe_int (fun _ _ => rfl)) pe_str) (pe_call G_law_row_written hrR rfl T.g_law_row_written T.k_law_row_written b_law_row_written .nil pass0 (pa_cons (pe_ix ix_tup (pv 0) pe_int (fun _ _ => rfl)) pa_nil))) pe_str)))), ?_⟩
      refine ⟨_, rfl, _, _, _, _, _, rfl, .ty "str", hv.ty, kit_str t.dat, _, rfl, ?_⟩
      cases t with
      | txt z =>
        have ev := hv.strV
        subst ev
        obtain ⟨sz, lz⟩ := text_facts (show textD (.str z) = true from ho)
        refine iteT ⟨_, rfl, _, _, rfl, rfl, (by rw [sizeLine_eq, l1]; omega), _, _, rfl, rfl, (by rw [sizeLine_eq, strLen_append, l1]; omega), ?_⟩
        rw [tx_txt]
        exact k _ (Same.refl H)
      | nod x ts =>
        obtain ⟨b, y1, rfl, tb, dy1⟩ := hv.nod
        obtain ⟨sx, lx⟩ := name_facts ho.1
        have ecx : (Doc.nod x ts).cnt = 1 + cntD ts := rfl
        have egx : (Doc.nod x ts).hgt = 1 + hgtD ts := rfl
        have lT : (txAll ts).length ≤ 21 * cntD ts := by
          unfold txAll
          rw [strOf_len, List.length_tail]
          have := chT_len ts ho.2
          omega
        have l2 : (Str.ofString "(").length = 1 := by decide +kernel
        have l3 : (Str.ofString ")").length = 1 := by decide +kernel
        refine iteF ⟨_, rfl, _, _, _, _, rfl, rfl, tb.sq, atI_nat (j := 0) rfl, _, _, rfl, rfl, (by rw [sizeLine_eq, l2]; omega), _, rfl, _, _, _, _, rfl, rfl, tb.sq, atI_nat (j := 1) rfl, y1, ts, N, rfl, dy1, ho.2, by omega, by omega, fun H2 s2 => ?_⟩
        refine ⟨_, _, rfl, rfl, (by rw [sizeLine_eq, strLen_append, l2]; omega), _, _, rfl, rfl, (by rw [sizeLine_eq, strLen_append, strLen_append, l2, l3]; omega), ?_⟩
        rw [tx_nod]
        exact k _ s2
theorem ok_rowW0 {fd : FuncData} (n : Nat) (F : Fun K "_law_row_written" "_law_row_written" sRowW a_law_row_written fd) (T : LawATxt K mg a_law_places a_law_with a_law_written a_law_row_written)
    (b_law_written : Binds K fdW ["thing"] []) (G_law_written : FnOk P w K mg base CX0 (1 + 2 * n) a_law_written fdW ["thing"] (spWritten K n)) : FnOk P w K mg base CX0 (2 + 2 * n) a_law_row_written fd ["things"] (spRowW K n) := by
  have e54 : 2 + 2 * n = 1 + 2 * n + 1 := by omega
  rw [e54]
  refine F.ok scRowW (fun vs H Q E h => ?_) (fun cdv A outer s H vs Q E hr h => ?_)
  · obtain ⟨v, ts, N, rfl, _⟩ := h
    rfl
  · obtain ⟨v, ts, N, rfl, hv, ho, hc, hg, k⟩ := h
    refine ⟨_, (pss_one (ps_ret (pe_join pe_str (pe_lc (own := [("thing", 1)]) (g := gName 1) (tt := tYes) (by rfl) scRowW.nd (pi_tup (pv 0)) (blkOk_by (own := [("thing", 1)]) (N := ["things", "thing"]) (sc := defScope sRowW) (by decide +kernel)) (fun _ _ _ _ _ => pg_name (i := 1) scRowW.nd rfl (Or.inl rfl)) (fun _ _ _ _ _ => pts_nil) (fun _ _ _ _ _ => (pe_call G_law_written hr rfl T.g_law_written T.k_law_written b_law_written .nil pass0 (pa_cons (pv 1) pa_nil))))))), ?_⟩
    obtain ⟨a, xs, rfl, ta, al⟩ := hv.seq
    have lx := al.len
    rw [datAll_length] at lx
    have lt := cntD_len ts
    refine ⟨⟨_, rfl⟩, _, rfl, a, rfl, ⟨_, ta.sq⟩, fun D hD => ?_⟩
    refine lc_tup (K := K) (a := a) (xs := xs) (fun i H1 => Same H H1 ∧ H1 D = some (.lst ((ts.take i).map fun t => V.str t.tx))) ⟨(Same.refl H).new hD, by rw [upd_same]; rfl⟩ (fun i H1 _ ⟨s1, _⟩ => (ta.up (Bt.same s1)).sq) ?_ ?_
    · rintro i y H1 hy ⟨s1, h1⟩
      obtain ⟨d, hd, dv⟩ := al.getV hy
      rw [datAll_map, List.getElem?_map] at hd
      cases et : ts[i]? with
      | none => rw [et] at hd; cases hd
      | some t =>
        rw [et] at hd
        have ed := Option.some.inj hd
        subst ed
        have mem : t ∈ ts := List.mem_of_getElem? et
        have il : i < ts.length := (List.getElem?_eq_some_iff.mp et).1
        have cm := cntD_mem mem
        have gm := hgtD_mem mem
        refine ⟨rfl, _, rfl, y, t, N, rfl, dv.up (Bt.same s1), okD_mem ho mem, by omega, by omega, fun H2 s2 => ⟨_, s2 _ _ h1, smallM (by rw [List.length_map, List.length_take]; omega), (s1.trans s2).cell hD, ?_⟩⟩
        rw [upd_same, take_snoc et, List.map_append]
        rfl
    · rintro H1 ⟨s1, h1⟩
      rw [lx, List.take_length] at h1
      have ls := sum_tx ts ho
      have l3 : (Str.ofString " ").length = 1 := by decide +kernel
      refine ⟨_, D, ts.map Doc.tx, rfl, rfl, .inl (SqL.of (by rw [h1, List.map_map]; rfl)), (by rw [List.length_map, l3]; omega), ?_⟩
      rw [join_tx]
      exact k _ s1
theorem ok_bothW {fdW fdR : FuncData} (FW : Fun K "_law_written" "_law_written" sWritten a_law_written fdW) (FR : Fun K "_law_row_written" "_law_row_written" sRowW a_law_row_written fdR) (T : LawATxt K mg a_law_places a_law_with a_law_written a_law_row_written)
    (bW : Binds K fdW ["thing"] []) (bR : Binds K fdR ["things"] []) : ∀ n : Nat, FnOk P w K mg base CX0 (1 + 2 * n) a_law_written fdW ["thing"] (spWritten K n) ∧ FnOk P w K mg base CX0 (2 + 2 * n) a_law_row_written fdR ["things"] (spRowW K n)
  | 0 => by
    have a := ok_written0 (P := P) (w := w) (base := base) 0 FW T bR (fun m h => absurd h (by omega))
    exact ⟨a, ok_rowW0 0 FR T bW a⟩
  | n + 1 => by
    have ih := ok_bothW FW FR T bW bR n
    have a := ok_written0 (n + 1) FW T bR (fun m h => by
      have e : m = n := by omega
      rw [e]
      exact ih.2)
    exact ⟨a, ok_rowW0 (n + 1) FR T bW a⟩
end
end K1

/-! what is read is told; nodes and forests held against the law -/
namespace K1
open PySem L2 Xr Exv Grd
abbrev sLRead : Stmt := top 39
theorem scLRead : FnScope ["value", "node", "named", "e"] ["value", "node", "named"] (defScope sLRead) := ⟨rfl, rfl, rfl, by decide +kernel, rfl, by decide +kernel, by decide +kernel⟩
abbrev sNodeR : Stmt := top 40
theorem scNodeR : FnScope ["node", "text", "due"] ["node"] (defScope sNodeR) := ⟨rfl, rfl, rfl, by decide +kernel, rfl, by decide +kernel, by decide +kernel⟩
abbrev sForestR : Stmt := top 41
theorem scForestR : FnScope ["forest", "text", "due"] ["forest"] (defScope sForestR) := ⟨rfl, rfl, rfl, by decide +kernel, rfl, by decide +kernel, by decide +kernel⟩
abbrev sChain : Stmt := top 42
theorem scChain : FnScope ["names", "many", "thing", "at"] ["names", "many", "thing"] (defScope sChain) := ⟨rfl, rfl, rfl, by decide +kernel, rfl, by decide +kernel, by decide +kernel⟩
mutual
theorem ch_low : ∀ t : Doc, t.ok → ∀ c ∈ t.ch, c < 128
  | .txt z, h, c, hc => by
    have p := plain_txt h
    have hc' : c ∈ 34 :: (z.cps.toList ++ [34]) := hc
    simp only [List.mem_cons, List.mem_append, List.not_mem_nil, or_false] at hc'
    rcases hc' with e | e | e
    · omega
    · exact p.low c e
    · omega
  | .nod x ts, h, c, hc => by
    have p := plain_name h.1
    have hc' : c ∈ x.cps.toList ++ 40 :: ((chT ts).tail ++ [41]) := hc
    simp only [List.mem_cons, List.mem_append, List.not_mem_nil, or_false] at hc'
    rcases hc' with e | e | e | e
    · exact p.low c e
    · omega
    · exact chT_low ts h.2 c (List.mem_of_mem_tail e)
    · omega
theorem chT_low : ∀ ts : List Doc, okD ts → ∀ c ∈ chT ts, c < 128
  | [], _, c, hc => by
    have hc' : c ∈ ([] : List Nat) := hc
    simp at hc'
  | t :: ts, h, c, hc => by
    have hc' : c ∈ 32 :: (t.ch ++ chT ts) := hc
    simp only [List.mem_cons, List.mem_append] at hc'
    rcases hc' with e | e | e
    · omega
    · exact ch_low t h.1 c e
    · exact chT_low ts h.2 c e
end
theorem rp_long {z : Str} (h : Plain 20000 z) : Rp 150 10000000 (.str z) := by
  refine ⟨canLay_plain h, by unfold PyData.depth; exact Nat.zero_le _, rfl, ?_⟩
  unfold PyData.shown
  have r := StrLaws.reprText_len z fun ch hc => by
    have := h.low ch hc
    have : (128 : Nat) ≤ 16 ^ 8 := by decide
    omega
  have := h.len
  omega
theorem plain_tx {t : Doc} (h : t.ok) (c : t.cnt ≤ 900) : Plain 20000 t.tx := ⟨by
  have := ch_len t h
  show (strOf t.ch).length ≤ _
  rw [strOf_len]
  omega, fun c hc => ch_low t h c (by
    have e : t.tx.cps.toList = t.ch := strOf_cps _
    rw [e] at hc
    exact hc)⟩
theorem plain_txAll {ts : List Doc} (h : okD ts) (c : cntD ts ≤ 900) : Plain 20000 (txAll ts) := ⟨by
  have := chT_len ts h
  unfold txAll
  rw [strOf_len, List.length_tail]
  omega, fun c hc => chT_low ts h c (by
    have e : (txAll ts).cps.toList = (chT ts).tail := strOf_cps _
    rw [e] at hc
    exact List.mem_of_mem_tail hc)⟩
theorem plain_told : Plain 17 (Str.ofString "told") := ⟨by decide, by decide +kernel⟩
theorem rp_toldN {t : Doc} (h : t.ok) (c : t.cnt ≤ 900) (g : t.hgt ≤ 60) : Rp 150 10000000 (.tuple [.str (Str.ofString "told"), t.dat]) := by
  refine (rp_tup (n := 120) (B := 900000) (ds := [.str (Str.ofString "told"), t.dat]) fun x hx => ?_).mono (by decide) (show 2 * (900000 + 2) + 3 ≤ 10000000 by decide)
  simp only [List.mem_cons, List.not_mem_nil, or_false] at hx
  rcases hx with e | e
  · rw [e]
    exact (rp_str plain_told).mono (by decide) (by decide)
  · rw [e]
    exact (rp_doc t h).mono (by omega) (by omega)
theorem rp_toldF {ts : List Doc} (h : okD ts) (c : cntD ts ≤ 900) (g : hgtD ts ≤ 60) : Rp 150 10000000 (.tuple [.str (Str.ofString "told"), .tuple (datAll ts)]) := by
  obtain ⟨a, b, c2, e⟩ := rp_docs ts h
  have r1 := rp_tupA a b c2 e
  refine (rp_tup (n := 121) (B := 1000000) (ds := [.str (Str.ofString "told"), .tuple (datAll ts)]) fun x hx => ?_).mono (by decide) (show 2 * (1000000 + 2) + 3 ≤ 10000000 by decide)
  simp only [List.mem_cons, List.not_mem_nil, or_false] at hx
  rcases hx with e | e
  · rw [e]
    exact (rp_str plain_told).mono (by decide) (by decide)
  · rw [e]
    exact r1.mono (by omega) (by omega)
def wrongD : PyData := .tuple [.str (Str.ofString "wrong"), .int (-1)]
def RdD (nd : Bool) (d x : PyData) : Prop := (isStr d = false ∧ x = wrongD) ∨ (nd = true ∧ ∃ t : Doc, d = .str t.tx ∧ t.ok ∧ t.cnt ≤ 900 ∧ (∃ y cs, t = .nod y cs) ∧ x = .tuple [.str (Str.ofString "told"), t.dat]) ∨
  (nd = false ∧ ∃ ts, d = .str (txAll ts) ∧ okD ts ∧ cntD ts ≤ 900 ∧ x = .tuple [.str (Str.ofString "told"), .tuple (datAll ts)])
def spLRead (K : PySem.W.Frag) : Sp := fun vs H Q _ => ∃ (v : V) (d x : PyData) (N : Addr → Prop) (nd b : Bool), vs = [v, .bl nd, .bl b] ∧ Dm K N H v d ∧ RdD nd d x ∧ ∀ u H', Dm K F0 H' u x → Same H H' → Q u H'
def tTru (K : PySem.W.Frag) (te : TE) : TT := fun σ H Q => te σ H fun x H' => ∃ k, TruV K x H' k ∧ Q k H'
def tbRead (K : PySem.W.Frag) (C : Addr) : WX → TS := fun W =>
  tSeq (tIfS (tTru K (tVar 1)) (tRet (tTup (tCons (tC (.str (Str.ofString "told"))) (tCons (tIf (tTru K (tVar 2)) (tCallS (spReadN K C) (WE W) (tCons (tVar 0) tNil)) (tCallS (spReadN K C) (WE W) (tCons (tVar 0) tNil))) tNil)))) tNext)
  (tRet (tTup (tCons (tC (.str (Str.ofString "told"))) (tCons (tIf (tTru K (tVar 2)) (tCallS (spReadF K C) (WE W) (tCons (tVar 0) tNil)) (tCallS (spReadF K C) (WE W) (tCons (tVar 0) tNil))) tNil))))
structure SaidTxt (K : PySem.W.Frag) (mg : Str → Option Value) (C cN fit a_read_node a_read_forest : Addr) : Prop where
  n_isinstance : mg "isinstance" = none
  m : mg "InvalidText" = some (.ref C)
  mN : mg "InvalidNode" = some (.ref cN)
  mF : mg "FitError" = some (.ref fit)
  it : IsT K C
  no : PySem.W.findIn K (.ref C) "at" = some none
  one : PySem.W.exmOne K (.ref C) (.ref C) = some true
  isF : PySem.W.kitOne K (.ref C) (.ref fit) = some true
  isN : PySem.W.kitOne K (.ref C) (.ref cN) = some false
  g_read_node : mg "read_node" = some (.ref a_read_node)
  k_read_node : PySem.W.keepIn K (.ref a_read_node) = true
  g_read_forest : mg "read_forest" = some (.ref a_read_forest)
  k_read_forest : PySem.W.keepIn K (.ref a_read_forest) = true
structure RightTxt (K : PySem.W.Frag) (mg : Str → Option Value) (a_law_read a_thing_text a_forest_text a_law_written a_law_row_written : Addr) : Prop where
  n_repr : mg "repr" = none
  n_range : mg "range" = none
  n_int : mg "int" = none
  n_len : mg "len" = none
  g_law_read : mg "_law_read" = some (.ref a_law_read)
  k_law_read : PySem.W.keepIn K (.ref a_law_read) = true
  g_thing_text : mg "thing_text" = some (.ref a_thing_text)
  k_thing_text : PySem.W.keepIn K (.ref a_thing_text) = true
  g_forest_text : mg "forest_text" = some (.ref a_forest_text)
  k_forest_text : PySem.W.keepIn K (.ref a_forest_text) = true
  g_law_written : mg "_law_written" = some (.ref a_law_written)
  k_law_written : PySem.W.keepIn K (.ref a_law_written) = true
  g_law_row_written : mg "_law_row_written" = some (.ref a_law_row_written)
  k_law_row_written : PySem.W.keepIn K (.ref a_law_row_written) = true
def spNR (K : PySem.W.Frag) : Sp := fun vs H Q _ => ∃ (v : V) (t : Doc) (N : Addr → Prop), vs = [v] ∧ Dm K N H v t.dat ∧ t.ok ∧ (∃ y cs, t = .nod y cs) ∧ t.cnt ≤ 900 ∧ t.hgt ≤ 60 ∧ (∀ a, N a → Trk H a) ∧ ∀ H', Same H H' → Q (.bl true) H'
def spFR (K : PySem.W.Frag) : Sp := fun vs H Q _ => ∃ (v : V) (ts : List Doc) (N : Addr → Prop), vs = [v] ∧ Dm K N H v (.tuple (datAll ts)) ∧ okD ts ∧ cntD ts ≤ 900 ∧ hgtD ts ≤ 60 ∧ (∀ a, N a → Trk H a) ∧ ∀ H', Same H H' → Q (.bl true) H'
theorem same_text2 (z : V) : (!decide (z = z)) = false := by simp
theorem same_textT2 (z : V) : decide (z = z) = true := by simp
section
variable {P : Program} {w : World} {K : PySem.W.Frag} {mg : Str → Option Value} {base : Heap} {C cN fit a_read_node a_read_forest a_law_read a_thing_text a_forest_text a_law_written a_law_row_written : Addr} {fdN fdF fdR fdT fdX fdW fdV : FuncData}
theorem ok_lread {f : Addr} {fd : FuncData} (F : Fun K "_law_read" "_law_read" sLRead f fd) (T : SaidTxt K mg C cN fit a_read_node a_read_forest)
    (Gn : FnOk P w K mg base (L2.CX P w) 6 a_read_node fdN ["value"] (spReadN K C)) (bn : Binds K fdN ["value"] []) (kn : ∀ (s : Shared) (u : Value), BindsTo s fdN ⟨[], [("value", u)]⟩ [("value", u)])
    (Gf : FnOk P w K mg base (L2.CX P w) 6 a_read_forest fdF ["value"] (spReadF K C)) (bf : Binds K fdF ["value"] []) (kf : ∀ (s : Shared) (u : Value), BindsTo s fdF ⟨[], [("value", u)]⟩ [("value", u)]) :
    FnOk P w K mg base CX0 7 f fd ["value", "node", "named"] (spLRead K) := by
  refine F.ok scLRead (fun vs H Q E h => ?_) (fun cdv A outer s H vs Q E hr h => ?_)
  · obtain ⟨v, d, x, N, nd, b, rfl, _⟩ := h
    rfl
  · obtain ⟨v, d, x, N, nd, b, rfl, hv, hx, k⟩ := h
    have xf : XfC K C := ⟨T.it.ga, T.it.gg, T.it.ex, T.it.hd⟩
    refine ⟨_, pss_one (ps_try_as (i := 3) (Wout := fun _ _ _ _ => False) (tb := tbRead K C) rfl rfl scLRead.nd rfl rfl ⟨rfl, by decide, .inl T.m⟩ takes0
        (fun W pn xe tk _ => pss_cons (ps_if (pt_truth (pv 1) (by intro _; rfl)) (pss_one (ps_ret (pe_tup (pa_cons pe_str (pa_cons (pe_ifExp (pt_truth (pv 2) (by intro _; rfl)) (pe_kw0 Gn hr (by rfl) T.g_read_node T.k_read_node kn (fun σ => passAt tk σ) (by exact (pk_cons (pv 0) pk_nil))) (pe_callS Gn hr (by rfl) T.g_read_node T.k_read_node bn (fun σ => passAt tk σ) (by exact (pa_cons (pv 0) pa_nil)))) pa_nil))))) pss_nil)
          (pss_one (ps_ret (pe_tup (pa_cons pe_str (pa_cons (pe_ifExp (pt_truth (pv 2) (by intro _; rfl)) (pe_kw0 Gf hr (by rfl) T.g_read_forest T.k_read_forest kf (fun σ => passAt tk σ) (by exact (pk_cons (pv 0) pk_nil))) (pe_callS Gf hr (by rfl) T.g_read_forest T.k_read_forest bf (fun σ => passAt tk σ) (by exact (pa_cons (pv 0) pa_nil)))) pa_nil))))))
        (fun a oe cls d pn hz hf => pss_one (ps_ret (pe_ifExp (PW.pt (pw_and (pt_val (pe_callB (call_isED hz hf) (by rfl) T.n_isinstance (by decide +kernel) (pa_cons (pv 3) (pa_cons (pe_glob (v := V.ref fit) rfl T.mF rfl) pa_nil))))
          (pw_and1 (pt_not (pt_val (pe_callB (call_isED hz hf) (by rfl) T.n_isinstance (by decide +kernel) (pa_cons (pv 3) (pa_cons (pe_glob (v := V.ref cN) rfl T.mN rfl) pa_nil)))))))) (pe_tup (pa_cons pe_str (pa_cons (pe_xf xf T.no hz hf (pv 3)) pa_nil))) pe_str)))), ?_⟩
    have l2 : 2 ≤ sizeLine := by decide
    have wr : x = wrongD → ∀ (H1 : Hp), Same H H1 → ∀ p, H1 p = none → Q (.ref p) (upd H1 p (.tup [.str (Str.ofString "wrong"), .int (-1)])) := fun e H1 s1 p hp => k (.ref p) _ (by rw [e]; exact .tup upd_same (fun z => z) (.cons (.str _) (.cons (.int _) .nil))) (s1.new hp)
    have td : ∀ (y : PyData) (u : V) (H1 : Hp), x = .tuple [.str (Str.ofString "told"), y] → Dm K F0 H1 u y → Same H H1 → ∀ p, H1 p = none → Q (.ref p) (upd H1 p (.tup [.str (Str.ofString "told"), u])) := fun y u H1 e du s1 p hp => k (.ref p) _ (by rw [e]; exact .tup upd_same (fun z => z) (.cons (.str _) (.cons (du.up (Bt.refl.new hp)) .nil))) (s1.new hp)
    cases nd with
    | true =>
      refine ⟨_, rfl, true, rfl, iteT ⟨_, rfl, b, rfl, ?_⟩⟩
      have go : (isStr d = false ∧ x = wrongD) ∨ (∃ t : Doc, d = .str t.tx ∧ t.ok ∧ t.cnt ≤ 900 ∧ (∃ y cs, t = .nod y cs) ∧ x = .tuple [.str (Str.ofString "told"), t.dat]) := by
        rcases hx with h | ⟨_, h⟩ | ⟨h, _⟩
        · exact .inl h
        · exact .inr h
        · cases h
      rcases go with ⟨h1, h2⟩ | ⟨t, e1, e2, e3, e4, e5⟩
      · cases b with
        | true => exact iteT ⟨_, rfl, v, d, N, rfl, hv, .inl ⟨h1, fun dd H1 hh s1 => ⟨true, T.one, fun _ a ha => ⟨_, rfl, C, .ref fit, .ref fit, true, dd, _, rfl, rfl, .own _, T.it, T.isF, rfl, hh, _, rfl, iteT ⟨_, rfl, C, .ref cN, .ref cN, false, dd, _, rfl, rfl, .own _, T.it, T.isN, rfl, hh, _, rfl, iteT ⟨_, rfl, rfl, rfl, dd, _, _, rfl, hh, rfl, l2, wr h2 H1 s1⟩⟩⟩, fun q => nomatch q⟩⟩⟩
        | false => exact iteF ⟨_, rfl, v, d, N, rfl, hv, .inl ⟨h1, fun dd H1 hh s1 => ⟨true, T.one, fun _ a ha => ⟨_, rfl, C, .ref fit, .ref fit, true, dd, _, rfl, rfl, .own _, T.it, T.isF, rfl, hh, _, rfl, iteT ⟨_, rfl, C, .ref cN, .ref cN, false, dd, _, rfl, rfl, .own _, T.it, T.isN, rfl, hh, _, rfl, iteT ⟨_, rfl, rfl, rfl, dd, _, _, rfl, hh, rfl, l2, wr h2 H1 s1⟩⟩⟩, fun q => nomatch q⟩⟩⟩
      · cases b with
        | true => exact iteT ⟨_, rfl, v, d, N, rfl, hv, .inr ⟨t, e1, e2, e3, e4, fun u H1 du s1 => ⟨l2, td _ u H1 e5 du s1⟩⟩⟩
        | false => exact iteF ⟨_, rfl, v, d, N, rfl, hv, .inr ⟨t, e1, e2, e3, e4, fun u H1 du s1 => ⟨l2, td _ u H1 e5 du s1⟩⟩⟩
    | false =>
      refine ⟨_, rfl, false, rfl, iteF ⟨_, rfl, b, rfl, ?_⟩⟩
      have go : (isStr d = false ∧ x = wrongD) ∨ (∃ ts, d = .str (txAll ts) ∧ okD ts ∧ cntD ts ≤ 900 ∧ x = .tuple [.str (Str.ofString "told"), .tuple (datAll ts)]) := by
        rcases hx with h | ⟨h, _⟩ | ⟨_, h⟩
        · exact .inl h
        · cases h
        · exact .inr h
      rcases go with ⟨h1, h2⟩ | ⟨t, e1, e2, e3, e5⟩
      · cases b with
        | true => exact iteT ⟨_, rfl, v, d, N, rfl, hv, .inl ⟨h1, fun dd H1 hh s1 => ⟨true, T.one, fun _ a ha => ⟨_, rfl, C, .ref fit, .ref fit, true, dd, _, rfl, rfl, .own _, T.it, T.isF, rfl, hh, _, rfl, iteT ⟨_, rfl, C, .ref cN, .ref cN, false, dd, _, rfl, rfl, .own _, T.it, T.isN, rfl, hh, _, rfl, iteT ⟨_, rfl, rfl, rfl, dd, _, _, rfl, hh, rfl, l2, wr h2 H1 s1⟩⟩⟩, fun q => nomatch q⟩⟩⟩
        | false => exact iteF ⟨_, rfl, v, d, N, rfl, hv, .inl ⟨h1, fun dd H1 hh s1 => ⟨true, T.one, fun _ a ha => ⟨_, rfl, C, .ref fit, .ref fit, true, dd, _, rfl, rfl, .own _, T.it, T.isF, rfl, hh, _, rfl, iteT ⟨_, rfl, C, .ref cN, .ref cN, false, dd, _, rfl, rfl, .own _, T.it, T.isN, rfl, hh, _, rfl, iteT ⟨_, rfl, rfl, rfl, dd, _, _, rfl, hh, rfl, l2, wr h2 H1 s1⟩⟩⟩, fun q => nomatch q⟩⟩⟩
      · cases b with
        | true => exact iteT ⟨_, rfl, v, d, N, rfl, hv, .inr ⟨t, e1, e2, e3, fun u H1 du s1 => ⟨l2, td _ u H1 e5 du s1⟩⟩⟩
        | false => exact iteF ⟨_, rfl, v, d, N, rfl, hv, .inr ⟨t, e1, e2, e3, fun u H1 du s1 => ⟨l2, td _ u H1 e5 du s1⟩⟩⟩
theorem ok_nodeR {f : Addr} {fd : FuncData} (F : Fun K "_law_node_right" "_law_node_right" sNodeR f fd) (T : RightTxt K mg a_law_read a_thing_text a_forest_text a_law_written a_law_row_written)
    (G_law_read : FnOk P w K mg base CX0 7 a_law_read fdR ["value", "node", "named"] (spLRead K)) (b_law_read : Binds K fdR ["value", "node", "named"] [])
    (G_thing_text : FnOk P w K mg base CX0 3 a_thing_text fdT ["thing"] (spText1 K)) (b_thing_text : Binds K fdT ["thing"] []) (kb_thing_text : ∀ (s : Shared) (u : Value), BindsTo s fdT ⟨[], [("thing", u)]⟩ [("thing", u)])
    (G_law_written : FnOk P w K mg base CX0 121 a_law_written fdW ["thing"] (spWritten K 60)) (b_law_written : Binds K fdW ["thing"] []) :
    FnG P w K mg base CX0 123 f fd ["node"] (spNR K) := by
  refine fng_of F scNodeR (fun vs H Q E h => ?_) (fun cdv A outer s H vs Q E gd hr h => ?_)
  · obtain ⟨v, t, N, rfl, _⟩ := h
    rfl
  · obtain ⟨v, t, N, rfl, hv, ho, hn, hc, hg, hN, k⟩ := h
    have hr3 : Room 3 _ := hr.mono (by decide)
    have hr7 : Room 7 _ := hr.mono (by decide)
    have hrW : Room 121 _ := hr.mono (by decide)
    refine ⟨_, PSs.nox ((pss_cons (ps_set (i := 1) scNodeR.nd rfl (Or.inl rfl) (pe_call G_thing_text hr3 rfl T.g_thing_text T.k_thing_text b_thing_text .nil pass0 (pa_cons (pv 0) pa_nil)))
      (pss_cons (ps_if (PW.pt (pw_or (pt_cmpR op_ne (pe_callB (Grd.call_repr gd (Grd.u200 hr)) (by rfl) T.n_repr (by decide +kernel) (pa_cons (pv 1) pa_nil)) (pe_callB (Grd.call_repr gd (Grd.u200 hr)) (by rfl) T.n_repr (by decide +kernel) (pa_cons (pe_call G_law_written hrW rfl T.g_law_written T.k_law_written b_law_written .nil pass0 (pa_cons (pv 0) pa_nil)) pa_nil)) (nomark _)) (pw_or1 (pt_cmpR op_ne (pe_kw0 G_thing_text hr3 (by rfl) T.g_thing_text T.k_thing_text kb_thing_text (fun σ => at0 pass0 σ) (by exact (pk_cons (pv 0) pk_nil))) (pv 1) (nomark _)))))
      (pss_one (ps_ret pe_bl))
      pss_nil)
      (pss_cons (ps_set (i := 2) scNodeR.nd rfl (Or.inl rfl) (pe_callB (Grd.call_repr gd (Grd.u200 hr)) (by rfl) T.n_repr (by decide +kernel) (pa_cons (pe_tup (pa_cons pe_str (pa_cons (pv 0) pa_nil))) pa_nil)))
      (pss_one (ps_ret (pe_and (pe_cmpR op_eq (pe_callB (Grd.call_repr gd (Grd.u200 hr)) (by rfl) T.n_repr (by decide +kernel) (pa_cons (pe_call G_law_read hr7 rfl T.g_law_read T.k_law_read b_law_read .nil pass0 (pa_cons (pv 1) (pa_cons pe_bl (pa_cons pe_bl pa_nil)))) pa_nil)) (pv 2) (nomark _)) (pe_one (pe_cmpR op_eq (pe_callB (Grd.call_repr gd (Grd.u200 hr)) (by rfl) T.n_repr (by decide +kernel) (pa_cons (pe_call G_law_read hr7 rfl T.g_law_read T.k_law_read b_law_read .nil pass0 (pa_cons (pv 1) (pa_cons pe_bl (pa_cons pe_bl pa_nil)))) pa_nil)) (pv 2) (nomark _)))))))))), ?_⟩
    have l2 : 2 ≤ sizeLine := by decide
    have rt := rp_long (plain_tx ho hc)
    have rn := rp_toldN ho hc hg
    refine ⟨_, rfl, v, t, N, rfl, hv, ho, hc, hN, fun H1 s1 => ?_⟩
    refine ⟨_, rfl, _, _, rfl, .str _, rt.ok.1, rt.ok.2.1, rt.ok.2.2.1, rt.ok.2.2.2, ?_⟩
    refine ⟨_, rfl, v, t, N, rfl, hv.up (Bt.same s1), ho, hc, hg, fun H2 s2 => ⟨_, _, rfl, .str _, rt.ok.1, rt.ok.2.1, rt.ok.2.2.1, rt.ok.2.2.2, rfl, _, rfl, ?_⟩⟩
    have s12 := s1.trans s2
    rw [same_text]
    refine iteF ⟨_, rfl, v, t, N, rfl, hv.up (Bt.same s12), ho, hc, trk_up hN s12, fun H3 s3 => ⟨_, rfl, rfl, _, rfl, ?_⟩⟩
    have s13 := s12.trans s3
    rw [same_text]
    refine iteF ⟨_, rfl, l2, fun p hp => ?_⟩
    have s14 := s13.new (o := .tup [.str (Str.ofString "told"), v]) hp
    have dp : Dm K N (upd H3 p (.tup [.str (Str.ofString "told"), v])) (.ref p) (.tuple [.str (Str.ofString "told"), t.dat]) := .tup upd_same (not_new hN s13 hp) (.cons (.str _) (.cons (hv.up (Bt.same s14)) .nil))
    refine ⟨_, _, rfl, dp.dp, rn.ok.1, rn.ok.2.1, rn.ok.2.2.1, rn.ok.2.2.2, ?_⟩
    generalize upd H3 p (.tup [.str (Str.ofString "told"), v]) = H4 at s14 ⊢
    have rd : RdD true (.str t.tx) (.tuple [.str (Str.ofString "told"), t.dat]) := .inr (.inl ⟨rfl, t, rfl, ho, hc, hn, rfl⟩)
    refine ⟨_, rfl, _, .str t.tx, _, F0, true, false, rfl, .str _, rd, fun u5 H5 du5 s5 => ⟨_, _, rfl, du5.dp, rn.ok.1, rn.ok.2.1, rn.ok.2.2.1, rn.ok.2.2.2, ?_⟩⟩
    have s15 := s14.trans s5
    refine ⟨_, rfl, rfl, _, rfl, ?_⟩
    rw [same_textT]
    refine iteT ⟨_, rfl, _, .str t.tx, _, F0, true, true, rfl, .str _, rd, fun u6 H6 du6 s6 => ⟨_, _, rfl, du6.dp, rn.ok.1, rn.ok.2.1, rn.ok.2.2.1, rn.ok.2.2.2, ?_⟩⟩
    refine ⟨_, rfl, rfl, ?_⟩
    rw [same_textT]
    exact k _ (s15.trans s6)
theorem ok_forestR {f : Addr} {fd : FuncData} (F : Fun K "_law_forest_right" "_law_forest_right" sForestR f fd) (T : RightTxt K mg a_law_read a_thing_text a_forest_text a_law_written a_law_row_written)
    (G_law_read : FnOk P w K mg base CX0 7 a_law_read fdR ["value", "node", "named"] (spLRead K)) (b_law_read : Binds K fdR ["value", "node", "named"] [])
    (G_forest_text : FnOk P w K mg base CX0 4 a_forest_text fdX ["forest"] (spForest K)) (b_forest_text : Binds K fdX ["forest"] []) (kb_forest_text : ∀ (s : Shared) (u : Value), BindsTo s fdX ⟨[], [("forest", u)]⟩ [("forest", u)])
    (G_law_row_written : FnOk P w K mg base CX0 122 a_law_row_written fdV ["things"] (spRowW K 60)) (b_law_row_written : Binds K fdV ["things"] []) :
    FnG P w K mg base CX0 123 f fd ["forest"] (spFR K) := by
  refine fng_of F scForestR (fun vs H Q E h => ?_) (fun cdv A outer s H vs Q E gd hr h => ?_)
  · obtain ⟨v, t, N, rfl, _⟩ := h
    rfl
  · obtain ⟨v, t, N, rfl, hv, ho, hc, hg, hN, k⟩ := h
    have hr4 : Room 4 _ := hr.mono (by decide)
    have hr7 : Room 7 _ := hr.mono (by decide)
    refine ⟨_, PSs.nox ((pss_cons (ps_set (i := 1) scForestR.nd rfl (Or.inl rfl) (pe_call G_forest_text hr4 rfl T.g_forest_text T.k_forest_text b_forest_text .nil pass0 (pa_cons (pv 0) pa_nil)))
      (pss_cons (ps_if (PW.pt (pw_or (pt_cmpR op_ne (pe_callB (Grd.call_repr gd (Grd.u200 hr)) (by rfl) T.n_repr (by decide +kernel) (pa_cons (pv 1) pa_nil)) (pe_callB (Grd.call_repr gd (Grd.u200 hr)) (by rfl) T.n_repr (by decide +kernel) (pa_cons (pe_call G_law_row_written hr rfl T.g_law_row_written T.k_law_row_written b_law_row_written .nil pass0 (pa_cons (pv 0) pa_nil)) pa_nil)) (nomark _)) (pw_or1 (pt_cmpR op_ne (pe_kw0 G_forest_text hr4 (by rfl) T.g_forest_text T.k_forest_text kb_forest_text (fun σ => at0 pass0 σ) (by exact (pk_cons (pv 0) pk_nil))) (pv 1) (nomark _)))))
      (pss_one (ps_ret pe_bl))
      pss_nil)
      (pss_cons (ps_set (i := 2) scForestR.nd rfl (Or.inl rfl) (pe_callB (Grd.call_repr gd (Grd.u200 hr)) (by rfl) T.n_repr (by decide +kernel) (pa_cons (pe_tup (pa_cons pe_str (pa_cons (pv 0) pa_nil))) pa_nil)))
      (pss_one (ps_ret (pe_and (pe_cmpR op_eq (pe_callB (Grd.call_repr gd (Grd.u200 hr)) (by rfl) T.n_repr (by decide +kernel) (pa_cons (pe_call G_law_read hr7 rfl T.g_law_read T.k_law_read b_law_read .nil pass0 (pa_cons (pv 1) (pa_cons pe_bl (pa_cons pe_bl pa_nil)))) pa_nil)) (pv 2) (nomark _)) (pe_one (pe_cmpR op_eq (pe_callB (Grd.call_repr gd (Grd.u200 hr)) (by rfl) T.n_repr (by decide +kernel) (pa_cons (pe_call G_law_read hr7 rfl T.g_law_read T.k_law_read b_law_read .nil pass0 (pa_cons (pv 1) (pa_cons pe_bl (pa_cons pe_bl pa_nil)))) pa_nil)) (pv 2) (nomark _)))))))))), ?_⟩
    have l2 : 2 ≤ sizeLine := by decide
    have rt := rp_long (plain_txAll ho hc)
    have rn := rp_toldF ho hc hg
    refine ⟨_, rfl, v, t, N, rfl, hv, ho, hc, hN, fun H1 s1 => ?_⟩
    refine ⟨_, rfl, _, _, rfl, .str _, rt.ok.1, rt.ok.2.1, rt.ok.2.2.1, rt.ok.2.2.2, ?_⟩
    refine ⟨_, rfl, v, t, N, rfl, hv.up (Bt.same s1), ho, hc, hg, fun H2 s2 => ⟨_, _, rfl, .str _, rt.ok.1, rt.ok.2.1, rt.ok.2.2.1, rt.ok.2.2.2, rfl, _, rfl, ?_⟩⟩
    have s12 := s1.trans s2
    rw [same_text]
    refine iteF ⟨_, rfl, v, t, N, rfl, hv.up (Bt.same s12), ho, hc, trk_up hN s12, fun H3 s3 => ⟨_, rfl, rfl, _, rfl, ?_⟩⟩
    have s13 := s12.trans s3
    rw [same_text]
    refine iteF ⟨_, rfl, l2, fun p hp => ?_⟩
    have s14 := s13.new (o := .tup [.str (Str.ofString "told"), v]) hp
    have dp : Dm K N (upd H3 p (.tup [.str (Str.ofString "told"), v])) (.ref p) (.tuple [.str (Str.ofString "told"), .tuple (datAll t)]) := .tup upd_same (not_new hN s13 hp) (.cons (.str _) (.cons (hv.up (Bt.same s14)) .nil))
    refine ⟨_, _, rfl, dp.dp, rn.ok.1, rn.ok.2.1, rn.ok.2.2.1, rn.ok.2.2.2, ?_⟩
    generalize upd H3 p (.tup [.str (Str.ofString "told"), v]) = H4 at s14 ⊢
    have rd : RdD false (.str (txAll t)) (.tuple [.str (Str.ofString "told"), .tuple (datAll t)]) := .inr (.inr ⟨rfl, t, rfl, ho, hc, rfl⟩)
    refine ⟨_, rfl, _, .str (txAll t), _, F0, false, false, rfl, .str _, rd, fun u5 H5 du5 s5 => ⟨_, _, rfl, du5.dp, rn.ok.1, rn.ok.2.1, rn.ok.2.2.1, rn.ok.2.2.2, ?_⟩⟩
    have s15 := s14.trans s5
    refine ⟨_, rfl, rfl, _, rfl, ?_⟩
    rw [same_textT]
    refine iteT ⟨_, rfl, _, .str (txAll t), _, F0, false, true, rfl, .str _, rd, fun u6 H6 du6 s6 => ⟨_, _, rfl, du6.dp, rn.ok.1, rn.ok.2.1, rn.ok.2.2.1, rn.ok.2.2.2, ?_⟩⟩
    refine ⟨_, rfl, rfl, ?_⟩
    rw [same_textT]
    exact k _ (s15.trans s6)
end
end K1

namespace K1
open PySem L2 Xr Exv Grd
def spChain (K : PySem.W.Frag) : Sp := fun vs H Q _ => ∃ (nm : Addr) (ns : List Str) (many : Nat) (v : V) (t : Doc) (N : Addr → Prop), vs = [.ref nm, .int (many : Int), v] ∧ H nm = some (.lst (ns.map V.str)) ∧ (∀ x ∈ ns, nameD (.str x) = true) ∧ 0 < ns.length ∧ ns.length < 1000 ∧ many ≤ 60 ∧ Dm K N H v t.dat ∧ (∀ a, N a → Trk H a) ∧ t.ok ∧
  ∀ (w : V) (u : Doc) (H' : Hp), Dm K N H' w u.dat → u.ok → u.cnt = t.cnt + many → u.hgt ≤ t.hgt + many → (0 < many → ∃ y cs, u = .nod y cs) → Same H H' → Q w H'
structure ChainTxt (K : PySem.W.Frag) (mg : Str → Option Value) : Prop where
  n_range : mg "range" = none
  n_int : mg "int" = none
  n_len : mg "len" = none
section
variable {P : Program} {w : World} {K : PySem.W.Frag} {mg : Str → Option Value} {base : Heap}
theorem ok_chain {f : Addr} {fd : FuncData} (F : Fun K "_law_chain" "_law_chain" sChain f fd) (T : ChainTxt K mg) :
    FnOk P w K mg base CX0 1 f fd ["names", "many", "thing"] (spChain K) := by
  refine F.ok scChain (fun vs H Q E h => ?_) (fun cdv A outer s H vs Q E hr h => ?_)
  · obtain ⟨nm, ns, many, v, t, N, rfl, _⟩ := h
    rfl
  · obtain ⟨nm, ns, many, v, t, N, rfl, hnm, ons, ln0, ln, lm, hv, hN, ho, k⟩ := h
    refine ⟨_, (pss_cons (ps_for PassesOwn.never rfl (pi_range1 (by rfl) T.n_range (pa_cons (pv 1) pa_nil)) (pg_name (i := 3) scChain.nd rfl (Or.inl rfl))
      (pss_one (ps_set (i := 2) scChain.nd rfl (Or.inl rfl) (pe_tup (pa_cons (pe_ix ix_list (pv 0) (pe_op op_mod (pe_callTy call_int1 (by rfl) T.n_int (by decide +kernel) (pa_cons (pv 3) pa_nil)) (pe_callB call_len_seq (by rfl) T.n_len PySem.boot_len (pa_cons (pv 0) pa_nil))) (fun _ _ => rfl)) (pa_cons (pe_tup (pa_cons (pv 2) pa_nil)) pa_nil))))))
      (pss_one (ps_ret (pv 2)))), ?_⟩
    refine ⟨_, rfl, _, rfl, by omega, by omega, ?_⟩
    have em : ((many : Int).toNat) = many := by omega
    refine for_range (lo := 0) (n := (many : Int).toNat) (fun i σ H1 => ∃ (x3 : Option V) (u : V) (d : Doc), σ = [some (.ref nm), some (.int (many : Int)), some u, x3] ∧ Same H H1 ∧ Dm K N H1 u d.dat ∧ d.ok ∧ d.cnt = t.cnt + i ∧ d.hgt ≤ t.hgt + i ∧ (0 < i → ∃ y cs, d = .nod y cs))
      ⟨none, v, t, rfl, Same.refl H, hv, ho, rfl, Nat.le_refl _, fun z => absurd z (by decide)⟩ ?_ ?_
    · rintro i σ H1 hi ⟨x3, u, d, rfl, s1, du, od, cd, gd, _⟩
      have hnm1 := s1 _ _ hnm
      obtain ⟨z, hz⟩ : ∃ z, ns[i % ns.length]? = some z := ⟨_, List.getElem?_eq_getElem (Nat.mod_lt _ ln0)⟩
      have hat : atI (ns.map V.str) ((0 + (i : Int)) % (ns.length : Int)) = some (.str z) := by
        have e : (0 + (i : Int)) % (ns.length : Int) = ((i % ns.length : Nat) : Int) := by
          rw [Int.zero_add]
          exact (Int.natCast_emod i ns.length).symm
        rw [e]
        exact atI_nat (by rw [List.getElem?_map, hz]; rfl)
      have ll : (((ns.map V.str).length : Nat) : Int) = (ns.length : Int) := by rw [List.length_map]
      refine ⟨_, rfl, _, rfl, .inl ⟨_, rfl, _, rfl, nm, _, rfl, .inl (SqL.of hnm1), _, _, rfl, rfl, by rw [ll]; omega, nm, _, _, _, rfl, rfl, SqL.of hnm1, (by rw [ll]; exact hat), ?_⟩⟩
      refine ⟨_, rfl, (by show 1 ≤ sizeLine; decide), fun p1 hp1 => ⟨(by show 2 ≤ sizeLine; decide), fun p2 hp2 => ?_⟩⟩
      have hN1 := trk_up hN s1
      have s2 := s1.new (o := .tup [u]) hp1
      have d1 : Dm K N (upd H1 p1 (.tup [u])) (.ref p1) (.tuple [d.dat]) := .tup upd_same (not_new hN1 (Same.refl H1) hp1) (.cons (du.up (Bt.refl.new hp1)) .nil)
      generalize upd H1 p1 (.tup [u]) = H2 at s2 d1 hp2 ⊢
      have hN2 := trk_up hN s2
      have s3 := s2.new (o := .tup [.str z, .ref p1]) hp2
      have mz : z ∈ ns := List.mem_of_getElem? hz
      refine ⟨_, .ref p2, .nod z [d], rfl, s3, ?_, ⟨ons z mz, od, trivial⟩, ?_, ?_, fun _ => ⟨_, _, rfl⟩⟩
      · exact .tup upd_same (not_new hN2 (Same.refl H2) hp2) (.cons (.str z) (.cons (d1.up (Bt.refl.new hp2)) .nil))
      · show 1 + (d.cnt + 0) = _
        omega
      · show 1 + max d.hgt 0 ≤ _
        omega
    · rintro σ H1 ⟨x3, u, d, rfl, s1, du, od, cd, gd, nd⟩
      rw [em] at cd gd nd
      exact ⟨_, rfl, k u d H1 du od cd gd nd s1⟩
end
end K1

/-! the law -/
namespace K1
open PySem L2 Xr Exv Grd
theorem pick_if {tt : TT} {ta tb : TE} {σ : L2.St} {H : Hp} {Q : VK} (R : V → Hp → Prop) (two : ∀ Q', (∀ v H, R v H → Q' v H) → tIf tt ta tb σ H Q') (cont : ∀ v H, R v H → Q v H) : tIf tt ta tb σ H Q := two Q cont
theorem textD_empty : textD (.str (Str.ofString "")) = true := by decide +kernel
theorem okD_rev : ∀ {ts : List Doc}, okD ts → okD ts.reverse
  | [], _ => trivial
  | t :: ts, h => by
    rw [List.reverse_cons]
    exact (okD_app _ _).mpr ⟨okD_rev h.2, h.1, trivial⟩
theorem cntD_rev : ∀ ts : List Doc, cntD ts.reverse = cntD ts
  | [] => rfl
  | t :: ts => by
    rw [List.reverse_cons, cntD_app, cntD_rev ts]
    show cntD ts + (t.cnt + 0) = t.cnt + cntD ts
    omega
theorem hgtD_rev : ∀ ts : List Doc, hgtD ts.reverse = hgtD ts
  | [] => rfl
  | t :: ts => by
    rw [List.reverse_cons, hgtD_app, hgtD_rev ts]
    show max (hgtD ts) (max t.hgt 0) = max t.hgt (hgtD ts)
    omega
theorem same_te {o t : Doc} (ho : o.ok) (ht : t.ok) : decide (V.str o.tx = V.str t.tx) = PyData.eqv o.dat t.dat := by
  by_cases h : o = t
  · rw [(eqv_doc o t).mpr h, h]
    exact decide_eq_true rfl
  · have n : PyData.eqv o.dat t.dat = false := by
      cases e : PyData.eqv o.dat t.dat with
      | true => exact absurd ((eqv_doc o t).mp e) h
      | false => rfl
    rw [n]
    refine decide_eq_false fun e => h (tx_inj ho ht ?_)
    injection e
abbrev sLaw : Stmt := top 43
theorem scLaw : FnScope ["script", "deal", "names", "turn", "many", "node", "forest", "place", "here", "other", "odd"] ["script"] (defScope sLaw) := ⟨rfl, rfl, rfl, by decide +kernel, rfl, by decide +kernel, by decide +kernel⟩
def spLaw (K : PySem.W.Frag) : Sp := fun vs H Q _ => ∃ (a : Addr) (ns : List Int), vs = [.ref a] ∧ SqL K H a (ns.map V.int) ∧ ns.length ≤ 63 ∧ ∀ H', Q (.bl true) H'
structure LawTxt (K : PySem.W.Frag) (mg : Str → Option Value) (a_law_source a_law_names a_law_any a_law_of a_law_text a_law_grown a_law_places a_law_at a_law_with a_law_written a_law_chain a_law_read a_law_node_right a_law_forest_right a_thing_text : Addr) : Prop where
  n_range : mg "range" = none
  n_repr : mg "repr" = none
  g_law_source : mg "_law_source" = some (.ref a_law_source)
  k_law_source : PySem.W.keepIn K (.ref a_law_source) = true
  g_law_names : mg "_law_names" = some (.ref a_law_names)
  k_law_names : PySem.W.keepIn K (.ref a_law_names) = true
  g_law_any : mg "_law_any" = some (.ref a_law_any)
  k_law_any : PySem.W.keepIn K (.ref a_law_any) = true
  g_law_of : mg "_law_of" = some (.ref a_law_of)
  k_law_of : PySem.W.keepIn K (.ref a_law_of) = true
  g_law_text : mg "_law_text" = some (.ref a_law_text)
  k_law_text : PySem.W.keepIn K (.ref a_law_text) = true
  g_law_grown : mg "_law_grown" = some (.ref a_law_grown)
  k_law_grown : PySem.W.keepIn K (.ref a_law_grown) = true
  g_law_places : mg "_law_places" = some (.ref a_law_places)
  k_law_places : PySem.W.keepIn K (.ref a_law_places) = true
  g_law_at : mg "_law_at" = some (.ref a_law_at)
  k_law_at : PySem.W.keepIn K (.ref a_law_at) = true
  g_law_with : mg "_law_with" = some (.ref a_law_with)
  k_law_with : PySem.W.keepIn K (.ref a_law_with) = true
  g_law_written : mg "_law_written" = some (.ref a_law_written)
  k_law_written : PySem.W.keepIn K (.ref a_law_written) = true
  g_law_chain : mg "_law_chain" = some (.ref a_law_chain)
  k_law_chain : PySem.W.keepIn K (.ref a_law_chain) = true
  g_law_read : mg "_law_read" = some (.ref a_law_read)
  k_law_read : PySem.W.keepIn K (.ref a_law_read) = true
  g_law_node_right : mg "_law_node_right" = some (.ref a_law_node_right)
  k_law_node_right : PySem.W.keepIn K (.ref a_law_node_right) = true
  g_law_forest_right : mg "_law_forest_right" = some (.ref a_law_forest_right)
  k_law_forest_right : PySem.W.keepIn K (.ref a_law_forest_right) = true
  g_thing_text : mg "thing_text" = some (.ref a_thing_text)
  k_thing_text : PySem.W.keepIn K (.ref a_thing_text) = true
section
variable {P : Program} {w : World} {K : PySem.W.Frag} {mg : Str → Option Value} {base : Heap} {a_law_source a_law_names a_law_any a_law_of a_law_text a_law_grown a_law_places a_law_at a_law_with a_law_written a_law_chain a_law_read a_law_node_right a_law_forest_right a_thing_text : Addr} {fd_law_source fd_law_names fd_law_any fd_law_of fd_law_text fd_law_grown fd_law_places fd_law_at fd_law_with fd_law_written fd_law_chain fd_law_read fd_law_node_right fd_law_forest_right fd_thing_text : FuncData}
theorem ok_law {f : Addr} {fd : FuncData} (F : Fun K "law" "law" sLaw f fd) (T : LawTxt K mg a_law_source a_law_names a_law_any a_law_of a_law_text a_law_grown a_law_places a_law_at a_law_with a_law_written a_law_chain a_law_read a_law_node_right a_law_forest_right a_thing_text)
    (G_law_source : FnOk P w K mg base CX0 1 a_law_source fd_law_source ["script"] (spSource K)) (b_law_source : Binds K fd_law_source ["script"] [])
    (G_law_names : FnOk P w K mg base CX0 3 a_law_names fd_law_names ["deal", "many"] (spNames)) (b_law_names : Binds K fd_law_names ["deal", "many"] [])
    (G_law_any : FnOk P w K mg base CX0 1 a_law_any fd_law_any ["deal", "bound"] (spAny)) (b_law_any : Binds K fd_law_any ["deal", "bound"] [])
    (G_law_of : FnOk P w K mg base CX0 2 a_law_of fd_law_of ["deal", "some"] (spOf)) (b_law_of : Binds K fd_law_of ["deal", "some"] [])
    (G_law_text : FnOk P w K mg base CX0 3 a_law_text fd_law_text ["deal"] (spLText)) (b_law_text : Binds K fd_law_text ["deal"] [])
    (G_law_grown : FnOk P w K mg base CX0 (4 + 60) a_law_grown fd_law_grown ["deal", "names", "many", "deep"] (spGrown K 60)) (b_law_grown : Binds K fd_law_grown ["deal", "names", "many", "deep"] [])
    (G_law_places : FnOk P w K mg base CX0 (1 + 30) a_law_places fd_law_places ["thing"] (spPlaces K 30)) (b_law_places : Binds K fd_law_places ["thing"] [])
    (G_law_at : FnOk P w K mg base CX0 1 a_law_at fd_law_at ["thing", "place"] (spLAt K)) (b_law_at : Binds K fd_law_at ["thing", "place"] [])
    (G_law_with : FnOk P w K mg base CX0 (1 + 31) a_law_with fd_law_with ["thing", "place", "new"] (spWith K 31)) (b_law_with : Binds K fd_law_with ["thing", "place", "new"] [])
    (G_law_written : FnOk P w K mg base CX0 121 a_law_written fd_law_written ["thing"] (spWritten K 60)) (b_law_written : Binds K fd_law_written ["thing"] [])
    (G_law_chain : FnOk P w K mg base CX0 1 a_law_chain fd_law_chain ["names", "many", "thing"] (spChain K)) (b_law_chain : Binds K fd_law_chain ["names", "many", "thing"] [])
    (G_law_read : FnOk P w K mg base CX0 7 a_law_read fd_law_read ["value", "node", "named"] (spLRead K)) (b_law_read : Binds K fd_law_read ["value", "node", "named"] [])
    (G_law_node_right : FnG P w K mg base CX0 123 a_law_node_right fd_law_node_right ["node"] (spNR K)) (b_law_node_right : Binds K fd_law_node_right ["node"] [])
    (G_law_forest_right : FnG P w K mg base CX0 123 a_law_forest_right fd_law_forest_right ["forest"] (spFR K)) (b_law_forest_right : Binds K fd_law_forest_right ["forest"] [])
    (G_thing_text : FnOk P w K mg base CX0 3 a_thing_text fd_thing_text ["thing"] (spText1 K)) (b_thing_text : Binds K fd_thing_text ["thing"] []) :
    FnG P w K mg base CX0 124 f fd ["script"] (spLaw K) := by
  refine fng_of F scLaw (fun vs H Q E h => ?_) (fun cdv A outer s H vs Q E gd hr h => ?_)
  · obtain ⟨a, ns, rfl, _⟩ := h
    rfl
  · obtain ⟨a, ns, rfl, hS, l, k⟩ := h
    have hr_law_source : Room 1 _ := hr.mono (by decide)
    have hr_law_names : Room 3 _ := hr.mono (by decide)
    have hr_law_any : Room 1 _ := hr.mono (by decide)
    have hr_law_of : Room 2 _ := hr.mono (by decide)
    have hr_law_text : Room 3 _ := hr.mono (by decide)
    have hr_law_grown : Room (4 + 60) _ := hr.mono (by decide)
    have hr_law_places : Room (1 + 30) _ := hr.mono (by decide)
    have hr_law_at : Room 1 _ := hr.mono (by decide)
    have hr_law_with : Room (1 + 31) _ := hr.mono (by decide)
    have hr_law_written : Room 121 _ := hr.mono (by decide)
    have hr_law_chain : Room 1 _ := hr.mono (by decide)
    have hr_law_read : Room 7 _ := hr.mono (by decide)
    have hr_law_node_right : Room 123 _ := hr.mono (by decide)
    have hr_law_forest_right : Room 123 _ := hr.mono (by decide)
    have hr_thing_text : Room 3 _ := hr.mono (by decide)
    refine ⟨_, PSs.nox ((pss_cons (ps_set (i := 1) scLaw.nd rfl (Or.inl rfl) (pe_call G_law_source hr_law_source rfl T.g_law_source T.k_law_source b_law_source .nil pass0 (pa_cons (pv 0) pa_nil)))
      (pss_cons (ps_set (i := 2) scLaw.nd rfl (Or.inl rfl) (pe_call G_law_names hr_law_names rfl T.g_law_names T.k_law_names b_law_names .nil pass0 (pa_cons (pv 1) (pa_cons (pe_op op_add pe_int (pe_call G_law_any hr_law_any rfl T.g_law_any T.k_law_any b_law_any .nil pass0 (pa_cons (pv 1) (pa_cons pe_int pa_nil)))) pa_nil))))
      (pss_cons (ps_for PassesOwn.never rfl (pi_range1 (by rfl) T.n_range (pa_cons pe_int pa_nil)) (pg_name (i := 3) scLaw.nd rfl (Or.inl rfl))
      (pss_cons (ps_set (i := 4) scLaw.nd rfl (Or.inl rfl) (pe_op op_add pe_int (pe_call G_law_of hr_law_of rfl T.g_law_of T.k_law_of b_law_of .nil pass0 (pa_cons (pv 1) (pa_cons (pe_lst (pa_cons (pe_call G_law_any hr_law_any rfl T.g_law_any T.k_law_any b_law_any .nil pass0 (pa_cons (pv 1) (pa_cons pe_int pa_nil))) (pa_cons (pe_call G_law_any hr_law_any rfl T.g_law_any T.k_law_any b_law_any .nil pass0 (pa_cons (pv 1) (pa_cons pe_int pa_nil))) (pa_cons (pe_call G_law_any hr_law_any rfl T.g_law_any T.k_law_any b_law_any .nil pass0 (pa_cons (pv 1) (pa_cons pe_int pa_nil))) pa_nil)))) pa_nil)))))
      (pss_cons (ps_set (i := 5) scLaw.nd rfl (Or.inl rfl) (pe_call G_law_grown hr_law_grown rfl T.g_law_grown T.k_law_grown b_law_grown .nil pass0 (pa_cons (pv 1) (pa_cons (pv 2) (pa_cons (pv 4) (pa_cons (pe_call G_law_of hr_law_of rfl T.g_law_of T.k_law_of b_law_of .nil pass0 (pa_cons (pv 1) (pa_cons (pe_lst (pa_cons pe_int (pa_cons pe_int (pa_cons pe_int pa_nil)))) pa_nil))) pa_nil))))))
      (pss_cons (ps_set (i := 6) scLaw.nd rfl (Or.inl rfl) (pe_call G_law_of hr_law_of rfl T.g_law_of T.k_law_of b_law_of .nil pass0 (pa_cons (pv 1) (pa_cons (pe_lst (pa_cons (pe_ix ix_tup (pv 5) pe_int (fun _ _ => rfl)) (pa_cons (pe_tup pa_nil) (pa_cons (pe_tup (pa_cons pe_str pa_nil)) (pa_cons (pe_tup (pa_cons (pe_call G_law_text hr_law_text rfl T.g_law_text T.k_law_text b_law_text .nil pass0 (pa_cons (pv 1) pa_nil)) (pa_cons (pv 5) (pa_cons (pe_call G_law_text hr_law_text rfl T.g_law_text T.k_law_text b_law_text .nil pass0 (pa_cons (pv 1) pa_nil)) pa_nil)))) (pa_cons (pe_tup (pa_cons (pv 5) pa_nil)) (pa_cons (pe_revT (pe_ix ix_tup (pv 5) pe_int (fun _ _ => rfl))) pa_nil))))))) pa_nil))))
      (pss_cons (ps_if (PW.pt (pw_or (pt_not (pt_val (pe_callG G_law_node_right gd hr_law_node_right rfl T.g_law_node_right T.k_law_node_right b_law_node_right pass0 (pa_cons (pv 5) pa_nil)))) (pw_or1 (pt_not (pt_val (pe_callG G_law_forest_right gd hr_law_forest_right rfl T.g_law_forest_right T.k_law_forest_right b_law_forest_right pass0 (pa_cons (pv 6) pa_nil)))))))
      (pss_one (ps_ret pe_bl))
      pss_nil)
      (pss_cons (ps_set (i := 7) scLaw.nd rfl (Or.inl rfl) (pe_call G_law_of hr_law_of rfl T.g_law_of T.k_law_of b_law_of .nil pass0 (pa_cons (pv 1) (pa_cons (pe_call G_law_places hr_law_places rfl T.g_law_places T.k_law_places b_law_places .nil pass0 (pa_cons (pv 5) pa_nil)) pa_nil))))
      (pss_cons (ps_set (i := 8) scLaw.nd rfl (Or.inl rfl) (pe_call G_law_at hr_law_at rfl T.g_law_at T.k_law_at b_law_at .nil pass0 (pa_cons (pv 5) (pa_cons (pv 7) pa_nil))))
      (pss_cons (ps_set (i := 9) scLaw.nd rfl (Or.inl rfl) (pe_call G_law_with hr_law_with rfl T.g_law_with T.k_law_with b_law_with .nil pass0 (pa_cons (pv 5) (pa_cons (pv 7) (pa_cons (pe_ifExp (pt_cmpR (op_neD hr.units) (pv 7) (pe_tup pa_nil) (nomark _)) (pe_call G_law_of hr_law_of rfl T.g_law_of T.k_law_of b_law_of .nil pass0 (pa_cons (pv 1) (pa_cons (pe_lst (pa_cons pe_str (pa_cons (pe_tup (pa_cons (pe_ix ix_list (pv 2) pe_int (fun _ _ => rfl)) (pa_cons (pe_tup pa_nil) pa_nil))) pa_nil))) pa_nil))) (pe_tup (pa_cons (pe_ix ix_list (pv 2) pe_int (fun _ _ => rfl)) (pa_cons (pe_tup (pa_cons pe_str pa_nil)) pa_nil)))) pa_nil)))))
      (pss_cons (ps_if (PW.pt (pw_or (pt_cmpR op_ne (pe_cmpR op_eq (pe_call G_thing_text hr_thing_text rfl T.g_thing_text T.k_thing_text b_thing_text .nil pass0 (pa_cons (pv 9) pa_nil)) (pe_call G_thing_text hr_thing_text rfl T.g_thing_text T.k_thing_text b_thing_text .nil pass0 (pa_cons (pv 5) pa_nil)) (nomark _)) (pe_cmpR (op_eqD hr.units) (pv 9) (pv 5) (nomark _)) (nomark _)) (pw_or1 (pt_not (pt_val (pe_callG G_law_node_right gd hr_law_node_right rfl T.g_law_node_right T.k_law_node_right b_law_node_right pass0 (pa_cons (pv 9) pa_nil)))))))
      (pss_one (ps_ret pe_bl))
      pss_nil)
      (pss_one (ps_if (PW.pt (pw_or (pt_cmpR op_ne (pe_callB (Grd.call_repr gd (Grd.u200 hr)) (by rfl) T.n_repr (by decide +kernel) (pa_cons (pe_call G_thing_text hr_thing_text rfl T.g_thing_text T.k_thing_text b_thing_text .nil pass0 (pa_cons (pv 8) pa_nil)) pa_nil)) (pe_callB (Grd.call_repr gd (Grd.u200 hr)) (by rfl) T.n_repr (by decide +kernel) (pa_cons (pe_call G_law_written hr_law_written rfl T.g_law_written T.k_law_written b_law_written .nil pass0 (pa_cons (pv 8) pa_nil)) pa_nil)) (nomark _)) (pw_or1 (pt_not (pt_val (pe_callG G_law_forest_right gd hr_law_forest_right rfl T.g_law_forest_right T.k_law_forest_right b_law_forest_right pass0 (pa_cons (pe_tup (pa_cons (pv 8) pa_nil)) pa_nil)))))))
      (pss_one (ps_ret pe_bl))
      pss_nil)))))))))))
      (pss_cons (ps_if (pt_not (pt_val (pe_callG G_law_node_right gd hr_law_node_right rfl T.g_law_node_right T.k_law_node_right b_law_node_right pass0 (pa_cons (pe_call G_law_chain hr_law_chain rfl T.g_law_chain T.k_law_chain b_law_chain .nil pass0 (pa_cons (pv 2) (pa_cons (pe_op op_add pe_int (pe_call G_law_any hr_law_any rfl T.g_law_any T.k_law_any b_law_any .nil pass0 (pa_cons (pv 1) (pa_cons pe_int pa_nil)))) (pa_cons (pe_call G_law_of hr_law_of rfl T.g_law_of T.k_law_of b_law_of .nil pass0 (pa_cons (pv 1) (pa_cons (pe_lst (pa_cons (pe_call G_law_text hr_law_text rfl T.g_law_text T.k_law_text b_law_text .nil pass0 (pa_cons (pv 1) pa_nil)) (pa_cons (pe_tup (pa_cons (pe_ix ix_list (pv 2) pe_int (fun _ _ => rfl)) (pa_cons (pe_tup pa_nil) pa_nil))) pa_nil))) pa_nil))) pa_nil)))) pa_nil))))
      (pss_one (ps_ret pe_bl))
      pss_nil)
      (pss_cons (ps_set (i := 10) scLaw.nd rfl (Or.inl rfl) (pe_call G_law_of hr_law_of rfl T.g_law_of T.k_law_of b_law_of .nil pass0 (pa_cons (pv 1) (pa_cons (pe_lst (pa_cons pe_non (pa_cons pe_int (pa_cons pe_bl (pa_cons (pv 5) (pa_cons (pv 6) (pa_cons (pe_lst pa_nil) (pa_cons (pe_lst (pa_cons pe_str pa_nil)) (pa_cons (pe_tup pa_nil) pa_nil))))))))) pa_nil))))
      (pss_one (ps_ret (pe_cmpR (op_eqD hr.units) (pe_lst (pa_cons (pe_call G_law_read hr_law_read rfl T.g_law_read T.k_law_read b_law_read .nil pass0 (pa_cons (pv 10) (pa_cons pe_bl (pa_cons pe_bl pa_nil)))) (pa_cons (pe_call G_law_read hr_law_read rfl T.g_law_read T.k_law_read b_law_read .nil pass0 (pa_cons (pv 10) (pa_cons pe_bl (pa_cons pe_bl pa_nil)))) pa_nil))) (pe_lst (pa_cons (pe_tup (pa_cons pe_str (pa_cons (pe_un un_neg pe_int) pa_nil))) (pa_cons (pe_tup (pa_cons pe_str (pa_cons (pe_un un_neg pe_int) pa_nil))) pa_nil))) (nomark _)))))))))), ?_⟩
    refine ⟨_, rfl, a, ns, rfl, hS, l, fun d c H1 D1 s1 _ _ => ?_⟩
    -- names
    refine ⟨_, rfl, _, rfl, d, c, 5, rfl, D1, by decide, by decide, fun r1 H3 r10 r11 D3 b3 => ?_⟩
    obtain ⟨j1, rfl⟩ := Int.eq_ofNat_of_zero_le r10
    refine ⟨_, _, rfl, rfl, d, c, 1 + j1, rfl, D3, by omega, by omega, fun nm nms H4 hnm hnm0 lnm onm D4 b4 => ?_⟩
    obtain ⟨nd, nc⟩ := D3.ne hnm0
    obtain ⟨n0, hn0⟩ : ∃ n0, nms[0]? = some n0 := ⟨_, List.getElem?_eq_getElem (by omega)⟩
    have onn := onm n0 (List.mem_of_getElem? hn0)
    have an0 : atI (nms.map V.str) 0 = some (.str n0) := atI_nat (j := 0) (by rw [List.getElem?_map, hn0]; rfl)
    have l0 : 0 ≤ sizeLine := by decide
    have l1 : 1 ≤ sizeLine := by decide
    have l2 : 2 ≤ sizeLine := by decide
    have l3 : 3 ≤ sizeLine := by decide
    have l6 : 6 ≤ sizeLine := by decide
    have l8 : 8 ≤ sizeLine := by decide
    clear b3 b4 D3 D1
    refine ⟨3, rfl, by decide, by decide, ?_⟩
    refine for_range (lo := 0) (n := 3) (fun i σ H2 => ∃ (x3 x4 x5 x6 x7 x8 x9 : Option V), σ = [some (.ref a), some (.ref d), some (.ref nm), x3, x4, x5, x6, x7, x8, x9, none] ∧ DealAt H2 d c ∧ H2 nm = some (.lst (nms.map V.str)) ∧ (0 < i → ∃ nv fv x xs fs, x5 = some nv ∧ x6 = some fv ∧ Dm K (N0 d c) H2 nv (Doc.nod x xs).dat ∧ Dm K (N0 d c) H2 fv (.tuple (datAll fs))))
      ⟨none, none, none, none, none, none, none, rfl, D4, hnm, fun z => absurd z (by decide)⟩ ?_ ?_
    · rintro i σ H5 _ ⟨x3, x4, x5, x6, x7, x8, x9, rfl, D5, hnm5, _⟩
      -- many
      refine ⟨_, rfl, _, rfl, d, c, 4, rfl, D5, by decide, by decide, fun q1 H6 q10 q11 D6 b6 => ⟨_, rfl, d, c, 12, rfl, D6, by decide, by decide, fun q2 H7 q20 q21 D7 b7 => ⟨_, rfl, d, c, 58, rfl, D7, by decide, by decide, fun q3 H8 q30 q31 D8 b8 => ⟨l3, fun L hL => ?_⟩⟩⟩⟩
      have m8 : Mv d c H5 H8 := ⟨D8, (b6.trans b7).trans b8⟩
      have m8' := m8.new (o := .lst [.int q1, .int q2, .int q3]) hL
      obtain ⟨Ld, Lc⟩ := D8.ne hL
      refine ⟨d, c, m8'.D, .inl ⟨L, _, rfl, upd_same, Ld, Lc, (by show 0 < 3; decide), (by show 3 < 1000000; decide), fun v H9 hv D9 b9 => ?_⟩⟩
      obtain ⟨j2, rfl, lj2⟩ : ∃ j2 : Nat, v = .int (j2 : Int) ∧ j2 < 58 := by
        have mk : ∀ q : Int, 0 ≤ q → q < 58 → ∃ j2 : Nat, V.int q = .int (j2 : Int) ∧ j2 < 58 := fun q a b => by
          obtain ⟨j, rfl⟩ := Int.eq_ofNat_of_zero_le a
          exact ⟨j, rfl, by omega⟩
        simp only [List.mem_cons, List.not_mem_nil, or_false] at hv
        rcases hv with e | e | e <;> rw [e]
        · exact mk q1 q10 (by omega)
        · exact mk q2 q20 (by omega)
        · exact mk q3 q30 q31
      have m9 := m8'.trans ⟨D9, b9⟩
      have hnm9 := m9.b nm _ hnm5 nd nc
      clear b6 b7 b8 b9 m8 m8' D6 D7 D8 hv
      refine ⟨_, _, rfl, rfl, ?_⟩
      -- node
      refine ⟨_, rfl, _, rfl, _, rfl, _, rfl, l3, fun L2 hL2 => ?_⟩
      obtain ⟨L2d, L2c⟩ := D9.ne hL2
      have m10 := (Mv.refl D9).new (o := .lst [.int 2, .int 4, .int 29]) hL2
      refine ⟨d, c, m10.D, .inl ⟨L2, _, rfl, upd_same, L2d, L2c, (by show 0 < 3; decide), (by show 3 < 1000000; decide), fun v H10 hv D10 b10 => ?_⟩⟩
      obtain ⟨deep, rfl, dp0, dp1⟩ : ∃ deep : Int, v = .int deep ∧ 1 ≤ deep ∧ deep ≤ 29 := by
        simp only [List.mem_cons, List.not_mem_nil, or_false] at hv
        rcases hv with e | e | e
        · exact ⟨_, e, by decide, by decide⟩
        · exact ⟨_, e, by decide, by decide⟩
        · exact ⟨_, e, by decide, by decide⟩
      have hnm10 := (m10.trans ⟨D10, b10⟩).b nm _ hnm9 nd nc
      refine ⟨d, c, nm, nms, 1 + j2, deep, rfl, D10, hnm10, nd, nc, onm, by omega, by omega, by omega, by omega, by omega, dp0, fun nv na nk nx nts H11 okn cntn hgtn dmn D11 b11 => ?_⟩
      have hnm11 := b11 nm _ hnm10 nd nc
      obtain ⟨f1, f2, f3⟩ := AT.facts (AT.nod na nk nx nts)
      have okt := f3 okn
      have dn : Dm K (N0 d c) H11 nv (AT.nod na nk nx nts).doc.dat := Dm.mono (fun a _ z => by
        rcases z with e | e
        · rw [e]
          exact D10.trk.1
        · rw [e]
          exact D10.trk.2) Bt.refl _ _ dmn
      have ed : (AT.nod na nk nx nts).doc = .nod nx (docAll nts) := rfl
      rw [ed] at dn f1 f2 okt
      generalize docAll nts = ts at dn f1 f2 okt
      have cn : (Doc.nod nx ts).cnt ≤ 58 := by omega
      have gn : (Doc.nod nx ts).hgt ≤ 29 := by omega
      clear f3 dmn okn cntn hgtn f1 f2 ed b10 b11 m10 hnm10 hnm9 D10 hv
      have cts : 1 + cntD ts ≤ 58 := cn
      have gts : 1 + hgtD ts ≤ 29 := gn
      have lts := cntD_len ts
      obtain ⟨na1, y1, rfl, tn, dy1⟩ := dn.nod
      -- forest
      refine ⟨_, rfl, _, rfl, _, _, _, _, rfl, rfl, tn.sq, atI_nat (j := 1) rfl, l0, fun p1 hp1 => ⟨l1, fun p2 hp2 => ?_⟩⟩
      have t0 := (Mv.refl D11).trk
      have mA := (Mv.refl D11).new (o := .tup []) hp1
      have dA : Dm K (N0 d c) (upd H11 p1 (.tup [])) (.ref p1) (.tuple (datAll [])) := .tup upd_same (not_new t0 (Same.refl H11) hp1) .nil
      generalize upd H11 p1 (.tup []) = H12 at mA dA hp2 ⊢
      have mB := mA.new (o := .tup [.str (Str.ofString "")]) hp2
      have dB : Dm K (N0 d c) (upd H12 p2 (.tup [.str (Str.ofString "")])) (.ref p2) (.tuple (datAll [Doc.txt (Str.ofString "")])) := .tup upd_same (not_new mA.trk (Same.refl H12) hp2) (.cons (.str _) .nil)
      have dA2 := dA.up (Bt.refl.new (o := .tup [.str (Str.ofString "")]) hp2)
      generalize upd H12 p2 (.tup [.str (Str.ofString "")]) = H13 at mB dB dA2 ⊢
      refine ⟨_, rfl, d, c, rfl, mB.D, fun z1 H14 hz1 D14 b14 => ⟨_, rfl, _, rfl, d, c, rfl, D14, fun z2 H15 hz2 D15 b15 => ⟨l3, fun p3 hp3 => ?_⟩⟩⟩
      have mC0 : Mv d c H13 H15 := ⟨D15, b14.trans b15⟩
      have mC := mC0.new (o := .tup [.str z1, .ref na1, .str z2]) hp3
      have dC : Dm K (N0 d c) (upd H15 p3 (.tup [.str z1, .ref na1, .str z2])) (.ref p3) (.tuple (datAll [Doc.txt z1, Doc.nod nx ts, Doc.txt z2])) := .tup upd_same (not_new mC0.trk (Same.refl H15) hp3) (.cons (.str _) (.cons (dn.mv (mB.trans mC)) (.cons (.str _) .nil)))
      have mD := mB.trans mC
      have dA3 := dA2.mv mC
      have dB3 := dB.mv mC
      generalize upd H15 p3 (.tup [.str z1, .ref na1, .str z2]) = H16 at mD dC dA3 dB3 ⊢
      refine ⟨_, rfl, l1, fun p4 hp4 => ?_⟩
      have mE0 := (Mv.refl mD.D).new (o := .tup [.ref na1]) hp4
      have dE : Dm K (N0 d c) (upd H16 p4 (.tup [.ref na1])) (.ref p4) (.tuple (datAll [Doc.nod nx ts])) := .tup upd_same (not_new mD.trk (Same.refl H16) hp4) (.cons (dn.mv (mD.trans mE0)) .nil)
      have dA4 := dA3.mv mE0
      have dB4 := dB3.mv mE0
      have dC4 := dC.mv mE0
      have mE := mD.trans mE0
      generalize upd H16 p4 (.tup [.ref na1]) = H17 at mE dE dA4 dB4 dC4 ⊢
      obtain ⟨ya, ys, rfl, ty, aly⟩ := dy1.seq
      have tnE := (tn.up mE.b.bt).sq
      refine ⟨_, rfl, _, _, _, _, rfl, rfl, tnE, atI_nat (j := 1) rfl, ya, ys, rfl, (ty.up mE.b.bt).sq, fun p5 hp5 => ⟨l6, fun L3 hL3 => ?_⟩⟩
      have mF0 := (Mv.refl mE.D).new (o := .tup ys.reverse) hp5
      have dF : Dm K (N0 d c) (upd H17 p5 (.tup ys.reverse)) (.ref p5) (.tuple (datAll ts.reverse)) := by
        rw [datAll_rev]
        exact .tup upd_same (not_new mE.trk (Same.refl H17) hp5) ((aly.up (mE.trans mF0).b.bt).rev)
      have dA5 := dA4.mv mF0
      have dB5 := dB4.mv mF0
      have dC5 := dC4.mv mF0
      have dE5 := dE.mv mF0
      have mF := mE.trans mF0
      generalize upd H17 p5 (.tup ys.reverse) = H18 at mF dF dA5 dB5 dC5 dE5 hL3 ⊢
      have mG0 := (Mv.refl mF.D).new (o := .lst [.ref ya, .ref p1, .ref p2, .ref p3, .ref p4, .ref p5]) hL3
      have dL : Dm K (N0 d c) (upd H18 L3 (.lst [.ref ya, .ref p1, .ref p2, .ref p3, .ref p4, .ref p5])) (.ref L3) (.list [.tuple (datAll ts), .tuple (datAll []), .tuple (datAll [Doc.txt (Str.ofString "")]), .tuple (datAll [Doc.txt z1, Doc.nod nx ts, Doc.txt z2]), .tuple (datAll [Doc.nod nx ts]), .tuple (datAll ts.reverse)]) :=
        .lst upd_same (not_new mF.trk (Same.refl H18) hL3) (.cons (dy1.mv (mF.trans mG0)) (.cons (dA5.mv mG0) (.cons (dB5.mv mG0) (.cons (dC5.mv mG0) (.cons (dE5.mv mG0) (.cons (dF.mv mG0) .nil))))))
      have mG := mF.trans mG0
      generalize upd H18 L3 (.lst [.ref ya, .ref p1, .ref p2, .ref p3, .ref p4, .ref p5]) = H19 at mG dL ⊢
      refine of_data (E := E0) mG.D dL (by show 0 < 6; decide) (by show 6 < 1000000; decide) fun fv fx H20 hf df mf => ?_
      have okT : okD ts := okt.2
      obtain ⟨fs, rfl, ofs, cfs, gfs⟩ : ∃ fs, fx = .tuple (datAll fs) ∧ okD fs ∧ cntD fs ≤ 100 ∧ hgtD fs ≤ 29 := by
        simp only [List.mem_cons, List.not_mem_nil, or_false] at hf
        rcases hf with e | e | e | e | e | e
        · exact ⟨_, e, okT, by omega, by omega⟩
        · exact ⟨_, e, trivial, by decide, by decide⟩
        · exact ⟨_, e, ⟨textD_empty, trivial⟩, by decide, by decide⟩
        · refine ⟨_, e, ⟨hz1, okt, hz2, trivial⟩, ?_, ?_⟩
          · show 1 + ((Doc.nod nx ts).cnt + (1 + 0)) ≤ 100
            omega
          · show max 0 (max (Doc.nod nx ts).hgt (max 0 0)) ≤ 29
            omega
        · refine ⟨_, e, ⟨okt, trivial⟩, ?_, ?_⟩
          · show (Doc.nod nx ts).cnt + 0 ≤ 100
            omega
          · show max (Doc.nod nx ts).hgt 0 ≤ 29
            omega
        · refine ⟨_, e, okD_rev okT, ?_, ?_⟩
          · rw [cntD_rev]
            omega
          · rw [hgtD_rev]
            omega
      have m20 := mG.trans mf
      have dn20 := dn.mv m20
      have hnm20 := m20.b nm _ hnm11 nd nc
      clear dL dF dA dA2 dA3 dA4 dA5 dB dB3 dB4 dB5 dC dC4 dC5 dE dE5 mA mB mC mC0 mD mE mE0 mF mF0 mG mG0 mf hf tnE ty aly dy1 tn dn hnm11 b14 b15 t0
      have D20 := m20.D
      clear m20 D14 D15 D11
      generalize V.ref na1 = nv at dn20 ⊢
      -- node and forest
      refine ⟨_, rfl, nv, _, N0 d c, rfl, dn20, okt, ⟨_, _, rfl⟩, by omega, by omega, (Mv.refl D20).trk, fun H21 s21 => ⟨_, rfl, iteF ?_⟩⟩
      have m21 := (Mv.refl D20).same s21
      refine ⟨_, rfl, fv, fs, N0 d c, rfl, df.mv m21, ofs, by omega, by omega, m21.trk, fun H22 s22 => ⟨_, rfl, iteF ?_⟩⟩
      have m22 := m21.same s22
      -- place
      refine ⟨_, rfl, _, rfl, nv, _, N0 d c, rfl, dn20.mv m22, by omega, by omega, m22.trk, fun u H23 du s23 => ?_⟩
      have m23 := m22.same s23
      have lp : ((Doc.nod nx ts).pls.map plD).length = (Doc.nod nx ts).cnt := by rw [List.length_map, pls_len]
      refine of_data (E := E0) m23.D du (by rw [lp]; show 0 < 1 + cntD ts; omega) (by rw [lp]; omega) fun pv px H24 hp dp mp => ?_
      obtain ⟨p, hp', rfl⟩ := List.mem_map.mp hp
      obtain ⟨q, hq⟩ := pls_at _ p hp'
      obtain ⟨oq, cq, gq, lq⟩ := at_ok p _ q okt hq
      have m24 := m23.trans mp
      have gq' : (if q.hgt = 0 then 1 else 0) ≤ 1 := by split <;> decide
      have lp30 : p.length ≤ 30 := by omega
      have gq2 : q.hgt ≤ 30 := by omega
      -- here
      refine ⟨_, rfl, _, rfl, nv, pv, _, q, p, N0 d c, rfl, dn20.mv m24, dp, hq, fun hv dh => ?_⟩
      -- other
      refine ⟨_, rfl, _, rfl, pick_if (fun v H' => ∃ m : Doc, Mv d c H24 H' ∧ Dm K (N0 d c) H' v m.dat ∧ m.ok ∧ m.cnt ≤ 2 ∧ m.hgt ≤ 1 ∧ (p = [] → ∃ y cs, m = .nod y cs)) (fun Q' k' => ?_) fun mv H25 ⟨m, m25, dm, om, cm, gm, nm0⟩ => ?_⟩
      · refine ⟨_, rfl, l0, fun p0 hp0 => ?_⟩
        have mm := (Mv.refl m24.D).new (o := .tup []) hp0
        refine ⟨_, _, (dp.mv mm).dp, .tup (SqT.of upd_same) .nil, (vd_pl p).shaped (by decide), rfl, _, rfl, ?_⟩
        generalize upd H24 p0 (.tup []) = H25 at mm ⊢
        have eqe : PyData.eqv (plD p) (.tuple []) = p.isEmpty := by cases p <;> rfl
        rw [eqe]
        have hnm25 := (m24.trans mm).b nm _ hnm20 nd nc
        cases p with
        | nil =>
          refine iteF ⟨_, rfl, nm, _, _, _, rfl, rfl, SqL.of hnm25, an0, l1, fun p1 hp1 => ⟨l2, fun p2 hp2 => ?_⟩⟩
          have mm1 := mm.new (o := .tup [.str (Str.ofString "")]) hp1
          have d1 : Dm K (N0 d c) (upd H25 p1 (.tup [.str (Str.ofString "")])) (.ref p1) (.tuple (datAll [Doc.txt (Str.ofString "")])) := .tup upd_same (not_new mm.trk (Same.refl H25) hp1) (.cons (.str _) .nil)
          generalize upd H25 p1 (.tup [.str (Str.ofString "")]) = H26 at mm1 d1 hp2 ⊢
          refine k' _ _ ⟨.nod n0 [.txt (Str.ofString "")], mm1.new hp2, ?_, ⟨onn, textD_empty, trivial⟩, (by show 1 + (1 + 0) ≤ 2; decide), (by show 1 + max 0 0 ≤ 1; decide), fun _ => ⟨_, _, rfl⟩⟩
          exact .tup upd_same (not_new mm1.trk (Same.refl H26) hp2) (.cons (.str _) (.cons (d1.up (Bt.refl.new hp2)) .nil))
        | cons i0 p =>
          refine iteT ⟨_, rfl, _, rfl, nm, _, _, _, rfl, rfl, SqL.of hnm25, an0, l0, fun p1 hp1 => ⟨l2, fun p2 hp2 => ⟨l2, fun L hL => ?_⟩⟩⟩
          have mm1 := mm.new (o := .tup []) hp1
          have d1 : Dm K (N0 d c) (upd H25 p1 (.tup [])) (.ref p1) (.tuple (datAll [])) := .tup upd_same (not_new mm.trk (Same.refl H25) hp1) .nil
          generalize upd H25 p1 (.tup []) = H26 at mm1 d1 hp2 hL ⊢
          have mm2 := mm1.new (o := .tup [.str n0, .ref p1]) hp2
          have d2 : Dm K (N0 d c) (upd H26 p2 (.tup [.str n0, .ref p1])) (.ref p2) (Doc.nod n0 []).dat := .tup upd_same (not_new mm1.trk (Same.refl H26) hp2) (.cons (.str _) (.cons (d1.up (Bt.refl.new hp2)) .nil))
          generalize upd H26 p2 (.tup [.str n0, .ref p1]) = H27 at mm2 d2 hL ⊢
          have mm3 := mm2.new (o := .lst [.str (Str.ofString ""), .ref p2]) hL
          have d3 : Dm K (N0 d c) (upd H27 L (.lst [.str (Str.ofString ""), .ref p2])) (.ref L) (.list [(Doc.txt (Str.ofString "")).dat, (Doc.nod n0 []).dat]) := .lst upd_same (not_new mm2.trk (Same.refl H27) hL) (.cons (.str _) (.cons (d2.up (Bt.refl.new hL)) .nil))
          generalize upd H27 L (.lst [.str (Str.ofString ""), .ref p2]) = H28 at mm3 d3 ⊢
          refine of_data (E := E0) mm3.D d3 (by show 0 < 2; decide) (by show 2 < 1000000; decide) fun v x H29 hx dx mx => ?_
          simp only [List.mem_cons, List.not_mem_nil, or_false] at hx
          rcases hx with e | e <;> subst e
          · exact k' _ _ ⟨.txt (Str.ofString ""), mm3.trans mx, dx, textD_empty, by decide, by decide, fun z => nomatch z⟩
          · exact k' _ _ ⟨.nod n0 [], mm3.trans mx, dx, ⟨onn, trivial⟩, (by show 1 + 0 ≤ 2; decide), (by show 1 + 0 ≤ 1; decide), fun z => nomatch z⟩
      obtain ⟨oo, co, go, no⟩ := with_facts p _ q m okt hq om
      have m25' := m24.trans m25
      refine ⟨nv, pv, mv, _, q, m, p, N0 d c, rfl, dn20.mv m25', dp.mv m25, dm, hq, by omega, by omega, by omega, m25'.trk, fun ov H26 dov s26 => ?_⟩
      have m26 := m25'.same s26
      have nox : ∃ y cs, (Doc.nod nx ts).with_ p m = .nod y cs := by
        cases p with
        | nil => exact nm0 rfl
        | cons i0 p => exact no (by simp)
      generalize (Doc.nod nx ts).with_ p m = o at oo co go dov nox
      have go31 : o.hgt ≤ 31 := by omega
      have co60 : o.cnt ≤ 60 := by omega
      clear no nm0
      refine ⟨_, rfl, ov, o, N0 d c, rfl, dov, oo, by omega, m26.trk, fun H27 s27 => ?_⟩
      have m27 := m26.same s27
      refine ⟨_, rfl, nv, _, N0 d c, rfl, dn20.mv m27, okt, by omega, m27.trk, fun H28 s28 => ?_⟩
      have m28 := m27.same s28
      have s26_28 := s27.trans s28
      have v1 := (Doc.data o oo).1.mono (m' := 62) (by omega)
      have v2 := (Doc.data _ okt).1.mono (m' := 62) (by omega)
      refine ⟨rfl, _, rfl, _, rfl, _, _, (dov.up (Bt.same s26_28)).dp, (dn20.mv m28).dp, v1.shaped (by decide), v2.shaped (by decide), rfl, _, rfl, ?_⟩
      rw [same_te oo okt, same_text2]
      refine iteF ⟨_, rfl, ov, o, N0 d c, rfl, dov.up (Bt.same s26_28), oo, nox, by omega, by omega, m28.trk, fun H29 s29 => ⟨_, rfl, iteF ?_⟩⟩
      have m29 := m28.same s29
      -- here
      have m24_29 : Mv d c H24 H29 := ((((m25.same s26).same s27).same s28).same s29)
      have dh29 := dh.mv m24_29
      have rt := rp_long (plain_tx oq (by omega))
      refine ⟨_, rfl, hv, q, N0 d c, rfl, dh29, oq, by omega, m29.trk, fun H30 s30 => ?_⟩
      have m30 := m29.same s30
      refine ⟨_, _, rfl, .str _, rt.ok.1, rt.ok.2.1, rt.ok.2.2.1, rt.ok.2.2.2, ?_⟩
      refine ⟨_, rfl, hv, q, N0 d c, rfl, dh29.up (Bt.same s30), oq, by omega, by omega, fun H31 s31 => ⟨_, _, rfl, .str _, rt.ok.1, rt.ok.2.1, rt.ok.2.2.1, rt.ok.2.2.2, rfl, _, rfl, ?_⟩⟩
      have m31 := m30.same s31
      rw [same_text]
      refine iteF ⟨_, rfl, l1, fun p6 hp6 => ?_⟩
      have s29_31 := s30.trans s31
      have m32 := m31.new (o := .tup [hv]) hp6
      have d6 : Dm K (N0 d c) (upd H31 p6 (.tup [hv])) (.ref p6) (.tuple (datAll [q])) := .tup upd_same (not_new m31.trk (Same.refl H31) hp6) (.cons ((dh29.up (Bt.same s29_31)).up (Bt.refl.new hp6)) .nil)
      refine ⟨.ref p6, [q], N0 d c, rfl, d6, ⟨oq, trivial⟩, (by show q.cnt + 0 ≤ 900; omega), (by show max q.hgt 0 ≤ 60; omega), m32.trk, fun H33 s33 => ⟨_, rfl, iteF ?_⟩⟩
      have m33 := m32.same s33
      exact ⟨_, _, _, _, _, _, _, rfl, m33.D, m33.b nm _ hnm20 nd nc, fun _ => ⟨nv, fv, nx, ts, fs, rfl, rfl, dn20.mv m33, df.mv m33⟩⟩
    · rintro σ H5 ⟨x3, x4, x5, x6, x7, x8, x9, rfl, D5, hnm5, h56⟩
      obtain ⟨nv, fv, x, xs, fs, rfl, rfl, dn, df⟩ := h56 (by decide)
      -- a chain
      refine ⟨_, rfl, _, rfl, d, c, 29, rfl, D5, by decide, by decide, fun r2 H6 r20 r21 D6 b6 => ?_⟩
      obtain ⟨j2, rfl⟩ := Int.eq_ofNat_of_zero_le r20
      refine ⟨_, _, rfl, rfl, _, rfl, _, rfl, d, c, rfl, D6, fun z H7 hz D7 b7 => ?_⟩
      have m7 : Mv d c H5 H7 := ⟨D7, b6.trans b7⟩
      have hnm7 := m7.b nm _ hnm5 nd nc
      refine ⟨_, rfl, nm, _, _, _, rfl, rfl, SqL.of hnm7, an0, l0, fun p1 hp1 => ⟨l2, fun p2 hp2 => ⟨l2, fun L hL => ?_⟩⟩⟩
      have mm1 := m7.new (o := .tup []) hp1
      have d1 : Dm K (N0 d c) (upd H7 p1 (.tup [])) (.ref p1) (.tuple (datAll [])) := .tup upd_same (not_new m7.trk (Same.refl H7) hp1) .nil
      generalize upd H7 p1 (.tup []) = H8 at mm1 d1 hp2 hL ⊢
      have mm2 := mm1.new (o := .tup [.str n0, .ref p1]) hp2
      have d2 : Dm K (N0 d c) (upd H8 p2 (.tup [.str n0, .ref p1])) (.ref p2) (Doc.nod n0 []).dat := .tup upd_same (not_new mm1.trk (Same.refl H8) hp2) (.cons (.str _) (.cons (d1.up (Bt.refl.new hp2)) .nil))
      generalize upd H8 p2 (.tup [.str n0, .ref p1]) = H9 at mm2 d2 hL ⊢
      have mm3 := mm2.new (o := .lst [.str z, .ref p2]) hL
      have d3 : Dm K (N0 d c) (upd H9 L (.lst [.str z, .ref p2])) (.ref L) (.list [(Doc.txt z).dat, (Doc.nod n0 []).dat]) := .lst upd_same (not_new mm2.trk (Same.refl H9) hL) (.cons (.str _) (.cons (d2.up (Bt.refl.new hL)) .nil))
      generalize upd H9 L (.lst [.str z, .ref p2]) = H10 at mm3 d3 ⊢
      refine of_data (E := E0) mm3.D d3 (by show 0 < 2; decide) (by show 2 < 1000000; decide) fun v y H11 hy dy my => ?_
      obtain ⟨g, rfl, og, cg, gg⟩ : ∃ g : Doc, y = g.dat ∧ g.ok ∧ g.cnt ≤ 1 ∧ g.hgt ≤ 1 := by
        simp only [List.mem_cons, List.not_mem_nil, or_false] at hy
        rcases hy with e | e
        · exact ⟨_, e, hz, (by show 1 ≤ 1; decide), (by show 0 ≤ 1; decide)⟩
        · exact ⟨_, e, ⟨onn, trivial⟩, (by show 1 + 0 ≤ 1; decide), (by show 1 + 0 ≤ 1; decide)⟩
      have m11 := mm3.trans my
      refine ⟨nm, nms, 1 + j2, v, g, N0 d c, rfl, m11.b nm _ hnm5 nd nc, onm, by omega, by omega, by omega, dy, m11.trk, og, fun wv g2 H12 dg og2 cg2 gg2 ng2 s12 => ?_⟩
      have m12 := m11.same s12
      refine ⟨wv, g2, N0 d c, rfl, dg, og2, ng2 (by omega), by omega, by omega, m12.trk, fun H13 s13 => ⟨_, rfl, iteF ?_⟩⟩
      have m13 := m12.same s13
      clear mm1 mm2 mm3 d1 d2 d3 my dg
      -- odd values
      refine ⟨_, rfl, _, rfl, _, rfl, l0, fun L1 hL1 => ⟨l1, fun L2 hL2 => ⟨l0, fun p3 hp3 => ⟨l8, fun L4 hL4 => ?_⟩⟩⟩⟩
      have k1 := m13.new (o := .lst []) hL1
      have e1 : Dm K (N0 d c) (upd H13 L1 (.lst [])) (.ref L1) (.list []) := .lst upd_same (not_new m13.trk (Same.refl H13) hL1) .nil
      generalize upd H13 L1 (.lst []) = H14 at k1 e1 hL2 hp3 hL4 ⊢
      have k2 := (Mv.refl k1.D).new (o := .lst [.str (Str.ofString "a")]) hL2
      have e2 : Dm K (N0 d c) (upd H14 L2 (.lst [.str (Str.ofString "a")])) (.ref L2) (.list [.str (Str.ofString "a")]) := .lst upd_same (not_new k1.trk (Same.refl H14) hL2) (.cons (.str _) .nil)
      have e12 := e1.mv k2
      have k12 := k1.trans k2
      generalize upd H14 L2 (.lst [.str (Str.ofString "a")]) = H15 at k12 e2 e12 hp3 hL4 ⊢
      have k3 := (Mv.refl k12.D).new (o := .tup []) hp3
      have e3 : Dm K (N0 d c) (upd H15 p3 (.tup [])) (.ref p3) (.tuple []) := .tup upd_same (not_new k12.trk (Same.refl H15) hp3) .nil
      have e13 := e12.mv k3
      have e23 := e2.mv k3
      have k13 := k12.trans k3
      generalize upd H15 p3 (.tup []) = H16 at k13 e3 e13 e23 hL4 ⊢
      have k4 := (Mv.refl k13.D).new (o := .lst [.non, .int 3, .bl true, nv, fv, .ref L1, .ref L2, .ref p3]) hL4
      have k14 := k13.trans k4
      have e4 : Dm K (N0 d c) (upd H16 L4 (.lst [.non, .int 3, .bl true, nv, fv, .ref L1, .ref L2, .ref p3])) (.ref L4) (.list [.none, .int 3, .bool true, (Doc.nod x xs).dat, .tuple (datAll fs), .list [], .list [.str (Str.ofString "a")], .tuple []]) :=
        .lst upd_same (not_new k13.trk (Same.refl H16) hL4) (.cons .non (.cons (.int _) (.cons (.bl _) (.cons (dn.mv k14) (.cons (df.mv k14) (.cons (e13.mv k4) (.cons (e23.mv k4) (.cons (e3.mv k4) .nil))))))))
      generalize upd H16 L4 (.lst [.non, .int 3, .bl true, nv, fv, .ref L1, .ref L2, .ref p3]) = H17 at k14 e4 ⊢
      refine of_data (E := E0) k14.D e4 (by show 0 < 8; decide) (by show 8 < 1000000; decide) fun ov ox H18 hx dx mx => ?_
      have ns : isStr ox = false := by
        simp only [List.mem_cons, List.not_mem_nil, or_false] at hx
        rcases hx with e | e | e | e | e | e | e | e <;> rw [e] <;> rfl
      have m18 := k14.trans mx
      refine ⟨_, rfl, ov, ox, wrongD, N0 d c, true, false, rfl, dx, .inl ⟨ns, rfl⟩, fun u1 H19 du1 s19 => ?_⟩
      refine ⟨_, rfl, ov, ox, wrongD, N0 d c, false, false, rfl, dx.up (Bt.same s19), .inl ⟨ns, rfl⟩, fun u2 H20 du2 s20 => ⟨l2, fun L5 hL5 => ?_⟩⟩
      have g5 : Dp K (upd H20 L5 (.lst [u1, u2])) (.ref L5) (.list [wrongD, wrongD]) := .lst (SqL.of upd_same) (.cons ((du1.up (Bt.same s20)).up (Bt.refl.new hL5)).dp (.cons (du2.up (Bt.refl.new hL5)).dp .nil))
      have b5 : Same H20 (upd H20 L5 (.lst [u1, u2])) := (Same.refl H20).new hL5
      have D5 : Dm K F0 (upd H20 L5 (.lst [u1, u2])) (.ref L5) (.list [wrongD, wrongD]) := .lst upd_same (fun z => z) (.cons ((du1.up (Bt.same s20)).up (Bt.refl.new hL5)) (.cons (du2.up (Bt.refl.new hL5)) .nil))
      generalize upd H20 L5 (.lst [u1, u2]) = H21 at D5 ⊢
      refine ⟨_, rfl, l2, fun p6 hp6 => ⟨_, rfl, l2, fun p7 hp7 => ⟨l2, fun L8 hL8 => ?_⟩⟩⟩
      have f6 : Dm K F0 (upd H21 p6 (.tup [.str (Str.ofString "wrong"), .int (-1)])) (.ref p6) wrongD := .tup upd_same (fun z => z) (.cons (.str _) (.cons (.int _) .nil))
      have D6' := D5.up (Bt.refl.new (o := .tup [.str (Str.ofString "wrong"), .int (-1)]) hp6)
      generalize upd H21 p6 (.tup [.str (Str.ofString "wrong"), .int (-1)]) = H22 at f6 D6' hp7 hL8 ⊢
      have f7 : Dm K F0 (upd H22 p7 (.tup [.str (Str.ofString "wrong"), .int (-1)])) (.ref p7) wrongD := .tup upd_same (fun z => z) (.cons (.str _) (.cons (.int _) .nil))
      have D7' := D6'.up (Bt.refl.new (o := .tup [.str (Str.ofString "wrong"), .int (-1)]) hp7)
      have f67 := f6.up (Bt.refl.new (o := .tup [.str (Str.ofString "wrong"), .int (-1)]) hp7)
      generalize upd H22 p7 (.tup [.str (Str.ofString "wrong"), .int (-1)]) = H23 at f7 D7' f67 hL8 ⊢
      have up8 : Bt F0 H23 (upd H23 L8 (.lst [.ref p6, .ref p7])) := Bt.refl.new hL8
      have D8' := D7'.up up8
      have f8 : Dm K F0 (upd H23 L8 (.lst [.ref p6, .ref p7])) (.ref L8) (.list [wrongD, wrongD]) := .lst upd_same (fun z => z) (.cons (f67.up up8) (.cons (f7.up up8) .nil))
      have shw : SeqAt.shaped (.list [wrongD, wrongD]) = true := by decide +kernel
      refine ⟨_, _, D8'.dp, f8.dp, shw, shw, ?_⟩
      have ew : PyData.eqv (.list [wrongD, wrongD]) (.list [wrongD, wrongD]) = true := by decide +kernel
      rw [ew]
      exact k _
end
end K1

namespace K1
open PySem L2 Exv Grd Xr
/-! what the top leaves, as one answer each -/
def isB (K : PySem.W.Frag) (C : Addr) : Bool :=
  PySem.W.hasDictIn K C && (decide (PySem.W.findIn K (.ref C) "__getattribute__" = some (some (.builtin "BaseException.__getattribute__"))) && (decide (PySem.W.findIn K (.ref C) "__getattr__" = some none) &&
  (decide (PySem.W.subIn K (.ref C) (.type "BaseException") = some true) && (decide (PySem.W.findIn K (.ref C) "__class__" = some (some (.builtin "object.__class__"))) &&
  (decide (PySem.W.specialIn K (.builtin "object.__class__") "__get__" = some (some (.builtin "getset_descriptor.__get__"))) && (decide (PySem.W.takesIn K (.builtin "object.__class__") = some true) &&
  (decide (PySem.W.mroIn K C (.type "object") = some true) && decide (PySem.W.typeIn K (.ref C) = some (.type "type")))))))))
theorem isB_ok {K : PySem.W.Frag} {C : Addr} (h : isB K C = true) : IsT K C ∧ PySem.W.typeIn K (.ref C) = some (.type "type") := by
  unfold isB at h
  simp only [Bool.and_eq_true, decide_eq_true_eq] at h
  obtain ⟨h1, h2, h3, h4, h5, h6, h7, h8, h9⟩ := h
  exact ⟨⟨h1, h2, h3, h4, h5, h6, h7, h8⟩, h9⟩
def exB (K : PySem.W.Frag) (C fI : Addr) (f : Str) (bm : List Value) (newId : String) : Bool :=
  PySem.W.excInitIn K C bm newId && (PySem.W.excOver K C bm && (decide (PySem.W.findIn K (.ref C) "__init__" = some (some (.ref fI))) && (decide (PySem.W.typeIn K (.ref fI) = some (.type "function")) &&
  (decide (PySem.W.findIn K (.ref C) "__setattr__" = some (some (.builtin "object.__setattr__"))) && (decide (PySem.W.findIn K (.ref C) f = some none) && PySem.W.keepIn K (.ref C))))))
theorem exB_ok {K : PySem.W.Frag} {C fI : Addr} {f : Str} {bm : List Value} {newId : String} (h : exB K C fI f bm newId = true) (t : IsT K C) : ExT K C fI f bm newId := by
  unfold exB at h
  simp only [Bool.and_eq_true, decide_eq_true_eq] at h
  obtain ⟨h1, h2, h3, h4, h5, h6, h7⟩ := h
  exact ⟨h1, h2, h3, h4, h5, h6, t.hd, t.ga, t.gg, t.ex, h7⟩
theorem all_mk {P : Program} {w : World} {K : PySem.W.Frag} {h : Heap} {mg : Str → Option Value} {fa f0 f1 f2 f3 f4 f5 f6 f7 f8 f9 f10 f11 f12 f13 f14 f15 f16 f17 f18 f19 f20 f21 f22 f23 f24 f25 f26 f27 f28 : Addr} {C cN fit fI : Addr} {t1 t2 t3 t4 t5 t6 t7 : Tok} (X : K.In h) (G : h.Ns mainGlobals mg) (hfa : mg "law" = some (.ref fa))
    (a0 : PySem.W.nsIn K mainGlobals "_law_source" = some (some (.ref f0))) (h0 : ∃ fd, Fun K "_law_source" "_law_source" sSource f0 fd)
    (a1 : PySem.W.nsIn K mainGlobals "_law_any" = some (some (.ref f1))) (h1 : ∃ fd, Fun K "_law_any" "_law_any" sAny f1 fd)
    (a2 : PySem.W.nsIn K mainGlobals "_law_of" = some (some (.ref f2))) (h2 : ∃ fd, Fun K "_law_of" "_law_of" sOf f2 fd)
    (a3 : PySem.W.nsIn K mainGlobals "_law_names" = some (some (.ref f3))) (h3 : ∃ fd, Fun K "_law_names" "_law_names" sNames f3 fd)
    (a4 : PySem.W.nsIn K mainGlobals "_law_text" = some (some (.ref f4))) (h4 : ∃ fd, Fun K "_law_text" "_law_text" sLText f4 fd)
    (a5 : PySem.W.nsIn K mainGlobals "_law_frozen" = some (some (.ref f5))) (h5 : ∃ fd, Fun K "_law_frozen" "_law_frozen" sFrozen f5 fd)
    (a6 : PySem.W.nsIn K mainGlobals "_law_grown" = some (some (.ref f6))) (h6 : ∃ fd, Fun K "_law_grown" "_law_grown" sGrown f6 fd)
    (a7 : PySem.W.nsIn K mainGlobals "_law_places" = some (some (.ref f7))) (h7 : ∃ fd, Fun K "_law_places" "_law_places" sPlaces f7 fd)
    (a8 : PySem.W.nsIn K mainGlobals "_law_at" = some (some (.ref f8))) (h8 : ∃ fd, Fun K "_law_at" "_law_at" sLAt f8 fd)
    (a9 : PySem.W.nsIn K mainGlobals "_law_with" = some (some (.ref f9))) (h9 : ∃ fd, Fun K "_law_with" "_law_with" sWith f9 fd)
    (a10 : PySem.W.nsIn K mainGlobals "_law_written" = some (some (.ref f10))) (h10 : ∃ fd, Fun K "_law_written" "_law_written" sWritten f10 fd)
    (a11 : PySem.W.nsIn K mainGlobals "_law_row_written" = some (some (.ref f11))) (h11 : ∃ fd, Fun K "_law_row_written" "_law_row_written" sRowW f11 fd)
    (a12 : PySem.W.nsIn K mainGlobals "_law_read" = some (some (.ref f12))) (h12 : ∃ fd, Fun K "_law_read" "_law_read" sLRead f12 fd)
    (a13 : PySem.W.nsIn K mainGlobals "_law_node_right" = some (some (.ref f13))) (h13 : ∃ fd, Fun K "_law_node_right" "_law_node_right" sNodeR f13 fd)
    (a14 : PySem.W.nsIn K mainGlobals "_law_forest_right" = some (some (.ref f14))) (h14 : ∃ fd, Fun K "_law_forest_right" "_law_forest_right" sForestR f14 fd)
    (a15 : PySem.W.nsIn K mainGlobals "_law_chain" = some (some (.ref f15))) (h15 : ∃ fd, Fun K "_law_chain" "_law_chain" sChain f15 fd)
    (a16 : PySem.W.nsIn K mainGlobals "taken" = some (some (.ref f16))) (h16 : ∃ fd, Fun K "taken" "taken" sTaken f16 fd)
    (a17 : PySem.W.nsIn K mainGlobals "all_things" = some (some (.ref f17))) (h17 : ∃ fd, Fun K "all_things" "all_things" sAll f17 fd)
    (a18 : PySem.W.nsIn K mainGlobals "built" = some (some (.ref f18))) (h18 : ∃ fd, Fun K "built" "built" sBuilt f18 fd)
    (a19 : PySem.W.nsIn K mainGlobals "thing_text" = some (some (.ref f19))) (h19 : ∃ fd, Fun K "thing_text" "thing_text" sThingText f19 fd)
    (a20 : PySem.W.nsIn K mainGlobals "quoted" = some (some (.ref f20))) (h20 : ∃ fd, Fun K "quoted" "quoted" sQuoted f20 fd)
    (a21 : PySem.W.nsIn K mainGlobals "_node_text" = some (some (.ref f21))) (h21 : ∃ fd, Fun K "_node_text" "_node_text" sNodeText f21 fd)
    (a22 : PySem.W.nsIn K mainGlobals "forest_text" = some (some (.ref f22))) (h22 : ∃ fd, Fun K "forest_text" "forest_text" sForestText f22 fd)
    (a23 : PySem.W.nsIn K mainGlobals "read_node" = some (some (.ref f23))) (h23 : ∃ fd, Fun K "read_node" "read_node" sReadNode f23 fd)
    (a24 : PySem.W.nsIn K mainGlobals "read_forest" = some (some (.ref f24))) (h24 : ∃ fd, Fun K "read_forest" "read_forest" sReadForest f24 fd)
    (a25 : PySem.W.nsIn K mainGlobals "_read" = some (some (.ref f25))) (h25 : ∃ fd, Fun K "_read" "_read" sRead f25 fd)
    (a26 : PySem.W.nsIn K mainGlobals "quote_end" = some (some (.ref f26))) (h26 : ∃ fd, Fun K "quote_end" "quote_end" sQuoteEnd f26 fd)
    (a27 : PySem.W.nsIn K mainGlobals "_name_end" = some (some (.ref f27))) (h27 : ∃ fd, Fun K "_name_end" "_name_end" sNameEnd f27 fd)
    (a28 : PySem.W.nsIn K mainGlobals "law" = some (some (.ref f28))) (h28 : ∃ fd, Fun K "law" "law" sLaw f28 fd)
    (b_C : PySem.W.nsIn K mainGlobals "InvalidText" = some (some (.ref C)))
    (j_C : PySem.W.findIn K (.ref C) "__init__" = some (some (.ref fI)))
    (g_C : ∃ fd, Fun K "__init__" "InvalidText.__init__" sI0 fI fd)
    (e1_C : isB K C = true)
    (e2_C : exB K C fI "at" bmExc "Exception.__new__" = true)
    (y_C : PySem.W.exmOne K (.ref C) (.ref C) = some true)
    (b_cN : PySem.W.nsIn K mainGlobals "InvalidNode" = some (some (.ref cN)))
    (b_fit : PySem.W.nsIn K mainGlobals "FitError" = some (some (.ref fit)))
    (y1 : PySem.W.kitOne K (.ref C) (.ref fit) = some true)
    (y2 : PySem.W.kitOne K (.ref C) (.ref cN) = some false)
    (c1 : PySem.W.nsIn K mainGlobals "NAME_MOST" = some (some (.int 8 t1)))
    (c2 : PySem.W.nsIn K mainGlobals "TEXT_MOST" = some (some (.int 16 t2)))
    (c3 : PySem.W.nsIn K mainGlobals "NAME_SIGNS" = some (some (.str abc t3)))
    (c4 : PySem.W.nsIn K mainGlobals "TEXT_SIGNS" = some (some (.str abc9 t4)))
    (c5 : PySem.W.nsIn K mainGlobals "AT_FIRST" = some (some (.int 0 t5)))
    (c6 : PySem.W.nsIn K mainGlobals "AT_THING" = some (some (.int 1 t6)))
    (c7 : PySem.W.nsIn K mainGlobals "BEHIND" = some (some (.int 2 t7)))
    (z_int : PySem.W.nsIn K mainGlobals "int" = some none)
    (z_abs : PySem.W.nsIn K mainGlobals "abs" = some none)
    (z_len : PySem.W.nsIn K mainGlobals "len" = some none)
    (z_sorted : PySem.W.nsIn K mainGlobals "sorted" = some none)
    (z_range : PySem.W.nsIn K mainGlobals "range" = some none)
    (z_isinstance : PySem.W.nsIn K mainGlobals "isinstance" = some none)
    (z_str : PySem.W.nsIn K mainGlobals "str" = some none)
    (z_tuple : PySem.W.nsIn K mainGlobals "tuple" = some none)
    (z_list : PySem.W.nsIn K mainGlobals "list" = some none)
    (z_repr : PySem.W.nsIn K mainGlobals "repr" = some none)
    :
    ∃ fd : FuncData, (∀ (s : Shared) (v : Value), BindsTo s fd ⟨[v], []⟩ [("script", v)]) ∧ ∀ base : Heap, K.In base → base.Ns mainGlobals mg → FnG P w K mg base CX0 124 fa fd ["script"] (spLaw K) := by
  have e := hfa.symm.trans (PySem.W.mg_of X G a28)
  cases e
  obtain ⟨d0, F0⟩ := h0
  obtain ⟨d1, F1⟩ := h1
  obtain ⟨d2, F2⟩ := h2
  obtain ⟨d3, F3⟩ := h3
  obtain ⟨d4, F4⟩ := h4
  obtain ⟨d5, F5⟩ := h5
  obtain ⟨d6, F6⟩ := h6
  obtain ⟨d7, F7⟩ := h7
  obtain ⟨d8, F8⟩ := h8
  obtain ⟨d9, F9⟩ := h9
  obtain ⟨d10, F10⟩ := h10
  obtain ⟨d11, F11⟩ := h11
  obtain ⟨d12, F12⟩ := h12
  obtain ⟨d13, F13⟩ := h13
  obtain ⟨d14, F14⟩ := h14
  obtain ⟨d15, F15⟩ := h15
  obtain ⟨d16, F16⟩ := h16
  obtain ⟨d17, F17⟩ := h17
  obtain ⟨d18, F18⟩ := h18
  obtain ⟨d19, F19⟩ := h19
  obtain ⟨d20, F20⟩ := h20
  obtain ⟨d21, F21⟩ := h21
  obtain ⟨d22, F22⟩ := h22
  obtain ⟨d23, F23⟩ := h23
  obtain ⟨d24, F24⟩ := h24
  obtain ⟨d25, F25⟩ := h25
  obtain ⟨d26, F26⟩ := h26
  obtain ⟨d27, F27⟩ := h27
  obtain ⟨d28, F28⟩ := h28
  have v0 := F0.binds (ps := ["script"]) fun _ _ _ _ _ _ us hl => match us, hl with | [_], _ => rfl
  have v1 := F1.binds (ps := ["deal", "bound"]) fun _ _ _ _ _ _ us hl => match us, hl with | [_, _], _ => rfl
  have v2 := F2.binds (ps := ["deal", "some"]) fun _ _ _ _ _ _ us hl => match us, hl with | [_, _], _ => rfl
  have v3 := F3.binds (ps := ["deal", "many"]) fun _ _ _ _ _ _ us hl => match us, hl with | [_, _], _ => rfl
  have v4 := F4.binds (ps := ["deal"]) fun _ _ _ _ _ _ us hl => match us, hl with | [_], _ => rfl
  have v5 := F5.binds (ps := ["thing"]) fun _ _ _ _ _ _ us hl => match us, hl with | [_], _ => rfl
  have v6 := F6.binds (ps := ["deal", "names", "many", "deep"]) fun _ _ _ _ _ _ us hl => match us, hl with | [_, _, _, _], _ => rfl
  have v7 := F7.binds (ps := ["thing"]) fun _ _ _ _ _ _ us hl => match us, hl with | [_], _ => rfl
  have v8 := F8.binds (ps := ["thing", "place"]) fun _ _ _ _ _ _ us hl => match us, hl with | [_, _], _ => rfl
  have v9 := F9.binds (ps := ["thing", "place", "new"]) fun _ _ _ _ _ _ us hl => match us, hl with | [_, _, _], _ => rfl
  have v10 := F10.binds (ps := ["thing"]) fun _ _ _ _ _ _ us hl => match us, hl with | [_], _ => rfl
  have v11 := F11.binds (ps := ["things"]) fun _ _ _ _ _ _ us hl => match us, hl with | [_], _ => rfl
  have v12 := F12.binds (ps := ["value", "node", "named"]) fun _ _ _ _ _ _ us hl => match us, hl with | [_, _, _], _ => rfl
  have v13 := F13.binds (ps := ["node"]) fun _ _ _ _ _ _ us hl => match us, hl with | [_], _ => rfl
  have v14 := F14.binds (ps := ["forest"]) fun _ _ _ _ _ _ us hl => match us, hl with | [_], _ => rfl
  have v15 := F15.binds (ps := ["names", "many", "thing"]) fun _ _ _ _ _ _ us hl => match us, hl with | [_, _, _], _ => rfl
  have v16 := F16.binds (ps := ["made", "many"]) fun _ _ _ _ _ _ us hl => match us, hl with | [_, _], _ => rfl
  have v17 := F17.binds (ps := ["forest"]) fun _ _ _ _ _ _ us hl => match us, hl with | [_], _ => rfl
  have v18 := F18.binds (ps := ["thing", "of_text", "of_node"]) fun _ _ _ _ _ _ us hl => match us, hl with | [_, _, _], _ => rfl
  have v19 := F19.binds (ps := ["thing"]) fun _ _ _ _ _ _ us hl => match us, hl with | [_], _ => rfl
  have v20 := F20.binds (ps := ["text"]) fun _ _ _ _ _ _ us hl => match us, hl with | [_], _ => rfl
  have v21 := F21.binds (ps := ["name", "texts"]) fun _ _ _ _ _ _ us hl => match us, hl with | [_, _], _ => rfl
  have v22 := F22.binds (ps := ["forest"]) fun _ _ _ _ _ _ us hl => match us, hl with | [_], _ => rfl
  have v23 := F23.binds (ps := ["value"]) fun _ _ _ _ _ _ us hl => match us, hl with | [_], _ => rfl
  have v24 := F24.binds (ps := ["value"]) fun _ _ _ _ _ _ us hl => match us, hl with | [_], _ => rfl
  have v25 := F25.binds (ps := ["value", "alone"]) fun _ _ _ _ _ _ us hl => match us, hl with | [_, _], _ => rfl
  have v26 := F26.binds (ps := ["text", "at"]) fun _ _ _ _ _ _ us hl => match us, hl with | [_, _], _ => rfl
  have v27 := F27.binds (ps := ["text", "at"]) fun _ _ _ _ _ _ us hl => match us, hl with | [_, _], _ => rfl
  obtain ⟨dI_C, FI_C⟩ := g_C
  have it_C := isB_ok e1_C
  have et_C := exB_ok e2_C it_C.1
  have T1 : SourceTxt K mg  := { int := PySem.W.mg_none_of X G z_int, abs := PySem.W.mg_none_of X G z_abs }
  have T2 : AnyTxt K mg  := { int := PySem.W.mg_none_of X G z_int }
  have T3 : OfTxt K mg f1 := { len := PySem.W.mg_none_of X G z_len, any := PySem.W.mg_of X G a1, kAny := F1.kp }
  have T4 : NamesTxt K mg f1 f2 := { n_sorted := PySem.W.mg_none_of X G z_sorted, n_range := PySem.W.mg_none_of X G z_range, n_int := PySem.W.mg_none_of X G z_int, n_len := PySem.W.mg_none_of X G z_len, g_law_of := PySem.W.mg_of X G a2, k_law_of := F2.kp, g_law_any := PySem.W.mg_of X G a1, k_law_any := F1.kp }
  have T5 : LTextTxt K mg f1 f2 := { n_range := PySem.W.mg_none_of X G z_range, g_law_of := PySem.W.mg_of X G a2, k_law_of := F2.kp, g_law_any := PySem.W.mg_of X G a1, k_law_any := F1.kp }
  have T6 : FrozenTxt K mg f5 := { n_isinstance := PySem.W.mg_none_of X G z_isinstance, n_str := PySem.W.mg_none_of X G z_str, n_tuple := PySem.W.mg_none_of X G z_tuple, g_law_frozen := PySem.W.mg_of X G a5, k_law_frozen := F5.kp }
  have T7 : GrownTxt K mg f1 f2 f4 f5 := { n_range := PySem.W.mg_none_of X G z_range, n_len := PySem.W.mg_none_of X G z_len, n_list := PySem.W.mg_none_of X G z_list, n_isinstance := PySem.W.mg_none_of X G z_isinstance, g_law_of := PySem.W.mg_of X G a2, k_law_of := F2.kp, g_law_any := PySem.W.mg_of X G a1, k_law_any := F1.kp, g_law_text := PySem.W.mg_of X G a4, k_law_text := F4.kp, g_law_frozen := PySem.W.mg_of X G a5, k_law_frozen := F5.kp }
  have T8 : TextTxt K mg f16 f17 f18 f20 f21 f19 := { n_len := PySem.W.mg_none_of X G z_len, n_list := PySem.W.mg_none_of X G z_list, n_isinstance := PySem.W.mg_none_of X G z_isinstance, n_str := PySem.W.mg_none_of X G z_str, g_taken := PySem.W.mg_of X G a16, k_taken := F16.kp, g_all_things := PySem.W.mg_of X G a17, k_all_things := F17.kp, g_built := PySem.W.mg_of X G a18, k_built := F18.kp, g_quoted := PySem.W.mg_of X G a20, k_quoted := F20.kp, g_node_text := PySem.W.mg_of X G a21, k_node_text := F21.kp, g_thing_text := PySem.W.mg_of X G a19, k_thing_text := F19.kp }
  have T9 : ReadTxt K mg C fI f26 f27 f25 t1 t2 t3 t4 t5 t6 t7 := { n_isinstance := PySem.W.mg_none_of X G z_isinstance, n_str := PySem.W.mg_none_of X G z_str, n_tuple := PySem.W.mg_none_of X G z_tuple, n_len := PySem.W.mg_none_of X G z_len, n_range := PySem.W.mg_none_of X G z_range, m := PySem.W.mg_of X G b_C, t := et_C, ex := it_C.1.ex, ty := it_C.2, g_NAME_MOST := PySem.W.mg_of X G c1, g_TEXT_MOST := PySem.W.mg_of X G c2, g_NAME_SIGNS := PySem.W.mg_of X G c3, g_TEXT_SIGNS := PySem.W.mg_of X G c4, g_AT_FIRST := PySem.W.mg_of X G c5, g_AT_THING := PySem.W.mg_of X G c6, g_BEHIND := PySem.W.mg_of X G c7, g_quote_end := PySem.W.mg_of X G a26, k_quote_end := F26.kp, g_name_end := PySem.W.mg_of X G a27, k_name_end := F27.kp, g_read := PySem.W.mg_of X G a25, k_read := F25.kp }
  have TA : LawATxt K mg f7 f9 f10 f11 := { n_range := PySem.W.mg_none_of X G z_range, n_isinstance := PySem.W.mg_none_of X G z_isinstance, n_tuple := PySem.W.mg_none_of X G z_tuple, n_str := PySem.W.mg_none_of X G z_str, n_len := PySem.W.mg_none_of X G z_len, g_law_places := PySem.W.mg_of X G a7, k_law_places := F7.kp, g_law_with := PySem.W.mg_of X G a9, k_law_with := F9.kp, g_law_written := PySem.W.mg_of X G a10, k_law_written := F10.kp, g_law_row_written := PySem.W.mg_of X G a11, k_law_row_written := F11.kp }
  have TS : SaidTxt K mg C cN fit f23 f24 := { n_isinstance := PySem.W.mg_none_of X G z_isinstance, m := PySem.W.mg_of X G b_C, mN := PySem.W.mg_of X G b_cN, mF := PySem.W.mg_of X G b_fit, it := it_C.1, no := et_C.no, one := y_C, isF := y1, isN := y2, g_read_node := PySem.W.mg_of X G a23, k_read_node := F23.kp, g_read_forest := PySem.W.mg_of X G a24, k_read_forest := F24.kp }
  have TR : RightTxt K mg f12 f19 f22 f10 f11 := { n_repr := PySem.W.mg_none_of X G z_repr, n_range := PySem.W.mg_none_of X G z_range, n_int := PySem.W.mg_none_of X G z_int, n_len := PySem.W.mg_none_of X G z_len, g_law_read := PySem.W.mg_of X G a12, k_law_read := F12.kp, g_thing_text := PySem.W.mg_of X G a19, k_thing_text := F19.kp, g_forest_text := PySem.W.mg_of X G a22, k_forest_text := F22.kp, g_law_written := PySem.W.mg_of X G a10, k_law_written := F10.kp, g_law_row_written := PySem.W.mg_of X G a11, k_law_row_written := F11.kp }
  have TC : ChainTxt K mg  := { n_range := PySem.W.mg_none_of X G z_range, n_int := PySem.W.mg_none_of X G z_int, n_len := PySem.W.mg_none_of X G z_len }
  have TL : LawTxt K mg f0 f3 f1 f2 f4 f6 f7 f8 f9 f10 f15 f12 f13 f14 f19 := { n_range := PySem.W.mg_none_of X G z_range, n_repr := PySem.W.mg_none_of X G z_repr, g_law_source := PySem.W.mg_of X G a0, k_law_source := F0.kp, g_law_names := PySem.W.mg_of X G a3, k_law_names := F3.kp, g_law_any := PySem.W.mg_of X G a1, k_law_any := F1.kp, g_law_of := PySem.W.mg_of X G a2, k_law_of := F2.kp, g_law_text := PySem.W.mg_of X G a4, k_law_text := F4.kp, g_law_grown := PySem.W.mg_of X G a6, k_law_grown := F6.kp, g_law_places := PySem.W.mg_of X G a7, k_law_places := F7.kp, g_law_at := PySem.W.mg_of X G a8, k_law_at := F8.kp, g_law_with := PySem.W.mg_of X G a9, k_law_with := F9.kp, g_law_written := PySem.W.mg_of X G a10, k_law_written := F10.kp, g_law_chain := PySem.W.mg_of X G a15, k_law_chain := F15.kp, g_law_read := PySem.W.mg_of X G a12, k_law_read := F12.kp, g_law_node_right := PySem.W.mg_of X G a13, k_law_node_right := F13.kp, g_law_forest_right := PySem.W.mg_of X G a14, k_law_forest_right := F14.kp, g_thing_text := PySem.W.mg_of X G a19, k_thing_text := F19.kp }
  have kb19 : ∀ (s : Shared) (u : Value), BindsTo s d19 ⟨[], [("thing", u)]⟩ [("thing", u)] := fun s u => by
    obtain ⟨_, _, _, _, _, _, _, _, _, rfl, _, _⟩ := F19.ex
    exact .of_eq rfl
  have kb22 : ∀ (s : Shared) (u : Value), BindsTo s d22 ⟨[], [("forest", u)]⟩ [("forest", u)] := fun s u => by
    obtain ⟨_, _, _, _, _, _, _, _, _, rfl, _, _⟩ := F22.ex
    exact .of_eq rfl
  have kb23 : ∀ (s : Shared) (u : Value), BindsTo s d23 ⟨[], [("value", u)]⟩ [("value", u)] := fun s u => by
    obtain ⟨_, _, _, _, _, _, _, _, _, rfl, _, _⟩ := F23.ex
    exact .of_eq rfl
  have kb24 : ∀ (s : Shared) (u : Value), BindsTo s d24 ⟨[], [("value", u)]⟩ [("value", u)] := fun s u => by
    obtain ⟨_, _, _, _, _, _, _, _, _, rfl, _, _⟩ := F24.ex
    exact .of_eq rfl
  refine ⟨d28, fun s v => ?_, fun base _ _ => ?_⟩
  · obtain ⟨_, _, _, _, _, _, _, _, _, rfl, _, _⟩ := F28.ex
    exact .of_eq rfl
  · have GS : FnOk P w K mg base CX0 1 f0 d0 ["script"] (spSource K) := ok_source F0 T1
    have GA : FnOk P w K mg base CX0 1 f1 d1 ["deal", "bound"] (spAny) := ok_any F1 T2
    have GO : FnOk P w K mg base CX0 2 f2 d2 ["deal", "some"] (spOf) := ok_of F2 T3 GA v1
    have GN : FnOk P w K mg base CX0 3 f3 d3 ["deal", "many"] (spNames) := ok_names F3 T4 GA v1 GO v2
    have GT : FnOk P w K mg base CX0 3 f4 d4 ["deal"] (spLText) := ok_ltext F4 T5 GA v1 GO v2
    have GFr : FnOk P w K mg base CX0 (1 + 60) f5 d5 ["thing"] (spFrozen K 60) := ok_frozen F5 T6 v5 60
    have GG : FnOk P w K mg base CX0 (4 + 60) f6 d6 ["deal", "names", "many", "deep"] (spGrown K 60) := ok_grown F6 T7 GA v1 GO v2 GT v4 GFr v5
    have Gt : FnOk P w K mg base CX0 1 f16 d16 ["made", "many"] (spTaken K) := ok_taken F16 T8
    have Ga : FnOk P w K mg base CX0 1 f17 d17 ["forest"] (spAllT K) := ok_all F17 T8
    have Gq : FnOk P w K mg base CX0 1 f20 d20 ["text"] (spQuoted) := ok_quoted F20
    have Gn : FnOk P w K mg base CX0 1 f21 d21 ["name", "texts"] (spNodeText) := ok_nodeText F21
    have Gb : FnOk P w K mg base CX0 2 f18 d18 ["thing", "of_text", "of_node"] (spBuilt K f20 f21) := ok_built F18 T8 Gt v16 Ga v17 Gq v20 Gn v21
    have Gth : FnOk P w K mg base CX0 3 f19 d19 ["thing"] (spText1 K) := ok_thingText F19 T8 Gb v18
    have Gfo : FnOk P w K mg base CX0 4 f22 d22 ["forest"] (spForest K) := ok_forestText F22 T8 Gth v19
    have Gqe : FnOk P w K mg base (L2.CX P w) 4 f26 d26 ["text", "at"] (spEnd 34 abc9 16 1) := ok_quoteEnd F26 T9 FI_C
    have Gne : FnOk P w K mg base (L2.CX P w) 4 f27 d27 ["text", "at"] (spEnd 40 abc 8 0) := ok_nameEnd F27 T9 FI_C
    have Gre : FnOk P w K mg base (L2.CX P w) 5 f25 d25 ["value", "alone"] (spRead K C) := ok_read F25 T9 FI_C Gqe v26 Gne v27
    have Grn : FnOk P w K mg base (L2.CX P w) 6 f23 d23 ["value"] (spReadN K C) := ok_readNode F23 T9 Gre v25
    have Grf : FnOk P w K mg base (L2.CX P w) 6 f24 d24 ["value"] (spReadF K C) := ok_readForest F24 T9 Gre v25
    have Gpl : FnOk P w K mg base CX0 (1 + 30) f7 d7 ["thing"] (spPlaces K 30) := ok_places F7 TA v7 30
    have Gat : FnOk P w K mg base CX0 1 f8 d8 ["thing", "place"] (spLAt K) := ok_lat F8
    have Gwi : FnOk P w K mg base CX0 (1 + 31) f9 d9 ["thing", "place", "new"] (spWith K 31) := ok_with F9 TA v9 31
    have GW := ok_bothW (P := P) (w := w) (mg := mg) (base := base) F10 F11 TA v10 v11 60
    have Gch : FnOk P w K mg base CX0 1 f15 d15 ["names", "many", "thing"] (spChain K) := ok_chain F15 TC
    have Glr : FnOk P w K mg base CX0 7 f12 d12 ["value", "node", "named"] (spLRead K) := ok_lread F12 TS Grn v23 kb23 Grf v24 kb24
    have Gnr : FnG P w K mg base CX0 123 f13 d13 ["node"] (spNR K) := ok_nodeR F13 TR Glr v12 Gth v19 kb19 GW.1 v10
    have Gfr : FnG P w K mg base CX0 123 f14 d14 ["forest"] (spFR K) := ok_forestR F14 TR Glr v12 Gfo v22 kb22 GW.2 v11
    exact ok_law F28 TL GS v0 GN v3 GA v1 GO v2 GT v4 GG v6 Gpl v7 Gat v8 Gwi v9 GW.1 v10 Gch v15 Glr v12 Gnr v13 Gfr v14 Gth v19
end K1

open PySem PySem.W PyProof.Rows
set_option maxRecDepth 100000 in
set_option maxHeartbeats 0 in
theorem PySem.Challenge.cw_turnsfit_k06_whole_texts_there_and_back_holds : PySem.Challenge.rw_turnsfit_k06_whole_texts_there_and_back.Holds := by
  w_on; o_law; k_head; (case hw => w_witness2)
  k_fill
  refine Grd.walkG (l := PySem.Challenge.rw_turnsfit_k06_whole_texts_there_and_back) (sp := K1.spLaw) (x := "script") (k := 124) rfl (by decide) rfl ⟨rfl, by decide, by decide⟩ (fun w h Y => PySem.W.kIn_of Y) ?F (fun K H a ns hl hS => ⟨a, ns, rfl, hS, hl, fun _ => rfl⟩)
  case F =>
    intro w mg fa h KX G hmg
    refine' K1.all_mk KX G hmg ?kq_a0 ?kq_h0 ?kq_a1 ?kq_h1 ?kq_a2 ?kq_h2 ?kq_a3 ?kq_h3 ?kq_a4 ?kq_h4 ?kq_a5 ?kq_h5 ?kq_a6 ?kq_h6 ?kq_a7 ?kq_h7 ?kq_a8 ?kq_h8 ?kq_a9 ?kq_h9 ?kq_a10 ?kq_h10 ?kq_a11 ?kq_h11 ?kq_a12 ?kq_h12 ?kq_a13 ?kq_h13 ?kq_a14 ?kq_h14 ?kq_a15 ?kq_h15 ?kq_a16 ?kq_h16 ?kq_a17 ?kq_h17 ?kq_a18 ?kq_h18 ?kq_a19 ?kq_h19 ?kq_a20 ?kq_h20 ?kq_a21 ?kq_h21 ?kq_a22 ?kq_h22 ?kq_a23 ?kq_h23 ?kq_a24 ?kq_h24 ?kq_a25 ?kq_h25 ?kq_a26 ?kq_h26 ?kq_a27 ?kq_h27 ?kq_a28 ?kq_h28 ?kq_b_C ?kq_j_C ?kq_g_C ?kq_e1_C ?kq_e2_C ?kq_y_C ?kq_b_cN ?kq_b_fit ?kq_y1 ?kq_y2 ?kq_c1 ?kq_c2 ?kq_c3 ?kq_c4 ?kq_c5 ?kq_c6 ?kq_c7 ?kq_z_int ?kq_z_abs ?kq_z_len ?kq_z_sorted ?kq_z_range ?kq_z_isinstance ?kq_z_str ?kq_z_tuple ?kq_z_list ?kq_z_repr
    (case kq_a0 => k_is)
    (case kq_h0 => refine' ⟨_, L2.fun_mk (st := K1.sSource) ?kql ?kqc ?kqk⟩; (case kql => k_is); (case kqc => k_is); (case kqk => k_is))
    (case kq_a1 => k_is)
    (case kq_h1 => refine' ⟨_, L2.fun_mk (st := K1.sAny) ?kql ?kqc ?kqk⟩; (case kql => k_is); (case kqc => k_is); (case kqk => k_is))
    (case kq_a2 => k_is)
    (case kq_h2 => refine' ⟨_, L2.fun_mk (st := K1.sOf) ?kql ?kqc ?kqk⟩; (case kql => k_is); (case kqc => k_is); (case kqk => k_is))
    (case kq_a3 => k_is)
    (case kq_h3 => refine' ⟨_, L2.fun_mk (st := K1.sNames) ?kql ?kqc ?kqk⟩; (case kql => k_is); (case kqc => k_is); (case kqk => k_is))
    (case kq_a4 => k_is)
    (case kq_h4 => refine' ⟨_, L2.fun_mk (st := K1.sLText) ?kql ?kqc ?kqk⟩; (case kql => k_is); (case kqc => k_is); (case kqk => k_is))
    (case kq_a5 => k_is)
    (case kq_h5 => refine' ⟨_, L2.fun_mk (st := K1.sFrozen) ?kql ?kqc ?kqk⟩; (case kql => k_is); (case kqc => k_is); (case kqk => k_is))
    (case kq_a6 => k_is)
    (case kq_h6 => refine' ⟨_, L2.fun_mk (st := K1.sGrown) ?kql ?kqc ?kqk⟩; (case kql => k_is); (case kqc => k_is); (case kqk => k_is))
    (case kq_a7 => k_is)
    (case kq_h7 => refine' ⟨_, L2.fun_mk (st := K1.sPlaces) ?kql ?kqc ?kqk⟩; (case kql => k_is); (case kqc => k_is); (case kqk => k_is))
    (case kq_a8 => k_is)
    (case kq_h8 => refine' ⟨_, L2.fun_mk (st := K1.sLAt) ?kql ?kqc ?kqk⟩; (case kql => k_is); (case kqc => k_is); (case kqk => k_is))
    (case kq_a9 => k_is)
    (case kq_h9 => refine' ⟨_, L2.fun_mk (st := K1.sWith) ?kql ?kqc ?kqk⟩; (case kql => k_is); (case kqc => k_is); (case kqk => k_is))
    (case kq_a10 => k_is)
    (case kq_h10 => refine' ⟨_, L2.fun_mk (st := K1.sWritten) ?kql ?kqc ?kqk⟩; (case kql => k_is); (case kqc => k_is); (case kqk => k_is))
    (case kq_a11 => k_is)
    (case kq_h11 => refine' ⟨_, L2.fun_mk (st := K1.sRowW) ?kql ?kqc ?kqk⟩; (case kql => k_is); (case kqc => k_is); (case kqk => k_is))
    (case kq_a12 => k_is)
    (case kq_h12 => refine' ⟨_, L2.fun_mk (st := K1.sLRead) ?kql ?kqc ?kqk⟩; (case kql => k_is); (case kqc => k_is); (case kqk => k_is))
    (case kq_a13 => k_is)
    (case kq_h13 => refine' ⟨_, L2.fun_mk (st := K1.sNodeR) ?kql ?kqc ?kqk⟩; (case kql => k_is); (case kqc => k_is); (case kqk => k_is))
    (case kq_a14 => k_is)
    (case kq_h14 => refine' ⟨_, L2.fun_mk (st := K1.sForestR) ?kql ?kqc ?kqk⟩; (case kql => k_is); (case kqc => k_is); (case kqk => k_is))
    (case kq_a15 => k_is)
    (case kq_h15 => refine' ⟨_, L2.fun_mk (st := K1.sChain) ?kql ?kqc ?kqk⟩; (case kql => k_is); (case kqc => k_is); (case kqk => k_is))
    (case kq_a16 => k_is)
    (case kq_h16 => refine' ⟨_, L2.fun_mk (st := K1.sTaken) ?kql ?kqc ?kqk⟩; (case kql => k_is); (case kqc => k_is); (case kqk => k_is))
    (case kq_a17 => k_is)
    (case kq_h17 => refine' ⟨_, L2.fun_mk (st := K1.sAll) ?kql ?kqc ?kqk⟩; (case kql => k_is); (case kqc => k_is); (case kqk => k_is))
    (case kq_a18 => k_is)
    (case kq_h18 => refine' ⟨_, L2.fun_mk (st := K1.sBuilt) ?kql ?kqc ?kqk⟩; (case kql => k_is); (case kqc => k_is); (case kqk => k_is))
    (case kq_a19 => k_is)
    (case kq_h19 => refine' ⟨_, L2.fun_mk (st := K1.sThingText) ?kql ?kqc ?kqk⟩; (case kql => k_is); (case kqc => k_is); (case kqk => k_is))
    (case kq_a20 => k_is)
    (case kq_h20 => refine' ⟨_, L2.fun_mk (st := K1.sQuoted) ?kql ?kqc ?kqk⟩; (case kql => k_is); (case kqc => k_is); (case kqk => k_is))
    (case kq_a21 => k_is)
    (case kq_h21 => refine' ⟨_, L2.fun_mk (st := K1.sNodeText) ?kql ?kqc ?kqk⟩; (case kql => k_is); (case kqc => k_is); (case kqk => k_is))
    (case kq_a22 => k_is)
    (case kq_h22 => refine' ⟨_, L2.fun_mk (st := K1.sForestText) ?kql ?kqc ?kqk⟩; (case kql => k_is); (case kqc => k_is); (case kqk => k_is))
    (case kq_a23 => k_is)
    (case kq_h23 => refine' ⟨_, L2.fun_mk (st := K1.sReadNode) ?kql ?kqc ?kqk⟩; (case kql => k_is); (case kqc => k_is); (case kqk => k_is))
    (case kq_a24 => k_is)
    (case kq_h24 => refine' ⟨_, L2.fun_mk (st := K1.sReadForest) ?kql ?kqc ?kqk⟩; (case kql => k_is); (case kqc => k_is); (case kqk => k_is))
    (case kq_a25 => k_is)
    (case kq_h25 => refine' ⟨_, L2.fun_mk (st := K1.sRead) ?kql ?kqc ?kqk⟩; (case kql => k_is); (case kqc => k_is); (case kqk => k_is))
    (case kq_a26 => k_is)
    (case kq_h26 => refine' ⟨_, L2.fun_mk (st := K1.sQuoteEnd) ?kql ?kqc ?kqk⟩; (case kql => k_is); (case kqc => k_is); (case kqk => k_is))
    (case kq_a27 => k_is)
    (case kq_h27 => refine' ⟨_, L2.fun_mk (st := K1.sNameEnd) ?kql ?kqc ?kqk⟩; (case kql => k_is); (case kqc => k_is); (case kqk => k_is))
    (case kq_a28 => k_is)
    (case kq_h28 => refine' ⟨_, L2.fun_mk (st := K1.sLaw) ?kql ?kqc ?kqk⟩; (case kql => k_is); (case kqc => k_is); (case kqk => k_is))
    (case kq_b_C => k_is)
    (case kq_j_C => k_is)
    (case kq_g_C => refine' ⟨_, L2.fun_mk (st := K1.sI0) ?kql ?kqc ?kqk⟩; (case kql => k_is); (case kqc => k_is); (case kqk => k_is))
    (case kq_e1_C => kernel_rfl)
    (case kq_e2_C => kernel_rfl)
    (case kq_y_C => kernel_rfl)
    (case kq_b_cN => k_is)
    (case kq_b_fit => k_is)
    (case kq_y1 => kernel_rfl)
    (case kq_y2 => kernel_rfl)
    (case kq_c1 => k_is)
    (case kq_c2 => k_is)
    (case kq_c3 => k_is)
    (case kq_c4 => k_is)
    (case kq_c5 => k_is)
    (case kq_c6 => k_is)
    (case kq_c7 => k_is)
    (case kq_z_int => k_is)
    (case kq_z_abs => k_is)
    (case kq_z_len => k_is)
    (case kq_z_sorted => k_is)
    (case kq_z_range => k_is)
    (case kq_z_isinstance => k_is)
    (case kq_z_str => k_is)
    (case kq_z_tuple => k_is)
    (case kq_z_list => k_is)
    (case kq_z_repr => k_is)

