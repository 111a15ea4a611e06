import PyProof.Rows.All
import Wide.All
import OpenK.AllK
import Wide.FinOn
import HandS.ForMost
import HandS.Style
import HandS.Wide
import HandS.Flow
import KE.KExcInit
import HandS.ForExc
import HandS.ExcInit
import HandS.ExcIs
import KE.KExcIs
import HandS.IsInst
import HandS.ExcValue
import HandS.TryMany
import HandS.ExcOwn
import HandS.Ends
import PySem.Challenge.RW_turnsfit_k00_errors_and_what_they_keep
set_option Elab.async false
set_option linter.all false
set_option maxRecDepth 100000
set_option maxHeartbeats 8000000
/-! k00, part A: the text by places; the deal of draws: _law_any -/
namespace Kerr
open PySem L2
def top (i : Nat) : Stmt := PySem.Challenge.pw_turnsfit_k00_errors_and_what_they_keep.main.body.getD i (.Pass ⟨0, 0, 0, 0⟩)
abbrev sSource : Stmt := top 16
abbrev sAny : Stmt := top 17
abbrev sOf : Stmt := top 18
abbrev sThing : Stmt := top 19
/-- the deal stands at d: its great cells at c, its blend -/
structure DealAt (H : Hp) (d c : Addr) : Prop where
  ex : ∃ (cs : List Int) (b : Int), H d = some (.lst [.ref c, .int b]) ∧ H c = some (.lst (cs.map V.int)) ∧ (∀ x ∈ cs, 0 ≤ x) ∧ cs.length ≤ 63 ∧ 0 ≤ b ∧ b < 2147483647
/-- all tracked things but the deal's own two stand as before -/
def But (d c : Addr) (H H' : Hp) : Prop := ∀ q o, H q = some o → q ≠ d → q ≠ c → H' q = some o
theorem But.refl {d c : Addr} {H : Hp} : But d c H H := fun _ _ h _ _ => h
theorem But.trans {d c : Addr} {H H1 H2 : Hp} (a : But d c H H1) (b : But d c H1 H2) : But d c H H2 := fun q o h n m => b q o (a q o h n m) n m
/-- a promise of _law_any -/
def spAny : Sp := fun vs H Q _ => ∃ (d c : Addr) (n : Int), vs = [.ref d, .int n] ∧ DealAt H d c ∧ 0 < n ∧ n < 1073741824 ∧
  ∀ (r : Int) (H' : Hp), 0 ≤ r → r < n → DealAt H' d c → But d c H H' → Q (.int r) H'
theorem last_at {l : List Int} {x : Int} : atI ((l ++ [x]).map V.int) (-1) = some (.int x) := by
  have e : (l ++ [x]).map V.int = l.map V.int ++ [V.int x] := by simp
  rw [e]
  unfold atI ixN
  have h1 : ¬ (0 : Int) ≤ -1 := by omega
  have h2 : -(((l.map V.int ++ [V.int x]).length : Nat) : Int) ≤ -1 := by
    rw [List.length_append]
    simp
    omega
  rw [if_neg h1, if_pos h2]
  have e2 : (-1 + (((l.map V.int ++ [V.int x]).length : Nat) : Int)).toNat = (l.map V.int).length := by
    rw [List.length_append]
    simp
    omega
  rw [e2]
  simp
theorem canLayAll_ints : ∀ l : List Int, PyData.canLayAll0 (l.map PyData.int) = true
  | [] => rfl
  | x :: l => by
    have ih := canLayAll_ints l
    rw [List.map_cons]
    unfold PyData.canLayAll0
    rw [ih]
    rfl
theorem depthAll_ints : ∀ l : List Int, PyData.depthAll (l.map PyData.int) = 0
  | [] => rfl
  | x :: l => by
    have ih := depthAll_ints l
    rw [List.map_cons]
    unfold PyData.depthAll
    rw [ih]
    rfl
theorem shaped_ints (l : List Int) : SeqAt.shaped (.list (l.map PyData.int)) = true := by
  unfold SeqAt.shaped PyData.canLay0 PyData.depth
  rw [canLayAll_ints, depthAll_ints]
  rfl
theorem dp_ints {K : PySem.W.Frag} {H : Hp} : ∀ l : List Int, DpAll K H (l.map V.int) (l.map PyData.int)
  | [] => .nil
  | x :: l => .cons (.int x) (dp_ints l)
theorem eqv_nil_nil : PyData.eqv (.list []) (.list []) = true := rfl
theorem eqv_cons_nil {d : PyData} {ds : List PyData} : PyData.eqv (.list (d :: ds)) (.list []) = false := rfl
theorem scAny : FnScope ["deal", "bound", "rest"] ["deal", "bound"] (defScope sAny) := ⟨rfl, rfl, rfl, by decide +kernel, rfl, by decide +kernel, by decide +kernel⟩
structure AnyTxt (K : PySem.W.Frag) (mg : Str → Option Value) : Prop where
  int : mg "int" = none
section
variable {P : Program} {w : World} {K : PySem.W.Frag} {mg : Str → Option Value} {base : Heap}
theorem ok_any {f : Addr} {fd : FuncData} (F : Fun K "_law_any" "_law_any" sAny f fd) (T : AnyTxt K mg) : FnOk P w K mg base CX0 1 f fd ["deal", "bound"] spAny := by
  refine F.ok scAny (fun vs H Q E h => ?_) (fun cdv A outer s H vs Q E hr h => ?_)
  · obtain ⟨d, c, n, rfl, _⟩ := h
    rfl
  · obtain ⟨d, c, n, rfl, D, n0, n1, k⟩ := h
    refine ⟨_, pss_cons (ps_while PassesOwn.never
        (PW.pt (pw_and (pt_cmpR (op_neD hr.units) (pe_ix ix_list (pv 0) pe_int (fun _ _ => rfl)) (pe_lst pa_nil) (nomark _))
          (pw_and1 (pt_cmpR op_eq (pe_ix ix_list (pe_ix ix_list (pv 0) pe_int (fun _ _ => rfl)) (pe_un un_neg pe_int) (fun _ _ => rfl)) pe_int (nomark _)))))
        (pss_one (ps_expr (pe_bm0 PySem.F.plainAttrs_list PySem.F.slot_list_pop PySem.F.type_list_pop mt_pop (pe_ix ix_list (pv 0) pe_int (fun _ _ => rfl))))))
      (pss_cons (ps_if (pt_cmpR (op_neD hr.units) (pe_ix ix_list (pv 0) pe_int (fun _ _ => rfl)) (pe_lst pa_nil) (nomark _))
        (pss_cons (ps_set (i := 2) scAny.nd rfl (Or.inl rfl) (pe_callTy call_int1 (by rfl) T.int (by decide +kernel) (pa_cons (pe_bm0 PySem.F.plainAttrs_list PySem.F.slot_list_pop PySem.F.type_list_pop mt_pop (pe_ix ix_list (pv 0) pe_int (fun _ _ => rfl))) pa_nil)))
        (pss_cons (ps_expr (pe_bm PySem.F.plainAttrs_list PySem.F.slot_list_append PySem.F.type_list_append mt_append (pe_ix ix_list (pv 0) pe_int (fun _ _ => rfl)) (pa_cons (pe_op op_fdivW (pv 2) (pv 1)) pa_nil)))
        (pss_one (ps_ret (pe_op op_mod (pv 2) (pv 1))))))
        pss_nil)
      (pss_cons (ps_asg (pe_op op_mod (pe_callTy call_int1 (by rfl) T.int (by decide +kernel) (pa_cons (pe_op op_add (pe_op op_mul (pe_ix ix_list (pv 0) pe_int (fun _ _ => rfl)) pe_int) pe_int) pa_nil)) pe_int) (pg_sub (pv 0) pe_int set_list))
      (pss_one (ps_ret (pe_op op_mod (pe_callTy call_int1 (by rfl) T.int (by decide +kernel) (pa_cons (pe_op op_fdiv (pe_ix ix_list (pv 0) pe_int (fun _ _ => rfl)) pe_int) pa_nil)) (pv 1)))))), ?_⟩
    obtain ⟨cs0, b0, hd0, hc0, g0, l0, b1, b2⟩ := D.ex
    refine ⟨fun m σ H1 => ∃ (cs : List Int), σ = [some (.ref d), some (.int n), none] ∧ m = cs.length ∧ H1 d = some (.lst [.ref c, .int b0]) ∧ H1 c = some (.lst (cs.map V.int)) ∧ (∀ x ∈ cs, 0 ≤ x) ∧ cs.length ≤ 63 ∧ But d c H H1,
      ⟨cs0.length, cs0, rfl, rfl, hd0, hc0, g0, l0, But.refl⟩, ?_⟩
    rintro m σ H1 ⟨cs, rfl, rfl, hd, hc, g, l, bu⟩
    have dc : d ≠ c := by
      intro e
      subst e
      rw [hd] at hc
      have z := Option.some.inj hc
      injection z with z
      cases cs with
      | nil => cases z
      | cons x r => cases z
    -- deal[0] != []
    refine ⟨_, rfl, _, _, _, _, rfl, rfl, SqL.of hd, atI_nat (j := 0) rfl, Nat.zero_le _, fun p hp => ?_⟩
    have pd : d ≠ p := ne_of_none hd hp
    have pc : c ≠ p := ne_of_none hc hp
    have hd' : (upd H1 p (.lst [])) d = some (.lst [.ref c, .int b0]) := by rw [upd_ne pd]; exact hd
    have hc' : (upd H1 p (.lst [])) c = some (.lst (cs.map V.int)) := by rw [upd_ne pc]; exact hc
    have bu' : But d c H (upd H1 p (.lst [])) := fun q o hq n1 n2 => by
      have z := bu q o hq n1 n2
      rw [upd_ne (ne_of_none z hp)]
      exact z
    refine ⟨_, _, .lst (SqL.of hc') (dp_ints cs), .lst (SqL.of upd_same) .nil, shaped_ints cs, shaped_ints [], _, rfl, ?_⟩
    rcases List.eq_nil_or_concat cs with e | ⟨cs', x, e⟩
    · subst e
      refine iteF (iteF ?_)
      -- deal[0] != [] again: no
      refine ⟨_, rfl, _, _, _, _, rfl, rfl, SqL.of hd', atI_nat (j := 0) rfl, Nat.zero_le _, fun p2 hp2 => ?_⟩
      have qd : d ≠ p2 := ne_of_none hd' hp2
      have qc : c ≠ p2 := ne_of_none hc' hp2
      have hd2 : (upd (upd H1 p (.lst [])) p2 (.lst [])) d = some (.lst [.ref c, .int b0]) := by rw [upd_ne qd]; exact hd'
      have hc2 : (upd (upd H1 p (.lst [])) p2 (.lst [])) c = some (.lst []) := by rw [upd_ne qc]; exact hc'
      have bu2 : But d c H (upd (upd H1 p (.lst [])) p2 (.lst [])) := fun q o hq n1 n2 => by
        have z := bu' q o hq n1 n2
        rw [upd_ne (ne_of_none z hp2)]
        exact z
      refine ⟨_, _, .lst (SqL.of hc2) .nil, .lst (SqL.of upd_same) .nil, shaped_ints [], shaped_ints [], _, rfl, iteF ?_⟩
      -- deal[1] = int(deal[1] * 48271 + 41) % 2147483647
      generalize upd (upd H1 p (.lst [])) p2 (.lst []) = H3 at hd2 hc2 bu2 ⊢
      refine ⟨_, rfl, _, _, _, _, rfl, rfl, SqL.of hd2, atI_nat (j := 1) rfl, _, _, rfl, rfl, .inr ⟨by decide, by decide⟩, _, _, rfl, rfl, .inl ⟨_, rfl, _, _, rfl, rfl, (by show (0 : Int) < 2147483647; decide), ?_⟩⟩
      refine ⟨_, rfl, _, _, _, 1, rfl, rfl, hd2, rfl, ?_⟩
      refine ⟨_, rfl, _, _, _, _, rfl, rfl, SqL.of upd_same, atI_nat (j := 1) rfl, _, _, rfl, rfl, ⟨by decide, by decide⟩, .inl ⟨_, rfl, _, rfl, _, _, rfl, rfl, n0, ?_⟩⟩
      refine k _ _ (Int.emod_nonneg _ (by omega)) (Int.emod_lt_of_pos _ n0) ⟨[], _, upd_same, by rw [upd_ne (Ne.symm dc)]; exact hc2, by simp, by simp, Int.emod_nonneg _ (by decide), Int.emod_lt_of_pos _ (by decide)⟩ ?_
      intro q o hq n1 n2
      rw [upd_ne n1]
      exact bu2 q o hq n1 n2
    · rw [List.concat_eq_append] at e
      subst e
      have ec : (cs' ++ [x]).map V.int = cs'.map V.int ++ [V.int x] := by simp
      have e1 : PyData.eqv (.list ((cs' ++ [x]).map PyData.int)) (.list []) = false := by
        cases cs' with
        | nil => rfl
        | cons y r => rfl
      have gx : 0 ≤ x := g x (by simp)
      have lx : cs'.length + 1 ≤ 63 := by simpa using l
      rw [e1]
      refine iteT ?_
      -- deal[0][-1] == 0
      refine ⟨_, rfl, _, _, _, _, rfl, rfl, SqL.of hd', atI_nat (j := 0) rfl, _, rfl, _, _, _, _, rfl, rfl, SqL.of hc', last_at, rfl, _, rfl, ?_⟩
      by_cases hx : x = 0
      · subst hx
        refine iteT ?_
        refine ⟨fun σ' H' => σ' = [some (.ref d), some (.int n), none] ∧ H' d = some (.lst [.ref c, .int b0]) ∧ H' c = some (.lst (cs'.map V.int)) ∧ But d c H H', fun σ' H' ⟨e1, e2, e3, e4⟩ => ⟨cs'.length, by simp, cs', e1, rfl, e2, e3, fun y hy => g y (by simp [hy]), by omega, e4⟩, ?_⟩
        refine ⟨_, rfl, _, _, _, _, rfl, rfl, SqL.of hd', atI_nat (j := 0) rfl, .inl ⟨rfl, _, SqL.of hc'⟩, _, _, V.int 0, rfl, rfl, hc', (by rw [ec]; simp), rfl, ?_, ?_, ?_⟩
        · rw [upd_ne dc]
          exact hd'
        · rw [upd_same, ec, List.dropLast_concat]
        · intro q o hq n1 n2
          rw [upd_ne n2]
          exact bu' q o hq n1 n2
      · have dx : decide (V.int x = V.int 0) = false := decide_eq_false fun z => hx (V.int.inj z)
        rw [dx]
        refine iteF ?_
        -- deal[0] != []: yes
        refine ⟨_, rfl, _, _, _, _, rfl, rfl, SqL.of hd', atI_nat (j := 0) rfl, Nat.zero_le _, fun p2 hp2 => ?_⟩
        have qd : d ≠ p2 := ne_of_none hd' hp2
        have qc : c ≠ p2 := ne_of_none hc' hp2
        have hd2 : (upd (upd H1 p (.lst [])) p2 (.lst [])) d = some (.lst [.ref c, .int b0]) := by rw [upd_ne qd]; exact hd'
        have hc2 : (upd (upd H1 p (.lst [])) p2 (.lst [])) c = some (.lst ((cs' ++ [x]).map V.int)) := by rw [upd_ne qc]; exact hc'
        have bu2 : But d c H (upd (upd H1 p (.lst [])) p2 (.lst [])) := fun q o hq n1 n2 => by
          have z := bu' q o hq n1 n2
          rw [upd_ne (ne_of_none z hp2)]
          exact z
        refine ⟨_, _, .lst (SqL.of hc2) (dp_ints _), .lst (SqL.of upd_same) .nil, shaped_ints _, shaped_ints [], _, rfl, ?_⟩
        rw [e1]
        refine iteT ?_
        generalize upd (upd H1 p (.lst [])) p2 (.lst []) = H3 at hd2 hc2 bu2 ⊢
        -- rest = int(deal[0].pop())
        refine ⟨_, rfl, _, _, _, _, rfl, rfl, SqL.of hd2, atI_nat (j := 0) rfl, .inl ⟨rfl, _, SqL.of hc2⟩, _, _, .int x, rfl, rfl, hc2, (by rw [ec]; simp), .inl ⟨_, rfl, ?_⟩⟩
        have hd3 : ∀ o, (upd H3 c o) d = some (.lst [.ref c, .int b0]) := fun o => by rw [upd_ne dc]; exact hd2
        have ed : ((cs' ++ [x]).map V.int).dropLast = cs'.map V.int := by rw [ec, List.dropLast_concat]
        rw [ed]
        -- deal[0].append(rest // bound)
        refine ⟨_, rfl, _, _, _, _, rfl, rfl, SqL.of (hd3 _), atI_nat (j := 0) rfl, .inl ⟨rfl, _, SqL.of upd_same⟩, _, rfl, _, rfl, _, _, rfl, rfl, wide_div n0 (b := 31) (by omega) (by decide) (by decide), _, _, _, rfl, rfl, upd_same, small1000 (by simp; omega), ?_⟩
        refine ⟨_, rfl, _, rfl, _, _, rfl, rfl, n0, ?_⟩
        rw [upd_upd]
        refine k _ _ (Int.emod_nonneg _ (by omega)) (Int.emod_lt_of_pos _ n0) ⟨cs' ++ [x / n], b0, by rw [upd_ne dc]; exact hd2, by rw [upd_same]; simp, ?_, by simp; omega, b1, b2⟩ ?_
        · intro y hy
          rcases List.mem_append.mp hy with hy | hy
          · exact g y (by simp [hy])
          · rw [List.mem_singleton] at hy
            subst hy
            exact Int.ediv_nonneg gx (by omega)
        · intro q o hq n1 n2
          rw [upd_ne n2]
          exact bu2 q o hq n1 n2
end
end Kerr

namespace Kerr
open PySem L2
/-- _law_of(deal, some), some a list at a | a text -/
def spOf : Sp := fun vs H Q _ => ∃ (d c : Addr), DealAt H d c ∧
  ((∃ (a : Addr) (xs : List V), vs = [.ref d, .ref a] ∧ H a = some (.lst xs) ∧ a ≠ d ∧ a ≠ c ∧ 0 < xs.length ∧ xs.length < 1000000 ∧
      ∀ (v : V) (H' : Hp), v ∈ xs → DealAt H' d c → But d c H H' → Q v H') ∨
    (∃ z : Str, vs = [.ref d, .str z] ∧ 0 < z.length ∧ z.length < 1000000 ∧ ∀ (ch : Nat) (H' : Hp), ch ∈ z.cps.toList → DealAt H' d c → But d c H H' → Q (.str ⟨#[ch]⟩) H'))
theorem scOf : FnScope ["deal", "some"] ["deal", "some"] (defScope sOf) := ⟨rfl, rfl, rfl, by decide +kernel, rfl, by decide +kernel, by decide +kernel⟩
structure OfTxt (K : PySem.W.Frag) (mg : Str → Option Value) (fAny : Addr) : Prop where
  len : mg "len" = none
  any : mg "_law_any" = some (.ref fAny)
  kAny : PySem.W.keepIn K (.ref fAny) = true
section
variable {P : Program} {w : World} {K : PySem.W.Frag} {mg : Str → Option Value} {base : Heap}
theorem ok_of {f fA : Addr} {fd fdA : FuncData} (F : Fun K "_law_of" "_law_of" sOf f fd) (T : OfTxt K mg fA) (G : FnOk P w K mg base CX0 1 fA fdA ["deal", "bound"] spAny) (bA : Binds K fdA ["deal", "bound"] []) :
    FnOk P w K mg base CX0 2 f fd ["deal", "some"] spOf := by
  refine F.ok scOf (fun vs H Q E h => ?_) (fun cdv A outer s H vs Q E hr h => ?_)
  · obtain ⟨d, c, _, ⟨a, xs, rfl, _⟩ | ⟨z, rfl, _⟩⟩ := h <;> rfl
  · obtain ⟨d, c, D, h⟩ := h
    rcases h with ⟨a, xs, rfl, ha, nd, nc, l0, l1, k⟩ | ⟨z, rfl, l0, l1, k⟩
    · refine ⟨_, pss_one (ps_ret (pe_ix ix_list (pv 1) (pe_call G hr rfl T.any T.kAny bA .nil pass0 (pa_cons (pv 0) (pa_cons (pe_callB call_len_seq (by rfl) T.len PySem.boot_len (pa_cons (pv 1) pa_nil)) pa_nil))) (fun _ _ => rfl))), ?_⟩
      refine ⟨_, rfl, _, rfl, _, rfl, _, _, rfl, .inl (SqL.of ha), d, c, _, rfl, D, by omega, by omega, fun r H' r0 r1 D' bu => ?_⟩
      have ha' := bu a _ ha nd nc
      obtain ⟨j, rfl⟩ := Int.eq_ofNat_of_zero_le r0
      have hj : j < xs.length := by omega
      refine ⟨_, _, _, xs[j], rfl, rfl, SqL.of ha', atI_nat (by simp [hj]), k _ _ (List.getElem_mem hj) D' bu⟩
    · refine ⟨_, pss_one (ps_ret (pe_ix ix_str (pv 1) (pe_call G hr rfl T.any T.kAny bA .nil pass0 (pa_cons (pv 0) (pa_cons (pe_callB call_len_str (by rfl) T.len PySem.boot_len (pa_cons (pv 1) pa_nil)) pa_nil))) (fun _ _ => rfl))), ?_⟩
      refine ⟨_, rfl, _, rfl, _, rfl, _, rfl, (by show z.length ≤ sizeLine; rw [sizeLine_eq]; omega), d, c, _, rfl, D, by omega, by omega, fun r H' r0 r1 D' bu => ?_⟩
      obtain ⟨j, rfl⟩ := Int.eq_ofNat_of_zero_le r0
      have hz : z.length = z.cps.toList.length := by
        show z.cps.size = _
        simp
      have hj : j < z.cps.toList.length := by omega
      refine ⟨_, _, z.cps.toList[j], rfl, rfl, (by show z.length ≤ sizeLine; rw [sizeLine_eq]; omega), atI_nat (by rw [List.getElem?_eq_getElem hj]), k _ _ (List.getElem_mem hj) D' bu⟩
end
end Kerr

namespace Kerr
open PySem L2
def spSource (K : PySem.W.Frag) : Sp := fun vs H Q _ => ∃ (a : Addr) (ns : List Int), vs = [.ref a] ∧ SqL K H a (ns.map V.int) ∧ ns.length ≤ 63 ∧
  ∀ (d c : Addr) (H' : Hp), DealAt H' d c → Same H H' → H d = none → H c = none → Q (.ref d) H'
theorem scSource : FnScope ["script", "cells", "blend", "cell"] ["script"] (defScope sSource) := ⟨rfl, rfl, rfl, by decide +kernel, rfl, by decide +kernel, by decide +kernel⟩
structure SourceTxt (K : PySem.W.Frag) (mg : Str → Option Value) : Prop where
  int : mg "int" = none
  abs : mg "abs" = none
def absI (i : Int) : Int := if i < 0 then -i else i
theorem absI_nn (i : Int) : 0 ≤ absI i := by unfold absI; split <;> omega
theorem take_more {α : Type} : ∀ {l : List α} {i : Nat} {x : α}, l[i]? = some x → l.take (i + 1) = l.take i ++ [x]
  | [], i, x, h => by simp at h
  | a :: l, 0, x, h => by
    have e : a = x := Option.some.inj h
    subst e
    rfl
  | a :: l, i + 1, x, h => by
    have ih := take_more (l := l) (i := i) (x := x) h
    show a :: l.take (i + 1) = a :: l.take i ++ [x]
    rw [ih]
    rfl
theorem cut_ints (ns : List Int) (lo hi : Option Int) : ∃ ms : List Int, cutV (ns.map V.int) lo hi = ms.map V.int ∧ ms.length ≤ ns.length := by
  refine ⟨(ns.drop (HT.sIx (ns.map V.int).length 0 lo)).take (HT.sIx (ns.map V.int).length (ns.map V.int).length hi - HT.sIx (ns.map V.int).length 0 lo), ?_, ?_⟩
  · unfold cutV
    simp [List.map_take, List.map_drop]
  · rw [List.length_take, List.length_drop]
    omega
theorem map_at {l : List Int} {i : Nat} {x : V} (h : (l.map V.int)[i]? = some x) : ∃ z, l[i]? = some z ∧ x = V.int z := by
  rw [List.getElem?_map] at h
  cases e : l[i]? with
  | none =>
    rw [e] at h
    cases h
  | some z =>
    rw [e] at h
    exact ⟨z, rfl, (Option.some.inj h).symm⟩
section
variable {P : Program} {w : World} {K : PySem.W.Frag} {mg : Str → Option Value} {base : Heap}
theorem ok_source {f : Addr} {fd : FuncData} (F : Fun K "_law_source" "_law_source" sSource f fd) (T : SourceTxt K mg) : FnOk P w K mg base CX0 1 f fd ["script"] (spSource K) := by
  refine F.ok scSource (fun vs H Q E h => ?_) (fun cdv A outer s H vs Q E hr h => ?_)
  · obtain ⟨a, ns, rfl, _⟩ := h
    rfl
  · obtain ⟨a, ns, rfl, hS, l, k⟩ := h
    refine ⟨_, pss_cons (ps_setLc (i := 1) (own := [("cell", 3)]) (g := gName 3) (tt := tYes) (by rfl) scSource.nd rfl rfl (sw_true rfl rfl rfl (by decide +kernel)) (pi_list (pe_slice sl_list (pv 0) po_none (po_some pe_int)))
        (blkOk_by (own := [("cell", 3)]) (N := ["script", "cells", "blend", "cell"]) (sc := defScope sSource) (by decide +kernel)) (fun _ _ _ _ _ => pg_name (i := 3) scSource.nd rfl (Or.inl rfl)) (fun _ _ _ _ _ => pts_nil)
        (fun _ _ _ _ _ => pe_callB call_abs (by rfl) T.abs (by decide +kernel) (pa_cons (pe_callTy call_int1 (by rfl) T.int (by decide +kernel) (pa_cons (pv 3) pa_nil)) pa_nil)))
      (pss_cons (ps_set (i := 2) scSource.nd rfl (Or.inl rfl) pe_int)
      (pss_cons (ps_for PassesOwn.never rfl (pi_list (pv 1)) (pg_name (i := 3) scSource.nd rfl (Or.inl rfl))
        (pss_one (ps_set (i := 2) scSource.nd rfl (Or.inl rfl) (pe_op op_mod (pe_callTy call_int1 (by rfl) T.int (by decide +kernel) (pa_cons (pe_op op_add (pe_op op_add (pe_op op_mul (pv 2) pe_int) (pe_op op_mod (pv 3) pe_int)) pe_int) pa_nil)) pe_int))))
      (pss_one (ps_ret (pe_lst (pa_cons (pe_revL (pe_lc (own := [("cell", 3)]) (g := gName 3) (by rfl) scSource.nd (pi_list (pv 1))
          (blkOk_by (own := [("cell", 3)]) (N := ["script", "cells", "blend", "cell"]) (sc := defScope sSource) (by decide +kernel)) (fun _ _ _ _ _ => pg_name (i := 3) scSource.nd rfl (Or.inl rfl))
          (fun _ _ _ _ _ => pts_one (pt_cmpR op_ge (pv 3) (pe_op op_pow pe_int pe_int) (nomark _))) (fun _ _ _ _ _ => pv 3))) (pa_cons (pv 2) pa_nil))))))), ?_⟩
    obtain ⟨ms, em, lm⟩ := cut_ints ns none (some 63)
    refine ⟨_, rfl, 63, rfl, _, _, rfl, hS, fun p hp => ⟨p, rfl, ⟨_, SqL.of upd_same⟩, fun D hD => ?_⟩⟩
    have pD : p ≠ D := ne_of_none upd_same hD
    have hD0 : H D = none := by
      have z := hD
      rw [upd_ne (Ne.symm pD)] at z
      exact z
    rw [em] at hD ⊢
    refine lc_list (K := K) (a := p) (xs := ms.map V.int) (fun i H1 => Same H H1 ∧ H1 p = some (.lst (ms.map V.int)) ∧ H1 D = some (.lst (((ms.take i).map absI).map V.int))) ⟨?_, ?_, upd_same⟩ (fun i H1 _ q => SqL.of q.2.1) ?_ ?_
    · intro q o hq
      rw [upd_ne (ne_of_none hq hD0), upd_ne (ne_of_none hq hp)]
      exact hq
    · rw [upd_ne pD, upd_same]
    · rintro i x H1 hx ⟨q1, q2, q3⟩
      obtain ⟨z, hz, rfl⟩ := map_at hx
      have li : i < ms.length := (List.getElem?_eq_some_iff.mp hz).1
      refine ⟨rfl, ?_⟩
      refine ⟨_, rfl, .inl ⟨_, rfl, _, rfl, _, q3, small1000 (by simp; omega), ?_, ?_, ?_⟩⟩
      · intro q o hq
        rw [upd_ne (ne_of_none hq hD0)]
        exact q1 q o hq
      · rw [upd_ne pD]
        exact q2
      · rw [upd_same, take_more hz]
        simp [absI]
    · rintro H1 ⟨q1, q2, q3⟩
      rw [List.length_map, List.take_length] at q3
      have gc : ∀ x ∈ ms.map absI, 0 ≤ x := fun x hx => by
        obtain ⟨y, _, rfl⟩ := List.mem_map.mp hx
        exact absI_nn y
      have lc : (ms.map absI).length ≤ 63 := by rw [List.length_map]; omega
      generalize ms.map absI = cs at q3 gc lc
      -- the blend
      refine ⟨_, rfl, D, rfl, ⟨_, SqL.of q3⟩, for_list (K := K) (a := D) (xs := cs.map V.int) (fun i σ H2 => ∃ (b : Int) (v : Option V), σ = [some (.ref a), some (.ref D), some (.int b), v] ∧ H2 = H1 ∧ 0 ≤ b ∧ b < 2147483647)
        ⟨1400061, none, rfl, rfl, by decide, by decide⟩ (fun i σ H2 _ ⟨_, _, _, e, _⟩ => by rw [e]; exact SqL.of q3) ?_ ?_⟩
      · rintro i x σ H2 hx ⟨b, v, rfl, rfl, b0, b1⟩
        obtain ⟨z, hz, rfl⟩ := map_at hx
        refine ⟨_, rfl, _, _, rfl, rfl, .inr ⟨by decide, by decide⟩, _, rfl, _, _, rfl, rfl, (by show (0 : Int) < 2147483549; decide), _, _, rfl, rfl, _, _, rfl, rfl, .inl ⟨_, rfl, _, _, rfl, rfl, (by show (0 : Int) < 2147483647; decide), ?_⟩⟩
        exact ⟨_, _, rfl, rfl, Int.emod_nonneg _ (by decide), Int.emod_lt_of_pos _ (by decide)⟩
      · rintro σ H2 ⟨b, v, rfl, rfl, b0, b1⟩
        refine ⟨_, rfl, D, rfl, ⟨_, SqL.of q3⟩, fun D2 hD2 => ?_⟩
        have n2 : D ≠ D2 := ne_of_none q3 hD2
        refine lc_list (K := K) (a := D) (xs := cs.map V.int) (fun i H3 => ∃ fs : List Int, Same H2 H3 ∧ H3 D2 = some (.lst (fs.map V.int)) ∧ (∀ x ∈ fs, 0 ≤ x) ∧ fs.length ≤ i) ⟨[], fun q o hq => by rw [upd_ne (ne_of_none hq hD2)]; exact hq, upd_same, by simp, by simp⟩
          (fun i H3 _ ⟨_, s3, _⟩ => SqL.of (s3 _ _ q3)) ?_ ?_
        · rintro i x H3 hx ⟨fs, s3, f3, g3, l3⟩
          obtain ⟨z, hz, rfl⟩ := map_at hx
          have li : i < cs.length := (List.getElem?_eq_some_iff.mp hz).1
          refine ⟨rfl, _, rfl, _, _, rfl, rfl, ⟨by decide, by decide, by decide⟩, _, _, rfl, rfl, _, rfl, ?_⟩
          refine ite2 (fun _ => ?_) (fun _ => ?_)
          · refine ⟨_, rfl, _, f3, small1000 (by simp; omega), fs ++ [z], ?_, ?_, ?_, ?_⟩
            · intro q o hq
              rw [upd_ne (ne_of_none hq hD2)]
              exact s3 q o hq
            · rw [upd_same]
              simp
            · intro y hy
              rcases List.mem_append.mp hy with hy | hy
              · exact g3 y hy
              · rw [List.mem_singleton] at hy
                subst hy
                exact gc _ (List.mem_of_getElem? hz)
            · simp
              omega
          · exact ⟨fs, s3, f3, g3, by omega⟩
        · rintro H3 ⟨fs, s3, f3, g3, l3⟩
          rw [List.length_map] at l3
          refine ⟨D2, _, rfl, SqL.of f3, fun r hr => ⟨_, rfl, (by show 2 ≤ sizeLine; decide), fun t ht => ?_⟩⟩
          have nt : r ≠ t := ne_of_none upd_same ht
          have s4 : Same H (upd (upd H3 r (.lst (fs.map V.int).reverse)) t (.lst [.ref r, .int b])) := fun q o hq => by
            have z := s3 _ _ (q1 q o hq)
            have zr := ne_of_none z hr
            rw [upd_ne (ne_of_none (by rw [upd_ne zr]; exact z) ht), upd_ne zr]
            exact z
          refine k t r _ ⟨fs.reverse, b, upd_same, ?_, ?_, ?_, b0, b1⟩ s4 ?_ ?_
          · rw [upd_ne nt, upd_same, List.map_reverse]
          · intro x hx
            exact g3 x (List.mem_reverse.mp hx)
          · rw [List.length_reverse]
            omega
          · have ht3 : H3 t = none := by
              have z := ht
              rw [upd_ne (Ne.symm nt)] at z
              exact z
            exact (q1.trans s3).free ht3
          · exact (q1.trans s3).free hr
end
end Kerr

namespace Kerr
open PySem L2
/-! data whose objects are all tracked, and none of them among N -/
mutual
inductive Dn (N : Addr → Prop) (H : Hp) : V → PyData → Prop
  | non : Dn N H .non .none
  | bl (b : Bool) : Dn N H (.bl b) (.bool b)
  | int (i : Int) : Dn N H (.int i) (.int i)
  | str (x : Str) : Dn N H (.str x) (.str x)
  | lst {a : Addr} {xs : List V} {ds : List PyData} : H a = some (.lst xs) → ¬ N a → DnAll N H xs ds → Dn N H (.ref a) (.list ds)
  | tup {a : Addr} {xs : List V} {ds : List PyData} : H a = some (.tup xs) → ¬ N a → DnAll N H xs ds → Dn N H (.ref a) (.tuple ds)
inductive DnAll (N : Addr → Prop) (H : Hp) : List V → List PyData → Prop
  | nil : DnAll N H [] []
  | cons {v : V} {vs : List V} {d : PyData} {ds : List PyData} : Dn N H v d → DnAll N H vs ds → DnAll N H (v :: vs) (d :: ds)
end
mutual
theorem Dn.mono {N N' : Addr → Prop} {H H' : Hp} (hn : ∀ a, N' a → N a) (hh : ∀ a o, ¬ N a → H a = some o → H' a = some o) : ∀ (d : PyData) (v : V), Dn N H v d → Dn N' H' v d
  | .none, _, h => by
    cases h
    exact .non
  | .bool b, _, h => by
    cases h
    exact .bl b
  | .int i, _, h => by
    cases h
    exact .int i
  | .str x, _, h => by
    cases h
    exact .str x
  | .list ds, _, h => by
    cases h with
    | lst e n a => exact .lst (hh _ _ n e) (fun z => n (hn _ z)) (DnAll.mono hn hh ds _ a)
  | .tuple ds, _, h => by
    cases h with
    | tup e n a => exact .tup (hh _ _ n e) (fun z => n (hn _ z)) (DnAll.mono hn hh ds _ a)
  | .dict _, _, h => by cases h
theorem DnAll.mono {N N' : Addr → Prop} {H H' : Hp} (hn : ∀ a, N' a → N a) (hh : ∀ a o, ¬ N a → H a = some o → H' a = some o) : ∀ (ds : List PyData) (vs : List V), DnAll N H vs ds → DnAll N' H' vs ds
  | [], _, h => by
    cases h
    exact .nil
  | d :: ds, _, h => by
    cases h with
    | cons a b => exact .cons (Dn.mono hn hh d _ a) (DnAll.mono hn hh ds _ b)
end
mutual
theorem Dn.dp {N : Addr → Prop} {K : PySem.W.Frag} {H : Hp} : ∀ (d : PyData) (v : V), Dn N H v d → Dp K H v d
  | .none, _, h => by
    cases h
    exact .non
  | .bool b, _, h => by
    cases h
    exact .bl b
  | .int i, _, h => by
    cases h
    exact .int i
  | .str x, _, h => by
    cases h
    exact .str x
  | .list ds, _, h => by
    cases h with
    | lst e n a => exact .lst (SqL.of e) (DnAll.dp ds _ a)
  | .tuple ds, _, h => by
    cases h with
    | tup e n a => exact .tup (SqT.of e) (DnAll.dp ds _ a)
  | .dict _, _, h => by cases h
theorem DnAll.dp {N : Addr → Prop} {K : PySem.W.Frag} {H : Hp} : ∀ (ds : List PyData) (vs : List V), DnAll N H vs ds → DpAll K H vs ds
  | [], _, h => by
    cases h
    exact .nil
  | d :: ds, _, h => by
    cases h with
    | cons a b => exact .cons (Dn.dp d _ a) (DnAll.dp ds _ b)
end
theorem DnAll.append {N : Addr → Prop} {H : Hp} {w : V} {e : PyData} (h : Dn N H w e) : ∀ {vs : List V} {ds : List PyData}, DnAll N H vs ds → DnAll N H (vs ++ [w]) (ds ++ [e])
  | _, _, .nil => .cons h .nil
  | _, _, .cons a b => .cons a (DnAll.append h b)
theorem DnAll.len {N : Addr → Prop} {H : Hp} : ∀ {vs : List V} {ds : List PyData}, DnAll N H vs ds → vs.length = ds.length
  | _, _, .nil => rfl
  | _, _, .cons _ b => by rw [List.length_cons, List.length_cons, DnAll.len b]
/-! how great such data is -/
def Bd : Nat → Nat
  | 0 => 100
  | n + 1 => 3 * (Bd n + 2) + 10
structure Okd (n : Nat) (d : PyData) : Prop where
  lay : d.canLay0 = true
  dep : d.depth ≤ n
  sh : d.showable = true
  len : d.shown.length ≤ Bd n
theorem okd_up {n : Nat} {d : PyData} (h : Okd n d) : Okd (n + 1) d := ⟨h.lay, Nat.le_succ_of_le h.dep, h.sh, by have := h.len; show _ ≤ 3 * (Bd n + 2) + 10; omega⟩
theorem okd_all {n : Nat} : ∀ (ds : List PyData), (∀ x ∈ ds, Okd n x) → PyData.canLayAll0 ds = true ∧ PyData.depthAll ds ≤ n ∧ PyData.showableAll ds = true ∧ piled (PyData.shownAll ds) ≤ ds.length * (Bd n + 2)
  | [], _ => by
    refine ⟨rfl, ?_, rfl, ?_⟩
    · unfold PyData.depthAll
      exact Nat.zero_le _
    · unfold PyData.shownAll
      exact Nat.zero_le _
  | x :: ds, h => by
    obtain ⟨a, b, c, e⟩ := okd_all ds fun y hy => h y (List.mem_cons_of_mem _ hy)
    have hx := h x (List.mem_cons_self ..)
    have l := hx.len
    refine ⟨?_, ?_, ?_, ?_⟩
    · unfold PyData.canLayAll0
      rw [hx.lay, a]
      rfl
    · unfold PyData.depthAll
      have := hx.dep
      omega
    · unfold PyData.showableAll
      rw [hx.sh, c]
      rfl
    · unfold PyData.shownAll
      rw [piled_cons, List.length_cons, Nat.succ_mul]
      omega
theorem join_le (ts : List Str) : (Str.join ", " ts).length ≤ piled ts := by
  by_cases h : ts = []
  · subst h
    exact Nat.zero_le _
  · have := join_length_add ts h
    omega
theorem okd_list {n : Nat} {ds : List PyData} (h : ∀ x ∈ ds, Okd n x) (l : ds.length ≤ 3) : Okd (n + 1) (.list ds) := by
  obtain ⟨a, b, c, e⟩ := okd_all ds h
  refine ⟨?_, ?_, ?_, ?_⟩
  · unfold PyData.canLay0
    exact a
  · unfold PyData.depth
    omega
  · unfold PyData.showable
    exact c
  · unfold PyData.shown
    rw [listText_eq_join, strLen_append, strLen_append]
    have j := join_le (PyData.shownAll ds)
    have e1 : (("[" : String) : Str).length = 1 := rfl
    have e2 : (("]" : String) : Str).length = 1 := rfl
    rw [e1, e2]
    have m : ds.length * (Bd n + 2) ≤ 3 * (Bd n + 2) := Nat.mul_le_mul_right _ l
    show _ ≤ 3 * (Bd n + 2) + 10
    omega
theorem okd_tup {n : Nat} {ds : List PyData} (h : ∀ x ∈ ds, Okd n x) (l : ds.length ≤ 3) : Okd (n + 1) (.tuple ds) := by
  obtain ⟨a, b, c, e⟩ := okd_all ds h
  refine ⟨?_, ?_, ?_, ?_⟩
  · unfold PyData.canLay0
    exact a
  · unfold PyData.depth
    omega
  · unfold PyData.showable
    exact c
  · unfold PyData.shown tupleText
    rw [strLen_append, strLen_append]
    have j := join_le (PyData.shownAll ds)
    have e1 : (("(" : String) : Str).length = 1 := rfl
    have e2 : ((if (PyData.shownAll ds).length == 1 then ",)" else ")" : String) : Str).length ≤ 2 := by split <;> decide
    rw [e1]
    have m : ds.length * (Bd n + 2) ≤ 3 * (Bd n + 2) := Nat.mul_le_mul_right _ l
    show _ ≤ 3 * (Bd n + 2) + 10
    omega
end Kerr

namespace Kerr
open PySem L2
/-- tracked -/
def Trk (H : Hp) : Addr → Prop := fun a => ∃ o, H a = some o
/-- a plain short text -/
structure Plain (n : Nat) (z : Str) : Prop where
  len : z.length ≤ n
  low : ∀ ch ∈ z.cps.toList, ch < 128
theorem cps_app (a b : Str) : (a ++ b).cps.toList = a.cps.toList ++ b.cps.toList := by
  show (a.cps ++ b.cps).toList = _
  simp
theorem join_plain : ∀ (ys : List Str), (∀ y ∈ ys, Plain 1 y) → Plain ys.length (Str.join (Str.ofString "") ys)
  | [], _ => ⟨Nat.le_refl _, fun ch h => by simp [Str.join, Str.empty] at h⟩
  | [y], h => h y (by simp)
  | y :: y2 :: r, h => by
    have ih := join_plain (y2 :: r) fun x hx => h x (List.mem_cons_of_mem _ hx)
    have hy := h y (by simp)
    have e : Str.join (Str.ofString "") (y :: y2 :: r) = y ++ Str.ofString "" ++ Str.join (Str.ofString "") (y2 :: r) := rfl
    have l0 : (Str.ofString "").length = 0 := by decide
    have t0 : (Str.ofString "").cps.toList = [] := by decide +kernel
    rw [e]
    refine ⟨?_, fun ch hc => ?_⟩
    · rw [strLen_append, strLen_append, l0]
      have h1 := ih.len
      have h2 := hy.len
      simp only [List.length_cons] at h1 ⊢
      omega
    · rw [cps_app, cps_app, t0, List.append_nil] at hc
      rcases List.mem_append.mp hc with hc | hc
      · exact hy.low ch hc
      · exact ih.low ch hc
theorem okd_text {n : Nat} {z : Str} (h : Plain 8 z) : Okd n (.str z) := by
  have base : Okd 0 (.str z) := by
    refine ⟨?_, ?_, rfl, ?_⟩
    · unfold PyData.canLay0
      show (z.cps.all fun x => decide (x < 0x110000)) = true
      rw [Array.all_eq_true']
      intro ch hc
      have := h.low ch (by simpa using hc)
      simp
      omega
    · unfold PyData.depth
      exact Nat.le_refl _
    · unfold PyData.shown
      have r := StrLaws.reprText_len z fun ch hc => by have := h.low ch hc; have : (128 : Nat) ≤ 16 ^ 8 := by decide
                                                       omega
      have := h.len
      show _ ≤ 100
      omega
  induction n with
  | zero => exact base
  | succ n ih => exact okd_up ih
theorem okd_none {n : Nat} : Okd n .none := by
  induction n with
  | zero => exact ⟨rfl, by unfold PyData.depth; exact Nat.le_refl _, rfl, by unfold PyData.shown; decide⟩
  | succ n ih => exact okd_up ih
theorem okd_bool {n : Nat} (b : Bool) : Okd n (.bool b) := by
  induction n with
  | zero => exact ⟨rfl, by unfold PyData.depth; exact Nat.le_refl _, rfl, by unfold PyData.shown; cases b <;> decide⟩
  | succ n ih => exact okd_up ih
theorem okd_int {n : Nat} {i : Int} (h : i.natAbs < 1000000000) : Okd n (.int i) := by
  induction n with
  | zero =>
    refine ⟨rfl, by unfold PyData.depth; exact Nat.le_refl _, ?_, ?_⟩
    · unfold PyData.showable
      have : i.natAbs.log2 ≤ i.natAbs := Nat.log2_le_self _
      have h2 : i.natAbs.log2 < 30 := by
        by_cases z : i.natAbs = 0
        · rw [z]
          decide
        · exact (Nat.log2_lt z).mpr (by omega)
      exact decide_eq_true (by omega)
    · unfold PyData.shown
      have q := int_text_length_le10 (a := i) (k := 9) (by decide) h
      show (Str.ofString (toString i)).length ≤ 100
      rw [ofString_length]
      omega
  | succ n ih => exact okd_up ih
theorem DealAt.new {H : Hp} {d c l : Addr} {o : HO} (h : DealAt H d c) (hl : H l = none) : DealAt (upd H l o) d c := by
  obtain ⟨cs, b, h1, h2, r⟩ := h.ex
  exact ⟨cs, b, by rw [upd_ne (ne_of_none h1 hl)]; exact h1, by rw [upd_ne (ne_of_none h2 hl)]; exact h2, r⟩
theorem DealAt.trk {H : Hp} {d c : Addr} (h : DealAt H d c) : Trk H d ∧ Trk H c := by
  obtain ⟨cs, b, h1, h2, r⟩ := h.ex
  exact ⟨⟨_, h1⟩, ⟨_, h2⟩⟩
theorem But.new {H H1 : Hp} {d c l : Addr} {o : HO} (h : But d c H H1) (hl : H1 l = none) : But d c H (upd H1 l o) := fun q u e n m => by
  have z := h q u e n m
  rw [upd_ne (ne_of_none z hl)]
  exact z
/-- what is tracked stays tracked -/
theorem But.trk {H H1 : Hp} {d c : Addr} (h : But d c H H1) (D : DealAt H1 d c) {a : Addr} (t : Trk H a) : Trk H1 a := by
  obtain ⟨o, e⟩ := t
  by_cases h1 : a = d
  · rw [h1]
    exact D.trk.1
  · by_cases h2 : a = c
    · rw [h2]
      exact D.trk.2
    · exact ⟨o, h a o e h1 h2⟩
end Kerr

namespace Kerr
open PySem L2
/-- _law_thing(deal, n): some data of at most that depth, all its objects new -/
def spThing (n : Nat) : Sp := fun vs H Q _ => ∃ (d c : Addr), vs = [.ref d, .int n] ∧ DealAt H d c ∧
  ∀ (v : V) (dat : PyData) (H' : Hp), Okd n dat → Dn (Trk H) H' v dat → DealAt H' d c → But d c H H' → Q v H'
abbrev nThing : List Str := ["deal", "depth", "form", "parts", "number", "text", "turn"]
theorem scThing : FnScope nThing ["deal", "depth"] (defScope sThing) := ⟨rfl, rfl, rfl, by decide +kernel, rfl, by decide +kernel, by decide +kernel⟩
structure ThingTxt (K : PySem.W.Frag) (mg : Str → Option Value) (fAny fOf fThing : Addr) : Prop where
  range : mg "range" = none
  tuple : mg "tuple" = none
  any : mg "_law_any" = some (.ref fAny)
  kAny : PySem.W.keepIn K (.ref fAny) = true
  of : mg "_law_of" = some (.ref fOf)
  kOf : PySem.W.keepIn K (.ref fOf) = true
  thing : mg "_law_thing" = some (.ref fThing)
  kThing : PySem.W.keepIn K (.ref fThing) = true
theorem signs_low : ∀ ch ∈ (Str.ofString "abcxyz ABZ09.,").cps.toList, ch < 128 := by decide +kernel
theorem But.none {H H' : Hp} {d c l : Addr} (b : But d c H H') (hl : H' l = none) (D : DealAt H' d c) : H l = none := by
  cases e : H l with
  | none => rfl
  | some o =>
    by_cases h1 : l = d
    · subst h1
      obtain ⟨_, z⟩ := D.trk.1
      rw [z] at hl
      cases hl
    · by_cases h2 : l = c
      · subst h2
        obtain ⟨_, z⟩ := D.trk.2
        rw [z] at hl
        cases hl
      · rw [b l o e h1 h2] at hl
        cases hl
theorem DealAt.ne {H : Hp} {d c l : Addr} (D : DealAt H d c) (hl : H l = none) : l ≠ d ∧ l ≠ c := by
  obtain ⟨⟨_, z1⟩, ⟨_, z2⟩⟩ := D.trk
  refine ⟨fun e => ?_, fun e => ?_⟩
  · rw [e, z1] at hl
    cases hl
  · rw [e, z2] at hl
    cases hl
section
variable {P : Program} {w : World} {K : PySem.W.Frag} {mg : Str → Option Value} {base : Heap}
theorem thing_tail {f fA fO fT : Addr} {fdA fdO : FuncData} (T : ThingTxt K mg fA fO fT) (GA : FnOk P w K mg base CX0 1 fA fdA ["deal", "bound"] spAny) (bA : Binds K fdA ["deal", "bound"] [])
    (GO : FnOk P w K mg base CX0 2 fO fdO ["deal", "some"] spOf) (bO : Binds K fdO ["deal", "some"] []) {cdv : Value} {A : Around} {outer : List Env} {s : Shared} {H : Hp} {E : XK}
    (hr : Room 2 (A.deeper (PyProof.Rows.envOfC "_law_thing" (defScope sThing) s.heap.objs.size f cdv))) :
    ∃ t, PSs (cxOf CX0 P w K mg base nThing "_law_thing" (defScope sThing) f cdv A outer s H E).nox ((defBody sThing).drop 2) t ∧
      ∀ (σ : St) (H0 : Hp) (d c : Addr) (Q : VK) (x1 x2 x3 x4 x5 x6 : Option V), σ = [some (.ref d), x1, x2, x3, x4, x5, x6] → DealAt H0 d c →
        (∀ (v : V) (dat : PyData) (H' : Hp), (∀ n, Okd n dat) → (∀ N H2, Dn N H2 v dat) → DealAt H' d c → But d c H0 H' → Q v H') → t { nx := fun _ H' => Q .non H', rt := Q } σ H0 := by
  have hr1 : Room 1 _ := hr.mono (by decide)
  refine ⟨_, pss_cons (ps_set (i := 4) scThing.nd rfl (Or.inl rfl) (pe_call GO hr rfl T.of T.kOf bO .nil pass0 (pa_cons (pv 0) (pa_cons
        (pe_lst (pa_cons pe_int (pa_cons pe_int (pa_cons pe_int (pa_cons pe_int (pa_cons (pe_call GA hr1 rfl T.any T.kAny bA .nil pass0 (pa_cons (pv 0) (pa_cons (pe_op op_pow pe_int pe_int) pa_nil))) pa_nil)))))) pa_nil))))
    (pss_cons (ps_set (i := 5) scThing.nd rfl (Or.inl rfl) (pe_join pe_str
        (pe_lc (own := [("turn", 6)]) (g := gName 6) (tt := tYes) (by rfl) scThing.nd (pi_range1 rfl T.range (pa_cons (pe_call GA hr1 rfl T.any T.kAny bA .nil pass0 (pa_cons (pv 0) (pa_cons pe_int pa_nil))) pa_nil))
          (blkOk_by (own := [("turn", 6)]) (N := nThing) (sc := defScope sThing) (by decide +kernel)) (fun _ _ _ _ _ => pg_name (i := 6) scThing.nd rfl (Or.inl rfl)) (fun _ _ _ _ _ => pts_nil)
          (fun _ _ _ _ _ => pe_call GO hr rfl T.of T.kOf bO .nil pass0 (pa_cons (pv 0) (pa_cons pe_str pa_nil))))))
    (pss_one (ps_ret (pe_call GO hr rfl T.of T.kOf bO .nil pass0 (pa_cons (pv 0) (pa_cons
        (pe_lst (pa_cons pe_non (pa_cons pe_bl (pa_cons pe_bl (pa_cons (pv 4) (pa_cons (pe_op op_sub pe_int (pv 4)) (pa_cons (pv 5) (pa_cons (pv 5) (pa_cons pe_str pa_nil))))))))) pa_nil)))))), ?_⟩
  rintro σ H0 d c Q x1 x2 x3 x4 x5 x6 rfl D k
  -- number = _law_of(deal, [0, 1, 2, 7, _law_any(deal, 10 ** 9)])
  refine ⟨_, rfl, _, rfl, _, _, rfl, rfl, ⟨by decide, by decide, by decide⟩, d, c, _, rfl, D, by decide, by decide, fun r H1 r0 r1 D1 b1 => ⟨(by show 5 ≤ sizeLine; decide), fun l hl => ?_⟩⟩
  have ld : l ≠ d := fun e => by
    subst e
    obtain ⟨o, z⟩ := D1.trk.1
    rw [z] at hl
    cases hl
  have lc : l ≠ c := fun e => by
    subst e
    obtain ⟨o, z⟩ := D1.trk.2
    rw [z] at hl
    cases hl
  refine ⟨d, c, D1.new hl, .inl ⟨l, _, rfl, upd_same, ld, lc, (by show 0 < 5; decide), (by show 5 < 1000000; decide), fun v H2 hv D2 b2 => ?_⟩⟩
  have B2 : But d c H0 H2 := (b1.new hl).trans b2
  obtain ⟨z, rfl, z0, z1⟩ : ∃ z : Int, v = .int z ∧ 0 ≤ z ∧ z < 1000000000 := by
    have r1' : r < 1000000000 := r1
    simp only [List.mem_cons, List.not_mem_nil, or_false] at hv
    rcases hv with rfl | rfl | rfl | rfl | rfl
    · exact ⟨0, rfl, by decide, by decide⟩
    · exact ⟨1, rfl, by decide, by decide⟩
    · exact ⟨2, rfl, by decide, by decide⟩
    · exact ⟨7, rfl, by decide, by decide⟩
    · exact ⟨r, rfl, r0, r1'⟩
  clear hv hl ld lc b1 b2 D1
  -- text = ''.join(..)
  refine ⟨⟨_, rfl⟩, _, rfl, d, c, _, rfl, D2, by decide, by decide, fun j H3 j0 j1 D3 b3 => ⟨_, rfl, by omega, by omega, fun L hL => ?_⟩⟩
  have Ld : L ≠ d := fun e => by
    subst e
    obtain ⟨o, z⟩ := D3.trk.1
    rw [z] at hL
    cases hL
  have Lc : L ≠ c := fun e => by
    subst e
    obtain ⟨o, z⟩ := D3.trk.2
    rw [z] at hL
    cases hL
  refine lc_range (lo := 0) (n := j.toNat) (fun i H4 => ∃ ys : List Str, H4 L = some (.lst (ys.map V.str)) ∧ ys.length = i ∧ (∀ y ∈ ys, Plain 1 y) ∧ DealAt H4 d c ∧ But d c H2 H4) ⟨[], upd_same, rfl, by simp, D3.new hL, b3.new hL⟩ ?_ ?_
  · rintro i H4 hi ⟨ys, y1, y2, y3, D4, b4⟩
    refine ⟨rfl, _, rfl, d, c, D4, .inr ⟨_, rfl, by decide, by decide, fun ch H5 hc D5 b5 => ?_⟩⟩
    have y1' := b5 L _ y1 Ld Lc
    refine ⟨_, y1', small1000 (by rw [List.length_map]; omega), ys ++ [⟨#[ch]⟩], ?_, by simp [y2], ?_, ?_, ?_⟩
    · rw [upd_same]
      simp
    · intro y hy
      rcases List.mem_append.mp hy with hy | hy
      · exact y3 y hy
      · rw [List.mem_singleton] at hy
        subst hy
        refine ⟨Nat.le_refl _, fun c2 h2 => ?_⟩
        have e : c2 = ch := by simpa using h2
        rw [e]
        exact signs_low _ hc
    · obtain ⟨cs, b, h1, h2, r⟩ := D5.ex
      exact ⟨cs, b, by rw [upd_ne (Ne.symm Ld)]; exact h1, by rw [upd_ne (Ne.symm Lc)]; exact h2, r⟩
    · have b6 := b4.trans b5
      have hL2 : H2 L = none := by
        cases e : H2 L with
        | none => rfl
        | some o =>
          have z := b3 L o e Ld Lc
          rw [hL] at z
          cases z
      intro q o hq n m
      rw [upd_ne (ne_of_none hq hL2)]
      exact b6 q o hq n m
  · rintro H4 ⟨ys, y1, y2, y3, D4, b4⟩
    have lj : ys.length ≤ 8 := by omega
    have sm : (ys.map (·.length)).sum + ys.length * (Str.ofString "").length ≤ 16777216 := by
      have l0 : (Str.ofString "").length = 0 := by decide
      have : ∀ l : List Str, (∀ y ∈ l, Plain 1 y) → (l.map (·.length)).sum ≤ l.length := by
        intro l
        induction l with
        | nil => intro _; exact Nat.le_refl _
        | cons y l ih =>
          intro h
          have := ih fun x hx => h x (List.mem_cons_of_mem _ hx)
          have := (h y (by simp)).len
          simp only [List.map_cons, List.sum_cons, List.length_cons]
          omega
      have := this ys y3
      rw [l0]
      omega
    refine ⟨_, L, ys, rfl, rfl, .inl (SqL.of y1), sm, ?_⟩
    have pl : Plain 8 (Txt.join (Str.ofString "") ys) := by
      show Plain 8 (Builtin.Str.glued (Str.ofString "") ys)
      rw [StrLaws.glued_eq_join]
      have p := join_plain ys y3
      exact ⟨Nat.le_trans p.len lj, p.low⟩
    generalize Txt.join (Str.ofString "") ys = tx at pl
    have B4 : But d c H0 H4 := B2.trans b4
    -- return _law_of(deal, [..])
    refine ⟨_, rfl, _, rfl, _, rfl, _, _, rfl, rfl, _, rfl, _, rfl, (by show 8 ≤ sizeLine; decide), fun l hl => ?_⟩
    have ld : l ≠ d := fun e => by
      subst e
      obtain ⟨o, z⟩ := D4.trk.1
      rw [z] at hl
      cases hl
    have lc : l ≠ c := fun e => by
      subst e
      obtain ⟨o, z⟩ := D4.trk.2
      rw [z] at hl
      cases hl
    refine ⟨d, c, D4.new hl, .inl ⟨l, _, rfl, upd_same, ld, lc, (by show 0 < 8; decide), (by show 8 < 1000000; decide), fun v H5 hv D5 b5 => ?_⟩⟩
    have B5 : But d c H0 H5 := (B4.new hl).trans b5
    have fin : ∀ dat, (∀ n, Okd n dat) → (∀ N H2, Dn N H2 v dat) → Q v H5 := fun dat g1 g2 => k v dat H5 g1 g2 D5 B5
    simp only [List.mem_cons, List.not_mem_nil, or_false] at hv
    rcases hv with rfl | rfl | rfl | rfl | rfl | rfl | rfl | rfl
    · exact fin .none (fun _ => okd_none) fun _ _ => .non
    · exact fin (.bool true) (fun _ => okd_bool _) fun _ _ => .bl _
    · exact fin (.bool false) (fun _ => okd_bool _) fun _ _ => .bl _
    · exact fin (.int z) (fun _ => okd_int (by omega)) fun _ _ => .int _
    · exact fin (.int (0 - z)) (fun _ => okd_int (by omega)) fun _ _ => .int _
    · exact fin (.str tx) (fun _ => okd_text pl) fun _ _ => .str _
    · exact fin (.str tx) (fun _ => okd_text pl) fun _ _ => .str _
    · exact fin (.str (Str.ofString "")) (fun _ => okd_text ⟨by decide, by decide +kernel⟩) fun _ _ => .str _
theorem ok_thing {f fA fO : Addr} {fd fdA fdO : FuncData} (F : Fun K "_law_thing" "_law_thing" sThing f fd) (T : ThingTxt K mg fA fO f) (bT : Binds K fd ["deal", "depth"] []) (GA : FnOk P w K mg base CX0 1 fA fdA ["deal", "bound"] spAny) (bA : Binds K fdA ["deal", "bound"] [])
    (GO : FnOk P w K mg base CX0 2 fO fdO ["deal", "some"] spOf) (bO : Binds K fdO ["deal", "some"] []) : ∀ n : Nat, FnOk P w K mg base CX0 (3 + n) f fd ["deal", "depth"] (spThing n) := by
  intro n
  induction n with
  | zero =>
    refine F.ok scThing (fun vs H Q E h => ?_) (fun cdv A outer s H vs Q E hr h => ?_)
    · obtain ⟨d, c, rfl, _⟩ := h
      rfl
    · obtain ⟨d, c, rfl, D, k⟩ := h
      have hr1 : Room 1 _ := hr.mono (by decide)
      obtain ⟨t, ht, q⟩ := thing_tail (f := f) (cdv := cdv) (outer := outer) (H := H) (E := E) T GA bA GO bO hr
      refine ⟨_, pss_cons (ps_set (i := 2) scThing.nd rfl (Or.inl rfl) (pe_call GA hr1 rfl T.any T.kAny bA .nil pass0 (pa_cons (pv 0) (pa_cons pe_int pa_nil))))
        (pss_cons (ps_if (PW.pt (pw_and (pt_cmpR op_lt (pv 2) pe_int (nomark _)) (pw_and1 (pt_cmpR op_gt (pv 1) pe_int (nomark _))))) pss_never pss_nil) ht), ?_⟩
      refine ⟨_, rfl, d, c, _, rfl, D, by decide, by decide, fun r H1 r0 r1 D1 b1 => ?_⟩
      have fin := q [some (.ref d), some (.int ((0 : Nat) : Int)), some (.int r), none, none, none, none] H1 d c Q _ _ _ _ _ _ rfl D1 fun v dat H' g1 g2 D' b' => k v dat H' (g1 0) (g2 _ _) D' (b1.trans b')
      refine ⟨_, rfl, _, _, rfl, rfl, _, rfl, ?_⟩
      refine ite2 (fun _ => ?_) (fun _ => ?_)
      · exact ⟨_, rfl, _, _, rfl, rfl, _, rfl, iteF fin⟩
      · exact iteF fin
  | succ n ih =>
    refine F.ok scThing (fun vs H Q E h => ?_) (fun cdv A outer s H vs Q E hr h => ?_)
    · obtain ⟨d, c, rfl, _⟩ := h
      rfl
    · obtain ⟨d, c, rfl, D, k⟩ := h
      have hr1 : Room 1 _ := hr.mono (by show 1 ≤ 3 + n; omega)
      have hr2 : Room 2 _ := hr.mono (by show 2 ≤ 3 + n; omega)
      have hrn : Room (3 + n) _ := hr
      obtain ⟨t, ht, q⟩ := thing_tail (f := f) (cdv := cdv) (outer := outer) (H := H) (E := E) T GA bA GO bO hr2
      refine ⟨_, pss_cons (ps_set (i := 2) scThing.nd rfl (Or.inl rfl) (pe_call GA hr1 rfl T.any T.kAny bA .nil pass0 (pa_cons (pv 0) (pa_cons pe_int pa_nil))))
        (pss_cons (ps_if (PW.pt (pw_and (pt_cmpR op_lt (pv 2) pe_int (nomark _)) (pw_and1 (pt_cmpR op_gt (pv 1) pe_int (nomark _)))))
          (pss_cons (ps_setLc (i := 3) (own := [("turn", 6)]) (g := gName 6) (tt := tYes) (by rfl) scThing.nd rfl rfl (sw_true rfl rfl rfl (by decide +kernel)) (pi_range1 rfl T.range (pa_cons (pe_call GA hr1 rfl T.any T.kAny bA .nil pass0 (pa_cons (pv 0) (pa_cons pe_int pa_nil))) pa_nil))
            (blkOk_by (own := [("turn", 6)]) (N := nThing) (sc := defScope sThing) (by decide +kernel)) (fun _ _ _ _ _ => pg_name (i := 6) scThing.nd rfl (Or.inl rfl)) (fun _ _ _ _ _ => pts_nil)
            (fun _ _ _ _ _ => pe_call ih hrn rfl T.thing T.kThing bT .nil pass0 (pa_cons (pv 0) (pa_cons (pe_op op_sub (pv 1) pe_int) pa_nil))))
          (pss_one (ps_ret (pe_ifExp (pt_cmpR op_eq (pv 2) pe_int (nomark _)) (pv 3) (pe_callTy call_tuple_of (by rfl) T.tuple (by decide +kernel) (pa_cons (pv 3) pa_nil))))))
          pss_nil) ht), ?_⟩
      refine ⟨_, rfl, d, c, _, rfl, D, by decide, by decide, fun r H1 r0 r1 D1 b1 => ?_⟩
      have fin := q [some (.ref d), some (.int ((n + 1 : Nat) : Int)), some (.int r), none, none, none, none] H1 d c Q _ _ _ _ _ _ rfl D1 fun v dat H' g1 g2 D' b' => k v dat H' (g1 _) (g2 _ _) D' (b1.trans b')
      refine ⟨_, rfl, _, _, rfl, rfl, _, rfl, ?_⟩
      refine ite2 (fun _ => ?_) (fun _ => iteF fin)
      refine ⟨_, rfl, _, _, rfl, rfl, _, rfl, ?_⟩
      refine ite2 (fun _ => ?_) (fun _ => fin)
      -- parts = [..]
      refine ⟨_, rfl, d, c, _, rfl, D1, by decide, by decide, fun j H3 j0 j1 D3 b3 => ⟨_, rfl, by omega, by omega, fun L hL => ?_⟩⟩
      obtain ⟨Ld, Lc⟩ := D3.ne hL
      have B3 := b1.trans b3
      refine lc_range (lo := 0) (n := j.toNat) (fun i H4 => ∃ (xs : List V) (ds : List PyData), H4 L = some (.lst xs) ∧ DnAll (fun a => Trk H3 a ∨ a = L) H4 xs ds ∧ (∀ x ∈ ds, Okd n x) ∧ ds.length = i ∧ DealAt H4 d c ∧ But d c H3 H4)
        ⟨[], [], upd_same, .nil, by simp, rfl, D3.new hL, But.refl.new hL⟩ ?_ ?_
      · rintro i H4 hi ⟨xs, ds, y1, y2, y3, y4, D4, b4⟩
        refine ⟨rfl, _, rfl, _, rfl, _, _, rfl, rfl, d, c, ?_, D4, fun v dat H5 g1 g2 D5 b5 => ?_⟩
        · have e : (((n + 1 : Nat) : Int) - 1) = ((n : Nat) : Int) := by omega
          show [V.ref d, V.int (((n + 1 : Nat) : Int) - 1)] = _
          rw [e]
        · have y1' := b5 L _ y1 Ld Lc
          have hl := y2.len
          refine ⟨xs, y1', small1000 (by omega), xs ++ [v], ds ++ [dat], upd_same, ?_, ?_, by simp [y4], ?_, ?_⟩
          · refine DnAll.append (Dn.mono (fun a h => ?_) (fun a o h e => ?_) _ _ g2) (DnAll.mono (fun a h => h) (fun a o h e => ?_) _ _ y2)
            · rcases h with h | h
              · exact b4.trk D4 h
              · rw [h]
                exact ⟨_, y1⟩
            · have ne : a ≠ L := fun z => h (by rw [z]; exact ⟨_, y1⟩)
              rw [upd_ne ne]
              exact e
            · have ne : a ≠ L := fun z => h (.inr z)
              have nd : a ≠ d := fun z => h (.inl (by rw [z]; exact D3.trk.1))
              have nc : a ≠ c := fun z => h (.inl (by rw [z]; exact D3.trk.2))
              rw [upd_ne ne]
              exact b5 a o e nd nc
          · intro x hx
            rcases List.mem_append.mp hx with hx | hx
            · exact y3 x hx
            · rw [List.mem_singleton] at hx
              rw [hx]
              exact g1
          · obtain ⟨cs, b, h1, h2, r⟩ := D5.ex
            exact ⟨cs, b, by rw [upd_ne (Ne.symm Ld)]; exact h1, by rw [upd_ne (Ne.symm Lc)]; exact h2, r⟩
          · intro a o ha m1 m2
            rw [upd_ne (ne_of_none ha hL)]
            exact (b4.trans b5) a o ha m1 m2
      · rintro H4 ⟨xs, ds, y1, y2, y3, y4, D4, b4⟩
        have B4 : But d c H H4 := B3.trans b4
        have l3 : ds.length ≤ 3 := by omega
        have hLH : H L = none := B3.none hL D3
        have wk : ∀ a, Trk H a → (Trk H3 a ∨ a = L) := fun a h => .inl (B3.trk D3 h)
        refine ⟨_, rfl, rfl, _, rfl, ?_⟩
        refine ite2 (fun _ => ?_) (fun _ => ?_)
        · refine ⟨_, rfl, k _ (.list ds) _ (okd_list y3 l3) (.lst y1 (fun ⟨o, z⟩ => by rw [hLH] at z; cases z) (DnAll.mono wk (fun a o h e => e) _ _ y2)) D4 B4⟩
        · refine ⟨_, rfl, L, xs, rfl, .inl ⟨SqL.of y1, fun l hl => ?_⟩⟩
          have hlH : H l = none := B4.none hl D4
          refine k _ (.tuple ds) _ (okd_tup y3 l3) (.tup upd_same (fun ⟨o, z⟩ => by rw [hlH] at z; cases z) (DnAll.mono wk (fun a o h e => ?_) _ _ y2)) (D4.new hl) (B4.new hl)
          rw [upd_ne (ne_of_none e hl)]
          exact e
end
end Kerr

/-! own exception classes over any built-in one, made with values and keywords -/
namespace PySem
namespace Exm
open PyProof.Rows
section
variable {M : Model} {A : Around} {E : Value → Shared → Prop} {hp : Heap} {gs : Array GenState} {dr : Drawn} {tk : Nat} {os : OsState}
variable {nm q : Str} {C N : Addr} {bs bm bmB : List Value} {hdct : Bool} {sn : List Str} {sub : List Value} {ab : Bool} {col : Option Bool} {dd : Option Addr} {k0 k1 k2 k3 k5 : Option Value} {B newId initId : String}
theorem checkNew (FB : ExcBaseFacts B newId initId bmB) (tB : bm.contains (.type B) = true) (tA : bm.contains (.type "AttributeError") = false) (tN : bm.contains (.type "NameError") = false) {us : List Value} {kw : List (Str × Value)} {Q : Unit → Shared → Prop}
    (cls : hp.get? C = some (excClassObj nm q C N bs bm hdct sn sub ab col dd k0 k1 k2 k3 k5 newId)) (fin : Q () ⟨hp, gs, dr, tk, os⟩) :
    wpAny M A (checkBuiltinCall newId ⟨.ref C :: us, kw⟩) Q E ⟨hp, gs, dr, tk, os⟩ := by
  have hb : (Value.ref C :: bm).contains (.type B) = true := by
    rw [List.contains_cons, tB]
    simp
  have hs := FB.noStar
  simp only [checkBuiltinCall, FB.newKind, FB.newSplit, FB.newRow]
  repeat (first
    | refine wpAny_loadPart_at cls ?_
    | (refine wpAny_isSubtype_exc cls ?_; rw [hb])
    | refine wpAny_staticBase_exc cls ?_
    | refine wpAny_madeBy_exc cls ?_
    | simp only [bne_self_eq_false, Bool.false_eq_true, if_false]
    | wp_step)
  exact fin
end
section
variable {prog : Program} {w : World} {A : Around} {E : Value → Shared → Prop} {R : Result → Shared → Prop} {hp : Heap} {gs : Array GenState} {dr : Drawn} {tk : Nat} {os : OsState}
variable {nm q : Str} {C N : Addr} {bs bm bmB : List Value} {hdct : Bool} {sn : List Str} {sub : List Value} {ab : Bool} {col : Option Bool} {dd : Option Addr} {k0 k1 k2 k3 k5 : Option Value} {B newId initId : String}
theorem runNew (FB : ExcBaseFacts B newId initId bmB) (tB : bm.contains (.type B) = true) (tA : bm.contains (.type "AttributeError") = false) (tN : bm.contains (.type "NameError") = false) {us : List Value} {kw : List (Str × Value)}
    (cls : hp.get? C = some (excClassObj nm q C N bs bm hdct sn sub ab col dd k0 k1 k2 k3 k5 newId)) (few : us.length ≤ sizeLine)
    (fin : R (.ok (.ret (.ref (hp.objs.size + 1)))) ⟨(hp.push (W.kdv_tup us)).push (HandSPX.excO C hp.objs.size), gs, dr, tk, os⟩) :
    codeAny (model prog w) A (.builtin newId ⟨.ref C :: us, kw⟩) R ⟨hp, gs, dr, tk, os⟩ := by
  have en := FB.ends
  have c1 : (Value.ref C :: bm).contains (.type B) = true := by
    rw [List.contains_cons, tB]
    simp
  have c2 : (Value.ref C :: bm).contains (.type "AttributeError") = false := by
    rw [List.contains_cons, tA]
    rfl
  have c3 : (Value.ref C :: bm).contains (.type "NameError") = false := by
    rw [List.contains_cons, tN]
    rfl
  refine codeAny_builtinAt FB.entry ?_
  unfold Builtin.«BaseException.__new__»
  refine wpAt_bind ?_
  show wpAt _ _ _ (stack >>= _) _ _ _
  refine wpAt_bind (wpAt_stack fun top low => wpAt_of_wpAny ?_)
  wp_walk
  refine wpAt_of_wpAny ?_
  rw [FB.owner]
  repeat (first
    | with_reducible refine wpAny_madeHere_exc FB.canon cls ?_
    | with_reducible refine wpAny_loadPart_at cls ?_
    | (with_reducible refine wpAny_isSubtype_exc cls ?_; first | rw [c1] | rw [c2] | rw [c3])
    | wp_step)
  show R _ _
  rw [Heap.size_push]
  exact fin
theorem runTypeCall (FB : ExcBaseFacts B newId initId bmB) (tB : bm.contains (.type B) = true) (tA : bm.contains (.type "AttributeError") = false) (tN : bm.contains (.type "NameError") = false) {us : List Value} {kw : List (Str × Value)} {fI : Addr} {Q : Fin → Shared → Prop}
    (cls : hp.get? C = some (excClassObj nm q C N bs bm hdct sn sub ab col dd k0 k1 k2 k3 k5 newId)) (few : us.length ≤ sizeLine)
    (li : W.Looks (model prog w) hp (typeLookup (.ref C) "__init__") (some (.ref fI))) (bi : ∀ self, W.Looks (model prog w) hp (bindSpecial (.ref fI) self) (.ref fI, [self]))
    (fin : codeAny (model prog w) A (.call (.ref fI) ⟨.ref (hp.objs.size + 1) :: us, kw⟩)
      (fun r s' => match r with | .ok (.ret v) => v = .none ∧ Q (.done (.ret (.ref (hp.objs.size + 1)))) s' | .ok _ => False | .error x => E x s')
      ⟨(hp.push (W.kdv_tup us)).push (HandSPX.excO C hp.objs.size), gs, dr, tk, os⟩) :
    wpAny (model prog w) A (Builtin.«type.__call__» ⟨.ref C :: us, kw⟩) Q E ⟨hp, gs, dr, tk, os⟩ := by
  repeat (first
    | with_reducible refine wpAny_loadPart_at cls ?_
    | with_reducible refine wpAny_madeBy_exc cls ?_
    | wp_step)
  refine codeAny_call_builtin_code (Code.quiet_builtin _ FB.quiet) (checkNew FB tB tA tN cls ?_)
  refine runNew FB tB tA tN cls few ?_
  show wpAny _ _ _ _ _ _
  have up : ∀ b o, hp.get? b = some o → ((hp.push (W.kdv_tup us)).push (HandSPX.excO C hp.objs.size)).get? b = some o := fun b o e => Heap.get?_push_of_some _ (Heap.get?_push_of_some _ e)
  have cls2 := up _ _ cls
  have at2 : ((hp.push (W.kdv_tup us)).push (HandSPX.excO C hp.objs.size)).get? (hp.objs.size + 1) = some (HandSPX.excO C hp.objs.size) := by heap_get
  have cc : (Value.ref C :: bm).contains (.ref C) = true := by simp
  have li2 := li.keeps up
  have bi2 := (bi (.ref (hp.objs.size + 1))).keeps up
  unfold isInstance
  repeat (first
    | with_reducible refine wpAny_loadPart_at at2 ?_
    | (with_reducible refine wpAny_isSubtype_exc cls2 ?_; rw [cc])
    | wp_step)
  show wpAny _ _ (typeLookup (.ref C) _) _ _ _
  refine li2.at ?_
  refine wpAny_holding (wpAny_bind (bi2.at ?_))
  refine wpAny_bind (wpAny_call (codeAny_mono fin fun r s' z => ?_))
  cases r with
  | error x => exact z
  | ok fl =>
    cases fl with
    | ret v =>
      obtain ⟨rfl, z⟩ := z
      first
        | exact wpAny_pure (wpAny_pure z)
        | (wp_walk; exact z)
    | next => exact z.elim
    | brk => exact z.elim
    | cont => exact z.elim
theorem checkTypeCallE {M : Model} {us : List Value} {kw : List (Str × Value)} {Q : Unit → Shared → Prop} (cls : hp.get? C = some (excClassObj nm q C N bs bm hdct sn sub ab col dd k0 k1 k2 k3 k5 newId))
    (fin : Q () ⟨hp, gs, dr, tk, os⟩) : wpAny M A (checkBuiltinCall "type.__call__" ⟨.ref C :: us, kw⟩) Q E ⟨hp, gs, dr, tk, os⟩ := by
  have f3 := tc_sub
  have ty : (⟨hp, gs, dr, tk, os⟩ : Shared).TypeIs (.ref C) "type" := ⟨_, cls, rfl⟩
  simp only [checkBuiltinCall, tc_kind, tc_split]
  repeat (any_goals (first
    | assumption
    | with_reducible refine wpAny_loadPart_at cls ?_
    | with_reducible refine wpAny_onRaise ?_
    | with_reducible refine wpAny_map ?_
    | wp_step))
theorem runCls (FB : ExcBaseFacts B newId initId bmB) (tB : bm.contains (.type B) = true) (tA : bm.contains (.type "AttributeError") = false) (tN : bm.contains (.type "NameError") = false) {us : List Value} {kw : List (Str × Value)} {fI : Addr}
    (cls : hp.get? C = some (excClassObj nm q C N bs bm hdct sn sub ab col dd k0 k1 k2 k3 k5 newId)) (few : us.length ≤ sizeLine)
    (li : W.Looks (model prog w) hp (typeLookup (.ref C) "__init__") (some (.ref fI))) (bi : ∀ self, W.Looks (model prog w) hp (bindSpecial (.ref fI) self) (.ref fI, [self]))
    (fin : codeAny (model prog w) (A.under (.builtin "type.__call__" ⟨.ref C :: us, kw⟩)) (.call (.ref fI) ⟨.ref (hp.objs.size + 1) :: us, kw⟩) (W.InitBack (hp.objs.size + 1) R)
      ⟨(hp.push (W.kdv_tup us)).push (HandSPX.excO C hp.objs.size), gs, dr, tk, os⟩) :
    codeAny (model prog w) A (.call (.ref C) ⟨us, kw⟩) R ⟨hp, gs, dr, tk, os⟩ := by
  have f1 := tc_lookup
  have f2 := tc_bind (.ref C)
  have ty : (⟨hp, gs, dr, tk, os⟩ : Shared).TypeIs (.ref C) "type" := ⟨_, cls, rfl⟩
  refine codeAny_of_tree ?_
  show wpAny _ _ (callAny (.ref C) _) _ _ _
  repeat (any_goals (first
    | assumption
    | with_reducible refine wpAny_loadPart_at cls ?_
    | wp_step))
  refine ⟨rfl, ?_⟩
  refine codeAny_call_builtin_at (Code.quiet_builtin _ (by decide +kernel)) entry_typeCall (checkTypeCallE cls (runTypeCall FB tB tA tN cls few li bi ?_))
  refine codeAny_mono fin fun r s' z => ?_
  cases r with
  | error x => exact z
  | ok fl => cases fl <;> exact z
end
end Exm
end PySem

namespace PySem
namespace Exm
open PyProof.Rows Builtin Builtin.ObjectAttr
section
variable {prog : Program} {w : World} {A : Around} {E : Value → Shared → Prop} {R : Result → Shared → Prop} {hp : Heap} {gs : Array GenState} {dr : Drawn} {tk : Nat} {os : OsState} {bmB : List Value} {B : String}
/-- the first store into an exception's own dict -/
theorem storeFirst {K : W.Frag} {name : Str} {t1 : Tok} {v : Value} {x C : Addr} {fv : Array Value} {cd : ClassData} (SB : StoreFacts B bmB "object.__setattr__" "object")
    (X : K.In hp) (hx : hp.get? x = some { cls := .ref C, data := .fields fv }) (ov : W.excOver K C bmB = true) (hcd : W.clsIn K C = some cd) (hh : cd.hasDict = true) (ha : W.takerIn K C name = some none)
    (fin : ∀ h' t' dx, (∀ b o, b ≠ x → hp.get? b = some o → h'.get? b = some o) → hp.objs.size ≤ dx → dx ≠ x → h'.get? x = some { cls := .ref C, dict := some dx, data := .fields fv } →
      h'.Ns1 dx (fun y => if y = name then some v else none) → R (.ok (.ret .none)) ⟨h', gs, dr, t', os⟩) :
    codeAny (model prog w) A (.call (.builtin "object.__setattr__") ⟨[.ref x, .str name t1, v], []⟩) R ⟨hp, gs, dr, tk, os⟩ := by
  have I : W.InstAt hp x { cls := .ref C, data := .fields fv } C none := ⟨hx, rfl, rfl, trivial⟩
  have far : x ≠ hp.objs.size := Nat.ne_of_lt (Heap.lt_size hx)
  have cl : W.Looks (model prog w) hp (classData C) cd := W.looks_clsIn X hcd
  refine W.osa_openX SB X I ov ha fun b => ?_
  show wpAny _ _ (storeInOwnDict (.ref x) (.ref C) (.str name t1) name v b) _ _ _
  obtain ⟨nm, bs, mro, ns, qn, hd, sn, sb, ab, col, del⟩ := cd
  dsimp only at hh
  subst hh
  unfold storeInOwnDict ownDictForStores
  repeat (first
    | with_reducible refine HandSPX.store_in_new ?_ ?_
    | with_reducible refine wpAny_loadPart_at hx ?_
    | with_reducible refine cl.at ?_
    | wp_step)
  · exact ⟨_, #[], _, (Heap.get?_update_ne _ _ _ _ far.symm).trans (Heap.get?_push_at rfl rfl), rfl, fun e he => absurd he (by simp), fun _ => rfl⟩
  · intro h' t' hn hs
    have old : (hp.push { cls := .type "dict", data := .dict #[] }).get? x = some { cls := .ref C, data := .fields fv } := Heap.get?_push_of_some _ hx
    refine fin h' t' hp.objs.size (fun c o hc ho => ?_) (Nat.le_refl _) far.symm ?_ hn
    · have e1 := hs.2 c (Nat.ne_of_lt (Heap.lt_size ho))
      exact e1.trans ((Heap.get?_update_ne _ _ _ _ hc).trans (Heap.get?_push_of_some _ ho))
    · have e1 := hs.2 x far
      exact e1.trans (Heap.get?_update_self _ old rfl)
end
end Exm
end PySem

/-! own exceptions as values: rules over the hand layer -/
namespace Exv
open PySem L2
/-- what the written part says of such a class: at C, its __init__ at fI stores the one field -/
structure ExT (K : PySem.W.Frag) (C fI : Addr) (fld : Str) (bmB : List Value) (newId : String) : Prop where
  ini : PySem.W.excInitIn K C bmB newId = true
  over : PySem.W.excOver K C bmB = true
  init : PySem.W.findIn K (.ref C) "__init__" = some (some (.ref fI))
  fn : PySem.W.typeIn K (.ref fI) = some (.type "function")
  sa : PySem.W.findIn K (.ref C) "__setattr__" = some (some (.builtin "object.__setattr__"))
  no : PySem.W.findIn K (.ref C) fld = some none
  hd : PySem.W.hasDictIn K C = true
  ga : PySem.W.findIn K (.ref C) "__getattribute__" = some (some (.builtin "BaseException.__getattribute__"))
  gg : PySem.W.findIn K (.ref C) "__getattr__" = some none
  ex : PySem.W.subIn K (.ref C) (.type "BaseException") = some true
  kp : PySem.W.keepIn K (.ref C) = true
section
variable {X : Cx} {pins : List (Addr × Obj)} {σ : St} {H : Hp} {s : Shared} {a C fI : Addr} {f : Str} {y : V} {u : Value} {Q : Unit → Shared → Prop} {E : Value → Shared → Prop} {A : Around} {B newId initId : String} {bmB bmF : List Value}
theorem taker_none {K : PySem.W.Frag} (h : PySem.W.findIn K (.ref C) f = some none) : PySem.W.takerIn K C f = some none := by
  unfold PySem.W.takerIn
  rw [h]
  rfl
/-- self.f = y, the first store -/
theorem put_field (T : ExT X.K C fI f bmB newId) (SB : StoreFacts B bmB "object.__setattr__" "object") (I : Inv X pins σ H s) (e : H a = some (exo a C none)) (ry : RelV y u)
    (h : ∀ dx s', H dx = none → dx ≠ a → Inv X pins σ (upd (upd H dx (exd dx [(f, y)])) a (exo a C (some dx))) s' → Q () s') : wpAny (model X.prog X.w) A (setAttr (.ref a) f u) Q E s := by
  obtain ⟨cd, hcd, hh⟩ := PySem.W.any_some T.hd
  obtain ⟨t1, ho⟩ := exo_at I.hok e
  obtain ⟨hp, gs, dr, tk, os⟩ := s
  refine PySem.W.set_plain I.kIn (ox := HandSPX.excO C t1) (od := none) ⟨ho, rfl, rfl, trivial⟩ T.sa ?_
  refine PySem.Exm.storeFirst SB I.kIn ho T.over hcd hh (taker_none T.no) fun h' t' dx old far ne hx hn => ?_
  have free : H dx = none := I.hok.fresh far
  have notD : ∀ {b : Addr} {o : Obj}, hp.get? b = some o → b ≠ dx := fun {b o} q => Nat.ne_of_lt (Nat.lt_of_lt_of_le (Heap.lt_size q) far)
  have notA : ∀ {b : Addr}, H b = none → b ≠ a := fun {b} n z => by
    rw [z, e] at n
    exact absurd n (by simp)
  have un : Un X.fs [] H (upd (upd H dx (exd dx [(f, y)])) a (exo a C (some dx))) hp h' := {
    keep := fun b o q n _ _ => old b o (notA n) q
    slot := fun b o q n _ _ => ⟨_, old b o (notA n) q⟩
    free := fun b o q n _ => by
      rw [upd_ne (notA n), upd_ne (notD q)]
      exact n
    there := fun b o q _ => by
      by_cases hb : b = a
      · exact ⟨_, hb ▸ hx⟩
      · exact ⟨_, old b o hb q⟩
    tups := fun b xs q => by
      rw [upd_ne (at_ne e q exo_tup), upd_ne (ne_of_none q free)]
      exact q
    frzs := fun b o v q => by
      rw [upd_ne (at_ne e q exo_frz), upd_ne (ne_of_none q free)]
      exact q
    tbls := fun b ps q => ⟨#[], by
      rw [upd_ne (at_ne e q exo_tbl), upd_ne (ne_of_none q free), q]
      simp⟩ }
  refine h dx _ free ne (I.un (t' := t') un fun b o q => ?_)
  by_cases hb : b = a
  · subst hb
    rw [upd_same] at q
    cases q
    exact exo_ok hx
  · rw [upd_ne hb] at q
    by_cases hd : b = dx
    · subst hd
      rw [upd_same] at q
      cases q
      exact exd_ok hn (relO_put (fs := []) ry fun g => True.intro)
    · rw [upd_ne hd] at q
      refine (I.hok b o q).stay (fun c v hc z => old c v ?_ z) (fun c hc => ?_) fun c xs hc => ?_
      · rcases hc with rfl | hc
        · exact hb
        · exact at_ne e hc exo_own
      · rw [upd_ne (at_ne e hc exo_own), upd_ne (ne_of_none hc free)]
        exact hc
      · rw [upd_ne (at_ne e hc exo_tup), upd_ne (ne_of_none hc free)]
        exact hc
end
/-- the built-in classes behind an own one: the maker's class among them -/
structure Base3 (bm : List Value) (B : String) : Prop where
  b : bm.contains (.type B) = true
  a : bm.contains (.type "AttributeError") = false
  n : bm.contains (.type "NameError") = false
/-- self.f = e in an __init__ -/
def tPutE (C : Addr) (f : Str) (to te : TE) : TS := fun D σ H => te σ H fun y H1 => to σ H1 fun x H2 => ∃ a : Addr, x = .ref a ∧ H2 a = some (exo a C none) ∧
  ∀ dx, H2 dx = none → dx ≠ a → D.nx σ (upd (upd H2 dx (exd dx [(f, y)])) a (exo a C (some dx)))
section
variable {X : Cx} {o e : Expr} {es : List Expr} {to te : TE} {ta : TA} {f x : Str} {p p' p1 p2 pos : Pos} {C fI : Addr} {B newId initId : String} {bmB bmF : List Value}
theorem ps_putE (T : ExT X.K C fI f bmB newId) (SB : StoreFacts B bmB "object.__setattr__" "object") (ho : PE X o to) (he : PE X e te) (hs : swapsWith e (some (.Attribute o f p')) pos.line X.env = pure false := by rfl) :
    PS X (.Assign [.Attribute o f p'] e pos) (tPutE C f to te) := by
  refine ⟨fun pins s σ H D I h => ?_⟩
  refine plainObj_wpAny_Assign_Attribute (thn (he.run pins s σ H _ I h) fun v s1 ⟨y, H1, I1, r1, q1⟩ => thn (ho.run pins s1 σ H1 _ I1 q1) fun u s2 ⟨z, H2, I2, r2, a, ez, ea, q⟩ => ?_) hs
  subst ez
  cases (show u = Value.ref a from r2)
  exact put_field T SB I2 ea r1 fun dx s' n ne J => ⟨σ, _, J, q dx n ne⟩
/-- a call of the class: the new exception, its __init__ run -/
theorem run_ex {CX : CXT} {pins : List (Addr × Obj)} {σ : St} {H : Hp} {s : Shared} {Q : VK} {us : List Value} {v : V} {u : Value} {k : Nat} {fd : FuncData} {ps : List Str} {sp : Sp} {kw : List (Str × Value)}
    (T : ExT X.K C fI f bmB newId) (FB : ExcBaseFacts B newId initId bmF) (hB : Base3 bmB B) (F : FnOk X.prog X.w X.K X.mg X.base CX k fI fd ps sp) (hr : Room (k + 1) X.A) (hx : Passes CX X E0)
    (I : Inv X pins σ H s) (few : us.length ≤ 1000) (rv : RelV v u) (hb : ∀ (s : Shared) (a : Addr), X.K.In s.heap → BindsTo s fd ⟨.ref a :: us, kw⟩ (ps.zip [.ref a, u]))
    (h : ∀ a, H a = none → sp [.ref a, v] (upd H a (exo a C none)) (fun z H2 => z = .non ∧ Q (.ref a) H2) E0) :
    wpAny (model X.prog X.w) X.A (call (.ref C) us kw) (EP X pins σ Q) X.xe s := by
  obtain ⟨nm, N, qn, bs, bm, hdct, sn, sub, ab, col, dd, k0, k1, k2, k3, k5, hC, tl⟩ := PySem.W.excInit_of I.kIn T.ini
  obtain ⟨hp, gs, dr, tk, os⟩ := s
  have sz : hp.objs.size ≤ hp.objs.size + 1 := Nat.le_succ _
  have new : H (hp.objs.size + 1) = none := I.hok.fresh sz
  have hq := h _ new
  have up : ∀ b o, hp.get? b = some o → ((hp.push (PySem.W.kdv_tup us)).push (HandSPX.excO C hp.objs.size)).get? b = some o := fun b o e => Heap.get?_push_of_some _ (Heap.get?_push_of_some _ e)
  have at2 : ((hp.push (PySem.W.kdv_tup us)).push (HandSPX.excO C hp.objs.size)).get? (hp.objs.size + 1) = some (HandSPX.excO C hp.objs.size) := by heap_get
  have I2 : Inv X pins σ (upd H (hp.objs.size + 1) (exo (hp.objs.size + 1) C none)) ⟨(hp.push (PySem.W.kdv_tup us)).push (HandSPX.excO C hp.objs.size), gs, dr, tk, os⟩ :=
    I.laid (t' := tk) (a := hp.objs.size + 1) (o := exo (hp.objs.size + 1) C none) up sz (exo_ok at2)
  have r2 : Vals [V.ref (hp.objs.size + 1), v] [Value.ref (hp.objs.size + 1), u] := .cons rfl (.cons rv .nil)
  have fewS : us.length ≤ sizeLine := by
    rw [sizeLine_eq]
    omega
  refine wpAny_call (PySem.Exm.runCls FB ((tl B).trans hB.b) ((tl _).trans hB.a) ((tl _).trans hB.n) hC fewS (PySem.W.looks_findIn I.kIn T.init) (fun self => PySem.W.bind_fn I.kIn self T.fn)
    (codeAny_mono (F.run _ X.stack _ _ ⟨Value.ref (hp.objs.size + 1) :: us, kw⟩ _ _ _ E0 (hr.make C us kw) (I2.env0.make C us kw) (hb _ _ I2.kIn) r2 hq) fun r s' q => ?_))
  cases r with
  | error x => exact hx pins σ _ _ x s' I2 q
  | ok fl =>
    cases fl with
    | ret w =>
      obtain ⟨z, H', J, rz, ez, q3⟩ := I2.after q
      subst ez
      exact ⟨rz, ⟨V.ref (hp.objs.size + 1), H', J, rfl, q3⟩⟩
    | next => exact q.elim
    | brk => exact q.elim
    | cont => exact q.elim
end
end Exv

namespace Exv
open PySem L2
/-- C(v), C(f=v): what the new exception's __init__ is to bring -/
def tNewE (C : Addr) (sp : Sp) (ta : TA) : TE := fun σ H Q => ta σ H fun vs H1 => ∃ v, vs = [v] ∧ ∀ a, H1 a = none → sp [.ref a, v] (upd H1 a (exo a C none)) (fun z H2 => z = .non ∧ Q (.ref a) H2) E0
section
variable {X : Cx} {o e : Expr} {ta : TA} {f x : Str} {p pos kpos : Pos} {C fI : Addr} {B newId initId : String} {bmB bmF : List Value} {CX : CXT} {k : Nat} {fd : FuncData} {ps : List Str} {sp : Sp}
theorem pe_newE (T : ExT X.K C fI f bmB newId) (FB : ExcBaseFacts B newId initId bmF) (hB : Base3 bmB B) (F : FnOk X.prog X.w X.K X.mg X.base CX k fI fd ps sp) (hr : Room (k + 1) X.A) (hx : Passes CX X E0) (hg : Gl X x) (hm : X.mg x = some (.ref C))
    (hb : ∀ (s : Shared) (a : Addr) (u : Value), X.K.In s.heap → BindsTo s fd ⟨[.ref a, u], []⟩ (ps.zip [.ref a, u])) (ha : PA X [e] ta)
    (hdb : (x == ("__debug__" : Str)) = false := by decide) (hs : starEach [e] X.env = (false, eval e X.env) :: starEach [] X.env := by rfl) (hpl : (backTo pos (starEach [] X.env)).any (·.1) = false := by rfl) :
    PE X (.Call (.Name x p) [e] [] pos) (tNewE C sp ta) := by
  refine ⟨fun pins s σ H Q I h => ?_⟩
  refine wpAny_Call_Name_kw (ld_glob I hg hm ?_ hdb)
  refine PySem.W.callWith_K (h₀ := X.base) I.ok.mod.kin T.kp (thn (ha.run pos pins s σ H _ I h) fun us s1 ⟨vs, H1, I1, r, v, ev, q⟩ => ⟨I1.kIn, ?_⟩) hs hpl
  subst ev
  cases r with
  | cons rv rn =>
    cases rn
    exact run_ex T FB hB F hr hx I1 (by show 1 ≤ 1000; decide) rv (fun s a X' => hb s a _ X') q
theorem pe_newEK (T : ExT X.K C fI f bmB newId) (FB : ExcBaseFacts B newId initId bmF) (hB : Base3 bmB B) (F : FnOk X.prog X.w X.K X.mg X.base CX k fI fd ps sp) (hr : Room (k + 1) X.A) (hx : Passes CX X E0) (hg : Gl X x) (hm : X.mg x = some (.ref C))
    (hb : ∀ (s : Shared) (a : Addr) (u : Value), X.K.In s.heap → BindsTo s fd ⟨[.ref a], [(f, u)]⟩ (ps.zip [.ref a, u])) (hkw : PK X [⟨some f, e, kpos⟩] ta)
    (hall : (backToKw pos (keywordEach [⟨some f, e, kpos⟩] X.env)).all (·.1.isSome) = true := by rfl) (hks : (backToKw pos (keywordEach [⟨some f, e, kpos⟩] X.env)).filterMap (·.1) = [f] := by rfl) (hdb : (x == ("__debug__" : Str)) = false := by decide)
    (hpl : ((backTo pos (starEach [] X.env)).any (·.1) || (backToKw pos (keywordEach [⟨some f, e, kpos⟩] X.env)).any (·.1.isNone)) = false := by rfl) :
    PE X (.Call (.Name x p) [] [⟨some f, e, kpos⟩] pos) (tNewE C sp ta) := by
  refine ⟨fun pins s σ H Q I h => ?_⟩
  refine wpAny_Call_Name_kw (ld_glob I hg hm ?_ hdb)
  refine PySem.W.callWith_KW0 (h₀ := X.base) I.ok.mod.kin T.kp hall ?_ hpl
  refine thn (hkw.run pos pins s σ H _ I h) fun ws s2 ⟨zs, H2, I2, rz, v, ev, q⟩ => ⟨I2.kIn, ?_⟩
  rw [hks]
  subst ev
  cases rz with
  | cons rv rn =>
    cases rn
    exact run_ex (us := []) T FB hB F hr hx I2 (Nat.zero_le _) rv (fun s a X' => hb s a _ X') q
/-- C(), an own exception class without __init__ -/
theorem pe_new0 {bmC : List Value} (FB : ExcBaseFacts B newId initId bmB) (q : PySem.W.excIn X.K C bmB newId = true) (kp : PySem.W.keepIn X.K (.ref C) = true) (hg : Gl X x) (hm : X.mg x = some (.ref C)) (hdb : (x == ("__debug__" : Str)) = false := by decide) :
    PE X (.Call (.Name x p) [] [] pos) (fun _ H Q => ∀ a, H a = none → Q (.ref a) (upd H a (exo a C none))) := by
  refine ⟨fun pins s σ H Q I h => ?_⟩
  refine wpAny_Call_Name_kw (ld_glob I hg hm ?_ hdb)
  refine PySem.W.callWith_K0 I.kIn kp ?_
  obtain ⟨bm, N, nm, qn, bs, hdct, sn, sub, ab, col, dd, k0, k1, k2, k3, k5, mN, hC, hN, hni, T⟩ := exc_obj I.kIn q
  refine wpAny_call_exc_subT FB T hC hN hni (fun h' a hm => ?_) (Nat.zero_le _)
  have new : H a = none := I.hok.gone hm.new
  obtain ⟨t, ht, _, _⟩ := hm.there
  exact ⟨.ref a, upd H a (exo a C none), I.laidN hm.keeps hm.new new (exo_ok ht), rfl, h a new⟩
/-- what is asked of an own exception class whose instances are read, or asked about -/
structure IsT (K : PySem.W.Frag) (C : Addr) : Prop where
  hd : PySem.W.hasDictIn K C = true
  ga : PySem.W.findIn K (.ref C) "__getattribute__" = some (some (.builtin "BaseException.__getattribute__"))
  gg : PySem.W.findIn K (.ref C) "__getattr__" = some none
  ex : PySem.W.subIn K (.ref C) (.type "BaseException") = some true
  cl : PySem.W.findIn K (.ref C) "__class__" = some (some (.builtin "object.__class__"))
  sp : PySem.W.specialIn K (.builtin "object.__class__") "__get__" = some (some (.builtin "getset_descriptor.__get__"))
  tk : PySem.W.takesIn K (.builtin "object.__class__") = some true
  mr : PySem.W.mroIn K C (.type "object") = some true
/-- e.f, e an own exception that has the field -/
def tAtE (K : PySem.W.Frag) (f : Str) (te : TE) : TE := fun σ H Q => te σ H fun x H1 => ∃ (a C d : Addr) (fs : List (Str × V)) (v : V), x = .ref a ∧ IsT K C ∧ PySem.W.findIn K (.ref C) f = some none ∧
  H1 a = some (exo a C (some d)) ∧ H1 d = some (exd d fs) ∧ fs.lookup f = some v ∧ Q v H1
theorem pe_atE {te : TE} (he : PE X e te) (hb : attributeBase e f X.env (eval e X.env) = eval e X.env := by rfl) : PE X (.Attribute e f pos) (tAtE X.K f te) := by
  refine ⟨fun pins s σ H Q I h => ?_⟩
  refine attr_of hb (thn (he.run pins s σ H _ I h) fun u s1 ⟨z, H1, I1, r1, a, C, d, fs, v, ez, T, no, ea, ed, l, q⟩ => ?_)
  subst ez
  cases (show u = Value.ref a from r1)
  obtain ⟨t1, ha⟩ := exo_at I1.hok ea
  obtain ⟨mA, hns, rel⟩ := exd_at I1.hok ed
  obtain ⟨od, hod, hl⟩ := lookIn_ns hns
  obtain ⟨w, hw, rw'⟩ := RelO.some_of (v := v) (o := mA f) (by rw [← l]; exact rel f)
  have J : PySem.W.InstAt s1.heap a ({ cls := .ref C, dict := some d, data := .fields #[.ref t1, .none, .none, .none, .bool false, .none] } : Obj) C (some od) := ⟨ha, rfl, rfl, hod⟩
  exact HandSPX.exc_get I1.kIn J T.ga T.gg T.ex (PySem.W.findObj_own T.hd no rfl (by rw [hl, hw])) (handed_of rw') ⟨v, H1, I1.tok _, rw', q⟩
/-- isinstance(e, c) -/
def rIsX (K : PySem.W.Frag) : List V → Hp → VK → Prop := fun xs H Q => ∃ (a C : Addr) (c : V) (cv : Value) (b : Bool), xs = [.ref a, c] ∧ ClsV c cv ∧ IsT K C ∧ PySem.W.kitOne K (.ref C) cv = some b ∧
  (H a = some (exo a C none) ∨ ∃ d fs, H a = some (exo a C (some d)) ∧ H d = some (exd d fs)) ∧ Q (.bl b) H
theorem call_isX : CallR X (.builtin "isinstance") (rIsX X.K) := by
  intro pins s σ H xs us Q I r h
  obtain ⟨a, C, c, cv, b, rfl, k, T, e, ea, q⟩ := h
  obtain ⟨u1, u2, rfl, r1, r2⟩ := vals2 r
  cases (show u1 = Value.ref a from r1)
  have e2 := k.eq r2
  subst e2
  have hcl : (PySem.W.clsIn X.K C).isSome = true := by
    obtain ⟨cd, hcd, _⟩ := PySem.W.any_some T.hd
    rw [hcd]
    rfl
  rcases ea with ea | ⟨d, fs, ea, ed⟩
  · obtain ⟨t1, ha⟩ := exo_at I.hok ea
    have J : PySem.W.InstAt s.heap a (HandSPX.excO C t1) C none := ⟨ha, rfl, rfl, trivial⟩
    exact PySem.W.kia_one (PySem.W.kitx_exc hcl T.ga T.gg T.ex T.cl T.sp T.tk T.mr) I.kIn J e (fun z => nomatch z) fun tk => ⟨.bl b, H, I.tok tk, rfl, q⟩
  · obtain ⟨t1, ha⟩ := exo_at I.hok ea
    obtain ⟨mA, hns, rel⟩ := exd_at I.hok ed
    obtain ⟨od, hod, _⟩ := lookIn_ns hns
    have J : PySem.W.InstAt s.heap a ({ cls := .ref C, dict := some d, data := .fields #[.ref t1, .none, .none, .none, .bool false, .none] } : Obj) C (some od) := ⟨ha, rfl, rfl, hod⟩
    exact PySem.W.kia_one (PySem.W.kitx_exc hcl T.ga T.gg T.ex T.cl T.sp T.tk T.mr) I.kIn J e (fun z => nomatch z) fun tk => ⟨.bl b, H, I.tok tk, rfl, q⟩
end
end Exv

namespace Exv
open PySem
abbrev bmKey : List Value := [.type "KeyError", .type "LookupError", .type "Exception", .type "BaseException", .type "object"]
abbrev bmExc : List Value := [.type "Exception", .type "BaseException", .type "object"]
theorem base3E : Base3 bmExc "Exception" := ⟨by decide +kernel, by decide +kernel, by decide +kernel⟩
theorem base3K : Base3 bmKey "LookupError" := ⟨by decide +kernel, by decide +kernel, by decide +kernel⟩
theorem keyStore : StoreFacts "KeyError" bmKey "object.__setattr__" "object" where
  mro := by kernel_rfl
  slot := (.of (owner := "object") (n := "__setattr__") (by rw [typeLookup_type, builtinLookup_eq_fast]; kernel_rfl) (by decide +kernel) (by decide +kernel) (by decide +kernel) (by first | exact .inl (by decide +kernel) | exact .inr (by decide +kernel)) (by rw [isSubtype_type]; kernel_rfl))
  entry := PySem.F.entry_object_sa
  kind := by decide +kernel
  split := by decide +kernel
  hasOwner := by decide +kernel
  args := fun x y z => by { unfold argsOk; kernel_rfl }
  passes := fun x => by kernel_rfl
end Exv

namespace Exv
open PySem L2
section
variable {X : Cx} {pins : List (Addr × Obj)} {σ : St} {H : Hp} {s : Shared}
/-- an exception's own dict, read as such -/
theorem Inv.asDict {d : Addr} {fs : List (Str × V)} (I : Inv X pins σ H s) (e : H d = some (exd d fs)) : Inv X pins σ (upd H d (.xd fs)) s := by
  have un : Un X.fs [] H (upd H d (.xd fs)) s.heap s.heap := {
    keep := fun b o q n _ _ => q
    slot := fun b o q n _ _ => ⟨_, q⟩
    free := fun b o q n _ => by
      rw [upd_ne (fun z => by rw [z, e] at n; cases n)]
      exact n
    there := fun b o q _ => ⟨_, q⟩
    tups := fun b xs q => by
      rw [upd_ne (at_ne e q exd_tup)]
      exact q
    frzs := fun b o v q => by
      rw [upd_ne (at_ne e q (fun z => by
        have z' : HO.ext _ = HO.frz o v := z
        cases z'))]
      exact q
    tbls := fun b ps q => ⟨#[], by
      rw [upd_ne (at_ne e q (fun z => by
        have z' : HO.ext _ = HO.tbl ps := z
        cases z')), q]
      simp⟩ }
  have J := I.un (t' := s.toks) un fun b o q => ?_
  · exact J
  · by_cases hb : b = d
    · subst hb
      rw [upd_same] at q
      cases q
      exact exd_at I.hok e
    · rw [upd_ne hb] at q
      refine (I.hok b o q).stay (fun c v _ z => z) (fun c hc => ?_) fun c xs hc => ?_
      · rw [upd_ne (at_ne e hc exd_own)]
        exact hc
      · rw [upd_ne (at_ne e hc exd_tup)]
        exact hc
end
/-- what is asked of a new own exception that is to be raised -/
def tMkE (K : PySem.W.Frag) (H0 : Hp) (te : TE) : St → Hp → XK → Prop := fun σ H Q => te σ H fun x H1 => ∃ (a C : Addr), x = .ref a ∧ Fr0 H0 a ∧ PySem.W.subIn K (.ref C) (.type "BaseException") = some true ∧ PySem.W.typeIn K (.ref C) = some (.type "type") ∧
  ((H1 a = some (exo a C none) ∧ Q (.ref C) none (delH H1 a)) ∨ ∃ d fs, d ≠ a ∧ H1 a = some (exo a C (some d)) ∧ H1 d = some (exd d fs) ∧ Q (.ref C) (some d) (upd (delH H1 a) d (.xd fs)))
/-- an expression that gives a new own exception makes an exception -/
theorem pmk_newE {X : Cx} {e : Expr} {te : TE} (hx : X.ex = []) (he : PE X e te) : PMk X e (tMkE X.K X.H_0 te) := by
  intro pins s σ H Q I h
  refine wpAny_mono (he.run pins s σ H _ I h) (fun u s1 hu => ?_) fun _ _ z => z
  obtain ⟨v, H1, I1, r1, a, C, rfl, h0, hr1, hr2, h1⟩ := hu
  cases (show u = Value.ref a from r1)
  have hr : Raises X (.ref C) := raises_own hr1 hr2
  rcases h1 with ⟨ea, q⟩ | ⟨d, fs, ne, ea, ed, q⟩
  · obtain ⟨t1, ha⟩ := exo_at I1.hok ea
    obtain ⟨G, gs, ga, J⟩ := Inv.untrack I1 ea h0 hx
    exact ⟨a, _, _, { s1 with heap := G }, delH H1 a, .ref C, none, rfl, J, gs, ga, ha, ⟨rfl, rfl⟩, rfl, rfl, delH_same, rfl, I1.bare, hr, q⟩
  · obtain ⟨t1, ha⟩ := exo_at I1.hok ea
    obtain ⟨G, gs, ga, J⟩ := Inv.untrack I1 ea h0 hx
    have ed' : delH H1 a d = some (exd d fs) := by rw [delH_ne ne]; exact ed
    have J2 := Inv.asDict J ed'
    exact ⟨a, _, _, { s1 with heap := G }, upd (delH H1 a) d (.xd fs), .ref C, some d, rfl, J2, gs, ga, ha, ⟨rfl, rfl⟩, rfl, rfl, by rw [upd_ne (Ne.symm ne), delH_same], rfl, I1.bare, hr, q⟩
end Exv

namespace Kerr
open PySem L2 Exv
/-! the classes of errors: their numbers, their fields -/
def fld : Nat → Str
  | 9 => "word"
  | 10 => "word"
  | 11 => "name"
  | _ => "at"
/-- what each __init__ promises -/
def spInit (C : Addr) (f : Str) : Sp := fun vs H Q _ => ∃ (a : Addr) (v : V), vs = [.ref a, v] ∧ H a = some (exo a C none) ∧
  ∀ dx, H dx = none → dx ≠ a → Q .non (upd (upd H dx (exd dx [(f, v)])) a (exo a C (some dx)))
section
variable {P : Program} {w : World} {K : PySem.W.Frag} {mg : Str → Option Value} {base : Heap}
abbrev sI0 : Stmt := inClass (top 2) 0
theorem scI0 : FnScope ["self", "at"] ["self", "at"] (defScope sI0) := ⟨rfl, rfl, rfl, by decide +kernel, rfl, by decide +kernel, by decide +kernel⟩
theorem ok_init0 {f C : Addr} {fd : FuncData} (F : Fun K "__init__" "InvalidNode.__init__" sI0 f fd) (T : ExT K C f "at" bmExc "Exception.__new__") : FnOk P w K mg base CX0 1 f fd ["self", "at"] (spInit C "at") := by
  refine F.ok scI0 (fun vs H Q E h => ?_) (fun cdv A outer s H vs Q E hr h => ?_)
  · obtain ⟨a, v, rfl, _⟩ := h
    rfl
  · obtain ⟨a, v, rfl, ha, k⟩ := h
    exact ⟨_, pss_one (ps_putE T PySem.F.store_Exception (pv 0) (pv 1)), _, rfl, _, rfl, a, rfl, ha, fun dx n ne => k dx n ne⟩
theorem bp0 {f : Addr} {fd : FuncData} (F : Fun K "__init__" "InvalidNode.__init__" sI0 f fd) (s : Shared) (a : Addr) (u : Value) : BindsTo s fd ⟨[.ref a, u], []⟩ ((["self", "at"] : List Str).zip [.ref a, u]) := by
  obtain ⟨_, _, _, _, _, _, _, _, _, rfl, _, _⟩ := F.ex
  exact .of_eq rfl
theorem bk0 {f : Addr} {fd : FuncData} (F : Fun K "__init__" "InvalidNode.__init__" sI0 f fd) (s : Shared) (a : Addr) (u : Value) : BindsTo s fd ⟨[.ref a], [("at", u)]⟩ ((["self", "at"] : List Str).zip [.ref a, u]) := by
  obtain ⟨_, _, _, _, _, _, _, _, _, rfl, _, _⟩ := F.ex
  exact .of_eq rfl
abbrev sI1 : Stmt := inClass (top 3) 0
theorem scI1 : FnScope ["self", "at"] ["self", "at"] (defScope sI1) := ⟨rfl, rfl, rfl, by decide +kernel, rfl, by decide +kernel, by decide +kernel⟩
theorem ok_init1 {f C : Addr} {fd : FuncData} (F : Fun K "__init__" "InvalidPlace.__init__" sI1 f fd) (T : ExT K C f "at" bmExc "Exception.__new__") : FnOk P w K mg base CX0 1 f fd ["self", "at"] (spInit C "at") := by
  refine F.ok scI1 (fun vs H Q E h => ?_) (fun cdv A outer s H vs Q E hr h => ?_)
  · obtain ⟨a, v, rfl, _⟩ := h
    rfl
  · obtain ⟨a, v, rfl, ha, k⟩ := h
    exact ⟨_, pss_one (ps_putE T PySem.F.store_Exception (pv 0) (pv 1)), _, rfl, _, rfl, a, rfl, ha, fun dx n ne => k dx n ne⟩
theorem bp1 {f : Addr} {fd : FuncData} (F : Fun K "__init__" "InvalidPlace.__init__" sI1 f fd) (s : Shared) (a : Addr) (u : Value) : BindsTo s fd ⟨[.ref a, u], []⟩ ((["self", "at"] : List Str).zip [.ref a, u]) := by
  obtain ⟨_, _, _, _, _, _, _, _, _, rfl, _, _⟩ := F.ex
  exact .of_eq rfl
theorem bk1 {f : Addr} {fd : FuncData} (F : Fun K "__init__" "InvalidPlace.__init__" sI1 f fd) (s : Shared) (a : Addr) (u : Value) : BindsTo s fd ⟨[.ref a], [("at", u)]⟩ ((["self", "at"] : List Str).zip [.ref a, u]) := by
  obtain ⟨_, _, _, _, _, _, _, _, _, rfl, _, _⟩ := F.ex
  exact .of_eq rfl
abbrev sI2 : Stmt := inClass (top 4) 0
theorem scI2 : FnScope ["self", "at"] ["self", "at"] (defScope sI2) := ⟨rfl, rfl, rfl, by decide +kernel, rfl, by decide +kernel, by decide +kernel⟩
theorem ok_init2 {f C : Addr} {fd : FuncData} (F : Fun K "__init__" "InvalidFormula.__init__" sI2 f fd) (T : ExT K C f "at" bmExc "Exception.__new__") : FnOk P w K mg base CX0 1 f fd ["self", "at"] (spInit C "at") := by
  refine F.ok scI2 (fun vs H Q E h => ?_) (fun cdv A outer s H vs Q E hr h => ?_)
  · obtain ⟨a, v, rfl, _⟩ := h
    rfl
  · obtain ⟨a, v, rfl, ha, k⟩ := h
    exact ⟨_, pss_one (ps_putE T PySem.F.store_Exception (pv 0) (pv 1)), _, rfl, _, rfl, a, rfl, ha, fun dx n ne => k dx n ne⟩
theorem bp2 {f : Addr} {fd : FuncData} (F : Fun K "__init__" "InvalidFormula.__init__" sI2 f fd) (s : Shared) (a : Addr) (u : Value) : BindsTo s fd ⟨[.ref a, u], []⟩ ((["self", "at"] : List Str).zip [.ref a, u]) := by
  obtain ⟨_, _, _, _, _, _, _, _, _, rfl, _, _⟩ := F.ex
  exact .of_eq rfl
theorem bk2 {f : Addr} {fd : FuncData} (F : Fun K "__init__" "InvalidFormula.__init__" sI2 f fd) (s : Shared) (a : Addr) (u : Value) : BindsTo s fd ⟨[.ref a], [("at", u)]⟩ ((["self", "at"] : List Str).zip [.ref a, u]) := by
  obtain ⟨_, _, _, _, _, _, _, _, _, rfl, _, _⟩ := F.ex
  exact .of_eq rfl
abbrev sI3 : Stmt := inClass (top 5) 0
theorem scI3 : FnScope ["self", "at"] ["self", "at"] (defScope sI3) := ⟨rfl, rfl, rfl, by decide +kernel, rfl, by decide +kernel, by decide +kernel⟩
theorem ok_init3 {f C : Addr} {fd : FuncData} (F : Fun K "__init__" "InvalidSchema.__init__" sI3 f fd) (T : ExT K C f "at" bmExc "Exception.__new__") : FnOk P w K mg base CX0 1 f fd ["self", "at"] (spInit C "at") := by
  refine F.ok scI3 (fun vs H Q E h => ?_) (fun cdv A outer s H vs Q E hr h => ?_)
  · obtain ⟨a, v, rfl, _⟩ := h
    rfl
  · obtain ⟨a, v, rfl, ha, k⟩ := h
    exact ⟨_, pss_one (ps_putE T PySem.F.store_Exception (pv 0) (pv 1)), _, rfl, _, rfl, a, rfl, ha, fun dx n ne => k dx n ne⟩
theorem bp3 {f : Addr} {fd : FuncData} (F : Fun K "__init__" "InvalidSchema.__init__" sI3 f fd) (s : Shared) (a : Addr) (u : Value) : BindsTo s fd ⟨[.ref a, u], []⟩ ((["self", "at"] : List Str).zip [.ref a, u]) := by
  obtain ⟨_, _, _, _, _, _, _, _, _, rfl, _, _⟩ := F.ex
  exact .of_eq rfl
theorem bk3 {f : Addr} {fd : FuncData} (F : Fun K "__init__" "InvalidSchema.__init__" sI3 f fd) (s : Shared) (a : Addr) (u : Value) : BindsTo s fd ⟨[.ref a], [("at", u)]⟩ ((["self", "at"] : List Str).zip [.ref a, u]) := by
  obtain ⟨_, _, _, _, _, _, _, _, _, rfl, _, _⟩ := F.ex
  exact .of_eq rfl
abbrev sI4 : Stmt := inClass (top 6) 0
theorem scI4 : FnScope ["self", "at"] ["self", "at"] (defScope sI4) := ⟨rfl, rfl, rfl, by decide +kernel, rfl, by decide +kernel, by decide +kernel⟩
theorem ok_init4 {f C : Addr} {fd : FuncData} (F : Fun K "__init__" "InvalidTable.__init__" sI4 f fd) (T : ExT K C f "at" bmExc "Exception.__new__") : FnOk P w K mg base CX0 1 f fd ["self", "at"] (spInit C "at") := by
  refine F.ok scI4 (fun vs H Q E h => ?_) (fun cdv A outer s H vs Q E hr h => ?_)
  · obtain ⟨a, v, rfl, _⟩ := h
    rfl
  · obtain ⟨a, v, rfl, ha, k⟩ := h
    exact ⟨_, pss_one (ps_putE T PySem.F.store_Exception (pv 0) (pv 1)), _, rfl, _, rfl, a, rfl, ha, fun dx n ne => k dx n ne⟩
theorem bp4 {f : Addr} {fd : FuncData} (F : Fun K "__init__" "InvalidTable.__init__" sI4 f fd) (s : Shared) (a : Addr) (u : Value) : BindsTo s fd ⟨[.ref a, u], []⟩ ((["self", "at"] : List Str).zip [.ref a, u]) := by
  obtain ⟨_, _, _, _, _, _, _, _, _, rfl, _, _⟩ := F.ex
  exact .of_eq rfl
theorem bk4 {f : Addr} {fd : FuncData} (F : Fun K "__init__" "InvalidTable.__init__" sI4 f fd) (s : Shared) (a : Addr) (u : Value) : BindsTo s fd ⟨[.ref a], [("at", u)]⟩ ((["self", "at"] : List Str).zip [.ref a, u]) := by
  obtain ⟨_, _, _, _, _, _, _, _, _, rfl, _, _⟩ := F.ex
  exact .of_eq rfl
abbrev sI5 : Stmt := inClass (top 7) 0
theorem scI5 : FnScope ["self", "at"] ["self", "at"] (defScope sI5) := ⟨rfl, rfl, rfl, by decide +kernel, rfl, by decide +kernel, by decide +kernel⟩
theorem ok_init5 {f C : Addr} {fd : FuncData} (F : Fun K "__init__" "InvalidTurning.__init__" sI5 f fd) (T : ExT K C f "at" bmExc "Exception.__new__") : FnOk P w K mg base CX0 1 f fd ["self", "at"] (spInit C "at") := by
  refine F.ok scI5 (fun vs H Q E h => ?_) (fun cdv A outer s H vs Q E hr h => ?_)
  · obtain ⟨a, v, rfl, _⟩ := h
    rfl
  · obtain ⟨a, v, rfl, ha, k⟩ := h
    exact ⟨_, pss_one (ps_putE T PySem.F.store_Exception (pv 0) (pv 1)), _, rfl, _, rfl, a, rfl, ha, fun dx n ne => k dx n ne⟩
theorem bp5 {f : Addr} {fd : FuncData} (F : Fun K "__init__" "InvalidTurning.__init__" sI5 f fd) (s : Shared) (a : Addr) (u : Value) : BindsTo s fd ⟨[.ref a, u], []⟩ ((["self", "at"] : List Str).zip [.ref a, u]) := by
  obtain ⟨_, _, _, _, _, _, _, _, _, rfl, _, _⟩ := F.ex
  exact .of_eq rfl
theorem bk5 {f : Addr} {fd : FuncData} (F : Fun K "__init__" "InvalidTurning.__init__" sI5 f fd) (s : Shared) (a : Addr) (u : Value) : BindsTo s fd ⟨[.ref a], [("at", u)]⟩ ((["self", "at"] : List Str).zip [.ref a, u]) := by
  obtain ⟨_, _, _, _, _, _, _, _, _, rfl, _, _⟩ := F.ex
  exact .of_eq rfl
abbrev sI6 : Stmt := inClass (top 8) 0
theorem scI6 : FnScope ["self", "at"] ["self", "at"] (defScope sI6) := ⟨rfl, rfl, rfl, by decide +kernel, rfl, by decide +kernel, by decide +kernel⟩
theorem ok_init6 {f C : Addr} {fd : FuncData} (F : Fun K "__init__" "InvalidEdit.__init__" sI6 f fd) (T : ExT K C f "at" bmExc "Exception.__new__") : FnOk P w K mg base CX0 1 f fd ["self", "at"] (spInit C "at") := by
  refine F.ok scI6 (fun vs H Q E h => ?_) (fun cdv A outer s H vs Q E hr h => ?_)
  · obtain ⟨a, v, rfl, _⟩ := h
    rfl
  · obtain ⟨a, v, rfl, ha, k⟩ := h
    exact ⟨_, pss_one (ps_putE T PySem.F.store_Exception (pv 0) (pv 1)), _, rfl, _, rfl, a, rfl, ha, fun dx n ne => k dx n ne⟩
theorem bp6 {f : Addr} {fd : FuncData} (F : Fun K "__init__" "InvalidEdit.__init__" sI6 f fd) (s : Shared) (a : Addr) (u : Value) : BindsTo s fd ⟨[.ref a, u], []⟩ ((["self", "at"] : List Str).zip [.ref a, u]) := by
  obtain ⟨_, _, _, _, _, _, _, _, _, rfl, _, _⟩ := F.ex
  exact .of_eq rfl
theorem bk6 {f : Addr} {fd : FuncData} (F : Fun K "__init__" "InvalidEdit.__init__" sI6 f fd) (s : Shared) (a : Addr) (u : Value) : BindsTo s fd ⟨[.ref a], [("at", u)]⟩ ((["self", "at"] : List Str).zip [.ref a, u]) := by
  obtain ⟨_, _, _, _, _, _, _, _, _, rfl, _, _⟩ := F.ex
  exact .of_eq rfl
abbrev sI7 : Stmt := inClass (top 9) 0
theorem scI7 : FnScope ["self", "at"] ["self", "at"] (defScope sI7) := ⟨rfl, rfl, rfl, by decide +kernel, rfl, by decide +kernel, by decide +kernel⟩
theorem ok_init7 {f C : Addr} {fd : FuncData} (F : Fun K "__init__" "InvalidAsk.__init__" sI7 f fd) (T : ExT K C f "at" bmExc "Exception.__new__") : FnOk P w K mg base CX0 1 f fd ["self", "at"] (spInit C "at") := by
  refine F.ok scI7 (fun vs H Q E h => ?_) (fun cdv A outer s H vs Q E hr h => ?_)
  · obtain ⟨a, v, rfl, _⟩ := h
    rfl
  · obtain ⟨a, v, rfl, ha, k⟩ := h
    exact ⟨_, pss_one (ps_putE T PySem.F.store_Exception (pv 0) (pv 1)), _, rfl, _, rfl, a, rfl, ha, fun dx n ne => k dx n ne⟩
theorem bp7 {f : Addr} {fd : FuncData} (F : Fun K "__init__" "InvalidAsk.__init__" sI7 f fd) (s : Shared) (a : Addr) (u : Value) : BindsTo s fd ⟨[.ref a, u], []⟩ ((["self", "at"] : List Str).zip [.ref a, u]) := by
  obtain ⟨_, _, _, _, _, _, _, _, _, rfl, _, _⟩ := F.ex
  exact .of_eq rfl
theorem bk7 {f : Addr} {fd : FuncData} (F : Fun K "__init__" "InvalidAsk.__init__" sI7 f fd) (s : Shared) (a : Addr) (u : Value) : BindsTo s fd ⟨[.ref a], [("at", u)]⟩ ((["self", "at"] : List Str).zip [.ref a, u]) := by
  obtain ⟨_, _, _, _, _, _, _, _, _, rfl, _, _⟩ := F.ex
  exact .of_eq rfl
abbrev sI8 : Stmt := inClass (top 10) 0
theorem scI8 : FnScope ["self", "at"] ["self", "at"] (defScope sI8) := ⟨rfl, rfl, rfl, by decide +kernel, rfl, by decide +kernel, by decide +kernel⟩
theorem ok_init8 {f C : Addr} {fd : FuncData} (F : Fun K "__init__" "InvalidText.__init__" sI8 f fd) (T : ExT K C f "at" bmExc "Exception.__new__") : FnOk P w K mg base CX0 1 f fd ["self", "at"] (spInit C "at") := by
  refine F.ok scI8 (fun vs H Q E h => ?_) (fun cdv A outer s H vs Q E hr h => ?_)
  · obtain ⟨a, v, rfl, _⟩ := h
    rfl
  · obtain ⟨a, v, rfl, ha, k⟩ := h
    exact ⟨_, pss_one (ps_putE T PySem.F.store_Exception (pv 0) (pv 1)), _, rfl, _, rfl, a, rfl, ha, fun dx n ne => k dx n ne⟩
theorem bp8 {f : Addr} {fd : FuncData} (F : Fun K "__init__" "InvalidText.__init__" sI8 f fd) (s : Shared) (a : Addr) (u : Value) : BindsTo s fd ⟨[.ref a, u], []⟩ ((["self", "at"] : List Str).zip [.ref a, u]) := by
  obtain ⟨_, _, _, _, _, _, _, _, _, rfl, _, _⟩ := F.ex
  exact .of_eq rfl
theorem bk8 {f : Addr} {fd : FuncData} (F : Fun K "__init__" "InvalidText.__init__" sI8 f fd) (s : Shared) (a : Addr) (u : Value) : BindsTo s fd ⟨[.ref a], [("at", u)]⟩ ((["self", "at"] : List Str).zip [.ref a, u]) := by
  obtain ⟨_, _, _, _, _, _, _, _, _, rfl, _, _⟩ := F.ex
  exact .of_eq rfl
abbrev sI9 : Stmt := inClass (top 11) 0
theorem scI9 : FnScope ["self", "word"] ["self", "word"] (defScope sI9) := ⟨rfl, rfl, rfl, by decide +kernel, rfl, by decide +kernel, by decide +kernel⟩
theorem ok_init9 {f C : Addr} {fd : FuncData} (F : Fun K "__init__" "InvalidSize.__init__" sI9 f fd) (T : ExT K C f "word" bmExc "Exception.__new__") : FnOk P w K mg base CX0 1 f fd ["self", "word"] (spInit C "word") := by
  refine F.ok scI9 (fun vs H Q E h => ?_) (fun cdv A outer s H vs Q E hr h => ?_)
  · obtain ⟨a, v, rfl, _⟩ := h
    rfl
  · obtain ⟨a, v, rfl, ha, k⟩ := h
    exact ⟨_, pss_one (ps_putE T PySem.F.store_Exception (pv 0) (pv 1)), _, rfl, _, rfl, a, rfl, ha, fun dx n ne => k dx n ne⟩
theorem bp9 {f : Addr} {fd : FuncData} (F : Fun K "__init__" "InvalidSize.__init__" sI9 f fd) (s : Shared) (a : Addr) (u : Value) : BindsTo s fd ⟨[.ref a, u], []⟩ ((["self", "word"] : List Str).zip [.ref a, u]) := by
  obtain ⟨_, _, _, _, _, _, _, _, _, rfl, _, _⟩ := F.ex
  exact .of_eq rfl
theorem bk9 {f : Addr} {fd : FuncData} (F : Fun K "__init__" "InvalidSize.__init__" sI9 f fd) (s : Shared) (a : Addr) (u : Value) : BindsTo s fd ⟨[.ref a], [("word", u)]⟩ ((["self", "word"] : List Str).zip [.ref a, u]) := by
  obtain ⟨_, _, _, _, _, _, _, _, _, rfl, _, _⟩ := F.ex
  exact .of_eq rfl
abbrev sI10 : Stmt := inClass (top 13) 0
theorem scI10 : FnScope ["self", "word"] ["self", "word"] (defScope sI10) := ⟨rfl, rfl, rfl, by decide +kernel, rfl, by decide +kernel, by decide +kernel⟩
theorem ok_init10 {f C : Addr} {fd : FuncData} (F : Fun K "__init__" "Refused.__init__" sI10 f fd) (T : ExT K C f "word" bmExc "Exception.__new__") : FnOk P w K mg base CX0 1 f fd ["self", "word"] (spInit C "word") := by
  refine F.ok scI10 (fun vs H Q E h => ?_) (fun cdv A outer s H vs Q E hr h => ?_)
  · obtain ⟨a, v, rfl, _⟩ := h
    rfl
  · obtain ⟨a, v, rfl, ha, k⟩ := h
    exact ⟨_, pss_one (ps_putE T PySem.F.store_Exception (pv 0) (pv 1)), _, rfl, _, rfl, a, rfl, ha, fun dx n ne => k dx n ne⟩
theorem bp10 {f : Addr} {fd : FuncData} (F : Fun K "__init__" "Refused.__init__" sI10 f fd) (s : Shared) (a : Addr) (u : Value) : BindsTo s fd ⟨[.ref a, u], []⟩ ((["self", "word"] : List Str).zip [.ref a, u]) := by
  obtain ⟨_, _, _, _, _, _, _, _, _, rfl, _, _⟩ := F.ex
  exact .of_eq rfl
theorem bk10 {f : Addr} {fd : FuncData} (F : Fun K "__init__" "Refused.__init__" sI10 f fd) (s : Shared) (a : Addr) (u : Value) : BindsTo s fd ⟨[.ref a], [("word", u)]⟩ ((["self", "word"] : List Str).zip [.ref a, u]) := by
  obtain ⟨_, _, _, _, _, _, _, _, _, rfl, _, _⟩ := F.ex
  exact .of_eq rfl
abbrev sI11 : Stmt := inClass (top 14) 0
theorem scI11 : FnScope ["self", "name"] ["self", "name"] (defScope sI11) := ⟨rfl, rfl, rfl, by decide +kernel, rfl, by decide +kernel, by decide +kernel⟩
theorem ok_init11 {f C : Addr} {fd : FuncData} (F : Fun K "__init__" "NoName.__init__" sI11 f fd) (T : ExT K C f "name" bmKey "LookupError.__new__") : FnOk P w K mg base CX0 1 f fd ["self", "name"] (spInit C "name") := by
  refine F.ok scI11 (fun vs H Q E h => ?_) (fun cdv A outer s H vs Q E hr h => ?_)
  · obtain ⟨a, v, rfl, _⟩ := h
    rfl
  · obtain ⟨a, v, rfl, ha, k⟩ := h
    exact ⟨_, pss_one (ps_putE T keyStore (pv 0) (pv 1)), _, rfl, _, rfl, a, rfl, ha, fun dx n ne => k dx n ne⟩
theorem bp11 {f : Addr} {fd : FuncData} (F : Fun K "__init__" "NoName.__init__" sI11 f fd) (s : Shared) (a : Addr) (u : Value) : BindsTo s fd ⟨[.ref a, u], []⟩ ((["self", "name"] : List Str).zip [.ref a, u]) := by
  obtain ⟨_, _, _, _, _, _, _, _, _, rfl, _, _⟩ := F.ex
  exact .of_eq rfl
theorem bk11 {f : Addr} {fd : FuncData} (F : Fun K "__init__" "NoName.__init__" sI11 f fd) (s : Shared) (a : Addr) (u : Value) : BindsTo s fd ⟨[.ref a], [("name", u)]⟩ ((["self", "name"] : List Str).zip [.ref a, u]) := by
  obtain ⟨_, _, _, _, _, _, _, _, _, rfl, _, _⟩ := F.ex
  exact .of_eq rfl
end
end Kerr

namespace Kerr
open PySem L2 Exv
abbrev sMade : Stmt := top 20
abbrev sOther : Stmt := top 21
/-- an error of the class with a number, which keeps v -/
def ExMade (c : Nat → Addr) (n : Nat) (p : Addr) (v : V) (H : Hp) : Prop :=
  (n < 12 ∧ ∃ d, H p = some (exo p (c n) (some d)) ∧ H d = some (exd d [(fld n, v)])) ∨ (n = 12 ∧ H p = some (exo p (c 12) none))
def spMade (c : Nat → Addr) (lo : Nat) : Sp := fun vs H Q _ => ∃ (n : Nat) (v : V) (b : Bool), vs = [.int n, v, .bl b] ∧ lo ≤ n ∧ n ≤ 12 ∧
  ∀ (p : Addr) (H' : Hp), Same H H' → H p = none → ExMade c n p v H' → Q (.ref p) H'
theorem made_fin {c : Nat → Addr} {n : Nat} {H : Hp} {a dx : Addr} {v : V} (hn : n < 12) (ha : H a = none) (hd : (upd H a (exo a (c n) none)) dx = none) (ne : dx ≠ a) :
    Same H (upd (upd (upd H a (exo a (c n) none)) dx (exd dx [(fld n, v)])) a (exo a (c n) (some dx))) ∧ ExMade c n a v (upd (upd (upd H a (exo a (c n) none)) dx (exd dx [(fld n, v)])) a (exo a (c n) (some dx))) := by
  have hd' : H dx = none := by
    rw [upd_ne ne] at hd
    exact hd
  refine ⟨fun q o e => ?_, .inl ⟨hn, dx, upd_same, ?_⟩⟩
  · rw [upd_ne (ne_of_none e ha), upd_ne (ne_of_none e hd'), upd_ne (ne_of_none e ha)]
    exact e
  · rw [upd_ne ne, upd_same]
/-- one class of errors, as the top leaves it -/
structure C1 (K : PySem.W.Frag) (mg : Str → Option Value) (C fI : Addr) (nm f : Str) (bm : List Value) (newId : String) : Prop where
  m : mg nm = some (.ref C)
  t : ExT K C fI f bm newId
structure MadeTxt (K : PySem.W.Frag) (mg : Str → Option Value) (c i : Nat → Addr) (g : Nat → FuncData) (fOther : Addr) : Prop where
  other : mg "_law_other" = some (.ref fOther)
  kOther : PySem.W.keepIn K (.ref fOther) = true
  mC : mg "InvalidCommand" = some (.ref (c 12))
  xC : PySem.W.excIn K (c 12) bmExc "Exception.__new__" = true
  kC : PySem.W.keepIn K (.ref (c 12)) = true
  c0 : C1 K mg (c 0) (i 0) "InvalidNode" "at" bmExc "Exception.__new__"
  f0 : Fun K "__init__" "InvalidNode.__init__" sI0 (i 0) (g 0)
  c1 : C1 K mg (c 1) (i 1) "InvalidPlace" "at" bmExc "Exception.__new__"
  f1 : Fun K "__init__" "InvalidPlace.__init__" sI1 (i 1) (g 1)
  c2 : C1 K mg (c 2) (i 2) "InvalidFormula" "at" bmExc "Exception.__new__"
  f2 : Fun K "__init__" "InvalidFormula.__init__" sI2 (i 2) (g 2)
  c3 : C1 K mg (c 3) (i 3) "InvalidSchema" "at" bmExc "Exception.__new__"
  f3 : Fun K "__init__" "InvalidSchema.__init__" sI3 (i 3) (g 3)
  c4 : C1 K mg (c 4) (i 4) "InvalidTable" "at" bmExc "Exception.__new__"
  f4 : Fun K "__init__" "InvalidTable.__init__" sI4 (i 4) (g 4)
  c5 : C1 K mg (c 5) (i 5) "InvalidTurning" "at" bmExc "Exception.__new__"
  f5 : Fun K "__init__" "InvalidTurning.__init__" sI5 (i 5) (g 5)
  c6 : C1 K mg (c 6) (i 6) "InvalidEdit" "at" bmExc "Exception.__new__"
  f6 : Fun K "__init__" "InvalidEdit.__init__" sI6 (i 6) (g 6)
  c7 : C1 K mg (c 7) (i 7) "InvalidAsk" "at" bmExc "Exception.__new__"
  f7 : Fun K "__init__" "InvalidAsk.__init__" sI7 (i 7) (g 7)
  c8 : C1 K mg (c 8) (i 8) "InvalidText" "at" bmExc "Exception.__new__"
  f8 : Fun K "__init__" "InvalidText.__init__" sI8 (i 8) (g 8)
  c9 : C1 K mg (c 9) (i 9) "InvalidSize" "word" bmExc "Exception.__new__"
  f9 : Fun K "__init__" "InvalidSize.__init__" sI9 (i 9) (g 9)
  c10 : C1 K mg (c 10) (i 10) "Refused" "word" bmExc "Exception.__new__"
  f10 : Fun K "__init__" "Refused.__init__" sI10 (i 10) (g 10)
  c11 : C1 K mg (c 11) (i 11) "NoName" "name" bmKey "LookupError.__new__"
  f11 : Fun K "__init__" "NoName.__init__" sI11 (i 11) (g 11)
theorem scOther : FnScope ["number", "thing", "named"] ["number", "thing", "named"] (defScope sOther) := ⟨rfl, rfl, rfl, by decide +kernel, rfl, by decide +kernel, by decide +kernel⟩
theorem scMade : FnScope ["number", "thing", "named"] ["number", "thing", "named"] (defScope sMade) := ⟨rfl, rfl, rfl, by decide +kernel, rfl, by decide +kernel, by decide +kernel⟩
section
variable {P : Program} {w : World} {K : PySem.W.Frag} {mg : Str → Option Value} {base : Heap} {c i : Nat → Addr} {g : Nat → FuncData} {fO : Addr}
theorem ok_other {f : Addr} {fd : FuncData} (F : Fun K "_law_other" "_law_other" sOther f fd) (T : MadeTxt K mg c i g fO) : FnOk P w K mg base CX0 3 f fd ["number", "thing", "named"] (spMade c 6) := by
  refine F.ok scOther (fun vs H Q E h => ?_) (fun cdv A outer s H vs Q E hr h => ?_)
  · obtain ⟨n, v, b, rfl, _⟩ := h
    rfl
  · obtain ⟨n, v, b, rfl, l, m, k⟩ := h
    refine ⟨_, pss_cons (ps_if (pt_cmpR op_eq (pv 0) pe_int (nomark _)) (pss_one (ps_ret (pe_ifExp (pt_val (pv 2)) (pe_newEK T.c6.t PySem.F.excBase_Exception base3E (ok_init6 T.f6 T.c6.t) hr pass0 rfl T.c6.m (fun s a u _ => bk6 T.f6 s a u) (pk_cons (pv 1) pk_nil)) (pe_newE T.c6.t PySem.F.excBase_Exception base3E (ok_init6 T.f6 T.c6.t) hr pass0 rfl T.c6.m (fun s a u _ => bp6 T.f6 s a u) (pa_cons (pv 1) pa_nil))))) pss_nil)
      (
      pss_cons (ps_if (pt_cmpR op_eq (pv 0) pe_int (nomark _)) (pss_one (ps_ret (pe_ifExp (pt_val (pv 2)) (pe_newEK T.c7.t PySem.F.excBase_Exception base3E (ok_init7 T.f7 T.c7.t) hr pass0 rfl T.c7.m (fun s a u _ => bk7 T.f7 s a u) (pk_cons (pv 1) pk_nil)) (pe_newE T.c7.t PySem.F.excBase_Exception base3E (ok_init7 T.f7 T.c7.t) hr pass0 rfl T.c7.m (fun s a u _ => bp7 T.f7 s a u) (pa_cons (pv 1) pa_nil))))) pss_nil)
      (
      pss_cons (ps_if (pt_cmpR op_eq (pv 0) pe_int (nomark _)) (pss_one (ps_ret (pe_ifExp (pt_val (pv 2)) (pe_newEK T.c8.t PySem.F.excBase_Exception base3E (ok_init8 T.f8 T.c8.t) hr pass0 rfl T.c8.m (fun s a u _ => bk8 T.f8 s a u) (pk_cons (pv 1) pk_nil)) (pe_newE T.c8.t PySem.F.excBase_Exception base3E (ok_init8 T.f8 T.c8.t) hr pass0 rfl T.c8.m (fun s a u _ => bp8 T.f8 s a u) (pa_cons (pv 1) pa_nil))))) pss_nil)
      (
      pss_cons (ps_if (pt_cmpR op_eq (pv 0) pe_int (nomark _)) (pss_one (ps_ret (pe_ifExp (pt_val (pv 2)) (pe_newEK T.c9.t PySem.F.excBase_Exception base3E (ok_init9 T.f9 T.c9.t) hr pass0 rfl T.c9.m (fun s a u _ => bk9 T.f9 s a u) (pk_cons (pv 1) pk_nil)) (pe_newE T.c9.t PySem.F.excBase_Exception base3E (ok_init9 T.f9 T.c9.t) hr pass0 rfl T.c9.m (fun s a u _ => bp9 T.f9 s a u) (pa_cons (pv 1) pa_nil))))) pss_nil)
      (
      pss_cons (ps_if (pt_cmpR op_eq (pv 0) pe_int (nomark _)) (pss_one (ps_ret (pe_ifExp (pt_val (pv 2)) (pe_newEK T.c10.t PySem.F.excBase_Exception base3E (ok_init10 T.f10 T.c10.t) hr pass0 rfl T.c10.m (fun s a u _ => bk10 T.f10 s a u) (pk_cons (pv 1) pk_nil)) (pe_newE T.c10.t PySem.F.excBase_Exception base3E (ok_init10 T.f10 T.c10.t) hr pass0 rfl T.c10.m (fun s a u _ => bp10 T.f10 s a u) (pa_cons (pv 1) pa_nil))))) pss_nil)
      (
      pss_cons (ps_if (pt_cmpR op_eq (pv 0) pe_int (nomark _)) (pss_one (ps_ret (pe_ifExp (pt_val (pv 2)) (pe_newEK T.c11.t PySem.F.excBase_LookupError base3K (ok_init11 T.f11 T.c11.t) hr pass0 rfl T.c11.m (fun s a u _ => bk11 T.f11 s a u) (pk_cons (pv 1) pk_nil)) (pe_newE T.c11.t PySem.F.excBase_LookupError base3K (ok_init11 T.f11 T.c11.t) hr pass0 rfl T.c11.m (fun s a u _ => bp11 T.f11 s a u) (pa_cons (pv 1) pa_nil))))) pss_nil)
      (pss_one (ps_ret (pe_new0 (bmC := []) PySem.F.excBase_Exception T.xC T.kC rfl T.mC)))))))), ?_⟩
    have hn : n = 6 ∨ n = 7 ∨ n = 8 ∨ n = 9 ∨ n = 10 ∨ n = 11 ∨ n = 12 := by omega
    rcases hn with rfl | rfl | rfl | rfl | rfl | rfl | rfl
    · skip
      refine ⟨_, rfl, rfl, _, rfl, iteT ?_⟩
      refine ⟨_, rfl, _, rfl, ?_⟩
      cases b with
      | true => exact ⟨_, rfl, _, rfl, fun a ha => ⟨a, _, rfl, upd_same, fun dx hd ne => ⟨rfl, k a _ (made_fin (n := 6) (by decide) ha hd ne).1 ha (made_fin (n := 6) (by decide) ha hd ne).2⟩⟩⟩
      | false => exact ⟨_, rfl, _, rfl, fun a ha => ⟨a, _, rfl, upd_same, fun dx hd ne => ⟨rfl, k a _ (made_fin (n := 6) (by decide) ha hd ne).1 ha (made_fin (n := 6) (by decide) ha hd ne).2⟩⟩⟩
    · skip
      refine ⟨_, rfl, rfl, _, rfl, iteF ?_⟩
      refine ⟨_, rfl, rfl, _, rfl, iteT ?_⟩
      refine ⟨_, rfl, _, rfl, ?_⟩
      cases b with
      | true => exact ⟨_, rfl, _, rfl, fun a ha => ⟨a, _, rfl, upd_same, fun dx hd ne => ⟨rfl, k a _ (made_fin (n := 7) (by decide) ha hd ne).1 ha (made_fin (n := 7) (by decide) ha hd ne).2⟩⟩⟩
      | false => exact ⟨_, rfl, _, rfl, fun a ha => ⟨a, _, rfl, upd_same, fun dx hd ne => ⟨rfl, k a _ (made_fin (n := 7) (by decide) ha hd ne).1 ha (made_fin (n := 7) (by decide) ha hd ne).2⟩⟩⟩
    · skip
      refine ⟨_, rfl, rfl, _, rfl, iteF ?_⟩
      refine ⟨_, rfl, rfl, _, rfl, iteF ?_⟩
      refine ⟨_, rfl, rfl, _, rfl, iteT ?_⟩
      refine ⟨_, rfl, _, rfl, ?_⟩
      cases b with
      | true => exact ⟨_, rfl, _, rfl, fun a ha => ⟨a, _, rfl, upd_same, fun dx hd ne => ⟨rfl, k a _ (made_fin (n := 8) (by decide) ha hd ne).1 ha (made_fin (n := 8) (by decide) ha hd ne).2⟩⟩⟩
      | false => exact ⟨_, rfl, _, rfl, fun a ha => ⟨a, _, rfl, upd_same, fun dx hd ne => ⟨rfl, k a _ (made_fin (n := 8) (by decide) ha hd ne).1 ha (made_fin (n := 8) (by decide) ha hd ne).2⟩⟩⟩
    · skip
      refine ⟨_, rfl, rfl, _, rfl, iteF ?_⟩
      refine ⟨_, rfl, rfl, _, rfl, iteF ?_⟩
      refine ⟨_, rfl, rfl, _, rfl, iteF ?_⟩
      refine ⟨_, rfl, rfl, _, rfl, iteT ?_⟩
      refine ⟨_, rfl, _, rfl, ?_⟩
      cases b with
      | true => exact ⟨_, rfl, _, rfl, fun a ha => ⟨a, _, rfl, upd_same, fun dx hd ne => ⟨rfl, k a _ (made_fin (n := 9) (by decide) ha hd ne).1 ha (made_fin (n := 9) (by decide) ha hd ne).2⟩⟩⟩
      | false => exact ⟨_, rfl, _, rfl, fun a ha => ⟨a, _, rfl, upd_same, fun dx hd ne => ⟨rfl, k a _ (made_fin (n := 9) (by decide) ha hd ne).1 ha (made_fin (n := 9) (by decide) ha hd ne).2⟩⟩⟩
    · skip
      refine ⟨_, rfl, rfl, _, rfl, iteF ?_⟩
      refine ⟨_, rfl, rfl, _, rfl, iteF ?_⟩
      refine ⟨_, rfl, rfl, _, rfl, iteF ?_⟩
      refine ⟨_, rfl, rfl, _, rfl, iteF ?_⟩
      refine ⟨_, rfl, rfl, _, rfl, iteT ?_⟩
      refine ⟨_, rfl, _, rfl, ?_⟩
      cases b with
      | true => exact ⟨_, rfl, _, rfl, fun a ha => ⟨a, _, rfl, upd_same, fun dx hd ne => ⟨rfl, k a _ (made_fin (n := 10) (by decide) ha hd ne).1 ha (made_fin (n := 10) (by decide) ha hd ne).2⟩⟩⟩
      | false => exact ⟨_, rfl, _, rfl, fun a ha => ⟨a, _, rfl, upd_same, fun dx hd ne => ⟨rfl, k a _ (made_fin (n := 10) (by decide) ha hd ne).1 ha (made_fin (n := 10) (by decide) ha hd ne).2⟩⟩⟩
    · skip
      refine ⟨_, rfl, rfl, _, rfl, iteF ?_⟩
      refine ⟨_, rfl, rfl, _, rfl, iteF ?_⟩
      refine ⟨_, rfl, rfl, _, rfl, iteF ?_⟩
      refine ⟨_, rfl, rfl, _, rfl, iteF ?_⟩
      refine ⟨_, rfl, rfl, _, rfl, iteF ?_⟩
      refine ⟨_, rfl, rfl, _, rfl, iteT ?_⟩
      refine ⟨_, rfl, _, rfl, ?_⟩
      cases b with
      | true => exact ⟨_, rfl, _, rfl, fun a ha => ⟨a, _, rfl, upd_same, fun dx hd ne => ⟨rfl, k a _ (made_fin (n := 11) (by decide) ha hd ne).1 ha (made_fin (n := 11) (by decide) ha hd ne).2⟩⟩⟩
      | false => exact ⟨_, rfl, _, rfl, fun a ha => ⟨a, _, rfl, upd_same, fun dx hd ne => ⟨rfl, k a _ (made_fin (n := 11) (by decide) ha hd ne).1 ha (made_fin (n := 11) (by decide) ha hd ne).2⟩⟩⟩
    · skip
      refine ⟨_, rfl, rfl, _, rfl, iteF ?_⟩
      refine ⟨_, rfl, rfl, _, rfl, iteF ?_⟩
      refine ⟨_, rfl, rfl, _, rfl, iteF ?_⟩
      refine ⟨_, rfl, rfl, _, rfl, iteF ?_⟩
      refine ⟨_, rfl, rfl, _, rfl, iteF ?_⟩
      refine ⟨_, rfl, rfl, _, rfl, iteF ?_⟩
      intro a ha
      refine k a _ (fun q o e => ?_) ha (.inr ⟨rfl, upd_same⟩)
      rw [upd_ne (ne_of_none e ha)]
      exact e

theorem ok_made {f : Addr} {fd fdO : FuncData} (F : Fun K "_law_made" "_law_made" sMade f fd) (T : MadeTxt K mg c i g fO) (FO : Fun K "_law_other" "_law_other" sOther fO fdO) (bO : Binds K fdO ["number", "thing", "named"] []) : FnOk P w K mg base CX0 4 f fd ["number", "thing", "named"] (spMade c 0) := by
  refine F.ok scMade (fun vs H Q E h => ?_) (fun cdv A outer s H vs Q E hr' h => ?_)
  · obtain ⟨n, v, b, rfl, _⟩ := h
    rfl
  · obtain ⟨n, v, b, rfl, l, m, k⟩ := h
    have hr : Room 2 _ := hr'.mono (by decide)
    refine ⟨_, pss_cons (ps_if (pt_cmpR op_eq (pv 0) pe_int (nomark _)) (pss_one (ps_ret (pe_ifExp (pt_val (pv 2)) (pe_newEK T.c0.t PySem.F.excBase_Exception base3E (ok_init0 T.f0 T.c0.t) hr pass0 rfl T.c0.m (fun s a u _ => bk0 T.f0 s a u) (pk_cons (pv 1) pk_nil)) (pe_newE T.c0.t PySem.F.excBase_Exception base3E (ok_init0 T.f0 T.c0.t) hr pass0 rfl T.c0.m (fun s a u _ => bp0 T.f0 s a u) (pa_cons (pv 1) pa_nil))))) pss_nil)
      (
      pss_cons (ps_if (pt_cmpR op_eq (pv 0) pe_int (nomark _)) (pss_one (ps_ret (pe_ifExp (pt_val (pv 2)) (pe_newEK T.c1.t PySem.F.excBase_Exception base3E (ok_init1 T.f1 T.c1.t) hr pass0 rfl T.c1.m (fun s a u _ => bk1 T.f1 s a u) (pk_cons (pv 1) pk_nil)) (pe_newE T.c1.t PySem.F.excBase_Exception base3E (ok_init1 T.f1 T.c1.t) hr pass0 rfl T.c1.m (fun s a u _ => bp1 T.f1 s a u) (pa_cons (pv 1) pa_nil))))) pss_nil)
      (
      pss_cons (ps_if (pt_cmpR op_eq (pv 0) pe_int (nomark _)) (pss_one (ps_ret (pe_ifExp (pt_val (pv 2)) (pe_newEK T.c2.t PySem.F.excBase_Exception base3E (ok_init2 T.f2 T.c2.t) hr pass0 rfl T.c2.m (fun s a u _ => bk2 T.f2 s a u) (pk_cons (pv 1) pk_nil)) (pe_newE T.c2.t PySem.F.excBase_Exception base3E (ok_init2 T.f2 T.c2.t) hr pass0 rfl T.c2.m (fun s a u _ => bp2 T.f2 s a u) (pa_cons (pv 1) pa_nil))))) pss_nil)
      (
      pss_cons (ps_if (pt_cmpR op_eq (pv 0) pe_int (nomark _)) (pss_one (ps_ret (pe_ifExp (pt_val (pv 2)) (pe_newEK T.c3.t PySem.F.excBase_Exception base3E (ok_init3 T.f3 T.c3.t) hr pass0 rfl T.c3.m (fun s a u _ => bk3 T.f3 s a u) (pk_cons (pv 1) pk_nil)) (pe_newE T.c3.t PySem.F.excBase_Exception base3E (ok_init3 T.f3 T.c3.t) hr pass0 rfl T.c3.m (fun s a u _ => bp3 T.f3 s a u) (pa_cons (pv 1) pa_nil))))) pss_nil)
      (
      pss_cons (ps_if (pt_cmpR op_eq (pv 0) pe_int (nomark _)) (pss_one (ps_ret (pe_ifExp (pt_val (pv 2)) (pe_newEK T.c4.t PySem.F.excBase_Exception base3E (ok_init4 T.f4 T.c4.t) hr pass0 rfl T.c4.m (fun s a u _ => bk4 T.f4 s a u) (pk_cons (pv 1) pk_nil)) (pe_newE T.c4.t PySem.F.excBase_Exception base3E (ok_init4 T.f4 T.c4.t) hr pass0 rfl T.c4.m (fun s a u _ => bp4 T.f4 s a u) (pa_cons (pv 1) pa_nil))))) pss_nil)
      (
      pss_cons (ps_if (pt_cmpR op_eq (pv 0) pe_int (nomark _)) (pss_one (ps_ret (pe_ifExp (pt_val (pv 2)) (pe_newEK T.c5.t PySem.F.excBase_Exception base3E (ok_init5 T.f5 T.c5.t) hr pass0 rfl T.c5.m (fun s a u _ => bk5 T.f5 s a u) (pk_cons (pv 1) pk_nil)) (pe_newE T.c5.t PySem.F.excBase_Exception base3E (ok_init5 T.f5 T.c5.t) hr pass0 rfl T.c5.m (fun s a u _ => bp5 T.f5 s a u) (pa_cons (pv 1) pa_nil))))) pss_nil)
      (pss_one (ps_ret (pe_call (ok_other FO T) hr' rfl T.other T.kOther bO .nil pass0 (pa_cons (pv 0) (pa_cons (pv 1) (pa_cons (pv 2) pa_nil))))))))))), ?_⟩
    by_cases big : 6 ≤ n
    · have d : ∀ j : Nat, j < 6 → decide (V.int (n : Int) = V.int (j : Int)) = false := fun j hj => decide_eq_false fun z => by
        have z' := V.int.inj z
        omega
      refine ⟨_, rfl, rfl, _, rfl, ?_⟩
      rw [show decide (V.int (n : Int) = V.int 0) = false from d 0 (by decide)]
      refine iteF ?_
      refine ⟨_, rfl, rfl, _, rfl, ?_⟩
      rw [show decide (V.int (n : Int) = V.int 1) = false from d 1 (by decide)]
      refine iteF ?_
      refine ⟨_, rfl, rfl, _, rfl, ?_⟩
      rw [show decide (V.int (n : Int) = V.int 2) = false from d 2 (by decide)]
      refine iteF ?_
      refine ⟨_, rfl, rfl, _, rfl, ?_⟩
      rw [show decide (V.int (n : Int) = V.int 3) = false from d 3 (by decide)]
      refine iteF ?_
      refine ⟨_, rfl, rfl, _, rfl, ?_⟩
      rw [show decide (V.int (n : Int) = V.int 4) = false from d 4 (by decide)]
      refine iteF ?_
      refine ⟨_, rfl, rfl, _, rfl, ?_⟩
      rw [show decide (V.int (n : Int) = V.int 5) = false from d 5 (by decide)]
      refine iteF ?_
      exact ⟨_, rfl, _, rfl, _, rfl, n, v, b, rfl, big, m, k⟩
    have hn : n = 0 ∨ n = 1 ∨ n = 2 ∨ n = 3 ∨ n = 4 ∨ n = 5 := by omega
    rcases hn with rfl | rfl | rfl | rfl | rfl | rfl
    · skip
      refine ⟨_, rfl, rfl, _, rfl, iteT ?_⟩
      refine ⟨_, rfl, _, rfl, ?_⟩
      cases b with
      | true => exact ⟨_, rfl, _, rfl, fun a ha => ⟨a, _, rfl, upd_same, fun dx hd ne => ⟨rfl, k a _ (made_fin (n := 0) (by decide) ha hd ne).1 ha (made_fin (n := 0) (by decide) ha hd ne).2⟩⟩⟩
      | false => exact ⟨_, rfl, _, rfl, fun a ha => ⟨a, _, rfl, upd_same, fun dx hd ne => ⟨rfl, k a _ (made_fin (n := 0) (by decide) ha hd ne).1 ha (made_fin (n := 0) (by decide) ha hd ne).2⟩⟩⟩
    · skip
      refine ⟨_, rfl, rfl, _, rfl, iteF ?_⟩
      refine ⟨_, rfl, rfl, _, rfl, iteT ?_⟩
      refine ⟨_, rfl, _, rfl, ?_⟩
      cases b with
      | true => exact ⟨_, rfl, _, rfl, fun a ha => ⟨a, _, rfl, upd_same, fun dx hd ne => ⟨rfl, k a _ (made_fin (n := 1) (by decide) ha hd ne).1 ha (made_fin (n := 1) (by decide) ha hd ne).2⟩⟩⟩
      | false => exact ⟨_, rfl, _, rfl, fun a ha => ⟨a, _, rfl, upd_same, fun dx hd ne => ⟨rfl, k a _ (made_fin (n := 1) (by decide) ha hd ne).1 ha (made_fin (n := 1) (by decide) ha hd ne).2⟩⟩⟩
    · skip
      refine ⟨_, rfl, rfl, _, rfl, iteF ?_⟩
      refine ⟨_, rfl, rfl, _, rfl, iteF ?_⟩
      refine ⟨_, rfl, rfl, _, rfl, iteT ?_⟩
      refine ⟨_, rfl, _, rfl, ?_⟩
      cases b with
      | true => exact ⟨_, rfl, _, rfl, fun a ha => ⟨a, _, rfl, upd_same, fun dx hd ne => ⟨rfl, k a _ (made_fin (n := 2) (by decide) ha hd ne).1 ha (made_fin (n := 2) (by decide) ha hd ne).2⟩⟩⟩
      | false => exact ⟨_, rfl, _, rfl, fun a ha => ⟨a, _, rfl, upd_same, fun dx hd ne => ⟨rfl, k a _ (made_fin (n := 2) (by decide) ha hd ne).1 ha (made_fin (n := 2) (by decide) ha hd ne).2⟩⟩⟩
    · skip
      refine ⟨_, rfl, rfl, _, rfl, iteF ?_⟩
      refine ⟨_, rfl, rfl, _, rfl, iteF ?_⟩
      refine ⟨_, rfl, rfl, _, rfl, iteF ?_⟩
      refine ⟨_, rfl, rfl, _, rfl, iteT ?_⟩
      refine ⟨_, rfl, _, rfl, ?_⟩
      cases b with
      | true => exact ⟨_, rfl, _, rfl, fun a ha => ⟨a, _, rfl, upd_same, fun dx hd ne => ⟨rfl, k a _ (made_fin (n := 3) (by decide) ha hd ne).1 ha (made_fin (n := 3) (by decide) ha hd ne).2⟩⟩⟩
      | false => exact ⟨_, rfl, _, rfl, fun a ha => ⟨a, _, rfl, upd_same, fun dx hd ne => ⟨rfl, k a _ (made_fin (n := 3) (by decide) ha hd ne).1 ha (made_fin (n := 3) (by decide) ha hd ne).2⟩⟩⟩
    · skip
      refine ⟨_, rfl, rfl, _, rfl, iteF ?_⟩
      refine ⟨_, rfl, rfl, _, rfl, iteF ?_⟩
      refine ⟨_, rfl, rfl, _, rfl, iteF ?_⟩
      refine ⟨_, rfl, rfl, _, rfl, iteF ?_⟩
      refine ⟨_, rfl, rfl, _, rfl, iteT ?_⟩
      refine ⟨_, rfl, _, rfl, ?_⟩
      cases b with
      | true => exact ⟨_, rfl, _, rfl, fun a ha => ⟨a, _, rfl, upd_same, fun dx hd ne => ⟨rfl, k a _ (made_fin (n := 4) (by decide) ha hd ne).1 ha (made_fin (n := 4) (by decide) ha hd ne).2⟩⟩⟩
      | false => exact ⟨_, rfl, _, rfl, fun a ha => ⟨a, _, rfl, upd_same, fun dx hd ne => ⟨rfl, k a _ (made_fin (n := 4) (by decide) ha hd ne).1 ha (made_fin (n := 4) (by decide) ha hd ne).2⟩⟩⟩
    · skip
      refine ⟨_, rfl, rfl, _, rfl, iteF ?_⟩
      refine ⟨_, rfl, rfl, _, rfl, iteF ?_⟩
      refine ⟨_, rfl, rfl, _, rfl, iteF ?_⟩
      refine ⟨_, rfl, rfl, _, rfl, iteF ?_⟩
      refine ⟨_, rfl, rfl, _, rfl, iteF ?_⟩
      refine ⟨_, rfl, rfl, _, rfl, iteT ?_⟩
      refine ⟨_, rfl, _, rfl, ?_⟩
      cases b with
      | true => exact ⟨_, rfl, _, rfl, fun a ha => ⟨a, _, rfl, upd_same, fun dx hd ne => ⟨rfl, k a _ (made_fin (n := 5) (by decide) ha hd ne).1 ha (made_fin (n := 5) (by decide) ha hd ne).2⟩⟩⟩
      | false => exact ⟨_, rfl, _, rfl, fun a ha => ⟨a, _, rfl, upd_same, fun dx hd ne => ⟨rfl, k a _ (made_fin (n := 5) (by decide) ha hd ne).1 ha (made_fin (n := 5) (by decide) ha hd ne).2⟩⟩⟩

end
end Kerr

namespace Kerr
open PySem L2 Exv
abbrev sKinds : Stmt := top 22
abbrev sKept : Stmt := top 23
theorem ExMade.same {c : Nat → Addr} {n : Nat} {p : Addr} {v : V} {H H' : Hp} (h : ExMade c n p v H) (s : Same H H') : ExMade c n p v H' := by
  rcases h with ⟨a, d, e1, e2⟩ | ⟨a, e⟩
  · exact .inl ⟨a, d, s _ _ e1, s _ _ e2⟩
  · exact .inr ⟨a, s _ _ e⟩
theorem ExMade.form {c : Nat → Addr} {n : Nat} {p : Addr} {v : V} {H : Hp} (h : ExMade c n p v H) : H p = some (exo p (c n) none) ∨ ∃ d fs, H p = some (exo p (c n) (some d)) ∧ H d = some (exd d fs) := by
  rcases h with ⟨a, d, e1, e2⟩ | ⟨a, e⟩
  · exact .inr ⟨d, _, e1, e2⟩
  · subst a
    exact .inl e
def spKinds (c : Nat → Addr) : Sp := fun vs H Q _ => ∃ (n : Nat) (p : Addr) (v : V), vs = [.ref p] ∧ n ≤ 12 ∧ ExMade c n p v H ∧
  ∀ (r : Addr) (H' : Hp), Same H H' → H' r = some (.lst [.int n]) → Q (.ref r) H'
def spKept (c : Nat → Addr) : Sp := fun vs H Q _ => ∃ (n : Nat) (p : Addr) (v : V), vs = [.int n, .ref p] ∧ n ≤ 12 ∧ ExMade c n p v H ∧
  ∀ (r : Addr) (H' : Hp), Same H H' → H r = none → H' r = some (.lst (if n < 12 then [v] else [])) → Q (.ref r) H'
structure KindTxt (K : PySem.W.Frag) (mg : Str → Option Value) (c : Nat → Addr) : Prop where
  isi : mg "isinstance" = none
  len : mg "len" = none
  range : mg "range" = none
  isT : ∀ n, n ≤ 12 → IsT K (c n)
  kinds : ∀ n j, n ≤ 12 → j ≤ 12 → PySem.W.kitOne K (.ref (c n)) (.ref (c j)) = some (decide (j = n))
  no : ∀ n, n < 12 → PySem.W.findIn K (.ref (c n)) (fld n) = some none
  m0 : mg "InvalidNode" = some (.ref (c 0))
  m1 : mg "InvalidPlace" = some (.ref (c 1))
  m2 : mg "InvalidFormula" = some (.ref (c 2))
  m3 : mg "InvalidSchema" = some (.ref (c 3))
  m4 : mg "InvalidTable" = some (.ref (c 4))
  m5 : mg "InvalidTurning" = some (.ref (c 5))
  m6 : mg "InvalidEdit" = some (.ref (c 6))
  m7 : mg "InvalidAsk" = some (.ref (c 7))
  m8 : mg "InvalidText" = some (.ref (c 8))
  m9 : mg "InvalidSize" = some (.ref (c 9))
  m10 : mg "Refused" = some (.ref (c 10))
  m11 : mg "NoName" = some (.ref (c 11))
  m12 : mg "InvalidCommand" = some (.ref (c 12))
theorem scKinds : FnScope ["e", "found", "at"] ["e"] (defScope sKinds) := ⟨rfl, rfl, rfl, by decide +kernel, rfl, by decide +kernel, by decide +kernel⟩
theorem scKept : FnScope ["number", "e"] ["number", "e"] (defScope sKept) := ⟨rfl, rfl, rfl, by decide +kernel, rfl, by decide +kernel, by decide +kernel⟩
theorem get13 (f : Nat → V) : ∀ i, i < 13 → ([f 0, f 1, f 2, f 3, f 4, f 5, f 6, f 7, f 8, f 9, f 10, f 11, f 12] : List V)[i]? = some (f i) := by
  intro i hi
  have h : i = 0 ∨ i = 1 ∨ i = 2 ∨ i = 3 ∨ i = 4 ∨ i = 5 ∨ i = 6 ∨ i = 7 ∨ i = 8 ∨ i = 9 ∨ i = 10 ∨ i = 11 ∨ i = 12 := by omega
  rcases h with rfl | rfl | rfl | rfl | rfl | rfl | rfl | rfl | rfl | rfl | rfl | rfl | rfl <;> rfl
theorem fld_at {n : Nat} (h : n < 9) : fld n = "at" := by
  have h : n = 0 ∨ n = 1 ∨ n = 2 ∨ n = 3 ∨ n = 4 ∨ n = 5 ∨ n = 6 ∨ n = 7 ∨ n = 8 := by omega
  rcases h with rfl | rfl | rfl | rfl | rfl | rfl | rfl | rfl | rfl <;> rfl
theorem fld_word {n : Nat} (h : ¬ n < 9) (h2 : n < 11) : fld n = "word" := by
  have h : n = 9 ∨ n = 10 := by omega
  rcases h with rfl | rfl <;> rfl
theorem Same.put {H H' : Hp} {l : Addr} {o : HO} (s : Same H H') (hl : H' l = none) : Same H (upd H' l o) := fun q u e => by
  have z := s q u e
  rw [upd_ne (ne_of_none z hl)]
  exact z
section
variable {P : Program} {w : World} {K : PySem.W.Frag} {mg : Str → Option Value} {base : Heap} {c : Nat → Addr}
theorem ok_kept {f : Addr} {fd : FuncData} (F : Fun K "_law_kept" "_law_kept" sKept f fd) (T : KindTxt K mg c) : FnOk P w K mg base CX0 1 f fd ["number", "e"] (spKept c) := by
  refine F.ok scKept (fun vs H Q E h => ?_) (fun cdv A outer s H vs Q E hr h => ?_)
  · obtain ⟨n, p, v, rfl, _⟩ := h
    rfl
  · obtain ⟨n, p, v, rfl, m, X, k⟩ := h
    refine ⟨_, pss_cons (ps_if (pt_cmpR op_lt (pv 0) pe_int (nomark _)) (pss_one (ps_ret (pe_lst (pa_cons (pe_atE (pv 1)) pa_nil)))) pss_nil)
      (pss_cons (ps_if (pt_cmpR op_lt (pv 0) pe_int (nomark _)) (pss_one (ps_ret (pe_lst (pa_cons (pe_atE (pv 1)) pa_nil)))) pss_nil)
      (pss_one (ps_ret (pe_ifExp (pt_cmpR op_eq (pv 0) pe_int (nomark _)) (pe_lst (pa_cons (pe_atE (pv 1)) pa_nil)) (pe_lst pa_nil))))), ?_⟩
    have look : ∀ (f : Str) (v : V), List.lookup f [(f, v)] = some v := fun f v => by simp [List.lookup]
    refine ⟨_, rfl, _, _, rfl, rfl, _, rfl, ite2 (fun h9 => ?_) (fun h9 => ?_)⟩
    · have n9 : n < 9 := by
        have := of_decide_eq_true h9
        omega
      rcases X with ⟨a, d, e1, e2⟩ | ⟨a, e⟩
      · have z := T.no n a
        rw [fld_at n9] at e2 z
        refine ⟨_, rfl, p, c n, d, _, v, rfl, T.isT n m, z, e1, e2, look _ _, (by show 1 ≤ sizeLine; decide), fun l hl => k l _ (Same.put (Same.refl _) hl) hl ?_⟩
        rw [upd_same, if_pos a]
      · omega
    · have n9 : ¬ n < 9 := fun z => h9 (decide_eq_true (by omega))
      refine ⟨_, rfl, _, _, rfl, rfl, _, rfl, ite2 (fun h11 => ?_) (fun h11 => ?_)⟩
      · have n11 : n < 11 := by
          have := of_decide_eq_true h11
          omega
        rcases X with ⟨a, d, e1, e2⟩ | ⟨a, e⟩
        · have z := T.no n a
          rw [fld_word n9 n11] at e2 z
          refine ⟨_, rfl, p, c n, d, _, v, rfl, T.isT n m, z, e1, e2, look _ _, (by show 1 ≤ sizeLine; decide), fun l hl => k l _ (Same.put (Same.refl _) hl) hl ?_⟩
          rw [upd_same, if_pos a]
        · omega
      · have n11 : ¬ n < 11 := fun z => h11 (decide_eq_true (by omega))
        have hn : n = 11 ∨ n = 12 := by omega
        rcases hn with rfl | rfl
        · rcases X with ⟨a, d, e1, e2⟩ | ⟨a, e⟩
          · refine ⟨_, rfl, rfl, _, rfl, ?_⟩
            refine iteT ?_
            refine ⟨_, rfl, p, c 11, d, _, v, rfl, T.isT 11 m, T.no 11 a, e1, e2, look _ _, (by show 1 ≤ sizeLine; decide), fun l hl => k l _ (Same.put (Same.refl _) hl) hl ?_⟩
            rw [upd_same, if_pos a]
          · omega
        · refine ⟨_, rfl, rfl, _, rfl, ?_⟩
          refine iteF ?_
          exact ⟨Nat.zero_le _, fun l hl => k l _ (Same.put (Same.refl _) hl) hl upd_same⟩
end
end Kerr

namespace Kerr
open PySem L2 Exv
section
variable {P : Program} {w : World} {K : PySem.W.Frag} {mg : Str → Option Value} {base : Heap} {c : Nat → Addr}
theorem ok_kinds {f : Addr} {fd : FuncData} (F : Fun K "_law_kinds" "_law_kinds" sKinds f fd) (T : KindTxt K mg c) : FnOk P w K mg base CX0 1 f fd ["e"] (spKinds c) := by
  refine F.ok scKinds (fun vs H Q E h => ?_) (fun cdv A outer s H vs Q E hr h => ?_)
  · obtain ⟨n, p, v, rfl, _⟩ := h
    rfl
  · obtain ⟨n, p, v, rfl, m, X, k⟩ := h
    refine ⟨_, pss_cons (ps_set (i := 1) scKinds.nd rfl (Or.inr rfl) (pe_lst (pa_cons (pe_callB call_isX (by rfl) T.isi (by decide +kernel) (pa_cons (pv 0) (pa_cons (pe_glob (v := V.ref (c 0)) rfl T.m0 rfl) pa_nil))) (pa_cons (pe_callB call_isX (by rfl) T.isi (by decide +kernel) (pa_cons (pv 0) (pa_cons (pe_glob (v := V.ref (c 1)) rfl T.m1 rfl) pa_nil))) (pa_cons (pe_callB call_isX (by rfl) T.isi (by decide +kernel) (pa_cons (pv 0) (pa_cons (pe_glob (v := V.ref (c 2)) rfl T.m2 rfl) pa_nil))) (pa_nil))))))
      (pss_cons (ps_set (i := 1) scKinds.nd rfl (Or.inr rfl) (pe_op op_cat (pv 1) (pe_lst (pa_cons (pe_callB call_isX (by rfl) T.isi (by decide +kernel) (pa_cons (pv 0) (pa_cons (pe_glob (v := V.ref (c 3)) rfl T.m3 rfl) pa_nil))) (pa_cons (pe_callB call_isX (by rfl) T.isi (by decide +kernel) (pa_cons (pv 0) (pa_cons (pe_glob (v := V.ref (c 4)) rfl T.m4 rfl) pa_nil))) (pa_cons (pe_callB call_isX (by rfl) T.isi (by decide +kernel) (pa_cons (pv 0) (pa_cons (pe_glob (v := V.ref (c 5)) rfl T.m5 rfl) pa_nil))) (pa_nil)))))))
      (pss_cons (ps_set (i := 1) scKinds.nd rfl (Or.inr rfl) (pe_op op_cat (pv 1) (pe_lst (pa_cons (pe_callB call_isX (by rfl) T.isi (by decide +kernel) (pa_cons (pv 0) (pa_cons (pe_glob (v := V.ref (c 6)) rfl T.m6 rfl) pa_nil))) (pa_cons (pe_callB call_isX (by rfl) T.isi (by decide +kernel) (pa_cons (pv 0) (pa_cons (pe_glob (v := V.ref (c 7)) rfl T.m7 rfl) pa_nil))) (pa_cons (pe_callB call_isX (by rfl) T.isi (by decide +kernel) (pa_cons (pv 0) (pa_cons (pe_glob (v := V.ref (c 8)) rfl T.m8 rfl) pa_nil))) (pa_nil)))))))
      (pss_cons (ps_set (i := 1) scKinds.nd rfl (Or.inr rfl) (pe_op op_cat (pv 1) (pe_lst (pa_cons (pe_callB call_isX (by rfl) T.isi (by decide +kernel) (pa_cons (pv 0) (pa_cons (pe_glob (v := V.ref (c 9)) rfl T.m9 rfl) pa_nil))) (pa_cons (pe_callB call_isX (by rfl) T.isi (by decide +kernel) (pa_cons (pv 0) (pa_cons (pe_glob (v := V.ref (c 10)) rfl T.m10 rfl) pa_nil))) (pa_cons (pe_callB call_isX (by rfl) T.isi (by decide +kernel) (pa_cons (pv 0) (pa_cons (pe_glob (v := V.ref (c 11)) rfl T.m11 rfl) pa_nil))) (pa_nil)))))))
      (pss_cons (ps_set (i := 1) scKinds.nd rfl (Or.inr rfl) (pe_op op_cat (pv 1) (pe_lst (pa_cons (pe_callB call_isX (by rfl) T.isi (by decide +kernel) (pa_cons (pv 0) (pa_cons (pe_glob (v := V.ref (c 12)) rfl T.m12 rfl) pa_nil))) (pa_nil)))))
      (pss_one (ps_ret (pe_lc (own := [("at", 2)]) (g := gName 2) (by rfl) scKinds.nd (pi_range1 rfl T.range (pa_cons (pe_callB call_len_seq (by rfl) T.len PySem.boot_len (pa_cons (pv 1) pa_nil)) pa_nil))
        (blkOk_by (own := [("at", 2)]) (N := ["e", "found", "at"]) (sc := defScope sKinds) (by decide +kernel)) (fun _ _ _ _ _ => pg_name (i := 2) scKinds.nd rfl (Or.inl rfl))
        (fun _ _ _ _ _ => pts_one (pt_val (pe_ix (show IxR _ (rIxL K) from ix_list) (pv 1) (pv 2) (fun _ _ => rfl)))) (fun _ _ _ _ _ => pv 2)))))))), ?_⟩
    have s0 : Same H H := Same.refl H
    refine ⟨_, rfl, p, c n, .ref (c 0), .ref (c 0), decide (0 = n), rfl, .own _, T.isT n m, T.kinds n 0 m (by decide), (X.same s0).form, ⟨_, rfl, p, c n, .ref (c 1), .ref (c 1), decide (1 = n), rfl, .own _, T.isT n m, T.kinds n 1 m (by decide), (X.same s0).form, ⟨_, rfl, p, c n, .ref (c 2), .ref (c 2), decide (2 = n), rfl, .own _, T.isT n m, T.kinds n 2 m (by decide), (X.same s0).form, ⟨(by show 3 ≤ sizeLine; decide), fun l1 h1 => ?_⟩⟩⟩⟩
    have s1 := Same.put (o := .lst [.bl (decide (0 = n)), .bl (decide (1 = n)), .bl (decide (2 = n))]) s0 h1
    have e1 : (upd H l1 (.lst [.bl (decide (0 = n)), .bl (decide (1 = n)), .bl (decide (2 = n))])) l1 = some (.lst [.bl (decide (0 = n)), .bl (decide (1 = n)), .bl (decide (2 = n))]) := upd_same
    generalize upd H l1 (.lst [.bl (decide (0 = n)), .bl (decide (1 = n)), .bl (decide (2 = n))]) = H1 at s1 e1 ⊢
    refine ⟨_, rfl, ⟨_, rfl, p, c n, .ref (c 3), .ref (c 3), decide (3 = n), rfl, .own _, T.isT n m, T.kinds n 3 m (by decide), (X.same s1).form, ⟨_, rfl, p, c n, .ref (c 4), .ref (c 4), decide (4 = n), rfl, .own _, T.isT n m, T.kinds n 4 m (by decide), (X.same s1).form, ⟨_, rfl, p, c n, .ref (c 5), .ref (c 5), decide (5 = n), rfl, .own _, T.isT n m, T.kinds n 5 m (by decide), (X.same s1).form, ⟨(by show 3 ≤ sizeLine; decide), fun t2 k2 => ?_⟩⟩⟩⟩⟩
    refine ⟨_, _, _, _, rfl, rfl, (by rw [upd_ne (ne_of_none e1 k2)]; exact e1), upd_same, (by show 3 + 3 ≤ sizeLine; decide), fun l2 h2 => ?_⟩
    have s2 : Same H (upd (upd H1 t2 (.lst [.bl (decide (3 = n)), .bl (decide (4 = n)), .bl (decide (5 = n))])) l2 (.lst ([.bl (decide (0 = n)), .bl (decide (1 = n)), .bl (decide (2 = n))] ++ [.bl (decide (3 = n)), .bl (decide (4 = n)), .bl (decide (5 = n))]))) := Same.put (Same.put s1 k2) h2
    have e2 : (upd (upd H1 t2 (.lst [.bl (decide (3 = n)), .bl (decide (4 = n)), .bl (decide (5 = n))])) l2 (.lst ([.bl (decide (0 = n)), .bl (decide (1 = n)), .bl (decide (2 = n))] ++ [.bl (decide (3 = n)), .bl (decide (4 = n)), .bl (decide (5 = n))]))) l2 = some (.lst [.bl (decide (0 = n)), .bl (decide (1 = n)), .bl (decide (2 = n)), .bl (decide (3 = n)), .bl (decide (4 = n)), .bl (decide (5 = n))]) := upd_same
    generalize upd (upd H1 t2 (.lst [.bl (decide (3 = n)), .bl (decide (4 = n)), .bl (decide (5 = n))])) l2 (.lst ([.bl (decide (0 = n)), .bl (decide (1 = n)), .bl (decide (2 = n))] ++ [.bl (decide (3 = n)), .bl (decide (4 = n)), .bl (decide (5 = n))])) = H2 at s2 e2 ⊢
    refine ⟨_, rfl, ⟨_, rfl, p, c n, .ref (c 6), .ref (c 6), decide (6 = n), rfl, .own _, T.isT n m, T.kinds n 6 m (by decide), (X.same s2).form, ⟨_, rfl, p, c n, .ref (c 7), .ref (c 7), decide (7 = n), rfl, .own _, T.isT n m, T.kinds n 7 m (by decide), (X.same s2).form, ⟨_, rfl, p, c n, .ref (c 8), .ref (c 8), decide (8 = n), rfl, .own _, T.isT n m, T.kinds n 8 m (by decide), (X.same s2).form, ⟨(by show 3 ≤ sizeLine; decide), fun t3 k3 => ?_⟩⟩⟩⟩⟩
    refine ⟨_, _, _, _, rfl, rfl, (by rw [upd_ne (ne_of_none e2 k3)]; exact e2), upd_same, (by show 6 + 3 ≤ sizeLine; decide), fun l3 h3 => ?_⟩
    have s3 : Same H (upd (upd H2 t3 (.lst [.bl (decide (6 = n)), .bl (decide (7 = n)), .bl (decide (8 = n))])) l3 (.lst ([.bl (decide (0 = n)), .bl (decide (1 = n)), .bl (decide (2 = n)), .bl (decide (3 = n)), .bl (decide (4 = n)), .bl (decide (5 = n))] ++ [.bl (decide (6 = n)), .bl (decide (7 = n)), .bl (decide (8 = n))]))) := Same.put (Same.put s2 k3) h3
    have e3 : (upd (upd H2 t3 (.lst [.bl (decide (6 = n)), .bl (decide (7 = n)), .bl (decide (8 = n))])) l3 (.lst ([.bl (decide (0 = n)), .bl (decide (1 = n)), .bl (decide (2 = n)), .bl (decide (3 = n)), .bl (decide (4 = n)), .bl (decide (5 = n))] ++ [.bl (decide (6 = n)), .bl (decide (7 = n)), .bl (decide (8 = n))]))) l3 = some (.lst [.bl (decide (0 = n)), .bl (decide (1 = n)), .bl (decide (2 = n)), .bl (decide (3 = n)), .bl (decide (4 = n)), .bl (decide (5 = n)), .bl (decide (6 = n)), .bl (decide (7 = n)), .bl (decide (8 = n))]) := upd_same
    generalize upd (upd H2 t3 (.lst [.bl (decide (6 = n)), .bl (decide (7 = n)), .bl (decide (8 = n))])) l3 (.lst ([.bl (decide (0 = n)), .bl (decide (1 = n)), .bl (decide (2 = n)), .bl (decide (3 = n)), .bl (decide (4 = n)), .bl (decide (5 = n))] ++ [.bl (decide (6 = n)), .bl (decide (7 = n)), .bl (decide (8 = n))])) = H3 at s3 e3 ⊢
    refine ⟨_, rfl, ⟨_, rfl, p, c n, .ref (c 9), .ref (c 9), decide (9 = n), rfl, .own _, T.isT n m, T.kinds n 9 m (by decide), (X.same s3).form, ⟨_, rfl, p, c n, .ref (c 10), .ref (c 10), decide (10 = n), rfl, .own _, T.isT n m, T.kinds n 10 m (by decide), (X.same s3).form, ⟨_, rfl, p, c n, .ref (c 11), .ref (c 11), decide (11 = n), rfl, .own _, T.isT n m, T.kinds n 11 m (by decide), (X.same s3).form, ⟨(by show 3 ≤ sizeLine; decide), fun t4 k4 => ?_⟩⟩⟩⟩⟩
    refine ⟨_, _, _, _, rfl, rfl, (by rw [upd_ne (ne_of_none e3 k4)]; exact e3), upd_same, (by show 9 + 3 ≤ sizeLine; decide), fun l4 h4 => ?_⟩
    have s4 : Same H (upd (upd H3 t4 (.lst [.bl (decide (9 = n)), .bl (decide (10 = n)), .bl (decide (11 = n))])) l4 (.lst ([.bl (decide (0 = n)), .bl (decide (1 = n)), .bl (decide (2 = n)), .bl (decide (3 = n)), .bl (decide (4 = n)), .bl (decide (5 = n)), .bl (decide (6 = n)), .bl (decide (7 = n)), .bl (decide (8 = n))] ++ [.bl (decide (9 = n)), .bl (decide (10 = n)), .bl (decide (11 = n))]))) := Same.put (Same.put s3 k4) h4
    have e4 : (upd (upd H3 t4 (.lst [.bl (decide (9 = n)), .bl (decide (10 = n)), .bl (decide (11 = n))])) l4 (.lst ([.bl (decide (0 = n)), .bl (decide (1 = n)), .bl (decide (2 = n)), .bl (decide (3 = n)), .bl (decide (4 = n)), .bl (decide (5 = n)), .bl (decide (6 = n)), .bl (decide (7 = n)), .bl (decide (8 = n))] ++ [.bl (decide (9 = n)), .bl (decide (10 = n)), .bl (decide (11 = n))]))) l4 = some (.lst [.bl (decide (0 = n)), .bl (decide (1 = n)), .bl (decide (2 = n)), .bl (decide (3 = n)), .bl (decide (4 = n)), .bl (decide (5 = n)), .bl (decide (6 = n)), .bl (decide (7 = n)), .bl (decide (8 = n)), .bl (decide (9 = n)), .bl (decide (10 = n)), .bl (decide (11 = n))]) := upd_same
    generalize upd (upd H3 t4 (.lst [.bl (decide (9 = n)), .bl (decide (10 = n)), .bl (decide (11 = n))])) l4 (.lst ([.bl (decide (0 = n)), .bl (decide (1 = n)), .bl (decide (2 = n)), .bl (decide (3 = n)), .bl (decide (4 = n)), .bl (decide (5 = n)), .bl (decide (6 = n)), .bl (decide (7 = n)), .bl (decide (8 = n))] ++ [.bl (decide (9 = n)), .bl (decide (10 = n)), .bl (decide (11 = n))])) = H4 at s4 e4 ⊢
    refine ⟨_, rfl, ⟨_, rfl, p, c n, .ref (c 12), .ref (c 12), decide (12 = n), rfl, .own _, T.isT n m, T.kinds n 12 m (by decide), (X.same s4).form, ⟨(by show 1 ≤ sizeLine; decide), fun t5 k5 => ?_⟩⟩⟩
    refine ⟨_, _, _, _, rfl, rfl, (by rw [upd_ne (ne_of_none e4 k5)]; exact e4), upd_same, (by show 12 + 1 ≤ sizeLine; decide), fun l5 h5 => ?_⟩
    have s5 : Same H (upd (upd H4 t5 (.lst [.bl (decide (12 = n))])) l5 (.lst ([.bl (decide (0 = n)), .bl (decide (1 = n)), .bl (decide (2 = n)), .bl (decide (3 = n)), .bl (decide (4 = n)), .bl (decide (5 = n)), .bl (decide (6 = n)), .bl (decide (7 = n)), .bl (decide (8 = n)), .bl (decide (9 = n)), .bl (decide (10 = n)), .bl (decide (11 = n))] ++ [.bl (decide (12 = n))]))) := Same.put (Same.put s4 k5) h5
    have e5 : (upd (upd H4 t5 (.lst [.bl (decide (12 = n))])) l5 (.lst ([.bl (decide (0 = n)), .bl (decide (1 = n)), .bl (decide (2 = n)), .bl (decide (3 = n)), .bl (decide (4 = n)), .bl (decide (5 = n)), .bl (decide (6 = n)), .bl (decide (7 = n)), .bl (decide (8 = n)), .bl (decide (9 = n)), .bl (decide (10 = n)), .bl (decide (11 = n))] ++ [.bl (decide (12 = n))]))) l5 = some (.lst [.bl (decide (0 = n)), .bl (decide (1 = n)), .bl (decide (2 = n)), .bl (decide (3 = n)), .bl (decide (4 = n)), .bl (decide (5 = n)), .bl (decide (6 = n)), .bl (decide (7 = n)), .bl (decide (8 = n)), .bl (decide (9 = n)), .bl (decide (10 = n)), .bl (decide (11 = n)), .bl (decide (12 = n))]) := upd_same
    generalize upd (upd H4 t5 (.lst [.bl (decide (12 = n))])) l5 (.lst ([.bl (decide (0 = n)), .bl (decide (1 = n)), .bl (decide (2 = n)), .bl (decide (3 = n)), .bl (decide (4 = n)), .bl (decide (5 = n)), .bl (decide (6 = n)), .bl (decide (7 = n)), .bl (decide (8 = n)), .bl (decide (9 = n)), .bl (decide (10 = n)), .bl (decide (11 = n))] ++ [.bl (decide (12 = n))])) = H5 at s5 e5 ⊢
    -- the comprehension
    refine ⟨_, rfl, _, _, rfl, .inl (SqL.of e5), _, rfl, (by show -(2 ^ 62) ≤ (13 : Int); decide), (by show (13 : Int) < 2 ^ 62; decide), fun D hD => ?_⟩
    have n5 : l5 ≠ D := ne_of_none e5 hD
    refine lc_range (lo := 0) (n := 13) (fun i H' => Same H5 H' ∧ H' D = some (.lst (if n < i then [.int n] else []))) ⟨Same.put (Same.refl _) hD, by rw [upd_same, if_neg (Nat.not_lt_zero n)]⟩ ?_ ?_
    · rintro i H' hi ⟨q1, q2⟩
      refine ⟨rfl, _, rfl, _, rfl, _, _, _, _, rfl, rfl, SqL.of (q1 _ _ e5), at_of (j := i) (by omega) (get13 (fun j => .bl (decide (j = n))) i hi), _, rfl, ?_⟩
      refine ite2 (fun h => ?_) (fun h => ?_)
      · have e : i = n := of_decide_eq_true h
        subst e
        rw [if_neg (Nat.lt_irrefl i)] at q2
        refine ⟨_, rfl, _, q2, (by show 0 < sizeLine; decide), fun q o z => ?_, ?_⟩
        · rw [upd_ne (ne_of_none z hD)]
          exact q1 q o z
        · rw [upd_same, if_pos (Nat.lt_succ_self i)]
          simp
      · have e : i ≠ n := fun z => h (decide_eq_true z)
        refine ⟨q1, ?_⟩
        rw [q2]
        by_cases z : n < i
        · rw [if_pos z, if_pos (Nat.lt_succ_of_lt z)]
        · rw [if_neg z, if_neg (by omega)]
    · rintro H' ⟨q1, q2⟩
      rw [if_pos (by omega)] at q2
      exact k D H' (s5.trans q1) q2
end
end Kerr

namespace Kerr
open PySem L2 Exv
abbrev sRaised : Stmt := top 24
abbrev sCaught : Stmt := top 25
def spRaised (c : Nat → Addr) : Sp := fun vs H Q E => ∃ n : Nat, vs = [.int n] ∧ n ≤ 12 ∧ (n < 6 → ∀ (d : Option Addr) (H' : Hp), Same H H' → E (.ref (c n)) d H') ∧ (6 ≤ n → Q .non H)
def spCaught : Sp := fun vs H Q _ => ∃ n : Nat, vs = [.int n] ∧ n ≤ 12 ∧ ∀ H', Same H H' → Q (.str (if n = 11 then "key" else "fit")) H'
structure CatchTxt (K : PySem.W.Frag) (mg : Str → Option Value) (c : Nat → Addr) (fit fRaised : Addr) : Prop where
  raised : mg "_law_raised" = some (.ref fRaised)
  kRaised : PySem.W.keepIn K (.ref fRaised) = true
  mFit : mg "FitError" = some (.ref fit)
  key : mg "KeyError" = none
  ty : ∀ n, n ≤ 12 → PySem.W.typeIn K (.ref (c n)) = some (.type "type")
  isFit : ∀ n, n ≤ 12 → PySem.W.exmOne K (.ref (c n)) (.ref fit) = some (decide (n ≠ 11))
  isKey : PySem.W.exmOne K (.ref (c 11)) (.type "KeyError") = some true
theorem same_raised {H : Hp} {a dx : Addr} {o o2 : HO} {fs : List (Str × V)} (ha : H a = none) (hd : (upd H a o) dx = none) (ne : dx ≠ a) :
    Same H (upd (delH (upd (upd (upd H a o) dx (exd dx fs)) a o2) a) dx (.xd fs)) := fun q u e => by
  have hd' : H dx = none := by
    rw [upd_ne ne] at hd
    exact hd
  have na := ne_of_none e ha
  have nd := ne_of_none e hd'
  rw [upd_ne nd, delH_ne na, upd_ne na, upd_ne nd, upd_ne na]
  exact e
theorem scRaised : FnScope ["number"] ["number"] (defScope sRaised) := ⟨rfl, rfl, rfl, by decide +kernel, rfl, by decide +kernel, by decide +kernel⟩
theorem scCaught : FnScope ["number"] ["number"] (defScope sCaught) := ⟨rfl, rfl, rfl, by decide +kernel, rfl, by decide +kernel, by decide +kernel⟩
section
variable {P : Program} {w : World} {K : PySem.W.Frag} {mg : Str → Option Value} {base : Heap} {c i : Nat → Addr} {g : Nat → FuncData} {fO fit fR : Addr}
theorem ok_raised {f : Addr} {fd : FuncData} (F : Fun K "_law_raised" "_law_raised" sRaised f fd) (T : MadeTxt K mg c i g fO) (T2 : KindTxt K mg c) (T3 : CatchTxt K mg c fit fR) : FnOk P w K mg base (L2.CX P w) 3 f fd ["number"] (spRaised c) := by
  refine F.okX scRaised (fun vs H Q E h => ?_) (fun cdv A outer s H vs Q E hr h => ?_)
  · obtain ⟨n, rfl, _⟩ := h
    rfl
  · obtain ⟨n, rfl, m, kE, kQ⟩ := h
    refine ⟨_, pss_cons (ps_if (pt_cmpR op_eq (pv 0) pe_int (nomark _)) (pss_one (ps_raise rfl (takes_of rfl rfl rfl rfl) (pmk_newE rfl (pe_newE T.c0.t PySem.F.excBase_Exception base3E (ok_init0 T.f0 T.c0.t) hr pass0 rfl T.c0.m (fun s a u _ => bp0 T.f0 s a u) (pa_cons pe_int pa_nil))))) pss_nil)
      (pss_cons (ps_if (pt_cmpR op_eq (pv 0) pe_int (nomark _)) (pss_one (ps_raise rfl (takes_of rfl rfl rfl rfl) (pmk_newE rfl (pe_newE T.c1.t PySem.F.excBase_Exception base3E (ok_init1 T.f1 T.c1.t) hr pass0 rfl T.c1.m (fun s a u _ => bp1 T.f1 s a u) (pa_cons pe_int pa_nil))))) pss_nil)
      (pss_cons (ps_if (pt_cmpR op_eq (pv 0) pe_int (nomark _)) (pss_one (ps_raise rfl (takes_of rfl rfl rfl rfl) (pmk_newE rfl (pe_newE T.c2.t PySem.F.excBase_Exception base3E (ok_init2 T.f2 T.c2.t) hr pass0 rfl T.c2.m (fun s a u _ => bp2 T.f2 s a u) (pa_cons pe_int pa_nil))))) pss_nil)
      (pss_cons (ps_if (pt_cmpR op_eq (pv 0) pe_int (nomark _)) (pss_one (ps_raise rfl (takes_of rfl rfl rfl rfl) (pmk_newE rfl (pe_newE T.c3.t PySem.F.excBase_Exception base3E (ok_init3 T.f3 T.c3.t) hr pass0 rfl T.c3.m (fun s a u _ => bp3 T.f3 s a u) (pa_cons pe_int pa_nil))))) pss_nil)
      (pss_cons (ps_if (pt_cmpR op_eq (pv 0) pe_int (nomark _)) (pss_one (ps_raise rfl (takes_of rfl rfl rfl rfl) (pmk_newE rfl (pe_newE T.c4.t PySem.F.excBase_Exception base3E (ok_init4 T.f4 T.c4.t) hr pass0 rfl T.c4.m (fun s a u _ => bp4 T.f4 s a u) (pa_cons pe_int pa_nil))))) pss_nil)
      (pss_cons (ps_if (pt_cmpR op_eq (pv 0) pe_int (nomark _)) (pss_one (ps_raise rfl (takes_of rfl rfl rfl rfl) (pmk_newE rfl (pe_newE T.c5.t PySem.F.excBase_Exception base3E (ok_init5 T.f5 T.c5.t) hr pass0 rfl T.c5.m (fun s a u _ => bp5 T.f5 s a u) (pa_cons pe_int pa_nil))))) pss_nil)
      (pss_one (ps_ret pe_non))))))), ?_⟩
    by_cases big : 6 ≤ n
    · have d : ∀ j : Nat, j < 6 → decide (V.int (n : Int) = V.int (j : Int)) = false := fun j hj => decide_eq_false fun z => by
        have z' := V.int.inj z
        omega
      refine ⟨_, rfl, rfl, _, rfl, ?_⟩
      rw [show decide (V.int (n : Int) = V.int 0) = false from d 0 (by decide)]
      refine iteF ?_
      refine ⟨_, rfl, rfl, _, rfl, ?_⟩
      rw [show decide (V.int (n : Int) = V.int 1) = false from d 1 (by decide)]
      refine iteF ?_
      refine ⟨_, rfl, rfl, _, rfl, ?_⟩
      rw [show decide (V.int (n : Int) = V.int 2) = false from d 2 (by decide)]
      refine iteF ?_
      refine ⟨_, rfl, rfl, _, rfl, ?_⟩
      rw [show decide (V.int (n : Int) = V.int 3) = false from d 3 (by decide)]
      refine iteF ?_
      refine ⟨_, rfl, rfl, _, rfl, ?_⟩
      rw [show decide (V.int (n : Int) = V.int 4) = false from d 4 (by decide)]
      refine iteF ?_
      refine ⟨_, rfl, rfl, _, rfl, ?_⟩
      rw [show decide (V.int (n : Int) = V.int 5) = false from d 5 (by decide)]
      refine iteF ?_
      exact kQ big
    have hn : n = 0 ∨ n = 1 ∨ n = 2 ∨ n = 3 ∨ n = 4 ∨ n = 5 := by omega
    rcases hn with rfl | rfl | rfl | rfl | rfl | rfl
    · skip
      refine ⟨_, rfl, rfl, _, rfl, iteT ?_⟩
      exact ⟨_, rfl, fun a ha => ⟨a, _, rfl, upd_same, fun dx hd ne => ⟨rfl, a, c 0, rfl, fr0_none ha, (T2.isT 0 (by decide)).ex, T3.ty 0 (by decide), .inr ⟨dx, _, ne, upd_same, (by rw [upd_ne ne, upd_same]), kE (by decide) _ _ (same_raised ha hd ne)⟩⟩⟩⟩
    · skip
      refine ⟨_, rfl, rfl, _, rfl, iteF ?_⟩
      refine ⟨_, rfl, rfl, _, rfl, iteT ?_⟩
      exact ⟨_, rfl, fun a ha => ⟨a, _, rfl, upd_same, fun dx hd ne => ⟨rfl, a, c 1, rfl, fr0_none ha, (T2.isT 1 (by decide)).ex, T3.ty 1 (by decide), .inr ⟨dx, _, ne, upd_same, (by rw [upd_ne ne, upd_same]), kE (by decide) _ _ (same_raised ha hd ne)⟩⟩⟩⟩
    · skip
      refine ⟨_, rfl, rfl, _, rfl, iteF ?_⟩
      refine ⟨_, rfl, rfl, _, rfl, iteF ?_⟩
      refine ⟨_, rfl, rfl, _, rfl, iteT ?_⟩
      exact ⟨_, rfl, fun a ha => ⟨a, _, rfl, upd_same, fun dx hd ne => ⟨rfl, a, c 2, rfl, fr0_none ha, (T2.isT 2 (by decide)).ex, T3.ty 2 (by decide), .inr ⟨dx, _, ne, upd_same, (by rw [upd_ne ne, upd_same]), kE (by decide) _ _ (same_raised ha hd ne)⟩⟩⟩⟩
    · skip
      refine ⟨_, rfl, rfl, _, rfl, iteF ?_⟩
      refine ⟨_, rfl, rfl, _, rfl, iteF ?_⟩
      refine ⟨_, rfl, rfl, _, rfl, iteF ?_⟩
      refine ⟨_, rfl, rfl, _, rfl, iteT ?_⟩
      exact ⟨_, rfl, fun a ha => ⟨a, _, rfl, upd_same, fun dx hd ne => ⟨rfl, a, c 3, rfl, fr0_none ha, (T2.isT 3 (by decide)).ex, T3.ty 3 (by decide), .inr ⟨dx, _, ne, upd_same, (by rw [upd_ne ne, upd_same]), kE (by decide) _ _ (same_raised ha hd ne)⟩⟩⟩⟩
    · skip
      refine ⟨_, rfl, rfl, _, rfl, iteF ?_⟩
      refine ⟨_, rfl, rfl, _, rfl, iteF ?_⟩
      refine ⟨_, rfl, rfl, _, rfl, iteF ?_⟩
      refine ⟨_, rfl, rfl, _, rfl, iteF ?_⟩
      refine ⟨_, rfl, rfl, _, rfl, iteT ?_⟩
      exact ⟨_, rfl, fun a ha => ⟨a, _, rfl, upd_same, fun dx hd ne => ⟨rfl, a, c 4, rfl, fr0_none ha, (T2.isT 4 (by decide)).ex, T3.ty 4 (by decide), .inr ⟨dx, _, ne, upd_same, (by rw [upd_ne ne, upd_same]), kE (by decide) _ _ (same_raised ha hd ne)⟩⟩⟩⟩
    · skip
      refine ⟨_, rfl, rfl, _, rfl, iteF ?_⟩
      refine ⟨_, rfl, rfl, _, rfl, iteF ?_⟩
      refine ⟨_, rfl, rfl, _, rfl, iteF ?_⟩
      refine ⟨_, rfl, rfl, _, rfl, iteF ?_⟩
      refine ⟨_, rfl, rfl, _, rfl, iteF ?_⟩
      refine ⟨_, rfl, rfl, _, rfl, iteT ?_⟩
      exact ⟨_, rfl, fun a ha => ⟨a, _, rfl, upd_same, fun dx hd ne => ⟨rfl, a, c 5, rfl, fr0_none ha, (T2.isT 5 (by decide)).ex, T3.ty 5 (by decide), .inr ⟨dx, _, ne, upd_same, (by rw [upd_ne ne, upd_same]), kE (by decide) _ _ (same_raised ha hd ne)⟩⟩⟩⟩

theorem ok_caught {f : Addr} {fd fdR : FuncData} (F : Fun K "_law_caught" "_law_caught" sCaught f fd) (T : MadeTxt K mg c i g fO) (T2 : KindTxt K mg c) (T3 : CatchTxt K mg c fit fR) (FR : Fun K "_law_raised" "_law_raised" sRaised fR fdR) (bR : Binds K fdR ["number"] []) :
    FnOk P w K mg base CX0 4 f fd ["number"] spCaught := by
  have GR : FnOk P w K mg base (L2.CX P w) 3 fR fdR ["number"] (spRaised c) := ok_raised FR T T2 T3
  refine F.ok scCaught (fun vs H Q E h => ?_) (fun cdv A outer s H vs Q E hr3 h => ?_)
  · obtain ⟨n, rfl, _⟩ := h
    rfl
  · obtain ⟨n, rfl, m, k⟩ := h
    have hr : Room 2 _ := hr3.mono (by decide)
    refine ⟨_, pss_one (ps_try_many (Wout := fun _ _ _ _ => False) (l := [(.ref fit, fun _ _ _ => tRet (tC (.str "fit"))), (.type "KeyError", fun _ _ _ => tRet (tC (.str "key")))]) rfl rfl takes0
      (fun W pn xe tk _ => pss_cons (ps_expr (pe_callS GR hr3 rfl T3.raised T3.kRaised bR (fun σ => passAt tk σ) (by exact (pa_cons (pv 0) pa_nil))))
        (pss_cons (ps_if (pt_cmpR op_eq (pv 0) pe_int (nomark _)) (pss_one (ps_raise rfl tk (show PMk _ _ (tMkE K H (tNewE (c 6) (spInit (c 6) (fld 6)) (tCons (tC (.int 1)) tNil))) from pmk_newE rfl (by exact (pe_newE T.c6.t PySem.F.excBase_Exception base3E (ok_init6 T.f6 T.c6.t) hr pass0 rfl T.c6.m (fun s a u _ => bp6 T.f6 s a u) (pa_cons pe_int pa_nil)))))) pss_nil)
        (pss_cons (ps_if (pt_cmpR op_eq (pv 0) pe_int (nomark _)) (pss_one (ps_raise rfl tk (show PMk _ _ (tMkE K H (tNewE (c 7) (spInit (c 7) (fld 7)) (tCons (tC (.int 1)) tNil))) from pmk_newE rfl (by exact (pe_newE T.c7.t PySem.F.excBase_Exception base3E (ok_init7 T.f7 T.c7.t) hr pass0 rfl T.c7.m (fun s a u _ => bp7 T.f7 s a u) (pa_cons pe_int pa_nil)))))) pss_nil)
        (pss_cons (ps_if (pt_cmpR op_eq (pv 0) pe_int (nomark _)) (pss_one (ps_raise rfl tk (show PMk _ _ (tMkE K H (tNewE (c 8) (spInit (c 8) (fld 8)) (tCons (tC (.int 1)) tNil))) from pmk_newE rfl (by exact (pe_newE T.c8.t PySem.F.excBase_Exception base3E (ok_init8 T.f8 T.c8.t) hr pass0 rfl T.c8.m (fun s a u _ => bp8 T.f8 s a u) (pa_cons pe_int pa_nil)))))) pss_nil)
        (pss_cons (ps_if (pt_cmpR op_eq (pv 0) pe_int (nomark _)) (pss_one (ps_raise rfl tk (show PMk _ _ (tMkE K H (tNewE (c 9) (spInit (c 9) (fld 9)) (tCons (tC (.int 1)) tNil))) from pmk_newE rfl (by exact (pe_newE T.c9.t PySem.F.excBase_Exception base3E (ok_init9 T.f9 T.c9.t) hr pass0 rfl T.c9.m (fun s a u _ => bp9 T.f9 s a u) (pa_cons pe_int pa_nil)))))) pss_nil)
        (pss_cons (ps_if (pt_cmpR op_eq (pv 0) pe_int (nomark _)) (pss_one (ps_raise rfl tk (show PMk _ _ (tMkE K H (tNewE (c 10) (spInit (c 10) (fld 10)) (tCons (tC (.int 1)) tNil))) from pmk_newE rfl (by exact (pe_newE T.c10.t PySem.F.excBase_Exception base3E (ok_init10 T.f10 T.c10.t) hr pass0 rfl T.c10.m (fun s a u _ => bp10 T.f10 s a u) (pa_cons pe_int pa_nil)))))) pss_nil)
        (pss_cons (ps_if (pt_cmpR op_eq (pv 0) pe_int (nomark _)) (pss_one (ps_raise rfl tk (show PMk _ _ (tMkE K H (tNewE (c 11) (spInit (c 11) (fld 11)) (tCons (tC (.int 1)) tNil))) from pmk_newE rfl (by exact (pe_newE T.c11.t PySem.F.excBase_LookupError base3K (ok_init11 T.f11 T.c11.t) hr pass0 rfl T.c11.m (fun s a u _ => bp11 T.f11 s a u) (pa_cons pe_int pa_nil)))))) pss_nil)
        (pss_one (ps_raise rfl tk (show PMk _ _ (tMkE K H (fun _ H Q => ∀ a, H a = none → Q (.ref a) (upd H a (exo a (c 12) none)))) from pmk_newE rfl (by exact (pe_new0 (bmC := []) PySem.F.excBase_Exception T.xC T.kC rfl T.mC))))))))))))
      (.cons ⟨rfl, by decide, .inl T3.mFit⟩ (fun a oe cls d pn _ _ => pss_one (ps_ret pe_str)) (.cons ⟨rfl, by decide, .inr ⟨T3.key, by decide +kernel, by decide⟩⟩ (fun a oe cls d pn _ _ => pss_one (ps_ret pe_str)) .nil))), ?_⟩
    have kf : n ≠ 11 → ∀ H', Same H H' → Q (.str "fit") H' := fun ne H' s' => by
      have z := k H' s'
      rw [if_neg ne] at z
      exact z
    refine ⟨_, rfl, n, rfl, m, fun l6 d H' s' => ⟨true, ?_, fun _ a _ => kf (by omega) _ s', fun q => nomatch q⟩, fun g6 => ?_⟩
    · refine (T3.isFit n m).trans ?_
      rw [decide_eq_true (show n ≠ 11 by omega)]
    have hn : n = 6 ∨ n = 7 ∨ n = 8 ∨ n = 9 ∨ n = 10 ∨ n = 11 ∨ n = 12 := by omega
    rcases hn with rfl | rfl | rfl | rfl | rfl | rfl | rfl
    · skip
      refine ⟨_, rfl, rfl, _, rfl, iteT ?_⟩
      exact ⟨_, rfl, fun a ha => ⟨a, _, rfl, upd_same, fun dx hd ne => ⟨rfl, a, c 6, rfl, fr0_none ha, (T2.isT 6 (by decide)).ex, T3.ty 6 (by decide), .inr ⟨dx, _, ne, upd_same, (by rw [upd_ne ne, upd_same]), ⟨true, T3.isFit 6 (by decide), fun _ a' _ => kf (by decide) _ (same_raised ha hd ne), fun q => nomatch q⟩⟩⟩⟩⟩
    · skip
      refine ⟨_, rfl, rfl, _, rfl, iteF ?_⟩
      refine ⟨_, rfl, rfl, _, rfl, iteT ?_⟩
      exact ⟨_, rfl, fun a ha => ⟨a, _, rfl, upd_same, fun dx hd ne => ⟨rfl, a, c 7, rfl, fr0_none ha, (T2.isT 7 (by decide)).ex, T3.ty 7 (by decide), .inr ⟨dx, _, ne, upd_same, (by rw [upd_ne ne, upd_same]), ⟨true, T3.isFit 7 (by decide), fun _ a' _ => kf (by decide) _ (same_raised ha hd ne), fun q => nomatch q⟩⟩⟩⟩⟩
    · skip
      refine ⟨_, rfl, rfl, _, rfl, iteF ?_⟩
      refine ⟨_, rfl, rfl, _, rfl, iteF ?_⟩
      refine ⟨_, rfl, rfl, _, rfl, iteT ?_⟩
      exact ⟨_, rfl, fun a ha => ⟨a, _, rfl, upd_same, fun dx hd ne => ⟨rfl, a, c 8, rfl, fr0_none ha, (T2.isT 8 (by decide)).ex, T3.ty 8 (by decide), .inr ⟨dx, _, ne, upd_same, (by rw [upd_ne ne, upd_same]), ⟨true, T3.isFit 8 (by decide), fun _ a' _ => kf (by decide) _ (same_raised ha hd ne), fun q => nomatch q⟩⟩⟩⟩⟩
    · skip
      refine ⟨_, rfl, rfl, _, rfl, iteF ?_⟩
      refine ⟨_, rfl, rfl, _, rfl, iteF ?_⟩
      refine ⟨_, rfl, rfl, _, rfl, iteF ?_⟩
      refine ⟨_, rfl, rfl, _, rfl, iteT ?_⟩
      exact ⟨_, rfl, fun a ha => ⟨a, _, rfl, upd_same, fun dx hd ne => ⟨rfl, a, c 9, rfl, fr0_none ha, (T2.isT 9 (by decide)).ex, T3.ty 9 (by decide), .inr ⟨dx, _, ne, upd_same, (by rw [upd_ne ne, upd_same]), ⟨true, T3.isFit 9 (by decide), fun _ a' _ => kf (by decide) _ (same_raised ha hd ne), fun q => nomatch q⟩⟩⟩⟩⟩
    · skip
      refine ⟨_, rfl, rfl, _, rfl, iteF ?_⟩
      refine ⟨_, rfl, rfl, _, rfl, iteF ?_⟩
      refine ⟨_, rfl, rfl, _, rfl, iteF ?_⟩
      refine ⟨_, rfl, rfl, _, rfl, iteF ?_⟩
      refine ⟨_, rfl, rfl, _, rfl, iteT ?_⟩
      exact ⟨_, rfl, fun a ha => ⟨a, _, rfl, upd_same, fun dx hd ne => ⟨rfl, a, c 10, rfl, fr0_none ha, (T2.isT 10 (by decide)).ex, T3.ty 10 (by decide), .inr ⟨dx, _, ne, upd_same, (by rw [upd_ne ne, upd_same]), ⟨true, T3.isFit 10 (by decide), fun _ a' _ => kf (by decide) _ (same_raised ha hd ne), fun q => nomatch q⟩⟩⟩⟩⟩
    · skip
      refine ⟨_, rfl, rfl, _, rfl, iteF ?_⟩
      refine ⟨_, rfl, rfl, _, rfl, iteF ?_⟩
      refine ⟨_, rfl, rfl, _, rfl, iteF ?_⟩
      refine ⟨_, rfl, rfl, _, rfl, iteF ?_⟩
      refine ⟨_, rfl, rfl, _, rfl, iteF ?_⟩
      refine ⟨_, rfl, rfl, _, rfl, iteT ?_⟩
      exact ⟨_, rfl, fun a ha => ⟨a, _, rfl, upd_same, fun dx hd ne => ⟨rfl, a, c 11, rfl, fr0_none ha, (T2.isT 11 (by decide)).ex, T3.ty 11 (by decide), .inr ⟨dx, _, ne, upd_same, (by rw [upd_ne ne, upd_same]), ⟨false, T3.isFit 11 (by decide), fun q => (Bool.false_ne_true q).elim, fun _ => ⟨true, T3.isKey, fun _ a' _ => k _ (same_raised ha hd ne), fun q => nomatch q⟩⟩⟩⟩⟩⟩
    · skip
      refine ⟨_, rfl, rfl, _, rfl, iteF ?_⟩
      refine ⟨_, rfl, rfl, _, rfl, iteF ?_⟩
      refine ⟨_, rfl, rfl, _, rfl, iteF ?_⟩
      refine ⟨_, rfl, rfl, _, rfl, iteF ?_⟩
      refine ⟨_, rfl, rfl, _, rfl, iteF ?_⟩
      refine ⟨_, rfl, rfl, _, rfl, iteF ?_⟩
      refine fun a ha => ⟨a, c 12, rfl, fr0_none ha, (T2.isT 12 (by decide)).ex, T3.ty 12 (by decide), .inl ⟨upd_same, ⟨true, T3.isFit 12 (by decide), fun _ a' _ => kf (by decide) _ (fun q u e => ?_), fun q => nomatch q⟩⟩⟩
      have na := ne_of_none e ha
      rw [delH_ne na, upd_ne na]
      exact e
end
end Kerr

/-! defs that ask repr of data: promises kept where no repr runs around -/
namespace Grd
open PySem PySem.Spec PyProof.Rows L2
/-- as FnOk, where no guard stands around -/
structure FnG (P : Program) (w : World) (K : PySem.W.Frag) (mg : Str → Option Value) (base : Heap) (CX : CXT) (k : Nat) (f : Addr) (fd : FuncData) (ps : List Str) (sp : Sp) : Prop where
  len : ∀ vs H Q E, sp vs H Q E → vs.length = ps.length
  run : ∀ (A : Around) (outer : List Env) (s : Shared) (H : Hp) (args : Args) (us : List Value) (vs : List V) (Q : VK) (E : XK), A.guards = some [] → Room k A → Env0 P w K mg base A outer s H → BindsTo s fd args (ps.zip us) → Vals vs us → sp vs H Q E →
    codeAny (model P w) A (.call (.ref f) args) (CR CX outer P w H s Q E) s
section
variable {P : Program} {w : World} {K : PySem.W.Frag} {mg : Str → Option Value} {base : Heap}
theorem fng_of {CX : CXT} {k : Nat} {f : Addr} {x qual : Str} {st : Stmt} {fd : FuncData} {N ps : List Str} {sp : Sp} (F : Fun K x qual st f fd) (S : FnScope N ps (defScope st)) (len : ∀ vs H Q E, sp vs H Q E → vs.length = ps.length)
    (body : ∀ (cdv : Value) (A : Around) (outer : List Env) (s : Shared) (H : Hp) (vs : List V) (Q : VK) (E : XK), A.guards = some [] → Room k (A.deeper (envOfC qual (defScope st) s.heap.objs.size f cdv)) → sp vs H Q E →
      ∃ t, PSs (cxOf CX P w K mg base N qual (defScope st) f cdv A outer s H E) (defBody st) t ∧ t { nx := fun _ H' => Q .non H', rt := Q } (L2.start N vs) H) : FnG P w K mg base CX (k + 1) f fd ps sp := by
  obtain ⟨oc, od, kV, doc, pm, an, cdv, ct, osl, rfl, lk, hcd⟩ := F.ex
  refine ⟨len, fun A outer s H args us vs Q E gd hr e0 hb r hs => ?_⟩
  have lens := len _ _ _ _ hs
  have inK : K.In s.heap := e0.mod.kin.keeps fun b o e => (e0.bs b o e).1
  have free : s.heap.NoLimit := e0.mod.nolimit.keeps fun b o e => (e0.bs b o e).1
  have kinds : ∀ y ∈ ps.zip us, (defScope st).names.lookup y.1 = some .local ∨ ((defScope st).names.lookup y.1 = some .cell ∧ ((cellsFrom (s.heap.objs.size + 1) (defScope st).names []).lookup y.1).isSome = true) := fun ⟨n, v⟩ hy =>
    (S.par n (List.of_mem_zip hy).1).elim (fun q => .inl q) fun q => .inr ⟨q, PySem.W.cellsFrom_some _ _ _ (.inl q)⟩
  refine codeAny_call_function hr.depth (inK _ _ lk) rfl S.co S.gen rfl (PySem.W.codeRec_of inK hcd) (hb _ _ _ _ ?_)
  refine wpAny_newFunctionEnv_cells S.kind kinds fun env he s1 ic => ?_
  subst he
  refine ⟨free.keeps ic.toInCall.keep, codeAny_func ?_⟩
  obtain ⟨t, ht, hq⟩ := body cdv A outer s H vs Q E gd (hr.deeper _) hs
  have I := inv_start (CX := CX) (P := P) (K := K) (mg := mg) (base := base) (E := E) S hr.hd e0 lens r ic
  refine wpAny_mono (ht.run [] s1 _ H _ I hq) (fun fl s' z => ?_) fun e s' z => z
  cases fl with
  | ret u =>
    obtain ⟨v, σ', H', J, rv, q⟩ := z
    exact ⟨v, H', J.os, J.bare, J.base, J.hok, rv, q⟩
  | next =>
    obtain ⟨σ', H', J, q⟩ := z
    exact ⟨V.non, H', J.os, J.bare, J.base, J.hok, rfl, q⟩
  | brk =>
    obtain ⟨_, _, _, q⟩ := z
    exact q.elim
  | cont =>
    obtain ⟨_, _, _, q⟩ := z
    exact q.elim
end
section
variable {X : Cx} {CX : CXT} {k : Nat} {f : Addr} {fd : FuncData} {ps : List Str} {sp : Sp} {dvs : List V} {ds : List Value} {E : XK} {x : Str} {p pos : Pos} {e : Expr} {es : List Expr} {t : TA}
/-- f(e, ..) where f keeps its promise with no guard around -/
theorem pe_callG (F : FnG X.prog X.w X.K X.mg X.base CX k f fd ps sp) (gd : X.A.guards = some []) (hr : Room k X.A) (hg : Gl X x) (hm : X.mg x = some (.ref f)) (kp : PySem.W.keepIn X.K (.ref f) = true) (hb : Binds X.K fd ps []) (hx : Passes CX X E)
    (ha : PA X (e :: es) t) (hdb : (x == ("__debug__" : Str)) = false := by decide) (he : starEach (e :: es) X.env = (false, eval e X.env) :: starEach es X.env := by rfl) (hpl : (backTo pos (starEach es X.env)).any (·.1) = false := by rfl) :
    PE X (.Call (.Name x p) (e :: es) [] pos) (tCall sp [] E t) := by
  refine ⟨fun pins s σ H Q I h => ?_⟩
  refine wpAny_Call_Name_kw (ld_glob I hg hm ?_ hdb)
  refine PySem.W.callWith_K (h₀ := X.base) I.ok.mod.kin kp (thn (ha.run pos pins s σ H _ I h) fun us s1 ⟨vs, H1, I1, r, q⟩ => ⟨I1.kIn, ?_⟩) he hpl
  have q' : sp vs H1 Q E := by
    have z : sp (vs ++ []) H1 Q E := q
    rw [List.append_nil] at z
    exact z
  have lens : us.length = ps.length := by
    rw [← r.length]
    exact F.len _ _ _ _ q'
  have b := hb s1 us I1.kIn (by rw [List.append_nil]; exact lens)
  rw [List.append_nil] at b
  refine wpAny_call (codeAny_mono (F.run X.A X.stack s1 H1 ⟨us, []⟩ us vs Q E gd hr I1.env0 b r q') fun z s' hq => ?_)
  cases z with
  | error e => exact hx pins σ H1 s1 e s' I1 hq
  | ok fl =>
    cases fl with
    | ret u => exact I1.after hq
    | next => exact hq.elim
    | brk => exact hq.elim
    | cont => exact hq.elim
/-- repr of data -/
def rRepr (K : PySem.W.Frag) : List V → Hp → VK → Prop := fun xs H Q => ∃ (v : V) (d : PyData), xs = [v] ∧ Dp K H v d ∧ d.showable = true ∧ d.hasDict = false ∧ d.depth ≤ 60 ∧ d.shown.length ≤ sizeLine ∧ Q (.str d.shown) H
theorem call_repr (gd : X.A.guards = some []) (hu : X.A.units + 64 < cLine) : CallR X (.builtin "repr") (rRepr X.K) := by
  intro pins s σ H xs us Q I r h
  obtain ⟨v, d, rfl, hd, sh, nd, dep, len, q⟩ := h
  obtain ⟨u, rfl, ru⟩ := vals1 r
  cases hd with
  | non =>
    cases (show u = Value.none from ru)
    exact PySem.P.repr_of_none ⟨.str _, H, I.tok _, ⟨_, rfl⟩, q⟩
  | bl b =>
    cases (show u = Value.bool b from ru)
    exact PySem.P.repr_of_bool ⟨.str _, H, I.tok _, ⟨_, rfl⟩, q⟩
  | int i =>
    obtain ⟨t, rfl⟩ := ru
    have hz : i.natAbs.log2 < 1920 := by
      unfold PyData.showable at sh
      exact of_decide_eq_true sh
    exact PySem.P.repr_of_int hz ⟨.str _, H, I.tok _, ⟨_, rfl⟩, q⟩
  | str x =>
    obtain ⟨t, rfl⟩ := ru
    exact PySem.P.repr_of_str ⟨.str _, H, I.tok _, ⟨_, rfl⟩, q⟩ len
  | lst hs ha =>
    obtain ⟨as, rd⟩ := Dp.reads I _ _ _ (Dp.lst hs ha) ru
    cases (show u = Value.ref _ from ru)
    exact repr_of_reads' rd sh (PyData.noDict_hsm nd) gd (by omega) (fun _ _ e => e) (fun h' tk n up => ⟨.str _, H, I.kept (t' := n) up, ⟨_, rfl⟩, q⟩) len
  | tup hs ha =>
    obtain ⟨as, rd⟩ := Dp.reads I _ _ _ (Dp.tup hs ha) ru
    cases (show u = Value.ref _ from ru)
    exact repr_of_reads' rd sh (PyData.noDict_hsm nd) gd (by omega) (fun _ _ e => e) (fun h' tk n up => ⟨.str _, H, I.kept (t' := n) up, ⟨_, rfl⟩, q⟩) len
end
end Grd

namespace Kerr
open PySem L2 Exv Grd
abbrev sLaw : Stmt := top 26
def spLaw (K : PySem.W.Frag) : Sp := fun vs H Q _ => ∃ (a : Addr) (ns : List Int), vs = [.ref a] ∧ SqL K H a (ns.map V.int) ∧ ns.length ≤ 63 ∧ ∀ H', Q (.bl true) H'
abbrev nLaw : List Str := ["script", "deal", "number", "thing", "text", "named", "e", "other", "due", "base"]
theorem scLaw : FnScope nLaw ["script"] (defScope sLaw) := ⟨rfl, rfl, rfl, by decide +kernel, rfl, by decide +kernel, by decide +kernel⟩
structure LawTxt (K : PySem.W.Frag) (mg : Str → Option Value) (c : Nat → Addr) (fit fSrc fThing fMade fKinds fKept fCaught : Addr) : Prop where
  range : mg "range" = none
  repr : mg "repr" = none
  isi : mg "isinstance" = none
  exc : mg "Exception" = none
  val : mg "ValueError" = none
  key : mg "KeyError" = none
  mFit : mg "FitError" = some (.ref fit)
  xFit : PySem.W.excIn K fit bmExc "Exception.__new__" = true
  kFit : PySem.W.keepIn K (.ref fit) = true
  tFit : IsT K fit
  fitExc : PySem.W.kitOne K (.ref fit) (.type "Exception") = some true
  fitVal : PySem.W.kitOne K (.ref fit) (.type "ValueError") = some false
  fitKey : PySem.W.kitOne K (.ref fit) (.type "KeyError") = some false
  isExc : ∀ n, n ≤ 12 → PySem.W.kitOne K (.ref (c n)) (.type "Exception") = some true
  isVal : ∀ n, n ≤ 12 → PySem.W.kitOne K (.ref (c n)) (.type "ValueError") = some false
  isFit : ∀ n, n ≤ 12 → PySem.W.kitOne K (.ref (c n)) (.ref fit) = some (decide (n ≠ 11))
  isKey : ∀ n, n ≤ 12 → PySem.W.kitOne K (.ref (c n)) (.type "KeyError") = some (decide (n = 11))
  src : mg "_law_source" = some (.ref fSrc)
  kSrc : PySem.W.keepIn K (.ref fSrc) = true
  thing : mg "_law_thing" = some (.ref fThing)
  kThing : PySem.W.keepIn K (.ref fThing) = true
  made : mg "_law_made" = some (.ref fMade)
  kMade : PySem.W.keepIn K (.ref fMade) = true
  kinds : mg "_law_kinds" = some (.ref fKinds)
  kKinds : PySem.W.keepIn K (.ref fKinds) = true
  kept : mg "_law_kept" = some (.ref fKept)
  kKept : PySem.W.keepIn K (.ref fKept) = true
  caught : mg "_law_caught" = some (.ref fCaught)
  kCaught : PySem.W.keepIn K (.ref fCaught) = true
theorem eqv_ints : ∀ l : List Int, PyData.eqv (.list (l.map PyData.int)) (.list (l.map PyData.int)) = true := by
  have all : ∀ l : List Int, PyData.eqvAll (l.map PyData.int) (l.map PyData.int) = true := by
    intro l
    induction l with
    | nil => rfl
    | cons x l ih =>
      show (PyData.eqv (.int x) (.int x) && PyData.eqvAll (l.map PyData.int) (l.map PyData.int)) = true
      rw [ih]
      show ((x == x) && true) = true
      simp
  intro l
  exact all l
section
variable {P : Program} {w : World} {K : PySem.W.Frag} {mg : Str → Option Value} {base : Heap} {c : Nat → Addr} {fit fS fT fM fK fP fC : Addr} {fdS fdT fdM fdK fdP fdC : FuncData}
theorem ok_law {f : Addr} {fd : FuncData} (F : Fun K "law" "law" sLaw f fd) (T : LawTxt K mg c fit fS fT fM fK fP fC)
    (GS : FnOk P w K mg base CX0 1 fS fdS ["script"] (spSource K)) (bS : Binds K fdS ["script"] []) (GT : FnOk P w K mg base CX0 (3 + 3) fT fdT ["deal", "depth"] (spThing 3)) (bT : Binds K fdT ["deal", "depth"] [])
    (GM : FnOk P w K mg base CX0 4 fM fdM ["number", "thing", "named"] (spMade c 0)) (bM : Binds K fdM ["number", "thing", "named"] []) (GK : FnOk P w K mg base CX0 1 fK fdK ["e"] (spKinds c)) (bK : Binds K fdK ["e"] [])
    (GP : FnOk P w K mg base CX0 1 fP fdP ["number", "e"] (spKept c)) (bP : Binds K fdP ["number", "e"] []) (GC : FnOk P w K mg base CX0 4 fC fdC ["number"] spCaught) (bC : Binds K fdC ["number"] [])
    (isT : ∀ n, n ≤ 12 → IsT K (c n)) : FnG P w K mg base CX0 7 f fd ["script"] (spLaw K) := by
  refine fng_of F scLaw (fun vs H Q E h => ?_) (fun cdv A outer s H vs Q E gd hr h => ?_)
  · obtain ⟨a, ns, rfl, _⟩ := h
    rfl
  · obtain ⟨a, ns, rfl, hS, l, k⟩ := h
    have hr1 : Room 1 _ := hr.mono (by decide)
    have hr4 : Room 4 _ := hr.mono (by decide)
    refine ⟨_, PSs.nox (pss_cons (ps_set (i := 1) scLaw.nd rfl (Or.inl rfl) (pe_call GS hr1 rfl T.src T.kSrc bS .nil pass0 (pa_cons (pv 0) pa_nil)))
      (pss_cons (ps_for PassesOwn.never rfl (pi_range1 rfl T.range (pa_cons pe_int pa_nil)) (pg_name (i := 2) scLaw.nd rfl (Or.inl rfl))
        (pss_cons (ps_set (i := 3) scLaw.nd rfl (Or.inl rfl) (pe_call GT hr rfl T.thing T.kThing bT .nil pass0 (pa_cons (pv 1) (pa_cons pe_int pa_nil))))
        (pss_cons (ps_set (i := 4) scLaw.nd rfl (Or.inl rfl) (pe_callB (call_repr gd hr.units) (by rfl) T.repr (by decide +kernel) (pa_cons (pv 3) pa_nil)))
        (pss_cons (ps_for PassesOwn.never rfl (pi_tup (pe_tup (pa_cons pe_bl (pa_cons pe_bl pa_nil)))) (pg_name (i := 5) scLaw.nd rfl (Or.inl rfl))
          (pss_cons (ps_par (i := 6) (j := 7) (by rfl) scLaw.nd rfl rfl (by decide) rfl rfl
            (pa_cons (pe_call GM hr4 rfl T.made T.kMade bM .nil pass0 (pa_cons (pv 2) (pa_cons (pv 3) (pa_cons (pv 5) pa_nil)))) (pa_cons (pe_call GM hr4 rfl T.made T.kMade bM .nil pass0 (pa_cons (pv 2) (pa_cons pe_int (pa_cons (pv 5) pa_nil)))) pa_nil)) (by rfl))
          (pss_cons (ps_if (PW.pt (pw_or (pt_cmpR (op_neD hr.units) (pe_call GK hr1 rfl T.kinds T.kKinds bK .nil pass0 (pa_cons (pv 6) pa_nil)) (pe_lst (pa_cons (pv 2) pa_nil)) (nomark _))
              (pw_or (pt_not (pt_val (pe_callB call_isX (by rfl) T.isi (by decide +kernel) (pa_cons (pv 6) (pa_cons (pe_bltn (v := V.ty "Exception") rfl T.exc (by decide +kernel) rfl) pa_nil)))))
              (pw_or1 (pt_val (pe_callB call_isX (by rfl) T.isi (by decide +kernel) (pa_cons (pv 6) (pa_cons (pe_bltn (v := V.ty "ValueError") rfl T.val (by decide +kernel) rfl) pa_nil))))))))
            (pss_one (ps_ret pe_bl)) pss_nil)
          (pss_cons (ps_if (PW.pt (pw_or (pt_cmpR op_ne (pe_callB call_isX (by rfl) T.isi (by decide +kernel) (pa_cons (pv 6) (pa_cons (pe_glob (v := V.ref fit) rfl T.mFit rfl) pa_nil))) (pe_cmpR op_ne (pv 2) pe_int (nomark _)) (nomark _))
              (pw_or1 (pt_cmpR op_ne (pe_callB call_isX (by rfl) T.isi (by decide +kernel) (pa_cons (pv 6) (pa_cons (pe_bltn (v := V.ty "KeyError") rfl T.key (by decide +kernel) rfl) pa_nil))) (pe_cmpR op_eq (pv 2) pe_int (nomark _)) (nomark _)))))
            (pss_one (ps_ret pe_bl)) pss_nil)
          (pss_cons (ps_set (i := 8) scLaw.nd rfl (Or.inl rfl) (pe_ifExp (pt_cmpR op_eq (pv 2) pe_int (nomark _)) (pe_lst pa_nil) (pe_lst (pa_cons (pv 3) pa_nil))))
          (pss_cons (ps_if (PW.pt (pw_or (pt_cmpR op_ne (pe_callB (call_repr gd hr.units) (by rfl) T.repr (by decide +kernel) (pa_cons (pe_call GP hr1 rfl T.kept T.kKept bP .nil pass0 (pa_cons (pv 2) (pa_cons (pv 6) pa_nil))) pa_nil))
                (pe_callB (call_repr gd hr.units) (by rfl) T.repr (by decide +kernel) (pa_cons (pv 8) pa_nil)) (nomark _))
              (pw_or1 (pt_cmpR op_ne (pe_callB (call_repr gd hr.units) (by rfl) T.repr (by decide +kernel) (pa_cons (pv 3) pa_nil)) (pv 4) (nomark _)))))
            (pss_one (ps_ret pe_bl)) pss_nil)
          (pss_one (ps_if (pt_cmpR (op_neD hr.units) (pe_call GP hr1 rfl T.kept T.kKept bP .nil pass0 (pa_cons (pv 2) (pa_cons (pv 7) pa_nil))) (pe_ifExp (pt_cmpR op_eq (pv 2) pe_int (nomark _)) (pe_lst pa_nil) (pe_lst (pa_cons pe_int pa_nil))) (nomark _))
            (pss_one (ps_ret pe_bl)) pss_nil))))))))
        (pss_one (ps_if (pt_cmpR op_ne (pe_call GC hr4 rfl T.caught T.kCaught bC .nil pass0 (pa_cons (pv 2) pa_nil)) (pe_ifExp (pt_cmpR op_eq (pv 2) pe_int (nomark _)) pe_str pe_str) (nomark _))
          (pss_one (ps_ret pe_bl)) pss_nil))))))
      (pss_cons (ps_set (i := 9) scLaw.nd rfl (Or.inl rfl) (pe_new0 (bmC := []) PySem.F.excBase_Exception T.xFit T.kFit rfl T.mFit))
      (pss_one (ps_ret (pe_and (pe_callB call_isX (by rfl) T.isi (by decide +kernel) (pa_cons (pv 9) (pa_cons (pe_bltn (v := V.ty "Exception") rfl T.exc (by decide +kernel) rfl) pa_nil)))
        (pe_and (pe_not (pe_callB call_isX (by rfl) T.isi (by decide +kernel) (pa_cons (pv 9) (pa_cons (pe_bltn (v := V.ty "ValueError") rfl T.val (by decide +kernel) rfl) pa_nil))))
          (pe_one (pe_not (pe_callB call_isX (by rfl) T.isi (by decide +kernel) (pa_cons (pv 9) (pa_cons (pe_bltn (v := V.ty "KeyError") rfl T.key (by decide +kernel) rfl) pa_nil)))))))))))), ?_⟩
    -- deal = _law_source(script)
    refine ⟨_, rfl, a, ns, rfl, hS, l, fun d cc H1 D1 s1 _ _ => ?_⟩
    refine ⟨_, rfl, (by decide), (by decide), for_range (lo := 0) (n := 13) (fun i σ H2 => ∃ x2 x3 x4 x5 x6 x7 x8 x9 : Option V, σ = [some (.ref a), some (.ref d), x2, x3, x4, x5, x6, x7, x8, x9] ∧ DealAt H2 d cc)
      ⟨_, _, _, _, _, _, _, _, rfl, D1⟩ ?_ ?_⟩
    · rintro i σ H2 hi ⟨x2, x3, x4, x5, x6, x7, x8, x9, rfl, D2⟩
      have hi12 : i ≤ 12 := by omega
      have ei : V.int (0 + (i : Int)) = V.int (i : Int) := by rw [Int.zero_add]
      show tSeq _ _ _ ([some (.ref a), some (.ref d), some (V.int (0 + (i : Int))), x3, x4, x5, x6, x7, x8, x9] : St) _
      rw [ei]
      -- thing, text
      refine ⟨_, rfl, d, cc, rfl, D2, fun v dat H3 ok dn D3 b3 => ?_⟩
      have dp : ∀ H', Same H3 H' → Dp K H' v dat := fun H' s' => Dn.dp dat v (Dn.mono (fun a h => h) (fun a o _ e => s' a o e) dat v dn)
      have nd := PyData.hasDict_of_canLay dat ok.lay
      have len : dat.shown.length ≤ sizeLine := by
        have z := ok.len
        have z2 : Bd 3 ≤ 5000 := by decide
        rw [sizeLine_eq]
        omega
      have dep : dat.depth ≤ 60 := Nat.le_trans ok.dep (by decide)
      refine ⟨_, rfl, v, dat, rfl, dp _ (Same.refl _), ok.sh, nd, dep, len, ?_⟩
      -- for named in (False, True)
      refine ⟨(by show 2 ≤ sizeLine; decide), fun tp htp => ⟨tp, rfl, ⟨_, SqT.of upd_same⟩, ?_⟩⟩
      have s4 : Same H3 (upd H3 tp (.tup [.bl false, .bl true])) := Same.put (Same.refl _) htp
      have e4 : (upd H3 tp (.tup [.bl false, .bl true])) tp = some (.tup [.bl false, .bl true]) := upd_same
      generalize upd H3 tp (.tup [.bl false, .bl true]) = H4 at s4 e4 ⊢
      refine for_tup (K := K) (a := tp) (xs := [.bl false, .bl true]) (fun j σ H' => ∃ y5 y6 y7 y8 : Option V, σ = [some (.ref a), some (.ref d), some (.int i), some v, some (.str dat.shown), y5, y6, y7, y8, x9] ∧ Same H4 H')
        ⟨_, _, _, _, rfl, Same.refl _⟩ (fun j σ H' _ ⟨_, _, _, _, _, s'⟩ => SqT.of (s' _ _ e4)) ?_ ?_
      · rintro j y σ H5 hj ⟨y5, y6, y7, y8, rfl, s5⟩
        obtain ⟨b, rfl⟩ : ∃ b, y = V.bl b := by
          have hj2 : j < 2 := (List.getElem?_eq_some_iff.mp hj).1
          have h2 : j = 0 ∨ j = 1 := by omega
          rcases h2 with rfl | rfl
          · exact ⟨false, (Option.some.inj hj).symm⟩
          · exact ⟨true, (Option.some.inj hj).symm⟩
        -- e, other
        refine ⟨_, rfl, _, rfl, _, rfl, i, v, b, rfl, Nat.zero_le _, hi12, fun p1 H6 s6 n6 m6 => ?_⟩
        refine ⟨_, rfl, _, rfl, i, .int 5, b, rfl, Nat.zero_le _, hi12, fun p2 H7 s7 n7 m7 => ⟨_, _, rfl, ?_⟩⟩
        have m1 := m6.same s7
        -- kinds
        refine ⟨_, rfl, i, p1, v, rfl, hi12, m1, fun r H8 s8 e8 => ⟨_, rfl, (by show 1 ≤ sizeLine; decide), fun l1 h1 => ?_⟩⟩
        have z1 : Same H8 (upd H8 l1 (.lst [.int i])) := Same.put (Same.refl _) h1
        have c8 : (upd H8 l1 (.lst [.int i])) r = some (.lst [.int i]) := z1 _ _ e8
        refine ⟨_, _, .lst (SqL.of c8) (dp_ints [(i : Int)]), .lst (SqL.of upd_same) (dp_ints [(i : Int)]), shaped_ints [(i : Int)], shaped_ints [(i : Int)], _, rfl, ?_⟩
        rw [eqv_ints [(i : Int)]]
        have sA := s8.trans z1
        generalize upd H8 l1 (.lst [.int i]) = H9 at sA ⊢
        have mA := m1.same sA
        refine iteF ?_
        refine ⟨_, rfl, p1, c i, .ty "Exception", .type "Exception", true, rfl, .ty _, isT i hi12, T.isExc i hi12, mA.form, _, rfl, iteF ?_⟩
        refine ⟨_, rfl, p1, c i, .ty "ValueError", .type "ValueError", false, rfl, .ty _, isT i hi12, T.isVal i hi12, mA.form, _, rfl, iteF ?_⟩
        -- the second test
        refine ⟨_, rfl, p1, c i, .ref fit, .ref fit, decide (i ≠ 11), rfl, .own _, isT i hi12, T.isFit i hi12, mA.form, _, rfl, rfl, rfl, _, rfl, ?_⟩
        have b1 : (!decide (V.bl (decide (i ≠ 11)) = V.bl (!decide (V.int (i : Int) = V.int 11)))) = false := by
          by_cases h : i = 11
          · subst h
            decide
          · have h' : ¬ V.int (i : Int) = V.int 11 := fun z => by
              have z' := V.int.inj z
              omega
            rw [decide_eq_false h', decide_eq_true h]
            decide
        rw [b1]
        refine iteF ?_
        refine ⟨_, rfl, p1, c i, .ty "KeyError", .type "KeyError", decide (i = 11), rfl, .ty _, isT i hi12, T.isKey i hi12, mA.form, _, rfl, rfl, rfl, _, rfl, ?_⟩
        have b2 : (!decide (V.bl (decide (i = 11)) = V.bl (decide (V.int (i : Int) = V.int 11)))) = false := by
          by_cases h : i = 11
          · subst h
            decide
          · have h' : ¬ V.int (i : Int) = V.int 11 := fun z => by
              have z' := V.int.inj z
              omega
            rw [decide_eq_false h', decide_eq_false h]
            decide
        rw [b2]
        refine iteF ?_
        have same_str : ∀ x : Str, (!decide (V.str x = V.str x)) = false := fun x => by simp
        by_cases h12 : i = 12
        · subst h12
          have okl : Okd 4 (.list []) := okd_list (fun x hx => absurd hx (by simp)) (Nat.zero_le _)
          have depl : (PyData.list []).depth ≤ 60 := Nat.le_trans okl.dep (by decide)
          have lenl : (PyData.list []).shown.length ≤ sizeLine := by
            have z := okl.len
            have z2 : Bd 4 ≤ 50000 := by decide
            rw [sizeLine_eq]
            omega
          refine ⟨_, rfl, rfl, _, rfl, ?_⟩
          refine iteT ?_
          refine ⟨Nat.zero_le _, fun q hq => ?_⟩
          have zq : Same H9 (upd H9 q (.lst [])) := Same.put (Same.refl _) hq
          have eq : (upd H9 q (.lst [])) q = some (.lst []) := upd_same
          generalize upd H9 q (.lst []) = H10 at zq eq ⊢
          have mB := mA.same zq
          have sC : Same H3 H10 := ((((s4.trans s5).trans s6).trans s7).trans sA).trans zq
          -- repr(_law_kept(number, e)) != repr(due)
          refine ⟨_, rfl, _, rfl, 12, p1, v, rfl, hi12, mB, fun r1 H11 s11 n11 e11 => ?_⟩
          rw [if_neg (by decide)] at e11
          have sD := sC.trans s11
          refine ⟨_, .list [], rfl, .lst (SqL.of e11) (DpAll.nil), okl.sh, PyData.hasDict_of_canLay _ okl.lay, depl, lenl, ?_⟩
          refine ⟨_, rfl, _, .list [], rfl, .lst (SqL.of (s11 _ _ eq)) (DpAll.nil), okl.sh, PyData.hasDict_of_canLay _ okl.lay, depl, lenl, rfl, _, rfl, ?_⟩
          rw [same_str]
          refine iteF ?_
          refine ⟨_, rfl, v, dat, rfl, dp _ sD, ok.sh, nd, dep, len, _, rfl, rfl, _, rfl, ?_⟩
          rw [same_str]
          refine iteF ?_
          -- _law_kept(number, other) != ..
          refine ⟨_, rfl, _, rfl, 12, p2, .int 5, rfl, hi12, (m7.same sA).same (zq.trans s11), fun r2 H12 s12 n12' e12 => ?_⟩
          rw [if_neg (by decide)] at e12
          refine ⟨_, rfl, rfl, _, rfl, ?_⟩
          refine iteT ?_
          refine ⟨Nat.zero_le _, fun q2 hq2 => ?_⟩
          have zq2 : Same H12 (upd H12 q2 (.lst [])) := Same.put (Same.refl _) hq2
          refine ⟨_, _, .lst (SqL.of (zq2 _ _ e12)) (dp_ints ([] : List Int)), .lst (SqL.of upd_same) (dp_ints ([] : List Int)), shaped_ints ([] : List Int), shaped_ints ([] : List Int), _, rfl, ?_⟩
          rw [eqv_ints ([] : List Int)]
          refine iteF ?_
          exact ⟨_, _, _, _, rfl, (((((s5.trans s6).trans s7).trans sA).trans zq).trans (s11.trans s12)).trans zq2⟩
        · have n12 : decide (V.int (i : Int) = V.int 12) = false := decide_eq_false fun z => by
            have z' := V.int.inj z
            omega
          have okl : Okd 4 (.list [dat]) := okd_list (fun x hx => by rw [List.mem_singleton] at hx; rw [hx]; exact ok) (by show 1 ≤ 3; decide)
          have depl : (PyData.list [dat]).depth ≤ 60 := Nat.le_trans okl.dep (by decide)
          have lenl : (PyData.list [dat]).shown.length ≤ sizeLine := by
            have z := okl.len
            have z2 : Bd 4 ≤ 50000 := by decide
            rw [sizeLine_eq]
            omega
          refine ⟨_, rfl, rfl, _, rfl, ?_⟩
          rw [n12]
          refine iteF ?_
          refine ⟨_, rfl, (by show 1 ≤ sizeLine; decide), fun q hq => ?_⟩
          have zq : Same H9 (upd H9 q (.lst [v])) := Same.put (Same.refl _) hq
          have eq : (upd H9 q (.lst [v])) q = some (.lst [v]) := upd_same
          generalize upd H9 q (.lst [v]) = H10 at zq eq ⊢
          have mB := mA.same zq
          have sC : Same H3 H10 := ((((s4.trans s5).trans s6).trans s7).trans sA).trans zq
          -- repr(_law_kept(number, e)) != repr(due)
          refine ⟨_, rfl, _, rfl, i, p1, v, rfl, hi12, mB, fun r1 H11 s11 n11 e11 => ?_⟩
          rw [if_pos (by omega)] at e11
          have sD := sC.trans s11
          refine ⟨_, .list [dat], rfl, .lst (SqL.of e11) (.cons (dp _ (sD)) .nil), okl.sh, PyData.hasDict_of_canLay _ okl.lay, depl, lenl, ?_⟩
          refine ⟨_, rfl, _, .list [dat], rfl, .lst (SqL.of (s11 _ _ eq)) (.cons (dp _ (sD)) .nil), okl.sh, PyData.hasDict_of_canLay _ okl.lay, depl, lenl, rfl, _, rfl, ?_⟩
          rw [same_str]
          refine iteF ?_
          refine ⟨_, rfl, v, dat, rfl, dp _ sD, ok.sh, nd, dep, len, _, rfl, rfl, _, rfl, ?_⟩
          rw [same_str]
          refine iteF ?_
          -- _law_kept(number, other) != ..
          refine ⟨_, rfl, _, rfl, i, p2, .int 5, rfl, hi12, (m7.same sA).same (zq.trans s11), fun r2 H12 s12 n12' e12 => ?_⟩
          rw [if_pos (by omega)] at e12
          refine ⟨_, rfl, rfl, _, rfl, ?_⟩
          rw [n12]
          refine iteF ?_
          refine ⟨(by show 1 ≤ sizeLine; decide), fun q2 hq2 => ?_⟩
          have zq2 : Same H12 (upd H12 q2 (.lst [.int 5])) := Same.put (Same.refl _) hq2
          refine ⟨_, _, .lst (SqL.of (zq2 _ _ e12)) (dp_ints ([5] : List Int)), .lst (SqL.of upd_same) (dp_ints ([5] : List Int)), shaped_ints ([5] : List Int), shaped_ints ([5] : List Int), _, rfl, ?_⟩
          rw [eqv_ints ([5] : List Int)]
          refine iteF ?_
          exact ⟨_, _, _, _, rfl, (((((s5.trans s6).trans s7).trans sA).trans zq).trans (s11.trans s12)).trans zq2⟩
      · rintro σ H5 ⟨y5, y6, y7, y8, rfl, s5⟩
        refine ⟨_, rfl, i, rfl, hi12, fun H6 s6 => ?_⟩
        have D6 : DealAt H6 d cc := by
          obtain ⟨cs, b, e1, e2, r⟩ := D3.ex
          have ss := (s4.trans s5).trans s6
          exact ⟨cs, b, ss _ _ e1, ss _ _ e2, r⟩
        refine ⟨_, rfl, rfl, _, rfl, ?_⟩
        have same_str : ∀ x : Str, (!decide (V.str x = V.str x)) = false := fun x => by simp
        by_cases h11 : i = 11
        · subst h11
          refine iteT ?_
          refine ⟨rfl, _, rfl, ?_⟩
          rw [if_pos rfl, same_str]
          refine iteF ?_
          exact ⟨_, _, _, _, _, _, _, _, rfl, D6⟩
        · have n11 : decide (V.int (i : Int) = V.int 11) = false := decide_eq_false fun z => by
            have z' := V.int.inj z
            omega
          rw [n11]
          refine iteF ?_
          refine ⟨rfl, _, rfl, ?_⟩
          rw [if_neg h11, same_str]
          refine iteF ?_
          exact ⟨_, _, _, _, _, _, _, _, rfl, D6⟩
    · rintro σ H2 ⟨x2, x3, x4, x5, x6, x7, x8, x9, rfl, D2⟩
      intro p hp
      refine ⟨_, rfl, p, fit, .ty "Exception", .type "Exception", true, rfl, .ty _, T.tFit, T.fitExc, .inl upd_same, true, rfl, iteT ?_⟩
      refine ⟨_, rfl, p, fit, .ty "ValueError", .type "ValueError", false, rfl, .ty _, T.tFit, T.fitVal, .inl upd_same, false, rfl, true, rfl, iteT ?_⟩
      refine ⟨_, rfl, p, fit, .ty "KeyError", .type "KeyError", false, rfl, .ty _, T.tFit, T.fitKey, .inl upd_same, false, rfl, ?_⟩
      exact k _
end
end Kerr

/-! the end of a law whose def asks repr -/
namespace Grd
open PySem PySem.Spec PyProof.Rows L2
theorem lawG {P : Program} {w : World} {K : PySem.W.Frag} {mg mb : Str → Option Value} {k : Nat} {fa a : Addr} {fd : FuncData} {x : Str} {sp : Sp} {st : Shared} {vs : List Value} {ns : List Int}
    (inK : K.In st.heap) (ng : st.heap.Ns mainGlobals mg) (nb : st.heap.Ns builtinsNs mb) (bb : ∀ x : Str, x ≠ "__name__" → mb x = bootBuiltins x) (nl : st.heap.NoLimit) (gn : st.gens = #[])
    (sa : st.heap.get? a = some { cls := .type "list", data := .seq vs.toArray }) (ia : IntsAre vs ns) (few : ns.length ≤ sizeLine) (hr : Room k callerA)
    (F : ∀ base : Heap, K.In base → base.Ns mainGlobals mg → FnG P w K mg base CX0 k fa fd [x] sp) (bi : ∀ (s : Shared) (u : Value), BindsTo s fd ⟨[u], []⟩ [(x, u)])
    (hs : ∀ H : Hp, SqL K H a (ns.map V.int) → sp [.ref a] H (fun v _ => v = .bl true) fun _ _ _ => False) :
    codeAny (model P w) callerA (.call (.ref fa) ⟨[.ref a], []⟩) (fun r s' => r = .ok (.ret (.bool true)) ∧ PySem.OldK st.heap s'.heap ∧ s'.os = st.os ∧ AllBare s'.gens) st := by
  have rel := vals_ints ia
  have lens := ia.length
  -- what is tracked at the entry: nothing, or the script alone
  have go : ∀ H : Hp, (∀ b, H b = none ∨ (b = a ∧ H b = some (.frz { cls := .type "list", data := .seq vs.toArray } (.lst (ns.map V.int))))) → SqL K H a (ns.map V.int) → HOk P w H st.heap → (H a ≠ none → K.lookup a = none) →
      codeAny (model P w) callerA (.call (.ref fa) ⟨[.ref a], []⟩) (fun r s' => r = .ok (.ret (.bool true)) ∧ PySem.OldK st.heap s'.heap ∧ s'.os = st.os ∧ AllBare s'.gens) st := by
    intro H only sq hok notK
    have isA : ∀ {b : Addr}, H b ≠ none → b = a := fun {b} h => (only b).elim (fun z => absurd z h) fun z => z.1
    have free : ∀ {b : Addr} {o : Obj} {es : Array DictEntry} {ep : Nat}, st.heap.get? b = some o → o.data = .dict es ep → H b = none := fun {b o es ep} e d => by
      rcases only b with z | ⟨rfl, z⟩
      · exact z
      · rw [sa] at e
        cases e
        have d' : Data.seq vs.toArray _ = Data.dict es ep := d
        cases d'
    have hid : ∀ {b : Addr} {m : Str → Option Value}, st.heap.Ns b m → (hidT st.heap H).Ns b m := fun {b m} ⟨o, es, ep, e, d, r⟩ => ⟨o, es, ep, hidT_get e (free e d), d, r⟩
    have kb : K.In (hidT st.heap H) := fun b o e => by
      refine hidT_get (inK b o e) ?_
      rcases only b with z | ⟨rfl, z⟩
      · exact z
      · rw [notK (by rw [z]; simp)] at e
        cases e
    have md : Mod K mg (hidT st.heap H) := by
      obtain ⟨mc, c1, c2⟩ := nl
      exact ⟨kb, hid ng, ⟨mb, hid nb, bb⟩, ⟨mc, hid c1, c2⟩⟩
    have ev : Env0 P w K mg (hidT st.heap H) callerA [] st H := ⟨rfl, md, fun b o e => of_hidT e, Nat.le_of_eq (hidT_size _ _), trivial, fun b hb => absurd (show b ∈ ([] : List Addr) from hb) (by simp), hok, .of_eq gn⟩
    have run := (F _ kb (hid ng)).run callerA [] st H ⟨[.ref a], []⟩ [.ref a] [.ref a] _ _ rfl hr ev (bi st (.ref a)) (.cons rfl .nil) (hs H sq)
    refine codeAny_mono run fun r s' q => ?_
    cases r with
    | error e => exact q.elim
    | ok fl =>
      cases fl with
      | next => exact q.elim
      | brk => exact q.elim
      | cont => exact q.elim
      | ret u =>
        obtain ⟨v, H', os, bare, un, hok', rv, ev⟩ := q
        have ev' : v = .bl true := ev
        subst ev'
        cases (show u = Value.bool true from rv)
        refine ⟨rfl, PySem.OldK.of_keep fun b o e => ?_, os, bare⟩
        rcases only b with z | ⟨rfl, z⟩
        · exact un.keep b o e z (by intro h; exact absurd (show b ∈ ([] : List Addr) from h) (by simp)) (by simp)
        · have z2 := un.frzs _ _ _ z
          obtain ⟨g1, _⟩ := hok _ _ z
          obtain ⟨g2, _⟩ := hok' _ _ z2
          rw [e] at g1
          cases g1
          exact g2
  cases hk : K.lookup a with
  | some o =>
    have e := inK a o hk
    rw [sa] at e
    cases e
    exact go (fun _ => none) (fun _ => .inl rfl) (.inr ⟨_, vs.toArray, _, hk, rfl, rfl, rfl, by rw [List.size_toArray, lens]; exact few, by simpa using rel⟩) (fun b u z => by
      have z' : (none : Option HO) = some u := z
      cases z') fun z => absurd rfl z
  | none =>
    refine go (fun b => if b = a then some (.frz { cls := .type "list", data := .seq vs.toArray } (.lst (ns.map V.int))) else none) (fun b => ?_) (.inl (.inr ⟨_, if_pos rfl⟩)) (fun b u z => ?_) fun _ => hk
    · by_cases hb : b = a
      · exact .inr ⟨hb, if_pos hb⟩
      · exact .inl (if_neg hb)
    · by_cases hb : b = a
      · have z' := (if_pos hb).symm.trans z
        cases z'
        subst hb
        exact ⟨sa, by rw [List.length_map]; exact few, vs, _, rel, sa⟩
      · have z' := (if_neg hb).symm.trans z
        cases z'
theorem walkG {l : PySem.W.OpenLaw} {n k : Nat} {q : Program} {loose : List Str} {XP : (Str → Option Value) → Heap → Prop} {YP : World → Heap → Prop} {d : DefRec} {K : Params → PySem.W.Frag} {sp : PySem.W.Frag → Sp} {x : Str}
    (hn : l.most = some n) (h2 : n ≤ sizeLine) (hd : d.params.defaults = []) (hr : Room k callerA) (hY : ∀ (w : World) (h : Heap), YP w h → (K w.params).In h)
    (F : ∀ (w : World) (mg : Str → Option Value) (fa : Addr) (h : Heap), (K w.params).In h → h.Ns mainGlobals mg → mg d.name = some (.ref fa) →
      ∃ fd : FuncData, (∀ (s : Shared) (u : Value), BindsTo s fd ⟨[u], []⟩ [(x, u)]) ∧ ∀ base : Heap, (K w.params).In base → base.Ns mainGlobals mg → FnG l.prog w (K w.params) mg base CX0 k fa fd [x] (sp (K w.params)))
    (hs : ∀ (K : PySem.W.Frag) (H : Hp) (a : Addr) (ns : List Int), ns.length ≤ n → SqL K H a (ns.map V.int) → sp K [.ref a] H (fun v _ => v = .bl true) fun _ _ _ => False) :
    PySem.W.WalkO q loose XP YP l.row.toRowW d [] (fun f vs => PySem.call f vs) := by
  refine Att.attach_call hn hd fun w s₀ st mg mb fa o pm cd doc a vs ns G Y ho hdt hcd hmg hobj hints hlen hg => ?_
  have inK := hY w _ Y
  obtain ⟨fd, hb, hF⟩ := F w mg fa _ inK G.T.g hmg
  exact lawG inK G.T.g G.T.b G.T.builtins G.T.nolimit hg hobj hints (Nat.le_trans hlen h2) hr hF hb fun H sq => hs _ H a ns hlen sq
end Grd

namespace Kerr
open PySem L2 Exv Grd
/-! what the top leaves of the classes, as one answer each -/
def isB (K : PySem.W.Frag) (C : Addr) : Bool :=
  PySem.W.hasDictIn K C && (decide (PySem.W.findIn K (.ref C) "__getattribute__" = some (some (.builtin "BaseException.__getattribute__"))) && (decide (PySem.W.findIn K (.ref C) "__getattr__" = some none) &&
  (decide (PySem.W.subIn K (.ref C) (.type "BaseException") = some true) && (decide (PySem.W.findIn K (.ref C) "__class__" = some (some (.builtin "object.__class__"))) &&
  (decide (PySem.W.specialIn K (.builtin "object.__class__") "__get__" = some (some (.builtin "getset_descriptor.__get__"))) && (decide (PySem.W.takesIn K (.builtin "object.__class__") = some true) &&
  (decide (PySem.W.mroIn K C (.type "object") = some true) && decide (PySem.W.typeIn K (.ref C) = some (.type "type")))))))))
theorem isB_ok {K : PySem.W.Frag} {C : Addr} (h : isB K C = true) : IsT K C ∧ PySem.W.typeIn K (.ref C) = some (.type "type") := by
  unfold isB at h
  simp only [Bool.and_eq_true, decide_eq_true_eq] at h
  obtain ⟨h1, h2, h3, h4, h5, h6, h7, h8, h9⟩ := h
  exact ⟨⟨h1, h2, h3, h4, h5, h6, h7, h8⟩, h9⟩
def exB (K : PySem.W.Frag) (C fI : Addr) (f : Str) (bm : List Value) (newId : String) : Bool :=
  PySem.W.excInitIn K C bm newId && (PySem.W.excOver K C bm && (decide (PySem.W.findIn K (.ref C) "__init__" = some (some (.ref fI))) && (decide (PySem.W.typeIn K (.ref fI) = some (.type "function")) &&
  (decide (PySem.W.findIn K (.ref C) "__setattr__" = some (some (.builtin "object.__setattr__"))) && (decide (PySem.W.findIn K (.ref C) f = some none) && PySem.W.keepIn K (.ref C))))))
theorem exB_ok {K : PySem.W.Frag} {C fI : Addr} {f : Str} {bm : List Value} {newId : String} (h : exB K C fI f bm newId = true) (t : IsT K C) : ExT K C fI f bm newId := by
  unfold exB at h
  simp only [Bool.and_eq_true, decide_eq_true_eq] at h
  obtain ⟨h1, h2, h3, h4, h5, h6, h7⟩ := h
  exact ⟨h1, h2, h3, h4, h5, h6, t.hd, t.ga, t.gg, t.ex, h7⟩
def pickA (l : List Addr) (n : Nat) : Addr := l.getD n 0
/-- which class is one of which other -/
def kindB (K : PySem.W.Frag) (l : List Addr) (fit : Addr) : Bool := (List.range 13).all fun n =>
  ((List.range 13).all fun j => decide (PySem.W.kitOne K (.ref (pickA l n)) (.ref (pickA l j)) = some (decide (j = n)))) &&
  (decide (PySem.W.kitOne K (.ref (pickA l n)) (.type "Exception") = some true) && (decide (PySem.W.kitOne K (.ref (pickA l n)) (.type "ValueError") = some false) &&
  (decide (PySem.W.kitOne K (.ref (pickA l n)) (.ref fit) = some (decide (n ≠ 11))) && (decide (PySem.W.kitOne K (.ref (pickA l n)) (.type "KeyError") = some (decide (n = 11))) &&
  decide (PySem.W.exmOne K (.ref (pickA l n)) (.ref fit) = some (decide (n ≠ 11)))))))
theorem kindB_ok {K : PySem.W.Frag} {l : List Addr} {fit : Addr} (h : kindB K l fit = true) {n : Nat} (hn : n ≤ 12) :
    (∀ j, j ≤ 12 → PySem.W.kitOne K (.ref (pickA l n)) (.ref (pickA l j)) = some (decide (j = n))) ∧ PySem.W.kitOne K (.ref (pickA l n)) (.type "Exception") = some true ∧ PySem.W.kitOne K (.ref (pickA l n)) (.type "ValueError") = some false ∧
    PySem.W.kitOne K (.ref (pickA l n)) (.ref fit) = some (decide (n ≠ 11)) ∧ PySem.W.kitOne K (.ref (pickA l n)) (.type "KeyError") = some (decide (n = 11)) ∧ PySem.W.exmOne K (.ref (pickA l n)) (.ref fit) = some (decide (n ≠ 11)) := by
  unfold kindB at h
  have z := List.all_eq_true.mp h n (List.mem_range.mpr (by omega))
  simp only [Bool.and_eq_true, decide_eq_true_eq] at z
  obtain ⟨z1, z2, z3, z4, z5, z6⟩ := z
  refine ⟨fun j hj => ?_, z2, z3, z4, z5, z6⟩
  have y := List.all_eq_true.mp z1 j (List.mem_range.mpr (by omega))
  exact of_decide_eq_true y
theorem all_mk {P : Program} {w : World} {K : PySem.W.Frag} {h : Heap} {mg : Str → Option Value} {fa fit C0 C1 C2 C3 C4 C5 C6 C7 C8 C9 C10 C11 C12 i0 i1 i2 i3 i4 i5 i6 i7 i8 i9 i10 i11 f0 f1 f2 f3 f4 f5 f6 f7 f8 f9 f10 : Addr} (X : K.In h) (G : h.Ns mainGlobals mg) (hfa : mg "law" = some (.ref fa))
    (a0 : PySem.W.nsIn K mainGlobals "_law_source" = some (some (.ref f0))) (h0 : ∃ fd, Fun K "_law_source" "_law_source" sSource f0 fd)
    (a1 : PySem.W.nsIn K mainGlobals "_law_any" = some (some (.ref f1))) (h1 : ∃ fd, Fun K "_law_any" "_law_any" sAny f1 fd)
    (a2 : PySem.W.nsIn K mainGlobals "_law_of" = some (some (.ref f2))) (h2 : ∃ fd, Fun K "_law_of" "_law_of" sOf f2 fd)
    (a3 : PySem.W.nsIn K mainGlobals "_law_thing" = some (some (.ref f3))) (h3 : ∃ fd, Fun K "_law_thing" "_law_thing" sThing f3 fd)
    (a4 : PySem.W.nsIn K mainGlobals "_law_made" = some (some (.ref f4))) (h4 : ∃ fd, Fun K "_law_made" "_law_made" sMade f4 fd)
    (a5 : PySem.W.nsIn K mainGlobals "_law_other" = some (some (.ref f5))) (h5 : ∃ fd, Fun K "_law_other" "_law_other" sOther f5 fd)
    (a6 : PySem.W.nsIn K mainGlobals "_law_kinds" = some (some (.ref f6))) (h6 : ∃ fd, Fun K "_law_kinds" "_law_kinds" sKinds f6 fd)
    (a7 : PySem.W.nsIn K mainGlobals "_law_kept" = some (some (.ref f7))) (h7 : ∃ fd, Fun K "_law_kept" "_law_kept" sKept f7 fd)
    (a8 : PySem.W.nsIn K mainGlobals "_law_raised" = some (some (.ref f8))) (h8 : ∃ fd, Fun K "_law_raised" "_law_raised" sRaised f8 fd)
    (a9 : PySem.W.nsIn K mainGlobals "_law_caught" = some (some (.ref f9))) (h9 : ∃ fd, Fun K "_law_caught" "_law_caught" sCaught f9 fd)
    (a10 : PySem.W.nsIn K mainGlobals "law" = some (some (.ref f10))) (h10 : ∃ fd, Fun K "law" "law" sLaw f10 fd)
    (b0 : PySem.W.nsIn K mainGlobals "InvalidNode" = some (some (.ref C0))) (j0 : PySem.W.findIn K (.ref C0) "__init__" = some (some (.ref i0))) (g0 : ∃ fd, Fun K "__init__" "InvalidNode.__init__" sI0 i0 fd) (t0 : isB K C0 = true) (e0 : exB K C0 i0 "at" bmExc "Exception.__new__" = true)
    (b1 : PySem.W.nsIn K mainGlobals "InvalidPlace" = some (some (.ref C1))) (j1 : PySem.W.findIn K (.ref C1) "__init__" = some (some (.ref i1))) (g1 : ∃ fd, Fun K "__init__" "InvalidPlace.__init__" sI1 i1 fd) (t1 : isB K C1 = true) (e1 : exB K C1 i1 "at" bmExc "Exception.__new__" = true)
    (b2 : PySem.W.nsIn K mainGlobals "InvalidFormula" = some (some (.ref C2))) (j2 : PySem.W.findIn K (.ref C2) "__init__" = some (some (.ref i2))) (g2 : ∃ fd, Fun K "__init__" "InvalidFormula.__init__" sI2 i2 fd) (t2 : isB K C2 = true) (e2 : exB K C2 i2 "at" bmExc "Exception.__new__" = true)
    (b3 : PySem.W.nsIn K mainGlobals "InvalidSchema" = some (some (.ref C3))) (j3 : PySem.W.findIn K (.ref C3) "__init__" = some (some (.ref i3))) (g3 : ∃ fd, Fun K "__init__" "InvalidSchema.__init__" sI3 i3 fd) (t3 : isB K C3 = true) (e3 : exB K C3 i3 "at" bmExc "Exception.__new__" = true)
    (b4 : PySem.W.nsIn K mainGlobals "InvalidTable" = some (some (.ref C4))) (j4 : PySem.W.findIn K (.ref C4) "__init__" = some (some (.ref i4))) (g4 : ∃ fd, Fun K "__init__" "InvalidTable.__init__" sI4 i4 fd) (t4 : isB K C4 = true) (e4 : exB K C4 i4 "at" bmExc "Exception.__new__" = true)
    (b5 : PySem.W.nsIn K mainGlobals "InvalidTurning" = some (some (.ref C5))) (j5 : PySem.W.findIn K (.ref C5) "__init__" = some (some (.ref i5))) (g5 : ∃ fd, Fun K "__init__" "InvalidTurning.__init__" sI5 i5 fd) (t5 : isB K C5 = true) (e5 : exB K C5 i5 "at" bmExc "Exception.__new__" = true)
    (b6 : PySem.W.nsIn K mainGlobals "InvalidEdit" = some (some (.ref C6))) (j6 : PySem.W.findIn K (.ref C6) "__init__" = some (some (.ref i6))) (g6 : ∃ fd, Fun K "__init__" "InvalidEdit.__init__" sI6 i6 fd) (t6 : isB K C6 = true) (e6 : exB K C6 i6 "at" bmExc "Exception.__new__" = true)
    (b7 : PySem.W.nsIn K mainGlobals "InvalidAsk" = some (some (.ref C7))) (j7 : PySem.W.findIn K (.ref C7) "__init__" = some (some (.ref i7))) (g7 : ∃ fd, Fun K "__init__" "InvalidAsk.__init__" sI7 i7 fd) (t7 : isB K C7 = true) (e7 : exB K C7 i7 "at" bmExc "Exception.__new__" = true)
    (b8 : PySem.W.nsIn K mainGlobals "InvalidText" = some (some (.ref C8))) (j8 : PySem.W.findIn K (.ref C8) "__init__" = some (some (.ref i8))) (g8 : ∃ fd, Fun K "__init__" "InvalidText.__init__" sI8 i8 fd) (t8 : isB K C8 = true) (e8 : exB K C8 i8 "at" bmExc "Exception.__new__" = true)
    (b9 : PySem.W.nsIn K mainGlobals "InvalidSize" = some (some (.ref C9))) (j9 : PySem.W.findIn K (.ref C9) "__init__" = some (some (.ref i9))) (g9 : ∃ fd, Fun K "__init__" "InvalidSize.__init__" sI9 i9 fd) (t9 : isB K C9 = true) (e9 : exB K C9 i9 "word" bmExc "Exception.__new__" = true)
    (b10 : PySem.W.nsIn K mainGlobals "Refused" = some (some (.ref C10))) (j10 : PySem.W.findIn K (.ref C10) "__init__" = some (some (.ref i10))) (g10 : ∃ fd, Fun K "__init__" "Refused.__init__" sI10 i10 fd) (t10 : isB K C10 = true) (e10 : exB K C10 i10 "word" bmExc "Exception.__new__" = true)
    (b11 : PySem.W.nsIn K mainGlobals "NoName" = some (some (.ref C11))) (j11 : PySem.W.findIn K (.ref C11) "__init__" = some (some (.ref i11))) (g11 : ∃ fd, Fun K "__init__" "NoName.__init__" sI11 i11 fd) (t11 : isB K C11 = true) (e11 : exB K C11 i11 "name" bmKey "LookupError.__new__" = true)
    (b12 : PySem.W.nsIn K mainGlobals "InvalidCommand" = some (some (.ref C12))) (t12 : isB K C12 = true) (x12 : PySem.W.excIn K C12 bmExc "Exception.__new__" = true) (k12 : PySem.W.keepIn K (.ref C12) = true)
    (bF : PySem.W.nsIn K mainGlobals "FitError" = some (some (.ref fit))) (tF : isB K fit = true) (xF : PySem.W.excIn K fit bmExc "Exception.__new__" = true) (kF : PySem.W.keepIn K (.ref fit) = true)
    (kb : kindB K [C0, C1, C2, C3, C4, C5, C6, C7, C8, C9, C10, C11, C12] fit = true) (y1 : PySem.W.kitOne K (.ref fit) (.type "Exception") = some true) (y2 : PySem.W.kitOne K (.ref fit) (.type "ValueError") = some false) (y3 : PySem.W.kitOne K (.ref fit) (.type "KeyError") = some false) (y4 : PySem.W.exmOne K (.ref C11) (.type "KeyError") = some true)
    (z0 : PySem.W.nsIn K mainGlobals "int" = some none)    (z1 : PySem.W.nsIn K mainGlobals "abs" = some none)    (z2 : PySem.W.nsIn K mainGlobals "len" = some none)    (z3 : PySem.W.nsIn K mainGlobals "range" = some none)
    (z4 : PySem.W.nsIn K mainGlobals "tuple" = some none)    (z5 : PySem.W.nsIn K mainGlobals "isinstance" = some none)    (z6 : PySem.W.nsIn K mainGlobals "repr" = some none)    (z7 : PySem.W.nsIn K mainGlobals "Exception" = some none)
    (z8 : PySem.W.nsIn K mainGlobals "ValueError" = some none)    (z9 : PySem.W.nsIn K mainGlobals "KeyError" = some none) :
    ∃ fd : FuncData, (∀ (s : Shared) (v : Value), BindsTo s fd ⟨[v], []⟩ [("script", v)]) ∧ ∀ base : Heap, K.In base → base.Ns mainGlobals mg → FnG P w K mg base CX0 7 fa fd ["script"] (spLaw K) := by
  have e := hfa.symm.trans (PySem.W.mg_of X G a10)
  cases e
  obtain ⟨d0, F0⟩ := h0
  obtain ⟨d1, F1⟩ := h1
  obtain ⟨d2, F2⟩ := h2
  obtain ⟨d3, F3⟩ := h3
  obtain ⟨d4, F4⟩ := h4
  obtain ⟨d5, F5⟩ := h5
  obtain ⟨d6, F6⟩ := h6
  obtain ⟨d7, F7⟩ := h7
  obtain ⟨d8, F8⟩ := h8
  obtain ⟨d9, F9⟩ := h9
  obtain ⟨d10, F10⟩ := h10
  obtain ⟨q0, I0⟩ := g0
  obtain ⟨q1, I1⟩ := g1
  obtain ⟨q2, I2⟩ := g2
  obtain ⟨q3, I3⟩ := g3
  obtain ⟨q4, I4⟩ := g4
  obtain ⟨q5, I5⟩ := g5
  obtain ⟨q6, I6⟩ := g6
  obtain ⟨q7, I7⟩ := g7
  obtain ⟨q8, I8⟩ := g8
  obtain ⟨q9, I9⟩ := g9
  obtain ⟨q10, I10⟩ := g10
  obtain ⟨q11, I11⟩ := g11
  have v0 := F0.binds (ps := ["script"]) fun _ _ _ _ _ _ us hl => match us, hl with | [_], _ => rfl
  have v1 := F1.binds (ps := ["deal", "bound"]) fun _ _ _ _ _ _ us hl => match us, hl with | [_, _], _ => rfl
  have v2 := F2.binds (ps := ["deal", "some"]) fun _ _ _ _ _ _ us hl => match us, hl with | [_, _], _ => rfl
  have v3 := F3.binds (ps := ["deal", "depth"]) fun _ _ _ _ _ _ us hl => match us, hl with | [_, _], _ => rfl
  have v4 := F4.binds (ps := ["number", "thing", "named"]) fun _ _ _ _ _ _ us hl => match us, hl with | [_, _, _], _ => rfl
  have v5 := F5.binds (ps := ["number", "thing", "named"]) fun _ _ _ _ _ _ us hl => match us, hl with | [_, _, _], _ => rfl
  have v6 := F6.binds (ps := ["e"]) fun _ _ _ _ _ _ us hl => match us, hl with | [_], _ => rfl
  have v7 := F7.binds (ps := ["number", "e"]) fun _ _ _ _ _ _ us hl => match us, hl with | [_, _], _ => rfl
  have v8 := F8.binds (ps := ["number"]) fun _ _ _ _ _ _ us hl => match us, hl with | [_], _ => rfl
  have v9 := F9.binds (ps := ["number"]) fun _ _ _ _ _ _ us hl => match us, hl with | [_], _ => rfl
  have isT : ∀ n, n ≤ 12 → IsT K (pickA [C0, C1, C2, C3, C4, C5, C6, C7, C8, C9, C10, C11, C12] n) ∧ PySem.W.typeIn K (.ref (pickA [C0, C1, C2, C3, C4, C5, C6, C7, C8, C9, C10, C11, C12] n)) = some (.type "type") := by
    intro n hn
    have hn : n = 0 ∨ n = 1 ∨ n = 2 ∨ n = 3 ∨ n = 4 ∨ n = 5 ∨ n = 6 ∨ n = 7 ∨ n = 8 ∨ n = 9 ∨ n = 10 ∨ n = 11 ∨ n = 12 := by omega
    rcases hn with rfl | rfl | rfl | rfl | rfl | rfl | rfl | rfl | rfl | rfl | rfl | rfl | rfl
    · exact isB_ok t0
    · exact isB_ok t1
    · exact isB_ok t2
    · exact isB_ok t3
    · exact isB_ok t4
    · exact isB_ok t5
    · exact isB_ok t6
    · exact isB_ok t7
    · exact isB_ok t8
    · exact isB_ok t9
    · exact isB_ok t10
    · exact isB_ok t11
    · exact isB_ok t12
  have no : ∀ n, n < 12 → PySem.W.findIn K (.ref (pickA [C0, C1, C2, C3, C4, C5, C6, C7, C8, C9, C10, C11, C12] n)) (fld n) = some none := by
    intro n hn
    have hn : n = 0 ∨ n = 1 ∨ n = 2 ∨ n = 3 ∨ n = 4 ∨ n = 5 ∨ n = 6 ∨ n = 7 ∨ n = 8 ∨ n = 9 ∨ n = 10 ∨ n = 11 := by omega
    rcases hn with rfl | rfl | rfl | rfl | rfl | rfl | rfl | rfl | rfl | rfl | rfl | rfl
    · exact (exB_ok e0 (isB_ok t0).1).no
    · exact (exB_ok e1 (isB_ok t1).1).no
    · exact (exB_ok e2 (isB_ok t2).1).no
    · exact (exB_ok e3 (isB_ok t3).1).no
    · exact (exB_ok e4 (isB_ok t4).1).no
    · exact (exB_ok e5 (isB_ok t5).1).no
    · exact (exB_ok e6 (isB_ok t6).1).no
    · exact (exB_ok e7 (isB_ok t7).1).no
    · exact (exB_ok e8 (isB_ok t8).1).no
    · exact (exB_ok e9 (isB_ok t9).1).no
    · exact (exB_ok e10 (isB_ok t10).1).no
    · exact (exB_ok e11 (isB_ok t11).1).no
  have TM : MadeTxt K mg (pickA [C0, C1, C2, C3, C4, C5, C6, C7, C8, C9, C10, C11, C12]) (pickA [i0, i1, i2, i3, i4, i5, i6, i7, i8, i9, i10, i11]) (fun n => ([q0, q1, q2, q3, q4, q5, q6, q7, q8, q9, q10, q11] : List FuncData).getD n q0) f5 :=
    { other := PySem.W.mg_of X G a5, kOther := F5.kp, mC := PySem.W.mg_of X G b12, xC := x12, kC := k12,
      c0 := ⟨PySem.W.mg_of X G b0, exB_ok e0 (isB_ok t0).1⟩, f0 := I0,
      c1 := ⟨PySem.W.mg_of X G b1, exB_ok e1 (isB_ok t1).1⟩, f1 := I1,
      c2 := ⟨PySem.W.mg_of X G b2, exB_ok e2 (isB_ok t2).1⟩, f2 := I2,
      c3 := ⟨PySem.W.mg_of X G b3, exB_ok e3 (isB_ok t3).1⟩, f3 := I3,
      c4 := ⟨PySem.W.mg_of X G b4, exB_ok e4 (isB_ok t4).1⟩, f4 := I4,
      c5 := ⟨PySem.W.mg_of X G b5, exB_ok e5 (isB_ok t5).1⟩, f5 := I5,
      c6 := ⟨PySem.W.mg_of X G b6, exB_ok e6 (isB_ok t6).1⟩, f6 := I6,
      c7 := ⟨PySem.W.mg_of X G b7, exB_ok e7 (isB_ok t7).1⟩, f7 := I7,
      c8 := ⟨PySem.W.mg_of X G b8, exB_ok e8 (isB_ok t8).1⟩, f8 := I8,
      c9 := ⟨PySem.W.mg_of X G b9, exB_ok e9 (isB_ok t9).1⟩, f9 := I9,
      c10 := ⟨PySem.W.mg_of X G b10, exB_ok e10 (isB_ok t10).1⟩, f10 := I10,
      c11 := ⟨PySem.W.mg_of X G b11, exB_ok e11 (isB_ok t11).1⟩, f11 := I11 }
  have TK : KindTxt K mg (pickA [C0, C1, C2, C3, C4, C5, C6, C7, C8, C9, C10, C11, C12]) :=
    { isi := PySem.W.mg_none_of X G z5, len := PySem.W.mg_none_of X G z2, range := PySem.W.mg_none_of X G z3, isT := fun n hn => (isT n hn).1, kinds := fun n j hn hj => (kindB_ok kb hn).1 j hj, no := no, m0 := PySem.W.mg_of X G b0, m1 := PySem.W.mg_of X G b1, m2 := PySem.W.mg_of X G b2, m3 := PySem.W.mg_of X G b3, m4 := PySem.W.mg_of X G b4, m5 := PySem.W.mg_of X G b5, m6 := PySem.W.mg_of X G b6, m7 := PySem.W.mg_of X G b7, m8 := PySem.W.mg_of X G b8, m9 := PySem.W.mg_of X G b9, m10 := PySem.W.mg_of X G b10, m11 := PySem.W.mg_of X G b11, m12 := PySem.W.mg_of X G b12 }
  have TC : CatchTxt K mg (pickA [C0, C1, C2, C3, C4, C5, C6, C7, C8, C9, C10, C11, C12]) fit f8 :=
    { raised := PySem.W.mg_of X G a8, kRaised := F8.kp, mFit := PySem.W.mg_of X G bF, key := PySem.W.mg_none_of X G z9, ty := fun n hn => (isT n hn).2, isFit := fun n hn => (kindB_ok kb hn).2.2.2.2.2, isKey := y4 }
  have TL : LawTxt K mg (pickA [C0, C1, C2, C3, C4, C5, C6, C7, C8, C9, C10, C11, C12]) fit f0 f3 f4 f6 f7 f9 :=
    { range := PySem.W.mg_none_of X G z3, repr := PySem.W.mg_none_of X G z6, isi := PySem.W.mg_none_of X G z5, exc := PySem.W.mg_none_of X G z7, val := PySem.W.mg_none_of X G z8, key := PySem.W.mg_none_of X G z9, mFit := PySem.W.mg_of X G bF, xFit := xF, kFit := kF, tFit := (isB_ok tF).1, fitExc := y1, fitVal := y2, fitKey := y3,
      isExc := fun n hn => (kindB_ok kb hn).2.1, isVal := fun n hn => (kindB_ok kb hn).2.2.1, isFit := fun n hn => (kindB_ok kb hn).2.2.2.1, isKey := fun n hn => (kindB_ok kb hn).2.2.2.2.1,
      src := PySem.W.mg_of X G a0, kSrc := F0.kp, thing := PySem.W.mg_of X G a3, kThing := F3.kp, made := PySem.W.mg_of X G a4, kMade := F4.kp, kinds := PySem.W.mg_of X G a6, kKinds := F6.kp, kept := PySem.W.mg_of X G a7, kKept := F7.kp, caught := PySem.W.mg_of X G a9, kCaught := F9.kp }
  refine ⟨d10, fun s v => ?_, fun base _ _ => ?_⟩
  · obtain ⟨_, _, _, _, _, _, _, _, _, rfl, _, _⟩ := F10.ex
    exact .of_eq rfl
  · have GA : FnOk P w K mg base CX0 1 f1 d1 ["deal", "bound"] spAny := ok_any F1 ⟨PySem.W.mg_none_of X G z0⟩
    have GO : FnOk P w K mg base CX0 2 f2 d2 ["deal", "some"] spOf := ok_of F2 ⟨PySem.W.mg_none_of X G z2, PySem.W.mg_of X G a1, F1.kp⟩ GA v1
    have GS : FnOk P w K mg base CX0 1 f0 d0 ["script"] (spSource K) := ok_source F0 ⟨PySem.W.mg_none_of X G z0, PySem.W.mg_none_of X G z1⟩
    have GT : FnOk P w K mg base CX0 (3 + 3) f3 d3 ["deal", "depth"] (spThing 3) := ok_thing F3 ⟨PySem.W.mg_none_of X G z3, PySem.W.mg_none_of X G z4, PySem.W.mg_of X G a1, F1.kp, PySem.W.mg_of X G a2, F2.kp, PySem.W.mg_of X G a3, F3.kp⟩ v3 GA v1 GO v2 3
    exact ok_law F10 TL GS v0 GT v3 (ok_made F4 TM F5 v5) v4 (ok_kinds F6 TK) v6 (ok_kept F7 TK) v7 (ok_caught F9 TM TK TC F8 v8) v9 fun n hn => (isT n hn).1
end Kerr

open PySem PySem.W PyProof.Rows
set_option maxRecDepth 100000 in
set_option maxHeartbeats 0 in
theorem PySem.Challenge.cw_turnsfit_k00_errors_and_what_they_keep_holds : PySem.Challenge.rw_turnsfit_k00_errors_and_what_they_keep.Holds := by
  w_on; o_law; k_head; (case hw => w_witness2)
  k_fill
  refine Grd.walkG (l := PySem.Challenge.rw_turnsfit_k00_errors_and_what_they_keep) (sp := Kerr.spLaw) (x := "script") (k := 7) rfl (by decide) rfl ⟨rfl, by decide, by decide⟩ (fun w h Y => PySem.W.kIn_of Y) ?F (fun K H a ns hl hS => ⟨a, ns, rfl, hS, hl, fun _ => rfl⟩)
  case F =>
    intro w mg fa h KX G hmg
    refine' Kerr.all_mk KX G hmg ?kq_a0 ?kq_h0 ?kq_a1 ?kq_h1 ?kq_a2 ?kq_h2 ?kq_a3 ?kq_h3 ?kq_a4 ?kq_h4 ?kq_a5 ?kq_h5 ?kq_a6 ?kq_h6 ?kq_a7 ?kq_h7 ?kq_a8 ?kq_h8 ?kq_a9 ?kq_h9 ?kq_a10 ?kq_h10 ?kq_b0 ?kq_j0 ?kq_g0 ?kq_t0 ?kq_e0 ?kq_b1 ?kq_j1 ?kq_g1 ?kq_t1 ?kq_e1 ?kq_b2 ?kq_j2 ?kq_g2 ?kq_t2 ?kq_e2 ?kq_b3 ?kq_j3 ?kq_g3 ?kq_t3 ?kq_e3 ?kq_b4 ?kq_j4 ?kq_g4 ?kq_t4 ?kq_e4 ?kq_b5 ?kq_j5 ?kq_g5 ?kq_t5 ?kq_e5 ?kq_b6 ?kq_j6 ?kq_g6 ?kq_t6 ?kq_e6 ?kq_b7 ?kq_j7 ?kq_g7 ?kq_t7 ?kq_e7 ?kq_b8 ?kq_j8 ?kq_g8 ?kq_t8 ?kq_e8 ?kq_b9 ?kq_j9 ?kq_g9 ?kq_t9 ?kq_e9 ?kq_b10 ?kq_j10 ?kq_g10 ?kq_t10 ?kq_e10 ?kq_b11 ?kq_j11 ?kq_g11 ?kq_t11 ?kq_e11 ?kq_b12 ?kq_t12 ?kq_x12 ?kq_k12 ?kq_bF ?kq_tF ?kq_xF ?kq_kF ?kq_kb ?kq_y1 ?kq_y2 ?kq_y3 ?kq_y4 ?kq_z0 ?kq_z1 ?kq_z2 ?kq_z3 ?kq_z4 ?kq_z5 ?kq_z6 ?kq_z7 ?kq_z8 ?kq_z9
    (case kq_a0 => k_is)
    (case kq_h0 => refine' ⟨_, L2.fun_mk (st := Kerr.sSource) ?kql ?kqc ?kqk⟩; (case kql => k_is); (case kqc => k_is); (case kqk => k_is))
    (case kq_a1 => k_is)
    (case kq_h1 => refine' ⟨_, L2.fun_mk (st := Kerr.sAny) ?kql ?kqc ?kqk⟩; (case kql => k_is); (case kqc => k_is); (case kqk => k_is))
    (case kq_a2 => k_is)
    (case kq_h2 => refine' ⟨_, L2.fun_mk (st := Kerr.sOf) ?kql ?kqc ?kqk⟩; (case kql => k_is); (case kqc => k_is); (case kqk => k_is))
    (case kq_a3 => k_is)
    (case kq_h3 => refine' ⟨_, L2.fun_mk (st := Kerr.sThing) ?kql ?kqc ?kqk⟩; (case kql => k_is); (case kqc => k_is); (case kqk => k_is))
    (case kq_a4 => k_is)
    (case kq_h4 => refine' ⟨_, L2.fun_mk (st := Kerr.sMade) ?kql ?kqc ?kqk⟩; (case kql => k_is); (case kqc => k_is); (case kqk => k_is))
    (case kq_a5 => k_is)
    (case kq_h5 => refine' ⟨_, L2.fun_mk (st := Kerr.sOther) ?kql ?kqc ?kqk⟩; (case kql => k_is); (case kqc => k_is); (case kqk => k_is))
    (case kq_a6 => k_is)
    (case kq_h6 => refine' ⟨_, L2.fun_mk (st := Kerr.sKinds) ?kql ?kqc ?kqk⟩; (case kql => k_is); (case kqc => k_is); (case kqk => k_is))
    (case kq_a7 => k_is)
    (case kq_h7 => refine' ⟨_, L2.fun_mk (st := Kerr.sKept) ?kql ?kqc ?kqk⟩; (case kql => k_is); (case kqc => k_is); (case kqk => k_is))
    (case kq_a8 => k_is)
    (case kq_h8 => refine' ⟨_, L2.fun_mk (st := Kerr.sRaised) ?kql ?kqc ?kqk⟩; (case kql => k_is); (case kqc => k_is); (case kqk => k_is))
    (case kq_a9 => k_is)
    (case kq_h9 => refine' ⟨_, L2.fun_mk (st := Kerr.sCaught) ?kql ?kqc ?kqk⟩; (case kql => k_is); (case kqc => k_is); (case kqk => k_is))
    (case kq_a10 => k_is)
    (case kq_h10 => refine' ⟨_, L2.fun_mk (st := Kerr.sLaw) ?kql ?kqc ?kqk⟩; (case kql => k_is); (case kqc => k_is); (case kqk => k_is))
    (case kq_b0 => k_is)
    (case kq_j0 => k_is)
    (case kq_g0 => refine' ⟨_, L2.fun_mk (st := Kerr.sI0) ?kql ?kqc ?kqk⟩; (case kql => k_is); (case kqc => k_is); (case kqk => k_is))
    (case kq_t0 => kernel_rfl)
    (case kq_e0 => kernel_rfl)
    (case kq_b1 => k_is)
    (case kq_j1 => k_is)
    (case kq_g1 => refine' ⟨_, L2.fun_mk (st := Kerr.sI1) ?kql ?kqc ?kqk⟩; (case kql => k_is); (case kqc => k_is); (case kqk => k_is))
    (case kq_t1 => kernel_rfl)
    (case kq_e1 => kernel_rfl)
    (case kq_b2 => k_is)
    (case kq_j2 => k_is)
    (case kq_g2 => refine' ⟨_, L2.fun_mk (st := Kerr.sI2) ?kql ?kqc ?kqk⟩; (case kql => k_is); (case kqc => k_is); (case kqk => k_is))
    (case kq_t2 => kernel_rfl)
    (case kq_e2 => kernel_rfl)
    (case kq_b3 => k_is)
    (case kq_j3 => k_is)
    (case kq_g3 => refine' ⟨_, L2.fun_mk (st := Kerr.sI3) ?kql ?kqc ?kqk⟩; (case kql => k_is); (case kqc => k_is); (case kqk => k_is))
    (case kq_t3 => kernel_rfl)
    (case kq_e3 => kernel_rfl)
    (case kq_b4 => k_is)
    (case kq_j4 => k_is)
    (case kq_g4 => refine' ⟨_, L2.fun_mk (st := Kerr.sI4) ?kql ?kqc ?kqk⟩; (case kql => k_is); (case kqc => k_is); (case kqk => k_is))
    (case kq_t4 => kernel_rfl)
    (case kq_e4 => kernel_rfl)
    (case kq_b5 => k_is)
    (case kq_j5 => k_is)
    (case kq_g5 => refine' ⟨_, L2.fun_mk (st := Kerr.sI5) ?kql ?kqc ?kqk⟩; (case kql => k_is); (case kqc => k_is); (case kqk => k_is))
    (case kq_t5 => kernel_rfl)
    (case kq_e5 => kernel_rfl)
    (case kq_b6 => k_is)
    (case kq_j6 => k_is)
    (case kq_g6 => refine' ⟨_, L2.fun_mk (st := Kerr.sI6) ?kql ?kqc ?kqk⟩; (case kql => k_is); (case kqc => k_is); (case kqk => k_is))
    (case kq_t6 => kernel_rfl)
    (case kq_e6 => kernel_rfl)
    (case kq_b7 => k_is)
    (case kq_j7 => k_is)
    (case kq_g7 => refine' ⟨_, L2.fun_mk (st := Kerr.sI7) ?kql ?kqc ?kqk⟩; (case kql => k_is); (case kqc => k_is); (case kqk => k_is))
    (case kq_t7 => kernel_rfl)
    (case kq_e7 => kernel_rfl)
    (case kq_b8 => k_is)
    (case kq_j8 => k_is)
    (case kq_g8 => refine' ⟨_, L2.fun_mk (st := Kerr.sI8) ?kql ?kqc ?kqk⟩; (case kql => k_is); (case kqc => k_is); (case kqk => k_is))
    (case kq_t8 => kernel_rfl)
    (case kq_e8 => kernel_rfl)
    (case kq_b9 => k_is)
    (case kq_j9 => k_is)
    (case kq_g9 => refine' ⟨_, L2.fun_mk (st := Kerr.sI9) ?kql ?kqc ?kqk⟩; (case kql => k_is); (case kqc => k_is); (case kqk => k_is))
    (case kq_t9 => kernel_rfl)
    (case kq_e9 => kernel_rfl)
    (case kq_b10 => k_is)
    (case kq_j10 => k_is)
    (case kq_g10 => refine' ⟨_, L2.fun_mk (st := Kerr.sI10) ?kql ?kqc ?kqk⟩; (case kql => k_is); (case kqc => k_is); (case kqk => k_is))
    (case kq_t10 => kernel_rfl)
    (case kq_e10 => kernel_rfl)
    (case kq_b11 => k_is)
    (case kq_j11 => k_is)
    (case kq_g11 => refine' ⟨_, L2.fun_mk (st := Kerr.sI11) ?kql ?kqc ?kqk⟩; (case kql => k_is); (case kqc => k_is); (case kqk => k_is))
    (case kq_t11 => kernel_rfl)
    (case kq_e11 => kernel_rfl)
    (case kq_b12 => k_is)
    (case kq_t12 => kernel_rfl)
    (case kq_x12 => k_exc)
    (case kq_k12 => k_is)
    (case kq_bF => k_is)
    (case kq_tF => kernel_rfl)
    (case kq_xF => k_exc)
    (case kq_kF => k_is)
    (case kq_kb => kernel_rfl)
    (case kq_y1 => kernel_rfl)
    (case kq_y2 => kernel_rfl)
    (case kq_y3 => kernel_rfl)
    (case kq_y4 => kernel_rfl)
    (case kq_z0 => k_is)
    (case kq_z1 => k_is)
    (case kq_z2 => k_is)
    (case kq_z3 => k_is)
    (case kq_z4 => k_is)
    (case kq_z5 => k_is)
    (case kq_z6 => k_is)
    (case kq_z7 => k_is)
    (case kq_z8 => k_is)
    (case kq_z9 => k_is)

