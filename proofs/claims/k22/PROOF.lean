import PyProof.Rows.All
import Wide.All
import OpenK.AllK
import Wide.FinOn
import PySem.Challenge.RW_landways_k22_whole_which_step_a_deed_is
import HandS.ForMost
import HandS.Wide
import HandS.Evl
import HandS.Walk
import HandS.Zip
import HandS.TupAny
import HandS.Sort
import PyProof.ListRange
import HandS.Deep
import HandS.SortRule
import HandS.Star
import HandS.IsInst
import HandS.TupSets
import HandS.SetFor
import HandS.SetBool
import PyProof.TupleOfSeq
import HandS.Property
import HandS.ExcIs
import HandS.ExcField
import HandS.ForExc
import HandS.ExcInit
import KE.DataMinMax
import KE.SortData
import KE.LtData
import HandS.SlotsOwn
import HandS.OwnEq
import PyProof.InstEq
import HandS.MakeKw
import HandS.Iter
import KE.GoesMore
import KE.GoesEnum
import HandS.Flow
import HandS.WrittenGet
import HandS.Dict
import HandS.Defaults
import HandS.Strs
import HandS.Nested
import KE.KSuper
import HandS.Style
import HandS.RaiseMore
import KE.KExcIs
import PyProof.Rows.StrJoinMade
import PyProof.Rows.ReprOcc
import HandS.EndBits
import HandS.EndBits
set_option Elab.async false
set_option linter.all false
set_option maxRecDepth 100000
set_option maxHeartbeats 4000000
/-! ## P1 -/
section
open PySem PySem.Spec PyProof.Rows L2
namespace K7

def topS (i : Nat) : Stmt := PySem.Challenge.pw_landways_k22_whole_which_step_a_deed_is.main.body.getD i (.Pass ⟨0, 0, 0, 0⟩)
abbrev N__law_mix : List Str := ["_law_number", "_law_turn", "_law_once", "_law_twice"]
abbrev s__law_mix : Stmt := topS 55
theorem sc__law_mix : FnScope ["_law_number", "_law_turn", "_law_once", "_law_twice"] ["_law_number", "_law_turn"] (defScope s__law_mix) := ⟨rfl, rfl, rfl, by decide +kernel, rfl, by decide +kernel, by decide +kernel⟩

abbrev N__law_draw : List Str := ["_law_hand_here", "_law_many", "_law_cell", "_law_rest"]
abbrev s__law_draw : Stmt := topS 57
theorem sc__law_draw : FnScope ["_law_hand_here", "_law_many", "_law_cell", "_law_rest"] ["_law_hand_here", "_law_many"] (defScope s__law_draw) := ⟨rfl, rfl, rfl, by decide +kernel, rfl, by decide +kernel, by decide +kernel⟩

abbrev N__law_pick : List Str := ["_law_hand_here", "_law_things"]
abbrev s__law_pick : Stmt := topS 58
theorem sc__law_pick : FnScope ["_law_hand_here", "_law_things"] ["_law_hand_here", "_law_things"] (defScope s__law_pick) := ⟨rfl, rfl, rfl, by decide +kernel, rfl, by decide +kernel, by decide +kernel⟩

abbrev N__law_hand : List Str := ["_law_script", "_law_total", "_law_k", "_law_cell"]
abbrev s__law_hand : Stmt := topS 56
theorem sc__law_hand : FnScope ["_law_script", "_law_total", "_law_k", "_law_cell"] ["_law_script"] (defScope s__law_hand) := ⟨rfl, rfl, rfl, by decide +kernel, rfl, by decide +kernel, by decide +kernel⟩

section
variable {P : Program} {w : World} {K : PySem.W.Frag} {mg : Str → Option Value} {base : Heap}
/-! mix: some number from 0 on -/
def spMix : Sp := fun vs H Q _ => ∃ n t : Int, vs = [.int n, .int t] ∧ ∀ r : Int, 0 ≤ r → Q (.int r) H
theorem ok_mix {f : Addr} {fd : FuncData} (F : Fun K "_law_mix" "_law_mix" s__law_mix f fd) (m_int : mg "int" = none) : FnOk P w K mg base CX0 1 f fd ["_law_number", "_law_turn"] spMix := by
  refine F.ok sc__law_mix (fun vs H Q E h => ?_) (fun cdv A outer s H vs Q E hr h => ?_)
  · obtain ⟨n, t, rfl, _⟩ := h
    rfl
  · obtain ⟨n, t, rfl, q⟩ := h
    refine ⟨_, (pss_cons (ps_set (i := 2) sc__law_mix.nd rfl (by first | exact Or.inl rfl | exact Or.inr rfl) (pe_op op_mod (pe_callTy call_int1 (by rfl) m_int boot_int (pa_cons (pe_op op_add (pe_op op_add (pe_op op_mul (pv 0) pe_int) (pe_op op_mul (pv 1) pe_int)) pe_int) pa_nil)) pe_int))
 (pss_cons (ps_set (i := 3) sc__law_mix.nd rfl (by first | exact Or.inl rfl | exact Or.inr rfl) (pe_op op_mod (pe_callTy call_int1 (by rfl) m_int boot_int (pa_cons (pe_op op_add (pe_op op_add (pe_op op_mul (pv 2) (pv 2)) (pe_op op_mul (pe_op op_fdiv (pv 2) pe_int) pe_int)) (pe_op op_mul (pv 1) pe_int)) pa_nil)) pe_int))
 (pss_one (ps_ret (pe_op op_fdiv (pe_op op_mod (pe_callTy call_int1 (by rfl) m_int boot_int (pa_cons (pe_op op_add (pe_op op_fdiv (pe_op op_mul (pv 3) (pv 3)) pe_int) (pv 2)) pa_nil)) pe_int) pe_int))))), ?_⟩
    have e1 : ∀ z : Int, 0 ≤ z % 2147483647 ∧ z % 2147483647 < 2147483647 := fun z => ⟨Int.emod_nonneg _ (by decide), Int.emod_lt_of_pos _ (by decide)⟩
    have e2 : ∀ z : Int, 0 ≤ z % 2147483399 ∧ z % 2147483399 < 2147483399 := fun z => ⟨Int.emod_nonneg _ (by decide), Int.emod_lt_of_pos _ (by decide)⟩
    refine ⟨_, rfl, _, _, rfl, rfl, .inr ⟨by decide, by decide⟩, _, rfl, _, _, rfl, rfl, .inr ⟨by decide, by decide⟩, _, _, rfl, rfl, _, _, rfl, rfl, .inl ⟨_, rfl, ?_⟩⟩
    refine ⟨_, _, rfl, rfl, show (0 : Int) < _ by decide, ?_⟩
    have b1 := e1 (n * 48271 + t * 16807 + 11)
    refine ⟨_, rfl, _, rfl, _, _, rfl, rfl, .inl ⟨by omega, by omega⟩, _, rfl, _, _, rfl, rfl, ⟨by decide, by decide⟩, _, _, rfl, rfl, .inr ⟨by decide, by decide⟩, _, _, rfl, rfl, _, rfl, _, _, rfl, rfl, .inr ⟨by decide, by decide⟩, _, _, rfl, rfl, .inl ⟨_, rfl, ?_⟩⟩
    refine ⟨_, _, rfl, rfl, show (0 : Int) < _ by decide, ?_⟩
    refine ⟨_, rfl, _, rfl, _, _, rfl, rfl, .inl ⟨by omega, by omega⟩, _, _, rfl, rfl, ⟨by decide, by decide⟩, _, rfl, _, _, rfl, rfl, .inl ⟨_, rfl, _, _, rfl, rfl, show (0 : Int) < _ by decide, _, _, rfl, rfl, ⟨by decide, by decide⟩, ?_⟩⟩
    exact q _ (Int.ediv_nonneg (Int.emod_nonneg _ (by decide)) (by decide))
/-! the hand -/
structure HandB (ns : List Int) (i x t : Int) : Prop where
  len : ns.length ≤ 63
  lo : 0 ≤ i
  hi : i ≤ ns.length
  x0 : 0 ≤ x
  t0 : 0 ≤ t
  pos : ∀ n ∈ ns, 0 ≤ n
def HandO (c : Addr) (i x t : Int) : HO := .lst [.ref c, .int i, .int x, .int t]
def Hand (H : Hp) (a c : Addr) : Prop := ∃ ns i x t, H a = some (HandO c i x t) ∧ H c = some (.lst (ns.map V.int)) ∧ HandB ns i x t
/-- H' is H but for the hand at a, which is a hand still -/
structure Drawn (H H' : Hp) (a c : Addr) : Prop where
  but : ∀ b, b ≠ a → H' b = H b
  hand : Hand H' a c
def spDraw : Sp := fun vs H Q _ => ∃ (a c : Addr) (many : Int), vs = [.ref a, .int many] ∧ Hand H a c ∧ 0 < many ∧ many < 2 ^ 200 ∧ ∀ H' r, Drawn H H' a c → 0 ≤ r → r < many → Q (.int r) H'
theorem hand_ne {H : Hp} {a c : Addr} {ns : List Int} {i x t : Int} (h1 : H a = some (HandO c i x t)) (h2 : H c = some (.lst (ns.map V.int))) : c ≠ a := by
  intro e
  subst e
  rw [h1] at h2
  unfold HandO at h2
  injection h2 with h2
  injection h2 with h2
  cases ns with
  | nil => cases h2
  | cons n r => rw [List.map_cons] at h2; injection h2 with h3 h4; cases h3
theorem drawn_of {H H0 : Hp} {a c : Addr} {ns : List Int} {i x t : Int} (hb : ∀ b, b ≠ a → H0 b = H b) (hc : c ≠ a) (h2 : H c = some (.lst (ns.map V.int))) (B : HandB ns i x t) : Drawn H (upd H0 a (HandO c i x t)) a c :=
  ⟨fun b h => by rw [upd_ne h]; exact hb b h, ⟨ns, i, x, t, upd_same, by rw [upd_ne hc, hb c hc]; exact h2, B⟩⟩
theorem wide200 {many : Int} (h0 : 0 < many) (h1 : many < 2 ^ 200) (i : Int) : CDivW i many := wide_div (b := 200) h0 (by omega) (by decide) (by decide)
theorem ok_draw {f fM : Addr} {fd fdM : FuncData} (F : Fun K "_law_draw" "_law_draw" s__law_draw f fd) (FM : Fun K "_law_mix" "_law_mix" s__law_mix fM fdM) (g_law_mix : mg "_law_mix" = some (.ref fM)) (b_law_mix : Binds K fdM ["_law_number", "_law_turn"] [])
    (m_int : mg "int" = none) (m_len : mg "len" = none) : FnOk P w K mg base CX0 2 f fd ["_law_hand_here", "_law_many"] spDraw := by
  have G_law_mix : FnOk P w K mg base CX0 1 fM fdM ["_law_number", "_law_turn"] spMix := ok_mix FM m_int
  have k_law_mix := FM.kp
  refine F.ok sc__law_draw (fun vs H Q E h => ?_) (fun cdv A outer s H vs Q E hr h => ?_)
  · obtain ⟨a, c, n, rfl, _⟩ := h
    rfl
  · obtain ⟨a, c, many, rfl, ⟨ns, i, x, t, h1, h2, B⟩, hm0, hm1, q⟩ := h
    have hr_law_mix := hr
    have hc := hand_ne h1 h2
    refine ⟨_, (Evl.pss_cut (ps_if (pw_and (pt_cmpR op_eq (pe_ix ix_list (pv 0) pe_int (fun _ _ => rfl)) pe_int (nomark _)) (pw_and1 (pt_cmpR op_lt (pe_ix ix_list (pv 0) pe_int (fun _ _ => rfl)) (pe_callB call_len_seq (by rfl) m_len boot_len (pa_cons (pe_ix ix_list (pv 0) pe_int (fun _ _ => rfl)) pa_nil)) (nomark _)))).pt
  (pss_cons (ps_set (i := 2) sc__law_draw.nd rfl (by first | exact Or.inl rfl | exact Or.inr rfl) (pe_ix ix_list (pe_ix ix_list (pv 0) pe_int (fun _ _ => rfl)) (pe_ix ix_list (pv 0) pe_int (fun _ _ => rfl)) (fun _ _ => rfl)))
 (pss_cons (ps_asg (pe_op op_add (pe_ix ix_list (pv 0) pe_int (fun _ _ => rfl)) pe_int) (pg_sub (pv 0) pe_int set_list))
 (pss_cons (ps_if (pt_cmpR op_lt (pv 2) (pe_op op_pow pe_int pe_int) (nomark _))
  (pss_one (ps_ret (pe_op op_mod (pe_callTy call_int1 (by rfl) m_int boot_int (pa_cons (pe_call G_law_mix hr_law_mix (by rfl) g_law_mix k_law_mix b_law_mix .nil pass0 (pa_cons (pe_op op_mod (pe_callTy call_int1 (by rfl) m_int boot_int (pa_cons (pv 2) pa_nil)) pe_int) (pa_cons (pe_ix ix_list (pv 0) pe_int (fun _ _ => rfl)) pa_nil))) pa_nil)) (pv 1))))
  pss_nil)
 (pss_one (ps_asg (pv 2) (pg_sub (pv 0) pe_int set_list))))))
  pss_nil)
 (pss_cons (ps_if (pt_cmpR op_gt (pe_ix ix_list (pv 0) pe_int (fun _ _ => rfl)) pe_int (nomark _))
  (pss_cons (ps_set (i := 3) sc__law_draw.nd rfl (by first | exact Or.inl rfl | exact Or.inr rfl) (pe_ix ix_list (pv 0) pe_int (fun _ _ => rfl)))
 (pss_cons (ps_asg (pe_op op_fdivW (pv 3) (pv 1)) (pg_sub (pv 0) pe_int set_list))
 (pss_one (ps_ret (pe_op op_mod (pe_callTy call_int1 (by rfl) m_int boot_int (pa_cons (pv 3) pa_nil)) (pv 1))))))
  pss_nil)
 (pss_cons (ps_asg (pe_op op_mod (pe_callTy call_int1 (by rfl) m_int boot_int (pa_cons (pe_op op_add (pe_ix ix_list (pv 0) pe_int (fun _ _ => rfl)) pe_int) pa_nil)) pe_int) (pg_sub (pv 0) pe_int set_list))
 (pss_one (ps_ret (pe_op op_mod (pe_callTy call_int1 (by rfl) m_int boot_int (pa_cons (pe_call G_law_mix hr_law_mix (by rfl) g_law_mix k_law_mix b_law_mix .nil pass0 (pa_cons (pe_ix ix_list (pv 0) pe_int (fun _ _ => rfl)) (pa_cons (pe_ix ix_list (pv 0) pe_int (fun _ _ => rfl)) pa_nil))) pa_nil)) (pv 1))))))), ?_⟩
    have hS : SqL K H a [.ref c, .int i, .int x, .int t] := .inl (.inl h1)
    have hC : SqL K H c (ns.map V.int) := .inl (.inl h2)
    have last : ∀ (i' : Int) (σ : L2.St) , 0 ≤ i' → i' ≤ ns.length → True := fun _ _ _ _ => trivial
    refine ⟨fun σ' H' => ∃ i' x' y2, σ' = [some (.ref a), some (.int many), y2, none] ∧ (∀ b, b ≠ a → H' b = H b) ∧ H' a = some (HandO c i' x' t) ∧ HandB ns i' x' t, ?_, fun σ' H' hM => ?_⟩
    refine ⟨.ref a, rfl, a, _, _, _, rfl, rfl, hS, rfl, rfl, _, rfl, ite2 (fun e => ?_) (fun e => ?_)⟩
    · have ex : x = 0 := V.int.inj (of_decide_eq_true e)
      subst ex
      refine ⟨.ref a, rfl, a, _, _, _, rfl, rfl, hS, rfl, .ref a, rfl, a, _, _, _, rfl, rfl, hS, rfl, c, _, rfl, .inl hC, _, _, rfl, rfl, _, rfl, ite2 (fun e => ?_) (fun e => ?_)⟩
      · have hi : i < ((ns.map V.int).length : Int) := of_decide_eq_true e
        rw [List.length_map] at hi
        have hlo := B.lo
        obtain ⟨j, rfl⟩ : ∃ j : Nat, i = (j : Int) := ⟨i.toNat, by omega⟩
        have hj : j < ns.length := by omega
        have gj : (ns.map V.int)[j]? = some (.int ns[j]) := by
          rw [List.getElem?_map, List.getElem?_eq_getElem hj]
          rfl
        have p0 : 0 ≤ ns[j] := B.pos _ (List.getElem_mem hj)
        refine ⟨.ref a, rfl, a, _, _, _, rfl, rfl, hS, rfl, .ref a, rfl, a, _, _, _, rfl, rfl, hS, rfl, c, _, _, _, rfl, rfl, hC, atI_nat gj, ?_⟩
        refine ⟨.ref a, rfl, a, _, _, _, rfl, rfl, hS, rfl, _, _, rfl, rfl, .ref a, rfl, a, _, _, _, rfl, rfl, h1, rfl, ?_⟩
        have hS2 : SqL K (upd H a (HandO c (j + 1) 0 t)) a [.ref c, .int (j + 1), .int 0, .int t] := .inl (.inl upd_same)
        refine ⟨_, rfl, _, _, rfl, rfl, ⟨by decide, by decide, by decide⟩, _, _, rfl, rfl, _, rfl, ite2 (fun e => ?_) (fun e => ?_)⟩
        · refine ⟨_, rfl, .inl ⟨_, rfl, _, _, rfl, rfl, show (0 : Int) < _ by decide, .ref a, rfl, a, _, _, _, rfl, rfl, hS2, rfl, _, _, rfl, fun r r0 => .inl ⟨_, rfl, _, rfl, _, _, rfl, rfl, hm0, ?_⟩⟩⟩
          exact q _ _ (drawn_of (H0 := H) (fun _ _ => rfl) hc h2 ⟨B.len, by omega, by omega, by decide, B.t0, B.pos⟩) (Int.emod_nonneg _ (by omega)) (Int.emod_lt_of_pos _ hm0)
        · refine ⟨_, rfl, .ref a, rfl, a, _, _, _, rfl, rfl, upd_same, rfl, ?_⟩
          refine ⟨_, _, _, rfl, fun b hb => by rw [upd_ne hb, upd_ne hb], upd_same, ⟨B.len, by omega, by omega, p0, B.t0, B.pos⟩⟩
      · exact ⟨i, 0, none, rfl, fun _ _ => rfl, h1, B⟩
    · exact ⟨i, x, none, rfl, fun _ _ => rfl, h1, B⟩
    · obtain ⟨i', x', y2, rfl, hb, h1', B'⟩ := hM
      have h2' : H' c = some (.lst (ns.map V.int)) := by rw [hb c hc]; exact h2
      have hS' : SqL K H' a [.ref c, .int i', .int x', .int t] := .inl (.inl h1')
      refine ⟨.ref a, rfl, a, _, _, _, rfl, rfl, hS', rfl, _, _, rfl, rfl, _, rfl, ite2 (fun e => ?_) (fun e => ?_)⟩
      · refine ⟨.ref a, rfl, a, _, _, _, rfl, rfl, hS', rfl, _, rfl, _, rfl, _, _, rfl, rfl, wide200 hm0 hm1 _, .ref a, rfl, a, _, _, _, rfl, rfl, h1', rfl, ?_⟩
        refine ⟨_, rfl, .inl ⟨_, rfl, _, rfl, _, _, rfl, rfl, hm0, ?_⟩⟩
        exact q _ _ (drawn_of (H0 := H') hb hc h2 ⟨B.len, B'.lo, B'.hi, Int.ediv_nonneg B'.x0 (by omega), B.t0, B.pos⟩) (Int.emod_nonneg _ (by omega)) (Int.emod_lt_of_pos _ hm0)
      · refine ⟨.ref a, rfl, a, _, _, _, rfl, rfl, hS', rfl, _, _, rfl, rfl, .inl ⟨_, rfl, _, _, rfl, rfl, show (0 : Int) < _ by decide, .ref a, rfl, a, _, _, _, rfl, rfl, h1', rfl, ?_⟩⟩
        have hS3 : SqL K (upd H' a (HandO c i' x' ((t + 1) % 2147483629))) a [.ref c, .int i', .int x', .int ((t + 1) % 2147483629)] := .inl (.inl upd_same)
        refine ⟨.ref a, rfl, a, _, _, _, rfl, rfl, hS3, rfl, .ref a, rfl, a, _, _, _, rfl, rfl, hS3, rfl, _, _, rfl, fun r r0 => .inl ⟨_, rfl, _, rfl, _, _, rfl, rfl, hm0, ?_⟩⟩
        exact q _ _ (drawn_of (H0 := H') hb hc h2 ⟨B.len, B'.lo, B'.hi, B'.x0, Int.emod_nonneg _ (by decide), B.pos⟩) (Int.emod_nonneg _ (by omega)) (Int.emod_lt_of_pos _ hm0)
theorem Hand.same {H H' : Hp} {a c : Addr} (h : Hand H a c) (e : Same H H') : Hand H' a c := by
  obtain ⟨ns, i, x, t, h1, h2, B⟩ := h
  exact ⟨ns, i, x, t, e _ _ h1, e _ _ h2, B⟩
theorem Hand.upd {H : Hp} {a c l : Addr} {o : HO} (h : Hand H a c) (h1 : l ≠ a) (h2 : l ≠ c) : Hand (upd H l o) a c := by
  obtain ⟨ns, i, x, t, e1, e2, B⟩ := h
  exact ⟨ns, i, x, t, by rw [upd_ne h1.symm]; exact e1, by rw [upd_ne h2.symm]; exact e2, B⟩
theorem Hand.ne {H : Hp} {a c l : Addr} (h : Hand H a c) (n : H l = none) : l ≠ a ∧ l ≠ c := by
  obtain ⟨ns, i, x, t, e1, e2, B⟩ := h
  exact ⟨(ne_of_none e1 n).symm, (ne_of_none e2 n).symm⟩
/-- an item of a list -/
def spPick : Sp := fun vs H Q _ => ∃ (a c l : Addr) (xs : List V), vs = [.ref a, .ref l] ∧ Hand H a c ∧ l ≠ a ∧ H l = some (.lst xs) ∧ 0 < xs.length ∧ xs.length ≤ 1000 ∧ ∀ H' (j : Nat) v, Drawn H H' a c → xs[j]? = some v → Q v H'
theorem ok_pick {f fD : Addr} {fd fdD : FuncData} (F : Fun K "_law_pick" "_law_pick" s__law_pick f fd) (k_law_draw : PySem.W.keepIn K (.ref fD) = true) (G_law_draw : FnOk P w K mg base CX0 2 fD fdD ["_law_hand_here", "_law_many"] spDraw) (g_law_draw : mg "_law_draw" = some (.ref fD)) (b_law_draw : Binds K fdD ["_law_hand_here", "_law_many"] [])
    (m_len : mg "len" = none) : FnOk P w K mg base CX0 3 f fd ["_law_hand_here", "_law_things"] spPick := by
  refine F.ok sc__law_pick (fun vs H Q E h => ?_) (fun cdv A outer s H vs Q E hr h => ?_)
  · obtain ⟨a, c, l, xs, rfl, _⟩ := h
    rfl
  · obtain ⟨a, c, l, xs, rfl, hh, hla, hl, h0, h1, q⟩ := h
    have hr_law_draw := hr
    refine ⟨_, (pss_one (ps_ret (pe_ix ix_list (pv 1) (pe_call G_law_draw hr_law_draw (by rfl) g_law_draw k_law_draw b_law_draw .nil pass0 (pa_cons (pv 0) (pa_cons (pe_callB call_len_seq (by rfl) m_len boot_len (pa_cons (pv 1) pa_nil)) pa_nil))) (fun _ _ => rfl)))), ?_⟩
    have hm : ((xs.length : Nat) : Int) < 2 ^ 200 := Int.lt_of_le_of_lt (show ((xs.length : Nat) : Int) ≤ 1000 by omega) (by decide)
    refine ⟨.ref l, rfl, .ref a, rfl, .ref l, rfl, l, _, rfl, .inl (.inl (.inl hl)), a, c, _, rfl, hh, by omega, hm, fun H' r d r0 r1 => ?_⟩
    obtain ⟨j, rfl⟩ : ∃ j : Nat, r = (j : Int) := ⟨r.toNat, by omega⟩
    have hj : j < xs.length := by omega
    have e : xs[j]? = some xs[j] := List.getElem?_eq_getElem hj
    have hl' : H' l = some (.lst xs) := by rw [d.but l hla]; exact hl
    exact ⟨l, xs, _, _, rfl, rfl, .inl (.inl hl'), atI_nat e, q H' j _ d e⟩
/-- the hand of a script -/
def spHand (K : PySem.W.Frag) : Sp := fun vs H Q _ => ∃ (s : Addr) (ns : List Int), vs = [.ref s] ∧ SqL K H s (ns.map V.int) ∧ ns.length ≤ 63 ∧ ∀ H' a c, Same H H' → H a = none → H c = none → Hand H' a c → Q (.ref a) H'
theorem ok_hand {f : Addr} {fd : FuncData} (F : Fun K "_law_hand" "_law_hand" s__law_hand f fd) (m_int : mg "int" = none) (m_abs : mg "abs" = none) (m_enumerate : mg "enumerate" = none) : FnOk P w K mg base CX0 1 f fd ["_law_script"] (spHand K) := by
  refine F.ok sc__law_hand (fun vs H Q E h => ?_) (fun cdv A outer s H vs Q E hr h => ?_)
  · obtain ⟨a, ns, rfl, _⟩ := h
    rfl
  · obtain ⟨a, ns, rfl, hS, hlen, q⟩ := h
    refine ⟨_, (pss_cons (ps_set (i := 1) sc__law_hand.nd rfl (by first | exact Or.inl rfl | exact Or.inr rfl) pe_int)
 (pss_cons (ps_for PassesOwn.never rfl (pi_enum (by rfl) m_enumerate (pa_cons (pv 0) pa_nil)) (pg_tup rfl (pgs_cons (pg_name (i := 2) sc__law_hand.nd rfl (by first | exact Or.inl rfl | exact Or.inr rfl)) (pgs_cons (pg_name (i := 3) sc__law_hand.nd rfl (by first | exact Or.inl rfl | exact Or.inr rfl)) pgs_nil)))
  (pss_one (ps_set (i := 1) sc__law_hand.nd rfl (by first | exact Or.inl rfl | exact Or.inr rfl) (pe_op op_mod (pe_callTy call_int1 (by rfl) m_int boot_int (pa_cons (pe_op op_add (pe_op op_mul (pv 1) pe_int) (pe_op op_mul (pe_callTy call_int1 (by rfl) m_int boot_int (pa_cons (pv 3) pa_nil)) (pe_op op_add (pv 2) pe_int))) pa_nil)) pe_int))))
 (pss_one (ps_ret (pe_lst (pa_cons (pe_lc (own := [("_law_cell", 3)]) (g := gName 3) (tt := tYes) rfl sc__law_hand.nd (pi_list (pv 0)) (blkOk_by (own := [("_law_cell", 3)]) (N := N__law_hand) (sc := defScope s__law_hand) (by decide +kernel)) (fun _ _ _ _ _ => (pg_name (i := 3) sc__law_hand.nd rfl (by first | exact Or.inl rfl | exact Or.inr rfl))) (fun _ _ _ _ _ => pts_nil) (fun _ _ _ _ _ => (pe_callB call_abs (by rfl) m_abs boot_abs (pa_cons (pe_callTy call_int1 (by rfl) m_int boot_int (pa_cons (pv 3) pa_nil)) pa_nil)))) (pa_cons pe_int (pa_cons pe_int (pa_cons (pv 1) pa_nil))))))))), ?_⟩
    have hlen' : (ns.map V.int).length = ns.length := List.length_map ..
    refine ⟨.ref a, rfl, a, _, rfl, hS, for_it (walk_enum (xs := ns.map V.int)) (fun i σ H' => ∃ tot y2 y3, σ = [some (.ref a), some (.int tot), y2, y3] ∧ 0 ≤ tot ∧ tot < 2147483629 ∧ Same H H') ⟨0, none, none, rfl, by decide, by decide, Same.refl H⟩ (fun i σ H' _ p => ?_) (fun i v σ H' H'' hi p y => ?_) (fun σ H1 p => ?_)⟩
    · obtain ⟨tot, y2, y3, rfl, _, _, e⟩ := p
      exact e.seq hS
    · obtain ⟨tot, y2, y3, rfl, t0, t1, e⟩ := p
      obtain ⟨T, x, y, rfl, nT, rfl, ex, ey⟩ := y
      rw [hlen'] at hi
      obtain rfl : .int (i : Nat) = x := Option.some.inj ex
      obtain ⟨n, rfl⟩ : ∃ n : Int, y = .int n := by
        have ey : (ns.map V.int)[i]? = some y := ey
        rw [List.getElem?_map, List.getElem?_eq_getElem hi] at ey
        exact ⟨_, (Option.some.inj ey).symm⟩
      refine ⟨T, _, rfl, .inl (.inl upd_same), rfl, _, _, rfl, _, _, rfl, rfl, ?_⟩
      refine ⟨_, rfl, _, _, rfl, rfl, .inr ⟨by decide, by decide⟩, _, rfl, .inl ⟨_, rfl, _, rfl, _, _, rfl, rfl, _, _, rfl, rfl, .inr ⟨by omega, by omega⟩, _, _, rfl, rfl, .inl ⟨_, rfl, _, _, rfl, rfl, show (0 : Int) < _ by decide, ?_⟩⟩⟩
      refine ⟨_, _, _, rfl, Int.emod_nonneg _ (by decide), Int.emod_lt_of_pos _ (by decide), e.trans fun b z hz => ?_⟩
      rw [upd_ne (ne_of_none hz nT)]
      exact hz
    · obtain ⟨tot, y2, y3, rfl, t0, t1, e⟩ := p
      have hS1 : SqL K H1 a (ns.map V.int) := e.seq hS
      refine ⟨.ref a, rfl, a, rfl, ⟨_, hS1⟩, fun D hD => lc_list (xs := ns.map V.int) (fun i H2 => Same H1 H2 ∧ H2 D = some (.lst ((ns.take i).map fun n => .int (if n < 0 then -n else n)))) ⟨fun b z hz => ?_, upd_same⟩ (fun i H2 _ p => p.1.seq hS1) (fun i x H2 hx p => ?_) (fun H2 p => ?_)⟩
      · rw [upd_ne (ne_of_none hz hD)]
        exact hz
      · obtain ⟨e2, hd⟩ := p
        rw [List.getElem?_map] at hx
        obtain ⟨n, hn, rfl⟩ := Option.map_eq_some_iff.mp hx
        refine ⟨rfl, ?_⟩
        refine ⟨_, rfl, .inl ⟨_, rfl, _, rfl, _, hd, ?_, fun b z hz => ?_, ?_⟩⟩
        · rw [List.length_map, List.length_take]
          exact Nat.lt_of_le_of_lt (Nat.min_le_right _ _) (small1000 (by omega))
        · rw [upd_ne (ne_of_none hz hD)]
          exact e2 _ _ hz
        · rw [upd_same, List.take_add_one, hn, List.map_append]
          rfl
      · obtain ⟨e2, hd⟩ := p
        rw [hlen', List.take_length] at hd
        refine ⟨_, rfl, by show 4 ≤ sizeLine; decide, fun p hp => ?_⟩
        have npD : D ≠ p := ne_of_none hd hp
        refine q _ p D ?_ ((e.trans e2).free hp) (e.free hD) ⟨ns.map fun n => if n < 0 then -n else n, 0, 0, tot, upd_same, ?_, ?_⟩
        · exact fun b z hz => by
            rw [upd_ne (ne_of_none ((e.trans e2) _ _ hz) hp)]
            exact (e.trans e2) _ _ hz
        · rw [upd_ne npD, hd, List.map_map]
          rfl
        · refine ⟨by rw [List.length_map]; exact hlen, by decide, by omega, by decide, t0, fun n hn => ?_⟩
          obtain ⟨m, _, rfl⟩ := List.mem_map.mp hn
          split <;> omega
end
end K7
end
/-! ## P2 -/
section
open PySem PySem.Spec PyProof.Rows L2
namespace K7
abbrev N__law_lots : List Str := ["_law_cells", "_law_found", "_law_last", "_law_turn", "_law_grown", "_law_lot", "_law_cell"]
abbrev s__law_lots : Stmt := topS 59
theorem sc__law_lots : FnScope ["_law_cells", "_law_found", "_law_last", "_law_turn", "_law_grown", "_law_lot", "_law_cell"] ["_law_cells"] (defScope s__law_lots) := ⟨rfl, rfl, rfl, by decide +kernel, rfl, by decide +kernel, by decide +kernel⟩

theorem same_new {H H' : Hp} {p : Addr} {o : HO} (e : Same H H') (h : H' p = none) : Same H (upd H' p o) := fun b z hz => by
  have h2 := e _ _ hz
  rw [upd_ne (ne_of_none h2 h)]
  exact h2
def But (x : Addr) (H H' : Hp) : Prop := ∀ b o, b ≠ x → H b = some o → H' b = some o
/-! ### all lots of the cells -/
def grow1 (cells lot : List Nat) : List (List Nat) := (cells.filter fun c => lot.isEmpty || decide (lot.getLastD 0 < c)).map fun c => lot ++ [c]
def level (cells : List Nat) : Nat → List (List Nat)
  | 0 => [[]]
  | k + 1 => (level cells k).flatMap (grow1 cells)
def lotsTo (cells : List Nat) : Nat → List (List Nat)
  | 0 => [[]]
  | k + 1 => lotsTo cells k ++ level cells (k + 1)
theorem level_len : ∀ n : Fin 6, ∀ k : Fin 7, (level (List.range n.val) k.val).length ≤ 10 ∧ (lotsTo (List.range n.val) k.val).length ≤ 32 := by decide +kernel
theorem level_lot : ∀ n : Fin 6, ∀ k : Fin 7, (level (List.range n.val) k.val).all (fun l => decide (l.length ≤ 990)) = true := by decide +kernel
theorem lot_len {n t i : Nat} {lot : List Nat} (hn : n ≤ 5) (ht : t ≤ 6) (h : (level (List.range n) t)[i]? = some lot) : lot.length ≤ 990 := by
  have := List.all_eq_true.mp (level_lot ⟨n, by omega⟩ ⟨t, by omega⟩) lot (List.mem_of_getElem? h)
  exact of_decide_eq_true this
/-- tuples of cells at these places -/
inductive TAt (H : Hp) : List Addr → List (List Nat) → Prop
  | nil : TAt H [] []
  | cons {t : Addr} {l : List Nat} {ts : List Addr} {ls : List (List Nat)} (h : H t = some (.tup (l.map fun c => .int (c : Nat)))) (r : TAt H ts ls) : TAt H (t :: ts) (l :: ls)
theorem TAt.same {H H' : Hp} (e : Same H H') : ∀ {ts ls}, TAt H ts ls → TAt H' ts ls
  | _, _, .nil => .nil
  | _, _, .cons h r => .cons (e _ _ h) (r.same e)
theorem TAt.mono {H H' : Hp} (e : ∀ b xs, H b = some (.tup xs) → H' b = some (.tup xs)) : ∀ {ts ls}, TAt H ts ls → TAt H' ts ls
  | _, _, .nil => .nil
  | _, _, .cons h r => .cons (e _ _ h) (r.mono e)
theorem TAt.append {H : Hp} : ∀ {ts ls us ms}, TAt H ts ls → TAt H us ms → TAt H (ts ++ us) (ls ++ ms)
  | _, _, _, _, .nil, r => r
  | _, _, _, _, .cons h q, r => .cons h (q.append r)
theorem TAt.len {H : Hp} : ∀ {ts ls}, TAt H ts ls → ts.length = ls.length
  | _, _, .nil => rfl
  | _, _, .cons _ r => congrArg Nat.succ r.len
theorem TAt.get {H : Hp} : ∀ {ts ls} {i : Nat} {t : Addr}, TAt H ts ls → ts[i]? = some t → ∃ l, ls[i]? = some l ∧ H t = some (.tup (l.map fun c => .int (c : Nat)))
  | _, _, 0, _, .cons h r, e => by
    cases e
    exact ⟨_, rfl, h⟩
  | _, _, i + 1, _, .cons h r, e => r.get (i := i) e
def ints_ (l : List Nat) : List V := l.map fun c => .int (c : Nat)
def intD (l : List Nat) : PyData := .tuple (l.map fun c => .int (c : Nat))
theorem dp_ints {K : PySem.W.Frag} {H : Hp} : ∀ l : List Nat, DpAll K H (l.map fun c => .int (c : Nat)) (l.map fun c => PyData.int (c : Nat))
  | [] => .nil
  | x :: l => .cons (.int _) (dp_ints l)
theorem shaped_ints (l : List Nat) : SeqAt.shaped (intD l) = true := by
  have h1 : ∀ l : List Nat, PyData.canLayAll0 (l.map fun c => PyData.int (c : Nat)) = true ∧ PyData.depthAll (l.map fun c => PyData.int (c : Nat)) = 0 := fun l => by
    induction l with
    | nil => exact ⟨by simp [PyData.canLayAll0], by simp [PyData.depthAll]⟩
    | cons x r ih => exact ⟨by simp [PyData.canLayAll0, PyData.canLay0, ih.1], by simp [PyData.depthAll, PyData.depth, ih.2]⟩
  show ((PyData.canLay0 (intD l)) && decide (PyData.depth (intD l) ≤ 64)) = true
  simp [intD, PyData.canLay0, PyData.depth, (h1 l).1, (h1 l).2]
theorem eqv_empty (l : List Nat) : PyData.eqv (intD l) (.tuple []) = l.isEmpty := by
  cases l with
  | nil => simp [intD, PyData.eqv, PyData.eqvAll]
  | cons x r => simp [intD, PyData.eqv, PyData.eqvAll]
theorem last_get : ∀ (r : List Nat) (x : Nat), (x :: r)[r.length]? = some (r.getLastD x)
  | [], x => rfl
  | y :: r, x => by
    rw [List.getLastD_cons]
    exact last_get r y
theorem last_at {l : List Nat} (h : l.isEmpty = false) : atI (ints_ l) (-1) = some (.int (l.getLastD 0 : Nat)) := by
  cases l with
  | nil => cases h
  | cons x r =>
    have hl : (ints_ (x :: r)).length = r.length + 1 := by unfold ints_; rw [List.length_map]; rfl
    unfold atI
    rw [hl]
    have e : ixN (r.length + 1) (-1) = some r.length := by
      unfold ixN
      simp
      omega
    rw [e]
    show (ints_ (x :: r))[r.length]? = _
    unfold ints_
    rw [List.getElem?_map]
    have e2 : (x :: r)[r.length]? = some ((x :: r).getLastD 0) := by
      rw [List.getLastD_cons]
      exact last_get r x
    rw [e2]
    rfl
section
variable {P : Program} {w : World} {K : PySem.W.Frag} {mg : Str → Option Value} {base : Heap}
def spLots : Sp := fun vs H Q _ => ∃ (r : Addr) (n : Nat), vs = [.ref r] ∧ n ≤ 5 ∧ H r = some (.lst (ints_ (List.range n))) ∧ ∀ H' q ts, Same H H' → H q = none → H' q = some (.lst (ts.map V.ref)) → TAt H' ts (lotsTo (List.range n) n) → Q (.ref q) H'
theorem ok_lots {f : Addr} {fd : FuncData} (F : Fun K "_law_lots" "_law_lots" s__law_lots f fd) (m_range : mg "range" = none) (m_len : mg "len" = none) (m_list : mg "list" = none) : FnOk P w K mg base CX0 1 f fd ["_law_cells"] spLots := by
  refine F.ok sc__law_lots (fun vs H Q E h => ?_) (fun cdv A outer s H vs Q E hr h => ?_)
  · obtain ⟨r, n, rfl, _⟩ := h
    rfl
  · obtain ⟨r, n, rfl, hn, hr0, q⟩ := h
    refine ⟨_, (pss_cons (ps_par (by rfl) sc__law_lots.nd (i := 1) (j := 2) rfl rfl (by decide) rfl rfl (pa_cons (pe_lst (pa_cons (pe_tup pa_nil) pa_nil)) (pa_cons (pe_lst (pa_cons (pe_tup pa_nil) pa_nil)) pa_nil)) (by rfl))
 (pss_cons (ps_for PassesOwn.never rfl (pi_range1 rfl m_range (pa_cons (pe_callB call_len_seq (by rfl) m_len boot_len (pa_cons (pv 0) pa_nil)) pa_nil)) (pg_name (i := 3) sc__law_lots.nd rfl (by first | exact Or.inl rfl | exact Or.inr rfl))
  (pss_cons (ps_set (i := 4) sc__law_lots.nd rfl (by first | exact Or.inl rfl | exact Or.inr rfl) (pe_lst pa_nil))
 (pss_cons (ps_for PassesOwn.never rfl (pi_list (pv 2)) (pg_name (i := 5) sc__law_lots.nd rfl (by first | exact Or.inl rfl | exact Or.inr rfl))
  (pss_one (ps_for PassesOwn.never rfl (pi_list (pv 0)) (pg_name (i := 6) sc__law_lots.nd rfl (by first | exact Or.inl rfl | exact Or.inr rfl))
  (pss_one (ps_if (pw_or (pt_cmpR (op_eqD hr.units) (pv 5) (pe_tup pa_nil) (nomark _)) (pw_or1 (pt_cmpR op_gt (pv 6) (pe_ix ix_tup (pv 5) (pe_un un_neg pe_int) (fun _ _ => rfl)) (nomark _)))).pt
  (pss_one (ps_expr (pe_bm PySem.F.plainAttrs_list PySem.F.slot_list_append PySem.F.type_list_append mt_append (pv 4) (pa_cons (pe_op op_catA (pv 5) (pe_tup (pa_cons (pv 6) pa_nil))) pa_nil))))
  pss_nil)))))
 (pss_cons (ps_expr (pe_bm PySem.F.plainAttrs_list PySem.F.slot_list_extend PySem.F.type_list_extend mt_extend (pv 1) (pa_cons (pv 4) pa_nil)))
 (pss_one (ps_set (i := 2) sc__law_lots.nd rfl (by first | exact Or.inl rfl | exact Or.inr rfl) (pe_callTy call_list_of (by rfl) m_list boot_list (pa_cons (pv 4) pa_nil))))))))
 (pss_one (ps_ret (pv 1))))), ?_⟩
    have hlen : (ints_ (List.range n)).length = n := by unfold ints_; rw [List.length_map, List.length_range]
    refine ⟨by show 0 ≤ sizeLine; decide, fun e0 ne0 => ⟨by show 1 ≤ sizeLine; decide, fun F0 nF0 => ⟨by show 0 ≤ sizeLine; decide, fun e1 ne1 => ⟨by show 1 ≤ sizeLine; decide, fun L0 nL0 => ?_⟩⟩⟩⟩
    have s1 : Same H (upd H e0 (.tup [])) := same_new (Same.refl H) ne0
    have s2 : Same (upd H e0 (.tup [])) (upd (upd H e0 (.tup [])) F0 (.lst [.ref e0])) := same_new (Same.refl _) nF0
    generalize hA : upd (upd H e0 (.tup [])) F0 (.lst [.ref e0]) = HA at s2 ne1 nL0 ⊢
    have hF : HA F0 = some (.lst [.ref e0]) := by rw [← hA]; exact upd_same
    have he0 : HA e0 = some (.tup []) := s2 _ _ upd_same
    have s3 : Same HA (upd HA e1 (.tup [])) := same_new (Same.refl _) ne1
    have s4 : Same (upd HA e1 (.tup [])) (upd (upd HA e1 (.tup [])) L0 (.lst [.ref e1])) := same_new (Same.refl _) nL0
    have hL : upd (upd HA e1 (.tup [])) L0 (.lst [.ref e1]) L0 = some (.lst [.ref e1]) := upd_same
    have he1 := s4 _ _ (show upd HA e1 (.tup []) e1 = some (.tup []) from upd_same)
    have hFL : F0 ≠ L0 := ne_of_none (s3 _ _ hF) nL0
    have hF2 := s4 _ _ (s3 _ _ hF)
    have he02 := s4 _ _ (s3 _ _ he0)
    have sB := s1.trans (s2.trans (s3.trans s4))
    generalize upd (upd HA e1 (.tup [])) L0 (.lst [.ref e1]) = HB at hL he1 hF2 he02 sB ⊢
    refine ⟨_, _, rfl, ?_⟩
    have hFn : H F0 = none := s1.free nF0
    refine ⟨_, rfl, r, _, rfl, .inl (.inl (.inl (sB _ _ hr0))), _, rfl, by omega, by omega, for_range (fun t σ H' => t ≤ n ∧ ∃ La fs las y3 y4 y5 y6, σ = [some (.ref r), some (.ref F0), some (.ref La), y3, y4, y5, y6] ∧ Same H H' ∧ H' F0 = some (.lst (fs.map V.ref)) ∧ H' La = some (.lst (las.map V.ref)) ∧ La ≠ F0 ∧ TAt H' fs (lotsTo (List.range n) t) ∧ TAt H' las (level (List.range n) t)) ⟨Nat.zero_le _, L0, [e0], [e1], none, none, none, none, rfl, sB, hF2, hL, hFL.symm, .cons he02 .nil, .cons he1 .nil⟩ (fun t σ H' ht pv => ?_) (fun σ H' pv => ?_)⟩
    · obtain ⟨_, La, fs, las, y3, y4, y5, y6, rfl, e, hF', hLa, nLF, tF, tL⟩ := pv
      rw [hlen] at ht
      have ht : t < n := by simpa using ht
      refine ⟨by show 0 ≤ sizeLine; decide, fun G nG => ?_⟩
      have gF : F0 ≠ G := ne_of_none hF' nG
      have gL : La ≠ G := ne_of_none hLa nG
      have eG : Same H' (upd H' G (.lst [])) := same_new (Same.refl H') nG
      obtain ⟨lv, lt5⟩ := level_len ⟨n, by omega⟩ ⟨t, by omega⟩
      obtain ⟨lv2, lt6⟩ := level_len ⟨n, by omega⟩ ⟨t + 1, by omega⟩
      have lv : (level (List.range n) t).length ≤ 10 := lv
      refine ⟨_, rfl, La, rfl, ⟨_, .inl (.inl (eG _ _ hLa))⟩, for_list (xs := las.map V.ref) (fun i σ H2 => ∃ gs y5 y6, σ = [some (.ref r), some (.ref F0), some (.ref La), some (.int (0 + (t : Nat))), some (.ref G), y5, y6] ∧ But G H' H2 ∧ H2 G = some (.lst (gs.map V.ref)) ∧ TAt H2 gs (((level (List.range n) t).take i).flatMap (grow1 (List.range n))) ∧ gs.length ≤ 5 * i)
        ⟨[], y5, y6, rfl, fun b o hb hz => by rw [upd_ne hb]; exact hz, upd_same, .nil, Nat.le_refl _⟩ (fun i σ H2 _ pv => ?_) (fun i x σ H2 hx pv => ?_) (fun σ H2 pv => ?_)⟩
      · obtain ⟨gs, y5, y6, rfl, bt, hG, tG, hg⟩ := pv
        exact .inl (.inl (bt _ _ gL hLa))
      · obtain ⟨gs, y5, y6, rfl, bt, hG, tG, hg⟩ := pv
        rw [List.getElem?_map] at hx
        obtain ⟨ti, hti, rfl⟩ := Option.map_eq_some_iff.mp hx
        obtain ⟨lot, elot, hlot⟩ := tL.get hti
        have hi10 : i < 10 := by
          have := (List.getElem?_eq_some_iff.mp elot).1
          omega
        have tG' : ∀ {b : Addr} {xs : List V}, H' b = some (.tup xs) → H2 b = some (.tup xs) := fun {b xs} hb => bt b _ (ne_of_none hb nG) hb
        have hr2 : H2 r = some (.lst (ints_ (List.range n))) := bt _ _ (ne_of_none (e _ _ hr0) nG) (e _ _ hr0)
        have nrG : r ≠ G := ne_of_none (e _ _ hr0) nG
        refine ⟨_, rfl, r, rfl, ⟨_, .inl (.inl hr2)⟩, for_list (xs := ints_ (List.range n)) (fun j σ H3 => ∃ gs' y6, σ = [some (.ref r), some (.ref F0), some (.ref La), some (.int (0 + (t : Nat))), some (.ref G), some (.ref ti), y6] ∧ But G H' H3 ∧ H3 G = some (.lst (gs'.map V.ref)) ∧ TAt H3 gs' (((level (List.range n) t).take i).flatMap (grow1 (List.range n)) ++ grow1 ((List.range n).take j) lot) ∧ gs'.length ≤ 5 * i + j)
          ⟨gs, y6, rfl, bt, hG, by simpa [grow1] using tG, by omega⟩ (fun j σ H3 _ pv => ?_) (fun j x σ H3 hx pv => ?_) (fun σ H3 pv => ?_)⟩
        · obtain ⟨gs', y6, rfl, bt3, hG3, tG3, hg3⟩ := pv
          exact .inl (.inl (bt3 _ _ nrG (e _ _ hr0)))
        · obtain ⟨gs', y6, rfl, bt3, hG3, tG3, hg3⟩ := pv
          unfold ints_ at hx
          rw [List.getElem?_map] at hx
          obtain ⟨c, hc, rfl⟩ := Option.map_eq_some_iff.mp hx
          have hj5 : j < 5 := by
            have := (List.getElem?_eq_some_iff.mp hc).1
            rw [List.length_range] at this
            omega
          have hlot3 : H3 ti = some (.tup (lot.map fun c => .int (c : Nat))) := bt3 ti _ (ne_of_none hlot nG) hlot
          have hll : lot.length ≤ 990 := lot_len hn (by omega) elot
          have g1 : grow1 ((List.range n).take (j + 1)) lot = grow1 ((List.range n).take j) lot ++ (if (lot.isEmpty || decide (lot.getLastD 0 < c)) = true then [lot ++ [c]] else []) := by
            unfold grow1
            rw [List.take_add_one, hc, List.filter_append, List.map_append]
            congr 1
            by_cases z : (lot.isEmpty || decide (lot.getLastD 0 < c)) = true
            · rw [if_pos z]
              show List.map _ (List.filter _ [c]) = _
              rw [List.filter_cons, if_pos z]
              rfl
            · rw [if_neg z]
              show List.map _ (List.filter _ [c]) = _
              rw [List.filter_cons, if_neg z]
              rfl
          have endOk : ∀ (Hf : Hp) (v : Addr), Same H3 Hf → Hf v = some (.tup ((lot ++ [c]).map fun c => .int (c : Nat))) → (lot.isEmpty || decide (lot.getLastD 0 < c)) = true →
              But G H' (upd Hf G (.lst (gs'.map V.ref ++ [.ref v]))) ∧ upd Hf G (.lst (gs'.map V.ref ++ [.ref v])) G = some (.lst ((gs' ++ [v]).map V.ref)) ∧
                TAt (upd Hf G (.lst (gs'.map V.ref ++ [.ref v]))) (gs' ++ [v]) (((level (List.range n) t).take i).flatMap (grow1 (List.range n)) ++ grow1 ((List.range n).take (j + 1)) lot) ∧ (gs' ++ [v]).length ≤ 5 * i + (j + 1) := by
            intro Hf v sF hv hcond
            have up : ∀ b xs, Hf b = some (.tup xs) → upd Hf G (.lst (gs'.map V.ref ++ [.ref v])) b = some (.tup xs) := fun b xs hb => by
              have n1 : b ≠ G := fun z => by rw [z, sF _ _ hG3] at hb; cases hb
              rw [upd_ne n1]; exact hb
            refine ⟨fun b o nb hb => by rw [upd_ne nb]; exact sF _ _ (bt3 b o nb hb), by rw [upd_same, List.map_append]; rfl, ?_, by rw [List.length_append, List.length_singleton]; omega⟩
            rw [g1, if_pos hcond, ← List.append_assoc]
            exact ((tG3.same sF).mono up).append (.cons (up _ _ hv) .nil)
          refine ⟨_, rfl, by show 0 ≤ sizeLine; decide, fun em nem => ?_⟩
          have sX := same_new (o := .tup []) (Same.refl H3) nem
          refine ⟨_, _, .tup (.inl (.inl (sX _ _ hlot3))) (dp_ints lot), .tup (.inl (.inl upd_same)) .nil, shaped_ints lot, shaped_ints [], ?_⟩
          rw [show PyData.eqv (.tuple (lot.map fun c => PyData.int (c : Nat))) (.tuple []) = lot.isEmpty from eqv_empty lot]
          refine ⟨_, rfl, ite2 (fun q1 => ?_) (fun q1 => ?_)⟩
          · have hcond : (lot.isEmpty || decide (lot.getLastD 0 < c)) = true := by rw [q1]; rfl
            have hG4 := sX _ _ hG3
            refine ⟨_, rfl, .inl ⟨rfl, _, .inl (.inl hG4)⟩, _, rfl, _, rfl, by show 1 ≤ sizeLine; decide, fun u nu => ?_⟩
            have sU := sX.trans (same_new (o := .tup [.int (c : Nat)]) (Same.refl _) nu)
            refine ⟨ti, u, _, _, rfl, rfl, .inl (.inl (sU _ _ hlot3)), .inl (.inl upd_same), ?_, fun z => ?_, (fun _ z2 => nomatch z2), fun z1 _ p np => ?_⟩
            · rw [List.length_map]
              exact Nat.le_trans (show lot.length + 1 ≤ 1000 by omega) (by decide)
            · have lot0 : lot = [] := by simpa using z
              obtain ⟨k1, k2, k3, k4⟩ := endOk _ u sU (by rw [upd_same, lot0]; rfl) hcond
              exact ⟨G, _, _, rfl, rfl, sU _ _ hG3, by rw [List.length_map]; exact small1000 (by omega), gs' ++ [u], _, rfl, k1, k2, k3, k4⟩
            · obtain ⟨k1, k2, k3, k4⟩ := endOk _ p (sU.trans (same_new (Same.refl _) np)) (by rw [upd_same, List.map_append]) hcond
              exact ⟨G, _, _, rfl, rfl, (sU.trans (same_new (Same.refl _) np)) _ _ hG3, by rw [List.length_map]; exact small1000 (by omega), gs' ++ [p], _, rfl, k1, k2, k3, k4⟩
          · have q1' : lot.isEmpty = false := Bool.eq_false_iff.mpr q1
            refine ⟨_, rfl, _, rfl, _, rfl, ti, _, _, .int (lot.getLastD 0 : Nat), rfl, rfl, .inl (.inl (sX _ _ hlot3)), last_at q1', _, _, rfl, rfl, _, rfl, ite2 (fun q2 => ?_) (fun q2 => ?_)⟩
            · have hcond : (lot.isEmpty || decide (lot.getLastD 0 < c)) = true := by
                rw [q1', Bool.false_or]
                have := of_decide_eq_true q2
                exact decide_eq_true (by omega)
              have hG4 := sX _ _ hG3
              refine ⟨_, rfl, .inl ⟨rfl, _, .inl (.inl hG4)⟩, _, rfl, _, rfl, by show 1 ≤ sizeLine; decide, fun u nu => ?_⟩
              have sU := sX.trans (same_new (o := .tup [.int (c : Nat)]) (Same.refl _) nu)
              refine ⟨ti, u, _, _, rfl, rfl, .inl (.inl (sU _ _ hlot3)), .inl (.inl upd_same), ?_, fun z => ?_, (fun _ z2 => nomatch z2), fun z1 _ p np => ?_⟩
              · rw [List.length_map]
                exact Nat.le_trans (show lot.length + 1 ≤ 1000 by omega) (by decide)
              · have lot0 : lot = [] := by simpa using z
                obtain ⟨k1, k2, k3, k4⟩ := endOk _ u sU (by rw [upd_same, lot0]; rfl) hcond
                exact ⟨G, _, _, rfl, rfl, sU _ _ hG3, by rw [List.length_map]; exact small1000 (by omega), gs' ++ [u], _, rfl, k1, k2, k3, k4⟩
              · obtain ⟨k1, k2, k3, k4⟩ := endOk _ p (sU.trans (same_new (Same.refl _) np)) (by rw [upd_same, List.map_append]) hcond
                exact ⟨G, _, _, rfl, rfl, (sU.trans (same_new (Same.refl _) np)) _ _ hG3, by rw [List.length_map]; exact small1000 (by omega), gs' ++ [p], _, rfl, k1, k2, k3, k4⟩
            · have hcond : ¬ (lot.isEmpty || decide (lot.getLastD 0 < c)) = true := by
                rw [q1', Bool.false_or]
                intro z
                have z' := of_decide_eq_true z
                exact q2 (decide_eq_true (by omega))
              refine ⟨gs', _, rfl, fun b o nb hb => sX _ _ (bt3 b o nb hb), sX _ _ hG3, ?_, by omega⟩
              rw [g1, if_neg hcond, List.append_nil]
              exact tG3.same sX
        · obtain ⟨gs', y6, rfl, bt3, hG3, tG3, hg3⟩ := pv
          refine ⟨gs', _, _, rfl, bt3, hG3, ?_, ?_⟩
          · rw [hlen, show (List.range n).take n = List.range n from List.take_of_length_le (by rw [List.length_range]; exact Nat.le_refl n)] at tG3
            rw [List.take_add_one, elot, List.flatMap_append]
            simpa using tG3
          · rw [hlen] at hg3
            omega
      · obtain ⟨gs, y5, y6, rfl, bt, hG, tG, hg⟩ := pv
        rw [List.length_map] at tG hg
        rw [tL.len, List.take_length] at tG
        have hF3 := bt _ _ gF hF'
        have lfs : fs.length ≤ 32 := by rw [tF.len]; exact (level_len ⟨n, by omega⟩ ⟨t, by omega⟩).2
        have lgs : gs.length ≤ 10 := by rw [tG.len]; exact lv2
        refine ⟨_, rfl, .inl ⟨rfl, _, .inl (.inl hF3)⟩, _, rfl, F0, G, _, _, rfl, rfl, hF3, hG, ?_, ?_⟩
        · rw [List.length_map, List.length_map]
          exact Nat.le_trans (show fs.length + gs.length ≤ 42 by omega) (by decide)
        have hG4 : upd H2 F0 (.lst (fs.map V.ref ++ gs.map V.ref)) G = some (.lst (gs.map V.ref)) := by rw [upd_ne gF.symm]; exact hG
        refine ⟨_, rfl, G, _, rfl, .inl (.inl (.inl hG4)), fun L2 nL2 => ?_⟩
        have hF4 : upd H2 F0 (.lst (fs.map V.ref ++ gs.map V.ref)) F0 = some (.lst ((fs ++ gs).map V.ref)) := by rw [upd_same, List.map_append]
        have nL2F : L2 ≠ F0 := fun z => by rw [z, hF4] at nL2; cases nL2
        have up : ∀ b xs, H2 b = some (.tup xs) → upd (upd H2 F0 (.lst (fs.map V.ref ++ gs.map V.ref))) L2 (.lst (gs.map V.ref)) b = some (.tup xs) := fun b xs hb => by
          have n1 : b ≠ F0 := fun z => by rw [z, hF3] at hb; cases hb
          have h1 : upd H2 F0 (.lst (fs.map V.ref ++ gs.map V.ref)) b = some (.tup xs) := by rw [upd_ne n1]; exact hb
          rw [upd_ne (ne_of_none h1 nL2)]
          exact h1
        have tF' : TAt H2 fs (lotsTo (List.range n) t) := tF.mono fun b xs hb => bt b _ (ne_of_none hb nG) hb
        refine ⟨by omega, L2, fs ++ gs, gs, _, _, _, _, rfl, fun b o hb => ?_, by rw [upd_ne nL2F.symm]; exact hF4, upd_same, nL2F, (tF'.mono up).append (tG.mono up), tG.mono up⟩
        have n0 : b ≠ F0 := ne_of_none hb hFn
        have h1 := e _ _ hb
        have h2 := bt _ _ (ne_of_none h1 nG) h1
        have h3 : upd H2 F0 (.lst (fs.map V.ref ++ gs.map V.ref)) b = some o := by rw [upd_ne n0]; exact h2
        rw [upd_ne (ne_of_none h3 nL2)]
        exact h3
    · obtain ⟨_, La, fs, las, y3, y4, y5, y6, rfl, e, hF', hLa, nLF, tF, tL⟩ := pv
      rw [hlen] at tF
      exact ⟨_, rfl, q H' F0 fs e hFn hF' (by simpa using tF)⟩
end
end K7
end
/-! ## KL -/
section
/-! ## pure facts about drawn lands (no program in them) -/
namespace KL
/-- every set that holds cell 0 and is not left over any couple holds all cells -/
def Conn (n : Nat) (es : List (Nat × Nat)) : Prop := ∀ S : Nat → Bool, S 0 = true → (∀ e ∈ es, S e.1 = S e.2) → ∀ c, c < n → S c = true
theorem erase_perm {α : Type} : ∀ (l : List α) (j : Nat) (h : j < l.length), (l[j] :: l.eraseIdx j).Perm l
  | x :: l, 0, _ => List.Perm.refl _
  | x :: l, j + 1, h => (List.Perm.swap x (l[j]'(Nat.lt_of_succ_lt_succ h)) (l.eraseIdx j)).trans (List.Perm.cons x (erase_perm l j (Nat.lt_of_succ_lt_succ h)))
/-- one item drawn out of what is left -/
theorem pop_perm {names left : List Nat} {j : Nat} (h : j < left.length) : ((names ++ [left[j]]) ++ left.eraseIdx j).Perm (names ++ left) := by
  rw [List.append_assoc]
  refine List.Perm.append_left names ?_
  exact erase_perm left j h
def couple (names : List Nat) (a b : Nat) : Nat × Nat := (min (names.getD a 0) (names.getD b 0), max (names.getD a 0) (names.getD b 0))
theorem couple_mem {names : List Nat} {n : Nat} (hp : names.Perm (List.range n)) {a : Nat} (ha : a < n) : names.getD a 0 < n := by
  have hl : names.length = n := by rw [hp.length_eq, List.length_range]
  have e : names.getD a 0 = names[a]'(by omega) := by
    rw [List.getD_eq_getElem?_getD, List.getElem?_eq_getElem (by omega)]
    rfl
  rw [e]
  exact List.mem_range.mp (hp.mem_iff.mp (List.getElem_mem _))
/-- a tree under drawn names hangs together -/
theorem conn_tree {n : Nat} {names : List Nat} (hp : names.Perm (List.range n)) {es : List (Nat × Nat)} (h : ∀ k, 0 < k → k < n → ∃ d, d < k ∧ couple names k d ∈ es) : Conn n es := by
  intro S h0 hS c hc
  have hl : names.length = n := by rw [hp.length_eq, List.length_range]
  have step : ∀ k d, couple names k d ∈ es → S (names.getD k 0) = S (names.getD d 0) := by
    intro k d m
    have e := hS _ m
    unfold couple at e
    simp only at e
    by_cases q : names.getD k 0 ≤ names.getD d 0
    · rw [Nat.min_eq_left q, Nat.max_eq_right q] at e
      exact e
    · rw [Nat.min_eq_right (by omega), Nat.max_eq_left (by omega)] at e
      exact e.symm
  have all : ∀ k, k < n → S (names.getD k 0) = S (names.getD 0 0) := by
    intro k
    induction k using Nat.strongRecOn with
    | _ k ih =>
      intro hk
      by_cases z : k = 0
      · rw [z]
      · obtain ⟨d, hd, m⟩ := h k (by omega) hk
        rw [step k d m]
        exact ih d hd (by omega)
  have at_ : ∀ x, x < n → ∃ k, k < n ∧ names.getD k 0 = x := by
    intro x hx
    have m : x ∈ names := hp.mem_iff.mpr (List.mem_range.mpr hx)
    obtain ⟨k, hk, e⟩ := List.mem_iff_getElem.mp m
    refine ⟨k, by omega, ?_⟩
    rw [List.getD_eq_getElem?_getD, List.getElem?_eq_getElem hk, e]
    rfl
  obtain ⟨k0, hk0, e0⟩ := at_ 0 (by omega)
  obtain ⟨k, hk, e⟩ := at_ c hc
  have r0 := all k0 hk0
  rw [e0, h0] at r0
  rw [← e, all k hk, ← r0]
/-- a list of cells that is closed under the couples and holds cell 0 holds all cells -/
theorem conn_closed {n : Nat} {es : List (Nat × Nat)} (h : Conn n es) {found : List Nat} (h0 : 0 ∈ found) (hc : ∀ a b, ((a, b) ∈ es ∨ (b, a) ∈ es) → a ∈ found → b ∈ found) : ∀ c, c < n → c ∈ found := by
  intro c hc'
  have := h (fun x => decide (x ∈ found)) (by simpa using h0) (fun e he => by
    have e1 : e.1 ∈ found ↔ e.2 ∈ found := ⟨fun q => hc e.1 e.2 (.inl he) q, fun q => hc e.2 e.1 (.inr he) q⟩
    exact decide_eq_decide.mpr e1) c hc'
  simpa using this
/-- as many as there are cells, none twice: all cells -/
theorem all_len {n : Nat} {found : List Nat} (hn : found.Nodup) (hb : ∀ c ∈ found, c < n) (ha : ∀ c, c < n → c ∈ found) : found.length = n := by
  have hp : found.Perm (List.range n) := by
    rw [List.perm_ext_iff_of_nodup hn List.nodup_range]
    intro a
    exact ⟨fun q => List.mem_range.mpr (hb a q), fun q => ha a (List.mem_range.mp q)⟩
  rw [hp.length_eq, List.length_range]
end KL
namespace KL
theorem couple_inj {names : List Nat} {n : Nat} (hp : names.Perm (List.range n)) {a b a' b' : Nat} (h1 : b < a) (h2 : a < n) (h1' : b' < a') (h2' : a' < n) (e : couple names a b = couple names a' b') : (a, b) = (a', b') := by
  have hl : names.length = n := by rw [hp.length_eq, List.length_range]
  have nd : names.Nodup := hp.nodup_iff.mpr List.nodup_range
  have inj : ∀ x y, x < n → y < n → names.getD x 0 = names.getD y 0 → x = y := by
    intro x y hx hy q
    rw [List.getD_eq_getElem?_getD, List.getD_eq_getElem?_getD, List.getElem?_eq_getElem (by omega), List.getElem?_eq_getElem (by omega)] at q
    exact (List.getElem_inj nd).mp q
  have ne : ∀ x y, x < n → y < n → x ≠ y → names.getD x 0 ≠ names.getD y 0 := fun x y hx hy q z => q (inj x y hx hy z)
  unfold couple at e
  injection e with e1 e2
  have q1 := ne a b h2 (by omega) (by omega)
  have q2 := ne a' b' h2' (by omega) (by omega)
  by_cases c1 : names.getD a 0 ≤ names.getD b 0
  · rw [Nat.min_eq_left c1] at e1
    rw [Nat.max_eq_right c1] at e2
    by_cases c2 : names.getD a' 0 ≤ names.getD b' 0
    · rw [Nat.min_eq_left c2] at e1
      rw [Nat.max_eq_right c2] at e2
      rw [inj a a' h2 h2' e1, inj b b' (by omega) (by omega) e2]
    · rw [Nat.min_eq_right (by omega)] at e1
      rw [Nat.max_eq_left (by omega)] at e2
      have r1 := inj a b' h2 (by omega) e1
      have r2 := inj b a' (by omega) h2' e2
      omega
  · rw [Nat.min_eq_right (by omega)] at e1
    rw [Nat.max_eq_left (by omega)] at e2
    by_cases c2 : names.getD a' 0 ≤ names.getD b' 0
    · rw [Nat.min_eq_left c2] at e1
      rw [Nat.max_eq_right c2] at e2
      have r1 := inj b a' (by omega) h2' e1
      have r2 := inj a b' h2 (by omega) e2
      omega
    · rw [Nat.min_eq_right (by omega)] at e1
      rw [Nat.max_eq_left (by omega)] at e2
      rw [inj a a' h2 h2' e2, inj b b' (by omega) (by omega) e1]
end KL
end
/-! ## ER -/
section
namespace K7E
open PySem PySem.Spec PyProof.Rows L2
theorem cr_range1 {X : Cx} : CallR X (.type "range") (fun vs H Q => ∃ j, vs = [V.int j] ∧ ∀ p, H p = none → Q (.ref p) (upd H p (.rng 0 j))) := by
  intro pins s σ H vs us Q I r h
  obtain ⟨j, rfl, q⟩ := h
  obtain ⟨u1, rfl, t, rfl⟩ := r.one
  refine call_range_1 ⟨.ref s.heap.objs.size, upd H s.heap.objs.size (.rng 0 j), I.laid (t' := s.toks + 1 + 1) (fun b o e => Heap.get?_push_of_some _ e) (Nat.le_refl _) ?_, rfl, q _ (I.hok.fresh (Nat.le_refl _))⟩
  exact ⟨s.toks, t, s.toks + 1, Heap.get?_push_size _ rfl⟩
def upTo (n : Nat) : List V := (List.range n).map fun i => .int (i : Nat)
theorem vals_upTo : ∀ (n : Nat) (us : List Value), us.length = n → (∀ (j : Nat) v, us[j]? = some v → ∃ t, v = .int (j : Nat) t) → Vals (upTo n) us := by
  intro n
  induction n with
  | zero => intro us h _; cases us with | nil => exact .nil | cons => cases h
  | succ n ih =>
    intro us h hv
    have e : us = us.take n ++ [us[n]'(by omega)] := by
      have := List.take_append_getElem (l := us) (i := n) (by omega)
      rw [this, List.take_of_length_le (by omega)]
    have e2 : upTo (n + 1) = upTo n ++ [.int (n : Nat)] := by
      unfold upTo
      rw [List.range_succ, List.map_append]
      rfl
    rw [e, e2]
    refine (ih _ (by rw [List.length_take]; omega) fun j v hj => ?_).append (.cons ?_ .nil)
    · rw [List.getElem?_take] at hj
      split at hj
      · exact hv j v hj
      · cases hj
    · exact hv n _ (List.getElem?_eq_getElem (by omega))
theorem small_all : ∀ k : Fin 1001, Builtin.Range.small 0 (k.val : Int) 1 = true := by decide +kernel
theorem cr_list_rng {X : Cx} (hc : X.calm = true) : CallR X (.type "list") (fun vs H Q => ∃ (r : Addr) (n : Nat), vs = [V.ref r] ∧ H r = some (.rng 0 n) ∧ n ≤ 1000 ∧ ∀ l, H l = none → Q (.ref l) (upd H l (.lst (upTo n)))) := by
  intro pins s σ H vs us Q I rv h
  obtain ⟨r, n, rfl, hr, hn, q⟩ := h
  obtain ⟨u, rfl, ru⟩ := rv.one
  cases ru
  obtain ⟨t, u, v, hg⟩ := I.hok r _ hr
  refine call_list_range (n := n) (I.ok.hd hc) (show IsRange s.heap r 0 n 1 t u v from hg) ?_ ?_ ?_ fun h' tk acc' c' hk hl hi => ?_
  · have h1 : (0 : Int) ≤ n := by omega
    have h2 : (n : Int) ≤ 1000 := by omega
    exact small_all ⟨n, by omega⟩
  · show (if (0 : Int) < (n : Int) then ((n : Int) - 0 - 1) / 1 + 1 else 0) = (n : Int)
    split <;> omega
  · exact Nat.le_trans hn (by decide)
  · refine ⟨.ref s.heap.objs.size, upd H s.heap.objs.size (.lst (upTo n)), I.laid (t' := tk) hk (Nat.le_refl _) ⟨?_, acc'.toList, c', vals_upTo n _ ?_ fun j w hj => ?_, ?_⟩, rfl, q _ (I.hok.fresh (Nat.le_refl _))⟩
    · unfold upTo; rw [List.length_map, List.length_range]; exact Nat.le_trans hn (by decide)
    · simpa using hi.1
    · obtain ⟨t', e⟩ := hi.2 j w (by simpa using hj)
      exact ⟨t', by rw [e]; simp⟩
    · simpa using hl
end K7E
end
/-! ## P3 -/
section
open PySem PySem.Spec PyProof.Rows L2
namespace K7L
theorem hu65 {k : Nat} {A : Around} (hr : Room k A) : A.units + 65 < cLine := by have := hr.un; omega
end K7L
namespace K7
abbrev N__law_land : List Str := ["_law_hand_here", "_law_n", "_law_names", "_law_left", "_law_couples", "_law_k", "_law_high", "_law_low", "_law_rows", "_law_a", "_law_b", "_law_lots_here", "_law_lot"]
abbrev s__law_land : Stmt := topS 60
theorem sc__law_land : FnScope ["_law_hand_here", "_law_n", "_law_names", "_law_left", "_law_couples", "_law_k", "_law_high", "_law_low", "_law_rows", "_law_a", "_law_b", "_law_lots_here", "_law_lot"] ["_law_hand_here", "_law_n"] (defScope s__law_land) := ⟨rfl, rfl, rfl, by decide +kernel, rfl, by decide +kernel, by decide +kernel⟩
/-! ### what stays -/
def notHand : List V → Bool
  | [.ref _, .int _, .int _, .int _] => false
  | _ => true
theorem notHand_strs : ∀ ss : List Str, notHand (ss.map V.str) = true
  | [] => rfl
  | [_] => rfl
  | [_, _] => rfl
  | [_, _, _] => rfl
  | [_, _, _, _] => rfl
  | _ :: _ :: _ :: _ :: _ :: _ => rfl
theorem notHand_len : ∀ xs : List V, xs.length ≠ 4 → notHand xs = true
  | [], _ => rfl
  | [_], _ => by unfold notHand; split <;> first | rfl | (rename_i h; cases h)
  | [_, _], _ => by unfold notHand; split <;> first | rfl | (rename_i h; cases h)
  | [_, _, _], _ => by unfold notHand; split <;> first | rfl | (rename_i h; cases h)
  | [_, _, _, _], h => absurd rfl h
  | _ :: _ :: _ :: _ :: _ :: _, _ => by unfold notHand; split <;> first | rfl | (rename_i h; cases h)
/-- all but the hand at h is as it was, and the hand is a hand -/
structure Stay (h c : Addr) (H H' : Hp) : Prop where
  but : But h H H'
  hand0 : Hand H h c
  hand : Hand H' h c
theorem Stay.of_same {h c : Addr} {H H' : Hp} (hh : Hand H h c) (e : Same H H') : Stay h c H H' := ⟨fun b o _ z => e b o z, hh, hh.same e⟩
theorem Stay.of_drawn {h c : Addr} {H H' : Hp} (hh : Hand H h c) (d : Drawn H H' h c) : Stay h c H H' := ⟨fun b o nb z => by rw [d.but b nb]; exact z, hh, d.hand⟩
theorem Stay.trans {h c : Addr} {H H' H'' : Hp} (x : Stay h c H H') (y : Stay h c H' H'') : Stay h c H H'' := ⟨fun b o nb z => y.but b o nb (x.but b o nb z), x.hand0, y.hand⟩
theorem Stay.same {h c : Addr} {H H' H'' : Hp} (x : Stay h c H H') (e : Same H' H'') : Stay h c H H'' := x.trans (.of_same x.hand e)
theorem Stay.drawn {h c : Addr} {H H' H'' : Hp} (x : Stay h c H H') (e : Drawn H' H'' h c) : Stay h c H H'' := x.trans (.of_drawn x.hand e)
theorem Hand.nel {h c b : Addr} {H : Hp} {xs : List V} (hh : Hand H h c) (hb : H b = some (.lst xs)) (hx : notHand xs = true) : b ≠ h := by
  intro e
  subst e
  obtain ⟨ns, i, x, t, h1, _, _⟩ := hh
  rw [hb] at h1
  injection h1 with h1
  unfold HandO at h1
  injection h1 with h1
  subst h1
  cases hx
theorem Hand.nei {h c b C dx : Addr} {H : Hp} {fs : List (Str × V)} (hh : Hand H h c) (hb : H b = some (.ins C dx fs)) : b ≠ h := by
  intro e
  subst e
  obtain ⟨ns, i, x, t, h1, _, _⟩ := hh
  rw [hb] at h1
  cases h1
theorem Hand.net {h c b : Addr} {H : Hp} {xs : List V} (hh : Hand H h c) (hb : H b = some (.tup xs)) : b ≠ h := by
  intro e
  subst e
  obtain ⟨ns, i, x, t, h1, _, _⟩ := hh
  rw [hb] at h1
  cases h1
theorem Hand.ned {h c b : Addr} {H : Hp} {kvs : List (Key × V)} (hh : Hand H h c) (hb : H b = some (.dK kvs)) : b ≠ h := by
  intro e
  subst e
  obtain ⟨ns, i, x, t, h1, _, _⟩ := hh
  rw [hb] at h1
  cases h1
section
variable {h c : Addr} {H H' : Hp}
theorem Stay.lst {b : Addr} {xs : List V} (x : Stay h c H H') (hb : H b = some (.lst xs)) (hx : notHand xs = true) : H' b = some (.lst xs) := x.but b _ (x.hand0.nel hb hx) hb
theorem Stay.row {b : Addr} {ss : List Str} (x : Stay h c H H') (hb : H b = some (.lst (ss.map V.str))) : H' b = some (.lst (ss.map V.str)) := x.lst hb (notHand_strs ss)
end
theorem map_erase {α β : Type} (f : α → β) : ∀ (l : List α) (j : Nat), (l.map f).eraseIdx j = (l.eraseIdx j).map f
  | [], _ => rfl
  | x :: l, 0 => rfl
  | x :: l, j + 1 => congrArg (f x :: ·) (map_erase f l j)
theorem ixN_nat {n i : Nat} (h : i < n) : ixN n (i : Int) = some i := by
  have e : (List.range n)[i]? = some i := by rw [List.getElem?_range h]
  have := atI_nat e
  unfold atI at this
  rw [List.length_range] at this
  cases q : ixN n (i : Int) with
  | none => rw [q] at this; cases this
  | some j =>
    rw [q] at this
    have h2 : (List.range n)[j]? = some i := this
    rw [List.getElem?_eq_some_iff] at h2
    obtain ⟨h3, h4⟩ := h2
    rw [List.getElem_range] at h4
    rw [h4]
section
variable {P : Program} {w : World} {K : PySem.W.Frag} {mg : Str → Option Value} {base : Heap}
def rLen_ (K : PySem.W.Frag) : List V → Hp → VK → Prop := fun xs H Q => ∃ p ys, xs = [.ref p] ∧ (SqL K H p ys ∨ SqT K H p ys) ∧ Q (.int ys.length) H
def pairs (es : List (Nat × Nat)) : List (List Nat) := es.map fun e => [e.1, e.2]
/-- couples before the cells have their names: each cell below m hangs on a lower one -/
structure Tree (n m : Nat) (cs : List (Nat × Nat)) : Prop where
  lt : ∀ e ∈ cs, e.2 < e.1 ∧ e.1 < m ∧ e.1 < n
  nd : cs.Nodup
  low : ∀ k, 0 < k → k < m → ∃ d, d < k ∧ (k, d) ∈ cs
theorem Tree.nil (n : Nat) : Tree n 1 [] := ⟨fun e h => (nomatch h), List.nodup_nil, fun k h0 h1 => by omega⟩
theorem Tree.add {n k j : Nat} {cs : List (Nat × Nat)} (t : Tree n (k + 1) cs) (hk : k + 1 < n) (hj : j < k + 1) : Tree n (k + 1 + 1) (cs ++ [(k + 1, j)]) := by
  refine ⟨fun e h => ?_, ?_, fun x x0 x1 => ?_⟩
  · rcases List.mem_append.mp h with q | q
    · obtain ⟨a, b, c⟩ := t.lt e q
      exact ⟨a, by omega, c⟩
    · rw [List.mem_singleton.mp q]
      exact ⟨hj, by show k + 1 < k + 1 + 1; omega, hk⟩
  · rw [List.nodup_append]
    refine ⟨t.nd, by simp, fun a ha b hb => ?_⟩
    rw [List.mem_singleton.mp hb]
    intro z
    rw [z] at ha
    have := (t.lt _ ha).2.1
    simp only at this
    omega
  · by_cases z : x = k + 1
    · exact ⟨j, by omega, List.mem_append_right _ (by rw [z]; exact List.mem_singleton.mpr rfl)⟩
    · obtain ⟨d, d1, d2⟩ := t.low x x0 (by omega)
      exact ⟨d, d1, List.mem_append_left _ d2⟩
theorem Tree.more {n a b : Nat} {cs : List (Nat × Nat)} (t : Tree n n cs) (h1 : b < a) (h2 : a < n) (h3 : (a, b) ∉ cs) : Tree n n (cs ++ [(a, b)]) := by
  refine ⟨fun e h => ?_, ?_, fun x x0 x1 => ?_⟩
  · rcases List.mem_append.mp h with q | q
    · exact t.lt e q
    · rw [List.mem_singleton.mp q]
      exact ⟨h1, h2, h2⟩
  · rw [List.nodup_append]
    refine ⟨t.nd, by simp, fun x hx y hy => ?_⟩
    rw [List.mem_singleton.mp hy]
    intro z
    exact h3 (z ▸ hx)
  · obtain ⟨d, d1, d2⟩ := t.low x x0 x1
    exact ⟨d, d1, List.mem_append_left _ d2⟩
/-! ### couples as data -/
theorem dp_pair {K : PySem.W.Frag} {H : Hp} (k j : Nat) : DpAll K H [.int (2 + (k : Nat)), .int (0 + (j : Nat))] [.int ((2 + k : Nat) : Int), .int (j : Nat)] := by
  rw [show (2 : Int) + (k : Nat) = ((2 + k : Nat) : Int) by omega, Int.zero_add]
  exact .cons (.int _) (.cons (.int _) .nil)
theorem dp_rows {K : PySem.W.Frag} {H : Hp} : ∀ {ts : List Addr} {ls : List (List Nat)}, TAt H ts ls → DpAll K H (ts.map V.ref) (ls.map intD)
  | _, _, .nil => .nil
  | _, _, .cons h r => .cons (.tup (.inl (.inl h)) (dp_ints _)) (dp_rows r)
theorem shaped_rows (ls : List (List Nat)) : SeqAt.shaped (.list (ls.map intD)) = true := by
  have h1 : ∀ l : List Nat, PyData.canLay0 (intD l) = true ∧ PyData.depth (intD l) ≤ 1 := fun l => by
    have z := shaped_ints l
    have z : ((PyData.canLay0 (intD l)) && decide (PyData.depth (intD l) ≤ 64)) = true := z
    refine ⟨(Bool.and_eq_true_iff.mp z).1, ?_⟩
    have : ∀ l : List Nat, PyData.depthAll (l.map fun c => PyData.int (c : Nat)) = 0 := fun l => by
      induction l with
      | nil => simp [PyData.depthAll]
      | cons x r ih => simp [PyData.depthAll, PyData.depth, ih]
    simp [intD, PyData.depth, this l]
  have h2 : ∀ ls : List (List Nat), PyData.canLayAll0 (ls.map intD) = true ∧ PyData.depthAll (ls.map intD) ≤ 1 := fun ls => by
    induction ls with
    | nil => exact ⟨by simp [PyData.canLayAll0], by simp [PyData.depthAll]⟩
    | cons x r ih =>
      refine ⟨by simp [PyData.canLayAll0, (h1 x).1, ih.1], ?_⟩
      rw [List.map_cons, PyData.depthAll]
      exact Nat.max_le.mpr ⟨(h1 x).2, ih.2⟩
  show ((PyData.canLay0 (.list (ls.map intD))) && decide (PyData.depth (.list (ls.map intD)) ≤ 64)) = true
  have d : PyData.depth (.list (ls.map intD)) ≤ 64 := by
    rw [PyData.depth]
    have := (h2 ls).2
    omega
  simp [PyData.canLay0, (h2 ls).1, d]
theorem any_rows (cs : List (Nat × Nat)) (a b : Nat) : ((pairs cs).map intD).any (fun z => PyData.eqv z (intD [a, b])) = decide ((a, b) ∈ cs) := by
  induction cs with
  | nil => rfl
  | cons e cs ih =>
    show (PyData.eqv (intD [e.1, e.2]) (intD [a, b]) || ((pairs cs).map intD).any (fun z => PyData.eqv z (intD [a, b]))) = _
    rw [ih]
    have h : PyData.eqv (intD [e.1, e.2]) (intD [a, b]) = decide (e = (a, b)) := by
      obtain ⟨x, y⟩ := e
      simp [intD, PyData.eqv, PyData.eqvAll]
      by_cases z1 : x = a <;> by_cases z2 : y = b <;> simp [z1, z2] <;> omega
    rw [h]
    by_cases z : e = (a, b)
    · simp [z]
    · have z2 : ¬ (a, b) = e := fun q => z q.symm
      simp [z, z2]
structure LandOk (n : Nat) (es : List (Nat × Nat)) : Prop where
  lt : ∀ e ∈ es, e.1 < e.2 ∧ e.2 < n
  nd : es.Nodup
  sorted : es.Pairwise fun a b => a.1 < b.1 ∨ (a.1 = b.1 ∧ a.2 ≤ b.2)
  conn : KL.Conn n es
structure LandOk0 (n : Nat) (es : List (Nat × Nat)) : Prop where
  lt : ∀ e ∈ es, e.1 < e.2 ∧ e.2 < n
  nd : es.Nodup
  conn : KL.Conn n es
theorem tree_land {n : Nat} {nm : List Nat} {cs : List (Nat × Nat)} (hp : nm.Perm (List.range n)) (t : Tree n n cs) : LandOk0 n (cs.map fun e => KL.couple nm e.1 e.2) := by
  have nd : nm.Nodup := hp.nodup_iff.mpr List.nodup_range
  have hl : nm.length = n := by rw [hp.length_eq, List.length_range]
  refine ⟨fun e he => ?_, ?_, ?_⟩
  · obtain ⟨x, hx, rfl⟩ := List.mem_map.mp he
    obtain ⟨t1, t2, t3⟩ := t.lt x hx
    have m1 := KL.couple_mem hp (a := x.1) t3
    have m2 := KL.couple_mem hp (a := x.2) (by omega)
    have ne : nm.getD x.1 0 ≠ nm.getD x.2 0 := by
      intro z
      rw [List.getD_eq_getElem?_getD, List.getD_eq_getElem?_getD, List.getElem?_eq_getElem (by omega), List.getElem?_eq_getElem (by omega)] at z
      have := (List.getElem_inj nd).mp z
      omega
    show min _ _ < max _ _ ∧ max _ _ < n
    omega
  · rw [List.nodup_iff_pairwise_ne, List.pairwise_map]
    refine (List.nodup_iff_pairwise_ne.mp t.nd).imp_of_mem fun {a b} ha hb hab z => ?_
    obtain ⟨a1, a2, a3⟩ := t.lt a ha
    obtain ⟨b1, b2, b3⟩ := t.lt b hb
    exact hab (KL.couple_inj hp a1 a3 b1 b3 z)
  · refine KL.conn_tree hp fun k k0 k1 => ?_
    obtain ⟨d, d1, d2⟩ := t.low k k0 k1
    exact ⟨d, d1, List.mem_map.mpr ⟨(k, d), d2, rfl⟩⟩
/-- the two numbers of a couple's tuple -/
def kfOf (H : Hp) : V → Int × Int
  | .ref a => (match H a with | some (.tup [.int i, .int j]) => (i, j) | _ => (0, 0))
  | _ => (0, 0)
def gOf (H : Hp) (x : V) : Nat × Nat := ((kfOf H x).1.toNat, (kfOf H x).2.toNat)
theorem kf_at {H : Hp} {a : Addr} {x y : Nat} (h : H a = some (.tup [.int (x : Nat), .int (y : Nat)])) : kfOf H (.ref a) = ((x : Int), (y : Int)) := by
  unfold kfOf
  simp only [h]
theorem g_at {H : Hp} {a : Addr} {e : Nat × Nat} (h : H a = some (.tup [.int (e.1 : Nat), .int (e.2 : Nat)])) : gOf H (.ref a) = e := by
  unfold gOf
  rw [kf_at h]
  rfl
theorem g_map {H : Hp} : ∀ {us : List Addr} {es : List (Nat × Nat)}, TAt H us (pairs es) → (us.map V.ref).map (gOf H) = es
  | [], [], _ => rfl
  | _ :: _, [], h => nomatch h
  | [], _ :: _, h => nomatch h
  | u :: us, e :: es, .cons h r => by
    show gOf H (.ref u) :: (us.map V.ref).map (gOf H) = _
    rw [g_at h, g_map r]
theorem g_mem {H : Hp} {us : List Addr} {es : List (Nat × Nat)} (t : TAt H us (pairs es)) : ∀ x ∈ us.map V.ref, ∃ (a : Addr) (e : Nat × Nat), x = V.ref a ∧ H a = some (.tup [.int (e.1 : Nat), .int (e.2 : Nat)]) := by
  intro x hx
  obtain ⟨a, ha, rfl⟩ := List.mem_map.mp hx
  obtain ⟨i, hi, e⟩ := List.mem_iff_getElem.mp ha
  obtain ⟨l, el, hl⟩ := t.get (i := i) (t := a) (by rw [List.getElem?_eq_getElem hi, e])
  unfold pairs at el
  rw [List.getElem?_map] at el
  obtain ⟨ab, eab, rfl⟩ := Option.map_eq_some_iff.mp el
  exact ⟨a, ab, rfl, hl⟩
theorem tat_of {H : Hp} : ∀ ys : List V, (∀ x ∈ ys, ∃ (a : Addr) (e : Nat × Nat), x = V.ref a ∧ H a = some (.tup [.int (e.1 : Nat), .int (e.2 : Nat)])) → ∃ ts, ys = ts.map V.ref ∧ TAt H ts (pairs (ys.map (gOf H)))
  | [], _ => ⟨[], rfl, .nil⟩
  | y :: ys, h => by
    obtain ⟨a, e, rfl, ha⟩ := h y List.mem_cons_self
    obtain ⟨ts, rfl, t⟩ := tat_of ys fun x hx => h x (List.mem_cons_of_mem _ hx)
    refine ⟨a :: ts, rfl, ?_⟩
    show TAt H (a :: ts) ([(gOf H (.ref a)).1, (gOf H (.ref a)).2] :: _)
    rw [g_at ha]
    exact .cons ha t
theorem sorted_of {H : Hp} : ∀ ys : List V, (∀ x ∈ ys, ∃ (a : Addr) (e : Nat × Nat), x = V.ref a ∧ H a = some (.tup [.int (e.1 : Nat), .int (e.2 : Nat)])) → SrtO.Srtd (ltP (kfOf H)) ys → (ys.map (gOf H)).Pairwise fun a b => a.1 < b.1 ∨ (a.1 = b.1 ∧ a.2 ≤ b.2) := by
  intro ys h s
  rw [List.pairwise_map]
  refine List.Pairwise.imp_of_mem (fun {x y} hx hy q => ?_) s
  obtain ⟨a, e, rfl, ha⟩ := h x hx
  obtain ⟨b, e', rfl, hb⟩ := h y hy
  rw [g_at ha, g_at hb]
  have q : SrtO.lexB (kfOf H (.ref b)) (kfOf H (.ref a)) = false := q
  rw [kf_at ha, kf_at hb] at q
  have z : ¬ ((e'.1 : Int) < e.1 ∨ ((e'.1 : Int) = e.1 ∧ (e'.2 : Int) < e.2)) := fun z => by
    rw [SrtO.lexB_iff.mpr z] at q
    cases q
  omega
theorem Stay.free {h c b : Addr} {H H' : Hp} (y : Stay h c H H') (n : H' b = none) : H b = none := by
  cases z : H b with
  | none => rfl
  | some o =>
    by_cases e : b = h
    · subst e
      obtain ⟨ns, i, x, t, h1, _, _⟩ := y.hand
      rw [h1] at n
      cases n
    · rw [y.but b o e z] at n
      cases n
theorem lots_some : ∀ n : Fin 6, 2 ≤ n.val → ((lotsTo (List.range n.val) n.val).filter fun l => decide (0 < l.length) && decide (l.length < n.val)).length ≠ 4 ∧ 0 < ((lotsTo (List.range n.val) n.val).filter fun l => decide (0 < l.length) && decide (l.length < n.val)).length ∧
    ((lotsTo (List.range n.val) n.val).filter fun l => decide (0 < l.length) && decide (l.length < n.val)).length ≤ 32 := by decide +kernel
/-- a drawn land: its number of cells, its couples, its roads -/
structure LandAt (H : Hp) (q : Addr) (n : Nat) (es : List (Nat × Nat)) (lot : List Nat) : Prop where
  at_ : ∃ rA sA ts, H q = some (.tup [.int (n : Nat), .ref rA, .ref sA]) ∧ H rA = some (.lst (ts.map V.ref)) ∧ TAt H ts (pairs es) ∧ H sA = some (.lst (ints_ lot))
  ok : LandOk n es
  lot : lot ∈ lotsTo (List.range n) n ∧ 0 < lot.length ∧ lot.length < n
def spLand : Sp := fun vs H Q _ => ∃ (h c : Addr) (n : Nat), vs = [.ref h, .int (n : Nat)] ∧ Hand H h c ∧ 2 ≤ n ∧ n ≤ 5 ∧ ∀ H' q es lot, Stay h c H H' → H q = none → LandAt H' q n es lot → Q (.ref q) H'
theorem ok_land {f fdr fpk flo : Addr} {fd fddr fdpk fdlo : FuncData} (F : Fun K "_law_land" "_law_land" s__law_land f fd)
    (Gdr : FnOk P w K mg base CX0 2 fdr fddr ["_law_hand_here", "_law_many"] spDraw) (gdr : mg "_law_draw" = some (.ref fdr)) (kdr : PySem.W.keepIn K (.ref fdr) = true) (bdr : Binds K fddr ["_law_hand_here", "_law_many"] [])
    (Gpk : FnOk P w K mg base CX0 3 fpk fdpk ["_law_hand_here", "_law_things"] spPick) (gpk : mg "_law_pick" = some (.ref fpk)) (kpk : PySem.W.keepIn K (.ref fpk) = true) (bpk : Binds K fdpk ["_law_hand_here", "_law_things"] [])
    (Glo : FnOk P w K mg base CX0 1 flo fdlo ["_law_cells"] spLots) (glo : mg "_law_lots" = some (.ref flo)) (klo : PySem.W.keepIn K (.ref flo) = true) (blo : Binds K fdlo ["_law_cells"] [])
    (m_range : mg "range" = none) (m_len : mg "len" = none) (m_list : mg "list" = none) (m_min : mg "min" = none) (m_max : mg "max" = none) (m_sorted : mg "sorted" = none) :
    FnOk P w K mg base CX0 4 f fd ["_law_hand_here", "_law_n"] spLand := by
  refine F.ok sc__law_land (fun vs H Q E h => ?_) (fun cdv A outer s H vs Q E hr h => ?_)
  · obtain ⟨h, c, n, rfl, _⟩ := h
    rfl
  · obtain ⟨h, c, n, rfl, hh, n2, n5, q⟩ := h
    refine ⟨_, (pss_cons (ps_asg (pe_tup (pa_cons (pe_lst pa_nil) (pa_cons (pe_callTy (K7E.cr_list_rng rfl) (by rfl) m_list boot_list (pa_cons (pe_callTy K7E.cr_range1 (by rfl) m_range boot_range (pa_cons (pv 1) pa_nil)) pa_nil)) (pa_cons (pe_lst pa_nil) pa_nil)))) (pg_tup rfl (pgs_cons (pg_name (i := 2) sc__law_land.nd rfl (by first | exact Or.inl rfl | exact Or.inr rfl)) (pgs_cons (pg_name (i := 3) sc__law_land.nd rfl (by first | exact Or.inl rfl | exact Or.inr rfl)) (pgs_cons (pg_name (i := 4) sc__law_land.nd rfl (by first | exact Or.inl rfl | exact Or.inr rfl)) pgs_nil)))))
 (Evl.pss_cut (ps_for PassesOwn.never rfl (pi_range1 rfl m_range (pa_cons (pv 1) pa_nil)) (pg_name (i := 5) sc__law_land.nd rfl (by first | exact Or.inl rfl | exact Or.inr rfl))
  (pss_one (ps_expr (pe_bm PySem.F.plainAttrs_list PySem.F.slot_list_append PySem.F.type_list_append mt_append (pv 2) (pa_cons (pe_bm PySem.F.plainAttrs_list PySem.F.slot_list_pop PySem.F.type_list_pop mt_popAt (pv 3) (pa_cons (pe_call Gdr (hr.mono (by decide)) (by rfl) gdr kdr bdr .nil pass0 (pa_cons (pv 0) (pa_cons (pe_callB call_len_seq (by rfl) m_len boot_len (pa_cons (pv 3) pa_nil)) pa_nil))) pa_nil)) pa_nil)))))
 (Evl.pss_cut (ps_for PassesOwn.never rfl (pi_range2 rfl m_range (pa_cons pe_int (pa_cons (pv 1) pa_nil))) (pg_name (i := 5) sc__law_land.nd rfl (by first | exact Or.inl rfl | exact Or.inr rfl))
  (pss_one (ps_expr (pe_bm PySem.F.plainAttrs_list PySem.F.slot_list_append PySem.F.type_list_append mt_append (pv 4) (pa_cons (pe_tup (pa_cons (pv 5) (pa_cons (pe_call Gdr (hr.mono (by decide)) (by rfl) gdr kdr bdr .nil pass0 (pa_cons (pv 0) (pa_cons (pv 5) pa_nil))) pa_nil))) pa_nil)))))
 (Evl.pss_cut (ps_for PassesOwn.never rfl (pi_range2 rfl m_range (pa_cons pe_int (pa_cons (pv 1) pa_nil))) (pg_name (i := 6) sc__law_land.nd rfl (by first | exact Or.inl rfl | exact Or.inr rfl))
  (pss_one (ps_for PassesOwn.never rfl (pi_range1 rfl m_range (pa_cons (pv 6) pa_nil)) (pg_name (i := 7) sc__law_land.nd rfl (by first | exact Or.inl rfl | exact Or.inr rfl))
  (pss_one (ps_if (pw_and (pt_cmpR (op_notInD (K7L.hu65 hr)) (pe_tup (pa_cons (pv 6) (pa_cons (pv 7) pa_nil))) (pv 4) (by with_unfolding_all rfl)) (pw_and1 (pt_cmpR op_eq (pe_call Gdr (hr.mono (by decide)) (by rfl) gdr kdr bdr .nil pass0 (pa_cons (pv 0) (pa_cons pe_int pa_nil))) pe_int (nomark _)))).pt
  (pss_one (ps_expr (pe_bm PySem.F.plainAttrs_list PySem.F.slot_list_append PySem.F.type_list_append mt_append (pv 4) (pa_cons (pe_tup (pa_cons (pv 6) (pa_cons (pv 7) pa_nil))) pa_nil))))
  pss_nil)))))
 (pss_cons (ps_setLc (i := 8) (own := [("_law_a", 9), ("_law_b", 10)]) (g := gTup K 2 (gCons (gName 9) (gCons (gName 10) (gNil)))) (tt := tYes) rfl sc__law_land.nd rfl rfl (sw_true rfl rfl rfl (by decide +kernel)) (pi_list (pv 4)) (blkOk_by (own := [("_law_a", 9), ("_law_b", 10)]) (N := N__law_land) (sc := defScope s__law_land) (by decide +kernel)) (fun _ _ _ _ _ => (pg_tup rfl (pgs_cons (pg_name (i := 9) sc__law_land.nd rfl (by first | exact Or.inl rfl | exact Or.inr rfl)) (pgs_cons (pg_name (i := 10) sc__law_land.nd rfl (by first | exact Or.inl rfl | exact Or.inr rfl)) pgs_nil)))) (fun _ _ _ _ _ => pts_nil) (fun _ _ _ _ _ => (pe_tup (pa_cons (pe_callB (call_min2 rfl) (by rfl) m_min boot_min (pa_cons (pe_ix (show IxR _ (rIxL K) from ix_list) (pv 2) (pv 9) (fun _ _ => rfl)) (pa_cons (pe_ix (show IxR _ (rIxL K) from ix_list) (pv 2) (pv 10) (fun _ _ => rfl)) pa_nil))) (pa_cons (pe_callB (call_max2 rfl) (by rfl) m_max boot_max (pa_cons (pe_ix (show IxR _ (rIxL K) from ix_list) (pv 2) (pv 9) (fun _ _ => rfl)) (pa_cons (pe_ix (show IxR _ (rIxL K) from ix_list) (pv 2) (pv 10) (fun _ _ => rfl)) pa_nil))) pa_nil)))))
 (pss_cons (ps_setLc (i := 11) (own := [("_law_lot", 12)]) (g := gName 12) rfl sc__law_land.nd rfl rfl (sw_true rfl rfl rfl (by decide +kernel)) (pi_list (pe_call Glo (hr.mono (by decide)) (by rfl) glo klo blo .nil pass0 (pa_cons (pe_callTy (K7E.cr_list_rng rfl) (by rfl) m_list boot_list (pa_cons (pe_callTy K7E.cr_range1 (by rfl) m_range boot_range (pa_cons (pv 1) pa_nil)) pa_nil)) pa_nil))) (blkOk_by (own := [("_law_lot", 12)]) (N := N__law_land) (sc := defScope s__law_land) (by decide +kernel)) (fun _ _ _ _ _ => (pg_name (i := 12) sc__law_land.nd rfl (by first | exact Or.inl rfl | exact Or.inr rfl))) (fun _ _ _ _ _ => (pts_one (pt_chain op_lt op_lt pe_int (pe_callB (show CallR _ (.builtin "len") (rLen_ K) from call_len_seq) (by rfl) m_len boot_len (pa_cons (pv 12) pa_nil)) (pv 1)))) (fun _ _ _ _ _ => (pv 12)))
 (pss_one (ps_ret (pe_tup (pa_cons (pv 1) (pa_cons (pe_callB cr_sortedPO (by rfl) m_sorted boot_sorted (pa_cons (pv 8) pa_nil)) (pa_cons (pe_callTy call_list_of (by rfl) m_list boot_list (pa_cons (pe_call Gpk (hr.mono (by decide)) (by rfl) gpk kpk bpk .nil pass0 (pa_cons (pv 0) (pa_cons (pv 11) pa_nil))) pa_nil)) pa_nil)))))))))))), ?_⟩
    have l10 : ∀ {xs : List Nat} {k : Nat}, xs.length ≤ k → k ≤ 1000 → (ints_ xs).length < sizeLine := fun {xs k} h1 h2 => by
      unfold ints_; rw [List.length_map]; exact small1000 (Nat.le_trans h1 h2)
    refine ⟨by show 0 ≤ sizeLine; decide, fun N0 nN => ?_⟩
    refine ⟨_, rfl, _, rfl, fun rg nrg => ?_⟩
    refine ⟨rg, n, rfl, upd_same, by omega, fun Lf nLf => ?_⟩
    have e1 : Same H (upd H N0 (.lst [])) := same_new (Same.refl H) nN
    have e2 : Same H (upd (upd H N0 (.lst [])) rg (.rng 0 n)) := same_new e1 nrg
    have e3 : Same H (upd (upd (upd H N0 (.lst [])) rg (.rng 0 n)) Lf (.lst (K7E.upTo n))) := same_new e2 nLf
    have hN3 : upd (upd (upd H N0 (.lst [])) rg (.rng 0 n)) Lf (.lst (K7E.upTo n)) N0 = some (.lst []) := same_new (Same.refl _) nLf _ _ (same_new (Same.refl _) nrg _ _ upd_same)
    have hL3 : upd (upd (upd H N0 (.lst [])) rg (.rng 0 n)) Lf (.lst (K7E.upTo n)) Lf = some (.lst (ints_ (List.range n))) := upd_same
    have fN : H N0 = none := nN
    have fL : H Lf = none := e2.free nLf
    have nNL : N0 ≠ Lf := ne_of_none (same_new (o := .rng 0 n) (Same.refl _) nrg _ _ upd_same) nLf
    obtain ⟨hNh, hNc⟩ := hh.ne fN
    obtain ⟨hLh, hLc⟩ := hh.ne fL
    generalize upd (upd (upd H N0 (.lst [])) rg (.rng 0 n)) Lf (.lst (K7E.upTo n)) = H3 at e3 hN3 hL3 ⊢
    refine ⟨by show 0 ≤ sizeLine; decide, fun C0 nC => ?_⟩
    have nNC : N0 ≠ C0 := ne_of_none hN3 nC
    have nLC : Lf ≠ C0 := ne_of_none hL3 nC
    have fC : H C0 = none := e3.free nC
    obtain ⟨hCh, hCc⟩ := hh.ne fC
    have eC := same_new (o := .lst []) (Same.refl H3) nC
    have hC3 : upd H3 C0 (.lst []) C0 = some (.lst []) := upd_same
    have hN3 := eC _ _ hN3
    have hL3 := eC _ _ hL3
    have e3 := e3.trans eC
    generalize upd H3 C0 (.lst []) = H3' at e3 hN3 hL3 hC3 ⊢
    refine ⟨by show 3 ≤ sizeLine; decide, fun t0 nt0 => ?_⟩
    have eT := same_new (o := .tup [.ref N0, .ref Lf, .ref C0]) (Same.refl H3') nt0
    have hN3 := eT _ _ hN3
    have hL3 := eT _ _ hL3
    have hC3 := eT _ _ hC3
    have e3 := e3.trans eT
    have hT3 : upd H3' t0 (.tup [.ref N0, .ref Lf, .ref C0]) t0 = some (.tup [.ref N0, .ref Lf, .ref C0]) := upd_same
    generalize upd H3' t0 (.tup [.ref N0, .ref Lf, .ref C0]) = H3'' at e3 hN3 hL3 hC3 hT3 ⊢
    refine ⟨t0, _, rfl, .inl (.inl hT3), rfl, _, _, rfl, _, _, rfl, _, _, rfl, rfl, ?_⟩
    refine ⟨fun σ' H' => ∃ nm y4, σ' = [some (.ref h), some (.int (n : Nat)), some (.ref N0), some (.ref Lf), some (.ref C0), y4, none, none, none, none, none, none, none] ∧ Stay h c H H' ∧ H' N0 = some (.lst (ints_ nm)) ∧ H' C0 = some (.lst []) ∧ nm.Perm (List.range n), ?_, ?_⟩
    · refine ⟨_, rfl, _, rfl, by omega, by omega, for_range (fun k σ' H' => k ≤ n ∧ ∃ nm lf y4, σ' = [some (.ref h), some (.int (n : Nat)), some (.ref N0), some (.ref Lf), some (.ref C0), y4, none, none, none, none, none, none, none] ∧ Stay h c H H' ∧ H' N0 = some (.lst (ints_ nm)) ∧ H' Lf = some (.lst (ints_ lf)) ∧ H' C0 = some (.lst []) ∧ (nm ++ lf).Perm (List.range n) ∧ nm.length = k)
        ⟨Nat.zero_le _, [], List.range n, none, rfl, .of_same hh e3, hN3, hL3, hC3, List.Perm.refl _, rfl⟩ (fun k σ' H' hk pv => ?_) (fun σ' H' pv => ?_)⟩
      · obtain ⟨_, nm, lf, y4, rfl, st, hN, hL, hC, hp, hl⟩ := pv
        have hk : k < n := by simpa using hk
        have hll : lf.length = n - k := by
          have := hp.length_eq
          rw [List.length_append, List.length_range] at this
          omega
        have hil : (ints_ lf).length = lf.length := by unfold ints_; rw [List.length_map]
        refine ⟨_, rfl, .inl ⟨rfl, _, .inl (.inl hN)⟩, _, rfl, .inl ⟨rfl, _, .inl (.inl hL)⟩, _, rfl, _, rfl, Lf, _, rfl, .inl (.inl (.inl hL)), h, c, _, rfl, st.hand, by omega, ?_, fun H4 x d x0 x1 => ?_⟩
        · exact Int.lt_of_le_of_lt (show (((ints_ lf).length : Nat) : Int) ≤ 1000 by omega) (by decide)
        obtain ⟨j, rfl⟩ : ∃ j : Nat, x = (j : Int) := ⟨x.toNat, by omega⟩
        have hj : j < lf.length := by omega
        have hN4 : H4 N0 = some (.lst (ints_ nm)) := by rw [d.but N0 hNh]; exact hN
        have hL4 : H4 Lf = some (.lst (ints_ lf)) := by rw [d.but Lf hLh]; exact hL
        refine ⟨Lf, _, _, j, .int (lf[j] : Nat), rfl, rfl, hL4, by omega, by omega, (ixN_seq (ixN_nat (by omega))).1, ?_, ?_⟩
        · unfold ints_
          rw [List.getElem?_map, List.getElem?_eq_getElem hj]
          rfl
        have hN5 : upd H4 Lf (.lst ((ints_ lf).eraseIdx j)) N0 = some (.lst (ints_ nm)) := by rw [upd_ne nNL]; exact hN4
        refine ⟨N0, _, _, rfl, rfl, hN5, l10 (Nat.le_of_eq hl) (by omega), ?_⟩
        refine ⟨by omega, nm ++ [lf[j]], lf.eraseIdx j, _, rfl, ⟨fun b o nb hb => ?_, hh, ((d.hand.upd hLh hLc).upd hNh hNc)⟩, ?_, ?_, by rw [upd_ne nNC.symm, upd_ne nLC.symm, d.but C0 hCh]; exact hC, (KL.pop_perm hj).trans hp, by rw [List.length_append, hl]; rfl⟩
        · rw [upd_ne (ne_of_none hb fN), upd_ne (ne_of_none hb fL), d.but b nb]
          exact st.but b o nb hb
        · rw [upd_same]
          unfold ints_
          rw [List.map_append]
          rfl
        · rw [upd_ne nNL.symm, upd_same]
          unfold ints_
          rw [map_erase]
      · obtain ⟨_, nm, lf, y4, rfl, st, hN, hL, hC, hp, hl⟩ := pv
        have hl : nm.length = n := by simpa using hl
        have l0 : lf = [] := by
          have := hp.length_eq
          rw [List.length_append, List.length_range] at this
          exact List.length_eq_zero_iff.mp (by omega)
        subst l0
        rw [List.append_nil] at hp
        exact ⟨nm, y4, rfl, st, hN, hC, hp⟩
    rintro _ H5 ⟨nm, y4, rfl, st5, hN5, hC5, hp⟩
    -- the tree
    refine ⟨fun σ' H' => ∃ ts cs y4, σ' = [some (.ref h), some (.int (n : Nat)), some (.ref N0), some (.ref Lf), some (.ref C0), y4, none, none, none, none, none, none, none] ∧ Stay h c H H' ∧ H' N0 = some (.lst (ints_ nm)) ∧ H' C0 = some (.lst (ts.map V.ref)) ∧ TAt H' ts (pairs cs) ∧ Tree n n cs ∧ cs.length ≤ 10, ?_, ?_⟩
    · refine ⟨_, rfl, 1, _, rfl, ⟨by decide, by decide, by omega, by omega⟩, for_range (lo := 1) (fun k σ' H' => k + 1 ≤ n ∧ ∃ ts cs y4, σ' = [some (.ref h), some (.int (n : Nat)), some (.ref N0), some (.ref Lf), some (.ref C0), y4, none, none, none, none, none, none, none] ∧ Stay h c H H' ∧ H' N0 = some (.lst (ints_ nm)) ∧ H' C0 = some (.lst (ts.map V.ref)) ∧ TAt H' ts (pairs cs) ∧ Tree n (k + 1) cs ∧ cs.length = k)
        ⟨by omega, [], [], y4, rfl, st5, hN5, hC5, .nil, Tree.nil n, rfl⟩ (fun k σ' H' hk pv => ?_) (fun σ' H' pv => ?_)⟩
      · obtain ⟨_, ts, cs, y4, rfl, st, hN, hC, tC, tr, hl⟩ := pv
        have hk : k + 1 < n := by omega
        refine ⟨_, rfl, .inl ⟨rfl, _, .inl (.inl hC)⟩, _, rfl, _, rfl, _, rfl, h, c, _, rfl, st.hand, by omega, ?_, fun H6 x d x0 x1 => ?_⟩
        · exact Int.lt_of_le_of_lt (show (1 : Int) + (k : Nat) ≤ 1000 by omega) (by decide)
        obtain ⟨j, rfl⟩ : ∃ j : Nat, x = (j : Int) := ⟨x.toNat, by omega⟩
        have hj : j < k + 1 := by omega
        refine ⟨by show 2 ≤ sizeLine; decide, fun t nt => ?_⟩
        have y6 := (Stay.of_drawn st.hand d).same (same_new (o := .tup [.int (1 + (k : Nat)), .int (j : Nat)]) (Same.refl H6) nt)
        have hC6 := y6.but C0 _ hCh hC
        have hN6 := y6.but N0 _ hNh hN
        have ltx : ts.length = k := by rw [tC.len]; unfold pairs; rw [List.length_map, hl]
        refine ⟨C0, _, _, rfl, rfl, hC6, by rw [List.length_map, ltx]; exact small1000 (by omega), ?_⟩
        have up : ∀ b xs, upd H6 t (.tup [.int (1 + (k : Nat)), .int (j : Nat)]) b = some (.tup xs) → upd (upd H6 t (.tup [.int (1 + (k : Nat)), .int (j : Nat)])) C0 (.lst (ts.map V.ref ++ [.ref t])) b = some (.tup xs) := fun b xs hb => by
          rw [upd_ne (fun z => by rw [z, hC6] at hb; cases hb)]
          exact hb
        have tC6 : TAt (upd H6 t (.tup [.int (1 + (k : Nat)), .int (j : Nat)])) ts (pairs cs) := tC.mono fun b xs hb => y6.but b _ (st.hand.net hb) hb
        refine ⟨by omega, ts ++ [t], cs ++ [(k + 1, j)], _, rfl, ⟨fun b o nb hb => ?_, hh, y6.hand.upd hCh hCc⟩, ?_, ?_, ?_, tr.add hk hj, by rw [List.length_append, hl]; rfl⟩
        · rw [upd_ne (ne_of_none hb fC)]
          exact y6.but b o nb (st.but b o nb hb)
        · rw [upd_ne nNC]; exact hN6
        · rw [upd_same, List.map_append]; rfl
        · unfold pairs
          rw [List.map_append]
          refine (tC6.mono up).append (.cons (up _ _ ?_) .nil)
          rw [upd_same, show (1 : Int) + (k : Nat) = ((k + 1 : Nat) : Int) by omega]
          rfl
      · obtain ⟨hk, ts, cs, y4, rfl, st, hN, hC, tC, tr, hl⟩ := pv
        refine ⟨ts, cs, y4, rfl, st, hN, hC, tC, ?_, by omega⟩
        have e : ((n : Int) - 1).toNat + 1 = n := by omega
        rw [e] at tr
        exact tr
    rintro _ H6 ⟨ts, cs, y4, rfl, st6, hN6, hC6, tC6, tr6, ln6⟩
    -- more couples
    refine ⟨fun σ' H' => ∃ ts cs y6 y7, σ' = [some (.ref h), some (.int (n : Nat)), some (.ref N0), some (.ref Lf), some (.ref C0), y4, y6, y7, none, none, none, none, none] ∧ Stay h c H H' ∧ H' N0 = some (.lst (ints_ nm)) ∧ H' C0 = some (.lst (ts.map V.ref)) ∧ TAt H' ts (pairs cs) ∧ Tree n n cs ∧ cs.length ≤ 60, ?_, ?_⟩
    · refine ⟨_, rfl, 2, _, rfl, ⟨by decide, by decide, by omega, by omega⟩, for_range (lo := 2) (fun k σ' H' => k ≤ 5 ∧ ∃ ts cs y6 y7, σ' = [some (.ref h), some (.int (n : Nat)), some (.ref N0), some (.ref Lf), some (.ref C0), y4, y6, y7, none, none, none, none, none] ∧ Stay h c H H' ∧ H' N0 = some (.lst (ints_ nm)) ∧ H' C0 = some (.lst (ts.map V.ref)) ∧ TAt H' ts (pairs cs) ∧ Tree n n cs ∧ cs.length ≤ 10 + 10 * k)
        ⟨by omega, ts, cs, none, none, rfl, st6, hN6, hC6, tC6, tr6, ln6⟩ (fun k σ' H' hk pv => ?_) (fun σ' H' pv => ?_)⟩
      · obtain ⟨_, ts, cs, y6, y7, rfl, st, hN, hC, tC, tr, ln⟩ := pv
        have hk : 2 + k < n := by omega
        refine ⟨_, rfl, _, rfl, by omega, by omega, for_range (fun j σ' H' => ∃ ts cs y7, σ' = [some (.ref h), some (.int (n : Nat)), some (.ref N0), some (.ref Lf), some (.ref C0), y4, some (.int (2 + (k : Nat))), y7, none, none, none, none, none] ∧ Stay h c H H' ∧ H' N0 = some (.lst (ints_ nm)) ∧ H' C0 = some (.lst (ts.map V.ref)) ∧ TAt H' ts (pairs cs) ∧ Tree n n cs ∧ cs.length ≤ 10 + 10 * k + j)
          ⟨ts, cs, y7, rfl, st, hN, hC, tC, tr, by omega⟩ (fun j σ' H' hj pv => ?_) (fun σ' H' pv => ?_)⟩
        · obtain ⟨ts, cs, y7, rfl, st, hN, hC, tC, tr, ln⟩ := pv
          have hj : j < 2 + k := by omega
          have ltx : ts.length = cs.length := by rw [tC.len]; unfold pairs; rw [List.length_map]
          refine ⟨_, rfl, _, rfl, by show 2 ≤ sizeLine; decide, fun t nt => ?_⟩
          have sT := same_new (o := .tup [.int (2 + (k : Nat)), .int (0 + (j : Nat))]) (Same.refl H') nt
          have stT := st.same sT
          refine ⟨_, rfl, intD [2 + k, j], _, .tup (xs := [.int (2 + (k : Nat)), .int (0 + (j : Nat))]) (.inl (.inl upd_same)) (dp_pair k j), .lst (.inl (.inl (sT _ _ hC))) (dp_rows (tC.same sT)), shaped_ints _, shaped_rows _, ?_⟩
          rw [any_rows]
          refine ⟨_, rfl, ite2 (fun q1 => ?_) (fun q1 => ?_)⟩
          · have hnm : (2 + k, j) ∉ cs := by
              intro z
              rw [decide_eq_true z] at q1
              cases q1
            refine ⟨_, rfl, h, c, _, rfl, stT.hand, by decide, by decide, fun H7 x d x0 x1 => ?_⟩
            have st7 := stT.drawn d
            have hC7 : H7 C0 = some (.lst (ts.map V.ref)) := by rw [d.but C0 hCh]; exact sT _ _ hC
            have hN7 : H7 N0 = some (.lst (ints_ nm)) := by rw [d.but N0 hNh]; exact sT _ _ hN
            have tC7 : TAt H7 ts (pairs cs) := (tC.same sT).mono fun b xs hb => by rw [d.but b (stT.hand.net hb)]; exact hb
            refine ⟨rfl, _, rfl, ite2 (fun q2 => ?_) (fun q2 => ?_)⟩
            · refine ⟨_, rfl, .inl ⟨rfl, _, .inl (.inl hC7)⟩, _, rfl, _, rfl, by show 2 ≤ sizeLine; decide, fun t2 nt2 => ?_⟩
              have sU := same_new (o := .tup [.int (2 + (k : Nat)), .int (0 + (j : Nat))]) (Same.refl H7) nt2
              refine ⟨C0, _, _, rfl, rfl, sU _ _ hC7, by rw [List.length_map, ltx]; exact small1000 (by omega), ?_⟩
              have up : ∀ b xs, upd H7 t2 (.tup [.int (2 + (k : Nat)), .int (0 + (j : Nat))]) b = some (.tup xs) → upd (upd H7 t2 (.tup [.int (2 + (k : Nat)), .int (0 + (j : Nat))])) C0 (.lst (ts.map V.ref ++ [.ref t2])) b = some (.tup xs) := fun b xs hb => by
                rw [upd_ne (fun z => by rw [z, sU _ _ hC7] at hb; cases hb)]
                exact hb
              refine ⟨ts ++ [t2], cs ++ [(2 + k, j)], _, rfl, ⟨fun b o nb hb => ?_, hh, (st7.same sU).hand.upd hCh hCc⟩, ?_, ?_, ?_, tr.more hj hk hnm, by rw [List.length_append, List.length_singleton]; omega⟩
              · rw [upd_ne (ne_of_none hb fC)]
                exact (st7.same sU).but b o nb hb
              · rw [upd_ne nNC]; exact sU _ _ hN7
              · rw [upd_same, List.map_append]; rfl
              · unfold pairs
                rw [List.map_append]
                refine ((tC7.same sU).mono up).append (.cons (up _ _ ?_) .nil)
                rw [upd_same, show (2 : Int) + (k : Nat) = ((2 + k : Nat) : Int) by omega, Int.zero_add]
                rfl
            · exact ⟨ts, cs, _, rfl, st7, hN7, hC7, tC7, tr, by omega⟩
          · exact ⟨ts, cs, _, rfl, stT, sT _ _ hN, sT _ _ hC, tC.same sT, tr, by omega⟩
        · obtain ⟨ts, cs, y7, rfl, st, hN, hC, tC, tr, ln⟩ := pv
          exact ⟨by omega, ts, cs, _, _, rfl, st, hN, hC, tC, tr, by omega⟩
      · obtain ⟨hk, ts, cs, y6, y7, rfl, st, hN, hC, tC, tr, ln⟩ := pv
        exact ⟨ts, cs, y6, y7, rfl, st, hN, hC, tC, tr, by omega⟩
    rintro _ H8 ⟨ts, cs, y6, y7, rfl, st8, hN8, hC8, tC8, tr8, ln8⟩
    -- under their names
    have nml : nm.length = n := by rw [hp.length_eq, List.length_range]
    have ltx : ts.length = cs.length := by rw [tC8.len]; unfold pairs; rw [List.length_map]
    refine ⟨_, rfl, C0, rfl, ⟨_, .inl (.inl hC8)⟩, fun D hD => lc_list (xs := ts.map V.ref) (fun j H2 => Same H8 H2 ∧ ∃ us, H2 D = some (.lst (us.map V.ref)) ∧ TAt H2 us (pairs ((cs.take j).map fun e => KL.couple nm e.1 e.2)) ∧ us.length ≤ j) ⟨same_new (Same.refl H8) hD, [], upd_same, .nil, Nat.le_refl _⟩ (fun j H2 _ pv => .inl (.inl (pv.1 _ _ hC8))) (fun j x H2 hx pv => ?_) (fun H9 pv => ?_)⟩
    · obtain ⟨e, us, hD2, tD, lu⟩ := pv
      rw [List.getElem?_map] at hx
      obtain ⟨t, ht, rfl⟩ := Option.map_eq_some_iff.mp hx
      obtain ⟨l, el, hl⟩ := tC8.get ht
      unfold pairs at el
      rw [List.getElem?_map] at el
      obtain ⟨ab, eab, rfl⟩ := Option.map_eq_some_iff.mp el
      obtain ⟨a, b'⟩ := ab
      obtain ⟨t1, t2, t3⟩ := tr8.lt _ (List.mem_of_getElem? eab)
      have t1 : b' < a := t1
      have t3 : a < n := t3
      have jl : j < 60 := by
        have := (List.getElem?_eq_some_iff.mp eab).1
        omega
      have at_ : ∀ x, x < n → atI (ints_ nm) ((x : Nat) : Int) = some (.int (nm.getD x 0 : Nat)) := fun x hx' => by
        refine atI_nat ?_
        unfold ints_
        rw [List.getElem?_map, List.getElem?_eq_getElem (by omega), List.getD_eq_getElem?_getD, List.getElem?_eq_getElem (by omega)]
        rfl
      have hN9 := e _ _ hN8
      refine ⟨t, [.int (a : Nat), .int (b' : Nat)], rfl, .inl (.inl (e _ _ hl)), rfl, _, _, rfl, _, _, rfl, rfl, rfl, ?_⟩
      refine ⟨_, rfl, _, rfl, N0, _, _, _, rfl, rfl, .inl (.inl hN9), at_ a t3, _, rfl, _, rfl, N0, _, _, _, rfl, rfl, .inl (.inl hN9), at_ b' (by omega), _, _, rfl, ?_⟩
      refine ⟨_, rfl, _, rfl, N0, _, _, _, rfl, rfl, .inl (.inl hN9), at_ a t3, _, rfl, _, rfl, N0, _, _, _, rfl, rfl, .inl (.inl hN9), at_ b' (by omega), _, _, rfl, ?_⟩
      refine ⟨by show 2 ≤ sizeLine; decide, fun u nu => ?_⟩
      have nDu : D ≠ u := ne_of_none hD2 nu
      refine ⟨_, by rw [upd_ne nDu]; exact hD2, by rw [List.length_map]; exact small1000 (by omega), fun b o hb => ?_, us ++ [u], by rw [upd_same, List.map_append]; rfl, ?_, by rw [List.length_append, List.length_singleton]; omega⟩
      · have h1 := e _ _ hb
        rw [upd_ne (ne_of_none hb hD), upd_ne (ne_of_none h1 nu)]
        exact h1
      · rw [List.take_add_one, eab, List.map_append]
        unfold pairs at tD ⊢
        rw [List.map_append]
        refine (tD.mono fun b xs hb => ?_).append (.cons ?_ .nil)
        · rw [upd_ne (fun z => by rw [z, hD2] at hb; cases hb), upd_ne (ne_of_none hb nu)]
          exact hb
        · have m1 : ∀ x y : Nat, (if (y : Int) < (x : Int) then (y : Int) else (x : Int)) = ((min x y : Nat) : Int) := fun x y => by split <;> omega
          have m2 : ∀ x y : Nat, (if (y : Int) > (x : Int) then (y : Int) else (x : Int)) = ((max x y : Nat) : Int) := fun x y => by split <;> omega
          rw [upd_ne nDu.symm, upd_same, m1, m2]
          rfl
    obtain ⟨e9, us, hD9, tD9, lu9⟩ := pv
    rw [List.length_map, ltx, List.take_length] at tD9
    rw [List.length_map, ltx] at lu9
    have st9 := st8.same e9
    -- the lots
    refine ⟨_, rfl, _, rfl, fun rg nrg => ?_⟩
    refine ⟨rg, n, rfl, upd_same, by omega, fun l0 nl0 => ?_⟩
    have s10 : Same H9 (upd (upd H9 rg (.rng 0 n)) l0 (.lst (K7E.upTo n))) := same_new (same_new (Same.refl H9) nrg) nl0
    refine ⟨l0, n, rfl, n5, upd_same, fun H11 lo ls e11 nlo hlo tlo => ?_⟩
    have e11 := s10.trans e11
    refine ⟨lo, rfl, ⟨_, .inl (.inl hlo)⟩, fun D2 hD2 => lc_list (xs := ls.map V.ref) (fun j H2 => Same H11 H2 ∧ ∃ us, H2 D2 = some (.lst (us.map V.ref)) ∧ TAt H2 us (((lotsTo (List.range n) n).take j).filter fun l => decide (0 < l.length) && decide (l.length < n)) ∧ us.length ≤ j) ⟨same_new (Same.refl H11) hD2, [], upd_same, .nil, Nat.le_refl _⟩ (fun j H2 _ pv => .inl (.inl (pv.1 _ _ hlo))) (fun j x H2 hx pv => ?_) (fun H12 pv => ?_)⟩
    · obtain ⟨e, us, hD3, tD, lu⟩ := pv
      rw [List.getElem?_map] at hx
      obtain ⟨t, ht, rfl⟩ := Option.map_eq_some_iff.mp hx
      obtain ⟨l, el, hl⟩ := tlo.get ht
      have jl : j < 32 := by
        have h1 := (List.getElem?_eq_some_iff.mp el).1
        have h2 : (lotsTo (List.range n) n).length ≤ 32 := (level_len ⟨n, by omega⟩ ⟨n, by omega⟩).2
        omega
      have hll : (l.map fun c => V.int (c : Nat)).length = l.length := List.length_map ..
      have hl2 := e _ _ hl
      have f1 : ((lotsTo (List.range n) n).take (j + 1)).filter (fun l => decide (0 < l.length) && decide (l.length < n)) = ((lotsTo (List.range n) n).take j).filter (fun l => decide (0 < l.length) && decide (l.length < n)) ++ (if (decide (0 < l.length) && decide (l.length < n)) = true then [l] else []) := by
        rw [List.take_add_one, el, List.filter_append]
        congr 1
        show List.filter _ [l] = _
        rw [List.filter_cons]
        rfl
      refine ⟨rfl, _, rfl, t, _, rfl, .inr (.inl (.inl hl2)), _, _, rfl, rfl, _, rfl, ite2 (fun q1 => ?_) (fun q1 => ?_)⟩
      · have q1' : 0 < l.length := by
          have z : (0 : Int) < (((l.map fun c => V.int (c : Nat)).length : Nat) : Int) := of_decide_eq_true q1
          omega
        refine ⟨_, rfl, _, _, rfl, rfl, _, rfl, ite2 (fun q2 => ?_) (fun q2 => ?_)⟩
        · have q2' : l.length < n := by
            have z : (((l.map fun c => V.int (c : Nat)).length : Nat) : Int) < (n : Nat) := of_decide_eq_true q2
            omega
          refine ⟨_, rfl, _, hD3, by rw [List.length_map]; exact small1000 (by omega), fun b o hb => ?_, us ++ [t], by rw [upd_same, List.map_append]; rfl, ?_, by rw [List.length_append, List.length_singleton]; omega⟩
          · rw [upd_ne (ne_of_none hb hD2)]
            exact e _ _ hb
          · rw [f1, if_pos (by rw [decide_eq_true q1', decide_eq_true q2']; rfl)]
            have up : ∀ b xs, H2 b = some (.tup xs) → upd H2 D2 (.lst (us.map V.ref ++ [.ref t])) b = some (.tup xs) := fun b xs hb => by
              rw [upd_ne (fun z => by rw [z, hD3] at hb; cases hb)]
              exact hb
            exact (tD.mono up).append (.cons (up _ _ hl2) .nil)
        · have q2' : ¬ l.length < n := fun z => q2 (decide_eq_true (by omega))
          refine ⟨e, us, hD3, ?_, by omega⟩
          rw [f1, if_neg (by rw [decide_eq_false q2', Bool.and_false]; decide), List.append_nil]
          exact tD
      · have q1' : ¬ 0 < l.length := fun z => q1 (decide_eq_true (by omega))
        refine ⟨_, rfl, iteF ?_⟩
        refine ⟨e, us, hD3, ?_, by omega⟩
        rw [f1, if_neg (by rw [decide_eq_false q1', Bool.false_and]; decide), List.append_nil]
        exact tD
    obtain ⟨e12, vs, hD12, tD12, lv12⟩ := pv
    have e12 := e11.trans e12
    have lsl : ls.length = (lotsTo (List.range n) n).length := tlo.len
    rw [List.length_map, lsl, List.take_length] at tD12
    have st12 := st9.same e12
    have hR12 := e12 _ _ hD9
    have tR12 := tD9.same e12
    -- the land
    have okl : LandOk0 n (cs.map fun e => KL.couple nm e.1 e.2) := tree_land hp tr8
    refine ⟨_, rfl, _, rfl, D, _, kfOf H12, rfl, .inl (.inl hR12), fun x hx => ?_, fun ys p srt stb np => ?_⟩
    · obtain ⟨a, e, rfl, ha⟩ := g_mem tR12 x hx
      exact ⟨a, rfl, by rw [kf_at ha]; exact ha⟩
    have hys := fun x (hx : x ∈ ys) => g_mem tR12 x (stb.perm.mem_iff.mp hx)
    obtain ⟨ts', rfl, tY⟩ := tat_of ys hys
    have pe : ((ts'.map V.ref).map (gOf H12)).Perm (cs.map fun e => KL.couple nm e.1 e.2) := by
      rw [← g_map tR12]
      exact stb.perm.map _
    have ok : LandOk n ((ts'.map V.ref).map (gOf H12)) := ⟨fun e he => okl.lt e (pe.mem_iff.mp he), pe.nodup_iff.mpr okl.nd, sorted_of _ hys srt, fun S h0 hS => okl.conn S h0 fun e he => hS e (pe.mem_iff.mpr he)⟩
    have s13 := same_new (o := .lst (ts'.map V.ref)) (Same.refl H12) np
    obtain ⟨hph, _⟩ := st12.hand.ne np
    have st13 := st12.same s13
    have hp13 : upd H12 p (.lst (ts'.map V.ref)) p = some (.lst (ts'.map V.ref)) := upd_same
    have tY13 := tY.same s13
    have hD13 := s13 _ _ hD12
    have tD13 := tD12.same s13
    generalize (ts'.map V.ref).map (gOf H12) = es at ok tY13 pe tY
    generalize upd H12 p (.lst (ts'.map V.ref)) = H13 at s13 st13 hp13 tY13 hD13 tD13 ⊢
    obtain ⟨k4, k0, k32⟩ := lots_some ⟨n, by omega⟩ n2
    have hvl : vs.length = ((lotsTo (List.range n) n).filter fun l => decide (0 < l.length) && decide (l.length < n)).length := tD13.len
    have k4 : vs.length ≠ 4 := by rw [hvl]; exact k4
    have k0 : 0 < vs.length := by rw [hvl]; exact k0
    have k32 : vs.length ≤ 32 := by rw [hvl]; exact k32
    refine ⟨_, rfl, _, rfl, h, c, D2, _, rfl, st13.hand, st13.hand.nel hD13 (notHand_len _ (by rw [List.length_map]; exact k4)), hD13, by rw [List.length_map]; exact k0, by rw [List.length_map]; omega, fun H14 j v d ej => ?_⟩
    rw [List.getElem?_map] at ej
    obtain ⟨t, ht, rfl⟩ := Option.map_eq_some_iff.mp ej
    obtain ⟨lot, elot, hlot⟩ := tD13.get ht
    have st14 := st13.drawn d
    have keep : ∀ {b : Addr} {xs : List V}, H13 b = some (.tup xs) → H14 b = some (.tup xs) := fun {b xs} hb => by rw [d.but b (st13.hand.net hb)]; exact hb
    have hp14 : H14 p = some (.lst (ts'.map V.ref)) := by rw [d.but p hph]; exact hp13
    have tY14 := tY13.mono fun b xs hb => keep hb
    refine ⟨t, _, rfl, .inr (.inl (.inl (keep hlot))), fun sA nsA => ?_⟩
    refine ⟨by show 3 ≤ sizeLine; decide, fun q0 nq0 => ?_⟩
    have s15 := same_new (o := .lst (lot.map fun c => .int (c : Nat))) (Same.refl H14) nsA
    have s16 := same_new (o := .tup [.int (n : Nat), .ref p, .ref sA]) s15 nq0
    have nsq : sA ≠ q0 := ne_of_none (show upd H14 sA (.lst (lot.map fun c => .int (c : Nat))) sA = some (.lst (lot.map fun c => .int (c : Nat))) from upd_same) nq0
    have hmem := List.mem_filter.mp (List.mem_of_getElem? elot)
    obtain ⟨hm1, hm2⟩ := hmem
    have hm2 := Bool.and_eq_true_iff.mp hm2
    exact q _ q0 es lot (st14.same s16) ((st14.same s15).free nq0) ⟨⟨p, sA, ts', upd_same, s16 _ _ hp14, tY14.same s16, by rw [upd_ne nsq, upd_same]; rfl⟩, ok, hm1, of_decide_eq_true hm2.1, of_decide_eq_true hm2.2⟩
end
end K7
end
/-! ## P4 -/
section
open PySem PySem.Spec PyProof.Rows L2
namespace K7
abbrev N_is_whole : List Str := ["thing", "low", "high"]
abbrev s_is_whole : Stmt := topS 12
theorem sc_is_whole : FnScope ["thing", "low", "high"] ["thing", "low", "high"] (defScope s_is_whole) := ⟨rfl, rfl, rfl, by decide +kernel, rfl, by decide +kernel, by decide +kernel⟩
abbrev N_is_sequence : List Str := ["thing"]
abbrev s_is_sequence : Stmt := topS 11
theorem sc_is_sequence : FnScope ["thing"] ["thing"] (defScope s_is_sequence) := ⟨rfl, rfl, rfl, by decide +kernel, rfl, by decide +kernel, by decide +kernel⟩
section
variable {P : Program} {w : World} {K : PySem.W.Frag} {mg : Str → Option Value} {base : Heap}
/-! is_whole -/
def wholeV (x : V) (lo hi : Int) : Bool := match x with
  | .int i => decide (lo ≤ i) && decide (i ≤ hi)
  | _ => false
theorem wholeV_int (i lo hi : Int) : wholeV (.int i) lo hi = (decide (lo ≤ i) && decide (i ≤ hi)) := rfl
inductive Flat4 : V → Prop where
  | non : Flat4 .non
  | bl (b : Bool) : Flat4 (.bl b)
  | int (i : Int) : Flat4 (.int i)
  | str (z : Str) : Flat4 (.str z)
/-- what a row of the law holds -/
inductive Thing (H : Hp) : V → Prop where
  | flat {x : V} (h : Flat4 x) : Thing H x
  | tup {a : Addr} {xs : List V} (h : H a = some (.tup xs)) : Thing H (.ref a)
  | lst {a : Addr} {xs : List V} (h : H a = some (.lst xs)) : Thing H (.ref a)
theorem Thing.same {H H' : Hp} {x : V} (h : Thing H x) (e : Same H H') : Thing H' x := by
  cases h with
  | flat h => exact .flat h
  | tup h => exact .tup (e _ _ h)
  | lst h => exact .lst (e _ _ h)
def spWhole : Sp := fun vs H Q _ => ∃ (x : V) (lo hi : Int), vs = [x, .int lo, .int hi] ∧ Thing H x ∧ Q (.bl (wholeV x lo hi)) H
theorem ok_whole {f : Addr} {fd : FuncData} (F : Fun K "is_whole" "is_whole" s_is_whole f fd) (m_isinstance : mg "isinstance" = none) (m_int : mg "int" = none) (m_bool : mg "bool" = none) : FnOk P w K mg base CX0 1 f fd ["thing", "low", "high"] spWhole := by
  refine F.ok sc_is_whole (fun vs H Q E h => ?_) (fun cdv A outer s H vs Q E hr h => ?_)
  · obtain ⟨x, lo, hi, rfl, _⟩ := h
    rfl
  · obtain ⟨x, lo, hi, rfl, hx, q⟩ := h
    refine ⟨_, (pss_one (ps_ret (pe_and (pe_callB call_isi (by rfl) m_isinstance boot_isinstance (pa_cons (pv 0) (pa_cons (pe_bltn (v := .ty "int") (by rfl) m_int boot_int rfl) pa_nil))) (pe_and (pe_not (pe_callB call_isi (by rfl) m_isinstance boot_isinstance (pa_cons (pv 0) (pa_cons (pe_bltn (v := .ty "bool") (by rfl) m_bool boot_bool rfl) pa_nil)))) (pe_one (pe_chain op_le op_le (pv 1) (pv 0) (pv 2))))))), ?_⟩
    rcases hx with ⟨hx⟩ | hx | hx
    rotate_left
    · exact ⟨_, rfl, _, _, _, _, _, rfl, .ty _, .base (.tup hx), kit_ty (r := false) (by decide +kernel), false, rfl, q⟩
    · exact ⟨_, rfl, _, _, _, _, _, rfl, .ty _, .base (.lst hx), kit_ty (r := false) (by decide +kernel), false, rfl, q⟩
    cases hx with
    | non => exact ⟨_, rfl, _, _, _, _, _, rfl, .ty _, .base .non, kit_ty (r := false) (by decide +kernel), false, rfl, q⟩
    | bl b => 
      refine ⟨_, rfl, _, _, _, _, _, rfl, .ty _, .base (.bl b), kit_ty (r := true) (by decide +kernel), true, rfl, ?_⟩
      exact ⟨_, rfl, _, _, _, _, _, rfl, .ty _, .base (.bl b), kit_ty (r := true) (by decide +kernel), _, rfl, _, rfl, q⟩
    | str z => exact ⟨_, rfl, _, _, _, _, _, rfl, .ty _, .base (.str z), kit_ty (r := false) (by decide +kernel), false, rfl, q⟩
    | int i =>
      refine ⟨_, rfl, _, _, _, _, _, rfl, .ty _, .base (.int i), kit_ty (r := true) (by decide +kernel), true, rfl, ?_⟩
      refine ⟨_, rfl, _, _, _, _, _, rfl, .ty _, .base (.int i), kit_ty (r := false) (by decide +kernel), _, rfl, _, rfl, ?_⟩
      refine ⟨_, rfl, _, rfl, _, _, rfl, rfl, _, rfl, ite2 (fun e => ?_) (fun e => ?_)⟩
      · rw [wholeV_int, e, Bool.true_and] at q
        exact ⟨_, rfl, _, _, rfl, rfl, q⟩
      · rw [wholeV_int, Bool.eq_false_iff.mpr e, Bool.false_and] at q
        exact q

/-! is_sequence -/
/-- a tuple or a list -/
def SqA (K : PySem.W.Frag) (H : Hp) (a : Addr) (xs : List V) : Prop := SqL K H a xs ∨ SqT K H a xs
def spSeq (K : PySem.W.Frag) : Sp := fun vs H Q _ => ∃ (x : V) (t : String) (b : Bool), vs = [x] ∧ (∀ H1, Same H H1 → TyX K H1 x (.type t)) ∧ PySem.W.kitAny K (.type t) [.type "list", .type "tuple"] = some b ∧ ∀ H1, Same H H1 → Q (.bl b) H1
theorem ok_seq {f : Addr} {fd : FuncData} (F : Fun K "is_sequence" "is_sequence" s_is_sequence f fd) (m_isinstance : mg "isinstance" = none) (m_list : mg "list" = none) (m_tuple : mg "tuple" = none) : FnOk P w K mg base CX0 1 f fd ["thing"] (spSeq K) := by
  refine F.ok sc_is_sequence (fun vs H Q E h => ?_) (fun cdv A outer s H vs Q E hr h => ?_)
  · obtain ⟨x, t, b, rfl, _⟩ := h
    rfl
  · obtain ⟨x, t, b, rfl, ty, k, q⟩ := h
    refine ⟨_, (pss_one (ps_ret (pe_callB call_isiT (by rfl) m_isinstance boot_isinstance (pa_cons (pv 0) (pa_cons (pe_tup (pa_cons (pe_bltn (v := .ty "list") (by rfl) m_list boot_list rfl) (pa_cons (pe_bltn (v := .ty "tuple") (by rfl) m_tuple boot_tuple rfl) pa_nil))) pa_nil))))), ?_⟩
    refine ⟨_, rfl, by show 2 ≤ sizeLine; decide, fun tp np => ?_⟩
    have s1 := same_new (o := .tup [.ty "list", .ty "tuple"]) (Same.refl H) np
    exact ⟨x, tp, _, .type t, _, b, rfl, upd_same, .cons (.ty _) (.cons (.ty _) .nil), ty _ s1, k, q _ s1⟩
theorem any_tup : PySem.W.kitAny K (.type "tuple") [.type "list", .type "tuple"] = some true := kitAny_cons (b := false) (kit_ty (by decide +kernel)) (fun _ => kitAny_cons (b := true) (kit_ty (by decide +kernel)) (fun z => nomatch z) (fun _ => rfl)) (fun z => nomatch z)
theorem any_lst : PySem.W.kitAny K (.type "list") [.type "list", .type "tuple"] = some true := kitAny_cons (b := true) (kit_ty (by decide +kernel)) (fun z => nomatch z) (fun _ => rfl)
theorem any_int : PySem.W.kitAny K (.type "int") [.type "list", .type "tuple"] = some false := kitAny_cons (b := false) (kit_ty (by decide +kernel)) (fun _ => kitAny_cons (b := false) (kit_ty (by decide +kernel)) (fun _ => kitAny_nil) (fun z => nomatch z)) (fun z => nomatch z)
theorem any_str : PySem.W.kitAny K (.type "str") [.type "list", .type "tuple"] = some false := kitAny_cons (b := false) (kit_ty (by decide +kernel)) (fun _ => kitAny_cons (b := false) (kit_ty (by decide +kernel)) (fun _ => kitAny_nil) (fun z => nomatch z)) (fun z => nomatch z)
theorem any_non : PySem.W.kitAny K (.type "NoneType") [.type "list", .type "tuple"] = some false := kitAny_cons (b := false) (kit_ty (by decide +kernel)) (fun _ => kitAny_cons (b := false) (kit_ty (by decide +kernel)) (fun _ => kitAny_nil) (fun z => nomatch z)) (fun z => nomatch z)
theorem any_bool : PySem.W.kitAny K (.type "bool") [.type "list", .type "tuple"] = some false := kitAny_cons (b := false) (kit_ty (by decide +kernel)) (fun _ => kitAny_cons (b := false) (kit_ty (by decide +kernel)) (fun _ => kitAny_nil) (fun z => nomatch z)) (fun z => nomatch z)
end
end K7
end
/-! ## EL -/
section
open PySem PySem.Spec PyProof.Rows L2
namespace K7E
theorem nodup_le {α : Type} [DecidableEq α] : ∀ (l D : List α), l.Nodup → (∀ x ∈ l, x ∈ D) → l.length ≤ D.length
  | [], _, _, _ => Nat.zero_le _
  | x :: l, D, h, m => by
    obtain ⟨h1, h2⟩ := List.nodup_cons.mp h
    have hx := m x List.mem_cons_self
    have z := nodup_le l (D.erase x) h2 fun y hy => (List.mem_erase_of_ne (fun (e : y = x) => h1 (by rw [← e]; exact hy))).mpr (m y (List.mem_cons_of_mem _ hy))
    rw [List.length_erase_of_mem hx] at z
    have := List.length_pos_of_mem hx
    rw [List.length_cons]
    omega
theorem nodup_of_le {α : Type} [DecidableEq α] : ∀ (l D : List α), l.Nodup → (∀ x ∈ l, x ∈ D) → D.length ≤ l.length → D.Nodup
  | [], [], _, _, _ => List.nodup_nil
  | [], _ :: _, _, _, z => absurd z (by rw [List.length_cons, List.length_nil]; omega)
  | x :: l, D, h, m, z => by
    obtain ⟨h1, h2⟩ := List.nodup_cons.mp h
    have hx := m x List.mem_cons_self
    have hl := List.length_erase_of_mem hx
    have sub : ∀ y ∈ l, y ∈ D.erase x := fun y hy => (List.mem_erase_of_ne (fun (e : y = x) => h1 (by rw [← e]; exact hy))).mpr (m y (List.mem_cons_of_mem _ hy))
    rw [List.length_cons] at z
    have hp := List.length_pos_of_mem hx
    have hd := nodup_of_le l (D.erase x) h2 sub (by omega)
    rw [(List.perm_cons_erase hx).nodup_iff, List.nodup_cons]
    refine ⟨fun hm => ?_, hd⟩
    have w := nodup_le (x :: l) (D.erase x) h fun y hy => by
      rcases List.mem_cons.mp hy with rfl | hy
      · exact hm
      · exact sub y hy
    rw [List.length_cons] at w
    omega
section
variable {X : Cx}
/-- len(set(x)), x a tuple of ints: how many there are of them, and all of them only if no two are the same -/
def tLenSetT (K : PySem.W.Frag) (ta : TE) : TE := fun σ H Q => ta σ H fun x H1 => ∃ (l : Addr) (ns : List Int), x = V.ref l ∧ SqT K H1 l (ns.map V.int) ∧ ns.length < 64 ∧ ∀ c : Nat, c ≤ ns.length → (c = ns.length ↔ ns.Nodup) → Q (.int c) H1
theorem pe_lenSetT {a : Expr} {ta : TE} {p p2 q pos : Pos} (hc : X.calm = true) (hg : Gl X "len") (hm : X.mg "len" = none) (hg2 : Gl X "set") (hm2 : X.mg "set" = none) (ha : PE X a ta)
    (na : starEach [a] X.env = (false, eval a X.env) :: starEach [] X.env := by rfl) : PE X (.Call (.Name "len" p) [.Call (.Name "set" p2) [a] [] q] [] pos) (tLenSetT X.K ta) := by
  refine ⟨fun pins s σ H Q I h => ?_⟩
  refine Call_ (ld_blt I hg hm PySem.boot_len ?_)
  refine PyProof.Rows.callWith_builtin1 (PyProof.Rows.args_cons ?_ rfl) rfl rfl
  refine Call_ (ld_blt I hg2 hm2 PyProof.Rows.boot_set ?_)
  refine PyProof.Rows.callWith_type1 (PyProof.Rows.args_cons (thn (ha.run pins s σ H _ I h) fun v s1 ⟨x, H1, I1, r1, q1⟩ => PyProof.Rows.args_nil ?_) na) na rfl
  obtain ⟨l, ns, rfl, hq, h1, q1⟩ := q1
  cases r1
  obtain ⟨its, r, pl, hz⟩ := I1.tuple hq
  have hi : IntsAre its.toArray.toList ns := ints_of_vals r
  refine call_set_tupI ns (I1.ok.hd hc) (show s1.heap.IsTuple l its.toArray from pl) hi (by unfold scanBound; omega) fun h' tk c hS hcn hk => ?_
  refine PyProof.Rows.args_nil ?_
  obtain ⟨o, es, ep, t, ho, hex, hd, g, nd, hm2, hb, hf, hn, hr, hl2⟩ := hS
  have I2 : Inv X pins σ H1 { s1 with heap := h', toks := tk } := I1.kept fun b o e => hk b o e
  have hmem : ∀ k, k ∈ es.toList.map keyOf ↔ k ∈ ns := fun k => by rw [← hm2 k, decide_eq_true_eq]
  have hlen : (es.toList.map keyOf).length = c := by rw [List.length_map, Array.length_toList, hn]
  have key : c = ns.length ↔ ns.Nodup := by
    constructor
    · intro e
      exact nodup_of_le _ _ nd (fun k hk => (hmem k).mp hk) (by rw [hlen, e]; exact Nat.le_refl _)
    · intro hn2
      have w := nodup_le _ _ hn2 fun k hk => (hmem k).mpr hk
      rw [hlen] at w
      omega
  refine call_len_set ho hex hd hf (by rw [hn] <;> omega) ⟨.int c, H1, I2.tok _, ⟨_, by rw [hn]⟩, q1 c hcn key⟩
/-- the same over a list -/
theorem firstMet_nd (val : Nat → Int) : ∀ i, (firstMet val i).Nodup
  | 0 => List.nodup_nil
  | i + 1 => by
    rw [firstMet_succ]
    unfold step_dedup
    split
    · exact firstMet_nd val i
    · rename_i h
      refine List.nodup_append.mpr ⟨firstMet_nd val i, List.nodup_cons.mpr ⟨List.not_mem_nil, List.nodup_nil⟩, fun a ha b hb e => h ?_⟩
      rw [List.mem_singleton] at hb
      exact List.any_eq_true.mpr ⟨a, ha, by rw [e, hb]; exact beq_self_eq_true _⟩
theorem firstMet_mem (ns : List Int) (k : Int) : k ∈ firstMet (fun i => ns.getD i 0) ns.length ↔ k ∈ ns := by
  have e := firstMet_any (fun i => ns.getD i 0) ns.length k
  have em : (List.range ns.length).map (fun i => ns.getD i 0) = ns := by
    refine List.ext_getElem (by rw [List.length_map, List.length_range]) fun j h1 h2 => ?_
    rw [List.getElem_map, List.getElem_range, List.getD_eq_getElem?_getD, List.getElem?_eq_getElem h2]
    rfl
  rw [em] at e
  have w : ∀ l : List Int, l.any (· == k) = true ↔ k ∈ l := fun l => by
    rw [List.any_eq_true]
    exact ⟨fun ⟨x, hx, ex⟩ => by rw [← beq_iff_eq.mp ex]; exact hx, fun hx => ⟨k, hx, beq_self_eq_true _⟩⟩
  rw [← w, ← w, e]
def tLenSetL (K : PySem.W.Frag) (ta : TE) : TE := fun σ H Q => ta σ H fun x H1 => ∃ (l : Addr) (ns : List Int), x = V.ref l ∧ SqL K H1 l (ns.map V.int) ∧ ns.length < 64 ∧ ∀ c : Nat, c ≤ ns.length → (c = ns.length ↔ ns.Nodup) → Q (.int c) H1
theorem pe_lenSetL {a : Expr} {ta : TE} {p p2 q pos : Pos} (hc : X.calm = true) (hg : Gl X "len") (hm : X.mg "len" = none) (hg2 : Gl X "set") (hm2 : X.mg "set" = none) (ha : PE X a ta)
    (na : starEach [a] X.env = (false, eval a X.env) :: starEach [] X.env := by rfl) : PE X (.Call (.Name "len" p) [.Call (.Name "set" p2) [a] [] q] [] pos) (tLenSetL X.K ta) := by
  refine ⟨fun pins s σ H Q I h => ?_⟩
  refine Call_ (ld_blt I hg hm PySem.boot_len ?_)
  refine PyProof.Rows.callWith_builtin1 (PyProof.Rows.args_cons ?_ rfl) rfl rfl
  refine Call_ (ld_blt I hg2 hm2 PyProof.Rows.boot_set ?_)
  refine PyProof.Rows.callWith_type1 (PyProof.Rows.args_cons (thn (ha.run pins s σ H _ I h) fun v s1 ⟨x, H1, I1, r1, q1⟩ => PyProof.Rows.args_nil ?_) na) na rfl
  obtain ⟨l, ns, rfl, hq, h1, q1⟩ := q1
  cases r1
  obtain ⟨its, r, pl, hz⟩ := I1.list hq
  have hl : its.toArray.size = ns.length := by rw [List.size_toArray, ← r.length, List.length_map]
  refine call_set_list (I1.ok.hd hc) pl.isList (ns := ns) (by simpa using r.ints) (by unfold scanBound; omega) fun h' tk hS hk => ?_
  rw [hl] at hS
  have nd := firstMet_nd (fun i => ns.getD i 0) ns.length
  have mm := firstMet_mem ns
  have hcn := firstMet_length_le (fun i => ns.getD i 0) ns.length
  generalize firstMet (fun i => ns.getD i 0) ns.length = L at hS nd mm hcn
  refine PyProof.Rows.args_nil ?_
  obtain ⟨o, es, ep, t, ho, hex, hd, _, _, _, hf, hn⟩ := hS
  have I2 : Inv X pins σ H1 { s1 with heap := h', toks := tk } := I1.kept fun b o e => hk b o (Heap.lt_size e) e
  have key : L.length = ns.length ↔ ns.Nodup := by
    constructor
    · intro e
      exact nodup_of_le _ _ nd (fun k hk => (mm k).mp hk) (by rw [e]; exact Nat.le_refl _)
    · intro hn2
      have w := nodup_le _ _ hn2 fun k hk => (mm k).mpr hk
      omega
  refine call_len_set ho hex hd hf (by rw [hn] <;> omega) ⟨.int L.length, H1, I2.tok _, ⟨_, by rw [hn]⟩, q1 _ hcn key⟩
/-- one of two readings -/
theorem pe_either {e : Expr} {t1 t2 : TE} (a : PE X e t1) (b : PE X e t2) : PE X e (fun σ H Q => t1 σ H Q ∨ t2 σ H Q) := ⟨fun pins s σ H Q I h => h.elim (a.run pins s σ H Q I) (b.run pins s σ H Q I)⟩
theorem pi_either {tg e : Expr} {t1 t2 : TI} (a : PI X tg e t1) (b : PI X tg e t2) : PI X tg e (fun σ H R => t1 σ H R ∨ t2 σ H R) := ⟨fun pins s σ H R I h => h.elim (a.run pins s σ H R I) (b.run pins s σ H R I)⟩
end
end K7E
end
/-! ## P5 -/
section
open PySem PySem.Spec PyProof.Rows L2
namespace K7
abbrev N_are_cells : List Str := ["many", "thing", "least", "cell"]
abbrev s_are_cells : Stmt := topS 13
theorem sc_are_cells : FnScope ["many", "thing", "least", "cell"] ["many", "thing", "least"] (defScope s_are_cells) := ⟨rfl, rfl, rfl, by decide +kernel, rfl, by decide +kernel, by decide +kernel⟩
section
variable {P : Program} {w : World} {K : PySem.W.Frag} {mg : Str → Option Value} {base : Heap}
def intOf : V → Int | .int i => i | _ => 0
/-- what are_cells says of a row -/
def cellsV (many : Int) (xs : List V) (least : Int) : Bool := decide (least ≤ (xs.length : Nat)) && xs.all (fun x => wholeV x 0 (many - 1)) && decide (xs.map intOf).Nodup
theorem whole_int {x : V} {lo hi : Int} (h : wholeV x lo hi = true) : x = .int (intOf x) := by
  unfold wholeV at h
  split at h
  · rfl
  · cases h
def spCells (K : PySem.W.Frag) : Sp := fun vs H Q _ => ∃ (many : Int) (x : V) (least : Int), vs = [.int many, x, .int least] ∧
  ((∃ t : String, (∀ H1, Same H H1 → TyX K H1 x (.type t)) ∧ PySem.W.kitAny K (.type t) [.type "list", .type "tuple"] = some false ∧ ∀ H1, Same H H1 → Q (.bl false) H1) ∨
   (∃ (a : Addr) (xs : List V), x = .ref a ∧ (H a = some (.tup xs) ∨ H a = some (.lst xs)) ∧ (∀ y ∈ xs, Thing H y) ∧ xs.length < 64 ∧ ∀ H1, Same H H1 → Q (.bl (cellsV many xs least)) H1))
theorem ok_cells {f fS fW : Addr} {fd fdS fdW : FuncData} (F : Fun K "are_cells" "are_cells" s_are_cells f fd)
    (Gsq : FnOk P w K mg base CX0 1 fS fdS ["thing"] (spSeq K)) (gsq : mg "is_sequence" = some (.ref fS)) (ksq : PySem.W.keepIn K (.ref fS) = true) (bsq : Binds K fdS ["thing"] [])
    (Giw : FnOk P w K mg base CX0 1 fW fdW ["thing", "low", "high"] spWhole) (giw : mg "is_whole" = some (.ref fW)) (kiw : PySem.W.keepIn K (.ref fW) = true) (biw : Binds K fdW ["thing", "low", "high"] [])
    (m_len : mg "len" = none) (m_set : mg "set" = none) (m_all : mg "all" = none) : FnOk P w K mg base CX0 2 f fd ["many", "thing", "least"] (spCells K) := by
  refine F.ok sc_are_cells (fun vs H Q E h => ?_) (fun cdv A outer s H vs Q E hr h => ?_)
  · obtain ⟨m, x, l, rfl, _⟩ := h
    rfl
  · obtain ⟨m, x, l, rfl, h⟩ := h
    refine ⟨_, (pss_cons (ps_if (pw_or (pt_not (pt_val (pe_call Gsq (hr.mono (by decide)) (by rfl) gsq ksq bsq .nil pass0 (pa_cons (pv 1) pa_nil)))) (pw_or1 (pt_cmpR op_lt (pe_callB call_len_seq (by rfl) m_len boot_len (pa_cons (pv 1) pa_nil)) (pv 2) (nomark _)))).pt
  (pss_one (ps_ret pe_bl))
  pss_nil)
 (pss_cons (ps_if (pt_not (pt_val (pe_callB (cr_all rfl) (by rfl) m_all boot_all (pa_cons (pe_lc (own := [("cell", 3)]) (g := gName 3) (tt := tYes) rfl sc_are_cells.nd (K7E.pi_either (pi_tup (pv 1)) (pi_list (pv 1))) (blkOk_by (own := [("cell", 3)]) (N := N_are_cells) (sc := defScope s_are_cells) (by decide +kernel)) (fun _ _ _ _ _ => (pg_name (i := 3) sc_are_cells.nd rfl (by first | exact Or.inl rfl | exact Or.inr rfl))) (fun _ _ _ _ _ => pts_nil) (fun _ _ _ _ _ => (pe_call Giw (hr.mono (by decide)) (by rfl) giw kiw biw .nil pass0 (pa_cons (pv 3) (pa_cons pe_int (pa_cons (pe_op op_sub (pv 0) pe_int) pa_nil)))))) pa_nil))))
  (pss_one (ps_ret pe_bl))
  pss_nil)
 (pss_one (ps_ret (pe_cmpR op_eq (K7E.pe_either (K7E.pe_lenSetT rfl (by rfl) m_len (by rfl) m_set (pv 1)) (K7E.pe_lenSetL rfl (by rfl) m_len (by rfl) m_set (pv 1))) (pe_callB call_len_seq (by rfl) m_len boot_len (pa_cons (pv 1) pa_nil)) (nomark _)))))), ?_⟩
    rcases h with ⟨t, ty, k, q⟩ | ⟨a, xs, rfl, ha, th, h64, q⟩
    · refine ⟨_, rfl, x, t, false, rfl, ty, k, fun H1 e1 => ?_⟩
      exact ⟨_, rfl, q H1 e1⟩
    · have sq : ∀ H1, Same H H1 → (SqL K H1 a xs ∨ SqT K H1 a xs) := fun H1 e1 => ha.elim (fun z => .inr (.inl (.inl (e1 _ _ z)))) (fun z => .inl (.inl (.inl (e1 _ _ z))))
      have ex : ∃ t : String, (∀ H1, Same H H1 → TyX K H1 (.ref a) (.type t)) ∧ PySem.W.kitAny K (.type t) [.type "list", .type "tuple"] = some true := by
        rcases ha with z | z
        · exact ⟨"tuple", fun H1 e1 => .base (.tup (e1 _ _ z)), any_tup⟩
        · exact ⟨"list", fun H1 e1 => .base (.lst (e1 _ _ z)), any_lst⟩
      obtain ⟨t, ty, kk⟩ := ex
      refine ⟨_, rfl, _, t, true, rfl, ty, kk, fun H1 e1 => ⟨_, rfl, ?_⟩⟩
      refine ⟨_, rfl, a, xs, rfl, sq H1 e1, _, rfl, _, _, rfl, rfl, _, rfl, ite2 (fun c1 => ?_) (fun c1 => ?_)⟩
      · have c1' : ((xs.length : Nat) : Int) < l := of_decide_eq_true c1
        have z := q H1 e1
        have e0 : cellsV m xs l = false := by
          unfold cellsV
          rw [decide_eq_false (show ¬ l ≤ ((xs.length : Nat) : Int) by omega), Bool.false_and, Bool.false_and]
        rw [e0] at z
        exact z
      · have c1' : ¬ ((xs.length : Nat) : Int) < l := fun z => c1 (decide_eq_true z)
        have c2 : decide (l ≤ ((xs.length : Nat) : Int)) = true := decide_eq_true (by omega)
        rcases ha with z | z
        · refine .inl ⟨_, rfl, a, rfl, ⟨xs, .inl (.inl (e1 _ _ z))⟩, fun D hD => lc_tup (xs := xs) (fun j H2 => Same H1 H2 ∧ H2 D = some (.lst (((xs.take j).map fun x => wholeV x 0 (m - 1)).map V.bl))) ⟨same_new (Same.refl H1) hD, upd_same⟩ (fun j H2 _ pv => .inl (.inl (pv.1 _ _ (e1 _ _ z)))) (fun j x H2 hx pv => ?_) (fun H2 pv => ?_)⟩
          · obtain ⟨e2, hD2⟩ := pv
            have hm := th x (List.mem_of_getElem? hx)
            have hj : j < xs.length := (List.getElem?_eq_some_iff.mp hx).1
            refine ⟨rfl, _, rfl, _, rfl, _, _, rfl, rfl, x, 0, m - 1, rfl, hm.same (e1.trans e2), _, hD2, by rw [List.length_map, List.length_map, List.length_take]; exact small1000 (by omega), fun b o hb => ?_, ?_⟩
            · rw [upd_ne (ne_of_none hb hD)]
              exact e2 _ _ hb
            · rw [upd_same, List.take_add_one, hx, List.map_append, List.map_append]
              rfl
          · obtain ⟨e2, hD2⟩ := pv
            rw [List.take_length] at hD2
            refine ⟨D, xs.map fun x => wholeV x 0 (m - 1), rfl, .inl (.inl hD2), _, rfl, ?_⟩
            have call_ : (xs.map fun x => wholeV x 0 (m - 1)).all id = xs.all fun x => wholeV x 0 (m - 1) := by rw [List.all_map]; rfl
            refine ite2 (fun c3 => ?_) (fun c3 => ?_)
            rotate_left
            · have w : xs.all (fun x => wholeV x 0 (m - 1)) = true := by
                rw [← call_]
                cases hq : (xs.map fun x => wholeV x 0 (m - 1)).all id with
                | true => rfl
                | false => exact absurd (by rw [hq]; rfl) c3
              have exs : xs = (xs.map intOf).map V.int := by
                rw [List.map_map]
                refine (List.map_id xs).symm.trans (List.map_congr_left fun y hy => ?_)
                exact whole_int (List.all_eq_true.mp w y hy)
              refine Or.inl ⟨_, rfl, a, xs.map intOf, rfl, by rw [← exs]; exact .inl (.inl (e2 _ _ (e1 _ _ z))), by rw [List.length_map]; exact h64, fun c hc1 hc2 => ?_⟩
              refine ⟨_, rfl, a, xs, rfl, sq H2 (e1.trans e2), rfl, ?_⟩
              have zz := q H2 (e1.trans e2)
              unfold cellsV at zz
              rw [c2, w, Bool.true_and, Bool.true_and] at zz
              rw [List.length_map] at hc2
              have ee : decide (V.int (c : Nat) = V.int (xs.length : Nat)) = decide (xs.map intOf).Nodup := by
                refine decide_eq_decide.mpr ⟨fun e => hc2.mp ?_, fun e => by rw [hc2.mpr e]⟩
                injection e with e
                omega
              rw [← ee] at zz
              exact zz
            · have w : xs.all (fun x => wholeV x 0 (m - 1)) = false := by
                rw [← call_]
                cases hq : (xs.map fun x => wholeV x 0 (m - 1)).all id with
                | false => rfl
                | true => rw [hq] at c3; cases c3
              have zz := q H2 (e1.trans e2)
              unfold cellsV at zz
              rw [w, Bool.and_false, Bool.false_and] at zz
              exact zz
        · refine .inr ⟨_, rfl, a, rfl, ⟨xs, .inl (.inl (e1 _ _ z))⟩, fun D hD => lc_list (xs := xs) (fun j H2 => Same H1 H2 ∧ H2 D = some (.lst (((xs.take j).map fun x => wholeV x 0 (m - 1)).map V.bl))) ⟨same_new (Same.refl H1) hD, upd_same⟩ (fun j H2 _ pv => .inl (.inl (pv.1 _ _ (e1 _ _ z)))) (fun j x H2 hx pv => ?_) (fun H2 pv => ?_)⟩
          · obtain ⟨e2, hD2⟩ := pv
            have hm := th x (List.mem_of_getElem? hx)
            have hj : j < xs.length := (List.getElem?_eq_some_iff.mp hx).1
            refine ⟨rfl, _, rfl, _, rfl, _, _, rfl, rfl, x, 0, m - 1, rfl, hm.same (e1.trans e2), _, hD2, by rw [List.length_map, List.length_map, List.length_take]; exact small1000 (by omega), fun b o hb => ?_, ?_⟩
            · rw [upd_ne (ne_of_none hb hD)]
              exact e2 _ _ hb
            · rw [upd_same, List.take_add_one, hx, List.map_append, List.map_append]
              rfl
          · obtain ⟨e2, hD2⟩ := pv
            rw [List.take_length] at hD2
            refine ⟨D, xs.map fun x => wholeV x 0 (m - 1), rfl, .inl (.inl hD2), _, rfl, ?_⟩
            have call_ : (xs.map fun x => wholeV x 0 (m - 1)).all id = xs.all fun x => wholeV x 0 (m - 1) := by rw [List.all_map]; rfl
            refine ite2 (fun c3 => ?_) (fun c3 => ?_)
            rotate_left
            · have w : xs.all (fun x => wholeV x 0 (m - 1)) = true := by
                rw [← call_]
                cases hq : (xs.map fun x => wholeV x 0 (m - 1)).all id with
                | true => rfl
                | false => exact absurd (by rw [hq]; rfl) c3
              have exs : xs = (xs.map intOf).map V.int := by
                rw [List.map_map]
                refine (List.map_id xs).symm.trans (List.map_congr_left fun y hy => ?_)
                exact whole_int (List.all_eq_true.mp w y hy)
              refine Or.inr ⟨_, rfl, a, xs.map intOf, rfl, by rw [← exs]; exact .inl (.inl (e2 _ _ (e1 _ _ z))), by rw [List.length_map]; exact h64, fun c hc1 hc2 => ?_⟩
              refine ⟨_, rfl, a, xs, rfl, sq H2 (e1.trans e2), rfl, ?_⟩
              have zz := q H2 (e1.trans e2)
              unfold cellsV at zz
              rw [c2, w, Bool.true_and, Bool.true_and] at zz
              rw [List.length_map] at hc2
              have ee : decide (V.int (c : Nat) = V.int (xs.length : Nat)) = decide (xs.map intOf).Nodup := by
                refine decide_eq_decide.mpr ⟨fun e => hc2.mp ?_, fun e => by rw [hc2.mpr e]⟩
                injection e with e
                omega
              rw [← ee] at zz
              exact zz
            · have w : xs.all (fun x => wholeV x 0 (m - 1)) = false := by
                rw [← call_]
                cases hq : (xs.map fun x => wholeV x 0 (m - 1)).all id with
                | false => rfl
                | true => rw [hq] at c3; cases c3
              have zz := q H2 (e1.trans e2)
              unfold cellsV at zz
              rw [w, Bool.and_false, Bool.false_and] at zz
              exact zz
end
end K7
end
/-! ## P6 -/
section
open PySem PySem.Spec PyProof.Rows L2
namespace K7
abbrev N_are_two_cells : List Str := ["many", "thing"]
abbrev s_are_two_cells : Stmt := topS 14
theorem sc_are_two_cells : FnScope ["many", "thing"] ["many", "thing"] (defScope s_are_two_cells) := ⟨rfl, rfl, rfl, by decide +kernel, rfl, by decide +kernel, by decide +kernel⟩
section
variable {P : Program} {w : World} {K : PySem.W.Frag} {mg : Str → Option Value} {base : Heap}
/-- what are_two_cells says of a row -/
def twoV (many : Int) (xs : List V) : Bool := cellsV many xs 2 && decide (xs.length = 2)
def spTwo (K : PySem.W.Frag) : Sp := fun vs H Q _ => ∃ (many : Int) (x : V), vs = [.int many, x] ∧
  ((∃ t : String, (∀ H1, Same H H1 → TyX K H1 x (.type t)) ∧ PySem.W.kitAny K (.type t) [.type "list", .type "tuple"] = some false ∧ ∀ H1, Same H H1 → Q (.bl false) H1) ∨
   (∃ (a : Addr) (xs : List V), x = .ref a ∧ (H a = some (.tup xs) ∨ H a = some (.lst xs)) ∧ (∀ y ∈ xs, Thing H y) ∧ xs.length < 64 ∧ ∀ H1, Same H H1 → Q (.bl (twoV many xs)) H1))
theorem ok_two {f fC : Addr} {fd fdC : FuncData} (F : Fun K "are_two_cells" "are_two_cells" s_are_two_cells f fd)
    (Gac : FnOk P w K mg base CX0 2 fC fdC ["many", "thing", "least"] (spCells K)) (gac : mg "are_cells" = some (.ref fC)) (kac : PySem.W.keepIn K (.ref fC) = true) (bac : Binds K fdC ["many", "thing", "least"] [])
    (m_len : mg "len" = none) : FnOk P w K mg base CX0 3 f fd ["many", "thing"] (spTwo K) := by
  refine F.ok sc_are_two_cells (fun vs H Q E h => ?_) (fun cdv A outer s H vs Q E hr h => ?_)
  · obtain ⟨m, x, rfl, _⟩ := h
    rfl
  · obtain ⟨m, x, rfl, h⟩ := h
    refine ⟨_, (pss_one (ps_ret (pe_and (pe_call Gac (hr.mono (by decide)) (by rfl) gac kac bac .nil pass0 (pa_cons (pv 0) (pa_cons (pv 1) (pa_cons pe_int pa_nil)))) (pe_one (pe_cmpR op_eq (pe_callB call_len_seq (by rfl) m_len boot_len (pa_cons (pv 1) pa_nil)) pe_int (nomark _)))))), ?_⟩
    refine ⟨_, rfl, _, rfl, m, x, 2, rfl, ?_⟩
    rcases h with ⟨t, ty, k, q⟩ | ⟨a, xs, rfl, ha, th, h64, q⟩
    · exact .inl ⟨t, ty, k, fun H1 e1 => ⟨false, rfl, q H1 e1⟩⟩
    · refine .inr ⟨a, xs, rfl, ha, th, h64, fun H1 e1 => ⟨_, rfl, ite2 (fun c1 => ?_) (fun c1 => ?_)⟩⟩
      · refine ⟨_, rfl, a, xs, rfl, ha.elim (fun z => .inr (.inl (.inl (e1 _ _ z)))) (fun z => .inl (.inl (.inl (e1 _ _ z)))), rfl, ?_⟩
        have zz := q H1 e1
        unfold twoV at zz
        rw [c1, Bool.true_and] at zz
        have ee : decide (V.int (xs.length : Nat) = V.int 2) = decide (xs.length = 2) := by
          refine decide_eq_decide.mpr ⟨fun e => ?_, fun e => by rw [e]; rfl⟩
          injection e with e
          omega
        rw [← ee] at zz
        exact zz
      · have zz := q H1 e1
        unfold twoV at zz
        rw [Bool.eq_false_iff.mpr c1, Bool.false_and] at zz
        exact zz
end
end K7
end
/-! ## KM -/
section
/-! ## more pure facts: couples put in order -/
namespace KL
def srt (c : Nat × Nat) : Nat × Nat := (min c.1 c.2, max c.1 c.2)
theorem srt_le (c : Nat × Nat) : (srt c).1 ≤ (srt c).2 := by unfold srt; simp only; omega
theorem srt_lt {c : Nat × Nat} (h : c.1 ≠ c.2) : (srt c).1 < (srt c).2 := by unfold srt; simp only; omega
theorem srt_of {c : Nat × Nat} (h : c.1 < c.2) : srt c = c := by
  obtain ⟨a, b⟩ := c
  unfold srt
  simp only at h ⊢
  rw [Nat.min_eq_left (by omega), Nat.max_eq_right (by omega)]
/-- two numbers put in order -/
theorem two_sorted {ms : List Int} {x y : Nat} (p : ms.Perm [(x : Int), (y : Int)]) (s : ms.Pairwise (· ≤ ·)) : ms = [((min x y : Nat) : Int), ((max x y : Nat) : Int)] := by
  have hl := p.length_eq
  match ms, hl with
  | [u, v], _ =>
    have huv : u ≤ v := (List.pairwise_cons.mp s).1 v (List.mem_singleton.mpr rfl)
    have hu : u ∈ [(x : Int), (y : Int)] := p.mem_iff.mp List.mem_cons_self
    rcases List.mem_cons.mp hu with e | e
    · subst e
      have := (List.Perm.cons_inv p).eq_singleton
      injection this with e
      subst e
      have hxy : x ≤ y := by omega
      rw [Nat.min_eq_left hxy, Nat.max_eq_right hxy]
    · rw [List.mem_singleton] at e
      subst e
      have p2 : [(y : Int), v].Perm [(y : Int), (x : Int)] := p.trans (List.Perm.swap ..)
      have := (List.Perm.cons_inv p2).eq_singleton
      injection this with e
      subst e
      have hxy : y ≤ x := by omega
      rw [Nat.min_eq_right hxy, Nat.max_eq_left hxy]
def lexLe (a b : Nat × Nat) : Prop := a.1 < b.1 ∨ (a.1 = b.1 ∧ a.2 ≤ b.2)
/-- a sorted list is told by its items -/
theorem uniq {α : Type} {le : α → α → Prop} (anti : ∀ a b, le a b → le b a → a = b) : ∀ {l m : List α}, l.Perm m → l.Pairwise le → m.Pairwise le → l = m
  | [], m, p, _, _ => p.symm.eq_nil.symm
  | x :: l, [], p, _, _ => absurd p.length_eq (by simp)
  | x :: l, y :: m, p, hl, hm => by
    have e : x = y := by
      rcases List.mem_cons.mp (p.mem_iff.mp (List.mem_cons_self (a := x) (l := l))) with e | hx
      · exact e
      · rcases List.mem_cons.mp (p.mem_iff.mpr (List.mem_cons_self (a := y) (l := m))) with e | hy
        · exact e.symm
        · exact anti _ _ ((List.pairwise_cons.mp hl).1 y hy) ((List.pairwise_cons.mp hm).1 x hx)
    subst e
    rw [uniq anti p.cons_inv (List.pairwise_cons.mp hl).2 (List.pairwise_cons.mp hm).2]
theorem lex_anti (a b : Nat × Nat) (h1 : lexLe a b) (h2 : lexLe b a) : a = b := by
  unfold lexLe at h1 h2
  exact Prod.ext (by omega) (by omega)
theorem int_anti (a b : Int) (h1 : a ≤ b) (h2 : b ≤ a) : a = b := by omega
/-- all couples of n cells -/
def allC (n : Nat) : List (Nat × Nat) := (List.range n).flatMap fun a => ((List.range n).filter fun b => decide (a ≠ b)).map fun b => (a, b)
/-- couples taken either way round hang together as the ordered ones do -/
theorem conn_srt {n : Nat} {cs es : List (Nat × Nat)} (h : Conn n cs) (hp : es.Perm (cs.map srt)) : Conn n es := by
  intro S h0 he
  refine h S h0 fun c hc => ?_
  have z := he (srt c) (hp.mem_iff.mpr (List.mem_map.mpr ⟨c, hc, rfl⟩))
  unfold srt at z
  simp only at z
  rcases Nat.le_total c.1 c.2 with q | q
  · rw [Nat.min_eq_left q, Nat.max_eq_right q] at z
    exact z
  · rw [Nat.min_eq_right q, Nat.max_eq_left q] at z
    exact z.symm
/-- what is reached from c over passing cells -/
inductive Rch (E : Nat → Nat → Prop) (ps : List Nat) (c : Nat) : Nat → Prop
  | base : Rch E ps c c
  | step {a b : Nat} (h : Rch E ps c a) (e : E a b) (p : b ∈ ps) : Rch E ps c b
theorem Rch.mono {E E' : Nat → Nat → Prop} {ps ps' : List Nat} {c x : Nat} (h : Rch E ps c x) (he : ∀ a b, E a b → E' a b) (hp : ∀ b ∈ ps, b ∈ ps') : Rch E' ps' c x := by
  induction h with
  | base => exact .base
  | step _ e p ih => exact .step ih (he _ _ e) (hp _ p)
/-- a closed list that holds c holds what is reached -/
theorem Rch.mem {E : Nat → Nat → Prop} {ps : List Nat} {c x : Nat} {fd : List Nat} (h : Rch E ps c x) (h0 : c ∈ fd) (hc : ∀ a b, a ∈ fd → E a b → b ∈ ps → b ∈ fd) : x ∈ fd := by
  induction h with
  | base => exact h0
  | step _ e p ih => exact hc _ _ ih e p
end KL
end
/-! ## P7 -/
section
open PySem PySem.Spec PyProof.Rows L2
namespace K7
abbrev N_spread : List Str := ["nearby", "cell", "passing", "found", "done", "here", "b"]
abbrev s_spread : Stmt := topS 19
theorem sc_spread : FnScope ["nearby", "cell", "passing", "found", "done", "here", "b"] ["nearby", "cell", "passing"] (defScope s_spread) := ⟨rfl, rfl, rfl, by decide +kernel, rfl, by decide +kernel, by decide +kernel⟩
theorem flat_ints : ∀ l : List Nat, (ints_ l).all flatV = true
  | [] => rfl
  | _ :: l => flat_ints l
theorem inV_ints (c : Nat) : ∀ l : List Nat, inV (.int (c : Nat)) (ints_ l) = decide (c ∈ l)
  | [] => rfl
  | y :: l => by
    show (eqV (.int (y : Nat)) (.int (c : Nat)) || inV (.int (c : Nat)) (ints_ l)) = _
    rw [inV_ints c l]
    have e : eqV (.int (y : Nat)) (.int (c : Nat)) = decide (c = y) := by
      show decide ((y : Int) = (c : Int)) = _
      exact decide_eq_decide.mpr (by omega)
    rw [e, ← Bool.decide_or]
    exact decide_eq_decide.mpr List.mem_cons.symm
section
variable {P : Program} {w : World} {K : PySem.W.Frag} {mg : Str → Option Value} {base : Heap}
def SqOf (H : Hp) (a : Addr) (xs : List V) : Prop := H a = some (.tup xs) ∨ H a = some (.lst xs)
theorem SqOf.same {H H' : Hp} {a : Addr} {xs : List V} (h : SqOf H a xs) (e : Same H H') : SqOf H' a xs := h.imp (e _ _) (e _ _)
theorem SqOf.sq {H : Hp} {a : Addr} {xs : List V} (h : SqOf H a xs) : SqL K H a xs ∨ SqT K H a xs := h.elim (fun z => .inr (.inl (.inl z))) fun z => .inl (.inl (.inl z))
def nbE (Nb : List (List Nat)) (a b : Nat) : Prop := ∃ l, Nb[a]? = some l ∧ b ∈ l
def SpInv (H : Hp) (nb pa F0 : Addr) (Nb : List (List Nat)) (ps : List Nat) (c m : Nat) (σ' : L2.St) (H' : Hp) : Prop := ∃ (fd : List Nat) (d : Nat) (y5 y6 : Option V), σ' = [some (.ref nb), some (.int (c : Nat)), some (.ref pa), some (.ref F0), some (.int (d : Nat)), y5, y6] ∧ But F0 H H' ∧ H' F0 = some (.lst (ints_ fd)) ∧ fd.Nodup ∧ c ∈ fd ∧ (∀ x ∈ fd, x < Nb.length) ∧ d ≤ fd.length ∧
      (∀ i a, i < d → fd[i]? = some a → ∀ l, Nb[a]? = some l → ∀ b ∈ l, b ∈ ps → b ∈ fd) ∧ m + d = Nb.length ∧ ∀ x ∈ fd, KL.Rch (nbE Nb) ps c x
/-- what spread finds: the cell, and all that is near to what is found -/
structure Found (Nb : List (List Nat)) (ps : List Nat) (c : Nat) (fd : List Nat) : Prop where
  nd : fd.Nodup
  me : c ∈ fd
  lt : ∀ x ∈ fd, x < Nb.length
  cl : ∀ a ∈ fd, ∀ l, Nb[a]? = some l → ∀ b ∈ l, b ∈ ps → b ∈ fd
  so : ∀ x ∈ fd, KL.Rch (nbE Nb) ps c x
def spSpread : Sp := fun vs H Q _ => ∃ (nb : Addr) (ts : List Addr) (Nb : List (List Nat)) (c : Nat) (pa : Addr) (ps : List Nat), vs = [.ref nb, .int c, .ref pa] ∧ H nb = some (.tup (ts.map V.ref)) ∧ TAt H ts Nb ∧ SqOf H pa (ints_ ps) ∧
  Nb.length ≤ 5 ∧ c < Nb.length ∧ (∀ l ∈ Nb, ∀ x ∈ l, x < Nb.length) ∧ ∀ H' q fd, Same H H' → H q = none → H' q = some (.lst (ints_ fd)) → Found Nb ps c fd → Q (.ref q) H'
theorem ok_spread {f : Addr} {fd : FuncData} (F : Fun K "spread" "spread" s_spread f fd) (m_len : mg "len" = none) : FnOk P w K mg base CX0 1 f fd ["nearby", "cell", "passing"] spSpread := by
  refine F.ok sc_spread (fun vs H Q E h => ?_) (fun cdv A outer s H vs Q E hr h => ?_)
  · obtain ⟨nb, ts, Nb, c, pa, ps, rfl, _⟩ := h
    rfl
  · obtain ⟨nb, ts, Nb, c, pa, ps, rfl, hnb, tN, hpa, h5, hc, hlt, q⟩ := h
    refine ⟨_, (pss_cons (ps_set (i := 3) sc_spread.nd rfl (by first | exact Or.inl rfl | exact Or.inr rfl) (pe_lst (pa_cons (pv 1) pa_nil)))
 (pss_cons (ps_set (i := 4) sc_spread.nd rfl (by first | exact Or.inl rfl | exact Or.inr rfl) pe_int)
 (pss_cons (ps_while PassesOwn.never (pt_cmpR op_lt (pv 4) (pe_callB call_len_seq (by rfl) m_len boot_len (pa_cons (pv 3) pa_nil)) (nomark _))
  (pss_cons (ps_set (i := 5) sc_spread.nd rfl (by first | exact Or.inl rfl | exact Or.inr rfl) (pe_ix ix_list (pv 3) (pv 4) (fun _ _ => rfl)))
 (pss_cons (ps_for PassesOwn.never rfl (pi_tup (pe_ix ix_tup (pv 0) (pv 5) (fun _ _ => rfl))) (pg_name (i := 6) sc_spread.nd rfl (by first | exact Or.inl rfl | exact Or.inr rfl))
  (pss_one (ps_if (pw_and (pt_cmpR op_in_seq (pv 6) (pv 2) (by with_unfolding_all rfl)) (pw_and1 (pt_cmpR op_notIn_seq (pv 6) (pv 3) (by with_unfolding_all rfl)))).pt
  (pss_one (ps_expr (pe_bm PySem.F.plainAttrs_list PySem.F.slot_list_append PySem.F.type_list_append mt_append (pv 3) (pa_cons (pv 6) pa_nil))))
  pss_nil)))
 (pss_one (ps_aug (i := 4) sc_spread.nd rfl (by first | exact Or.inl rfl | exact Or.inr rfl) pe_int ip_add)))))
 (pss_one (ps_ret (pv 3)))))), ?_⟩
    refine ⟨_, rfl, by show 1 ≤ sizeLine; decide, fun F0 nF => ?_⟩
    refine ⟨SpInv H nb pa F0 Nb ps c, ⟨Nb.length, [c], 0, none, none, rfl, ?_, upd_same, ?_, List.mem_singleton.mpr rfl, ?_, Nat.zero_le _, ?_, rfl, fun x hx => by rw [List.mem_singleton.mp hx]; exact .base⟩, fun m σ' H' wv => ?_⟩
    · exact fun b o hb e => by rw [upd_ne hb]; exact e
    · exact List.nodup_cons.mpr ⟨List.not_mem_nil, List.nodup_nil⟩
    · intro x hx
      rw [List.mem_singleton] at hx
      rw [hx]
      exact hc
    · exact fun i a hi => absurd hi (Nat.not_lt_zero _)
    · obtain ⟨fd, d, y5, y6, rfl, bt, hF, nd, hcm, lt, hd, cl, hm, so⟩ := wv
      have h1 : fd.length ≤ Nb.length := by
        have z := K7E.nodup_le fd (List.range Nb.length) nd fun x hx => List.mem_range.mpr (lt x hx)
        rw [List.length_range] at z
        exact z
      refine ⟨_, rfl, _, rfl, F0, _, rfl, .inl (.inl (.inl hF)), _, _, rfl, rfl, _, rfl, ite2 (fun c1 => ?_) (fun c1 => ?_)⟩
      · have c1' : d < fd.length := by
          have z : ((d : Nat) : Int) < (((ints_ fd).length : Nat) : Int) := of_decide_eq_true c1
          rw [show (ints_ fd).length = fd.length from List.length_map ..] at z
          omega
        refine ⟨SpInv H nb pa F0 Nb ps c (m - 1), fun σ2 H2 z => ⟨m - 1, by omega, z⟩, ?_⟩
        obtain ⟨a, ea⟩ : ∃ a, fd[d]? = some a := ⟨_, List.getElem?_eq_getElem c1'⟩
        have ma := List.mem_of_getElem? ea
        have la := lt a ma
        obtain ⟨l, el⟩ : ∃ l, Nb[a]? = some l := ⟨_, List.getElem?_eq_getElem la⟩
        have ltsl : a < ts.length := by rw [tN.len]; exact la
        obtain ⟨t, et⟩ : ∃ t, ts[a]? = some t := ⟨_, List.getElem?_eq_getElem ltsl⟩
        obtain ⟨l', el', ht⟩ := tN.get et
        have : l' = l := by rw [el] at el'; injection el' with e; exact e.symm
        subst this
        have sm : Same H H' := fun b o hb => bt b o (ne_of_none hb nF) hb
        refine ⟨_, rfl, _, rfl, F0, _, _, .int (a : Nat), rfl, rfl, .inl (.inl hF), atI_nat (by unfold ints_; rw [List.getElem?_map, ea]; rfl), ?_⟩
        refine ⟨_, rfl, _, rfl, nb, _, _, .ref t, rfl, rfl, .inl (.inl (sm _ _ hnb)), atI_nat (by rw [List.getElem?_map, et]; rfl), t, rfl, ⟨_, .inl (.inl (sm _ _ ht))⟩, for_tup (xs := ints_ l') (fun j σ2 H2 => ∃ (fd2 r : List Nat) (y6 : Option V), σ2 = [some (.ref nb), some (.int (c : Nat)), some (.ref pa), some (.ref F0), some (.int (d : Nat)), some (.int (a : Nat)), y6] ∧ But F0 H H2 ∧ H2 F0 = some (.lst (ints_ fd2)) ∧ fd2.Nodup ∧ fd2 = fd ++ r ∧ (∀ x ∈ fd2, x < Nb.length) ∧ (∀ b ∈ l'.take j, b ∈ ps → b ∈ fd2) ∧ ∀ x ∈ fd2, KL.Rch (nbE Nb) ps c x)
          ⟨fd, [], y6, rfl, bt, hF, nd, (List.append_nil _).symm, lt, fun b hb => (by cases hb), so⟩ (fun j σ2 H2 _ pv => ?_) (fun j x σ2 H2 hx pv => ?_) (fun σ2 H2 pv => ?_)⟩
        · obtain ⟨fd2, r, y6, _, bt2, _⟩ := pv
          exact .inl (.inl (bt2 t _ (ne_of_none ht nF) ht))
        · obtain ⟨fd2, r, y6, rfl, bt2, hF2, nd2, rfl, lt2, cl2, so2⟩ := pv
          have sm2 : Same H H2 := fun b o hb => bt2 b o (ne_of_none hb nF) hb
          unfold ints_ at hx
          rw [List.getElem?_map] at hx
          obtain ⟨b, eb, rfl⟩ := Option.map_eq_some_iff.mp hx
          have hbl := hlt l' (List.mem_of_getElem? el) b (List.mem_of_getElem? eb)
          have tk : l'.take (j + 1) = l'.take j ++ [b] := by rw [List.take_add_one, eb]; rfl
          refine ⟨_, rfl, _, rfl, pa, _, rfl, (hpa.same sm2).sq, rfl, flat_ints ps, _, rfl, ite2 (fun q1 => ?_) (fun q1 => ?_)⟩
          · have q1' : b ∈ ps := of_decide_eq_true ((inV_ints b ps).symm.trans q1)
            refine ⟨_, rfl, _, rfl, F0, _, rfl, .inl (.inl (.inl hF2)), rfl, flat_ints _, _, rfl, ite2 (fun q2 => ?_) (fun q2 => ?_)⟩
            · have q2' : b ∉ fd ++ r := by
                intro hb2
                have z : (!inV (.int (b : Nat)) (ints_ (fd ++ r))) = true := q2
                rw [inV_ints, decide_eq_true hb2] at z
                cases z
              have hl2 : (fd ++ r).length ≤ 5 := by
                have z := K7E.nodup_le (fd ++ r) (List.range Nb.length) nd2 fun x hx => List.mem_range.mpr (lt2 x hx)
                rw [List.length_range] at z
                omega
              refine ⟨_, rfl, .inl ⟨rfl, _, .inl (.inl hF2)⟩, _, rfl, F0, _, _, rfl, rfl, hF2, by unfold ints_; rw [List.length_map]; exact small1000 (by omega), ?_⟩
              refine ⟨(fd ++ r) ++ [b], r ++ [b], some (.int (b : Nat)), rfl, fun b' o hb' e => by rw [upd_ne hb']; exact bt2 b' o hb' e, by rw [upd_same]; exact congrArg (fun z => some (HO.lst z)) (List.map_append (f := fun c : Nat => V.int (c : Nat)) (l₁ := fd ++ r) (l₂ := [b])).symm, ?_, List.append_assoc .., fun x hx => ?_, fun x hx hp => ?_, fun x hx => ?_⟩
              · exact List.nodup_append.mpr ⟨nd2, List.nodup_cons.mpr ⟨List.not_mem_nil, List.nodup_nil⟩, fun a' ha' b' hb' e => by rw [List.mem_singleton] at hb'; exact q2' (by rw [← hb', ← e]; exact ha')⟩
              · rcases List.mem_append.mp hx with hx | hx
                · exact lt2 x hx
                · rw [List.mem_singleton] at hx
                  rw [hx]
                  exact hbl
              · rw [tk] at hx
                rcases List.mem_append.mp hx with hx | hx
                · exact List.mem_append_left _ (cl2 x hx hp)
                · exact List.mem_append_right _ hx
              · rcases List.mem_append.mp hx with hx | hx
                · exact so2 x hx
                · rw [List.mem_singleton.mp hx]
                  exact .step (so a ma) ⟨_, el, List.mem_of_getElem? eb⟩ q1'
            · have q2' : b ∈ fd ++ r := by
                refine Classical.byContradiction fun hn => q2 ?_
                show (!inV (.int (b : Nat)) (ints_ (fd ++ r))) = true
                rw [inV_ints, decide_eq_false hn]
                rfl
              refine ⟨fd ++ r, r, some (.int (b : Nat)), rfl, bt2, hF2, nd2, rfl, lt2, fun x hx hp => ?_, so2⟩
              rw [tk] at hx
              rcases List.mem_append.mp hx with hx | hx
              · exact cl2 x hx hp
              · rw [List.mem_singleton] at hx
                rw [hx]
                exact q2'
          · have q1' : b ∉ ps := fun hb => q1 ((inV_ints b ps).trans (decide_eq_true hb))
            refine iteF ?_
            refine ⟨fd ++ r, r, some (.int (b : Nat)), rfl, bt2, hF2, nd2, rfl, lt2, fun x hx hp => ?_, so2⟩
            rw [tk] at hx
            rcases List.mem_append.mp hx with hx | hx
            · exact cl2 x hx hp
            · rw [List.mem_singleton] at hx
              rw [hx] at hp
              exact absurd hp q1'
        · obtain ⟨fd2, r, y6, rfl, bt2, hF2, nd2, rfl, lt2, cl2, so2⟩ := pv
          rw [show (ints_ l').length = l'.length from List.length_map .., List.take_length] at cl2
          refine ⟨_, rfl, _, _, rfl, rfl, ?_⟩
          refine ⟨fd ++ r, d + 1, some (.int (a : Nat)), y6, rfl, bt2, hF2, nd2, List.mem_append_left _ hcm, lt2, by rw [List.length_append]; omega, fun i a' hi ea' l2 el2 b hb hp => ?_, by omega, so2⟩
          rw [List.getElem?_append_left (by omega)] at ea'
          rcases Nat.lt_or_ge i d with hid | hid
          · exact List.mem_append_left _ (cl i a' hid ea' l2 el2 b hb hp)
          · have : i = d := by omega
            subst this
            rw [ea] at ea'
            injection ea' with e3
            subst e3
            rw [el] at el2
            injection el2 with e4
            subst e4
            exact cl2 b hb hp
      · have c1' : ¬ d < fd.length := fun z => c1 (decide_eq_true (by rw [show (ints_ fd).length = fd.length from List.length_map ..]; omega))
        refine ⟨_, rfl, q H' F0 fd (fun b o hb => bt b o (ne_of_none hb nF) hb) nF hF ⟨nd, hcm, lt, fun a ha l hl b hb hp => ?_, so⟩⟩
        obtain ⟨i, hi, e⟩ := List.getElem_of_mem ha
        exact cl i a (by omega) (by rw [List.getElem?_eq_getElem hi, e]) l hl b hb hp
end
end K7
end
/-! ## P8 -/
section
open PySem PySem.Spec PyProof.Rows L2
namespace K7
abbrev N_nearby_cells : List Str := ["cells", "couples", "b", "a"]
abbrev s_nearby_cells : Stmt := topS 20
theorem sc_nearby_cells : FnScope ["cells", "couples", "b", "a"] ["cells", "couples"] (defScope s_nearby_cells) := ⟨rfl, rfl, rfl, by decide +kernel, rfl, by decide +kernel, by decide +kernel⟩
abbrev scA : Scope := { kind := ScopeKind.function, names := [(".0", NameKind.local), ("a", NameKind.cell), ("tuple", NameKind.globalImplicit), ("range", NameKind.globalImplicit), ("cells", NameKind.cell), ("couples", NameKind.cell)], isGenerator := false, isCoroutine := false }
def rTup_ (K : PySem.W.Frag) : List V → Hp → VK → Prop := fun xs H Q => ∃ p ys, xs = [V.ref p] ∧ ((SqL K H p ys ∧ ∀ l, H l = none → Q (.ref l) (upd H l (.tup ys))) ∨ SqT K H p ys ∧ Q (.ref p) H)
section
variable {P : Program} {w : World} {K : PySem.W.Frag} {mg : Str → Option Value} {base : Heap}
/-- the neighbours of each cell -/
def nearV (n : Nat) (es : List (Nat × Nat)) : List (List Nat) := (List.range n).map fun a => (List.range n).filter fun b => decide ((a, b) ∈ es) || decide ((b, a) ∈ es)
theorem ints_snoc (l : List Nat) (j : Nat) : ints_ (l ++ [j]) = ints_ l ++ [.int (j : Nat)] := by
  unfold ints_
  rw [List.map_append]
  rfl
theorem range_filter (p : Nat → Bool) (j : Nat) : (List.range (j + 1)).filter p = (List.range j).filter p ++ (if p j = true then [j] else []) := by
  rw [List.range_succ, List.filter_append, List.filter_cons]
  rfl
theorem dp_two {H : Hp} (k j : Nat) : DpAll K H [.int (0 + (k : Nat)), .int (0 + (j : Nat))] [.int (k : Nat), .int (j : Nat)] := by
  rw [Int.zero_add, Int.zero_add]
  exact .cons (.int _) (.cons (.int _) .nil)
def spNear : Sp := fun vs H Q _ => ∃ (n : Nat) (ca : Addr) (ts : List Addr) (es : List (Nat × Nat)), vs = [.int n, .ref ca] ∧ n ≤ 5 ∧ H ca = some (.lst (ts.map V.ref)) ∧ TAt H ts (pairs es) ∧ es.length ≤ 32 ∧
  ∀ H' q us, Same H H' → H q = none → H' q = some (.tup (us.map V.ref)) → TAt H' us (nearV n es) → Q (.ref q) H'
theorem ok_near {f : Addr} {fd : FuncData} (F : Fun K "nearby_cells" "nearby_cells" s_nearby_cells f fd) (m_range : mg "range" = none) (m_tuple : mg "tuple" = none) : FnOk P w K mg base CX0 1 f fd ["cells", "couples"] spNear := by
  refine F.ok sc_nearby_cells (fun vs H Q E h => ?_) (fun cdv A outer s H vs Q E hr h => ?_)
  · obtain ⟨n, ca, ts, es, rfl, _⟩ := h
    rfl
  · obtain ⟨n, ca, ts, es, rfl, hn, hca, tE, h32, q⟩ := h
    refine ⟨_, (pss_one (ps_ret (pe_callTy call_tuple_of (by rfl) m_tuple boot_tuple (pa_cons (pe_lc (own := [("a", 3)]) (g := gName 3) (tt := tYes) rfl sc_nearby_cells.nd (pi_range1 rfl m_range (pa_cons (pv 0) pa_nil)) (blkOk_by (own := [("a", 3)]) (N := N_nearby_cells) (sc := defScope s_nearby_cells) (by decide +kernel)) (fun _ _ _ _ _ => (pg_name (i := 3) sc_nearby_cells.nd rfl (by first | exact Or.inl rfl | exact Or.inr rfl))) (fun _ _ _ _ _ => pts_nil) (fun _ _ _ _ _ => (pe_callTy (show CallR _ (.type "tuple") (rTup_ K) from call_tuple_of) (by rfl) m_tuple boot_tuple (pa_cons (pe_lc (own := [("b", 2)]) (g := gName 2) rfl sc_nearby_cells.nd (pi_range1 rfl m_range (pa_cons (pv 0) pa_nil)) (blkOk_by (own := [("b", 2)]) (N := N_nearby_cells) (sc := scA) (by decide +kernel)) (fun _ _ _ _ _ => (pg_name (i := 2) sc_nearby_cells.nd rfl (by first | exact Or.inl rfl | exact Or.inr rfl))) (fun _ _ _ _ _ => (pts_one (PW.pt (pw_or (pt_cmpR (show OpR _ _ (rInD K) from op_inD (K7L.hu65 hr)) (pe_tup (pa_cons (pv 3) (pa_cons (pv 2) pa_nil))) (pv 1) (by with_unfolding_all rfl)) (pw_or1 (pt_cmpR (show OpR _ _ (rInD K) from op_inD (K7L.hu65 hr)) (pe_tup (pa_cons (pv 2) (pa_cons (pv 3) pa_nil))) (pv 1) (by with_unfolding_all rfl))))))) (fun _ _ _ _ _ => (pv 2))) pa_nil)))) pa_nil)))), ?_⟩
    refine ⟨_, rfl, _, rfl, by omega, by omega, fun D hD => lc_range (lo := 0) (n := n) (fun i H1 => Same H H1 ∧ ∃ us : List Addr, H1 D = some (.lst (us.map V.ref)) ∧ TAt H1 us ((nearV n es).take i) ∧ us.length ≤ i) ⟨same_new (Same.refl H) hD, [], upd_same, .nil, Nat.le_refl _⟩ (fun i H1 hi pv => ?_) (fun H1 pv => ?_)⟩
    · obtain ⟨e1, us, hD1, tU, lu⟩ := pv
      refine ⟨rfl, _, rfl, _, rfl, by omega, by omega, fun D2 hD2 => lc_range (lo := 0) (n := n) (fun j H2 => Same H1 H2 ∧ H2 D2 = some (.lst (ints_ ((List.range j).filter fun b => decide ((i, b) ∈ es) || decide ((b, i) ∈ es))))) ⟨same_new (Same.refl H1) hD2, upd_same⟩ (fun j H2 hj pv => ?_) (fun H2 pv => ?_)⟩
      · obtain ⟨e2, h2⟩ := pv
        have eA := e1.trans e2
        refine ⟨rfl, _, rfl, _, rfl, by show 2 ≤ sizeLine; decide, fun t nt => ?_⟩
        have s3 := same_new (o := .tup [.int (0 + (i : Nat)), .int (0 + (j : Nat))]) (Same.refl H2) nt
        refine ⟨_, rfl, intD [i, j], _, .tup (xs := [.int (0 + (i : Nat)), .int (0 + (j : Nat))]) (.inl (.inl upd_same)) (dp_two i j), .lst (.inl (.inl (s3 _ _ (eA _ _ hca)))) (dp_rows (tE.same (eA.trans s3))), shaped_ints _, shaped_rows _, ?_⟩
        rw [any_rows]
        have e2b := e2
        refine ⟨_, rfl, ite2 (fun q1 => ?_) (fun q1 => ?_)⟩
        · have g : ∀ {b : Addr} {o : HO}, H2 b = some o → upd H2 t (.tup [.int (0 + (i : Nat)), .int (0 + (j : Nat))]) b = some o := fun hb => s3 _ _ hb
          refine ⟨_, rfl, _, g h2, by unfold ints_; rw [List.length_map]; exact small1000 (Nat.le_trans (List.length_filter_le _ _) (by rw [List.length_range]; omega)), fun b o hb => ?_, ?_⟩
          · rw [upd_ne (ne_of_none hb hD2)]
            exact g (e2 _ _ hb)
          · rw [upd_same, range_filter, if_pos (by rw [q1]; rfl), Int.zero_add]
            rw [ints_snoc]
        · refine ⟨_, rfl, _, rfl, by show 2 ≤ sizeLine; decide, fun t2 nt2 => ?_⟩
          have s4 := same_new (o := .tup [.int (0 + (j : Nat)), .int (0 + (i : Nat))]) s3 nt2
          refine ⟨_, rfl, intD [j, i], _, .tup (xs := [.int (0 + (j : Nat)), .int (0 + (i : Nat))]) (.inl (.inl upd_same)) (dp_two j i), .lst (.inl (.inl (s4 _ _ (eA _ _ hca)))) (dp_rows (tE.same (eA.trans s4))), shaped_ints _, shaped_rows _, ?_⟩
          rw [any_rows]
          refine ⟨_, rfl, ite2 (fun q2 => ?_) (fun q2 => ?_)⟩
          · refine ⟨_, rfl, _, s4 _ _ h2, by unfold ints_; rw [List.length_map]; exact small1000 (Nat.le_trans (List.length_filter_le _ _) (by rw [List.length_range]; omega)), fun b o hb => ?_, ?_⟩
            · rw [upd_ne (ne_of_none hb hD2)]
              exact s4 _ _ (e2 _ _ hb)
            · rw [upd_same, range_filter, if_pos (by rw [q2, Bool.or_true]), Int.zero_add]
              rw [ints_snoc]
          · refine ⟨e2.trans s4, ?_⟩
            rw [range_filter, if_neg (by rw [Bool.eq_false_iff.mpr q1, Bool.eq_false_iff.mpr q2]; decide), List.append_nil]
            exact s4 _ _ h2
      · obtain ⟨e2, h2⟩ := pv
        have eA := e1.trans e2
        refine ⟨D2, _, rfl, .inl ⟨.inl (.inl h2), fun l nl => ?_⟩⟩
        have s4 := same_new (o := .tup (ints_ ((List.range n).filter fun b => decide ((i, b) ∈ es) || decide ((b, i) ∈ es)))) (Same.refl H2) nl
        have hD4 := s4 _ _ (e2 _ _ hD1)
        have tk : (nearV n es).take (i + 1) = (nearV n es).take i ++ [(List.range n).filter fun b => decide ((i, b) ∈ es) || decide ((b, i) ∈ es)] := by
          rw [List.take_add_one]
          congr 1
          unfold nearV
          rw [List.getElem?_map, List.getElem?_range hi]
          rfl
        have up : ∀ b xs, upd H2 l (.tup (ints_ ((List.range n).filter fun b => decide ((i, b) ∈ es) || decide ((b, i) ∈ es)))) b = some (.tup xs) → upd (upd H2 l (.tup (ints_ ((List.range n).filter fun b => decide ((i, b) ∈ es) || decide ((b, i) ∈ es))))) D (.lst (us.map V.ref ++ [.ref l])) b = some (.tup xs) := fun b xs hb => by
          rw [upd_ne (fun z => by rw [z, hD4] at hb; cases hb)]
          exact hb
        refine ⟨_, hD4, by rw [List.length_map]; exact small1000 (by omega), fun b o hb => ?_, us ++ [l], by rw [upd_same, List.map_append]; rfl, ?_, by rw [List.length_append, List.length_singleton]; omega⟩
        · rw [upd_ne (ne_of_none hb hD)]
          exact s4 _ _ (eA _ _ hb)
        · rw [tk]
          exact ((tU.same (e2.trans s4)).mono up).append (.cons (up _ _ upd_same) .nil)
    · obtain ⟨e1, us, hD1, tU, lu⟩ := pv
      rw [List.take_of_length_le (by unfold nearV; rw [List.length_map, List.length_range]; exact Nat.le_refl _)] at tU
      refine ⟨D, _, rfl, .inl ⟨.inl (.inl hD1), fun l nl => ?_⟩⟩
      have s3 := same_new (o := .tup (us.map V.ref)) e1 nl
      refine q _ l us s3 (e1.free nl) upd_same (tU.same (same_new (Same.refl H1) nl))
end
end K7
end
/-! ## P9 -/
section
open PySem PySem.Spec PyProof.Rows L2
namespace K7
abbrev N_hang_together : List Str := ["cells", "couples"]
abbrev s_hang_together : Stmt := topS 21
theorem sc_hang_together : FnScope ["cells", "couples"] ["cells", "couples"] (defScope s_hang_together) := ⟨rfl, rfl, rfl, by decide +kernel, rfl, by decide +kernel, by decide +kernel⟩
section
variable {P : Program} {w : World} {K : PySem.W.Frag} {mg : Str → Option Value} {base : Heap}
def spHang : Sp := fun vs H Q _ => ∃ (n : Nat) (ca : Addr) (ts : List Addr) (es : List (Nat × Nat)), vs = [.int n, .ref ca] ∧ 0 < n ∧ n ≤ 5 ∧ H ca = some (.lst (ts.map V.ref)) ∧ TAt H ts (pairs es) ∧ es.length ≤ 32 ∧
  (∀ e ∈ es, e.1 < n ∧ e.2 < n) ∧ KL.Conn n es ∧ ∀ H', Same H H' → Q (.bl true) H'
theorem ok_hang {f fN fS : Addr} {fd fdN fdS : FuncData} (F : Fun K "hang_together" "hang_together" s_hang_together f fd)
    (Gnc : FnOk P w K mg base CX0 1 fN fdN ["cells", "couples"] spNear) (gnc : mg "nearby_cells" = some (.ref fN)) (knc : PySem.W.keepIn K (.ref fN) = true) (bnc : Binds K fdN ["cells", "couples"] [])
    (Gsp : FnOk P w K mg base CX0 1 fS fdS ["nearby", "cell", "passing"] spSpread) (gsp : mg "spread" = some (.ref fS)) (ksp : PySem.W.keepIn K (.ref fS) = true) (bsp : Binds K fdS ["nearby", "cell", "passing"] [])
    (m_len : mg "len" = none) (m_list : mg "list" = none) (m_range : mg "range" = none) : FnOk P w K mg base CX0 2 f fd ["cells", "couples"] spHang := by
  refine F.ok sc_hang_together (fun vs H Q E h => ?_) (fun cdv A outer s H vs Q E hr h => ?_)
  · obtain ⟨n, ca, ts, es, rfl, _⟩ := h
    rfl
  · obtain ⟨n, ca, ts, es, rfl, n0, hn, hca, tE, h32, elt, cn, q⟩ := h
    refine ⟨_, (pss_one (ps_ret (pe_cmpR op_eq (pe_callB call_len_seq (by rfl) m_len boot_len (pa_cons (pe_call Gsp (hr.mono (by decide)) (by rfl) gsp ksp bsp .nil pass0 (pa_cons (pe_call Gnc (hr.mono (by decide)) (by rfl) gnc knc bnc .nil pass0 (pa_cons (pv 0) (pa_cons (pv 1) pa_nil))) (pa_cons pe_int (pa_cons (pe_callTy (K7E.cr_list_rng rfl) (by rfl) m_list boot_list (pa_cons (pe_callTy K7E.cr_range1 (by rfl) m_range boot_range (pa_cons (pv 0) pa_nil)) pa_nil)) pa_nil)))) pa_nil)) (pv 0) (nomark _)))), ?_⟩
    refine ⟨_, rfl, _, rfl, n, ca, ts, es, rfl, hn, hca, tE, h32, fun H1 nb us e1 nf1 hnb tU => ?_⟩
    refine ⟨_, rfl, n, rfl, fun p1 np1 => ?_⟩
    refine ⟨p1, n, rfl, upd_same, by omega, fun p2 np2 => ?_⟩
    have s1 := same_new (o := .rng 0 n) (Same.refl H1) np1
    have s2 := same_new (o := .lst (K7E.upTo n)) s1 np2
    have hps : upd (upd H1 p1 (.rng 0 n)) p2 (.lst (K7E.upTo n)) p2 = some (.lst (ints_ (List.range n))) := upd_same
    generalize upd (upd H1 p1 (.rng 0 n)) p2 (.lst (K7E.upTo n)) = H2 at s2 hps ⊢
    have ln : (nearV n es).length = n := by unfold nearV; rw [List.length_map, List.length_range]
    have hget : ∀ a, a < n → (nearV n es)[a]? = some ((List.range n).filter fun b => decide ((a, b) ∈ es) || decide ((b, a) ∈ es)) := fun a ha => by
      unfold nearV
      rw [List.getElem?_map, List.getElem?_range ha]
      rfl
    refine ⟨nb, us, nearV n es, 0, p2, List.range n, rfl, s2 _ _ hnb, tU.same s2, .inr hps, by rw [ln]; exact hn, by rw [ln]; exact n0, fun l hl x hx => ?_, fun H3 qa fd e3 nq hq fo => ?_⟩
    · rw [ln]
      unfold nearV at hl
      obtain ⟨a, _, rfl⟩ := List.mem_map.mp hl
      exact List.mem_range.mp (List.mem_filter.mp hx).1
    · have hlt : ∀ x ∈ fd, x < n := fun x hx => by have z := fo.lt x hx; rw [ln] at z; exact z
      have all := KL.conn_closed cn fo.me fun a b hab ha => by
        have hb : b < n := by
          rcases hab with z | z
          · exact (elt _ z).2
          · exact (elt _ z).1
        refine fo.cl a ha _ (hget a (hlt a ha)) b (List.mem_filter.mpr ⟨List.mem_range.mpr hb, ?_⟩) (List.mem_range.mpr hb)
        rcases hab with z | z
        · rw [decide_eq_true z]; rfl
        · rw [decide_eq_true z, Bool.or_true]
      have len := KL.all_len fo.nd hlt all
      refine ⟨qa, _, rfl, .inl (.inl (.inl hq)), _, rfl, rfl, ?_⟩
      have lq : (ints_ fd).length = n := by unfold ints_; rw [List.length_map]; exact len
      rw [lq, decide_eq_true rfl]
      exact q H3 (e1.trans (s2.trans e3))
end
end K7
end
/-! ## ES -/
section
/-! A set comprehension of tuples of ints, and how many there are in such a set. -/
namespace K7S
open PySem PySem.Spec PyProof.Rows L2
abbrev eS (w : World) : Obj := { cls := .type "set", dict := none, data := .set #[] 0 (.fresh 0 0 (!w.params.followText "set-order")) }
abbrev eD : Obj := { cls := .type "dict", data := .dict #[] }
section
variable {X : Cx}
/-- one more tuple -/
theorem addT_ok {pins : List (Addr × Obj)} {τ : L2.St} {H : Hp} {s : Shared} {E : Value → Shared → Prop} {D t : Addr} {L : List (Addr × List Int)} {k : List Int} {Q : Value → Shared → Prop} (I : Inv X pins τ H s) (hD : H D = some (SetTO X.prog X.w D L)) (ht : ∀ p ∈ L, SqT X.K H p.1 (p.2.map V.int)) (hy : SqT X.K H t (k.map V.int)) (hf : L.length + 1 < 64) (hu : X.A.units + 1 < cLine)
    (h : ∀ s' L', (k ∈ L.map (·.2) → L' = L) → (k ∉ L.map (·.2) → L'.Perm ((t, k) :: L)) → Inv X pins τ (upd H D (SetTO X.prog X.w D L')) s' → Q .none s') : wpAny (model X.prog X.w) X.A (call (.builtin "set.add") [.ref D, .ref t]) Q E s := by
  obtain ⟨es, ep, tb, R⟩ := SetT0.full (I.hok D _ hD).1 fun p hp => I.isT (ht p hp)
  obtain ⟨o, ho, hex, hd⟩ := id R.ob
  have hT : s.TypeIs (.ref D) "set" := ⟨o, ho, hex.1⟩
  refine wpAny_call_entry F.slot_set_add hT F.entry_set_add ?_ (F.args_set_add_2 _ _)
  unfold Builtin.«set.add» Builtin.Frozenset.oneOther
  simp only [List.isEmpty_nil, bind_assoc]
  unfold Builtin.Frozenset.addrOf setAdd
  refine wpAny_bind (wpAny_pure ?_)
  try dsimp only
  refine wpAny_bind (wpAny_pure ?_)
  try dsimp only
  refine wpAny_bind (wpAny_holding (wpAny_bind (wpAny_pyHash_tuple (show X.A.units + 1 < cLine from hu) (I.isT hy) ?_)))
  refine add_at (s := { s with toks := s.toks + (k.length + 1) }) R (I.isT hy) (show X.A.units + 1 < cLine from hu) hf fun b h' L' es' ep' tb' sb R' c1 c2 => ?_
  show wpAny _ _ (ret Value.none) _ _ _
  obtain ⟨o', ho', _⟩ := id R'.ob
  exact wpAny_pure ⟨_, rfl, h _ L' c1 c2 (I.write (e := D) (t' := s.toks + (k.length + 1)) (by rw [hD]; trivial) (.inl rfl) (fun b u hb hu => (sb.2 b hb).trans hu) ⟨o', ho'⟩ (setTO_new R'.t0))⟩
/-- how many -/
theorem call_lenT : CallR X (.builtin "len") (fun xs H Q => ∃ a L, xs = [V.ref a] ∧ H a = some (SetTO X.prog X.w a L) ∧ (∀ p ∈ L, SqT X.K H p.1 (p.2.map V.int)) ∧ Q (.int (L.length : Nat)) H) := by
  intro pins s τ H xs us Q I r h
  obtain ⟨a, L, rfl, ha, ht, q⟩ := h
  rw [Vals.ref1 r]
  obtain ⟨es, ep, tb, R⟩ := SetT0.full (I.hok a _ ha).1 fun p hp => I.isT (ht p hp)
  obtain ⟨o, ho, hex, hd⟩ := id R.ob
  have n1 := R.size
  have n2 := R.few
  exact call_len_set ho hex hd R.fits (by omega) ⟨.int (L.length : Nat), H, I.tok _, ⟨_, by rw [n1]⟩, q⟩
/-- {elt for target in iter}, elt a tuple of ints: D the new set -/
def tSt (P : Program) (w : World) (K : PySem.W.Frag) (wi : TI) (g : TG) (te : TE) (vs : List Nat) : TE := fun τ H Q => wi τ H fun J H1 => ∀ D, H1 D = none → ∃ W : Nat → Nat → Hp → Prop, (∃ m, W 0 m (upd H1 D (SetTO P w D []))) ∧ ∀ i m H, W i m H →
  (J.stop i H ∧ Q (.ref D) H) ∨ (J.go i H ∧ ∃ Nx : Hp → Prop, (∀ H', Nx H' → ∃ m', m' < m ∧ W (i + 1) m' H') ∧ ∀ x H', J.yld i H x H' → g x (wipe τ vs) H' fun τ2 H3 => wipe τ2 vs = wipe τ vs ∧
    te τ2 H3 fun y H4 => ∃ (t : Addr) (k : List Int) (L : List (Addr × List Int)), y = .ref t ∧ SqT K H4 t (k.map V.int) ∧ H4 D = some (SetTO P w D L) ∧ (∀ p ∈ L, SqT K H4 p.1 (p.2.map V.int)) ∧ L.length + 1 < 64 ∧
      ∀ L', (k ∈ L.map (·.2) → L' = L) → (k ∉ L.map (·.2) → L'.Perm ((t, k) :: L)) → Nx (upd H4 D (SetTO P w D L')))
theorem fresh0 (P : Program) (w : World) (h : Heap) : SetT0 P w (h.push (eS w)) h.objs.size [] := (setTR_fresh (P := P) (w := w) (h := h.push (eS w)) (a := h.objs.size) (Heap.get?_push_size _ rfl)).t0
/-- as a value -/
theorem pe_st {elt tg iter : Expr} {scope : Scope} {own : List (PySem.Str × Nat)} {pos : Pos} {wi : TI} {g : TG} {te : TE} (hc : X.calm = true) (hu : X.A.units + 1 < cLine) (hN : X.N.Nodup) (hi : PI X tg iter wi) (ok : BlkOk X.N X.env.scope scope own)
    (hg : ∀ (s : Shared) (H : Hp) (C : Addr) (cl : List (PySem.Str × Addr)) (fp : List Addr), PG (X.blk s H scope (compEnvC scope cl C X.env) fp) tg g) (he : ∀ (s : Shared) (H : Hp) (C : Addr) (cl : List (PySem.Str × Addr)) (fp : List Addr), PE (X.blk s H scope (compEnvC scope cl C X.env) fp) elt te)
    (hs : ∀ x, foldedSetIterable iter X.env x = pure x := by intro _; rfl) : PE X (.SetComp elt [⟨tg, iter, [], 0⟩] scope pos) (tSt X.prog X.w X.K wi g te (own.map (·.2))) := by
  refine ⟨fun pins s τ H Q I h => ?_⟩
  rw [PpSet.eval_SetComp]
  have hfree : ∀ z ∈ scope.names, z.2 = .free → ∃ c, X.env.cells.lookup z.1 = some c := fun z hz e => (ok.free z hz e).elim (fun k => I.ok.has _ (.inl k)) fun k => I.ok.has _ (.inr k)
  refine wpAny_comprehension_free (use := none) rfl hs (closure_ok hfree) ok.kind (fun z hz e => by rw [ok.uniq z hz, e]) (thn (hi.run pins s τ H _ I h) fun xv s1 hx => thn hx fun itv s2 z2 => ?_)
  obtain ⟨it, fp, tn, J, H2, rfl, I2, T, st2, f2, q⟩ := z2
  refine PpSet.newSet_ok (newEnv_comp ?_)
  show codeAny _ _ (.compStart (.SetComp elt [⟨tg, iter, [], 0⟩] scope pos) 0 (.ref it) (.ref s2.heap.objs.size) (compEnvC scope (cellsFrom ((s2.heap.push (eS X.w)).objs.size + 1) scope.names (cloFrom X.env.cells scope.names [])) (s2.heap.push (eS X.w)).objs.size X.env)) _ { s2 with heap := pushCells ((s2.heap.push (eS X.w)).push eD) scope.names }
  have nD : H2 s2.heap.objs.size = none := I2.hok.fresh (Nat.le_refl _)
  have IS : Inv X pins τ (upd H2 s2.heap.objs.size (SetTO X.prog X.w s2.heap.objs.size [])) { s2 with heap := s2.heap.push (eS X.w) } := I2.laid (t' := s2.toks) (fun b o e => Heap.get?_push_of_some _ e) (Nat.le_refl _) (setTO_new (fresh0 _ _ _))
  have stS : tn 0 (s2.heap.push (eS X.w)) := T.keep _ _ _ st2 fun b _ o e => Heap.get?_push_of_some _ e
  have fS : ∀ b ∈ fp, FpOk X pins (upd H2 s2.heap.objs.size (SetTO X.prog X.w s2.heap.objs.size [])) b ∧ b < (s2.heap.push (eS X.w)).objs.size := fun b hb => by
    obtain ⟨o, e, _⟩ := T.obj _ _ st2 b hb
    have l1 := Heap.lt_size e
    exact ⟨⟨by rw [upd_ne (Nat.ne_of_lt l1)]; exact (f2 b hb).1, (f2 b hb).2⟩, by rw [Heap.size_push]; exact Nat.lt_succ_of_lt l1⟩
  obtain ⟨W, ⟨m0, w0⟩, turn⟩ := q _ nD
  have IB := block_start IS ok hN fS
  have stB : tn 0 (pushCells ((s2.heap.push (eS X.w)).push eD) scope.names) := T.keep _ _ _ stS fun b _ o e => pushCells_keeps _ _ _ _ (Heap.get?_push_of_some _ e)
  generalize s2.heap.objs.size = D at *
  generalize upd H2 D (SetTO X.prog X.w D []) = HS at IS IB w0 fS
  generalize eS3 : ({ s2 with heap := s2.heap.push (eS X.w) } : Shared) = s3 at IS IB
  have e3 : s2.heap.push (eS X.w) = s3.heap := by rw [← eS3]
  rw [e3] at fS stS stB ⊢
  have e4 : ({ s2 with heap := pushCells (s3.heap.push eD) scope.names } : Shared) = { s3 with heap := pushCells (s3.heap.push eD) scope.names } := by rw [← eS3]
  rw [e4]
  have pg := hg s3 HS s3.heap.objs.size (cellsFrom (s3.heap.objs.size + 1) scope.names (cloFrom X.env.cells scope.names [])) fp
  have pe := he s3 HS s3.heap.objs.size (cellsFrom (s3.heap.objs.size + 1) scope.names (cloFrom X.env.cells scope.names [])) fp
  generalize hce : compEnvC scope (cellsFrom (s3.heap.objs.size + 1) scope.names (cloFrom X.env.cells scope.names [])) s3.heap.objs.size X.env = ce at IB pg pe ⊢
  have cL : ce.locals = s3.heap.objs.size := by rw [← hce]; rfl
  generalize hs4 : ({ s3 with heap := pushCells (s3.heap.push eD) scope.names } : Shared) = s4 at IB ⊢
  have st4 : tn 0 s4.heap := by rw [← hs4]; exact stB
  have nf : ∀ b ∈ fp, HS b = none := fun b hb => (fS b hb).1.1
  have stat : ∀ {τ' : L2.St} {H' : Hp} {s' : Shared}, Inv (X.blk s3 HS scope ce fp) [] τ' H' s' → (∀ b ∈ fp, H' b = none) → ∀ b ∈ fp, FpOk (X.blk s3 HS scope ce fp) [] H' b := fun {τ' H' s'} I' hn b hb =>
    ⟨hn b hb, (I'.ok.exf b hb).1, I'.ok.exfs b hb, .inl hb, fun x c e => (I'.ok.exf b hb).2 x c e, fun p hp => absurd (show p ∈ ([] : List (Addr × Obj)) ++ [] from hp) (by simp)⟩
  suffices loop : codeAny (model X.prog X.w) X.A (.compLoop (.SetComp elt [⟨tg, iter, [], 0⟩] scope pos) 0 (.ref it) (.ref D) ce) (compPost (model X.prog X.w) X.A X.xe none (EP X pins τ Q) (.ref D) s3.heap.objs.size) s4 from PpSet.codeAny_compStart_set loop (T.self X.A 0 _ _ _ st4 loop)
  refine PpSet.compLoopS_any (fun n s' => ∃ i H', Inv (X.blk s3 HS scope ce fp) [] (wipe τ (own.map (·.2))) H' s' ∧ tn i s'.heap ∧ (∀ b ∈ fp, H' b = none) ∧ W i n H') (fun n s5 z5 => ?_) m0 ⟨0, HS, IB, st4, nf, w0⟩
  obtain ⟨i, H5, I5, st5, n5, w5⟩ := z5
  rcases turn i n H5 w5 with ⟨stop, qq⟩ | ⟨go, Nx, hNx, step⟩
  · refine thnF (T.done (X.blk s3 HS scope ce fp) rfl rfl rfl hc i [] s5 _ H5 (fun _ _ => False) I5 (stat I5 n5) st5 stop) fun r s6 ⟨hr, I6⟩ => ?_
    subst hr
    have I7 : Inv X pins τ H5 s6 := IS.call' (ch := fp) I6.os I6.base I6.hok I6.bare fun b hb => ⟨(fS b hb).1.2.2.2.1, (fS b hb).1.2.1, (fS b hb).1.2.2.2.2.1, (fS b hb).1.2.2.2.2.2⟩
    have nC : H5 s3.heap.objs.size = none := by rw [← cL]; exact I6.free
    obtain ⟨m, hn, _⟩ := I6.loc
    have hn : s6.heap.Ns s3.heap.objs.size m := by rw [← cL]; exact hn
    obtain ⟨f0, f1, f2', f3, f4, f5⟩ := IS.fpOk (Nat.le_refl _) nC
    exact ⟨m, hn, fun h'' sb => ⟨.ref D, H5, I7.turned (t' := s6.toks) (fun b o hb e => (sb.2 b hb).trans e) f0 f1 f3 f4 f5, rfl, qq⟩⟩
  · refine thnF (T.item (X.blk s3 HS scope ce fp) rfl rfl rfl hc i [] s5 _ H5 (fun _ _ => False) I5 (stat I5 n5) st5 go) fun r s6 ⟨u, hr, h6⟩ => ?_
    subst hr
    refine thnF h6 fun _ s7 ⟨x, H7, I7, r7, y7, st7, n7⟩ => ?_
    refine thnF (pg.run _ s7 _ H7 x u _ (I7.pinned (stat I7 n7) (T.obj _ _ st7)) r7 (step x H7 y7)) fun _ s8 ⟨τ8, H8, I8, hw8, q8⟩ => ?_
    refine wpAny_tests_nil ?_
    rw [if_pos rfl]
    refine thnF (pe.run _ s8 τ8 H8 _ I8 q8) fun z s10 ⟨yv, H10, I10, r10, t, k, L, ey, hy, hD10, hL, hlt, nx⟩ => ?_
    subst ey
    cases (show z = Value.ref t from r10)
    refine addT_ok (X := X.blk s3 HS scope ce fp) I10 hD10 hL hy hlt hu fun s11 L' c1 c2 I11 => ?_
    obtain ⟨m', hm, w'⟩ := hNx _ (nx L' c1 c2)
    have pin' : ∀ b ∈ fp, ∀ o, s7.heap.get? b = some o → s11.heap.get? b = some o ∧ (upd H10 D (SetTO X.prog X.w D L')) b = none := fun b hb o e =>
      let z := I11.pin (b, o) (List.mem_append_right _ (List.mem_append_right _ (mem_pinsAt hb e)))
      ⟨z.1, z.2.1⟩
    refine ⟨m', hm, i + 1, _, (I11.unpinned (pins := [])).weak (by rw [← hw8, wipe_length]) (fun j v e => (wipe_some (by rw [hw8]; exact e)).1), T.keep _ _ _ st7 fun b hb o e => (pin' b hb o e).1, fun b hb => ?_, w'⟩
    obtain ⟨o, e, _⟩ := T.obj _ _ st7 b hb
    exact (pin' b hb o e).2
/-- over a list that the block leaves as it is -/
theorem st_list {P : Program} {w : World} {K : PySem.W.Frag} {a : Addr} {xs : List V} {g : TG} {te : TE} {vs : List Nat} {τ : L2.St} {H1 : Hp} {D : Addr} {Qd : Hp → Prop} (Pv : Nat → Hp → Prop) (h0 : Pv 0 (upd H1 D (SetTO P w D []))) (hl : ∀ i H, i ≤ xs.length → Pv i H → SqL K H a xs)
    (hs : ∀ i x H, xs[i]? = some x → Pv i H → g x (wipe τ vs) H fun τ2 H3 => wipe τ2 vs = wipe τ vs ∧
      te τ2 H3 fun y H4 => ∃ (t : Addr) (k : List Int) (L : List (Addr × List Int)), y = .ref t ∧ SqT K H4 t (k.map V.int) ∧ H4 D = some (SetTO P w D L) ∧ (∀ p ∈ L, SqT K H4 p.1 (p.2.map V.int)) ∧ L.length + 1 < 64 ∧
      ∀ L', (k ∈ L.map (·.2) → L' = L) → (k ∉ L.map (·.2) → L'.Perm ((t, k) :: L)) → Pv (i + 1) (upd H4 D (SetTO P w D L'))) (hd : ∀ H, Pv xs.length H → Qd H) :
    ∃ W : Nat → Nat → Hp → Prop, (∃ m, W 0 m (upd H1 D (SetTO P w D []))) ∧ ∀ i m H, W i m H →
      ((Itl K a).stop i H ∧ Qd H) ∨ ((Itl K a).go i H ∧ ∃ Nx : Hp → Prop, (∀ H', Nx H' → ∃ m', m' < m ∧ W (i + 1) m' H') ∧ ∀ x H', (Itl K a).yld i H x H' → g x (wipe τ vs) H' fun τ2 H3 => wipe τ2 vs = wipe τ vs ∧
        te τ2 H3 fun y H4 => ∃ (t : Addr) (k : List Int) (L : List (Addr × List Int)), y = .ref t ∧ SqT K H4 t (k.map V.int) ∧ H4 D = some (SetTO P w D L) ∧ (∀ p ∈ L, SqT K H4 p.1 (p.2.map V.int)) ∧ L.length + 1 < 64 ∧
      ∀ L', (k ∈ L.map (·.2) → L' = L) → (k ∉ L.map (·.2) → L'.Perm ((t, k) :: L)) → Nx (upd H4 D (SetTO P w D L'))) := by
  refine ⟨fun i m H => m + i = xs.length ∧ Pv i H, ⟨xs.length, rfl, h0⟩, fun i m H z => ?_⟩
  obtain ⟨hm, p⟩ := z
  have q := hl i H (by omega) p
  rcases Nat.lt_or_ge i xs.length with lt | ge
  · refine .inr ⟨⟨xs, xs[i], q, List.getElem?_eq_getElem lt⟩, Pv (i + 1), fun H' p' => ⟨m - 1, by omega, by omega, p'⟩, fun x H' y => ?_⟩
    obtain ⟨rfl, y⟩ := y
    exact hs i x _ (y xs q) p
  · obtain rfl : i = xs.length := by omega
    exact .inl ⟨⟨xs, q, Nat.le_refl _⟩, hd H p⟩
/-- over a tuple that the block leaves as it is -/
theorem st_tup {P : Program} {w : World} {K : PySem.W.Frag} {a : Addr} {xs : List V} {g : TG} {te : TE} {vs : List Nat} {τ : L2.St} {H1 : Hp} {D : Addr} {Qd : Hp → Prop} (Pv : Nat → Hp → Prop) (h0 : Pv 0 (upd H1 D (SetTO P w D []))) (hl : ∀ i H, i ≤ xs.length → Pv i H → SqT K H a xs)
    (hs : ∀ i x H, xs[i]? = some x → Pv i H → g x (wipe τ vs) H fun τ2 H3 => wipe τ2 vs = wipe τ vs ∧
      te τ2 H3 fun y H4 => ∃ (t : Addr) (k : List Int) (L : List (Addr × List Int)), y = .ref t ∧ SqT K H4 t (k.map V.int) ∧ H4 D = some (SetTO P w D L) ∧ (∀ p ∈ L, SqT K H4 p.1 (p.2.map V.int)) ∧ L.length + 1 < 64 ∧
      ∀ L', (k ∈ L.map (·.2) → L' = L) → (k ∉ L.map (·.2) → L'.Perm ((t, k) :: L)) → Pv (i + 1) (upd H4 D (SetTO P w D L'))) (hd : ∀ H, Pv xs.length H → Qd H) :
    ∃ W : Nat → Nat → Hp → Prop, (∃ m, W 0 m (upd H1 D (SetTO P w D []))) ∧ ∀ i m H, W i m H →
      ((Itt K a).stop i H ∧ Qd H) ∨ ((Itt K a).go i H ∧ ∃ Nx : Hp → Prop, (∀ H', Nx H' → ∃ m', m' < m ∧ W (i + 1) m' H') ∧ ∀ x H', (Itt K a).yld i H x H' → g x (wipe τ vs) H' fun τ2 H3 => wipe τ2 vs = wipe τ vs ∧
        te τ2 H3 fun y H4 => ∃ (t : Addr) (k : List Int) (L : List (Addr × List Int)), y = .ref t ∧ SqT K H4 t (k.map V.int) ∧ H4 D = some (SetTO P w D L) ∧ (∀ p ∈ L, SqT K H4 p.1 (p.2.map V.int)) ∧ L.length + 1 < 64 ∧
      ∀ L', (k ∈ L.map (·.2) → L' = L) → (k ∉ L.map (·.2) → L'.Perm ((t, k) :: L)) → Nx (upd H4 D (SetTO P w D L'))) := by
  refine ⟨fun i m H => m + i = xs.length ∧ Pv i H, ⟨xs.length, rfl, h0⟩, fun i m H z => ?_⟩
  obtain ⟨hm, p⟩ := z
  have q := hl i H (by omega) p
  rcases Nat.lt_or_ge i xs.length with lt | ge
  · refine .inr ⟨⟨xs, xs[i], q, List.getElem?_eq_getElem lt⟩, Pv (i + 1), fun H' p' => ⟨m - 1, by omega, by omega, p'⟩, fun x H' y => ?_⟩
    obtain ⟨rfl, y⟩ := y
    exact hs i x _ (y xs q) p
  · obtain rfl : i = xs.length := by omega
    exact .inl ⟨⟨xs, q, Nat.le_refl _⟩, hd H p⟩
theorem hu1 {k : Nat} {A : Around} (hr : Room k A) : A.units + 1 < cLine := by have := hr.un; omega
end
end K7S
end
/-! ## ET -/
section
/-! sorted of a tuple, or of a list, of ints. -/
namespace K7S
open PySem PySem.Spec PyProof.Rows L2
section
variable {X : Cx}
def rSortA (K : PySem.W.Frag) : List V → Hp → VK → Prop := fun vs H Q => ∃ (a : Addr) (ns : List Int), vs = [V.ref a] ∧ (SqL K H a (ns.map V.int) ∨ SqT K H a (ns.map V.int)) ∧ ns.length < 64 ∧ ∀ (ms : List Int) (p : Addr), ms.Perm ns → ms.Pairwise (· ≤ ·) → H p = none → Q (.ref p) (upd H p (.lst (ms.map V.int)))
theorem cr_sortA : CallR X (.builtin "sorted") (rSortA X.K) := by
  intro pins s τ H vs us Q I r h
  obtain ⟨a, ns, rfl, hs, h64, q⟩ := h
  rw [Vals.ref1 r]
  have got : ∃ (its : List Value) (o : Obj) (n : Nat) (T : String), Vals (ns.map V.int) its ∧ (T = "list" ∨ T = "tuple") ∧ s.heap.get? a = some o ∧ o.cls = .type T ∧ o.data = .seq its.toArray n := by
    rcases hs with z | z
    · obtain ⟨its, rv, pl, _⟩ := I.list z
      obtain ⟨o, ho, hc, n, hd⟩ := pl.isList
      exact ⟨its, o, n, "list", rv, .inl rfl, ho, hc, hd⟩
    · obtain ⟨its, rv, ⟨o, ho, hc, n, hd⟩, _⟩ := I.tuple z
      exact ⟨its, o, n, "tuple", rv, .inr rfl, ho, hc, hd⟩
  obtain ⟨its, o, n, T, rv, hT, ho, hc, hd⟩ := got
  have hi := rv.ints
  have h64' : its.length < 64 := by rw [hi.length]; exact h64
  refine Calls.call_function_entry kind_sorted plain_sorted entry_sorted (args_sorted1 _) ?_
  unfold Builtin.«sorted»
  refine wpAny_bind (m := checkCount "sorted" 1 1 _) (wpAny_pure (wpAny_bind (wpAny_collect_seq a hT ho hc hd (fun h' kp => ?_) (by rw [List.size_toArray, sizeLine_eq]; omega))))
  have hoL : (h'.push (seqObj "list" its.toArray 0)).get? h'.objs.size = some (seqObj "list" its.toArray 0) := Heap.get?_push_size _ rfl
  refine wpAny_bind (wpAny_newList ?_ (by rw [sizeLine_eq]; show its.length ≤ _; omega))
  show wpAny _ _ _ _ _ { s with heap := h'.push (seqObj "list" its.toArray 0) }
  refine wpAny_bind (wpAny_holding (wpAny_call_entry slot_list_sort ⟨_, hoL, rfl⟩ entry_list_sort (list_sort_tree hoL hi h64' fun out ms a1 a2 a3 => ⟨_, rfl, wpAny_pure ⟨_, rfl, ?_⟩⟩) (args_list_sort _)))
  obtain ⟨e, he⟩ := sortedHeap_at (vs := its) (out := out) hoL
  have hlen : (ms.map V.int).length ≤ sizeLine := by rw [List.length_map, a2.length_eq]; exact small64 h64
  have I1 : Inv X pins τ H { s with heap := h' } := I.kept (t' := s.toks) kp
  refine ⟨.ref h'.objs.size, upd H h'.objs.size (.lst (ms.map V.int)), I1.laid (t' := s.toks) (fun b u hb => ?_) (Nat.le_refl _) ⟨hlen, out.toList, e, vals_of_ints a1, he⟩, rfl, q ms _ a2 a3 (I1.hok.fresh (Nat.le_refl _))⟩
  have lt := Heap.lt_size hb
  exact (sortedHeap_old (Nat.ne_of_lt lt) (by rw [size_push']; exact Nat.lt_succ_of_lt lt)).trans (Heap.get?_push_of_some _ hb)
end
end K7S
end
/-! ## P10 -/
section
open PySem PySem.Spec PyProof.Rows L2
namespace K7
abbrev N__are_neighbours : List Str := ["cells", "thing", "couple"]
abbrev s__are_neighbours : Stmt := topS 22
theorem sc__are_neighbours : FnScope ["cells", "thing", "couple"] ["cells", "thing"] (defScope s__are_neighbours) := ⟨rfl, rfl, rfl, by decide +kernel, rfl, by decide +kernel, by decide +kernel⟩
section
variable {P : Program} {w : World} {K : PySem.W.Frag} {mg : Str → Option Value} {base : Heap}
/-! ### couples that are handed in: rows of two cells, either way round, tuples or lists -/
theorem SqOf.ty {H : Hp} {a : Addr} {xs : List V} (h : SqOf H a xs) : ∃ t : String, (∀ H1, Same H H1 → TyX K H1 (.ref a) (.type t)) ∧ PySem.W.kitAny K (.type t) [.type "list", .type "tuple"] = some true := by
  rcases h with z | z
  · exact ⟨"tuple", fun H1 e1 => .base (.tup (e1 _ _ z)), any_tup⟩
  · exact ⟨"list", fun H1 e1 => .base (.lst (e1 _ _ z)), any_lst⟩
def CoAt (H : Hp) (t : Addr) (c : Nat × Nat) : Prop := SqOf H t (ints_ [c.1, c.2])
def CoAll (H : Hp) (ts : List Addr) (cs : List (Nat × Nat)) : Prop := ts.length = cs.length ∧ ∀ (i : Nat) t c, ts[i]? = some t → cs[i]? = some c → CoAt H t c
theorem CoAll.same {H H' : Hp} {ts : List Addr} {cs : List (Nat × Nat)} (h : CoAll H ts cs) (e : Same H H') : CoAll H' ts cs := ⟨h.1, fun i t c h1 h2 => (h.2 i t c h1 h2).same e⟩
structure Cos (n : Nat) (cs : List (Nat × Nat)) : Prop where
  lt : ∀ c ∈ cs, c.1 < n ∧ c.2 < n ∧ c.1 ≠ c.2
  nd : (cs.map KL.srt).Nodup
  len : cs.length ≤ 32
theorem two_co {n : Nat} {c : Nat × Nat} (h : c.1 < n ∧ c.2 < n ∧ c.1 ≠ c.2) : twoV (n : Nat) (ints_ [c.1, c.2]) = true := by
  obtain ⟨h1, h2, h3⟩ := h
  unfold twoV cellsV
  have e1 : wholeV (.int (c.1 : Nat)) 0 (((n : Nat) : Int) - 1) = true := by rw [wholeV_int, decide_eq_true (by omega), decide_eq_true (by omega)]; rfl
  have e2 : wholeV (.int (c.2 : Nat)) 0 (((n : Nat) : Int) - 1) = true := by rw [wholeV_int, decide_eq_true (by omega), decide_eq_true (by omega)]; rfl
  have e3 : (ints_ [c.1, c.2]).all (fun x => wholeV x 0 (((n : Nat) : Int) - 1)) = true := by
    show (wholeV (.int (c.1 : Nat)) 0 (((n : Nat) : Int) - 1) && (wholeV (.int (c.2 : Nat)) 0 (((n : Nat) : Int) - 1) && true)) = true
    rw [e1, e2]; rfl
  have e4 : ((ints_ [c.1, c.2]).map intOf).Nodup := by
    show [((c.1 : Nat) : Int), ((c.2 : Nat) : Int)].Nodup
    refine List.nodup_cons.mpr ⟨fun m => ?_, List.nodup_cons.mpr ⟨List.not_mem_nil, List.nodup_nil⟩⟩
    rw [List.mem_singleton] at m
    omega
  rw [e3, decide_eq_true e4, decide_eq_true (show (2 : Int) ≤ (((ints_ [c.1, c.2]).length : Nat) : Int) from (by decide : (2 : Int) ≤ ((2 : Nat) : Int))), decide_eq_true (show (ints_ [c.1, c.2]).length = 2 from rfl)]
  rfl
def keyOf (c : Nat × Nat) : List Int := [((KL.srt c).1 : Int), ((KL.srt c).2 : Int)]
theorem keyOf_inj {c d : Nat × Nat} (h : keyOf c = keyOf d) : KL.srt c = KL.srt d := by
  unfold keyOf at h
  injection h with h1 h2
  injection h2 with h2
  exact Prod.ext (by omega) (by omega)
theorem keys_nd {cs : List (Nat × Nat)} (h : (cs.map KL.srt).Nodup) : (cs.map keyOf).Nodup := by
  induction cs with
  | nil => exact List.nodup_nil
  | cons c cs ih =>
    rw [List.map_cons, List.nodup_cons] at h
    rw [List.map_cons, List.nodup_cons]
    refine ⟨fun m => ?_, ih h.2⟩
    obtain ⟨d, hd, e⟩ := List.mem_map.mp m
    exact h.1 (List.mem_map.mpr ⟨d, hd, keyOf_inj e⟩)
theorem key_ints (c : Nat × Nat) : (keyOf c).map V.int = ints_ [(KL.srt c).1, (KL.srt c).2] := rfl
def spNbrs : Sp := fun vs H Q _ => ∃ (n : Nat) (a : Addr) (ts : List Addr) (cs : List (Nat × Nat)), vs = [.int (n : Nat), .ref a] ∧ SqOf H a (ts.map V.ref) ∧ CoAll H ts cs ∧ Cos n cs ∧ ∀ H', Same H H' → Q (.bl true) H'
theorem ok_nbrs {f fS fT : Addr} {fd fdS fdT : FuncData} (F : Fun K "_are_neighbours" "_are_neighbours" s__are_neighbours f fd)
    (Gsq : FnOk P w K mg base CX0 1 fS fdS ["thing"] (spSeq K)) (gsq : mg "is_sequence" = some (.ref fS)) (ksq : PySem.W.keepIn K (.ref fS) = true) (bsq : Binds K fdS ["thing"] [])
    (Ga2 : FnOk P w K mg base CX0 3 fT fdT ["many", "thing"] (spTwo K)) (ga2 : mg "are_two_cells" = some (.ref fT)) (ka2 : PySem.W.keepIn K (.ref fT) = true) (ba2 : Binds K fdT ["many", "thing"] [])
    (m_len : mg "len" = none) (m_all : mg "all" = none) (m_tuple : mg "tuple" = none) (m_sorted : mg "sorted" = none) : FnOk P w K mg base CX0 4 f fd ["cells", "thing"] spNbrs := by
  refine F.ok sc__are_neighbours (fun vs H Q E h => ?_) (fun cdv A outer s H vs Q E hr h => ?_)
  · obtain ⟨n, a, ts, cs, rfl, _⟩ := h
    rfl
  · obtain ⟨n, a, ts, cs, rfl, ha, hT, hc, q⟩ := h
    refine ⟨_, (pss_cons (ps_if (pw_or (pt_not (pt_val (pe_call Gsq (hr.mono (by decide)) (by rfl) gsq ksq bsq .nil pass0 (pa_cons (pv 1) pa_nil)))) (pw_or1 (pt_not (pt_val (pe_callB (cr_all rfl) (by rfl) m_all boot_all (pa_cons (pe_lc (own := [("couple", 2)]) (g := gName 2) (tt := tYes) rfl sc__are_neighbours.nd (K7E.pi_either (pi_tup (pv 1)) (pi_list (pv 1))) (blkOk_by (own := [("couple", 2)]) (N := N__are_neighbours) (sc := defScope s__are_neighbours) (by decide +kernel)) (fun _ _ _ _ _ => (pg_name (i := 2) sc__are_neighbours.nd rfl (by first | exact Or.inl rfl | exact Or.inr rfl))) (fun _ _ _ _ _ => pts_nil) (fun _ _ _ _ _ => (pe_call Ga2 (hr.mono (by decide)) (by rfl) ga2 ka2 ba2 .nil pass0 (pa_cons (pv 0) (pa_cons (pv 2) pa_nil))))) pa_nil)))))).pt
  (pss_one (ps_ret pe_bl))
  pss_nil)
 (pss_one (ps_ret (pe_cmpR op_eq (pe_callB K7S.call_lenT (by rfl) m_len boot_len (pa_cons (K7S.pe_st (own := [("couple", 2)]) (g := gName 2) rfl (K7S.hu1 hr) sc__are_neighbours.nd (K7E.pi_either (pi_tup (pv 1)) (pi_list (pv 1))) (blkOk_by (own := [("couple", 2)]) (N := N__are_neighbours) (sc := defScope s__are_neighbours) (by decide +kernel)) (fun _ _ _ _ _ => (pg_name (i := 2) sc__are_neighbours.nd rfl (by first | exact Or.inl rfl | exact Or.inr rfl))) (fun _ _ _ _ _ => (pe_callTy (show CallR _ (.type "tuple") (rTup_ K) from call_tuple_of) (by rfl) m_tuple boot_tuple (pa_cons (pe_callB (show CallR _ (.builtin "sorted") (K7S.rSortA K) from K7S.cr_sortA) (by rfl) m_sorted boot_sorted (pa_cons (pv 2) pa_nil)) pa_nil)))) pa_nil)) (pe_callB call_len_seq (by rfl) m_len boot_len (pa_cons (pv 1) pa_nil)) (nomark _))))), ?_⟩
    obtain ⟨t, ty, kk⟩ := ha.ty (K := K)
    have hl : ts.length = cs.length := hT.1
    have h32 := hc.len
    refine ⟨_, rfl, _, t, true, rfl, ty, kk, fun H1 e1 => ⟨_, rfl, ?_⟩⟩
    have ha1 := ha.same e1
    have hT1 := hT.same e1
    -- the second half: the set, behind any heap
    have half : ∀ H2, Same H1 H2 → ∀ D, H2 D = none → ∀ (j : Nat) (x : V) (H3 : Hp), (ts.map V.ref)[j]? = some x → (Same H2 H3 ∧ ∃ L : List (Addr × List Int), H3 D = some (SetTO P w D L) ∧ (∀ p ∈ L, H3 p.1 = some (.tup (p.2.map V.int))) ∧ (L.map (·.2)).Perm ((cs.take j).map keyOf)) →
        ∃ c t', x = .ref t' ∧ cs[j]? = some c ∧ CoAt H3 t' c ∧ keyOf c ∉ (cs.take j).map keyOf := by
      intro H2 e2 D hD j x H3 hx pv
      rw [List.getElem?_map] at hx
      obtain ⟨t', ht', rfl⟩ := Option.map_eq_some_iff.mp hx
      have hj : j < cs.length := by rw [← hl]; exact (List.getElem?_eq_some_iff.mp ht').1
      refine ⟨cs[j], t', rfl, List.getElem?_eq_getElem hj, (hT1.2 j t' _ ht' (List.getElem?_eq_getElem hj)).same (e2.trans pv.1), fun m => ?_⟩
      have nd := keys_nd hc.nd
      have e3 : cs.map keyOf = (cs.take j).map keyOf ++ (cs.drop j).map keyOf := by rw [← List.map_append, List.take_append_drop]
      rw [e3, List.nodup_append] at nd
      exact nd.2.2 _ m _ (List.mem_map.mpr ⟨cs[j], by rw [List.drop_eq_getElem_cons hj]; exact List.mem_cons_self, rfl⟩) rfl
    have fin : ∀ H2, Same H1 H2 → ∀ L : List (Addr × List Int), (L.map (·.2)).Perm ((cs.take (ts.map V.ref).length).map keyOf) → (Same H H2 → decide (V.int (L.length : Nat) = V.int ((ts.map V.ref).length : Nat)) = true) := by
      intro H2 e2 L p _
      have z := p.length_eq
      rw [List.length_map, List.length_map, List.length_map, hl, List.take_length] at z
      rw [List.length_map, z, hl]
      exact decide_eq_true rfl
    have Q2 : ∀ H2, Same H1 H2 → Q (.bl true) H2 := fun H2 e2 => q H2 (e1.trans e2)
    have sz : (ts.map V.ref).length = cs.length := by rw [List.length_map, hl]
    rcases ha1 with z | z
    · refine .inl ⟨_, rfl, a, rfl, ⟨_, .inl (.inl z)⟩, fun D hD => lc_tup (xs := ts.map V.ref) (fun j H2 => Same H1 H2 ∧ ∃ bs : List Bool, H2 D = some (.lst (bs.map V.bl)) ∧ bs.all id = true ∧ bs.length = j) ⟨same_new (Same.refl H1) hD, [], upd_same, rfl, rfl⟩ (fun j H2 _ pv => .inl (.inl (pv.1 _ _ z))) (fun j x H2 hx pv => ?_) (fun H2 pv => ?_)⟩
      · obtain ⟨e2, bs, hD2, hb, lb⟩ := pv
        have hjx := (List.getElem?_eq_some_iff.mp hx).1
        rw [List.getElem?_map] at hx
        obtain ⟨t', ht', rfl⟩ := Option.map_eq_some_iff.mp hx
        have hj : j < cs.length := by rw [← sz]; exact hjx
        have hco := hc.lt cs[j] (List.getElem_mem hj)
        refine ⟨rfl, _, rfl, _, rfl, n, .ref t', rfl, .inr ⟨t', _, rfl, (hT1.2 j t' cs[j] ht' (List.getElem?_eq_getElem hj)).same e2, fun y hy => ?_, by show 2 < 64; decide, fun H3 e3 => ?_⟩⟩
        · obtain ⟨k, _, rfl⟩ := List.mem_map.mp hy
          exact .flat (.int _)
        · rw [two_co hco]
          refine ⟨_, e3 _ _ hD2, by rw [List.length_map]; exact small1000 (by omega), fun b o hb => ?_, bs ++ [true], ?_, ?_, by rw [List.length_append, lb]; rfl⟩
          · rw [upd_ne (ne_of_none hb hD)]
            exact e3 _ _ (e2 _ _ hb)
          · rw [upd_same, List.map_append]
            rfl
          · rw [List.all_append, hb]
            rfl
      · obtain ⟨e2, bs, hD2, hb, lb⟩ := pv
        refine ⟨D, bs, rfl, .inl (.inl hD2), _, rfl, ?_⟩
        rw [hb]
        refine iteF ?_
        refine .inl ⟨_, rfl, a, rfl, ⟨_, .inl (.inl (e2 _ _ z))⟩, fun D2 hD2 => K7S.st_tup (xs := ts.map V.ref) (fun j H3 => Same H2 H3 ∧ ∃ L : List (Addr × List Int), H3 D2 = some (SetTO P w D2 L) ∧ (∀ p ∈ L, H3 p.1 = some (.tup (p.2.map V.int))) ∧ (L.map (·.2)).Perm ((cs.take j).map keyOf)) ⟨same_new (Same.refl H2) hD2, [], upd_same, fun p hp => (nomatch hp), List.Perm.refl _⟩ (fun j H3 _ pv => .inl (.inl (pv.1 _ _ (e2 _ _ z)))) (fun j x H3 hx pv => ?_) (fun H3 pv => ?_)⟩
        · obtain ⟨c, t', rfl, hcj, hco, hnew⟩ := half H2 e2 D2 hD2 j x H3 hx pv
          obtain ⟨e3, L, hL, hLt, pm⟩ := pv
          have ll : L.length = j := by
            have z := pm.length_eq
            rw [List.length_map, List.length_map, List.length_take, Nat.min_eq_left (Nat.le_of_lt (List.getElem?_eq_some_iff.mp hcj).1)] at z
            exact z
          have hjc := (List.getElem?_eq_some_iff.mp hcj).1
          refine ⟨rfl, _, rfl, t', [(c.1 : Int), (c.2 : Int)], rfl, hco.sq, by show 2 < 64; decide, fun ms p pm2 so np => ?_⟩
          have em := KL.two_sorted pm2 so
          subst em
          refine ⟨p, _, rfl, .inl ⟨.inl (.inl upd_same), fun l nl => ?_⟩⟩
          have s1 := same_new (o := .lst ([((min c.1 c.2 : Nat) : Int), ((max c.1 c.2 : Nat) : Int)].map V.int)) (Same.refl H3) np
          have s2 := same_new (o := .tup ([((min c.1 c.2 : Nat) : Int), ((max c.1 c.2 : Nat) : Int)].map V.int)) s1 nl
          refine ⟨l, keyOf c, L, rfl, .inl (.inl upd_same), s2 _ _ hL, fun p hp => .inl (.inl (s2 _ _ (hLt p hp))), by omega, fun L' _ c2 => ?_⟩
          have pm' := c2 (fun m => hnew (pm.mem_iff.mp m))
          have nlD : l ≠ D2 := fun e => by rw [e, s1 _ _ hL] at nl; cases nl
          refine ⟨fun b o hb => ?_, L', upd_same, fun p hp => ?_, ?_⟩
          · rw [upd_ne (ne_of_none hb hD2)]
            exact s2 _ _ (e3 _ _ hb)
          · have tp : ∀ p ∈ L', (upd (upd H3 _ _) l (.tup ((keyOf c).map V.int))) p.1 = some (.tup (p.2.map V.int)) := fun p hp => by
              rcases List.mem_cons.mp (pm'.mem_iff.mp hp) with rfl | hp
              · exact upd_same
              · exact s2 _ _ (hLt p hp)
            have z := tp p hp
            rw [upd_ne (fun e => by rw [e] at z; exact absurd (z.symm.trans (s2 _ _ hL)) (fun w => by cases w))]
            exact z
          · refine (pm'.map (·.2)).trans ?_
            rw [List.take_add_one, hcj, List.map_append]
            exact ((List.perm_append_singleton _ _).trans (pm.symm.cons _)).symm
        · obtain ⟨e3, L, hL, hLt, pm⟩ := pv
          have eq2 := fin H3 (e2.trans e3) L pm (e1.trans (e2.trans e3))
          refine ⟨D2, L, rfl, hL, fun p hp => .inl (.inl (hLt p hp)), _, rfl, a, ts.map V.ref, rfl, ?_, rfl, ?_⟩
          · exact (SqOf.sq (K := K) (H := H3) (show SqOf H3 a (ts.map V.ref) from (ha.same e1).same (e2.trans e3)))
          · rw [eq2]
            exact Q2 H3 (e2.trans e3)
    · refine .inr ⟨_, rfl, a, rfl, ⟨_, .inl (.inl z)⟩, fun D hD => lc_list (xs := ts.map V.ref) (fun j H2 => Same H1 H2 ∧ ∃ bs : List Bool, H2 D = some (.lst (bs.map V.bl)) ∧ bs.all id = true ∧ bs.length = j) ⟨same_new (Same.refl H1) hD, [], upd_same, rfl, rfl⟩ (fun j H2 _ pv => .inl (.inl (pv.1 _ _ z))) (fun j x H2 hx pv => ?_) (fun H2 pv => ?_)⟩
      · obtain ⟨e2, bs, hD2, hb, lb⟩ := pv
        have hjx := (List.getElem?_eq_some_iff.mp hx).1
        rw [List.getElem?_map] at hx
        obtain ⟨t', ht', rfl⟩ := Option.map_eq_some_iff.mp hx
        have hj : j < cs.length := by rw [← sz]; exact hjx
        have hco := hc.lt cs[j] (List.getElem_mem hj)
        refine ⟨rfl, _, rfl, _, rfl, n, .ref t', rfl, .inr ⟨t', _, rfl, (hT1.2 j t' cs[j] ht' (List.getElem?_eq_getElem hj)).same e2, fun y hy => ?_, by show 2 < 64; decide, fun H3 e3 => ?_⟩⟩
        · obtain ⟨k, _, rfl⟩ := List.mem_map.mp hy
          exact .flat (.int _)
        · rw [two_co hco]
          refine ⟨_, e3 _ _ hD2, by rw [List.length_map]; exact small1000 (by omega), fun b o hb => ?_, bs ++ [true], ?_, ?_, by rw [List.length_append, lb]; rfl⟩
          · rw [upd_ne (ne_of_none hb hD)]
            exact e3 _ _ (e2 _ _ hb)
          · rw [upd_same, List.map_append]
            rfl
          · rw [List.all_append, hb]
            rfl
      · obtain ⟨e2, bs, hD2, hb, lb⟩ := pv
        refine ⟨D, bs, rfl, .inl (.inl hD2), _, rfl, ?_⟩
        rw [hb]
        refine iteF ?_
        refine .inr ⟨_, rfl, a, rfl, ⟨_, .inl (.inl (e2 _ _ z))⟩, fun D2 hD2 => K7S.st_list (xs := ts.map V.ref) (fun j H3 => Same H2 H3 ∧ ∃ L : List (Addr × List Int), H3 D2 = some (SetTO P w D2 L) ∧ (∀ p ∈ L, H3 p.1 = some (.tup (p.2.map V.int))) ∧ (L.map (·.2)).Perm ((cs.take j).map keyOf)) ⟨same_new (Same.refl H2) hD2, [], upd_same, fun p hp => (nomatch hp), List.Perm.refl _⟩ (fun j H3 _ pv => .inl (.inl (pv.1 _ _ (e2 _ _ z)))) (fun j x H3 hx pv => ?_) (fun H3 pv => ?_)⟩
        · obtain ⟨c, t', rfl, hcj, hco, hnew⟩ := half H2 e2 D2 hD2 j x H3 hx pv
          obtain ⟨e3, L, hL, hLt, pm⟩ := pv
          have ll : L.length = j := by
            have z := pm.length_eq
            rw [List.length_map, List.length_map, List.length_take, Nat.min_eq_left (Nat.le_of_lt (List.getElem?_eq_some_iff.mp hcj).1)] at z
            exact z
          have hjc := (List.getElem?_eq_some_iff.mp hcj).1
          refine ⟨rfl, _, rfl, t', [(c.1 : Int), (c.2 : Int)], rfl, hco.sq, by show 2 < 64; decide, fun ms p pm2 so np => ?_⟩
          have em := KL.two_sorted pm2 so
          subst em
          refine ⟨p, _, rfl, .inl ⟨.inl (.inl upd_same), fun l nl => ?_⟩⟩
          have s1 := same_new (o := .lst ([((min c.1 c.2 : Nat) : Int), ((max c.1 c.2 : Nat) : Int)].map V.int)) (Same.refl H3) np
          have s2 := same_new (o := .tup ([((min c.1 c.2 : Nat) : Int), ((max c.1 c.2 : Nat) : Int)].map V.int)) s1 nl
          refine ⟨l, keyOf c, L, rfl, .inl (.inl upd_same), s2 _ _ hL, fun p hp => .inl (.inl (s2 _ _ (hLt p hp))), by omega, fun L' _ c2 => ?_⟩
          have pm' := c2 (fun m => hnew (pm.mem_iff.mp m))
          have nlD : l ≠ D2 := fun e => by rw [e, s1 _ _ hL] at nl; cases nl
          refine ⟨fun b o hb => ?_, L', upd_same, fun p hp => ?_, ?_⟩
          · rw [upd_ne (ne_of_none hb hD2)]
            exact s2 _ _ (e3 _ _ hb)
          · have tp : ∀ p ∈ L', (upd (upd H3 _ _) l (.tup ((keyOf c).map V.int))) p.1 = some (.tup (p.2.map V.int)) := fun p hp => by
              rcases List.mem_cons.mp (pm'.mem_iff.mp hp) with rfl | hp
              · exact upd_same
              · exact s2 _ _ (hLt p hp)
            have z := tp p hp
            rw [upd_ne (fun e => by rw [e] at z; exact absurd (z.symm.trans (s2 _ _ hL)) (fun w => by cases w))]
            exact z
          · refine (pm'.map (·.2)).trans ?_
            rw [List.take_add_one, hcj, List.map_append]
            exact ((List.perm_append_singleton _ _).trans (pm.symm.cons _)).symm
        · obtain ⟨e3, L, hL, hLt, pm⟩ := pv
          have eq2 := fin H3 (e2.trans e3) L pm (e1.trans (e2.trans e3))
          refine ⟨D2, L, rfl, hL, fun p hp => .inl (.inl (hLt p hp)), _, rfl, a, ts.map V.ref, rfl, ?_, rfl, ?_⟩
          · exact (SqOf.sq (K := K) (H := H3) (show SqOf H3 a (ts.map V.ref) from (ha.same e1).same (e2.trans e3)))
          · rw [eq2]
            exact Q2 H3 (e2.trans e3)
end
end K7
end
/-! ## EU -/
section
namespace K7E
open PySem PySem.Spec PyProof.Rows L2
section
variable {X : Cx} {CX : CXT} {k : Nat} {f : Addr} {sp : Sp} {E : XK} {x : Str} {e : Expr} {es : List Expr} {t : TA} {p pos : Pos}
/-- x(e, ..) by a positional promise -/
theorem pe_callR0 (F : FnR X.prog X.w X.K X.mg X.base CX k f sp) (hr : Room k X.A) (hg : Gl X x) (hm : X.mg x = some (.ref f)) (hk : PySem.W.keepIn X.K (.ref f) = true) (hx : Passes CX X E) (ha : PA X (e :: es) t) (hd : (x == ("__debug__" : Str)) = false := by decide)
    (h1 : starEach (e :: es) X.env = (false, eval e X.env) :: starEach es X.env := by rfl) (h2 : (backTo pos (starEach es X.env)).any (·.1) = false := by rfl) : PE X (.Call (.Name x p) (e :: es) [] pos) (fun τ H Q => t τ H fun vs H1 => sp vs H1 Q E) := by
  refine ⟨fun pins s τ H Q I h => wpAny_Call_Name_kw (ld_glob I hg hm (PySem.W.callWith_K (h₀ := X.base) I.ok.mod.kin hk (thn (ha.run pos pins s τ H _ I h) fun us s1 ⟨vs, H1, I1, r, q⟩ => ⟨I1.kIn, ?_⟩) h1 h2) hd)⟩
  exact wpAny_call (run_fnR F hr hx I1 r q)
end
end K7E
end
/-! ## P11 -/
section
open PySem PySem.Spec PyProof.Rows L2
namespace K7
abbrev N_BadCell___init__ : List Str := ["self", "cell"]
abbrev s_BadCell___init__ : Stmt := inClass (topS 4) 0
theorem sc_BadCell___init__ : FnScope ["self", "cell"] ["self", "cell"] (defScope s_BadCell___init__) := ⟨rfl, rfl, rfl, by decide +kernel, rfl, by decide +kernel, by decide +kernel⟩
abbrev N_is_cell : List Str := ["land", "thing"]
abbrev s_is_cell : Stmt := topS 15
theorem sc_is_cell : FnScope ["land", "thing"] ["land", "thing"] (defScope s_is_cell) := ⟨rfl, rfl, rfl, by decide +kernel, rfl, by decide +kernel, by decide +kernel⟩
abbrev N_check_cells : List Str := ["land", "things", "thing"]
abbrev s_check_cells : Stmt := topS 18
theorem sc_check_cells : FnScope ["land", "things", "thing"] ["land", "things"] (defScope s_check_cells) := ⟨rfl, rfl, rfl, by decide +kernel, rfl, by decide +kernel, by decide +kernel⟩
/-! ### a land that stands, and what the top says of it -/
def landFs (n : Int) (an ar ay ac : Addr) : List (Str × V) := putF "_couples" (.ref ac) (putF "nearby" (.ref ay) (putF "roads" (.ref ar) (putF "neighbours" (.ref an) (putF "cells" (.int n) []))))
def lfields : List Str := ["cells", "neighbours", "roads", "nearby", "_couples"]
structure AdL where
  (C B iB : Addr)
structure Tl (K : PySem.W.Frag) (mg : Str → Option Value) (a : AdL) : Prop where
  gC : mg "Land" = some (.ref a.C)
  cl : Cls K a.C
  nA : ∀ f ∈ lfields, NoAttr K a.C f
  gB : mg "BadCell" = some (.ref a.B)
  oxB : OexC K a.B
  iCB : PySem.W.findIn K (.ref a.B) "__init__" = some (some (.ref a.iB))
  tIB : PySem.W.typeIn K (.ref a.iB) = some (.type "function")
  nB : PySem.W.findIn K (.ref a.B) "cell" = some none
/-- an error of the class C with one field is raised -/
def Flies (H : Hp) (C : Addr) (f : Str) (v : V) (E : XK) : Prop := ∀ H' d, Same H H' → H d = none → H' d = some (.xd [(f, v)]) → E (.ref C) (some d) H'
theorem Flies.later {H H1 : Hp} {C : Addr} {f : Str} {v : V} {E : XK} (h : Flies H C f v E) (e : Same H H1) : Flies H1 C f v E := fun H' d e' n q => h H' d (e.trans e') (e.free n) q
/-- an instance with a number of cells -/
def LandC (C : Addr) (H : Hp) (p : Addr) (n : Nat) : Prop := ∃ dx fs, H p = some (.ins C dx fs) ∧ fs.lookup ("cells" : Str) = some (V.int (n : Nat))
theorem LandC.same {C : Addr} {H H' : Hp} {p : Addr} {n : Nat} (h : LandC C H p n) (e : Same H H') : LandC C H' p n := by
  obtain ⟨dx, fs, h1, h2⟩ := h
  exact ⟨dx, fs, e _ _ h1, h2⟩
section
variable {P : Program} {w : World} {K : PySem.W.Frag} {mg : Str → Option Value} {base : Heap} {a : AdL}
def spX (C : Addr) (f : Str) : Sp := fun vs H Q _ => ∃ (e : Addr) (y : V), vs = [.ref e, y] ∧ H e = some (exo e C none) ∧ ∀ d, H d = none → d ≠ e → Q .non (upd (upd H d (exd d [(f, y)])) e (exo e C (some d)))
theorem ok_iB (T : Tl K mg a) {f : Addr} {fd : FuncData} (F : Fun K "__init__" "BadCell.__init__" s_BadCell___init__ f fd) : FnOk P w K mg base (L2.CX P w) 1 f fd ["self", "cell"] (spX a.B "cell") := by
  refine F.okX sc_BadCell___init__ (fun vs H Q E h => ?_) (fun cdv A outer s H vs Q E hr h => ?_)
  · obtain ⟨e, y, rfl, _⟩ := h
    rfl
  · obtain ⟨e, y, rfl, he, q⟩ := h
    refine ⟨_, (pss_one (ps_ost (pv 0) (pv 1))), ?_⟩
    exact ⟨y, rfl, .ref e, rfl, e, a.B, rfl, T.oxB, T.nB, .inl ⟨he, fun d hd hn => q d hd hn⟩⟩
/-- the reading of «raise X(y)» -/
theorem flies_go {H : Hp} {C : Addr} {f : Str} {y : V} {E : XK} (h : Flies H C f y E) :
    ∀ e, H e = none → spX C f (.ref e :: ([y] ++ [])) (upd H e (exo e C none)) (fun v H2 => v = .non ∧ ∃ (d : Addr) (fs : List (Str × V)), H2 e = some (exo e C (some d)) ∧ H2 d = some (exd d fs) ∧ H d = none ∧ E (.ref C) (some d) (upd (del H2 e) d (.xd fs))) (fun _ _ _ => False) := by
  intro e he
  refine ⟨e, y, rfl, upd_same, fun d hd hne => ⟨rfl, d, _, upd_same, by rw [upd_ne hne, upd_same], ?_, ?_⟩⟩
  · rw [upd_ne hne] at hd
    exact hd
  · rw [upd_ne hne] at hd
    refine h _ d (fun b o hb => ?_) hd upd_same
    have h1 : b ≠ d := ne_of_none hb hd
    have h2 : b ≠ e := ne_of_none hb he
    rw [upd_ne h1, del_ne h2, upd_ne h2, upd_ne h1, upd_ne h2]
    exact hb
/-! is_cell -/
def spIsCell (C : Addr) : Sp := fun vs H Q _ => ∃ (p : Addr) (n : Nat) (x : V), vs = [.ref p, x] ∧ LandC C H p n ∧ Thing H x ∧ Q (.bl (wholeV x 0 ((n : Nat) - 1))) H
theorem ok_iscell (T : Tl K mg a) {f fW : Addr} {fd fdW : FuncData} (F : Fun K "is_cell" "is_cell" s_is_cell f fd)
    (Giw : FnOk P w K mg base CX0 1 fW fdW ["thing", "low", "high"] spWhole) (giw : mg "is_whole" = some (.ref fW)) (kiw : PySem.W.keepIn K (.ref fW) = true) (biw : Binds K fdW ["thing", "low", "high"] []) : FnOk P w K mg base CX0 2 f fd ["land", "thing"] (spIsCell a.C) := by
  refine F.ok sc_is_cell (fun vs H Q E h => ?_) (fun cdv A outer s H vs Q E hr h => ?_)
  · obtain ⟨p, n, x, rfl, _⟩ := h
    rfl
  · obtain ⟨p, n, x, rfl, ⟨dx, fs, hp, hl⟩, hx, q⟩ := h
    refine ⟨_, (pss_one (ps_ret (pe_call Giw (hr.mono (by decide)) (by rfl) giw kiw biw .nil pass0 (pa_cons (pv 1) (pa_cons pe_int (pa_cons (pe_op op_sub (pe_fld (pv 0) rfl) pe_int) pa_nil)))))), ?_⟩
    exact ⟨_, rfl, .ref p, rfl, p, a.C, dx, fs, _, rfl, hp, T.cl, T.nA _ (by decide), hl, _, _, rfl, rfl, x, 0, _, rfl, hx, q⟩
/-! check_cells -/
def AllIn (n : Nat) (xs : List V) : Prop := ∀ x ∈ xs, wholeV x 0 ((n : Nat) - 1) = true
def spCheck (a : AdL) : Sp := fun vs H Q E => ∃ (p : Addr) (n : Nat) (xs : List V), vs = .ref p :: xs ∧ LandC a.C H p n ∧ xs.length < 64 ∧
  (((∀ x ∈ xs, Thing H x) ∧ AllIn n xs ∧ ∀ H', Same H H' → Q .non H') ∨ (∃ ys x zs, xs = ys ++ x :: zs ∧ (∀ x ∈ ys, Thing H x) ∧ AllIn n ys ∧ Thing H x ∧ wholeV x 0 ((n : Nat) - 1) = false ∧ Flies H a.B "cell" x E))
theorem ok_check (T : Tl K mg a) {f fI : Addr} {fd fdI fdB : FuncData} (F : Fun K "check_cells" "check_cells" s_check_cells f fd)
    (Gic : FnOk P w K mg base CX0 2 fI fdI ["land", "thing"] (spIsCell a.C)) (gic : mg "is_cell" = some (.ref fI)) (kic : PySem.W.keepIn K (.ref fI) = true) (bic : Binds K fdI ["land", "thing"] [])
    (FB0 : Fun K "__init__" "BadCell.__init__" s_BadCell___init__ a.iB fdB) (bB : Binds K fdB ["self", "cell"] []) : FnR P w K mg base (L2.CX P w) 4 f (spCheck a) := by
  have FB : FnOk P w K mg base (L2.CX P w) 1 a.iB fdB ["self", "cell"] (spX a.B "cell") := ok_iB T FB0
  obtain ⟨oc, od, kV, doc, pm, an, cdv, ct, osl, rfl, lk, hcd⟩ := F.ex
  have G := StX.fn_star (CX := L2.CX P w) (P := P) (w := w) (mg := mg) (base := base) (k := 3) (ps := ["land"]) (pv := "things") (sp := fun vs H Q E => ∃ (p t : Addr) (n : Nat) (xs : List V), vs = [.ref p, .ref t] ∧ H t = some (.tup xs) ∧ LandC a.C H p n ∧ xs.length < 64 ∧
    (((∀ x ∈ xs, Thing H x) ∧ AllIn n xs ∧ ∀ H', Same H H' → Q .non H') ∨ (∃ ys x zs, xs = ys ++ x :: zs ∧ (∀ x ∈ ys, Thing H x) ∧ AllIn n ys ∧ Thing H x ∧ wholeV x 0 ((n : Nat) - 1) = false ∧ Flies H a.B "cell" x E))) lk hcd sc_check_cells StX.cxUp (StX.bind_star1 (B := fun l => bindArgs (PySem.W.fnOf "check_cells" "check_cells" (defArgs s_check_cells) (defBody s_check_cells) (defScope s_check_cells) .none kV doc pm an cdv ct) ⟨l, []⟩) (p1 := "land") (pv := "things") (fun _ => rfl) fun _ _ _ => rfl) ?_
  · refine G.imp fun vs H Q E h => ?_
    obtain ⟨p, n, xs, rfl, hl, h64, hh⟩ := h
    refine ⟨[.ref p], xs, rfl, rfl, by rw [sizeLine_eq]; omega, fun t ht => ⟨p, t, n, xs, rfl, upd_same, hl.same (same_new (Same.refl H) ht), h64, ?_⟩⟩
    have e := same_new (o := .tup xs) (Same.refl H) ht
    rcases hh with ⟨h1, h2, h3⟩ | ⟨ys, x, zs, h1, h2, h3, h4, h5, h6⟩
    · exact .inl ⟨fun x hx => (h1 x hx).same e, h2, fun H' e' => h3 H' (e.trans e')⟩
    · exact .inr ⟨ys, x, zs, h1, fun x hx => (h2 x hx).same e, h3, h4.same e, h5, h6.later e⟩
  · intro A outer s H vs Q E hr h
    obtain ⟨p, t, n, xs, rfl, ht, hl, h64, hh⟩ := h
    have hrx : Room (1 + 1) _ := hr.mono (by decide)
    refine ⟨_, (pss_one (ps_for (passes_of rfl) rfl (pi_tup (pv 1)) (pg_name (i := 2) sc_check_cells.nd rfl (by first | exact Or.inl rfl | exact Or.inr rfl))
  (pss_one (ps_if (pt_not (pt_val (pe_call Gic (hr.mono (by decide)) (by rfl) gic kic bic .nil pass0 (pa_cons (pv 0) (pa_cons (pv 2) pa_nil)))))
  (pss_one (ps_raise rfl (takes_of rfl rfl rfl rfl) (pmk_oex T.oxB T.iCB T.tIB FB hrx bB .nil passL (by rfl) T.gB (pa_cons (pv 2) pa_nil))))
  pss_nil)))), ?_⟩
    refine ⟨_, rfl, t, rfl, ⟨xs, .inl (.inl ht)⟩, for_tup (xs := xs) (fun j τ H1 => H1 = H ∧ AllIn n (xs.take j) ∧ ∃ y, τ = [some (.ref p), some (.ref t), y]) ⟨rfl, fun x hx => (nomatch hx), none, rfl⟩ (fun j τ H1 _ pv => ?_) (fun j x τ H1 hx pv => ?_) (fun τ H1 pv => ?_)⟩
    · obtain ⟨rfl, _⟩ := pv
      exact .inl (.inl ht)
    · obtain ⟨rfl, al, y, rfl⟩ := pv
      have fin : ∀ b, wholeV x 0 ((n : Nat) - 1) = b → Thing H1 x ∧ (b = false → Flies H1 a.B "cell" x E) := by
        intro b hb
        rcases hh with ⟨h1, h2, h3⟩ | ⟨ys, x', zs, rfl, h2, h3, h4, h5, h6⟩
        · refine ⟨h1 x (List.mem_of_getElem? hx), fun e => ?_⟩
          rw [h2 x (List.mem_of_getElem? hx)] at hb
          rw [← hb] at e
          cases e
        · rcases Nat.lt_trichotomy j ys.length with lt | e | gt
          · rw [List.getElem?_append_left lt] at hx
            have m := List.mem_of_getElem? hx
            refine ⟨h2 x m, fun e => ?_⟩
            rw [h3 x m] at hb
            rw [← hb] at e
            cases e
          · rw [List.getElem?_append_right (by omega), e, Nat.sub_self] at hx
            obtain rfl : x' = x := Option.some.inj hx
            exact ⟨h4, fun _ => h6⟩
          · have m : x' ∈ (ys ++ x' :: zs).take j := by
              rw [List.take_append, List.take_of_length_le (by omega)]
              exact List.mem_append_right _ (by
                obtain ⟨k, hk⟩ : ∃ k, j - ys.length = k + 1 := ⟨j - ys.length - 1, by omega⟩
                rw [hk]
                exact List.mem_cons_self)
            rw [al x' m] at h5
            cases h5
      obtain ⟨hth, hfl⟩ := fin _ rfl
      refine ⟨_, rfl, _, rfl, p, n, x, rfl, hl, hth, _, rfl, ?_⟩
      cases hb : wholeV x 0 ((n : Nat) - 1) with
      | true =>
        refine iteF ⟨rfl, fun z hz => ?_, _, rfl⟩
        rw [List.take_add_one, hx] at hz
        rcases List.mem_append.mp hz with hz | hz
        · exact al z hz
        · rw [List.mem_singleton.mp hz]
          exact hb
      | false => exact iteT ⟨_, rfl, by show 1 ≤ 1000; decide, flies_go (hfl hb)⟩
    · obtain ⟨rfl, al, y, rfl⟩ := pv
      rcases hh with ⟨h1, h2, h3⟩ | ⟨ys, x', zs, rfl, h2, h3, h4, h5, h6⟩
      · exact h3 _ (Same.refl _)
      · rw [List.take_length] at al
        rw [al x' (List.mem_append_right _ List.mem_cons_self)] at h5
        cases h5
end
end K7
end
/-! ## EV -/
section
namespace K7E
open PySem PySem.Spec PyProof.Rows L2
/-- the inner range of a comprehension of two -/
theorem in_range {lo : Int} {n : Nat} {g : TG} {tt : TT} {te : TE} {vs : List Nat} {τ : L2.St} {H4 : Hp} {D : Addr} {Nx : Hp → Prop} (Pw : Nat → Hp → Prop) (h0 : Pw 0 H4)
    (hs : ∀ j H, j < n → Pw j H → g (.int (lo + j)) (wipe τ vs) H fun t3 H5 => wipe t3 vs = wipe τ vs ∧ tt t3 H5 fun b H6 => if b = true then te t3 H6 fun y H7 => ∃ acc, H7 D = some (.lst acc) ∧ acc.length < sizeLine ∧ Pw (j + 1) (upd H7 D (.lst (acc ++ [y]))) else Pw (j + 1) H6) (hd : ∀ H, Pw n H → Nx H) :
    ∃ W1 : Nat → Nat → Hp → Prop, (∃ m, W1 0 m H4) ∧ ∀ j k H, W1 j k H → ((Itr lo n).stop j H ∧ Nx H) ∨ ((Itr lo n).go j H ∧ ∃ N1 : Hp → Prop, (∀ H', N1 H' → ∃ k', k' < k ∧ W1 (j + 1) k' H') ∧
      ∀ x H', (Itr lo n).yld j H x H' → g x (wipe τ vs) H' fun t3 H5 => wipe t3 vs = wipe τ vs ∧ tt t3 H5 fun b H6 => if b = true then te t3 H6 fun y H7 => ∃ acc, H7 D = some (.lst acc) ∧ acc.length < sizeLine ∧ N1 (upd H7 D (.lst (acc ++ [y]))) else N1 H6) := by
  refine ⟨fun j k H => k + j = n ∧ Pw j H, ⟨n, rfl, h0⟩, fun j k H z => ?_⟩
  obtain ⟨hk, p⟩ := z
  rcases Nat.lt_or_ge j n with lt | ge
  · refine .inr ⟨lt, Pw (j + 1), fun H' p' => ⟨k - 1, by omega, by omega, p'⟩, fun x H' y => ?_⟩
    obtain ⟨rfl, rfl⟩ := y
    exact hs j _ lt p
  · obtain rfl : j = n := by omega
    exact .inl ⟨Nat.le_refl _, hd H p⟩
/-- the outer one -/
theorem out_range {lo : Int} {n : Nat} {g : TG} {tt : TT} {inner : (Hp → Prop) → L2.St → Hp → Prop} {vs : List Nat} {τ : L2.St} {H1 : Hp} {D : Addr} {Qd : Hp → Prop} (Pv : Nat → Hp → Prop) (h0 : Pv 0 (upd H1 D (.lst [])))
    (hs : ∀ i H, i < n → Pv i H → g (.int (lo + i)) (wipe τ vs) H fun t2 H2 => wipe t2 vs = wipe τ vs ∧ tt t2 H2 fun b H3 => if b = true then inner (Pv (i + 1)) t2 H3 else Pv (i + 1) H3) (hd : ∀ H, Pv n H → Qd H) :
    ∃ W : Nat → Nat → Hp → Prop, (∃ m, W 0 m (upd H1 D (.lst []))) ∧ ∀ i m H, W i m H → ((Itr lo n).stop i H ∧ Qd H) ∨ ((Itr lo n).go i H ∧ ∃ Nx : Hp → Prop, (∀ H', Nx H' → ∃ m', m' < m ∧ W (i + 1) m' H') ∧
      ∀ x H', (Itr lo n).yld i H x H' → g x (wipe τ vs) H' fun t2 H2 => wipe t2 vs = wipe τ vs ∧ tt t2 H2 fun b H3 => if b = true then inner Nx t2 H3 else Nx H3) := by
  refine ⟨fun i m H => m + i = n ∧ Pv i H, ⟨n, rfl, h0⟩, fun i m H z => ?_⟩
  obtain ⟨hm, p⟩ := z
  rcases Nat.lt_or_ge i n with lt | ge
  · refine .inr ⟨lt, Pv (i + 1), fun H' p' => ⟨m - 1, by omega, by omega, p'⟩, fun x H' y => ?_⟩
    obtain ⟨rfl, rfl⟩ := y
    exact hs i _ lt p
  · obtain rfl : i = n := by omega
    exact .inl ⟨Nat.le_refl _, hd H p⟩
end K7E
end
/-! ## P12 -/
section
open PySem PySem.Spec PyProof.Rows L2
namespace K7
abbrev N_Land___init__ : List Str := ["self", "cells", "neighbours", "roads", "couples", "couple", "a", "b"]
abbrev s_Land___init__ : Stmt := inClass (topS 23) 0
theorem sc_Land___init__ : FnScope ["self", "cells", "neighbours", "roads", "couples", "couple", "a", "b"] ["self", "cells", "neighbours", "roads"] (defScope s_Land___init__) := ⟨rfl, rfl, rfl, by decide +kernel, rfl, by decide +kernel, by decide +kernel⟩
/-! ### a land is made -/
structure LandO (C : Addr) (H : Hp) (p : Addr) (n : Nat) (es : List (Nat × Nat)) (rd : List Nat) : Prop where
  at_ : ∃ dx an ar ay ac tn ty tc, H p = some (.ins C dx (landFs (n : Nat) an ar ay ac)) ∧ H an = some (.tup (tn.map V.ref)) ∧ TAt H tn (pairs es) ∧ H ar = some (.tup (ints_ rd)) ∧ H ay = some (.tup (ty.map V.ref)) ∧ TAt H ty (nearV n es) ∧ H ac = some (.tup (tc.map V.ref)) ∧ TAt H tc (pairs (KL.allC n))
  n2 : 2 ≤ n
  n5 : n ≤ 5
  ok : LandOk n es
  rlt : ∀ c ∈ rd, c < n
  rnd : rd.Nodup
  rso : rd.Pairwise (· ≤ ·)
  r0 : 0 < rd.length
  rn : rd.length < n
theorem LandO.same {C : Addr} {H H' : Hp} {p : Addr} {n : Nat} {es : List (Nat × Nat)} {rd : List Nat} (h : LandO C H p n es rd) (e : Same H H') : LandO C H' p n es rd := by
  obtain ⟨dx, an, ar, ay, ac, tn, ty, tc, h1, h2, h3, h4, h5, h6, h7, h8⟩ := h.at_
  exact ⟨⟨dx, an, ar, ay, ac, tn, ty, tc, e _ _ h1, e _ _ h2, h3.same e, e _ _ h4, e _ _ h5, h6.same e, e _ _ h7, h8.same e⟩, h.n2, h.n5, h.ok, h.rlt, h.rnd, h.rso, h.r0, h.rn⟩
theorem LandO.c {C : Addr} {H : Hp} {p : Addr} {n : Nat} {es : List (Nat × Nat)} {rd : List Nat} (h : LandO C H p n es rd) : LandC C H p n := by
  obtain ⟨dx, an, ar, ay, ac, tn, ty, tc, h1, _⟩ := h.at_
  exact ⟨dx, _, h1, rfl⟩
/-- a land is written while an object is made: what is not an instance stays -/
theorem keepNI {C dx x : Addr} {fs : List (Str × V)} {H : Hp} (hx : H x = some (.ins C dx fs)) {b : Addr} {o o' : HO} (hb : H b = some o) (no : ∀ C dx fs, o ≠ .ins C dx fs) : upd H x o' b = some o := by
  rw [upd_ne (fun e => by rw [e, hx] at hb; exact no _ _ _ (Option.some.inj hb).symm)]
  exact hb
theorem cells_lot {n : Nat} {lot : List Nat} (h1 : ∀ c ∈ lot, c < n) (h2 : lot.Nodup) (h3 : 0 < lot.length) : cellsV (n : Nat) (ints_ lot) 1 = true := by
  unfold cellsV
  have e1 : (ints_ lot).all (fun x => wholeV x 0 (((n : Nat) : Int) - 1)) = true := by
    refine List.all_eq_true.mpr fun x hx => ?_
    obtain ⟨c, hc, rfl⟩ := List.mem_map.mp hx
    have := h1 c hc
    rw [wholeV_int, decide_eq_true (by omega), decide_eq_true (by omega)]
    rfl
  have e2 : ((ints_ lot).map intOf).Nodup := by
    unfold ints_
    rw [List.map_map, List.nodup_iff_pairwise_ne, List.pairwise_map]
    refine (List.nodup_iff_pairwise_ne.mp h2).imp fun {a b} ne e => ne ?_
    have e : ((a : Nat) : Int) = ((b : Nat) : Int) := e
    omega
  have e3 : (ints_ lot).length = lot.length := List.length_map ..
  rw [e1, decide_eq_true e2, e3, decide_eq_true (by omega)]
  rfl
theorem ints_back {ms : List Int} {lot : List Nat} (p : ms.Perm (lot.map fun c => ((c : Nat) : Int))) : ms = (ms.map Int.toNat).map fun c => ((c : Nat) : Int) := by
  rw [List.map_map]
  refine (List.map_id ms).symm.trans (List.map_congr_left fun x hx => ?_)
  obtain ⟨c, _, rfl⟩ := List.mem_map.mp (p.mem_iff.mp hx)
  rfl
/-- one more couple of the comprehension of all of them -/
def rowC (n i j : Nat) : List (Nat × Nat) := ((List.range j).filter fun b => decide (i ≠ b)).map fun b => (i, b)
def upC (n i : Nat) : List (Nat × Nat) := (List.range i).flatMap fun a => rowC n a n
theorem upC_succ (n i : Nat) : upC n (i + 1) = upC n i ++ rowC n i n := by
  unfold upC
  rw [List.range_succ, List.flatMap_append, List.flatMap_cons, List.flatMap_nil, List.append_nil]
theorem rowC_succ (n i j : Nat) : rowC n i (j + 1) = rowC n i j ++ (if i ≠ j then [(i, j)] else []) := by
  unfold rowC
  rw [range_filter, List.map_append]
  by_cases h : i = j
  · rw [if_neg (by rw [decide_eq_false (by simpa using h)]; decide), if_neg (by simpa using h)]
    rfl
  · rw [if_pos (decide_eq_true h), if_pos h]
    rfl
theorem rowC_len (n i j : Nat) : (rowC n i j).length ≤ j := by
  unfold rowC
  rw [List.length_map]
  exact Nat.le_trans (List.length_filter_le _ _) (by rw [List.length_range]; exact Nat.le_refl _)
theorem upC_len (n : Nat) : ∀ i, (upC n i).length ≤ i * n
  | 0 => Nat.zero_le _
  | i + 1 => by
    rw [upC_succ, List.length_append, Nat.succ_mul]
    exact Nat.add_le_add (upC_len n i) (rowC_len n i n)
theorem SqOf.ni {C dx x : Addr} {fs : List (Str × V)} {H : Hp} (hx : H x = some (.ins C dx fs)) {b : Addr} {xs : List V} (h : SqOf H b xs) (o' : HO) : SqOf (upd H x o') b xs :=
  h.imp (fun z => keepNI hx z fun _ _ _ e => by cases e) fun z => keepNI hx z fun _ _ _ e => by cases e
theorem TAt.ni {C dx x : Addr} {fs : List (Str × V)} {H : Hp} (hx : H x = some (.ins C dx fs)) {ts : List Addr} {ls : List (List Nat)} (h : TAt H ts ls) (o' : HO) : TAt (upd H x o') ts ls := h.mono fun b xs hb => keepNI hx hb fun _ _ _ e => by cases e
theorem But.put {x : Addr} {H H' : Hp} (h : But x H H') (o : HO) : But x H (upd H' x o) := fun b o' nb hb => by rw [upd_ne nb]; exact h b o' nb hb
theorem But.new {x p : Addr} {H H' : Hp} (h : But x H H') (np : H' p = none) (o : HO) : But x H (upd H' p o) := fun b o' nb hb => by
  have z := h b o' nb hb
  rw [upd_ne (ne_of_none z np)]
  exact z
theorem But.same {x : Addr} {H H' H'' : Hp} (h : But x H H') (e : Same H' H'') : But x H H'' := fun b o nb hb => e _ _ (h b o nb hb)
theorem iteTo {c : Prop} [Decidable c] {p q : Prop} (h : c) (x : p) : if c then p else q := by rw [if_pos h]; exact x
theorem iteFo {b : Bool} {p q : Prop} (h : b = false) (x : q) : if b = true then p else q := by rw [h]; exact x
theorem ints_map (lot : List Nat) : ints_ lot = (lot.map fun c => ((c : Nat) : Int)).map V.int := by
  unfold ints_
  rw [List.map_map]
  rfl
section
variable {P : Program} {w : World} {K : PySem.W.Frag} {mg : Str → Option Value} {base : Heap} {a : AdL}
def spLandI (a : AdL) : Sp := fun vs H Q _ => ∃ (x dx : Addr) (n : Nat) (an : Addr) (ts : List Addr) (cs : List (Nat × Nat)) (ar : Addr) (lot : List Nat), vs = [.ref x, .int (n : Nat), .ref an, .ref ar] ∧ H x = some (.ins a.C dx []) ∧ 2 ≤ n ∧ n ≤ 5 ∧
  SqOf H an (ts.map V.ref) ∧ CoAll H ts cs ∧ Cos n cs ∧ KL.Conn n cs ∧ SqOf H ar (ints_ lot) ∧ (∀ c ∈ lot, c < n) ∧ lot.Nodup ∧ 0 < lot.length ∧ lot.length < n ∧
  ∀ H' es rd, But x H H' → LandO a.C H' x n es rd → es.Perm (cs.map KL.srt) → rd.Perm lot → Q .non H'
theorem ok_landI (T : Tl K mg a) {tM : Tok} (gM : mg "MOST_CELLS" = some (.int 5 tM)) {f fW fB fC fH fN : Addr} {fd fdW fdB fdC fdH fdN : FuncData} (F : Fun K "__init__" "Land.__init__" s_Land___init__ f fd)
    (Giw : FnOk P w K mg base CX0 1 fW fdW ["thing", "low", "high"] spWhole) (giw : mg "is_whole" = some (.ref fW)) (kiw : PySem.W.keepIn K (.ref fW) = true) (biw : Binds K fdW ["thing", "low", "high"] [])
    (Gnb : FnOk P w K mg base CX0 4 fB fdB ["cells", "thing"] spNbrs) (gnb : mg "_are_neighbours" = some (.ref fB)) (knb : PySem.W.keepIn K (.ref fB) = true) (bnb : Binds K fdB ["cells", "thing"] [])
    (Gac : FnOk P w K mg base CX0 2 fC fdC ["many", "thing", "least"] (spCells K)) (gac : mg "are_cells" = some (.ref fC)) (kac : PySem.W.keepIn K (.ref fC) = true) (bac : Binds K fdC ["many", "thing", "least"] [])
    (Ght : FnOk P w K mg base CX0 2 fH fdH ["cells", "couples"] spHang) (ght : mg "hang_together" = some (.ref fH)) (kht : PySem.W.keepIn K (.ref fH) = true) (bht : Binds K fdH ["cells", "couples"] [])
    (Gnc : FnOk P w K mg base CX0 1 fN fdN ["cells", "couples"] spNear) (gnc : mg "nearby_cells" = some (.ref fN)) (knc : PySem.W.keepIn K (.ref fN) = true) (bnc : Binds K fdN ["cells", "couples"] [])
    (m_len : mg "len" = none) (m_sorted : mg "sorted" = none) (m_tuple : mg "tuple" = none) (m_range : mg "range" = none) : FnOk P w K mg base CX0 5 f fd ["self", "cells", "neighbours", "roads"] (spLandI a) := by
  refine F.ok sc_Land___init__ (fun vs H Q E h => ?_) (fun cdv A outer s H vs Q E hr h => ?_)
  · obtain ⟨x, dx, n, an, ts, cs, ar, lot, rfl, _⟩ := h
    rfl
  · obtain ⟨x, dx, n, an, ts, cs, ar, lot, rfl, hx, n2, n5, han, hT, hc, cn, har, llt, lnd, l0, ln, q⟩ := h
    refine ⟨_, (pss_cons (ps_if (pt_not (pt_val (pe_call Giw (hr.mono (by decide)) (by rfl) giw kiw biw .nil pass0 (pa_cons (pv 1) (pa_cons pe_int (pa_cons (pe_glob (v := .int 5) rfl gM ⟨_, rfl⟩) pa_nil))))))
  (pss_one ps_never)
  pss_nil)
 (pss_cons (ps_if (pt_not (pt_val (pe_call Gnb (hr.mono (by decide)) (by rfl) gnb knb bnb .nil pass0 (pa_cons (pv 1) (pa_cons (pv 2) pa_nil)))))
  (pss_one ps_never)
  pss_nil)
 (pss_cons (ps_if (pw_or (pt_not (pt_val (pe_call Gac (hr.mono (by decide)) (by rfl) gac kac bac .nil pass0 (pa_cons (pv 1) (pa_cons (pv 3) (pa_cons pe_int pa_nil)))))) (pw_or1 (pt_cmpR op_eq (pe_callB call_len_seq (by rfl) m_len boot_len (pa_cons (pv 3) pa_nil)) (pv 1) (nomark _)))).pt
  (pss_one ps_never)
  pss_nil)
 (Evl.pss_cut (ps_set (i := 4) sc_Land___init__.nd rfl (by first | exact Or.inl rfl | exact Or.inr rfl) (pe_callB cr_sortedPO (by rfl) m_sorted boot_sorted (pa_cons (pe_lc (own := [("couple", 5)]) (g := gName 5) (tt := tYes) rfl sc_Land___init__.nd (K7E.pi_either (pi_tup (pv 2)) (pi_list (pv 2))) (blkOk_by (own := [("couple", 5)]) (N := N_Land___init__) (sc := defScope s_Land___init__) (by decide +kernel)) (fun _ _ _ _ _ => (pg_name (i := 5) sc_Land___init__.nd rfl (by first | exact Or.inl rfl | exact Or.inr rfl))) (fun _ _ _ _ _ => pts_nil) (fun _ _ _ _ _ => (pe_callTy (show CallR _ (.type "tuple") (rTup_ K) from call_tuple_of) (by rfl) m_tuple boot_tuple (pa_cons (pe_callB (show CallR _ (.builtin "sorted") (K7S.rSortA K) from K7S.cr_sortA) (by rfl) m_sorted boot_sorted (pa_cons (pv 5) pa_nil)) pa_nil)))) pa_nil)))
 (pss_cons (ps_if (pt_not (pt_val (pe_call Ght (hr.mono (by decide)) (by rfl) ght kht bht .nil pass0 (pa_cons (pv 1) (pa_cons (pv 4) pa_nil)))))
  (pss_one ps_never)
  pss_nil)
 (pss_cons (ps_fld (pv 0) (pv 1) rfl)
 (pss_cons (ps_fld (pv 0) (pe_callTy call_tuple_of (by rfl) m_tuple boot_tuple (pa_cons (pv 4) pa_nil)) rfl)
 (pss_cons (ps_fld (pv 0) (pe_callTy call_tuple_of (by rfl) m_tuple boot_tuple (pa_cons (pe_callB K7S.cr_sortA (by rfl) m_sorted boot_sorted (pa_cons (pv 3) pa_nil)) pa_nil)) rfl)
 (pss_cons (ps_fld (pv 0) (pe_call Gnc (hr.mono (by decide)) (by rfl) gnc knc bnc .nil pass0 (pa_cons (pv 1) (pa_cons (pv 4) pa_nil))) rfl)
 (pss_one (ps_fld (pv 0) (pe_callTy call_tuple_of (by rfl) m_tuple boot_tuple (pa_cons (pe_lc2 (own := [("a", 6), ("b", 7)]) (vs1 := [7]) (g := gName 6) (g1 := gName 7) (tt := tYes) rfl sc_Land___init__.nd (pi_range1 rfl m_range (pa_cons (pv 1) pa_nil)) (blkOk_by (own := [("a", 6), ("b", 7)]) (N := N_Land___init__) (sc := defScope s_Land___init__) (by decide +kernel)) (by decide) (fun _ _ _ _ _ => (pg_name (i := 6) sc_Land___init__.nd rfl (by first | exact Or.inl rfl | exact Or.inr rfl))) (fun _ _ _ _ _ => pts_nil) (fun _ _ _ _ _ => (pi_range1 rfl m_range (pa_cons (pv 1) pa_nil))) (fun _ _ _ _ _ => (pg_name (i := 7) sc_Land___init__.nd rfl (by first | exact Or.inl rfl | exact Or.inr rfl))) (fun _ _ _ _ _ => (pts_one (pt_cmpR op_ne (pv 6) (pv 7) (nomark _)))) (fun _ _ _ _ _ => (pe_tup (pa_cons (pv 6) (pa_cons (pv 7) pa_nil))))) pa_nil)) rfl))))))))))), ?_⟩
    have hl : ts.length = cs.length := hT.1
    have h32 := hc.len
    have lilen : (ints_ lot).length = lot.length := List.length_map ..
    refine ⟨_, rfl, .int (n : Nat), 2, 5, rfl, .flat (.int _), _, rfl, ?_⟩
    rw [wholeV_int, decide_eq_true (by omega), decide_eq_true (by omega)]
    refine iteF ?_
    refine ⟨_, rfl, _, rfl, n, an, ts, cs, rfl, han, hT, hc, fun H1 e1 => ⟨_, rfl, iteF ?_⟩⟩
    refine ⟨_, rfl, _, rfl, n, .ref ar, 1, rfl, .inr ⟨ar, ints_ lot, rfl, har.same e1, fun y hy => ?_, by rw [lilen]; omega, fun H2 e2 => ?_⟩⟩
    · obtain ⟨k, _, rfl⟩ := List.mem_map.mp hy
      exact .flat (.int _)
    rw [cells_lot llt lnd l0]
    have e02 := e1.trans e2
    refine ⟨_, rfl, _, rfl, ar, ints_ lot, rfl, (har.same e02).sq, _, rfl, rfl, _, rfl, ?_⟩
    rw [lilen, decide_eq_false (fun e => by injection e with e; omega)]
    refine iteF ?_
    have han2 := han.same e02
    have hT2 := hT.same e02
    -- the couples, in order
    refine ⟨fun σ' H' => ∃ p us es y5 y6 y7, σ' = [some (.ref x), some (.int (n : Nat)), some (.ref an), some (.ref ar), some (.ref p), y5, y6, y7] ∧ Same H H' ∧ H' p = some (.lst (us.map V.ref)) ∧ TAt H' us (pairs es) ∧ LandOk n es ∧ es.Perm (cs.map KL.srt), ?_, fun σ' H' hM => ?_⟩
    · rcases han2 with z | z
      · refine .inl ⟨_, rfl, an, rfl, ⟨_, .inl (.inl z)⟩, fun D hD => lc_tup (xs := ts.map V.ref) (fun j H3 => Same H2 H3 ∧ ∃ us, H3 D = some (.lst (us.map V.ref)) ∧ TAt H3 us (pairs ((cs.take j).map KL.srt)) ∧ us.length ≤ j) ⟨same_new (Same.refl H2) hD, [], upd_same, .nil, Nat.le_refl _⟩ (fun j H3 _ pv => .inl (.inl (pv.1 _ _ z))) (fun j y H3 hy pv => ?_) (fun H3 pv => ?_)⟩
        · obtain ⟨e3, us, hD3, tD, lu⟩ := pv
          rw [List.getElem?_map] at hy
          obtain ⟨t', ht', rfl⟩ := Option.map_eq_some_iff.mp hy
          have hj : j < cs.length := by rw [← hl]; exact (List.getElem?_eq_some_iff.mp ht').1
          have hco := (hT2.2 j t' _ ht' (List.getElem?_eq_getElem hj)).same e3
          refine ⟨rfl, _, rfl, t', [(cs[j].1 : Int), (cs[j].2 : Int)], rfl, hco.sq, by show 2 < 64; decide, fun ms p pm so np => ?_⟩
          have em := KL.two_sorted pm so
          subst em
          refine ⟨p, _, rfl, .inl ⟨.inl (.inl upd_same), fun l nl => ?_⟩⟩
          have s1 := same_new (o := .lst ([((min cs[j].1 cs[j].2 : Nat) : Int), ((max cs[j].1 cs[j].2 : Nat) : Int)].map V.int)) (Same.refl H3) np
          have s2 := same_new (o := .tup ([((min cs[j].1 cs[j].2 : Nat) : Int), ((max cs[j].1 cs[j].2 : Nat) : Int)].map V.int)) s1 nl
          have hD4 := s2 _ _ hD3
          refine ⟨_, hD4, by rw [List.length_map]; exact small1000 (by omega), fun b o hb => ?_, us ++ [l], by rw [upd_same, List.map_append]; rfl, ?_, by rw [List.length_append, List.length_singleton]; omega⟩
          · rw [upd_ne (ne_of_none hb hD)]
            exact s2 _ _ (e3 _ _ hb)
          · rw [List.take_add_one, List.getElem?_eq_getElem hj, List.map_append]
            unfold pairs
            rw [List.map_append]
            have up : ∀ b xs, upd (upd H3 p (.lst ([((min cs[j].1 cs[j].2 : Nat) : Int), ((max cs[j].1 cs[j].2 : Nat) : Int)].map V.int))) l (.tup ([((min cs[j].1 cs[j].2 : Nat) : Int), ((max cs[j].1 cs[j].2 : Nat) : Int)].map V.int)) b = some (.tup xs) → upd (upd (upd H3 p (.lst ([((min cs[j].1 cs[j].2 : Nat) : Int), ((max cs[j].1 cs[j].2 : Nat) : Int)].map V.int))) l (.tup ([((min cs[j].1 cs[j].2 : Nat) : Int), ((max cs[j].1 cs[j].2 : Nat) : Int)].map V.int))) D (.lst (us.map V.ref ++ [.ref l])) b = some (.tup xs) := fun b xs hb => by
              rw [upd_ne (fun e => by rw [e, hD4] at hb; cases hb)]
              exact hb
            exact ((tD.same s2).mono up).append (.cons (up _ _ upd_same) .nil)
        · obtain ⟨e3, us, hD3, tD, lu⟩ := pv
          rw [List.length_map, hl, List.take_length] at tD
          refine ⟨D, us.map V.ref, kfOf H3, rfl, .inl (.inl hD3), fun y hy => ?_, fun ys p srt stb np => ?_⟩
          · obtain ⟨b, e, rfl, hb⟩ := g_mem tD y hy
            exact ⟨b, rfl, by rw [kf_at hb]; exact hb⟩
          · have hys := fun y (hy : y ∈ ys) => g_mem tD y (stb.perm.mem_iff.mp hy)
            obtain ⟨us', rfl, tY⟩ := tat_of ys hys
            have pe : ((us'.map V.ref).map (gOf H3)).Perm (cs.map KL.srt) := by
              have z := stb.perm.map (gOf H3)
              rw [g_map tD] at z
              exact z
            have s4 := same_new (o := .lst (us'.map V.ref)) (Same.refl H3) np
            refine ⟨p, us', _, _, _, _, rfl, e02.trans (e3.trans s4), upd_same, tY.same s4, ⟨fun e he => ?_, pe.nodup_iff.mpr hc.nd, sorted_of _ hys srt, KL.conn_srt cn pe⟩, pe⟩
            obtain ⟨c, hcm, rfl⟩ := List.mem_map.mp (pe.mem_iff.mp he)
            obtain ⟨c1, c2, c3⟩ := hc.lt c hcm
            refine ⟨KL.srt_lt c3, ?_⟩
            unfold KL.srt
            simp only
            omega
      · refine .inr ⟨_, rfl, an, rfl, ⟨_, .inl (.inl z)⟩, fun D hD => lc_list (xs := ts.map V.ref) (fun j H3 => Same H2 H3 ∧ ∃ us, H3 D = some (.lst (us.map V.ref)) ∧ TAt H3 us (pairs ((cs.take j).map KL.srt)) ∧ us.length ≤ j) ⟨same_new (Same.refl H2) hD, [], upd_same, .nil, Nat.le_refl _⟩ (fun j H3 _ pv => .inl (.inl (pv.1 _ _ z))) (fun j y H3 hy pv => ?_) (fun H3 pv => ?_)⟩
        · obtain ⟨e3, us, hD3, tD, lu⟩ := pv
          rw [List.getElem?_map] at hy
          obtain ⟨t', ht', rfl⟩ := Option.map_eq_some_iff.mp hy
          have hj : j < cs.length := by rw [← hl]; exact (List.getElem?_eq_some_iff.mp ht').1
          have hco := (hT2.2 j t' _ ht' (List.getElem?_eq_getElem hj)).same e3
          refine ⟨rfl, _, rfl, t', [(cs[j].1 : Int), (cs[j].2 : Int)], rfl, hco.sq, by show 2 < 64; decide, fun ms p pm so np => ?_⟩
          have em := KL.two_sorted pm so
          subst em
          refine ⟨p, _, rfl, .inl ⟨.inl (.inl upd_same), fun l nl => ?_⟩⟩
          have s1 := same_new (o := .lst ([((min cs[j].1 cs[j].2 : Nat) : Int), ((max cs[j].1 cs[j].2 : Nat) : Int)].map V.int)) (Same.refl H3) np
          have s2 := same_new (o := .tup ([((min cs[j].1 cs[j].2 : Nat) : Int), ((max cs[j].1 cs[j].2 : Nat) : Int)].map V.int)) s1 nl
          have hD4 := s2 _ _ hD3
          refine ⟨_, hD4, by rw [List.length_map]; exact small1000 (by omega), fun b o hb => ?_, us ++ [l], by rw [upd_same, List.map_append]; rfl, ?_, by rw [List.length_append, List.length_singleton]; omega⟩
          · rw [upd_ne (ne_of_none hb hD)]
            exact s2 _ _ (e3 _ _ hb)
          · rw [List.take_add_one, List.getElem?_eq_getElem hj, List.map_append]
            unfold pairs
            rw [List.map_append]
            have up : ∀ b xs, upd (upd H3 p (.lst ([((min cs[j].1 cs[j].2 : Nat) : Int), ((max cs[j].1 cs[j].2 : Nat) : Int)].map V.int))) l (.tup ([((min cs[j].1 cs[j].2 : Nat) : Int), ((max cs[j].1 cs[j].2 : Nat) : Int)].map V.int)) b = some (.tup xs) → upd (upd (upd H3 p (.lst ([((min cs[j].1 cs[j].2 : Nat) : Int), ((max cs[j].1 cs[j].2 : Nat) : Int)].map V.int))) l (.tup ([((min cs[j].1 cs[j].2 : Nat) : Int), ((max cs[j].1 cs[j].2 : Nat) : Int)].map V.int))) D (.lst (us.map V.ref ++ [.ref l])) b = some (.tup xs) := fun b xs hb => by
              rw [upd_ne (fun e => by rw [e, hD4] at hb; cases hb)]
              exact hb
            exact ((tD.same s2).mono up).append (.cons (up _ _ upd_same) .nil)
        · obtain ⟨e3, us, hD3, tD, lu⟩ := pv
          rw [List.length_map, hl, List.take_length] at tD
          refine ⟨D, us.map V.ref, kfOf H3, rfl, .inl (.inl hD3), fun y hy => ?_, fun ys p srt stb np => ?_⟩
          · obtain ⟨b, e, rfl, hb⟩ := g_mem tD y hy
            exact ⟨b, rfl, by rw [kf_at hb]; exact hb⟩
          · have hys := fun y (hy : y ∈ ys) => g_mem tD y (stb.perm.mem_iff.mp hy)
            obtain ⟨us', rfl, tY⟩ := tat_of ys hys
            have pe : ((us'.map V.ref).map (gOf H3)).Perm (cs.map KL.srt) := by
              have z := stb.perm.map (gOf H3)
              rw [g_map tD] at z
              exact z
            have s4 := same_new (o := .lst (us'.map V.ref)) (Same.refl H3) np
            refine ⟨p, us', _, _, _, _, rfl, e02.trans (e3.trans s4), upd_same, tY.same s4, ⟨fun e he => ?_, pe.nodup_iff.mpr hc.nd, sorted_of _ hys srt, KL.conn_srt cn pe⟩, pe⟩
            obtain ⟨c, hcm, rfl⟩ := List.mem_map.mp (pe.mem_iff.mp he)
            obtain ⟨c1, c2, c3⟩ := hc.lt c hcm
            refine ⟨KL.srt_lt c3, ?_⟩
            unfold KL.srt
            simp only
            omega
    · obtain ⟨p, us, es, y5, y6, y7, rfl, eM, hp, tU, ok, pe⟩ := hM
      have esl : es.length = cs.length := by rw [pe.length_eq, List.length_map]
      refine ⟨_, rfl, _, rfl, n, p, us, es, rfl, by omega, n5, hp, tU, by omega, fun e he => ?_, ok.conn, fun H5 e5 => ⟨_, rfl, iteF ?_⟩⟩
      · obtain ⟨l1, l2⟩ := ok.lt e he
        exact ⟨by omega, l2⟩
      have b5 : But x H H5 := fun b o _ hb => e5 _ _ (eM _ _ hb)
      have hx5 := e5 _ _ (eM _ _ hx)
      have hp5 := e5 _ _ hp
      have tU5 := tU.same e5
      have har5 := (har.same eM).same e5
      -- cells
      refine ⟨_, rfl, _, rfl, x, a.C, dx, _, rfl, hx5, T.cl, T.nA _ (by decide), by show 0 < 1000; decide, ?_⟩
      have b6 := b5.put (.ins a.C dx (putF "cells" (.int (n : Nat)) []))
      have hx6 : upd H5 x (.ins a.C dx (putF "cells" (.int (n : Nat)) [])) x = _ := upd_same
      have hp6 := keepNI (o' := .ins a.C dx (putF "cells" (.int (n : Nat)) [])) hx5 hp5 fun _ _ _ e => by cases e
      have tU6 := tU5.ni hx5 (.ins a.C dx (putF "cells" (.int (n : Nat)) []))
      have har6 := har5.ni hx5 (.ins a.C dx (putF "cells" (.int (n : Nat)) []))
      generalize upd H5 x (.ins a.C dx (putF "cells" (.int (n : Nat)) [])) = H6 at b6 hx6 hp6 tU6 har6 ⊢
      -- neighbours
      refine ⟨_, rfl, p, us.map V.ref, rfl, .inl ⟨.inl (.inl hp6), fun tn ntn => ?_⟩⟩
      have s7 := same_new (o := .tup (us.map V.ref)) (Same.refl H6) ntn
      have b7 := b6.same s7
      have hx7 := s7 _ _ hx6
      refine ⟨_, rfl, x, a.C, dx, _, rfl, hx7, T.cl, T.nA _ (by decide), by show 1 < 1000; decide, ?_⟩
      have b8 := b7.put (.ins a.C dx (putF "neighbours" (.ref tn) (putF "cells" (.int (n : Nat)) [])))
      have hx8 : upd (upd H6 tn (.tup (us.map V.ref))) x (.ins a.C dx (putF "neighbours" (.ref tn) (putF "cells" (.int (n : Nat)) []))) x = _ := upd_same
      have hp8 := keepNI (o' := .ins a.C dx (putF "neighbours" (.ref tn) (putF "cells" (.int (n : Nat)) []))) hx7 (s7 _ _ hp6) fun _ _ _ e => by cases e
      have tU8 := (tU6.same s7).ni hx7 (.ins a.C dx (putF "neighbours" (.ref tn) (putF "cells" (.int (n : Nat)) [])))
      have har8 := (har6.same s7).ni hx7 (.ins a.C dx (putF "neighbours" (.ref tn) (putF "cells" (.int (n : Nat)) [])))
      have hn8 := keepNI (o' := .ins a.C dx (putF "neighbours" (.ref tn) (putF "cells" (.int (n : Nat)) []))) hx7 (show upd H6 tn (.tup (us.map V.ref)) tn = _ from upd_same) fun _ _ _ e => by cases e
      generalize upd (upd H6 tn (.tup (us.map V.ref))) x (.ins a.C dx (putF "neighbours" (.ref tn) (putF "cells" (.int (n : Nat)) []))) = H8 at b8 hx8 hp8 tU8 har8 hn8 ⊢
      -- roads
      have harI : SqOf H8 ar ((lot.map fun c => ((c : Nat) : Int)).map V.int) := by rw [← ints_map]; exact har8
      refine ⟨_, rfl, ar, lot.map fun c => ((c : Nat) : Int), rfl, harI.sq, by rw [List.length_map]; omega, fun ms pl pm so npl => ⟨pl, _, rfl, .inl ⟨.inl (.inl upd_same), fun tr ntr => ?_⟩⟩⟩
      have ems := ints_back pm
      have e12 : ms.map V.int = ints_ (ms.map Int.toNat) := by rw [ints_map, ← ems]
      rw [e12] at ntr ⊢
      have prd : (ms.map Int.toNat).Perm lot := by
        have z := pm.map Int.toNat
        rw [List.map_map] at z
        exact z.trans (List.Perm.of_eq ((List.map_congr_left fun c _ => rfl).trans (List.map_id lot)))
      have srd : (ms.map Int.toNat).Pairwise (· ≤ ·) := by
        rw [List.pairwise_map]
        exact so.imp fun {a b} h => by omega
      generalize ms.map Int.toNat = rd at prd srd ntr ⊢
      have s9 := same_new (o := .lst (ints_ rd)) (Same.refl H8) npl
      have s10 := same_new (o := .tup (ints_ rd)) s9 ntr
      have hr10 : upd (upd H8 pl (.lst (ints_ rd))) tr (.tup (ints_ rd)) tr = some (.tup (ints_ rd)) := upd_same
      generalize upd (upd H8 pl (.lst (ints_ rd))) tr (.tup (ints_ rd)) = H10 at s10 hr10 ⊢
      have hx10 := s10 _ _ hx8
      refine ⟨_, rfl, x, a.C, dx, _, rfl, hx10, T.cl, T.nA _ (by decide), by show 2 < 1000; decide, ?_⟩
      have b11 := (b8.same s10).put (.ins a.C dx (putF "roads" (.ref tr) (putF "neighbours" (.ref tn) (putF "cells" (.int (n : Nat)) []))))
      have hx11 : upd H10 x (.ins a.C dx (putF "roads" (.ref tr) (putF "neighbours" (.ref tn) (putF "cells" (.int (n : Nat)) [])))) x = _ := upd_same
      have hp11 := keepNI (o' := .ins a.C dx (putF "roads" (.ref tr) (putF "neighbours" (.ref tn) (putF "cells" (.int (n : Nat)) [])))) hx10 (s10 _ _ hp8) fun _ _ _ e => by cases e
      have tU11 := (tU8.same s10).ni hx10 (.ins a.C dx (putF "roads" (.ref tr) (putF "neighbours" (.ref tn) (putF "cells" (.int (n : Nat)) []))))
      have hn11 := keepNI (o' := .ins a.C dx (putF "roads" (.ref tr) (putF "neighbours" (.ref tn) (putF "cells" (.int (n : Nat)) [])))) hx10 (s10 _ _ hn8) fun _ _ _ e => by cases e
      have hr11 := keepNI (o' := .ins a.C dx (putF "roads" (.ref tr) (putF "neighbours" (.ref tn) (putF "cells" (.int (n : Nat)) [])))) hx10 hr10 fun _ _ _ e => by cases e
      generalize upd H10 x (.ins a.C dx (putF "roads" (.ref tr) (putF "neighbours" (.ref tn) (putF "cells" (.int (n : Nat)) [])))) = H11 at b11 hx11 hp11 tU11 hn11 hr11 ⊢
      -- nearby
      refine ⟨_, rfl, _, rfl, n, p, us, es, rfl, n5, hp11, tU11, by omega, fun H12 ty uy s12 nty hy12 tY12 => ?_⟩
      have hx12 := s12 _ _ hx11
      refine ⟨_, rfl, x, a.C, dx, _, rfl, hx12, T.cl, T.nA _ (by decide), by show 3 < 1000; decide, ?_⟩
      have b13 := (b11.same s12).put (.ins a.C dx (putF "nearby" (.ref ty) (putF "roads" (.ref tr) (putF "neighbours" (.ref tn) (putF "cells" (.int (n : Nat)) [])))))
      have hx13 : upd H12 x (.ins a.C dx (putF "nearby" (.ref ty) (putF "roads" (.ref tr) (putF "neighbours" (.ref tn) (putF "cells" (.int (n : Nat)) []))))) x = _ := upd_same
      have tU13 := (tU11.same s12).ni hx12 (.ins a.C dx (putF "nearby" (.ref ty) (putF "roads" (.ref tr) (putF "neighbours" (.ref tn) (putF "cells" (.int (n : Nat)) [])))))
      have tY13 := tY12.ni hx12 (.ins a.C dx (putF "nearby" (.ref ty) (putF "roads" (.ref tr) (putF "neighbours" (.ref tn) (putF "cells" (.int (n : Nat)) [])))))
      have hn13 := keepNI (o' := .ins a.C dx (putF "nearby" (.ref ty) (putF "roads" (.ref tr) (putF "neighbours" (.ref tn) (putF "cells" (.int (n : Nat)) []))))) hx12 (s12 _ _ hn11) fun _ _ _ e => by cases e
      have hr13 := keepNI (o' := .ins a.C dx (putF "nearby" (.ref ty) (putF "roads" (.ref tr) (putF "neighbours" (.ref tn) (putF "cells" (.int (n : Nat)) []))))) hx12 (s12 _ _ hr11) fun _ _ _ e => by cases e
      have hy13 := keepNI (o' := .ins a.C dx (putF "nearby" (.ref ty) (putF "roads" (.ref tr) (putF "neighbours" (.ref tn) (putF "cells" (.int (n : Nat)) []))))) hx12 hy12 fun _ _ _ e => by cases e
      generalize upd H12 x (.ins a.C dx (putF "nearby" (.ref ty) (putF "roads" (.ref tr) (putF "neighbours" (.ref tn) (putF "cells" (.int (n : Nat)) []))))) = H13 at b13 hx13 tU13 hn13 hr13 hy13 tY13 ⊢
      -- couples
      refine ⟨_, rfl, _, rfl, by omega, by omega, fun D hD => K7E.out_range (lo := 0) (n := n) (fun i H' => Same H13 H' ∧ ∃ vs, H' D = some (.lst (vs.map V.ref)) ∧ TAt H' vs (pairs (upC n i)) ∧ vs.length ≤ i * n) ⟨same_new (Same.refl H13) hD, [], upd_same, .nil, Nat.zero_le _⟩ (fun i H' hi pv => ?_) (fun H' pv => ?_)⟩
      · obtain ⟨e14, vs, hD14, tV, lv⟩ := pv
        refine ⟨rfl, _, rfl, _, rfl, by omega, by omega, K7E.in_range (lo := 0) (n := n) (fun j H'' => Same H13 H'' ∧ ∃ vs, H'' D = some (.lst (vs.map V.ref)) ∧ TAt H'' vs (pairs (upC n i ++ rowC n i j)) ∧ vs.length ≤ i * n + j) ⟨e14, vs, hD14, ?_, lv⟩ (fun j H'' hj pv => ?_) (fun H'' pv => ?_)⟩
        · show TAt H' vs (pairs (upC n i ++ []))
          rw [List.append_nil]
          exact tV
        · obtain ⟨e15, vs, hD15, tV, lv⟩ := pv
          refine ⟨rfl, _, rfl, _, rfl, rfl, _, rfl, ?_⟩
          by_cases hij : i = j
          · subst hij
            have er : rowC n i (i + 1) = rowC n i i := by rw [rowC_succ, if_neg (fun h => h rfl), List.append_nil]
            have e16 : (!decide (V.int (0 + (i : Nat)) = V.int (0 + (i : Nat)))) = false := by rw [decide_eq_true rfl]; rfl
            rw [e16]
            refine iteF ⟨e15, vs, hD15, ?_, by omega⟩
            rw [er]
            exact tV
          · have er : rowC n i (j + 1) = rowC n i j ++ [(i, j)] := by rw [rowC_succ, if_pos hij]
            have e16 : (!decide (V.int (0 + (i : Nat)) = V.int (0 + (j : Nat)))) = true := by
              rw [decide_eq_false (fun h => by injection h with h; exact hij (by omega))]
              rfl
            have hin : i * n ≤ 25 := Nat.le_trans (Nat.mul_le_mul (Nat.le_of_lt (Nat.lt_of_lt_of_le hi n5)) n5) (by decide)
            rw [e16]
            refine iteT ⟨_, rfl, _, rfl, by show 2 ≤ sizeLine; decide, fun t nt => ?_⟩
            rw [er]
            have sT := same_new (o := .tup [.int (0 + (i : Nat)), .int (0 + (j : Nat))]) (Same.refl H'') nt
            have up : ∀ b xs, upd H'' t (.tup [.int (0 + (i : Nat)), .int (0 + (j : Nat))]) b = some (.tup xs) → upd (upd H'' t (.tup [.int (0 + (i : Nat)), .int (0 + (j : Nat))])) D (.lst (vs.map V.ref ++ [.ref t])) b = some (.tup xs) := fun b xs hb => by
              rw [upd_ne (fun z => by rw [z, sT _ _ hD15] at hb; cases hb)]
              exact hb
            refine ⟨_, sT _ _ hD15, by rw [List.length_map]; exact small1000 (by omega), fun b o hb => ?_, vs ++ [t], by rw [upd_same, List.map_append]; rfl, ?_, by rw [List.length_append, List.length_singleton]; omega⟩
            · rw [upd_ne (ne_of_none hb hD)]
              exact sT _ _ (e15 _ _ hb)
            · rw [← List.append_assoc]
              unfold pairs
              rw [List.map_append]
              refine ((tV.same sT).mono up).append (.cons (up _ _ ?_) .nil)
              rw [upd_same, Int.zero_add, Int.zero_add]
              rfl
        · obtain ⟨e15, vs, hD15, tV, lv⟩ := pv
          exact ⟨e15, vs, hD15, by rw [upC_succ]; exact tV, by rw [Nat.succ_mul]; exact lv⟩
      · obtain ⟨e14, vs, hD14, tV, lv⟩ := pv
        refine ⟨D, vs.map V.ref, rfl, .inl ⟨.inl (.inl hD14), fun tc ntc => ?_⟩⟩
        have sC := same_new (o := .tup (vs.map V.ref)) e14 ntc
        have hc14 : upd H' tc (.tup (vs.map V.ref)) tc = some (.tup (vs.map V.ref)) := upd_same
        have tV14 := tV.same (same_new (o := .tup (vs.map V.ref)) (Same.refl H') ntc)
        generalize upd H' tc (.tup (vs.map V.ref)) = H15 at sC hc14 tV14 ⊢
        have hx15 := sC _ _ hx13
        refine ⟨_, rfl, x, a.C, dx, _, rfl, hx15, T.cl, T.nA _ (by decide), by show 4 < 1000; decide, ?_⟩
        have no : ∀ (xs : List V) (C dx : Addr) fs, HO.tup xs ≠ .ins C dx fs := fun _ _ _ _ e => by cases e
        exact q _ es rd ((b13.same sC).put _) ⟨⟨dx, tn, tr, ty, tc, us, uy, vs, upd_same, keepNI hx15 (sC _ _ hn13) (no _), (tU13.same sC).ni hx15 _, keepNI hx15 (sC _ _ hr13) (no _), keepNI hx15 (sC _ _ hy13) (no _), (tY13.same sC).ni hx15 _, keepNI hx15 hc14 (no _), tV14.ni hx15 _⟩,
          n2, n5, ok, fun c hc => llt c (prd.mem_iff.mp hc), prd.nodup_iff.mpr lnd, srd, by rw [prd.length_eq]; exact l0, by rw [prd.length_eq]; exact ln⟩ pe prd
end
end K7
end
/-! ## P13 -/
section
open PySem PySem.Spec PyProof.Rows L2
namespace K7
abbrev N_Land_couples : List Str := ["self"]
abbrev s_Land_couples : Stmt := inClass (topS 23) 2
theorem sc_Land_couples : FnScope ["self"] ["self"] (defScope s_Land_couples) := ⟨rfl, rfl, rfl, by decide +kernel, rfl, by decide +kernel, by decide +kernel⟩
theorem near_get {n : Nat} {es : List (Nat × Nat)} {c : Nat} (h : c < n) : (nearV n es)[c]? = some ((List.range n).filter fun b => decide ((c, b) ∈ es) || decide ((b, c) ∈ es)) := by
  unfold nearV
  rw [List.getElem?_map, List.getElem?_range h]
  rfl
def nearOf (n : Nat) (es : List (Nat × Nat)) (c : Nat) : List Nat := (List.range n).filter fun b => decide ((c, b) ∈ es) || decide ((b, c) ∈ es)
/-- a cell, or what is no cell and is told so -/
def CellOr (B : Addr) (n : Nat) (H : Hp) (x : V) (E : XK) (q : Nat → Prop) : Prop := (∃ c, x = .int (c : Nat) ∧ c < n ∧ q c) ∨ (Thing H x ∧ wholeV x 0 ((n : Nat) - 1) = false ∧ Flies H B "cell" x E)
theorem whole_cell {n c : Nat} (h : c < n) : wholeV (.int (c : Nat)) 0 (((n : Nat) : Int) - 1) = true := by
  rw [wholeV_int, decide_eq_true (by omega), decide_eq_true (by omega)]
  rfl
theorem one_in {n c : Nat} (h : c < n) : AllIn n [.int (c : Nat)] := fun x hx => by
  rw [List.mem_singleton.mp hx]
  exact whole_cell h
section
variable {P : Program} {w : World} {K : PySem.W.Frag} {mg : Str → Option Value} {base : Heap} {a : AdL}
def spCouples (C : Addr) : Sp := fun vs H Q _ => ∃ (p : Addr) (n : Nat) (es : List (Nat × Nat)) (rd : List Nat), vs = [.ref p] ∧ LandO C H p n es rd ∧ ∀ u tc, H u = some (.tup (tc.map V.ref)) → TAt H tc (pairs (KL.allC n)) → Q (.ref u) H
theorem ok_couples (T : Tl K mg a) {f : Addr} {fd : FuncData} (F : Fun K "couples" "Land.couples" s_Land_couples f fd) : FnOk P w K mg base CX0 1 f fd ["self"] (spCouples a.C) := by
  refine F.ok sc_Land_couples (fun vs H Q E h => ?_) (fun cdv A outer s H vs Q E hr h => ?_)
  · obtain ⟨p, n, es, rd, rfl, _⟩ := h
    rfl
  · obtain ⟨p, n, es, rd, rfl, L, q⟩ := h
    refine ⟨_, (pss_one (ps_ret (pe_fld (pv 0) rfl))), ?_⟩
    obtain ⟨dx, an, ar, ay, ac, tn, ty, tc, h1, h2, h3, h4, h5, h6, h7, h8⟩ := L.at_
    exact ⟨_, rfl, p, a.C, dx, _, _, rfl, h1, T.cl, T.nA _ (by decide), rfl, q _ _ h7 h8⟩
end
end K7
end
/-! ## MN -/
section
/-! min of a list of data that can be compared with one another. -/
namespace K7S
open PySem PySem.Spec PyProof.Rows L2
section
variable {X : Cx}
def rMinD (K : PySem.W.Frag) : List V → Hp → VK → Prop := fun vs H Q => ∃ (a : Addr) (xs : List V) (d : PyData) (ds : List PyData), vs = [V.ref a] ∧ SqL K H a xs ∧ DpAll K H xs (d :: ds) ∧
  PySem.W.AlikeAll (d :: ds) ∧ PyData.canLayAll0 (d :: ds) = true ∧ PyData.depthAll (d :: ds) ≤ 64 ∧ ∀ (i : Nat) (v : V), xs[i]? = some v → (d :: ds)[i]? = some (PySem.W.minD d ds) → Q v H
theorem vals_back {vs : List V} {us : List Value} (r : Vals vs us) : ∀ {i : Nat} {u : Value}, us[i]? = some u → ∃ v, vs[i]? = some v ∧ RelV v u := by
  induction r with
  | nil => exact fun {i u} h => nomatch h
  | cons r1 _ ih =>
    intro i u h
    cases i with
    | zero =>
      obtain rfl := Option.some.inj h
      exact ⟨_, rfl, r1⟩
    | succ i => exact ih (i := i) h
theorem minD_mem (d : PyData) : ∀ ds : List PyData, PySem.W.minD d ds ∈ d :: ds := by
  intro ds
  have z : ∀ (ds : List PyData) (a : PyData), ds.foldl (fun a y => if PySem.W.dataLt y a then y else a) a ∈ a :: ds := by
    intro ds
    induction ds with
    | nil => exact fun a => List.mem_cons_self ..
    | cons y ds ih =>
      intro a
      rcases List.mem_cons.mp (ih (if PySem.W.dataLt y a then y else a)) with e | e
      · rw [List.foldl_cons, e]
        split
        · exact List.mem_cons_of_mem _ (List.mem_cons_self ..)
        · exact List.mem_cons_self ..
      · exact List.mem_cons_of_mem _ (List.mem_cons_of_mem _ e)
  exact z ds d
theorem cr_minD (hc : X.calm = true) (hu : X.A.units + 65 < cLine) : CallR X (.builtin "min") (rMinD X.K) := by
  intro pins s τ H vs us Q I r h
  obtain ⟨a, xs, d, ds, rfl, hs, hd, hal, hlay, hdep, q⟩ := h
  obtain ⟨its, rv, hl, _⟩ := I.list hs
  rw [Vals.ref1 r]
  obtain ⟨as, hr⟩ := Dp.readsAll I (d :: ds) _ its hd rv
  have hmap : its.map (SeqAt.readOf s.heap) = d :: ds := SeqAt.readsAll_map (d :: ds) its as hlay hr
  refine PySem.W.min_list_data (I.ok.hd hc) hl.isList hr hal (by omega) fun i v h' tk bs hv hrd hk => ?_
  have hv : its[i]? = some v := by simpa using hv
  obtain ⟨x, hx, rx⟩ := vals_back rv hv
  have hi := congrArg (fun l : List PyData => l[i]?) hmap
  simp only [List.getElem?_map, hv, Option.map_some] at hi
  have all : ∀ (l : List PyData), PyData.canLayAll0 l = true → ∀ z ∈ l, z.canLay0 = true := by
    intro l
    induction l with
    | nil => exact fun _ z hz => nomatch hz
    | cons y l ih =>
      intro h z hz
      rw [PyData.canLayAll0, Bool.and_eq_true] at h
      rcases List.mem_cons.mp hz with rfl | hz
      · exact h.1
      · exact ih h.2 z hz
  obtain ⟨cs, r1, _, m1, _⟩ := PySem.W.readsAll_at hr i v hv
  have e1 := SeqAt.readOf_eq (all _ hlay _ m1) (PySem.W.reads_keeps hk r1)
  have e2 := SeqAt.readOf_eq (all _ hlay _ (minD_mem d ds)) hrd
  have e3 := SeqAt.readOf_eq (all _ hlay _ m1) r1
  refine ⟨x, H, I.kept (t' := tk) hk, rx, q i x hx (hi.symm.trans ?_)⟩
  rw [e3, ← e1, e2]
end
end K7S
end
/-! ## OR -/
section
open PySem PySem.Spec PyProof.Rows L2
namespace K7
/-! ### orders of cells -/
def at_ (o : List Nat) (c : Nat) : Nat := o.getD c 0
structure IsOrd (n : Nat) (o : List Nat) : Prop where
  len : o.length = n
  lt : ∀ c ∈ o, c < n
  nd : o.Nodup
def rowO (n : Nat) (o : List Nat) (j : Nat) : List (List Nat) := ((List.range j).filter fun c => !decide (c ∈ o)).map fun c => o ++ [c]
def stepO (n : Nat) (rows : List (List Nat)) : List (List Nat) := rows.flatMap fun o => rowO n o n
def itO (n : Nat) : Nat → List (List Nat)
  | 0 => [[]]
  | k + 1 => stepO n (itO n k)
def ords (n : Nat) : List (List Nat) := itO n n
theorem rowO_succ (n : Nat) (o : List Nat) (j : Nat) : rowO n o (j + 1) = rowO n o j ++ (if (!decide (j ∈ o)) = true then [o ++ [j]] else []) := by
  unfold rowO
  rw [range_filter, List.map_append]
  congr 1
  by_cases h : (!decide (j ∈ o)) = true
  · rw [if_pos h, if_pos h]; rfl
  · rw [if_neg h, if_neg h]; rfl
theorem rowO_len (n : Nat) (o : List Nat) (j : Nat) : (rowO n o j).length ≤ j := by
  unfold rowO
  rw [List.length_map]
  exact Nat.le_trans (List.length_filter_le _ _) (by rw [List.length_range]; exact Nat.le_refl _)
theorem step_snoc (n : Nat) (rows : List (List Nat)) (o : List Nat) : stepO n (rows ++ [o]) = stepO n rows ++ rowO n o n := by
  unfold stepO
  rw [List.flatMap_append, List.flatMap_cons, List.flatMap_nil, List.append_nil]
theorem step_len (n : Nat) : ∀ rows : List (List Nat), (stepO n rows).length ≤ rows.length * n
  | [] => Nat.zero_le _
  | o :: rows => by
    have h := step_len n rows
    have h2 := rowO_len n o n
    show (rowO n o n ++ stepO n rows).length ≤ _
    rw [List.length_append, List.length_cons, Nat.succ_mul]
    omega
theorem itO_len : ∀ n : Fin 6, ∀ k : Fin 6, k.val ≤ n.val → (itO n.val k.val).length ≤ 120 := by decide +kernel
theorem mem_rowO {n : Nat} {o x : List Nat} {j : Nat} : x ∈ rowO n o j ↔ ∃ c, c < j ∧ c ∉ o ∧ x = o ++ [c] := by
  unfold rowO
  rw [List.mem_map]
  constructor
  · rintro ⟨c, hc, rfl⟩
    rw [List.mem_filter, List.mem_range] at hc
    exact ⟨c, hc.1, by simpa using hc.2, rfl⟩
  · rintro ⟨c, h1, h2, rfl⟩
    exact ⟨c, List.mem_filter.mpr ⟨List.mem_range.mpr h1, by simpa using h2⟩, rfl⟩
theorem mem_itO (n : Nat) : ∀ (k : Nat) (x : List Nat), x ∈ itO n k ↔ x.length = k ∧ (∀ c ∈ x, c < n) ∧ x.Nodup
  | 0, x => by
    show x ∈ [[]] ↔ _
    rw [List.mem_singleton]
    constructor
    · rintro rfl
      exact ⟨rfl, fun c hc => (nomatch hc), List.nodup_nil⟩
    · exact fun h => List.length_eq_zero_iff.mp h.1
  | k + 1, x => by
    show x ∈ stepO n (itO n k) ↔ _
    unfold stepO
    rw [List.mem_flatMap]
    constructor
    · rintro ⟨o, ho, hx⟩
      obtain ⟨c, hc, hno, rfl⟩ := mem_rowO.mp hx
      obtain ⟨h1, h2, h3⟩ := (mem_itO n k o).mp ho
      refine ⟨by rw [List.length_append, h1]; rfl, fun d hd => ?_, ?_⟩
      · rcases List.mem_append.mp hd with hd | hd
        · exact h2 d hd
        · rw [List.mem_singleton.mp hd]; exact hc
      · rw [List.nodup_append]
        exact ⟨h3, List.nodup_cons.mpr ⟨List.not_mem_nil, List.nodup_nil⟩, fun a ha b hb e => hno (by rw [← List.mem_singleton.mp hb, ← e]; exact ha)⟩
    · rintro ⟨h1, h2, h3⟩
      have ne : x ≠ [] := fun e => by rw [e] at h1; cases h1
      have ex := List.dropLast_concat_getLast ne
      refine ⟨x.dropLast, (mem_itO n k _).mpr ⟨by rw [List.length_dropLast, h1]; rfl, fun c hc => h2 c (List.dropLast_subset x hc), h3.sublist (List.dropLast_sublist x)⟩, mem_rowO.mpr ⟨x.getLast ne, h2 _ (List.getLast_mem ne), fun m => ?_, ex.symm⟩⟩
      rw [← ex, List.nodup_append] at h3
      exact h3.2.2 _ m _ (List.mem_singleton.mpr rfl) rfl
theorem mem_ords {n : Nat} {x : List Nat} : x ∈ ords n ↔ IsOrd n x := (mem_itO n n x).trans ⟨fun h => ⟨h.1, h.2.1, h.2.2⟩, fun h => ⟨h.len, h.lt, h.nd⟩⟩
theorem IsOrd.perm {n : Nat} {o : List Nat} (h : IsOrd n o) : o.Perm (List.range n) := by
  refine (List.perm_ext_iff_of_nodup h.nd List.nodup_range).mpr fun d => ⟨fun m => List.mem_range.mpr (h.lt d m), fun m => ?_⟩
  refine Classical.byContradiction fun no => ?_
  have z := List.Nodup.length_le_of_subset (l₁ := d :: o) (l₂ := List.range n) (List.nodup_cons.mpr ⟨no, h.nd⟩) fun c hc => by
    rcases List.mem_cons.mp hc with rfl | hc
    · exact m
    · exact List.mem_range.mpr (h.lt c hc)
  rw [List.length_cons, List.length_range, h.len] at z
  omega
theorem at_get {o : List Nat} {c : Nat} (h : c < o.length) : at_ o c = o[c] := by
  unfold at_
  rw [List.getD_eq_getElem?_getD, List.getElem?_eq_getElem h]
  rfl
theorem IsOrd.at_lt {n : Nat} {o : List Nat} (h : IsOrd n o) {c : Nat} (hc : c < n) : at_ o c < n := by
  have l : c < o.length := by rw [h.len]; exact hc
  rw [at_get l]
  exact h.lt _ (List.getElem_mem l)
theorem IsOrd.inj {n : Nat} {o : List Nat} (h : IsOrd n o) {c d : Nat} (hc : c < n) (hd : d < n) (e : at_ o c = at_ o d) : c = d := by
  have l1 : c < o.length := by rw [h.len]; exact hc
  have l2 : d < o.length := by rw [h.len]; exact hd
  rw [at_get l1, at_get l2] at e
  exact (List.getElem_inj h.nd).mp e
theorem IsOrd.surj {n : Nat} {o : List Nat} (h : IsOrd n o) {d : Nat} (hd : d < n) : ∃ c, c < n ∧ at_ o c = d := by
  have m : d ∈ o := h.perm.mem_iff.mpr (List.mem_range.mpr hd)
  obtain ⟨c, hc, e⟩ := List.getElem_of_mem m
  exact ⟨c, by rw [← h.len]; exact hc, by rw [at_get hc]; exact e⟩
theorem ord_map {n : Nat} (f : Nat → Nat) (h1 : ∀ c, c < n → f c < n) (h2 : ∀ c d, c < n → d < n → f c = f d → c = d) : IsOrd n ((List.range n).map f) ∧ ∀ c, c < n → at_ ((List.range n).map f) c = f c := by
  refine ⟨⟨by rw [List.length_map, List.length_range], fun c hc => ?_, ?_⟩, fun c hc => ?_⟩
  · obtain ⟨d, hd, rfl⟩ := List.mem_map.mp hc
    exact h1 d (List.mem_range.mp hd)
  · rw [List.nodup_iff_pairwise_ne, List.pairwise_map]
    refine (List.nodup_iff_pairwise_ne.mp (List.nodup_range (n := n))).imp_of_mem fun {a b} ha hb ne e => ne (h2 a b (List.mem_range.mp ha) (List.mem_range.mp hb) e)
  · rw [at_get (by rw [List.length_map, List.length_range]; exact hc), List.getElem_map, List.getElem_range]
/-- one order behind another -/
theorem ord_comp {n : Nat} {o p : List Nat} (ho : IsOrd n o) (hp : IsOrd n p) : ∃ q, IsOrd n q ∧ ∀ c, c < n → at_ q c = at_ p (at_ o c) := by
  obtain ⟨h1, h2⟩ := ord_map (n := n) (fun c => at_ p (at_ o c)) (fun c hc => hp.at_lt (ho.at_lt hc)) fun c d hc hd e => ho.inj hc hd (hp.inj (ho.at_lt hc) (ho.at_lt hd) e)
  exact ⟨_, h1, h2⟩
/-- the order that leads back -/
theorem ord_inv {n : Nat} {o : List Nat} (ho : IsOrd n o) : ∃ q, IsOrd n q ∧ ∀ c, c < n → at_ q (at_ o c) = c := by
  have hx : ∀ d, d < n → o.idxOf d < n ∧ at_ o (o.idxOf d) = d := fun d hd => by
    have m : d ∈ o := ho.perm.mem_iff.mpr (List.mem_range.mpr hd)
    have l := List.idxOf_lt_length_of_mem m
    refine ⟨by rw [← ho.len]; exact l, ?_⟩
    rw [at_get l]
    exact List.getElem_idxOf l
  obtain ⟨h1, h2⟩ := ord_map (n := n) (fun d => o.idxOf d) (fun d hd => (hx d hd).1) fun c d hc hd e => by
    rw [← (hx c hc).2, ← (hx d hd).2]
    exact congrArg (at_ o) e
  refine ⟨_, h1, fun c hc => ?_⟩
  rw [h2 _ (ho.at_lt hc)]
  exact ho.inj ((hx _ (ho.at_lt hc)).1) hc (hx _ (ho.at_lt hc)).2
/-! ### lands led -/
abbrev Part := List (Nat × Nat) × List Nat
def leB (a b : Nat × Nat) : Bool := decide (a.1 < b.1 ∨ (a.1 = b.1 ∧ a.2 ≤ b.2))
def ledE (o : List Nat) (es : List (Nat × Nat)) : List (Nat × Nat) := (es.map fun e => KL.srt (at_ o e.1, at_ o e.2)).mergeSort leB
def ledR (o : List Nat) (rd : List Nat) : List Nat := (rd.map (at_ o)).mergeSort fun a b => decide (a ≤ b)
def led (o : List Nat) (x : Part) : Part := (ledE o x.1, ledR o x.2)
theorem ledE_perm (o : List Nat) (es : List (Nat × Nat)) : (ledE o es).Perm (es.map fun e => KL.srt (at_ o e.1, at_ o e.2)) := List.mergeSort_perm _ _
theorem ledR_perm (o rd : List Nat) : (ledR o rd).Perm (rd.map (at_ o)) := List.mergeSort_perm _ _
theorem ledE_sorted (o : List Nat) (es : List (Nat × Nat)) : (ledE o es).Pairwise KL.lexLe := by
  have h := List.pairwise_mergeSort (le := leB) (fun a b c h1 h2 => by unfold leB at *; simp only [decide_eq_true_eq] at *; omega) (fun a b => by unfold leB; simp only [Bool.or_eq_true, decide_eq_true_eq]; omega) (es.map fun e => KL.srt (at_ o e.1, at_ o e.2))
  exact h.imp fun {a b} e => of_decide_eq_true e
theorem ledR_sorted (o rd : List Nat) : (ledR o rd).Pairwise (· ≤ ·) := by
  have h := List.pairwise_mergeSort (le := fun a b : Nat => decide (a ≤ b)) (fun a b c h1 h2 => by simp only [decide_eq_true_eq] at *; omega) (fun a b => by simp only [Bool.or_eq_true, decide_eq_true_eq]; omega) (rd.map (at_ o))
  exact h.imp fun {a b} e => of_decide_eq_true e
theorem ledE_is {o : List Nat} {es ys : List (Nat × Nat)} (p : ys.Perm (es.map fun e => KL.srt (at_ o e.1, at_ o e.2))) (hs : ys.Pairwise KL.lexLe) : ys = ledE o es :=
  KL.uniq KL.lex_anti (p.trans (ledE_perm o es).symm) hs (ledE_sorted o es)
theorem ledR_is {o rd ys : List Nat} (p : ys.Perm (rd.map (at_ o))) (hs : ys.Pairwise (· ≤ ·)) : ys = ledR o rd :=
  KL.uniq (fun a b (h1 : a ≤ b) (h2 : b ≤ a) => Nat.le_antisymm h1 h2) (p.trans (ledR_perm o rd).symm) hs (ledR_sorted o rd)
/-- the parts that a land has -/
structure PartOk (n : Nat) (x : Part) : Prop where
  ok : LandOk n x.1
  rlt : ∀ c ∈ x.2, c < n
  rnd : x.2.Nodup
  rso : x.2.Pairwise (· ≤ ·)
  r0 : 0 < x.2.length
  rn : x.2.length < n
theorem srt_srt (o : List Nat) (a b : Nat) : KL.srt (at_ o (KL.srt (a, b)).1, at_ o (KL.srt (a, b)).2) = KL.srt (at_ o a, at_ o b) := by
  unfold KL.srt
  simp only
  rcases Nat.le_total a b with h | h
  · rw [Nat.min_eq_left h, Nat.max_eq_right h]
  · rw [Nat.min_eq_right h, Nat.max_eq_left h, Nat.min_comm, Nat.max_comm]
theorem led_led {n : Nat} {o p q : List Nat} {x : Part} (hx : PartOk n x) (hq : ∀ c, c < n → at_ q c = at_ p (at_ o c)) : led p (led o x) = led q x := by
  obtain ⟨es, rd⟩ := x
  refine Prod.ext ?_ ?_
  · refine ledE_is ?_ (ledE_sorted _ _)
    refine (ledE_perm p (ledE o es)).trans (((ledE_perm o es).map _).trans ?_)
    rw [List.map_map]
    refine List.Perm.of_eq (List.map_congr_left fun e he => ?_)
    obtain ⟨h1, h2⟩ := hx.ok.lt e he
    show KL.srt (at_ p (KL.srt (at_ o e.1, at_ o e.2)).1, at_ p (KL.srt (at_ o e.1, at_ o e.2)).2) = _
    rw [srt_srt, hq _ (by omega), hq _ h2]
  · refine ledR_is ?_ (ledR_sorted _ _)
    refine (ledR_perm p (ledR o rd)).trans (((ledR_perm o rd).map _).trans ?_)
    rw [List.map_map]
    exact List.Perm.of_eq (List.map_congr_left fun c hc => (hq c (hx.rlt c hc)).symm)
theorem led_back {n : Nat} {o : List Nat} {x : Part} (hx : PartOk n x) (ho : ∀ c, c < n → at_ o c = c) : led o x = x := by
  obtain ⟨es, rd⟩ := x
  refine Prod.ext ?_ ?_
  · refine (ledE_is ?_ (hx.ok.sorted.imp fun h => h)).symm
    refine List.Perm.of_eq ((List.map_id es).symm.trans (List.map_congr_left fun e he => ?_))
    obtain ⟨h1, h2⟩ := hx.ok.lt e he
    rw [ho _ (by omega), ho _ h2, KL.srt_of h1]
    rfl
  · refine (ledR_is ?_ hx.rso).symm
    exact List.Perm.of_eq ((List.map_id rd).symm.trans (List.map_congr_left fun c hc => (ho c (hx.rlt c hc)).symm))
theorem led_conn {n : Nat} {o : List Nat} {es : List (Nat × Nat)} (ho : IsOrd n o) (n2 : 0 < n) (h : KL.Conn n es) (lt : ∀ e ∈ es, e.1 < e.2 ∧ e.2 < n) : KL.Conn n (ledE o es) := by
  intro S h0 he c hc
  have edge : ∀ e ∈ es, S (at_ o e.1) = S (at_ o e.2) := fun e m => by
    have z := he (KL.srt (at_ o e.1, at_ o e.2)) ((ledE_perm o es).mem_iff.mpr (List.mem_map.mpr ⟨e, m, rfl⟩))
    unfold KL.srt at z
    simp only at z
    rcases Nat.le_total (at_ o e.1) (at_ o e.2) with y | y
    · rw [Nat.min_eq_left y, Nat.max_eq_right y] at z; exact z
    · rw [Nat.min_eq_right y, Nat.max_eq_left y] at z; exact z.symm
  have all := h (fun c => S (at_ o c) == S (at_ o 0)) (by simp) fun e m => by
    show (S (at_ o e.1) == S (at_ o 0)) = (S (at_ o e.2) == S (at_ o 0))
    rw [edge e m]
  obtain ⟨c0, k0, e0⟩ := ho.surj n2
  have z0 := all c0 k0
  rw [e0, h0] at z0
  obtain ⟨c1, k1, e1⟩ := ho.surj hc
  have z1 := all c1 k1
  rw [e1] at z1
  have z0 : true = S (at_ o 0) := by simpa using z0
  have z1 : S c = S (at_ o 0) := by simpa using z1
  rw [z1, ← z0]
theorem led_cos {n : Nat} {o : List Nat} {es : List (Nat × Nat)} (ho : IsOrd n o) (n5 : n ≤ 5) (ok : LandOk n es) (h32 : es.length ≤ 32) : Cos n (ledE o es) ∧ (ledE o es).map KL.srt = ledE o es := by
  have mem : ∀ c ∈ ledE o es, ∃ e ∈ es, c = KL.srt (at_ o e.1, at_ o e.2) := fun c hc => by
    obtain ⟨e, he, rfl⟩ := List.mem_map.mp ((ledE_perm o es).mem_iff.mp hc)
    exact ⟨e, he, rfl⟩
  have lt : ∀ c ∈ ledE o es, c.1 < c.2 ∧ c.2 < n := fun c hc => by
    obtain ⟨e, he, rfl⟩ := mem c hc
    obtain ⟨h1, h2⟩ := ok.lt e he
    have a := ho.at_lt (c := e.1) (by omega)
    have b := ho.at_lt h2
    have ne : at_ o e.1 ≠ at_ o e.2 := fun z => by
      have := ho.inj (by omega) h2 z
      omega
    refine ⟨KL.srt_lt ne, ?_⟩
    unfold KL.srt
    simp only
    omega
  have em : (ledE o es).map KL.srt = ledE o es := (List.map_congr_left fun c hc => KL.srt_of (lt c hc).1).trans (List.map_id _)
  refine ⟨⟨fun c hc => ⟨by have := lt c hc; omega, (lt c hc).2, by have := lt c hc; omega⟩, ?_, by rw [(ledE_perm o es).length_eq, List.length_map]; exact h32⟩, em⟩
  rw [em, (ledE_perm o es).nodup_iff, List.nodup_iff_pairwise_ne, List.pairwise_map]
  refine (List.nodup_iff_pairwise_ne.mp ok.nd).imp_of_mem fun {a b} ha hb ne e => ne ?_
  obtain ⟨a1, a2⟩ := ok.lt a ha
  obtain ⟨b1, b2⟩ := ok.lt b hb
  unfold KL.srt at e
  injection e with e1 e2
  simp only at e1 e2
  have i1 := fun z => ho.inj (c := a.1) (d := b.1) (by omega) (by omega) z
  have i2 := fun z => ho.inj (c := a.2) (d := b.2) (by omega) (by omega) z
  have i3 := fun z => ho.inj (c := a.1) (d := b.2) (by omega) (by omega) z
  have i4 := fun z => ho.inj (c := a.2) (d := b.1) (by omega) (by omega) z
  have cs : (at_ o a.1 = at_ o b.1 ∧ at_ o a.2 = at_ o b.2) ∨ (at_ o a.1 = at_ o b.2 ∧ at_ o a.2 = at_ o b.1) := by omega
  rcases cs with ⟨z1, z2⟩ | ⟨z1, z2⟩
  · exact Prod.ext (i1 z1) (i2 z2)
  · have := i3 z1
    have := i4 z2
    omega
theorem led_ok {n : Nat} {o : List Nat} {x : Part} (ho : IsOrd n o) (n2 : 0 < n) (n5 : n ≤ 5) (h32 : x.1.length ≤ 32) (hx : PartOk n x) : PartOk n (led o x) := by
  obtain ⟨es, rd⟩ := x
  obtain ⟨c, em⟩ := led_cos ho n5 hx.ok h32
  have rp := ledR_perm o rd
  refine ⟨⟨fun e he => ?_, ?_, ledE_sorted o es, led_conn ho n2 hx.ok.conn hx.ok.lt⟩, fun c hc => ?_, ?_, ledR_sorted o rd, ?_, ?_⟩
  · have z := c.lt e he
    have := KL.srt_le e
    have e1 : KL.srt e = e := by
      obtain ⟨e', he', rfl⟩ := List.mem_map.mp ((ledE_perm o es).mem_iff.mp he)
      unfold KL.srt
      simp only
      refine Prod.ext ?_ ?_ <;> simp only <;> omega
    rw [e1] at this
    omega
  · have := c.nd
    rw [em] at this
    exact this
  · obtain ⟨d, hd, rfl⟩ := List.mem_map.mp (rp.mem_iff.mp hc)
    exact ho.at_lt (hx.rlt d hd)
  · show (ledR o rd).Nodup
    rw [rp.nodup_iff, List.nodup_iff_pairwise_ne, List.pairwise_map]
    exact (List.nodup_iff_pairwise_ne.mp hx.rnd).imp_of_mem fun {a b} ha hb ne e => ne (ho.inj (hx.rlt a ha) (hx.rlt b hb) e)
  · show 0 < (ledR o rd).length
    rw [rp.length_eq, List.length_map]
    exact hx.r0
  · show (ledR o rd).length < n
    rw [rp.length_eq, List.length_map]
    exact hx.rn
/-- alike: an order leads the one to the other -/
def AlikeP (n : Nat) (x y : Part) : Prop := ∃ o ∈ ords n, led o x = y
theorem alike_symm {n : Nat} {x y : Part} (hx : PartOk n x) (h : AlikeP n x y) : AlikeP n y x := by
  obtain ⟨o, ho, rfl⟩ := h
  have io := mem_ords.mp ho
  obtain ⟨q, iq, e⟩ := ord_inv io
  refine ⟨q, mem_ords.mpr iq, ?_⟩
  obtain ⟨h1, h2⟩ := ord_map (n := n) (fun c => c) (fun c hc => hc) (fun c d _ _ e => e)
  rw [led_led hx (q := (List.range n).map fun c => c) fun c hc => by rw [h2 c hc, e c hc]]
  exact led_back hx h2
theorem alike_trans {n : Nat} {x y z : Part} (hx : PartOk n x) (h : AlikeP n x y) (h' : AlikeP n y z) : AlikeP n x z := by
  obtain ⟨o, ho, rfl⟩ := h
  obtain ⟨p, hp, rfl⟩ := h'
  obtain ⟨q, iq, e⟩ := ord_comp (mem_ords.mp ho) (mem_ords.mp hp)
  exact ⟨q, mem_ords.mpr iq, (led_led hx e).symm⟩
end K7
end
/-! ## ORM -/
section
open PySem PySem.Spec PyProof.Rows L2
namespace K7
/-! ### data of lands -/
theorem eqv_ints : ∀ l m : List Nat, PyData.eqvAll (l.map fun c => PyData.int (c : Nat)) (m.map fun c => PyData.int (c : Nat)) = decide (l = m)
  | [], [] => rfl
  | [], _ :: _ => by simp [PyData.eqvAll]
  | _ :: _, [] => by simp [PyData.eqvAll]
  | x :: l, y :: m => by
    rw [List.map_cons, List.map_cons, PyData.eqvAll, eqv_ints l m]
    by_cases e : x = y
    · subst e
      simp [PyData.eqv]
    · have e2 : ¬ ((x : Nat) : Int) = (y : Nat) := by omega
      simp [PyData.eqv, e, e2]
theorem eqv_intD (l m : List Nat) : PyData.eqv (intD l) (intD m) = decide (l = m) := by
  unfold intD
  rw [PyData.eqv, eqv_ints]
theorem eqvAll_rows : ∀ us vs : List (List Nat), PyData.eqvAll (us.map intD) (vs.map intD) = decide (us = vs)
  | [], [] => rfl
  | [], _ :: _ => by simp [PyData.eqvAll]
  | _ :: _, [] => by simp [PyData.eqvAll]
  | u :: us, v :: vs => by
    rw [List.map_cons, List.map_cons, PyData.eqvAll, eqv_intD, eqvAll_rows us vs]
    by_cases h1 : u = v <;> by_cases h2 : us = vs <;> simp [h1, h2]
theorem pairs_inj : ∀ {es fs : List (Nat × Nat)}, pairs es = pairs fs → es = fs
  | [], [], _ => rfl
  | [], _ :: _, h => by cases h
  | _ :: _, [], h => by cases h
  | (a, b) :: es, (c, d) :: fs, h => by
    have h : [a, b] :: pairs es = [c, d] :: pairs fs := h
    injection h with h1 h2
    injection h1 with h1 h3
    injection h3 with h3
    rw [h1, h3, pairs_inj h2]
theorem eqv_rows (es fs : List (Nat × Nat)) : PyData.eqvAll ((pairs es).map intD) ((pairs fs).map intD) = decide (es = fs) := by
  rw [eqvAll_rows]
  exact decide_eq_decide.mpr ⟨pairs_inj, fun h => by rw [h]⟩
theorem shapedT_rows (ls : List (List Nat)) : SeqAt.shaped (.tuple (ls.map intD)) = true := by
  have z : ((PyData.canLay0 (.list (ls.map intD))) && decide (PyData.depth (.list (ls.map intD)) ≤ 64)) = true := shaped_rows ls
  show ((PyData.canLay0 (.tuple (ls.map intD))) && decide (PyData.depth (.tuple (ls.map intD)) ≤ 64)) = true
  simpa [PyData.canLay0, PyData.depth] using z
def rowsT (us : List (List Nat)) : PyData := .tuple (us.map intD)
def partD (x : Part) : PyData := .tuple [rowsT (pairs x.1), intD x.2]
theorem eqv_part (x y : Part) : PyData.eqv (partD x) (partD y) = decide (x = y) := by
  unfold partD rowsT
  rw [PyData.eqv, PyData.eqvAll, PyData.eqvAll, PyData.eqvAll, PyData.eqv, eqv_rows, eqv_intD]
  obtain ⟨a, b⟩ := x
  obtain ⟨c, d⟩ := y
  by_cases h1 : a = c <;> by_cases h2 : b = d <;> simp [h1, h2]
theorem canLay_rows (us : List (List Nat)) : PyData.canLayAll0 (us.map intD) = true ∧ PyData.depthAll (us.map intD) ≤ 1 := by
  induction us with
  | nil => exact ⟨rfl, Nat.zero_le _⟩
  | cons u us ih =>
    have hu : ∀ l : List Nat, PyData.canLayAll0 (l.map fun c => PyData.int (c : Nat)) = true ∧ PyData.depthAll (l.map fun c => PyData.int (c : Nat)) = 0 := by
      intro l
      induction l with
      | nil => exact ⟨rfl, rfl⟩
      | cons a l ih => exact ⟨by simp [PyData.canLayAll0, PyData.canLay0, ih.1], by simp [PyData.depthAll, PyData.depth, ih.2]⟩
    refine ⟨?_, ?_⟩
    · rw [List.map_cons, PyData.canLayAll0, ih.1, Bool.and_true]
      unfold intD
      simpa [PyData.canLay0] using (hu u).1
    · rw [List.map_cons, PyData.depthAll]
      have : PyData.depth (intD u) = 1 := by unfold intD; simp [PyData.depth, (hu u).2]
      omega
theorem lay_part (x : Part) : PyData.canLay0 (partD x) = true ∧ PyData.depth (partD x) ≤ 3 := by
  obtain ⟨h1, h2⟩ := canLay_rows (pairs x.1)
  obtain ⟨h3, h4⟩ := canLay_rows [x.2]
  have e1 : PyData.canLay0 (intD x.2) = true := by
    rw [List.map_cons, PyData.canLayAll0, Bool.and_eq_true] at h3
    exact h3.1
  have e2 : PyData.depth (intD x.2) ≤ 1 := by
    rw [List.map_cons, PyData.depthAll] at h4
    omega
  unfold partD rowsT
  refine ⟨?_, ?_⟩
  · rw [PyData.canLay0, PyData.canLayAll0, PyData.canLayAll0, PyData.canLayAll0, PyData.canLay0, h1, e1]
    rfl
  · simp only [PyData.depth, PyData.depthAll]
    omega
theorem shaped_part (x : Part) : SeqAt.shaped (partD x) = true := by
  obtain ⟨h1, h2⟩ := lay_part x
  show (PyData.canLay0 (partD x) && decide (PyData.depth (partD x) ≤ 64)) = true
  rw [h1, decide_eq_true (by omega)]
  rfl
theorem lay_parts : ∀ xs : List Part, PyData.canLayAll0 (xs.map partD) = true ∧ PyData.depthAll (xs.map partD) ≤ 64
  | [] => ⟨rfl, Nat.zero_le _⟩
  | x :: xs => by
    obtain ⟨h1, h2⟩ := lay_parts xs
    obtain ⟨h3, h4⟩ := lay_part x
    refine ⟨by rw [List.map_cons, PyData.canLayAll0, h3, h1]; rfl, ?_⟩
    rw [List.map_cons, PyData.depthAll]
    omega
theorem alike_ints : ∀ u v : List Nat, PySem.W.alikeAll (u.map fun c => PyData.int (c : Nat)) (v.map fun c => PyData.int (c : Nat)) = true
  | [], _ => by cases ‹List Nat› <;> rfl
  | _ :: _, [] => rfl
  | a :: u, b :: v => by
    show (PySem.W.alike (.int a) (.int b) && PySem.W.alikeAll _ _) = true
    rw [alike_ints u v]
    rfl
theorem alike_intD (u v : List Nat) : PySem.W.alike (intD u) (intD v) = true := alike_ints u v
theorem alike_rowsT : ∀ us vs : List (List Nat), PySem.W.alikeAll (us.map intD) (vs.map intD) = true
  | [], _ => by cases ‹List (List Nat)› <;> rfl
  | _ :: _, [] => rfl
  | a :: u, b :: v => by
    show (PySem.W.alike (intD a) (intD b) && PySem.W.alikeAll _ _) = true
    rw [alike_rowsT u v, alike_intD]
    rfl
theorem alike_part (x y : Part) : PySem.W.alike (partD x) (partD y) = true := by
  show (PySem.W.alikeAll _ _ && (PySem.W.alike (intD x.2) (intD y.2) && true)) = true
  rw [alike_rowsT, alike_intD]
  rfl
theorem alike_parts (xs : List Part) : PySem.W.AlikeAll (xs.map partD) := by
  refine ⟨fun x hx y hy => ?_, fun x hx => ?_⟩
  · obtain ⟨u, _, rfl⟩ := List.mem_map.mp hx
    obtain ⟨v, _, rfl⟩ := List.mem_map.mp hy
    exact alike_part u v
  · obtain ⟨u, _, rfl⟩ := List.mem_map.mp hx
    intro e
    cases e
/-! ### the least -/
open PySem.W in
theorem minD_low : ∀ (ds : List PyData) (d : PyData), ∀ y ∈ d :: ds, dataLt y (minD d ds) = false
  | [], d, y, hy => by
    rw [List.mem_singleton.mp hy]
    exact lex_irrefl _
  | e :: ds, d, y, hy => by
    have step : minD d (e :: ds) = minD (if dataLt e d then e else d) ds := rfl
    rw [step]
    by_cases h : dataLt e d = true
    · rw [if_pos h]
      have ih := minD_low ds e
      rcases List.mem_cons.mp hy with rfl | hy
      · refine Bool.eq_false_iff.mpr fun z => ?_
        have t : dataLt e (minD e ds) = true := lex_trans _ _ _ h z
        rw [ih e (List.mem_cons_self ..)] at t
        cases t
      · exact ih y hy
    · rw [if_neg h]
      have ih := minD_low ds d
      rcases List.mem_cons.mp hy with rfl | hy
      · exact ih _ (List.mem_cons_self ..)
      · rcases List.mem_cons.mp hy with rfl | hy
        · refine Bool.eq_false_iff.mpr fun z => ?_
          have low := ih d (List.mem_cons_self ..)
          by_cases h2 : dataLt d y = true
          · have t : dataLt d (minD d ds) = true := lex_trans _ _ _ h2 z
            rw [low] at t
            cases t
          · have eq : keyToks d = keyToks y := lex_total _ _ (Bool.eq_false_iff.mpr h2) (Bool.eq_false_iff.mpr h)
            have t : dataLt d (minD d ds) = dataLt y (minD d ds) := by unfold dataLt; rw [eq]
            rw [low, z] at t
            cases t
        · exact ih y (List.mem_cons_of_mem _ hy)
open PySem.W in
theorem minD_same {d e : PyData} {ds es : List PyData} (h1 : ∀ y ∈ d :: ds, y ∈ e :: es) (h2 : ∀ y ∈ e :: es, y ∈ d :: ds) (al : alike (minD d ds) (minD e es) = true) : PyData.eqv (minD d ds) (minD e es) = true := by
  have m1 := K7S.minD_mem d ds
  have m2 := K7S.minD_mem e es
  have eq : keyToks (minD d ds) = keyToks (minD e es) := lex_total _ _ (minD_low es e _ (h1 _ m1)) (minD_low ds d _ (h2 _ m2))
  refine Classical.byContradiction fun no => ?_
  have z := (toks_eqv _ _ al).2 (Bool.eq_false_iff.mpr no) [] [Sum.inl 0]
  rw [eq, lex_pre, lex_irrefl] at z
  cases z
/-- the least of parts -/
def minPart (v : Part) (ws : List Part) : Part := ws.foldl (fun a y => if PySem.W.dataLt (partD y) (partD a) then y else a) v
theorem minD_part : ∀ (ws : List Part) (v : Part), PySem.W.minD (partD v) (ws.map partD) = partD (minPart v ws)
  | [], v => rfl
  | y :: ws, v => by
    show PySem.W.minD (if PySem.W.dataLt (partD y) (partD v) then partD y else partD v) (ws.map partD) = partD (minPart (if PySem.W.dataLt (partD y) (partD v) then y else v) ws)
    rw [← minD_part ws]
    congr 1
    split <;> rfl
theorem partD_inj {x y : Part} (h : partD x = partD y) : x = y := by
  have z := eqv_part x y
  rw [h] at z
  have w := eqv_part y y
  rw [decide_eq_true rfl] at w
  rw [w] at z
  exact of_decide_eq_true z.symm
theorem minPart_mem (v : Part) (ws : List Part) : minPart v ws ∈ v :: ws := by
  have z := K7S.minD_mem (partD v) (ws.map partD)
  rw [minD_part] at z
  obtain ⟨y, hy, e⟩ := List.mem_map.mp (show partD (minPart v ws) ∈ (v :: ws).map partD from z)
  rw [← partD_inj e]
  exact hy
theorem minPart_same {v u : Part} {ws us : List Part} (h1 : ∀ y ∈ v :: ws, y ∈ u :: us) (h2 : ∀ y ∈ u :: us, y ∈ v :: ws) : minPart v ws = minPart u us := by
  have z := minD_same (d := partD v) (ds := ws.map partD) (e := partD u) (es := us.map partD) (fun y hy => ?_) (fun y hy => ?_) (by rw [minD_part, minD_part]; exact alike_part _ _)
  · rw [minD_part, minD_part, eqv_part] at z
    exact of_decide_eq_true z
  · obtain ⟨x, hx, rfl⟩ := List.mem_map.mp (show y ∈ (v :: ws).map partD from hy)
    exact List.mem_map.mpr ⟨x, h1 x hx, rfl⟩
  · obtain ⟨x, hx, rfl⟩ := List.mem_map.mp (show y ∈ (u :: us).map partD from hy)
    exact List.mem_map.mpr ⟨x, h2 x hx, rfl⟩
/-- all that a land can be led to -/
def leds (n : Nat) (x : Part) : List Part := (ords n).map fun o => led o x
def leastP (n : Nat) (x : Part) : Part := match leds n x with
  | [] => x
  | v :: ws => minPart v ws
theorem leds_ne (n : Nat) (x : Part) : leds n x ≠ [] := by
  obtain ⟨h1, _⟩ := ord_map (n := n) (fun c => c) (fun c hc => hc) (fun c d _ _ e => e)
  intro e
  have m : led ((List.range n).map fun c => c) x ∈ leds n x := List.mem_map.mpr ⟨_, mem_ords.mpr h1, rfl⟩
  rw [e] at m
  cases m
theorem mem_leds {n : Nat} {x y : Part} : y ∈ leds n x ↔ AlikeP n x y := by
  unfold leds AlikeP
  rw [List.mem_map]
theorem leastP_mem (n : Nat) (x : Part) : AlikeP n x (leastP n x) := by
  rw [← mem_leds]
  unfold leastP
  cases h : leds n x with
  | nil => exact absurd h (leds_ne n x)
  | cons v ws => exact minPart_mem v ws
theorem leastP_same {n : Nat} {x y : Part} (hx : PartOk n x) (h : AlikeP n x y) (hy : PartOk n y) : leastP n x = leastP n y := by
  have h1 : ∀ z ∈ leds n x, z ∈ leds n y := fun z hz => mem_leds.mpr (alike_trans hy (alike_symm hx h) (mem_leds.mp hz))
  have h2 : ∀ z ∈ leds n y, z ∈ leds n x := fun z hz => mem_leds.mpr (alike_trans hx h (mem_leds.mp hz))
  unfold leastP
  cases e1 : leds n x with
  | nil => exact absurd e1 (leds_ne n x)
  | cons v ws =>
    cases e2 : leds n y with
    | nil => exact absurd e2 (leds_ne n y)
    | cons u us =>
      rw [e1, e2] at h1 h2
      exact minPart_same h1 h2
theorem least_iff {n : Nat} {x y : Part} (n2 : 0 < n) (n5 : n ≤ 5) (x32 : x.1.length ≤ 32) (hx : PartOk n x) (hy : PartOk n y) : leastP n x = leastP n y ↔ AlikeP n x y := by
  refine ⟨fun e => ?_, fun h => leastP_same hx h hy⟩
  have a := leastP_mem n x
  have b := leastP_mem n y
  rw [← e] at b
  exact alike_trans hx a (alike_symm hy b)
end K7
end
/-! ## EN -/
section
/-! x == y, x != y by x's own __eq__, x an instance of an own class without a __ne__. -/
namespace K7E
open PySem PySem.Spec PyProof.Rows L2
theorem slot_obj_ne : Slot "object" "__ne__" "object.__ne__" := .of (owner := "object") (n := "__ne__") (by rw [typeLookup_type, builtinLookup_eq_fast]; kernel_rfl) (by decide +kernel) (by decide +kernel) (by decide +kernel) (.inl (by decide +kernel)) (by rw [isSubtype_type]; kernel_rfl)
section
variable {prog : Program} {w : World} {A : Around} {E : Value → Shared → Prop} {s : Shared} {K : PySem.W.Frag} {x C L f : Addr} {h₀ : Heap} {m : Str → Option Value} {ox : Obj} {od : Option Obj} {b tb : Value}
open PySem.W in
theorem ne_K {Q : Value → Shared → Prop} (hu : A.units + 1 < cLine) (FF : Fr h₀ L s.heap m) (X₀ : K.In h₀) (I : InstAt s.heap x ox C od) (hb : Looks (model prog w) s.heap (typeOf b) tb) (hn : notFirst K C tb = true) (hm : mroIn K C (.type "object") = some true)
    (hs : findIn K (.ref C) "__ne__" = some (some (.builtin "object.__ne__"))) (he : findIn K (.ref C) "__eq__" = some (some (.ref f))) (hf : isFn K (.ref f) = true)
    (h : wpAny (model prog w) A.in1 (call (.ref f) [.ref x, b]) (fun v s' => ∃ c, v = .bool c ∧ Q (.bool (!c)) s') E s) : wpAny (model prog w) A (richCompare .NotEq (.ref x) b) Q E s := by
  have X := X₀.keeps FF.keep
  have inner : wpAny (model prog w) A.in1 (Builtin.«object.__ne__» ⟨[.ref x, b], []⟩) (fun fin s' => ∃ c, fin = .done (.ret (.bool (!c))) ∧ Q (.bool (!c)) s') E s := by
    unfold Builtin.«object.__ne__»
    repeat (first
      | with_reducible refine wpAny_cRoomFor (show A.in1.units < cLine from hu) ?_
      | (refine wpAny_bind (m := callSpecialIfBound? (.ref x) (Str.ofString "__eq__") [b]) (ifBound_K X I he hf (wpAny_mono h (fun r s' hr => by
          obtain ⟨c, rfl, hq⟩ := hr
          repeat (first | exact ⟨c, rfl, hq⟩ | exact wpAny_pure ⟨c, rfl, hq⟩ | exact wpAny_truthy_bool ⟨c, rfl, hq⟩ | (refine wpAny_bind (m := truthy (.bool _)) (wpAny_truthy_bool ?_)) | wp_step)) fun _ _ e => e)))
      | wp_step)
  have mid : wpAny (model prog w) A (callSpecialIfBound? (.ref x) "__ne__" [b]) (fun r s' => ∃ c, r = some (.bool (!c)) ∧ Q (.bool (!c)) s') E s := by
    simp only [callSpecialIfBound?, bindSpecialIfBound?]
    refine wpAny_holding (wpAny_bind (wpAny_bind (wpAny_bind (I.type.here ((looks_findIn X hs).here ?_)))))
    simp only [slot_obj_ne.bind]
    refine wpAny_bind (wpAny_askSetting (wpAny_ite ?_))
    have fin : wpAny (model prog w) A (call (.builtin "object.__ne__") ([.ref x] ++ [b]) >>= fun v => pure (some v)) (fun r s' => ∃ c, r = some (.bool (!c)) ∧ Q (.bool (!c)) s') E s := by
      refine wpAny_bind (wpAny_call (codeAny_call_builtin slot_obj_ne.plain F.cmpEntry_ne (check_slot F.cmpKind_ne F.cmpSplit_ne (I.type.andThen (looks_mroIn X hm)) (F.cmpArgs_ne _ _) (wpAny_mono inner (fun fin s' z => ?_) fun _ _ e => e))))
      obtain ⟨c, rfl, hq⟩ := z
      exact wpAny_pure ⟨c, rfl, hq⟩
    split
    · exact wpAny_bind (wpAny_pure (wpAny_pure fin))
    · exact wpAny_tryCatch (wpAny_bind (wpAny_pure (wpAny_pure fin)))
  have one : wpAny (model prog w) A (tryCompare (.ref x) "__ne__" b) (fun r s' => ∃ c, r = some (.bool (!c)) ∧ Q (.bool (!c)) s') E s := by
    simp only [tryCompare]
    refine wpAny_bind (wpAny_mono mid (fun r s' ⟨c, er, hq⟩ => ?_) fun _ _ e => e)
    rw [er]
    exact wpAny_pure ⟨c, rfl, hq⟩
  unfold richCompare
  simp only [oneThing_ref]
  refine wpAny_holding (wpAny_bind (wpAny_cRoomFor (Nat.lt_of_succ_lt hu) (wpAny_bind (I.type.here (wpAny_bind (hb.here ?_))))))
  rw [cmpInfo_NotEq]
  dsimp only
  have last : wpAny (model prog w) A (tryCompare (.ref x) "__ne__" b) (fun r s' => ∃ c, r = some (.bool (!c)) ∧ Q (.bool (!c)) s') E s := one
  split
  · rename_i q
    have e : subIn K tb (.ref C) = some false := by
      rcases Bool.or_eq_true_iff.mp hn with e | e
      · rw [beq_iff_eq.mp e] at q; simp at q
      · exact beq_iff_eq.mp e
    refine wpAny_bind ((looks_subIn X e).here ?_)
    simp only [Bool.false_eq_true, if_false]
    refine wpAny_bind (wpAny_mono last (fun r s' ⟨c, er, hq⟩ => ?_) fun _ _ e => e)
    rw [er]
    exact wpAny_pure hq
  · refine wpAny_bind (wpAny_pure ?_)
    simp only [Bool.false_eq_true, if_false]
    refine wpAny_bind (wpAny_mono last (fun r s' ⟨c, er, hq⟩ => ?_) fun _ _ e => e)
    rw [er]
    exact wpAny_pure hq
end
/-! ### x == y by x's own __eq__ -/
def rEqO (K : PySem.W.Frag) (C : Addr) (sp : Sp) (E : XK) : R2 := fun x y H Q => ∃ (a dx : Addr) (fs : List (Str × V)) (b : Addr) (t : Value), x = .ref a ∧ y = .ref b ∧ H a = some (.ins C dx fs) ∧ TyX K H y t ∧ PySem.W.notFirst K C t = true ∧ sp [x, y] H Q E
section
variable {X : Cx}
theorem op_eqOwn {CX : CXT} {C g : Addr} {fd : FuncData} {ps : List Str} {sp : Sp} {E : XK} {n : Nat} (F : FnOk X.prog X.w X.K X.mg X.base CX n g fd ps sp) (hs : PySem.W.findIn X.K (.ref C) "__eq__" = some (some (.ref g))) (hf : PySem.W.isFn X.K (.ref g) = true) (hb : Binds X.K fd ps [])
    (hr : Room n X.A) (hx : Passes CX X E) : OpR X (compareOp .Eq) (rEqO X.K C sp E) := by
  intro pins s σ H x y v u Q I rx ry h
  obtain ⟨a, dx, fs, b, t, rfl, rfl, ha, ty, hn, q⟩ := h
  cases (show v = Value.ref a from rx)
  cases (show u = Value.ref b from ry)
  obtain ⟨mA, J, _⟩ := ins_get I.hok ha
  obtain ⟨od, J, _⟩ := J.look
  obtain ⟨P, Z, hp, hne⟩ := kit_of I (show RelV (.ref b) (Value.ref b) from rfl) ty
  obtain ⟨m, hF⟩ := I.fr
  have hl := F.len _ _ _ _ q
  have r2 : Vals [V.ref a, V.ref b] [Value.ref a, Value.ref b] := .cons rfl (.cons rfl .nil)
  refine PySem.W.cmp_K (op := .Eq) (tb := t) hr.units0 hF I.ok.mod.kin J (Z.ty _ _ I.kIn hp) hn hs hf ?_
  refine wpAny_mono (wpAny_call (run_fnR (us := [.ref a, .ref b]) (vs := [.ref a, .ref b]) (F.raw hb .nil) hr hx I r2 q)) (fun w s' z => ?_) fun _ _ x => x
  obtain ⟨z', H', I', rz, qz⟩ := z
  exact SlX.cmpback rz ⟨z', H', I', rz, qz⟩
/-- x != y -/
theorem op_neOwn {CX : CXT} {C g : Addr} {fd : FuncData} {ps : List Str} {sp : Sp} {E : XK} {n : Nat} (F : FnOk X.prog X.w X.K X.mg X.base CX n g fd ps sp) (hs : PySem.W.findIn X.K (.ref C) "__ne__" = some (some (.builtin "object.__ne__"))) (hm : PySem.W.mroIn X.K C (.type "object") = some true)
    (he : PySem.W.findIn X.K (.ref C) "__eq__" = some (some (.ref g))) (hf : PySem.W.isFn X.K (.ref g) = true) (hb : Binds X.K fd ps []) (hr : Room (n + 1) X.A) (hx : Passes CX X E) : OpR X (compareOp .NotEq) (fun x y H Q => ∃ (a dx : Addr) (fs : List (Str × V)) (b : Addr) (t : Value), x = .ref a ∧ y = .ref b ∧ H a = some (.ins C dx fs) ∧ TyX X.K H y t ∧ PySem.W.notFirst X.K C t = true ∧ sp [x, y] H (fun z H' => ∃ c, z = .bl c ∧ Q (.bl (!c)) H') E) := by
  intro pins s τ H x y v u Q I rx ry h
  obtain ⟨a, dx, fs, b, t, rfl, rfl, ha, ty, hn, q⟩ := h
  cases (show v = Value.ref a from rx)
  cases (show u = Value.ref b from ry)
  obtain ⟨mA, J, _⟩ := ins_get I.hok ha
  obtain ⟨od, J, _⟩ := J.look
  obtain ⟨P, Z, hp, hne⟩ := kit_of I (show RelV (.ref b) (Value.ref b) from rfl) ty
  obtain ⟨m, hF⟩ := I.fr
  have hl := F.len _ _ _ _ q
  have r2 : Vals [V.ref a, V.ref b] [Value.ref a, Value.ref b] := .cons rfl (.cons rfl .nil)
  have hu : X.A.units + 1 < cLine := by have := hr.un; omega
  refine ne_K (tb := t) hu hF I.ok.mod.kin J (Z.ty _ _ I.kIn hp) hn hm hs he hf ?_
  refine wpAny_call (codeAny_mono (F.run X.A.in1 X.stack s H ⟨[.ref a, .ref b], []⟩ [.ref a, .ref b] [.ref a, .ref b] _ E hr.in1 I.env0.in1 (hb s [.ref a, .ref b] I.kIn hl) r2 q) fun r s' hq => ?_)
  cases r with
  | error e => exact hx pins τ H s e s' I hq
  | ok fl =>
    cases fl with
    | ret u =>
      obtain ⟨z', H', I', rz, c, ez, qz⟩ := I.after hq
      subst ez
      cases (show u = Value.bool c from rz)
      exact ⟨c, rfl, .bl (!c), H', I', rfl, qz⟩
    | next => exact False.elim hq
    | brk => exact False.elim hq
    | cont => exact False.elim hq
end
end K7E
end
/-! ## P14 -/
section
open PySem PySem.Spec PyProof.Rows L2
namespace K7
abbrev N_Land___eq__ : List Str := ["self", "other"]
abbrev s_Land___eq__ : Stmt := inClass (topS 23) 1
theorem sc_Land___eq__ : FnScope ["self", "other"] ["self", "other"] (defScope s_Land___eq__) := ⟨rfl, rfl, rfl, by decide +kernel, rfl, by decide +kernel, by decide +kernel⟩
/-- what the top says of lands, once more -/
structure Tk (K : PySem.W.Frag) (C fE : Addr) : Prop where
  ha : PySem.W.findIn K (.ref C) "__class__" = some (some (.builtin "object.__class__"))
  hn : PySem.W.specialIn K (.builtin "object.__class__") "__get__" = some (some (.builtin "getset_descriptor.__get__"))
  ht : PySem.W.takesIn K (.builtin "object.__class__") = some true
  hm : PySem.W.mroIn K C (.type "object") = some true
  own : PySem.W.kitOne K (.ref C) (.ref C) = some true
  eq : PySem.W.findIn K (.ref C) "__eq__" = some (some (.ref fE))
  eqF : PySem.W.isFn K (.ref fE) = true
  ne : PySem.W.findIn K (.ref C) "__ne__" = some (some (.builtin "object.__ne__"))
theorem nfC (K : PySem.W.Frag) (C : Addr) : PySem.W.notFirst K C (.ref C) = true := by simp [PySem.W.notFirst]
theorem dec_and3 (a b c : Prop) [Decidable a] [Decidable b] [Decidable c] : decide (a ∧ b ∧ c) = (decide a && (decide b && decide c)) := by
  by_cases a <;> by_cases b <;> by_cases c <;> simp_all
section
variable {P : Program} {w : World} {K : PySem.W.Frag} {mg : Str → Option Value} {base : Heap} {a : AdL} {fE : Addr}
def spEqL (C : Addr) : Sp := fun vs H Q _ => ∃ (p q : Addr) (n : Nat) (es : List (Nat × Nat)) (rd : List Nat) (m : Nat) (fs : List (Nat × Nat)) (sd : List Nat), vs = [.ref p, .ref q] ∧ LandO C H p n es rd ∧ LandO C H q m fs sd ∧ Q (.bl (decide (n = m ∧ es = fs ∧ rd = sd))) H
theorem ok_eqL (T : Tl K mg a) (T2 : Tk K a.C fE) {f : Addr} {fd : FuncData} (F : Fun K "__eq__" "Land.__eq__" s_Land___eq__ f fd) (m_isinstance : mg "isinstance" = none) : FnOk P w K mg base CX0 1 f fd ["self", "other"] (spEqL a.C) := by
  refine F.ok sc_Land___eq__ (fun vs H Q E h => ?_) (fun cdv A outer s H vs Q E hr h => ?_)
  · obtain ⟨p, q, n, es, rd, m, fs, sd, rfl, _⟩ := h
    rfl
  · obtain ⟨p, q, n, es, rd, m, fs, sd, rfl, L, M, k⟩ := h
    refine ⟨_, (pss_one (ps_ret (pe_and (pe_callB call_isi (by rfl) m_isinstance boot_isinstance (pa_cons (pv 1) (pa_cons (pe_glob (v := .ref _) rfl T.gC rfl) pa_nil))) (pe_and (pe_cmpR op_eq (pe_fld (pv 0) rfl) (pe_fld (pv 1) rfl) (nomark _)) (pe_and (pe_cmpR (op_eqD hr.units) (pe_fld (pv 0) rfl) (pe_fld (pv 1) rfl) (nomark _)) (pe_one (pe_cmpR (op_eqD hr.units) (pe_fld (pv 0) rfl) (pe_fld (pv 1) rfl) (nomark _)))))))), ?_⟩
    obtain ⟨dx, an, ar, ay, ac, tn, ty, tc, h1, h2, h3, h4, _⟩ := L.at_
    obtain ⟨dx', an', ar', ay', ac', tn', ty', tc', g1, g2, g3, g4, _⟩ := M.at_
    rw [dec_and3] at k
    refine ⟨_, rfl, _, _, _, _, _, rfl, .own _, .base (.ins g1 T.cl T2.ha T2.hn T2.ht T2.hm), T2.own, true, rfl, ?_⟩
    have en : decide (V.int (n : Nat) = V.int (m : Nat)) = decide (n = m) := decide_eq_decide.mpr ⟨fun e => by injection e with e; omega, fun e => by rw [e]⟩
    have e1 : PyData.eqv (.tuple ((pairs es).map intD)) (.tuple ((pairs fs).map intD)) = decide (es = fs) := by rw [PyData.eqv, eqv_rows]
    refine ⟨.ref p, rfl, p, a.C, dx, _, _, rfl, h1, T.cl, T.nA _ (by decide), rfl, .ref q, rfl, q, a.C, dx', _, _, rfl, g1, T.cl, T.nA _ (by decide), rfl, rfl, _, rfl, ?_⟩
    rw [en]
    cases hn : decide (n = m) with
    | false =>
      rw [hn] at k
      exact k
    | true =>
      rw [hn] at k
      refine ⟨.ref p, rfl, p, a.C, dx, _, _, rfl, h1, T.cl, T.nA _ (by decide), rfl, .ref q, rfl, q, a.C, dx', _, _, rfl, g1, T.cl, T.nA _ (by decide), rfl, _, _, .tup (.inl (.inl h2)) (dp_rows h3), .tup (.inl (.inl g2)) (dp_rows g3), shapedT_rows _, shapedT_rows _, _, rfl, ?_⟩
      rw [e1]
      cases he : decide (es = fs) with
      | false =>
        rw [he] at k
        exact k
      | true =>
        rw [he] at k
        refine ⟨.ref p, rfl, p, a.C, dx, _, _, rfl, h1, T.cl, T.nA _ (by decide), rfl, .ref q, rfl, q, a.C, dx', _, _, rfl, g1, T.cl, T.nA _ (by decide), rfl, _, _, .tup (.inl (.inl h4)) (dp_ints rd), .tup (.inl (.inl g4)) (dp_ints sd), shaped_ints rd, shaped_ints sd, ?_⟩
        show Q (.bl (PyData.eqv (intD rd) (intD sd))) H
        rw [eqv_intD]
        exact k
/-! a new land -/
theorem new_land {H1 : Hp} {Q : VK} {E : XK} {n : Nat} {an : Addr} {ts : List Addr} {cs : List (Nat × Nat)} {ar : Addr} {lot : List Nat} (n2 : 2 ≤ n) (n5 : n ≤ 5) (han : SqOf H1 an (ts.map V.ref)) (hT : CoAll H1 ts cs) (hc : Cos n cs) (cn : KL.Conn n cs) (har : SqOf H1 ar (ints_ lot)) (llt : ∀ c ∈ lot, c < n) (lnd : lot.Nodup) (l0 : 0 < lot.length) (ln : lot.length < n)
    (q : ∀ H' x es rd, Same H1 H' → H1 x = none → LandO a.C H' x n es rd → es.Perm (cs.map KL.srt) → rd.Perm lot → Q (.ref x) H') :
    ∀ x dx, H1 x = none → H1 dx = none → dx ≠ x → spLandI a (.ref x :: ([.int (n : Nat), .ref an, .ref ar] ++ [])) (upd (upd H1 dx (.own x)) x (.ins a.C dx [])) (fun v H2 => v = .non ∧ Q (.ref x) H2) E := by
  intro x dx hx hdx hne
  have e : Same H1 (upd (upd H1 dx (.own x)) x (.ins a.C dx [])) := same_new (same_new (Same.refl H1) hdx) (by rw [upd_ne hne.symm]; exact hx)
  refine ⟨x, dx, n, an, ts, cs, ar, lot, rfl, upd_same, n2, n5, han.same e, hT.same e, hc, cn, har.same e, llt, lnd, l0, ln, fun H' es rd b L pe pr => ⟨rfl, q H' x es rd (fun z o hz => ?_) hx L pe pr⟩⟩
  exact b z o (ne_of_none hz hx) (e _ _ hz)
theorem es_is {n : Nat} {es cs : List (Nat × Nat)} (ok : LandOk n es) (p : es.Perm cs) (hs : cs.Pairwise KL.lexLe) : es = cs := KL.uniq KL.lex_anti p (ok.sorted.imp fun h => h) hs
theorem rd_is {rd lot : List Nat} (hr : rd.Pairwise (· ≤ ·)) (p : rd.Perm lot) (hs : lot.Pairwise (· ≤ ·)) : rd = lot := KL.uniq (fun a b (h1 : a ≤ b) (h2 : b ≤ a) => Nat.le_antisymm h1 h2) p hr hs
end
end K7
end
/-! ## SL -/
section
open PySem PySem.Spec PyProof.Rows L2
namespace K7
theorem al {H : Hp} {o : HO} {b : Addr} (nb : H b = none) : Same H (upd H b o) := same_new (Same.refl H) nb
theorem notHand_refs : ∀ ts : List Addr, notHand (ts.map V.ref) = true
  | [] => rfl
  | [_] => rfl
  | [_, _] => rfl
  | [_, _, _] => rfl
  | [_, _, _, _] => rfl
  | _ :: _ :: _ :: _ :: _ :: _ => by rfl
theorem notHand_ints : ∀ ts : List Nat, notHand (ints_ ts) = true
  | [] => rfl
  | [_] => rfl
  | [_, _] => rfl
  | [_, _, _] => rfl
  | [_, _, _, _] => rfl
  | _ :: _ :: _ :: _ :: _ :: _ => by rfl
section
variable {h c : Addr} {H H' : Hp}
theorem Stay.tup {b : Addr} {xs : List V} (x : Stay h c H H') (hb : H b = some (.tup xs)) : H' b = some (.tup xs) := x.but b _ (x.hand0.net hb) hb
theorem Stay.tat (x : Stay h c H H') {ts : List Addr} {ls : List (List Nat)} (t : TAt H ts ls) : TAt H' ts ls := t.mono fun b xs hb => x.tup hb
theorem Stay.la (x : Stay h c H H') {q : Addr} {n : Nat} {es : List (Nat × Nat)} {lot : List Nat} (L : LandAt H q n es lot) : LandAt H' q n es lot := by
  obtain ⟨rA, sA, ts, h1, h2, h3, h4⟩ := L.at_
  exact ⟨⟨rA, sA, ts, x.tup h1, x.lst h2 (notHand_refs _), x.tat h3, x.lst h4 (notHand_ints _)⟩, L.ok, L.lot⟩
theorem Stay.lo (x : Stay h c H H') {C p : Addr} {n : Nat} {es : List (Nat × Nat)} {rd : List Nat} (L : LandO C H p n es rd) : LandO C H' p n es rd := by
  obtain ⟨dx, an, ar, ay, ac, tn, ty, tc, h1, h2, h3, h4, h5, h6, h7, h8⟩ := L.at_
  exact ⟨⟨dx, an, ar, ay, ac, tn, ty, tc, x.but p _ (x.hand0.nei h1) h1, x.tup h2, x.tat h3, x.tup h4, x.tup h5, x.tat h6, x.tup h7, x.tat h8⟩, L.n2, L.n5, L.ok, L.rlt, L.rnd, L.rso, L.r0, L.rn⟩
end
theorem es_len {n : Nat} {es : List (Nat × Nat)} (ok : LandOk n es) (hn : n ≤ 5) : es.length ≤ 32 := by
  have z := K7E.nodup_le es ((List.range 5).flatMap fun a => (List.range 5).map fun b => (a, b)) ok.nd fun e he => by
    obtain ⟨a, b⟩ := e
    obtain ⟨l1, l2⟩ := ok.lt _ he
    have l1 : a < b := l1
    have l2 : b < n := l2
    exact List.mem_flatMap.mpr ⟨a, List.mem_range.mpr (by omega), List.mem_map.mpr ⟨b, List.mem_range.mpr (by omega), rfl⟩⟩
  have e : ((List.range 5).flatMap fun a => (List.range 5).map fun b => (a, b)).length = 25 := by decide
  rw [e] at z
  omega

theorem co_lit {H : Hp} {ts : List Addr} {cs : List (Nat × Nat)} (h : TAt H ts (pairs cs)) : CoAll H ts cs := by
  refine ⟨by rw [h.len]; unfold pairs; rw [List.length_map], fun i t c ht hc => ?_⟩
  obtain ⟨l, el, hl⟩ := h.get ht
  unfold pairs at el
  rw [List.getElem?_map, hc] at el
  obtain rfl := Option.some.inj el
  exact .inl hl
theorem lot_lt {n : Nat} (hn : n ≤ 5) {lot : List Nat} (h : lot ∈ lotsTo (List.range n) n) : (∀ c ∈ lot, c < n) ∧ lot.Pairwise (· < ·) := by
  have all : ∀ n : Fin 6, (lotsTo (List.range n.val) n.val).all (fun l => l.all (fun c => decide (c < n.val)) && decide (l.Pairwise (· < ·))) = true := by decide +kernel
  have z := List.all_eq_true.mp (all ⟨n, by omega⟩) lot h
  obtain ⟨z1, z2⟩ := Bool.and_eq_true_iff.mp z
  exact ⟨fun c hc => of_decide_eq_true (List.all_eq_true.mp z1 c hc), of_decide_eq_true z2⟩
theorem srt_map {n : Nat} {es : List (Nat × Nat)} (ok : LandOk n es) : es.map KL.srt = es := by
  refine (List.map_congr_left fun e he => ?_).trans (List.map_id es)
  exact KL.srt_of (ok.lt e he).1
theorem cos_es {n : Nat} {es : List (Nat × Nat)} (ok : LandOk n es) (hn : n ≤ 5) : Cos n es := by
  refine ⟨fun c hc => ?_, by rw [srt_map ok]; exact ok.nd, es_len ok hn⟩
  obtain ⟨l1, l2⟩ := ok.lt c hc
  exact ⟨by omega, l2, by omega⟩

end K7
end
/-! ## E3 -/
section
namespace PySem
open PySem PySem.Spec PyProof.Rows
theorem k7_meets_enumerate_newT (l : Addr) (items : Array Value) (n : Nat) (dct : Option Addr) (sl : Array (Option Value)) :
    Meets (Builtin.«enumerate.__new__» ⟨[.type "enumerate", .ref l], []⟩) (fun _ R s => s.heap.get? l = some { cls := .type "tuple", dict := dct, data := .seq items n, slots := sl } ∧
      R (.ok (.ret (.ref (s.heap.push { cls := .type "tuple_iterator", data := .fields #[.ref l, .int 0 0] }).objs.size)))
        { s with heap := (s.heap.push { cls := .type "tuple_iterator", data := .fields #[.ref l, .int 0 0] }).push { cls := .type "enumerate", data := .fields #[.none, .bool false, .ref s.heap.objs.size, rawInt 0, .none, .none] } }) :=
  .of_wp fun prog w A R s h => by
    obtain ⟨hp, g, d, tk, os⟩ := s; obtain ⟨hl, h⟩ := h
    have hsub := sub_enumerate
    have hL : Heap.IsTuple (Shared.heap ⟨hp, g, d, tk, os⟩) l items := ⟨_, hl, rfl, n, rfl⟩
    wp_walk using AutoSeq1.wpAny_loadPart' hl
    refine wpAny_stack_any fun st => wpAny_pure ?_
    split
    · rename_i c _ _ _ _ _
      cases (c == Value.type "enumerate")
      · wp_walk using AutoSeq1.wpAny_loadPart' hl, wpAny_pyIter_tuple hL
        exact ⟨_, rfl, h⟩
      · wp_walk using AutoSeq1.wpAny_loadPart' hl, wpAny_pyIter_tuple hL
        exact ⟨_, rfl, h⟩
    · wp_walk using AutoSeq1.wpAny_loadPart' hl, wpAny_pyIter_tuple hL
      exact ⟨_, rfl, h⟩
theorem k7_call_enumerate_tuple {prog : Program} {w : World} {A : Around} {E : Value → Shared → Prop} {s : Shared} {l : Addr} {items : Array Value} {Q : Value → Shared → Prop} (hL : s.heap.IsTuple l items)
    (h : ∀ h', IsEnum h' (s.heap.objs.size + 1) s.heap.objs.size 0 .none → h'.IsTupleIter s.heap.objs.size l 0 → h'.objs.size = s.heap.objs.size + 2 →
      (∀ b o, s.heap.get? b = some o → h'.get? b = some o) → Q (.ref (s.heap.objs.size + 1)) { s with heap := h' }) :
    wpAny (model prog w) A (call (.type "enumerate") [.ref l]) Q E s := by
  obtain ⟨⟨c, dct, dt, sl⟩, hl, hc, n, hd⟩ := hL
  replace hc : c = .type "tuple" := hc
  replace hd : dt = .seq items n := hd
  subst hc hd
  refine callType_new F.called_enumerate (by decide) (F.typeCall_enumerate_1 _) (F.newCall_enumerate_1 _) (fun obj => F.args_object_init_2 obj _) F.entry_enumerate_new
    (k7_meets_enumerate_newT l items n dct sl) ⟨hl, ?_⟩
  have hz : (s.heap.push { cls := .type "tuple_iterator", data := .fields #[.ref l, .int 0 0] }).objs.size = s.heap.objs.size + 1 := Heap.size_push ..
  show _ ∧ _
  rw [hz]
  have he : IsEnum ((s.heap.push { cls := .type "tuple_iterator", data := .fields #[.ref l, .int 0 0] }).push
      { cls := .type "enumerate", data := .fields #[.none, .bool false, .ref s.heap.objs.size, rawInt 0, .none, .none] }) (s.heap.objs.size + 1) s.heap.objs.size 0 .none := by
    have := Heap.get?_push_size (s.heap.push { cls := .type "tuple_iterator", data := .fields #[.ref l, .int 0 0] })
      (o := { cls := .type "enumerate", data := .fields #[.none, .bool false, .ref s.heap.objs.size, rawInt 0, .none, .none] }) rfl
    rw [hz] at this; exact this
  refine ⟨⟨_, he, rfl⟩, h _ he ⟨_, Heap.get?_push_of_some _ (Heap.get?_push_size _ rfl), rfl, rfl⟩ (by rw [Heap.size_push, hz]) fun b o x => Heap.get?_push_of_some _ (Heap.get?_push_of_some _ x)⟩
end PySem
namespace K7E
open PySem PySem.Spec PyProof.Rows L2
/-- the tuple at a as it stands at each turn, each item in a new pair -/
def IteT (K : PySem.W.Frag) (a : Addr) : It :=
  ⟨fun i H => ∃ (xs : List V) (x : V), SqT K H a xs ∧ xs[i]? = some x, fun i H v H' => ∃ T x, v = .ref T ∧ H T = none ∧ H' = upd H T (.tup [.int (i : Nat), x]) ∧ ∀ xs, SqT K H a xs → xs[i]? = some x, fun i H => ∃ xs : List V, SqT K H a xs ∧ xs.length = i⟩
theorem tup_ne {h : Heap} {a it : Addr} {items : Array Value} {i : Nat} (p : h.IsTuple a items) (q : h.IsTupleIter it a i) : a ≠ it := by
  intro e
  subst e
  obtain ⟨o, ho, hc, _⟩ := p
  obtain ⟨o2, ho2, hc2, _⟩ := q
  rw [ho] at ho2
  cases ho2
  rw [hc] at hc2
  exact absurd (Value.type.inj hc2) (by decide)
theorem turn_enumT {P : Program} {w : World} {K : PySem.W.Frag} {elts : List Expr} {kk : Nat} {tpos : Pos} (a e it : Addr) :
    Turn P w K (.Tuple elts kk tpos) (IteT K a) [e, it] e (fun i h => (∃ old, IsEnum h e it ((i : Nat) : Int) old) ∧ h.IsTupleIter it a i ∧ e ≠ it) where
  mem := by simp
  obj := fun i h st b hb => by
    obtain ⟨⟨old, he⟩, ⟨o, ho, hc, hd⟩, _⟩ := st
    have e' : b = e ∨ b = it := by simpa using hb
    rcases e' with z | z
    · rw [z]; exact ⟨_, he, fun v q => nomatch q⟩
    · rw [z]; exact ⟨o, ho, fun v q => by rw [hd] at q; cases q⟩
  keep := fun i h h' st k => let ⟨⟨old, he⟩, hi, hne⟩ := st; ⟨⟨old, k e (by simp) _ he⟩, hi.at fun o q => k it (by simp) o q, hne⟩
  item := by
    intro X hP hw hK hc i pins s σ H E I hf st hg
    subst hP hw hK
    obtain ⟨⟨old, he⟩, hit, hne⟩ := st
    obtain ⟨xs, x, hq, hx⟩ := hg
    obtain ⟨its, rv, p, hz⟩ := I.tuple hq
    obtain ⟨u, hu, ru⟩ := rv.get hx
    have hel : e < s.heap.objs.size := Heap.lt_size he
    have hil : it < s.heap.objs.size := by obtain ⟨_, q, _⟩ := hit; exact Heap.lt_size q
    have hat : a ≠ it := tup_ne p hit
    have hae : e ≠ a := fun q => by
      subst q
      obtain ⟨o, ho, hc', _⟩ := p
      rw [show s.heap.get? e = _ from he] at ho
      cases ho
      exact absurd (Value.type.inj hc') (by decide)
    have hlt : i < its.toArray.size := by
      have := (List.getElem?_eq_some_iff.mp hu).1
      simpa using this
    refine wpAny_pyNext_enum_itemD (Draws.tuple (A := X.A.in1) (I.ok.hd hc) it a hat its.toArray) he ⟨hit, p⟩ hlt hne (by simp [hne, hae]) fun u' h' tk hP ho hit' hT hsz hk => ?_
    have eu : u' = u := by
      have h1 : its.toArray[i]? = some u := by simpa using hu
      exact Option.some.inj (hP.symm.trans h1)
    subst eu
    refine ⟨_, rfl, wpAny_letOwnedTupleGo_enum (s := { s with heap := h', toks := tk + 1 }) ho fun h'' he' sb => ?_⟩
    have hT2 : h''.get? s.heap.objs.size = some { cls := .type "tuple", data := .seq #[.int i tk, u'] } := (sb.2 _ (Nat.ne_of_gt hel)).trans hT
    have new : ObjOk X.prog X.w (upd H s.heap.objs.size (.tup [.int (i : Nat), x])) h'' s.heap.objs.size (.tup [.int (i : Nat), x]) :=
      ⟨by show 2 ≤ sizeLine; decide, [.int i tk, u'], .cons ⟨_, rfl⟩ (.cons ru .nil), ⟨_, hT2, rfl, _, rfl⟩⟩
    have I1 : Inv X pins σ (upd H s.heap.objs.size (.tup [.int (i : Nat), x])) { s with heap := h'', toks := tk + 1 } :=
      I.turnedNew (ch := [e, it]) (fun b ob hb q => (sb.2 b (fun z => hb (by simp [z]))).trans (hk b ob (fun z => hb (by simp [z])) (fun z => hb (by simp [z])) q)) hf (Nat.le_refl _) new
    refine ⟨.ref s.heap.objs.size, _, I1, rfl, ⟨_, x, rfl, I.hok.fresh (Nat.le_refl _), rfl, fun ys hy => by rw [I.tuple_inj hy hq]; exact hx⟩, ⟨⟨u', ?_⟩, hit'.1.at fun o q => (sb.2 it (Ne.symm hne)).trans q, hne⟩, fun b hb => ?_⟩
    · have e1 : ((i + 1 : Nat) : Int) = (i : Int) + 1 := by omega
      rw [e1]; exact he'
    · have hb' : b < s.heap.objs.size := by
        have e' : b = e ∨ b = it := by simpa using hb
        rcases e' with z | z
        · rw [z]; exact hel
        · rw [z]; exact hil
      rw [upd_ne (Nat.ne_of_lt hb')]
      exact (hf b hb).1
  done := by
    intro X hP hw hK hc i pins s σ H E I hf st hg
    subst hP hw hK
    obtain ⟨⟨old, he⟩, hit, hne⟩ := st
    obtain ⟨xs, hq, hx⟩ := hg
    obtain ⟨its, rv, p, hz⟩ := I.tuple hq
    obtain ⟨f0, f1, f2, f3, f4, f5⟩ := hf it (by simp)
    have hl := rv.length
    have hat : a ≠ it := tup_ne p hit
    have en : its.toArray.size = i := by simp; omega
    exact wpAny_pyNext_enum_endD (Draws.tuple (A := X.A.in1) (I.ok.hd hc) it a hat its.toArray) he ⟨by rw [en]; exact hit, p⟩ fun h' eb => ⟨rfl, I.turned (t' := s.toks) (fun b o hb q => eb b o hb q) f0 f1 f3 f4 f5⟩
  self := fun A i s Q E st h => let ⟨⟨_, he⟩, _⟩ := st; wpAny_pyIter_enum he h
def iEnumT (K : PySem.W.Frag) (ta : TA) : TI := fun σ H R => ta σ H fun vs H1 => ∃ a xs, vs = [.ref a] ∧ SqT K H1 a xs ∧ R (IteT K a) H1
theorem pi_enumT {X : Cx} {e : Expr} {ta : TA} {p pos tpos : Pos} {elts : List Expr} {kk : Nat} (hg : Gl X "enumerate") (hm : X.mg "enumerate" = none) (ha : PA X [e] ta) (hs : starEach [e] X.env = [(false, eval e X.env)] := by rfl) :
    PI X (.Tuple elts kk tpos) (.Call (.Name "enumerate" p) [e] [] pos) (iEnumT X.K ta) := by
  refine ⟨fun pins s σ H R I h => ?_⟩
  refine Call_ (ld_blt I hg hm boot_enumerate (PyProof.Rows.callWith_type1 (thn (ha.run pos pins s σ H _ I h) fun us s1 ⟨vs, H1, I1, r1, q1⟩ => ?_) hs rfl))
  obtain ⟨a, xs, ex, hq, q⟩ := q1
  subst ex
  cases r1 with
  | cons r rr =>
    cases rr
    cases r
    obtain ⟨its, rv, p', hz⟩ := I1.tuple hq
    refine k7_call_enumerate_tuple p' fun h' he hit hsz hk => wpAny_pyIter_enum he ?_
    have I2 : Inv X pins σ H1 { s1 with heap := h' } := I1.kept (t' := s1.toks) hk
    refine ⟨s1.heap.objs.size + 1, [s1.heap.objs.size + 1, s1.heap.objs.size], _, _, H1, rfl, I2, turn_enumT a (s1.heap.objs.size + 1) s1.heap.objs.size, ⟨⟨.none, he⟩, hit, Nat.succ_ne_self _⟩, fun b hb => ?_, q⟩
    have e' : b = s1.heap.objs.size + 1 ∨ b = s1.heap.objs.size := by simpa using hb
    have hle : s1.heap.objs.size ≤ b := by
      rcases e' with z | z
      · rw [z]; exact Nat.le_add_right _ _
      · rw [z]; exact Nat.le_refl _
    exact I1.fpOk hle (I1.hok.fresh hle)
theorem walk_enumT {K : PySem.W.Frag} {a : Addr} {xs : List V} : Walk (IteT K a) xs.length (fun H => SqT K H a xs) (YPair (fun i => some (.int (i : Nat))) (fun i => xs[i]?)) :=
  ⟨fun i H hi hq => ⟨xs, _, hq, List.getElem?_eq_getElem hi⟩, fun H hq => ⟨xs, hq, rfl⟩, fun i H v H' hi hq hy => by
    obtain ⟨T, x, rfl, nT, rfl, f⟩ := hy
    exact ⟨T, _, x, rfl, nT, rfl, rfl, f _ hq⟩⟩
end K7E
end
/-! ## EVL -/
section
open PySem PySem.Spec PyProof.Rows L2
namespace K7E
/-- a comprehension of two «for»: the outer one over a list -/
theorem out_list {K : PySem.W.Frag} {a : Addr} {xs : List V} {g : TG} {tt : TT} {inner : (Hp → Prop) → L2.St → Hp → Prop} {vs : List Nat} {τ : L2.St} {H1 : Hp} {D : Addr} {Qd : Hp → Prop} (Pv : Nat → Hp → Prop) (h0 : Pv 0 (upd H1 D (.lst []))) (hl : ∀ i H, i ≤ xs.length → Pv i H → SqL K H a xs)
    (hs : ∀ i x H, xs[i]? = some x → Pv i H → g x (wipe τ vs) H fun t2 H2 => wipe t2 vs = wipe τ vs ∧ tt t2 H2 fun b H3 => if b = true then inner (Pv (i + 1)) t2 H3 else Pv (i + 1) H3) (hd : ∀ H, Pv xs.length H → Qd H) :
    ∃ W : Nat → Nat → Hp → Prop, (∃ m, W 0 m (upd H1 D (.lst []))) ∧ ∀ i m H, W i m H → ((Itl K a).stop i H ∧ Qd H) ∨ ((Itl K a).go i H ∧ ∃ Nx : Hp → Prop, (∀ H', Nx H' → ∃ m', m' < m ∧ W (i + 1) m' H') ∧
      ∀ x H', (Itl K a).yld i H x H' → g x (wipe τ vs) H' fun t2 H2 => wipe t2 vs = wipe τ vs ∧ tt t2 H2 fun b H3 => if b = true then inner Nx t2 H3 else Nx H3) := by
  refine ⟨fun i m H => m = xs.length - i ∧ i ≤ xs.length ∧ Pv i H, ⟨xs.length, by simp, Nat.zero_le _, h0⟩, ?_⟩
  rintro i m H ⟨rfl, hi, p⟩
  have q := hl i H hi p
  by_cases hlt : i < xs.length
  · refine .inr ⟨⟨xs, xs[i], q, by simp [hlt]⟩, Pv (i + 1), fun H' p' => ⟨xs.length - (i + 1), by omega, rfl, hlt, p'⟩, fun x H' y => ?_⟩
    obtain ⟨e, y⟩ := y
    subst e
    exact hs i x _ (y xs q) p
  · have e : i = xs.length := by omega
    subst e
    exact .inl ⟨⟨xs, q, Nat.le_refl _⟩, hd H p⟩
/-- one of two readings, by a name -/
def tEi (t1 t2 : TE) : TE := fun σ H Q => t1 σ H Q ∨ t2 σ H Q
theorem pe_ei {X : Cx} {e : Expr} {t1 t2 : TE} (a : PE X e t1) (b : PE X e t2) : PE X e (tEi t1 t2) := ⟨fun pins s σ H Q I h => h.elim (a.run pins s σ H Q I) (b.run pins s σ H Q I)⟩
end K7E
end
/-! ## P15 -/
section
open PySem PySem.Spec PyProof.Rows L2
namespace K7
abbrev N__are_hands : List Str := ["land", "thing", "hand"]
abbrev s__are_hands : Stmt := topS 28
theorem sc__are_hands : FnScope ["land", "thing", "hand"] ["land", "thing"] (defScope s__are_hands) := ⟨rfl, rfl, rfl, by decide +kernel, rfl, by decide +kernel, by decide +kernel⟩
abbrev N_is_row : List Str := ["land", "a", "thing", "word"]
abbrev s_is_row : Stmt := topS 29
theorem sc_is_row : FnScope ["land", "a", "thing", "word"] ["land", "a", "thing"] (defScope s_is_row) := ⟨rfl, rfl, rfl, by decide +kernel, rfl, by decide +kernel, by decide +kernel⟩
/-! ### words of standings -/
def wd : Nat → Str
  | 0 => "none"
  | 1 => "awake"
  | 2 => "needed"
  | _ => "asleep"
def wds (row : List Nat) : List V := row.map fun k => .str (wd k)
def stds : List V := [.str "none", .str "awake", .str "needed", .str "asleep"]
theorem wds_snoc (l : List Nat) (k : Nat) : wds (l ++ [k]) = wds l ++ [.str (wd k)] := by
  unfold wds
  rw [List.map_append]
  rfl
theorem wd_in (k : Nat) : inV (.str (wd k)) stds = true := by
  match k with
  | 0 => decide +kernel
  | 1 => decide +kernel
  | 2 => decide +kernel
  | k + 3 =>
    show inV (.str "asleep") stds = true
    decide +kernel
/-- what the top says of states -/
structure T5s (K : PySem.W.Frag) (mg : Str → Option Value) (aST aRI : Addr) (tH : Tok) : Prop where
  gST : mg "STANDINGS" = some (.ref aST)
  gRI : mg "RIGHTS" = some (.ref aRI)
  gH : mg "MOST_HAND" = some (.int (10 ^ 30) tH)
  sST : ∀ H, SqT K H aST stds
  sRI : ∀ H, SqT K H aRI [.str "awake", .str "needed"]
section
variable {P : Program} {w : World} {K : PySem.W.Frag} {mg : Str → Option Value} {base : Heap} {a : AdL} {aST aRI : Addr} {tH : Tok}
def spAreH (C : Addr) : Sp := fun vs H Q _ => ∃ (l t : Addr) (n : Nat) (hs : List Nat), vs = [.ref l, .ref t] ∧ LandC C H l n ∧ n ≤ 5 ∧ SqOf H t (ints_ hs) ∧ hs.length = n ∧ (∀ x ∈ hs, x ≤ 10 ^ 30) ∧ ∀ H', Same H H' → Q (.bl true) H'
theorem ok_areh (T : Tl K mg a) (T5 : T5s K mg aST aRI tH) {f fS fW : Addr} {fd fdS fdW : FuncData} (F : Fun K "_are_hands" "_are_hands" s__are_hands f fd)
    (Gsq : FnOk P w K mg base CX0 1 fS fdS ["thing"] (spSeq K)) (gsq : mg "is_sequence" = some (.ref fS)) (ksq : PySem.W.keepIn K (.ref fS) = true) (bsq : Binds K fdS ["thing"] [])
    (Giw : FnOk P w K mg base CX0 1 fW fdW ["thing", "low", "high"] spWhole) (giw : mg "is_whole" = some (.ref fW)) (kiw : PySem.W.keepIn K (.ref fW) = true) (biw : Binds K fdW ["thing", "low", "high"] [])
    (m_len : mg "len" = none) (m_all : mg "all" = none) : FnOk P w K mg base CX0 2 f fd ["land", "thing"] (spAreH a.C) := by
  refine F.ok sc__are_hands (fun vs H Q E h => ?_) (fun cdv A outer s H vs Q E hr h => ?_)
  · obtain ⟨l, t, n, hs, rfl, _⟩ := h
    rfl
  · obtain ⟨l, t, n, hs, rfl, ⟨dx, fs, hp, hlk⟩, n5, ht, hl, hm, q⟩ := h
    refine ⟨_, (pss_cons (ps_if (pw_or (pt_not (pt_val (pe_call Gsq (hr.mono (by decide)) (by rfl) gsq ksq bsq .nil pass0 (pa_cons (pv 1) pa_nil)))) (pw_or1 (pt_cmpR op_ne (pe_callB call_len_seq (by rfl) m_len boot_len (pa_cons (pv 1) pa_nil)) (pe_fld (pv 0) rfl) (nomark _)))).pt
  (pss_one (ps_ret pe_bl))
  pss_nil)
 (pss_one (ps_ret (pe_callB (cr_all rfl) (by rfl) m_all boot_all (pa_cons (pe_lc (own := [("hand", 2)]) (g := gName 2) (tt := tYes) rfl sc__are_hands.nd (K7E.pi_either (pi_tup (pv 1)) (pi_list (pv 1))) (blkOk_by (own := [("hand", 2)]) (N := N__are_hands) (sc := defScope s__are_hands) (by decide +kernel)) (fun _ _ _ _ _ => (pg_name (i := 2) sc__are_hands.nd rfl (by first | exact Or.inl rfl | exact Or.inr rfl))) (fun _ _ _ _ _ => pts_nil) (fun _ _ _ _ _ => (pe_call Giw (hr.mono (by decide)) (by rfl) giw kiw biw .nil pass0 (pa_cons (pv 2) (pa_cons pe_int (pa_cons (pe_glob (v := .int _) rfl T5.gH ⟨_, rfl⟩) pa_nil)))))) pa_nil))))), ?_⟩
    obtain ⟨ty, tyx, kk⟩ := ht.ty (K := K)
    have il : (ints_ hs).length = n := by unfold ints_; rw [List.length_map, hl]
    refine ⟨_, rfl, _, ty, true, rfl, tyx, kk, fun H1 e1 => ⟨_, rfl, ?_⟩⟩
    refine iteF ⟨_, rfl, t, _, rfl, (ht.same e1).sq, _, rfl, l, a.C, dx, fs, _, rfl, e1 _ _ hp, T.cl, T.nA _ (by decide), hlk, rfl, _, rfl, ?_⟩
    rw [il, decide_eq_true rfl]
    refine iteFo rfl ?_
    have ht1 := ht.same e1
    rcases ht1 with z | z
    · refine .inl ⟨_, rfl, t, rfl, ⟨_, .inl (.inl z)⟩, fun D hD => lc_tup (xs := ints_ hs) (fun j H2 => Same H1 H2 ∧ ∃ bs : List Bool, H2 D = some (.lst (bs.map V.bl)) ∧ bs.all id = true ∧ bs.length = j) ⟨al hD, [], upd_same, rfl, rfl⟩ (fun j H2 _ pv => .inl (.inl (pv.1 _ _ z))) (fun j x H2 hx pv => ?_) (fun H2 pv => ?_)⟩
      · obtain ⟨e2, bs, hD2, hb, lb⟩ := pv
        have hjx := (List.getElem?_eq_some_iff.mp hx).1
        rw [il] at hjx
        unfold ints_ at hx
        rw [List.getElem?_map] at hx
        obtain ⟨y, hy, rfl⟩ := Option.map_eq_some_iff.mp hx
        have hy2 := hm y (List.mem_of_getElem? hy)
        refine ⟨rfl, _, rfl, _, 0, 10 ^ 30, rfl, .flat (.int _), ?_⟩
        rw [wholeV_int, decide_eq_true (by omega), decide_eq_true (by omega)]
        refine ⟨_, hD2, by rw [List.length_map]; exact small1000 (by omega), fun b o hb => ?_, bs ++ [true], ?_, ?_, by rw [List.length_append, lb]; rfl⟩
        · rw [upd_ne (ne_of_none hb hD)]
          exact e2 _ _ hb
        · rw [upd_same, List.map_append]
          rfl
        · rw [List.all_append, hb]
          rfl
      · obtain ⟨e2, bs, hD2, hb, lb⟩ := pv
        refine ⟨D, bs, rfl, .inl (.inl hD2), ?_⟩
        rw [hb]
        exact q _ (e1.trans e2)
    · refine .inr ⟨_, rfl, t, rfl, ⟨_, .inl (.inl z)⟩, fun D hD => lc_list (xs := ints_ hs) (fun j H2 => Same H1 H2 ∧ ∃ bs : List Bool, H2 D = some (.lst (bs.map V.bl)) ∧ bs.all id = true ∧ bs.length = j) ⟨al hD, [], upd_same, rfl, rfl⟩ (fun j H2 _ pv => .inl (.inl (pv.1 _ _ z))) (fun j x H2 hx pv => ?_) (fun H2 pv => ?_)⟩
      · obtain ⟨e2, bs, hD2, hb, lb⟩ := pv
        have hjx := (List.getElem?_eq_some_iff.mp hx).1
        rw [il] at hjx
        unfold ints_ at hx
        rw [List.getElem?_map] at hx
        obtain ⟨y, hy, rfl⟩ := Option.map_eq_some_iff.mp hx
        have hy2 := hm y (List.mem_of_getElem? hy)
        refine ⟨rfl, _, rfl, _, 0, 10 ^ 30, rfl, .flat (.int _), ?_⟩
        rw [wholeV_int, decide_eq_true (by omega), decide_eq_true (by omega)]
        refine ⟨_, hD2, by rw [List.length_map]; exact small1000 (by omega), fun b o hb => ?_, bs ++ [true], ?_, ?_, by rw [List.length_append, lb]; rfl⟩
        · rw [upd_ne (ne_of_none hb hD)]
          exact e2 _ _ hb
        · rw [upd_same, List.map_append]
          rfl
        · rw [List.all_append, hb]
          rfl
      · obtain ⟨e2, bs, hD2, hb, lb⟩ := pv
        refine ⟨D, bs, rfl, .inl (.inl hD2), ?_⟩
        rw [hb]
        exact q _ (e1.trans e2)
theorem wds_flat (row : List Nat) : (wds row).all flatV = true := by
  refine List.all_eq_true.mpr fun x hx => ?_
  obtain ⟨k, _, rfl⟩ := List.mem_map.mp hx
  rfl
theorem str_eqv : PyData.eqv (.str (wd 0)) (.str "none") = true := by decide +kernel
theorem none_shaped : SeqAt.shaped (.str (wd 0)) = true := by decide +kernel
def spIsRow (C : Addr) : Sp := fun vs H Q _ => ∃ (l t : Addr) (n b : Nat) (row : List Nat), vs = [.ref l, .int (b : Nat), .ref t] ∧ LandC C H l n ∧ n ≤ 5 ∧ SqOf H t (wds row) ∧ row.length = n ∧ row[b]? = some 0 ∧ ∀ H', Same H H' → Q (.bl true) H'
theorem ok_isrow (T : Tl K mg a) (T5 : T5s K mg aST aRI tH) {f fS : Addr} {fd fdS : FuncData} (F : Fun K "is_row" "is_row" s_is_row f fd)
    (Gsq : FnOk P w K mg base CX0 1 fS fdS ["thing"] (spSeq K)) (gsq : mg "is_sequence" = some (.ref fS)) (ksq : PySem.W.keepIn K (.ref fS) = true) (bsq : Binds K fdS ["thing"] [])
    (m_len : mg "len" = none) (m_all : mg "all" = none) : FnOk P w K mg base CX0 2 f fd ["land", "a", "thing"] (spIsRow a.C) := by
  refine F.ok sc_is_row (fun vs H Q E h => ?_) (fun cdv A outer s H vs Q E hr h => ?_)
  · obtain ⟨l, t, n, b, row, rfl, _⟩ := h
    rfl
  · obtain ⟨l, t, n, b, row, rfl, ⟨dx, fs, hp, hlk⟩, n5, ht, hl, h0, q⟩ := h
    refine ⟨_, (pss_cons (ps_if (pw_or (pt_not (pt_val (pe_call Gsq (hr.mono (by decide)) (by rfl) gsq ksq bsq .nil pass0 (pa_cons (pv 2) pa_nil)))) (pw_or1 (pt_cmpR op_ne (pe_callB call_len_seq (by rfl) m_len boot_len (pa_cons (pv 2) pa_nil)) (pe_fld (pv 0) rfl) (nomark _)))).pt
  (pss_one (ps_ret pe_bl))
  pss_nil)
 (pss_one (ps_ret (pe_and (pe_callB (cr_all rfl) (by rfl) m_all boot_all (pa_cons (pe_lc (own := [("word", 3)]) (g := gName 3) (tt := tYes) rfl sc_is_row.nd (K7E.pi_either (pi_tup (pv 2)) (pi_list (pv 2))) (blkOk_by (own := [("word", 3)]) (N := N_is_row) (sc := defScope s_is_row) (by decide +kernel)) (fun _ _ _ _ _ => (pg_name (i := 3) sc_is_row.nd rfl (by first | exact Or.inl rfl | exact Or.inr rfl))) (fun _ _ _ _ _ => pts_nil) (fun _ _ _ _ _ => (pe_cmpR (show OpR _ _ (rIn K false) from op_in_seq) (pv 3) (pe_glob (v := .ref _) rfl T5.gST rfl) (by with_unfolding_all rfl)))) pa_nil)) (pe_one (pe_cmpR (op_eqD hr.units) (K7E.pe_ei (pe_ix ix_tup (pv 2) (pv 1) (fun _ _ => rfl)) (pe_ix ix_list (pv 2) (pv 1) (fun _ _ => rfl))) pe_str (nomark _))))))), ?_⟩
    obtain ⟨ty, tyx, kk⟩ := ht.ty (K := K)
    have il : (wds row).length = n := by unfold wds; rw [List.length_map, hl]
    refine ⟨_, rfl, _, ty, true, rfl, tyx, kk, fun H1 e1 => ⟨_, rfl, ?_⟩⟩
    refine iteF ⟨_, rfl, t, _, rfl, (ht.same e1).sq, _, rfl, l, a.C, dx, fs, _, rfl, e1 _ _ hp, T.cl, T.nA _ (by decide), hlk, rfl, _, rfl, ?_⟩
    rw [il, decide_eq_true rfl]
    refine iteFo rfl ?_
    have ht1 := ht.same e1
    have at0 : (wds row)[b]? = some (.str (wd 0)) := by
      unfold wds
      rw [List.getElem?_map, h0]
      rfl
    rcases ht1 with z | z
    · refine .inl ⟨_, rfl, t, rfl, ⟨_, .inl (.inl z)⟩, fun D hD => lc_tup (xs := wds row) (fun j H2 => Same H1 H2 ∧ ∃ bs : List Bool, H2 D = some (.lst (bs.map V.bl)) ∧ bs.all id = true ∧ bs.length = j) ⟨al hD, [], upd_same, rfl, rfl⟩ (fun j H2 _ pv => .inl (.inl (pv.1 _ _ z))) (fun j x H2 hx pv => ?_) (fun H2 pv => ?_)⟩
      · obtain ⟨e2, bs, hD2, hb, lb⟩ := pv
        have hjx := (List.getElem?_eq_some_iff.mp hx).1
        rw [il] at hjx
        unfold wds at hx
        rw [List.getElem?_map] at hx
        obtain ⟨y, hy, rfl⟩ := Option.map_eq_some_iff.mp hx
        refine ⟨rfl, _, rfl, aST, stds, rfl, .inr (T5.sST _), rfl, rfl, ?_⟩
        rw [wd_in]
        refine ⟨_, hD2, by rw [List.length_map]; exact small1000 (by omega), fun b o hb => ?_, bs ++ [true], ?_, ?_, by rw [List.length_append, lb]; rfl⟩
        · rw [upd_ne (ne_of_none hb hD)]
          exact e2 _ _ hb
        · rw [upd_same, List.map_append]
          rfl
        · rw [List.all_append, hb]
          rfl
      · obtain ⟨e2, bs, hD2, hb, lb⟩ := pv
        refine ⟨D, bs, rfl, .inl (.inl hD2), _, rfl, ?_⟩
        rw [hb]
        refine iteT ?_
        refine .inl ⟨_, rfl, _, rfl, t, _, _, _, rfl, rfl, .inl (.inl (e2 _ _ z)), atI_nat at0, ?_⟩
        refine ⟨.str (wd 0), .str "none", .str _, .str _, none_shaped, none_shaped, ?_⟩
        rw [str_eqv]
        exact q _ (e1.trans e2)
    · refine .inr ⟨_, rfl, t, rfl, ⟨_, .inl (.inl z)⟩, fun D hD => lc_list (xs := wds row) (fun j H2 => Same H1 H2 ∧ ∃ bs : List Bool, H2 D = some (.lst (bs.map V.bl)) ∧ bs.all id = true ∧ bs.length = j) ⟨al hD, [], upd_same, rfl, rfl⟩ (fun j H2 _ pv => .inl (.inl (pv.1 _ _ z))) (fun j x H2 hx pv => ?_) (fun H2 pv => ?_)⟩
      · obtain ⟨e2, bs, hD2, hb, lb⟩ := pv
        have hjx := (List.getElem?_eq_some_iff.mp hx).1
        rw [il] at hjx
        unfold wds at hx
        rw [List.getElem?_map] at hx
        obtain ⟨y, hy, rfl⟩ := Option.map_eq_some_iff.mp hx
        refine ⟨rfl, _, rfl, aST, stds, rfl, .inr (T5.sST _), rfl, rfl, ?_⟩
        rw [wd_in]
        refine ⟨_, hD2, by rw [List.length_map]; exact small1000 (by omega), fun b o hb => ?_, bs ++ [true], ?_, ?_, by rw [List.length_append, lb]; rfl⟩
        · rw [upd_ne (ne_of_none hb hD)]
          exact e2 _ _ hb
        · rw [upd_same, List.map_append]
          rfl
        · rw [List.all_append, hb]
          rfl
      · obtain ⟨e2, bs, hD2, hb, lb⟩ := pv
        refine ⟨D, bs, rfl, .inl (.inl hD2), _, rfl, ?_⟩
        rw [hb]
        refine iteT ?_
        refine .inr ⟨_, rfl, _, rfl, t, _, _, _, rfl, rfl, .inl (.inl (e2 _ _ z)), atI_nat at0, ?_⟩
        refine ⟨.str (wd 0), .str "none", .str _, .str _, none_shaped, none_shaped, ?_⟩
        rw [str_eqv]
        exact q _ (e1.trans e2)
end
end K7
end
/-! ## P16 -/
section
open PySem PySem.Spec PyProof.Rows L2
namespace K7
abbrev N__are_standings : List Str := ["land", "thing", "a", "row"]
abbrev s__are_standings : Stmt := topS 30
theorem sc__are_standings : FnScope ["land", "thing", "a", "row"] ["land", "thing"] (defScope s__are_standings) := ⟨rfl, rfl, rfl, by decide +kernel, rfl, by decide +kernel, by decide +kernel⟩
abbrev N__check_places : List Str := ["land", "hands", "standings", "apart", "a", "b", "together"]
abbrev s__check_places : Stmt := topS 31
theorem sc__check_places : FnScope ["land", "hands", "standings", "apart", "a", "b", "together"] ["land", "hands", "standings"] (defScope s__check_places) := ⟨rfl, rfl, rfl, by decide +kernel, rfl, by decide +kernel, by decide +kernel⟩
/-- rows of words, tuples or lists -/
inductive RAt (H : Hp) : List Addr → List (List Nat) → Prop
  | nil : RAt H [] []
  | cons {r : Addr} {row : List Nat} {rs : List Addr} {tab : List (List Nat)} : SqOf H r (wds row) → RAt H rs tab → RAt H (r :: rs) (row :: tab)
theorem RAt.same {H H' : Hp} {rs : List Addr} {tab : List (List Nat)} (h : RAt H rs tab) (e : Same H H') : RAt H' rs tab := by
  induction h with
  | nil => exact .nil
  | cons h _ ih => exact .cons (h.same e) ih
theorem RAt.len {H : Hp} {rs : List Addr} {tab : List (List Nat)} (h : RAt H rs tab) : rs.length = tab.length := by
  induction h with
  | nil => rfl
  | cons _ _ ih => rw [List.length_cons, List.length_cons, ih]
theorem RAt.get {H : Hp} {rs : List Addr} {tab : List (List Nat)} (h : RAt H rs tab) : ∀ {i : Nat} {r : Addr}, rs[i]? = some r → ∃ row, tab[i]? = some row ∧ SqOf H r (wds row) := by
  induction h with
  | nil => exact fun h => nomatch h
  | cons h _ ih =>
    intro i u hu
    cases i with
    | zero =>
      obtain rfl := Option.some.inj hu
      exact ⟨_, rfl, h⟩
    | succ i => exact ih (i := i) hu
def tabAt (tab : List (List Nat)) (a b : Nat) : Nat := (tab.getD a []).getD b 0
def hsAt (hs : List Nat) (a : Nat) : Nat := hs.getD a 0
/-- hands and standings that are lawful -/
structure StTab (n : Nat) (hs : List Nat) (tab : List (List Nat)) : Prop where
  hl : hs.length = n
  hm : ∀ x ∈ hs, x ≤ 10 ^ 30
  tl : tab.length = n
  rl : ∀ r ∈ tab, r.length = n
  diag : ∀ (i : Nat) (r : List Nat), tab[i]? = some r → r[i]? = some 0
  apart : ∀ a b, a < n → b < n → a ≠ b → hsAt hs a ≠ hsAt hs b → tabAt tab a b < 3
  same : ∀ a b, a < n → b < n → a ≠ b → hsAt hs a = hsAt hs b → tabAt tab a b = 0 ∨ 3 ≤ tabAt tab a b
section
variable {P : Program} {w : World} {K : PySem.W.Frag} {mg : Str → Option Value} {base : Heap} {a : AdL} {aST aRI : Addr} {tH : Tok}
def spAreS (C : Addr) : Sp := fun vs H Q _ => ∃ (l t : Addr) (n : Nat) (hs : List Nat) (rs : List Addr) (tab : List (List Nat)), vs = [.ref l, .ref t] ∧ LandC C H l n ∧ n ≤ 5 ∧ SqOf H t (rs.map V.ref) ∧ RAt H rs tab ∧ StTab n hs tab ∧ ∀ H', Same H H' → Q (.bl true) H'
theorem ok_ares (T : Tl K mg a) {f fS fI : Addr} {fd fdS fdI : FuncData} (F : Fun K "_are_standings" "_are_standings" s__are_standings f fd)
    (Gsq : FnOk P w K mg base CX0 1 fS fdS ["thing"] (spSeq K)) (gsq : mg "is_sequence" = some (.ref fS)) (ksq : PySem.W.keepIn K (.ref fS) = true) (bsq : Binds K fdS ["thing"] [])
    (Gir : FnOk P w K mg base CX0 2 fI fdI ["land", "a", "thing"] (spIsRow a.C)) (gir : mg "is_row" = some (.ref fI)) (kir : PySem.W.keepIn K (.ref fI) = true) (bir : Binds K fdI ["land", "a", "thing"] [])
    (m_len : mg "len" = none) (m_all : mg "all" = none) (m_enumerate : mg "enumerate" = none) : FnOk P w K mg base CX0 3 f fd ["land", "thing"] (spAreS a.C) := by
  refine F.ok sc__are_standings (fun vs H Q E h => ?_) (fun cdv A outer s H vs Q E hr h => ?_)
  · obtain ⟨l, t, n, hs, rs, tab, rfl, _⟩ := h
    rfl
  · obtain ⟨l, t, n, hs, rs, tab, rfl, ⟨dx, fs, hp, hlk⟩, n5, ht, hR, S, q⟩ := h
    refine ⟨_, (pss_cons (ps_if (pw_or (pt_not (pt_val (pe_call Gsq (hr.mono (by decide)) (by rfl) gsq ksq bsq .nil pass0 (pa_cons (pv 1) pa_nil)))) (pw_or1 (pt_cmpR op_ne (pe_callB call_len_seq (by rfl) m_len boot_len (pa_cons (pv 1) pa_nil)) (pe_fld (pv 0) rfl) (nomark _)))).pt
  (pss_one (ps_ret pe_bl))
  pss_nil)
 (pss_one (ps_ret (pe_callB (cr_all rfl) (by rfl) m_all boot_all (pa_cons (pe_lc (own := [("a", 2), ("row", 3)]) (g := gTup K 2 (gCons (gName 2) (gCons (gName 3) (gNil)))) (tt := tYes) rfl sc__are_standings.nd (K7E.pi_either (K7E.pi_enumT (by rfl) m_enumerate (pa_cons (pv 1) pa_nil)) (pi_enum (by rfl) m_enumerate (pa_cons (pv 1) pa_nil))) (blkOk_by (own := [("a", 2), ("row", 3)]) (N := N__are_standings) (sc := defScope s__are_standings) (by decide +kernel)) (fun _ _ _ _ _ => (pg_tup rfl (pgs_cons (pg_name (i := 2) sc__are_standings.nd rfl (by first | exact Or.inl rfl | exact Or.inr rfl)) (pgs_cons (pg_name (i := 3) sc__are_standings.nd rfl (by first | exact Or.inl rfl | exact Or.inr rfl)) pgs_nil)))) (fun _ _ _ _ _ => pts_nil) (fun _ _ _ _ _ => (pe_call Gir (hr.mono (by decide)) (by rfl) gir kir bir .nil pass0 (pa_cons (pv 0) (pa_cons (pv 2) (pa_cons (pv 3) pa_nil)))))) pa_nil))))), ?_⟩
    obtain ⟨ty, tyx, kk⟩ := ht.ty (K := K)
    have il : (rs.map V.ref).length = n := by rw [List.length_map, hR.len, S.tl]
    refine ⟨_, rfl, _, ty, true, rfl, tyx, kk, fun H1 e1 => ⟨_, rfl, ?_⟩⟩
    refine iteF ⟨_, rfl, t, _, rfl, (ht.same e1).sq, _, rfl, l, a.C, dx, fs, _, rfl, e1 _ _ hp, T.cl, T.nA _ (by decide), hlk, rfl, _, rfl, ?_⟩
    rw [il, decide_eq_true rfl]
    refine iteFo rfl ?_
    have ht1 := ht.same e1
    rcases ht1 with z | z
    · refine .inl ⟨_, rfl, t, _, rfl, .inl (.inl z), fun D hD => lc_it (K7E.walk_enumT (xs := rs.map V.ref)) (fun j H2 => Same H1 H2 ∧ ∃ bs : List Bool, H2 D = some (.lst (bs.map V.bl)) ∧ bs.all id = true ∧ bs.length = j) ⟨al hD, [], upd_same, rfl, rfl⟩ (fun j H2 _ pv => .inl (.inl (pv.1 _ _ z))) (fun j x H2 H3 hj pv hy => ?_) (fun H2 pv => ?_)⟩
      · obtain ⟨e2, bs, hD2, hb, lb⟩ := pv
        obtain ⟨T', x', y', rfl, nT, rfl, e3, e4⟩ := hy
        obtain rfl := Option.some.inj e3
        have e4 : (rs.map V.ref)[j]? = some y' := e4
        rw [List.getElem?_map] at e4
        obtain ⟨r, hr', rfl⟩ := Option.map_eq_some_iff.mp e4
        have sT := al (o := .tup [.int (j : Nat), .ref r]) nT
        have e13 := (e1.trans e2).trans sT
        obtain ⟨row, hrow, hat⟩ := hR.get hr'
        have jn : j < n := by rw [← il]; exact hj
        refine ⟨T', _, rfl, .inl (.inl upd_same), rfl, _, _, rfl, _, _, rfl, rfl, rfl, _, rfl, _, rfl, _, rfl, l, r, n, j, row, rfl, ⟨dx, fs, e13 _ _ hp, hlk⟩, n5, hat.same e13, S.rl row (List.mem_of_getElem? hrow), S.diag j row hrow, fun H4 e4' => ?_⟩
        have hD4 := e4' _ _ (sT _ _ hD2)
        refine ⟨_, hD4, by rw [List.length_map]; exact small1000 (by omega), fun b o hb => ?_, bs ++ [true], ?_, ?_, by rw [List.length_append, lb]; rfl⟩
        · rw [upd_ne (ne_of_none hb hD)]
          exact e4' _ _ (sT _ _ (e2 _ _ hb))
        · rw [upd_same, List.map_append]
          rfl
        · rw [List.all_append, hb]
          rfl
      · obtain ⟨e2, bs, hD2, hb, lb⟩ := pv
        refine ⟨D, bs, rfl, .inl (.inl hD2), ?_⟩
        rw [hb]
        exact q _ (e1.trans e2)
    · refine .inr ⟨_, rfl, t, _, rfl, .inl (.inl z), fun D hD => lc_it (walk_enum (xs := rs.map V.ref)) (fun j H2 => Same H1 H2 ∧ ∃ bs : List Bool, H2 D = some (.lst (bs.map V.bl)) ∧ bs.all id = true ∧ bs.length = j) ⟨al hD, [], upd_same, rfl, rfl⟩ (fun j H2 _ pv => .inl (.inl (pv.1 _ _ z))) (fun j x H2 H3 hj pv hy => ?_) (fun H2 pv => ?_)⟩
      · obtain ⟨e2, bs, hD2, hb, lb⟩ := pv
        obtain ⟨T', x', y', rfl, nT, rfl, e3, e4⟩ := hy
        obtain rfl := Option.some.inj e3
        have e4 : (rs.map V.ref)[j]? = some y' := e4
        rw [List.getElem?_map] at e4
        obtain ⟨r, hr', rfl⟩ := Option.map_eq_some_iff.mp e4
        have sT := al (o := .tup [.int (j : Nat), .ref r]) nT
        have e13 := (e1.trans e2).trans sT
        obtain ⟨row, hrow, hat⟩ := hR.get hr'
        have jn : j < n := by rw [← il]; exact hj
        refine ⟨T', _, rfl, .inl (.inl upd_same), rfl, _, _, rfl, _, _, rfl, rfl, rfl, _, rfl, _, rfl, _, rfl, l, r, n, j, row, rfl, ⟨dx, fs, e13 _ _ hp, hlk⟩, n5, hat.same e13, S.rl row (List.mem_of_getElem? hrow), S.diag j row hrow, fun H4 e4' => ?_⟩
        have hD4 := e4' _ _ (sT _ _ hD2)
        refine ⟨_, hD4, by rw [List.length_map]; exact small1000 (by omega), fun b o hb => ?_, bs ++ [true], ?_, ?_, by rw [List.length_append, lb]; rfl⟩
        · rw [upd_ne (ne_of_none hb hD)]
          exact e4' _ _ (sT _ _ (e2 _ _ hb))
        · rw [upd_same, List.map_append]
          rfl
        · rw [List.all_append, hb]
          rfl
      · obtain ⟨e2, bs, hD2, hb, lb⟩ := pv
        refine ⟨D, bs, rfl, .inl (.inl hD2), ?_⟩
        rw [hb]
        exact q _ (e1.trans e2)
/-- subscripts of what is a tuple or a list -/
theorem ei_gen {t : TE} {σ : L2.St} {H : Hp} {Q : VK} {r : Addr} {ys : List V} {j k : Nat} {v : V} (inner : ∀ Q' : VK, Q' (.ref r) H → t σ H Q') (h2 : tVar k σ H fun y H' => y = .int (j : Nat) ∧ H' = H) (h : SqOf H r ys) (hx : ys[j]? = some v) (q : Q v H) :
    K7E.tEi (tOp (rIxT K) t (tVar k)) (tOp (rIxL K) t (tVar k)) σ H Q := by
  obtain ⟨w, hw, rfl, _⟩ := h2
  rcases h with z | z
  · exact .inl (inner _ ⟨_, hw, r, ys, _, v, rfl, rfl, .inl (.inl z), atI_nat hx, q⟩)
  · exact .inr (inner _ ⟨_, hw, r, ys, _, v, rfl, rfl, .inl (.inl z), atI_nat hx, q⟩)
theorem wds_asleep {ks : List Nat} (h : ∀ k ∈ ks, k < 3) : inV (.str "asleep") (wds ks) = false := by
  refine Bool.eq_false_iff.mpr fun e => ?_
  obtain ⟨x, hx, he⟩ := List.any_eq_true.mp e
  obtain ⟨k, hk, rfl⟩ := List.mem_map.mp hx
  have := h k hk
  match k, this with
  | 0, _ => exact absurd he (by decide +kernel)
  | 1, _ => exact absurd he (by decide +kernel)
  | 2, _ => exact absurd he (by decide +kernel)
theorem wds_awake {ks : List Nat} (h : ∀ k ∈ ks, k = 0 ∨ 3 ≤ k) : inV (.str "awake") (wds ks) = false ∧ inV (.str "needed") (wds ks) = false := by
  refine ⟨Bool.eq_false_iff.mpr fun e => ?_, Bool.eq_false_iff.mpr fun e => ?_⟩
  all_goals
    obtain ⟨x, hx, he⟩ := List.any_eq_true.mp e
    obtain ⟨k, hk, rfl⟩ := List.mem_map.mp hx
    have z := h k hk
    match k with
    | 0 => exact absurd he (by decide +kernel)
    | 1 => omega
    | 2 => omega
    | k + 3 =>
      have he : eqV (.str "asleep") _ = true := he
      exact absurd he (by decide +kernel)
theorem allC_mem {n a b : Nat} (h : (a, b) ∈ KL.allC n) : a < n ∧ b < n ∧ a ≠ b := by
  obtain ⟨x, hx, h⟩ := List.mem_flatMap.mp h
  obtain ⟨y, hy, e⟩ := List.mem_map.mp h
  obtain ⟨h1, h2⟩ := List.mem_filter.mp hy
  injection e with e1 e2
  subst e1 e2
  exact ⟨List.mem_range.mp hx, List.mem_range.mp h1, of_decide_eq_true h2⟩
def spChP (C : Addr) : Sp := fun vs H Q _ => ∃ (l th tt : Addr) (n : Nat) (es : List (Nat × Nat)) (rd hs : List Nat) (rs : List Addr) (tab : List (List Nat)), vs = [.ref l, .ref th, .ref tt] ∧ LandO C H l n es rd ∧ SqOf H th (ints_ hs) ∧ SqOf H tt (rs.map V.ref) ∧ RAt H rs tab ∧ StTab n hs tab ∧ ∀ H', Same H H' → Q .non H'
theorem ok_chp (T : Tl K mg a) {f pr gp : Addr} {fd fdcp : FuncData} (F : Fun K "_check_places" "_check_places" s__check_places f fd)
    (pc : PropOf K a.C "couples" pr gp) (Gcp : FnOk P w K mg base CX0 1 gp fdcp ["self"] (spCouples a.C)) (bcp : Binds K fdcp ["self"] []) : FnOk P w K mg base CX0 4 f fd ["land", "hands", "standings"] (spChP a.C) := by
  refine F.ok sc__check_places (fun vs H Q E h => ?_) (fun cdv A outer s H vs Q E hr h => ?_)
  · obtain ⟨l, th, tt, n, es, rd, hs, rs, tab, rfl, _⟩ := h
    rfl
  · obtain ⟨l, th, tt, n, es, rd, hs, rs, tab, rfl, L, hth, htt, hR, S, q⟩ := h
    refine ⟨_, (pss_cons (ps_setLc (i := 3) (own := [("a", 4), ("b", 5)]) (g := gTup K 2 (gCons (gName 4) (gCons (gName 5) (gNil)))) rfl sc__check_places.nd rfl rfl (sw_true rfl rfl rfl (by decide +kernel)) (pi_tup (pe_prop (pv 0) T.cl pc Gcp (hr.mono (by decide)) bcp .nil pass0 rfl)) (blkOk_by (own := [("a", 4), ("b", 5)]) (N := N__check_places) (sc := defScope s__check_places) (by decide +kernel)) (fun _ _ _ _ _ => (pg_tup rfl (pgs_cons (pg_name (i := 4) sc__check_places.nd rfl (by first | exact Or.inl rfl | exact Or.inr rfl)) (pgs_cons (pg_name (i := 5) sc__check_places.nd rfl (by first | exact Or.inl rfl | exact Or.inr rfl)) pgs_nil)))) (fun _ _ _ _ _ => (pts_one (pt_cmpR op_ne (K7E.pe_ei (pe_ix (show IxR _ (rIxT K) from ix_tup) (pv 1) (pv 4) (fun _ _ => rfl)) (pe_ix (show IxR _ (rIxL K) from ix_list) (pv 1) (pv 4) (fun _ _ => rfl))) (K7E.pe_ei (pe_ix (show IxR _ (rIxT K) from ix_tup) (pv 1) (pv 5) (fun _ _ => rfl)) (pe_ix (show IxR _ (rIxL K) from ix_list) (pv 1) (pv 5) (fun _ _ => rfl))) (nomark _)))) (fun _ _ _ _ _ => (K7E.pe_ei (pe_ix (show IxR _ (rIxT K) from ix_tup) (K7E.pe_ei (pe_ix (show IxR _ (rIxT K) from ix_tup) (pv 2) (pv 4) (fun _ _ => rfl)) (pe_ix (show IxR _ (rIxL K) from ix_list) (pv 2) (pv 4) (fun _ _ => rfl))) (pv 5) (fun _ _ => rfl)) (pe_ix (show IxR _ (rIxL K) from ix_list) (K7E.pe_ei (pe_ix (show IxR _ (rIxT K) from ix_tup) (pv 2) (pv 4) (fun _ _ => rfl)) (pe_ix (show IxR _ (rIxL K) from ix_list) (pv 2) (pv 4) (fun _ _ => rfl))) (pv 5) (fun _ _ => rfl)))))
 (pss_cons (ps_if (pt_cmpR op_in_seq pe_str (pv 3) (by with_unfolding_all rfl))
  (pss_one ps_never)
  pss_nil)
 (pss_cons (ps_setLc (i := 6) (own := [("a", 4), ("b", 5)]) (g := gTup K 2 (gCons (gName 4) (gCons (gName 5) (gNil)))) rfl sc__check_places.nd rfl rfl (sw_true rfl rfl rfl (by decide +kernel)) (pi_tup (pe_prop (pv 0) T.cl pc Gcp (hr.mono (by decide)) bcp .nil pass0 rfl)) (blkOk_by (own := [("a", 4), ("b", 5)]) (N := N__check_places) (sc := defScope s__check_places) (by decide +kernel)) (fun _ _ _ _ _ => (pg_tup rfl (pgs_cons (pg_name (i := 4) sc__check_places.nd rfl (by first | exact Or.inl rfl | exact Or.inr rfl)) (pgs_cons (pg_name (i := 5) sc__check_places.nd rfl (by first | exact Or.inl rfl | exact Or.inr rfl)) pgs_nil)))) (fun _ _ _ _ _ => (pts_one (pt_cmpR op_eq (K7E.pe_ei (pe_ix (show IxR _ (rIxT K) from ix_tup) (pv 1) (pv 4) (fun _ _ => rfl)) (pe_ix (show IxR _ (rIxL K) from ix_list) (pv 1) (pv 4) (fun _ _ => rfl))) (K7E.pe_ei (pe_ix (show IxR _ (rIxT K) from ix_tup) (pv 1) (pv 5) (fun _ _ => rfl)) (pe_ix (show IxR _ (rIxL K) from ix_list) (pv 1) (pv 5) (fun _ _ => rfl))) (nomark _)))) (fun _ _ _ _ _ => (K7E.pe_ei (pe_ix (show IxR _ (rIxT K) from ix_tup) (K7E.pe_ei (pe_ix (show IxR _ (rIxT K) from ix_tup) (pv 2) (pv 4) (fun _ _ => rfl)) (pe_ix (show IxR _ (rIxL K) from ix_list) (pv 2) (pv 4) (fun _ _ => rfl))) (pv 5) (fun _ _ => rfl)) (pe_ix (show IxR _ (rIxL K) from ix_list) (K7E.pe_ei (pe_ix (show IxR _ (rIxT K) from ix_tup) (pv 2) (pv 4) (fun _ _ => rfl)) (pe_ix (show IxR _ (rIxL K) from ix_list) (pv 2) (pv 4) (fun _ _ => rfl))) (pv 5) (fun _ _ => rfl)))))
 (pss_one (ps_if (pw_or (pt_cmpR op_in_seq pe_str (pv 6) (by with_unfolding_all rfl)) (pw_or1 (pt_cmpR op_in_seq pe_str (pv 6) (by with_unfolding_all rfl)))).pt
  (pss_one ps_never)
  pss_nil))))), ?_⟩
    obtain ⟨dx, an, ar, ay, ac, tn, ty, tc, m1, _⟩ := L.at_
    have n5 := L.n5
    have hat : ∀ c, c < n → (ints_ hs)[c]? = some (.int (hsAt hs c : Nat)) := fun c h => by
      unfold ints_ hsAt
      rw [List.getElem?_map, List.getElem?_eq_getElem (by rw [S.hl]; exact h), List.getD_eq_getElem?_getD, List.getElem?_eq_getElem (by rw [S.hl]; exact h)]
      rfl
    have row : ∀ x, x < n → ∀ y, y < n → ∃ r, (rs.map V.ref)[x]? = some (.ref r) ∧ ∀ H', Same H H' → ∃ ys, SqOf H' r ys ∧ ys[y]? = some (.str (wd (tabAt tab x y))) := fun x hx y hy => by
      have lr : x < rs.length := by rw [hR.len, S.tl]; exact hx
      obtain ⟨r, hr⟩ : ∃ r, rs[x]? = some r := ⟨_, List.getElem?_eq_getElem lr⟩
      obtain ⟨rw', h1, h2⟩ := hR.get hr
      refine ⟨r, by rw [List.getElem?_map, hr]; rfl, fun H' e => ⟨_, h2.same e, ?_⟩⟩
      have hl := S.rl rw' (List.mem_of_getElem? h1)
      have eg : tab.getD x [] = rw' := by rw [List.getD_eq_getElem?_getD, h1]; rfl
      unfold wds tabAt
      rw [eg, List.getElem?_map, List.getD_eq_getElem?_getD, List.getElem?_eq_getElem (by rw [hl]; exact hy)]
      rfl
    refine ⟨_, rfl, l, dx, _, rfl, m1, l, n, es, rd, rfl, L, fun u tc hu tC => ?_⟩
    have tcl : tc.length ≤ 20 := by
      rw [tC.len]
      unfold pairs
      rw [List.length_map]
      exact (show ∀ n : Fin 6, (KL.allC n.val).length ≤ 20 by decide +kernel) ⟨n, by omega⟩
    have cpl : ∀ {i : Nat} {t' : Addr}, tc[i]? = some t' → ∃ e : Nat × Nat, H t' = some (.tup (ints_ [e.1, e.2])) ∧ e.1 < n ∧ e.2 < n ∧ e.1 ≠ e.2 := fun {i t'} ht' => by
      obtain ⟨rw', hrow, hat'⟩ := tC.get ht'
      unfold pairs at hrow
      rw [List.getElem?_map] at hrow
      obtain ⟨e, he, rfl⟩ := Option.map_eq_some_iff.mp hrow
      exact ⟨e, hat', allC_mem (List.mem_of_getElem? he)⟩
    refine ⟨u, rfl, ⟨_, .inl (.inl hu)⟩, fun D hD => lc_tup (xs := tc.map V.ref) (fun j H2 => Same H H2 ∧ ∃ ks : List Nat, H2 D = some (.lst (wds ks)) ∧ (∀ k ∈ ks, k < 3) ∧ ks.length ≤ j) ⟨al hD, [], upd_same, (fun k hk => nomatch hk), Nat.le_refl _⟩ (fun j H2 _ pv => .inl (.inl (pv.1 _ _ hu))) (fun j v H2 hv pv => ?_) (fun H2 pv => ?_)⟩
    · obtain ⟨e2, ks, hD2, hk3, lk⟩ := pv
      have hj := (List.getElem?_eq_some_iff.mp hv).1
      rw [List.length_map] at hj
      rw [List.getElem?_map] at hv
      obtain ⟨t', ht', rfl⟩ := Option.map_eq_some_iff.mp hv
      obtain ⟨e, hat', lt1, lt2, ne⟩ := cpl ht'
      have hat2 := e2 _ _ hat'
      obtain ⟨r, hr', hrow⟩ := row e.1 lt1 e.2 lt2
      refine ⟨t', _, rfl, .inl (.inl hat2), rfl, _, _, rfl, _, _, rfl, rfl, rfl, ?_⟩
      refine ei_gen (fun Q' q => ⟨_, rfl, q⟩) ⟨_, rfl, rfl, rfl⟩ (hth.same e2) (hat _ lt1) ?_
      refine ei_gen (fun Q' q => ⟨_, rfl, q⟩) ⟨_, rfl, rfl, rfl⟩ (hth.same e2) (hat _ lt2) ?_
      refine ⟨rfl, _, rfl, ?_⟩
      have dv : decide (V.int (hsAt hs e.1 : Nat) = V.int (hsAt hs e.2 : Nat)) = decide (hsAt hs e.1 = hsAt hs e.2) := decide_eq_decide.mpr ⟨fun h => by injection h with h; omega, fun h => by rw [h]⟩
      rw [dv]
      by_cases hc : hsAt hs e.1 = hsAt hs e.2
      · rw [decide_eq_true hc]
        exact iteFo rfl ⟨e2, ks, hD2, hk3, by omega⟩
      · rw [decide_eq_false hc]
        refine iteTo rfl ?_
        obtain ⟨ys, hys, hw⟩ := hrow H2 e2
        refine ei_gen (fun Q' q => ei_gen (fun Q' q => ⟨_, rfl, q⟩) ⟨_, rfl, rfl, rfl⟩ (htt.same e2) hr' q) ⟨_, rfl, rfl, rfl⟩ hys hw ?_
        refine ⟨_, hD2, by unfold wds; rw [List.length_map]; exact small1000 (by omega), fun b z hb => ?_, ks ++ [tabAt tab e.1 e.2], ?_, fun k hk => ?_, by rw [List.length_append, List.length_singleton]; omega⟩
        · rw [upd_ne (ne_of_none hb hD)]
          exact e2 _ _ hb
        · rw [upd_same, wds_snoc]
        · rcases List.mem_append.mp hk with hk | hk
          · exact hk3 k hk
          · rw [List.mem_singleton.mp hk]
            exact S.apart _ _ lt1 lt2 ne hc
    · obtain ⟨e2, ks, hD2, hk3, lk⟩ := pv
      refine ⟨_, rfl, D, wds ks, rfl, .inl (.inl (.inl hD2)), rfl, wds_flat ks, _, rfl, ?_⟩
      refine iteFo (wds_asleep hk3) ?_
      obtain ⟨dx2, _, _, _, _, _, _, _, m2, _⟩ := (L.same e2).at_
      refine ⟨_, rfl, l, dx2, _, rfl, m2, l, n, es, rd, rfl, L.same e2, fun u2 tc2 hu2 tC2 => ?_⟩
      have tcl2 : tc2.length ≤ 20 := by
        rw [tC2.len, ← tC.len]
        exact tcl
      have cpl2 : ∀ {i : Nat} {t' : Addr}, tc2[i]? = some t' → ∃ e : Nat × Nat, H2 t' = some (.tup (ints_ [e.1, e.2])) ∧ e.1 < n ∧ e.2 < n ∧ e.1 ≠ e.2 := fun {i t'} ht' => by
        obtain ⟨rw', hrow, hat'⟩ := tC2.get ht'
        unfold pairs at hrow
        rw [List.getElem?_map] at hrow
        obtain ⟨e, he, rfl⟩ := Option.map_eq_some_iff.mp hrow
        exact ⟨e, hat', allC_mem (List.mem_of_getElem? he)⟩
      refine ⟨u2, rfl, ⟨_, .inl (.inl hu2)⟩, fun D2 hDn => lc_tup (xs := tc2.map V.ref) (fun j H3 => Same H2 H3 ∧ ∃ ks : List Nat, H3 D2 = some (.lst (wds ks)) ∧ (∀ k ∈ ks, k = 0 ∨ 3 ≤ k) ∧ ks.length ≤ j) ⟨al hDn, [], upd_same, (fun k hk => nomatch hk), Nat.le_refl _⟩ (fun j H3 _ pv => .inl (.inl (pv.1 _ _ hu2))) (fun j v H3 hv pv => ?_) (fun H3 pv => ?_)⟩
      · obtain ⟨e3, ks2, hD3, hk0, lk2⟩ := pv
        have e23 := e2.trans e3
        have hj := (List.getElem?_eq_some_iff.mp hv).1
        rw [List.length_map] at hj
        rw [List.getElem?_map] at hv
        obtain ⟨t', ht', rfl⟩ := Option.map_eq_some_iff.mp hv
        obtain ⟨e, hat', lt1, lt2, ne⟩ := cpl2 ht'
        have hat2 := e3 _ _ hat'
        obtain ⟨r, hr', hrow⟩ := row e.1 lt1 e.2 lt2
        refine ⟨t', _, rfl, .inl (.inl hat2), rfl, _, _, rfl, _, _, rfl, rfl, rfl, ?_⟩
        refine ei_gen (fun Q' q => ⟨_, rfl, q⟩) ⟨_, rfl, rfl, rfl⟩ (hth.same e23) (hat _ lt1) ?_
        refine ei_gen (fun Q' q => ⟨_, rfl, q⟩) ⟨_, rfl, rfl, rfl⟩ (hth.same e23) (hat _ lt2) ?_
        refine ⟨rfl, _, rfl, ?_⟩
        have dv : decide (V.int (hsAt hs e.1 : Nat) = V.int (hsAt hs e.2 : Nat)) = decide (hsAt hs e.1 = hsAt hs e.2) := decide_eq_decide.mpr ⟨fun h => by injection h with h; omega, fun h => by rw [h]⟩
        rw [dv]
        by_cases hc : hsAt hs e.1 = hsAt hs e.2
        · rw [decide_eq_true hc]
          refine iteT ?_
          obtain ⟨ys, hys, hw⟩ := hrow H3 e23
          refine ei_gen (fun Q' q => ei_gen (fun Q' q => ⟨_, rfl, q⟩) ⟨_, rfl, rfl, rfl⟩ (htt.same e23) hr' q) ⟨_, rfl, rfl, rfl⟩ hys hw ?_
          refine ⟨_, hD3, by unfold wds; rw [List.length_map]; exact small1000 (by omega), fun b z hb => ?_, ks2 ++ [tabAt tab e.1 e.2], ?_, fun k hk => ?_, by rw [List.length_append, List.length_singleton]; omega⟩
          · rw [upd_ne (ne_of_none hb hDn)]
            exact e3 _ _ hb
          · rw [upd_same, wds_snoc]
          · rcases List.mem_append.mp hk with hk | hk
            · exact hk0 k hk
            · rw [List.mem_singleton.mp hk]
              exact S.same _ _ lt1 lt2 ne hc
        · rw [decide_eq_false hc]
          exact iteF ⟨e3, ks2, hD3, hk0, by omega⟩
      · obtain ⟨e3, ks2, hD3, hk0, lk2⟩ := pv
        obtain ⟨w1, w2⟩ := wds_awake hk0
        refine ⟨_, rfl, D2, wds ks2, rfl, .inl (.inl (.inl hD3)), rfl, wds_flat ks2, _, rfl, ?_⟩
        refine iteFo w1 ?_
        refine ⟨_, rfl, D2, wds ks2, rfl, .inl (.inl (.inl hD3)), rfl, wds_flat ks2, _, rfl, ?_⟩
        refine iteFo w2 ?_
        exact q _ (e2.trans e3)
end
end K7
end
/-! ## P17 -/
section
open PySem PySem.Spec PyProof.Rows L2
namespace K7
abbrev N_State___init__ : List Str := ["self", "land", "hands", "standings", "row"]
abbrev s_State___init__ : Stmt := inClass (topS 32) 0
theorem sc_State___init__ : FnScope ["self", "land", "hands", "standings", "row"] ["self", "land", "hands", "standings"] (defScope s_State___init__) := ⟨rfl, rfl, rfl, by decide +kernel, rfl, by decide +kernel, by decide +kernel⟩
/-! ### a state is made -/
def stFs (l th tt : Addr) : List (Str × V) := [("land", .ref l), ("hands", .ref th), ("standings", .ref tt)]
def sfields : List Str := ["land", "hands", "standings"]
/-- rows of words, tuples -/
inductive RTt (H : Hp) : List Addr → List (List Nat) → Prop
  | nil : RTt H [] []
  | cons {r : Addr} {row : List Nat} {rs : List Addr} {tab : List (List Nat)} : H r = some (.tup (wds row)) → RTt H rs tab → RTt H (r :: rs) (row :: tab)
theorem RTt.mono {H H' : Hp} {rs : List Addr} {tab : List (List Nat)} (h : RTt H rs tab) (i : ∀ b xs, H b = some (.tup xs) → H' b = some (.tup xs)) : RTt H' rs tab := by
  induction h with
  | nil => exact .nil
  | cons h _ ih => exact .cons (i _ _ h) ih
theorem RTt.same {H H' : Hp} {rs : List Addr} {tab : List (List Nat)} (h : RTt H rs tab) (e : Same H H') : RTt H' rs tab := h.mono fun b xs hb => e _ _ hb
theorem RTt.append {H : Hp} {us vs : List Addr} {xs ys : List (List Nat)} (h : RTt H us xs) (h' : RTt H vs ys) : RTt H (us ++ vs) (xs ++ ys) := by
  induction h with
  | nil => exact h'
  | cons h _ ih => exact .cons h ih
theorem RTt.len {H : Hp} {rs : List Addr} {tab : List (List Nat)} (h : RTt H rs tab) : rs.length = tab.length := by
  induction h with
  | nil => rfl
  | cons _ _ ih => rw [List.length_cons, List.length_cons, ih]
theorem RTt.get {H : Hp} {rs : List Addr} {tab : List (List Nat)} (h : RTt H rs tab) : ∀ {i : Nat} {r : Addr}, rs[i]? = some r → ∃ row, tab[i]? = some row ∧ H r = some (.tup (wds row)) := by
  induction h with
  | nil => exact fun h => nomatch h
  | cons h _ ih =>
    intro i u hu
    cases i with
    | zero =>
      obtain rfl := Option.some.inj hu
      exact ⟨_, rfl, h⟩
    | succ i => exact ih (i := i) hu
theorem LandO.ni {C S dx x l : Addr} {fs : List (Str × V)} {H : Hp} {n : Nat} {es : List (Nat × Nat)} {rd : List Nat} (h : LandO C H l n es rd) (hx : H x = some (.ins S dx fs)) (ne : l ≠ x) (o' : HO) : LandO C (upd H x o') l n es rd := by
  obtain ⟨dx', an, ar, ay, ac, tn, ty, tc, h1, h2, h3, h4, h5, h6, h7, h8⟩ := h.at_
  have no : ∀ (xs : List V) (C dx : Addr) fs, HO.tup xs ≠ .ins C dx fs := fun _ _ _ _ e => by cases e
  exact ⟨⟨dx', an, ar, ay, ac, tn, ty, tc, by rw [upd_ne ne]; exact h1, keepNI hx h2 (no _), h3.ni hx o', keepNI hx h4 (no _), keepNI hx h5 (no _), h6.ni hx o', keepNI hx h7 (no _), h8.ni hx o'⟩, h.n2, h.n5, h.ok, h.rlt, h.rnd, h.rso, h.r0, h.rn⟩
theorem RAt.ni {S dx x : Addr} {fs : List (Str × V)} {H : Hp} {rs : List Addr} {tab : List (List Nat)} (h : RAt H rs tab) (hx : H x = some (.ins S dx fs)) (o' : HO) : RAt (upd H x o') rs tab := by
  induction h with
  | nil => exact .nil
  | cons h _ ih => exact .cons (h.ni hx o') ih
structure StateO (C S : Addr) (H : Hp) (p l : Addr) (n : Nat) (es : List (Nat × Nat)) (rd hs : List Nat) (tab : List (List Nat)) : Prop where
  at_ : ∃ dx th tt rs, H p = some (.ins S dx (stFs l th tt)) ∧ H th = some (.tup (ints_ hs)) ∧ H tt = some (.tup (rs.map V.ref)) ∧ RTt H rs tab
  ld : LandO C H l n es rd
  st : StTab n hs tab
theorem StateO.same {C S : Addr} {H H' : Hp} {p l : Addr} {n : Nat} {es : List (Nat × Nat)} {rd hs : List Nat} {tab : List (List Nat)} (h : StateO C S H p l n es rd hs tab) (e : Same H H') : StateO C S H' p l n es rd hs tab := by
  obtain ⟨dx, th, tt, rs, h1, h2, h3, h4⟩ := h.at_
  exact ⟨⟨dx, th, tt, rs, e _ _ h1, e _ _ h2, e _ _ h3, h4.same e⟩, h.ld.same e, h.st⟩
section
variable {P : Program} {w : World} {K : PySem.W.Frag} {mg : Str → Option Value} {base : Heap} {a : AdL} {aST aRI S fE : Addr} {tH : Tok}
def spStI (a : AdL) (S : Addr) : Sp := fun vs H Q _ => ∃ (x dx l th tt : Addr) (n : Nat) (es : List (Nat × Nat)) (rd hs : List Nat) (rs : List Addr) (tab : List (List Nat)), vs = [.ref x, .ref l, .ref th, .ref tt] ∧ H x = some (.ins S dx []) ∧ LandO a.C H l n es rd ∧ l ≠ x ∧ SqOf H th (ints_ hs) ∧ SqOf H tt (rs.map V.ref) ∧ RAt H rs tab ∧ StTab n hs tab ∧
  ∀ H', But x H H' → StateO a.C S H' x l n es rd hs tab → Q .non H'
theorem ok_sti (T : Tl K mg a) (T2 : Tk K a.C fE) (clsS : Cls K S) (nS : ∀ f ∈ sfields, NoAttr K S f) {f fA fB fC : Addr} {fd fdA fdB fdC : FuncData} (F : Fun K "__init__" "State.__init__" s_State___init__ f fd)
    (Gah : FnOk P w K mg base CX0 2 fA fdA ["land", "thing"] (spAreH a.C)) (gah : mg "_are_hands" = some (.ref fA)) (kah : PySem.W.keepIn K (.ref fA) = true) (bah : Binds K fdA ["land", "thing"] [])
    (Gas_ : FnOk P w K mg base CX0 3 fB fdB ["land", "thing"] (spAreS a.C)) (gas_ : mg "_are_standings" = some (.ref fB)) (kas_ : PySem.W.keepIn K (.ref fB) = true) (bas_ : Binds K fdB ["land", "thing"] [])
    (Gcp : FnOk P w K mg base CX0 4 fC fdC ["land", "hands", "standings"] (spChP a.C)) (gcp : mg "_check_places" = some (.ref fC)) (kcp : PySem.W.keepIn K (.ref fC) = true) (bcp : Binds K fdC ["land", "hands", "standings"] [])
    (m_isinstance : mg "isinstance" = none) (m_tuple : mg "tuple" = none) : FnOk P w K mg base CX0 5 f fd ["self", "land", "hands", "standings"] (spStI a S) := by
  refine F.ok sc_State___init__ (fun vs H Q E h => ?_) (fun cdv A outer s H vs Q E hr h => ?_)
  · obtain ⟨x, dx, l, th, tt, n, es, rd, hs, rs, tab, rfl, _⟩ := h
    rfl
  · obtain ⟨x, dx, l, th, tt, n, es, rd, hs, rs, tab, rfl, hx, L, nlx, hth, htt, hR, Sx, q⟩ := h
    refine ⟨_, (pss_cons (ps_if (pt_not (pt_val (pe_callB call_isi (by rfl) m_isinstance boot_isinstance (pa_cons (pv 1) (pa_cons (pe_glob (v := .ref _) rfl T.gC rfl) pa_nil)))))
  (pss_one ps_never)
  pss_nil)
 (pss_cons (ps_if (pt_not (pt_val (pe_call Gah (hr.mono (by decide)) (by rfl) gah kah bah .nil pass0 (pa_cons (pv 1) (pa_cons (pv 2) pa_nil)))))
  (pss_one ps_never)
  pss_nil)
 (pss_cons (ps_if (pt_not (pt_val (pe_call Gas_ (hr.mono (by decide)) (by rfl) gas_ kas_ bas_ .nil pass0 (pa_cons (pv 1) (pa_cons (pv 3) pa_nil)))))
  (pss_one ps_never)
  pss_nil)
 (pss_cons (ps_expr (pe_call Gcp (hr.mono (by decide)) (by rfl) gcp kcp bcp .nil pass0 (pa_cons (pv 1) (pa_cons (pv 2) (pa_cons (pv 3) pa_nil)))))
 (pss_cons (ps_fld (pv 0) (pv 1) rfl)
 (Evl.pss_cut (ps_fld (pv 0) (pe_callTy call_tuple_of (by rfl) m_tuple boot_tuple (pa_cons (pv 2) pa_nil)) rfl)
 (pss_one (ps_fld (pv 0) (pe_callTy call_tuple_of (by rfl) m_tuple boot_tuple (pa_cons (pe_lc (own := [("row", 4)]) (g := gName 4) (tt := tYes) rfl sc_State___init__.nd (K7E.pi_either (pi_tup (pv 3)) (pi_list (pv 3))) (blkOk_by (own := [("row", 4)]) (N := N_State___init__) (sc := defScope s_State___init__) (by decide +kernel)) (fun _ _ _ _ _ => (pg_name (i := 4) sc_State___init__.nd rfl (by first | exact Or.inl rfl | exact Or.inr rfl))) (fun _ _ _ _ _ => pts_nil) (fun _ _ _ _ _ => (pe_callTy (show CallR _ (.type "tuple") (rTup_ K) from call_tuple_of) (by rfl) m_tuple boot_tuple (pa_cons (pv 4) pa_nil)))) pa_nil)) rfl)))))))), ?_⟩
    obtain ⟨dl, an, ar, ay, ac, tn, ty, tc, m1, _⟩ := L.at_
    have n5 := L.n5
    refine ⟨_, rfl, _, _, _, _, _, rfl, .own _, .base (.ins m1 T.cl T2.ha T2.hn T2.ht T2.hm), T2.own, true, rfl, ?_⟩
    refine iteF ⟨_, rfl, _, rfl, l, th, n, hs, rfl, L.c, n5, hth, Sx.hl, Sx.hm, fun H1 e1 => ⟨_, rfl, ?_⟩⟩
    refine iteF ⟨_, rfl, _, rfl, l, tt, n, hs, rs, tab, rfl, (L.same e1).c, n5, htt.same e1, hR.same e1, Sx, fun H2 e2 => ⟨_, rfl, ?_⟩⟩
    have e12 := e1.trans e2
    refine iteF ⟨_, rfl, _, rfl, _, rfl, l, th, tt, n, es, rd, hs, rs, tab, rfl, L.same e12, hth.same e12, htt.same e12, hR.same e12, Sx, fun H3 e3 => ?_⟩
    have e13 := e12.trans e3
    have hx3 := e13 _ _ hx
    -- the land
    refine ⟨_, rfl, _, rfl, x, S, dx, _, rfl, hx3, clsS, nS _ (by decide), by show 0 < 1000; decide, ?_⟩
    have b4 : But x H (upd H3 x (.ins S dx (putF "land" (.ref l) []))) := fun b o nb hb => by
      rw [upd_ne nb]
      exact e13 _ _ hb
    have hx4 : upd H3 x (.ins S dx (putF "land" (.ref l) [])) x = some (.ins S dx [("land", .ref l)]) := upd_same
    have L4 := (L.same e13).ni hx3 nlx (.ins S dx (putF "land" (.ref l) []))
    have hth4 := (hth.same e13).ni hx3 (.ins S dx (putF "land" (.ref l) []))
    have htt4 := (htt.same e13).ni hx3 (.ins S dx (putF "land" (.ref l) []))
    have hR4 := (hR.same e13).ni hx3 (.ins S dx (putF "land" (.ref l) []))
    generalize upd H3 x (.ins S dx (putF "land" (.ref l) [])) = H4 at b4 hx4 L4 hth4 htt4 hR4 ⊢
    -- the hands
    refine ⟨fun σ' H' => ∃ th', σ' = [some (.ref x), some (.ref l), some (.ref th), some (.ref tt), none] ∧ But x H H' ∧ H' x = some (.ins S dx [("land", .ref l), ("hands", .ref th')]) ∧ LandO a.C H' l n es rd ∧ H' th' = some (.tup (ints_ hs)) ∧ SqOf H' tt (rs.map V.ref) ∧ RAt H' rs tab, ?_, fun σ' H' hM => ?_⟩
    · have fin : ∀ H5 th', Same H4 H5 → H5 th' = some (.tup (ints_ hs)) → ∃ th'_1, [some (V.ref x), some (V.ref l), some (V.ref th), some (V.ref tt), none] = [some (V.ref x), some (V.ref l), some (V.ref th), some (V.ref tt), none] ∧ But x H (upd H5 x (.ins S dx (putF "hands" (.ref th') [("land", .ref l)]))) ∧ upd H5 x (.ins S dx (putF "hands" (.ref th') [("land", .ref l)])) x = some (.ins S dx [("land", .ref l), ("hands", .ref th'_1)]) ∧ LandO a.C (upd H5 x (.ins S dx (putF "hands" (.ref th') [("land", .ref l)]))) l n es rd ∧ upd H5 x (.ins S dx (putF "hands" (.ref th') [("land", .ref l)])) th'_1 = some (.tup (ints_ hs)) ∧ SqOf (upd H5 x (.ins S dx (putF "hands" (.ref th') [("land", .ref l)]))) tt (rs.map V.ref) ∧ RAt (upd H5 x (.ins S dx (putF "hands" (.ref th') [("land", .ref l)]))) rs tab := fun H5 th' e5 h5 => by
        have hx5 := e5 _ _ hx4
        exact ⟨th', rfl, (b4.same e5).put _, upd_same, (L4.same e5).ni hx5 nlx _, keepNI hx5 h5 (fun _ _ _ e => by cases e), (htt4.same e5).ni hx5 _, (hR4.same e5).ni hx5 _⟩
      refine ⟨_, rfl, th, ints_ hs, rfl, ?_⟩
      rcases hth4 with z | z
      · refine .inr ⟨.inl (.inl z), ?_⟩
        refine ⟨_, rfl, x, S, dx, _, rfl, hx4, clsS, nS _ (by decide), by show 1 < 1000; decide, ?_⟩
        exact fin H4 th (Same.refl H4) z
      · refine .inl ⟨.inl (.inl z), fun u nu => ?_⟩
        have e5 := al (o := .tup (ints_ hs)) nu
        refine ⟨_, rfl, x, S, dx, _, rfl, e5 _ _ hx4, clsS, nS _ (by decide), by show 1 < 1000; decide, ?_⟩
        exact fin _ u e5 upd_same
    · obtain ⟨th', rfl, b5, hx5, L5, h5, htt5, hR5⟩ := hM
      have rl : rs.length = tab.length := hR5.len
      have t5 : tab.length ≤ 5 := by rw [Sx.tl]; exact n5
      rcases htt5 with z | z
      · refine .inl ⟨_, rfl, tt, rfl, ⟨_, .inl (.inl z)⟩, fun D hD => lc_tup (xs := rs.map V.ref) (fun j H6 => Same H' H6 ∧ ∃ us, H6 D = some (.lst (us.map V.ref)) ∧ RTt H6 us (tab.take j) ∧ us.length ≤ j) ⟨al hD, [], upd_same, .nil, Nat.le_refl _⟩ (fun j H6 _ pv => .inl (.inl (pv.1 _ _ z))) (fun j v H6 hv pv => ?_) (fun H6 pv => ?_)⟩
        · obtain ⟨e6, us, hD6, tU, lu⟩ := pv
          have hj := (List.getElem?_eq_some_iff.mp hv).1
          rw [List.length_map] at hj
          rw [List.getElem?_map] at hv
          obtain ⟨r, hr', rfl⟩ := Option.map_eq_some_iff.mp hv
          obtain ⟨row, hrow, hat⟩ := hR5.get hr'
          have tk : tab.take (j + 1) = tab.take j ++ [row] := by rw [List.take_add_one, hrow]; rfl
          have fin : ∀ H7 u, Same H6 H7 → H7 u = some (.tup (wds row)) → ∃ acc, H7 D = some (.lst acc) ∧ acc.length < sizeLine ∧ (Same H' (upd H7 D (.lst (acc ++ [.ref u]))) ∧ ∃ us, upd H7 D (.lst (acc ++ [.ref u])) D = some (.lst (us.map V.ref)) ∧ RTt (upd H7 D (.lst (acc ++ [.ref u]))) us (tab.take (j + 1)) ∧ us.length ≤ j + 1) := fun H7 u e7 hu => by
            have hD7 := e7 _ _ hD6
            have up : ∀ b xs, H7 b = some (.tup xs) → upd H7 D (.lst (us.map V.ref ++ [.ref u])) b = some (.tup xs) := fun b xs hb => by
              rw [upd_ne (fun z => by rw [z, hD7] at hb; cases hb)]
              exact hb
            refine ⟨_, hD7, by rw [List.length_map]; exact small1000 (by omega), fun b y hb => ?_, us ++ [u], by rw [upd_same, List.map_append]; rfl, ?_, by rw [List.length_append, List.length_singleton]; omega⟩
            · rw [upd_ne (ne_of_none hb hD)]
              exact e7 _ _ (e6 _ _ hb)
            · rw [tk]
              exact ((tU.same e7).mono up).append (.cons (up _ _ hu) .nil)
          refine ⟨rfl, _, rfl, r, wds row, rfl, ?_⟩
          rcases hat.same e6 with y | y
          · exact .inr ⟨.inl (.inl y), fin H6 r (Same.refl H6) y⟩
          · exact .inl ⟨.inl (.inl y), fun u nu => fin _ u (al nu) upd_same⟩
        · obtain ⟨e6, us, hD6, tU, lu⟩ := pv
          rw [List.length_map, rl, List.take_length] at tU
          refine ⟨D, us.map V.ref, rfl, .inl ⟨.inl (.inl hD6), fun tn' ntn => ?_⟩⟩
          have e7 := e6.trans (al (o := .tup (us.map V.ref)) ntn)
          have hx7 := e7 _ _ hx5
          refine ⟨_, rfl, x, S, dx, _, rfl, hx7, clsS, nS _ (by decide), by show 2 < 1000; decide, ?_⟩
          have no : ∀ (xs : List V) (C dx : Addr) fs, HO.tup xs ≠ .ins C dx fs := fun _ _ _ _ e => by cases e
          refine q _ ((b5.same e7).put _) ⟨⟨dx, th', tn', us, upd_same, keepNI hx7 (e7 _ _ h5) (no _), keepNI hx7 upd_same (no _), ?_⟩, (L5.same e7).ni hx7 nlx _, Sx⟩
          exact (tU.same (al ntn)).mono fun b xs hb => keepNI hx7 hb (no _)
      · refine .inr ⟨_, rfl, tt, rfl, ⟨_, .inl (.inl z)⟩, fun D hD => lc_list (xs := rs.map V.ref) (fun j H6 => Same H' H6 ∧ ∃ us, H6 D = some (.lst (us.map V.ref)) ∧ RTt H6 us (tab.take j) ∧ us.length ≤ j) ⟨al hD, [], upd_same, .nil, Nat.le_refl _⟩ (fun j H6 _ pv => .inl (.inl (pv.1 _ _ z))) (fun j v H6 hv pv => ?_) (fun H6 pv => ?_)⟩
        · obtain ⟨e6, us, hD6, tU, lu⟩ := pv
          have hj := (List.getElem?_eq_some_iff.mp hv).1
          rw [List.length_map] at hj
          rw [List.getElem?_map] at hv
          obtain ⟨r, hr', rfl⟩ := Option.map_eq_some_iff.mp hv
          obtain ⟨row, hrow, hat⟩ := hR5.get hr'
          have tk : tab.take (j + 1) = tab.take j ++ [row] := by rw [List.take_add_one, hrow]; rfl
          have fin : ∀ H7 u, Same H6 H7 → H7 u = some (.tup (wds row)) → ∃ acc, H7 D = some (.lst acc) ∧ acc.length < sizeLine ∧ (Same H' (upd H7 D (.lst (acc ++ [.ref u]))) ∧ ∃ us, upd H7 D (.lst (acc ++ [.ref u])) D = some (.lst (us.map V.ref)) ∧ RTt (upd H7 D (.lst (acc ++ [.ref u]))) us (tab.take (j + 1)) ∧ us.length ≤ j + 1) := fun H7 u e7 hu => by
            have hD7 := e7 _ _ hD6
            have up : ∀ b xs, H7 b = some (.tup xs) → upd H7 D (.lst (us.map V.ref ++ [.ref u])) b = some (.tup xs) := fun b xs hb => by
              rw [upd_ne (fun z => by rw [z, hD7] at hb; cases hb)]
              exact hb
            refine ⟨_, hD7, by rw [List.length_map]; exact small1000 (by omega), fun b y hb => ?_, us ++ [u], by rw [upd_same, List.map_append]; rfl, ?_, by rw [List.length_append, List.length_singleton]; omega⟩
            · rw [upd_ne (ne_of_none hb hD)]
              exact e7 _ _ (e6 _ _ hb)
            · rw [tk]
              exact ((tU.same e7).mono up).append (.cons (up _ _ hu) .nil)
          refine ⟨rfl, _, rfl, r, wds row, rfl, ?_⟩
          rcases hat.same e6 with y | y
          · exact .inr ⟨.inl (.inl y), fin H6 r (Same.refl H6) y⟩
          · exact .inl ⟨.inl (.inl y), fun u nu => fin _ u (al nu) upd_same⟩
        · obtain ⟨e6, us, hD6, tU, lu⟩ := pv
          rw [List.length_map, rl, List.take_length] at tU
          refine ⟨D, us.map V.ref, rfl, .inl ⟨.inl (.inl hD6), fun tn' ntn => ?_⟩⟩
          have e7 := e6.trans (al (o := .tup (us.map V.ref)) ntn)
          have hx7 := e7 _ _ hx5
          refine ⟨_, rfl, x, S, dx, _, rfl, hx7, clsS, nS _ (by decide), by show 2 < 1000; decide, ?_⟩
          have no : ∀ (xs : List V) (C dx : Addr) fs, HO.tup xs ≠ .ins C dx fs := fun _ _ _ _ e => by cases e
          refine q _ ((b5.same e7).put _) ⟨⟨dx, th', tn', us, upd_same, keepNI hx7 (e7 _ _ h5) (no _), keepNI hx7 upd_same (no _), ?_⟩, (L5.same e7).ni hx7 nlx _, Sx⟩
          exact (tU.same (al ntn)).mono fun b xs hb => keepNI hx7 hb (no _)
end
end K7
end
/-! ## P18 -/
section
open PySem PySem.Spec PyProof.Rows L2
namespace K7
theorem iteB {b : Bool} {p q : Prop} (h1 : b = true → p) (h2 : b = false → q) : if b = true then p else q := by
  cases b with
  | true => exact h1 rfl
  | false => exact h2 rfl
theorem CellOr.mono {B : Addr} {n : Nat} {H : Hp} {x : V} {E : XK} {q q' : Nat → Prop} (h : CellOr B n H x E q) (i : ∀ c, x = .int (c : Nat) → c < n → q c → q' c) : CellOr B n H x E q' := by
  rcases h with ⟨c, rfl, h1, h2⟩ | h
  · exact .inl ⟨c, rfl, h1, i c rfl h1 h2⟩
  · exact .inr h
end K7
end
/-! ## P19 -/
section
open PySem PySem.Spec PyProof.Rows L2
namespace K7
abbrev N_State_own_cells : List Str := ["self", "a", "b", "hand"]
abbrev s_State_own_cells : Stmt := inClass (topS 32) 8
theorem sc_State_own_cells : FnScope ["self", "a", "b", "hand"] ["self", "a"] (defScope s_State_own_cells) := ⟨rfl, rfl, rfl, by decide +kernel, rfl, by decide +kernel, by decide +kernel⟩
abbrev N_is_lot : List Str := ["land", "thing", "least"]
abbrev s_is_lot : Stmt := topS 16
theorem sc_is_lot : FnScope ["land", "thing", "least"] ["land", "thing", "least"] (defScope s_is_lot) := ⟨rfl, rfl, rfl, by decide +kernel, rfl, by decide +kernel, by decide +kernel⟩
abbrev N_is_couple : List Str := ["land", "thing"]
abbrev s_is_couple : Stmt := topS 17
theorem sc_is_couple : FnScope ["land", "thing"] ["land", "thing"] (defScope s_is_couple) := ⟨rfl, rfl, rfl, by decide +kernel, rfl, by decide +kernel, by decide +kernel⟩
section
variable {P : Program} {w : World} {K : PySem.W.Frag} {mg : Str → Option Value} {base : Heap} {a : AdL} {aST aRI S fE : Addr} {tH : Tok}
variable {fk : Addr} (Gck : FnR P w K mg base (L2.CX P w) 4 fk (spCheck a)) (gck : mg "check_cells" = some (.ref fk)) (kck : PySem.W.keepIn K (.ref fk) = true)
theorem StTab.hat {n : Nat} {hs : List Nat} {tab : List (List Nat)} (S : StTab n hs tab) {c : Nat} (h : c < n) : (ints_ hs)[c]? = some (.int (hsAt hs c : Nat)) := by
  unfold ints_ hsAt
  rw [List.getElem?_map, List.getElem?_eq_getElem (by rw [S.hl]; exact h), List.getD_eq_getElem?_getD, List.getElem?_eq_getElem (by rw [S.hl]; exact h)]
  rfl
theorem RTt.row {n : Nat} {hs : List Nat} {tab : List (List Nat)} {rs : List Addr} {H : Hp} (S : StTab n hs tab) (hR : RTt H rs tab) {x : Nat} (hx : x < n) : ∃ r row, (rs.map V.ref)[x]? = some (.ref r) ∧ H r = some (.tup (wds row)) ∧ row.length = n ∧ tab.getD x [] = row ∧ ∀ y, y < n → (wds row)[y]? = some (.str (wd (tabAt tab x y))) ∧ row.getD y 0 = tabAt tab x y := by
  have lr : x < rs.length := by rw [hR.len, S.tl]; exact hx
  obtain ⟨r, hr⟩ : ∃ r, rs[x]? = some r := ⟨_, List.getElem?_eq_getElem lr⟩
  obtain ⟨row, h1, h2⟩ := hR.get hr
  have hl := S.rl row (List.mem_of_getElem? h1)
  have eg : tab.getD x [] = row := by rw [List.getD_eq_getElem?_getD, h1]; rfl
  refine ⟨r, row, by rw [List.getElem?_map, hr]; rfl, h2, hl, eg, fun y hy => ⟨?_, by unfold tabAt; rw [eg]⟩⟩
  unfold wds tabAt
  rw [eg, List.getElem?_map, List.getD_eq_getElem?_getD, List.getElem?_eq_getElem (by rw [hl]; exact hy)]
  rfl
def spSOwnC (a : AdL) (S : Addr) : Sp := fun vs H Q E => ∃ (p l : Addr) (n : Nat) (es : List (Nat × Nat)) (rd hs : List Nat) (tab : List (List Nat)) (y : V), vs = [.ref p, y] ∧ StateO a.C S H p l n es rd hs tab ∧ CellOr a.B n H y E fun c => ∀ H' u, Same H H' → H u = none → H' u = some (.tup (ints_ ((List.range n).filter fun b => decide (hsAt hs b = hsAt hs c)))) → Q (.ref u) H'
include Gck gck kck in
theorem ok_sownc (clsS : Cls K S) (nS : ∀ f ∈ sfields, NoAttr K S f) {f : Addr} {fd : FuncData} (F : Fun K "own_cells" "State.own_cells" s_State_own_cells f fd) (m_tuple : mg "tuple" = none) (m_enumerate : mg "enumerate" = none) : FnOk P w K mg base (L2.CX P w) 5 f fd ["self", "a"] (spSOwnC a S) := by
  refine F.okX sc_State_own_cells (fun vs H Q E h => ?_) (fun cdv A outer s H vs Q E hr h => ?_)
  · obtain ⟨p, l, n, es, rd, hs, tab, y, rfl, _⟩ := h
    rfl
  · obtain ⟨p, l, n, es, rd, hs, tab, y, rfl, W, h⟩ := h
    refine ⟨_, (pss_cons (ps_expr (K7E.pe_callR0 Gck (hr.mono (by decide)) (by rfl) gck kck (passes_call (E := E) (takes_of rfl rfl rfl rfl) (fun _ _ _ _ h => h)) (pa_cons (pe_fld (pv 0) rfl) (pa_cons (pv 1) pa_nil))))
 (pss_one (ps_ret (pe_callTy call_tuple_of (by rfl) m_tuple boot_tuple (pa_cons (pe_lc (own := [("b", 2), ("hand", 3)]) (g := gTup K 2 (gCons (gName 2) (gCons (gName 3) (gNil)))) rfl sc_State_own_cells.nd (K7E.pi_enumT (by rfl) m_enumerate (pa_cons (pe_fld (pv 0) rfl) pa_nil)) (blkOk_by (own := [("b", 2), ("hand", 3)]) (N := N_State_own_cells) (sc := defScope s_State_own_cells) (by decide +kernel)) (fun _ _ _ _ _ => (pg_tup rfl (pgs_cons (pg_name (i := 2) sc_State_own_cells.nd rfl (by first | exact Or.inl rfl | exact Or.inr rfl)) (pgs_cons (pg_name (i := 3) sc_State_own_cells.nd rfl (by first | exact Or.inl rfl | exact Or.inr rfl)) pgs_nil)))) (fun _ _ _ _ _ => (pts_one (pt_cmpR op_eq (pv 3) (pe_ix (show IxR _ (rIxT K) from ix_tup) (show PE _ _ (tFld K (tVar 0) "hands") from pe_fld (pv 0) rfl) (pv 1) (fun _ _ => rfl)) (nomark _)))) (fun _ _ _ _ _ => (pv 2))) pa_nil))))), ?_⟩
    obtain ⟨dx, th, tt, rs, h1, h2, h3, h4⟩ := W.at_
    rcases h with ⟨c, rfl, hc, q⟩ | ⟨thg, wf, fl⟩
    · refine ⟨_, rfl, p, S, dx, _, _, rfl, h1, clsS, nS _ (by decide), rfl, _, rfl, l, n, [.int (c : Nat)], rfl, W.ld.c, by show 1 < 64; decide, .inl ⟨fun y hy => by rw [List.mem_singleton.mp hy]; exact .flat (.int _), one_in hc, fun H1 e1 => ?_⟩⟩
      have il : (ints_ hs).length = n := by unfold ints_; rw [List.length_map, W.st.hl]
      have n5 := W.ld.n5
      refine ⟨_, rfl, p, S, dx, _, _, rfl, e1 _ _ h1, clsS, nS _ (by decide), rfl, th, _, rfl, .inl (.inl (e1 _ _ h2)), fun D hD => lc_it (K7E.walk_enumT (xs := ints_ hs)) (fun j H2 => Same H1 H2 ∧ H2 D = some (.lst (ints_ ((List.range j).filter fun b => decide (hsAt hs b = hsAt hs c))))) ⟨al hD, upd_same⟩ (fun j H2 _ pv => .inl (.inl (pv.1 _ _ (e1 _ _ h2)))) (fun j x H2 H3 hj pv hy => ?_) (fun H2 pv => ?_)⟩
      · obtain ⟨e2, hD2⟩ := pv
        obtain ⟨T', x', y', rfl, nT, rfl, e3, e4⟩ := hy
        obtain rfl := Option.some.inj e3
        have jn : j < n := by rw [← il]; exact hj
        obtain rfl := Option.some.inj ((W.st.hat jn).symm.trans e4)
        have sT := al (o := .tup [.int (j : Nat), .int (hsAt hs j : Nat)]) nT
        have e23 := e2.trans sT
        have e13 := e1.trans e23
        have hD3 := sT _ _ hD2
        have dv : decide (V.int (hsAt hs j : Nat) = V.int (hsAt hs c : Nat)) = decide (hsAt hs j = hsAt hs c) := decide_eq_decide.mpr ⟨fun h => by injection h with h; omega, fun h => by rw [h]⟩
        refine ⟨T', _, rfl, .inl (.inl upd_same), rfl, _, _, rfl, _, _, rfl, rfl, rfl, ?_⟩
        refine ⟨_, rfl, _, rfl, p, S, dx, _, _, rfl, e13 _ _ h1, clsS, nS _ (by decide), rfl, _, rfl, th, _, _, _, rfl, rfl, .inl (.inl (e13 _ _ h2)), atI_nat (W.st.hat hc), rfl, _, rfl, ?_⟩
        rw [dv]
        refine iteB (fun t => ?_) (fun t => ?_)
        · refine ⟨_, rfl, _, hD3, by unfold ints_; rw [List.length_map]; exact small1000 (Nat.le_trans (List.length_filter_le _ _) (by rw [List.length_range]; omega)), fun b z hb => ?_, ?_⟩
          · rw [upd_ne (ne_of_none hb hD)]
            exact e23 _ _ hb
          · rw [upd_same, range_filter, if_pos t, ints_snoc]
        · refine ⟨e23, ?_⟩
          rw [range_filter, if_neg (by rw [t]; decide), List.append_nil]
          exact hD3
      · obtain ⟨e2, hD2⟩ := pv
        rw [il] at hD2
        exact ⟨D, _, rfl, .inl ⟨.inl (.inl hD2), fun u nu => q _ u ((e1.trans e2).trans (al nu)) ((e1.trans e2).free nu) upd_same⟩⟩
    · exact ⟨_, rfl, p, S, dx, _, _, rfl, h1, clsS, nS _ (by decide), rfl, _, rfl, l, n, [y], rfl, W.ld.c, by show 1 < 64; decide, .inr ⟨[], y, [], rfl, fun y hy => (nomatch hy), fun y hy => (nomatch hy), thg, wf, fl⟩⟩
end
section
variable {P : Program} {w : World} {K : PySem.W.Frag} {mg : Str → Option Value} {base : Heap} {a : AdL}
def NoSeq (K : PySem.W.Frag) (H : Hp) (x : V) : Prop := ∃ t : String, (∀ H1, Same H H1 → TyX K H1 x (.type t)) ∧ PySem.W.kitAny K (.type t) [.type "list", .type "tuple"] = some false
def spIsLot (K : PySem.W.Frag) (C : Addr) : Sp := fun vs H Q _ => ∃ (p : Addr) (n : Nat) (x : V) (least : Int), vs = [.ref p, x, .int least] ∧ LandC C H p n ∧
  ((NoSeq K H x ∧ ∀ H1, Same H H1 → Q (.bl false) H1) ∨ (∃ (b : Addr) (xs : List V), x = .ref b ∧ SqOf H b xs ∧ (∀ y ∈ xs, Thing H y) ∧ xs.length < 64 ∧ ∀ H1, Same H H1 → Q (.bl (cellsV (n : Nat) xs least)) H1))
theorem ok_islot (T : Tl K mg a) {f fC : Addr} {fd fdC : FuncData} (F : Fun K "is_lot" "is_lot" s_is_lot f fd)
    (Gac : FnOk P w K mg base CX0 2 fC fdC ["many", "thing", "least"] (spCells K)) (gac : mg "are_cells" = some (.ref fC)) (kac : PySem.W.keepIn K (.ref fC) = true) (bac : Binds K fdC ["many", "thing", "least"] []) : FnOk P w K mg base CX0 3 f fd ["land", "thing", "least"] (spIsLot K a.C) := by
  refine F.ok sc_is_lot (fun vs H Q E h => ?_) (fun cdv A outer s H vs Q E hr h => ?_)
  · obtain ⟨p, n, x, l, rfl, _⟩ := h
    rfl
  · obtain ⟨p, n, x, l, rfl, ⟨dx, fs, hp, hl⟩, h⟩ := h
    refine ⟨_, (pss_one (ps_ret (pe_call Gac (hr.mono (by decide)) (by rfl) gac kac bac .nil pass0 (pa_cons (pe_fld (pv 0) rfl) (pa_cons (pv 1) (pa_cons (pv 2) pa_nil)))))), ?_⟩
    refine ⟨_, rfl, p, a.C, dx, fs, _, rfl, hp, T.cl, T.nA _ (by decide), hl, _, rfl, _, rfl, (n : Nat), x, l, rfl, ?_⟩
    rcases h with ⟨⟨t, ty, k⟩, q⟩ | ⟨b, xs, rfl, hb, th, h64, q⟩
    · exact .inl ⟨t, ty, k, q⟩
    · exact .inr ⟨b, xs, rfl, hb, th, h64, q⟩
def spIsCouple (K : PySem.W.Frag) (C : Addr) : Sp := fun vs H Q _ => ∃ (p : Addr) (n : Nat) (x : V), vs = [.ref p, x] ∧ LandC C H p n ∧
  ((NoSeq K H x ∧ ∀ H1, Same H H1 → Q (.bl false) H1) ∨ (∃ (b : Addr) (xs : List V), x = .ref b ∧ SqOf H b xs ∧ (∀ y ∈ xs, Thing H y) ∧ xs.length < 64 ∧ ∀ H1, Same H H1 → Q (.bl (twoV (n : Nat) xs)) H1))
theorem ok_iscouple (T : Tl K mg a) {f fC : Addr} {fd fdC : FuncData} (F : Fun K "is_couple" "is_couple" s_is_couple f fd)
    (Ga2 : FnOk P w K mg base CX0 3 fC fdC ["many", "thing"] (spTwo K)) (ga2 : mg "are_two_cells" = some (.ref fC)) (ka2 : PySem.W.keepIn K (.ref fC) = true) (ba2 : Binds K fdC ["many", "thing"] []) : FnOk P w K mg base CX0 4 f fd ["land", "thing"] (spIsCouple K a.C) := by
  refine F.ok sc_is_couple (fun vs H Q E h => ?_) (fun cdv A outer s H vs Q E hr h => ?_)
  · obtain ⟨p, n, x, rfl, _⟩ := h
    rfl
  · obtain ⟨p, n, x, rfl, ⟨dx, fs, hp, hl⟩, h⟩ := h
    refine ⟨_, (pss_one (ps_ret (pe_call Ga2 (hr.mono (by decide)) (by rfl) ga2 ka2 ba2 .nil pass0 (pa_cons (pe_fld (pv 0) rfl) (pa_cons (pv 1) pa_nil))))), ?_⟩
    refine ⟨_, rfl, p, a.C, dx, fs, _, rfl, hp, T.cl, T.nA _ (by decide), hl, _, rfl, (n : Nat), x, rfl, ?_⟩
    rcases h with ⟨⟨t, ty, k⟩, q⟩ | ⟨b, xs, rfl, hb, th, h64, q⟩
    · exact .inl ⟨t, ty, k, q⟩
    · exact .inr ⟨b, xs, rfl, hb, th, h64, q⟩
end
end K7
end
/-! ## KGT -/
section
open PySem PySem.Spec PyProof.Rows L2
namespace K7
/-- d.get(k), d a written dict by texts, k a text -/
def rKGet (K : PySem.W.Frag) (w : World) : V → List V → Hp → VK → Prop := fun x xs H Q => ∃ p z, x = .ref p ∧ xs = [.str z] ∧ (p == sysModules) = false ∧ ((∃ v, KDct K w p z v ∧ Q v H) ∨ (KMiss K w p z ∧ Q .non H))
theorem mt_kget {X : Cx} : MtR X "dict.get" (rKGet X.K X.w) := by
  intro pins s σ H x xs v us Q I rx rs h
  obtain ⟨p, z, rfl, rfl, low, h⟩ := h
  obtain rfl : v = .ref p := rx
  cases rs with
  | cons ru rn =>
  cases rn
  obtain ⟨t, rfl⟩ := ru
  rcases h with ⟨r, ⟨es, n, u0, hl, hk, e, ru⟩, q⟩ | ⟨⟨es, n, hl, hk, _, e⟩, q⟩
  · have hm := PySem.W.mapOf_K (prog := X.prog) (Inv.kIn I) hl hk
    refine call_meetsIn F.slot_dict_get (Heap.MapOf.typeIs hm) F.entry_dict_get (F.args_dict_get_2 (Value.ref p) _) (meets_dict_get (PySem.strKind X.prog X.w) p (strKind_is X.prog X.w z t) low) ?_
    refine ⟨_, hm, r, H, Inv.tok I (s.toks + 1), ?_, q⟩
    rw [PySem.W.find_K hl e]
    exact ru
  · have hm := PySem.W.mapOf_K (prog := X.prog) (Inv.kIn I) hl hk
    refine call_meetsIn F.slot_dict_get (Heap.MapOf.typeIs hm) F.entry_dict_get (F.args_dict_get_2 (Value.ref p) _) (meets_dict_get (PySem.strKind X.prog X.w) p (strKind_is X.prog X.w z t) low) ?_
    refine ⟨_, hm, .non, H, Inv.tok I (s.toks + 1), ?_, q⟩
    rw [PySem.W.find_K hl e]
    rfl
/-- a written dict -/
def KDic (K : PySem.W.Frag) (p : Addr) : Prop := ∃ es n, K.lookup p = some { cls := .type "dict", data := .dict es n }
def tKGet (K : PySem.W.Frag) (w : World) (td ty : TE) : TE := fun σ H Q => td σ H fun x H1 => ∃ p, x = .ref p ∧ KDic K p ∧ ty σ H1 fun y H2 => rKGet K w x [y] H2 Q
theorem pe_kget {X : Cx} {o e : Expr} {apos cpos : Pos} {td ty : TE} (ho : PE X o td) (he : PE X e ty) (m : M1 X o "get" apos e cpos) : PE X (.Call (.Attribute o "get" apos) [e] [] cpos) (tKGet X.K X.w td ty) := by
  refine ⟨fun pins s σ H Q I h => ?_⟩
  refine wpAny_Call_method m.base m.few m.line F.plainAttrs_dict F.slot_dict_get F.type_dict_get (thn (ho.run pins s σ H _ I h) fun u s1 x => ?_)
  obtain ⟨x, H1, I1, rx, p, rfl, ⟨es, n, hl⟩, q1⟩ := x
  obtain rfl : u = .ref p := rx
  have hg := I1.kIn p _ hl
  refine ⟨?_, fun a e => ?_, ?_⟩
  · exact ⟨_, hg, rfl⟩
  · injection e with e
    subst e
    exact ⟨_, hg, rfl⟩
  · rw [m.trees]
    refine Calls.callWith_builtin rfl (Calls.evalArgs_plain (Calls.spliced_cons (thn (he.run pins s1 σ H1 _ I1 q1) fun iv s2 x => ?_)))
    obtain ⟨y, H2, I2, ry, q2⟩ := x
    refine Calls.spliced_nil ?_
    exact mt_kget pins s2 σ H2 _ _ _ _ Q I2 (show RelV (.ref p) (.ref p) from rfl) (.cons ry .nil) q2
end K7
end
/-! ## P20 -/
section
open PySem PySem.Spec PyProof.Rows L2
namespace K7
abbrev N__has_form : List Str := ["thing"]
abbrev s__has_form : Stmt := topS 35
theorem sc__has_form : FnScope ["thing"] ["thing"] (defScope s__has_form) := ⟨rfl, rfl, rfl, by decide +kernel, rfl, by decide +kernel, by decide +kernel⟩
/-! ### the form of a deed -/
def dwords : List Str := ["goes", "grant", "gives", "moves"]
def lenOf (z : Str) : Option Nat := if z = "goes" then some 4 else if z = "grant" then some 3 else if z = "gives" then some 3 else none
/-- what the top says of deeds -/
structure Td (K : PySem.W.Frag) (w : World) (mg : Str → Option Value) (aLN : Addr) : Prop where
  gLN : mg "_LENGTHS" = some (.ref aLN)
  low : (aLN == sysModules) = false
  kd : KDic K aLN
  k0 : KDct K w aLN "goes" (.int 4)
  k1 : KDct K w aLN "grant" (.int 3)
  k2 : KDct K w aLN "gives" (.int 3)
  k3 : KMiss K w aLN "moves"
section
variable {P : Program} {w : World} {K : PySem.W.Frag} {mg : Str → Option Value} {base : Heap} {a : AdL} {aLN : Addr}
def spForm (K : PySem.W.Frag) : Sp := fun vs H Q _ => ∃ v, vs = [v] ∧ ((NoSeq K H v ∧ ∀ H1, Same H H1 → Q (.bl false) H1) ∨ (∃ t, v = .ref t ∧ SqOf H t [] ∧ ∀ H1, Same H H1 → Q (.bl false) H1) ∨
  ∃ t z xs, v = .ref t ∧ H t = some (.tup (.str z :: xs)) ∧ z ∈ dwords ∧ xs.length < 64 ∧ ∀ H1, Same H H1 → Q (.bl (decide (lenOf z = some (xs.length + 1)))) H1)
theorem ok_form (TD : Td K w mg aLN) {f fS : Addr} {fd fdS : FuncData} (F : Fun K "_has_form" "_has_form" s__has_form f fd)
    (Gsq : FnOk P w K mg base CX0 1 fS fdS ["thing"] (spSeq K)) (gsq : mg "is_sequence" = some (.ref fS)) (ksq : PySem.W.keepIn K (.ref fS) = true) (bsq : Binds K fdS ["thing"] [])
    (m_len : mg "len" = none) (m_isinstance : mg "isinstance" = none) (m_str : mg "str" = none) : FnOk P w K mg base CX0 2 f fd ["thing"] (spForm K) := by
  refine F.ok sc__has_form (fun vs H Q E h => ?_) (fun cdv A outer s H vs Q E hr h => ?_)
  · obtain ⟨v, rfl, _⟩ := h
    rfl
  · obtain ⟨v, rfl, h⟩ := h
    refine ⟨_, (pss_cons (ps_if (pw_or (pt_not (pt_val (pe_call Gsq (hr.mono (by decide)) (by rfl) gsq ksq bsq .nil pass0 (pa_cons (pv 0) pa_nil)))) (pw_or (pt_cmpR op_eq (pe_callB call_len_seq (by rfl) m_len boot_len (pa_cons (pv 0) pa_nil)) pe_int (nomark _)) (pw_or1 (pt_not (pt_val (pe_callB call_isi (by rfl) m_isinstance boot_isinstance (pa_cons (pe_ix ix_tup (pv 0) pe_int (fun _ _ => rfl)) (pa_cons (pe_bltn (v := .ty "str") (by rfl) m_str boot_str rfl) pa_nil)))))))).pt
  (pss_one (ps_ret pe_bl))
  pss_nil)
 (pss_one (ps_ret (pe_cmpR op_eq (pe_callB call_len_seq (by rfl) m_len boot_len (pa_cons (pv 0) pa_nil)) (pe_kget (pe_glob (v := .ref _) rfl TD.gLN rfl) (pe_ix ix_tup (pv 0) pe_int (fun _ _ => rfl)) ⟨by rfl, by rfl, by rfl, by rfl⟩) (nomark _))))), ?_⟩
    rcases h with ⟨⟨t, ty, kk⟩, q⟩ | ⟨t, rfl, ht, q⟩ | ⟨t, z, xs, rfl, ht, hz, h64, q⟩
    · exact ⟨_, rfl, _, t, false, rfl, ty, kk, fun H1 e1 => ⟨_, rfl, q H1 e1⟩⟩
    · obtain ⟨t', ty, kk⟩ := ht.ty (K := K)
      refine ⟨_, rfl, _, t', true, rfl, ty, kk, fun H1 e1 => ⟨_, rfl, ?_⟩⟩
      refine ⟨_, rfl, t, [], rfl, (ht.same e1).sq, rfl, _, rfl, iteTo (by simp) ?_⟩
      exact q H1 e1
    · have hs : SqOf H t (.str z :: xs) := .inl ht
      obtain ⟨t', ty, kk⟩ := hs.ty (K := K)
      refine ⟨_, rfl, _, t', true, rfl, ty, kk, fun H1 e1 => ⟨_, rfl, ?_⟩⟩
      refine ⟨_, rfl, t, .str z :: xs, rfl, .inr (.inl (.inl (e1 _ _ ht))), rfl, _, rfl, iteFo (by simp; omega) ?_⟩
      refine ⟨_, rfl, t, .str z :: xs, 0, .str z, rfl, rfl, .inl (.inl (e1 _ _ ht)), atI_nat (j := 0) rfl, ?_⟩
      refine ⟨_, _, _, _, _, rfl, .ty _, .base (.str _), kit_ty (by decide +kernel), true, rfl, ?_⟩
      refine ⟨_, rfl, t, .str z :: xs, rfl, .inr (.inl (.inl (e1 _ _ ht))), aLN, rfl, TD.kd, _, rfl, t, .str z :: xs, 0, .str z, rfl, rfl, .inl (.inl (e1 _ _ ht)), atI_nat (j := 0) rfl, ?_⟩
      have dn : ∀ m : Nat, lenOf z = some m → Q (.bl (decide (V.int (((V.str z :: xs).length : Nat) : Int) = V.int ((m : Nat) : Int)))) H1 := fun m hm => by
        have e : decide (V.int (((V.str z :: xs).length : Nat) : Int) = V.int ((m : Nat) : Int)) = decide (lenOf z = some (xs.length + 1)) := decide_eq_decide.mpr ⟨fun h => by
          rw [hm]
          injection h with h
          rw [List.length_cons] at h
          congr 1
          omega, fun h => by
          rw [hm] at h
          injection h with h
          subst h
          rfl⟩
        rw [e]
        exact q H1 e1
      have hz' : z = "goes" ∨ z = "grant" ∨ z = "gives" ∨ z = "moves" := by
        simpa [dwords] using hz
      rcases hz' with rfl | rfl | rfl | rfl
      · exact ⟨aLN, _, rfl, rfl, TD.low, .inl ⟨.int 4, TD.k0, rfl, dn 4 rfl⟩⟩
      · exact ⟨aLN, _, rfl, rfl, TD.low, .inl ⟨.int 3, TD.k1, rfl, dn 3 rfl⟩⟩
      · exact ⟨aLN, _, rfl, rfl, TD.low, .inl ⟨.int 3, TD.k2, rfl, dn 3 rfl⟩⟩
      · refine ⟨aLN, _, rfl, rfl, TD.low, .inr ⟨TD.k3, rfl, ?_⟩⟩
        have e2 : lenOf "moves" = none := by decide
        have e3 : decide (lenOf "moves" = some (xs.length + 1)) = false := decide_eq_false fun h => by
          rw [e2] at h
          cases h
        have q' := q H1 e1
        rw [e3] at q'
        have e : decide (V.int (((V.str "moves" :: xs).length : Nat) : Int) = V.non) = false := decide_eq_false fun h => nomatch h
        show Q (.bl (decide (V.int (((V.str "moves" :: xs).length : Nat) : Int) = V.non))) H1
        rw [e]
        exact q'
end
end K7
end
/-! ## P21 -/
section
open PySem PySem.Spec PyProof.Rows L2
namespace K7
abbrev N_are_told : List Str := ["land", "thing", "couple"]
abbrev s_are_told : Stmt := topS 36
theorem sc_are_told : FnScope ["land", "thing", "couple"] ["land", "thing"] (defScope s_are_told) := ⟨rfl, rfl, rfl, by decide +kernel, rfl, by decide +kernel, by decide +kernel⟩
/-! ### the couples that are told -/
def coB (n : Nat) (c : Nat × Nat) : Bool := twoV (n : Nat) (ints_ [c.1, c.2])
def keyP (c : Nat × Nat) : List Int := [((c.1 : Nat) : Int), ((c.2 : Nat) : Int)]
theorem keyP_inj {c d : Nat × Nat} (h : keyP c = keyP d) : c = d := by
  unfold keyP at h
  injection h with h1 h2
  injection h2 with h2
  exact Prod.ext (by omega) (by omega)
theorem keyP_nd {cs : List (Nat × Nat)} (h : cs.Nodup) : (cs.map keyP).Nodup := by
  induction cs with
  | nil => exact List.nodup_nil
  | cons c cs ih =>
    rw [List.nodup_cons] at h
    rw [List.map_cons, List.nodup_cons]
    refine ⟨fun m => ?_, ih h.2⟩
    obtain ⟨d, hd, e⟩ := List.mem_map.mp m
    rw [keyP_inj e] at hd
    exact h.1 hd
section
variable {P : Program} {w : World} {K : PySem.W.Frag} {mg : Str → Option Value} {base : Heap} {a : AdL} {aLN : Addr}
def spTold (K : PySem.W.Frag) (C : Addr) : Sp := fun vs H Q _ => ∃ (l t : Addr) (n : Nat) (ts : List Addr) (cs : List (Nat × Nat)), vs = [.ref l, .ref t] ∧ LandC C H l n ∧ SqOf H t (ts.map V.ref) ∧ TAt H ts (pairs cs) ∧ cs.Nodup ∧ cs.length ≤ 32 ∧ ∀ H', Same H H' → Q (.bl (cs.all (coB n))) H'
theorem ok_told {f fS fI : Addr} {fd fdS fdI : FuncData} (F : Fun K "are_told" "are_told" s_are_told f fd)
    (Gsq : FnOk P w K mg base CX0 1 fS fdS ["thing"] (spSeq K)) (gsq : mg "is_sequence" = some (.ref fS)) (ksq : PySem.W.keepIn K (.ref fS) = true) (bsq : Binds K fdS ["thing"] [])
    (Gik : FnOk P w K mg base CX0 4 fI fdI ["land", "thing"] (spIsCouple K a.C)) (gik : mg "is_couple" = some (.ref fI)) (kik : PySem.W.keepIn K (.ref fI) = true) (bik : Binds K fdI ["land", "thing"] [])
    (m_len : mg "len" = none) (m_all : mg "all" = none) (m_tuple : mg "tuple" = none) : FnOk P w K mg base CX0 5 f fd ["land", "thing"] (spTold K a.C) := by
  refine F.ok sc_are_told (fun vs H Q E h => ?_) (fun cdv A outer s H vs Q E hr h => ?_)
  · obtain ⟨l, t, n, ts, cs, rfl, _⟩ := h
    rfl
  · obtain ⟨l, t, n, ts, cs, rfl, L, ht, hT, nd, c32, q⟩ := h
    refine ⟨_, (pss_cons (ps_if (pw_or (pt_not (pt_val (pe_call Gsq (hr.mono (by decide)) (by rfl) gsq ksq bsq .nil pass0 (pa_cons (pv 1) pa_nil)))) (pw_or1 (pt_not (pt_val (pe_callB (cr_all rfl) (by rfl) m_all boot_all (pa_cons (pe_lc (own := [("couple", 2)]) (g := gName 2) (tt := tYes) rfl sc_are_told.nd (K7E.pi_either (pi_tup (pv 1)) (pi_list (pv 1))) (blkOk_by (own := [("couple", 2)]) (N := N_are_told) (sc := defScope s_are_told) (by decide +kernel)) (fun _ _ _ _ _ => (pg_name (i := 2) sc_are_told.nd rfl (by first | exact Or.inl rfl | exact Or.inr rfl))) (fun _ _ _ _ _ => pts_nil) (fun _ _ _ _ _ => (pe_call Gik (hr.mono (by decide)) (by rfl) gik kik bik .nil pass0 (pa_cons (pv 0) (pa_cons (pv 2) pa_nil))))) pa_nil)))))).pt
  (pss_one (ps_ret pe_bl))
  pss_nil)
 (pss_one (ps_ret (pe_cmpR op_eq (pe_callB K7S.call_lenT (by rfl) m_len boot_len (pa_cons (K7S.pe_st (own := [("couple", 2)]) (g := gName 2) rfl (K7S.hu1 hr) sc_are_told.nd (K7E.pi_either (pi_tup (pv 1)) (pi_list (pv 1))) (blkOk_by (own := [("couple", 2)]) (N := N_are_told) (sc := defScope s_are_told) (by decide +kernel)) (fun _ _ _ _ _ => (pg_name (i := 2) sc_are_told.nd rfl (by first | exact Or.inl rfl | exact Or.inr rfl))) (fun _ _ _ _ _ => (pe_callTy (show CallR _ (.type "tuple") (rTup_ K) from call_tuple_of) (by rfl) m_tuple boot_tuple (pa_cons (pv 2) pa_nil)))) pa_nil)) (pe_callB call_len_seq (by rfl) m_len boot_len (pa_cons (pv 1) pa_nil)) (nomark _))))), ?_⟩
    obtain ⟨t', ty, kk⟩ := ht.ty (K := K)
    have hl : ts.length = cs.length := by have z := hT.len; unfold pairs at z; rw [z, List.length_map]
    have sz : (ts.map V.ref).length = cs.length := by rw [List.length_map, hl]
    have row : ∀ {H2 : Hp} {j : Nat} {x : V}, Same H H2 → (ts.map V.ref)[j]? = some x → ∃ b c, x = .ref b ∧ cs[j]? = some c ∧ H2 b = some (.tup (ints_ [c.1, c.2])) := fun {H2 j x} e2 hx => by
      rw [List.getElem?_map] at hx
      obtain ⟨b, hb, rfl⟩ := Option.map_eq_some_iff.mp hx
      obtain ⟨l', h1, h2⟩ := hT.get hb
      unfold pairs at h1
      rw [List.getElem?_map] at h1
      obtain ⟨c, hc, rfl⟩ := Option.map_eq_some_iff.mp h1
      exact ⟨b, c, rfl, hc, e2 _ _ h2⟩
    refine ⟨_, rfl, _, t', true, rfl, ty, kk, fun H1 e1 => ⟨_, rfl, ?_⟩⟩
    have fin : ∀ H2, Same H1 H2 → ∀ L : List (Addr × List Int), (L.map (·.2)).Perm ((cs.take (ts.map V.ref).length).map keyP) → decide (V.int (L.length : Nat) = V.int ((ts.map V.ref).length : Nat)) = true := by
      intro H2 e2 L p
      have z := p.length_eq
      rw [List.length_map, List.length_map, sz, List.take_length] at z
      rw [z, sz]
      exact decide_eq_true rfl
    rcases ht.same e1 with z | z
    · refine .inl ⟨_, rfl, t, rfl, ⟨_, .inl (.inl z)⟩, fun D hD => lc_tup (xs := ts.map V.ref) (fun j H2 => Same H1 H2 ∧ H2 D = some (.lst (((cs.take j).map (coB n)).map V.bl))) ⟨same_new (Same.refl H1) hD, upd_same⟩ (fun j H2 _ pv => .inl (.inl (pv.1 _ _ z))) (fun j x H2 hx pv => ?_) (fun H2 pv => ?_)⟩
      · obtain ⟨e2, hD2⟩ := pv
        obtain ⟨b, c, rfl, hc, hb⟩ := row (e1.trans e2) hx
        have hj : j < cs.length := (List.getElem?_eq_some_iff.mp hc).1
        refine ⟨rfl, _, rfl, _, rfl, l, n, .ref b, rfl, L.same (e1.trans e2), .inr ⟨b, _, rfl, .inl hb, fun y hy => ?_, by show 2 < 64; decide, fun H3 e3 => ?_⟩⟩
        · obtain ⟨k, _, rfl⟩ := List.mem_map.mp hy
          exact .flat (.int _)
        · refine ⟨_, e3 _ _ hD2, by rw [List.length_map, List.length_map, List.length_take]; exact small1000 (by omega), fun b o hb => ?_, ?_⟩
          · rw [upd_ne (ne_of_none hb hD)]
            exact e3 _ _ (e2 _ _ hb)
          · rw [upd_same, List.take_add_one, hc, List.map_append, List.map_append]
            rfl
      · obtain ⟨e2, hD2⟩ := pv
        rw [sz, List.take_length] at hD2
        refine ⟨D, cs.map (coB n), rfl, .inl (.inl hD2), _, rfl, ?_⟩
        have ea : (cs.map (coB n)).all id = cs.all (coB n) := by rw [List.all_map]; rfl
        rw [ea]
        by_cases hA : cs.all (coB n) = true
        · rw [hA]
          refine iteF ?_
          have q2 := fun H3 (e3 : Same H1 H3) => hA ▸ q H3 (e1.trans e3)
          refine .inl ⟨_, rfl, t, rfl, ⟨_, .inl (.inl (e2 _ _ z))⟩, fun D2 hD2 => K7S.st_tup (xs := ts.map V.ref) (fun j H3 => Same H2 H3 ∧ ∃ L : List (Addr × List Int), H3 D2 = some (SetTO P w D2 L) ∧ (∀ p ∈ L, H3 p.1 = some (.tup (p.2.map V.int))) ∧ (L.map (·.2)).Perm ((cs.take j).map keyP)) ⟨same_new (Same.refl H2) hD2, [], upd_same, fun p hp => (nomatch hp), List.Perm.refl _⟩ (fun j H3 _ pv => .inl (.inl (pv.1 _ _ (e2 _ _ z)))) (fun j x H3 hx pv => ?_) (fun H3 pv => ?_)⟩
          · obtain ⟨e3, L', hL, hLt, pm⟩ := pv
            obtain ⟨b, c, rfl, hc, hb⟩ := row ((e1.trans e2).trans e3) hx
            have hj : j < cs.length := (List.getElem?_eq_some_iff.mp hc).1
            have ll : L'.length = j := by
              have z := pm.length_eq
              rw [List.length_map, List.length_map, List.length_take, Nat.min_eq_left (Nat.le_of_lt hj)] at z
              exact z
            refine ⟨rfl, _, rfl, b, _, rfl, .inr ⟨.inl (.inl hb), ?_⟩⟩
            have hnew : keyP c ∉ (cs.take j).map keyP := fun m => by
              have nd' := keyP_nd nd
              have e3 : cs.map keyP = (cs.take j).map keyP ++ (cs.drop j).map keyP := by rw [← List.map_append, List.take_append_drop]
              rw [e3, List.nodup_append] at nd'
              have hcj : cs[j] = c := by rw [List.getElem?_eq_getElem hj] at hc; exact Option.some.inj hc
              exact nd'.2.2 _ m _ (List.mem_map.mpr ⟨c, by rw [List.drop_eq_getElem_cons hj, hcj]; exact List.mem_cons_self, rfl⟩) rfl
            refine ⟨b, keyP c, L', rfl, .inl (.inl hb), hL, fun p hp => .inl (.inl (hLt p hp)), by omega, fun L2 _ c2 => ?_⟩
            have pm' := c2 (fun m => hnew (pm.mem_iff.mp m))
            have bD : b ≠ D2 := fun e => by rw [e, hL] at hb; cases hb
            refine ⟨fun b' o hb' => ?_, L2, upd_same, fun p hp => ?_, ?_⟩
            · rw [upd_ne (ne_of_none hb' hD2)]
              exact e3 _ _ hb'
            · have tp : H3 p.1 = some (.tup (p.2.map V.int)) := by
                rcases List.mem_cons.mp (pm'.mem_iff.mp hp) with rfl | hp
                · exact hb
                · exact hLt p hp
              rw [upd_ne (fun e => by rw [e] at tp; exact absurd (tp.symm.trans hL) (fun w => by cases w))]
              exact tp
            · refine (pm'.map (·.2)).trans ?_
              rw [List.take_add_one, hc, List.map_append]
              exact ((List.perm_append_singleton _ _).trans (pm.symm.cons _)).symm
          · obtain ⟨e3, L', hL, hLt, pm⟩ := pv
            have eq2 := fin H3 (e2.trans e3) L' pm
            refine ⟨D2, L', rfl, hL, fun p hp => .inl (.inl (hLt p hp)), _, rfl, t, ts.map V.ref, rfl, ?_, rfl, ?_⟩
            · exact (SqOf.sq (K := K) (H := H3) (show SqOf H3 t (ts.map V.ref) from (ht.same e1).same (e2.trans e3)))
            · rw [eq2]
              exact q2 H3 (e2.trans e3)
        · have hA' : cs.all (coB n) = false := by simpa using hA
          rw [hA']
          exact iteTo rfl (hA' ▸ q H2 (e1.trans e2))
    · refine .inr ⟨_, rfl, t, rfl, ⟨_, .inl (.inl z)⟩, fun D hD => lc_list (xs := ts.map V.ref) (fun j H2 => Same H1 H2 ∧ H2 D = some (.lst (((cs.take j).map (coB n)).map V.bl))) ⟨same_new (Same.refl H1) hD, upd_same⟩ (fun j H2 _ pv => .inl (.inl (pv.1 _ _ z))) (fun j x H2 hx pv => ?_) (fun H2 pv => ?_)⟩
      · obtain ⟨e2, hD2⟩ := pv
        obtain ⟨b, c, rfl, hc, hb⟩ := row (e1.trans e2) hx
        have hj : j < cs.length := (List.getElem?_eq_some_iff.mp hc).1
        refine ⟨rfl, _, rfl, _, rfl, l, n, .ref b, rfl, L.same (e1.trans e2), .inr ⟨b, _, rfl, .inl hb, fun y hy => ?_, by show 2 < 64; decide, fun H3 e3 => ?_⟩⟩
        · obtain ⟨k, _, rfl⟩ := List.mem_map.mp hy
          exact .flat (.int _)
        · refine ⟨_, e3 _ _ hD2, by rw [List.length_map, List.length_map, List.length_take]; exact small1000 (by omega), fun b o hb => ?_, ?_⟩
          · rw [upd_ne (ne_of_none hb hD)]
            exact e3 _ _ (e2 _ _ hb)
          · rw [upd_same, List.take_add_one, hc, List.map_append, List.map_append]
            rfl
      · obtain ⟨e2, hD2⟩ := pv
        rw [sz, List.take_length] at hD2
        refine ⟨D, cs.map (coB n), rfl, .inl (.inl hD2), _, rfl, ?_⟩
        have ea : (cs.map (coB n)).all id = cs.all (coB n) := by rw [List.all_map]; rfl
        rw [ea]
        by_cases hA : cs.all (coB n) = true
        · rw [hA]
          refine iteF ?_
          have q2 := fun H3 (e3 : Same H1 H3) => hA ▸ q H3 (e1.trans e3)
          refine .inr ⟨_, rfl, t, rfl, ⟨_, .inl (.inl (e2 _ _ z))⟩, fun D2 hD2 => K7S.st_list (xs := ts.map V.ref) (fun j H3 => Same H2 H3 ∧ ∃ L : List (Addr × List Int), H3 D2 = some (SetTO P w D2 L) ∧ (∀ p ∈ L, H3 p.1 = some (.tup (p.2.map V.int))) ∧ (L.map (·.2)).Perm ((cs.take j).map keyP)) ⟨same_new (Same.refl H2) hD2, [], upd_same, fun p hp => (nomatch hp), List.Perm.refl _⟩ (fun j H3 _ pv => .inl (.inl (pv.1 _ _ (e2 _ _ z)))) (fun j x H3 hx pv => ?_) (fun H3 pv => ?_)⟩
          · obtain ⟨e3, L', hL, hLt, pm⟩ := pv
            obtain ⟨b, c, rfl, hc, hb⟩ := row ((e1.trans e2).trans e3) hx
            have hj : j < cs.length := (List.getElem?_eq_some_iff.mp hc).1
            have ll : L'.length = j := by
              have z := pm.length_eq
              rw [List.length_map, List.length_map, List.length_take, Nat.min_eq_left (Nat.le_of_lt hj)] at z
              exact z
            refine ⟨rfl, _, rfl, b, _, rfl, .inr ⟨.inl (.inl hb), ?_⟩⟩
            have hnew : keyP c ∉ (cs.take j).map keyP := fun m => by
              have nd' := keyP_nd nd
              have e3 : cs.map keyP = (cs.take j).map keyP ++ (cs.drop j).map keyP := by rw [← List.map_append, List.take_append_drop]
              rw [e3, List.nodup_append] at nd'
              have hcj : cs[j] = c := by rw [List.getElem?_eq_getElem hj] at hc; exact Option.some.inj hc
              exact nd'.2.2 _ m _ (List.mem_map.mpr ⟨c, by rw [List.drop_eq_getElem_cons hj, hcj]; exact List.mem_cons_self, rfl⟩) rfl
            refine ⟨b, keyP c, L', rfl, .inl (.inl hb), hL, fun p hp => .inl (.inl (hLt p hp)), by omega, fun L2 _ c2 => ?_⟩
            have pm' := c2 (fun m => hnew (pm.mem_iff.mp m))
            have bD : b ≠ D2 := fun e => by rw [e, hL] at hb; cases hb
            refine ⟨fun b' o hb' => ?_, L2, upd_same, fun p hp => ?_, ?_⟩
            · rw [upd_ne (ne_of_none hb' hD2)]
              exact e3 _ _ hb'
            · have tp : H3 p.1 = some (.tup (p.2.map V.int)) := by
                rcases List.mem_cons.mp (pm'.mem_iff.mp hp) with rfl | hp
                · exact hb
                · exact hLt p hp
              rw [upd_ne (fun e => by rw [e] at tp; exact absurd (tp.symm.trans hL) (fun w => by cases w))]
              exact tp
            · refine (pm'.map (·.2)).trans ?_
              rw [List.take_add_one, hc, List.map_append]
              exact ((List.perm_append_singleton _ _).trans (pm.symm.cons _)).symm
          · obtain ⟨e3, L', hL, hLt, pm⟩ := pv
            have eq2 := fin H3 (e2.trans e3) L' pm
            refine ⟨D2, L', rfl, hL, fun p hp => .inl (.inl (hLt p hp)), _, rfl, t, ts.map V.ref, rfl, ?_, rfl, ?_⟩
            · exact (SqOf.sq (K := K) (H := H3) (show SqOf H3 t (ts.map V.ref) from (ht.same e1).same (e2.trans e3)))
            · rw [eq2]
              exact q2 H3 (e2.trans e3)
        · have hA' : cs.all (coB n) = false := by simpa using hA
          rw [hA']
          exact iteTo rfl (hA' ▸ q H2 (e1.trans e2))
end
end K7
end
/-! ## P22 -/
section
open PySem PySem.Spec PyProof.Rows L2
namespace K7
abbrev N_shape_fault : List Str := ["land", "deed"]
abbrev s_shape_fault : Stmt := topS 37
theorem sc_shape_fault : FnScope ["land", "deed"] ["land", "deed"] (defScope s_shape_fault) := ⟨rfl, rfl, rfl, by decide +kernel, rfl, by decide +kernel, by decide +kernel⟩
/-! ### the shape of a deed -/
theorem LandC.same' {C : Addr} {H H' : Hp} {l : Addr} {n : Nat} (h : LandC C H l n) (e : Same H H') : LandC C H' l n := by
  obtain ⟨dx, fs, h1, h2⟩ := h
  exact ⟨dx, fs, e _ _ h1, h2⟩
def goesV (n : Nat) (ys : List Int) (hd : Int) (cs : List (Nat × Nat)) : V := if cellsV (n : Nat) (ys.map V.int) 1 = false then .str "cells" else if ¬ (0 ≤ hd ∧ hd ≤ 10 ^ 30) then .str "hand" else if cs.all (coB n) then .non else .str "told"
def saidV (n : Nat) (ys zs : List Int) : V := if cellsV (n : Nat) (ys.map V.int) 1 && cellsV (n : Nat) (zs.map V.int) 1 then .non else .str "cells"
/-- a thing as a deed, and the word of its shape -/
inductive ShV (K : PySem.W.Frag) (n : Nat) (H : Hp) : V → V → Prop where
  | noseq {v : V} (h : NoSeq K H v) : ShV K n H v (.str "deed")
  | none {t : Addr} (h : SqOf H t []) : ShV K n H (.ref t) (.str "deed")
  | form {t : Addr} {z : Str} {xs : List V} (h : H t = some (.tup (.str z :: xs))) (hz : z ∈ dwords) (hl : xs.length < 64) (hf : lenOf z ≠ some (xs.length + 1)) : ShV K n H (.ref t) (.str "deed")
  | said {t b d : Addr} {z : Str} {ys zs : List Int} (h : H t = some (.tup [.str z, .ref b, .ref d])) (hz : z = "grant" ∨ z = "gives") (hb : SqOf H b (ys.map V.int)) (hd : SqOf H d (zs.map V.int)) (ly : ys.length < 64) (lz : zs.length < 64) : ShV K n H (.ref t) (saidV n ys zs)
  | goes {t b tt : Addr} {ys : List Int} {hd : Int} {ts : List Addr} {cs : List (Nat × Nat)} (h : H t = some (.tup [.str "goes", .ref b, .int hd, .ref tt])) (hb : SqOf H b (ys.map V.int)) (ht : SqOf H tt (ts.map V.ref)) (hT : TAt H ts (pairs cs)) (nd : cs.Nodup) (c32 : cs.length ≤ 32) (ly : ys.length < 64) : ShV K n H (.ref t) (goesV n ys hd cs)
section
variable {P : Program} {w : World} {K : PySem.W.Frag} {mg : Str → Option Value} {base : Heap} {a : AdL} {aLN aST aRI : Addr} {tH : Tok}
def spShape (K : PySem.W.Frag) (C : Addr) : Sp := fun vs H Q _ => ∃ (l : Addr) (n : Nat) (v r : V), vs = [.ref l, v] ∧ LandC C H l n ∧ ShV K n H v r ∧ ∀ H', Same H H' → Q r H'
theorem ok_shape (T5 : T5s K mg aST aRI tH) {f fF fL fW fA : Addr} {fd fdF fdL fdW fdA : FuncData} (F : Fun K "shape_fault" "shape_fault" s_shape_fault f fd)
    (Ghf : FnOk P w K mg base CX0 2 fF fdF ["thing"] (spForm K)) (ghf : mg "_has_form" = some (.ref fF)) (khf : PySem.W.keepIn K (.ref fF) = true) (bhf : Binds K fdF ["thing"] [])
    (Gil : FnOk P w K mg base CX0 3 fL fdL ["land", "thing", "least"] (spIsLot K a.C)) (gil : mg "is_lot" = some (.ref fL)) (kil : PySem.W.keepIn K (.ref fL) = true) (bil : Binds K fdL ["land", "thing", "least"] [])
    (Giw : FnOk P w K mg base CX0 1 fW fdW ["thing", "low", "high"] spWhole) (giw : mg "is_whole" = some (.ref fW)) (kiw : PySem.W.keepIn K (.ref fW) = true) (biw : Binds K fdW ["thing", "low", "high"] [])
    (Gat : FnOk P w K mg base CX0 5 fA fdA ["land", "thing"] (spTold K a.C)) (gat : mg "are_told" = some (.ref fA)) (kat : PySem.W.keepIn K (.ref fA) = true) (bat : Binds K fdA ["land", "thing"] []) : FnOk P w K mg base CX0 6 f fd ["land", "deed"] (spShape K a.C) := by
  refine F.ok sc_shape_fault (fun vs H Q E h => ?_) (fun cdv A outer s H vs Q E hr h => ?_)
  · obtain ⟨l, n, v, r, rfl, _⟩ := h
    rfl
  · obtain ⟨l, n, v, r, rfl, L, h, q⟩ := h
    refine ⟨_, (pss_cons (ps_if (pt_not (pt_val (pe_call Ghf (hr.mono (by decide)) (by rfl) ghf khf bhf .nil pass0 (pa_cons (pv 1) pa_nil))))
  (pss_one (ps_ret pe_str))
  pss_nil)
 (pss_cons (ps_if (pt_not (pt_val (pe_call Gil (hr.mono (by decide)) (by rfl) gil kil bil .nil pass0 (pa_cons (pv 0) (pa_cons (pe_ix ix_tup (pv 1) pe_int (fun _ _ => rfl)) (pa_cons pe_int pa_nil))))))
  (pss_one (ps_ret pe_str))
  pss_nil)
 (pss_cons (ps_if (pt_cmpR (op_ne) (pe_ix ix_tup (pv 1) pe_int (fun _ _ => rfl)) pe_str (nomark _))
  (pss_one (ps_ret (pe_ifExp (pt_val (pe_call Gil (hr.mono (by decide)) (by rfl) gil kil bil .nil pass0 (pa_cons (pv 0) (pa_cons (pe_ix ix_tup (pv 1) pe_int (fun _ _ => rfl)) (pa_cons pe_int pa_nil))))) pe_non pe_str)))
  pss_nil)
 (pss_cons (ps_if (pt_not (pt_val (pe_call Giw (hr.mono (by decide)) (by rfl) giw kiw biw .nil pass0 (pa_cons (pe_ix ix_tup (pv 1) pe_int (fun _ _ => rfl)) (pa_cons pe_int (pa_cons (pe_glob (v := .int _) rfl T5.gH ⟨_, rfl⟩) pa_nil))))))
  (pss_one (ps_ret pe_str))
  pss_nil)
 (pss_one (ps_ret (pe_ifExp (pt_val (pe_call Gat (hr.mono (by decide)) (by rfl) gat kat bat .nil pass0 (pa_cons (pv 0) (pa_cons (pe_ix ix_tup (pv 1) pe_int (fun _ _ => rfl)) pa_nil)))) pe_non pe_str))))))), ?_⟩
    have thg : ∀ {H2 : Hp} (ys : List Int), ∀ y ∈ ys.map V.int, Thing H2 y := fun ys y hy => by
      obtain ⟨k, _, rfl⟩ := List.mem_map.mp hy
      exact .flat (.int _)
    cases h with
    | noseq h => exact ⟨_, rfl, v, rfl, .inl ⟨h, fun H1 e1 => ⟨_, rfl, q H1 e1⟩⟩⟩
    | none h => exact ⟨_, rfl, _, rfl, .inr (.inl ⟨_, rfl, h, fun H1 e1 => ⟨_, rfl, q H1 e1⟩⟩)⟩
    | form h hz hl hf =>
      refine ⟨_, rfl, _, rfl, .inr (.inr ⟨_, _, _, rfl, h, hz, hl, fun H1 e1 => ?_⟩)⟩
      rw [decide_eq_false hf]
      exact ⟨_, rfl, q H1 e1⟩
    | @said t b d z ys zs h hz hb hd ly lz =>
      have hz2 : z ∈ dwords := by rcases hz with rfl | rfl <;> decide
      have hf : lenOf z = some 3 := by rcases hz with rfl | rfl <;> decide
      refine ⟨_, rfl, _, rfl, .inr (.inr ⟨t, z, [.ref b, .ref d], rfl, h, hz2, by show 2 < 64; decide, fun H1 e1 => ?_⟩)⟩
      rw [decide_eq_true (show lenOf z = some ([V.ref b, V.ref d].length + 1) from hf)]
      refine ⟨_, rfl, _, rfl, _, rfl, t, _, 1, .ref b, rfl, rfl, .inl (.inl (e1 _ _ h)), atI_nat (j := 1) rfl, l, n, .ref b, 1, rfl, L.same' e1, .inr ⟨b, _, rfl, hb.same e1, thg ys, by rw [List.length_map]; exact ly, fun H2 e2 => ?_⟩⟩
      have e12 := e1.trans e2
      by_cases hc : cellsV (n : Nat) (ys.map V.int) 1 = true
      · rw [hc]
        refine ⟨_, rfl, ?_⟩
        refine ⟨_, rfl, t, _, 0, .str z, rfl, rfl, .inl (.inl (e12 _ _ h)), atI_nat (j := 0) rfl, rfl, _, rfl, iteTo (by rcases hz with rfl | rfl <;> decide) ?_⟩
        refine ⟨_, rfl, _, rfl, t, _, 2, .ref d, rfl, rfl, .inl (.inl (e12 _ _ h)), atI_nat (j := 2) rfl, l, n, .ref d, 1, rfl, L.same' e12, .inr ⟨d, _, rfl, hd.same e12, thg zs, by rw [List.length_map]; exact lz, fun H3 e3 => ?_⟩⟩
        have e123 := e12.trans e3
        by_cases hc2 : cellsV (n : Nat) (zs.map V.int) 1 = true
        · have e : saidV n ys zs = .non := by unfold saidV; rw [hc, hc2]; rfl
          rw [hc2]
          exact ⟨_, rfl, e ▸ q H3 e123⟩
        · have hc2' : cellsV (n : Nat) (zs.map V.int) 1 = false := by simpa using hc2
          have e : saidV n ys zs = .str "cells" := by unfold saidV; rw [hc, hc2']; rfl
          rw [hc2']
          exact ⟨_, rfl, e ▸ q H3 e123⟩
      · have hc' : cellsV (n : Nat) (ys.map V.int) 1 = false := by simpa using hc
        rw [hc']
        refine ⟨_, rfl, ?_⟩
        have e : saidV n ys zs = .str "cells" := by unfold saidV; rw [hc']; rfl
        exact e ▸ q H2 e12
    | @goes t b tt ys hd ts cs h hb ht hT nd c32 ly =>
      have hf : lenOf "goes" = some 4 := by decide
      refine ⟨_, rfl, _, rfl, .inr (.inr ⟨t, "goes", [.ref b, .int hd, .ref tt], rfl, h, by decide, by show 3 < 64; decide, fun H1 e1 => ?_⟩)⟩
      rw [decide_eq_true (show lenOf "goes" = some ([V.ref b, V.int hd, V.ref tt].length + 1) from hf)]
      refine ⟨_, rfl, _, rfl, _, rfl, t, _, 1, .ref b, rfl, rfl, .inl (.inl (e1 _ _ h)), atI_nat (j := 1) rfl, l, n, .ref b, 1, rfl, L.same' e1, .inr ⟨b, _, rfl, hb.same e1, thg ys, by rw [List.length_map]; exact ly, fun H2 e2 => ?_⟩⟩
      have e12 := e1.trans e2
      by_cases hc : cellsV (n : Nat) (ys.map V.int) 1 = true
      · rw [hc]
        refine ⟨_, rfl, ?_⟩
        refine ⟨_, rfl, t, _, 0, .str "goes", rfl, rfl, .inl (.inl (e12 _ _ h)), atI_nat (j := 0) rfl, rfl, _, rfl, iteFo (by decide) ?_⟩
        refine ⟨_, rfl, t, _, 2, .int hd, rfl, rfl, .inl (.inl (e12 _ _ h)), atI_nat (j := 2) rfl, .int hd, 0, 10 ^ 30, rfl, .flat (.int _), _, rfl, ?_⟩
        have hcF : ¬ cellsV (n : Nat) (ys.map V.int) 1 = false := by rw [hc]; decide
        by_cases hh : 0 ≤ hd ∧ hd ≤ 10 ^ 30
        · have hw : wholeV (.int hd) 0 (10 ^ 30) = true := by rw [wholeV_int, decide_eq_true hh.1, decide_eq_true hh.2]; rfl
          rw [hw]
          refine ⟨_, rfl, _, rfl, t, _, 3, .ref tt, rfl, rfl, .inl (.inl (e12 _ _ h)), atI_nat (j := 3) rfl, l, tt, n, ts, cs, rfl, L.same' e12, ht.same e12, TAt.same e12 hT, nd, c32, fun H3 e3 => ?_⟩
          have e123 := e12.trans e3
          by_cases hA : cs.all (coB n) = true
          · have e : goesV n ys hd cs = .non := by unfold goesV; rw [if_neg hcF, if_neg (not_not_intro hh), if_pos hA]
            rw [hA]
            exact ⟨_, rfl, e ▸ q H3 e123⟩
          · have hA' : cs.all (coB n) = false := by simpa using hA
            have e : goesV n ys hd cs = .str "told" := by unfold goesV; rw [if_neg hcF, if_neg (not_not_intro hh), if_neg hA]
            rw [hA']
            exact ⟨_, rfl, e ▸ q H3 e123⟩
        · have hw : wholeV (.int hd) 0 (10 ^ 30) = false := by
            rw [wholeV_int]
            by_cases h1 : 0 ≤ hd
            · rw [decide_eq_false (show ¬ hd ≤ 10 ^ 30 from fun h2 => hh ⟨h1, h2⟩), Bool.and_false]
            · rw [decide_eq_false h1, Bool.false_and]
          have e : goesV n ys hd cs = .str "hand" := by unfold goesV; rw [if_neg hcF, if_pos hh]
          rw [hw]
          exact e ▸ q H2 e12
      · have hc' : cellsV (n : Nat) (ys.map V.int) 1 = false := by simpa using hc
        rw [hc']
        refine ⟨_, rfl, ?_⟩
        have e : goesV n ys hd cs = .str "cells" := by unfold goesV; rw [if_pos hc']
        exact e ▸ q H2 e12
end
end K7
end
/-! ## P23 -/
section
open PySem PySem.Spec PyProof.Rows L2
namespace K7
abbrev N__moving : List Str := ["state", "deed", "cell"]
abbrev s__moving : Stmt := topS 41
theorem sc__moving : FnScope ["state", "deed", "cell"] ["state", "deed"] (defScope s__moving) := ⟨rfl, rfl, rfl, by decide +kernel, rfl, by decide +kernel, by decide +kernel⟩
/-! ### the cells that move -/
theorem cells_perm {n : Nat} {cs : List Nat} (nd : cs.Nodup) (lt : ∀ c ∈ cs, c < n) : ((List.range n).filter fun b => decide (b ∈ cs)).Perm cs := by
  refine (List.perm_ext_iff_of_nodup (List.Nodup.sublist List.filter_sublist List.nodup_range) nd).mpr fun b => ?_
  rw [List.mem_filter, List.mem_range, decide_eq_true_iff]
  exact ⟨fun h => h.2, fun h => ⟨lt b h, h⟩⟩
theorem cells_len {n : Nat} {cs : List Nat} (nd : cs.Nodup) (lt : ∀ c ∈ cs, c < n) : cs.length ≤ n := by
  rw [← (cells_perm nd lt).length_eq]
  exact Nat.le_trans (List.length_filter_le _ _) (by rw [List.length_range]; omega)
theorem sort_cells {n : Nat} {cs : List Nat} {ms : List Int} (p : ms.Perm (cs.map fun b => ((b : Nat) : Int))) (so : ms.Pairwise (· ≤ ·)) (nd : cs.Nodup) (lt : ∀ c ∈ cs, c < n) : ms = ((List.range n).filter fun b => decide (b ∈ cs)).map fun b => ((b : Nat) : Int) := by
  have pw : ((List.range n).filter fun b => decide (b ∈ cs)).Pairwise (· < ·) := (List.pairwise_lt_range (n := n)).filter _
  have pn := cells_perm nd lt
  refine List.Perm.eq_of_pairwise (le := (· ≤ ·)) (fun a b _ _ h1 h2 => by omega) so ?_ (p.trans (pn.symm.map _))
  rw [List.pairwise_map]
  exact pw.imp fun h => by omega
/-- the cells that a deed moves, ascending -/
def mvF (n : Nat) (hs cs : List Nat) (hd : Int) : List Nat := ((List.range n).filter fun b => decide (b ∈ cs)).filter fun b => !decide (((hsAt hs b : Nat) : Int) = hd)
section
variable {P : Program} {w : World} {K : PySem.W.Frag} {mg : Str → Option Value} {base : Heap} {a : AdL} {S : Addr}
/-- a deed of right shape that goes stands at t -/
structure GoV (H : Hp) (t : Addr) (n : Nat) (cs : List Nat) (hd : Nat) (tl : List (Nat × Nat)) : Prop where
  at_ : ∃ b tt ts, H t = some (.tup [.str "goes", .ref b, .int (hd : Nat), .ref tt]) ∧ SqOf H b (ints_ cs) ∧ SqOf H tt (ts.map V.ref) ∧ TAt H ts (pairs tl)
  nd : cs.Nodup
  lt : ∀ c ∈ cs, c < n
theorem GoV.same {H H' : Hp} {t : Addr} {n : Nat} {cs : List Nat} {hd : Nat} {tl : List (Nat × Nat)} (h : GoV H t n cs hd tl) (e : Same H H') : GoV H' t n cs hd tl := by
  obtain ⟨b, tt, ts, h1, h2, h3, h4⟩ := h.at_
  exact ⟨⟨b, tt, ts, e _ _ h1, h2.same e, h3.same e, TAt.same e h4⟩, h.nd, h.lt⟩
def spMov (a : AdL) (S : Addr) : Sp := fun vs H Q _ => ∃ (s l t : Addr) (n : Nat) (es : List (Nat × Nat)) (rd hs : List Nat) (tab : List (List Nat)) (cs : List Nat) (hd : Nat) (tl : List (Nat × Nat)), vs = [.ref s, .ref t] ∧ StateO a.C S H s l n es rd hs tab ∧ GoV H t n cs hd tl ∧ ∀ H' u, Same H H' → H u = none → H' u = some (.tup (ints_ (mvF n hs cs hd))) → Q (.ref u) H'
theorem ok_mov (clsS : Cls K S) (nS : ∀ f ∈ sfields, NoAttr K S f) {f : Addr} {fd : FuncData} (F : Fun K "_moving" "_moving" s__moving f fd) (m_tuple : mg "tuple" = none) (m_sorted : mg "sorted" = none) : FnOk P w K mg base CX0 1 f fd ["state", "deed"] (spMov a S) := by
  refine F.ok sc__moving (fun vs H Q E h => ?_) (fun cdv A outer s H vs Q E hr h => ?_)
  · obtain ⟨s, l, t, n, es, rd, hs, tab, cs, hd, tl, rfl, _⟩ := h
    rfl
  · obtain ⟨s, l, t, n, es, rd, hs, tab, cs, hd, tl, rfl, W, G, q⟩ := h
    refine ⟨_, (pss_cons (ps_if (pt_cmpR (op_ne) (pe_ix ix_tup (pv 1) pe_int (fun _ _ => rfl)) pe_str (nomark _))
  (pss_one (ps_ret (pe_tup pa_nil)))
  pss_nil)
 (pss_one (ps_ret (pe_callTy call_tuple_of (by rfl) m_tuple boot_tuple (pa_cons (pe_lc (own := [("cell", 2)]) (g := gName 2) rfl sc__moving.nd (pi_list (pe_callB K7S.cr_sortA (by rfl) m_sorted boot_sorted (pa_cons (pe_ix ix_tup (pv 1) pe_int (fun _ _ => rfl)) pa_nil))) (blkOk_by (own := [("cell", 2)]) (N := N__moving) (sc := defScope s__moving) (by decide +kernel)) (fun _ _ _ _ _ => (pg_name (i := 2) sc__moving.nd rfl (by first | exact Or.inl rfl | exact Or.inr rfl))) (fun _ _ _ _ _ => (pts_one (pt_cmpR op_ne (pe_ix (show IxR _ (rIxT K) from ix_tup) (show PE _ _ (tFld K (tVar 0) "hands") from pe_fld (pv 0) rfl) (pv 2) (fun _ _ => rfl)) (pe_ix (show IxR _ (rIxT K) from ix_tup) (pv 1) pe_int (fun _ _ => rfl)) (nomark _)))) (fun _ _ _ _ _ => (pv 2))) pa_nil))))), ?_⟩
    obtain ⟨b, tt, ts, h1, h2, h3, h4⟩ := G.at_
    obtain ⟨dx, th, tb, rs, s1, s2, s3, s4⟩ := W.at_
    refine ⟨_, rfl, t, _, 0, .str "goes", rfl, rfl, .inl (.inl h1), atI_nat (j := 0) rfl, rfl, _, rfl, iteFo (by decide) ?_⟩
    have c5 : cs.length ≤ 5 := Nat.le_trans (cells_len G.nd G.lt) W.ld.n5
    refine ⟨_, rfl, t, _, 1, .ref b, rfl, rfl, .inl (.inl h1), atI_nat (j := 1) rfl, b, cs.map fun b => ((b : Nat) : Int), rfl, ?_, by rw [List.length_map]; omega, fun ms p pm so np => ?_⟩
    · have z := h2.sq (K := K)
      unfold ints_ at z
      rw [List.map_map]
      exact z
    have em := sort_cells pm so G.nd G.lt
    subst em
    have sp := same_new (o := .lst ((((List.range n).filter fun b => decide (b ∈ cs)).map fun b => ((b : Nat) : Int)).map V.int)) (Same.refl H) np
    generalize hF : ((List.range n).filter fun b => decide (b ∈ cs)) = fs at sp
    generalize hL : upd H p (.lst ((fs.map fun b => ((b : Nat) : Int)).map V.int)) = H1 at sp ⊢
    have hp : H1 p = some (.lst ((fs.map fun b => ((b : Nat) : Int)).map V.int)) := by rw [← hL, upd_same]
    have fn : ∀ b ∈ fs, b < n := fun b hb => by rw [← hF] at hb; exact List.mem_range.mp (List.mem_filter.mp hb).1
    have fl : fs.length ≤ 5 := by rw [← hF]; exact Nat.le_trans (List.length_filter_le _ _) (by rw [List.length_range]; exact W.ld.n5)
    refine ⟨p, rfl, ⟨_, .inl (.inl hp)⟩, fun D hD => lc_list (xs := (fs.map fun b => ((b : Nat) : Int)).map V.int) (fun j H2 => Same H1 H2 ∧ H2 D = some (.lst (ints_ ((fs.take j).filter fun b => !decide (((hsAt hs b : Nat) : Int) = ((hd : Nat) : Int)))))) ⟨same_new (Same.refl _) hD, upd_same⟩ (fun j H2 _ pv => .inl (.inl (pv.1 _ _ hp))) (fun j x H2 hx pv => ?_) (fun H2 pv => ?_)⟩
    · obtain ⟨e2, hD2⟩ := pv
      rw [List.map_map, List.getElem?_map] at hx
      obtain ⟨c, hc, rfl⟩ := Option.map_eq_some_iff.mp hx
      have cn := fn c (List.mem_of_getElem? hc)
      have e02 := sp.trans e2
      refine ⟨rfl, _, rfl, s, S, dx, _, _, rfl, e02 _ _ s1, clsS, nS _ (by decide), rfl, _, rfl, th, _, _, _, rfl, rfl, .inl (.inl (e02 _ _ s2)), atI_nat (W.st.hat cn), ?_⟩
      refine ⟨_, rfl, t, _, 2, .int (hd : Nat), rfl, rfl, .inl (.inl (e02 _ _ h1)), atI_nat (j := 2) rfl, rfl, _, rfl, ?_⟩
      have dv : (!decide (V.int ((hsAt hs c : Nat) : Int) = V.int ((hd : Nat) : Int))) = (!decide (((hsAt hs c : Nat) : Int) = ((hd : Nat) : Int))) := by
        congr 1
        exact decide_eq_decide.mpr ⟨fun h => by injection h, fun h => by rw [h]⟩
      have ts1 : (fs.take (j + 1)).filter (fun b => !decide (((hsAt hs b : Nat) : Int) = ((hd : Nat) : Int))) = (fs.take j).filter (fun b => !decide (((hsAt hs b : Nat) : Int) = ((hd : Nat) : Int))) ++ (if (!decide (((hsAt hs c : Nat) : Int) = ((hd : Nat) : Int))) = true then [c] else []) := by
        rw [List.take_add_one, hc, List.filter_append, Option.toList_some, List.filter_cons, List.filter_nil]
      rw [dv]
      refine iteB (fun t1 => ?_) (fun t1 => ?_)
      · refine ⟨_, rfl, _, hD2, by unfold ints_; rw [List.length_map]; exact small1000 (Nat.le_trans (List.length_filter_le _ _) (by rw [List.length_take]; omega)), fun b z hb => ?_, ?_⟩
        · rw [upd_ne (ne_of_none hb hD)]
          exact e2 _ _ hb
        · rw [upd_same, ts1, if_pos t1, ints_snoc]
          rfl
      · refine ⟨e2, ?_⟩
        rw [ts1, if_neg (by rw [t1]; decide), List.append_nil]
        exact hD2
    · obtain ⟨e2, hD2⟩ := pv
      rw [List.take_of_length_le (by rw [List.length_map, List.length_map]; exact Nat.le_refl _)] at hD2
      refine ⟨D, _, rfl, .inl ⟨.inl (.inl hD2), fun u nu => q _ u ((sp.trans e2).trans (same_new (Same.refl H2) nu)) ((sp.trans e2).free nu) ?_⟩⟩
      rw [upd_same]
      unfold mvF
      rw [hF]
end
end K7
end
/-! ## P24 -/
section
open PySem PySem.Spec PyProof.Rows L2
namespace K7
abbrev N_hands_behind : List Str := ["state", "deed", "moving", "a", "hand"]
abbrev s_hands_behind : Stmt := topS 42
theorem sc_hands_behind : FnScope ["state", "deed", "moving", "a", "hand"] ["state", "deed"] (defScope s_hands_behind) := ⟨rfl, rfl, rfl, by decide +kernel, rfl, by decide +kernel, by decide +kernel⟩
/-! ### the hands behind a deed that goes -/
def hbF (n : Nat) (hs cs : List Nat) (hd : Nat) : List Nat := (List.range n).map fun b => if b ∈ cs then hd else hsAt hs b
theorem mv_mem {n : Nat} {hs cs : List Nat} {hd : Nat} {b : Nat} (hb : b < n) : b ∈ mvF n hs cs hd ↔ b ∈ cs ∧ hsAt hs b ≠ hd := by
  unfold mvF
  rw [List.mem_filter, List.mem_filter, List.mem_range, decide_eq_true_iff, Bool.not_eq_true', decide_eq_false_iff_not]
  exact ⟨fun h => ⟨h.1.2, fun e => h.2 (by rw [e])⟩, fun h => ⟨⟨hb, h.1⟩, fun e => h.2 (by omega)⟩⟩
section
variable {P : Program} {w : World} {K : PySem.W.Frag} {mg : Str → Option Value} {base : Heap} {a : AdL} {S : Addr}
def spHb (a : AdL) (S : Addr) : Sp := fun vs H Q _ => ∃ (s l t : Addr) (n : Nat) (es : List (Nat × Nat)) (rd hs : List Nat) (tab : List (List Nat)) (cs : List Nat) (hd : Nat) (tl : List (Nat × Nat)), vs = [.ref s, .ref t] ∧ StateO a.C S H s l n es rd hs tab ∧ GoV H t n cs hd tl ∧ ∀ H' u, Same H H' → H u = none → H' u = some (.tup (ints_ (hbF n hs cs hd))) → Q (.ref u) H'
theorem ok_hb (clsS : Cls K S) (nS : ∀ f ∈ sfields, NoAttr K S f) {f fM : Addr} {fd fdM : FuncData} (F : Fun K "hands_behind" "hands_behind" s_hands_behind f fd)
    (Gmv : FnOk P w K mg base CX0 1 fM fdM ["state", "deed"] (spMov a S)) (gmv : mg "_moving" = some (.ref fM)) (kmv : PySem.W.keepIn K (.ref fM) = true) (bmv : Binds K fdM ["state", "deed"] [])
    (m_tuple : mg "tuple" = none) (m_enumerate : mg "enumerate" = none) : FnOk P w K mg base CX0 2 f fd ["state", "deed"] (spHb a S) := by
  refine F.ok sc_hands_behind (fun vs H Q E h => ?_) (fun cdv A outer s H vs Q E hr h => ?_)
  · obtain ⟨s, l, t, n, es, rd, hs, tab, cs, hd, tl, rfl, _⟩ := h
    rfl
  · obtain ⟨s, l, t, n, es, rd, hs, tab, cs, hd, tl, rfl, W, G, q⟩ := h
    refine ⟨_, (pss_cons (ps_set (i := 2) sc_hands_behind.nd rfl (by first | exact Or.inl rfl | exact Or.inr rfl) (pe_call Gmv (hr.mono (by decide)) (by rfl) gmv kmv bmv .nil pass0 (pa_cons (pv 0) (pa_cons (pv 1) pa_nil))))
 (pss_one (ps_ret (pe_callTy call_tuple_of (by rfl) m_tuple boot_tuple (pa_cons (pe_lc (own := [("a", 3), ("hand", 4)]) (g := gTup K 2 (gCons (gName 3) (gCons (gName 4) (gNil)))) (tt := tYes) rfl sc_hands_behind.nd (K7E.pi_enumT (by rfl) m_enumerate (pa_cons (pe_fld (pv 0) rfl) pa_nil)) (blkOk_by (own := [("a", 3), ("hand", 4)]) (N := N_hands_behind) (sc := defScope s_hands_behind) (by decide +kernel)) (fun _ _ _ _ _ => (pg_tup rfl (pgs_cons (pg_name (i := 3) sc_hands_behind.nd rfl (by first | exact Or.inl rfl | exact Or.inr rfl)) (pgs_cons (pg_name (i := 4) sc_hands_behind.nd rfl (by first | exact Or.inl rfl | exact Or.inr rfl)) pgs_nil)))) (fun _ _ _ _ _ => pts_nil) (fun _ _ _ _ _ => (pe_ifExp (pt_cmpR (show OpR _ _ (rIn K false) from op_in_seq) (pv 3) (pv 2) (by with_unfolding_all rfl)) (pe_ix (show IxR _ (rIxT K) from ix_tup) (pv 1) pe_int (fun _ _ => rfl)) (pv 4)))) pa_nil))))), ?_⟩
    refine ⟨_, rfl, _, rfl, s, l, t, n, es, rd, hs, tab, cs, hd, tl, rfl, W, G, fun H1 m e1 nm hm => ?_⟩
    obtain ⟨b, tt, ts, h1, h2, h3, h4⟩ := (G.same e1).at_
    obtain ⟨dx, th, tb, rs, s1, s2, s3, s4⟩ := (W.same e1).at_
    have il : (ints_ hs).length = n := by unfold ints_; rw [List.length_map, W.st.hl]
    have n5 := W.ld.n5
    refine ⟨_, rfl, s, S, dx, _, _, rfl, s1, clsS, nS _ (by decide), rfl, th, _, rfl, .inl (.inl s2), fun D hD => lc_it (K7E.walk_enumT (xs := ints_ hs)) (fun j H2 => Same H1 H2 ∧ H2 D = some (.lst (ints_ ((List.range j).map fun b => if b ∈ cs then hd else hsAt hs b)))) ⟨same_new (Same.refl H1) hD, upd_same⟩ (fun j H2 _ pv => .inl (.inl (pv.1 _ _ s2))) (fun j x H2 H3 hj pv hy => ?_) (fun H2 pv => ?_)⟩
    · obtain ⟨e2, hD2⟩ := pv
      obtain ⟨T', x', y', rfl, nT, rfl, e3, e4⟩ := hy
      obtain rfl := Option.some.inj e3
      have jn : j < n := by rw [← il]; exact hj
      obtain rfl := Option.some.inj ((W.st.hat jn).symm.trans e4)
      have sT := same_new (o := .tup [.int (j : Nat), .int (hsAt hs j : Nat)]) (Same.refl H2) nT
      have e23 := e2.trans sT
      have hD3 := sT _ _ hD2
      refine ⟨T', _, rfl, .inl (.inl upd_same), rfl, _, _, rfl, _, _, rfl, rfl, rfl, ?_⟩
      have fin : ∀ k : Nat, k = (if j ∈ cs then hd else hsAt hs j) → ∃ acc, (upd H2 T' (.tup [.int (j : Nat), .int (hsAt hs j : Nat)])) D = some (HO.lst acc) ∧ acc.length < sizeLine ∧ Same H1 (upd (upd H2 T' (.tup [.int (j : Nat), .int (hsAt hs j : Nat)])) D (HO.lst (acc ++ [.int (k : Nat)]))) ∧ upd (upd H2 T' (.tup [.int (j : Nat), .int (hsAt hs j : Nat)])) D (HO.lst (acc ++ [.int (k : Nat)])) D = some (HO.lst (ints_ ((List.range (j + 1)).map fun b => if b ∈ cs then hd else hsAt hs b))) := fun k hk => by
        refine ⟨_, hD3, by unfold ints_; rw [List.length_map, List.length_map, List.length_range]; exact small1000 (by omega), fun b' z hb' => ?_, ?_⟩
        · rw [upd_ne (ne_of_none hb' hD)]
          exact e23 _ _ hb'
        · rw [upd_same, List.range_succ, List.map_append, hk, ← ints_snoc]
          rfl
      refine ⟨_, rfl, _, rfl, m, _, rfl, .inr (.inl (.inl (e23 _ _ hm))), rfl, flat_ints _, _, rfl, ite2 (fun d => ?_) (fun d => ?_)⟩
      · have hm2 := (mv_mem jn).mp (of_decide_eq_true ((inV_ints j _).symm.trans d))
        exact ⟨_, rfl, t, _, 2, .int (hd : Nat), rfl, rfl, .inl (.inl (e23 _ _ h1)), atI_nat (j := 2) rfl, fin hd (by rw [if_pos hm2.1])⟩
      · have hm2 : ¬ (j ∈ cs ∧ hsAt hs j ≠ hd) := fun z => d ((inV_ints j _).trans (decide_eq_true ((mv_mem jn).mpr z)))
        refine ⟨_, rfl, fin (hsAt hs j) ?_⟩
        by_cases z : j ∈ cs
        · rw [if_pos z]
          exact Decidable.byContradiction fun z2 => hm2 ⟨z, z2⟩
        · rw [if_neg z]
    · obtain ⟨e2, hD2⟩ := pv
      rw [il] at hD2
      exact ⟨D, _, rfl, .inl ⟨.inl (.inl hD2), fun u nu => q _ u ((e1.trans e2).trans (same_new (Same.refl H2) nu)) ((e1.trans e2).free nu) upd_same⟩⟩
end
end K7
end
/-! ## P25 -/
section
open PySem PySem.Spec PyProof.Rows L2
namespace K7
abbrev N__check_lots : List Str := ["kind", "cells", "others", "b"]
abbrev s__check_lots : Stmt := topS 44
theorem sc__check_lots : FnScope ["kind", "cells", "others", "b"] ["kind", "cells", "others"] (defScope s__check_lots) := ⟨rfl, rfl, rfl, by decide +kernel, rfl, by decide +kernel, by decide +kernel⟩
/-! ### the lots of a step -/
theorem cells_lot0 {n : Nat} {lot : List Nat} (h1 : ∀ c ∈ lot, c < n) (h2 : lot.Nodup) : cellsV (n : Nat) (ints_ lot) 0 = true := by
  unfold cellsV
  have e1 : (ints_ lot).all (fun x => wholeV x 0 (((n : Nat) : Int) - 1)) = true := by
    refine List.all_eq_true.mpr fun x hx => ?_
    obtain ⟨c, hc, rfl⟩ := List.mem_map.mp hx
    have := h1 c hc
    rw [wholeV_int, decide_eq_true (by omega), decide_eq_true (by omega)]
    rfl
  have e2 : ((ints_ lot).map intOf).Nodup := by
    unfold ints_
    rw [List.map_map, List.nodup_iff_pairwise_ne, List.pairwise_map]
    refine (List.nodup_iff_pairwise_ne.mp h2).imp fun {a b} ne e => ne ?_
    have e : ((a : Nat) : Int) = ((b : Nat) : Int) := e
    omega
  have e3 : (ints_ lot).length = lot.length := List.length_map ..
  rw [e1, decide_eq_true e2, e3, decide_eq_true (by omega)]
  rfl
section
variable {P : Program} {w : World} {K : PySem.W.Frag} {mg : Str → Option Value} {base : Heap} {a : AdL}
structure LotsOk (z : Str) (cs os : List Nat) : Prop where
  c5 : ∀ c ∈ cs, c < 5
  o5 : ∀ c ∈ os, c < 5
  cn : cs.Nodup
  on : os.Nodup
  dj : ∀ b ∈ os, b ∉ cs
  ne : cs = [] → z = "leave" ∧ os ≠ []
def spChL : Sp := fun vs H Q _ => ∃ (z : Str) (c o : Addr) (cs os : List Nat), vs = [.str z, .ref c, .ref o] ∧ SqOf H c (ints_ cs) ∧ SqOf H o (ints_ os) ∧ LotsOk z cs os ∧ ∀ H', Same H H' → Q .non H'
theorem ok_chl {tM : Tok} (gM : mg "MOST_CELLS" = some (.int 5 tM)) {f fC : Addr} {fd fdC : FuncData} (F : Fun K "_check_lots" "_check_lots" s__check_lots f fd)
    (Gac : FnOk P w K mg base CX0 2 fC fdC ["many", "thing", "least"] (spCells K)) (gac : mg "are_cells" = some (.ref fC)) (kac : PySem.W.keepIn K (.ref fC) = true) (bac : Binds K fdC ["many", "thing", "least"] [])
    (m_len : mg "len" = none) : FnOk P w K mg base CX0 3 f fd ["kind", "cells", "others"] spChL := by
  refine F.ok sc__check_lots (fun vs H Q E h => ?_) (fun cdv A outer s H vs Q E hr h => ?_)
  · obtain ⟨z, c, o, cs, os, rfl, _⟩ := h
    rfl
  · obtain ⟨z, c, o, cs, os, rfl, hc, ho, L, q⟩ := h
    refine ⟨_, (pss_cons (ps_if (pt_not (pt_val (pe_call Gac (hr.mono (by decide)) (by rfl) gac kac bac .nil pass0 (pa_cons (pe_glob (v := .int 5) rfl gM ⟨_, rfl⟩) (pa_cons (pv 1) (pa_cons pe_int pa_nil))))))
  (pss_one ps_never)
  pss_nil)
 (pss_cons (ps_if (pt_not (pt_val (pe_call Gac (hr.mono (by decide)) (by rfl) gac kac bac .nil pass0 (pa_cons (pe_glob (v := .int 5) rfl gM ⟨_, rfl⟩) (pa_cons (pv 2) (pa_cons pe_int pa_nil))))))
  (pss_one ps_never)
  pss_nil)
 (pss_cons (ps_if (pw_and (pt_cmpR op_eq (pe_callB call_len_seq (by rfl) m_len boot_len (pa_cons (pv 1) pa_nil)) pe_int (nomark _)) (pw_and1 (pw_or (pt_cmpR op_ne (pv 0) pe_str (nomark _)) (pw_or1 (pt_cmpR op_eq (pe_callB call_len_seq (by rfl) m_len boot_len (pa_cons (pv 2) pa_nil)) pe_int (nomark _)))).pt)).pt
  (pss_one ps_never)
  pss_nil)
 (pss_one (ps_if (pt_truth (pe_lc (own := [("b", 3)]) (g := gName 3) rfl sc__check_lots.nd (K7E.pi_either (pi_tup (pv 2)) (pi_list (pv 2))) (blkOk_by (own := [("b", 3)]) (N := N__check_lots) (sc := defScope s__check_lots) (by decide +kernel)) (fun _ _ _ _ _ => (pg_name (i := 3) sc__check_lots.nd rfl (by first | exact Or.inl rfl | exact Or.inr rfl))) (fun _ _ _ _ _ => (pts_one (pt_cmpR (show OpR _ _ (rIn K false) from op_in_seq) (pv 3) (pv 1) (by with_unfolding_all rfl)))) (fun _ _ _ _ _ => (pv 3))) (by intro _; rfl))
  (pss_one ps_never)
  pss_nil))))), ?_⟩
    have thg : ∀ {H2 : Hp} (ys : List Nat), ∀ y ∈ ints_ ys, Thing H2 y := fun ys y hy => by
      obtain ⟨k, _, rfl⟩ := List.mem_map.mp hy
      exact .flat (.int _)
    have lc : (ints_ cs).length < 64 := by unfold ints_; rw [List.length_map]; exact Nat.lt_of_le_of_lt (cells_len L.cn L.c5) (by decide)
    have lo : (ints_ os).length < 64 := by unfold ints_; rw [List.length_map]; exact Nat.lt_of_le_of_lt (cells_len L.on L.o5) (by decide)
    refine ⟨_, rfl, 5, .ref c, 0, rfl, .inr ⟨c, _, rfl, hc, thg cs, lc, fun H1 e1 => ?_⟩⟩
    rw [show cellsV 5 (ints_ cs) 0 = true from cells_lot0 (n := 5) L.c5 L.cn]
    refine ⟨_, rfl, ?_⟩
    refine ⟨_, rfl, 5, .ref o, 0, rfl, .inr ⟨o, _, rfl, ho.same e1, thg os, lo, fun H2 e2 => ?_⟩⟩
    rw [show cellsV 5 (ints_ os) 0 = true from cells_lot0 (n := 5) L.o5 L.on]
    have e12 := e1.trans e2
    refine ⟨_, rfl, ?_⟩
    refine ⟨_, rfl, c, ints_ cs, rfl, (hc.same e12).sq, rfl, _, rfl, ?_⟩
    have ol : os ≠ [] → ¬ ((ints_ os).length : Int) = 0 := fun ne e => ne (List.length_eq_zero_iff.mp (by unfold ints_ at e; rw [List.length_map] at e; omega))
    by_cases hcs : cs = []
    all_goals first
      | (have hL := L.ne hcs
         refine iteTo (by rw [hcs]; rfl) ?_
         refine ⟨_, rfl, rfl, _, rfl, iteFo (by rw [hL.1]; decide) ?_⟩
         refine ⟨_, rfl, o, ints_ os, rfl, (ho.same e12).sq, rfl, _, rfl, iteFo (decide_eq_false fun e => ol hL.2 (by injection e)) ?_⟩)
      | refine iteFo (decide_eq_false fun e => hcs (List.length_eq_zero_iff.mp (by injection e with e; unfold ints_ at e; rw [List.length_map] at e; omega))) ?_
    all_goals
      rcases ho.same e12 with z1 | z1
      · refine .inl ⟨_, rfl, o, rfl, ⟨_, .inl (.inl z1)⟩, fun D hD => lc_tup (xs := ints_ os) (fun j H3 => Same H2 H3 ∧ H3 D = some (.lst [])) ⟨same_new (Same.refl H2) hD, upd_same⟩ (fun j H3 _ pv => .inl (.inl (pv.1 _ _ z1))) (fun j x H3 hx pv => ?_) (fun H3 pv => ?_)⟩
        · obtain ⟨e3, hD3⟩ := pv
          unfold ints_ at hx
          rw [List.getElem?_map] at hx
          obtain ⟨b, hb, rfl⟩ := Option.map_eq_some_iff.mp hx
          have nb := L.dj b (List.mem_of_getElem? hb)
          refine ⟨rfl, _, rfl, _, rfl, c, ints_ cs, rfl, ((hc.same e12).same e3).sq, rfl, flat_ints _, _, rfl, iteFo ((inV_ints b cs).trans (decide_eq_false nb)) ⟨e3, hD3⟩⟩
        · obtain ⟨e3, hD3⟩ := pv
          exact ⟨false, .inl ⟨[], .inl (.inl hD3), rfl⟩, q H3 (e12.trans e3)⟩
      · refine .inr ⟨_, rfl, o, rfl, ⟨_, .inl (.inl z1)⟩, fun D hD => lc_list (xs := ints_ os) (fun j H3 => Same H2 H3 ∧ H3 D = some (.lst [])) ⟨same_new (Same.refl H2) hD, upd_same⟩ (fun j H3 _ pv => .inl (.inl (pv.1 _ _ z1))) (fun j x H3 hx pv => ?_) (fun H3 pv => ?_)⟩
        · obtain ⟨e3, hD3⟩ := pv
          unfold ints_ at hx
          rw [List.getElem?_map] at hx
          obtain ⟨b, hb, rfl⟩ := Option.map_eq_some_iff.mp hx
          have nb := L.dj b (List.mem_of_getElem? hb)
          refine ⟨rfl, _, rfl, _, rfl, c, ints_ cs, rfl, ((hc.same e12).same e3).sq, rfl, flat_ints _, _, rfl, iteFo ((inV_ints b cs).trans (decide_eq_false nb)) ⟨e3, hD3⟩⟩
        · obtain ⟨e3, hD3⟩ := pv
          exact ⟨false, .inl ⟨[], .inl (.inl hD3), rfl⟩, q H3 (e12.trans e3)⟩
end
end K7
end
/-! ## P26 -/
section
open PySem PySem.Spec PyProof.Rows L2
namespace K7
abbrev N_Step___init__ : List Str := ["self", "kind", "cells", "others"]
abbrev s_Step___init__ : Stmt := inClass (topS 45) 0
theorem sc_Step___init__ : FnScope ["self", "kind", "cells", "others"] ["self", "kind", "cells", "others"] (defScope s_Step___init__) := ⟨rfl, rfl, rfl, by decide +kernel, rfl, by decide +kernel, by decide +kernel⟩
/-! ### a step is made -/
def srt5 (cs : List Nat) : List Nat := (List.range 5).filter fun b => decide (b ∈ cs)
def spFs (z : Str) (tc to : Addr) : List (Str × V) := [("kind", .str z), ("cells", .ref tc), ("others", .ref to)]
def pfields : List Str := ["kind", "cells", "others"]
structure StepO (C : Addr) (H : Hp) (p : Addr) (z : Str) (cs os : List Nat) : Prop where
  at_ : ∃ dx tc to, H p = some (.ins C dx (spFs z tc to)) ∧ H tc = some (.tup (ints_ (srt5 cs))) ∧ H to = some (.tup (ints_ (srt5 os)))
theorem StepO.same {C : Addr} {H H' : Hp} {p : Addr} {z : Str} {cs os : List Nat} (h : StepO C H p z cs os) (e : Same H H') : StepO C H' p z cs os := by
  obtain ⟨dx, tc, to, h1, h2, h3⟩ := h.at_
  exact ⟨⟨dx, tc, to, e _ _ h1, e _ _ h2, e _ _ h3⟩⟩
theorem sq_int {K : PySem.W.Frag} {H : Hp} {c : Addr} {cs : List Nat} (h : SqOf H c (ints_ cs)) : SqL K H c ((cs.map fun b => ((b : Nat) : Int)).map V.int) ∨ SqT K H c ((cs.map fun b => ((b : Nat) : Int)).map V.int) := by
  have z := h.sq (K := K)
  unfold ints_ at z
  rw [List.map_map]
  exact z
theorem FunD_okN {P : Program} {w : World} {K : PySem.W.Frag} {mg : Str → Option Value} {base : Heap} {x qual : Str} {params : Arguments} {body : List Stmt} {scope : Scope} {dvs : List V} {kws : List (Str × V)} {f : Addr} {fd : FuncData} {N ps : List Str} {k : Nat} {sp : Sp} (F : FunD K x qual params body scope dvs kws f fd) (S : FnScope N ps scope) (len : ∀ vs H Q E, sp vs H Q E → vs.length = ps.length)
    (hbody : ∀ (cdv : Value) (A : Around) (outer : List Env) (s : Shared) (H : Hp) (vs : List V) (Q : VK) (E : XK), Room k (A.deeper (envOfC qual scope s.heap.objs.size f cdv)) → sp vs H Q E →
      ∃ t, PSs (cxOf CX0 P w K mg base N qual scope f cdv A outer s H E).nox body t ∧ t { nx := fun _ H' => Q .non H', rt := Q } (start N vs) H) : FnOk P w K mg base CX0 (k + 1) f fd ps sp :=
  F.ok S len fun cdv A outer s H vs Q E hr h => let ⟨t, p, q⟩ := hbody cdv A outer s H vs Q E hr h; ⟨t, p.nox, q⟩
section
variable {P : Program} {w : World} {K : PySem.W.Frag} {mg : Str → Option Value} {base : Heap}
def spStep (K : PySem.W.Frag) : Sp := fun vs H Q _ => ∃ (x dx C c o : Addr) (z : Str) (cs os : List Nat), vs = [.ref x, .str z, .ref c, .ref o] ∧ Cls K C ∧ (∀ f ∈ pfields, NoAttr K C f) ∧ H x = some (.ins C dx []) ∧ SqOf H c (ints_ cs) ∧ SqOf H o (ints_ os) ∧ LotsOk z cs os ∧ ∀ H', But x H H' → StepO C H' x z cs os → Q .non H'
theorem ok_step {e0 f fC : Addr} {fd fdC : FuncData} (F : FunD K "__init__" "Step.__init__" (defArgs s_Step___init__) (defBody s_Step___init__) (defScope s_Step___init__) [.ref e0] [] f fd)
    (Gcl : FnOk P w K mg base CX0 3 fC fdC ["kind", "cells", "others"] spChL) (gcl : mg "_check_lots" = some (.ref fC)) (kcl : PySem.W.keepIn K (.ref fC) = true) (bcl : Binds K fdC ["kind", "cells", "others"] [])
    (m_tuple : mg "tuple" = none) (m_sorted : mg "sorted" = none) : FnOk P w K mg base CX0 4 f fd ["self", "kind", "cells", "others"] (spStep K) := by
  refine FunD_okN F sc_Step___init__ (fun vs H Q E h => ?_) (fun cdv A outer s H vs Q E hr h => ?_)
  · obtain ⟨x, dx, C, c, o, z, cs, os, rfl, _⟩ := h
    rfl
  · obtain ⟨x, dx, C, c, o, z, cs, os, rfl, cls, nA, hx, hc, ho, L, q⟩ := h
    refine ⟨_, (pss_cons (ps_expr (pe_call Gcl (hr.mono (by decide)) (by rfl) gcl kcl bcl .nil pass0 (pa_cons (pv 1) (pa_cons (pv 2) (pa_cons (pv 3) pa_nil)))))
 (pss_cons (ps_fld (pv 0) (pv 1) rfl)
 (pss_cons (ps_fld (pv 0) (pe_callTy (show CallR _ (.type "tuple") (rTup_ K) from call_tuple_of) (by rfl) m_tuple boot_tuple (pa_cons (pe_callB K7S.cr_sortA (by rfl) m_sorted boot_sorted (pa_cons (pv 2) pa_nil)) pa_nil)) rfl)
 (pss_one (ps_fld (pv 0) (pe_callTy (show CallR _ (.type "tuple") (rTup_ K) from call_tuple_of) (by rfl) m_tuple boot_tuple (pa_cons (pe_callB K7S.cr_sortA (by rfl) m_sorted boot_sorted (pa_cons (pv 3) pa_nil)) pa_nil)) rfl))))), ?_⟩
    refine ⟨_, rfl, _, rfl, _, rfl, z, c, o, cs, os, rfl, hc, ho, L, fun H1 e1 => ?_⟩
    have hx1 := e1 _ _ hx
    refine ⟨_, rfl, _, rfl, x, C, dx, _, rfl, hx1, cls, nA _ (by decide), by show 0 < 1000; decide, ?_⟩
    have b2 : But x H (upd H1 x (.ins C dx (putF "kind" (.str z) []))) := fun b y nb hb => by
      rw [upd_ne nb]
      exact e1 _ _ hb
    have hx2 : upd H1 x (.ins C dx (putF "kind" (.str z) [])) x = some (.ins C dx [("kind", .str z)]) := upd_same
    have hc2 := (hc.same e1).ni hx1 (.ins C dx (putF "kind" (.str z) []))
    have ho2 := (ho.same e1).ni hx1 (.ins C dx (putF "kind" (.str z) []))
    generalize upd H1 x (.ins C dx (putF "kind" (.str z) [])) = H2 at b2 hx2 hc2 ho2 ⊢
    have no : ∀ (xs : List V) (C dx : Addr) fs, HO.tup xs ≠ .ins C dx fs := fun _ _ _ _ e => by cases e
    have lc : (cs.map fun b => ((b : Nat) : Int)).length < 64 := by rw [List.length_map]; exact Nat.lt_of_le_of_lt (cells_len L.cn L.c5) (by decide)
    have lo : (os.map fun b => ((b : Nat) : Int)).length < 64 := by rw [List.length_map]; exact Nat.lt_of_le_of_lt (cells_len L.on L.o5) (by decide)
    have im : ∀ l : List Nat, (l.map fun b => ((b : Nat) : Int)).map V.int = ints_ l := fun l => by unfold ints_; rw [List.map_map]; rfl
    -- the cells
    refine ⟨_, rfl, c, _, rfl, sq_int hc2, lc, fun ms p pm so np => ?_⟩
    have em := sort_cells pm so L.cn L.c5
    subst em
    refine ⟨p, _, rfl, .inl ⟨.inl (.inl upd_same), fun u nu => ?_⟩⟩
    have su := same_new (o := .tup (((srt5 cs).map fun b => ((b : Nat) : Int)).map V.int)) (same_new (o := .lst (((srt5 cs).map fun b => ((b : Nat) : Int)).map V.int)) (Same.refl H2) np) nu
    have hu : upd (upd H2 p (.lst (((srt5 cs).map fun b => ((b : Nat) : Int)).map V.int))) u (.tup (((srt5 cs).map fun b => ((b : Nat) : Int)).map V.int)) u = some (.tup (ints_ (srt5 cs))) := by rw [upd_same, im]
    refine ⟨_, rfl, x, C, dx, _, rfl, su _ _ hx2, cls, nA _ (by decide), by show 1 < 1000; decide, ?_⟩
    have hx3 := su _ _ hx2
    have b3 := b2.same su
    have ho3 := ho2.same su
    change _ = _ at hu
    generalize hH : upd (upd H2 p (.lst (((srt5 cs).map fun b => ((b : Nat) : Int)).map V.int))) u (.tup (((srt5 cs).map fun b => ((b : Nat) : Int)).map V.int)) = H3 at su hu hx3 b3 ho3
    have hH' : upd (upd H2 p (HO.lst (List.map V.int (List.map (fun b => ((b : Nat) : Int)) (List.filter (fun b => decide (b ∈ cs)) (List.range 5)))))) u (HO.tup (List.map V.int (List.map (fun b => ((b : Nat) : Int)) (List.filter (fun b => decide (b ∈ cs)) (List.range 5))))) = H3 := hH
    rw [hH']
    have b4 := b3.put (.ins C dx (putF "cells" (.ref u) [("kind", .str z)]))
    have hx4 : upd H3 x (.ins C dx (putF "cells" (.ref u) [("kind", .str z)])) x = some (.ins C dx [("kind", .str z), ("cells", .ref u)]) := upd_same
    have hu4 : upd H3 x (.ins C dx (putF "cells" (.ref u) [("kind", .str z)])) u = some (.tup (ints_ (srt5 cs))) := keepNI hx3 hu (no _)
    have ho4 := ho3.ni hx3 (.ins C dx (putF "cells" (.ref u) [("kind", .str z)]))
    generalize upd H3 x (.ins C dx (putF "cells" (.ref u) [("kind", .str z)])) = H4 at b4 hx4 hu4 ho4 ⊢
    -- the others
    refine ⟨_, rfl, o, _, rfl, sq_int ho4, lo, fun ms p' pm so np' => ?_⟩
    have em := sort_cells pm so L.on L.o5
    subst em
    refine ⟨p', _, rfl, .inl ⟨.inl (.inl upd_same), fun v nv => ?_⟩⟩
    have sv := same_new (o := .tup (((srt5 os).map fun b => ((b : Nat) : Int)).map V.int)) (same_new (o := .lst (((srt5 os).map fun b => ((b : Nat) : Int)).map V.int)) (Same.refl H4) np') nv
    have hv : upd (upd H4 p' (.lst (((srt5 os).map fun b => ((b : Nat) : Int)).map V.int))) v (.tup (((srt5 os).map fun b => ((b : Nat) : Int)).map V.int)) v = some (.tup (ints_ (srt5 os))) := by rw [upd_same, im]
    refine ⟨_, rfl, x, C, dx, _, rfl, sv _ _ hx4, cls, nA _ (by decide), by show 2 < 1000; decide, ?_⟩
    refine q _ ((b4.same sv).put _) ⟨⟨dx, u, v, upd_same, keepNI (sv _ _ hx4) (sv _ _ hu4) (no _), keepNI (sv _ _ hx4) hv (no _)⟩⟩
end
end K7
end
/-! ## P27 -/
section
open PySem PySem.Spec PyProof.Rows L2
namespace K7
abbrev N__law_turned : List Str := ["_law_hand_here", "_law_things", "_law_left", "_law_found", "_law_k"]
abbrev s__law_turned : Stmt := topS 61
theorem sc__law_turned : FnScope ["_law_hand_here", "_law_things", "_law_left", "_law_found", "_law_k"] ["_law_hand_here", "_law_things"] (defScope s__law_turned) := ⟨rfl, rfl, rfl, by decide +kernel, rfl, by decide +kernel, by decide +kernel⟩
theorem erase_permA {α : Type} : ∀ (l : List α) (j : Nat) (h : j < l.length), (l[j] :: l.eraseIdx j).Perm l
  | x :: l, 0, _ => List.Perm.refl _
  | x :: l, j + 1, h => by
    have z := erase_permA l j (by rw [List.length_cons] at h; omega)
    exact (List.Perm.swap x _ _).trans (z.cons x)
theorem pop_permA {α : Type} {names left : List α} {j : Nat} (h : j < left.length) : ((names ++ [left[j]]) ++ left.eraseIdx j).Perm (names ++ left) := by
  rw [List.append_assoc]
  refine List.Perm.append_left names ?_
  exact erase_permA left j h
section
variable {P : Program} {w : World} {K : PySem.W.Frag} {mg : Str → Option Value} {base : Heap}
/-! ### what the law turns about -/
def spTurn : Sp := fun vs H Q _ => ∃ (h c q : Addr) (own : List V), vs = [.ref h, .ref q] ∧ Hand H h c ∧ SqOf H q own ∧ own.length ≤ 32 ∧
  ∀ H' o own', Stay h c H H' → H o = none → SqOf H' o own' → own'.Perm own → Q (.ref o) H'
theorem ok_turn {f fdr : Addr} {fd fddr : FuncData} (F : Fun K "_law_turned" "_law_turned" s__law_turned f fd)
    (Gdr : FnOk P w K mg base CX0 2 fdr fddr ["_law_hand_here", "_law_many"] spDraw) (gdr : mg "_law_draw" = some (.ref fdr)) (kdr : PySem.W.keepIn K (.ref fdr) = true) (bdr : Binds K fddr ["_law_hand_here", "_law_many"] [])
    (m_range : mg "range" = none) (m_len : mg "len" = none) (m_list : mg "list" = none) (m_tuple : mg "tuple" = none) : FnOk P w K mg base CX0 3 f fd ["_law_hand_here", "_law_things"] spTurn := by
  refine F.ok sc__law_turned (fun vs H Q E h => ?_) (fun cdv A outer s H vs Q E hr h => ?_)
  · obtain ⟨h, c, q, own, rfl, _⟩ := h
    rfl
  · obtain ⟨h, c, t, own, rfl, hh, ht, l10, q⟩ := h
    refine ⟨_, (pss_cons (ps_par (by rfl) sc__law_turned.nd (i := 2) (j := 3) rfl rfl (by decide) rfl rfl (pa_cons (pe_callTy call_list_of (by rfl) m_list boot_list (pa_cons (pv 1) pa_nil)) (pa_cons (pe_lst pa_nil) pa_nil)) (by rfl))
 (Evl.pss_cut (ps_for PassesOwn.never rfl (pi_range1 rfl m_range (pa_cons (pe_callB call_len_seq (by rfl) m_len boot_len (pa_cons (pv 2) pa_nil)) pa_nil)) (pg_name (i := 4) sc__law_turned.nd rfl (by first | exact Or.inl rfl | exact Or.inr rfl))
  (pss_one (ps_expr (pe_bm PySem.F.plainAttrs_list PySem.F.slot_list_append PySem.F.type_list_append mt_append (pv 3) (pa_cons (pe_bm PySem.F.plainAttrs_list PySem.F.slot_list_pop PySem.F.type_list_pop mt_popAt (pv 2) (pa_cons (pe_call Gdr (hr.mono (by decide)) (by rfl) gdr kdr bdr .nil pass0 (pa_cons (pv 0) (pa_cons (pe_callB call_len_seq (by rfl) m_len boot_len (pa_cons (pv 2) pa_nil)) pa_nil))) pa_nil)) pa_nil)))))
 (pss_one (ps_ret (pe_ifExp (pt_cmpR op_eq (pe_call Gdr (hr.mono (by decide)) (by rfl) gdr kdr bdr .nil pass0 (pa_cons (pv 0) (pa_cons pe_int pa_nil))) pe_int (nomark _)) (pv 3) (pe_callTy call_tuple_of (by rfl) m_tuple boot_tuple (pa_cons (pv 3) pa_nil))))))), ?_⟩
    refine ⟨_, rfl, t, _, rfl, ht.sq, fun Lf nLf => ?_⟩
    have e1 := al (o := .lst (own)) nLf
    have hL1 : upd H Lf (.lst own) Lf = some (.lst own) := upd_same
    obtain ⟨hLh, hLc⟩ := hh.ne nLf
    generalize upd H Lf (.lst own) = H1 at e1 hL1 ⊢
    refine ⟨by show 0 ≤ sizeLine; decide, fun N0 nN => ?_⟩
    have nNL : N0 ≠ Lf := (ne_of_none hL1 nN).symm
    have fN : H N0 = none := e1.free nN
    obtain ⟨hNh, hNc⟩ := hh.ne fN
    have e2 := e1.trans (al (o := .lst []) nN)
    have hN2 : upd H1 N0 (.lst []) N0 = some (.lst []) := upd_same
    have hL2 : upd H1 N0 (.lst []) Lf = some (.lst own) := (al (o := .lst []) nN) _ _ hL1
    generalize upd H1 N0 (.lst []) = H2 at e2 hN2 hL2 ⊢
    refine ⟨_, _, rfl, ?_⟩
    have lim : ∀ {xs : List V} {k : Nat}, xs.length ≤ k → k ≤ 1000 → xs.length < sizeLine := fun {xs k} h1 h2 => small1000 (Nat.le_trans h1 h2)
    refine ⟨fun σ' H' => ∃ nm y4, σ' = [some (.ref h), some (.ref t), some (.ref Lf), some (.ref N0), y4] ∧ Stay h c H H' ∧ H' N0 = some (.lst nm) ∧ nm.Perm own, ?_, ?_⟩
    · refine ⟨_, rfl, Lf, _, rfl, .inl (.inl (.inl hL2)), _, rfl, by omega, by omega, ?_⟩
      refine for_range (fun k σ' H' => k ≤ own.length ∧ ∃ nm lf y4, σ' = [some (.ref h), some (.ref t), some (.ref Lf), some (.ref N0), y4] ∧ Stay h c H H' ∧ H' N0 = some (.lst nm) ∧ H' Lf = some (.lst lf) ∧ (nm ++ lf).Perm own ∧ nm.length = k)
        ⟨Nat.zero_le _, [], own, none, rfl, .of_same hh e2, hN2, hL2, List.Perm.refl _, rfl⟩ (fun k σ' H' hk pv => ?_) (fun σ' H' pv => ?_)
      · obtain ⟨_, nm, lf, y4, rfl, st, hN, hL, hp, hl⟩ := pv
        have hk : k < own.length := by simpa using hk
        have hll : lf.length = own.length - k := by
          have := hp.length_eq
          rw [List.length_append] at this
          omega
        refine ⟨_, rfl, .inl ⟨rfl, _, .inl (.inl hN)⟩, _, rfl, .inl ⟨rfl, _, .inl (.inl hL)⟩, _, rfl, _, rfl, Lf, _, rfl, .inl (.inl (.inl hL)), h, c, _, rfl, st.hand, by omega, ?_, fun H4 x d x0 x1 => ?_⟩
        · exact Int.lt_of_le_of_lt (show ((lf.length : Nat) : Int) ≤ 1000 by omega) (by decide)
        obtain ⟨j, rfl⟩ : ∃ j : Nat, x = (j : Int) := ⟨x.toNat, by omega⟩
        have hj : j < lf.length := by omega
        have hN4 : H4 N0 = some (.lst nm) := by rw [d.but N0 hNh]; exact hN
        have hL4 : H4 Lf = some (.lst lf) := by rw [d.but Lf hLh]; exact hL
        refine ⟨Lf, _, _, j, lf[j], rfl, rfl, hL4, by omega, by omega, (ixN_seq (ixN_nat (by omega))).1, ?_, ?_⟩
        · rw [List.getElem?_eq_getElem hj]
        have hN5 : upd H4 Lf (.lst (lf.eraseIdx j)) N0 = some (.lst nm) := by rw [upd_ne nNL]; exact hN4
        refine ⟨N0, _, _, rfl, rfl, hN5, lim (Nat.le_of_eq hl) (by omega), ?_⟩
        refine ⟨by omega, nm ++ [lf[j]], lf.eraseIdx j, _, rfl, ⟨fun b o nb hb => ?_, hh, ((d.hand.upd hLh hLc).upd hNh hNc)⟩, ?_, ?_, (pop_permA hj).trans hp, by rw [List.length_append, hl]; rfl⟩
        · rw [upd_ne (ne_of_none hb fN), upd_ne (ne_of_none hb nLf), d.but b nb]
          exact st.but b o nb hb
        · rw [upd_same]
        · rw [upd_ne nNL.symm, upd_same]
      · obtain ⟨_, nm, lf, y4, rfl, st, hN, hL, hp, hl⟩ := pv
        have hl : nm.length = own.length := by simpa using hl
        have l0 : lf = [] := by
          have := hp.length_eq
          rw [List.length_append] at this
          exact List.length_eq_zero_iff.mp (by omega)
        subst l0
        rw [List.append_nil] at hp
        exact ⟨nm, y4, rfl, st, hN, hp⟩
    rintro _ H4 ⟨nm, y4, rfl, st4, hN, hp⟩
    refine ⟨_, rfl, h, c, 2, rfl, st4.hand, by decide, by decide, fun H5 r d5 r0 r1 => ?_⟩
    have st5 := st4.drawn d5
    have hN5 : H5 N0 = some (.lst nm) := by rw [d5.but N0 hNh]; exact hN
    refine ⟨rfl, _, rfl, ?_⟩
    refine iteB (fun _ => ?_) (fun _ => ?_)
    · exact ⟨_, rfl, q H5 N0 nm st5 fN (.inr hN5) hp⟩
    · refine ⟨_, rfl, N0, _, rfl, .inl ⟨.inl (.inl hN5), fun u nu => ?_⟩⟩
      exact q _ u nm (st5.same (al nu)) (st5.free nu) (.inl upd_same) hp
end
end K7
end
/-! ## SS -/
section
namespace K7Z
open PySem PySem.Spec PyProof.Rows L2
section
variable {P : Program} {w : World} {A : Around} {E : Value → Shared → Prop} {s : Shared}
/-- a built-in type is called: what __new__ and __init__ do -/
theorem type_called {T newId initId : String} {args : List Value} {Q Q₁ : Value → Shared → Prop} (ft : TypeCalled T newId initId) (hct : checkTypeCall T ⟨args, []⟩ = pure ())
    (made : codeAny (model P w) A.in1 (.call (.builtin newId) ⟨.type T :: args, []⟩) (wants Q₁ E) s)
    (begun : ∀ o s₁, Q₁ o s₁ → s₁.TypeIs o T ∧ codeAny (model P w) A.in1 (.call (.builtin initId) ⟨o :: args, []⟩) (wants (fun r s₂ => r = .none ∧ Q o s₂) E) s₁) :
    wpAny (model P w) A (call (.type T) args) Q E s := by
  obtain ⟨c0, tl0, mro0⟩ := ft.mro
  have a1 := ft.made
  have a2 := ft.sub
  have a3 := ft.notType
  have a4 := ft.canCreate
  refine wpAny_call (codeAny_of_tree (show wpAny _ _ (callAny (.type T) _) _ _ _ from ?_))
  refine wpAny_pure ⟨Code.quiet_builtin _ (by decide +kernel), codeAny_builtin F.entry_type_call ?_⟩
  rw [Around.under_plain (weight_type_call_type T args []) rfl]
  repeat (any_goals (first | assumption | wp_step))
  refine codeAny_mono made fun r s₁ hr => ?_
  match r, hr with
  | .ok (.ret o), hr =>
    obtain ⟨ty, go⟩ := begun _ _ hr
    have b1 := ft.init.lookup
    have b2 := ft.init.bind o
    repeat (any_goals (first | assumption | wp_step))
    refine codeAny_mono go fun r₂ s₂ h2 => ?_
    match r₂, h2 with
    | .ok (.ret v), h2 =>
      obtain ⟨rfl, q⟩ := h2
      repeat (any_goals (first | assumption | wp_step))
    | .error e, h2 => exact h2
    | .ok .next, h2 => exact h2.elim
    | .ok .brk, h2 => exact h2.elim
    | .ok .cont, h2 => exact h2.elim
  | .error e, hr => exact hr
  | .ok .next, hr => exact hr.elim
  | .ok .brk, hr => exact hr.elim
  | .ok .cont, hr => exact hr.elim
/-- the empty set that set.__new__ lays -/
def emptyS (w : World) : Obj := { cls := .type "set", dict := none, data := .set #[] 0 (.fresh 0 0 (!w.params.followText "set-order")) }
/-- set(xs) of a list of ints: the set with its places (as SetR wants it) -/
theorem set_of_list {l : Addr} {items : Array Value} (ns : List Int) {Q : Value → Shared → Prop} (hh : A.handled = none) (hl : s.heap.IsList l items) (hit : IntsAre items.toList ns) (hb : ns.length + 1 < scanBound)
    (h : ∀ (h' : Heap) (tk c : Nat), SetR w h' s.heap.objs.size (fun j => decide (j ∈ ns)) c → c ≤ ns.length → (∀ b o, s.heap.get? b = some o → h'.get? b = some o) → Q (.ref s.heap.objs.size) { s with heap := h', toks := tk }) :
    wpAny (model P w) A (call (.type "set") [.ref l]) Q E s := by
  have size_is : items.size = ns.length := by
    have q := hit.length
    rwa [Array.length_toList] at q
  refine type_called F.called_set (F.typeCall_set_1 _) (code_set_led1 (.ref l) (Q₁ := fun o t => o = .ref s.heap.objs.size ∧ t = { s with heap := s.heap.push (emptyS w) }) ⟨rfl, rfl⟩) ?_
  rintro o t ⟨rfl, rfl⟩
  have at0 : (s.heap.push (emptyS w)).get? s.heap.objs.size = some (emptyS w) := Heap.get?_push_size _ rfl
  have ty : Shared.TypeIs { s with heap := s.heap.push (emptyS w) } (.ref s.heap.objs.size) "set" := ⟨_, at0, rfl⟩
  refine ⟨ty, codeAny_call_builtin F.called_set.init.plain F.entry_set_init (check_set_init_1 ty ?_)⟩
  obtain ⟨⟨oc, od, odt, osl⟩, ho, hc, n, hd⟩ := hl
  simp only at hc hd
  subst hc hd
  have ho1 : (s.heap.push (emptyS w)).get? l = some ⟨.type "list", od, .seq items n, osl⟩ := Heap.get?_push_of_some _ ho
  have l1 : (s.heap.push (emptyS w)).IsList l items := ⟨_, ho1, rfl, n, rfl⟩
  have lt : l < s.heap.objs.size := Heap.lt_size ho
  have sz : (s.heap.push (emptyS w)).objs.size = s.heap.objs.size + 1 := Heap.size_push ..
  have u1 := F.sub_list_set
  have u2 := F.sub_list_frozenset
  have u3 : (Value.type "list" == Value.type "dict") = false := by decide
  unfold Builtin.«set.__init__» noKeywords Builtin.Frozenset.updateFrom
  generalize hPI : pyIter = PI
  wp_walk
  subst hPI
  refine wpAny_pyIter_list l1 (wpAny_bind (wpAny_runValue ?_))
  have hand3 : A.in1.in1.in1.handled = none := by simp [hh]
  have ne1 : l ≠ (s.heap.push (emptyS w)).objs.size := fun e => absurd (e.trans sz) (Nat.ne_of_lt (Nat.lt_succ_of_lt lt))
  have apart : s.heap.objs.size ∉ [(s.heap.push (emptyS w)).objs.size, l] := fun m => by
    rcases List.mem_cons.mp m with e | e
    · rw [sz] at e; exact absurd e (Nat.ne_of_lt (Nat.lt_succ_self _))
    · exact absurd (List.mem_singleton.mp e) (Nat.ne_of_gt lt)
  have each : ∀ (i : Nat) (v : Value), items[i]? = some v → ∃ k t, ns[i]? = some k ∧ v = .int k t := fun i v hv => by
    have hi : i < ns.length := size_is ▸ (Array.getElem?_eq_some_iff.mp hv).1
    obtain ⟨t, e⟩ := PyProof.Rows.IntsAre.int_at hit i v (by rw [Array.getElem?_toList]; exact hv)
    refine ⟨ns[i], t, List.getElem?_eq_getElem hi, ?_⟩
    rw [e, List.getD_eq_getElem?_getD, List.getElem?_eq_getElem hi] <;> rfl
  refine set_update_ints ((Walks.list hand3 _ l ne1 items).toS) s.heap.objs.size apart ns size_is hb each (items.size - 0) 0 _ (by omega) (Nat.zero_le _) ⟨⟨_, Heap.get?_push_size _ rfl, rfl, rfl⟩, l1.push _⟩ ⟨0, Nat.le_refl 0, setR_new_at (Heap.get?_push_of_some _ at0)⟩ ?_
  intro s' c' hm hc' hS'
  obtain ⟨h', g', d', tk', os'⟩ := s'
  obtain rfl : g' = s.gens := hm.gens
  obtain rfl : d' = s.drawn := hm.drawn
  obtain rfl : os' = s.os := hm.os
  rw [size_is] at hc'
  show wpAny _ _ _ _ _ _
  refine wpAny_pure (show wpAny _ _ (ret Value.none) _ _ _ from wpAny_pure ⟨rfl, h h' tk' c' hS' hc' fun b o e => ?_⟩)
  have b0 : b < s.heap.objs.size := Heap.lt_size e
  refine hm.heap b o (fun m => ?_) (Heap.get?_push_of_some _ (Heap.get?_push_of_some _ e))
  rcases List.mem_cons.mp m with e | e
  · exact absurd e (Nat.ne_of_lt b0)
  · have e' := List.mem_singleton.mp e
    exact absurd (e'.trans sz) (Nat.ne_of_lt (Nat.lt_succ_of_lt b0))
end
section
variable {X : Cx}
/-- set(xs) of a list of ints, as a value -/
def rSetLI (K : PySem.W.Frag) (w : World) : List V → Hp → VK → Prop := fun xs H Q => ∃ (l : Addr) (ns : List Int), xs = [V.ref l] ∧ SqL K H l (ns.map V.int) ∧ ns.length < 64 ∧
  ∀ a c, H a = none → c ≤ ns.length → Q (.ref a) (upd H a (SetO w a (fun j => decide (j ∈ ns)) c))
theorem cr_setLI (hc : X.calm = true) : CallR X (.type "set") (rSetLI X.K X.w) := by
  intro pins s σ H xs us Q I r h
  obtain ⟨l, ns, rfl, hl, hf, q⟩ := h
  rw [Vals.ref1 r]
  obtain ⟨its, rv, pl, hz⟩ := I.list hl
  have hn : H s.heap.objs.size = none := I.hok.fresh (Nat.le_refl _)
  refine set_of_list (P := X.prog) (w := X.w) ns (I.ok.hd hc) pl.isList (ints_of_vals rv) (by unfold scanBound; omega) fun h' tk c R hcn k => ?_
  exact ⟨.ref s.heap.objs.size, upd H s.heap.objs.size (SetO X.w s.heap.objs.size (fun j => decide (j ∈ ns)) c), I.laid (t' := tk) k (Nat.le_refl _) (setO_new R), rfl, q _ c hn hcn⟩
end
end K7Z
end
/-! ## P28 -/
section
open PySem PySem.Spec PyProof.Rows L2
namespace K7
abbrev N__hands_of : List Str := ["state", "cells", "cell"]
abbrev s__hands_of : Stmt := topS 38
theorem sc__hands_of : FnScope ["state", "cells", "cell"] ["state", "cells"] (defScope s__hands_of) := ⟨rfl, rfl, rfl, by decide +kernel, rfl, by decide +kernel, by decide +kernel⟩
/-! ### the hands of cells, each once -/
section
variable {P : Program} {w : World} {K : PySem.W.Frag} {mg : Str → Option Value} {base : Heap} {a : AdL} {S : Addr}
/-- the hands of these cells, ascending, each once -/
structure HsO (hs cs : List Nat) (ns : List Int) : Prop where
  up : ns.Pairwise (· < ·)
  mem : ∀ k : Int, k ∈ ns ↔ ∃ c ∈ cs, k = ((hsAt hs c : Nat) : Int)
def spHo (a : AdL) (S : Addr) : Sp := fun vs H Q _ => ∃ (s l b : Addr) (n : Nat) (es : List (Nat × Nat)) (rd hs : List Nat) (tab : List (List Nat)) (cs : List Nat), vs = [.ref s, .ref b] ∧ StateO a.C S H s l n es rd hs tab ∧ SqOf H b (ints_ cs) ∧ (∀ c ∈ cs, c < n) ∧ cs.length < 64 ∧
  ∀ H' p ns, Same H H' → H p = none → H' p = some (.lst (ns.map V.int)) → HsO hs cs ns → ns.length < 64 → Q (.ref p) H'
theorem ok_ho (clsS : Cls K S) (nS : ∀ f ∈ sfields, NoAttr K S f) {f : Addr} {fd : FuncData} (F : Fun K "_hands_of" "_hands_of" s__hands_of f fd) (m_set : mg "set" = none) (m_sorted : mg "sorted" = none) : FnOk P w K mg base CX0 1 f fd ["state", "cells"] (spHo a S) := by
  refine F.ok sc__hands_of (fun vs H Q E h => ?_) (fun cdv A outer s H vs Q E hr h => ?_)
  · obtain ⟨s, l, b, n, es, rd, hs, tab, cs, rfl, _⟩ := h
    rfl
  · obtain ⟨s, l, b, n, es, rd, hs, tab, cs, rfl, W, hb, lt, l64, q⟩ := h
    refine ⟨_, (pss_one (ps_ret (pe_callB (cr_sortedSet rfl) (by rfl) m_sorted boot_sorted (pa_cons (pe_callTy (K7Z.cr_setLI rfl) (by rfl) m_set boot_set (pa_cons (pe_lc (own := [("cell", 2)]) (g := gName 2) (tt := tYes) rfl sc__hands_of.nd (K7E.pi_either (pi_tup (pv 1)) (pi_list (pv 1))) (blkOk_by (own := [("cell", 2)]) (N := N__hands_of) (sc := defScope s__hands_of) (by decide +kernel)) (fun _ _ _ _ _ => (pg_name (i := 2) sc__hands_of.nd rfl (by first | exact Or.inl rfl | exact Or.inr rfl))) (fun _ _ _ _ _ => pts_nil) (fun _ _ _ _ _ => (pe_ix (show IxR _ (rIxT K) from ix_tup) (show PE _ _ (tFld K (tVar 0) "hands") from pe_fld (pv 0) rfl) (pv 2) (fun _ _ => rfl)))) pa_nil)) pa_nil)))), ?_⟩
    obtain ⟨dx, th, tb, rs, s1, s2, s3, s4⟩ := W.at_
    have el : (cs.map fun c => (.int (hsAt hs c : Nat) : V)) = (cs.map fun c => ((hsAt hs c : Nat) : Int)).map V.int := by rw [List.map_map]; rfl
    have fin : ∀ D H2, Same H H2 → H2 D = some (.lst (cs.map fun c => (.int (hsAt hs c : Nat) : V))) → tCB (rSortedSet w) (tCons (tCB (K7Z.rSetLI K w) (fun σ H Q => Q [.ref D] H)) tNil) (L2.start ["state", "cells", "cell"] [V.ref s, V.ref b]) H2 Q := fun D H2 e2 hD => by
      refine ⟨D, cs.map fun c => ((hsAt hs c : Nat) : Int), rfl, .inl (.inl (by rw [hD, el])), by rw [List.length_map]; exact l64, fun p c np hc => ?_⟩
      refine ⟨p, _, _, rfl, upd_same, by rw [List.length_map] at hc; omega, fun ns u up mem len nu => ?_⟩
      have e3 := (e2.trans (same_new (Same.refl H2) np)).trans (same_new (o := .lst (ns.map V.int)) (Same.refl _) nu)
      have nuH : H u = none := by
        rcases hH : H u with _ | o
        · rfl
        · rw [(e2.trans (same_new (Same.refl H2) np)) _ _ hH] at nu
          cases nu
      refine q _ u ns e3 nuH upd_same ⟨up, fun k => ?_⟩ (by rw [len]; rw [List.length_map] at hc; omega)
      rw [mem k, decide_eq_true_iff, List.mem_map]
      exact ⟨fun ⟨c, h1, h2⟩ => ⟨c, h1, h2.symm⟩, fun ⟨c, h1, h2⟩ => ⟨c, h1, h2.symm⟩⟩
    rcases hb with z | z
    · refine .inl ⟨_, rfl, b, rfl, ⟨_, .inl (.inl z)⟩, fun D hD => lc_tup (xs := ints_ cs) (fun j H2 => Same H H2 ∧ H2 D = some (.lst ((cs.take j).map fun c => (.int (hsAt hs c : Nat) : V)))) ⟨same_new (Same.refl H) hD, upd_same⟩ (fun j H2 _ pv => .inl (.inl (pv.1 _ _ z))) (fun j x H2 hx pv => ?_) (fun H2 pv => ?_)⟩
      · obtain ⟨e2, hD2⟩ := pv
        unfold ints_ at hx
        rw [List.getElem?_map] at hx
        obtain ⟨c, hc, rfl⟩ := Option.map_eq_some_iff.mp hx
        have cn := lt c (List.mem_of_getElem? hc)
        refine ⟨rfl, _, rfl, s, S, dx, _, _, rfl, e2 _ _ s1, clsS, nS _ (by decide), rfl, _, rfl, th, _, _, _, rfl, rfl, .inl (.inl (e2 _ _ s2)), atI_nat (W.st.hat cn), ?_⟩
        refine ⟨_, hD2, by rw [List.length_map, List.length_take]; exact small1000 (by omega), fun b' o hb' => ?_, ?_⟩
        · rw [upd_ne (ne_of_none hb' hD)]
          exact e2 _ _ hb'
        · rw [upd_same, List.take_add_one, hc, List.map_append]
          rfl
      · obtain ⟨e2, hD2⟩ := pv
        rw [List.take_of_length_le (by unfold ints_; rw [List.length_map]; exact Nat.le_refl _)] at hD2
        exact fin D H2 e2 hD2
    · refine .inr ⟨_, rfl, b, rfl, ⟨_, .inl (.inl z)⟩, fun D hD => lc_list (xs := ints_ cs) (fun j H2 => Same H H2 ∧ H2 D = some (.lst ((cs.take j).map fun c => (.int (hsAt hs c : Nat) : V)))) ⟨same_new (Same.refl H) hD, upd_same⟩ (fun j H2 _ pv => .inl (.inl (pv.1 _ _ z))) (fun j x H2 hx pv => ?_) (fun H2 pv => ?_)⟩
      · obtain ⟨e2, hD2⟩ := pv
        unfold ints_ at hx
        rw [List.getElem?_map] at hx
        obtain ⟨c, hc, rfl⟩ := Option.map_eq_some_iff.mp hx
        have cn := lt c (List.mem_of_getElem? hc)
        refine ⟨rfl, _, rfl, s, S, dx, _, _, rfl, e2 _ _ s1, clsS, nS _ (by decide), rfl, _, rfl, th, _, _, _, rfl, rfl, .inl (.inl (e2 _ _ s2)), atI_nat (W.st.hat cn), ?_⟩
        refine ⟨_, hD2, by rw [List.length_map, List.length_take]; exact small1000 (by omega), fun b' o hb' => ?_, ?_⟩
        · rw [upd_ne (ne_of_none hb' hD)]
          exact e2 _ _ hb'
        · rw [upd_same, List.take_add_one, hc, List.map_append]
          rfl
      · obtain ⟨e2, hD2⟩ := pv
        rw [List.take_of_length_le (by unfold ints_; rw [List.length_map]; exact Nat.le_refl _)] at hD2
        exact fin D H2 e2 hD2
end
end K7
end
/-! ## P29 -/
section
open PySem PySem.Spec PyProof.Rows L2
namespace K7
abbrev N_deed_fault : List Str := ["state", "deed", "word", "hands", "others"]
abbrev s_deed_fault : Stmt := topS 39
theorem sc_deed_fault : FnScope ["state", "deed", "word", "hands", "others"] ["state", "deed"] (defScope s_deed_fault) := ⟨rfl, rfl, rfl, by decide +kernel, rfl, by decide +kernel, by decide +kernel⟩
/-! ### why a deed cannot be done -/
def oneB (hs cs : List Nat) : Bool := cs.all fun b => cs.all fun c => decide (hsAt hs b = hsAt hs c)
def alikeB (hs cs ds : List Nat) : Bool := (cs.all fun b => ds.any fun c => decide (hsAt hs b = hsAt hs c)) && ds.all fun c => cs.any fun b => decide (hsAt hs b = hsAt hs c)
/-- the word against a deed that says something, None if there is none -/
def sdV (hs cs ds : List Nat) : V := if (oneB hs cs && oneB hs ds) = false then .str "one" else if alikeB hs cs ds then .str "same" else .non
def goV (n : Nat) (hs cs : List Nat) (hd : Nat) : V := if mvF n hs cs hd = [] then .str "still" else .non
theorem eqv_intsI : ∀ l m : List Int, PyData.eqvAll (l.map PyData.int) (m.map PyData.int) = decide (l = m)
  | [], [] => rfl
  | [], _ :: _ => by simp [PyData.eqvAll]
  | _ :: _, [] => by simp [PyData.eqvAll]
  | x :: l, y :: m => by
    rw [List.map_cons, List.map_cons, PyData.eqvAll, eqv_intsI l m]
    by_cases e : x = y
    · subst e
      simp [PyData.eqv]
    · simp [PyData.eqv, e]
theorem dp_intsI {K : PySem.W.Frag} {H : Hp} : ∀ l : List Int, DpAll K H (l.map V.int) (l.map PyData.int)
  | [] => .nil
  | x :: l => .cons (.int _) (dp_intsI l)
theorem shaped_lstI (l : List Int) : SeqAt.shaped (.list (l.map PyData.int)) = true := by
  have h1 : ∀ l : List Int, PyData.canLayAll0 (l.map PyData.int) = true ∧ PyData.depthAll (l.map PyData.int) = 0 := fun l => by
    induction l with
    | nil => exact ⟨by simp [PyData.canLayAll0], by simp [PyData.depthAll]⟩
    | cons x r ih => exact ⟨by simp [PyData.canLayAll0, PyData.canLay0, ih.1], by simp [PyData.depthAll, PyData.depth, ih.2]⟩
  show ((PyData.canLay0 (.list (l.map PyData.int))) && decide (PyData.depth (.list (l.map PyData.int)) ≤ 64)) = true
  simp [PyData.canLay0, PyData.depth, (h1 l).1, (h1 l).2]
/-- a lot of cells, at least one -/
structure LotN (n : Nat) (cs : List Nat) : Prop where
  lt : ∀ c ∈ cs, c < n
  nd : cs.Nodup
  ne : 0 < cs.length
theorem hs_one {hs cs : List Nat} {ns : List Int} (h : HsO hs cs ns) : decide (1 < ns.length) = !oneB hs cs := by
  by_cases o : oneB hs cs = true
  · rw [o]
    refine decide_eq_false fun l => ?_
    have o2 : ∀ b ∈ cs, ∀ c ∈ cs, hsAt hs b = hsAt hs c := fun b hb c hc => by
      have z := List.all_eq_true.mp (List.all_eq_true.mp o b hb) c hc
      exact of_decide_eq_true z
    match ns, h, l with
    | x :: y :: r, h, _ =>
      obtain ⟨b, hb, ex⟩ := (h.mem x).mp List.mem_cons_self
      obtain ⟨c, hc, ey⟩ := (h.mem y).mp (List.mem_cons_of_mem _ List.mem_cons_self)
      have z := (List.pairwise_cons.mp h.up).1 y List.mem_cons_self
      have w := o2 b hb c hc
      omega
  · have o' : oneB hs cs = false := by simpa using o
    rw [o']
    refine decide_eq_true (Decidable.byContradiction fun l => o ?_)
    refine List.all_eq_true.mpr fun b hb => List.all_eq_true.mpr fun c hc => decide_eq_true ?_
    have h1 := (h.mem _).mpr ⟨b, hb, rfl⟩
    have h2 := (h.mem _).mpr ⟨c, hc, rfl⟩
    match ns, l, h1, h2 with
    | [], _, h1, _ => exact absurd h1 List.not_mem_nil
    | [x], _, h1, h2 => have a := List.mem_singleton.mp h1; have b := List.mem_singleton.mp h2; omega
    | x :: y :: r, l, _, _ => exact absurd (show 1 < (x :: y :: r).length by simp) l
theorem hs_alike {hs cs ds : List Nat} {ns ms : List Int} (h : HsO hs cs ns) (g : HsO hs ds ms) : decide (ns = ms) = alikeB hs cs ds := by
  by_cases e : ns = ms
  · subst e
    rw [decide_eq_true rfl]
    symm
    unfold alikeB
    rw [Bool.and_eq_true]
    refine ⟨List.all_eq_true.mpr fun b hb => ?_, List.all_eq_true.mpr fun c hc => ?_⟩
    · obtain ⟨c, hc, z⟩ := (g.mem _).mp ((h.mem _).mpr ⟨b, hb, rfl⟩)
      exact List.any_eq_true.mpr ⟨c, hc, decide_eq_true (by omega)⟩
    · obtain ⟨b, hb, z⟩ := (h.mem _).mp ((g.mem _).mpr ⟨c, hc, rfl⟩)
      exact List.any_eq_true.mpr ⟨b, hb, decide_eq_true (by omega)⟩
  · rw [decide_eq_false e]
    symm
    refine Bool.eq_false_iff.mpr fun z => e ?_
    unfold alikeB at z
    rw [Bool.and_eq_true] at z
    have nd1 : ns.Nodup := h.up.imp fun h => by omega
    have nd2 : ms.Nodup := g.up.imp fun h => by omega
    refine List.Perm.eq_of_pairwise (le := (· ≤ ·)) (fun a b _ _ h1 h2 => by omega) (h.up.imp fun h => by omega) (g.up.imp fun h => by omega) ((List.perm_ext_iff_of_nodup nd1 nd2).mpr fun k => ?_)
    rw [h.mem, g.mem]
    constructor
    · rintro ⟨b, hb, rfl⟩
      obtain ⟨c, hc, w⟩ := List.any_eq_true.mp (List.all_eq_true.mp z.1 b hb)
      exact ⟨c, hc, by rw [of_decide_eq_true w]⟩
    · rintro ⟨c, hc, rfl⟩
      obtain ⟨b, hb, w⟩ := List.any_eq_true.mp (List.all_eq_true.mp z.2 c hc)
      exact ⟨b, hb, by rw [of_decide_eq_true w]⟩
/-- a thing as a deed in a state, and the word against it -/
inductive DfV (K : PySem.W.Frag) (n : Nat) (hs : List Nat) (H : Hp) : V → V → Prop where
  | bad {v : V} {z : Str} (h : ShV K n H v (.str z)) : DfV K n hs H v (.str z)
  | said {t b d : Addr} {z : Str} {cs ds : List Nat} (h : H t = some (.tup [.str z, .ref b, .ref d])) (hz : z = "grant" ∨ z = "gives") (hb : SqOf H b (ints_ cs)) (hd : SqOf H d (ints_ ds)) (lc : LotN n cs) (ld : LotN n ds) : DfV K n hs H (.ref t) (sdV hs cs ds)
  | goes {t : Addr} {cs : List Nat} {hd : Nat} {tl : List (Nat × Nat)} (G : GoV H t n cs hd tl) (ne : 0 < cs.length) (h30 : hd ≤ 10 ^ 30) (tn : tl.Nodup) (t32 : tl.length ≤ 32) (tc : tl.all (coB n) = true) : DfV K n hs H (.ref t) (goV n hs cs hd)
section
variable {P : Program} {w : World} {K : PySem.W.Frag} {mg : Str → Option Value} {base : Heap} {a : AdL} {S : Addr}
def spDf (K : PySem.W.Frag) (a : AdL) (S : Addr) : Sp := fun vs H Q _ => ∃ (s l : Addr) (n : Nat) (es : List (Nat × Nat)) (rd hs : List Nat) (tab : List (List Nat)) (v r : V), vs = [.ref s, v] ∧ StateO a.C S H s l n es rd hs tab ∧ DfV K n hs H v r ∧ ∀ H', Same H H' → Q r H'
theorem ok_df (clsS : Cls K S) (nS : ∀ f ∈ sfields, NoAttr K S f) {f fS fM fO : Addr} {fd fdS fdM fdO : FuncData} (F : Fun K "deed_fault" "deed_fault" s_deed_fault f fd)
    (Gsf : FnOk P w K mg base CX0 6 fS fdS ["land", "deed"] (spShape K a.C)) (gsf : mg "shape_fault" = some (.ref fS)) (ksf : PySem.W.keepIn K (.ref fS) = true) (bsf : Binds K fdS ["land", "deed"] [])
    (Gmv : FnOk P w K mg base CX0 1 fM fdM ["state", "deed"] (spMov a S)) (gmv : mg "_moving" = some (.ref fM)) (kmv : PySem.W.keepIn K (.ref fM) = true) (bmv : Binds K fdM ["state", "deed"] [])
    (Gho : FnOk P w K mg base CX0 1 fO fdO ["state", "cells"] (spHo a S)) (gho : mg "_hands_of" = some (.ref fO)) (kho : PySem.W.keepIn K (.ref fO) = true) (bho : Binds K fdO ["state", "cells"] [])
    (m_len : mg "len" = none) : FnOk P w K mg base CX0 7 f fd ["state", "deed"] (spDf K a S) := by
  refine F.ok sc_deed_fault (fun vs H Q E h => ?_) (fun cdv A outer s H vs Q E hr h => ?_)
  · obtain ⟨s, l, n, es, rd, hs, tab, v, r, rfl, _⟩ := h
    rfl
  · obtain ⟨s, l, n, es, rd, hs, tab, v, r, rfl, W, h, q⟩ := h
    refine ⟨_, (pss_cons (ps_set (i := 2) sc_deed_fault.nd rfl (by first | exact Or.inl rfl | exact Or.inr rfl) (pe_call Gsf (hr.mono (by decide)) (by rfl) gsf ksf bsf .nil pass0 (pa_cons (pe_fld (pv 0) rfl) (pa_cons (pv 1) pa_nil))))
 (pss_cons (ps_if (pt_cmpR op_notN (pv 2) pe_non (nomark _))
  (pss_one (ps_ret (pv 2)))
  pss_nil)
 (pss_cons (ps_if (pt_cmpR (op_eq) (pe_ix ix_tup (pv 1) pe_int (fun _ _ => rfl)) pe_str (nomark _))
  (pss_one (ps_ret (pe_ifExp (pt_truth (pe_call Gmv (hr.mono (by decide)) (by rfl) gmv kmv bmv .nil pass0 (pa_cons (pv 0) (pa_cons (pv 1) pa_nil))) (by intro _; rfl)) pe_non pe_str)))
  pss_nil)
 (pss_cons (ps_set (i := 3) sc_deed_fault.nd rfl (by first | exact Or.inl rfl | exact Or.inr rfl) (pe_call Gho (hr.mono (by decide)) (by rfl) gho kho bho .nil pass0 (pa_cons (pv 0) (pa_cons (pe_ix ix_tup (pv 1) pe_int (fun _ _ => rfl)) pa_nil))))
 (pss_cons (ps_set (i := 4) sc_deed_fault.nd rfl (by first | exact Or.inl rfl | exact Or.inr rfl) (pe_call Gho (hr.mono (by decide)) (by rfl) gho kho bho .nil pass0 (pa_cons (pv 0) (pa_cons (pe_ix ix_tup (pv 1) pe_int (fun _ _ => rfl)) pa_nil))))
 (pss_cons (ps_if (pw_or (pt_cmpR op_gt (pe_callB call_len_seq (by rfl) m_len boot_len (pa_cons (pv 3) pa_nil)) pe_int (nomark _)) (pw_or1 (pt_cmpR op_gt (pe_callB call_len_seq (by rfl) m_len boot_len (pa_cons (pv 4) pa_nil)) pe_int (nomark _)))).pt
  (pss_one (ps_ret pe_str))
  pss_nil)
 (pss_one (ps_ret (pe_ifExp (pt_cmpR (op_eqD hr.units) (pv 3) (pv 4) (nomark _)) pe_str pe_non))))))))), ?_⟩
    obtain ⟨dx, th, tb, rs, s1, s2, s3, s4⟩ := W.at_
    cases h with
    | @bad v z h =>
      refine ⟨_, rfl, s, S, dx, _, _, rfl, s1, clsS, nS _ (by decide), rfl, v, rfl, l, n, v, .str z, rfl, W.ld.c, h, fun H1 e1 => ?_⟩
      refine ⟨_, rfl, rfl, _, rfl, iteTo (by rfl) ?_⟩
      exact ⟨_, rfl, q H1 e1⟩
    | @goes t cs hd tl G ne h30 tn t32 tc =>
      obtain ⟨b, tt, ts, h1, h2, h3, h4⟩ := G.at_
      have cv : cellsV (n : Nat) ((cs.map fun c => ((c : Nat) : Int)).map V.int) 1 = true := by
        have z := cells_lot (n := n) G.lt G.nd ne
        unfold ints_ at z
        rw [List.map_map]
        exact z
      have sh : ShV K n H (.ref t) .non := by
        have z : ShV K n H (.ref t) (goesV n (cs.map fun c => ((c : Nat) : Int)) (hd : Nat) tl) := .goes h1 (by
          have z := h2
          unfold ints_ at z
          rw [List.map_map]
          exact z) h3 h4 tn t32 (by
            have c5 := Nat.le_trans (cells_len G.nd G.lt) W.ld.n5
            rw [List.length_map]; omega)
        unfold goesV at z
        rw [if_neg (by rw [cv]; decide), if_neg (fun z => z ⟨by omega, by omega⟩), if_pos tc] at z
        exact z
      refine ⟨_, rfl, s, S, dx, _, _, rfl, s1, clsS, nS _ (by decide), rfl, .ref t, rfl, l, n, .ref t, .non, rfl, W.ld.c, sh, fun H1 e1 => ?_⟩
      refine ⟨_, rfl, rfl, _, rfl, iteFo (by rfl) ?_⟩
      refine ⟨_, rfl, t, _, 0, .str "goes", rfl, rfl, .inl (.inl (e1 _ _ h1)), atI_nat (j := 0) rfl, rfl, _, rfl, iteTo (by decide) ?_⟩
      refine ⟨_, rfl, _, rfl, s, l, t, n, es, rd, hs, tab, cs, hd, tl, rfl, W.same e1, G.same e1, fun H2 u e2 nu hu => ⟨!(ints_ (mvF n hs cs hd)).isEmpty, .inr (.inl ⟨_, .inl (.inl hu), rfl⟩), ?_⟩⟩
      have e12 := e1.trans e2
      have qq := q H2 e12
      unfold goV at qq
      by_cases em : mvF n hs cs hd = []
      · rw [em, if_pos rfl] at qq
        rw [em]
        exact qq
      · rw [if_neg em] at qq
        have eb : (!(ints_ (mvF n hs cs hd)).isEmpty) = true := by
          cases hm : mvF n hs cs hd with
          | nil => exact absurd hm em
          | cons x r => rfl
        rw [eb]
        exact qq
    | @said t b d z cs ds h hz hb hd lc ld =>
      have lot : ∀ {us : List Nat}, LotN n us → cellsV (n : Nat) ((us.map fun c => ((c : Nat) : Int)).map V.int) 1 = true := fun {us} L => by
        have z := cells_lot (n := n) L.lt L.nd L.ne
        unfold ints_ at z
        rw [List.map_map]
        exact z
      have sq : ∀ {u : Addr} {us : List Nat}, SqOf H u (ints_ us) → SqOf H u ((us.map fun c => ((c : Nat) : Int)).map V.int) := fun {u us} z => by
        unfold ints_ at z
        rw [List.map_map]
        exact z
      have few : ∀ {us : List Nat}, LotN n us → us.length < 64 := fun {us} L => by
        have c5 := Nat.le_trans (cells_len L.nd L.lt) W.ld.n5
        omega
      have sh : ShV K n H (.ref t) .non := by
        have z : ShV K n H (.ref t) (saidV n (cs.map fun c => ((c : Nat) : Int)) (ds.map fun c => ((c : Nat) : Int))) := .said h hz (sq hb) (sq hd) (by rw [List.length_map]; exact few lc) (by rw [List.length_map]; exact few ld)
        unfold saidV at z
        rw [lot lc, lot ld] at z
        exact z
      refine ⟨_, rfl, s, S, dx, _, _, rfl, s1, clsS, nS _ (by decide), rfl, .ref t, rfl, l, n, .ref t, .non, rfl, W.ld.c, sh, fun H1 e1 => ?_⟩
      refine ⟨_, rfl, rfl, _, rfl, iteFo (by rfl) ?_⟩
      refine ⟨_, rfl, t, _, 0, .str z, rfl, rfl, .inl (.inl (e1 _ _ h)), atI_nat (j := 0) rfl, rfl, _, rfl, iteFo (by rcases hz with rfl | rfl <;> decide) ?_⟩
      refine ⟨_, rfl, _, rfl, t, _, 1, .ref b, rfl, rfl, .inl (.inl (e1 _ _ h)), atI_nat (j := 1) rfl, s, l, b, n, es, rd, hs, tab, cs, rfl, W.same e1, hb.same e1, lc.lt, few lc, fun H2 u ns e2 nu hu hO l1 => ?_⟩
      have e12 := e1.trans e2
      refine ⟨_, rfl, _, rfl, t, _, 2, .ref d, rfl, rfl, .inl (.inl (e12 _ _ h)), atI_nat (j := 2) rfl, s, l, d, n, es, rd, hs, tab, ds, rfl, W.same e12, hd.same e12, ld.lt, few ld, fun H3 v ms e3 nv hv gO l2 => ?_⟩
      have e123 := e12.trans e3
      have hu3 := e3 _ _ hu
      have n1 : ∀ {xs : List Nat} {is : List Int}, HsO hs xs is → decide ((1 : Int) < ((is.map V.int).length : Nat)) = !oneB hs xs := fun {xs is} h => by
        rw [← hs_one h, List.length_map]
        exact decide_eq_decide.mpr (by omega)
      have qq := q H3 e123
      unfold sdV at qq
      refine ⟨_, rfl, u, _, rfl, .inl (.inl (.inl hu3)), _, _, rfl, rfl, _, rfl, ?_⟩
      rw [n1 hO]
      by_cases o1 : oneB hs cs = true
      · rw [o1] at qq ⊢
        refine iteFo (by rfl) ⟨_, rfl, v, _, rfl, .inl (.inl (.inl hv)), _, _, rfl, rfl, _, rfl, ?_⟩
        rw [n1 gO]
        by_cases o2 : oneB hs ds = true
        · rw [o2] at qq ⊢
          refine iteFo (by rfl) ⟨_, rfl, _, rfl, _, _, .lst (.inl (.inl hu3)) (dp_intsI ns), .lst (.inl (.inl hv)) (dp_intsI ms), shaped_lstI ns, shaped_lstI ms, ?_⟩
          have ev : PyData.eqv (.list (ns.map PyData.int)) (.list (ms.map PyData.int)) = alikeB hs cs ds := by rw [← hs_alike hO gO, PyData.eqv, eqv_intsI]
          rw [ev]
          refine ⟨_, rfl, ?_⟩
          rw [if_neg (by decide)] at qq
          by_cases al : alikeB hs cs ds = true
          · rw [al] at qq ⊢
            exact qq
          · rw [Bool.eq_false_iff.mpr al] at qq ⊢
            exact qq
        · rw [Bool.eq_false_iff.mpr o2] at qq ⊢
          exact iteTo (by rfl) qq
      · rw [Bool.eq_false_iff.mpr o1] at qq ⊢
        exact iteTo (by rfl) (iteTo (by rfl) qq)
end
end K7
end
/-! ## P30 -/
section
open PySem PySem.Spec PyProof.Rows L2
namespace K7
abbrev N_check_deed : List Str := ["state", "deed", "word"]
abbrev s_check_deed : Stmt := topS 40
theorem sc_check_deed : FnScope ["state", "deed", "word"] ["state", "deed"] (defScope s_check_deed) := ⟨rfl, rfl, rfl, by decide +kernel, rfl, by decide +kernel, by decide +kernel⟩
abbrev N_BadDeed___init__ : List Str := ["self", "what"]
abbrev s_BadDeed___init__ : Stmt := inClass (topS 6) 0
theorem sc_BadDeed___init__ : FnScope ["self", "what"] ["self", "what"] (defScope s_BadDeed___init__) := ⟨rfl, rfl, rfl, by decide +kernel, rfl, by decide +kernel, by decide +kernel⟩
/-! ### a deed that cannot be done is refused -/
structure Tb (K : PySem.W.Frag) (mg : Str → Option Value) (B iB : Addr) : Prop where
  g : mg "BadDeed" = some (.ref B)
  ox : OexC K B
  iC : PySem.W.findIn K (.ref B) "__init__" = some (some (.ref iB))
  tI : PySem.W.typeIn K (.ref iB) = some (.type "function")
  no : PySem.W.findIn K (.ref B) "what" = some none
section
variable {P : Program} {w : World} {K : PySem.W.Frag} {mg : Str → Option Value} {base : Heap} {a : AdL} {S B iB : Addr}
theorem ok_iD (T : Tb K mg B iB) {f : Addr} {fd : FuncData} (F : Fun K "__init__" "BadDeed.__init__" s_BadDeed___init__ f fd) : FnOk P w K mg base (L2.CX P w) 1 f fd ["self", "what"] (spX B "what") := by
  refine F.okX sc_BadDeed___init__ (fun vs H Q E h => ?_) (fun cdv A outer s H vs Q E hr h => ?_)
  · obtain ⟨e, y, rfl, _⟩ := h
    rfl
  · obtain ⟨e, y, rfl, he, q⟩ := h
    refine ⟨_, (pss_one (ps_ost (pv 0) (pv 1))), ?_⟩
    exact ⟨y, rfl, .ref e, rfl, e, B, rfl, T.ox, T.no, .inl ⟨he, fun d hd hn => q d hd hn⟩⟩
def spCkD (K : PySem.W.Frag) (a : AdL) (S B : Addr) : Sp := fun vs H Q E => ∃ (s l : Addr) (n : Nat) (es : List (Nat × Nat)) (rd hs : List Nat) (tab : List (List Nat)) (v r : V), vs = [.ref s, v] ∧ StateO a.C S H s l n es rd hs tab ∧ DfV K n hs H v r ∧ ((r = .non ∧ ∀ H', Same H H' → Q .non H') ∨ ∃ z : Str, r = .str z ∧ Flies H B "what" (.str z) E)
theorem ok_ckd (TB : Tb K mg B iB) {f fD : Addr} {fd fdD fdB : FuncData} (F : Fun K "check_deed" "check_deed" s_check_deed f fd)
    (Gdf : FnOk P w K mg base CX0 7 fD fdD ["state", "deed"] (spDf K a S)) (gdf : mg "deed_fault" = some (.ref fD)) (kdf : PySem.W.keepIn K (.ref fD) = true) (bdf : Binds K fdD ["state", "deed"] [])
    (FB0 : Fun K "__init__" "BadDeed.__init__" s_BadDeed___init__ iB fdB) (bB : Binds K fdB ["self", "what"] []) : FnOk P w K mg base (L2.CX P w) 8 f fd ["state", "deed"] (spCkD K a S B) := by
  have FB : FnOk P w K mg base (L2.CX P w) 1 iB fdB ["self", "what"] (spX B "what") := ok_iD TB FB0
  refine F.okX sc_check_deed (fun vs H Q E h => ?_) (fun cdv A outer s H vs Q E hr h => ?_)
  · obtain ⟨s, l, n, es, rd, hs, tab, v, r, rfl, _⟩ := h
    rfl
  · obtain ⟨s, l, n, es, rd, hs, tab, v, r, rfl, W, h, q⟩ := h
    have hrx : Room (1 + 1) _ := hr.mono (by decide)
    refine ⟨_, (pss_cons (ps_set (i := 2) sc_check_deed.nd rfl (by first | exact Or.inl rfl | exact Or.inr rfl) (pe_call Gdf (hr.mono (by decide)) (by rfl) gdf kdf bdf .nil pass0 (pa_cons (pv 0) (pa_cons (pv 1) pa_nil))))
 (pss_one (ps_if (pt_cmpR op_notN (pv 2) pe_non (nomark _))
  (pss_one (ps_raise rfl (takes_of rfl rfl rfl rfl) (pmk_oex TB.ox TB.iC TB.tI FB hrx bB .nil passL (by rfl) TB.g (pa_cons (pv 2) pa_nil))))
  pss_nil))), ?_⟩
    refine ⟨_, rfl, _, rfl, s, l, n, es, rd, hs, tab, v, r, rfl, W, h, fun H1 e1 => ?_⟩
    rcases q with ⟨rfl, q⟩ | ⟨z, rfl, fl⟩
    · exact ⟨_, rfl, rfl, _, rfl, iteFo (by rfl) (q H1 e1)⟩
    · refine ⟨_, rfl, rfl, _, rfl, iteTo (by rfl) ?_⟩
      exact ⟨_, rfl, by show 1 ≤ 1000; decide, flies_go (fl.later e1)⟩
end
end K7
end
/-! ## SU -/
section
namespace K7Z
open PySem PySem.Spec PyProof.Rows L2 NdefX
/-! ### super().__init__(..) as a method's one statement -/
/-- the method at f of the class D: its function, its code object, its cell __class__ -/
structure SubD (P : Program) (K : PySem.W.Frag) (name qual : Str) (params : Arguments) (body : List Stmt) (scope : Scope) (dvs : List V) (f : Addr) (fd : FuncData) (D c cc : Addr) : Prop where
  ex : ∃ (oc : Value) (od : Option Addr) (dV kV doc pm ct : Value) (an : Option Addr) (osl : Array (Option Value)), fd = PySem.W.ksFn name qual params body scope dV kV doc pm an (.ref c) ct cc ∧ K.lookup f = some ⟨oc, od, .func fd, osl⟩ ∧ DflV K dV dvs
  code : PySem.W.codeIn K (.ref c) qual = true
  file : ∃ (cl : Value) (dd : Option Addr) (vs : Array Value) (sl : Array (Option Value)) (x : Str) (t : Tok), K.lookup c = some ⟨cl, dd, .fields vs, sl⟩ ∧ vs[2]? = some (.str x t) ∧ ((P.main.file : Str) == x) = true
  cell : ∃ (cl : Value) (ld : Option Addr) (sl : Array (Option Value)), K.lookup cc = some ⟨cl, ld, .cell (some (.ref D)), sl⟩
/-- what is true of the class D and of the method that super() finds there -/
structure SubC (P : Program) (K : PySem.W.Frag) (mg : Str → Option Value) (D f0 : Addr) : Prop where
  cls : ∃ cd, PySem.W.clsIn K D = some cd
  sub : PySem.W.mroIn K D (.ref D) = some true
  up : PySem.W.ks_superIn K D D "__init__" = some (some (.ref f0))
  ty : PySem.W.typeIn K (.ref f0) = some (.type "function")
  fn : PySem.W.fnIn K f0 = true
  any : PySem.W.nsIn K PySem.cStatics "thirdparty.any" = some none
  sup : mg "super" = none
  top : (P.main.scope.names.lookup ("super" : Str)).isSome = false
/-- super().__init__(e, ..) -/
abbrev supC (p0 p1 p2 p3 : Pos) (e : Expr) (es : List Expr) : Expr := .Call (.Attribute (.Call (.Name "super" p0) [] [] p1) "__init__" p2) (e :: es) [] p3
section
variable {CX : CXT} {P : Program} {w : World} {K : PySem.W.Frag} {mg : Str → Option Value} {base : Heap}
theorem sub_fn {N ps ps0 : List Str} {k : Nat} {name qual : Str} {params : Arguments} {scope : Scope} {f D c cc f0 : Addr} {fd fd0 : FuncData} {p0 p1 p2 p3 p4 : Pos} {e : Expr} {es : List Expr} {ta : TA} {sp sp0 : Sp} {ds : List Value} {dvs dfs : List V} {ar : Arg} {fs : List (Str × V)}
    (F : SubD P K name qual params [.Expr (supC p0 p1 p2 p3 e es) p4] scope dfs f fd D c cc) (M : SubC P K mg D f0) (S : NScope N ps ["__class__"] scope)
    (hks : scope.names.lookup ("super" : Str) = some .globalImplicit) (hkc : scope.names.lookup ("__class__" : Str) = some .free) (hp : (params.posonlyargs ++ params.args).head? = some ar) (hself : N[0]? = some ar.arg) (hkv : scope.names.lookup ar.arg = some .local)
    (hin : ∀ L, interactive (PySem.W.ksEnv qual scope L f (.ref c) cc) = false) (hsw : ∀ L, swapsWith (supC p0 p1 p2 p3 e es) none p4.line (PySem.W.ksEnv qual scope L f (.ref c) cc) = pure false)
    {pl : Addr → Sem Bool} (hev : ∀ L, eval (supC p0 p1 p2 p3 e es) (PySem.W.ksEnv qual scope L f (.ref c) cc) = (do
      let o ← attributeBase (.Call (.Name "super" p0) [] [] p1) "__init__" (PySem.W.ksEnv qual scope L f (.ref c) cc) (eval (.Call (.Name "super" p0) [] [] p1) (PySem.W.ksEnv qual scope L f (.ref c) cc))
      standAt p2.atName
      let (g, first) ← holding [o] (getMethod o "__init__" (pl L))
      callWith p3 g first (backTo p3 (starEach (e :: es) (PySem.W.ksEnv qual scope L f (.ref c) cc))) []))
    (hst : ∀ L, starEach (e :: es) (PySem.W.ksEnv qual scope L f (.ref c) cc) = (false, eval e (PySem.W.ksEnv qual scope L f (.ref c) cc)) :: starEach es (PySem.W.ksEnv qual scope L f (.ref c) cc)) (hpl : ∀ L, (backTo p3 (starEach es (PySem.W.ksEnv qual scope L f (.ref c) cc))).any (·.1) = false)
    (G : FnOk P w K mg base CX k f0 fd0 ps0 sp0) (hb0 : Binds K fd0 ps0 ds) (hd0 : Vals dvs ds)
    (ha : ∀ (x y : Str) (ar : Arguments) (b : List Stmt) (cl : List (Str × Addr)) (c f : Addr) (A : Around) (outer : List Env) (s : Shared) (H : Hp) (E : XK), PA (ncx CX P w K mg base N ⟨x, y, ar, b, scope, cl, c⟩ f A outer s H E) (e :: es) ta)
    (hpass : ∀ (F : NF) (f : Addr) (A : Around) (outer : List Env) (s : Shared) (H : Hp) (E : XK), Passes CX (ncx CX P w K mg base N F f A outer s H E) E)
    (len : ∀ vs H Q E, sp vs H Q E → vs.length = ps.length)
    (spec : ∀ vs H Q E, sp vs H Q E → ∃ x dx, vs[0]? = some (.ref x) ∧ H x = some (.ins D dx fs) ∧ ta (startF N vs [some (.ref D)]) H fun us H' => sp0 (.ref x :: us ++ dvs) H' (fun _ H2 => Q .non H2) E) :
    FnOk P w K mg base CX (k + 1) f fd ps sp := by
  refine ⟨len, fun A outer s H args us vs Q E hr e0 hb r hsp => ?_⟩
  have hl := len _ _ _ _ hsp
  obtain ⟨oc, od, dV, kV, doc, pm, ct, an, osl, rfl, lk, _⟩ := F.ex
  obtain ⟨ccl, cdd, cvs, csl, file, tf, lc, hv2, hfile⟩ := F.file
  obtain ⟨lcl, lld, lsl, lcc⟩ := F.cell
  obtain ⟨cdD, hD⟩ := M.cls
  have KX : K.In s.heap := e0.mod.kin.keeps fun b o q => (e0.bs b o q).1
  have lim : s.heap.NoLimit := e0.mod.nolimit.keeps fun b o q => (e0.bs b o q).1
  refine PySem.ks_codeAny_call_defAt (fd := PySem.W.ksFn name qual params _ scope dV kV doc pm an (.ref c) ct cc) (binds := ps.zip us) hr.depth (KX _ _ lk) rfl lim (PySem.W.codeRec_of KX F.code) rfl hb S.nocell (fun ⟨y, _⟩ hy => S.par y (List.of_mem_zip hy).1) (fun h1 hns kp => ?_) S.co S.gen S.kind
  have C : CellsAt [("__class__", cc)] ["__class__"] [some (.ref D)] s.heap H := by
    refine ⟨rfl, fun y a hy => ?_, fun x y a hx hy => ?_, fun i y hy => ?_⟩
    · have z := List.mem_singleton.mp (PySem.mem_of_lookup hy)
      cases z
      exact ⟨(e0.bs _ _ (e0.mod.kin _ _ lcc)).2, _, _, KX _ _ lcc, rfl⟩
    · have z1 := List.mem_singleton.mp (PySem.mem_of_lookup hx)
      have z2 := List.mem_singleton.mp (PySem.mem_of_lookup hy)
      cases z1; cases z2; rfl
    · match i, hy with
      | 0, hy =>
        cases hy
        refine ⟨cc, rfl, fun v hv => ?_⟩
        cases hv
        exact ⟨.ref D, rfl, _, KX _ _ lcc, rfl⟩
      | i + 1, hy => cases hy
  have I := inv_startN (CX := CX) (E := E) (tk := s.toks + (ps.zip us).length) (F := ⟨name, qual, params, [.Expr (supC p0 p1 p2 p3 e es) p4], scope, [("__class__", cc)], c⟩) (f := f) S hr.hd e0 hl r C hns kp
  obtain ⟨x, dx, hv0, hx, ht⟩ := spec vs H Q E hsp
  have low0 : (startF N vs [some (.ref D)])[0]? = some (some (.ref x)) := by
    unfold startF
    rw [List.getElem?_append_left (by rw [List.length_map]; exact (List.getElem?_eq_some_iff.mp hv0).1), List.getElem?_map, hv0]
    rfl
  obtain ⟨m, hn, hlo⟩ := I.loc
  obtain ⟨ux, rx, lk0⟩ := hlo 0 ar.arg (.ref x) hself low0 (.inl hkv)
  obtain rfl : ux = .ref x := rx
  have mx : m ar.arg = some (.ref x) := by
    rcases lk0 with ⟨_, z⟩ | ⟨z, _⟩
    · exact z
    · have z : scope.names.lookup ar.arg = some .cell ∨ scope.names.lookup ar.arg = some .free := z
      rw [hkv] at z
      rcases z with z | z <;> cases z
  obtain ⟨mb, hmb, hbo⟩ := I.mod.blt
  have KX1 := I.kIn
  refine PySem.ks_wpAt_execs_cons (PySem.ks_wpAt_Expr_any (PySem.ks_wpAt_MethodCall (pl := pl _) ?_ (hev _)) (hin _) (hsw _))
  refine PySem.ks_wpAt_super_base hks hkc rfl rfl (KX1 _ _ lk) rfl hp rfl (KX1 _ _ lc) rfl hv2 hfile M.top ?_
  have bsup : mb "super" = some (.type "super") := (hbo "super" (by decide)).trans (by rfl)
  refine PySem.W.ks_loadName_global S.kind hks (Calls.loadGlobal_builtin (I.mod.glob.keeps I.bk) M.sup (hmb.keeps I.bk) bsup ⟨rfl, ?_⟩)
  refine wpAny_loadName_free S.kind hkc rfl ⟨_, KX1 _ _ lcc, rfl⟩ ?_
  refine wpAny_loadName_local S.kind hkv hn mx ?_
  obtain ⟨oD, gD, dD⟩ : ∃ o, h1.get? D = some o ∧ o.data = .cls cdD := by
    unfold PySem.W.clsIn at hD
    split at hD
    · rename_i ho
      cases hD
      exact ⟨_, KX1 _ _ ho, rfl⟩
    · cases hD
  obtain ⟨mA, O, _⟩ := ins_get I.hok hx
  refine PySem.ks_wpAny_isType_cls gD dD ⟨rfl, ?_⟩
  refine PySem.ks_wpAny_call_super gD dD O.obj rfl (fun q z => by cases z) (PySem.W.looks_mroIn KX1 M.sub) (fun h2 e2 k2 => ?_)
  have I2 := I.kept (t' := s.toks + (ps.zip us).length) k2
  have KX2 := I2.kIn
  have up2 : PySem.W.alongIn K "__init__" ((cdD.mro.dropWhile (· != .ref D)).drop 1) = some (some (.ref f0)) := by
    have z := M.up
    unfold PySem.W.ks_superIn at z
    rw [hD] at z
    exact z
  obtain ⟨o0, g0, t0⟩ : ∃ o, h2.get? f0 = some o ∧ o.cls = .type "function" := by
    have z : (K.lookup f0).map (·.cls) = some (.type "function") := M.ty
    obtain ⟨o, h3, h4⟩ := Option.map_eq_some_iff.mp z
    exact ⟨o, KX2 _ _ h3, h4⟩
  have ne : x ≠ D := by
    rintro rfl
    rw [O.obj] at gD
    cases gD
    cases dD
  refine PySem.ks_wpAny_getMethod_super e2 (PySem.W.looks_opaque KX2 M.any) (l₀ := cdD.mro) (fun A Q E s k q => wpAny_bind (PySem.W.looks_clsIn KX2 hD A _ E s k (wpAny_pure q))) rfl KX2 up2 g0 t0 ne rfl ?_
  have k3 : ∀ b o, h2.get? b = some o → (h2.push (PySem.W.methodObj (.ref f0) (.ref x))).get? b = some o := fun b o q => Heap.get?_push_of_some _ q
  have I3 := I2.kept (t' := s.toks + (ps.zip us).length + 1) k3
  have at3 : (h2.push (PySem.W.methodObj (.ref f0) (.ref x))).get? h2.objs.size = some (PySem.W.methodObj (.ref f0) (.ref x)) := Heap.get?_push_size _ rfl
  obtain ⟨f0', f1', f2', _⟩ := I2.fpOk (Nat.le_refl h2.objs.size) (I2.hok.fresh (Nat.le_refl _))
  have I4 := I3.pins_of (pins' := [(h2.objs.size, PySem.W.methodObj (.ref f0) (.ref x))]) fun p hp => by
    obtain rfl := List.mem_singleton.mp hp
    exact ⟨at3, f0', f1', f2', fun v z => by cases z⟩
  have news : News base s.heap.objs.size (h2.push (PySem.W.methodObj (.ref f0) (.ref x))) [(h2.objs.size, PySem.W.methodObj (.ref f0) (.ref x))] := fun p hp => by
    obtain rfl := List.mem_singleton.mp hp
    refine ⟨at3, f1', Heap.get?_none_of_le (Nat.le_trans e0.bsz (Nat.le_trans I2.sz (Nat.le_refl _)))⟩
  refine PySem.W.callWith_M e0.mod.kin news (List.mem_singleton.mpr rfl) M.fn (thn ((ha _ _ _ _ _ _ f A outer s H E).run p3 _ _ _ _ _ I4 ht) fun ws s4 ⟨as, H4, I5, rw4, q4⟩ => ?_) (hst _) (hpl _)
  have pin4 := (I5.pin _ (List.mem_append_right _ (List.mem_singleton.mpr rfl))).1
  refine ⟨⟨pin4, I5.kIn⟩, wpAny_call (PySem.ks_codeAny_call_bound pin4 ?_)⟩
  have rr : Vals (.ref x :: as ++ dvs) ((.ref x :: ws) ++ ds) := Vals.append (show Vals (.ref x :: as) (.ref x :: ws) from .cons rfl rw4) hd0
  have ln : ((.ref x :: ws) ++ ds).length = ps0.length := by rw [← rr.length]; exact G.len _ _ _ _ q4
  refine codeAny_mono (G.run _ _ s4 H4 ⟨.ref x :: ws, []⟩ _ _ _ E (hr.deeper _) I5.env0 (hb0 s4 _ I5.kIn ln) rr q4) fun r5 s5 h5 => ?_
  match r5, h5 with
  | .error ex, h5 => exact hpass _ f A outer s H E _ _ _ _ _ _ I5 h5
  | .ok (.ret u), h5 =>
    obtain ⟨v5, H5, I6, rv5, q5⟩ := I5.after h5
    refine wpAt_of_wpAny ?_
    exact wpAny_pure ⟨.non, H5, I6.os, I6.bare, I6.base, I6.hok, rfl, q5⟩
end
end K7Z
end
/-! ## P31 -/
section
open PySem PySem.Spec PyProof.Rows L2
namespace K7
/-! ### the same with the empty tuple that a def keeps as a default -/
def EmpT (K : PySem.W.Frag) (a : Addr) : Prop := ∃ (o : Obj) (n : Nat), K.lookup a = some o ∧ o.cls = .type "tuple" ∧ o.dict = none ∧ o.data = .seq #[] n
theorem EmpT.t {K : PySem.W.Frag} {a : Addr} (h : EmpT K a) (H : Hp) : SqT K H a [] := by
  obtain ⟨o, n, h1, h2, h3, h4⟩ := h
  exact .inr ⟨o, #[], n, h1, h2, h4, Nat.zero_le _, .nil⟩
section
variable {P : Program} {w : World} {K : PySem.W.Frag} {mg : Str → Option Value} {base : Heap} {a : AdL}
def spCells0 (K : PySem.W.Frag) : Sp := fun vs H Q _ => ∃ (many : Int) (o : Addr), vs = [.int many, .ref o, .int 0] ∧ EmpT K o ∧ ∀ H1, Same H H1 → Q (.bl true) H1
theorem ok_cells0 {f fS fW : Addr} {fd fdS fdW : FuncData} (F : Fun K "are_cells" "are_cells" s_are_cells f fd)
    (Gsq : FnOk P w K mg base CX0 1 fS fdS ["thing"] (spSeq K)) (gsq : mg "is_sequence" = some (.ref fS)) (ksq : PySem.W.keepIn K (.ref fS) = true) (bsq : Binds K fdS ["thing"] [])
    (Giw : FnOk P w K mg base CX0 1 fW fdW ["thing", "low", "high"] spWhole) (giw : mg "is_whole" = some (.ref fW)) (kiw : PySem.W.keepIn K (.ref fW) = true) (biw : Binds K fdW ["thing", "low", "high"] [])
    (m_len : mg "len" = none) (m_set : mg "set" = none) (m_all : mg "all" = none) : FnOk P w K mg base CX0 2 f fd ["many", "thing", "least"] (spCells0 K) := by
  refine F.ok sc_are_cells (fun vs H Q E h => ?_) (fun cdv A outer s H vs Q E hr h => ?_)
  · obtain ⟨m, x, rfl, _⟩ := h
    rfl
  · obtain ⟨m, x, rfl, ho, q⟩ := h
    refine ⟨_, (pss_cons (ps_if (pw_or (pt_not (pt_val (pe_call Gsq (hr.mono (by decide)) (by rfl) gsq ksq bsq .nil pass0 (pa_cons (pv 1) pa_nil)))) (pw_or1 (pt_cmpR op_lt (pe_callB call_len_seq (by rfl) m_len boot_len (pa_cons (pv 1) pa_nil)) (pv 2) (nomark _)))).pt
  (pss_one (ps_ret pe_bl))
  pss_nil)
 (pss_cons (ps_if (pt_not (pt_val (pe_callB (cr_all rfl) (by rfl) m_all boot_all (pa_cons (pe_lc (own := [("cell", 3)]) (g := gName 3) (tt := tYes) rfl sc_are_cells.nd (K7E.pi_either (pi_tup (pv 1)) (pi_list (pv 1))) (blkOk_by (own := [("cell", 3)]) (N := N_are_cells) (sc := defScope s_are_cells) (by decide +kernel)) (fun _ _ _ _ _ => (pg_name (i := 3) sc_are_cells.nd rfl (by first | exact Or.inl rfl | exact Or.inr rfl))) (fun _ _ _ _ _ => pts_nil) (fun _ _ _ _ _ => (pe_call Giw (hr.mono (by decide)) (by rfl) giw kiw biw .nil pass0 (pa_cons (pv 3) (pa_cons pe_int (pa_cons (pe_op op_sub (pv 0) pe_int) pa_nil)))))) pa_nil))))
  (pss_one (ps_ret pe_bl))
  pss_nil)
 (pss_one (ps_ret (pe_cmpR op_eq (K7E.pe_either (K7E.pe_lenSetT rfl (by rfl) m_len (by rfl) m_set (pv 1)) (K7E.pe_lenSetL rfl (by rfl) m_len (by rfl) m_set (pv 1))) (pe_callB call_len_seq (by rfl) m_len boot_len (pa_cons (pv 1) pa_nil)) (nomark _)))))), ?_⟩
    obtain ⟨ob, n, h1, h2, h3, h4⟩ := id ho
    refine ⟨_, rfl, _, "tuple", true, rfl, fun H1 e1 => .kTuple h1 h2, any_tup, fun H1 e1 => ⟨_, rfl, ?_⟩⟩
    refine ⟨_, rfl, x, [], rfl, .inr (ho.t H1), _, rfl, _, _, rfl, rfl, _, rfl, iteFo (by decide) ?_⟩
    refine .inl ⟨_, rfl, x, rfl, ⟨[], ho.t H1⟩, fun D hD => lc_tup (xs := []) (fun j H2 => Same H1 H2 ∧ H2 D = some (.lst [])) ⟨same_new (Same.refl H1) hD, upd_same⟩ (fun j H2 _ pv => ho.t H2) (fun j x H2 hx pv => nomatch hx) (fun H2 pv => ?_)⟩
    obtain ⟨e2, hD2⟩ := pv
    refine ⟨D, [], rfl, .inl (.inl hD2), _, rfl, iteFo (by decide) ?_⟩
    refine Or.inl ⟨_, rfl, x, [], rfl, ho.t H2, by decide, fun c hc1 hc2 => ?_⟩
    have c0 : c = 0 := by have := hc1; simpa using this
    subst c0
    exact ⟨_, rfl, x, [], rfl, .inr (ho.t H2), rfl, q H2 (e1.trans e2)⟩
def spChL0 (K : PySem.W.Frag) : Sp := fun vs H Q _ => ∃ (z : Str) (c o : Addr) (cs : List Nat), vs = [.str z, .ref c, .ref o] ∧ SqOf H c (ints_ cs) ∧ EmpT K o ∧ LotsOk z cs [] ∧ ∀ H', Same H H' → Q .non H'
theorem ok_chl0 {tM : Tok} (gM : mg "MOST_CELLS" = some (.int 5 tM)) {f fC : Addr} {fd fdC : FuncData} (F : Fun K "_check_lots" "_check_lots" s__check_lots f fd)
    (Gac : FnOk P w K mg base CX0 2 fC fdC ["many", "thing", "least"] fun vs H Q E => spCells K vs H Q E ∨ spCells0 K vs H Q E) (gac : mg "are_cells" = some (.ref fC)) (kac : PySem.W.keepIn K (.ref fC) = true) (bac : Binds K fdC ["many", "thing", "least"] [])
    (m_len : mg "len" = none) : FnOk P w K mg base CX0 3 f fd ["kind", "cells", "others"] (spChL0 K) := by
  refine F.ok sc__check_lots (fun vs H Q E h => ?_) (fun cdv A outer s H vs Q E hr h => ?_)
  · obtain ⟨z, c, o, cs, rfl, _⟩ := h
    rfl
  · obtain ⟨z, c, o, cs, rfl, hc, ho, L, q⟩ := h
    refine ⟨_, (pss_cons (ps_if (pt_not (pt_val (pe_call Gac (hr.mono (by decide)) (by rfl) gac kac bac .nil pass0 (pa_cons (pe_glob (v := .int 5) rfl gM ⟨_, rfl⟩) (pa_cons (pv 1) (pa_cons pe_int pa_nil))))))
  (pss_one ps_never)
  pss_nil)
 (pss_cons (ps_if (pt_not (pt_val (pe_call Gac (hr.mono (by decide)) (by rfl) gac kac bac .nil pass0 (pa_cons (pe_glob (v := .int 5) rfl gM ⟨_, rfl⟩) (pa_cons (pv 2) (pa_cons pe_int pa_nil))))))
  (pss_one ps_never)
  pss_nil)
 (pss_cons (ps_if (pw_and (pt_cmpR op_eq (pe_callB call_len_seq (by rfl) m_len boot_len (pa_cons (pv 1) pa_nil)) pe_int (nomark _)) (pw_and1 (pw_or (pt_cmpR op_ne (pv 0) pe_str (nomark _)) (pw_or1 (pt_cmpR op_eq (pe_callB call_len_seq (by rfl) m_len boot_len (pa_cons (pv 2) pa_nil)) pe_int (nomark _)))).pt)).pt
  (pss_one ps_never)
  pss_nil)
 (pss_one (ps_if (pt_truth (pe_lc (own := [("b", 3)]) (g := gName 3) rfl sc__check_lots.nd (K7E.pi_either (pi_tup (pv 2)) (pi_list (pv 2))) (blkOk_by (own := [("b", 3)]) (N := N__check_lots) (sc := defScope s__check_lots) (by decide +kernel)) (fun _ _ _ _ _ => (pg_name (i := 3) sc__check_lots.nd rfl (by first | exact Or.inl rfl | exact Or.inr rfl))) (fun _ _ _ _ _ => (pts_one (pt_cmpR (show OpR _ _ (rIn K false) from op_in_seq) (pv 3) (pv 1) (by with_unfolding_all rfl)))) (fun _ _ _ _ _ => (pv 3))) (by intro _; rfl))
  (pss_one ps_never)
  pss_nil))))), ?_⟩
    have thg : ∀ {H2 : Hp} (ys : List Nat), ∀ y ∈ ints_ ys, Thing H2 y := fun ys y hy => by
      obtain ⟨k, _, rfl⟩ := List.mem_map.mp hy
      exact .flat (.int _)
    have lc : (ints_ cs).length < 64 := by unfold ints_; rw [List.length_map]; exact Nat.lt_of_le_of_lt (cells_len L.cn L.c5) (by decide)
    refine ⟨_, rfl, .inl ⟨5, .ref c, 0, rfl, .inr ⟨c, _, rfl, hc, thg cs, lc, fun H1 e1 => ?_⟩⟩⟩
    rw [show cellsV 5 (ints_ cs) 0 = true from cells_lot0 (n := 5) L.c5 L.cn]
    refine ⟨_, rfl, ?_⟩
    refine ⟨_, rfl, .inr ⟨5, o, rfl, ho, fun H2 e2 => ?_⟩⟩
    have e12 := e1.trans e2
    refine ⟨_, rfl, ?_⟩
    refine ⟨_, rfl, c, ints_ cs, rfl, (hc.same e12).sq, rfl, _, rfl, ?_⟩
    have hcs : cs ≠ [] := fun e => (L.ne e).2 rfl
    refine iteFo (decide_eq_false fun e => hcs (List.length_eq_zero_iff.mp (by injection e with e; unfold ints_ at e; rw [List.length_map] at e; omega))) ?_
    refine .inl ⟨_, rfl, o, rfl, ⟨[], ho.t H2⟩, fun D hD => lc_tup (xs := []) (fun j H3 => Same H2 H3 ∧ H3 D = some (.lst [])) ⟨same_new (Same.refl H2) hD, upd_same⟩ (fun j H3 _ pv => ho.t H3) (fun j x H3 hx pv => nomatch hx) (fun H3 pv => ?_)⟩
    obtain ⟨e3, hD3⟩ := pv
    exact ⟨false, .inl ⟨[], .inl (.inl hD3), rfl⟩, q H3 (e12.trans e3)⟩
theorem FnOk_or {CX : CXT} {k : Nat} {f : Addr} {fd : FuncData} {ps : List Str} {sp sp' : Sp} (F : FnOk P w K mg base CX k f fd ps sp) (G : FnOk P w K mg base CX k f fd ps sp') : FnOk P w K mg base CX k f fd ps fun vs H Q E => sp vs H Q E ∨ sp' vs H Q E :=
  ⟨fun vs H Q E h => h.elim (F.len vs H Q E) (G.len vs H Q E), fun A outer s H args us vs Q E hr he hb hv h => h.elim (F.run A outer s H args us vs Q E hr he hb hv) (G.run A outer s H args us vs Q E hr he hb hv)⟩
def spStep0 (K : PySem.W.Frag) : Sp := fun vs H Q _ => ∃ (x dx C c o : Addr) (z : Str) (cs : List Nat), vs = [.ref x, .str z, .ref c, .ref o] ∧ Cls K C ∧ (∀ f ∈ pfields, NoAttr K C f) ∧ H x = some (.ins C dx []) ∧ SqOf H c (ints_ cs) ∧ EmpT K o ∧ LotsOk z cs [] ∧ ∀ H', But x H H' → StepO C H' x z cs [] → Q .non H'
theorem ok_step0 {e0 f fC : Addr} {fd fdC : FuncData} (F : FunD K "__init__" "Step.__init__" (defArgs s_Step___init__) (defBody s_Step___init__) (defScope s_Step___init__) [.ref e0] [] f fd)
    (Gcl : FnOk P w K mg base CX0 3 fC fdC ["kind", "cells", "others"] fun vs H Q E => spChL vs H Q E ∨ spChL0 K vs H Q E) (gcl : mg "_check_lots" = some (.ref fC)) (kcl : PySem.W.keepIn K (.ref fC) = true) (bcl : Binds K fdC ["kind", "cells", "others"] [])
    (m_tuple : mg "tuple" = none) (m_sorted : mg "sorted" = none) : FnOk P w K mg base CX0 4 f fd ["self", "kind", "cells", "others"] (spStep0 K) := by
  refine FunD_okN F sc_Step___init__ (fun vs H Q E h => ?_) (fun cdv A outer s H vs Q E hr h => ?_)
  · obtain ⟨x, dx, C, c, o, z, cs, rfl, _⟩ := h
    rfl
  · obtain ⟨x, dx, C, c, o, z, cs, rfl, cls, nA, hx, hc, ho, L, q⟩ := h
    refine ⟨_, (pss_cons (ps_expr (pe_call Gcl (hr.mono (by decide)) (by rfl) gcl kcl bcl .nil pass0 (pa_cons (pv 1) (pa_cons (pv 2) (pa_cons (pv 3) pa_nil)))))
 (pss_cons (ps_fld (pv 0) (pv 1) rfl)
 (pss_cons (ps_fld (pv 0) (pe_callTy (show CallR _ (.type "tuple") (rTup_ K) from call_tuple_of) (by rfl) m_tuple boot_tuple (pa_cons (pe_callB K7S.cr_sortA (by rfl) m_sorted boot_sorted (pa_cons (pv 2) pa_nil)) pa_nil)) rfl)
 (pss_one (ps_fld (pv 0) (pe_callTy (show CallR _ (.type "tuple") (rTup_ K) from call_tuple_of) (by rfl) m_tuple boot_tuple (pa_cons (pe_callB K7S.cr_sortA (by rfl) m_sorted boot_sorted (pa_cons (pv 3) pa_nil)) pa_nil)) rfl))))), ?_⟩
    refine ⟨_, rfl, _, rfl, _, rfl, .inr ⟨z, c, o, cs, rfl, hc, ho, L, fun H1 e1 => ?_⟩⟩
    have hx1 := e1 _ _ hx
    refine ⟨_, rfl, _, rfl, x, C, dx, _, rfl, hx1, cls, nA _ (by decide), by show 0 < 1000; decide, ?_⟩
    have b2 : But x H (upd H1 x (.ins C dx (putF "kind" (.str z) []))) := fun b y nb hb => by
      rw [upd_ne nb]
      exact e1 _ _ hb
    have hx2 : upd H1 x (.ins C dx (putF "kind" (.str z) [])) x = some (.ins C dx [("kind", .str z)]) := upd_same
    have hc2 := (hc.same e1).ni hx1 (.ins C dx (putF "kind" (.str z) []))
    generalize upd H1 x (.ins C dx (putF "kind" (.str z) [])) = H2 at b2 hx2 hc2 ⊢
    have no : ∀ (xs : List V) (C dx : Addr) fs, HO.tup xs ≠ .ins C dx fs := fun _ _ _ _ e => by cases e
    have lc : (cs.map fun b => ((b : Nat) : Int)).length < 64 := by rw [List.length_map]; exact Nat.lt_of_le_of_lt (cells_len L.cn L.c5) (by decide)
    have im : ∀ l : List Nat, (l.map fun b => ((b : Nat) : Int)).map V.int = ints_ l := fun l => by unfold ints_; rw [List.map_map]; rfl
    -- the cells
    refine ⟨_, rfl, c, _, rfl, sq_int hc2, lc, fun ms p pm so np => ?_⟩
    have em := sort_cells pm so L.cn L.c5
    subst em
    refine ⟨p, _, rfl, .inl ⟨.inl (.inl upd_same), fun u nu => ?_⟩⟩
    have su := same_new (o := .tup (((srt5 cs).map fun b => ((b : Nat) : Int)).map V.int)) (same_new (o := .lst (((srt5 cs).map fun b => ((b : Nat) : Int)).map V.int)) (Same.refl H2) np) nu
    have hu : upd (upd H2 p (.lst (((srt5 cs).map fun b => ((b : Nat) : Int)).map V.int))) u (.tup (((srt5 cs).map fun b => ((b : Nat) : Int)).map V.int)) u = some (.tup (ints_ (srt5 cs))) := by rw [upd_same, im]
    refine ⟨_, rfl, x, C, dx, _, rfl, su _ _ hx2, cls, nA _ (by decide), by show 1 < 1000; decide, ?_⟩
    have hx3 := su _ _ hx2
    have b3 := b2.same su
    change _ = _ at hu
    generalize hH : upd (upd H2 p (.lst (((srt5 cs).map fun b => ((b : Nat) : Int)).map V.int))) u (.tup (((srt5 cs).map fun b => ((b : Nat) : Int)).map V.int)) = H3 at su hu hx3 b3
    have hH' : upd (upd H2 p (HO.lst (List.map V.int (List.map (fun b => ((b : Nat) : Int)) (List.filter (fun b => decide (b ∈ cs)) (List.range 5)))))) u (HO.tup (List.map V.int (List.map (fun b => ((b : Nat) : Int)) (List.filter (fun b => decide (b ∈ cs)) (List.range 5))))) = H3 := hH
    rw [hH']
    have b4 := b3.put (.ins C dx (putF "cells" (.ref u) [("kind", .str z)]))
    have hx4 : upd H3 x (.ins C dx (putF "cells" (.ref u) [("kind", .str z)])) x = some (.ins C dx [("kind", .str z), ("cells", .ref u)]) := upd_same
    have hu4 : upd H3 x (.ins C dx (putF "cells" (.ref u) [("kind", .str z)])) u = some (.tup (ints_ (srt5 cs))) := keepNI hx3 hu (no _)
    generalize upd H3 x (.ins C dx (putF "cells" (.ref u) [("kind", .str z)])) = H4 at b4 hx4 hu4 ⊢
    -- the others
    refine ⟨_, rfl, o, [], rfl, .inr (ho.t _), by decide, fun ms p' pm so np' => ?_⟩
    have em := sort_cells (cs := []) (n := 5) pm so L.on L.o5
    subst em
    refine ⟨p', _, rfl, .inl ⟨.inl (.inl upd_same), fun v nv => ?_⟩⟩
    have sv := same_new (o := .tup (((srt5 []).map fun b => ((b : Nat) : Int)).map V.int)) (same_new (o := .lst (((srt5 []).map fun b => ((b : Nat) : Int)).map V.int)) (Same.refl H4) np') nv
    have hv : upd (upd H4 p' (.lst (((srt5 []).map fun b => ((b : Nat) : Int)).map V.int))) v (.tup (((srt5 []).map fun b => ((b : Nat) : Int)).map V.int)) v = some (.tup (ints_ (srt5 []))) := by rw [upd_same, im]
    refine ⟨_, rfl, x, C, dx, _, rfl, sv _ _ hx4, cls, nA _ (by decide), by show 2 < 1000; decide, ?_⟩
    refine q _ ((b4.same sv).put _) ⟨⟨dx, u, v, upd_same, keepNI (sv _ _ hx4) (sv _ _ hu4) (no _), keepNI (sv _ _ hx4) hv (no _)⟩⟩
end
end K7
end
/-! ## P32 -/
section
open PySem PySem.Spec PyProof.Rows L2
namespace K7
/-! ### the five kinds of steps -/
section
variable {P : Program} {w : World} {K : PySem.W.Frag} {mg : Str → Option Value} {base : Heap}
def spSub2 (C : Addr) (z : Str) : Sp := fun vs H Q _ => ∃ (x dx c o : Addr) (cs os : List Nat), vs = [.ref x, .ref c, .ref o] ∧ H x = some (.ins C dx []) ∧ SqOf H c (ints_ cs) ∧ SqOf H o (ints_ os) ∧ LotsOk z cs os ∧ ∀ H', But x H H' → StepO C H' x z cs os → Q .non H'
def spSub1 (C : Addr) (z : Str) : Sp := fun vs H Q _ => ∃ (x dx c : Addr) (cs : List Nat), vs = [.ref x, .ref c] ∧ H x = some (.ins C dx []) ∧ SqOf H c (ints_ cs) ∧ LotsOk z cs [] ∧ ∀ H', But x H H' → StepO C H' x z cs [] → Q .non H'
abbrev s_Leave___init__ : Stmt := inClass (topS 46) 0
theorem ns_Leave : NdefX.NScope ["self", "cells", "untold", "__class__"] ["self", "cells", "untold"] ["__class__"] (defScope s_Leave___init__) := NdefX.nscope_by (by decide +kernel)
theorem ok_leave {f C c cc f0 e0 : Addr} {fd fd0 : FuncData} (F : K7Z.SubD P K "__init__" "Leave.__init__" (defArgs s_Leave___init__) (defBody s_Leave___init__) (defScope s_Leave___init__) [.ref e0] f fd C c cc) (M : K7Z.SubC P K mg C f0) (cls : Cls K C) (nA : ∀ f ∈ pfields, NoAttr K C f)
    (G : FnOk P w K mg base CX0 4 f0 fd0 ["self", "kind", "cells", "others"] fun vs H Q E => spStep K vs H Q E ∨ spStep0 K vs H Q E) (b0 : Binds K fd0 ["self", "kind", "cells", "others"] []) : FnOk P w K mg base CX0 5 f fd ["self", "cells", "untold"] (spSub2 C "leave") := by
  refine K7Z.sub_fn (N := ["self", "cells", "untold", "__class__"]) (ps := ["self", "cells", "untold"]) (e := .Constant (.str "leave") _ _) (dvs := []) (fs := []) F M ns_Leave rfl rfl rfl rfl rfl (fun _ => rfl) (fun _ => rfl) (fun _ => rfl) (fun _ => rfl) (fun _ => rfl) G b0 .nil (fun _ _ _ _ _ _ _ _ _ _ _ _ => (pa_cons pe_str (pa_cons (pv 1) (pa_cons (pv 2) pa_nil)))) (fun _ _ _ _ _ _ _ => fun _ _ _ _ _ _ _ h => h.elim) (fun vs H Q E h => ?_) (fun vs H Q E h => ?_)
  · obtain ⟨x, dx, c, o, cs, os, rfl, _⟩ := h
    rfl
  · obtain ⟨x, dx, c, o, cs, os, rfl, hx, hc, ho, L, q⟩ := h
    refine ⟨x, dx, rfl, hx, ?_⟩
    exact ⟨_, rfl, _, rfl, .inl ⟨x, dx, C, c, o, "leave", cs, os, rfl, cls, nA, hx, hc, ho, L, q⟩⟩
abbrev s_Come___init__ : Stmt := inClass (topS 47) 0
theorem ns_Come : NdefX.NScope ["self", "cells", "__class__"] ["self", "cells"] ["__class__"] (defScope s_Come___init__) := NdefX.nscope_by (by decide +kernel)
theorem ok_come {f C c cc f0 e0 : Addr} {fd fd0 : FuncData} (F : K7Z.SubD P K "__init__" "Come.__init__" (defArgs s_Come___init__) (defBody s_Come___init__) (defScope s_Come___init__) [] f fd C c cc) (M : K7Z.SubC P K mg C f0) (cls : Cls K C) (nA : ∀ f ∈ pfields, NoAttr K C f)
    (G : FnOk P w K mg base CX0 4 f0 fd0 ["self", "kind", "cells", "others"] fun vs H Q E => spStep K vs H Q E ∨ spStep0 K vs H Q E) (hE : EmpT K e0) {ds : List Value} (hds : Vals [.ref e0] ds) (b0 : Binds K fd0 ["self", "kind", "cells", "others"] ds) : FnOk P w K mg base CX0 5 f fd ["self", "cells"] (spSub1 C "come") := by
  refine K7Z.sub_fn (N := ["self", "cells", "__class__"]) (ps := ["self", "cells"]) (e := .Constant (.str "come") _ _) (dvs := [.ref e0]) (fs := []) F M ns_Come rfl rfl rfl rfl rfl (fun _ => rfl) (fun _ => rfl) (fun _ => rfl) (fun _ => rfl) (fun _ => rfl) G b0 hds (fun _ _ _ _ _ _ _ _ _ _ _ _ => (pa_cons pe_str (pa_cons (pv 1) pa_nil))) (fun _ _ _ _ _ _ _ => fun _ _ _ _ _ _ _ h => h.elim) (fun vs H Q E h => ?_) (fun vs H Q E h => ?_)
  · obtain ⟨x, dx, c, cs, rfl, _⟩ := h
    rfl
  · obtain ⟨x, dx, c, cs, rfl, hx, hc, L, q⟩ := h
    refine ⟨x, dx, rfl, hx, ?_⟩
    exact ⟨_, rfl, .inr ⟨x, dx, C, c, e0, "come", cs, rfl, cls, nA, hx, hc, hE, L, q⟩⟩
abbrev s_Go___init__ : Stmt := inClass (topS 48) 0
theorem ns_Go : NdefX.NScope ["self", "cells", "held", "__class__"] ["self", "cells", "held"] ["__class__"] (defScope s_Go___init__) := NdefX.nscope_by (by decide +kernel)
theorem ok_go {f C c cc f0 e0 : Addr} {fd fd0 : FuncData} (F : K7Z.SubD P K "__init__" "Go.__init__" (defArgs s_Go___init__) (defBody s_Go___init__) (defScope s_Go___init__) [.ref e0] f fd C c cc) (M : K7Z.SubC P K mg C f0) (cls : Cls K C) (nA : ∀ f ∈ pfields, NoAttr K C f)
    (G : FnOk P w K mg base CX0 4 f0 fd0 ["self", "kind", "cells", "others"] fun vs H Q E => spStep K vs H Q E ∨ spStep0 K vs H Q E) (b0 : Binds K fd0 ["self", "kind", "cells", "others"] []) : FnOk P w K mg base CX0 5 f fd ["self", "cells", "held"] (spSub2 C "go") := by
  refine K7Z.sub_fn (N := ["self", "cells", "held", "__class__"]) (ps := ["self", "cells", "held"]) (e := .Constant (.str "go") _ _) (dvs := []) (fs := []) F M ns_Go rfl rfl rfl rfl rfl (fun _ => rfl) (fun _ => rfl) (fun _ => rfl) (fun _ => rfl) (fun _ => rfl) G b0 .nil (fun _ _ _ _ _ _ _ _ _ _ _ _ => (pa_cons pe_str (pa_cons (pv 1) (pa_cons (pv 2) pa_nil)))) (fun _ _ _ _ _ _ _ => fun _ _ _ _ _ _ _ h => h.elim) (fun vs H Q E h => ?_) (fun vs H Q E h => ?_)
  · obtain ⟨x, dx, c, o, cs, os, rfl, _⟩ := h
    rfl
  · obtain ⟨x, dx, c, o, cs, os, rfl, hx, hc, ho, L, q⟩ := h
    refine ⟨x, dx, rfl, hx, ?_⟩
    exact ⟨_, rfl, _, rfl, .inl ⟨x, dx, C, c, o, "go", cs, os, rfl, cls, nA, hx, hc, ho, L, q⟩⟩
abbrev s_Grant___init__ : Stmt := inClass (topS 49) 0
theorem ns_Grant : NdefX.NScope ["self", "cells", "__class__"] ["self", "cells"] ["__class__"] (defScope s_Grant___init__) := NdefX.nscope_by (by decide +kernel)
theorem ok_grant {f C c cc f0 e0 : Addr} {fd fd0 : FuncData} (F : K7Z.SubD P K "__init__" "Grant.__init__" (defArgs s_Grant___init__) (defBody s_Grant___init__) (defScope s_Grant___init__) [] f fd C c cc) (M : K7Z.SubC P K mg C f0) (cls : Cls K C) (nA : ∀ f ∈ pfields, NoAttr K C f)
    (G : FnOk P w K mg base CX0 4 f0 fd0 ["self", "kind", "cells", "others"] fun vs H Q E => spStep K vs H Q E ∨ spStep0 K vs H Q E) (hE : EmpT K e0) {ds : List Value} (hds : Vals [.ref e0] ds) (b0 : Binds K fd0 ["self", "kind", "cells", "others"] ds) : FnOk P w K mg base CX0 5 f fd ["self", "cells"] (spSub1 C "grant") := by
  refine K7Z.sub_fn (N := ["self", "cells", "__class__"]) (ps := ["self", "cells"]) (e := .Constant (.str "grant") _ _) (dvs := [.ref e0]) (fs := []) F M ns_Grant rfl rfl rfl rfl rfl (fun _ => rfl) (fun _ => rfl) (fun _ => rfl) (fun _ => rfl) (fun _ => rfl) G b0 hds (fun _ _ _ _ _ _ _ _ _ _ _ _ => (pa_cons pe_str (pa_cons (pv 1) pa_nil))) (fun _ _ _ _ _ _ _ => fun _ _ _ _ _ _ _ h => h.elim) (fun vs H Q E h => ?_) (fun vs H Q E h => ?_)
  · obtain ⟨x, dx, c, cs, rfl, _⟩ := h
    rfl
  · obtain ⟨x, dx, c, cs, rfl, hx, hc, L, q⟩ := h
    refine ⟨x, dx, rfl, hx, ?_⟩
    exact ⟨_, rfl, .inr ⟨x, dx, C, c, e0, "grant", cs, rfl, cls, nA, hx, hc, hE, L, q⟩⟩
abbrev s_Give___init__ : Stmt := inClass (topS 50) 0
theorem ns_Give : NdefX.NScope ["self", "cells", "__class__"] ["self", "cells"] ["__class__"] (defScope s_Give___init__) := NdefX.nscope_by (by decide +kernel)
theorem ok_give {f C c cc f0 e0 : Addr} {fd fd0 : FuncData} (F : K7Z.SubD P K "__init__" "Give.__init__" (defArgs s_Give___init__) (defBody s_Give___init__) (defScope s_Give___init__) [] f fd C c cc) (M : K7Z.SubC P K mg C f0) (cls : Cls K C) (nA : ∀ f ∈ pfields, NoAttr K C f)
    (G : FnOk P w K mg base CX0 4 f0 fd0 ["self", "kind", "cells", "others"] fun vs H Q E => spStep K vs H Q E ∨ spStep0 K vs H Q E) (hE : EmpT K e0) {ds : List Value} (hds : Vals [.ref e0] ds) (b0 : Binds K fd0 ["self", "kind", "cells", "others"] ds) : FnOk P w K mg base CX0 5 f fd ["self", "cells"] (spSub1 C "give") := by
  refine K7Z.sub_fn (N := ["self", "cells", "__class__"]) (ps := ["self", "cells"]) (e := .Constant (.str "give") _ _) (dvs := [.ref e0]) (fs := []) F M ns_Give rfl rfl rfl rfl rfl (fun _ => rfl) (fun _ => rfl) (fun _ => rfl) (fun _ => rfl) (fun _ => rfl) G b0 hds (fun _ _ _ _ _ _ _ _ _ _ _ _ => (pa_cons pe_str (pa_cons (pv 1) pa_nil))) (fun _ _ _ _ _ _ _ => fun _ _ _ _ _ _ _ h => h.elim) (fun vs H Q E h => ?_) (fun vs H Q E h => ?_)
  · obtain ⟨x, dx, c, cs, rfl, _⟩ := h
    rfl
  · obtain ⟨x, dx, c, cs, rfl, hx, hc, L, q⟩ := h
    refine ⟨x, dx, rfl, hx, ?_⟩
    exact ⟨_, rfl, .inr ⟨x, dx, C, c, e0, "give", cs, rfl, cls, nA, hx, hc, hE, L, q⟩⟩

end
end K7
end
/-! ## P33 -/
section
open PySem PySem.Spec PyProof.Rows L2
namespace K7
abbrev N__moving_step : List Str := ["state", "cell", "deed", "own", "now", "moved", "b", "gone", "held", "told", "couple", "untold"]
abbrev s__moving_step : Stmt := topS 52
theorem sc__moving_step : FnScope ["state", "cell", "deed", "own", "now", "moved", "b", "gone", "held", "told", "couple", "untold"] ["state", "cell", "deed"] (defScope s__moving_step) := ⟨rfl, rfl, rfl, by decide +kernel, rfl, by decide +kernel, by decide +kernel⟩
/-! ### the step that a deed is -/
/-- picking out of a row: what a comprehension with a test has grown behind j items -/
def PkV (H1 : Hp) (D : Addr) (xs : List Nat) (p : Nat → Bool) (j : Nat) (H2 : Hp) : Prop := Same H1 H2 ∧ H2 D = some (.lst (ints_ ((xs.take j).filter p)))
theorem PkV.nil {H1 : Hp} {D : Addr} {xs : List Nat} {p : Nat → Bool} (hD : H1 D = none) : PkV H1 D xs p 0 (upd H1 D (.lst [])) := ⟨same_new (Same.refl _) hD, upd_same⟩
theorem PkV.put {H1 H2 : Hp} {D : Addr} {xs : List Nat} {p : Nat → Bool} {j c k : Nat} {σ : L2.St} {b : Bool} (pv : PkV H1 D xs p j H2) (hD : H1 D = none) (hc : xs[j]? = some c) (few : xs.length ≤ 500) (hv : ∃ z : Int, z = (c : Nat) ∧ σ[k]? = some (some (.int z))) (hb : b = p c) :
    if b = true then tVar k σ H2 (fun y H4 => ∃ acc, H4 D = some (.lst acc) ∧ acc.length < sizeLine ∧ PkV H1 D xs p (j + 1) (upd H4 D (.lst (acc ++ [y])))) else PkV H1 D xs p (j + 1) H2 := by
  obtain ⟨e2, hD2⟩ := pv
  obtain ⟨z, rfl, hv⟩ := hv
  have e : (xs.take (j + 1)).filter p = (xs.take j).filter p ++ (if p c = true then [c] else []) := by
    rw [List.take_add_one, hc, List.filter_append, Option.toList_some, List.filter_cons, List.filter_nil]
  subst hb
  refine iteB (fun t => ?_) (fun t => ⟨e2, ?_⟩)
  · refine ⟨_, hv, _, hD2, by unfold ints_; rw [List.length_map]; exact small1000 (Nat.le_trans (List.length_filter_le _ _) (by rw [List.length_take]; omega)), fun b' o hb' => ?_, ?_⟩
    · rw [upd_ne (ne_of_none hb' hD)]
      exact e2 _ _ hb'
    · rw [upd_same, e, if_pos t, ints_snoc]
  · rw [e, if_neg (by rw [t]; decide), List.append_nil]
    exact hD2
theorem PkV.later {H1 H2 H3 : Hp} {D : Addr} {xs : List Nat} {p : Nat → Bool} {j : Nat} (pv : PkV H1 D xs p j H2) (e : Same H2 H3) : PkV H1 D xs p j H3 := ⟨pv.1.trans e, e _ _ pv.2⟩
theorem PkV.done {H1 H2 : Hp} {D : Addr} {xs : List Nat} {p : Nat → Bool} {j : Nat} (pv : PkV H1 D xs p j H2) (h : xs.length ≤ j) : Same H1 H2 ∧ H2 D = some (.lst (ints_ (xs.filter p))) := by
  obtain ⟨e2, hD2⟩ := pv
  rw [List.take_of_length_le h] at hD2
  exact ⟨e2, hD2⟩
theorem range_at {n j : Nat} (h : j < n) : (List.range n)[j]? = some j := by rw [List.getElem?_range h]
theorem ints_at {l : List Nat} {j : Nat} (h : j < l.length) : (ints_ l)[j]? = some (.int (hsAt l j : Nat)) := by
  unfold ints_ hsAt
  rw [List.getElem?_map, List.getElem?_eq_getElem h, List.getD_eq_getElem?_getD, List.getElem?_eq_getElem h]
  rfl
theorem dVn (x y : Nat) : decide (V.int ((x : Nat) : Int) = V.int ((y : Nat) : Int)) = decide (x = y) := decide_eq_decide.mpr ⟨fun h => by injection h with h; omega, fun h => by rw [h]⟩
theorem hb_len {n : Nat} {hs cs : List Nat} {hd : Nat} : (hbF n hs cs hd).length = n := by unfold hbF; rw [List.length_map, List.length_range]
theorem hb_at {n : Nat} {hs cs : List Nat} {hd j : Nat} (h : j < n) : hsAt (hbF n hs cs hd) j = if j ∈ cs then hd else hsAt hs j := by
  unfold hbF
  conv => lhs; unfold hsAt
  rw [List.getD_eq_getElem?_getD, List.getElem?_map, List.getElem?_range h]
  rfl
theorem mv_eq {n : Nat} {hs cs : List Nat} {hd : Nat} : ((List.range n).filter fun b => !decide (hsAt (hbF n hs cs hd) b = hsAt hs b)) = mvF n hs cs hd := by
  unfold mvF
  rw [List.filter_filter]
  refine List.filter_congr fun b hb => ?_
  rw [hb_at (List.mem_range.mp hb)]
  by_cases z : b ∈ cs
  · rw [if_pos z, decide_eq_true z, Bool.and_true]
    congr 1
    exact decide_eq_decide.mpr (by omega)
  · rw [if_neg z, decide_eq_true rfl, decide_eq_false z, Bool.and_false]
    rfl
/-- what a step is to be: its kind and its lots -/
abbrev StT := Option (Str × List Nat × List Nat)
def ownF (n : Nat) (hs : List Nat) (c : Nat) : List Nat := (List.range n).filter fun b => decide (hsAt hs b = hsAt hs c)
def goneF (n : Nat) (hs cs : List Nat) (hd c : Nat) : List Nat := (ownF n hs c).filter fun b => decide (b ∈ mvF n hs cs hd)
def heldF (n : Nat) (hs cs : List Nat) (hd c : Nat) : List Nat := (List.range n).filter fun b => decide (hsAt (hbF n hs cs hd) b = hd) && !decide (b ∈ goneF n hs cs hd c)
def untF (n : Nat) (hs cs : List Nat) (hd c : Nat) (tl : List (Nat × Nat)) : List Nat := (mvF n hs cs hd).filter fun b => !decide (b ∈ ownF n hs c) && !decide ((c, b) ∈ tl)
def msF (n : Nat) (hs cs : List Nat) (hd c : Nat) (tl : List (Nat × Nat)) : StT :=
  if hd = hsAt hs c then some ("come", mvF n hs cs hd, [])
  else if c ∈ mvF n hs cs hd then (if (!(heldF n hs cs hd c).isEmpty || decide ((goneF n hs cs hd c).length < (ownF n hs c).length)) = true then some ("go", goneF n hs cs hd c, heldF n hs cs hd c) else none)
  else if (!(goneF n hs cs hd c).isEmpty || !(untF n hs cs hd c tl).isEmpty) = true then some ("leave", goneF n hs cs hd c, untF n hs cs hd c tl) else none
/-- the classes of steps -/
structure StA where
  le : Addr
  co : Addr
  go : Addr
  gr : Addr
  gi : Addr
def StA.at (A : StA) (z : Str) : Addr := if z = "leave" then A.le else if z = "come" then A.co else if z = "go" then A.go else if z = "grant" then A.gr else A.gi
/-- the value is this step, or None -/
def StIs (A : StA) (H : Hp) (v : V) (o : StT) : Prop := match o with
  | none => v = .non
  | some (z, cs, os) => ∃ p, v = .ref p ∧ StepO (A.at z) H p z cs os
/-- a comprehension over what is a tuple or a list -/
theorem lc_eith {K : PySem.W.Frag} {ta : TE} {g : TG} {tt : TT} {te : TE} {vs : List Nat} {σ : L2.St} {H : Hp} {Q : VK} {a : Addr} {xs : List V} (hta : ∀ R : VK, R (.ref a) H → ta σ H R) (hs : SqOf H a xs)
    (step : ∀ D, H D = none → ∃ Pv : Nat → Hp → Prop, Pv 0 (upd H D (.lst [])) ∧ (∀ i H', Pv i H' → Same H H') ∧ (∀ i x H', xs[i]? = some x → Pv i H' → g x (wipe σ vs) H' fun σ2 H2 => wipe σ2 vs = wipe σ vs ∧ tt σ2 H2 fun b H3 =>
      if b = true then te σ2 H3 fun y H4 => ∃ acc, H4 D = some (.lst acc) ∧ acc.length < sizeLine ∧ Pv (i + 1) (upd H4 D (.lst (acc ++ [y]))) else Pv (i + 1) H3) ∧ ∀ H', Pv xs.length H' → Q (.ref D) H') :
    tLc (fun σ H R => iTup K ta σ H R ∨ iList K ta σ H R) g tt te vs σ H Q := by
  rcases hs with z | z
  · refine .inl (hta _ ⟨a, rfl, ⟨xs, .inl (.inl z)⟩, fun D hD => ?_⟩)
    obtain ⟨Pv, h0, hk, h1, h2⟩ := step D hD
    exact lc_tup (xs := xs) Pv h0 (fun i H' _ pv => .inl (.inl (hk i H' pv _ _ z))) h1 h2
  · refine .inr (hta _ ⟨a, rfl, ⟨xs, .inl (.inl z)⟩, fun D hD => ?_⟩)
    obtain ⟨Pv, h0, hk, h1, h2⟩ := step D hD
    exact lc_list (xs := xs) Pv h0 (fun i H' _ pv => .inl (.inl (hk i H' pv _ _ z))) h1 h2
theorem StA.atLe (A : StA) : A.at "leave" = A.le := rfl
theorem StA.atCo (A : StA) : A.at "come" = A.co := by unfold StA.at; rw [if_neg (by decide), if_pos rfl]
theorem StA.atGo (A : StA) : A.at "go" = A.go := by unfold StA.at; rw [if_neg (by decide), if_neg (by decide), if_pos rfl]
theorem StA.atGr (A : StA) : A.at "grant" = A.gr := by unfold StA.at; rw [if_neg (by decide), if_neg (by decide), if_neg (by decide), if_pos rfl]
theorem StA.atGi (A : StA) : A.at "give" = A.gi := by unfold StA.at; rw [if_neg (by decide), if_neg (by decide), if_neg (by decide), if_neg (by decide)]
theorem made_same {H1 : Hp} {x dx C : Addr} {fs : List (Str × V)} (nx : H1 x = none) (nd : H1 dx = none) (ne : dx ≠ x) : Same H1 (upd (upd H1 dx (.own x)) x (.ins C dx fs)) :=
  same_new (same_new (Same.refl H1) nd) (by rw [upd_ne (Ne.symm ne)]; exact nx)
theorem made_but {H1 H' : Hp} {x dx C : Addr} {fs : List (Str × V)} (nx : H1 x = none) (nd : H1 dx = none) (ne : dx ≠ x) (b : But x (upd (upd H1 dx (.own x)) x (.ins C dx fs)) H') : Same H1 H' := fun y o hy =>
  b y o (by rintro rfl; rw [nx] at hy; cases hy) (made_same nx nd ne _ _ hy)
theorem sub_rng {n : Nat} {l : List Nat} (h : l.Sublist (List.range n)) : (∀ c ∈ l, c < n) ∧ l.Nodup := ⟨fun c hc => List.mem_range.mp (h.subset hc), List.nodup_range.sublist h⟩
theorem own_sub {n : Nat} {hs : List Nat} {c : Nat} : (ownF n hs c).Sublist (List.range n) := List.filter_sublist
theorem mv_sub {n : Nat} {hs cs : List Nat} {hd : Int} : (mvF n hs cs hd).Sublist (List.range n) := List.filter_sublist.trans List.filter_sublist
theorem gone_sub {n : Nat} {hs cs : List Nat} {hd c : Nat} : (goneF n hs cs hd c).Sublist (List.range n) := List.filter_sublist.trans own_sub
theorem held_sub {n : Nat} {hs cs : List Nat} {hd c : Nat} : (heldF n hs cs hd c).Sublist (List.range n) := List.filter_sublist
theorem unt_sub {n : Nat} {hs cs : List Nat} {hd c : Nat} {tl : List (Nat × Nat)} : (untF n hs cs hd c tl).Sublist (List.range n) := List.filter_sublist.trans mv_sub
theorem lots_of {n : Nat} {z : Str} {cs os : List Nat} (n5 : n ≤ 5) (h1 : cs.Sublist (List.range n)) (h2 : os.Sublist (List.range n)) (dj : ∀ b ∈ os, b ∉ cs) (ne : cs = [] → z = "leave" ∧ os ≠ []) : LotsOk z cs os :=
  ⟨fun c hc => Nat.lt_of_lt_of_le ((sub_rng h1).1 c hc) n5, fun c hc => Nat.lt_of_lt_of_le ((sub_rng h2).1 c hc) n5, (sub_rng h1).2, (sub_rng h2).2, dj, ne⟩
section
variable {P : Program} {w : World} {K : PySem.W.Frag} {mg : Str → Option Value} {base : Heap} {a : AdL} {S : Addr} {A5 : StA}
def spMs (a : AdL) (S : Addr) (A5 : StA) : Sp := fun vs H Q _ => ∃ (s l t : Addr) (n c : Nat) (es : List (Nat × Nat)) (rd hs : List Nat) (tab : List (List Nat)) (cs : List Nat) (hd : Nat) (tl : List (Nat × Nat)), vs = [.ref s, .int (c : Nat), .ref t] ∧ StateO a.C S H s l n es rd hs tab ∧ GoV H t n cs hd tl ∧ mvF n hs cs hd ≠ [] ∧ tl.length ≤ 32 ∧ c < n ∧
  ∀ H' v, Same H H' → StIs A5 H' v (msF n hs cs hd c tl) → Q v H'
theorem ok_ms (clsS : Cls K S) (nS : ∀ f ∈ sfields, NoAttr K S f) (T : Tl K mg a) {f fow fhb fco fgo fle : Addr} {fd fdow fdhb fdco fdgo fdle : FuncData} (F : Fun K "_moving_step" "_moving_step" s__moving_step f fd)
    (mow : Meth K S "own_cells" fow) (Gow : FnOk P w K mg base (L2.CX P w) 5 fow fdow ["self", "a"] (spSOwnC a S)) (bow : Binds K fdow ["self", "a"] [])
    (Ghb : FnOk P w K mg base CX0 2 fhb fdhb ["state", "deed"] (spHb a S)) (ghb : mg "hands_behind" = some (.ref fhb)) (khb : PySem.W.keepIn K (.ref fhb) = true) (bhb : Binds K fdhb ["state", "deed"] [])
    (Mco : Mk K A5.co fco) (Gco : FnOk P w K mg base CX0 5 fco fdco ["self", "cells"] (spSub1 A5.co "come")) (gco : mg "Come" = some (.ref A5.co)) (bco : Binds K fdco ["self", "cells"] [])
    (Mgo : Mk K A5.go fgo) (Ggo : FnOk P w K mg base CX0 5 fgo fdgo ["self", "cells", "held"] (spSub2 A5.go "go")) (ggo : mg "Go" = some (.ref A5.go)) (bgo : Binds K fdgo ["self", "cells", "held"] [])
    (Mle : Mk K A5.le fle) (Gle : FnOk P w K mg base CX0 5 fle fdle ["self", "cells", "untold"] (spSub2 A5.le "leave")) (gle : mg "Leave" = some (.ref A5.le)) (ble : Binds K fdle ["self", "cells", "untold"] [])
    (m_len : mg "len" = none) (m_tuple : mg "tuple" = none) (m_range : mg "range" = none) : FnOk P w K mg base CX0 7 f fd ["state", "cell", "deed"] (spMs a S A5) := by
  refine F.ok sc__moving_step (fun vs H Q E h => ?_) (fun cdv A outer s H vs Q E hr h => ?_)
  · obtain ⟨s, l, t, n, c, es, rd, hs, tab, cs, hd, tl, rfl, _⟩ := h
    rfl
  · obtain ⟨s, l, t, n, c, es, rd, hs, tab, cs, hd, tl, rfl, W, G, ne, t32, cn, q⟩ := h
    refine ⟨_, (pss_cons (ps_set (i := 3) sc__moving_step.nd rfl (by first | exact Or.inl rfl | exact Or.inr rfl) (pe_meth (pv 0) clsS mow Gow (hr.mono (by decide)) bow .nil passL (pa_cons (pv 1) pa_nil)))
 (pss_cons (ps_set (i := 4) sc__moving_step.nd rfl (by first | exact Or.inl rfl | exact Or.inr rfl) (pe_call Ghb (hr.mono (by decide)) (by rfl) ghb khb bhb .nil pass0 (pa_cons (pv 0) (pa_cons (pv 2) pa_nil))))
 (pss_cons (ps_set (i := 5) sc__moving_step.nd rfl (by first | exact Or.inl rfl | exact Or.inr rfl) (pe_lc (own := [("b", 6)]) (g := gName 6) rfl sc__moving_step.nd (pi_range1 rfl m_range (pa_cons (pe_fld (pe_fld (pv 0) rfl) rfl) pa_nil)) (blkOk_by (own := [("b", 6)]) (N := N__moving_step) (sc := defScope s__moving_step) (by decide +kernel)) (fun _ _ _ _ _ => (pg_name (i := 6) sc__moving_step.nd rfl (by first | exact Or.inl rfl | exact Or.inr rfl))) (fun _ _ _ _ _ => (pts_one (pt_cmpR op_ne (pe_ix (show IxR _ (rIxT K) from ix_tup) (pv 4) (pv 6) (fun _ _ => rfl)) (pe_ix (show IxR _ (rIxT K) from ix_tup) (show PE _ _ (tFld K (tVar 0) "hands") from pe_fld (pv 0) rfl) (pv 6) (fun _ _ => rfl)) (nomark _)))) (fun _ _ _ _ _ => (pv 6))))
 (pss_cons (ps_set (i := 7) sc__moving_step.nd rfl (by first | exact Or.inl rfl | exact Or.inr rfl) (pe_lc (own := [("b", 6)]) (g := gName 6) rfl sc__moving_step.nd (pi_tup (pv 3)) (blkOk_by (own := [("b", 6)]) (N := N__moving_step) (sc := defScope s__moving_step) (by decide +kernel)) (fun _ _ _ _ _ => (pg_name (i := 6) sc__moving_step.nd rfl (by first | exact Or.inl rfl | exact Or.inr rfl))) (fun _ _ _ _ _ => (pts_one (pt_cmpR (show OpR _ _ (rIn K false) from op_in_seq) (pv 6) (pv 5) (by with_unfolding_all rfl)))) (fun _ _ _ _ _ => (pv 6))))
 (pss_cons (ps_if (pt_cmpR op_eq (pe_ix ix_tup (pv 2) pe_int (fun _ _ => rfl)) (pe_ix ix_tup (pe_fld (pv 0) rfl) (pv 1) (fun _ _ => rfl)) (nomark _))
  (pss_one (ps_ret (pe_make Mco Gco (hr.mono (by decide)) (by rfl) gco bco .nil pass0 (pa_cons (pv 5) pa_nil))))
  pss_nil)
 (pss_cons (ps_if (pt_cmpR op_in_seq (pv 1) (pv 5) (by with_unfolding_all rfl))
  (pss_cons (ps_setLc (i := 8) (own := [("b", 6)]) (g := gName 6) rfl sc__moving_step.nd rfl rfl (sw_true rfl rfl rfl (by decide +kernel)) (pi_range1 rfl m_range (pa_cons (pe_fld (pe_fld (pv 0) rfl) rfl) pa_nil)) (blkOk_by (own := [("b", 6)]) (N := N__moving_step) (sc := defScope s__moving_step) (by decide +kernel)) (fun _ _ _ _ _ => (pg_name (i := 6) sc__moving_step.nd rfl (by first | exact Or.inl rfl | exact Or.inr rfl))) (fun _ _ _ _ _ => (pts_one (PW.pt (pw_and (pt_cmpR op_eq (pe_ix (show IxR _ (rIxT K) from ix_tup) (pv 4) (pv 6) (fun _ _ => rfl)) (pe_ix (show IxR _ (rIxT K) from ix_tup) (pv 2) pe_int (fun _ _ => rfl)) (nomark _)) (pw_and1 (pt_cmpR (show OpR _ _ (rIn K true) from op_notIn_seq) (pv 6) (pv 7) (by with_unfolding_all rfl))))))) (fun _ _ _ _ _ => (pv 6)))
 (pss_one (ps_ret (pe_ifExp (pw_or (pt_truth (pv 8) (by intro _; rfl)) (pw_or1 (pt_cmpR op_lt (pe_callB call_len_seq (by rfl) m_len boot_len (pa_cons (pv 7) pa_nil)) (pe_callB call_len_seq (by rfl) m_len boot_len (pa_cons (pv 3) pa_nil)) (nomark _)))).pt (pe_make Mgo Ggo (hr.mono (by decide)) (by rfl) ggo bgo .nil pass0 (pa_cons (pv 7) (pa_cons (pv 8) pa_nil))) pe_non))))
  pss_nil)
 (pss_cons (ps_set (i := 9) sc__moving_step.nd rfl (by first | exact Or.inl rfl | exact Or.inr rfl) (pe_lc (own := [("couple", 10)]) (g := gName 10) (tt := tYes) rfl sc__moving_step.nd (K7E.pi_either (pi_tup (pe_ix ix_tup (pv 2) pe_int (fun _ _ => rfl))) (pi_list (pe_ix ix_tup (pv 2) pe_int (fun _ _ => rfl)))) (blkOk_by (own := [("couple", 10)]) (N := N__moving_step) (sc := defScope s__moving_step) (by decide +kernel)) (fun _ _ _ _ _ => (pg_name (i := 10) sc__moving_step.nd rfl (by first | exact Or.inl rfl | exact Or.inr rfl))) (fun _ _ _ _ _ => pts_nil) (fun _ _ _ _ _ => (pe_callTy (show CallR _ (.type "tuple") (rTup_ K) from call_tuple_of) (by rfl) m_tuple boot_tuple (pa_cons (pv 10) pa_nil)))))
 (pss_cons (ps_setLc (i := 11) (own := [("b", 6)]) (g := gName 6) rfl sc__moving_step.nd rfl rfl (sw_true rfl rfl rfl (by decide +kernel)) (pi_list (pv 5)) (blkOk_by (own := [("b", 6)]) (N := N__moving_step) (sc := defScope s__moving_step) (by decide +kernel)) (fun _ _ _ _ _ => (pg_name (i := 6) sc__moving_step.nd rfl (by first | exact Or.inl rfl | exact Or.inr rfl))) (fun _ _ _ _ _ => (pts_one (PW.pt (pw_and (pt_cmpR (show OpR _ _ (rIn K true) from op_notIn_seq) (pv 6) (pv 3) (by with_unfolding_all rfl)) (pw_and1 (pt_cmpR (show OpR _ _ (rNotInD K) from op_notInD (K7L.hu65 hr)) (pe_tup (pa_cons (pv 1) (pa_cons (pv 6) pa_nil))) (pv 9) (by with_unfolding_all rfl))))))) (fun _ _ _ _ _ => (pv 6)))
 (pss_one (ps_ret (pe_ifExp (pw_or (pt_truth (pv 7) (by intro _; rfl)) (pw_or1 (pt_truth (pv 11) (by intro _; rfl)))).pt (pe_make Mle Gle (hr.mono (by decide)) (by rfl) gle ble .nil pass0 (pa_cons (pv 7) (pa_cons (pv 11) pa_nil))) pe_non))))))))))), ?_⟩
    obtain ⟨dx, th, tb, rs, s1, s2, s3, s4⟩ := W.at_
    obtain ⟨b, tt, ts, g1, g2, g3, g4⟩ := G.at_
    obtain ⟨dxl, fsl, l1, l2⟩ := W.ld.c
    have n5 := W.ld.n5
    refine ⟨_, rfl, s, dx, _, rfl, s1, rfl, _, rfl, s, l, n, es, rd, hs, tab, _, rfl, W, .inl ⟨c, rfl, cn, fun H1 uo e1 no ho => ?_⟩⟩
    refine ⟨_, rfl, _, rfl, s, l, t, n, es, rd, hs, tab, cs, hd, tl, rfl, W.same e1, G.same e1, fun H2 un e2 nn hn => ?_⟩
    have e12 := e1.trans e2
    have ho2 := e2 _ _ ho
    refine ⟨_, rfl, s, S, dx, _, _, rfl, e12 _ _ s1, clsS, nS _ (by decide), rfl, l, a.C, dxl, fsl, _, rfl, e12 _ _ l1, T.cl, T.nA _ (by decide), l2, ?_⟩
    have hatN : ∀ {j : Nat}, j < n → (ints_ (hbF n hs cs hd))[j]? = some (.int (hsAt (hbF n hs cs hd) j : Nat)) := fun h => ints_at (by rw [hb_len]; exact h)
    refine ⟨_, rfl, by omega, by omega, fun D hD => lc_range (lo := 0) (n := n) (PkV H2 D (List.range n) fun b => !decide (hsAt (hbF n hs cs hd) b = hsAt hs b)) (PkV.nil hD) (fun j H3 hj pv => ?_) (fun H3 pv => ?_)⟩
    · have e3 := pv.1
      refine ⟨rfl, _, rfl, _, rfl, un, _, _, _, rfl, rfl, .inl (.inl (e3 _ _ hn)), by rw [Int.zero_add]; exact atI_nat (hatN hj), _, rfl, s, S, dx, _, _, rfl, (e12.trans e3) _ _ s1, clsS, nS _ (by decide), rfl, _, rfl, th, _, _, _, rfl, rfl, .inl (.inl ((e12.trans e3) _ _ s2)), by rw [Int.zero_add]; exact atI_nat (W.st.hat hj), rfl, _, rfl, ?_⟩
      exact pv.put hD (range_at hj) (by rw [List.length_range]; omega) ⟨_, Int.zero_add _, rfl⟩ (by rw [dVn])
    have pv := pv.done (by rw [List.length_range]; exact Nat.le_refl _)
    rw [mv_eq] at pv
    obtain ⟨e3, hm⟩ := pv
    have e13 := e12.trans e3
    have own_eq : ((List.range n).filter fun b => decide (hsAt hs b = hsAt hs c)) = ownF n hs c := rfl
    rw [own_eq] at ho ho2
    have ho3 := e3 _ _ ho2
    have ol : (ownF n hs c).length ≤ n := by unfold ownF; exact Nat.le_trans (List.length_filter_le _ _) (by rw [List.length_range]; exact Nat.le_refl _)
    have ml : (mvF n hs cs hd).length ≤ n := by rw [← mv_eq]; exact Nat.le_trans (List.length_filter_le _ _) (by rw [List.length_range]; exact Nat.le_refl _)
    -- gone
    refine ⟨_, rfl, uo, rfl, ⟨_, .inl (.inl ho3)⟩, fun D2 hD2 => lc_tup (xs := ints_ (ownF n hs c)) (PkV H3 D2 (ownF n hs c) fun b => decide (b ∈ mvF n hs cs hd)) (PkV.nil hD2) (fun j H4 _ pv => .inl (.inl (pv.1 _ _ ho3))) (fun j x H4 hx pv => ?_) (fun H4 pv => ?_)⟩
    · have e4 := pv.1
      unfold ints_ at hx
      rw [List.getElem?_map] at hx
      obtain ⟨b', hb', rfl⟩ := Option.map_eq_some_iff.mp hx
      refine ⟨rfl, _, rfl, _, rfl, D, _, rfl, .inl (.inl (.inl (e4 _ _ hm))), rfl, flat_ints _, _, rfl, ?_⟩
      exact pv.put hD2 hb' (by omega) ⟨_, rfl, rfl⟩ (inV_ints b' _)
    have pv := pv.done (by unfold ints_; rw [List.length_map]; exact Nat.le_refl _)
    have gone_eq : ((ownF n hs c).filter fun b => decide (b ∈ mvF n hs cs hd)) = goneF n hs cs hd c := rfl
    rw [gone_eq] at pv
    obtain ⟨e4, hg⟩ := pv
    have e14 := e13.trans e4
    have hm4 := e4 _ _ hm
    -- the deed's hand is the cell's
    refine ⟨_, rfl, t, _, 2, .int (hd : Nat), rfl, rfl, .inl (.inl (e14 _ _ g1)), atI_nat (j := 2) rfl, _, rfl, s, S, dx, _, _, rfl, e14 _ _ s1, clsS, nS _ (by decide), rfl, _, rfl, th, _, _, _, rfl, rfl, .inl (.inl (e14 _ _ s2)), atI_nat (W.st.hat cn), rfl, _, rfl, ?_⟩
    rw [dVn]
    refine ite2 (fun d => ?_) (fun d => ?_)
    · have d := of_decide_eq_true d
      refine ⟨_, rfl, fun x dxx nx nd nex => ⟨x, dxx, D, mvF n hs cs hd, rfl, upd_same, .inr (made_same nx nd nex _ _ hm4), lots_of n5 mv_sub (List.nil_sublist _) (fun _ h => nomatch h) (fun e => absurd e ne), fun H' bu so => ⟨rfl, ?_⟩⟩⟩
      refine q H' _ (e14.trans (made_but nx nd nex bu)) ?_
      unfold msF
      rw [if_pos d]
      exact ⟨x, rfl, A5.atCo ▸ so⟩
    have d := fun z => d (decide_eq_true z)
    -- the cell moves
    refine ⟨_, rfl, _, rfl, D, _, rfl, .inl (.inl (.inl hm4)), rfl, flat_ints _, _, rfl, ?_⟩
    refine ite2 (fun m => ?_) (fun m => ?_)
    · have m := of_decide_eq_true ((inV_ints c _).symm.trans m)
      refine ⟨_, rfl, s, S, dx, _, _, rfl, e14 _ _ s1, clsS, nS _ (by decide), rfl, l, a.C, dxl, fsl, _, rfl, e14 _ _ l1, T.cl, T.nA _ (by decide), l2, ?_⟩
      refine ⟨_, rfl, by omega, by omega, fun D3 hD3 => lc_range (lo := 0) (n := n) (PkV H4 D3 (List.range n) fun b => decide (hsAt (hbF n hs cs hd) b = hd) && !decide (b ∈ goneF n hs cs hd c)) (PkV.nil hD3) (fun j H5 hj pv => ?_) (fun H5 pv => ?_)⟩
      · have e5 := pv.1
        refine ⟨rfl, _, rfl, _, rfl, un, _, _, _, rfl, rfl, .inl (.inl (e5 _ _ (e4 _ _ (e3 _ _ hn)))), by rw [Int.zero_add]; exact atI_nat (hatN hj), _, rfl, t, _, 2, .int (hd : Nat), rfl, rfl, .inl (.inl ((e14.trans e5) _ _ g1)), atI_nat (j := 2) rfl, rfl, _, rfl, ?_⟩
        rw [dVn]
        refine ite2 (fun h1 => ?_) (fun h1 => ?_)
        · refine ⟨_, rfl, _, rfl, D2, _, rfl, .inl (.inl (.inl (e5 _ _ hg))), rfl, flat_ints _, _, rfl, ?_⟩
          refine pv.put hD3 (range_at hj) (by rw [List.length_range]; omega) ⟨_, Int.zero_add _, rfl⟩ ?_
          rw [Int.zero_add, inV_ints, h1]
          rfl
        · exact pv.put hD3 (range_at hj) (by rw [List.length_range]; omega) ⟨_, Int.zero_add _, rfl⟩ (by rw [Bool.eq_false_iff.mpr h1]; rfl)
      have pv := pv.done (by rw [List.length_range]; exact Nat.le_refl _)
      have held_eq : ((List.range n).filter fun b => decide (hsAt (hbF n hs cs hd) b = hd) && !decide (b ∈ goneF n hs cs hd c)) = heldF n hs cs hd c := rfl
      rw [held_eq] at pv
      obtain ⟨e5, hh⟩ := pv
      have e15 := e14.trans e5
      have hg5 := e5 _ _ hg
      have mem_own : c ∈ ownF n hs c := List.mem_filter.mpr ⟨List.mem_range.mpr cn, decide_eq_true rfl⟩
      have mem_gone : c ∈ goneF n hs cs hd c := List.mem_filter.mpr ⟨mem_own, decide_eq_true m⟩
      have mk : (!(heldF n hs cs hd c).isEmpty || decide ((goneF n hs cs hd c).length < (ownF n hs c).length)) = true → ∀ (E' : XK) (x dxx : Addr), H5 x = none → H5 dxx = none → dxx ≠ x →
          spSub2 A5.go "go" [.ref x, .ref D2, .ref D3] (upd (upd H5 dxx (.own x)) x (.ins A5.go dxx [])) (fun v H2 => v = .non ∧ Q (.ref x) H2) E' := fun hc E' x dxx nx nd nex => by
        refine ⟨x, dxx, D2, D3, goneF n hs cs hd c, heldF n hs cs hd c, rfl, upd_same, .inr (made_same nx nd nex _ _ hg5), .inr (made_same nx nd nex _ _ hh), lots_of n5 gone_sub held_sub (fun b hb hb2 => ?_) (fun e => ?_), fun H' bu so => ⟨rfl, ?_⟩⟩
        · have z := (Bool.and_eq_true_iff.mp (List.mem_filter.mp hb).2).2
          rw [decide_eq_true hb2] at z
          cases z
        · rw [e] at mem_gone
          cases mem_gone
        · refine q H' _ (e15.trans (made_but nx nd nex bu)) ?_
          unfold msF
          rw [if_neg d, if_pos m, if_pos hc]
          exact ⟨x, rfl, A5.atGo ▸ so⟩
      refine ⟨_, rfl, !(ints_ (heldF n hs cs hd c)).isEmpty, .inl ⟨_, .inl (.inl hh), rfl⟩, ?_⟩
      have ie : ∀ l : List Nat, (ints_ l).isEmpty = l.isEmpty := fun l => by cases l <;> rfl
      rw [ie]
      refine iteB (fun h1 => ?_) (fun h1 => ?_)
      · exact ⟨_, rfl, _, rfl, mk (by rw [h1]; rfl) _⟩
      · refine ⟨_, rfl, D2, _, rfl, .inl (.inl (.inl hg5)), _, rfl, uo, _, rfl, .inr (.inl (.inl (e5 _ _ (e4 _ _ ho3)))), _, _, rfl, rfl, _, rfl, ?_⟩
        have il : ∀ l : List Nat, (ints_ l).length = l.length := fun l => by unfold ints_; rw [List.length_map]
        rw [il, il]
        refine ite2 (fun h2 => ?_) (fun h2 => ?_)
        · exact ⟨_, rfl, _, rfl, mk (by rw [decide_eq_true (by have := of_decide_eq_true h2; omega), Bool.or_true]) _⟩
        · refine q H5 _ e15 ?_
          unfold msF
          rw [if_neg d, if_pos m, if_neg (by rw [h1, decide_eq_false (fun z => h2 (decide_eq_true (by omega)))]; decide)]
          rfl
    have m : c ∉ mvF n hs cs hd := fun z => m ((inV_ints c _).trans (decide_eq_true z))
    -- the told couples
    have tnP : ∀ {j : Nat} {x : V}, (ts.map V.ref)[j]? = some x → ∃ (b : Addr) (k : Nat × Nat), x = .ref b ∧ tl[j]? = some k ∧ H b = some (.tup (ints_ [k.1, k.2])) := fun {j x} hx => by
      rw [List.getElem?_map] at hx
      obtain ⟨b, hb, rfl⟩ := Option.map_eq_some_iff.mp hx
      obtain ⟨l', hl', hb'⟩ := g4.get hb
      unfold pairs at hl'
      rw [List.getElem?_map] at hl'
      obtain ⟨k, hk, rfl⟩ := Option.map_eq_some_iff.mp hl'
      exact ⟨b, k, rfl, hk, hb'⟩
    dsimp only [tNext]
    rw [tSeq, tAsg]
    refine lc_eith (fun R r => ⟨_, rfl, t, _, 3, .ref tt, rfl, rfl, .inl (.inl (e14 _ _ g1)), atI_nat (j := 3) rfl, r⟩) (g3.same e14) (fun D3 hD3 => ⟨fun j H5 => Same H4 H5 ∧ H5 D3 = some (.lst ((ts.take j).map V.ref)), ⟨same_new (Same.refl _) hD3, upd_same⟩, fun i H' pv => pv.1, fun j x H5 hx pv => ?_, fun H5 pv => ?_⟩)
    · obtain ⟨e5, hD5⟩ := pv
      obtain ⟨b', k, rfl, hk, hb'⟩ := tnP hx
      have hj : ts[j]? = some b' := by
        rw [List.getElem?_map] at hx
        obtain ⟨b2, h2, e⟩ := Option.map_eq_some_iff.mp hx
        cases e
        exact h2
      refine ⟨rfl, _, rfl, b', _, rfl, .inr ⟨.inl (.inl ((e14.trans e5) _ _ hb')), _, hD5, ?_, fun y o hy => ?_, ?_⟩⟩
      · rw [List.length_map, List.length_take]
        have z := g4.len
        unfold pairs at z
        rw [List.length_map] at z
        exact small1000 (by omega)
      · rw [upd_ne (ne_of_none hy hD3)]
        exact e5 _ _ hy
      · rw [upd_same, List.take_add_one, hj, List.map_append]
        rfl
    obtain ⟨e5, hT⟩ := pv
    rw [List.take_of_length_le (by rw [List.length_map]; exact Nat.le_refl _)] at hT
    have e15 := e14.trans e5
    have hm5 := e5 _ _ hm4
    have hg5 := e5 _ _ hg
    have ho5 := e5 _ _ (e4 _ _ ho3)
    have hTT : TAt H5 ts (pairs tl) := TAt.same e15 g4
    refine ⟨_, rfl, D, rfl, ⟨_, .inl (.inl hm5)⟩, fun D4 hD4 => lc_list (xs := ints_ (mvF n hs cs hd)) (PkV H5 D4 (mvF n hs cs hd) fun b => !decide (b ∈ ownF n hs c) && !decide ((c, b) ∈ tl)) (PkV.nil hD4) (fun j H6 _ pv => .inl (.inl (pv.1 _ _ hm5))) (fun j x H6 hx pv => ?_) (fun H6 pv => ?_)⟩
    · have e6 := pv.1
      unfold ints_ at hx
      rw [List.getElem?_map] at hx
      obtain ⟨b', hb', rfl⟩ := Option.map_eq_some_iff.mp hx
      refine ⟨rfl, _, rfl, _, rfl, uo, _, rfl, .inr (.inl (.inl (e6 _ _ ho5))), rfl, flat_ints _, _, rfl, ?_⟩
      refine ite2 (fun h1 => ?_) (fun h1 => ?_)
      · refine ⟨_, rfl, _, rfl, by show 2 ≤ sizeLine; decide, fun T' nT => ?_⟩
        have sT := same_new (o := .tup [.int (c : Nat), .int (b' : Nat)]) (Same.refl H6) nT
        refine ⟨_, rfl, intD [c, b'], _, .tup (xs := [.int (c : Nat), .int (b' : Nat)]) (.inl (.inl upd_same)) (dp_ints [c, b']), .lst (.inl (.inl ((e6.trans sT) _ _ hT))) (dp_rows (TAt.same (e6.trans sT) hTT)), shaped_ints _, shaped_rows _, _, rfl, ?_⟩
        refine (pv.later sT).put hD4 hb' (by omega) ⟨_, rfl, rfl⟩ ?_
        rw [any_rows]
        have z : inV (.int (b' : Nat)) (ints_ (ownF n hs c)) = decide (b' ∈ ownF n hs c) := inV_ints b' _
        have h1 : (!inV (.int (b' : Nat)) (ints_ (ownF n hs c))) = true := h1
        rw [z] at h1
        rw [h1]
        rfl
      · refine pv.put hD4 hb' (by omega) ⟨_, rfl, rfl⟩ ?_
        have z : inV (.int (b' : Nat)) (ints_ (ownF n hs c)) = decide (b' ∈ ownF n hs c) := inV_ints b' _
        have h1 : ¬ (!inV (.int (b' : Nat)) (ints_ (ownF n hs c))) = true := h1
        rw [z] at h1
        rw [Bool.eq_false_iff.mpr h1]
        rfl
    have pv := pv.done (by unfold ints_; rw [List.length_map]; exact Nat.le_refl _)
    have unt_eq : ((mvF n hs cs hd).filter fun b => !decide (b ∈ ownF n hs c) && !decide ((c, b) ∈ tl)) = untF n hs cs hd c tl := rfl
    rw [unt_eq] at pv
    obtain ⟨e6, hu⟩ := pv
    have e16 := e15.trans e6
    have hg6 := e6 _ _ hg5
    have mk : (!(goneF n hs cs hd c).isEmpty || !(untF n hs cs hd c tl).isEmpty) = true → ∀ (E' : XK) (x dxx : Addr), H6 x = none → H6 dxx = none → dxx ≠ x →
        spSub2 A5.le "leave" [.ref x, .ref D2, .ref D4] (upd (upd H6 dxx (.own x)) x (.ins A5.le dxx [])) (fun v H2 => v = .non ∧ Q (.ref x) H2) E' := fun hc E' x dxx nx nd nex => by
      refine ⟨x, dxx, D2, D4, goneF n hs cs hd c, untF n hs cs hd c tl, rfl, upd_same, .inr (made_same nx nd nex _ _ hg6), .inr (made_same nx nd nex _ _ hu), lots_of n5 gone_sub unt_sub (fun b hb hb2 => ?_) (fun e => ⟨rfl, fun e2 => ?_⟩), fun H' bu so => ⟨rfl, ?_⟩⟩
      · have z := (Bool.and_eq_true_iff.mp (List.mem_filter.mp hb).2).1
        rw [decide_eq_true (List.mem_filter.mp hb2).1] at z
        cases z
      · rw [e, e2] at hc
        cases hc
      · refine q H' _ (e16.trans (made_but nx nd nex bu)) ?_
        unfold msF
        rw [if_neg d, if_neg m, if_pos hc]
        exact ⟨x, rfl, A5.atLe ▸ so⟩
    have ie : ∀ l : List Nat, (ints_ l).isEmpty = l.isEmpty := fun l => by cases l <;> rfl
    refine ⟨_, rfl, !(ints_ (goneF n hs cs hd c)).isEmpty, .inl ⟨_, .inl (.inl hg6), rfl⟩, ?_⟩
    rw [ie]
    refine iteB (fun h1 => ?_) (fun h1 => ?_)
    · exact ⟨_, rfl, _, rfl, mk (by rw [h1]; rfl) _⟩
    · refine ⟨_, rfl, !(ints_ (untF n hs cs hd c tl)).isEmpty, .inl ⟨_, .inl (.inl hu), rfl⟩, ?_⟩
      rw [ie]
      refine iteB (fun h2 => ?_) (fun h2 => ?_)
      · exact ⟨_, rfl, _, rfl, mk (by rw [h2, Bool.or_true]) _⟩
      · refine q H6 _ e16 ?_
        unfold msF
        rw [if_neg d, if_neg m, if_neg (by rw [h1, h2]; decide)]
        rfl
end
end K7
end
/-! ## P34 -/
section
open PySem PySem.Spec PyProof.Rows L2
namespace K7
abbrev N_step_of : List Str := ["state", "cell", "deed"]
abbrev s_step_of : Stmt := topS 53
theorem sc_step_of : FnScope ["state", "cell", "deed"] ["state", "cell", "deed"] (defScope s_step_of) := ⟨rfl, rfl, rfl, by decide +kernel, rfl, by decide +kernel, by decide +kernel⟩
/-! ### the step that a deed is, checked -/
theorem ShV.same {K : PySem.W.Frag} {n : Nat} {H H' : Hp} {v r : V} (h : ShV K n H v r) (e : Same H H') : ShV K n H' v r := by
  cases h with
  | noseq h => exact .noseq (h.imp fun t z => ⟨fun H1 e1 => z.1 H1 (e.trans e1), z.2⟩)
  | none h => exact .none (h.same e)
  | form h hz hl hf => exact .form (e _ _ h) hz hl hf
  | said h hz hb hd ly lz => exact .said (e _ _ h) hz (hb.same e) (hd.same e) ly lz
  | goes h hb ht hT nd c32 ly => exact .goes (e _ _ h) (hb.same e) (ht.same e) (TAt.same e hT) nd c32 ly
theorem DfV.same {K : PySem.W.Frag} {n : Nat} {hs : List Nat} {H H' : Hp} {v r : V} (h : DfV K n hs H v r) (e : Same H H') : DfV K n hs H' v r := by
  cases h with
  | bad h => exact .bad (h.same e)
  | said h hz hb hd lc ld => exact .said (e _ _ h) hz (hb.same e) (hd.same e) lc ld
  | goes G ne h30 tn t32 tc => exact .goes (G.same e) ne h30 tn t32 tc
inductive DeedT where
  | said (g : Bool) (cs ds : List Nat)
  | goes (cs : List Nat) (hd : Nat) (tl : List (Nat × Nat))
def sayW (g : Bool) : Str := if g then "grant" else "gives"
/-- the deed stands at t and can be done -/
def DeedAt (n : Nat) (hs : List Nat) (H : Hp) (t : Addr) : DeedT → Prop
  | .said g cs ds => (∃ b d, H t = some (.tup [.str (sayW g), .ref b, .ref d]) ∧ SqOf H b (ints_ cs) ∧ SqOf H d (ints_ ds)) ∧ LotN n cs ∧ LotN n ds ∧ sdV hs cs ds = .non
  | .goes cs hd tl => GoV H t n cs hd tl ∧ 0 < cs.length ∧ hd ≤ 10 ^ 30 ∧ tl.Nodup ∧ tl.length ≤ 32 ∧ tl.all (coB n) = true ∧ mvF n hs cs hd ≠ []
theorem DeedAt.same {n : Nat} {hs : List Nat} {H H' : Hp} {t : Addr} {D : DeedT} (h : DeedAt n hs H t D) (e : Same H H') : DeedAt n hs H' t D := by
  cases D with
  | said g cs ds =>
    obtain ⟨⟨b, d, h1, h2, h3⟩, h4⟩ := h
    exact ⟨⟨b, d, e _ _ h1, h2.same e, h3.same e⟩, h4⟩
  | goes cs hd tl => exact ⟨h.1.same e, h.2⟩
theorem DeedAt.df {K : PySem.W.Frag} {n : Nat} {hs : List Nat} {H : Hp} {t : Addr} {D : DeedT} (h : DeedAt n hs H t D) : DfV K n hs H (.ref t) .non := by
  cases D with
  | said g cs ds =>
    obtain ⟨⟨b, d, h1, h2, h3⟩, h4, h5, h6⟩ := h
    exact h6 ▸ .said h1 (by cases g; exact .inr rfl; exact .inl rfl) h2 h3 h4 h5
  | goes cs hd tl =>
    obtain ⟨h1, h2, h3, h4, h5, h6, h7⟩ := h
    have z : DfV K n hs H (.ref t) (goV n hs cs hd) := .goes h1 h2 h3 h4 h5 h6
    unfold goV at z
    rw [if_neg h7] at z
    exact z
/-- the step that it is for the cell -/
def sfF (n : Nat) (hs : List Nat) (c : Nat) : DeedT → StT
  | .said g cs ds => if c ∈ cs then some (if g then "grant" else "give", ds, []) else none
  | .goes cs hd tl => msF n hs cs hd c tl
section
variable {P : Program} {w : World} {K : PySem.W.Frag} {mg : Str → Option Value} {base : Heap} {a : AdL} {S B : Addr} {A5 : StA}
variable {fk : Addr} (Gck : FnR P w K mg base (L2.CX P w) 4 fk (spCheck a)) (gck : mg "check_cells" = some (.ref fk)) (kck : PySem.W.keepIn K (.ref fk) = true)
def spSo (K : PySem.W.Frag) (a : AdL) (S B : Addr) (A5 : StA) : Sp := fun vs H Q E => ∃ (s l : Addr) (n : Nat) (es : List (Nat × Nat)) (rd hs : List Nat) (tab : List (List Nat)) (y v : V), vs = [.ref s, y, v] ∧ StateO a.C S H s l n es rd hs tab ∧
  CellOr a.B n H y E fun c => (∃ z : Str, DfV K n hs H v (.str z) ∧ Flies H B "what" (.str z) E) ∨ ∃ t D, v = .ref t ∧ DeedAt n hs H t D ∧ ∀ H' u, Same H H' → StIs A5 H' u (sfF n hs c D) → Q u H'
include Gck gck kck in
theorem ok_so (clsS : Cls K S) (nS : ∀ f ∈ sfields, NoAttr K S f) {f fcd fms fgr fgi : Addr} {fd fdcd fdms fdgr fdgi : FuncData} (F : Fun K "step_of" "step_of" s_step_of f fd)
    (Gcd : FnOk P w K mg base (L2.CX P w) 8 fcd fdcd ["state", "deed"] (spCkD K a S B)) (gcd : mg "check_deed" = some (.ref fcd)) (kcd : PySem.W.keepIn K (.ref fcd) = true) (bcd : Binds K fdcd ["state", "deed"] [])
    (Gms : FnOk P w K mg base CX0 7 fms fdms ["state", "cell", "deed"] (spMs a S A5)) (gms : mg "_moving_step" = some (.ref fms)) (kms : PySem.W.keepIn K (.ref fms) = true) (bms : Binds K fdms ["state", "cell", "deed"] [])
    (Mgr : Mk K A5.gr fgr) (Ggr : FnOk P w K mg base CX0 5 fgr fdgr ["self", "cells"] (spSub1 A5.gr "grant")) (ggr : mg "Grant" = some (.ref A5.gr)) (bgr : Binds K fdgr ["self", "cells"] [])
    (Mgi : Mk K A5.gi fgi) (Ggi : FnOk P w K mg base CX0 5 fgi fdgi ["self", "cells"] (spSub1 A5.gi "give")) (ggi : mg "Give" = some (.ref A5.gi)) (bgi : Binds K fdgi ["self", "cells"] []) : FnOk P w K mg base (L2.CX P w) 9 f fd ["state", "cell", "deed"] (spSo K a S B A5) := by
  refine F.okX sc_step_of (fun vs H Q E h => ?_) (fun cdv A outer s H vs Q E hr h => ?_)
  · obtain ⟨s, l, n, es, rd, hs, tab, y, v, rfl, _⟩ := h
    rfl
  · obtain ⟨s, l, n, es, rd, hs, tab, y, v, rfl, W, h⟩ := h
    refine ⟨_, (pss_cons (ps_expr (K7E.pe_callR0 Gck (hr.mono (by decide)) (by rfl) gck kck (passes_call (E := E) (takes_of rfl rfl rfl rfl) (fun _ _ _ _ h => h)) (pa_cons (pe_fld (pv 0) rfl) (pa_cons (pv 1) pa_nil))))
 (pss_cons (ps_expr (pe_call Gcd (hr.mono (by decide)) (by rfl) gcd kcd bcd .nil (passes_call (E := E) (takes_of rfl rfl rfl rfl) (fun _ _ _ _ h => h)) (pa_cons (pv 0) (pa_cons (pv 2) pa_nil))))
 (pss_cons (ps_if (pt_cmpR op_eq (pe_ix ix_tup (pv 2) pe_int (fun _ _ => rfl)) pe_str (nomark _))
  (pss_one (ps_ret (pe_call Gms (hr.mono (by decide)) (by rfl) gms kms bms .nil pass0 (pa_cons (pv 0) (pa_cons (pv 1) (pa_cons (pv 2) pa_nil))))))
  pss_nil)
 (pss_cons (ps_if (pt_cmpR op_notIn_seq (pv 1) (pe_ix ix_tup (pv 2) pe_int (fun _ _ => rfl)) (by with_unfolding_all rfl))
  (pss_one (ps_ret pe_non))
  pss_nil)
 (pss_one (ps_ret (pe_ifExp (pt_cmpR op_eq (pe_ix ix_tup (pv 2) pe_int (fun _ _ => rfl)) pe_str (nomark _)) (pe_make Mgr Ggr (hr.mono (by decide)) (by rfl) ggr bgr .nil pass0 (pa_cons (pe_ix ix_tup (pv 2) pe_int (fun _ _ => rfl)) pa_nil)) (pe_make Mgi Ggi (hr.mono (by decide)) (by rfl) ggi bgi .nil pass0 (pa_cons (pe_ix ix_tup (pv 2) pe_int (fun _ _ => rfl)) pa_nil))))))))), ?_⟩
    obtain ⟨dx, th, tb, rs, s1, s2, s3, s4⟩ := W.at_
    rcases h with ⟨c, rfl, hc, q⟩ | ⟨thg, wf, fl⟩
    rotate_left
    · exact ⟨_, rfl, s, S, dx, _, _, rfl, s1, clsS, nS _ (by decide), rfl, _, rfl, l, n, [y], rfl, W.ld.c, by show 1 < 64; decide, .inr ⟨[], y, [], rfl, fun y hy => (nomatch hy), fun y hy => (nomatch hy), thg, wf, fl⟩⟩
    refine ⟨_, rfl, s, S, dx, _, _, rfl, s1, clsS, nS _ (by decide), rfl, _, rfl, l, n, [.int (c : Nat)], rfl, W.ld.c, by show 1 < 64; decide, .inl ⟨fun y hy => by rw [List.mem_singleton.mp hy]; exact .flat (.int _), one_in hc, fun H1 e1 => ?_⟩⟩
    rcases q with ⟨z, hz, fl⟩ | ⟨t, D, rfl, hD, q⟩
    · exact ⟨_, rfl, _, rfl, s, l, n, es, rd, hs, tab, v, .str z, rfl, W.same e1, hz.same e1, .inr ⟨z, rfl, fl.later e1⟩⟩
    refine ⟨_, rfl, _, rfl, s, l, n, es, rd, hs, tab, .ref t, .non, rfl, W.same e1, (hD.same e1).df, .inl ⟨rfl, fun H2 e2 => ?_⟩⟩
    have e12 := e1.trans e2
    have D2 := hD.same e12
    cases D with
    | goes cs hd tl =>
      obtain ⟨G, h2, h3, h4, h5, h6, h7⟩ := D2
      obtain ⟨b, tt, ts, g1, g2, g3, g4⟩ := id G.at_
      refine ⟨_, rfl, t, _, 0, .str "goes", rfl, rfl, .inl (.inl g1), atI_nat (j := 0) rfl, rfl, _, rfl, iteTo (by decide) ?_⟩
      exact ⟨_, rfl, _, rfl, _, rfl, s, l, t, n, c, es, rd, hs, tab, cs, hd, tl, rfl, W.same e12, G, h7, h5, hc, fun H' u e3 st => q H' u (e12.trans e3) st⟩
    | said g cs ds =>
      obtain ⟨⟨b, d, h1, h2, h3⟩, lc, ld, h6⟩ := D2
      refine ⟨_, rfl, t, _, 0, .str (sayW g), rfl, rfl, .inl (.inl h1), atI_nat (j := 0) rfl, rfl, _, rfl, iteFo (by cases g <;> decide) ?_⟩
      have sq1 : SqL K H2 b (ints_ cs) ∨ SqT K H2 b (ints_ cs) := h2.sq
      refine ⟨_, rfl, _, rfl, t, _, 1, .ref b, rfl, rfl, .inl (.inl h1), atI_nat (j := 1) rfl, b, _, rfl, sq1, rfl, flat_ints _, _, rfl, ?_⟩
      have z := inV_ints c cs
      by_cases m : c ∈ cs
      · refine iteFo (by rw [z, decide_eq_true m]; rfl) ?_
        have e0 : sfF n hs c (.said g cs ds) = (some ((if g then "grant" else "give" : Str), ds, []) : StT) := if_pos m
        rw [e0] at q
        have L : ∀ z : Str, LotsOk z ds [] := fun z => ⟨fun c hc => Nat.lt_of_lt_of_le (ld.lt c hc) W.ld.n5, fun _ h => (by cases h), ld.nd, List.nodup_nil, fun _ h => (by cases h), fun e => absurd ld.ne (by rw [e]; decide)⟩
        cases g with
        | true =>
          refine ⟨_, rfl, t, _, 0, .str (sayW true), rfl, rfl, .inl (.inl h1), atI_nat (j := 0) rfl, rfl, _, rfl, iteTo (by decide) ?_⟩
          refine ⟨_, rfl, t, _, 2, .ref d, rfl, rfl, .inl (.inl h1), atI_nat (j := 2) rfl, fun x dxx nx nd nex => ⟨x, dxx, d, ds, rfl, upd_same, h3.same (made_same nx nd nex), L _, fun H' bu so => ⟨rfl, ?_⟩⟩⟩
          exact q H' _ (e12.trans (made_but nx nd nex bu)) ⟨x, rfl, A5.atGr ▸ so⟩
        | false =>
          refine ⟨_, rfl, t, _, 0, .str (sayW false), rfl, rfl, .inl (.inl h1), atI_nat (j := 0) rfl, rfl, _, rfl, iteFo (by decide) ?_⟩
          refine ⟨_, rfl, t, _, 2, .ref d, rfl, rfl, .inl (.inl h1), atI_nat (j := 2) rfl, fun x dxx nx nd nex => ⟨x, dxx, d, ds, rfl, upd_same, h3.same (made_same nx nd nex), L _, fun H' bu so => ⟨rfl, ?_⟩⟩⟩
          exact q H' _ (e12.trans (made_but nx nd nex bu)) ⟨x, rfl, A5.atGi ▸ so⟩
      · refine iteTo (by rw [z, decide_eq_false m]; rfl) ?_
        refine q H2 _ e12 ?_
        rw [show sfF n hs c (.said g cs ds) = none from if_neg m]
        rfl
end
end K7
end
/-! ## P35 -/
section
open PySem PySem.Spec PyProof.Rows L2
namespace K7
abbrev N__law_is : List Str := ["_law_told", "_law_due_here", "_law_fits", "_law_kind"]
abbrev s__law_is : Stmt := topS 69
theorem sc__law_is : FnScope ["_law_told", "_law_due_here", "_law_fits", "_law_kind"] ["_law_told", "_law_due_here"] (defScope s__law_is) := ⟨rfl, rfl, rfl, by decide +kernel, rfl, by decide +kernel, by decide +kernel⟩
/-! ### whether the told step is due -/
def kinds : List Str := ["leave", "come", "go", "grant", "give"]
structure T5k (K : PySem.W.Frag) (mg : Str → Option Value) (A5 : StA) : Prop where
  gLeave : mg "Leave" = some (.ref A5.le)
  gCome : mg "Come" = some (.ref A5.co)
  gGo : mg "Go" = some (.ref A5.go)
  gGrant : mg "Grant" = some (.ref A5.gr)
  gGive : mg "Give" = some (.ref A5.gi)
  cl : ∀ z ∈ kinds, Cls K (A5.at z)
  nA : ∀ z ∈ kinds, ∀ f ∈ pfields, NoAttr K (A5.at z) f
  ha : ∀ z ∈ kinds, PySem.W.findIn K (.ref (A5.at z)) "__class__" = some (some (.builtin "object.__class__"))
  hn : PySem.W.specialIn K (.builtin "object.__class__") "__get__" = some (some (.builtin "getset_descriptor.__get__"))
  ht : PySem.W.takesIn K (.builtin "object.__class__") = some true
  hm : ∀ z ∈ kinds, PySem.W.mroIn K (A5.at z) (.type "object") = some true
  ki : ∀ z ∈ kinds, ∀ y ∈ kinds, PySem.W.kitOne K (.ref (A5.at z)) (.ref (A5.at y)) = some (decide (z = y))
/-- what is due, as the law tells it -/
def DueIs (H : Hp) (v : V) (o : StT) : Prop := match o with
  | none => v = .non
  | some (z, cs, os) => ∃ u p q, v = .ref u ∧ H u = some (.tup [.str z, .ref p, .ref q]) ∧ H p = some (.tup (ints_ (srt5 cs))) ∧ H q = some (.tup (ints_ (srt5 os)))
theorem DueIs.same {H H' : Hp} {v : V} {o : StT} (h : DueIs H v o) (e : Same H H') : DueIs H' v o := by
  rcases o with _ | ⟨z, cs, os⟩
  · exact h
  · obtain ⟨u, p, q, h1, h2, h3, h4⟩ := h
    exact ⟨u, p, q, h1, e _ _ h2, e _ _ h3, e _ _ h4⟩
theorem dVs (x y : Str) : decide (V.str x = V.str y) = decide (x = y) := decide_eq_decide.mpr ⟨fun h => by injection h, fun h => by rw [h]⟩
theorem dp_bls {K : PySem.W.Frag} {H : Hp} : ∀ l : List Bool, DpAll K H (l.map V.bl) (l.map PyData.bool)
  | [] => .nil
  | b :: l => .cons (.bl b) (dp_bls l)
theorem eqv_bls : ∀ l : List Bool, PyData.eqvAll (l.map PyData.bool) (l.map PyData.bool) = true
  | [] => rfl
  | b :: l => by
    rw [List.map_cons, PyData.eqvAll, eqv_bls l]
    cases b <;> simp [PyData.eqv]
theorem shaped_bls (l : List Bool) : SeqAt.shaped (.list (l.map PyData.bool)) = true := by
  have h1 : ∀ l : List Bool, PyData.canLayAll0 (l.map PyData.bool) = true ∧ PyData.depthAll (l.map PyData.bool) = 0 := fun l => by
    induction l with
    | nil => exact ⟨by simp [PyData.canLayAll0], by simp [PyData.depthAll]⟩
    | cons x r ih => exact ⟨by simp [PyData.canLayAll0, PyData.canLay0, ih.1], by simp [PyData.depthAll, PyData.depth, ih.2]⟩
  show ((PyData.canLay0 (.list (l.map PyData.bool))) && decide (PyData.depth (.list (l.map PyData.bool)) ≤ 64)) = true
  simp [PyData.canLay0, PyData.depth, (h1 l).1, (h1 l).2]
theorem str_kinds : ∀ z ∈ kinds, PyData.strOk z = true := by decide +kernel
theorem shaped_step {z : Str} (hz : z ∈ kinds) (l m : List Nat) : SeqAt.shaped (.tuple [.str z, intD l, intD m]) = true := by
  have c : ∀ l : List Nat, PyData.canLay0 (intD l) = true ∧ PyData.depth (intD l) ≤ 1 := fun l => by
    have z := shaped_ints l
    have z : ((PyData.canLay0 (intD l)) && decide (PyData.depth (intD l) ≤ 64)) = true := z
    refine ⟨(Bool.and_eq_true_iff.mp z).1, ?_⟩
    have : ∀ l : List Nat, PyData.depthAll (l.map fun c => PyData.int (c : Nat)) = 0 := fun l => by
      induction l with
      | nil => simp [PyData.depthAll]
      | cons x r ih => simp [PyData.depthAll, PyData.depth, ih]
    simp [intD, PyData.depth, this l]
  have h1 := c l
  have h2 := c m
  show ((PyData.canLay0 (.tuple [.str z, intD l, intD m])) && decide (PyData.depth (.tuple [.str z, intD l, intD m]) ≤ 64)) = true
  simp only [PyData.canLay0, PyData.canLayAll0, PyData.depth, PyData.depthAll, h1.1, h2.1, str_kinds z hz]
  simp
  omega
theorem eqv_step (z : Str) (l m : List Nat) : PyData.eqv (.tuple [.str z, intD l, intD m]) (.tuple [.str z, intD l, intD m]) = true := by
  simp [PyData.eqv, PyData.eqvAll, eqv_intD]
def KindOk (o : StT) : Prop := ∀ z cs os, o = some (z, cs, os) → z ∈ kinds
section
variable {P : Program} {w : World} {K : PySem.W.Frag} {mg : Str → Option Value} {base : Heap} {A5 : StA}
def spLi (A5 : StA) : Sp := fun vs H Q _ => ∃ (v d : V) (o : StT), vs = [v, d] ∧ StIs A5 H v o ∧ DueIs H d o ∧ KindOk o ∧ ∀ H', Same H H' → Q (.bl true) H'
theorem ok_li (T6 : T5k K mg A5) {f : Addr} {fd : FuncData} (F : Fun K "_law_is" "_law_is" s__law_is f fd) (m_isinstance : mg "isinstance" = none) : FnOk P w K mg base CX0 1 f fd ["_law_told", "_law_due_here"] (spLi A5) := by
  refine F.ok sc__law_is (fun vs H Q E h => ?_) (fun cdv A outer s H vs Q E hr h => ?_)
  · obtain ⟨v, d, o, rfl, _⟩ := h
    rfl
  · obtain ⟨v, d, o, rfl, hv, hd, ko, q⟩ := h
    refine ⟨_, (pss_cons (ps_if (pw_or (pt_cmpR op_isN (pv 1) pe_non (nomark _)) (pw_or1 (pt_cmpR op_isN (pv 0) pe_non (nomark _)))).pt
  (pss_one (ps_ret (pe_and (pe_cmpR op_isN (pv 0) pe_non (nomark _)) (pe_one (pe_cmpR op_isN (pv 1) pe_non (nomark _))))))
  pss_nil)
 (pss_cons (ps_set (i := 2) sc__law_is.nd rfl (by first | exact Or.inl rfl | exact Or.inr rfl) (pe_lst (pa_cons (pe_callB call_isi (by rfl) m_isinstance boot_isinstance (pa_cons (pv 0) (pa_cons (pe_glob (v := .ref _) rfl T6.gLeave rfl) pa_nil))) (pa_cons (pe_callB call_isi (by rfl) m_isinstance boot_isinstance (pa_cons (pv 0) (pa_cons (pe_glob (v := .ref _) rfl T6.gCome rfl) pa_nil))) (pa_cons (pe_callB call_isi (by rfl) m_isinstance boot_isinstance (pa_cons (pv 0) (pa_cons (pe_glob (v := .ref _) rfl T6.gGo rfl) pa_nil))) (pa_cons (pe_callB call_isi (by rfl) m_isinstance boot_isinstance (pa_cons (pv 0) (pa_cons (pe_glob (v := .ref _) rfl T6.gGrant rfl) pa_nil))) (pa_cons (pe_callB call_isi (by rfl) m_isinstance boot_isinstance (pa_cons (pv 0) (pa_cons (pe_glob (v := .ref _) rfl T6.gGive rfl) pa_nil))) pa_nil)))))))
 (pss_cons (ps_if (pt_cmpR (op_neD hr.units) (pv 2) (pe_lc (own := [("_law_kind", 3)]) (g := gName 3) (tt := tYes) rfl sc__law_is.nd (pi_list (pe_lst (pa_cons pe_str (pa_cons pe_str (pa_cons pe_str (pa_cons pe_str (pa_cons pe_str pa_nil))))))) (blkOk_by (own := [("_law_kind", 3)]) (N := N__law_is) (sc := defScope s__law_is) (by decide +kernel)) (fun _ _ _ _ _ => (pg_name (i := 3) sc__law_is.nd rfl (by first | exact Or.inl rfl | exact Or.inr rfl))) (fun _ _ _ _ _ => pts_nil) (fun _ _ _ _ _ => (pe_cmpR op_eq (pe_ix (show IxR _ (rIxT K) from ix_tup) (pv 1) pe_int (fun _ _ => rfl)) (pv 3) (nomark _)))) (nomark _))
  (pss_one (ps_ret pe_bl))
  pss_nil)
 (pss_one (ps_ret (pe_cmpR (op_eqD hr.units) (pe_tup (pa_cons (pe_fld (pv 0) rfl) (pa_cons (pe_fld (pv 0) rfl) (pa_cons (pe_fld (pv 0) rfl) pa_nil)))) (pv 1) (nomark _))))))), ?_⟩
    rcases o with _ | ⟨z, cs, os⟩
    · obtain rfl : v = .non := hv
      obtain rfl : d = .non := hd
      exact ⟨_, rfl, rfl, _, rfl, iteTo (by rfl) (iteTo (by rfl) ⟨_, rfl, rfl, _, rfl, iteTo (by rfl) ⟨_, rfl, rfl, q H (Same.refl H)⟩⟩)⟩
    · obtain ⟨p, rfl, so⟩ := hv
      obtain ⟨u, dp, dq, rfl, d1, d2, d3⟩ := hd
      obtain ⟨dx, tc, to, t1, t2, t3⟩ := so.at_
      have kz := ko z cs os rfl
      have tyx : ∀ {H1 : Hp}, Same H H1 → TyX K H1 (.ref p) (.ref (A5.at z)) := fun e => .base (.ins (e _ _ t1) (T6.cl z kz) (T6.ha z kz) T6.hn T6.ht (T6.hm z kz))
      have e0 := Same.refl H
      have ki : ∀ {y : Str} {C : Addr}, y ∈ kinds → A5.at y = C → PySem.W.kitOne K (.ref (A5.at z)) (.ref C) = some (decide (z = y)) := fun h e => e ▸ T6.ki z kz _ h
      refine ⟨_, rfl, rfl, _, rfl, iteFo (by rfl) ⟨_, rfl, rfl, _, rfl, iteFo (by rfl) ?_⟩⟩
      refine ⟨_, rfl, _, _, _, _, _, rfl, .own _, tyx e0, ki (by decide) A5.atLe, _, rfl, _, _, _, _, _, rfl, .own _, tyx e0, ki (by decide) A5.atCo, _, rfl, _, _, _, _, _, rfl, .own _, tyx e0, ki (by decide) A5.atGo, _, rfl, _, _, _, _, _, rfl, .own _, tyx e0, ki (by decide) A5.atGr, _, rfl, _, _, _, _, _, rfl, .own _, tyx e0, ki (by decide) A5.atGi, by show 5 ≤ sizeLine; decide, fun pf nf => ?_⟩
      have sf := same_new (o := .lst ((kinds.map fun k => decide (z = k)).map V.bl)) e0 nf
      refine ⟨_, rfl, by show 5 ≤ sizeLine; decide, fun pk nk => ⟨pk, rfl, ⟨_, .inl (.inl upd_same)⟩, fun D hD => ?_⟩⟩
      have sk := sf.trans (same_new (o := .lst (kinds.map V.str)) (Same.refl _) nk)
      generalize hK : upd (upd H pf (HO.lst ((kinds.map fun k => decide (z = k)).map V.bl))) pk (HO.lst (kinds.map V.str)) = H2 at sk hD
      have hK' : upd (upd H pf (HO.lst [V.bl (decide (z = "leave")), V.bl (decide (z = "come")), V.bl (decide (z = "go")), V.bl (decide (z = "grant")), V.bl (decide (z = "give"))])) pk (HO.lst [V.str "leave", V.str "come", V.str "go", V.str "grant", V.str "give"]) = H2 := hK
      rw [hK'] at hD ⊢
      have hp2 : H2 pf = some (.lst ((kinds.map fun k => decide (z = k)).map V.bl)) := by
        rw [← hK, upd_ne (by rintro rfl; rw [upd_same] at nk; cases nk), upd_same]
      have hk2 : H2 pk = some (.lst (kinds.map V.str)) := by rw [← hK, upd_same]
      refine lc_list (xs := kinds.map V.str) (fun j H3 => Same H2 H3 ∧ H3 D = some (.lst (((kinds.take j).map fun k => decide (z = k)).map V.bl))) ⟨same_new (Same.refl H2) hD, upd_same⟩ (fun j H3 _ pv => .inl (.inl (pv.1 _ _ hk2))) (fun j x H3 hx pv => ?_) (fun H3 pv => ?_)
      · obtain ⟨e3, hD3⟩ := pv
        rw [List.getElem?_map] at hx
        obtain ⟨y, hy, rfl⟩ := Option.map_eq_some_iff.mp hx
        refine ⟨rfl, _, rfl, u, _, 0, .str z, rfl, rfl, .inl (.inl ((sk.trans e3) _ _ d1)), atI_nat (j := 0) rfl, _, rfl, rfl, _, hD3, by rw [List.length_map, List.length_map, List.length_take]; exact small1000 (Nat.le_trans (Nat.min_le_right _ _) (by decide)), fun b' o hb' => ?_, ?_⟩
        · rw [upd_ne (ne_of_none hb' hD)]
          exact e3 _ _ hb'
        · rw [upd_same, List.take_add_one, hy, List.map_append, List.map_append, dVs]
          rfl
      · obtain ⟨e3, hD3⟩ := pv
        rw [List.take_of_length_le (by rw [List.length_map]; exact Nat.le_refl _)] at hD3
        refine ⟨_, _, .lst (.inl (.inl (e3 _ _ hp2))) (dp_bls _), .lst (.inl (.inl hD3)) (dp_bls _), shaped_bls _, shaped_bls _, _, rfl, iteFo ?_ ?_⟩
        · rw [PyData.eqv, eqv_bls]
          rfl
        have e := sk.trans e3
        refine ⟨_, rfl, p, A5.at z, dx, _, _, rfl, e _ _ t1, T6.cl z kz, T6.nA z kz _ (by decide), rfl, _, rfl, p, A5.at z, dx, _, _, rfl, e _ _ t1, T6.cl z kz, T6.nA z kz _ (by decide), rfl, _, rfl, p, A5.at z, dx, _, _, rfl, e _ _ t1, T6.cl z kz, T6.nA z kz _ (by decide), rfl, by show 3 ≤ sizeLine; decide, fun pt nt => ?_⟩
        have st := e.trans (same_new (o := .tup [.str z, .ref tc, .ref to]) (Same.refl H3) nt)
        have dpI : ∀ {H' : Hp} {q : Addr} {l : List Nat}, H' q = some (.tup (ints_ l)) → Dp K H' (.ref q) (intD l) := fun h => .tup (.inl (.inl h)) (dp_ints _)
        refine ⟨_, rfl, _, _, .tup (xs := [.str z, .ref tc, .ref to]) (.inl (.inl upd_same)) (.cons (.str z) (.cons (dpI (st _ _ t2)) (.cons (dpI (st _ _ t3)) .nil))), .tup (.inl (.inl (st _ _ d1))) (.cons (.str z) (.cons (dpI (st _ _ d2)) (.cons (dpI (st _ _ d3)) .nil))), shaped_step kz _ _, shaped_step kz _ _, ?_⟩
        rw [eqv_step]
        exact q _ st
end
end K7
end
/-! ## P36 -/
section
open PySem PySem.Spec PyProof.Rows L2
namespace K7
abbrev N__law_due : List Str := ["_law_hands", "_law_cell", "_law_deed_here", "_law_n", "_law_own", "_law_b", "_law_moved", "_law_gone", "_law_held", "_law_told", "_law_couple", "_law_untold"]
abbrev s__law_due : Stmt := topS 68
theorem sc__law_due : FnScope ["_law_hands", "_law_cell", "_law_deed_here", "_law_n", "_law_own", "_law_b", "_law_moved", "_law_gone", "_law_held", "_law_told", "_law_couple", "_law_untold"] ["_law_hands", "_law_cell", "_law_deed_here"] (defScope s__law_due) := ⟨rfl, rfl, rfl, by decide +kernel, rfl, by decide +kernel, by decide +kernel⟩
/-! ### the step that is due -/
theorem srt5_sub {n : Nat} {l : List Nat} (n5 : n ≤ 5) (h : l.Sublist (List.range n)) : srt5 l = l := by
  have pw : l.Pairwise (· < ·) := List.pairwise_lt_range.sublist h
  have nd := (sub_rng h).2
  refine List.Perm.eq_of_pairwise (le := (· ≤ ·)) (fun a b _ _ h1 h2 => by omega) ?_ (pw.imp fun h => Nat.le_of_lt h) ?_
  · unfold srt5
    exact (List.pairwise_lt_range.filter _).imp fun h => Nat.le_of_lt h
  · unfold srt5
    exact cells_perm (n := 5) nd fun c hc => Nat.lt_of_lt_of_le ((sub_rng h).1 c hc) n5
theorem mvL_eq {n : Nat} {hs cs : List Nat} {hd : Nat} : ((List.range n).filter fun b => decide (b ∈ cs) && !decide (hsAt hs b = hd)) = mvF n hs cs hd := by
  unfold mvF
  rw [List.filter_filter]
  refine List.filter_congr fun b hb => ?_
  rw [Bool.and_comm]
  congr 2
  exact decide_eq_decide.mpr (by omega)
theorem own_mem {n : Nat} {hs : List Nat} {c b : Nat} (hb : b < n) : b ∈ ownF n hs c ↔ hsAt hs b = hsAt hs c := by
  unfold ownF
  rw [List.mem_filter, List.mem_range, decide_eq_true_iff]
  exact ⟨fun h => h.2, fun h => ⟨hb, h⟩⟩
theorem gone_mem {n : Nat} {hs cs : List Nat} {hd c b : Nat} (hb : b < n) : b ∈ goneF n hs cs hd c ↔ hsAt hs b = hsAt hs c ∧ b ∈ mvF n hs cs hd := by
  unfold goneF
  rw [List.mem_filter, own_mem hb, decide_eq_true_iff]
theorem heldL_eq {n : Nat} {hs cs : List Nat} {hd c : Nat} (ne : hsAt hs c ≠ hd) : ((List.range n).filter fun b => !decide (b ∈ ownF n hs c) && (decide (b ∈ mvF n hs cs hd) || decide (hsAt hs b = hd))) = heldF n hs cs hd c := by
  unfold heldF
  refine List.filter_congr fun b hb => ?_
  have hb := List.mem_range.mp hb
  rw [Bool.eq_iff_iff, Bool.and_eq_true, Bool.and_eq_true, Bool.or_eq_true, Bool.not_eq_true', Bool.not_eq_true', decide_eq_false_iff_not, decide_eq_false_iff_not, decide_eq_true_iff, decide_eq_true_iff, decide_eq_true_iff, own_mem hb, gone_mem hb, mv_mem hb, hb_at hb]
  by_cases z : b ∈ cs <;> by_cases y : hsAt hs b = hsAt hs c <;> by_cases x : hsAt hs b = hd <;> simp_all
/-- a comprehension with a test over range(n), over a row of numbers -/
theorem lc_pkR {ta : TA} {n k : Nat} {p : Nat → Bool} {tt : TT} {vs : List Nat} {σ : L2.St} {H : Hp} {Q : VK} (hta : ∀ R : List V → Hp → Prop, R [.int (n : Nat)] H → ta σ H R) (few : n ≤ 500) (hw : ∀ x, wipe ((wipe σ vs).set k (some x)) vs = wipe σ vs) (hk : ∀ x, ((wipe σ vs).set k (some x))[k]? = some (some x))
    (test : ∀ j H2, j < n → Same H H2 → ∀ R : Bool → Hp → Prop, (∀ H3, Same H2 H3 → R (p j) H3) → tt ((wipe σ vs).set k (some (.int (0 + (j : Nat))))) H2 R) (hd : ∀ D H', H D = none → Same H H' → H' D = some (.lst (ints_ ((List.range n).filter p))) → Q (.ref D) H') :
    tLc (iRng1 ta) (gName k) tt (tVar k) vs σ H Q := hta _ ⟨_, rfl, by omega, by omega, fun D hD =>
  lc_range (lo := 0) (n := n) (PkV H D (List.range n) p) (PkV.nil hD) (fun j H2 hj pv => ⟨hw _, test j H2 hj pv.1 _ fun H3 e3 => (pv.later e3).put hD (range_at hj) (by rw [List.length_range]; exact few) ⟨_, Int.zero_add _, hk _⟩ rfl⟩) fun H2 pv => by
    have z := pv.done (by rw [List.length_range]; exact Nat.le_refl _)
    exact hd D H2 hD z.1 z.2⟩
theorem lc_pkL {K : PySem.W.Frag} {ta : TE} {a : Addr} {l : List Nat} {k : Nat} {p : Nat → Bool} {tt : TT} {vs : List Nat} {σ : L2.St} {H : Hp} {Q : VK} (hta : ∀ R : VK, R (.ref a) H → ta σ H R) (few : l.length ≤ 500) (ha : H a = some (.lst (ints_ l))) (hw : ∀ x, wipe ((wipe σ vs).set k (some x)) vs = wipe σ vs) (hk : ∀ x, ((wipe σ vs).set k (some x))[k]? = some (some x))
    (test : ∀ b H2, b ∈ l → Same H H2 → ∀ R : Bool → Hp → Prop, (∀ H3, Same H2 H3 → R (p b) H3) → tt ((wipe σ vs).set k (some (.int (b : Nat)))) H2 R) (hd : ∀ D H', H D = none → Same H H' → H' D = some (.lst (ints_ (l.filter p))) → Q (.ref D) H') :
    tLc (iList K ta) (gName k) tt (tVar k) vs σ H Q := hta _ ⟨a, rfl, ⟨_, .inl (.inl ha)⟩, fun D hD =>
  lc_list (xs := ints_ l) (PkV H D l p) (PkV.nil hD) (fun j H2 _ pv => .inl (.inl (pv.1 _ _ ha))) (fun j x H2 hx pv => by
    unfold ints_ at hx
    rw [List.getElem?_map] at hx
    obtain ⟨b, hb, rfl⟩ := Option.map_eq_some_iff.mp hx
    exact ⟨hw _, test b H2 (List.mem_of_getElem? hb) pv.1 _ fun H3 e3 => (pv.later e3).put hD hb few ⟨_, rfl, hk _⟩ rfl⟩) fun H2 pv => by
    have z := pv.done (by unfold ints_; rw [List.length_map]; exact Nat.le_refl _)
    exact hd D H2 hD z.1 z.2⟩
/-- tuple([..]) -/
def TupR (K : PySem.W.Frag) (Q : VK) (v : V) (H1 : Hp) : Prop := ∃ p ys, [v] = [V.ref p] ∧ ((SqL K H1 p ys ∧ ∀ (l : Addr), H1 l = none → Q (V.ref l) (upd H1 l (HO.tup ys))) ∨ SqT K H1 p ys ∧ Q (V.ref p) H1)
theorem tup_lc {K : PySem.W.Frag} {t : TE} {σ : L2.St} {H : Hp} {Q : VK} (h : t σ H (TupR K Q)) :
    tCB (fun xs H_1 Q => ∃ p ys, xs = [V.ref p] ∧ ((SqL K H_1 p ys ∧ ∀ (l : Addr), H_1 l = none → Q (V.ref l) (upd H_1 l (HO.tup ys))) ∨ SqT K H_1 p ys ∧ Q (V.ref p) H_1)) (tCons t tNil) σ H Q := h
theorem TupR.mk {K : PySem.W.Frag} {Q : VK} {H1 : Hp} {D : Addr} {xs : List V} (hD : H1 D = some (.lst xs)) (q : ∀ u, H1 u = none → Same H1 (upd H1 u (.tup xs)) → Q (.ref u) (upd H1 u (.tup xs))) : TupR K Q (.ref D) H1 :=
  ⟨D, xs, rfl, .inl ⟨.inl (.inl hD), fun u nu => q u nu (same_new (Same.refl H1) nu)⟩⟩
section
variable {P : Program} {w : World} {K : PySem.W.Frag} {mg : Str → Option Value} {base : Heap}
def spLd : Sp := fun vs H Q _ => ∃ (h t : Addr) (n c : Nat) (hs : List Nat) (D : DeedT), vs = [.ref h, .int (c : Nat), .ref t] ∧ H h = some (.lst (ints_ hs)) ∧ hs.length = n ∧ n ≤ 5 ∧ c < n ∧ DeedAt n hs H t D ∧ ∀ H' d, Same H H' → DueIs H' d (sfF n hs c D) → Q d H'
theorem ok_ld {f : Addr} {fd : FuncData} (F : Fun K "_law_due" "_law_due" s__law_due f fd) (m_len : mg "len" = none) (m_tuple : mg "tuple" = none) (m_range : mg "range" = none) (m_sorted : mg "sorted" = none) : FnOk P w K mg base CX0 1 f fd ["_law_hands", "_law_cell", "_law_deed_here"] spLd := by
  refine F.ok sc__law_due (fun vs H Q E h => ?_) (fun cdv A outer s H vs Q E hr h => ?_)
  · obtain ⟨h, t, n, c, hs, D, rfl, _⟩ := h
    rfl
  · obtain ⟨h, t, n, c, hs, D, rfl, hh, hl, n5, cn, hD, q⟩ := h
    refine ⟨_, (pss_cons (ps_set (i := 3) sc__law_due.nd rfl (by first | exact Or.inl rfl | exact Or.inr rfl) (pe_callB call_len_seq (by rfl) m_len boot_len (pa_cons (pv 0) pa_nil)))
 (pss_cons (ps_set (i := 4) sc__law_due.nd rfl (by first | exact Or.inl rfl | exact Or.inr rfl) (pe_lc (own := [("_law_b", 5)]) (g := gName 5) rfl sc__law_due.nd (pi_range1 rfl m_range (pa_cons (pv 3) pa_nil)) (blkOk_by (own := [("_law_b", 5)]) (N := N__law_due) (sc := defScope s__law_due) (by decide +kernel)) (fun _ _ _ _ _ => (pg_name (i := 5) sc__law_due.nd rfl (by first | exact Or.inl rfl | exact Or.inr rfl))) (fun _ _ _ _ _ => (pts_one (pt_cmpR op_eq (pe_ix (show IxR _ (rIxL K) from ix_list) (pv 0) (pv 5) (fun _ _ => rfl)) (pe_ix (show IxR _ (rIxL K) from ix_list) (pv 0) (pv 1) (fun _ _ => rfl)) (nomark _)))) (fun _ _ _ _ _ => (pv 5))))
 (pss_cons (ps_if (pt_cmpR op_ne (pe_ix ix_tup (pv 2) pe_int (fun _ _ => rfl)) pe_str (nomark _))
  (pss_cons (ps_if (pt_cmpR op_notIn_seq (pv 1) (pe_ix ix_tup (pv 2) pe_int (fun _ _ => rfl)) (by with_unfolding_all rfl))
  (pss_one (ps_ret pe_non))
  pss_nil)
 (pss_one (ps_ret (pe_tup (pa_cons (pe_ifExp (pt_cmpR op_eq (pe_ix ix_tup (pv 2) pe_int (fun _ _ => rfl)) pe_str (nomark _)) pe_str pe_str) (pa_cons (pe_callTy call_tuple_of (by rfl) m_tuple boot_tuple (pa_cons (pe_callB K7S.cr_sortA (by rfl) m_sorted boot_sorted (pa_cons (pe_ix ix_tup (pv 2) pe_int (fun _ _ => rfl)) pa_nil)) pa_nil)) (pa_cons (pe_tup pa_nil) pa_nil)))))))
  pss_nil)
 (pss_cons (ps_set (i := 6) sc__law_due.nd rfl (by first | exact Or.inl rfl | exact Or.inr rfl) (pe_lc (own := [("_law_b", 5)]) (g := gName 5) rfl sc__law_due.nd (pi_range1 rfl m_range (pa_cons (pv 3) pa_nil)) (blkOk_by (own := [("_law_b", 5)]) (N := N__law_due) (sc := defScope s__law_due) (by decide +kernel)) (fun _ _ _ _ _ => (pg_name (i := 5) sc__law_due.nd rfl (by first | exact Or.inl rfl | exact Or.inr rfl))) (fun _ _ _ _ _ => (pts_one (PW.pt (pw_and (pt_cmpR (show OpR _ _ (rIn K false) from op_in_seq) (pv 5) (pe_ix (show IxR _ (rIxT K) from ix_tup) (pv 2) pe_int (fun _ _ => rfl)) (by with_unfolding_all rfl)) (pw_and1 (pt_cmpR op_ne (pe_ix (show IxR _ (rIxL K) from ix_list) (pv 0) (pv 5) (fun _ _ => rfl)) (pe_ix (show IxR _ (rIxT K) from ix_tup) (pv 2) pe_int (fun _ _ => rfl)) (nomark _))))))) (fun _ _ _ _ _ => (pv 5))))
 (pss_cons (ps_if (pt_cmpR op_eq (pe_ix ix_list (pv 0) (pv 1) (fun _ _ => rfl)) (pe_ix ix_tup (pv 2) pe_int (fun _ _ => rfl)) (nomark _))
  (pss_one (ps_ret (pe_tup (pa_cons pe_str (pa_cons (pe_callTy call_tuple_of (by rfl) m_tuple boot_tuple (pa_cons (pv 6) pa_nil)) (pa_cons (pe_tup pa_nil) pa_nil))))))
  pss_nil)
 (pss_cons (ps_if (pt_cmpR op_in_seq (pv 1) (pv 6) (by with_unfolding_all rfl))
  (pss_cons (ps_set (i := 7) sc__law_due.nd rfl (by first | exact Or.inl rfl | exact Or.inr rfl) (pe_callTy call_tuple_of (by rfl) m_tuple boot_tuple (pa_cons (pe_lc (own := [("_law_b", 5)]) (g := gName 5) rfl sc__law_due.nd (pi_list (pv 4)) (blkOk_by (own := [("_law_b", 5)]) (N := N__law_due) (sc := defScope s__law_due) (by decide +kernel)) (fun _ _ _ _ _ => (pg_name (i := 5) sc__law_due.nd rfl (by first | exact Or.inl rfl | exact Or.inr rfl))) (fun _ _ _ _ _ => (pts_one (pt_cmpR (show OpR _ _ (rIn K false) from op_in_seq) (pv 5) (pv 6) (by with_unfolding_all rfl)))) (fun _ _ _ _ _ => (pv 5))) pa_nil)))
 (pss_cons (ps_set (i := 8) sc__law_due.nd rfl (by first | exact Or.inl rfl | exact Or.inr rfl) (pe_callTy call_tuple_of (by rfl) m_tuple boot_tuple (pa_cons (pe_lc (own := [("_law_b", 5)]) (g := gName 5) rfl sc__law_due.nd (pi_range1 rfl m_range (pa_cons (pv 3) pa_nil)) (blkOk_by (own := [("_law_b", 5)]) (N := N__law_due) (sc := defScope s__law_due) (by decide +kernel)) (fun _ _ _ _ _ => (pg_name (i := 5) sc__law_due.nd rfl (by first | exact Or.inl rfl | exact Or.inr rfl))) (fun _ _ _ _ _ => (pts_one (PW.pt (pw_and (pt_cmpR (show OpR _ _ (rIn K true) from op_notIn_seq) (pv 5) (pv 4) (by with_unfolding_all rfl)) (pw_and1 (PW.pt (pw_or (pt_cmpR (show OpR _ _ (rIn K false) from op_in_seq) (pv 5) (pv 6) (by with_unfolding_all rfl)) (pw_or1 (pt_cmpR op_eq (pe_ix (show IxR _ (rIxL K) from ix_list) (pv 0) (pv 5) (fun _ _ => rfl)) (pe_ix (show IxR _ (rIxT K) from ix_tup) (pv 2) pe_int (fun _ _ => rfl)) (nomark _)))))))))) (fun _ _ _ _ _ => (pv 5))) pa_nil)))
 (pss_one (ps_ret (pe_ifExp (pw_and (pt_cmpR op_eq (pe_callB call_len_seq (by rfl) m_len boot_len (pa_cons (pv 7) pa_nil)) (pe_callB call_len_seq (by rfl) m_len boot_len (pa_cons (pv 4) pa_nil)) (nomark _)) (pw_and1 (pt_cmpR (op_eqD hr.units) (pv 8) (pe_tup pa_nil) (nomark _)))).pt pe_non (pe_tup (pa_cons pe_str (pa_cons (pv 7) (pa_cons (pv 8) pa_nil)))))))))
  pss_nil)
 (pss_cons (ps_set (i := 9) sc__law_due.nd rfl (by first | exact Or.inl rfl | exact Or.inr rfl) (pe_lc (own := [("_law_couple", 10)]) (g := gName 10) (tt := tYes) rfl sc__law_due.nd (K7E.pi_either (pi_tup (pe_ix ix_tup (pv 2) pe_int (fun _ _ => rfl))) (pi_list (pe_ix ix_tup (pv 2) pe_int (fun _ _ => rfl)))) (blkOk_by (own := [("_law_couple", 10)]) (N := N__law_due) (sc := defScope s__law_due) (by decide +kernel)) (fun _ _ _ _ _ => (pg_name (i := 10) sc__law_due.nd rfl (by first | exact Or.inl rfl | exact Or.inr rfl))) (fun _ _ _ _ _ => pts_nil) (fun _ _ _ _ _ => (pe_callTy (show CallR _ (.type "tuple") (rTup_ K) from call_tuple_of) (by rfl) m_tuple boot_tuple (pa_cons (pv 10) pa_nil)))))
 (pss_cons (ps_set (i := 7) sc__law_due.nd rfl (by first | exact Or.inl rfl | exact Or.inr rfl) (pe_callTy call_tuple_of (by rfl) m_tuple boot_tuple (pa_cons (pe_lc (own := [("_law_b", 5)]) (g := gName 5) rfl sc__law_due.nd (pi_list (pv 4)) (blkOk_by (own := [("_law_b", 5)]) (N := N__law_due) (sc := defScope s__law_due) (by decide +kernel)) (fun _ _ _ _ _ => (pg_name (i := 5) sc__law_due.nd rfl (by first | exact Or.inl rfl | exact Or.inr rfl))) (fun _ _ _ _ _ => (pts_one (pt_cmpR (show OpR _ _ (rIn K false) from op_in_seq) (pv 5) (pv 6) (by with_unfolding_all rfl)))) (fun _ _ _ _ _ => (pv 5))) pa_nil)))
 (pss_cons (ps_set (i := 11) sc__law_due.nd rfl (by first | exact Or.inl rfl | exact Or.inr rfl) (pe_callTy call_tuple_of (by rfl) m_tuple boot_tuple (pa_cons (pe_lc (own := [("_law_b", 5)]) (g := gName 5) rfl sc__law_due.nd (pi_list (pv 6)) (blkOk_by (own := [("_law_b", 5)]) (N := N__law_due) (sc := defScope s__law_due) (by decide +kernel)) (fun _ _ _ _ _ => (pg_name (i := 5) sc__law_due.nd rfl (by first | exact Or.inl rfl | exact Or.inr rfl))) (fun _ _ _ _ _ => (pts_one (PW.pt (pw_and (pt_cmpR (show OpR _ _ (rIn K true) from op_notIn_seq) (pv 5) (pv 4) (by with_unfolding_all rfl)) (pw_and1 (pt_cmpR (show OpR _ _ (rNotInD K) from op_notInD (K7L.hu65 hr)) (pe_tup (pa_cons (pv 1) (pa_cons (pv 5) pa_nil))) (pv 9) (by with_unfolding_all rfl))))))) (fun _ _ _ _ _ => (pv 5))) pa_nil)))
 (pss_one (ps_ret (pe_ifExp (pw_and (pt_cmpR (op_eqD hr.units) (pv 7) (pe_tup pa_nil) (nomark _)) (pw_and1 (pt_cmpR (op_eqD hr.units) (pv 11) (pe_tup pa_nil) (nomark _)))).pt pe_non (pe_tup (pa_cons pe_str (pa_cons (pv 7) (pa_cons (pv 11) pa_nil)))))))))))))))), ?_⟩
    have il : (ints_ hs).length = n := by unfold ints_; rw [List.length_map, hl]
    have hat : ∀ {j : Nat}, j < n → atI (ints_ hs) ((j : Nat) : Int) = some (.int (hsAt hs j : Nat)) := fun h => atI_nat (ints_at (by rw [hl]; exact h))
    have hat0 : ∀ {j : Nat}, j < n → atI (ints_ hs) (0 + ((j : Nat) : Int)) = some (.int (hsAt hs j : Nat)) := fun h => by rw [Int.zero_add]; exact hat h
    refine ⟨_, rfl, h, _, rfl, .inl (.inl (.inl hh)), ?_⟩
    rw [il]
    dsimp only [gName]
    rw [tSeq, tAsg]
    refine lc_pkR (n := n) (p := fun b => decide (hsAt hs b = hsAt hs c)) (fun R r => ⟨_, rfl, r⟩) (by omega) (fun _ => rfl) (fun _ => rfl) (fun j H2 hj e2 R hR => ?_) (fun Do H1 nDo e1 ho => ?_)
    · refine ⟨_, rfl, _, rfl, h, _, _, _, rfl, rfl, .inl (.inl (e2 _ _ hh)), hat0 hj, _, rfl, _, rfl, h, _, _, _, rfl, rfl, .inl (.inl (e2 _ _ hh)), hat cn, rfl, _, rfl, ?_⟩
      rw [dVn]
      exact hR _ (Same.refl _)
    rw [show ((List.range n).filter fun b => decide (hsAt hs b = hsAt hs c)) = ownF n hs c from rfl] at ho
    have fin : ∀ {H3 : Hp} {z : Str} {p0 q0 : Addr} {cs os : List Nat}, Same H H3 → H3 p0 = some (.tup (ints_ (srt5 cs))) → H3 q0 = some (.tup (ints_ (srt5 os))) → sfF n hs c D = some (z, cs, os) → ∀ r, H3 r = none → Q (.ref r) (upd H3 r (.tup [.str z, .ref p0, .ref q0])) := fun {H3 z p0 q0 cs os} e h3 h4 es r nr => by
      have sr := same_new (o := .tup [.str z, .ref p0, .ref q0]) (Same.refl H3) nr
      exact q _ _ (e.trans sr) (by rw [es]; exact ⟨r, p0, q0, rfl, upd_same, sr _ _ h3, sr _ _ h4⟩)
    cases D with
    | said g cs ds =>
      obtain ⟨⟨b, d, h1, h2, h3⟩, lc, ld, h6⟩ := hD.same e1
      refine ⟨_, rfl, t, _, 0, .str (sayW g), rfl, rfl, .inl (.inl h1), atI_nat (j := 0) rfl, rfl, _, rfl, iteTo (by cases g <;> decide) ?_⟩
      have sq1 : SqL K H1 b (ints_ cs) ∨ SqT K H1 b (ints_ cs) := h2.sq
      have z := inV_ints c cs
      refine ⟨_, rfl, _, rfl, t, _, 1, .ref b, rfl, rfl, .inl (.inl h1), atI_nat (j := 1) rfl, b, _, rfl, sq1, rfl, flat_ints _, _, rfl, ?_⟩
      by_cases m : c ∈ cs
      · refine iteFo (by rw [z, decide_eq_true m]; rfl) ?_
        have e0 : sfF n hs c (.said g cs ds) = (some ((if g then "grant" else "give" : Str), ds, []) : StT) := if_pos m
        refine ⟨_, rfl, t, _, 0, .str (sayW g), rfl, rfl, .inl (.inl h1), atI_nat (j := 0) rfl, rfl, _, rfl, ?_⟩
        have l5 : ∀ c ∈ ds, c < 5 := fun c hc => Nat.lt_of_lt_of_le (ld.lt c hc) n5
        have l64 : (ds.map fun b => ((b : Nat) : Int)).length < 64 := by rw [List.length_map]; exact Nat.lt_of_le_of_lt (cells_len ld.nd l5) (by decide)
        have im : ∀ l : List Nat, (l.map fun b => ((b : Nat) : Int)).map V.int = ints_ l := fun l => by unfold ints_; rw [List.map_map]; rfl
        have rest : ∀ z : Str, sfF n hs c (.said g cs ds) = some (z, ds, []) → (tCons (tCB (fun xs H_1 Q => ∃ p ys, xs = [V.ref p] ∧ ((SqL K H_1 p ys ∧ ∀ (l : Addr), H_1 l = none → Q (V.ref l) (upd H_1 l (HO.tup ys))) ∨ SqT K H_1 p ys ∧ Q (V.ref p) H_1)) (tCons (tCB (K7S.rSortA K) (tCons (tOp (rIxT K) (tVar 2) (tC (V.int 2))) tNil)) tNil)) (tCons (tTup tNil) tNil)) [some (.ref h), some (.int (c : Nat)), some (.ref t), none, none, none, none, none, none, none, none, none] H1 (fun xs H2 => (.str z :: xs).length ≤ sizeLine ∧ ∀ p, H2 p = none → Q (.ref p) (upd H2 p (.tup (.str z :: xs)))) := fun z es => by
          refine ⟨_, rfl, t, _, 2, .ref d, rfl, rfl, .inl (.inl h1), atI_nat (j := 2) rfl, d, _, rfl, sq_int h3, l64, fun ms p pm so np => ?_⟩
          have em := sort_cells pm so ld.nd l5
          subst em
          refine ⟨p, _, rfl, .inl ⟨.inl (.inl upd_same), fun u nu => ?_⟩⟩
          refine ⟨by show 0 ≤ sizeLine; decide, fun u2 nu2 => ⟨by show 3 ≤ sizeLine; decide, fun r nr => ?_⟩⟩
          have s1 := same_new (o := .lst (((srt5 ds).map fun b => ((b : Nat) : Int)).map V.int)) (Same.refl H1) np
          have s2 := same_new (o := .tup (((srt5 ds).map fun b => ((b : Nat) : Int)).map V.int)) s1 nu
          have s3 := same_new (o := .tup []) (Same.refl _) nu2
          refine fin (e1.trans (s2.trans s3)) (s3 _ _ ?_) upd_same es r nr
          rw [upd_same]
          show some (HO.tup (((srt5 ds).map fun b => ((b : Nat) : Int)).map V.int)) = _
          rw [im]
        cases g with
        | true => exact iteTo (by decide) (rest "grant" e0)
        | false => exact iteFo (by decide) (rest "give" e0)
      · refine iteTo (by rw [z, decide_eq_false m]; rfl) ?_
        refine q H1 _ e1 ?_
        rw [show sfF n hs c (.said g cs ds) = none from if_neg m]
        rfl
    | goes cs hd tl =>
      obtain ⟨G, c0, h30, tn, t32, tc, mne⟩ := hD.same e1
      obtain ⟨b, tt, ts, g1, g2, g3, g4⟩ := id G.at_
      have hh1 := e1 _ _ hh
      refine ⟨_, rfl, t, _, 0, .str "goes", rfl, rfl, .inl (.inl g1), atI_nat (j := 0) rfl, rfl, _, rfl, iteFo (by decide) ?_⟩
      dsimp only [tNext]
      rw [tSeq, tAsg]
      refine lc_pkR (n := n) (p := fun b => decide (b ∈ cs) && !decide (hsAt hs b = hd)) (fun R r => ⟨_, rfl, r⟩) (by omega) (fun _ => rfl) (fun _ => rfl) (fun j H2 hj e2 R hR => ?_) (fun Dm H2 nDm e2 hm => ?_)
      · have sq1 : SqL K H2 b (ints_ cs) ∨ SqT K H2 b (ints_ cs) := (g2.same e2).sq
        refine ⟨_, rfl, _, rfl, t, _, 1, .ref b, rfl, rfl, .inl (.inl (e2 _ _ g1)), atI_nat (j := 1) rfl, b, _, rfl, sq1, rfl, flat_ints _, _, rfl, ?_⟩
        have z : inV (.int (0 + (j : Nat))) (ints_ cs) = decide (j ∈ cs) := by rw [Int.zero_add]; exact inV_ints j _
        have r := hR _ (Same.refl _)
        refine ite2 (fun d => ?_) (fun d => ?_)
        · have d : inV (.int (0 + (j : Nat))) (ints_ cs) = true := d
          rw [z] at d
          rw [d] at r
          refine ⟨_, rfl, _, rfl, h, _, _, _, rfl, rfl, .inl (.inl (e2 _ _ hh1)), hat0 hj, _, rfl, t, _, 2, .int (hd : Nat), rfl, rfl, .inl (.inl (e2 _ _ g1)), atI_nat (j := 2) rfl, rfl, _, rfl, ?_⟩
          rw [dVn]
          exact r
        · have d : ¬ inV (.int (0 + (j : Nat))) (ints_ cs) = true := d
          rw [z] at d
          rw [Bool.eq_false_iff.mpr d] at r
          exact r
      rw [mvL_eq] at hm
      have e12 := e1.trans e2
      have ho2 := e2 _ _ ho
      have hh2 := e2 _ _ hh1
      have g12 := e2 _ _ g1
      refine ⟨_, rfl, _, rfl, h, _, _, _, rfl, rfl, .inl (.inl hh2), hat cn, _, rfl, t, _, 2, .int (hd : Nat), rfl, rfl, .inl (.inl g12), atI_nat (j := 2) rfl, rfl, _, rfl, ?_⟩
      rw [dVn]
      refine ite2 (fun d => ?_) (fun d => ?_)
      · have d := (of_decide_eq_true d).symm
        refine ⟨_, rfl, Dm, _, rfl, .inl ⟨.inl (.inl hm), fun u nu => ?_⟩⟩
        refine ⟨by show 0 ≤ sizeLine; decide, fun u2 nu2 => ⟨by show 3 ≤ sizeLine; decide, fun r nr => ?_⟩⟩
        have s2 := same_new (o := .tup (ints_ (mvF n hs cs hd))) (Same.refl H2) nu
        have s3 := same_new (o := .tup []) (Same.refl _) nu2
        refine fin (cs := mvF n hs cs hd) (os := []) (e12.trans (s2.trans s3)) (s3 _ _ (by rw [srt5_sub n5 mv_sub, upd_same])) upd_same ?_ r nr
        show msF n hs cs hd c tl = _
        unfold msF
        rw [if_pos d]
      have d : ¬ hd = hsAt hs c := fun z => d (decide_eq_true z.symm)
      refine ⟨_, rfl, _, rfl, Dm, _, rfl, .inl (.inl (.inl hm)), rfl, flat_ints _, _, rfl, ?_⟩
      refine ite2 (fun m => ?_) (fun m => ?_)
      · have m := of_decide_eq_true ((inV_ints c _).symm.trans m)
        rw [tSeq, tAsg]
        refine tup_lc (lc_pkL (l := ownF n hs c) (p := fun b => decide (b ∈ mvF n hs cs hd)) (fun R r => ⟨_, rfl, r⟩) (by unfold ownF; exact Nat.le_trans (List.length_filter_le _ _) (by rw [List.length_range]; omega)) ho2 (fun _ => rfl) (fun _ => rfl) (fun b' H3 hb e3 R hR => ?_) (fun Dg H3 nDg e3 hg => TupR.mk hg fun ug nug s3 => ?_))
        · refine ⟨_, rfl, _, rfl, Dm, _, rfl, .inl (.inl (.inl (e3 _ _ hm))), rfl, flat_ints _, _, rfl, ?_⟩
          have r := hR _ (Same.refl _)
          rw [← inV_ints] at r
          exact r
        rw [show ((ownF n hs c).filter fun b => decide (b ∈ mvF n hs cs hd)) = goneF n hs cs hd c from rfl] at s3 ⊢
        have hgu : upd H3 ug (.tup (ints_ (goneF n hs cs hd c))) ug = some (.tup (ints_ (goneF n hs cs hd c))) := upd_same
        have e23 := e3.trans s3
        generalize upd H3 ug (.tup (ints_ (goneF n hs cs hd c))) = H4 at s3 hgu e23 ⊢
        have e14 := e12.trans e23
        have hm4 := e23 _ _ hm
        have ho4 := e23 _ _ ho2
        have hh4 := e23 _ _ hh2
        have g14 := e23 _ _ g12
        dsimp only [gName]
        rw [tSeq, tAsg]
        refine tup_lc (lc_pkR (n := n) (p := fun b => !decide (b ∈ ownF n hs c) && (decide (b ∈ mvF n hs cs hd) || decide (hsAt hs b = hd))) (fun R r => ⟨_, rfl, r⟩) (by omega) (fun _ => rfl) (fun _ => rfl) (fun j H5 hj e5 R hR => ?_) (fun Dh H5 nDh e5 hhd => TupR.mk hhd fun uh nuh s5 => ?_))
        · have r := hR _ (Same.refl _)
          have zo : inV (.int (0 + (j : Nat))) (ints_ (ownF n hs c)) = decide (j ∈ ownF n hs c) := by rw [Int.zero_add]; exact inV_ints j _
          have zm : inV (.int (0 + (j : Nat))) (ints_ (mvF n hs cs hd)) = decide (j ∈ mvF n hs cs hd) := by rw [Int.zero_add]; exact inV_ints j _
          rw [← zo, ← zm] at r
          refine ⟨_, rfl, _, rfl, Do, _, rfl, .inl (.inl (.inl (e5 _ _ ho4))), rfl, flat_ints _, _, rfl, ?_⟩
          refine ite2 (fun d1 => ?_) (fun d1 => ?_)
          · have d1 : (!inV (.int (0 + (j : Nat))) (ints_ (ownF n hs c))) = true := d1
            rw [d1] at r
            refine ⟨_, rfl, _, rfl, Dm, _, rfl, .inl (.inl (.inl (e5 _ _ hm4))), rfl, flat_ints _, _, rfl, ?_⟩
            refine ite2 (fun d2 => ?_) (fun d2 => ?_)
            · have d2 : inV (.int (0 + (j : Nat))) (ints_ (mvF n hs cs hd)) = true := d2
              rw [d2] at r
              exact r
            · have d2 : ¬ inV (.int (0 + (j : Nat))) (ints_ (mvF n hs cs hd)) = true := d2
              rw [Bool.eq_false_iff.mpr d2] at r
              refine ⟨_, rfl, _, rfl, h, _, _, _, rfl, rfl, .inl (.inl (e5 _ _ hh4)), hat0 hj, _, rfl, t, _, 2, .int (hd : Nat), rfl, rfl, .inl (.inl (e5 _ _ g14)), atI_nat (j := 2) rfl, rfl, _, rfl, ?_⟩
              rw [dVn]
              exact r
          · have d1 : ¬ (!inV (.int (0 + (j : Nat))) (ints_ (ownF n hs c))) = true := d1
            rw [Bool.eq_false_iff.mpr d1] at r
            exact r
        rw [heldL_eq (fun z => d z.symm)] at s5 ⊢
        have hhu : upd H5 uh (.tup (ints_ (heldF n hs cs hd c))) uh = some (.tup (ints_ (heldF n hs cs hd c))) := upd_same
        have e45 := e5.trans s5
        generalize upd H5 uh (.tup (ints_ (heldF n hs cs hd c))) = H6 at s5 hhu e45 ⊢
        have e16 := e14.trans e45
        have hg6 := e45 _ _ hgu
        have ho6 := e45 _ _ ho4
        have il2 : ∀ l : List Nat, (ints_ l).length = l.length := fun l => by unfold ints_; rw [List.length_map]
        have gl : (goneF n hs cs hd c).length ≤ (ownF n hs c).length := List.length_filter_le _ _
        have go_fin : ∀ {H7 : Hp}, Same H6 H7 → (!(heldF n hs cs hd c).isEmpty || decide ((goneF n hs cs hd c).length < (ownF n hs c).length)) = true → ∀ r, H7 r = none → Q (.ref r) (upd H7 r (.tup [.str "go", .ref ug, .ref uh])) := fun {H7} e7 hc r nr => by
          refine fin (cs := goneF n hs cs hd c) (os := heldF n hs cs hd c) (e16.trans e7) (by rw [srt5_sub n5 gone_sub]; exact e7 _ _ hg6) (by rw [srt5_sub n5 held_sub]; exact e7 _ _ hhu) ?_ r nr
          show msF n hs cs hd c tl = _
          unfold msF
          rw [if_neg d, if_pos m, if_pos hc]
        refine ⟨_, rfl, ug, _, rfl, .inr (.inl (.inl hg6)), _, rfl, Do, _, rfl, .inl (.inl (.inl ho6)), rfl, _, rfl, ?_⟩
        rw [il2, il2, dVn]
        refine ite2 (fun d1 => ?_) (fun d1 => ?_)
        · have d1 := of_decide_eq_true d1
          refine ⟨_, rfl, by show 0 ≤ sizeLine; decide, fun ue nue => ?_⟩
          have s7 := same_new (o := .tup []) (Same.refl H6) nue
          refine ⟨intD (heldF n hs cs hd c), intD [], .tup (.inl (.inl (s7 _ _ hhu))) (dp_ints _), .tup (xs := []) (.inl (.inl upd_same)) .nil, shaped_ints _, shaped_ints _, _, rfl, ?_⟩
          rw [eqv_intD]
          refine ite2 (fun d2 => ?_) (fun d2 => ?_)
          · have d2 := of_decide_eq_true d2
            refine q _ _ (e16.trans s7) ?_
            rw [show sfF n hs c (.goes cs hd tl) = none from by
              show msF n hs cs hd c tl = _
              unfold msF
              rw [if_neg d, if_pos m, if_neg (by rw [d2, decide_eq_false (by omega)]; decide)]]
            rfl
          · have d2 : heldF n hs cs hd c ≠ [] := fun z => d2 (decide_eq_true z)
            exact ⟨_, rfl, _, rfl, by show 3 ≤ sizeLine; decide, go_fin s7 (by cases hx : heldF n hs cs hd c with | nil => exact absurd hx d2 | cons _ _ => rfl)⟩
        · have d1 : (goneF n hs cs hd c).length ≠ (ownF n hs c).length := fun z => d1 (decide_eq_true z)
          exact ⟨_, rfl, _, rfl, by show 3 ≤ sizeLine; decide, go_fin (Same.refl _) (by rw [decide_eq_true (by omega), Bool.or_true])⟩
      have m : c ∉ mvF n hs cs hd := fun z => m ((inV_ints c _).trans (decide_eq_true z))
      have tnP : ∀ {j : Nat} {x : V}, (ts.map V.ref)[j]? = some x → ∃ (b : Addr) (k : Nat × Nat), x = .ref b ∧ tl[j]? = some k ∧ H1 b = some (.tup (ints_ [k.1, k.2])) := fun {j x} hx => by
        rw [List.getElem?_map] at hx
        obtain ⟨b, hb, rfl⟩ := Option.map_eq_some_iff.mp hx
        obtain ⟨l', hl', hb'⟩ := g4.get hb
        unfold pairs at hl'
        rw [List.getElem?_map] at hl'
        obtain ⟨k, hk, rfl⟩ := Option.map_eq_some_iff.mp hl'
        exact ⟨b, k, rfl, hk, hb'⟩
      dsimp only [tNext]
      rw [tSeq, tAsg]
      refine lc_eith (fun R r => ⟨_, rfl, t, _, 3, .ref tt, rfl, rfl, .inl (.inl g12), atI_nat (j := 3) rfl, r⟩) (g3.same e2) (fun D3 hD3 => ⟨fun j H5 => Same H2 H5 ∧ H5 D3 = some (.lst ((ts.take j).map V.ref)), ⟨same_new (Same.refl _) hD3, upd_same⟩, fun i H' pv => pv.1, fun j x H5 hx pv => ?_, fun H5 pv => ?_⟩)
      · obtain ⟨e5, hD5⟩ := pv
        obtain ⟨b', k, rfl, hk, hb'⟩ := tnP hx
        have hj : ts[j]? = some b' := by
          rw [List.getElem?_map] at hx
          obtain ⟨b2, h2, e⟩ := Option.map_eq_some_iff.mp hx
          cases e
          exact h2
        refine ⟨rfl, _, rfl, b', _, rfl, .inr ⟨.inl (.inl ((e2.trans e5) _ _ hb')), _, hD5, ?_, fun y o hy => ?_, ?_⟩⟩
        · rw [List.length_map, List.length_take]
          have z := g4.len
          unfold pairs at z
          rw [List.length_map] at z
          exact small1000 (by omega)
        · rw [upd_ne (ne_of_none hy hD3)]
          exact e5 _ _ hy
        · rw [upd_same, List.take_add_one, hj, List.map_append]
          rfl
      obtain ⟨e5, hT⟩ := pv
      rw [List.take_of_length_le (by rw [List.length_map]; exact Nat.le_refl _)] at hT
      have e15 := e12.trans e5
      have hm5 := e5 _ _ hm
      have ho5 := e5 _ _ ho2
      have hTT : TAt H5 ts (pairs tl) := TAt.same (e2.trans e5) g4
      dsimp only [gName]
      rw [tSeq, tAsg]
      refine tup_lc (lc_pkL (l := ownF n hs c) (p := fun b => decide (b ∈ mvF n hs cs hd)) (fun R r => ⟨_, rfl, r⟩) (by unfold ownF; exact Nat.le_trans (List.length_filter_le _ _) (by rw [List.length_range]; omega)) ho5 (fun _ => rfl) (fun _ => rfl) (fun b' H3 hb e3 R hR => ?_) (fun Dg H3 nDg e3 hg => TupR.mk hg fun ug nug s3 => ?_))
      · refine ⟨_, rfl, _, rfl, Dm, _, rfl, .inl (.inl (.inl (e3 _ _ hm5))), rfl, flat_ints _, _, rfl, ?_⟩
        have r := hR _ (Same.refl _)
        rw [← inV_ints] at r
        exact r
      rw [show ((ownF n hs c).filter fun b => decide (b ∈ mvF n hs cs hd)) = goneF n hs cs hd c from rfl] at s3 ⊢
      have hgu : upd H3 ug (.tup (ints_ (goneF n hs cs hd c))) ug = some (.tup (ints_ (goneF n hs cs hd c))) := upd_same
      have e56 := e3.trans s3
      generalize upd H3 ug (.tup (ints_ (goneF n hs cs hd c))) = H6 at s3 hgu e56 ⊢
      have hm6 := e56 _ _ hm5
      have ho6 := e56 _ _ ho5
      have hT6 := e56 _ _ hT
      have hTT6 := TAt.same e56 hTT
      dsimp only [gName]
      rw [tSeq, tAsg]
      refine tup_lc (lc_pkL (l := mvF n hs cs hd) (p := fun b => !decide (b ∈ ownF n hs c) && !decide ((c, b) ∈ tl)) (fun R r => ⟨_, rfl, r⟩) (by rw [← mv_eq]; exact Nat.le_trans (List.length_filter_le _ _) (by rw [List.length_range]; omega)) hm6 (fun _ => rfl) (fun _ => rfl) (fun b' H7 hb e7 R hR => ?_) (fun Du H7 nDu e7 hu => TupR.mk hu fun uu nuu s7 => ?_))
      · have z : inV (.int (b' : Nat)) (ints_ (ownF n hs c)) = decide (b' ∈ ownF n hs c) := inV_ints b' _
        refine ⟨_, rfl, _, rfl, Do, _, rfl, .inl (.inl (.inl (e7 _ _ ho6))), rfl, flat_ints _, _, rfl, ?_⟩
        refine ite2 (fun h1 => ?_) (fun h1 => ?_)
        · have h1 : (!inV (.int (b' : Nat)) (ints_ (ownF n hs c))) = true := h1
          rw [z] at h1
          refine ⟨_, rfl, _, rfl, by show 2 ≤ sizeLine; decide, fun T' nT => ?_⟩
          have sT := same_new (o := .tup [.int (c : Nat), .int (b' : Nat)]) (Same.refl H7) nT
          refine ⟨_, rfl, intD [c, b'], _, .tup (xs := [.int (c : Nat), .int (b' : Nat)]) (.inl (.inl upd_same)) (dp_ints [c, b']), .lst (.inl (.inl ((e7.trans sT) _ _ hT6))) (dp_rows (TAt.same (e7.trans sT) hTT6)), shaped_ints _, shaped_rows _, _, rfl, ?_⟩
          rw [any_rows]
          have r := hR _ sT
          rw [h1] at r
          exact r
        · have h1 : ¬ (!inV (.int (b' : Nat)) (ints_ (ownF n hs c))) = true := h1
          rw [z] at h1
          have r := hR _ (Same.refl _)
          rw [Bool.eq_false_iff.mpr h1] at r
          exact r
      rw [show ((mvF n hs cs hd).filter fun b => !decide (b ∈ ownF n hs c) && !decide ((c, b) ∈ tl)) = untF n hs cs hd c tl from rfl] at s7 ⊢
      have huu : upd H7 uu (.tup (ints_ (untF n hs cs hd c tl))) uu = some (.tup (ints_ (untF n hs cs hd c tl))) := upd_same
      have e68 := e7.trans s7
      generalize upd H7 uu (.tup (ints_ (untF n hs cs hd c tl))) = H8 at s7 huu e68 ⊢
      have e18 := (e15.trans e56).trans e68
      have hg8 := e68 _ _ hgu
      have le_fin : ∀ {H9 : Hp}, Same H8 H9 → (!(goneF n hs cs hd c).isEmpty || !(untF n hs cs hd c tl).isEmpty) = true → ∀ r, H9 r = none → Q (.ref r) (upd H9 r (.tup [.str "leave", .ref ug, .ref uu])) := fun {H9} e9 hc r nr => by
        refine fin (cs := goneF n hs cs hd c) (os := untF n hs cs hd c tl) (e18.trans e9) (by rw [srt5_sub n5 gone_sub]; exact e9 _ _ hg8) (by rw [srt5_sub n5 unt_sub]; exact e9 _ _ huu) ?_ r nr
        show msF n hs cs hd c tl = _
        unfold msF
        rw [if_neg d, if_neg m, if_pos hc]
      refine ⟨_, rfl, by show 0 ≤ sizeLine; decide, fun ue nue => ?_⟩
      have s9 := same_new (o := .tup []) (Same.refl H8) nue
      refine ⟨intD (goneF n hs cs hd c), intD [], .tup (.inl (.inl (s9 _ _ hg8))) (dp_ints _), .tup (xs := []) (.inl (.inl upd_same)) .nil, shaped_ints _, shaped_ints _, _, rfl, ?_⟩
      rw [eqv_intD]
      refine ite2 (fun d1 => ?_) (fun d1 => ?_)
      · have d1 := of_decide_eq_true d1
        refine ⟨_, rfl, by show 0 ≤ sizeLine; decide, fun uf nuf => ?_⟩
        have sA := s9.trans (same_new (o := .tup []) (Same.refl _) nuf)
        refine ⟨intD (untF n hs cs hd c tl), intD [], .tup (.inl (.inl (sA _ _ huu))) (dp_ints _), .tup (xs := []) (.inl (.inl upd_same)) .nil, shaped_ints _, shaped_ints _, _, rfl, ?_⟩
        rw [eqv_intD]
        refine ite2 (fun d2 => ?_) (fun d2 => ?_)
        · have d2 := of_decide_eq_true d2
          refine q _ _ (e18.trans sA) ?_
          rw [show sfF n hs c (.goes cs hd tl) = none from by
            show msF n hs cs hd c tl = _
            unfold msF
            rw [if_neg d, if_neg m, if_neg (by rw [d1, d2]; decide)]]
          rfl
        · have d2 : untF n hs cs hd c tl ≠ [] := fun z => d2 (decide_eq_true z)
          exact ⟨_, rfl, _, rfl, by show 3 ≤ sizeLine; decide, le_fin sA (by cases hx : untF n hs cs hd c tl with | nil => exact absurd hx d2 | cons _ _ => rw [show (!(_ :: _ : List Nat).isEmpty) = true from rfl, Bool.or_true])⟩
      · have d1 : goneF n hs cs hd c ≠ [] := fun z => d1 (decide_eq_true z)
        exact ⟨_, rfl, _, rfl, by show 3 ≤ sizeLine; decide, le_fin s9 (by cases hx : goneF n hs cs hd c with | nil => exact absurd hx d1 | cons _ _ => rfl)⟩
end
end K7
end
/-! ## P37 -/
section
open PySem PySem.Spec PyProof.Rows L2
namespace K7
/-! ### all lots of ascending cells -/
def sel (bs : List Bool) : List Nat := (List.range 5).filter fun b => bs.getD b false
theorem sel_of {l : List Nat} (h : l.Sublist (List.range 5)) : l = sel [decide (0 ∈ l), decide (1 ∈ l), decide (2 ∈ l), decide (3 ∈ l), decide (4 ∈ l)] := by
  refine (srt5_sub (Nat.le_refl 5) h).symm.trans ?_
  unfold srt5 sel
  refine List.filter_congr fun b hb => ?_
  have hb := List.mem_range.mp hb
  match b, hb with
  | 0, _ => rfl
  | 1, _ => rfl
  | 2, _ => rfl
  | 3, _ => rfl
  | 4, _ => rfl
theorem levB : ∀ b0 b1 b2 b3 b4 : Bool, ∀ k : Fin 7, ((level (sel [b0, b1, b2, b3, b4]) k.val).length ≤ 10 ∧ (lotsTo (sel [b0, b1, b2, b3, b4]) k.val).length ≤ 32) ∧ (level (sel [b0, b1, b2, b3, b4]) k.val).all (fun l => decide (l.length ≤ 990)) = true := by decide +kernel
theorem lotB : ∀ b0 b1 b2 b3 b4 : Bool, (lotsTo (sel [b0, b1, b2, b3, b4]) (sel [b0, b1, b2, b3, b4]).length).all (fun l => l.all (fun x => decide (x ∈ sel [b0, b1, b2, b3, b4])) && decide l.Nodup) = true ∧
    (sel [b0, b1, b2, b3, b4] = [] ∨ (lotsTo (sel [b0, b1, b2, b3, b4]) (sel [b0, b1, b2, b3, b4]).length).any (fun l => !l.isEmpty) = true) := by decide +kernel
theorem levA {cs : List Nat} (h : cs.Sublist (List.range 5)) (k : Fin 7) : (level cs k.val).length ≤ 10 ∧ (lotsTo cs k.val).length ≤ 32 := by
  have z := (levB (decide (0 ∈ cs)) (decide (1 ∈ cs)) (decide (2 ∈ cs)) (decide (3 ∈ cs)) (decide (4 ∈ cs)) k).1
  rw [← sel_of h] at z
  exact z
theorem lot_lenA {cs : List Nat} {t i : Nat} {lot : List Nat} (h : cs.Sublist (List.range 5)) (ht : t ≤ 6) (e : (level cs t)[i]? = some lot) : lot.length ≤ 990 := by
  have z := (levB (decide (0 ∈ cs)) (decide (1 ∈ cs)) (decide (2 ∈ cs)) (decide (3 ∈ cs)) (decide (4 ∈ cs)) ⟨t, by omega⟩).2
  rw [← sel_of h] at z
  exact of_decide_eq_true (List.all_eq_true.mp z lot (List.mem_of_getElem? e))
theorem lots_in {cs : List Nat} (h : cs.Sublist (List.range 5)) {l : List Nat} (hl : l ∈ lotsTo cs cs.length) : (∀ x ∈ l, x ∈ cs) ∧ l.Nodup := by
  have z := (lotB (decide (0 ∈ cs)) (decide (1 ∈ cs)) (decide (2 ∈ cs)) (decide (3 ∈ cs)) (decide (4 ∈ cs))).1
  rw [← sel_of h] at z
  have z := List.all_eq_true.mp z l hl
  rw [Bool.and_eq_true] at z
  exact ⟨fun x hx => of_decide_eq_true (List.all_eq_true.mp z.1 x hx), of_decide_eq_true z.2⟩
theorem lots_any {cs : List Nat} (h : cs.Sublist (List.range 5)) (ne : cs ≠ []) : 0 < ((lotsTo cs cs.length).filter fun l => !l.isEmpty).length := by
  have z := (lotB (decide (0 ∈ cs)) (decide (1 ∈ cs)) (decide (2 ∈ cs)) (decide (3 ∈ cs)) (decide (4 ∈ cs))).2
  rw [← sel_of h] at z
  rcases z with z | z
  · exact absurd z ne
  · obtain ⟨l, h1, h2⟩ := List.any_eq_true.mp z
    exact List.length_pos_of_mem (List.mem_filter.mpr ⟨h1, h2⟩)
section
variable {P : Program} {w : World} {K : PySem.W.Frag} {mg : Str → Option Value} {base : Heap}
def spLotsA : Sp := fun vs H Q _ => ∃ (r : Addr) (n : Nat) (cs : List Nat), vs = [.ref r] ∧ cs.Sublist (List.range 5) ∧ cs.length = n ∧ H r = some (.lst (ints_ cs)) ∧ ∀ H' q ts, Same H H' → H q = none → H' q = some (.lst (ts.map V.ref)) → TAt H' ts (lotsTo cs n) → Q (.ref q) H'
theorem ok_lotsA {f : Addr} {fd : FuncData} (F : Fun K "_law_lots" "_law_lots" s__law_lots f fd) (m_range : mg "range" = none) (m_len : mg "len" = none) (m_list : mg "list" = none) : FnOk P w K mg base CX0 1 f fd ["_law_cells"] spLotsA := by
  refine F.ok sc__law_lots (fun vs H Q E h => ?_) (fun cdv A outer s H vs Q E hr h => ?_)
  · obtain ⟨r, n, cs, rfl, _⟩ := h
    rfl
  · obtain ⟨r, n, cs, rfl, hsb, hc5, hr0, q⟩ := h
    have hn : n ≤ 5 := by rw [← hc5]; exact Nat.le_trans hsb.length_le (by rw [List.length_range]; exact Nat.le_refl _)
    refine ⟨_, (pss_cons (ps_par (by rfl) sc__law_lots.nd (i := 1) (j := 2) rfl rfl (by decide) rfl rfl (pa_cons (pe_lst (pa_cons (pe_tup pa_nil) pa_nil)) (pa_cons (pe_lst (pa_cons (pe_tup pa_nil) pa_nil)) pa_nil)) (by rfl))
 (pss_cons (ps_for PassesOwn.never rfl (pi_range1 rfl m_range (pa_cons (pe_callB call_len_seq (by rfl) m_len boot_len (pa_cons (pv 0) pa_nil)) pa_nil)) (pg_name (i := 3) sc__law_lots.nd rfl (by first | exact Or.inl rfl | exact Or.inr rfl))
  (pss_cons (ps_set (i := 4) sc__law_lots.nd rfl (by first | exact Or.inl rfl | exact Or.inr rfl) (pe_lst pa_nil))
 (pss_cons (ps_for PassesOwn.never rfl (pi_list (pv 2)) (pg_name (i := 5) sc__law_lots.nd rfl (by first | exact Or.inl rfl | exact Or.inr rfl))
  (pss_one (ps_for PassesOwn.never rfl (pi_list (pv 0)) (pg_name (i := 6) sc__law_lots.nd rfl (by first | exact Or.inl rfl | exact Or.inr rfl))
  (pss_one (ps_if (pw_or (pt_cmpR (op_eqD hr.units) (pv 5) (pe_tup pa_nil) (nomark _)) (pw_or1 (pt_cmpR op_gt (pv 6) (pe_ix ix_tup (pv 5) (pe_un un_neg pe_int) (fun _ _ => rfl)) (nomark _)))).pt
  (pss_one (ps_expr (pe_bm PySem.F.plainAttrs_list PySem.F.slot_list_append PySem.F.type_list_append mt_append (pv 4) (pa_cons (pe_op op_catA (pv 5) (pe_tup (pa_cons (pv 6) pa_nil))) pa_nil))))
  pss_nil)))))
 (pss_cons (ps_expr (pe_bm PySem.F.plainAttrs_list PySem.F.slot_list_extend PySem.F.type_list_extend mt_extend (pv 1) (pa_cons (pv 4) pa_nil)))
 (pss_one (ps_set (i := 2) sc__law_lots.nd rfl (by first | exact Or.inl rfl | exact Or.inr rfl) (pe_callTy call_list_of (by rfl) m_list boot_list (pa_cons (pv 4) pa_nil))))))))
 (pss_one (ps_ret (pv 1))))), ?_⟩
    have hlen : (ints_ cs).length = n := by unfold ints_; rw [List.length_map, hc5]
    refine ⟨by show 0 ≤ sizeLine; decide, fun e0 ne0 => ⟨by show 1 ≤ sizeLine; decide, fun F0 nF0 => ⟨by show 0 ≤ sizeLine; decide, fun e1 ne1 => ⟨by show 1 ≤ sizeLine; decide, fun L0 nL0 => ?_⟩⟩⟩⟩
    have s1 : Same H (upd H e0 (.tup [])) := same_new (Same.refl H) ne0
    have s2 : Same (upd H e0 (.tup [])) (upd (upd H e0 (.tup [])) F0 (.lst [.ref e0])) := same_new (Same.refl _) nF0
    generalize hA : upd (upd H e0 (.tup [])) F0 (.lst [.ref e0]) = HA at s2 ne1 nL0 ⊢
    have hF : HA F0 = some (.lst [.ref e0]) := by rw [← hA]; exact upd_same
    have he0 : HA e0 = some (.tup []) := s2 _ _ upd_same
    have s3 : Same HA (upd HA e1 (.tup [])) := same_new (Same.refl _) ne1
    have s4 : Same (upd HA e1 (.tup [])) (upd (upd HA e1 (.tup [])) L0 (.lst [.ref e1])) := same_new (Same.refl _) nL0
    have hL : upd (upd HA e1 (.tup [])) L0 (.lst [.ref e1]) L0 = some (.lst [.ref e1]) := upd_same
    have he1 := s4 _ _ (show upd HA e1 (.tup []) e1 = some (.tup []) from upd_same)
    have hFL : F0 ≠ L0 := ne_of_none (s3 _ _ hF) nL0
    have hF2 := s4 _ _ (s3 _ _ hF)
    have he02 := s4 _ _ (s3 _ _ he0)
    have sB := s1.trans (s2.trans (s3.trans s4))
    generalize upd (upd HA e1 (.tup [])) L0 (.lst [.ref e1]) = HB at hL he1 hF2 he02 sB ⊢
    refine ⟨_, _, rfl, ?_⟩
    have hFn : H F0 = none := s1.free nF0
    refine ⟨_, rfl, r, _, rfl, .inl (.inl (.inl (sB _ _ hr0))), _, rfl, by omega, by omega, for_range (fun t σ H' => t ≤ n ∧ ∃ La fs las y3 y4 y5 y6, σ = [some (.ref r), some (.ref F0), some (.ref La), y3, y4, y5, y6] ∧ Same H H' ∧ H' F0 = some (.lst (fs.map V.ref)) ∧ H' La = some (.lst (las.map V.ref)) ∧ La ≠ F0 ∧ TAt H' fs (lotsTo cs t) ∧ TAt H' las (level cs t)) ⟨Nat.zero_le _, L0, [e0], [e1], none, none, none, none, rfl, sB, hF2, hL, hFL.symm, .cons he02 .nil, .cons he1 .nil⟩ (fun t σ H' ht pv => ?_) (fun σ H' pv => ?_)⟩
    · obtain ⟨_, La, fs, las, y3, y4, y5, y6, rfl, e, hF', hLa, nLF, tF, tL⟩ := pv
      rw [hlen] at ht
      have ht : t < n := by simpa using ht
      refine ⟨by show 0 ≤ sizeLine; decide, fun G nG => ?_⟩
      have gF : F0 ≠ G := ne_of_none hF' nG
      have gL : La ≠ G := ne_of_none hLa nG
      have eG : Same H' (upd H' G (.lst [])) := same_new (Same.refl H') nG
      obtain ⟨lv, lt5⟩ := levA hsb ⟨t, by omega⟩
      obtain ⟨lv2, lt6⟩ := levA hsb ⟨t + 1, by omega⟩
      have lv : (level cs t).length ≤ 10 := lv
      refine ⟨_, rfl, La, rfl, ⟨_, .inl (.inl (eG _ _ hLa))⟩, for_list (xs := las.map V.ref) (fun i σ H2 => ∃ gs y5 y6, σ = [some (.ref r), some (.ref F0), some (.ref La), some (.int (0 + (t : Nat))), some (.ref G), y5, y6] ∧ But G H' H2 ∧ H2 G = some (.lst (gs.map V.ref)) ∧ TAt H2 gs (((level cs t).take i).flatMap (grow1 cs)) ∧ gs.length ≤ 5 * i)
        ⟨[], y5, y6, rfl, fun b o hb hz => by rw [upd_ne hb]; exact hz, upd_same, .nil, Nat.le_refl _⟩ (fun i σ H2 _ pv => ?_) (fun i x σ H2 hx pv => ?_) (fun σ H2 pv => ?_)⟩
      · obtain ⟨gs, y5, y6, rfl, bt, hG, tG, hg⟩ := pv
        exact .inl (.inl (bt _ _ gL hLa))
      · obtain ⟨gs, y5, y6, rfl, bt, hG, tG, hg⟩ := pv
        rw [List.getElem?_map] at hx
        obtain ⟨ti, hti, rfl⟩ := Option.map_eq_some_iff.mp hx
        obtain ⟨lot, elot, hlot⟩ := tL.get hti
        have hi10 : i < 10 := by
          have := (List.getElem?_eq_some_iff.mp elot).1
          omega
        have tG' : ∀ {b : Addr} {xs : List V}, H' b = some (.tup xs) → H2 b = some (.tup xs) := fun {b xs} hb => bt b _ (ne_of_none hb nG) hb
        have hr2 : H2 r = some (.lst (ints_ cs)) := bt _ _ (ne_of_none (e _ _ hr0) nG) (e _ _ hr0)
        have nrG : r ≠ G := ne_of_none (e _ _ hr0) nG
        refine ⟨_, rfl, r, rfl, ⟨_, .inl (.inl hr2)⟩, for_list (xs := ints_ cs) (fun j σ H3 => ∃ gs' y6, σ = [some (.ref r), some (.ref F0), some (.ref La), some (.int (0 + (t : Nat))), some (.ref G), some (.ref ti), y6] ∧ But G H' H3 ∧ H3 G = some (.lst (gs'.map V.ref)) ∧ TAt H3 gs' (((level cs t).take i).flatMap (grow1 cs) ++ grow1 (cs.take j) lot) ∧ gs'.length ≤ 5 * i + j)
          ⟨gs, y6, rfl, bt, hG, by simpa [grow1] using tG, by omega⟩ (fun j σ H3 _ pv => ?_) (fun j x σ H3 hx pv => ?_) (fun σ H3 pv => ?_)⟩
        · obtain ⟨gs', y6, rfl, bt3, hG3, tG3, hg3⟩ := pv
          exact .inl (.inl (bt3 _ _ nrG (e _ _ hr0)))
        · obtain ⟨gs', y6, rfl, bt3, hG3, tG3, hg3⟩ := pv
          unfold ints_ at hx
          rw [List.getElem?_map] at hx
          obtain ⟨c, hc, rfl⟩ := Option.map_eq_some_iff.mp hx
          have hj5 : j < 5 := by
            have := (List.getElem?_eq_some_iff.mp hc).1
            omega
          have hlot3 : H3 ti = some (.tup (lot.map fun c => .int (c : Nat))) := bt3 ti _ (ne_of_none hlot nG) hlot
          have hll : lot.length ≤ 990 := lot_lenA hsb (by omega) elot
          have g1 : grow1 (cs.take (j + 1)) lot = grow1 (cs.take j) lot ++ (if (lot.isEmpty || decide (lot.getLastD 0 < c)) = true then [lot ++ [c]] else []) := by
            unfold grow1
            rw [List.take_add_one, hc, List.filter_append, List.map_append]
            congr 1
            by_cases z : (lot.isEmpty || decide (lot.getLastD 0 < c)) = true
            · rw [if_pos z]
              show List.map _ (List.filter _ [c]) = _
              rw [List.filter_cons, if_pos z]
              rfl
            · rw [if_neg z]
              show List.map _ (List.filter _ [c]) = _
              rw [List.filter_cons, if_neg z]
              rfl
          have endOk : ∀ (Hf : Hp) (v : Addr), Same H3 Hf → Hf v = some (.tup ((lot ++ [c]).map fun c => .int (c : Nat))) → (lot.isEmpty || decide (lot.getLastD 0 < c)) = true →
              But G H' (upd Hf G (.lst (gs'.map V.ref ++ [.ref v]))) ∧ upd Hf G (.lst (gs'.map V.ref ++ [.ref v])) G = some (.lst ((gs' ++ [v]).map V.ref)) ∧
                TAt (upd Hf G (.lst (gs'.map V.ref ++ [.ref v]))) (gs' ++ [v]) (((level cs t).take i).flatMap (grow1 cs) ++ grow1 (cs.take (j + 1)) lot) ∧ (gs' ++ [v]).length ≤ 5 * i + (j + 1) := by
            intro Hf v sF hv hcond
            have up : ∀ b xs, Hf b = some (.tup xs) → upd Hf G (.lst (gs'.map V.ref ++ [.ref v])) b = some (.tup xs) := fun b xs hb => by
              have n1 : b ≠ G := fun z => by rw [z, sF _ _ hG3] at hb; cases hb
              rw [upd_ne n1]; exact hb
            refine ⟨fun b o nb hb => by rw [upd_ne nb]; exact sF _ _ (bt3 b o nb hb), by rw [upd_same, List.map_append]; rfl, ?_, by rw [List.length_append, List.length_singleton]; omega⟩
            rw [g1, if_pos hcond, ← List.append_assoc]
            exact ((tG3.same sF).mono up).append (.cons (up _ _ hv) .nil)
          refine ⟨_, rfl, by show 0 ≤ sizeLine; decide, fun em nem => ?_⟩
          have sX := same_new (o := .tup []) (Same.refl H3) nem
          refine ⟨_, _, .tup (.inl (.inl (sX _ _ hlot3))) (dp_ints lot), .tup (.inl (.inl upd_same)) .nil, shaped_ints lot, shaped_ints [], ?_⟩
          rw [show PyData.eqv (.tuple (lot.map fun c => PyData.int (c : Nat))) (.tuple []) = lot.isEmpty from eqv_empty lot]
          refine ⟨_, rfl, ite2 (fun q1 => ?_) (fun q1 => ?_)⟩
          · have hcond : (lot.isEmpty || decide (lot.getLastD 0 < c)) = true := by rw [q1]; rfl
            have hG4 := sX _ _ hG3
            refine ⟨_, rfl, .inl ⟨rfl, _, .inl (.inl hG4)⟩, _, rfl, _, rfl, by show 1 ≤ sizeLine; decide, fun u nu => ?_⟩
            have sU := sX.trans (same_new (o := .tup [.int (c : Nat)]) (Same.refl _) nu)
            refine ⟨ti, u, _, _, rfl, rfl, .inl (.inl (sU _ _ hlot3)), .inl (.inl upd_same), ?_, fun z => ?_, (fun _ z2 => nomatch z2), fun z1 _ p np => ?_⟩
            · rw [List.length_map]
              exact Nat.le_trans (show lot.length + 1 ≤ 1000 by omega) (by decide)
            · have lot0 : lot = [] := by simpa using z
              obtain ⟨k1, k2, k3, k4⟩ := endOk _ u sU (by rw [upd_same, lot0]; rfl) hcond
              exact ⟨G, _, _, rfl, rfl, sU _ _ hG3, by rw [List.length_map]; exact small1000 (by omega), gs' ++ [u], _, rfl, k1, k2, k3, k4⟩
            · obtain ⟨k1, k2, k3, k4⟩ := endOk _ p (sU.trans (same_new (Same.refl _) np)) (by rw [upd_same, List.map_append]) hcond
              exact ⟨G, _, _, rfl, rfl, (sU.trans (same_new (Same.refl _) np)) _ _ hG3, by rw [List.length_map]; exact small1000 (by omega), gs' ++ [p], _, rfl, k1, k2, k3, k4⟩
          · have q1' : lot.isEmpty = false := Bool.eq_false_iff.mpr q1
            refine ⟨_, rfl, _, rfl, _, rfl, ti, _, _, .int (lot.getLastD 0 : Nat), rfl, rfl, .inl (.inl (sX _ _ hlot3)), last_at q1', _, _, rfl, rfl, _, rfl, ite2 (fun q2 => ?_) (fun q2 => ?_)⟩
            · have hcond : (lot.isEmpty || decide (lot.getLastD 0 < c)) = true := by
                rw [q1', Bool.false_or]
                have := of_decide_eq_true q2
                exact decide_eq_true (by omega)
              have hG4 := sX _ _ hG3
              refine ⟨_, rfl, .inl ⟨rfl, _, .inl (.inl hG4)⟩, _, rfl, _, rfl, by show 1 ≤ sizeLine; decide, fun u nu => ?_⟩
              have sU := sX.trans (same_new (o := .tup [.int (c : Nat)]) (Same.refl _) nu)
              refine ⟨ti, u, _, _, rfl, rfl, .inl (.inl (sU _ _ hlot3)), .inl (.inl upd_same), ?_, fun z => ?_, (fun _ z2 => nomatch z2), fun z1 _ p np => ?_⟩
              · rw [List.length_map]
                exact Nat.le_trans (show lot.length + 1 ≤ 1000 by omega) (by decide)
              · have lot0 : lot = [] := by simpa using z
                obtain ⟨k1, k2, k3, k4⟩ := endOk _ u sU (by rw [upd_same, lot0]; rfl) hcond
                exact ⟨G, _, _, rfl, rfl, sU _ _ hG3, by rw [List.length_map]; exact small1000 (by omega), gs' ++ [u], _, rfl, k1, k2, k3, k4⟩
              · obtain ⟨k1, k2, k3, k4⟩ := endOk _ p (sU.trans (same_new (Same.refl _) np)) (by rw [upd_same, List.map_append]) hcond
                exact ⟨G, _, _, rfl, rfl, (sU.trans (same_new (Same.refl _) np)) _ _ hG3, by rw [List.length_map]; exact small1000 (by omega), gs' ++ [p], _, rfl, k1, k2, k3, k4⟩
            · have hcond : ¬ (lot.isEmpty || decide (lot.getLastD 0 < c)) = true := by
                rw [q1', Bool.false_or]
                intro z
                have z' := of_decide_eq_true z
                exact q2 (decide_eq_true (by omega))
              refine ⟨gs', _, rfl, fun b o nb hb => sX _ _ (bt3 b o nb hb), sX _ _ hG3, ?_, by omega⟩
              rw [g1, if_neg hcond, List.append_nil]
              exact tG3.same sX
        · obtain ⟨gs', y6, rfl, bt3, hG3, tG3, hg3⟩ := pv
          refine ⟨gs', _, _, rfl, bt3, hG3, ?_, ?_⟩
          · rw [hlen, show cs.take n = cs from List.take_of_length_le (by rw [hc5]; exact Nat.le_refl n)] at tG3
            rw [List.take_add_one, elot, List.flatMap_append]
            simpa using tG3
          · rw [hlen] at hg3
            omega
      · obtain ⟨gs, y5, y6, rfl, bt, hG, tG, hg⟩ := pv
        rw [List.length_map] at tG hg
        rw [tL.len, List.take_length] at tG
        have hF3 := bt _ _ gF hF'
        have lfs : fs.length ≤ 32 := by rw [tF.len]; exact (levA hsb ⟨t, by omega⟩).2
        have lgs : gs.length ≤ 10 := by rw [tG.len]; exact lv2
        refine ⟨_, rfl, .inl ⟨rfl, _, .inl (.inl hF3)⟩, _, rfl, F0, G, _, _, rfl, rfl, hF3, hG, ?_, ?_⟩
        · rw [List.length_map, List.length_map]
          exact Nat.le_trans (show fs.length + gs.length ≤ 42 by omega) (by decide)
        have hG4 : upd H2 F0 (.lst (fs.map V.ref ++ gs.map V.ref)) G = some (.lst (gs.map V.ref)) := by rw [upd_ne gF.symm]; exact hG
        refine ⟨_, rfl, G, _, rfl, .inl (.inl (.inl hG4)), fun L2 nL2 => ?_⟩
        have hF4 : upd H2 F0 (.lst (fs.map V.ref ++ gs.map V.ref)) F0 = some (.lst ((fs ++ gs).map V.ref)) := by rw [upd_same, List.map_append]
        have nL2F : L2 ≠ F0 := fun z => by rw [z, hF4] at nL2; cases nL2
        have up : ∀ b xs, H2 b = some (.tup xs) → upd (upd H2 F0 (.lst (fs.map V.ref ++ gs.map V.ref))) L2 (.lst (gs.map V.ref)) b = some (.tup xs) := fun b xs hb => by
          have n1 : b ≠ F0 := fun z => by rw [z, hF3] at hb; cases hb
          have h1 : upd H2 F0 (.lst (fs.map V.ref ++ gs.map V.ref)) b = some (.tup xs) := by rw [upd_ne n1]; exact hb
          rw [upd_ne (ne_of_none h1 nL2)]
          exact h1
        have tF' : TAt H2 fs (lotsTo cs t) := tF.mono fun b xs hb => bt b _ (ne_of_none hb nG) hb
        refine ⟨by omega, L2, fs ++ gs, gs, _, _, _, _, rfl, fun b o hb => ?_, by rw [upd_ne nL2F.symm]; exact hF4, upd_same, nL2F, (tF'.mono up).append (tG.mono up), tG.mono up⟩
        have n0 : b ≠ F0 := ne_of_none hb hFn
        have h1 := e _ _ hb
        have h2 := bt _ _ (ne_of_none h1 nG) h1
        have h3 : upd H2 F0 (.lst (fs.map V.ref ++ gs.map V.ref)) b = some o := by rw [upd_ne n0]; exact h2
        rw [upd_ne (ne_of_none h3 nL2)]
        exact h3
    · obtain ⟨_, La, fs, las, y3, y4, y5, y6, rfl, e, hF', hLa, nLF, tF, tL⟩ := pv
      rw [hlen] at tF
      exact ⟨_, rfl, q H' F0 fs e hFn hF' (by simpa using tF)⟩
end
end K7
end
/-! ## P38 -/
section
open PySem PySem.Spec PyProof.Rows L2
namespace K7
abbrev N__law_some : List Str := ["_law_hand_here", "_law_cells", "_law_lot"]
abbrev s__law_some : Stmt := topS 63
theorem sc__law_some : FnScope ["_law_hand_here", "_law_cells", "_law_lot"] ["_law_hand_here", "_law_cells"] (defScope s__law_some) := ⟨rfl, rfl, rfl, by decide +kernel, rfl, by decide +kernel, by decide +kernel⟩
/-! ### a lot of cells, at least one -/
theorem perm_ints {l : List Nat} {m : List V} (h : m.Perm (ints_ l)) : ∃ k, m = ints_ k ∧ k.Perm l := by
  have f : ∀ y ∈ m, y = .int (((intOf y).toNat : Nat) : Int) := fun y hy => by
    obtain ⟨x, _, rfl⟩ := List.mem_map.mp (h.mem_iff.mp hy)
    show V.int _ = V.int (((x : Nat) : Int).toNat : Nat)
    rw [Int.toNat_natCast]
  refine ⟨m.map fun y => (intOf y).toNat, ?_, ?_⟩
  · unfold ints_
    rw [List.map_map]
    exact (List.map_id m).symm.trans (List.map_congr_left fun y hy => f y hy)
  · have z := h.map fun y => (intOf y).toNat
    unfold ints_ at z
    rw [List.map_map] at z
    have e : (l.map ((fun y => (intOf y).toNat) ∘ fun c => V.int ((c : Nat) : Int))) = l := by
      conv => rhs; rw [← List.map_id l]
      exact List.map_congr_left fun x _ => Int.toNat_natCast x
    rw [e] at z
    exact z
section
variable {P : Program} {w : World} {K : PySem.W.Frag} {mg : Str → Option Value} {base : Heap}
def spSome : Sp := fun vs H Q _ => ∃ (ha hc cl : Addr) (n : Nat) (cs : List Nat), vs = [.ref ha, .ref cl] ∧ Hand H ha hc ∧ SqOf H cl (ints_ cs) ∧ n ≤ 5 ∧ cs.Nodup ∧ (∀ c ∈ cs, c < n) ∧ cs ≠ [] ∧
  ∀ H' o own, Stay ha hc H H' → H o = none → SqOf H' o (ints_ own) → own.Nodup → (∀ x ∈ own, x ∈ cs) → 0 < own.length → Q (.ref o) H'
theorem ok_some {f flo fpk ftu : Addr} {fd fdlo fdpk fdtu : FuncData} (F : Fun K "_law_some" "_law_some" s__law_some f fd)
    (Glo : FnOk P w K mg base CX0 1 flo fdlo ["_law_cells"] spLotsA) (glo : mg "_law_lots" = some (.ref flo)) (klo : PySem.W.keepIn K (.ref flo) = true) (blo : Binds K fdlo ["_law_cells"] [])
    (Gpk : FnOk P w K mg base CX0 3 fpk fdpk ["_law_hand_here", "_law_things"] spPick) (gpk : mg "_law_pick" = some (.ref fpk)) (kpk : PySem.W.keepIn K (.ref fpk) = true) (bpk : Binds K fdpk ["_law_hand_here", "_law_things"] [])
    (Gtu : FnOk P w K mg base CX0 3 ftu fdtu ["_law_hand_here", "_law_things"] spTurn) (gtu : mg "_law_turned" = some (.ref ftu)) (ktu : PySem.W.keepIn K (.ref ftu) = true) (btu : Binds K fdtu ["_law_hand_here", "_law_things"] [])
    (m_sorted : mg "sorted" = none) : FnOk P w K mg base CX0 4 f fd ["_law_hand_here", "_law_cells"] spSome := by
  refine F.ok sc__law_some (fun vs H Q E h => ?_) (fun cdv A outer s H vs Q E hr h => ?_)
  · obtain ⟨ha, hc, cl, n, cs, rfl, _⟩ := h
    rfl
  · obtain ⟨ha, hc, cl, n, cs, rfl, hh, hcl, n5, nd, lt, ne, q⟩ := h
    refine ⟨_, (pss_one (ps_ret (pe_call Gtu (hr.mono (by decide)) (by rfl) gtu ktu btu .nil pass0 (pa_cons (pv 0) (pa_cons (pe_call Gpk (hr.mono (by decide)) (by rfl) gpk kpk bpk .nil pass0 (pa_cons (pv 0) (pa_cons (pe_lc (own := [("_law_lot", 2)]) (g := gName 2) rfl sc__law_some.nd (pi_list (pe_call Glo (hr.mono (by decide)) (by rfl) glo klo blo .nil pass0 (pa_cons (pe_callB K7S.cr_sortA (by rfl) m_sorted boot_sorted (pa_cons (pv 1) pa_nil)) pa_nil))) (blkOk_by (own := [("_law_lot", 2)]) (N := N__law_some) (sc := defScope s__law_some) (by decide +kernel)) (fun _ _ _ _ _ => (pg_name (i := 2) sc__law_some.nd rfl (by first | exact Or.inl rfl | exact Or.inr rfl))) (fun _ _ _ _ _ => (pts_one (pt_cmpR (show OpR _ _ (rNeD K) from op_neD hr.units) (pv 2) (pe_tup pa_nil) (nomark _)))) (fun _ _ _ _ _ => (pv 2))) pa_nil))) pa_nil))))), ?_⟩
    have l5 : ∀ c ∈ cs, c < 5 := fun c hc => Nat.lt_of_lt_of_le (lt c hc) n5
    have l64 : (cs.map fun b => ((b : Nat) : Int)).length < 64 := by rw [List.length_map]; exact Nat.lt_of_le_of_lt (cells_len nd l5) (by decide)
    have im : ∀ l : List Nat, (l.map fun b => ((b : Nat) : Int)).map V.int = ints_ l := fun l => by unfold ints_; rw [List.map_map]; rfl
    refine ⟨_, rfl, _, rfl, _, rfl, cl, _, rfl, sq_int hcl, l64, fun ms p pm so np => ?_⟩
    have em := sort_cells pm so nd lt
    subst em
    generalize hC : ((List.range n).filter fun b => decide (b ∈ cs)) = cs'
    have sb : cs'.Sublist (List.range 5) := by rw [← hC]; exact List.filter_sublist.trans (List.range_sublist.mpr n5)
    have cm : ∀ x, x ∈ cs' ↔ x ∈ cs := fun x => by
      rw [← hC, List.mem_filter, List.mem_range, decide_eq_true_iff]
      exact ⟨fun h => h.2, fun h => ⟨lt x h, h⟩⟩
    have cne : cs' ≠ [] := fun z => ne (List.eq_nil_iff_forall_not_mem.mpr fun x hx => by
      have y := (cm x).mpr hx
      rw [z] at y
      cases y)
    have e1 := same_new (o := .lst ((cs'.map fun b => ((b : Nat) : Int)).map V.int)) (Same.refl H) np
    have hp : upd H p (.lst ((cs'.map fun b => ((b : Nat) : Int)).map V.int)) p = some (.lst (ints_ cs')) := by rw [upd_same, im]
    generalize upd H p (.lst ((cs'.map fun b => ((b : Nat) : Int)).map V.int)) = H1 at e1 hp ⊢
    refine ⟨p, cs'.length, cs', rfl, sb, rfl, hp, fun H2 lo ts e2 nlo hlo tlo => ?_⟩
    have e12 := e1.trans e2
    have ll : (lotsTo cs' cs'.length).length ≤ 32 := (levA sb ⟨cs'.length, by have := sb.length_le; rw [List.length_range] at this; omega⟩).2
    have tl := tlo.len
    refine ⟨lo, rfl, ⟨_, .inl (.inl hlo)⟩, fun D hD => lc_list (xs := ts.map V.ref) (fun j H3 => Same H2 H3 ∧ ∃ us, H3 D = some (.lst (us.map V.ref)) ∧ TAt H3 us (((lotsTo cs' cs'.length).take j).filter fun l => !l.isEmpty)) ⟨same_new (Same.refl H2) hD, [], upd_same, .nil⟩ (fun j H3 _ pv => .inl (.inl (pv.1 _ _ hlo))) (fun j x H3 hx pv => ?_) (fun H3 pv => ?_)⟩
    · obtain ⟨e3, us, hD3, tU⟩ := pv
      rw [List.getElem?_map] at hx
      obtain ⟨ti, hti, rfl⟩ := Option.map_eq_some_iff.mp hx
      obtain ⟨lot, hlot, hlt⟩ := tlo.get hti
      have hj : j < ts.length := (List.getElem?_eq_some_iff.mp hti).1
      refine ⟨rfl, _, rfl, by show 0 ≤ sizeLine; decide, fun em nem => ?_⟩
      have sE := same_new (o := .tup []) (Same.refl H3) nem
      refine ⟨_, _, .tup (.inl (.inl ((e3.trans sE) _ _ hlt))) (dp_ints lot), .tup (.inl (.inl upd_same)) .nil, shaped_ints lot, shaped_ints [], _, rfl, ?_⟩
      rw [show PyData.eqv (.tuple (lot.map fun c => PyData.int (c : Nat))) (.tuple []) = lot.isEmpty from eqv_empty lot]
      have ft : ((lotsTo cs' cs'.length).take (j + 1)).filter (fun l => !l.isEmpty) = ((lotsTo cs' cs'.length).take j).filter (fun l => !l.isEmpty) ++ (if (!lot.isEmpty) = true then [lot] else []) := by
        rw [List.take_add_one, hlot, List.filter_append, Option.toList_some, List.filter_cons, List.filter_nil]
      have hD4 := sE _ _ hD3
      have tU4 := TAt.same sE tU
      have ht4 := (e3.trans sE) _ _ hlt
      have e34 := e3.trans sE
      generalize upd H3 em (.tup []) = H4 at e34 hD4 tU4 ht4 ⊢
      refine iteB (fun t => ?_) (fun t => ?_)
      · refine ⟨_, rfl, _, hD4, ?_, fun b o hb => ?_, us ++ [ti], by rw [upd_same, List.map_append]; rfl, ?_⟩
        · rw [List.length_map, tU4.len]
          exact small1000 (Nat.le_trans (List.length_filter_le _ _) (by rw [List.length_take]; omega))
        · rw [upd_ne (ne_of_none hb hD)]
          exact e34 _ _ hb
        · rw [ft, if_pos t]
          have up : ∀ b xs, H4 b = some (.tup xs) → upd H4 D (.lst (us.map V.ref ++ [.ref ti])) b = some (.tup xs) := fun b xs hb => by
            rw [upd_ne (by rintro rfl; rw [hD4] at hb; cases hb)]
            exact hb
          exact (tU4.mono up).append (.cons (up _ _ ht4) .nil)
      · refine ⟨e34, us, hD4, ?_⟩
        rw [ft, if_neg (by rw [t]; decide), List.append_nil]
        exact tU4
    · obtain ⟨e3, us, hD3, tU⟩ := pv
      rw [List.length_map, tl, List.take_length] at tU
      have e13 := e12.trans e3
      have ul := tU.len
      have u0 := lots_any sb cne
      have u32 : us.length ≤ 32 := by rw [ul]; exact Nat.le_trans (List.length_filter_le _ _) ll
      have nDa : D ≠ ha := ((hh.same e12).ne hD).1
      refine ⟨ha, hc, D, us.map V.ref, rfl, hh.same e13, nDa, hD3, by rw [List.length_map, ul]; exact u0, by rw [List.length_map]; omega, fun H4 j v dr hv => ?_⟩
      rw [List.getElem?_map] at hv
      obtain ⟨tj, htj, rfl⟩ := Option.map_eq_some_iff.mp hv
      obtain ⟨lot, hlot, hlt⟩ := tU.get htj
      obtain ⟨lm, lp⟩ := List.mem_filter.mp (List.mem_of_getElem? hlot)
      obtain ⟨li, lnd⟩ := lots_in sb lm
      have hl4 : H4 tj = some (.tup (ints_ lot)) := by
        have n1 : tj ≠ ha := by
          obtain ⟨_, _, _, _, z, _⟩ := hh.same e13
          rintro rfl
          rw [hlt] at z
          cases z
        rw [dr.but tj n1]
        exact hlt
      have l32 : lot.length ≤ 5 := cells_len lnd fun c hc => l5 c ((cm c).mp (li c hc))
      refine ⟨ha, hc, tj, ints_ lot, rfl, dr.hand, .inl hl4, by unfold ints_; rw [List.length_map]; omega, fun H5 o own' st no so pm => ?_⟩
      obtain ⟨own, rfl, po⟩ := perm_ints pm
      have stA : Stay ha hc H H5 := ((Stay.of_same hh e13).trans (.of_drawn (hh.same e13) dr)).trans st
      refine q H5 o own stA ?_ so (po.nodup_iff.mpr lnd) (fun x hx => (cm x).mp (li x (po.mem_iff.mp hx))) ?_
      · rcases hx : H o with _ | z
        · rfl
        · have no' : o ≠ ha := by
            rintro rfl
            obtain ⟨_, _, _, _, z, _⟩ := dr.hand
            rw [no] at z
            cases z
          have y := ((Stay.of_same hh e13).trans (.of_drawn (hh.same e13) dr)).but o z no' hx
          rw [no] at y
          cases y
      · rw [po.length_eq]
        cases lot with
        | nil => cases lp
        | cons x r => exact Nat.succ_pos _
end
end K7
end
/-! ## P39 -/
section
open PySem PySem.Spec PyProof.Rows L2
namespace K7
abbrev N__law_parting : List Str := ["_law_hands", "_law_n", "_law_b", "_law_a"]
abbrev s__law_parting : Stmt := topS 64
theorem sc__law_parting : FnScope ["_law_hands", "_law_n", "_law_b", "_law_a"] ["_law_hands"] (defScope s__law_parting) := ⟨rfl, rfl, rfl, by decide +kernel, rfl, by decide +kernel, by decide +kernel⟩
abbrev scP : Scope := { kind := ScopeKind.function, names := [(".0", NameKind.local), ("_law_a", NameKind.cell), ("range", NameKind.globalImplicit), ("_law_hands", NameKind.cell), ("_law_n", NameKind.cell)], isGenerator := false, isCoroutine := false }
/-! ### the lots of the hands -/
def firstsF (n : Nat) (hs : List Nat) : List Nat := (List.range n).filter fun a => !decide (hsAt hs a ∈ hs.take a)
inductive LAt (H : Hp) : List Addr → List (List Nat) → Prop
  | nil : LAt H [] []
  | cons {t : Addr} {l : List Nat} {ts : List Addr} {ls : List (List Nat)} (h : H t = some (.lst (ints_ l))) (r : LAt H ts ls) : LAt H (t :: ts) (l :: ls)
theorem LAt.same {H H' : Hp} (e : Same H H') : ∀ {ts ls}, LAt H ts ls → LAt H' ts ls
  | _, _, .nil => .nil
  | _, _, .cons h r => .cons (e _ _ h) (r.same e)
theorem LAt.mono {H H' : Hp} (e : ∀ b l, H b = some (.lst (ints_ l)) → H' b = some (.lst (ints_ l))) : ∀ {ts ls}, LAt H ts ls → LAt H' ts ls
  | _, _, .nil => .nil
  | _, _, .cons h r => .cons (e _ _ h) (r.mono e)
theorem LAt.monoM {H H' : Hp} : ∀ {ts ls}, LAt H ts ls → (∀ b ∈ ts, ∀ l, H b = some (.lst (ints_ l)) → H' b = some (.lst (ints_ l))) → LAt H' ts ls
  | _, _, .nil, _ => .nil
  | _, _, .cons h r, e => .cons (e _ List.mem_cons_self _ h) (r.monoM fun b hb => e b (List.mem_cons_of_mem _ hb))
theorem LAt.snoc {H : Hp} {t : Addr} {l : List Nat} (h : H t = some (.lst (ints_ l))) : ∀ {ts ls}, LAt H ts ls → LAt H (ts ++ [t]) (ls ++ [l])
  | _, _, .nil => .cons h .nil
  | _, _, .cons h' r => .cons h' (LAt.snoc h r)
theorem LAt.len {H : Hp} : ∀ {ts ls}, LAt H ts ls → ts.length = ls.length
  | _, _, .nil => rfl
  | _, _, .cons _ r => congrArg (· + 1) r.len
theorem LAt.get {H : Hp} : ∀ {ts ls} {i : Nat} {t : Addr}, LAt H ts ls → ts[i]? = some t → ∃ l, ls[i]? = some l ∧ H t = some (.lst (ints_ l))
  | _, _, _, _, .nil, e => by cases e
  | _, _, 0, _, .cons h _, e => by cases e; exact ⟨_, rfl, h⟩
  | _, _, i + 1, _, .cons _ r, e => r.get (i := i) e
theorem cut_take {l : List Nat} {i : Nat} (h : i ≤ l.length) : cutV (ints_ l) none (some ((i : Nat) : Int)) = ints_ (l.take i) := by
  have il : (ints_ l).length = l.length := by unfold ints_; rw [List.length_map]
  have h1 : HT.sIx (ints_ l).length 0 none = 0 := rfl
  have h2 : HT.sIx (ints_ l).length (ints_ l).length (some ((i : Nat) : Int)) = i := by
    unfold HT.sIx
    have : ¬ ((i : Nat) : Int) < 0 := by omega
    simp only [this, if_false, Int.toNat_natCast]
    omega
  unfold cutV
  rw [h1, h2, List.drop_zero, Nat.sub_zero]
  unfold ints_
  rw [List.map_take]
section
variable {P : Program} {w : World} {K : PySem.W.Frag} {mg : Str → Option Value} {base : Heap}
def spPart : Sp := fun vs H Q _ => ∃ (h : Addr) (n : Nat) (hs : List Nat), vs = [.ref h] ∧ H h = some (.lst (ints_ hs)) ∧ hs.length = n ∧ n ≤ 5 ∧
  ∀ H' q ts, Same H H' → H q = none → H' q = some (.lst (ts.map V.ref)) → LAt H' ts ((firstsF n hs).map fun a => ownF n hs a) → (∀ t ∈ ts, H t = none) → Q (.ref q) H'
theorem ok_part {f : Addr} {fd : FuncData} (F : Fun K "_law_parting" "_law_parting" s__law_parting f fd) (m_len : mg "len" = none) (m_range : mg "range" = none) : FnOk P w K mg base CX0 1 f fd ["_law_hands"] spPart := by
  refine F.ok sc__law_parting (fun vs H Q E h => ?_) (fun cdv A outer s H vs Q E hr h => ?_)
  · obtain ⟨h, n, hs, rfl, _⟩ := h
    rfl
  · obtain ⟨h, n, hs, rfl, hh, hl, n5, q⟩ := h
    refine ⟨_, (pss_cons (ps_set (i := 1) sc__law_parting.nd rfl (by first | exact Or.inl rfl | exact Or.inr rfl) (pe_callB call_len_seq (by rfl) m_len boot_len (pa_cons (pv 0) pa_nil)))
 (pss_one (ps_ret (pe_lc (own := [("_law_a", 3)]) (g := gName 3) rfl sc__law_parting.nd (pi_range1 rfl m_range (pa_cons (pv 1) pa_nil)) (blkOk_by (own := [("_law_a", 3)]) (N := N__law_parting) (sc := defScope s__law_parting) (by decide +kernel)) (fun _ _ _ _ _ => (pg_name (i := 3) sc__law_parting.nd rfl (by first | exact Or.inl rfl | exact Or.inr rfl))) (fun _ _ _ _ _ => (pts_one (pt_cmpR (show OpR _ _ (rIn K true) from op_notIn_seq) (pe_ix (show IxR _ (rIxL K) from ix_list) (pv 0) (pv 3) (fun _ _ => rfl)) (pe_slice (show SlR _ (rSlL K) from sl_list) (pv 0) po_none (po_some (pv 3))) (by with_unfolding_all rfl)))) (fun _ _ _ _ _ => (pe_lc (own := [("_law_b", 2)]) (g := gName 2) rfl sc__law_parting.nd (pi_range1 rfl m_range (pa_cons (pv 1) pa_nil)) (blkOk_by (own := [("_law_b", 2)]) (N := N__law_parting) (sc := scP) (by decide +kernel)) (fun _ _ _ _ _ => (pg_name (i := 2) sc__law_parting.nd rfl (by first | exact Or.inl rfl | exact Or.inr rfl))) (fun _ _ _ _ _ => (pts_one (pt_cmpR op_eq (pe_ix (show IxR _ (rIxL K) from ix_list) (pv 0) (pv 2) (fun _ _ => rfl)) (pe_ix (show IxR _ (rIxL K) from ix_list) (pv 0) (pv 3) (fun _ _ => rfl)) (nomark _)))) (fun _ _ _ _ _ => (pv 2)))))))), ?_⟩
    have il : (ints_ hs).length = n := by unfold ints_; rw [List.length_map, hl]
    have hat0 : ∀ {j : Nat}, j < n → atI (ints_ hs) (0 + ((j : Nat) : Int)) = some (.int (hsAt hs j : Nat)) := fun h => by rw [Int.zero_add]; exact atI_nat (ints_at (by rw [hl]; exact h))
    refine ⟨_, rfl, h, _, rfl, .inl (.inl (.inl hh)), ?_⟩
    rw [il]
    refine ⟨_, rfl, _, rfl, by omega, by omega, fun D hD => lc_range (lo := 0) (n := n) (fun a H2 => Same H H2 ∧ ∃ us, H2 D = some (.lst (us.map V.ref)) ∧ LAt H2 us (((List.range a).filter fun a => !decide (hsAt hs a ∈ hs.take a)).map fun a => ownF n hs a) ∧ us.length ≤ a ∧ ∀ t ∈ us, H t = none ∧ t ≠ D) ⟨same_new (Same.refl H) hD, [], upd_same, .nil, Nat.le_refl _, fun _ h => nomatch h⟩ (fun a H2 ha pv => ?_) (fun H2 pv => ?_)⟩
    · obtain ⟨e2, us, hD2, tU, ul, un⟩ := pv
      refine ⟨rfl, _, rfl, _, rfl, h, _, _, _, rfl, rfl, .inl (.inl (e2 _ _ hh)), hat0 ha, _, rfl, _, rfl, _, rfl, h, _, rfl, .inl (.inl (e2 _ _ hh)), fun p np => ?_⟩
      rw [Int.zero_add, cut_take (by omega)]
      have sp := same_new (o := .lst (ints_ (hs.take a))) (Same.refl H2) np
      have z : inV (.int (hsAt hs a : Nat)) (ints_ (hs.take a)) = decide (hsAt hs a ∈ hs.take a) := inV_ints _ _
      refine ⟨p, _, rfl, .inl (.inl (.inl upd_same)), rfl, flat_ints _, _, rfl, ?_⟩
      have e3 := e2.trans sp
      have hD3 := sp _ _ hD2
      have tU3 := tU.same sp
      generalize upd H2 p (.lst (ints_ (hs.take a))) = H3 at sp e3 hD3 tU3 ⊢
      have ft : (List.range (a + 1)).filter (fun a => !decide (hsAt hs a ∈ hs.take a)) = (List.range a).filter (fun a => !decide (hsAt hs a ∈ hs.take a)) ++ (if (!decide (hsAt hs a ∈ hs.take a)) = true then [a] else []) := by
        rw [List.range_succ, List.filter_append, List.filter_cons, List.filter_nil]
      refine ite2 (fun d => ?_) (fun d => ?_)
      · have d : (!inV (.int (hsAt hs a : Nat)) (ints_ (hs.take a))) = true := d
        rw [z] at d
        refine lc_pkR (n := n) (p := fun b => decide (hsAt hs b = hsAt hs a)) (fun R r => ⟨_, rfl, r⟩) (by omega) (fun _ => rfl) (fun _ => rfl) (fun j H4 hj e4 R hR => ?_) (fun D2 H4 nD2 e4 hD4 => ?_)
        · refine ⟨_, rfl, _, rfl, h, _, _, _, rfl, rfl, .inl (.inl ((e3.trans e4) _ _ hh)), hat0 hj, _, rfl, _, rfl, h, _, _, _, rfl, rfl, .inl (.inl ((e3.trans e4) _ _ hh)), atI_nat (ints_at (by rw [hl]; exact ha)), rfl, _, rfl, ?_⟩
          rw [dVn]
          exact hR _ (Same.refl _)
        · have hD5 := e4 _ _ hD3
          have nDD : D2 ≠ D := (ne_of_none hD3 nD2).symm
          refine ⟨_, hD5, by rw [List.length_map]; exact small1000 (by omega), fun b o hb => ?_, us ++ [D2], by rw [upd_same, List.map_append]; rfl, ?_, by rw [List.length_append, List.length_singleton]; omega, fun t ht => ?_⟩
          · rw [upd_ne (ne_of_none hb hD)]
            exact (e3.trans e4) _ _ hb
          · rw [ft, if_pos d, List.map_append]
            refine LAt.snoc (by rw [upd_ne nDD]; exact hD4) ((tU3.same e4).monoM fun b hb l h => ?_)
            rw [upd_ne (un b hb).2]
            exact h
          · rcases List.mem_append.mp ht with h | h
            · exact un t h
            · rw [List.mem_singleton.mp h]
              exact ⟨e3.free nD2, nDD⟩
      · have d : ¬ (!inV (.int (hsAt hs a : Nat)) (ints_ (hs.take a))) = true := d
        rw [z] at d
        refine ⟨e3, us, hD3, ?_, by omega, un⟩
        rw [ft, if_neg d, List.append_nil]
        exact tU3
    · obtain ⟨e2, us, hD2, tU, ul, un⟩ := pv
      exact q H2 D us e2 hD hD2 tU fun t ht => (un t ht).1
end
end K7
end
/-! ## P40 -/
section
open PySem PySem.Spec PyProof.Rows L2
namespace K7
abbrev N__law_state : List Str := ["_law_hand_here", "_law_n", "_law_step", "_law_names", "_law_k", "_law_many", "_law_hands", "_law_rows", "_law_b", "_law_a", "_law_row", "_law_words"]
abbrev s__law_state : Stmt := topS 62
theorem sc__law_state : FnScope ["_law_hand_here", "_law_n", "_law_step", "_law_names", "_law_k", "_law_many", "_law_hands", "_law_rows", "_law_b", "_law_a", "_law_row", "_law_words"] ["_law_hand_here", "_law_n"] (defScope s__law_state) := ⟨rfl, rfl, rfl, by decide +kernel, rfl, by decide +kernel, by decide +kernel⟩
theorem Stay.put {h c W : Addr} {H H' : Hp} {o : HO} (x : Stay h c H H') (n : H W = none) : Stay h c H (upd H' W o) := by
  obtain ⟨n1, n2⟩ := x.hand0.ne n
  refine ⟨fun b z nb hb => ?_, x.hand0, x.hand.upd n1 n2⟩
  rw [upd_ne (ne_of_none hb n)]
  exact x.but b z nb hb
/-- a row of the table so far -/
structure RowOk (n : Nat) (hs : List Nat) (x : Nat) (row : List Nat) (j : Nat) : Prop where
  len : row.length = j
  at_ : ∀ y, y < j → (y = x → row.getD y 0 = 0) ∧ (y ≠ x → hsAt hs x = hsAt hs y → row.getD y 0 = 0 ∨ 3 ≤ row.getD y 0) ∧ (y ≠ x → hsAt hs x ≠ hsAt hs y → row.getD y 0 < 3)
theorem RowOk.snoc {n x j k : Nat} {hs row : List Nat} (r : RowOk n hs x row j) (h : (j = x → k = 0) ∧ (j ≠ x → hsAt hs x = hsAt hs j → k = 0 ∨ 3 ≤ k) ∧ (j ≠ x → hsAt hs x ≠ hsAt hs j → k < 3)) : RowOk n hs x (row ++ [k]) (j + 1) := by
  refine ⟨by rw [List.length_append, r.len]; rfl, fun y hy => ?_⟩
  by_cases e : y = j
  · subst e
    have g : (row ++ [k]).getD y 0 = k := by
      rw [List.getD_eq_getElem?_getD, List.getElem?_append_right (by rw [r.len]; exact Nat.le_refl _), r.len, Nat.sub_self]
      rfl
    rw [g]
    exact h
  · have g : (row ++ [k]).getD y 0 = row.getD y 0 := by
      rw [List.getD_eq_getElem?_getD, List.getD_eq_getElem?_getD, List.getElem?_append_left (by rw [r.len]; omega)]
    rw [g]
    exact r.at_ y (by omega)
theorem rows_tab {n : Nat} {hs : List Nat} {tab : List (List Nat)} (hl : hs.length = n) (hm : ∀ x ∈ hs, x ≤ 10 ^ 30) (tl : tab.length = n) (h : ∀ (x : Nat) (row : List Nat), tab[x]? = some row → RowOk n hs x row n) : StTab n hs tab := by
  have tat : ∀ x, x < n → ∃ row, tab[x]? = some row ∧ tab.getD x [] = row ∧ RowOk n hs x row n := fun x hx => by
    obtain ⟨row, hr⟩ : ∃ row, tab[x]? = some row := ⟨_, List.getElem?_eq_getElem (by rw [tl]; exact hx)⟩
    exact ⟨row, hr, by rw [List.getD_eq_getElem?_getD, hr]; rfl, h x row hr⟩
  refine ⟨hl, hm, tl, fun r hr => ?_, fun i r hr => ?_, fun x y hx hy ne d => ?_, fun x y hx hy ne e => ?_⟩
  · obtain ⟨i, hi, e⟩ := List.getElem_of_mem hr
    exact (h i r (by rw [List.getElem?_eq_getElem hi, e])).len
  · have hi : i < n := by rw [← tl]; exact (List.getElem?_eq_some_iff.mp hr).1
    have z := ((h i r hr).at_ i hi).1 rfl
    rw [List.getD_eq_getElem?_getD, List.getElem?_eq_getElem (by rw [(h i r hr).len]; exact hi)] at z
    rw [List.getElem?_eq_getElem (by rw [(h i r hr).len]; exact hi)]
    exact congrArg some z
  · obtain ⟨row, h1, h2, h3⟩ := tat x hx
    unfold tabAt
    rw [h2]
    exact ((h3.at_ y hy).2.2 (Ne.symm ne)) d
  · obtain ⟨row, h1, h2, h3⟩ := tat x hx
    unfold tabAt
    rw [h2]
    exact ((h3.at_ y hy).2.1 (Ne.symm ne)) e
/-- rows of words, lists, none of them at R -/
inductive RLt (R : Addr) (H : Hp) : List Addr → List (List Nat) → Prop
  | nil : RLt R H [] []
  | cons {r : Addr} {row : List Nat} {rs : List Addr} {tab : List (List Nat)} : H r = some (.lst (wds row)) → r ≠ R → RLt R H rs tab → RLt R H (r :: rs) (row :: tab)
theorem RLt.mono {R : Addr} {H H' : Hp} {rs : List Addr} {tab : List (List Nat)} (h : RLt R H rs tab) (i : ∀ b (row : List Nat), b ≠ R → H b = some (.lst (wds row)) → H' b = some (.lst (wds row))) : RLt R H' rs tab := by
  induction h with
  | nil => exact .nil
  | cons h n _ ih => exact .cons (i _ _ n h) n ih
theorem RLt.append {R : Addr} {H : Hp} {us vs : List Addr} {xs ys : List (List Nat)} (h : RLt R H us xs) (h' : RLt R H vs ys) : RLt R H (us ++ vs) (xs ++ ys) := by
  induction h with
  | nil => exact h'
  | cons h n _ ih => exact .cons h n ih
theorem RLt.rat {R : Addr} {H : Hp} {rs : List Addr} {tab : List (List Nat)} (h : RLt R H rs tab) : RAt H rs tab := by
  induction h with
  | nil => exact .nil
  | cons h _ _ ih => exact .cons (.inr h) ih
theorem RLt.len {R : Addr} {H : Hp} {rs : List Addr} {tab : List (List Nat)} (h : RLt R H rs tab) : rs.length = tab.length := by
  induction h with
  | nil => rfl
  | cons _ _ _ ih => rw [List.length_cons, List.length_cons, ih]
theorem wds_strs (row : List Nat) : wds row = (row.map wd).map V.str := by unfold wds; rw [List.map_map]; rfl
theorem Stay.wds {h c b : Addr} {H H' : Hp} {row : List Nat} (x : Stay h c H H') (hb : H b = some (.lst (wds row))) : H' b = some (.lst (K7.wds row)) := by
  rw [wds_strs] at hb ⊢
  exact x.row hb

/-! ### any lawful state -/
section
variable {P : Program} {w : World} {K : PySem.W.Frag} {mg : Str → Option Value} {base : Heap}
def nmsF (s : Nat) : List Nat := [0, s, 2 * s, 3 * s]
/-- hands and rows as the law draws them -/
structure LsO (H H' : Hp) (n : Nat) (th tt tn : Addr) (hs : List Nat) (rs : List Addr) (tab : List (List Nat)) (s : Nat) : Prop where
  fh : H th = none
  fn : H tn = none
  ht : H' th = some (.lst (ints_ hs))
  tt_ : H' tt = some (.lst (rs.map V.ref))
  rl : RLt tt H' rs tab
  st : StTab n hs tab
  nt : H' tn = some (.lst (ints_ (nmsF s)))
  s1 : 1 ≤ s
  s2 : s ≤ 10 ^ 29
  nm : ∀ x ∈ hs, x ∈ nmsF s
def spLs : Sp := fun vs H Q _ => ∃ (h c : Addr) (n : Nat), vs = [.ref h, .int (n : Nat)] ∧ Hand H h c ∧ 2 ≤ n ∧ n ≤ 5 ∧ ∀ H' u th tt tn hs rs tab s, Stay h c H H' → H u = none → H' u = some (.tup [.ref th, .ref tt, .ref tn]) → LsO H H' n th tt tn hs rs tab s → Q (.ref u) H'
theorem ok_ls {f fpk fdr : Addr} {fd fdpk fddr : FuncData} (F : Fun K "_law_state" "_law_state" s__law_state f fd)
    (Gpk : FnOk P w K mg base CX0 3 fpk fdpk ["_law_hand_here", "_law_things"] spPick) (gpk : mg "_law_pick" = some (.ref fpk)) (kpk : PySem.W.keepIn K (.ref fpk) = true) (bpk : Binds K fdpk ["_law_hand_here", "_law_things"] [])
    (Gdr : FnOk P w K mg base CX0 2 fdr fddr ["_law_hand_here", "_law_many"] spDraw) (gdr : mg "_law_draw" = some (.ref fdr)) (kdr : PySem.W.keepIn K (.ref fdr) = true) (bdr : Binds K fddr ["_law_hand_here", "_law_many"] [])
    (m_range : mg "range" = none) : FnOk P w K mg base CX0 4 f fd ["_law_hand_here", "_law_n"] spLs := by
  refine F.ok sc__law_state (fun vs H Q E h => ?_) (fun cdv A outer s H vs Q E hr h => ?_)
  · obtain ⟨h, c, n, rfl, _⟩ := h
    rfl
  · obtain ⟨h, c, n, rfl, hh, n2, n5, q⟩ := h
    refine ⟨_, (Evl.pss_cut (ps_set (i := 2) sc__law_state.nd rfl (by first | exact Or.inl rfl | exact Or.inr rfl) (pe_ifExp (pt_cmpR op_gt (pe_call Gdr (hr.mono (by decide)) (by rfl) gdr kdr bdr .nil pass0 (pa_cons (pv 0) (pa_cons pe_int pa_nil))) pe_int (nomark _)) pe_int (pe_op op_add pe_int (pe_call Gdr (hr.mono (by decide)) (by rfl) gdr kdr bdr .nil pass0 (pa_cons (pv 0) (pa_cons (pe_op op_pow pe_int pe_int) pa_nil))))))
 (pss_cons (ps_set (i := 3) sc__law_state.nd rfl (by first | exact Or.inl rfl | exact Or.inr rfl) (pe_lc (own := [("_law_k", 4)]) (g := gName 4) (tt := tYes) rfl sc__law_state.nd (pi_range1 rfl m_range (pa_cons pe_int pa_nil)) (blkOk_by (own := [("_law_k", 4)]) (N := N__law_state) (sc := defScope s__law_state) (by decide +kernel)) (fun _ _ _ _ _ => (pg_name (i := 4) sc__law_state.nd rfl (by first | exact Or.inl rfl | exact Or.inr rfl))) (fun _ _ _ _ _ => pts_nil) (fun _ _ _ _ _ => (pe_op op_mul (pv 4) (pv 2)))))
 (pss_cons (ps_set (i := 5) sc__law_state.nd rfl (by first | exact Or.inl rfl | exact Or.inr rfl) (pe_call Gpk (hr.mono (by decide)) (by rfl) gpk kpk bpk .nil pass0 (pa_cons (pv 0) (pa_cons (pe_lst (pa_cons pe_int (pa_cons pe_int (pa_cons pe_int (pa_cons pe_int pa_nil))))) pa_nil))))
 (Evl.pss_cut (ps_par (by rfl) sc__law_state.nd (i := 6) (j := 7) rfl rfl (by decide) rfl rfl (pa_cons (pe_lc (own := [("_law_b", 8)]) (g := gName 8) (tt := tYes) rfl sc__law_state.nd (pi_range1 rfl m_range (pa_cons (pv 1) pa_nil)) (blkOk_by (own := [("_law_b", 8)]) (N := N__law_state) (sc := defScope s__law_state) (by decide +kernel)) (fun _ _ _ _ _ => (pg_name (i := 8) sc__law_state.nd rfl (by first | exact Or.inl rfl | exact Or.inr rfl))) (fun _ _ _ _ _ => pts_nil) (fun _ _ _ _ _ => (pe_ix (show IxR _ (rIxL K) from ix_list) (pv 3) (pe_call Gdr (hr.mono (by decide)) (by rfl) gdr kdr bdr .nil pass0 (pa_cons (pv 0) (pa_cons (pv 5) pa_nil))) (fun _ _ => rfl)))) (pa_cons (pe_lst pa_nil) pa_nil)) (by rfl))
 (pss_cons (ps_for PassesOwn.never rfl (pi_range1 rfl m_range (pa_cons (pv 1) pa_nil)) (pg_name (i := 9) sc__law_state.nd rfl (by first | exact Or.inl rfl | exact Or.inr rfl))
  (pss_cons (ps_set (i := 10) sc__law_state.nd rfl (by first | exact Or.inl rfl | exact Or.inr rfl) (pe_lst pa_nil))
 (pss_cons (ps_for PassesOwn.never rfl (pi_range1 rfl m_range (pa_cons (pv 1) pa_nil)) (pg_name (i := 8) sc__law_state.nd rfl (by first | exact Or.inl rfl | exact Or.inr rfl))
  (pss_cons (ps_set (i := 11) sc__law_state.nd rfl (by first | exact Or.inl rfl | exact Or.inr rfl) (pe_ifExp (pt_cmpR op_eq (pe_ix ix_list (pv 6) (pv 9) (fun _ _ => rfl)) (pe_ix ix_list (pv 6) (pv 8) (fun _ _ => rfl)) (nomark _)) (pe_lst (pa_cons pe_str (pa_cons pe_str pa_nil))) (pe_lst (pa_cons pe_str (pa_cons pe_str (pa_cons pe_str pa_nil))))))
 (pss_one (ps_expr (pe_bm PySem.F.plainAttrs_list PySem.F.slot_list_append PySem.F.type_list_append mt_append (pv 10) (pa_cons (pe_ifExp (pt_cmpR op_eq (pv 9) (pv 8) (nomark _)) pe_str (pe_call Gpk (hr.mono (by decide)) (by rfl) gpk kpk bpk .nil pass0 (pa_cons (pv 0) (pa_cons (pv 11) pa_nil)))) pa_nil))))))
 (pss_one (ps_expr (pe_bm PySem.F.plainAttrs_list PySem.F.slot_list_append PySem.F.type_list_append mt_append (pv 7) (pa_cons (pv 10) pa_nil)))))))
 (pss_one (ps_ret (pe_tup (pa_cons (pv 6) (pa_cons (pv 7) (pa_cons (pv 3) pa_nil))))))))))), ?_⟩
    have big : (10 : Int) ^ (29 : Int).toNat = 10 ^ 29 := by decide
    refine ⟨fun σ' H1 => ∃ s : Nat, σ' = [some (.ref h), some (.int (n : Nat)), some (.int (s : Nat)), none, none, none, none, none, none, none, none, none] ∧ Stay h c H H1 ∧ 1 ≤ s ∧ s ≤ 10 ^ 29, ?_, ?_⟩
    · refine ⟨_, rfl, h, c, 3, rfl, hh, by decide, by decide, fun H1 r d1 r0 r1 => ⟨_, _, rfl, rfl, _, rfl, ite2 (fun c1 => ?_) (fun c1 => ?_)⟩⟩
      · exact ⟨1, rfl, Stay.of_drawn hh d1, by decide, by decide⟩
      · refine ⟨_, rfl, _, _, rfl, rfl, ⟨by decide, by decide, by decide⟩, h, c, _, rfl, d1.hand, by decide, by decide, fun H2 r2 d2 z0 z1 => ⟨_, _, rfl, rfl, ?_⟩⟩
        rw [big] at z1
        obtain ⟨m, rfl⟩ : ∃ m : Nat, r2 = (m : Nat) := ⟨r2.toNat, by omega⟩
        refine ⟨m + 1, ?_, (Stay.of_drawn hh d1).drawn d2, by omega, by omega⟩
        show [some (V.ref h), some (.int (n : Nat)), some (.int (1 + (m : Nat))), none, none, none, none, none, none, none, none, none] = _
        rw [show (1 : Int) + (m : Nat) = ((m + 1 : Nat) : Int) by omega]
    rintro σ1 H1 ⟨s, rfl, st1, s1, s2⟩
    have s4 : ∀ j : Nat, j < 4 → ((0 : Int) + (j : Nat)) * (s : Nat) = (((j * s : Nat)) : Int) := fun j _ => by rw [Int.zero_add, Int.natCast_mul]
    -- the names
    refine ⟨_, rfl, by decide, by decide, fun D hD => lc_range (lo := 0) (n := 4) (fun j H2 => Same H1 H2 ∧ H2 D = some (.lst (ints_ ((List.range j).map fun k => k * s)))) ⟨same_new (Same.refl _) hD, upd_same⟩ (fun j H2 hj pv => ?_) (fun H2 pv => ?_)⟩
    · obtain ⟨e2, hD2⟩ := pv
      refine ⟨rfl, _, rfl, _, rfl, _, _, rfl, rfl, .inl ⟨by omega, by omega⟩, _, hD2, by unfold ints_; rw [List.length_map, List.length_map, List.length_range]; exact small1000 (by omega), fun b o hb => ?_, ?_⟩
      · rw [upd_ne (ne_of_none hb hD)]
        exact e2 _ _ hb
      · rw [upd_same]
        show some (HO.lst (ints_ ((List.range j).map fun k => k * s) ++ [.int ((0 + (j : Nat)) * (s : Nat))])) = _
        rw [s4 j hj, List.range_succ, List.map_append, ← ints_snoc]
        rfl
    obtain ⟨e2, hD2⟩ := pv
    have hN : H2 D = some (.lst (ints_ (nmsF s))) := by
      rw [hD2]
      have : ((List.range 4).map fun k => k * s) = nmsF s := by
        show [0 * s, 1 * s, 2 * s, 3 * s] = [0, s, 2 * s, 3 * s]
        rw [Nat.zero_mul, Nat.one_mul]
      rw [this]
    have nD0 : H D = none := st1.free hD
    have st2 := st1.same e2
    -- how many
    refine ⟨_, rfl, by show 4 ≤ sizeLine; decide, fun pm nm => ?_⟩
    have e3 := al (o := .lst [.int 1, .int 2, .int 3, .int 4]) nm
    have hN3 := e3 _ _ hN
    have hm3 : upd H2 pm (.lst [.int 1, .int 2, .int 3, .int 4]) pm = some (.lst [.int 1, .int 2, .int 3, .int 4]) := upd_same
    have nmh := (st2.hand.ne nm).1
    have st3 := st2.same e3
    generalize upd H2 pm (.lst [.int 1, .int 2, .int 3, .int 4]) = H3 at e3 hN3 hm3 st3 ⊢
    refine ⟨h, c, pm, _, rfl, st3.hand, nmh, hm3, by decide, by decide, fun H4 j v d4 hv => ?_⟩
    obtain ⟨many, rfl, m1, m4⟩ : ∃ m : Int, v = .int m ∧ 1 ≤ m ∧ m ≤ 4 := by
      have mm := List.mem_of_getElem? hv
      simp only [List.mem_cons, List.not_mem_nil, or_false] at mm
      rcases mm with rfl | rfl | rfl | rfl <;> exact ⟨_, rfl, by decide, by decide⟩
    have st4 := st3.drawn d4
    have hN4 := (Stay.of_drawn st3.hand d4).lst hN3 (notHand_ints _)
    -- the hands
    refine ⟨fun σ' H5 => ∃ (th tt : Addr) (hs : List Nat), σ' = [some (.ref h), some (.int (n : Nat)), some (.int (s : Nat)), some (.ref D), none, some (.int many), some (.ref th), some (.ref tt), none, none, none, none] ∧ Stay h c H H5 ∧ H th = none ∧ H tt = none ∧ th ≠ tt ∧ D ≠ tt ∧ H5 th = some (.lst (ints_ hs)) ∧ H5 tt = some (.lst []) ∧ H5 D = some (.lst (ints_ (nmsF s))) ∧ hs.length = n ∧ (∀ x ∈ hs, x ∈ nmsF s), ?_, ?_⟩
    · refine ⟨_, rfl, _, rfl, by omega, by omega, fun T hT => lc_range (lo := 0) (n := n) (fun i H5 => ∃ hs : List Nat, Stay h c H H5 ∧ H5 D = some (.lst (ints_ (nmsF s))) ∧ H5 T = some (.lst (ints_ hs)) ∧ hs.length = i ∧ (∀ x ∈ hs, x ∈ nmsF s) ∧ H T = none ∧ T ≠ D) ⟨[], st4.same (al hT), al hT _ _ hN4, upd_same, rfl, (fun x h => nomatch h), st4.free hT, fun e => by rw [e, hN4] at hT; cases hT⟩ (fun i H5 hi pv => ?_) (fun H5 pv => ?_)⟩
      · obtain ⟨hs, st5, hN5, hT5, hl, hm, nT0, nTD⟩ := pv
        refine ⟨rfl, _, rfl, _, rfl, _, rfl, h, c, many, rfl, st5.hand, by omega, by omega, fun H6 r d6 r0 r1 => ?_⟩
        obtain ⟨k, rfl⟩ : ∃ k : Nat, r = (k : Nat) := ⟨r.toNat, by omega⟩
        have hk : k < 4 := by omega
        have st6 := Stay.of_drawn st5.hand d6
        have hN6 := st6.lst hN5 (notHand_ints _)
        have hT6 := st6.lst hT5 (notHand_ints _)
        have mem : hsAt (nmsF s) k ∈ nmsF s := by
          unfold hsAt
          rw [List.getD_eq_getElem?_getD, List.getElem?_eq_getElem (show k < (nmsF s).length from hk)]
          exact List.getElem_mem _
        refine ⟨D, _, _, _, rfl, rfl, .inl (.inl hN6), atI_nat (ints_at (show k < (nmsF s).length from hk)), ?_⟩
        refine ⟨_, hT6, by unfold ints_; rw [List.length_map]; exact small1000 (by omega), hs ++ [hsAt (nmsF s) k], (st5.trans st6).put nT0, by rw [upd_ne nTD.symm]; exact hN6, by rw [upd_same, ints_snoc], by rw [List.length_append, hl]; rfl, fun y hy => ?_, nT0, nTD⟩
        rcases List.mem_append.mp hy with hy | hy
        · exact hm y hy
        · rw [List.mem_singleton.mp hy]
          exact mem
      · obtain ⟨hs, st5, hN5, hT5, hl, hm, nT0, nTD⟩ := pv
        refine ⟨by show 0 ≤ sizeLine; decide, fun R nR => ?_⟩
        have e6 := al (o := .lst []) nR
        exact ⟨_, _, rfl, T, R, hs, rfl, st5.same e6, nT0, st5.free nR, ne_of_none hT5 nR, ne_of_none hN5 nR, e6 _ _ hT5, upd_same, e6 _ _ hN5, hl, hm⟩
    rintro σ1 H5 ⟨th, tt, hs, rfl, st5, fh, ft, nht, nDt, hth, htt, hN5, hl, hnm⟩
    have hm : ∀ x ∈ hs, x ≤ 10 ^ 30 := fun x hx => by
      have z := hnm x hx
      unfold nmsF at z
      simp only [List.mem_cons, List.not_mem_nil, or_false] at z
      rcases z with rfl | rfl | rfl | rfl <;> omega
    have il : (ints_ hs).length = n := by unfold ints_; rw [List.length_map, hl]
    have hat : ∀ c, c < n → atI (ints_ hs) (0 + ((c : Nat) : Int)) = some (.int (hsAt hs c : Nat)) := fun c h => by
      rw [Int.zero_add]
      exact atI_nat (ints_at (by rw [hl]; exact h))
    refine ⟨_, rfl, _, rfl, by omega, by omega, for_range (lo := 0) (n := n) (fun i σ H' => i ≤ n ∧ ∃ rs tab y8 y9 y10 y11, σ = [some (.ref h), some (.int (n : Nat)), some (.int (s : Nat)), some (.ref D), none, some (.int many), some (.ref th), some (.ref tt), y8, y9, y10, y11] ∧ Stay h c H H' ∧ H' D = some (.lst (ints_ (nmsF s))) ∧ H' th = some (.lst (ints_ hs)) ∧ H' tt = some (.lst (rs.map V.ref)) ∧ RLt tt H' rs tab ∧ tab.length = i ∧ ∀ (x : Nat) (row : List Nat), tab[x]? = some row → RowOk n hs x row n)
      ⟨Nat.zero_le _, [], [], none, none, none, none, rfl, st5, hN5, hth, htt, .nil, rfl, fun x row h => nomatch h⟩ (fun i σ H' hi pv => ?_) (fun σ H' pv => ?_)⟩
    · obtain ⟨_, rs, tab, y8, y9, y10, y11, rfl, st, hN, hT, hR, tR, tl, ok⟩ := pv
      refine ⟨by show 0 ≤ sizeLine; decide, fun W nW => ?_⟩
      have nW0 := st.free nW
      have nWR : W ≠ tt := fun e => by rw [e, hR] at nW; cases nW
      have st2 := st.same (al (o := .lst []) nW)
      have hW2 : upd H' W (.lst []) W = some (.lst (wds [])) := upd_same
      have hR2 := al (o := .lst []) nW _ _ hR
      have hN2 := al (o := .lst []) nW _ _ hN
      have hT2 := al (o := .lst []) nW _ _ hT
      have nWN : W ≠ D := (ne_of_none hN nW).symm
      have nWT : W ≠ th := (ne_of_none hT nW).symm
      have tR2 := tR.mono (H' := upd H' W (.lst [])) fun b row nb hb => al (o := .lst []) nW _ _ hb
      have nrW : ∀ r ∈ rs, r ≠ W := by
        have : ∀ {rs : List Addr} {tab : List (List Nat)}, RLt tt H' rs tab → ∀ r ∈ rs, r ≠ W := fun {rs tab} t => by
          induction t with
          | nil => exact fun r hr => nomatch hr
          | cons h _ _ ih =>
            intro r hr
            rcases List.mem_cons.mp hr with rfl | hr
            · exact ne_of_none h nW
            · exact ih r hr
        exact this tR
      generalize upd H' W (.lst []) = H2 at st2 hW2 hR2 tR2 hN2 hT2 ⊢
      refine ⟨_, rfl, _, rfl, by omega, by omega, for_range (lo := 0) (n := n) (fun j σ H3 => j ≤ n ∧ ∃ row y8 y11, σ = [some (.ref h), some (.int (n : Nat)), some (.int (s : Nat)), some (.ref D), none, some (.int many), some (.ref th), some (.ref tt), y8, some (.int (0 + (i : Nat))), some (.ref W), y11] ∧ Stay h c H H3 ∧ H3 D = some (.lst (ints_ (nmsF s))) ∧ H3 th = some (.lst (ints_ hs)) ∧ H3 tt = some (.lst (rs.map V.ref)) ∧ RLt tt H3 rs tab ∧ H3 W = some (.lst (wds row)) ∧ RowOk n hs i row j)
        ⟨Nat.zero_le _, [], y8, y11, rfl, st2, hN2, hT2, hR2, tR2, hW2, ⟨rfl, fun y hy => absurd hy (Nat.not_lt_zero _)⟩⟩ (fun j σ H3 hj pv => ?_) (fun σ H3 pv => ?_)⟩
      · obtain ⟨_, row, y8, y11, rfl, st3, hN3, ht3, hR3, tR3, hW3, ro⟩ := pv
        have wl : (wds row).length ≤ 1000 := by unfold wds; rw [List.length_map, ro.len]; omega
        have fin : ∀ (H5 : Hp) (u6 : Option V) (k : Nat), Stay h c H H5 → H5 D = some (.lst (ints_ (nmsF s))) → H5 th = some (.lst (ints_ hs)) → H5 tt = some (.lst (rs.map V.ref)) → RLt tt H5 rs tab → H5 W = some (.lst (wds row)) → ((j = i → k = 0) ∧ (j ≠ i → hsAt hs i = hsAt hs j → k = 0 ∨ 3 ≤ k) ∧ (j ≠ i → hsAt hs i ≠ hsAt hs j → k < 3)) →
            (j + 1 ≤ n ∧ ∃ row' y8 y11, [some (V.ref h), some (.int (n : Nat)), some (.int (s : Nat)), some (.ref D), none, some (.int many), some (.ref th), some (.ref tt), some (.int (0 + (j : Nat))), some (.int (0 + (i : Nat))), some (.ref W), u6] = [some (.ref h), some (.int (n : Nat)), some (.int (s : Nat)), some (.ref D), none, some (.int many), some (.ref th), some (.ref tt), y8, some (.int (0 + (i : Nat))), some (.ref W), y11] ∧ Stay h c H (upd H5 W (.lst (wds row ++ [.str (wd k)]))) ∧ upd H5 W (.lst (wds row ++ [.str (wd k)])) D = some (.lst (ints_ (nmsF s))) ∧ upd H5 W (.lst (wds row ++ [.str (wd k)])) th = some (.lst (ints_ hs)) ∧ upd H5 W (.lst (wds row ++ [.str (wd k)])) tt = some (.lst (rs.map V.ref)) ∧ RLt tt (upd H5 W (.lst (wds row ++ [.str (wd k)]))) rs tab ∧ upd H5 W (.lst (wds row ++ [.str (wd k)])) W = some (.lst (wds row')) ∧ RowOk n hs i row' (j + 1)) := fun H5 u6 k st5 hN5 hT5 hR5 tR5 hW5 hk => by
          refine ⟨hj, row ++ [k], _, _, rfl, st5.put nW0, by rw [upd_ne nWN.symm]; exact hN5, by rw [upd_ne nWT.symm]; exact hT5, by rw [upd_ne nWR.symm]; exact hR5, ?_, by rw [upd_same, wds_snoc], ro.snoc hk⟩
          have : ∀ {rs : List Addr} {tab : List (List Nat)}, (∀ r ∈ rs, r ≠ W) → RLt tt H5 rs tab → RLt tt (upd H5 W (.lst (wds row ++ [.str (wd k)]))) rs tab := fun {rs tab} hn t => by
            induction t with
            | nil => exact .nil
            | cons h n _ ih => exact .cons (by rw [upd_ne (hn _ (List.mem_cons_self ..))]; exact h) n (ih fun r hr => hn r (List.mem_cons_of_mem _ hr))
          exact this nrW tR5
        have dv : decide (V.int (hsAt hs i : Nat) = V.int (hsAt hs j : Nat)) = decide (hsAt hs i = hsAt hs j) := decide_eq_decide.mpr ⟨fun h => by injection h with h; omega, fun h => by rw [h]⟩
        have dij : decide (V.int (0 + (i : Nat)) = V.int (0 + (j : Nat))) = decide (i = j) := decide_eq_decide.mpr ⟨fun h => by injection h with h; omega, fun h => by rw [h]⟩
        refine ⟨_, rfl, _, rfl, th, _, _, _, rfl, rfl, .inl (.inl ht3), hat i hi, _, rfl, _, rfl, th, _, _, _, rfl, rfl, .inl (.inl ht3), hat j hj, rfl, _, rfl, ?_⟩
        rw [dv]
        by_cases he : hsAt hs i = hsAt hs j
        · rw [decide_eq_true he]
          refine iteT ⟨by show 2 ≤ sizeLine; decide, fun u nu => ?_⟩
          have e4 := al (o := .lst [.str "none", .str "asleep"]) nu
          have st4 := st3.same e4
          refine ⟨_, rfl, .inl ⟨rfl, _, .inl (.inl (e4 _ _ hW3))⟩, _, rfl, _, rfl, rfl, _, rfl, ?_⟩
          rw [dij]
          by_cases eij : i = j
          · rw [decide_eq_true eij]
            refine iteT ⟨W, _, _, rfl, rfl, e4 _ _ hW3, small1000 wl, ?_⟩
            exact fin _ _ 0 st4 (e4 _ _ hN3) (e4 _ _ ht3) (e4 _ _ hR3) (tR3.mono fun b row nb hb => e4 _ _ hb) (e4 _ _ hW3) ⟨fun _ => rfl, fun _ _ => .inl rfl, fun _ _ => by decide⟩
          · rw [decide_eq_false eij]
            refine iteF ⟨_, rfl, _, rfl, h, c, u, _, rfl, st4.hand, (st3.hand.ne nu).1, upd_same, by decide, by decide, fun H5 jj v d5 hv => ?_⟩
            have st5 := Stay.of_drawn st4.hand d5
            have hW5 := st5.wds (e4 _ _ hW3)
            obtain ⟨k, rfl, hk⟩ : ∃ k, v = .str (wd k) ∧ (k = 0 ∨ 3 ≤ k) := by
              have mm := List.mem_of_getElem? hv
              simp only [List.mem_cons, List.not_mem_nil, or_false] at mm
              rcases mm with rfl | rfl
              · exact ⟨0, rfl, .inl rfl⟩
              · exact ⟨3, rfl, .inr (by decide)⟩
            refine ⟨W, _, _, rfl, rfl, hW5, small1000 wl, ?_⟩
            exact fin _ _ k (st4.trans st5) (st5.lst (e4 _ _ hN3) (notHand_ints _)) (st5.lst (e4 _ _ ht3) (notHand_ints _)) (st5.lst (e4 _ _ hR3) (notHand_refs _)) ((tR3.mono fun b row nb hb => e4 _ _ hb).mono fun b row nb hb => st5.wds hb) hW5 ⟨fun e => absurd e.symm eij, fun _ _ => hk, fun _ d => absurd he d⟩
        · rw [decide_eq_false he]
          refine iteF ⟨by show 3 ≤ sizeLine; decide, fun u nu => ?_⟩
          have e4 := al (o := .lst [.str "none", .str "awake", .str "needed"]) nu
          have st4 := st3.same e4
          refine ⟨_, rfl, .inl ⟨rfl, _, .inl (.inl (e4 _ _ hW3))⟩, _, rfl, _, rfl, rfl, _, rfl, ?_⟩
          rw [dij]
          by_cases eij : i = j
          · rw [decide_eq_true eij]
            refine iteT ⟨W, _, _, rfl, rfl, e4 _ _ hW3, small1000 wl, ?_⟩
            exact fin _ _ 0 st4 (e4 _ _ hN3) (e4 _ _ ht3) (e4 _ _ hR3) (tR3.mono fun b row nb hb => e4 _ _ hb) (e4 _ _ hW3) ⟨fun _ => rfl, fun _ _ => .inl rfl, fun _ _ => by decide⟩
          · rw [decide_eq_false eij]
            refine iteF ⟨_, rfl, _, rfl, h, c, u, _, rfl, st4.hand, (st3.hand.ne nu).1, upd_same, by decide, by decide, fun H5 jj v d5 hv => ?_⟩
            have st5 := Stay.of_drawn st4.hand d5
            have hW5 := st5.wds (e4 _ _ hW3)
            obtain ⟨k, rfl, hk⟩ : ∃ k, v = .str (wd k) ∧ k < 3 := by
              have mm := List.mem_of_getElem? hv
              simp only [List.mem_cons, List.not_mem_nil, or_false] at mm
              rcases mm with rfl | rfl | rfl
              · exact ⟨0, rfl, by decide⟩
              · exact ⟨1, rfl, by decide⟩
              · exact ⟨2, rfl, by decide⟩
            refine ⟨W, _, _, rfl, rfl, hW5, small1000 wl, ?_⟩
            exact fin _ _ k (st4.trans st5) (st5.lst (e4 _ _ hN3) (notHand_ints _)) (st5.lst (e4 _ _ ht3) (notHand_ints _)) (st5.lst (e4 _ _ hR3) (notHand_refs _)) ((tR3.mono fun b row nb hb => e4 _ _ hb).mono fun b row nb hb => st5.wds hb) hW5 ⟨fun e => absurd e.symm eij, fun _ e => absurd e he, fun _ _ => hk⟩
      · obtain ⟨_, row, y8, y11, rfl, st3, hN3, ht3, hR3, tR3, hW3, ro⟩ := pv
        refine ⟨_, rfl, .inl ⟨rfl, _, .inl (.inl hR3)⟩, _, rfl, tt, _, _, rfl, rfl, hR3, by rw [List.length_map, tR3.len, tl]; exact small1000 (by omega), ?_⟩
        refine ⟨hi, rs ++ [W], tab ++ [row], _, _, _, _, rfl, st3.put ft, by rw [upd_ne nDt]; exact hN3, by rw [upd_ne nht]; exact ht3, by rw [upd_same, List.map_append]; rfl, ?_, by rw [List.length_append, tl]; rfl, fun x row' hx => ?_⟩
        · exact (tR3.mono fun b row nb hb => by rw [upd_ne nb]; exact hb).append (.cons (by rw [upd_ne nWR]; exact hW3) nWR .nil)
        · by_cases e : x < tab.length
          · rw [List.getElem?_append_left e] at hx
            exact ok x row' hx
          · rw [List.getElem?_append_right (by omega)] at hx
            have xe : x = i := by
              have := (List.getElem?_eq_some_iff.mp hx).1
              rw [List.length_singleton] at this
              omega
            subst xe
            rw [tl, Nat.sub_self] at hx
            obtain rfl := Option.some.inj hx
            exact ro
    · obtain ⟨_, rs, tab, y8, y9, y10, y11, rfl, st, hN, hT, hR, tR, tl, ok⟩ := pv
      have Sx := rows_tab hl hm tl ok
      refine ⟨_, rfl, _, rfl, _, rfl, by show 3 ≤ sizeLine; decide, fun u nu => ?_⟩
      have e7 := al (o := .tup [.ref th, .ref tt, .ref D]) nu
      exact q _ u th tt D hs rs tab s (st.same e7) (st.free nu) upd_same ⟨fh, nD0, e7 _ _ hT, e7 _ _ hR, tR.mono fun b row nb hb => e7 _ _ hb, Sx, e7 _ _ hN, s1, s2, hnm⟩
end
end K7
end
/-! ## P41 -/
section
open PySem PySem.Spec PyProof.Rows L2
namespace K7
abbrev N__law_said : List Str := ["_law_hand_here", "_law_hands", "_law_word", "_law_lots_here", "_law_place", "_law_other"]
abbrev s__law_said : Stmt := topS 65
theorem sc__law_said : FnScope ["_law_hand_here", "_law_hands", "_law_word", "_law_lots_here", "_law_place", "_law_other"] ["_law_hand_here", "_law_hands", "_law_word"] (defScope s__law_said) := ⟨rfl, rfl, rfl, by decide +kernel, rfl, by decide +kernel, by decide +kernel⟩
/-! ### a deed that says something -/
theorem Stay.sq {h c b : Addr} {H H' : Hp} {l : List Nat} (x : Stay h c H H') (hb : SqOf H b (ints_ l)) : SqOf H' b (ints_ l) := by
  rcases hb with hb | hb
  · exact .inl (x.tup hb)
  · exact .inr (x.lst hb (notHand_ints _))
theorem firsts_ne {n : Nat} {hs : List Nat} (hl : hs.length = n) {i j a b : Nat} (hi : (firstsF n hs)[i]? = some a) (hj : (firstsF n hs)[j]? = some b) (ne : i ≠ j) : hsAt hs a ≠ hsAt hs b := by
  have pw : (firstsF n hs).Pairwise (· < ·) := List.pairwise_lt_range.filter _
  have mem : ∀ {k x : Nat}, (firstsF n hs)[k]? = some x → x < n ∧ hsAt hs x ∉ hs.take x := fun hk => by
    have z := List.mem_filter.mp (List.mem_of_getElem? hk)
    refine ⟨List.mem_range.mp z.1, fun y => ?_⟩
    have w := z.2
    rw [decide_eq_true y] at w
    cases w
  have key : ∀ {x y : Nat}, x < y → y < n → hsAt hs y ∉ hs.take y → hsAt hs x ≠ hsAt hs y := fun {x y} h1 h2 h3 e => h3 (by
    rw [← e]
    unfold hsAt
    rw [List.getD_eq_getElem?_getD, List.getElem?_eq_getElem (by rw [hl]; omega)]
    refine List.mem_take_iff_getElem.mpr ⟨x, by omega, rfl⟩)
  obtain ⟨li, ei⟩ := List.getElem?_eq_some_iff.mp hi
  obtain ⟨lj, ej⟩ := List.getElem?_eq_some_iff.mp hj
  rcases Nat.lt_or_gt_of_ne ne with z | z
  · have q := List.pairwise_iff_getElem.mp pw i j li lj z
    rw [ei, ej] at q
    exact key q (mem hj).1 (mem hj).2
  · have q := List.pairwise_iff_getElem.mp pw j i lj li z
    rw [ei, ej] at q
    exact (key q (mem hi).1 (mem hi).2).symm
theorem own_ne {n : Nat} {hs : List Nat} {a : Nat} (h : a < n) : ownF n hs a ≠ [] := fun e => by
  have : a ∈ ownF n hs a := (own_mem h).mpr rfl
  rw [e] at this
  cases this
theorem sd_non {n : Nat} {hs cs ds : List Nat} {a b : Nat} (hc : ∀ x ∈ cs, x ∈ ownF n hs a) (hd : ∀ x ∈ ds, x ∈ ownF n hs b) (c0 : 0 < cs.length) (ne : hsAt hs a ≠ hsAt hs b) : sdV hs cs ds = .non := by
  have h1 : ∀ x ∈ cs, hsAt hs x = hsAt hs a := fun x hx => of_decide_eq_true (List.mem_filter.mp (hc x hx)).2
  have h2 : ∀ x ∈ ds, hsAt hs x = hsAt hs b := fun x hx => of_decide_eq_true (List.mem_filter.mp (hd x hx)).2
  have o1 : oneB hs cs = true := List.all_eq_true.mpr fun x hx => List.all_eq_true.mpr fun y hy => decide_eq_true (by rw [h1 x hx, h1 y hy])
  have o2 : oneB hs ds = true := List.all_eq_true.mpr fun x hx => List.all_eq_true.mpr fun y hy => decide_eq_true (by rw [h2 x hx, h2 y hy])
  have al : alikeB hs cs ds = false := by
    refine Bool.eq_false_iff.mpr fun z => ?_
    unfold alikeB at z
    rw [Bool.and_eq_true] at z
    obtain ⟨x, hx⟩ := List.exists_mem_of_length_pos c0
    obtain ⟨y, hy, w⟩ := List.any_eq_true.mp (List.all_eq_true.mp z.1 x hx)
    have w := of_decide_eq_true w
    rw [h1 x hx, h2 y hy] at w
    exact ne w
  unfold sdV
  rw [o1, o2, al]
  rfl
section
variable {P : Program} {w : World} {K : PySem.W.Frag} {mg : Str → Option Value} {base : Heap}
def spSaid : Sp := fun vs H Q _ => ∃ (h c th : Addr) (n : Nat) (hs : List Nat) (g : Bool), vs = [.ref h, .ref th, .str (sayW g)] ∧ Hand H h c ∧ H th = some (.lst (ints_ hs)) ∧ hs.length = n ∧ n ≤ 5 ∧ 1 < (firstsF n hs).length ∧
  ∀ H' u D, Stay h c H H' → H u = none → DeedAt n hs H' u D → Q (.ref u) H'
theorem ok_said {f fpa fsm fdr : Addr} {fd fdpa fdsm fddr : FuncData} (F : Fun K "_law_said" "_law_said" s__law_said f fd)
    (Gpa : FnOk P w K mg base CX0 1 fpa fdpa ["_law_hands"] spPart) (gpa : mg "_law_parting" = some (.ref fpa)) (kpa : PySem.W.keepIn K (.ref fpa) = true) (bpa : Binds K fdpa ["_law_hands"] [])
    (Gsm : FnOk P w K mg base CX0 4 fsm fdsm ["_law_hand_here", "_law_cells"] spSome) (gsm : mg "_law_some" = some (.ref fsm)) (ksm : PySem.W.keepIn K (.ref fsm) = true) (bsm : Binds K fdsm ["_law_hand_here", "_law_cells"] [])
    (Gdr : FnOk P w K mg base CX0 2 fdr fddr ["_law_hand_here", "_law_many"] spDraw) (gdr : mg "_law_draw" = some (.ref fdr)) (kdr : PySem.W.keepIn K (.ref fdr) = true) (bdr : Binds K fddr ["_law_hand_here", "_law_many"] [])
    (m_len : mg "len" = none) (m_int : mg "int" = none) : FnOk P w K mg base CX0 5 f fd ["_law_hand_here", "_law_hands", "_law_word"] spSaid := by
  refine F.ok sc__law_said (fun vs H Q E h => ?_) (fun cdv A outer s H vs Q E hr h => ?_)
  · obtain ⟨h, c, th, n, hs, g, rfl, _⟩ := h
    rfl
  · obtain ⟨h, c, th, n, hs, g, rfl, hh, hth, hl, n5, f1, q⟩ := h
    refine ⟨_, (pss_cons (ps_set (i := 3) sc__law_said.nd rfl (by first | exact Or.inl rfl | exact Or.inr rfl) (pe_call Gpa (hr.mono (by decide)) (by rfl) gpa kpa bpa .nil pass0 (pa_cons (pv 1) pa_nil)))
 (pss_cons (ps_set (i := 4) sc__law_said.nd rfl (by first | exact Or.inl rfl | exact Or.inr rfl) (pe_call Gdr (hr.mono (by decide)) (by rfl) gdr kdr bdr .nil pass0 (pa_cons (pv 0) (pa_cons (pe_callB call_len_seq (by rfl) m_len boot_len (pa_cons (pv 3) pa_nil)) pa_nil))))
 (pss_cons (ps_set (i := 5) sc__law_said.nd rfl (by first | exact Or.inl rfl | exact Or.inr rfl) (pe_op op_mod (pe_callTy call_int1 (by rfl) m_int boot_int (pa_cons (pe_op op_add (pe_op op_add (pv 4) pe_int) (pe_call Gdr (hr.mono (by decide)) (by rfl) gdr kdr bdr .nil pass0 (pa_cons (pv 0) (pa_cons (pe_op op_sub (pe_callB call_len_seq (by rfl) m_len boot_len (pa_cons (pv 3) pa_nil)) pe_int) pa_nil)))) pa_nil)) (pe_callB call_len_seq (by rfl) m_len boot_len (pa_cons (pv 3) pa_nil))))
 (pss_one (ps_ret (pe_tup (pa_cons (pv 2) (pa_cons (pe_call Gsm (hr.mono (by decide)) (by rfl) gsm ksm bsm .nil pass0 (pa_cons (pv 0) (pa_cons (pe_ix ix_list (pv 3) (pv 4) (fun _ _ => rfl)) pa_nil))) (pa_cons (pe_call Gsm (hr.mono (by decide)) (by rfl) gsm ksm bsm .nil pass0 (pa_cons (pv 0) (pa_cons (pe_ix ix_list (pv 3) (pv 5) (fun _ _ => rfl)) pa_nil))) pa_nil))))))))), ?_⟩
    refine ⟨_, rfl, th, n, hs, rfl, hth, hl, n5, fun H1 L ts e1 nL hL tL nts => ?_⟩
    have tl : ts.length = (firstsF n hs).length := by rw [tL.len, List.length_map]
    have m5 : ts.length ≤ 5 := by rw [tl]; exact Nat.le_trans (List.length_filter_le _ _) (by rw [List.length_range]; exact n5)
    have ll : (ts.map V.ref).length = ts.length := List.length_map _
    have nth := hh.nel hth (notHand_ints _)
    have st1 := Stay.of_same hh e1
    refine ⟨_, rfl, _, rfl, L, _, rfl, .inl (.inl (.inl hL)), h, c, _, rfl, st1.hand, by omega, by omega, fun H2 p d2 p0 p1 => ?_⟩
    obtain ⟨p, rfl⟩ : ∃ k : Nat, p = (k : Nat) := ⟨p.toNat, by omega⟩
    have st2 := st1.drawn d2
    have d2s := Stay.of_drawn st1.hand d2
    have hL2 := d2s.lst hL (notHand_refs _)
    refine ⟨_, rfl, _, _, rfl, rfl, _, rfl, _, rfl, L, _, rfl, .inl (.inl (.inl hL2)), _, _, rfl, rfl, h, c, _, rfl, st2.hand, by omega, by omega, fun H3 d dd d0 d1 => ?_⟩
    have st3 := st2.drawn dd
    have dds := Stay.of_drawn st2.hand dd
    have hL3 := dds.lst hL2 (notHand_refs _)
    obtain ⟨d, rfl⟩ : ∃ k : Nat, d = (k : Nat) := ⟨d.toNat, by omega⟩
    refine ⟨_, _, rfl, rfl, .inl ⟨_, rfl, _, rfl, L, _, rfl, .inl (.inl (.inl hL3)), _, _, rfl, rfl, by omega, ?_⟩⟩
    have pl : p < ts.length := by omega
    have ol : (p + 1 + d) % ts.length < ts.length := Nat.mod_lt _ (by omega)
    have one : (p + 1 + d) % ts.length ≠ p := by
      have hd : d < ts.length - 1 := by omega
      by_cases z : p + 1 + d < ts.length
      · rw [Nat.mod_eq_of_lt z]
        omega
      · rw [Nat.mod_eq_sub_mod (by omega), Nat.mod_eq_of_lt (by omega)]
        omega
    have ev : (((p : Nat) : Int) + 1 + ((d : Nat) : Int)) % (((ts.map V.ref).length : Nat) : Int) = (((p + 1 + d) % ts.length : Nat) : Int) := by
      rw [ll, Int.natCast_emod, Int.natCast_add, Int.natCast_add]
      rfl
    generalize hO : (p + 1 + d) % ts.length = o at ol one ev
    dsimp only
    rw [ev]
    have get : ∀ {i : Nat}, i < ts.length → ∃ (t : Addr) (a : Nat), ts[i]? = some t ∧ (firstsF n hs)[i]? = some a ∧ a < n ∧ H1 t = some (.lst (ints_ (ownF n hs a))) := fun {i} hi => by
      obtain ⟨l, h1, h2⟩ := tL.get (List.getElem?_eq_getElem hi)
      rw [List.getElem?_map] at h1
      obtain ⟨a, h3, rfl⟩ := Option.map_eq_some_iff.mp h1
      exact ⟨_, a, List.getElem?_eq_getElem hi, h3, List.mem_range.mp (List.mem_filter.mp (List.mem_of_getElem? h3)).1, h2⟩
    obtain ⟨t1, a1, x1, y1, z1, w1⟩ := get pl
    obtain ⟨t2, a2, x2, y2, z2, w2⟩ := get ol
    have ixr : ∀ {i : Nat} {t : Addr}, ts[i]? = some t → atI (ts.map V.ref) ((i : Nat) : Int) = some (.ref t) := fun h => atI_nat (by rw [List.getElem?_map, h]; rfl)
    have st13 := d2s.trans dds
    have own_ok : ∀ {a : Nat}, a < n → (ownF n hs a).Nodup ∧ (∀ c ∈ ownF n hs a, c < n) ∧ ownF n hs a ≠ [] := fun h => ⟨(sub_rng own_sub).2, (sub_rng own_sub).1, own_ne h⟩
    refine ⟨_, rfl, _, rfl, _, rfl, _, rfl, L, _, _, _, rfl, rfl, .inl (.inl hL3), ixr x1, h, c, t1, n, ownF n hs a1, rfl, st3.hand, .inr (st13.lst w1 (notHand_ints _)), n5, (own_ok z1).1, (own_ok z1).2.1, (own_ok z1).2.2, fun H4 o1 cs st4 no1 so1 nd1 in1 l1 => ?_⟩
    have st14 := st13.trans st4
    have hL4 := st4.lst hL3 (notHand_refs _)
    refine ⟨_, rfl, _, rfl, _, rfl, L, _, _, _, rfl, rfl, .inl (.inl hL4), ixr x2, h, c, t2, n, ownF n hs a2, rfl, st4.hand, .inr (st14.lst w2 (notHand_ints _)), n5, (own_ok z2).1, (own_ok z2).2.1, (own_ok z2).2.2, fun H5 o2 ds st5 no2 so2 nd2 in2 l2 => ?_⟩
    refine ⟨by show 3 ≤ sizeLine; decide, fun u nu => ?_⟩
    have e6 := al (o := .tup [.str (sayW g), .ref o1, .ref o2]) nu
    have stA := (st3.trans st4).trans st5
    refine q _ u (.said g cs ds) (stA.same e6) (stA.free nu) ⟨⟨o1, o2, upd_same, (st5.sq so1).same e6, so2.same e6⟩, ⟨fun c hc => (own_ok z1).2.1 c (in1 c hc), nd1, l1⟩, ⟨fun c hc => (own_ok z2).2.1 c (in2 c hc), nd2, l2⟩, ?_⟩
    exact sd_non in1 in2 l1 (firsts_ne hl y1 y2 (Ne.symm one))
end
end K7
end
/-! ## P42 -/
section
open PySem PySem.Spec PyProof.Rows L2
namespace K7
abbrev N__law_goes : List Str := ["_law_hand_here", "_law_hands", "_law_names", "_law_n", "_law_name", "_law_movable", "_law_b", "_law_k", "_law_cells", "_law_share", "_law_told", "_law_a"]
abbrev s__law_goes : Stmt := topS 66
theorem sc__law_goes : FnScope ["_law_hand_here", "_law_hands", "_law_names", "_law_n", "_law_name", "_law_movable", "_law_b", "_law_k", "_law_cells", "_law_share", "_law_told", "_law_a"] ["_law_hand_here", "_law_hands", "_law_names"] (defScope s__law_goes) := ⟨rfl, rfl, rfl, by decide +kernel, rfl, by decide +kernel, by decide +kernel⟩
/-! ### a deed that goes -/
theorem perm_map_inv {α β : Type} {f : α → β} {m k : List β} (h : m.Perm k) : ∀ l : List α, k = l.map f → ∃ l' : List α, m = l'.map f ∧ l'.Perm l := by
  induction h with
  | nil => exact fun l e => ⟨l, e, .refl _⟩
  | cons x _ ih =>
    intro l e
    cases l with
    | nil => cases e
    | cons a l =>
      injection e with e1 e2
      obtain ⟨l', h1, h2⟩ := ih l e2
      exact ⟨a :: l', by rw [List.map_cons, h1, e1], h2.cons a⟩
  | swap x y r =>
    intro l e
    match l, e with
    | [], e => cases e
    | [a], e => injection e with _ e; cases e
    | a :: b :: l, e =>
      injection e with e1 e
      injection e with e2 e3
      exact ⟨b :: a :: l, by rw [List.map_cons, List.map_cons, ← e1, ← e2, ← e3], .swap a b l⟩
  | trans _ _ ih1 ih2 =>
    intro l e
    obtain ⟨l1, h1, h2⟩ := ih2 l e
    obtain ⟨l2, h3, h4⟩ := ih1 l1 h1
    exact ⟨l2, h3, h4.trans h2⟩
theorem TAt.zip {H : Hp} : ∀ {ts : List Addr} {tl : List (Nat × Nat)}, TAt H ts (pairs tl) → ∃ zs : List (Addr × (Nat × Nat)), ts = zs.map (·.1) ∧ tl = zs.map (·.2) ∧ ∀ z ∈ zs, H z.1 = some (.tup (ints_ [z.2.1, z.2.2]))
  | [], [], _ => ⟨[], rfl, rfl, fun _ h => nomatch h⟩
  | t :: ts, (a, b) :: tl, .cons h r => by
    obtain ⟨zs, h1, h2, h3⟩ := TAt.zip r
    exact ⟨(t, (a, b)) :: zs, by rw [h1]; rfl, by rw [h2]; rfl, fun z hz => by
      rcases List.mem_cons.mp hz with rfl | hz
      · exact h
      · exact h3 z hz⟩
theorem TAt.unzip {H : Hp} : ∀ {zs : List (Addr × (Nat × Nat))}, (∀ z ∈ zs, H z.1 = some (.tup (ints_ [z.2.1, z.2.2]))) → TAt H (zs.map (·.1)) (pairs (zs.map (·.2)))
  | [], _ => .nil
  | z :: zs, h => .cons (h z List.mem_cons_self) (TAt.unzip fun y hy => h y (List.mem_cons_of_mem _ hy))
/-- couples in another order -/
theorem tat_perm {H : Hp} {ts : List Addr} {tl : List (Nat × Nat)} {own : List V} (h : TAt H ts (pairs tl)) (p : own.Perm (ts.map V.ref)) : ∃ ts' tl', own = ts'.map V.ref ∧ TAt H ts' (pairs tl') ∧ tl'.Perm tl := by
  obtain ⟨zs, rfl, rfl, h3⟩ := h.zip
  rw [List.map_map] at p
  obtain ⟨ys, rfl, py⟩ := perm_map_inv p zs rfl
  exact ⟨ys.map (·.1), ys.map (·.2), by rw [List.map_map], TAt.unzip fun z hz => h3 z (py.mem_iff.mp hz), py.map _⟩
theorem coB_ok {n a b : Nat} (ha : a < n) (hb : b < n) (ne : a ≠ b) : coB n (a, b) = true := by
  unfold coB twoV
  have z : cellsV (n : Nat) (ints_ [a, b]) 2 = true := by
    unfold cellsV
    have e1 : (ints_ [a, b]).all (fun x => wholeV x 0 (((n : Nat) : Int) - 1)) = true := by
      refine List.all_eq_true.mpr fun x hx => ?_
      have hx : x = V.int (a : Nat) ∨ x = V.int (b : Nat) := by simpa [ints_] using hx
      rcases hx with rfl | rfl <;> rw [wholeV_int, decide_eq_true (by omega), decide_eq_true (by omega)] <;> rfl
    have e2 : ((ints_ [a, b]).map intOf).Nodup := by
      show [((a : Nat) : Int), ((b : Nat) : Int)].Nodup
      simp
      omega
    rw [e1, decide_eq_true e2]
    rfl
  rw [z]
  rfl
section
variable {P : Program} {w : World} {K : PySem.W.Frag} {mg : Str → Option Value} {base : Heap}
def spGoes : Sp := fun vs H Q _ => ∃ (h c th tn : Addr) (n : Nat) (hs : List Nat) (s : Nat), vs = [.ref h, .ref th, .ref tn] ∧ Hand H h c ∧ H th = some (.lst (ints_ hs)) ∧ H tn = some (.lst (ints_ (nmsF s))) ∧ 1 ≤ s ∧ s ≤ 10 ^ 29 ∧ hs.length = n ∧ 2 ≤ n ∧ n ≤ 5 ∧
  ∀ H' u D, Stay h c H H' → H u = none → DeedAt n hs H' u D → Q (.ref u) H'
theorem ok_goes {f fsm fpk ftu fdr : Addr} {fd fdsm fdpk fdtu fddr : FuncData} (F : Fun K "_law_goes" "_law_goes" s__law_goes f fd)
    (Gsm : FnOk P w K mg base CX0 4 fsm fdsm ["_law_hand_here", "_law_cells"] spSome) (gsm : mg "_law_some" = some (.ref fsm)) (ksm : PySem.W.keepIn K (.ref fsm) = true) (bsm : Binds K fdsm ["_law_hand_here", "_law_cells"] [])
    (Gpk : FnOk P w K mg base CX0 3 fpk fdpk ["_law_hand_here", "_law_things"] spPick) (gpk : mg "_law_pick" = some (.ref fpk)) (kpk : PySem.W.keepIn K (.ref fpk) = true) (bpk : Binds K fdpk ["_law_hand_here", "_law_things"] [])
    (Gtu : FnOk P w K mg base CX0 3 ftu fdtu ["_law_hand_here", "_law_things"] spTurn) (gtu : mg "_law_turned" = some (.ref ftu)) (ktu : PySem.W.keepIn K (.ref ftu) = true) (btu : Binds K fdtu ["_law_hand_here", "_law_things"] [])
    (Gdr : FnOk P w K mg base CX0 2 fdr fddr ["_law_hand_here", "_law_many"] spDraw) (gdr : mg "_law_draw" = some (.ref fdr)) (kdr : PySem.W.keepIn K (.ref fdr) = true) (bdr : Binds K fddr ["_law_hand_here", "_law_many"] [])
    (m_len : mg "len" = none) (m_list : mg "list" = none) (m_range : mg "range" = none) : FnOk P w K mg base CX0 5 f fd ["_law_hand_here", "_law_hands", "_law_names"] spGoes := by
  refine F.ok sc__law_goes (fun vs H Q E h => ?_) (fun cdv A outer s0 H vs Q E hr h => ?_)
  · obtain ⟨h, c, th, tn, n, hs, s, rfl, _⟩ := h
    rfl
  · obtain ⟨h, c, th, tn, n, hs, s, rfl, hh, hth, htn, s1, s2, hl, n2, n5, q⟩ := h
    refine ⟨_, (pss_cons (ps_asg (pe_tup (pa_cons (pe_callB call_len_seq (by rfl) m_len boot_len (pa_cons (pv 1) pa_nil)) (pa_cons (pe_call Gpk (hr.mono (by decide)) (by rfl) gpk kpk bpk .nil pass0 (pa_cons (pv 0) (pa_cons (pv 2) pa_nil))) pa_nil))) (pg_tup rfl (pgs_cons (pg_name (i := 3) sc__law_goes.nd rfl (by first | exact Or.inl rfl | exact Or.inr rfl)) (pgs_cons (pg_name (i := 4) sc__law_goes.nd rfl (by first | exact Or.inl rfl | exact Or.inr rfl)) pgs_nil))))
 (pss_cons (ps_setLc (i := 5) (own := [("_law_b", 6)]) (g := gName 6) rfl sc__law_goes.nd rfl rfl (sw_true rfl rfl rfl (by decide +kernel)) (pi_range1 rfl m_range (pa_cons (pv 3) pa_nil)) (blkOk_by (own := [("_law_b", 6)]) (N := N__law_goes) (sc := defScope s__law_goes) (by decide +kernel)) (fun _ _ _ _ _ => (pg_name (i := 6) sc__law_goes.nd rfl (by first | exact Or.inl rfl | exact Or.inr rfl))) (fun _ _ _ _ _ => (pts_one (pt_cmpR op_ne (pe_ix (show IxR _ (rIxL K) from ix_list) (pv 1) (pv 6) (fun _ _ => rfl)) (pv 4) (nomark _)))) (fun _ _ _ _ _ => (pv 6)))
 (Evl.pss_cut (ps_if (pt_cmpR (op_eqD hr.units) (pv 5) (pe_lst pa_nil) (nomark _))
  (pss_cons (ps_set (i := 4) sc__law_goes.nd rfl (by first | exact Or.inl rfl | exact Or.inr rfl) (pe_ix ix_list (pe_lc (own := [("_law_k", 7)]) (g := gName 7) rfl sc__law_goes.nd (pi_list (pv 2)) (blkOk_by (own := [("_law_k", 7)]) (N := N__law_goes) (sc := defScope s__law_goes) (by decide +kernel)) (fun _ _ _ _ _ => (pg_name (i := 7) sc__law_goes.nd rfl (by first | exact Or.inl rfl | exact Or.inr rfl))) (fun _ _ _ _ _ => (pts_one (pt_cmpR op_ne (pv 7) (pv 4) (nomark _)))) (fun _ _ _ _ _ => (pv 7))) pe_int (fun _ _ => rfl)))
 (pss_one (ps_set (i := 5) sc__law_goes.nd rfl (by first | exact Or.inl rfl | exact Or.inr rfl) (pe_callTy (K7E.cr_list_rng rfl) (by rfl) m_list boot_list (pa_cons (pe_callTy K7E.cr_range1 (by rfl) m_range boot_range (pa_cons (pv 3) pa_nil)) pa_nil)))))
  pss_nil)
 (pss_cons (ps_set (i := 8) sc__law_goes.nd rfl (by first | exact Or.inl rfl | exact Or.inr rfl) (pe_callTy call_list_of (by rfl) m_list boot_list (pa_cons (pe_call Gsm (hr.mono (by decide)) (by rfl) gsm ksm bsm .nil pass0 (pa_cons (pv 0) (pa_cons (pv 5) pa_nil))) pa_nil)))
 (Evl.pss_cut (ps_for PassesOwn.never rfl (pi_range1 rfl m_range (pa_cons (pv 3) pa_nil)) (pg_name (i := 6) sc__law_goes.nd rfl (by first | exact Or.inl rfl | exact Or.inr rfl))
  (pss_one (ps_if (pw_and (pt_cmpR op_eq (pe_ix ix_list (pv 1) (pv 6) (fun _ _ => rfl)) (pv 4) (nomark _)) (pw_and1 (pt_cmpR op_eq (pe_call Gdr (hr.mono (by decide)) (by rfl) gdr kdr bdr .nil pass0 (pa_cons (pv 0) (pa_cons pe_int pa_nil))) pe_int (nomark _)))).pt
  (pss_one (ps_expr (pe_bm PySem.F.plainAttrs_list PySem.F.slot_list_append PySem.F.type_list_append mt_append (pv 8) (pa_cons (pv 6) pa_nil))))
  pss_nil)))
 (pss_cons (ps_par (by rfl) sc__law_goes.nd (i := 9) (j := 10) rfl rfl (by decide) rfl rfl (pa_cons (pe_op op_add pe_int (pe_call Gdr (hr.mono (by decide)) (by rfl) gdr kdr bdr .nil pass0 (pa_cons (pv 0) (pa_cons pe_int pa_nil)))) (pa_cons (pe_lst pa_nil) pa_nil)) (by rfl))
 (Evl.pss_cut (ps_for PassesOwn.never rfl (pi_range1 rfl m_range (pa_cons (pv 3) pa_nil)) (pg_name (i := 11) sc__law_goes.nd rfl (by first | exact Or.inl rfl | exact Or.inr rfl))
  (pss_one (ps_for PassesOwn.never rfl (pi_range1 rfl m_range (pa_cons (pv 3) pa_nil)) (pg_name (i := 6) sc__law_goes.nd rfl (by first | exact Or.inl rfl | exact Or.inr rfl))
  (pss_one (ps_if (pw_and (pt_cmpR op_ne (pv 11) (pv 6) (nomark _)) (pw_and1 (pt_cmpR op_eq (pe_call Gdr (hr.mono (by decide)) (by rfl) gdr kdr bdr .nil pass0 (pa_cons (pv 0) (pa_cons (pv 9) pa_nil))) pe_int (nomark _)))).pt
  (pss_one (ps_expr (pe_bm PySem.F.plainAttrs_list PySem.F.slot_list_append PySem.F.type_list_append mt_append (pv 10) (pa_cons (pe_tup (pa_cons (pv 11) (pa_cons (pv 6) pa_nil))) pa_nil))))
  pss_nil)))))
 (pss_one (ps_ret (pe_tup (pa_cons pe_str (pa_cons (pv 8) (pa_cons (pv 4) (pa_cons (pe_call Gtu (hr.mono (by decide)) (by rfl) gtu ktu btu .nil pass0 (pa_cons (pv 0) (pa_cons (pv 10) pa_nil))) pa_nil)))))))))))))), ?_⟩
    have il : (ints_ hs).length = n := by unfold ints_; rw [List.length_map, hl]
    have hat0 : ∀ {j : Nat}, j < n → atI (ints_ hs) (0 + ((j : Nat) : Int)) = some (.int (hsAt hs j : Nat)) := fun h => by rw [Int.zero_add]; exact atI_nat (ints_at (by rw [hl]; exact h))
    have nth := hh.nel hth (notHand_ints _)
    have ntn := hh.nel htn (notHand_ints _)
    have xb : ∀ {x : Nat}, x ∈ nmsF s → x ≤ 10 ^ 30 := fun z => by
      unfold nmsF at z
      simp only [List.mem_cons, List.not_mem_nil, or_false] at z
      rcases z with rfl | rfl | rfl | rfl <;> omega
    have im : ∀ l : List Nat, ints_ l = (l.map fun b => ((b : Nat) : Int)).map V.int := fun l => by unfold ints_; rw [List.map_map]; rfl
    -- the number of cells, a name
    refine ⟨_, rfl, th, _, rfl, .inl (.inl (.inl hth)), _, rfl, _, rfl, h, c, tn, _, rfl, hh, ntn, htn, by show 0 < 4; decide, by show 4 ≤ 1000; decide, fun H1 j v d1 hv => ⟨by show 2 ≤ sizeLine; decide, fun p np => ?_⟩⟩
    have st1 := Stay.of_drawn hh d1
    obtain ⟨x, rfl, hx⟩ : ∃ x : Nat, v = .int (x : Nat) ∧ x ∈ nmsF s := by
      have z := List.mem_of_getElem? hv
      unfold ints_ at z
      obtain ⟨x, hx, rfl⟩ := List.mem_map.mp z
      exact ⟨x, rfl, hx⟩
    rw [il]
    refine ⟨p, _, rfl, .inl (.inl upd_same), rfl, _, _, rfl, _, _, rfl, rfl, ?_⟩
    have st2 := st1.same (al (o := .tup [.int (n : Nat), .int (x : Nat)]) np)
    generalize upd H1 p (.tup [.int (n : Nat), .int (x : Nat)]) = H2 at st2 ⊢
    have hth2 := st2.lst hth (notHand_ints _)
    have htn2 := st2.lst htn (notHand_ints _)
    -- what can move
    dsimp only [gName]
    rw [tSeq, tAsg]
    refine lc_pkR (n := n) (p := fun b => !decide (hsAt hs b = x)) (fun R r => ⟨_, rfl, r⟩) (by omega) (fun _ => rfl) (fun _ => rfl) (fun j H3 hj e3 R hR => ?_) (fun Mv H3 nMv e3 hMv => ?_)
    · refine ⟨_, rfl, _, rfl, th, _, _, _, rfl, rfl, .inl (.inl (e3 _ _ hth2)), hat0 hj, _, rfl, rfl, _, rfl, ?_⟩
      rw [dVn]
      exact hR _ (Same.refl _)
    have st3 := st2.same e3
    have hth3 := e3 _ _ hth2
    have htn3 := e3 _ _ htn2
    have fMv := st2.free nMv
    generalize hmv : ((List.range n).filter fun b => !decide (hsAt hs b = x)) = mv at hMv
    refine ⟨fun σ' H' => ∃ (x : Nat) (Mv : Addr) (mv : List Nat), σ' = [some (.ref h), some (.ref th), some (.ref tn), some (.int (n : Nat)), some (.int (x : Nat)), some (.ref Mv), none, none, none, none, none, none] ∧ Stay h c H H' ∧ H' Mv = some (.lst (ints_ mv)) ∧ mv.Sublist (List.range n) ∧ mv ≠ [] ∧ (∀ b ∈ mv, hsAt hs b ≠ x) ∧ x ≤ 10 ^ 30, ?_, ?_⟩
    · refine ⟨_, rfl, by show 0 ≤ sizeLine; decide, fun e0 ne0 => ?_⟩
      have e4 := e3.trans (al (o := .lst []) ne0)
      have s4 := al (o := .lst []) ne0
      have hM4 := s4 _ _ hMv
      have h0 : upd H3 e0 (.lst []) e0 = some (.lst []) := upd_same
      have htn4 := s4 _ _ htn3
      have st4 := st3.same s4
      generalize upd H3 e0 (.lst []) = H4 at e4 s4 hM4 h0 htn4 st4 ⊢
      refine ⟨_, _, .lst (.inl (.inl (by rw [hM4, im]))) (dp_intsI _), .lst (xs := []) (.inl (.inl h0)) .nil, shaped_lstI _, shaped_lstI [], _, rfl, ?_⟩
      have ev : PyData.eqv (.list ((mv.map fun b => ((b : Nat) : Int)).map PyData.int)) (.list []) = mv.isEmpty := by
        rw [PyData.eqv]
        cases mv with
        | nil => rfl
        | cons a l => simp [PyData.eqvAll]
      rw [ev]
      refine iteB (fun t => ?_) (fun t => ?_)
      · rw [tSeq, tAsg, tOp]
        refine lc_pkL (l := nmsF s) (p := fun k => !decide (k = x)) (fun R r => ⟨_, rfl, r⟩) (by show 4 ≤ 500; decide) htn4 (fun _ => rfl) (fun _ => rfl) (fun b H5 hb e5 R hR => ?_) (fun K5 H5 nK e5 hK => ?_)
        · refine ⟨_, rfl, _, rfl, rfl, _, rfl, ?_⟩
          rw [dVn]
          exact hR _ (Same.refl _)
        have fne : ∃ y r, (nmsF s).filter (fun k => !decide (k = x)) = y :: r ∧ y ≠ x ∧ y ∈ nmsF s := by
          cases hf : (nmsF s).filter (fun k => !decide (k = x)) with
          | nil =>
            have h0 : ∀ k ∈ nmsF s, k = x := fun k hk => Decidable.byContradiction fun ne => by
              have z : k ∈ (nmsF s).filter (fun k => !decide (k = x)) := List.mem_filter.mpr ⟨hk, by rw [decide_eq_false ne]; rfl⟩
              rw [hf] at z
              cases z
            have a1 := h0 0 (by unfold nmsF; simp)
            have a2 := h0 s (by unfold nmsF; simp)
            omega
          | cons y r =>
            have z : y ∈ (nmsF s).filter (fun k => !decide (k = x)) := by rw [hf]; exact List.mem_cons_self
            obtain ⟨z1, z2⟩ := List.mem_filter.mp z
            exact ⟨y, r, rfl, fun e => (by rw [decide_eq_true e] at z2; cases z2), z1⟩
        obtain ⟨y, r, hf, yx, yin⟩ := fne
        rw [hf] at hK
        refine ⟨K5, _, 0, .int (y : Nat), rfl, rfl, .inl (.inl hK), atI_nat (j := 0) rfl, ?_⟩
        refine ⟨_, rfl, _, rfl, fun p2 np2 => ⟨p2, n, rfl, upd_same, by omega, fun l nl => ?_⟩⟩
        have s6 := (al (o := .rng 0 (n : Nat)) np2).trans (al (o := .lst (K7E.upTo n)) nl)
        refine ⟨y, l, List.range n, rfl, (st4.same e5).same s6, by rw [upd_same]; rfl, List.Sublist.refl _, fun e => ?_, fun b hb => ?_, xb yin⟩
        · have := congrArg List.length e
          rw [List.length_range] at this
          simp at this
          omega
        · have hb := List.mem_range.mp hb
          have m0 : mv = [] := by cases mv with | nil => rfl | cons _ _ => cases t
          have hbx : hsAt hs b = x := Decidable.byContradiction fun ne => by
            have z : b ∈ ((List.range n).filter fun b => !decide (hsAt hs b = x)) := List.mem_filter.mpr ⟨List.mem_range.mpr hb, by rw [decide_eq_false ne]; rfl⟩
            rw [hmv, m0] at z
            cases z
          rw [hbx]
          exact Ne.symm yx
      · refine ⟨x, Mv, mv, rfl, st4, hM4, by rw [← hmv]; exact List.filter_sublist, fun e => (by rw [e] at t; cases t), fun b hb e => ?_, xb hx⟩
        rw [← hmv] at hb
        have z := (List.mem_filter.mp hb).2
        rw [decide_eq_true e] at z
        cases z
    clear hx hv hmv hMv fMv
    rintro σ1 H4 ⟨x, Mv, mv, rfl, st4, hM4, msb, mne, mx, x30⟩
    have mnd := (sub_rng msb).2
    have mlt := (sub_rng msb).1
    -- the cells
    refine ⟨_, rfl, _, rfl, h, c, Mv, n, mv, rfl, st4.hand, .inr hM4, n5, mnd, mlt, mne, fun H5 o own st5 no so ond oin ol => ?_⟩
    refine ⟨o, _, rfl, so.sq, fun C nC => ?_⟩
    have st6 := (st4.trans st5).same (al (o := .lst (ints_ own)) nC)
    have hC6 : upd H5 C (.lst (ints_ own)) C = some (.lst (ints_ own)) := upd_same
    have fC := (st4.trans st5).free nC
    generalize upd H5 C (.lst (ints_ own)) = H6 at st6 hC6 ⊢
    refine ⟨fun σ' H' => ∃ (cs : List Nat) (y6 : Option V), σ' = [some (.ref h), some (.ref th), some (.ref tn), some (.int (n : Nat)), some (.int (x : Nat)), some (.ref Mv), y6, none, some (.ref C), none, none, none] ∧ Stay h c H H' ∧ H' C = some (.lst (ints_ cs)) ∧ (∀ b ∈ cs, b < n) ∧ cs.Nodup ∧ (∃ b ∈ cs, hsAt hs b ≠ x), ?_, ?_⟩
    · refine ⟨_, rfl, _, rfl, by omega, by omega, for_range (lo := 0) (n := n) (fun i σ' H' => i ≤ n ∧ ∃ (cs : List Nat) (y6 : Option V), σ' = [some (.ref h), some (.ref th), some (.ref tn), some (.int (n : Nat)), some (.int (x : Nat)), some (.ref Mv), y6, none, some (.ref C), none, none, none] ∧ Stay h c H H' ∧ H' C = some (.lst (ints_ cs)) ∧ (∀ b ∈ cs, b < n) ∧ cs.Nodup ∧ (∃ b ∈ cs, hsAt hs b ≠ x) ∧ ∀ b ∈ cs, hsAt hs b = x → b < i)
        ⟨Nat.zero_le _, own, none, rfl, st6, hC6, fun b hb => mlt b (oin b hb), ond, ?_, fun b hb e => absurd e (mx b (oin b hb))⟩ (fun i σ' H' hi pv => ?_) (fun σ' H' pv => ?_)⟩
      · obtain ⟨b, hb⟩ := List.exists_mem_of_length_pos ol
        exact ⟨b, hb, mx b (oin b hb)⟩
      · obtain ⟨_, cs, y6, rfl, st, hC, lt, nd, ex, up⟩ := pv
        have hth' := st.lst hth (notHand_ints _)
        refine ⟨_, rfl, _, rfl, th, _, _, _, rfl, rfl, .inl (.inl hth'), hat0 hi, _, rfl, rfl, _, rfl, ?_⟩
        rw [dVn]
        have up' : ∀ b ∈ cs, hsAt hs b = x → b < i + 1 := fun b hb e => Nat.lt_succ_of_lt (up b hb e)
        refine ite2 (fun d => ?_) (fun d => iteFo rfl ⟨hi, cs, _, rfl, st, hC, lt, nd, ex, up'⟩)
        have d := of_decide_eq_true d
        refine ⟨_, rfl, h, c, 4, rfl, st.hand, by decide, by decide, fun H7 r dr r0 r1 => ⟨rfl, _, rfl, ?_⟩⟩
        have st7 := st.drawn dr
        have hC7 := (Stay.of_drawn st.hand dr).lst hC (notHand_ints _)
        refine ite2 (fun _ => ?_) (fun _ => ⟨hi, cs, _, rfl, st7, hC7, lt, nd, ex, up'⟩)
        refine ⟨_, rfl, .inl ⟨rfl, _, .inl (.inl hC7)⟩, _, rfl, C, _, _, rfl, rfl, hC7, by unfold ints_; rw [List.length_map]; exact small1000 (Nat.le_trans (cells_len nd lt) (by omega)), ?_⟩
        have ni : i ∉ cs := fun z => absurd (up i z d) (Nat.lt_irrefl _)
        refine ⟨hi, cs ++ [i], _, rfl, st7.put fC, by rw [upd_same, Int.zero_add, ints_snoc], fun b hb => ?_, ?_, ?_, fun b hb e => ?_⟩
        · rcases List.mem_append.mp hb with hb | hb
          · exact lt b hb
          · rw [List.mem_singleton.mp hb]; exact hi
        · rw [List.nodup_append]
          exact ⟨nd, List.nodup_cons.mpr ⟨List.not_mem_nil, List.nodup_nil⟩, fun a ha b hb e => ni (by rw [List.mem_singleton] at hb; rw [← hb, ← e]; exact ha)⟩
        · obtain ⟨b, hb, e⟩ := ex
          exact ⟨b, List.mem_append_left _ hb, e⟩
        · rcases List.mem_append.mp hb with hb | hb
          · exact up' b hb e
          · rw [List.mem_singleton.mp hb]; exact Nat.lt_succ_self _
      · obtain ⟨_, cs, y6, rfl, st, hC, lt, nd, ex, _⟩ := pv
        exact ⟨cs, y6, rfl, st, hC, lt, nd, ex⟩
    rintro σ1 H7 ⟨cs, y6, rfl, st7, hC7, lt, nd, ex⟩
    -- share and told
    refine ⟨_, rfl, h, c, 3, rfl, st7.hand, by decide, by decide, fun H8 r d8 r0 r1 => ⟨_, _, rfl, rfl, by show 0 ≤ sizeLine; decide, fun T nT => ?_⟩⟩
    have st8 := st7.drawn d8
    have hC8 := (Stay.of_drawn st7.hand d8).lst hC7 (notHand_ints _)
    have st9 := st8.same (al (o := .lst []) nT)
    have hC9 := al (o := .lst []) nT _ _ hC8
    have hT9 : upd H8 T (.lst []) T = some (.lst []) := upd_same
    have fT := st8.free nT
    have nCT := ne_of_none hC8 nT
    generalize upd H8 T (.lst []) = H9 at st9 hC9 hT9 ⊢
    refine ⟨_, _, rfl, ?_⟩
    have c64 : cs.length ≤ 5 := Nat.le_trans (cells_len nd lt) n5
    refine ⟨fun σ' H' => ∃ (ts : List Addr) (tl : List (Nat × Nat)) (y6 y11 : Option V), σ' = [some (.ref h), some (.ref th), some (.ref tn), some (.int (n : Nat)), some (.int (x : Nat)), some (.ref Mv), y6, none, some (.ref C), some (.int (1 + r)), some (.ref T), y11] ∧ Stay h c H H' ∧ H' C = some (.lst (ints_ cs)) ∧ H' T = some (.lst (ts.map V.ref)) ∧ TAt H' ts (pairs tl) ∧ tl.Nodup ∧ tl.length ≤ 32 ∧ (∀ k ∈ tl, k.1 < n ∧ k.2 < n ∧ k.1 ≠ k.2), ?_, ?_⟩
    · refine ⟨_, rfl, _, rfl, by omega, by omega, for_range (lo := 0) (n := n) (fun i σ' H' => i ≤ n ∧ ∃ (ts : List Addr) (tl : List (Nat × Nat)) (y6 y11 : Option V), σ' = [some (.ref h), some (.ref th), some (.ref tn), some (.int (n : Nat)), some (.int (x : Nat)), some (.ref Mv), y6, none, some (.ref C), some (.int (1 + r)), some (.ref T), y11] ∧ Stay h c H H' ∧ H' C = some (.lst (ints_ cs)) ∧ H' T = some (.lst (ts.map V.ref)) ∧ TAt H' ts (pairs tl) ∧ tl.Nodup ∧ tl.length ≤ 5 * i ∧ (∀ k ∈ tl, k.1 < i ∧ k.2 < n ∧ k.1 ≠ k.2))
        ⟨Nat.zero_le _, [], [], y6, none, rfl, st9, hC9, hT9, .nil, List.nodup_nil, Nat.le_refl _, fun _ h => nomatch h⟩ (fun i σ' H' hi pv => ?_) (fun σ' H' pv => ?_)⟩
      · obtain ⟨_, ts, tl, y6, y11, rfl, st, hC, hT, tT, tn', tl5, tk⟩ := pv
        refine ⟨_, rfl, _, rfl, by omega, by omega, for_range (lo := 0) (n := n) (fun j σ' H' => j ≤ n ∧ ∃ (ts : List Addr) (tl : List (Nat × Nat)) (y6 : Option V), σ' = [some (.ref h), some (.ref th), some (.ref tn), some (.int (n : Nat)), some (.int (x : Nat)), some (.ref Mv), y6, none, some (.ref C), some (.int (1 + r)), some (.ref T), some (.int (0 + (i : Nat)))] ∧ Stay h c H H' ∧ H' C = some (.lst (ints_ cs)) ∧ H' T = some (.lst (ts.map V.ref)) ∧ TAt H' ts (pairs tl) ∧ tl.Nodup ∧ tl.length ≤ 5 * i + j ∧ (∀ k ∈ tl, (k.1 < i ∨ (k.1 = i ∧ k.2 < j)) ∧ k.2 < n ∧ k.1 ≠ k.2))
          ⟨Nat.zero_le _, ts, tl, y6, rfl, st, hC, hT, tT, tn', tl5, fun k hk => ⟨.inl (tk k hk).1, (tk k hk).2⟩⟩ (fun j σ' H' hj pv => ?_) (fun σ' H' pv => ?_)⟩
        · clear hT tT tn' tl5 tk hC st
          obtain ⟨_, ts, tl, y6, rfl, st, hC, hT, tT, tn', tl5, tk⟩ := pv
          have tk' : ∀ k ∈ tl, (k.1 < i ∨ (k.1 = i ∧ k.2 < j + 1)) ∧ k.2 < n ∧ k.1 ≠ k.2 := fun k hk => by
            obtain ⟨h1, h2⟩ := tk k hk
            refine ⟨?_, h2⟩
            rcases h1 with h1 | h1
            · exact .inl h1
            · exact .inr ⟨h1.1, Nat.lt_succ_of_lt h1.2⟩
          have dij : decide (V.int (0 + (i : Nat)) = V.int (0 + (j : Nat))) = decide (i = j) := decide_eq_decide.mpr ⟨fun h => by injection h with h; omega, fun h => by rw [h]⟩
          refine ⟨_, rfl, _, rfl, rfl, _, rfl, ?_⟩
          rw [dij]
          refine ite2 (fun d => ?_) (fun d => iteFo rfl ⟨hj, ts, tl, _, rfl, st, hC, hT, tT, tn', by omega, tk'⟩)
          have d : i ≠ j := fun e => by rw [decide_eq_true e] at d; cases d
          refine ⟨_, rfl, _, rfl, h, c, _, rfl, st.hand, by omega, by omega, fun H10 r2 dr r20 r21 => ⟨rfl, _, rfl, ?_⟩⟩
          have sd := Stay.of_drawn st.hand dr
          have stA := st.trans sd
          have hCA := sd.lst hC (notHand_ints _)
          have hTA := sd.lst hT (notHand_refs _)
          have tTA : TAt H10 ts (pairs tl) := sd.tat tT
          refine ite2 (fun _ => ?_) (fun _ => ⟨hj, ts, tl, _, rfl, stA, hCA, hTA, tTA, tn', by omega, tk'⟩)
          refine ⟨_, rfl, .inl ⟨rfl, _, .inl (.inl hTA)⟩, _, rfl, _, rfl, by show 2 ≤ sizeLine; decide, fun U nU => ?_⟩
          have eU := al (o := .tup [.int (0 + (i : Nat)), .int (0 + (j : Nat))]) nU
          have hTB := eU _ _ hTA
          have nUT : U ≠ T := (ne_of_none hTA nU).symm
          refine ⟨T, _, _, rfl, rfl, hTB, by rw [List.length_map, tT.len]; unfold pairs; rw [List.length_map]; exact small1000 (by omega), ?_⟩
          have nij : (i, j) ∉ tl := fun z => by
            rcases (tk _ z).1 with h | h
            · exact Nat.lt_irrefl _ h
            · exact Nat.lt_irrefl _ h.2
          refine ⟨hj, ts ++ [U], tl ++ [(i, j)], _, rfl, (stA.same eU).put fT, by rw [upd_ne nCT]; exact eU _ _ hCA, by rw [upd_same, List.map_append]; rfl, ?_, ?_, by rw [List.length_append, List.length_singleton]; omega, fun k hk => ?_⟩
          · have up : ∀ b xs, H10 b = some (.tup xs) → upd (upd H10 U (.tup [.int (0 + (i : Nat)), .int (0 + (j : Nat))])) T (.lst (ts.map V.ref ++ [.ref U])) b = some (.tup xs) := fun b xs hb => by
              rw [upd_ne (by rintro rfl; rw [hTA] at hb; cases hb)]
              exact eU _ _ hb
            have hp : pairs (tl ++ [(i, j)]) = pairs tl ++ [[i, j]] := by unfold pairs; rw [List.map_append]; rfl
            rw [hp]
            refine (tTA.mono up).append (.cons ?_ .nil)
            rw [upd_ne nUT, upd_same, Int.zero_add, Int.zero_add]
            rfl
          · rw [List.nodup_append]
            exact ⟨tn', List.nodup_cons.mpr ⟨List.not_mem_nil, List.nodup_nil⟩, fun a ha b hb e => nij (by rw [List.mem_singleton] at hb; rw [← hb, ← e]; exact ha)⟩
          · rcases List.mem_append.mp hk with hk | hk
            · exact tk' k hk
            · rw [List.mem_singleton.mp hk]
              exact ⟨.inr ⟨rfl, Nat.lt_succ_self _⟩, hj, d⟩
        · clear hT tT tn' tl5 tk hC st
          obtain ⟨_, ts, tl, y6, rfl, st, hC, hT, tT, tn', tl5, tk⟩ := pv
          exact ⟨hi, ts, tl, _, _, rfl, st, hC, hT, tT, tn', by omega, fun k hk => ⟨by have := (tk k hk).1; omega, (tk k hk).2⟩⟩
      · obtain ⟨_, ts, tl, y6, y11, rfl, st, hC, hT, tT, tn', tl5, tk⟩ := pv
        exact ⟨ts, tl, _, _, rfl, st, hC, hT, tT, tn', by omega, tk⟩
    rintro σ1 HA ⟨ts, tl, y6, y11, rfl, stA, hCA, hTA, tTA, tnA, tlA, tkA⟩
    have tsl : ts.length = tl.length := by
      have z := tTA.len
      unfold pairs at z
      rw [List.length_map] at z
      exact z
    refine ⟨_, rfl, _, rfl, _, rfl, _, rfl, h, c, T, _, rfl, stA.hand, .inr hTA, by rw [List.length_map]; omega, fun HB o own' sB no so pm => ⟨by show 4 ≤ sizeLine; decide, fun u nu => ?_⟩⟩
    obtain ⟨ts', tl', rfl, tT', pl⟩ := tat_perm (sB.tat tTA) pm
    have eU := al (o := .tup [.str "goes", .ref C, .int (x : Nat), .ref o]) nu
    have stB := stA.trans sB
    have hCB := sB.lst hCA (notHand_ints _)
    refine q _ u (.goes cs x tl') (stB.same eU) (stB.free nu) ⟨⟨⟨C, o, ts', upd_same, .inr (eU _ _ hCB), so.same eU, TAt.same eU tT'⟩, nd, lt⟩, ?_, x30, pl.nodup_iff.mpr tnA, by rw [pl.length_eq]; exact tlA, ?_, ?_⟩
    · obtain ⟨b, hb, _⟩ := ex
      exact List.length_pos_of_mem hb
    · refine List.all_eq_true.mpr fun k hk => ?_
      obtain ⟨k1, k2, k3⟩ := tkA k (pl.mem_iff.mp hk)
      exact coB_ok k1 k2 k3
    · obtain ⟨b, hb, e⟩ := ex
      intro z
      have y : b ∈ mvF n hs cs x := (mv_mem (lt b hb)).mpr ⟨hb, e⟩
      rw [z] at y
      cases y
end
end K7
end
/-! ## P43 -/
section
open PySem PySem.Spec PyProof.Rows L2
namespace K7
abbrev N__law_deed : List Str := ["_law_hand_here", "_law_hands", "_law_names", "_law_sort"]
abbrev s__law_deed : Stmt := topS 67
theorem sc__law_deed : FnScope ["_law_hand_here", "_law_hands", "_law_names", "_law_sort"] ["_law_hand_here", "_law_hands", "_law_names"] (defScope s__law_deed) := ⟨rfl, rfl, rfl, by decide +kernel, rfl, by decide +kernel, by decide +kernel⟩
abbrev N__law_other_rows : List Str := ["_law_hands", "_law_rows", "_law_n", "_law_found", "_law_a", "_law_row", "_law_b", "_law_turned_here"]
abbrev s__law_other_rows : Stmt := topS 70
theorem sc__law_other_rows : FnScope ["_law_hands", "_law_rows", "_law_n", "_law_found", "_law_a", "_law_row", "_law_b", "_law_turned_here"] ["_law_hands", "_law_rows"] (defScope s__law_other_rows) := ⟨rfl, rfl, rfl, by decide +kernel, rfl, by decide +kernel, by decide +kernel⟩
/-! ### a deed that can be done -/
section
variable {P : Program} {w : World} {K : PySem.W.Frag} {mg : Str → Option Value} {base : Heap}
theorem ok_deed {f fpa fsd fgo fdr : Addr} {fd fdpa fdsd fdgo fddr : FuncData} (F : Fun K "_law_deed" "_law_deed" s__law_deed f fd)
    (Gpa : FnOk P w K mg base CX0 1 fpa fdpa ["_law_hands"] spPart) (gpa : mg "_law_parting" = some (.ref fpa)) (kpa : PySem.W.keepIn K (.ref fpa) = true) (bpa : Binds K fdpa ["_law_hands"] [])
    (Gsd : FnOk P w K mg base CX0 5 fsd fdsd ["_law_hand_here", "_law_hands", "_law_word"] spSaid) (gsd : mg "_law_said" = some (.ref fsd)) (ksd : PySem.W.keepIn K (.ref fsd) = true) (bsd : Binds K fdsd ["_law_hand_here", "_law_hands", "_law_word"] [])
    (Ggo : FnOk P w K mg base CX0 5 fgo fdgo ["_law_hand_here", "_law_hands", "_law_names"] spGoes) (ggo : mg "_law_goes" = some (.ref fgo)) (kgo : PySem.W.keepIn K (.ref fgo) = true) (bgo : Binds K fdgo ["_law_hand_here", "_law_hands", "_law_names"] [])
    (Gdr : FnOk P w K mg base CX0 2 fdr fddr ["_law_hand_here", "_law_many"] spDraw) (gdr : mg "_law_draw" = some (.ref fdr)) (kdr : PySem.W.keepIn K (.ref fdr) = true) (bdr : Binds K fddr ["_law_hand_here", "_law_many"] [])
    (m_len : mg "len" = none) : FnOk P w K mg base CX0 6 f fd ["_law_hand_here", "_law_hands", "_law_names"] spGoes := by
  refine F.ok sc__law_deed (fun vs H Q E h => ?_) (fun cdv A outer s0 H vs Q E hr h => ?_)
  · obtain ⟨h, c, th, tn, n, hs, s, rfl, _⟩ := h
    rfl
  · obtain ⟨h, c, th, tn, n, hs, s, rfl, hh, hth, htn, s1, s2, hl, n2, n5, q⟩ := h
    refine ⟨_, (pss_cons (ps_set (i := 3) sc__law_deed.nd rfl (by first | exact Or.inl rfl | exact Or.inr rfl) (pe_call Gdr (hr.mono (by decide)) (by rfl) gdr kdr bdr .nil pass0 (pa_cons (pv 0) (pa_cons pe_int pa_nil))))
 (pss_cons (ps_if (pw_and (pt_cmpR op_lt (pv 3) pe_int (nomark _)) (pw_and1 (pt_cmpR op_gt (pe_callB call_len_seq (by rfl) m_len boot_len (pa_cons (pe_call Gpa (hr.mono (by decide)) (by rfl) gpa kpa bpa .nil pass0 (pa_cons (pv 1) pa_nil)) pa_nil)) pe_int (nomark _)))).pt
  (pss_one (ps_ret (pe_call Gsd (hr.mono (by decide)) (by rfl) gsd ksd bsd .nil pass0 (pa_cons (pv 0) (pa_cons (pv 1) (pa_cons (pe_ifExp (pt_cmpR op_eq (pv 3) pe_int (nomark _)) pe_str pe_str) pa_nil))))))
  pss_nil)
 (pss_one (ps_ret (pe_call Ggo (hr.mono (by decide)) (by rfl) ggo kgo bgo .nil pass0 (pa_cons (pv 0) (pa_cons (pv 1) (pa_cons (pv 2) pa_nil)))))))), ?_⟩
    refine ⟨_, rfl, h, c, 6, rfl, hh, by decide, by decide, fun H1 r d1 r0 r1 => ?_⟩
    have st1 := Stay.of_drawn hh d1
    have hth1 := st1.lst hth (notHand_ints _)
    have htn1 := st1.lst htn (notHand_ints _)
    have go : ∀ {H2 : Hp}, Same H1 H2 → spGoes [.ref h, .ref th, .ref tn] H2 Q E0 := fun {H2} e2 =>
      ⟨h, c, th, tn, n, hs, s, rfl, st1.hand.same e2, e2 _ _ hth1, e2 _ _ htn1, s1, s2, hl, n2, n5, fun H' u D st nu dd => q H' u D ((st1.same e2).trans st) (by
        rcases hx : H u with _ | z
        · rfl
        · have nuh : u ≠ h := by
            rintro rfl
            obtain ⟨_, _, _, _, y, _⟩ := st1.hand.same e2
            rw [nu] at y
            cases y
          have y := (st1.same e2).but u z nuh hx
          rw [nu] at y
          cases y) dd⟩
    refine ⟨_, rfl, _, _, rfl, rfl, _, rfl, ite2 (fun d => ?_) (fun d => ?_)⟩
    · refine ⟨_, rfl, th, n, hs, rfl, hth1, hl, n5, fun H2 L ts e2 nL hL tL _ => ⟨L, _, rfl, .inl (.inl (.inl hL)), _, _, rfl, rfl, _, rfl, ?_⟩⟩
      have tl : (ts.map V.ref).length = (firstsF n hs).length := by rw [List.length_map, tL.len, List.length_map]
      rw [tl]
      refine ite2 (fun m => ?_) (fun m => ⟨_, rfl, _, rfl, _, rfl, go e2⟩)
      have m : 1 < (firstsF n hs).length := by have := of_decide_eq_true m; omega
      have sd : ∀ g : Bool, spSaid [.ref h, .ref th, .str (sayW g)] H2 Q E0 := fun g => ⟨h, c, th, n, hs, g, rfl, st1.hand.same e2, e2 _ _ hth1, hl, n5, m, fun H' u D st nu dd => q H' u D ((st1.same e2).trans st) (by
        rcases hx : H u with _ | z
        · rfl
        · have nuh : u ≠ h := by
            rintro rfl
            obtain ⟨_, _, _, _, y, _⟩ := st1.hand.same e2
            rw [nu] at y
            cases y
          have y := (st1.same e2).but u z nuh hx
          rw [nu] at y
          cases y) dd⟩
      refine ⟨_, rfl, _, rfl, _, rfl, rfl, _, rfl, iteB (fun _ => sd true) (fun _ => sd false)⟩
    · exact iteFo rfl ⟨_, rfl, _, rfl, _, rfl, go (Same.refl _)⟩
theorem same_put {H H' : Hp} {W : Addr} {o : HO} (e : Same H H') (n : H W = none) : Same H (upd H' W o) := fun b z hb => by
  rw [upd_ne (ne_of_none hb n)]
  exact e b z hb
theorem RLt.get {R : Addr} {H : Hp} : ∀ {rs : List Addr} {tab : List (List Nat)} {i : Nat} {row : List Nat}, RLt R H rs tab → tab[i]? = some row → ∃ r, rs[i]? = some r ∧ H r = some (.lst (wds row))
  | _, _, _, _, .nil, e => by cases e
  | _, _, 0, _, .cons h _ _, e => by cases e; exact ⟨_, rfl, h⟩
  | _, _, i + 1, _, .cons _ _ r, e => RLt.get (i := i) r e
/-- the word in another table -/
def otW (same : Bool) (k : Nat) : Nat := if same then (if k = 0 then 3 else 0) else (if k = 0 then 2 else if k = 1 then 0 else 1)
def otD (same : Bool) : List (Key × V) := if same then [(.inr "none", .str "asleep"), (.inr "asleep", .str "none")] else [(.inr "none", .str "needed"), (.inr "awake", .str "none"), (.inr "needed", .str "awake")]
theorem ot_get {same : Bool} {k : Nat} (h : if same = true then k = 0 ∨ 3 ≤ k else k < 3) : valV (mergeK [] (otD same)) (.inr (wd k)) = some (.str (wd (otW same k))) := by
  cases same with
  | true =>
    rcases h with rfl | h
    · decide +kernel
    · obtain ⟨m, rfl⟩ : ∃ m, k = m + 3 := ⟨k - 3, by omega⟩
      have e : otW true (m + 3) = 0 := by unfold otW; rw [if_pos rfl, if_neg (by omega)]
      rw [e]
      show valV (mergeK [] (otD true)) (.inr "asleep") = some (.str "none")
      decide +kernel
  | false =>
    have h : k < 3 := h
    match k, h with
    | 0, _ => decide +kernel
    | 1, _ => decide +kernel
    | 2, _ => decide +kernel
def spOw : Sp := fun vs H Q _ => ∃ (th tt : Addr) (n : Nat) (hs : List Nat) (rs : List Addr) (tab : List (List Nat)), vs = [.ref th, .ref tt] ∧ H th = some (.lst (ints_ hs)) ∧ H tt = some (.lst (rs.map V.ref)) ∧ RLt tt H rs tab ∧ StTab n hs tab ∧ n ≤ 5 ∧
  ∀ H' R rs' tab', Same H H' → H R = none → H' R = some (.lst (rs'.map V.ref)) → RLt R H' rs' tab' → StTab n hs tab' → Q (.ref R) H'
theorem ok_ow {f : Addr} {fd : FuncData} (F : Fun K "_law_other_rows" "_law_other_rows" s__law_other_rows f fd) (m_len : mg "len" = none) (m_range : mg "range" = none) : FnOk P w K mg base CX0 1 f fd ["_law_hands", "_law_rows"] spOw := by
  refine F.ok sc__law_other_rows (fun vs H Q E h => ?_) (fun cdv A outer s0 H vs Q E hr h => ?_)
  · obtain ⟨th, tt, n, hs, rs, tab, rfl, _⟩ := h
    rfl
  · obtain ⟨th, tt, n, hs, rs, tab, rfl, hth, htt, tR, S, n5, q⟩ := h
    refine ⟨_, (pss_cons (ps_par (by rfl) sc__law_other_rows.nd (i := 2) (j := 3) rfl rfl (by decide) rfl rfl (pa_cons (pe_callB call_len_seq (by rfl) m_len boot_len (pa_cons (pv 0) pa_nil)) (pa_cons (pe_lst pa_nil) pa_nil)) (by rfl))
 (pss_cons (ps_for PassesOwn.never rfl (pi_range1 rfl m_range (pa_cons (pv 2) pa_nil)) (pg_name (i := 4) sc__law_other_rows.nd rfl (by first | exact Or.inl rfl | exact Or.inr rfl))
  (pss_cons (ps_set (i := 5) sc__law_other_rows.nd rfl (by first | exact Or.inl rfl | exact Or.inr rfl) (pe_lst pa_nil))
 (pss_cons (ps_for PassesOwn.never rfl (pi_range1 rfl m_range (pa_cons (pv 2) pa_nil)) (pg_name (i := 6) sc__law_other_rows.nd rfl (by first | exact Or.inl rfl | exact Or.inr rfl))
  (pss_cons (ps_set (i := 7) sc__law_other_rows.nd rfl (by first | exact Or.inl rfl | exact Or.inr rfl) (pe_ifExp (pt_cmpR op_eq (pe_ix ix_list (pv 0) (pv 4) (fun _ _ => rfl)) (pe_ix ix_list (pv 0) (pv 6) (fun _ _ => rfl)) (nomark _)) (pe_disp (pps_cons pe_str pe_str (pps_cons pe_str pe_str pps_nil)) rfl rfl (by intro h; cases h) (by decide)) (pe_disp (pps_cons pe_str pe_str (pps_cons pe_str pe_str (pps_cons pe_str pe_str pps_nil))) rfl rfl (by intro h; cases h) (by decide))))
 (pss_one (ps_expr (pe_bm PySem.F.plainAttrs_list PySem.F.slot_list_append PySem.F.type_list_append mt_append (pv 5) (pa_cons (pe_ifExp (pt_cmpR op_eq (pv 4) (pv 6) (nomark _)) pe_str (pe_dget (K7S.hu1 hr) (pv 7) (pe_ix ix_list (pe_ix ix_list (pv 1) (pv 4) (fun _ _ => rfl)) (pv 6) (fun _ _ => rfl)) (fun _ _ => rfl))) pa_nil))))))
 (pss_one (ps_expr (pe_bm PySem.F.plainAttrs_list PySem.F.slot_list_append PySem.F.type_list_append mt_append (pv 3) (pa_cons (pv 5) pa_nil)))))))
 (pss_one (ps_ret (pv 3))))), ?_⟩
    have hl := S.hl
    have il : (ints_ hs).length = n := by unfold ints_; rw [List.length_map, hl]
    have hat0 : ∀ {j : Nat}, j < n → atI (ints_ hs) (0 + ((j : Nat) : Int)) = some (.int (hsAt hs j : Nat)) := fun h => by rw [Int.zero_add]; exact atI_nat (ints_at (by rw [hl]; exact h))
    -- the rows that were there
    have old : ∀ {i j : Nat}, i < n → j < n → ∃ r row, atI (rs.map V.ref) (0 + ((i : Nat) : Int)) = some (.ref r) ∧ H r = some (.lst (wds row)) ∧ atI (wds row) (0 + ((j : Nat) : Int)) = some (.str (wd (tabAt tab i j))) := fun {i j} hi hj => by
      have ti : tab[i]? = some (tab[i]'(by rw [S.tl]; exact hi)) := List.getElem?_eq_getElem _
      obtain ⟨r, h1, h2⟩ := tR.get ti
      have rl := S.rl _ (List.mem_of_getElem? ti)
      refine ⟨r, _, by rw [Int.zero_add]; exact atI_nat (by rw [List.getElem?_map, h1]; rfl), h2, ?_⟩
      rw [Int.zero_add]
      refine atI_nat ?_
      have g1 : tab.getD i [] = tab[i]'(by rw [S.tl]; exact hi) := by rw [List.getD_eq_getElem?_getD, ti]; rfl
      unfold wds tabAt
      rw [g1, List.getElem?_map, List.getElem?_eq_getElem (by rw [rl]; exact hj), List.getD_eq_getElem?_getD, List.getElem?_eq_getElem (by rw [rl]; exact hj)]
      rfl
    refine ⟨_, rfl, th, _, rfl, .inl (.inl (.inl hth)), by show 0 ≤ sizeLine; decide, fun R nR => ?_⟩
    rw [il]
    refine ⟨_, _, rfl, ?_⟩
    have eR : Same H (upd H R (.lst [])) := al nR
    have hR0 : upd H R (.lst []) R = some (.lst []) := upd_same
    generalize upd H R (.lst []) = HR at eR hR0 ⊢
    refine ⟨_, rfl, _, rfl, by omega, by omega, for_range (lo := 0) (n := n) (fun i σ H' => i ≤ n ∧ ∃ rs2 tab2 y4 y5 y6 y7, σ = [some (.ref th), some (.ref tt), some (.int (n : Nat)), some (.ref R), y4, y5, y6, y7] ∧ Same H H' ∧ H' R = some (.lst (rs2.map V.ref)) ∧ RLt R H' rs2 tab2 ∧ tab2.length = i ∧ ∀ (x : Nat) (row : List Nat), tab2[x]? = some row → RowOk n hs x row n)
      ⟨Nat.zero_le _, [], [], none, none, none, none, rfl, eR, hR0, .nil, rfl, fun x row h => nomatch h⟩ (fun i σ H' hi pv => ?_) (fun σ H' pv => ?_)⟩
    · obtain ⟨_, rs2, tab2, y4, y5, y6, y7, rfl, st, hR, t2, tl, ok⟩ := pv
      refine ⟨by show 0 ≤ sizeLine; decide, fun W nW => ?_⟩
      have nW0 := st.free nW
      have nWR : W ≠ R := fun e => by rw [e, hR] at nW; cases nW
      have eW := al (o := .lst []) nW
      have st2 := st.trans eW
      have hW2 : upd H' W (.lst []) W = some (.lst (wds [])) := upd_same
      have hR2 := eW _ _ hR
      have t22 := t2.mono fun b row nb hb => eW _ _ hb
      have nrW : ∀ r ∈ rs2, r ≠ W := by
        have : ∀ {rs : List Addr} {tab : List (List Nat)}, RLt R H' rs tab → ∀ r ∈ rs, r ≠ W := fun {rs tab} t => by
          induction t with
          | nil => exact fun r hr => nomatch hr
          | cons h _ _ ih =>
            intro r hr
            rcases List.mem_cons.mp hr with rfl | hr
            · exact ne_of_none h nW
            · exact ih r hr
        exact this t2
      clear t2 hR st
      generalize upd H' W (.lst []) = H2 at st2 hW2 hR2 t22 ⊢
      refine ⟨_, rfl, _, rfl, by omega, by omega, for_range (lo := 0) (n := n) (fun j σ H3 => j ≤ n ∧ ∃ row y6 y7, σ = [some (.ref th), some (.ref tt), some (.int (n : Nat)), some (.ref R), some (.int (0 + (i : Nat))), some (.ref W), y6, y7] ∧ Same H H3 ∧ H3 R = some (.lst (rs2.map V.ref)) ∧ RLt R H3 rs2 tab2 ∧ H3 W = some (.lst (wds row)) ∧ RowOk n hs i row j)
        ⟨Nat.zero_le _, [], y6, y7, rfl, st2, hR2, t22, hW2, ⟨rfl, fun y hy => absurd hy (Nat.not_lt_zero _)⟩⟩ (fun j σ H3 hj pv => ?_) (fun σ H3 pv => ?_)⟩
      · obtain ⟨_, row, y6, y7, rfl, st3, hR3, t3, hW3, ro⟩ := pv
        have wl : (wds row).length ≤ 1000 := by unfold wds; rw [List.length_map, ro.len]; omega
        have fin : ∀ (H5 : Hp) (u7 : Option V) (k : Nat), Same H3 H5 → ((j = i → k = 0) ∧ (j ≠ i → hsAt hs i = hsAt hs j → k = 0 ∨ 3 ≤ k) ∧ (j ≠ i → hsAt hs i ≠ hsAt hs j → k < 3)) →
            (j + 1 ≤ n ∧ ∃ row' y6 y7, [some (.ref th), some (.ref tt), some (.int (n : Nat)), some (.ref R), some (.int (0 + (i : Nat))), some (.ref W), some (V.int (0 + (j : Nat))), u7] = [some (.ref th), some (.ref tt), some (.int (n : Nat)), some (.ref R), some (.int (0 + (i : Nat))), some (.ref W), y6, y7] ∧ Same H (upd H5 W (.lst (wds row ++ [.str (wd k)]))) ∧ upd H5 W (.lst (wds row ++ [.str (wd k)])) R = some (.lst (rs2.map V.ref)) ∧ RLt R (upd H5 W (.lst (wds row ++ [.str (wd k)]))) rs2 tab2 ∧ upd H5 W (.lst (wds row ++ [.str (wd k)])) W = some (.lst (wds row')) ∧ RowOk n hs i row' (j + 1)) := fun H5 u7 k e5 hk => by
          refine ⟨hj, row ++ [k], _, _, rfl, same_put (st3.trans e5) nW0, by rw [upd_ne nWR.symm]; exact e5 _ _ hR3, ?_, by rw [upd_same, wds_snoc], ro.snoc hk⟩
          have : ∀ {rs : List Addr} {tab : List (List Nat)}, (∀ r ∈ rs, r ≠ W) → RLt R H5 rs tab → RLt R (upd H5 W (.lst (wds row ++ [.str (wd k)]))) rs tab := fun {rs tab} hn t => by
            induction t with
            | nil => exact .nil
            | cons h n _ ih => exact .cons (by rw [upd_ne (hn _ (List.mem_cons_self ..))]; exact h) n (ih fun r hr => hn r (List.mem_cons_of_mem _ hr))
          exact this nrW (t3.mono fun b row nb hb => e5 _ _ hb)
        have dij : decide (V.int (0 + (i : Nat)) = V.int (0 + (j : Nat))) = decide (i = j) := decide_eq_decide.mpr ⟨fun h => by injection h with h; omega, fun h => by rw [h]⟩
        obtain ⟨ro_, row0, o1, o2, o3⟩ := old hi hj
        refine ⟨_, rfl, _, rfl, th, _, _, _, rfl, rfl, .inl (.inl (st3 _ _ hth)), hat0 hi, _, rfl, _, rfl, th, _, _, _, rfl, rfl, .inl (.inl (st3 _ _ hth)), hat0 hj, rfl, _, rfl, ?_⟩
        rw [dVn]
        by_cases he : hsAt hs i = hsAt hs j
        · rw [decide_eq_true he]
          refine iteT fun p np => ⟨upd_same, otD true, rfl, by decide, ?_⟩
          have e4 : Same H3 (upd (upd H3 p (.dK [])) p (.dK (mergeK [] (otD true)))) := same_put (al np) np
          have hp4 : upd (upd H3 p (.dK [])) p (.dK (mergeK [] (otD true))) p = some (.dK (mergeK [] (otD true))) := upd_same
          generalize upd (upd H3 p (.dK [])) p (.dK (mergeK [] (otD true))) = H4 at e4 hp4 ⊢
          refine ⟨_, rfl, .inl ⟨rfl, _, .inl (.inl (e4 _ _ hW3))⟩, _, rfl, _, rfl, rfl, _, rfl, ?_⟩
          rw [dij]
          by_cases eij : i = j
          · rw [decide_eq_true eij]
            refine iteT ⟨W, _, _, rfl, rfl, e4 _ _ hW3, small1000 wl, ?_⟩
            exact fin _ _ 0 e4 ⟨fun _ => rfl, fun _ _ => .inl rfl, fun _ _ => by decide⟩
          · rw [decide_eq_false eij]
            refine iteF ⟨_, rfl, _, rfl, _, rfl, tt, _, _, _, rfl, rfl, .inl (.inl (e4 _ _ (st3 _ _ htt))), o1, _, rfl, ro_, _, _, _, rfl, rfl, .inl (.inl (e4 _ _ (st3 _ _ o2))), o3, p, _, rfl, .inl ⟨_, .inr (wd (tabAt tab i j)), .inl hp4, rfl, (ot_get (same := true) (S.same i j hi hj eij he)).symm⟩, W, _, _, rfl, rfl, e4 _ _ hW3, small1000 wl, ?_⟩
            exact fin _ _ (otW true (tabAt tab i j)) e4 ⟨fun e => absurd e.symm eij, fun _ _ => (by unfold otW; rw [if_pos rfl]; split <;> omega), fun _ d => absurd he d⟩
        · rw [decide_eq_false he]
          refine iteF fun p np => ⟨upd_same, otD false, rfl, by decide, ?_⟩
          have e4 : Same H3 (upd (upd H3 p (.dK [])) p (.dK (mergeK [] (otD false)))) := same_put (al np) np
          have hp4 : upd (upd H3 p (.dK [])) p (.dK (mergeK [] (otD false))) p = some (.dK (mergeK [] (otD false))) := upd_same
          generalize upd (upd H3 p (.dK [])) p (.dK (mergeK [] (otD false))) = H4 at e4 hp4 ⊢
          refine ⟨_, rfl, .inl ⟨rfl, _, .inl (.inl (e4 _ _ hW3))⟩, _, rfl, _, rfl, rfl, _, rfl, ?_⟩
          rw [dij]
          by_cases eij : i = j
          · rw [decide_eq_true eij]
            refine iteT ⟨W, _, _, rfl, rfl, e4 _ _ hW3, small1000 wl, ?_⟩
            exact fin _ _ 0 e4 ⟨fun _ => rfl, fun _ _ => .inl rfl, fun _ _ => by decide⟩
          · rw [decide_eq_false eij]
            refine iteF ⟨_, rfl, _, rfl, _, rfl, tt, _, _, _, rfl, rfl, .inl (.inl (e4 _ _ (st3 _ _ htt))), o1, _, rfl, ro_, _, _, _, rfl, rfl, .inl (.inl (e4 _ _ (st3 _ _ o2))), o3, p, _, rfl, .inl ⟨_, .inr (wd (tabAt tab i j)), .inl hp4, rfl, (ot_get (same := false) (S.apart i j hi hj eij he)).symm⟩, W, _, _, rfl, rfl, e4 _ _ hW3, small1000 wl, ?_⟩
            exact fin _ _ (otW false (tabAt tab i j)) e4 ⟨fun e => absurd e.symm eij, fun _ e => absurd e he, fun _ _ => (by unfold otW; rw [if_neg (by decide)]; split <;> first | omega | (split <;> omega))⟩
      · obtain ⟨_, row, y6, y7, rfl, st3, hR3, t3, hW3, ro⟩ := pv
        refine ⟨_, rfl, .inl ⟨rfl, _, .inl (.inl hR3)⟩, _, rfl, R, _, _, rfl, rfl, hR3, by rw [List.length_map, t3.len, tl]; exact small1000 (by omega), ?_⟩
        refine ⟨hi, rs2 ++ [W], tab2 ++ [row], _, _, _, _, rfl, same_put st3 nR, by rw [upd_same, List.map_append]; rfl, ?_, by rw [List.length_append, tl]; rfl, fun x row' hx => ?_⟩
        · exact (t3.mono fun b row nb hb => by rw [upd_ne nb]; exact hb).append (.cons (by rw [upd_ne nWR]; exact hW3) nWR .nil)
        · by_cases e : x < tab2.length
          · rw [List.getElem?_append_left e] at hx
            exact ok x row' hx
          · rw [List.getElem?_append_right (by omega)] at hx
            have xe : x = i := by
              have := (List.getElem?_eq_some_iff.mp hx).1
              rw [List.length_singleton] at this
              omega
            subst xe
            rw [tl, Nat.sub_self] at hx
            obtain rfl := Option.some.inj hx
            exact ro
    · obtain ⟨_, rs2, tab2, y4, y5, y6, y7, rfl, st, hR, t2, tl, ok⟩ := pv
      exact ⟨_, rfl, q H' R rs2 tab2 st nR hR t2 (rows_tab hl S.hm tl ok)⟩
end
end K7
end
/-! ## P44 -/
section
open PySem PySem.Spec PyProof.Rows L2
namespace K7
abbrev N__law_wrong : List Str := ["_law_hand_here", "_law_hands", "_law_deed_here", "_law_n", "_law_lot", "_law_b", "_law_apart", "_law_things"]
abbrev s__law_wrong : Stmt := topS 71
theorem sc__law_wrong : FnScope ["_law_hand_here", "_law_hands", "_law_deed_here", "_law_n", "_law_lot", "_law_b", "_law_apart", "_law_things"] ["_law_hand_here", "_law_hands", "_law_deed_here"] (defScope s__law_wrong) := ⟨rfl, rfl, rfl, by decide +kernel, rfl, by decide +kernel, by decide +kernel⟩
/-! ### deeds that cannot be done, and the words against them -/
inductive WrV (n : Nat) (hs : List Nat) (H : Hp) : V → Str → Prop where
  | non : WrV n hs H .non "deed"
  | none {t : Addr} (h : H t = some (.lst [])) : WrV n hs H (.ref t) "deed"
  | form {t : Addr} {z : Str} {xs : List V} (h : H t = some (.tup (.str z :: xs))) (hz : z ∈ dwords) (hl : xs.length < 64) (hf : lenOf z ≠ some (xs.length + 1)) : WrV n hs H (.ref t) "deed"
  | saidB {t b d : Addr} {z r : Str} {ys zs : List Nat} (h : H t = some (.tup [.str z, .ref b, .ref d])) (hz : z = "grant" ∨ z = "gives") (hb : H b = some (.lst (ints_ ys))) (hd : H d = some (.lst (ints_ zs))) (ly : ys.length < 64) (lz : zs.length < 64) (e : saidV n (ys.map fun c => ((c : Nat) : Int)) (zs.map fun c => ((c : Nat) : Int)) = .str r) : WrV n hs H (.ref t) r
  | goesB {t b tt : Addr} {r : Str} {ys : List Nat} {hd : Int} {ts : List Addr} {cs : List (Nat × Nat)} (h : H t = some (.tup [.str "goes", .ref b, .int hd, .ref tt])) (hb : H b = some (.lst (ints_ ys))) (ht : H tt = some (.lst (ts.map V.ref))) (hT : TAt H ts (pairs cs)) (nd : cs.Nodup) (c32 : cs.length ≤ 32) (ly : ys.length < 64) (e : goesV n (ys.map fun c => ((c : Nat) : Int)) hd cs = .str r) : WrV n hs H (.ref t) r
  | said {t b d : Addr} {z r : Str} {cs ds : List Nat} (h : H t = some (.tup [.str z, .ref b, .ref d])) (hz : z = "grant" ∨ z = "gives") (hb : H b = some (.lst (ints_ cs))) (hd : H d = some (.lst (ints_ ds))) (lc : LotN n cs) (ld : LotN n ds) (e : sdV hs cs ds = .str r) : WrV n hs H (.ref t) r
  | still {t b tt : Addr} {cs : List Nat} {hd : Nat} (h : H t = some (.tup [.str "goes", .ref b, .int (hd : Nat), .ref tt])) (hb : H b = some (.lst (ints_ cs))) (ht : H tt = some (.lst [])) (lc : LotN n cs) (h30 : hd ≤ 10 ^ 30) (e : mvF n hs cs hd = []) : WrV n hs H (.ref t) "still"
theorem sqN {H : Hp} {b : Addr} {l : List Nat} (h : H b = some (.lst (ints_ l))) : SqOf H b ((l.map fun c => ((c : Nat) : Int)).map V.int) := .inr (by rw [h]; unfold ints_; rw [List.map_map]; rfl)
theorem WrV.df {K : PySem.W.Frag} {n : Nat} {hs : List Nat} {H : Hp} {v : V} {z : Str} (h : WrV n hs H v z) : DfV K n hs H v (.str z) := by
  cases h with
  | non => exact .bad (.noseq ⟨"NoneType", fun _ _ => .base .non, any_non⟩)
  | none h => exact .bad (.none (.inr h))
  | form h hz hl hf => exact .bad (.form h hz hl hf)
  | saidB h hz hb hd ly lz e =>
    have y : ShV K n H _ (saidV n _ _) := .said h hz (sqN hb) (sqN hd) (by rw [List.length_map]; exact ly) (by rw [List.length_map]; exact lz)
    rw [e] at y
    exact .bad y
  | goesB h hb ht hT nd c32 ly e =>
    have y : ShV K n H _ (goesV n _ _ _) := .goes h (sqN hb) (.inr ht) hT nd c32 (by rw [List.length_map]; exact ly)
    rw [e] at y
    exact .bad y
  | said h hz hb hd lc ld e =>
    have y : DfV K n hs H _ (sdV hs _ _) := .said h hz (.inr hb) (.inr hd) lc ld
    rw [e] at y
    exact y
  | still h hb ht lc h30 e =>
    have y : DfV K n hs H _ (goV n hs _ _) := .goes ⟨⟨_, _, [], h, .inr hb, .inr ht, .nil⟩, lc.nd, lc.lt⟩ lc.ne h30 (tl := []) List.nodup_nil (Nat.zero_le _) rfl
    unfold goV at y
    rw [if_pos e] at y
    exact y
theorem WrV.mono {n : Nat} {hs : List Nat} {H H' : Hp} {v : V} {z : Str} (h : WrV n hs H v z) (e1 : ∀ b xs, H b = some (.tup xs) → H' b = some (.tup xs)) (e2 : ∀ b (l : List Nat), H b = some (.lst (ints_ l)) → H' b = some (.lst (ints_ l))) (e3 : ∀ b (l : List Addr), H b = some (.lst (l.map V.ref)) → H' b = some (.lst (l.map V.ref))) : WrV n hs H' v z := by
  cases h with
  | non => exact .non
  | none h => exact .none (e2 _ [] h)
  | form h hz hl hf => exact .form (e1 _ _ h) hz hl hf
  | saidB h hz hb hd ly lz e => exact .saidB (e1 _ _ h) hz (e2 _ _ hb) (e2 _ _ hd) ly lz e
  | goesB h hb ht hT nd c32 ly e => exact .goesB (e1 _ _ h) (e2 _ _ hb) (e3 _ _ ht) (hT.mono e1) nd c32 ly e
  | said h hz hb hd lc ld e => exact .said (e1 _ _ h) hz (e2 _ _ hb) (e2 _ _ hd) lc ld e
  | still h hb ht lc h30 e => exact .still (e1 _ _ h) (e2 _ _ hb) (e2 _ [] ht) lc h30 e
theorem WrV.same {n : Nat} {hs : List Nat} {H H' : Hp} {v : V} {z : Str} (h : WrV n hs H v z) (e : Same H H') : WrV n hs H' v z := h.mono (fun _ _ h => e _ _ h) (fun _ _ h => e _ _ h) fun _ _ h => e _ _ h
/-- such a deed beside its word -/
def WrP (n : Nat) (hs : List Nat) (H : Hp) (v : V) : Prop := ∃ u x z, v = .ref u ∧ H u = some (.tup [x, .str z]) ∧ WrV n hs H x z
theorem WrP.same {n : Nat} {hs : List Nat} {H H' : Hp} {v : V} (h : WrP n hs H v) (e : Same H H') : WrP n hs H' v := by
  obtain ⟨u, x, z, h1, h2, h3⟩ := h
  exact ⟨u, x, z, h1, e _ _ h2, h3.same e⟩
theorem WrP.stay {n : Nat} {hs : List Nat} {h c : Addr} {H H' : Hp} {v : V} (w : WrP n hs H v) (st : Stay h c H H') : WrP n hs H' v := by
  obtain ⟨u, x, z, h1, h2, h3⟩ := w
  exact ⟨u, x, z, h1, st.tup h2, h3.mono (fun _ _ h => st.tup h) (fun _ _ h => st.lst h (notHand_ints _)) fun _ _ h => st.lst h (notHand_refs _)⟩
/-! ### displays, piece by piece -/
abbrev PdT := Hp → V → Prop
def Mon (Pd : PdT) : Prop := ∀ H H' v, Same H H' → Pd H v → Pd H' v
def MonA (Ps : Hp → List V → Prop) : Prop := ∀ H H' v, Same H H' → Ps H v → Ps H' v
def EvP (t : TE) (σ : L2.St) (H : Hp) (Pd : PdT) : Prop := ∀ (H1 : Hp) (Q : VK), Same H H1 → (∀ H2 v, Same H1 H2 → Pd H2 v → Q v H2) → t σ H1 Q
def EvA (t : TA) (σ : L2.St) (H : Hp) (Ps : Hp → List V → Prop) : Prop := ∀ (H1 : Hp) (Q : List V → Hp → Prop), Same H H1 → (∀ H2 xs, Same H1 H2 → Ps H2 xs → Q xs H2) → t σ H1 Q
def PEq (v : V) : PdT := fun _ x => x = v
def PNil : Hp → List V → Prop := fun _ xs => xs = []
def PCons (Pd : PdT) (Ps : Hp → List V → Prop) : Hp → List V → Prop := fun H xs => ∃ x ys, xs = x :: ys ∧ Pd H x ∧ Ps H ys
def PTup (Ps : Hp → List V → Prop) : PdT := fun H v => ∃ u xs, v = .ref u ∧ H u = some (.tup xs) ∧ Ps H xs
def PLst (Ps : Hp → List V → Prop) : PdT := fun H v => ∃ u xs, v = .ref u ∧ H u = some (.lst xs) ∧ Ps H xs
theorem mEq (v : V) : Mon (PEq v) := fun _ _ _ _ h => h
theorem mNil : MonA PNil := fun _ _ _ _ h => h
theorem mCons {Pd : PdT} {Ps : Hp → List V → Prop} (m1 : Mon Pd) (m2 : MonA Ps) : MonA (PCons Pd Ps) := fun H H' v e ⟨x, ys, h1, h2, h3⟩ => ⟨x, ys, h1, m1 _ _ _ e h2, m2 _ _ _ e h3⟩
theorem mTup {Ps : Hp → List V → Prop} (m : MonA Ps) : Mon (PTup Ps) := fun _ _ _ e ⟨u, xs, h1, h2, h3⟩ => ⟨u, xs, h1, e _ _ h2, m _ _ _ e h3⟩
theorem mLst {Ps : Hp → List V → Prop} (m : MonA Ps) : Mon (PLst Ps) := fun _ _ _ e ⟨u, xs, h1, h2, h3⟩ => ⟨u, xs, h1, e _ _ h2, m _ _ _ e h3⟩
section
variable {σ : L2.St} {H : Hp} {Pd Pd' : PdT} {Ps : Hp → List V → Prop} {te : TE} {t : TA}
theorem ev_c {v : V} : EvP (tC v) σ H (PEq v) := fun H1 _ _ q => q H1 v (Same.refl _) rfl
theorem ev_var {i : Nat} {v : V} (h : σ[i]? = some (some v)) : EvP (tVar i) σ H (PEq v) := fun H1 _ _ q => ⟨v, h, q H1 v (Same.refl _) rfl⟩
theorem ev_nil : EvA tNil σ H PNil := fun H1 _ _ q => q H1 [] (Same.refl _) rfl
theorem ev_cons (h : EvP te σ H Pd) (m : Mon Pd) (r : EvA t σ H Ps) : EvA (tCons te t) σ H (PCons Pd Ps) := fun H1 _ e q =>
  h H1 _ e fun H2 v e2 p2 => r H2 _ (e.trans e2) fun H3 xs e3 p3 => q H3 _ (e2.trans e3) ⟨v, xs, rfl, m _ _ _ e3 p2, p3⟩
theorem ev_tup (h : EvA t σ H Ps) (m : MonA Ps) (l : ∀ H xs, Ps H xs → xs.length ≤ sizeLine) : EvP (tTup t) σ H (PTup Ps) := fun H1 _ e q =>
  h H1 _ e fun H2 xs e2 p2 => ⟨l _ _ p2, fun p np => q _ _ (e2.trans (al np)) ⟨p, xs, rfl, upd_same, m _ _ _ (al np) p2⟩⟩
theorem ev_lst (h : EvA t σ H Ps) (m : MonA Ps) (l : ∀ H xs, Ps H xs → xs.length ≤ sizeLine) : EvP (tLst t) σ H (PLst Ps) := fun H1 _ e q =>
  h H1 _ e fun H2 xs e2 p2 => ⟨l _ _ p2, fun p np => q _ _ (e2.trans (al np)) ⟨p, xs, rfl, upd_same, m _ _ _ (al np) p2⟩⟩
theorem EvP.imp (h : EvP te σ H Pd) (i : ∀ H' v, Same H H' → Pd H' v → Pd' H' v) : EvP te σ H Pd' := fun H1 _ e q => h H1 _ e fun H2 v e2 p => q H2 v e2 (i H2 v (e.trans e2) p)
theorem ev_ix {K : PySem.W.Frag} {i k : Nat} {a : Addr} {xs : List V} {v : V} (h : σ[i]? = some (some (.ref a))) (ha : H a = some (.lst xs)) (hk : xs[k]? = some v) : EvP (tOp (rIxL K) (tVar i) (tC (.int (k : Nat)))) σ H (PEq v) := fun H1 _ e q =>
  ⟨_, h, a, xs, k, v, rfl, rfl, .inl (.inl (e _ _ ha)), atI_nat hk, q H1 v (Same.refl _) rfl⟩
/-- a row of such deeds -/
def PAll (n : Nat) (hs : List Nat) (k : Nat) : Hp → List V → Prop := fun H xs => xs.length = k ∧ ∀ x ∈ xs, WrP n hs H x
theorem mAll {n k : Nat} {hs : List Nat} : MonA (PAll n hs k) := fun _ _ _ e h => ⟨h.1, fun x hx => (h.2 x hx).same e⟩
theorem ev_all0 {n : Nat} {hs : List Nat} : EvA tNil σ H (PAll n hs 0) := fun H1 _ _ q => q H1 [] (Same.refl _) ⟨rfl, fun _ h => nomatch h⟩
theorem ev_all {n k : Nat} {hs : List Nat} (h : EvP te σ H (WrP n hs)) (r : EvA t σ H (PAll n hs k)) : EvA (tCons te t) σ H (PAll n hs (k + 1)) := fun H1 _ e q =>
  h H1 _ e fun H2 v e2 p2 => r H2 _ (e.trans e2) fun H3 xs e3 p3 => q H3 _ (e2.trans e3) ⟨by rw [List.length_cons, p3.1], fun x hx => by
    rcases List.mem_cons.mp hx with rfl | hx
    · exact p2.same e3
    · exact p3.2 x hx⟩
/-- the pieces of a deed -/
def PInts (l : List Nat) : PdT := fun H v => ∃ p, v = .ref p ∧ H p = some (.lst (ints_ l))
def PTold (cs : List (Nat × Nat)) : PdT := fun H v => ∃ p ts, v = .ref p ∧ H p = some (.lst (ts.map V.ref)) ∧ TAt H ts (pairs cs)
theorem mInts (l : List Nat) : Mon (PInts l) := fun _ _ _ e ⟨p, h1, h2⟩ => ⟨p, h1, e _ _ h2⟩
theorem mTold (cs : List (Nat × Nat)) : Mon (PTold cs) := fun _ _ _ e ⟨p, ts, h1, h2, h3⟩ => ⟨p, ts, h1, e _ _ h2, TAt.same e h3⟩
theorem ev_i0 : EvP (tLst tNil) σ H (PInts []) := (ev_lst ev_nil mNil fun _ _ h => by rw [show _ = _ from h]; exact Nat.zero_le _).imp fun _ _ _ ⟨u, xs, h1, h2, h3⟩ => ⟨u, h1, by rw [h2, show xs = [] from h3]; rfl⟩
theorem ev_t0 : EvP (tLst tNil) σ H (PTold []) := ev_i0.imp fun _ _ _ ⟨u, h1, h2⟩ => ⟨u, [], h1, h2, .nil⟩
theorem ev_i1 {a : Nat} (h : EvP te σ H (PEq (.int (a : Nat)))) : EvP (tLst (tCons te tNil)) σ H (PInts [a]) :=
  (ev_lst (ev_cons h (mEq _) ev_nil) (mCons (mEq _) mNil) fun _ _ ⟨x, ys, h1, _, h3⟩ => by rw [h1, show ys = [] from h3]; show 1 ≤ sizeLine; decide).imp fun _ _ _ ⟨u, xs, h1, h2, x, ys, h3, h4, h5⟩ => ⟨u, h1, by rw [h2, h3, show x = _ from h4, show ys = [] from h5]; rfl⟩
theorem ev_i2 {a b : Nat} {tf : TE} (h : EvP te σ H (PEq (.int (a : Nat)))) (g : EvP tf σ H (PEq (.int (b : Nat)))) : EvP (tLst (tCons te (tCons tf tNil))) σ H (PInts [a, b]) :=
  (ev_lst (ev_cons h (mEq _) (ev_cons g (mEq _) ev_nil)) (mCons (mEq _) (mCons (mEq _) mNil)) fun _ _ ⟨x, ys, h1, _, x2, ys2, h3, _, h5⟩ => by rw [h1, h3, show ys2 = [] from h5]; show 2 ≤ sizeLine; decide).imp
    fun _ _ _ ⟨u, xs, h1, h2, x, ys, h3, h4, x2, ys2, h5, h6, h7⟩ => ⟨u, h1, by rw [h2, h3, h5, show x = _ from h4, show x2 = _ from h6, show ys2 = [] from h7]; rfl⟩
theorem ev_t1 : EvP (tLst (tCons (tTup (tCons (tC (.int 0)) (tCons (tC (.int 0)) tNil))) tNil)) σ H (PTold [(0, 0)]) :=
  (ev_lst (ev_cons (ev_tup (ev_cons ev_c (mEq (.int 0)) (ev_cons ev_c (mEq (.int 0)) ev_nil)) (mCons (mEq _) (mCons (mEq _) mNil)) fun _ _ ⟨x, ys, h1, _, x2, ys2, h3, _, h5⟩ => by rw [h1, h3, show ys2 = [] from h5]; show 2 ≤ sizeLine; decide) (mTup (mCons (mEq _) (mCons (mEq _) mNil))) ev_nil) (mCons (mTup (mCons (mEq _) (mCons (mEq _) mNil))) mNil)
    fun _ _ ⟨x, ys, h1, _, h3⟩ => by rw [h1, show ys = [] from h3]; show 1 ≤ sizeLine; decide).imp
    fun _ _ _ ⟨u, xs, h1, h2, x, ys, h3, ⟨w, zs, g1, g2, y1, r1, g3, g4, y2, r2, g5, g6, g7⟩, h5⟩ => ⟨u, [w], h1, by rw [h2, h3, g1, show ys = [] from h5]; rfl, .cons (by rw [g2, g3, g5, show y1 = _ from g4, show y2 = _ from g6, show r2 = [] from g7]; rfl) .nil⟩
theorem ev_lv {i : Nat} {a : Addr} {l : List Nat} (h : σ[i]? = some (some (.ref a))) (ha : H a = some (.lst (ints_ l))) : EvP (tVar i) σ H (PInts l) := fun H1 _ e q => ⟨_, h, q H1 _ (Same.refl _) ⟨a, rfl, e _ _ ha⟩⟩
/-- (deed, word) -/
theorem ev_pair {n : Nat} {hs : List Nat} {z : Str} (h : EvP te σ H fun H v => WrV n hs H v z) : EvP (tTup (tCons te (tCons (tC (.str z)) tNil))) σ H (WrP n hs) :=
  (ev_tup (ev_cons h (fun _ _ _ e w => w.same e) (ev_cons ev_c (mEq (.str z)) ev_nil)) (mCons (fun _ _ _ e w => w.same e) (mCons (mEq _) mNil)) fun _ _ ⟨x, ys, h1, _, x2, ys2, h3, _, h5⟩ => by rw [h1, h3, show ys2 = [] from h5]; show 2 ≤ sizeLine; decide).imp
    fun _ _ _ ⟨u, xs, h1, h2, x, ys, h3, h4, x2, ys2, h5, h6, h7⟩ => ⟨u, x, z, h1, by rw [h2, h3, h5, show x2 = _ from h6, show ys2 = [] from h7], h4⟩
theorem ev_goes {ys : List Nat} {hd : Int} {cs : List (Nat × Nat)} {tb th tt : TE} (hb : EvP tb σ H (PInts ys)) (hh : EvP th σ H (PEq (.int hd))) (ht : EvP tt σ H (PTold cs)) (z : Str) :
    EvP (tTup (tCons (tC (.str z)) (tCons tb (tCons th (tCons tt tNil))))) σ H fun H v => ∃ t b d ts, v = .ref t ∧ H t = some (.tup [.str z, .ref b, .int hd, .ref d]) ∧ H b = some (.lst (ints_ ys)) ∧ H d = some (.lst (ts.map V.ref)) ∧ TAt H ts (pairs cs) :=
  (ev_tup (ev_cons ev_c (mEq (.str z)) (ev_cons hb (mInts _) (ev_cons hh (mEq _) (ev_cons ht (mTold _) ev_nil)))) (mCons (mEq _) (mCons (mInts _) (mCons (mEq _) (mCons (mTold _) mNil))))
    fun _ _ ⟨x, y1, h1, _, x2, y2, h3, _, x3, y3, h5, _, x4, y4, h7, _, h9⟩ => by rw [h1, h3, h5, h7, show y4 = [] from h9]; show 4 ≤ sizeLine; decide).imp
    fun _ _ _ ⟨u, xs, h1, h2, x, y1, h3, h4, x2, y2, h5, ⟨b, b1, b2⟩, x3, y3, h7, h8, x4, y4, h9, ⟨d, ts, d1, d2, d3⟩, h11⟩ => ⟨u, b, d, ts, h1, by rw [h2, h3, h5, h7, h9, show x = _ from h4, b1, show x3 = _ from h8, d1, show y4 = [] from h11], b2, d2, d3⟩
theorem ev_said {ys zs : List Nat} {tb td : TE} (hb : EvP tb σ H (PInts ys)) (hd : EvP td σ H (PInts zs)) (z : Str) :
    EvP (tTup (tCons (tC (.str z)) (tCons tb (tCons td tNil)))) σ H fun H v => ∃ t b d, v = .ref t ∧ H t = some (.tup [.str z, .ref b, .ref d]) ∧ H b = some (.lst (ints_ ys)) ∧ H d = some (.lst (ints_ zs)) :=
  (ev_tup (ev_cons ev_c (mEq (.str z)) (ev_cons hb (mInts _) (ev_cons hd (mInts _) ev_nil))) (mCons (mEq _) (mCons (mInts _) (mCons (mInts _) mNil)))
    fun _ _ ⟨x, y1, h1, _, x2, y2, h3, _, x3, y3, h5, _, h7⟩ => by rw [h1, h3, h5, show y3 = [] from h7]; show 3 ≤ sizeLine; decide).imp
    fun _ _ _ ⟨u, xs, h1, h2, x, y1, h3, h4, x2, y2, h5, ⟨b, b1, b2⟩, x3, y3, h7, ⟨d, d1, d2⟩, h9⟩ => ⟨u, b, d, h1, by rw [h2, h3, h5, h7, show x = _ from h4, b1, d1, show y3 = [] from h9], b2, d2⟩
theorem ev_three {ys : List Nat} {hd : Int} {tb th : TE} (hb : EvP tb σ H (PInts ys)) (hh : EvP th σ H (PEq (.int hd))) (z : Str) :
    EvP (tTup (tCons (tC (.str z)) (tCons tb (tCons th tNil)))) σ H fun H v => ∃ t b, v = .ref t ∧ H t = some (.tup [.str z, .ref b, .int hd]) :=
  (ev_tup (ev_cons ev_c (mEq (.str z)) (ev_cons hb (mInts _) (ev_cons hh (mEq _) ev_nil))) (mCons (mEq _) (mCons (mInts _) (mCons (mEq _) mNil)))
    fun _ _ ⟨x, y1, h1, _, x2, y2, h3, _, x3, y3, h5, _, h7⟩ => by rw [h1, h3, h5, show y3 = [] from h7]; show 3 ≤ sizeLine; decide).imp
    fun _ _ _ ⟨u, xs, h1, h2, x, y1, h3, h4, x2, y2, h5, ⟨b, b1, _⟩, x3, y3, h7, h8, h9⟩ => ⟨u, b, h1, by rw [h2, h3, h5, h7, show x = _ from h4, b1, show x3 = _ from h8, show y3 = [] from h9]⟩
end
theorem wr_refs {n : Nat} {hs : List Nat} {H' : Hp} : ∀ {xs : List V} {k : Nat}, PAll n hs k H' xs → ∃ us : List Addr, xs = us.map V.ref ∧ us.length = k ∧ ∀ x ∈ us, WrP n hs H' (.ref x)
  | [], k, h => ⟨[], rfl, h.1, fun _ h => nomatch h⟩
  | x :: xs, 0, h => nomatch h.1
  | x :: xs, k + 1, h => by
    obtain ⟨us, h1, h2, h3⟩ := wr_refs (xs := xs) (k := k) ⟨Nat.succ.inj h.1, fun y hy => h.2 y (List.mem_cons_of_mem _ hy)⟩
    have w := h.2 x List.mem_cons_self
    obtain ⟨u, y, z, rfl, w2⟩ := id w
    exact ⟨u :: us, by rw [h1]; rfl, by rw [List.length_cons, h2], fun v hv => by
      rcases List.mem_cons.mp hv with rfl | hv
      · exact w
      · exact h3 v hv⟩
theorem ev_neg {σ : L2.St} {H : Hp} : EvP (tUn (rU fun i => V.int (-i)) (tC (.int 1))) σ H (PEq (.int (-1))) := fun H1 _ _ q => ⟨_, rfl, q H1 _ (Same.refl _) rfl⟩
theorem ev_pow {σ : L2.St} {H : Hp} : EvP (tOp (rI0 fun i j => V.int (i + j)) (tOp (rI CPow fun i j => V.int (i ^ j.toNat)) (tC (.int 10)) (tC (.int 30))) (tC (.int 1))) σ H (PEq (.int (10 ^ 30 + 1))) := fun H1 _ _ q =>
  ⟨_, _, rfl, rfl, ⟨by decide, by decide, by decide⟩, _, _, rfl, rfl, q H1 _ (Same.refl _) (by show V.int ((10 : Int) ^ (30 : Int).toNat + 1) = _; congr 1)⟩
theorem t_nil {H : Hp} {ts : List Addr} (h : TAt H ts (pairs [])) : ts = [] := by cases ts with | nil => rfl | cons _ _ => cases h
/-! ### the words -/
theorem castN (l : List Nat) : (l.map fun c => ((c : Nat) : Int)).map V.int = ints_ l := by unfold ints_; rw [List.map_map]; rfl
theorem cv_ok {n : Nat} {l : List Nat} (L : LotN n l) : cellsV (n : Nat) ((l.map fun c => ((c : Nat) : Int)).map V.int) 1 = true := by rw [castN]; exact cells_lot L.lt L.nd L.ne
theorem cv_no {n : Nat} {l : List Nat} (h : l = [] ∨ ¬ l.Nodup ∨ n ∈ l) : cellsV (n : Nat) ((l.map fun c => ((c : Nat) : Int)).map V.int) 1 = false := by
  rw [castN]
  unfold cellsV
  rcases h with rfl | h | h
  · rfl
  · have e : decide ((ints_ l).map intOf).Nodup = false := decide_eq_false fun z => h (by
      unfold ints_ at z
      rw [List.map_map, List.nodup_iff_pairwise_ne, List.pairwise_map] at z
      exact List.nodup_iff_pairwise_ne.mpr (z.imp fun ne e => ne (by rw [e])))
    rw [e, Bool.and_false]
  · have e : (ints_ l).all (fun x => wholeV x 0 (((n : Nat) : Int) - 1)) = false := by
      refine Bool.eq_false_iff.mpr fun z => ?_
      have y := List.all_eq_true.mp z (.int (n : Nat)) (List.mem_map.mpr ⟨n, h, rfl⟩)
      rw [wholeV_int, Bool.and_eq_true] at y
      have := of_decide_eq_true y.2
      omega
    rw [e, Bool.and_false, Bool.false_and]
theorem gv_cells {n : Nat} {l : List Nat} {hd : Int} {cs : List (Nat × Nat)} (h : l = [] ∨ ¬ l.Nodup ∨ n ∈ l) : goesV n (l.map fun c => ((c : Nat) : Int)) hd cs = .str "cells" := by unfold goesV; rw [if_pos (cv_no h)]
theorem gv_hand {n : Nat} {l : List Nat} {hd : Int} {cs : List (Nat × Nat)} (L : LotN n l) (h : ¬ (0 ≤ hd ∧ hd ≤ 10 ^ 30)) : goesV n (l.map fun c => ((c : Nat) : Int)) hd cs = .str "hand" := by unfold goesV; rw [if_neg (by rw [cv_ok L]; decide), if_pos h]
theorem gv_told {n : Nat} {l : List Nat} {hd : Int} (L : LotN n l) (h : 0 ≤ hd ∧ hd ≤ 10 ^ 30) : goesV n (l.map fun c => ((c : Nat) : Int)) hd [(0, 0)] = .str "told" := by
  unfold goesV
  rw [if_neg (by rw [cv_ok L]; decide), if_neg (not_not_intro h), if_neg]
  have e : coB n (0, 0) = false := by
    unfold coB twoV cellsV
    have : decide ((ints_ [0, 0]).map intOf).Nodup = false := by decide +kernel
    rw [this, Bool.and_false, Bool.false_and]
  show ¬ (coB n (0, 0) && true) = true
  rw [e]
  decide
theorem sv_cells {n : Nat} {a : Nat} : saidV n ([a].map fun c => ((c : Nat) : Int)) ([n].map fun c => ((c : Nat) : Int)) = .str "cells" := by
  unfold saidV
  rw [cv_no (l := [n]) (.inr (.inr List.mem_cons_self)), Bool.and_false]
  rfl
theorem lot0 {n : Nat} (h : 0 < n) : LotN n [0] := ⟨fun c hc => by rw [List.mem_singleton.mp hc]; exact h, List.nodup_cons.mpr ⟨List.not_mem_nil, List.nodup_nil⟩, Nat.succ_pos _⟩
theorem lotO {n : Nat} {hs : List Nat} (h : 0 < n) : LotN n (ownF n hs 0) := ⟨(sub_rng own_sub).1, (sub_rng own_sub).2, List.length_pos_iff.mpr (own_ne h)⟩
theorem one_own {n : Nat} {hs : List Nat} {a : Nat} {l : List Nat} (h : ∀ x ∈ l, x ∈ ownF n hs a) : oneB hs l = true := by
  have h1 : ∀ x ∈ l, hsAt hs x = hsAt hs a := fun x hx => of_decide_eq_true (List.mem_filter.mp (h x hx)).2
  exact List.all_eq_true.mpr fun x hx => List.all_eq_true.mpr fun y hy => decide_eq_true (by rw [h1 x hx, h1 y hy])
theorem sd_same {n : Nat} {hs cs ds : List Nat} {a : Nat} (hc : ∀ x ∈ cs, x ∈ ownF n hs a) (hd : ∀ x ∈ ds, x ∈ ownF n hs a) (c0 : 0 < cs.length) (d0 : 0 < ds.length) : sdV hs cs ds = .str "same" := by
  have h1 : ∀ x ∈ cs, hsAt hs x = hsAt hs a := fun x hx => of_decide_eq_true (List.mem_filter.mp (hc x hx)).2
  have h2 : ∀ x ∈ ds, hsAt hs x = hsAt hs a := fun x hx => of_decide_eq_true (List.mem_filter.mp (hd x hx)).2
  obtain ⟨x0, hx0⟩ := List.exists_mem_of_length_pos c0
  obtain ⟨y0, hy0⟩ := List.exists_mem_of_length_pos d0
  have al : alikeB hs cs ds = true := by
    unfold alikeB
    rw [Bool.and_eq_true]
    exact ⟨List.all_eq_true.mpr fun x hx => List.any_eq_true.mpr ⟨y0, hy0, decide_eq_true (by rw [h1 x hx, h2 y0 hy0])⟩, List.all_eq_true.mpr fun y hy => List.any_eq_true.mpr ⟨x0, hx0, decide_eq_true (by rw [h1 x0 hx0, h2 y hy])⟩⟩
  unfold sdV
  rw [one_own hc, one_own hd, al]
  rfl
theorem sd_one {hs cs ds : List Nat} (h : oneB hs cs = false ∨ oneB hs ds = false) : sdV hs cs ds = .str "one" := by
  unfold sdV
  rw [if_pos]
  rcases h with h | h
  · rw [h, Bool.false_and]
  · rw [h, Bool.and_false]
theorem mv_still {n : Nat} {hs : List Nat} : mvF n hs (ownF n hs 0) (hsAt hs 0 : Nat) = [] := by
  refine List.eq_nil_iff_forall_not_mem.mpr fun b hb => ?_
  have lt : b < n := (sub_rng mv_sub).1 b hb
  obtain ⟨h1, h2⟩ := (mv_mem lt).mp hb
  exact h2 ((own_mem lt).mp h1)
section
variable {P : Program} {w : World} {K : PySem.W.Frag} {mg : Str → Option Value} {base : Heap}
def spWr : Sp := fun vs H Q _ => ∃ (h c th : Addr) (y : V) (n : Nat) (hs : List Nat), vs = [.ref h, .ref th, y] ∧ Hand H h c ∧ H th = some (.lst (ints_ hs)) ∧ hs.length = n ∧ 2 ≤ n ∧ n ≤ 5 ∧ (∀ x ∈ hs, x ≤ 10 ^ 30) ∧
  ∀ H' v, Stay h c H H' → WrP n hs H' v → Q v H'
theorem ok_wr {f fpk : Addr} {fd fdpk : FuncData} (F : Fun K "_law_wrong" "_law_wrong" s__law_wrong f fd)
    (Gpk : FnOk P w K mg base CX0 3 fpk fdpk ["_law_hand_here", "_law_things"] spPick) (gpk : mg "_law_pick" = some (.ref fpk)) (kpk : PySem.W.keepIn K (.ref fpk) = true) (bpk : Binds K fdpk ["_law_hand_here", "_law_things"] [])
    (m_len : mg "len" = none) (m_range : mg "range" = none) : FnOk P w K mg base CX0 4 f fd ["_law_hand_here", "_law_hands", "_law_deed_here"] spWr := by
  refine F.ok sc__law_wrong (fun vs H Q E h => ?_) (fun cdv A outer s H vs Q E hr h => ?_)
  · obtain ⟨h, c, th, y, n, hs, rfl, _⟩ := h
    rfl
  · obtain ⟨h, c, th, y, n, hs, rfl, hh, hth, hl, n2, n5, hm, q⟩ := h
    refine ⟨_, (pss_cons (ps_set (i := 3) sc__law_wrong.nd rfl (by first | exact Or.inl rfl | exact Or.inr rfl) (pe_callB call_len_seq (by rfl) m_len boot_len (pa_cons (pv 1) pa_nil)))
 (pss_cons (ps_setLc (i := 4) (own := [("_law_b", 5)]) (g := gName 5) rfl sc__law_wrong.nd rfl rfl (sw_true rfl rfl rfl (by decide +kernel)) (pi_range1 rfl m_range (pa_cons (pv 3) pa_nil)) (blkOk_by (own := [("_law_b", 5)]) (N := N__law_wrong) (sc := defScope s__law_wrong) (by decide +kernel)) (fun _ _ _ _ _ => (pg_name (i := 5) sc__law_wrong.nd rfl (by first | exact Or.inl rfl | exact Or.inr rfl))) (fun _ _ _ _ _ => (pts_one (pt_cmpR op_eq (pe_ix (show IxR _ (rIxL K) from ix_list) (pv 1) (pv 5) (fun _ _ => rfl)) (pe_ix (show IxR _ (rIxL K) from ix_list) (pv 1) pe_int (fun _ _ => rfl)) (nomark _)))) (fun _ _ _ _ _ => (pv 5)))
 (pss_cons (ps_setLc (i := 6) (own := [("_law_b", 5)]) (g := gName 5) rfl sc__law_wrong.nd rfl rfl (sw_true rfl rfl rfl (by decide +kernel)) (pi_range1 rfl m_range (pa_cons (pv 3) pa_nil)) (blkOk_by (own := [("_law_b", 5)]) (N := N__law_wrong) (sc := defScope s__law_wrong) (by decide +kernel)) (fun _ _ _ _ _ => (pg_name (i := 5) sc__law_wrong.nd rfl (by first | exact Or.inl rfl | exact Or.inr rfl))) (fun _ _ _ _ _ => (pts_one (pt_cmpR op_ne (pe_ix (show IxR _ (rIxL K) from ix_list) (pv 1) (pv 5) (fun _ _ => rfl)) (pe_ix (show IxR _ (rIxL K) from ix_list) (pv 1) pe_int (fun _ _ => rfl)) (nomark _)))) (fun _ _ _ _ _ => (pv 5)))
 (Evl.pss_cut (ps_set (i := 7) sc__law_wrong.nd rfl (by first | exact Or.inl rfl | exact Or.inr rfl) (pe_lst (pa_cons (pe_tup (pa_cons (pe_tup (pa_cons pe_str (pa_cons (pv 4) (pa_cons (pe_ix ix_list (pv 1) pe_int (fun _ _ => rfl)) (pa_cons (pe_lst pa_nil) pa_nil))))) (pa_cons pe_str pa_nil))) (pa_cons (pe_tup (pa_cons (pe_tup (pa_cons pe_str (pa_cons (pe_lst (pa_cons pe_int pa_nil)) (pa_cons (pe_lst (pa_cons pe_int pa_nil)) pa_nil)))) (pa_cons pe_str pa_nil))) (pa_cons (pe_tup (pa_cons (pe_tup (pa_cons pe_str (pa_cons (pv 4) (pa_cons (pe_lst (pa_cons pe_int pa_nil)) pa_nil)))) (pa_cons pe_str pa_nil))) (pa_cons (pe_tup (pa_cons pe_non (pa_cons pe_str pa_nil))) pa_nil))))))
 (Evl.pss_cut (ps_set (i := 7) sc__law_wrong.nd rfl (by first | exact Or.inl rfl | exact Or.inr rfl) (pe_op op_cat (pv 7) (pe_lst (pa_cons (pe_tup (pa_cons (pe_tup (pa_cons pe_str (pa_cons (pe_lst (pa_cons pe_int pa_nil)) (pa_cons pe_int (pa_cons (pe_lst pa_nil) pa_nil))))) (pa_cons pe_str pa_nil))) (pa_cons (pe_tup (pa_cons (pe_tup (pa_cons pe_str (pa_cons (pe_lst (pa_cons pe_int pa_nil)) (pa_cons pe_int pa_nil)))) (pa_cons pe_str pa_nil))) (pa_cons (pe_tup (pa_cons (pe_lst pa_nil) (pa_cons pe_str pa_nil))) (pa_cons (pe_tup (pa_cons (pe_tup (pa_cons pe_str (pa_cons (pe_lst pa_nil) (pa_cons pe_int (pa_cons (pe_lst pa_nil) pa_nil))))) (pa_cons pe_str pa_nil))) pa_nil)))))))
 (Evl.pss_cut (ps_set (i := 7) sc__law_wrong.nd rfl (by first | exact Or.inl rfl | exact Or.inr rfl) (pe_op op_cat (pv 7) (pe_lst (pa_cons (pe_tup (pa_cons (pe_tup (pa_cons pe_str (pa_cons (pe_lst (pa_cons pe_int (pa_cons pe_int pa_nil))) (pa_cons pe_int (pa_cons (pe_lst pa_nil) pa_nil))))) (pa_cons pe_str pa_nil))) (pa_cons (pe_tup (pa_cons (pe_tup (pa_cons pe_str (pa_cons (pe_lst (pa_cons pe_int pa_nil)) (pa_cons (pe_lst (pa_cons (pv 3) pa_nil)) pa_nil)))) (pa_cons pe_str pa_nil))) (pa_cons (pe_tup (pa_cons (pe_tup (pa_cons pe_str (pa_cons (pe_lst (pa_cons (pv 3) pa_nil)) (pa_cons (pe_un un_neg pe_int) (pa_cons (pe_lst pa_nil) pa_nil))))) (pa_cons pe_str pa_nil))) pa_nil))))))
 (Evl.pss_cut (ps_set (i := 7) sc__law_wrong.nd rfl (by first | exact Or.inl rfl | exact Or.inr rfl) (pe_op op_cat (pv 7) (pe_lst (pa_cons (pe_tup (pa_cons (pe_tup (pa_cons pe_str (pa_cons (pv 4) (pa_cons (pe_un un_neg pe_int) (pa_cons (pe_lst (pa_cons (pe_tup (pa_cons pe_int (pa_cons pe_int pa_nil))) pa_nil)) pa_nil))))) (pa_cons pe_str pa_nil))) (pa_cons (pe_tup (pa_cons (pe_tup (pa_cons pe_str (pa_cons (pv 4) (pa_cons (pe_ix ix_list (pv 1) pe_int (fun _ _ => rfl)) (pa_cons (pe_lst (pa_cons (pe_tup (pa_cons pe_int (pa_cons pe_int pa_nil))) pa_nil)) pa_nil))))) (pa_cons pe_str pa_nil))) (pa_cons (pe_tup (pa_cons (pe_tup (pa_cons pe_str (pa_cons (pv 4) (pa_cons (pe_op op_add (pe_op op_pow pe_int pe_int) pe_int) (pa_cons (pe_lst pa_nil) pa_nil))))) (pa_cons pe_str pa_nil))) pa_nil))))))
 (Evl.pss_cut (ps_if (pt_cmpR (op_neD hr.units) (pv 6) (pe_lst pa_nil) (nomark _))
  (pss_one (ps_set (i := 7) sc__law_wrong.nd rfl (by first | exact Or.inl rfl | exact Or.inr rfl) (pe_op op_cat (pv 7) (pe_lst (pa_cons (pe_tup (pa_cons (pe_tup (pa_cons pe_str (pa_cons (pe_lst (pa_cons pe_int (pa_cons (pe_ix ix_list (pv 6) pe_int (fun _ _ => rfl)) pa_nil))) (pa_cons (pe_lst (pa_cons pe_int pa_nil)) pa_nil)))) (pa_cons pe_str pa_nil))) (pa_cons (pe_tup (pa_cons (pe_tup (pa_cons pe_str (pa_cons (pe_lst (pa_cons pe_int pa_nil)) (pa_cons (pe_lst (pa_cons pe_int (pa_cons (pe_ix ix_list (pv 6) pe_int (fun _ _ => rfl)) pa_nil))) pa_nil)))) (pa_cons pe_str pa_nil))) pa_nil))))))
  pss_nil)
 (pss_one (ps_ret (pe_call Gpk (hr.mono (by decide)) (by rfl) gpk kpk bpk .nil pass0 (pa_cons (pv 0) (pa_cons (pv 7) pa_nil))))))))))))), ?_⟩
    have n0 : 0 < n := by omega
    have il : (ints_ hs).length = n := by unfold ints_; rw [List.length_map, hl]
    have hat0 : ∀ {j : Nat}, j < n → atI (ints_ hs) (0 + ((j : Nat) : Int)) = some (.int (hsAt hs j : Nat)) := fun h => by rw [Int.zero_add]; exact atI_nat (ints_at (by rw [hl]; exact h))
    have hs0 : (ints_ hs)[0]? = some (.int (hsAt hs 0 : Nat)) := ints_at (by rw [hl]; exact n0)
    have x30 : hsAt hs 0 ≤ 10 ^ 30 := by
      refine hm _ ?_
      unfold hsAt
      rw [List.getD_eq_getElem?_getD, List.getElem?_eq_getElem (by rw [hl]; exact n0)]
      exact List.getElem_mem _
    refine ⟨_, rfl, th, _, rfl, .inl (.inl (.inl hth)), ?_⟩
    rw [il]
    dsimp only [gName]
    rw [tSeq, tAsg]
    refine lc_pkR (n := n) (p := fun b => decide (hsAt hs b = hsAt hs 0)) (fun R r => ⟨_, rfl, r⟩) (by omega) (fun _ => rfl) (fun _ => rfl) (fun j H2 hj e2 R hR => ?_) (fun Lo H1 nLo e1 hLo => ?_)
    · refine ⟨_, rfl, _, rfl, th, _, _, _, rfl, rfl, .inl (.inl (e2 _ _ hth)), hat0 hj, _, rfl, th, _, 0, _, rfl, rfl, .inl (.inl (e2 _ _ hth)), atI_nat (j := 0) hs0, rfl, _, rfl, ?_⟩
      rw [dVn]
      exact hR _ (Same.refl _)
    rw [show ((List.range n).filter fun b => decide (hsAt hs b = hsAt hs 0)) = ownF n hs 0 from rfl] at hLo
    have hth1 := e1 _ _ hth
    dsimp only [gName]
    rw [tSeq, tAsg]
    refine lc_pkR (n := n) (p := fun b => !decide (hsAt hs b = hsAt hs 0)) (fun R r => ⟨_, rfl, r⟩) (by omega) (fun _ => rfl) (fun _ => rfl) (fun j H3 hj e3 R hR => ?_) (fun Ap H2 nAp e2 hAp => ?_)
    · refine ⟨_, rfl, _, rfl, th, _, _, _, rfl, rfl, .inl (.inl (e3 _ _ hth1)), hat0 hj, _, rfl, th, _, 0, _, rfl, rfl, .inl (.inl (e3 _ _ hth1)), atI_nat (j := 0) hs0, rfl, _, rfl, ?_⟩
      rw [dVn]
      exact hR _ (Same.refl _)
    have hth2 := e2 _ _ hth1
    have hLo2 := e2 _ _ hLo
    have e12 := e1.trans e2
    generalize hap : ((List.range n).filter fun b => !decide (hsAt hs b = hsAt hs 0)) = ap at hAp
    -- what is known at each turn
    let J : Nat → L2.St → Hp → Prop := fun k σ' H' => ∃ (L : Addr) (us : List Addr), σ' = [some (.ref h), some (.ref th), some y, some (.int (n : Nat)), some (.ref Lo), none, some (.ref Ap), some (.ref L)] ∧ Same H2 H' ∧ H' L = some (.lst (us.map V.ref)) ∧ us.length = k ∧ ∀ x ∈ us, WrP n hs H' (.ref x)
    have refs : ∀ {H' : Hp} {xs : List V} {k : Nat}, PAll n hs k H' xs → ∃ us : List Addr, xs = us.map V.ref ∧ us.length = k ∧ ∀ x ∈ us, WrP n hs H' (.ref x) := fun {H' xs k} h => by
      exact wr_refs h
    have n5' : ∀ {l : List Nat}, LotN n l → l.length < 64 := fun L => by
      have := cells_len L.nd L.lt
      omega
    have L0 := lot0 n0
    have LO : LotN n (ownF n hs 0) := lotO n0
    have in0 : ∀ x ∈ [0], x ∈ ownF n hs 0 := fun x hx => by rw [List.mem_singleton.mp hx]; exact (own_mem n0).mpr rfl
    -- still, same, same, deed
    refine ⟨J 4, ?_, ?_⟩
    · rw [tAsg]
      refine (ev_lst (ev_all (ev_pair ((ev_goes (ev_lv rfl hLo2) (ev_ix (k := 0) rfl hth2 hs0) ev_t0 "goes").imp fun _ _ _ ⟨t, b, d, ts, h1, h2, h3, h4, h5⟩ => by
          subst h1
          obtain rfl := t_nil h5
          exact .still h2 h3 h4 LO x30 mv_still))
        (ev_all (ev_pair ((ev_said (ys := [0]) (zs := [0]) (ev_i1 ev_c) (ev_i1 ev_c) "grant").imp fun _ _ _ ⟨t, b, d, h1, h2, h3, h4⟩ => by
          subst h1
          exact .said h2 (.inl rfl) h3 h4 L0 L0 (sd_same in0 in0 (Nat.succ_pos _) (Nat.succ_pos _))))
        (ev_all (ev_pair ((ev_said (zs := [0]) (ev_lv rfl hLo2) (ev_i1 ev_c) "gives").imp fun _ _ _ ⟨t, b, d, h1, h2, h3, h4⟩ => by
          subst h1
          exact .said h2 (.inr rfl) h3 h4 LO L0 (sd_same (fun _ h => h) in0 LO.ne (Nat.succ_pos _))))
        (ev_all (ev_pair ((ev_c (v := .non)).imp fun _ _ _ h => by
          rw [show _ = _ from h]
          exact .non)) ev_all0)))) mAll fun _ _ h => by rw [h.1]; decide) H2 _ (Same.refl _) fun H3 v e3 p => ?_
      obtain ⟨L, xs, rfl, hL, pa⟩ := p
      obtain ⟨us, rfl, ul, uw⟩ := refs pa
      exact ⟨L, us, rfl, e3, hL, ul, uw⟩
    rintro σ1 H3 ⟨L, us, rfl, e3, hL, ul, uw⟩
    have grow : ∀ {k m : Nat} {t : TE} {Nx : L2.St → Hp → Prop} {L' : Addr} {us' : List Addr} {H' : Hp}, k + m ≤ 32 → EvP t [some (.ref h), some (.ref th), some y, some (.int (n : Nat)), some (.ref Lo), none, some (.ref Ap), some (.ref L')] H' (PLst (PAll n hs m)) → Same H2 H' → H' L' = some (.lst (us'.map V.ref)) → us'.length = k → (∀ x ∈ us', WrP n hs H' (.ref x)) → (∀ σ'' H'', J (k + m) σ'' H'' → Nx σ'' H'') →
        tAsg (tOp rCat (tVar 7) t) (gName 7) { nx := Nx, rt := Q } [some (.ref h), some (.ref th), some y, some (.int (n : Nat)), some (.ref Lo), none, some (.ref Ap), some (.ref L')] H' := fun {k m t Nx L' us' H'} km ev e hL ul uw nx => by
      rw [tAsg, tOp]
      refine ⟨_, rfl, ev H' _ (Same.refl _) fun H4 v e4 p => ?_⟩
      obtain ⟨L2, xs, rfl, hL2, pa⟩ := p
      obtain ⟨us2, rfl, ul2, uw2⟩ := refs pa
      refine ⟨L', L2, _, _, rfl, rfl, e4 _ _ hL, hL2, (by rw [List.length_map, List.length_map, ul, ul2]; exact Nat.le_trans km (by decide)), fun p np => ?_⟩
      have sp := al (o := .lst (us'.map V.ref ++ us2.map V.ref)) np
      exact nx _ _ ⟨p, us' ++ us2, rfl, (e.trans e4).trans sp, by rw [upd_same, List.map_append], by rw [List.length_append, ul, ul2], fun x hx => by
        rcases List.mem_append.mp hx with hx | hx
        · exact ((uw x hx).same e4).same sp
        · exact (uw2 x hx).same sp⟩
    have lst : ∀ {k : Nat} {t : TA} {σ' : L2.St} {H' : Hp}, k ≤ 32 → EvA t σ' H' (PAll n hs k) → EvP (tLst t) σ' H' (PLst (PAll n hs k)) := fun {k t σ' H'} k32 ev => ev_lst ev mAll fun _ _ h => (by rw [h.1]; exact Nat.le_trans k32 (by decide))
    have z30 : (0 : Int) ≤ ((hsAt hs 0 : Nat) : Int) ∧ ((hsAt hs 0 : Nat) : Int) ≤ 10 ^ 30 := ⟨by omega, by have : ((hsAt hs 0 : Nat) : Int) ≤ ((10 ^ 30 : Nat) : Int) := Int.ofNat_le.mpr x30; exact this⟩
    have gb : ∀ {H' : Hp} {ys : List Nat} {hd : Int} {cs : List (Nat × Nat)} {v : V} {r : Str}, cs.Nodup → cs.length ≤ 32 → ys.length < 64 → goesV n (ys.map fun c => ((c : Nat) : Int)) hd cs = .str r → (∃ t b d ts, v = .ref t ∧ H' t = some (.tup [.str "goes", .ref b, .int hd, .ref d]) ∧ H' b = some (.lst (ints_ ys)) ∧ H' d = some (.lst (ts.map V.ref)) ∧ TAt H' ts (pairs cs)) → WrV n hs H' v r := fun nd c32 l64 e ⟨t, b, d, ts, h1, h2, h3, h4, h5⟩ => by
      subst h1
      exact .goesB h2 h3 h4 h5 nd c32 l64 e
    have nd0 : ([] : List (Nat × Nat)).Nodup := List.nodup_nil
    have nd1 : [((0 : Nat), (0 : Nat))].Nodup := List.nodup_cons.mpr ⟨List.not_mem_nil, List.nodup_nil⟩
    -- moves, goes of three, [], no cells
    refine ⟨J 8, ?_, ?_⟩
    · refine grow (k := 4) (m := 4) (by decide) (lst (by decide) (ev_all (ev_pair ((ev_goes (ev_i1 ev_c) ev_c ev_t0 "moves").imp fun _ _ _ ⟨t, b, d, ts, h1, h2, h3, h4, h5⟩ => by
          subst h1
          exact .form h2 (by decide) (by show 3 < 64; decide) (by show lenOf "moves" ≠ some 4; decide)))
        (ev_all (ev_pair ((ev_three (ys := [0]) (hd := 1) (ev_i1 ev_c) ev_c "goes").imp fun _ _ _ ⟨t, b, h1, h2⟩ => by
          subst h1
          exact .form h2 (by decide) (by show 2 < 64; decide) (by show lenOf "goes" ≠ some 3; decide)))
        (ev_all (ev_pair (ev_i0.imp fun _ _ _ ⟨p, h1, h2⟩ => by
          subst h1
          exact .none h2))
        (ev_all (ev_pair ((ev_goes (ys := []) (hd := 0) ev_i0 ev_c ev_t0 "goes").imp fun _ _ _ => gb nd0 (Nat.zero_le _) (Nat.zero_lt_succ _) (gv_cells (.inl rfl)))) ev_all0))))) e3 hL ul uw fun _ _ j => j
    rintro σ1 H4 ⟨L, us, rfl, e4, hL, ul, uw⟩
    refine ⟨J 11, ?_, ?_⟩
    · refine grow (k := 8) (m := 3) (by decide) (lst (by decide) (ev_all (ev_pair ((ev_goes (ys := [0, 0]) (hd := 0) (ev_i2 ev_c ev_c) ev_c ev_t0 "goes").imp fun _ _ _ => gb nd0 (Nat.zero_le _) (by show 2 < 64; decide) (gv_cells (.inr (.inl (by decide))))))
        (ev_all (ev_pair ((ev_said (ys := [0]) (zs := [n]) (ev_i1 ev_c) (ev_i1 (ev_var rfl)) "grant").imp fun _ _ _ ⟨t, b, d, h1, h2, h3, h4⟩ => by
          subst h1
          exact .saidB h2 (.inl rfl) h3 h4 (by show 1 < 64; decide) (by show 1 < 64; decide) sv_cells))
        (ev_all (ev_pair ((ev_goes (ys := [n]) (hd := -1) (ev_i1 (ev_var rfl)) ev_neg ev_t0 "goes").imp fun _ _ _ => gb nd0 (Nat.zero_le _) (by show 1 < 64; decide) (gv_cells (.inr (.inr List.mem_cons_self))))) ev_all0)))) e4 hL ul uw fun _ _ j => j
    rintro σ1 H5 ⟨L, us, rfl, e5, hL, ul, uw⟩
    have e25 := e5
    refine ⟨J 14, ?_, ?_⟩
    · refine grow (k := 11) (m := 3) (by decide) (lst (by decide) (ev_all (ev_pair ((ev_goes (hd := -1) (ev_lv rfl (e5 _ _ hLo2)) ev_neg ev_t1 "goes").imp fun _ _ _ => gb nd1 (by decide) (n5' LO) (gv_hand LO (by omega))))
        (ev_all (ev_pair ((ev_goes (ev_lv rfl (e5 _ _ hLo2)) (ev_ix (k := 0) rfl (e5 _ _ hth2) hs0) ev_t1 "goes").imp fun _ _ _ => gb nd1 (by decide) (n5' LO) (gv_told LO z30)))
        (ev_all (ev_pair ((ev_goes (ev_lv rfl (e5 _ _ hLo2)) ev_pow ev_t0 "goes").imp fun _ _ _ => gb nd0 (Nat.zero_le _) (n5' LO) (gv_hand LO (by omega)))) ev_all0)))) e5 hL ul uw fun _ _ j => j
    rintro σ1 H6 ⟨L, us, rfl, e6, hL, ul, uw⟩
    refine ⟨fun σ' H' => ∃ k, 0 < k ∧ k ≤ 32 ∧ J k σ' H', ?_, ?_⟩
    · rw [tIfS, tTest, tOp]
      refine ⟨_, rfl, by show 0 ≤ sizeLine; decide, fun e0 ne0 => ?_⟩
      have s7 := al (o := .lst []) ne0
      have h0 : upd H6 e0 (.lst []) e0 = some (.lst []) := upd_same
      generalize upd H6 e0 (.lst []) = H7 at s7 h0 ⊢
      have hAp7 := (e6.trans s7) _ _ hAp
      refine ⟨_, _, .lst (.inl (.inl (by rw [hAp7, castN]))) (dp_intsI _), .lst (xs := []) (.inl (.inl h0)) .nil, shaped_lstI _, shaped_lstI [], _, rfl, ?_⟩
      have ev : PyData.eqv (.list ((ap.map fun b => ((b : Nat) : Int)).map PyData.int)) (.list []) = ap.isEmpty := by
        rw [PyData.eqv]
        cases ap with
        | nil => rfl
        | cons a l => simp [PyData.eqvAll]
      rw [ev]
      refine iteB (fun t => ?_) (fun t => ⟨14, by decide, by decide, L, us, rfl, e6.trans s7, s7 _ _ hL, ul, fun x hx => (uw x hx).same s7⟩)
      obtain ⟨a, l, rfl⟩ : ∃ a l, ap = a :: l := by
        cases ap with
        | nil => cases t
        | cons a l => exact ⟨a, l, rfl⟩
      have am := List.mem_filter.mp (show a ∈ (List.range n).filter fun b => !decide (hsAt hs b = hsAt hs 0) from by rw [hap]; exact List.mem_cons_self)
      have an : a < n := List.mem_range.mp am.1
      have ad : hsAt hs a ≠ hsAt hs 0 := fun z => by
        have := am.2
        rw [decide_eq_true z] at this
        cases this
      have a0 : 0 ≠ a := fun z => ad (by rw [z])
      have La : LotN n [0, a] := ⟨fun c hc => by
        rcases List.mem_cons.mp hc with rfl | hc
        · exact n0
        · rw [List.mem_singleton.mp hc]; exact an, List.nodup_cons.mpr ⟨fun z => a0 (List.mem_singleton.mp z), List.nodup_cons.mpr ⟨List.not_mem_nil, List.nodup_nil⟩⟩, Nat.succ_pos _⟩
      have o2 : oneB hs [0, a] = false := by
        refine Bool.eq_false_iff.mpr fun z => ?_
        have y := List.all_eq_true.mp (List.all_eq_true.mp z a (List.mem_cons_of_mem _ List.mem_cons_self)) 0 List.mem_cons_self
        exact ad (of_decide_eq_true y)
      have hA0 : (ints_ (a :: l))[0]? = some (.int (a : Nat)) := rfl
      refine grow (k := 14) (m := 2) (by decide) (lst (by decide) (ev_all (ev_pair ((ev_said (ys := [0, a]) (zs := [0]) (ev_i2 ev_c (ev_ix (k := 0) rfl hAp7 hA0)) (ev_i1 ev_c) "grant").imp fun _ _ _ ⟨t, b, d, h1, h2, h3, h4⟩ => by
          subst h1
          exact .said h2 (.inl rfl) h3 h4 La L0 (sd_one (.inl o2))))
        (ev_all (ev_pair ((ev_said (ys := [0]) (zs := [0, a]) (ev_i1 ev_c) (ev_i2 ev_c (ev_ix (k := 0) rfl hAp7 hA0)) "gives").imp fun _ _ _ ⟨t, b, d, h1, h2, h3, h4⟩ => by
          subst h1
          exact .said h2 (.inr rfl) h3 h4 L0 La (sd_one (.inr o2)))) ev_all0))) (e6.trans s7) (s7 _ _ hL) ul (fun x hx => (uw x hx).same s7) fun _ _ j => ⟨16, by decide, by decide, j⟩
    rintro σ1 H7 ⟨k, k0, k32, L, us, rfl, e7, hL, ul, uw⟩
    have hh7 : Hand H7 h c := hh.same (e12.trans e7)
    have hLh : L ≠ h := hh7.nel hL (notHand_refs _)
    rw [tRet]
    refine ⟨_, rfl, _, rfl, ?_⟩
    refine ⟨h, c, L, us.map V.ref, rfl, hh7, hLh, hL, by rw [List.length_map, ul]; exact k0, by rw [List.length_map, ul]; omega, fun H' j v dr hv => ?_⟩
    rw [List.getElem?_map] at hv
    obtain ⟨u, hu, rfl⟩ := Option.map_eq_some_iff.mp hv
    have st : Stay h c H7 H' := .of_drawn hh7 dr
    exact q H' _ ((Stay.of_same hh (e12.trans e7)).trans st) ((uw u (List.mem_of_getElem? hu)).stay st)
end
end K7
end
/-! ## EX -/
section
namespace K7E
open PySem PySem.Spec PyProof.Rows L2
/-! a call under try: what it lets out is asked for where it stands -/
section
variable {X : Cx} {W : WX} {k : Nat} {f C : Addr} {fd : FuncData} {ps : List Str} {sp : Sp} {dvs : List V} {ds : List Value} {x m : Str} {p pos apos : Pos} {e o : Expr} {es : List Expr} {ta : TE} {t : TA}
theorem run_fnW {pins : List (Addr × Obj)} {σ : L2.St} {H : Hp} {s : Shared} {Q : VK} {us : List Value} {vs : List V} (F : FnOk X.prog X.w X.K X.mg X.base (L2.CX X.prog X.w) k f fd ps sp) (hr : Room k X.A) (hb : Binds X.K fd ps ds) (hd : Vals dvs ds) (tk : Takes X W)
    (I : Inv X pins σ H s) (r : Vals vs us) (h : sp (vs ++ dvs) H Q (fun cls d H' => W cls d σ H')) : wpAny (model X.prog X.w) X.A (call (.ref f) us) (EP X pins σ Q) X.xe s := by
  have r2 : Vals (vs ++ dvs) (us ++ ds) := r.append hd
  have hl : (us ++ ds).length = ps.length := by rw [← r2.length]; exact F.len _ _ _ _ h
  refine wpAny_call (codeAny_mono (F.run X.A X.stack s H ⟨us, []⟩ (us ++ ds) (vs ++ dvs) Q _ hr I.env0 (hb s us I.kIn hl) r2 h) fun r s' hq => ?_)
  cases r with
  | error e => exact tk e s' (XE.of_call (E := fun cls d H' => W cls d σ H') I (fun cls d H' h => h) hq)
  | ok fl =>
    cases fl with
    | ret u => exact I.after hq
    | next => exact False.elim hq
    | brk => exact False.elim hq
    | cont => exact False.elim hq
theorem pe_callW (F : FnOk X.prog X.w X.K X.mg X.base (L2.CX X.prog X.w) k f fd ps sp) (hr : Room k X.A) (hg : Gl X x) (hm : X.mg x = some (.ref f)) (hk : PySem.W.keepIn X.K (.ref f) = true) (hb : Binds X.K fd ps ds) (hd : Vals dvs ds) (tk : Takes X W)
    (ha : PA X (e :: es) t) (hdb : (x == ("__debug__" : Str)) = false := by decide) (he : starEach (e :: es) X.env = (false, eval e X.env) :: starEach es X.env := by rfl) (hpl : (backTo pos (starEach es X.env)).any (·.1) = false := by rfl) :
    PE X (.Call (.Name x p) (e :: es) [] pos) (fun σ H Q => t σ H fun vs H1 => sp (vs ++ dvs) H1 Q (fun cls d H' => W cls d σ H')) := by
  refine ⟨fun pins s σ H Q I h => ?_⟩
  refine wpAny_Call_Name_kw (ld_glob I hg hm ?_ hdb)
  refine PySem.W.callWith_K (h₀ := X.base) I.ok.mod.kin hk (thn (ha.run pos pins s σ H _ I h) fun us s1 ⟨vs, H1, I1, r, q⟩ => ⟨I1.kIn, ?_⟩) he hpl
  exact run_fnW F hr hb hd tk I1 r q
theorem pe_methW {pl : Sem Bool} (he : PE X o ta) (c : Cls X.K C) (hm : Meth X.K C m f) (F : FnOk X.prog X.w X.K X.mg X.base (L2.CX X.prog X.w) k f fd ps sp) (hr : Room k X.A) (hb : Binds X.K fd ps ds) (hd : Vals dvs ds) (tk : Takes X W) (ha : PA X (e :: es) t)
    (hst : starEach (e :: es) X.env = (false, eval e X.env) :: starEach es X.env := by rfl) (hpl : (backTo pos (starEach es X.env)).any (·.1) = false := by rfl)
    (ht : eval (.Call (.Attribute o m apos) (e :: es) [] pos) X.env = (do
      let ov ← eval o X.env
      standAt apos.atName
      let (f, first) ← holding [ov] (getMethod ov m pl)
      callWith pos f first (backTo pos (starEach (e :: es) X.env)) (backToKw pos (keywordEach [] X.env))) := by rfl) :
    PE X (.Call (.Attribute o m apos) (e :: es) [] pos) (fun σ H Q => ta σ H fun x H1 => ∃ a dx fs, x = .ref a ∧ H1 a = some (.ins C dx fs) ∧ fs.lookup m = none ∧
      t σ H1 fun vs H2 => sp (x :: (vs ++ dvs)) H2 Q (fun cls d H' => W cls d σ H')) := by
  refine ⟨fun pins s σ H Q I h => ?_⟩
  refine PySem.W.methodCall_KW (pl := pl) (thn (he.run pins s σ H _ I h) fun u s1 ⟨x, H1, I1, rx, a, dx, fs, ex, ea, l, q⟩ => ?_) ht
  subst ex
  obtain rfl : u = Value.ref a := rx
  refine getmeth_ok I1 ea c hm l ?_
  refine PySem.W.callWith_K (first := [.ref a]) (h₀ := X.base) I.ok.mod.kin hm.kp (thn (ha.run pos pins s1 σ H1 _ I1 q) fun us s2 ⟨vs, H2, I2, r, q2⟩ => ⟨I2.kIn, ?_⟩) hst hpl
  exact run_fnW (us := .ref a :: us) (vs := .ref a :: vs) F hr hb hd tk I2 (.cons rfl r) q2
end
/-! ### isinstance(e, c), e the exception that the suite holds, with fields of its own -/
section
variable {X : Cx}
theorem call_isEd {a D d : Addr} {oe : Obj} {pn : List (Addr × Obj)} (C : ExcC X.K D) (hz : Zc (.ref D) (some d) oe) (hf : ∃ vs, oe.data = .fields vs) : CallR (X.suite a ((a, oe) :: pn)) (.builtin "isinstance") (fun xs H Q => ∃ (c : V) (cv : Value) (b : Bool) (fs : List (Str × V)), xs = [.ref a, c] ∧ (∀ u, RelV c u → u = cv) ∧ PySem.W.kitOne X.K (.ref D) cv = some b ∧ H d = some (.xd fs) ∧ Q (.bl b) H) := by
  intro pins s σ H xs us Q I r h
  obtain ⟨c, cv, b, fs, rfl, hcv, e, hd, q⟩ := h
  cases r with
  | cons rx rr =>
    cases rr with
    | cons rt rr =>
      cases rr
      cases rx
      have ec := hcv _ rt
      subst ec
      obtain ⟨hget, _⟩ := I.pin (a, oe) (List.mem_append.mpr (.inl List.mem_cons_self))
      obtain ⟨vs, hv⟩ := hf
      have hx : ObjOk X.prog X.w H s.heap d (.xd fs) := I.hok d _ hd
      obtain ⟨mA, hns, hrr⟩ := hx
      obtain ⟨od, ho, hl⟩ := lookIn_ns hns
      have J : PySem.W.InstAt s.heap a oe D (some od) := ⟨hget, hz.1, by unfold PySem.W.notCls; rw [hv] <;> rfl, by rw [hz.2]; exact ho⟩
      obtain ⟨cd, hcc, _⟩ := PySem.W.any_some C.hd
      exact PySem.W.kia_one (PySem.W.kitx_exc (gt := none) (by rw [hcc]; rfl) C.hg C.hk C.hs C.ha C.hn C.ht C.hm) I.kIn J e (fun z => nomatch z) fun tk => ⟨.bl b, H, I.kept (t' := tk) fun _ _ z => z, rfl, q⟩
end
theorem call_isEdX {X : Cx} {a D : Addr} {cls : Value} {d : Option Addr} {oe : Obj} {pn : List (Addr × Obj)} (C : ExcC X.K D) (hz : Zc cls d oe) (hf : ∃ vs, oe.data = .fields vs) : CallR (X.suite a ((a, oe) :: pn)) (.builtin "isinstance") (fun xs H Q => cls = .ref D ∧ ∃ dd, d = some dd ∧ ∃ (c : V) (cv : Value) (b : Bool) (fs : List (Str × V)), xs = [.ref a, c] ∧ (∀ u, RelV c u → u = cv) ∧ PySem.W.kitOne X.K (.ref D) cv = some b ∧ H dd = some (.xd fs) ∧ Q (.bl b) H) := by
  intro pins s σ H xs us Q I r h
  obtain ⟨rfl, dd, rfl, h⟩ := h
  exact call_isEd C hz hf pins s σ H xs us Q I r h
/-! repr of a plain thing -/
def reprV : V → Str
  | .non => "None"
  | .bl b => if b then "True" else "False"
  | .int i => toString i
  | .str z => reprText z
  | _ => ""
def reprOk : V → Prop
  | .non => True
  | .bl b => True
  | .int i => i.natAbs.log2 < 1920
  | .str z => (reprText z).length ≤ sizeLine
  | _ => False
theorem call_reprF {X : Cx} : CallR X (.builtin "repr") (fun xs H Q => ∃ v, xs = [v] ∧ reprOk v ∧ Q (.str (reprV v)) H) := by
  intro pins s σ H xs us Q I r h
  obtain ⟨v, rfl, hz, q⟩ := h
  obtain ⟨u, rfl, ru⟩ := r.one
  cases v with
  | non => cases ru; exact PySem.P.repr_of_none ⟨.str _, H, I.tok _, ⟨_, rfl⟩, q⟩
  | bl b => cases ru; exact PySem.P.repr_of_bool ⟨.str _, H, I.tok _, ⟨_, rfl⟩, q⟩
  | int i => obtain ⟨t, rfl⟩ := ru; exact PySem.P.repr_of_int hz ⟨.str _, H, I.tok _, ⟨_, rfl⟩, q⟩
  | str z => obtain ⟨t, rfl⟩ := ru; exact PySem.P.repr_of_str ⟨.str _, H, I.tok _, ⟨_, rfl⟩, q⟩ hz
  | _ => exact hz.elim
end K7E
end
/-! ## TA -/
section
namespace K7T
open PySem PySem.Spec PyProof.Rows L2
/-! try with more than one clause, each of which keeps what it caught under the same name -/
abbrev Su := Addr → Value → Option Addr → TS
/-- the ends of a clause: the name goes -/
def offN (i : Nat) (D : Ends) : Ends := ⟨fun τ G => D.nx (τ.set i none) G, D.rt, fun τ G => D.bk (τ.set i none) G, fun τ G => D.ct (τ.set i none) G⟩
def wEach (K : PySem.W.Frag) (i : Nat) (W0 : WX) (D : Ends) : List (Value × Su) → WX
  | [] => W0
  | p :: r => fun k d τ G => ∃ y, PySem.W.exmOne K k p.1 = some y ∧ (y = true → ∀ b, G b = none → p.2 b k d (offN i D) (τ.set i (some (.ref b))) G) ∧ (y = false → wEach K i W0 D r k d τ G)
inductive Clauses (X : Cx) (n : Str) : List ExceptHandler → List (Value × Su) → Prop
  | nil : Clauses X n [] []
  | cons {z : Str} {k : Value} {u : Su} {st : Stmt} {sts : List Stmt} {q1 q2 : Pos} {cl : List ExceptHandler} {l : List (Value × Su)} (nm : Names X z k)
      (go : ∀ (b : Addr) (ob : Obj) (k' : Value) (d : Option Addr) (pn : List (Addr × Obj)), Zc k' d ob → (∃ fs, ob.data = .fields fs) → PSs (X.suite b ((b, ob) :: pn)) (st :: sts) (u b k' d)) (more : Clauses X n cl l) :
      Clauses X n (.ExceptHandler (some (.Name z q1)) (some n) (st :: sts) q2 :: cl) ((k, u) :: l)
section
variable {X : Cx} {n : Str} {i : Nat} {body : List Stmt} {c0 : ExceptHandler} {cs : List ExceptHandler} {l : List (Value × Su)} {pos : Pos} {tb : WX → TS} {W0 : WX}
theorem ps_try_each (st : X.stack = X.env :: X.outer) (fr : X.env.frame = some X.env.locals) (nd : X.N.Nodup) (ni : X.N[i]? = some n) (lo : X.env.kindOf n = some .local) (take : Takes X W0)
    (inner : ∀ (W : WX) (pn : List (Addr × Obj)) (xe : Value → Shared → Prop), Takes (X.tr pn xe) W → PassesOwn (model X.prog X.w) X.A X.env xe → PSs (X.tr pn xe) body (tb W)) (all : Clauses X n (c0 :: cs) l) :
    PS X (.Try body (c0 :: cs) [] [] pos) (fun D τ G => tb (wEach X.K i W0 D l) D τ G) := by
  refine ⟨fun pins s τ G D I wish => wpAny_Try_except ?_⟩
  have okX := I.ok
  have frames : X.A.frames = some (X.env :: X.outer) := by rw [okX.frames, st]
  refine wpAny_mono ((inner (wEach X.K i W0 D l) (X.pn ++ pins) (fun e t1 => wpAny (model X.prog X.w) X.A (noteFrame e X.env) (fun _ t2 => wpAny (model X.prog X.w) X.A (setFlight e none)
    (fun _ t3 => wpAny (model X.prog X.w) X.A (handleBy e X.env (c0 :: cs)) (SP X pins D) X.xe t3) X.xe t2) X.xe t1) ?_ PassesOwn.looking).run [] s τ G D (I.toTry _) wish) (fun fl s1 sp => ?_) (fun _ _ q => q)
  · rintro _ t ⟨b, B, sJ, ps, τ1, G1, k, d, rfl, J0, nb, up, air, free, os, ag, w⟩
    have J : Inv X pins τ1 G1 sJ := J0.ofTry okX
    rw [st] at air
    show wpAny (model X.prog X.w) X.A (noteFrame (.ref b) X.env) _ _ _
    refine Sky.land Zc.steady frames fr air fun g3 fly3 up3 => ?_
    have J3 := J.landed (s' := { t with heap := g3 }) nb fly3.1 (up.trans up3) os ag
    obtain ⟨ob, fs, got, zc, isf⟩ := fly3.there
    have away : b ∉ frs (X.env :: X.outer) := fun m => by
      obtain ⟨_, o2, got2, nof⟩ := fly3.2.2.1.mem m
      rw [got] at got2
      cases got2
      exact nof _ isf
    have bL : b ≠ X.env.locals := fun e => away (List.mem_filterMap.mpr ⟨X.env, List.mem_cons_self, by rw [fr, e]⟩)
    have bF : b ∉ X.fs := fun m => by
      obtain ⟨v, hv, hq⟩ := List.mem_filterMap.mp m
      exact away (List.mem_filterMap.mpr ⟨v, .tail _ hv, hq⟩)
    have S3 := J3.suite got isf free bL bF
    have each : ∀ {cl : List ExceptHandler} {m : List (Value × Su)}, Clauses X n cl m → wEach X.K i W0 D m k d τ1 G1 → wpAny (model X.prog X.w) X.A (handleBy (.ref b) X.env cl) (SP X pins D) X.xe { t with heap := g3 } := by
      intro cl m C
      induction C with
      | nil =>
        intro w
        refine wpAny_handleBy_nil ?_
        obtain ⟨_, _, _, o4, fs4, T, oT, tT, e4, _, f4, one, _⟩ := id fly3
        unfold PySem.passOn
        refine wpAny_bind (wpAny_field e4 f4 one ?_)
        rw [if_neg (show ¬ (Value.ref T == Value.none) = true by simp)]
        have out : wpAny (model X.prog X.w) X.A (setFlight (.ref b) X.env.frame) (fun _ t4 => wpAny (model X.prog X.w) X.A (throw (.ref b) : Sem Flow) (SP X pins D) X.xe t4) X.xe { t with heap := g3 } := by
          rw [fr]
          refine HandSPX.setFlight_upZ fly3 fun g4 held up4 => wpAny_throw (take _ _ ⟨b, B, sJ, pins, τ1, G1, k, d, rfl, J, nb, (up.trans up3).trans up4, .inr (.inr ?_), free, os, ag, w⟩)
          rw [st]
          exact held
        first
          | exact wpAny_bind (wpAny_pure (wpAny_bind out))
          | exact wpAny_bind out
      | @cons z kc u s0 sts q1 q2 cl2 l2 nm go more ih =>
        rintro ⟨y, hit, yes, no⟩
        refine wpAny_handleBy_cons (codeAny_handlers_test ?_) (fun q => by cases q)
        have LK : PySem.W.Looks (model X.prog X.w) g3 (typeOf (.ref b)) k := fun A Q E s5 keep q => wpAny_typeOf_ref (keep _ _ got) (by rw [zc.1]; exact q)
        have named : ∀ {Q E : Value → Shared → Prop}, Q kc { t with heap := g3 } → wpAny (model X.prog X.w) (X.A.mark (some (.ref b))) (eval (.Name z q1) X.env) Q E { t with heap := g3 } := fun q => by
          obtain ⟨n1, n2, n3 | ⟨n3, n4, n5⟩⟩ := nm
          · exact ld_glob (X := X.suite b ((b, ob) :: (X.pn ++ pins))) S3 n1 n3 q n2
          · exact ld_blt (X := X.suite b ((b, ob) :: (X.pn ++ pins))) S3 n1 n3 n4 q n5 n2
        refine named ((PySem.W.exm_one (M := model X.prog X.w) J3.kIn LK hit).here ?_)
        cases y with
        | false =>
          show wpAny _ X.A (handleBy (.ref b) X.env cl2) _ _ _
          exact ih (no rfl)
        | true =>
          refine codeAny_handlers_suite_as (HandSPX.lands_againZ fly3 fun g4 fly4 up4 => ?_)
          obtain ⟨o4, fs4, got4, zc4, isf4⟩ := fly4.there
          have S4 := (J.landed (s' := { t with heap := g4 }) nb fly4.1 ((up.trans up3).trans up4) os ag).suite got4 isf4 free bL bF
          refine store_ok (X := X.suite b ((b, o4) :: (X.pn ++ pins))) (v := .ref b) S4 nd ni (.inl lo) rfl (fun t5 S5 => ?_) (.inr lo)
          refine wpAny_mono ((go b o4 k d (X.pn ++ pins) zc4 ⟨_, isf4⟩).run [] t5 _ G1 _ S5 (yes rfl b free)) (fun fl t6 sp => ?_) (fun _ _ q => False.elim q)
          have gone : ∀ {τ6 : L2.St} {G6 : Hp} {Q : Shared → Prop}, Inv (X.suite b ((b, o4) :: (X.pn ++ pins))) [] τ6 G6 t6 → (∀ t7, Inv X pins (τ6.set i none) G6 t7 → Q t7) → wpAny (model X.prog X.w) X.A (do bindName X.env n .none; unbindBehindTheSuite X.env n q2) (fun _ t7 => Q t7) X.xe t6 :=
            fun J6 q => gone_ok (J6.unsuite okX) nd ni lo q
          cases fl with
          | ret r =>
            obtain ⟨v, τ6, G6, J6, rv, q⟩ := sp
            exact gone J6 fun _ J7 => ⟨v, _, _, J7, rv, q⟩
          | next =>
            obtain ⟨τ6, G6, J6, q⟩ := sp
            exact gone J6 fun _ J7 => ⟨_, G6, J7, q⟩
          | brk =>
            obtain ⟨τ6, G6, J6, q⟩ := sp
            exact gone J6 fun _ J7 => ⟨_, G6, J7, q⟩
          | cont =>
            obtain ⟨τ6, G6, J6, q⟩ := sp
            exact gone J6 fun _ J7 => ⟨_, G6, J7, q⟩
    exact each all w
  · cases fl with
    | ret r =>
      obtain ⟨v, τ1, G1, J, rv, q⟩ := sp
      exact ⟨v, τ1, G1, J.ofTry okX, rv, q⟩
    | next =>
      obtain ⟨τ1, G1, J, q⟩ := sp
      exact wpAny_execs_nil ⟨τ1, G1, J.ofTry okX, q⟩
    | brk =>
      obtain ⟨τ1, G1, J, q⟩ := sp
      exact ⟨τ1, G1, J.ofTry okX, q⟩
    | cont =>
      obtain ⟨τ1, G1, J, q⟩ := sp
      exact ⟨τ1, G1, J.ofTry okX, q⟩
end
end K7T
end
/-! ## P45 -/
section
open PySem PySem.Spec PyProof.Rows L2
namespace K7
abbrev N__law_refused : List Str := ["_law_state_here", "_law_cell", "_law_deed_here", "e"]
abbrev s__law_refused : Stmt := topS 72
theorem sc__law_refused : FnScope ["_law_state_here", "_law_cell", "_law_deed_here", "e"] ["_law_state_here", "_law_cell", "_law_deed_here"] (defScope s__law_refused) := ⟨rfl, rfl, rfl, by decide +kernel, rfl, by decide +kernel, by decide +kernel⟩
/-! ### what is refused -/
structure Te (K : PySem.W.Frag) (mg : Str → Option Value) (B D L : Addr) : Prop where
  gL : mg "LandError" = some (.ref L)
  exB : ExcC K B
  exD : ExcC K D
  xfB : XfC K B
  xfD : XfC K D
  mB : PySem.W.exmOne K (.ref B) (.ref B) = some true
  mD : PySem.W.exmOne K (.ref D) (.ref D) = some true
  mDB : PySem.W.exmOne K (.ref D) (.ref B) = some false
  kBL : PySem.W.kitOne K (.ref B) (.ref L) = some true
  kDL : PySem.W.kitOne K (.ref D) (.ref L) = some true
section
variable {P : Program} {w : World} {K : PySem.W.Frag} {mg : Str → Option Value} {base : Heap} {a : AdL} {S B iB L : Addr} {A5 : StA}
def spRefu (K : PySem.W.Frag) (a : AdL) (S : Addr) : Sp := fun vs H Q _ => ∃ (s l : Addr) (n : Nat) (es : List (Nat × Nat)) (rd hs : List Nat) (tab : List (List Nat)) (y v : V), vs = [.ref s, y, v] ∧ StateO a.C S H s l n es rd hs tab ∧
  ((∃ (c : Nat) (z : Str), y = .int (c : Nat) ∧ c < n ∧ DfV K n hs H v (.str z) ∧ ∀ H' t, Same H H' → H' t = some (.tup [.str "deed", .str z]) → Q (.ref t) H') ∨
   (Thing H y ∧ wholeV y 0 ((n : Nat) - 1) = false ∧ ∀ H' t, Same H H' → H' t = some (.tup [.str "cell", y]) → Q (.ref t) H'))
theorem ok_refu (T : Tl K mg a) (TB : Tb K mg B iB) (T3 : Te K mg a.B B L) {f fso : Addr} {fd fdso : FuncData} (F : Fun K "_law_refused" "_law_refused" s__law_refused f fd)
    (Gso : FnOk P w K mg base (L2.CX P w) 9 fso fdso ["state", "cell", "deed"] (spSo K a S B A5)) (gso : mg "step_of" = some (.ref fso)) (kso : PySem.W.keepIn K (.ref fso) = true) (bso : Binds K fdso ["state", "cell", "deed"] [])
    (m_isinstance : mg "isinstance" = none) : FnOk P w K mg base CX0 10 f fd ["_law_state_here", "_law_cell", "_law_deed_here"] (spRefu K a S) := by
  refine F.ok sc__law_refused (fun vs H Q E h => ?_) (fun cdv A outer s H vs Q E hr h => ?_)
  · obtain ⟨s, l, n, es, rd, hs, tab, y, v, rfl, _⟩ := h
    rfl
  · obtain ⟨s, l, n, es, rd, hs, tab, y, v, rfl, W, h⟩ := h
    refine ⟨_, (pss_cons (K7T.ps_try_each (i := 3) rfl rfl sc__law_refused.nd rfl rfl takes0 (fun W pn xe tk _ => (pss_one (ps_expr (K7E.pe_callW Gso (hr.mono (by decide)) (by rfl) gso kso bso .nil tk (pa_cons (pv 0) (pa_cons (pv 1) (pa_cons (pv 2) pa_nil))))))) (.cons ⟨rfl, by decide, .inl T.gB⟩ (fun b oe cls d pn hz hf => (pss_one (ps_ret (pe_ifExp (pt_val (pe_callB (K7E.call_isEdX T3.exB hz hf) (by rfl) m_isinstance boot_isinstance (pa_cons (pv 3) (pa_cons (pe_glob (v := .ref _) rfl T3.gL rfl) pa_nil)))) (pe_tup (pa_cons pe_str (pa_cons (pe_xf T3.xfB T.nB hz hf (pv 3)) pa_nil))) pe_non)))) (.cons ⟨rfl, by decide, .inl TB.g⟩ (fun b oe cls d pn hz hf => (pss_one (ps_ret (pe_ifExp (pt_val (pe_callB (K7E.call_isEdX T3.exD hz hf) (by rfl) m_isinstance boot_isinstance (pa_cons (pv 3) (pa_cons (pe_glob (v := .ref _) rfl T3.gL rfl) pa_nil)))) (pe_tup (pa_cons pe_str (pa_cons (pe_xf T3.xfD TB.no hz hf (pv 3)) pa_nil))) pe_non)))) .nil)))
 (pss_one (ps_ret pe_non))), ?_⟩
    refine ⟨_, rfl, _, rfl, _, rfl, s, l, n, es, rd, hs, tab, y, v, rfl, W, ?_⟩
    rcases h with ⟨c, z, rfl, hc, hz, q⟩ | ⟨th, wf, q⟩
    · refine .inl ⟨c, rfl, hc, .inl ⟨z, hz, fun H' d e nd hd => ?_⟩⟩
      refine ⟨false, T3.mDB, (fun z => nomatch z), fun _ => ⟨true, T3.mD, fun _ b hb => ?_, fun z => nomatch z⟩⟩
      refine ⟨_, rfl, rfl, d, rfl, .ref L, .ref L, true, _, rfl, fun u h => h, T3.kDL, hd, true, rfl, ?_⟩
      refine ⟨_, rfl, rfl, rfl, d, _, _, rfl, hd, rfl, by show 2 ≤ sizeLine; decide, fun t nt => ?_⟩
      exact q _ t (e.trans (al nt)) upd_same
    · refine .inr ⟨th, wf, fun H' d e nd hd => ?_⟩
      refine ⟨true, T3.mB, fun _ b hb => ?_, fun z => nomatch z⟩
      refine ⟨_, rfl, rfl, d, rfl, .ref L, .ref L, true, _, rfl, fun u h => h, T3.kBL, hd, true, rfl, ?_⟩
      refine ⟨_, rfl, rfl, rfl, d, _, _, rfl, hd, rfl, by show 2 ≤ sizeLine; decide, fun t nt => ?_⟩
      exact q _ t (e.trans (al nt)) upd_same
end
end K7
end
/-! ## KS -/
section
namespace K7E
open PySem PySem.Spec PyProof.Rows L2
theorem ts_pos {i : Int} (h0 : 0 ≤ i) : 0 < (Str.ofString (toString i)).length := by
  rw [PySem.ofString_length]
  obtain ⟨n, rfl⟩ : ∃ n : Nat, i = (n : Int) := ⟨i.toNat, by omega⟩
  refine Nat.pos_of_ne_zero fun e => ?_
  have e2 : toString ((n : Nat) : Int) = Nat.repr n := rfl
  rw [e2] at e
  exact Nat.repr_ne_empty (String.length_eq_zero_iff.mp e)
theorem strOk_of (s : String) : PyData.strOk (Str.ofString s) = true := by
  unfold PyData.strOk
  rw [Str.ofString_eq_toList]
  simp only [List.all_toArray, List.all_map, List.all_eq_true]
  intro c _
  have := c.valid
  simp only [Function.comp, decide_eq_true_eq]
  show c.val.toNat < 0x110000
  rcases this with h | ⟨_, h⟩
  · exact Nat.lt_trans h (by decide)
  · exact h
theorem strOk_app (a b : Str) (ha : PyData.strOk a = true) (hb : PyData.strOk b = true) : PyData.strOk (a ++ b) = true := by
  unfold PyData.strOk at *
  rw [Str.cps_append, Array.all_append, ha, hb]
  rfl
theorem longer_ne {a b c : Str} (h : c.length < a.length + b.length) : a ++ b ≠ c := fun e => by
  have := congrArg Str.length e
  rw [Str.length_append] at this
  omega
theorem eqv_str_ne {x y : Str} (h : x ≠ y) : PyData.eqv (.str x) (.str y) = false := by
  simp [PyData.eqv, h]
theorem log_ok {i : Int} (h0 : 0 ≤ i) (h1 : i < 10 ^ 30) : i.natAbs.log2 < 1920 := by
  rcases Nat.eq_zero_or_pos i.natAbs with z | z
  · rw [z]; decide
  · have : i.natAbs < 2 ^ 1920 := Nat.lt_of_lt_of_le (m := 10 ^ 30) (by omega) (by decide +kernel)
    exact (Nat.log2_lt (by omega)).mpr this
theorem short_ok {i : Int} (h0 : 0 ≤ i) (h1 : i < 10 ^ 30) : ("bound" : Str).length + (Str.ofString (toString i)).length ≤ sizeLine := by
  have h : (Str.ofString (toString i)).length ≤ 30 := by
    rw [PySem.ofString_length]
    obtain ⟨n, rfl⟩ : ∃ n : Nat, i = (n : Int) := ⟨i.toNat, by omega⟩
    show (Nat.repr n).length ≤ 30
    exact (Nat.length_repr_le_iff (by decide)).mpr (by omega)
  have h5 : ("bound" : Str).length = 5 := by decide +kernel
  have hs : (35 : Nat) ≤ sizeLine := by decide
  omega
end K7E
end
/-! ## KG -/
section
/-! ## promises kept where no repr is under way -/
namespace K7E
open PySem PySem.Spec PyProof.Rows L2
structure FnG (P : Program) (w : World) (K : PySem.W.Frag) (mg : Str → Option Value) (base : Heap) (CX : CXT) (k : Nat) (f : Addr) (fd : FuncData) (ps : List Str) (sp : Sp) : Prop where
  len : ∀ vs H Q E, sp vs H Q E → vs.length = ps.length
  run : ∀ (A : Around) (outer : List Env) (s : Shared) (H : Hp) (args : Args) (us : List Value) (vs : List V) (Q : VK) (E : XK), A.guards = some [] → Room k A → Env0 P w K mg base A outer s H → BindsTo s fd args (ps.zip us) → Vals vs us → sp vs H Q E →
    codeAny (model P w) A (.call (.ref f) args) (CR CX outer P w H s Q E) s
theorem fn_ofG {CX : CXT} {P : Program} {w : World} {K : PySem.W.Frag} {mg : Str → Option Value} {base : Heap} {k : Nat} {f : Addr} {name qual : Str} {params : Arguments} {body : List Stmt} {scope : Scope} {dV kV doc pm cdv ct oc : Value} {an od : Option Addr} {osl : Array (Option Value)} {N ps : List Str} {sp : Sp}
    (lk : K.lookup f = some ⟨oc, od, .func (PySem.W.fnOf name qual params body scope dV kV doc pm an cdv ct), osl⟩) (hcd : PySem.W.codeIn K cdv qual = true) (S : FnScope N ps scope) (len : ∀ vs H Q E, sp vs H Q E → vs.length = ps.length)
    (hbody : ∀ (A : Around) (outer : List Env) (s : Shared) (H : Hp) (vs : List V) (Q : VK) (E : XK), A.guards = some [] → Room k (A.deeper (envOfC qual scope s.heap.objs.size f cdv)) → sp vs H Q E → ∃ t, PSs (cxOf CX P w K mg base N qual scope f cdv A outer s H E) body t ∧ t ⟨fun _ H' => Q .non H', Q, fun _ _ => False, fun _ _ => False⟩ (L2.start N vs) H) :
    FnG P w K mg base CX (k + 1) f (PySem.W.fnOf name qual params body scope dV kV doc pm an cdv ct) ps sp := by
  refine ⟨len, fun A outer s H args us vs Q E gA hr e0 hbd rv hsp => ?_⟩
  have lenV := len vs H Q E hsp
  have inS : K.In s.heap := PySem.W.Frag.In.keeps e0.mod.kin fun b o e => (e0.bs b o e).1
  have noL : s.heap.NoLimit := Heap.NoLimit.keeps e0.mod.nolimit fun b o e => (e0.bs b o e).1
  have kinds : ∀ x : Str × Value, x ∈ ps.zip us → List.lookup x.1 scope.names = some .local ∨ (List.lookup x.1 scope.names = some .cell ∧ (List.lookup x.1 (cellsFrom (s.heap.objs.size + 1) scope.names [])).isSome = true) := by
    rintro ⟨n, v⟩ hy
    rcases S.par n (List.of_mem_zip hy).1 with c | c
    · exact .inl c
    · exact .inr ⟨c, PySem.W.cellsFrom_some scope.names (s.heap.objs.size + 1) [] (.inl c)⟩
  refine codeAny_call_function hr.depth (inS f _ lk) rfl S.co S.gen rfl (PySem.W.codeRec_of inS hcd) (hbd (model P w) A.in1 _ _ (wpAny_newFunctionEnv_cells S.kind kinds fun env he s1 x => ?_))
  subst he
  refine ⟨Heap.NoLimit.keeps noL x.toInCall.keep, codeAny_func ?_⟩
  obtain ⟨t, ht, hq⟩ := hbody A outer s H vs Q E gA (hr.deeper _) hsp
  have I := inv_start (CX := CX) (E := E) S hr.hd e0 lenV rv x
  refine wpAny_mono (ht.run [] s1 (L2.start N vs) H _ I hq) (fun fl s' hs => ?_) fun e s' hs => hs
  cases fl with
  | next =>
    obtain ⟨σ', H', J, q⟩ := hs
    exact ⟨.non, H', J.os, J.bare, J.base, J.hok, (show RelV .non Value.none from rfl), q⟩
  | ret u =>
    obtain ⟨v, σ', H', J, ru, q⟩ := hs
    exact ⟨v, H', J.os, J.bare, J.base, J.hok, ru, q⟩
  | _ =>
    obtain ⟨_, _, _, q⟩ := hs
    exact q.elim
theorem okG {P : Program} {w : World} {K : PySem.W.Frag} {mg : Str → Option Value} {base : Heap} {x qual : Str} {st : Stmt} {f : Addr} {fd : FuncData} {N ps : List Str} {k : Nat} {sp : Sp} (F : Fun K x qual st f fd) (S : FnScope N ps (defScope st)) (len : ∀ vs H Q E, sp vs H Q E → vs.length = ps.length)
    (hbody : ∀ (cdv : Value) (A : Around) (outer : List Env) (s : Shared) (H : Hp) (vs : List V) (Q : VK) (E : XK), A.guards = some [] → Room k (A.deeper (envOfC qual (defScope st) s.heap.objs.size f cdv)) → sp vs H Q E → ∃ t, PSs (cxOf CX0 P w K mg base N qual (defScope st) f cdv A outer s H E).nox (defBody st) t ∧ t ⟨fun _ H' => Q .non H', Q, fun _ _ => False, fun _ _ => False⟩ (L2.start N vs) H) : FnG P w K mg base CX0 (k + 1) f fd ps sp := by
  obtain ⟨oc, od, kV, doc, pm, an, cdv, ct, osl, rfl, lk, hcd⟩ := F.ex
  refine fn_ofG lk hcd S len fun A outer s H vs Q E g hr hsp => ?_
  obtain ⟨t, h, q⟩ := hbody cdv A outer s H vs Q E g hr hsp
  exact ⟨t, h.nox, q⟩
theorem ofOk {P : Program} {w : World} {K : PySem.W.Frag} {mg : Str → Option Value} {base : Heap} {CX : CXT} {k : Nat} {f : Addr} {fd : FuncData} {ps : List Str} {sp : Sp} (F : FnOk P w K mg base CX k f fd ps sp) : FnG P w K mg base CX k f fd ps sp :=
  ⟨F.len, fun A outer s H args us vs Q E _ hr e0 hb r h => F.run A outer s H args us vs Q E hr e0 hb r h⟩
section
variable {X : Cx} {CX : CXT} {k : Nat} {f : Addr} {fd : FuncData} {ps : List Str} {sp : Sp} {dvs : List V} {ds : List Value} {E : XK} {x : Str} {e : Expr} {es : List Expr} {t : TA} {p pos : Pos}
theorem run_fnG {pins : List (Addr × Obj)} {σ : L2.St} {H : Hp} {s : Shared} {Q : VK} {us : List Value} {vs : List V} (gA : X.A.guards = some []) (F : FnG X.prog X.w X.K X.mg X.base CX k f fd ps sp) (hr : Room k X.A) (hb : Binds X.K fd ps ds) (hd : Vals dvs ds) (hx : Passes CX X E) (I : L2.Inv X pins σ H s) (r : Vals vs us) (h : sp (vs ++ dvs) H Q E) :
    wpAny (model X.prog X.w) X.A (call (.ref f) us) (EP X pins σ Q) X.xe s := by
  have r2 := Vals.append r hd
  have hl : (us ++ ds).length = ps.length := by rw [← r2.length]; exact F.len _ _ _ _ h
  refine wpAny_call (codeAny_mono (F.run X.A X.stack s H ⟨us, []⟩ (us ++ ds) (vs ++ dvs) Q E gA hr I.env0 (hb s us I.kIn hl) r2 h) fun r' s' hq => ?_)
  cases r' with
  | error e => exact hx pins σ H s e s' I hq
  | ok fl =>
    cases fl with
    | ret v => exact I.after hq
    | _ => exact hq.elim
/-- x(e, ..) by such a promise -/
theorem pe_callG (gA : X.A.guards = some []) (F : FnG X.prog X.w X.K X.mg X.base CX k f fd ps sp) (hr : Room k X.A) (hg : Gl X x) (hm : X.mg x = some (.ref f)) (hk : PySem.W.keepIn X.K (.ref f) = true) (hb : Binds X.K fd ps ds) (hd : Vals dvs ds) (hx : Passes CX X E) (ha : PA X (e :: es) t) (hdb : (x == ("__debug__" : Str)) = false := by decide)
    (h1 : starEach (e :: es) X.env = (false, eval e X.env) :: starEach es X.env := by rfl) (h2 : (backTo pos (starEach es X.env)).any (·.1) = false := by rfl) : PE X (.Call (.Name x p) (e :: es) [] pos) (tCall sp dvs E t) :=
  ⟨fun pins s τ H Q I h => wpAny_Call_Name_kw (ld_glob I hg hm (PySem.W.callWith_K (h₀ := X.base) I.ok.mod.kin hk (thn (ha.run pos pins s τ H (fun vs H1 => sp (vs ++ dvs) H1 Q E) I h) fun us s1 ⟨vs, H1, I1, r, q⟩ => ⟨I1.kIn, run_fnG gA F hr hb hd hx I1 r q⟩) h1 h2) hdb)⟩
end
/-- repr of nested data -/
theorem call_reprG {X : Cx} (gA : X.A.guards = some []) (hu : X.A.units + 64 < cLine) : CallR X (.builtin "repr") (fun xs H Q => ∃ a d, xs = [.ref a] ∧ Dp X.K H (.ref a) d ∧ d.showable = true ∧ d.hasDict = false ∧ d.depth ≤ 32 ∧ d.shown.length ≤ sizeLine ∧ Q (.str d.shown) H) := by
  intro pins s σ H xs us Q I r h
  obtain ⟨a, d, rfl, dp, sh, nd, de, hl, q⟩ := h
  obtain ⟨u, rfl, ru⟩ := r.one
  cases (show u = Value.ref a from ru)
  obtain ⟨as, rd⟩ := Dp.reads I d (.ref a) (.ref a) dp rfl
  refine repr_of_reads' rd sh (fun z => by rw [nd] at z; cases z) gA (by omega) (fun b o e => e) (fun h' u tk keep => ?_) hl
  exact ⟨.str _, H, I.kept keep, ⟨_, rfl⟩, q⟩
/-- what repr shows of a value -/
inductive Rpr (K : PySem.W.Frag) (H : Hp) : V → Str → Prop where
  | flat {v : V} (h : reprOk v) : Rpr K H v (reprV v)
  | dat {a : Addr} {d : PyData} (h : Dp K H (.ref a) d) (sh : d.showable = true) (nd : d.hasDict = false) (de : d.depth ≤ 32) (hl : d.shown.length ≤ sizeLine) : Rpr K H (.ref a) d.shown
  | emp {a : Addr} (h : H a = some (.dK [])) : Rpr K H (.ref a) (PyData.dict []).shown
theorem call_repr {X : Cx} (gA : X.A.guards = some []) (hu : X.A.units + 64 < cLine) : CallR X (.builtin "repr") (fun xs H Q => ∃ v z, xs = [v] ∧ Rpr X.K H v z ∧ Q (.str z) H) := by
  intro pins s σ H xs us Q I r h
  obtain ⟨v, z, rfl, rp, q⟩ := h
  cases rp with
  | flat h => exact call_reprF pins s σ H _ us Q I r ⟨v, rfl, h, q⟩
  | dat h sh nd de hl => exact call_reprG gA hu pins s σ H _ us Q I r ⟨_, _, rfl, h, sh, nd, de, hl, q⟩
  | @emp a h =>
    obtain ⟨u, rfl, ru⟩ := r.one
    cases (show u = Value.ref a from ru)
    obtain ⟨_, ns, vs, kv, o, es, ep, g, ex, dd, ko, prs, nd⟩ := I.hok a _ h
    have hv : vs = [] := by cases kv; rfl
    subst hv
    have he : es.toList = [] := by
      cases hE : es.toList with
      | nil => rfl
      | cons e l =>
        rw [hE] at prs
        cases prs
    have rd : Reads s.heap (.ref a) (.dict []) (a :: [] ++ []) := .dict (as := []) (bs := []) g ex.1 dd (by rw [he]; exact .nil) (by rw [he]; exact .nil)
    have dp : PyData.depth (.dict []) ≤ 1 := by decide
    refine repr_of_reads' rd (by decide) (fun _ m => ?_) gA (by omega) (fun b o e => e) (fun h' u tk keep => ?_) (by decide)
    · simp only [List.append_nil, List.mem_singleton] at m
      rw [← m] at ns
      simp at ns
    · exact ⟨.str _, H, I.kept keep, ⟨_, rfl⟩, q⟩
theorem call_reprS {X : Cx} {b : Addr} {pn : List (Addr × Obj)} (gA : X.A.guards = some []) (hu : X.A.units + 64 < cLine) : CallR (X.suite b pn) (.builtin "repr") (fun xs H Q => ∃ v z, xs = [v] ∧ Rpr X.K H v z ∧ Q (.str z) H) := call_repr (X := X.suite b pn) gA hu
/-! ## a law's own call -/
theorem law_callG {P : Program} {w : World} {K : PySem.W.Frag} {mg mb : Str → Option Value} {CX : CXT} {k : Nat} {fa a : Addr} {fd : FuncData} {x : Str} {sp : Sp} {s₁ : Shared} {vs : List Value} {ns : List Int}
    (inS : K.In s₁.heap) (hns : s₁.heap.Ns mainGlobals mg) (hb : s₁.heap.Ns builtinsNs mb) (hbb : ∀ x : Str, x ≠ "__name__" → mb x = bootBuiltins x) (hlim : s₁.heap.NoLimit) (hg : s₁.gens = #[]) (ha : s₁.heap.get? a = some { cls := .type "list", data := .seq vs.toArray }) (hi : IntsAre vs ns) (hl : ns.length ≤ sizeLine) (hr : Room k callerA)
    (F : ∀ base : Heap, K.In base → base.Ns mainGlobals mg → FnG P w K mg base CX k fa fd [x] sp) (hbind : ∀ (s : Shared) (u : Value), BindsTo s fd ⟨[u], []⟩ [(x, u)])
    (hsp : ∀ H, Only H → SqL K H a (ns.map V.int) → sp [.ref a] H (fun v _ => v = .bl true) (fun _ _ _ => False)) (hCX : ∀ H e s', CX [] H s₁ (fun _ _ _ => False) e s' → False) :
    codeAny (model P w) callerA (.call (.ref fa) ⟨[.ref a], []⟩) (fun r s' => r = .ok (.ret (.bool true)) ∧ OldK s₁.heap s'.heap ∧ s'.os = s₁.os ∧ AllBare s'.gens) s₁ := by
  have rv := vals_ints hi
  have lenV : vs.length = ns.length := hi.length
  have core : ∀ H : Hp, Only H → SqL K H a (ns.map V.int) → HOk P w H s₁.heap → (∀ b, H b ≠ none → b = a) → (H a ≠ none → K.lookup a = none) →
      codeAny (model P w) callerA (.call (.ref fa) ⟨[.ref a], []⟩) (fun r s' => r = .ok (.ret (.bool true)) ∧ OldK s₁.heap s'.heap ∧ s'.os = s₁.os ∧ AllBare s'.gens) s₁ := by
    intro H hO hS hok only hK
    have other : ∀ {b : Addr} {u : HO}, H b = some u → b = a := fun {b u} q => only b (by rw [q]; exact Option.some_ne_none u)
    have noD : ∀ {b : Addr} {o : Obj} {es ep}, s₁.heap.get? b = some o → o.data = .dict es ep → H b = none := by
      intro b o es ep e d
      cases q : H b with
      | none => rfl
      | some u =>
        obtain rfl := other q
        rw [ha] at e
        cases e
        cases d
    have nsH : ∀ {b : Addr} {m : Str → Option Value}, s₁.heap.Ns b m → (hidT s₁.heap H).Ns b m := by
      rintro b m ⟨o, es, ep, e, d, r⟩
      exact ⟨o, es, ep, hidT_get e (noD e d), d, r⟩
    have inH : K.In (hidT s₁.heap H) := by
      intro b o e
      refine hidT_get (inS b o e) ?_
      cases q : H b with
      | none => rfl
      | some u =>
        obtain rfl := other q
        have z := hK (by rw [q]; exact Option.some_ne_none u)
        rw [z] at e
        cases e
    have md : L2.Mod K mg (hidT s₁.heap H) := ⟨inH, nsH hns, ⟨mb, nsH hb, hbb⟩, by
      obtain ⟨mc, h1, h2⟩ := hlim
      exact ⟨mc, nsH h1, h2⟩⟩
    have e0 : Env0 P w K mg (hidT s₁.heap H) callerA [] s₁ H := { frames := rfl, mod := md, bs := fun b o e => of_hidT e, bsz := Nat.le_of_eq (hidT_size s₁.heap H), funs := trivial, frf := fun b hb => absurd hb List.not_mem_nil, hok := hok, bare := AllBare.of_eq hg }
    refine codeAny_mono ((F (hidT s₁.heap H) inH (nsH hns)).run callerA [] s₁ H ⟨[.ref a], []⟩ [.ref a] [.ref a] (fun v _ => v = .bl true) (fun _ _ _ => False) rfl hr e0 (hbind s₁ _) (.cons rfl .nil) (hsp H hO hS)) fun r s' h => ?_
    cases r with
    | error e => exact (hCX H e s' h).elim
    | ok fl =>
      cases fl with
      | ret u =>
        obtain ⟨v, H', os, bare, un, hok', rr, rfl⟩ := h
        cases (show u = Value.bool true from rr)
        refine ⟨rfl, OldK.of_keep fun b o e => ?_, os, bare⟩
        cases q : H b with
        | none => exact un.keep b o e q (fun z => absurd z List.not_mem_nil) (fun z => absurd z List.not_mem_nil)
        | some u =>
          rcases hO b with z | ⟨ob, xs, z⟩
          · rw [q] at z
            cases z
          · have h1 : s₁.heap.get? b = some ob := (hok b _ z).1
            have h2 : s'.heap.get? b = some ob := (hok' b _ (un.frzs b ob _ z)).1
            rw [h2, ← h1, e]
      | _ => exact h.elim
  cases hk : K.lookup a with
  | none =>
    refine core (fun b => if b = a then some (.frz { cls := .type "list", data := .seq vs.toArray } (.lst (ns.map V.int))) else none) (fun b => ?_) (.inl (.inr ⟨_, if_pos rfl⟩)) (fun b u z => ?_) (fun b z => ?_) (fun _ => hk)
    · by_cases e : b = a
      · exact .inr ⟨_, _, if_pos e⟩
      · exact .inl (if_neg e)
    · by_cases e : b = a
      · subst e
        have z' := (if_pos rfl).symm.trans z
        cases z'
        exact ⟨ha, by rw [List.length_map]; exact hl, vs, 0, rv, ha⟩
      · have z' := (if_neg e).symm.trans z
        cases z'
    · by_cases e : b = a
      · exact e
      · exact absurd (if_neg e) z
  | some o =>
    have e := inS a o hk
    rw [ha] at e
    cases e
    exact core (fun _ => none) (fun _ => .inl rfl) (.inr ⟨_, vs.toArray, 0, hk, rfl, rfl, rfl, by rw [List.size_toArray, lenV]; exact hl, rv⟩) (fun b u z => nomatch z) (fun b z => absurd rfl z) (fun z => absurd rfl z)
end K7E
end
/-! ## KW -/
section
namespace K7E
open PySem PySem.Spec PyProof.Rows L2 PySem.W
theorem walk_ofG {l : PySem.W.OpenLaw} {n k : Nat} {q : Program} {loose : List Str} {XP : (Str → Option Value) → Heap → Prop} {YP : World → Heap → Prop} {d : DefRec} {K : Params → PySem.W.Frag} {CX : World → CXT} {sp : World → Sp} {x : Str}
    (hn : l.most = some n) (hn2 : n ≤ sizeLine) (hdf : d.params.defaults = []) (hr : Room k callerA) (hY : ∀ w h, YP w h → (K w.params).In h)
    (F : ∀ (w : World) (mg : Str → Option Value) (fa : Addr) (h : Heap), (K w.params).In h → h.Ns mainGlobals mg → mg d.name = some (.ref fa) →
      ∃ fd, (∀ (s : Shared) (u : Value), BindsTo s fd ⟨[u], []⟩ [(x, u)]) ∧ ∀ base : Heap, (K w.params).In base → base.Ns mainGlobals mg → FnG l.prog w (K w.params) mg base (CX w) k fa fd [x] (sp w))
    (hsp : ∀ (w : World) (H : Hp) (a : Addr) (ns : List Int), ns.length ≤ n → (∀ z ∈ ns, Builtin.Int.intBits z ≤ 1048576) → Only H → SqL (K w.params) H a (ns.map V.int) → sp w [.ref a] H (fun v _ => v = .bl true) (fun _ _ _ => False))
    (hCX : ∀ (w : World) H s e s', CX w [] H s (fun _ _ _ => False) e s' → False) : PySem.W.WalkO q loose XP YP l.row.toRowW d [] fun f vs => call f vs := by
  refine Att.attach_callB hn hdf fun w s₀ s₁ mg mb fa o pm cd doc a vs ns G Y ho hd hcd hmg hobj hints hlen hbits hg => ?_
  have inS := hY w s₁.heap Y
  obtain ⟨fd, hb, hF⟩ := F w mg fa s₁.heap inS G.T.g hmg
  exact law_callG inS G.T.g G.T.b G.T.builtins G.T.nolimit hg hobj hints (Nat.le_trans hlen hn2) hr hF hb (fun H hO hS => hsp w H a ns hlen hbits hO hS) fun H e s' => hCX w H s₁ e s'
end K7E
end
/-! ## RP -/
section
open PySem PySem.Spec PyProof.Rows L2
namespace K7
/-! what repr shows of a deed -/
structure Shw (d : PyData) (k l : Nat) : Prop where
  sh : d.showable = true
  nd : d.hasDict = false
  de : d.depth ≤ k
  ln : d.shown.length ≤ l
theorem Shw.le {d : PyData} {k l k' l' : Nat} (h : Shw d k l) (h1 : k ≤ k') (h2 : l ≤ l') : Shw d k' l' := ⟨h.sh, h.nd, Nat.le_trans h.de h1, Nat.le_trans h.ln h2⟩
theorem shw_all {k l : Nat} : ∀ {ds : List PyData}, (∀ d ∈ ds, Shw d k l) → PyData.showableAll ds = true ∧ PyData.hasDictAll ds = false ∧ PyData.depthAll ds ≤ k ∧ ((PyData.shownAll ds).map fun x => x.length).sum ≤ l * ds.length ∧ (PyData.shownAll ds).length = ds.length
  | [], _ => ⟨rfl, rfl, Nat.zero_le _, Nat.zero_le _, rfl⟩
  | d :: ds, h => by
    have x := h d List.mem_cons_self
    obtain ⟨b1, b2, b3, b4, b5⟩ := shw_all (ds := ds) fun e m => h e (List.mem_cons_of_mem _ m)
    have h1 := x.de
    have h2 := x.ln
    refine ⟨by simp only [PyData.showableAll, x.sh, b1, Bool.and_self], by simp only [PyData.hasDictAll, x.nd, b2, Bool.or_self], ?_, ?_, ?_⟩
    · simp only [PyData.depthAll]; omega
    · simp only [PyData.shownAll, List.map_cons, List.sum_cons, List.length_cons, Nat.mul_succ]; omega
    · simp only [PyData.shownAll, List.length_cons, b5]
theorem shw_list {k l m : Nat} {ds : List PyData} (h : ∀ d ∈ ds, Shw d k l) (hm : ds.length ≤ m) : Shw (.list ds) (k + 1) (l * m + 2 * m + 4) := by
  obtain ⟨b1, b2, b3, b4, b5⟩ := shw_all h
  have b6 := Nat.mul_le_mul_left l hm
  refine ⟨by simp only [PyData.showable, b1], by simp only [PyData.hasDict, b2], by simp only [PyData.depth]; omega, ?_⟩
  have t := PySem.textFrom_len_le (PyData.shownAll ds) 0 "["
  have l1 : ("[" : Str).length = 1 := by decide +kernel
  have l2 : ("]" : Str).length = 1 := by decide +kernel
  rw [show (PyData.list ds).shown = listText (PyData.shownAll ds) by simp only [PyData.shown]]
  unfold PySem.listText
  rw [Str.length_append]
  omega
theorem shw_tup {k l m : Nat} {ds : List PyData} (h : ∀ d ∈ ds, Shw d k l) (hm : ds.length ≤ m) : Shw (.tuple ds) (k + 1) (l * m + 2 * m + 4) := by
  obtain ⟨b1, b2, b3, b4, b5⟩ := shw_all h
  have b6 := Nat.mul_le_mul_left l hm
  refine ⟨by simp only [PyData.showable, b1], by simp only [PyData.hasDict, b2], by simp only [PyData.depth]; omega, ?_⟩
  have t := PySem.StrLaws.join_length_le ", " (PyData.shownAll ds)
  have l1 : ("(" : Str).length = 1 := by decide +kernel
  have l2 : (", " : Str).length = 2 := by decide +kernel
  have l3 : (Str.ofString (if ((PyData.shownAll ds).length == 1) = true then ",)" else ")")).length ≤ 2 := by split <;> decide +kernel
  rw [show (PyData.tuple ds).shown = tupleText (PyData.shownAll ds) by simp only [PyData.shown]]
  unfold PySem.tupleText
  rw [Str.length_append, Str.length_append]
  rw [l2] at t
  omega
theorem shw_nat {n : Nat} (h : n ≤ 10 ^ 30) : Shw (.int (n : Nat)) 0 64 := by
  refine ⟨decide_eq_true ?_, rfl, Nat.zero_le _, ?_⟩
  · show Nat.log2 n < 1920
    rcases Nat.eq_zero_or_pos n with rfl | z
    · decide
    · exact (Nat.log2_lt (by omega)).mpr (Nat.lt_of_le_of_lt h (by decide +kernel))
  · show (Str.ofString (Nat.repr n)).length ≤ 64
    rw [PySem.ofString_length]
    have : (Nat.repr n).length ≤ 40 := (Nat.length_repr_le_iff (by decide)).mpr (Nat.lt_of_le_of_lt h (by decide))
    omega
theorem shw_word {z : Str} (h : z = "goes" ∨ z = "grant" ∨ z = "gives") : Shw (.str z) 0 64 := by
  rcases h with rfl | rfl | rfl <;> exact ⟨rfl, rfl, Nat.zero_le _, by decide +kernel⟩
/-- a list or tuple as data -/
theorem sq_shw {K : PySem.W.Frag} {H : Hp} {b : Addr} {xs : List V} (h : SqOf H b xs) {k l m : Nat} {ds : List PyData} (sw : ∀ d ∈ ds, Shw d k l) (hm : ds.length ≤ m) (dp : ∀ H', Same H H' → DpAll K H' xs ds) : ∃ d, Shw d (k + 1) (l * m + 2 * m + 4) ∧ ∀ H', Same H H' → Dp K H' (.ref b) d := by
  rcases h with h | h
  · exact ⟨_, shw_tup sw hm, fun H' e => .tup (.inl (.inl (e _ _ h))) (dp H' e)⟩
  · exact ⟨_, shw_list sw hm, fun H' e => .lst (.inl (.inl (e _ _ h))) (dp H' e)⟩
theorem ints_shw {l : List Nat} (h : ∀ c ∈ l, c ≤ 10 ^ 30) : ∀ d ∈ l.map (fun c => PyData.int (c : Nat)), Shw d 0 64 := fun d hd => by
  obtain ⟨c, hc, rfl⟩ := List.mem_map.mp hd
  exact shw_nat (h c hc)
theorem big30 {c : Nat} (h : c < 5) : c ≤ 10 ^ 30 := Nat.le_trans (Nat.le_of_lt h) (by decide)
theorem coB_lt {n a b : Nat} (h : coB n (a, b) = true) : a < n ∧ b < n := by
  unfold coB twoV cellsV at h
  have y : ∀ x ∈ ints_ [a, b], wholeV x 0 (((n : Nat) : Int) - 1) = true := by
    simp only [Bool.and_eq_true] at h
    exact List.all_eq_true.mp (by first | exact h.1.1.2 | exact h.1.1.1 | exact h.1.1 | exact h.1.2)
  have ya := y _ List.mem_cons_self
  have yb := y _ (List.mem_cons_of_mem _ List.mem_cons_self)
  rw [wholeV_int, Bool.and_eq_true] at ya yb
  have := of_decide_eq_true ya.2
  have := of_decide_eq_true yb.2
  omega
theorem deed_rpr {K : PySem.W.Frag} {n : Nat} {hs : List Nat} {H : Hp} {t : Addr} {D : DeedT} (h : DeedAt n hs H t D) (n5 : n ≤ 5) : ∃ z, ∀ H', Same H H' → K7E.Rpr K H' (.ref t) z := by
  have cells : ∀ {cs : List Nat} {b : Addr}, cs.Nodup → (∀ c ∈ cs, c < n) → SqOf H b (ints_ cs) → ∃ d, Shw d 1 (64 * 32 + 2 * 32 + 4) ∧ ∀ H', Same H H' → Dp K H' (.ref b) d := fun {cs b} nd lt h =>
    sq_shw h (ints_shw fun c hc => big30 (Nat.lt_of_lt_of_le (lt c hc) n5)) (by rw [List.length_map]; exact Nat.le_trans (cells_len nd fun c hc => Nat.lt_of_lt_of_le (lt c hc) n5) (show 5 ≤ 32 by decide)) fun H' e => dp_ints cs
  cases D with
  | said g cs ds =>
    obtain ⟨⟨b, d, h1, h2, h3⟩, lc, ld, _⟩ := h
    obtain ⟨d1, w1, p1⟩ := cells lc.nd lc.lt h2
    obtain ⟨d2, w2, p2⟩ := cells ld.nd ld.lt h3
    have w0 : Shw (.str (sayW g)) 0 64 := shw_word (by cases g; exact .inr (.inr rfl); exact .inr (.inl rfl))
    have w : Shw (.tuple [.str (sayW g), d1, d2]) 2 (4420 * 4 + 2 * 4 + 4) := shw_tup (fun d hd => by
      rcases List.mem_cons.mp hd with rfl | hd
      · exact w0.le (by decide) (by decide)
      · rcases List.mem_cons.mp hd with rfl | hd
        · exact w1.le (by decide) (by decide)
        · rw [List.mem_singleton.mp hd]; exact w2.le (by decide) (by decide)) (by show 3 ≤ 4; decide)
    exact ⟨_, fun H' e => .dat (.tup (.inl (.inl (e _ _ h1))) (.cons (.str _) (.cons (p1 H' e) (.cons (p2 H' e) .nil)))) w.sh w.nd (Nat.le_trans w.de (by decide)) (Nat.le_trans w.ln (by decide))⟩
  | goes cs hd tl =>
    obtain ⟨G, c0, h30, tn, t32, tc, _⟩ := h
    obtain ⟨b, tt, ts, h1, h2, h3, h4⟩ := G.at_
    obtain ⟨d1, w1, p1⟩ := cells G.nd G.lt h2
    obtain ⟨d2, w2, p2⟩ := sq_shw (K := K) (k := 1) (l := 136) (m := 32) (ds := (pairs tl).map intD) h3 (fun d hd => by
      obtain ⟨l, hl, rfl⟩ := List.mem_map.mp hd
      obtain ⟨⟨x, y⟩, hc, rfl⟩ := List.mem_map.mp hl
      obtain ⟨lx, ly⟩ := coB_lt (List.all_eq_true.mp tc _ hc)
      exact (shw_tup (m := 2) (ints_shw fun c hc => by
        rcases List.mem_cons.mp hc with rfl | hc
        · exact big30 (Nat.lt_of_lt_of_le lx n5)
        · rw [List.mem_singleton.mp hc]; exact big30 (Nat.lt_of_lt_of_le ly n5)) (by show 2 ≤ 2; decide)).le (by decide) (by decide)) (by unfold pairs; rw [List.length_map, List.length_map]; exact t32) fun H' e => dp_rows (TAt.same e h4)
    have w : Shw (.tuple [.str "goes", d1, .int (hd : Nat), d2]) 3 (4420 * 4 + 2 * 4 + 4) := shw_tup (fun d hd => by
      rcases List.mem_cons.mp hd with rfl | hd
      · exact (shw_word (.inl rfl)).le (by decide) (by decide)
      · rcases List.mem_cons.mp hd with rfl | hd
        · exact w1.le (by decide) (by decide)
        · rcases List.mem_cons.mp hd with rfl | hd
          · exact (shw_nat h30).le (by decide) (by decide)
          · rw [List.mem_singleton.mp hd]; exact w2.le (by decide) (by decide)) (by show 4 ≤ 4; decide)
    exact ⟨_, fun H' e => .dat (.tup (.inl (.inl (e _ _ h1))) (.cons (.str _) (.cons (p1 H' e) (.cons (.int _) (.cons (p2 H' e) .nil))))) w.sh w.nd (Nat.le_trans w.de (by decide)) (Nat.le_trans w.ln (by decide))⟩
end K7
end
/-! ## P46 -/
section
open PySem PySem.Spec PyProof.Rows L2
namespace K7
abbrev N_law : List Str := ["_law_script", "_law_hand_here", "_law_n", "_law_land_here", "_law_place", "_law_turn", "_law_hands", "_law_rows", "_law_names", "_law_state_here", "_law_other", "_law_deed_here", "_law_kept", "_law_cell", "_law_due_here", "_law_wrong_here", "_law_word", "_law_strange"]
abbrev s_law : Stmt := topS 73
theorem sc_law : FnScope ["_law_script", "_law_hand_here", "_law_n", "_law_land_here", "_law_place", "_law_turn", "_law_hands", "_law_rows", "_law_names", "_law_state_here", "_law_other", "_law_deed_here", "_law_kept", "_law_cell", "_law_due_here", "_law_wrong_here", "_law_word", "_law_strange"] ["_law_script"] (defScope s_law) := ⟨rfl, rfl, rfl, by decide +kernel, rfl, by decide +kernel, by decide +kernel⟩
/-! ### the law -/
theorem StateO.stay {C S : Addr} {h c : Addr} {H H' : Hp} {p l : Addr} {n : Nat} {es : List (Nat × Nat)} {rd hs : List Nat} {tab : List (List Nat)} (W : StateO C S H p l n es rd hs tab) (x : Stay h c H H') : StateO C S H' p l n es rd hs tab := by
  obtain ⟨dx, th, tt, rs, h1, h2, h3, h4⟩ := W.at_
  exact ⟨⟨dx, th, tt, rs, x.but p _ (x.hand0.nei h1) h1, x.tup h2, x.tup h3, h4.mono fun b xs hb => x.tup hb⟩, x.lo W.ld, W.st⟩
theorem pw_nodup {l : List Nat} (h : l.Pairwise (· < ·)) : l.Nodup := List.nodup_iff_pairwise_ne.mpr (h.imp fun h e => by rw [e] at h; exact Nat.lt_irrefl _ h)
theorem kind_no : KindOk none := fun _ _ _ e => nomatch e
theorem kind_so {z : Str} {cs os : List Nat} (h : z ∈ kinds) : KindOk (some (z, cs, os)) := fun _ _ _ e => by
  cases e
  exact h
theorem kind_ite {c : Prop} [Decidable c] {x y : StT} (h : KindOk x) (g : KindOk y) : KindOk (if c then x else y) := by
  split
  · exact h
  · exact g
theorem kind_sf {n c : Nat} {hs : List Nat} {D : DeedT} : KindOk (sfF n hs c D) := by
  cases D with
  | said g cs ds => exact kind_ite (kind_so (by cases g <;> decide)) kind_no
  | goes cs hd tl => exact kind_ite (kind_so (by decide)) (kind_ite (kind_ite (kind_so (by decide)) kind_no) (kind_ite (kind_so (by decide)) kind_no))
theorem word_ok {n : Nat} {hs : List Nat} {H : Hp} {v : V} {z : Str} (h : WrV n hs H v z) : PyData.strOk z = true := by
  have k : ∀ {x : V} {z : Str}, x = .str z → (∀ y : Str, x = .str y → PyData.strOk y = true) → PyData.strOk z = true := fun e h => h _ e
  have c : ∀ {p : Prop} [Decidable p] {x y : V}, (∀ z, x = .str z → PyData.strOk z = true) → (∀ z, y = .str z → PyData.strOk z = true) → ∀ z, (if p then x else y) = V.str z → PyData.strOk z = true := fun {p} _ {x y} h g z => by
    split
    · exact h z
    · exact g z
  have w : ∀ {a : Str}, PyData.strOk a = true → ∀ z, V.str a = .str z → PyData.strOk z = true := fun h z e => by
    cases e
    exact h
  have o : ∀ z : Str, V.non = .str z → PyData.strOk z = true := fun z e => nomatch e
  cases h with
  | non => decide +kernel
  | none _ => decide +kernel
  | form _ _ _ _ => decide +kernel
  | saidB _ _ _ _ _ _ e => exact c o (w (by decide +kernel)) _ e
  | goesB _ _ _ _ _ _ _ e => exact c (w (by decide +kernel)) (c (w (by decide +kernel)) (c o (w (by decide +kernel)))) _ e
  | said _ _ _ _ _ _ e => exact c (w (by decide +kernel)) (c (w (by decide +kernel)) o) _ e
  | still _ _ _ _ _ _ => decide +kernel
theorem two_sh {a : Str} {d : PyData} (ha : PyData.strOk a = true) (hd : PyData.canLay0 d = true) (h0 : PyData.depth d = 0) : SeqAt.shaped (.tuple [.str a, d]) = true ∧ PyData.canLay0 (.tuple [.str a, d]) = true := by
  have h : PyData.canLay0 (.tuple [.str a, d]) = true := by simp [PyData.canLay0, PyData.canLayAll0, ha, hd]
  refine ⟨?_, h⟩
  show (PyData.canLay0 (.tuple [.str a, d]) && decide (PyData.depth (.tuple [.str a, d]) ≤ 64)) = true
  rw [h]
  simp [PyData.depth, PyData.depthAll, h0]
theorem WrV.stay {n : Nat} {hs : List Nat} {h c : Addr} {H H' : Hp} {v : V} {z : Str} (w : WrV n hs H v z) (st : Stay h c H H') : WrV n hs H' v z := w.mono (fun _ _ h => st.tup h) (fun _ _ h => st.lst h (notHand_ints _)) fun _ _ h => st.lst h (notHand_refs _)
theorem nms_le {s x : Nat} (h : x ∈ nmsF s) (s2 : s ≤ 10 ^ 29) : x ≤ 10 ^ 30 := by
  unfold nmsF at h
  simp only [List.mem_cons, List.not_mem_nil, or_false] at h
  omega
section
variable {P : Program} {w : World} {K : PySem.W.Frag} {mg : Str → Option Value} {base : Heap} {a : AdL} {S B : Addr} {A5 : StA}
theorem new_state {H1 : Hp} {Q : VK} {E : XK} {l th tt : Addr} {n : Nat} {es : List (Nat × Nat)} {rd hs : List Nat} {rs : List Addr} {tab : List (List Nat)} (L : LandO a.C H1 l n es rd) (hth : SqOf H1 th (ints_ hs)) (htt : SqOf H1 tt (rs.map V.ref)) (hR : RAt H1 rs tab) (Sx : StTab n hs tab)
    (q : ∀ H' x, Same H1 H' → H1 x = none → StateO a.C S H' x l n es rd hs tab → Q (.ref x) H') :
    ∀ x dx, H1 x = none → H1 dx = none → dx ≠ x → spStI a S (.ref x :: ([.ref l, .ref th, .ref tt] ++ [])) (upd (upd H1 dx (.own x)) x (.ins S dx [])) (fun v H2 => v = .non ∧ Q (.ref x) H2) E := by
  intro x dx hx hdx hne
  have e : Same H1 (upd (upd H1 dx (.own x)) x (.ins S dx [])) := same_new (same_new (Same.refl H1) hdx) (by rw [upd_ne hne.symm]; exact hx)
  obtain ⟨dl, an, ar, ay, ac, tn, ty, tc, m1, _⟩ := L.at_
  refine ⟨x, dx, l, th, tt, n, es, rd, hs, rs, tab, rfl, upd_same, L.same e, ne_of_none m1 hx, hth.same e, htt.same e, hR.same e, Sx, fun H' b W => ⟨rfl, q H' x (fun z o hz => ?_) hx W⟩⟩
  exact b z o (ne_of_none hz hx) (e _ _ hz)
def spLaw (K : PySem.W.Frag) : Sp := fun vs H Q _ => ∃ (s : Addr) (ns : List Int), vs = [.ref s] ∧ SqL K H s (ns.map V.int) ∧ ns.length ≤ 63 ∧ ∀ H', Q (.bl true) H'
theorem ok_law (T : Tl K mg a) (clsS : Cls K S) (nS : ∀ f ∈ sfields, NoAttr K S f) (gS : mg "State" = some (.ref S)) {f fI fSI fha fld fpk fdr fls fow fde fdu fli fwr frf fso : Addr} {fd fdI fdSI fdha fdld fdpk fddr fdls fdow fdde fddu fdli fdwr fdrf fdso : FuncData} (F : Fun K "law" "law" s_law f fd)
    (Gha : FnOk P w K mg base CX0 1 fha fdha ["_law_script"] (spHand K)) (gha : mg "_law_hand" = some (.ref fha)) (kha : PySem.W.keepIn K (.ref fha) = true) (bha : Binds K fdha ["_law_script"] [])
    (Gld : FnOk P w K mg base CX0 4 fld fdld ["_law_hand_here", "_law_n"] spLand) (gld : mg "_law_land" = some (.ref fld)) (kld : PySem.W.keepIn K (.ref fld) = true) (bld : Binds K fdld ["_law_hand_here", "_law_n"] [])
    (Gpk : FnOk P w K mg base CX0 3 fpk fdpk ["_law_hand_here", "_law_things"] spPick) (gpk : mg "_law_pick" = some (.ref fpk)) (kpk : PySem.W.keepIn K (.ref fpk) = true) (bpk : Binds K fdpk ["_law_hand_here", "_law_things"] [])
    (Gdr : FnOk P w K mg base CX0 2 fdr fddr ["_law_hand_here", "_law_many"] spDraw) (gdr : mg "_law_draw" = some (.ref fdr)) (kdr : PySem.W.keepIn K (.ref fdr) = true) (bdr : Binds K fddr ["_law_hand_here", "_law_many"] [])
    (Gls : FnOk P w K mg base CX0 4 fls fdls ["_law_hand_here", "_law_n"] spLs) (gls : mg "_law_state" = some (.ref fls)) (kls : PySem.W.keepIn K (.ref fls) = true) (bls : Binds K fdls ["_law_hand_here", "_law_n"] [])
    (Gow : FnOk P w K mg base CX0 1 fow fdow ["_law_hands", "_law_rows"] spOw) (gow : mg "_law_other_rows" = some (.ref fow)) (kow : PySem.W.keepIn K (.ref fow) = true) (bow : Binds K fdow ["_law_hands", "_law_rows"] [])
    (Gde : FnOk P w K mg base CX0 6 fde fdde ["_law_hand_here", "_law_hands", "_law_names"] spGoes) (gde : mg "_law_deed" = some (.ref fde)) (kde : PySem.W.keepIn K (.ref fde) = true) (bde : Binds K fdde ["_law_hand_here", "_law_hands", "_law_names"] [])
    (Gdu : FnOk P w K mg base CX0 1 fdu fddu ["_law_hands", "_law_cell", "_law_deed_here"] spLd) (gdu : mg "_law_due" = some (.ref fdu)) (kdu : PySem.W.keepIn K (.ref fdu) = true) (bdu : Binds K fddu ["_law_hands", "_law_cell", "_law_deed_here"] [])
    (Gli : FnOk P w K mg base CX0 1 fli fdli ["_law_told", "_law_due_here"] (spLi A5)) (gli : mg "_law_is" = some (.ref fli)) (kli : PySem.W.keepIn K (.ref fli) = true) (bli : Binds K fdli ["_law_told", "_law_due_here"] [])
    (Gwr : FnOk P w K mg base CX0 4 fwr fdwr ["_law_hand_here", "_law_hands", "_law_deed_here"] spWr) (gwr : mg "_law_wrong" = some (.ref fwr)) (kwr : PySem.W.keepIn K (.ref fwr) = true) (bwr : Binds K fdwr ["_law_hand_here", "_law_hands", "_law_deed_here"] [])
    (Grf : FnOk P w K mg base CX0 10 frf fdrf ["_law_state_here", "_law_cell", "_law_deed_here"] (spRefu K a S)) (grf : mg "_law_refused" = some (.ref frf)) (krf : PySem.W.keepIn K (.ref frf) = true) (brf : Binds K fdrf ["_law_state_here", "_law_cell", "_law_deed_here"] [])
    (Gso : FnOk P w K mg base (L2.CX P w) 9 fso fdso ["state", "cell", "deed"] (spSo K a S B A5)) (gso : mg "step_of" = some (.ref fso)) (kso : PySem.W.keepIn K (.ref fso) = true) (bso : Binds K fdso ["state", "cell", "deed"] [])
    (MC : Mk K a.C fI) (GI : FnOk P w K mg base CX0 5 fI fdI ["self", "cells", "neighbours", "roads"] (spLandI a)) (bI : Binds K fdI ["self", "cells", "neighbours", "roads"] [])
    (MS : Mk K S fSI) (GS_ : FnOk P w K mg base CX0 5 fSI fdSI ["self", "land", "hands", "standings"] (spStI a S)) (bS : Binds K fdSI ["self", "land", "hands", "standings"] [])
    (m_tuple : mg "tuple" = none) (m_range : mg "range" = none) (m_repr : mg "repr" = none) : K7E.FnG P w K mg base CX0 11 f fd ["_law_script"] (spLaw K) := by
  refine K7E.okG F sc_law (fun vs H Q E h => ?_) (fun cdv A outer s H vs Q E hg hr h => ?_)
  · obtain ⟨s, ns, rfl, _⟩ := h
    rfl
  · obtain ⟨s0, ns, rfl, hS, hl, q⟩ := h
    refine ⟨_, (pss_cons (ps_set (i := 1) sc_law.nd rfl (by first | exact Or.inl rfl | exact Or.inr rfl) (pe_call Gha (hr.mono (by decide)) (by rfl) gha kha bha .nil pass0 (pa_cons (pv 0) pa_nil)))
 (pss_cons (ps_set (i := 2) sc_law.nd rfl (by first | exact Or.inl rfl | exact Or.inr rfl) (pe_call Gpk (hr.mono (by decide)) (by rfl) gpk kpk bpk .nil pass0 (pa_cons (pv 1) (pa_cons (pe_lst (pa_cons pe_int (pa_cons pe_int (pa_cons pe_int (pa_cons pe_int (pa_cons pe_int (pa_cons pe_int (pa_cons pe_int (pa_cons pe_int (pa_cons pe_int (pa_cons pe_int pa_nil))))))))))) pa_nil))))
 (pss_cons (ps_set (i := 3) sc_law.nd rfl (by first | exact Or.inl rfl | exact Or.inr rfl) (pe_call Gld (hr.mono (by decide)) (by rfl) gld kld bld .nil pass0 (pa_cons (pv 1) (pa_cons (pv 2) pa_nil))))
 (pss_cons (ps_set (i := 4) sc_law.nd rfl (by first | exact Or.inl rfl | exact Or.inr rfl) (pe_make MC GI (hr.mono (by decide)) (by rfl) T.gC bI .nil pass0 (pa_cons (pv 2) (pa_cons (pe_ix ix_tup (pv 3) pe_int (fun _ _ => rfl)) (pa_cons (pe_ix ix_tup (pv 3) pe_int (fun _ _ => rfl)) pa_nil)))))
 (pss_cons (ps_for PassesOwn.never rfl (pi_range1 rfl m_range (pa_cons pe_int pa_nil)) (pg_name (i := 5) sc_law.nd rfl (by first | exact Or.inl rfl | exact Or.inr rfl))
  (pss_cons (ps_asg (pe_call Gls (hr.mono (by decide)) (by rfl) gls kls bls .nil pass0 (pa_cons (pv 1) (pa_cons (pv 2) pa_nil))) (pg_tup rfl (pgs_cons (pg_name (i := 6) sc_law.nd rfl (by first | exact Or.inl rfl | exact Or.inr rfl)) (pgs_cons (pg_name (i := 7) sc_law.nd rfl (by first | exact Or.inl rfl | exact Or.inr rfl)) (pgs_cons (pg_name (i := 8) sc_law.nd rfl (by first | exact Or.inl rfl | exact Or.inr rfl)) pgs_nil)))))
 (pss_cons (ps_par (by rfl) sc_law.nd (i := 9) (j := 10) rfl rfl (by decide) rfl rfl (pa_cons (pe_make MS GS_ (hr.mono (by decide)) (by rfl) gS bS .nil pass0 (pa_cons (pv 4) (pa_cons (pv 6) (pa_cons (pv 7) pa_nil)))) (pa_cons (pe_make MS GS_ (hr.mono (by decide)) (by rfl) gS bS .nil pass0 (pa_cons (pv 4) (pa_cons (pv 6) (pa_cons (pe_call Gow (hr.mono (by decide)) (by rfl) gow kow bow .nil pass0 (pa_cons (pv 6) (pa_cons (pv 7) pa_nil))) pa_nil)))) pa_nil)) (by rfl))
 (pss_cons (ps_set (i := 11) sc_law.nd rfl (by first | exact Or.inl rfl | exact Or.inr rfl) (pe_call Gde (hr.mono (by decide)) (by rfl) gde kde bde .nil pass0 (pa_cons (pv 1) (pa_cons (pv 6) (pa_cons (pv 8) pa_nil)))))
 (pss_cons (ps_set (i := 12) sc_law.nd rfl (by first | exact Or.inl rfl | exact Or.inr rfl) (pe_callB (K7E.call_repr (by exact hg) hr.units) (by rfl) m_repr boot_repr (pa_cons (pv 11) pa_nil)))
 (pss_cons (ps_for PassesOwn.never rfl (pi_range1 rfl m_range (pa_cons (pv 2) pa_nil)) (pg_name (i := 13) sc_law.nd rfl (by first | exact Or.inl rfl | exact Or.inr rfl))
  (pss_cons (ps_set (i := 14) sc_law.nd rfl (by first | exact Or.inl rfl | exact Or.inr rfl) (pe_call Gdu (hr.mono (by decide)) (by rfl) gdu kdu bdu .nil pass0 (pa_cons (pv 6) (pa_cons (pv 13) (pa_cons (pv 11) pa_nil)))))
 (pss_cons (ps_if (pw_or (pt_not (pt_val (pe_call Gli (hr.mono (by decide)) (by rfl) gli kli bli .nil pass0 (pa_cons (pe_call Gso (hr.mono (by decide)) (by rfl) gso kso bso .nil passL (pa_cons (pv 9) (pa_cons (pv 13) (pa_cons (pv 11) pa_nil)))) (pa_cons (pv 14) pa_nil))))) (pw_or1 (pt_not (pt_val (pe_call Gli (hr.mono (by decide)) (by rfl) gli kli bli .nil pass0 (pa_cons (pe_call Gso (hr.mono (by decide)) (by rfl) gso kso bso .nil passL (pa_cons (pv 10) (pa_cons (pv 13) (pa_cons (pv 11) pa_nil)))) (pa_cons (pv 14) pa_nil))))))).pt
  (pss_one (ps_ret pe_bl))
  pss_nil)
 (pss_one (ps_if (pw_or (pt_not (pt_val (pe_call Gli (hr.mono (by decide)) (by rfl) gli kli bli .nil pass0 (pa_cons (pe_call Gso (hr.mono (by decide)) (by rfl) gso kso bso .nil passL (pa_cons (pv 9) (pa_cons (pv 13) (pa_cons (pv 11) pa_nil)))) (pa_cons (pv 14) pa_nil))))) (pw_or1 (pt_cmpR op_ne (pe_callB (K7E.call_repr (by exact hg) hr.units) (by rfl) m_repr boot_repr (pa_cons (pv 11) pa_nil)) (pv 12) (nomark _)))).pt
  (pss_one (ps_ret pe_bl))
  pss_nil)))))
 (pss_cons (ps_asg (pe_call Gwr (hr.mono (by decide)) (by rfl) gwr kwr bwr .nil pass0 (pa_cons (pv 1) (pa_cons (pv 6) (pa_cons (pv 11) pa_nil)))) (pg_tup rfl (pgs_cons (pg_name (i := 15) sc_law.nd rfl (by first | exact Or.inl rfl | exact Or.inr rfl)) (pgs_cons (pg_name (i := 16) sc_law.nd rfl (by first | exact Or.inl rfl | exact Or.inr rfl)) pgs_nil))))
 (pss_cons (ps_set (i := 13) sc_law.nd rfl (by first | exact Or.inl rfl | exact Or.inr rfl) (pe_call Gdr (hr.mono (by decide)) (by rfl) gdr kdr bdr .nil pass0 (pa_cons (pv 1) (pa_cons (pv 2) pa_nil))))
 (pss_cons (ps_if (pw_or (pt_cmpR (op_neD hr.units) (pe_call Grf (hr.mono (by decide)) (by rfl) grf krf brf .nil pass0 (pa_cons (pv 9) (pa_cons (pv 13) (pa_cons (pv 15) pa_nil)))) (pe_tup (pa_cons pe_str (pa_cons (pv 16) pa_nil))) (nomark _)) (pw_or1 (pt_cmpR (op_neD hr.units) (pe_fld (pv 9) rfl) (pe_callTy call_tuple_of (by rfl) m_tuple boot_tuple (pa_cons (pv 6) pa_nil)) (nomark _)))).pt
  (pss_one (ps_ret pe_bl))
  pss_nil)
 (pss_cons (ps_set (i := 17) sc_law.nd rfl (by first | exact Or.inl rfl | exact Or.inr rfl) (pe_call Gpk (hr.mono (by decide)) (by rfl) gpk kpk bpk .nil pass0 (pa_cons (pv 1) (pa_cons (pe_lst (pa_cons (pv 2) (pa_cons (pe_un un_neg pe_int) (pa_cons pe_bl (pa_cons pe_non (pa_cons pe_str pa_nil)))))) pa_nil))))
 (pss_one (ps_if (pw_or (pt_cmpR (op_neD hr.units) (pe_call Grf (hr.mono (by decide)) (by rfl) grf krf brf .nil pass0 (pa_cons (pv 9) (pa_cons (pv 17) (pa_cons (pv 15) pa_nil)))) (pe_tup (pa_cons pe_str (pa_cons (pv 17) pa_nil))) (nomark _)) (pw_or1 (pt_cmpR (op_neD hr.units) (pe_call Grf (hr.mono (by decide)) (by rfl) grf krf brf .nil pass0 (pa_cons (pv 9) (pa_cons (pv 17) (pa_cons (pv 11) pa_nil)))) (pe_tup (pa_cons pe_str (pa_cons (pv 17) pa_nil))) (nomark _)))).pt
  (pss_one (ps_ret pe_bl))
  pss_nil))))))))))))
 (pss_one (ps_ret pe_bl))))))), ?_⟩
    refine ⟨_, rfl, s0, ns, rfl, hS, hl, fun H1 h c e1 nh nc hh1 => ?_⟩
    refine ⟨_, rfl, by show 10 ≤ sizeLine; decide, fun l nl => ?_⟩
    obtain ⟨nlh, nlc⟩ := hh1.ne nl
    refine ⟨h, c, l, _, rfl, hh1.same (al nl), nlh, upd_same, by decide, by decide, fun H2 j v d2 hv => ?_⟩
    obtain ⟨n, rfl, n2, n5⟩ : ∃ n : Nat, v = .int (n : Nat) ∧ 2 ≤ n ∧ n ≤ 5 := by
      have m := List.mem_of_getElem? hv
      simp only [List.mem_cons, List.not_mem_nil, or_false] at m
      rcases m with rfl | rfl | rfl | rfl | rfl | rfl | rfl | rfl | rfl | rfl
      · exact ⟨2, rfl, by decide, by decide⟩
      · exact ⟨3, rfl, by decide, by decide⟩
      · exact ⟨3, rfl, by decide, by decide⟩
      · exact ⟨4, rfl, by decide, by decide⟩
      · exact ⟨3, rfl, by decide, by decide⟩
      · exact ⟨3, rfl, by decide, by decide⟩
      · exact ⟨4, rfl, by decide, by decide⟩
      · exact ⟨3, rfl, by decide, by decide⟩
      · exact ⟨2, rfl, by decide, by decide⟩
      · exact ⟨5, rfl, by decide, by decide⟩
    have hh2 : Hand H2 h c := d2.hand
    clear d2 hv hS hl e1 hh1 nlh nlc nl
    refine ⟨_, rfl, _, rfl, h, c, n, rfl, hh2, n2, n5, fun H3 q0 es lot st3 nq La => ?_⟩
    obtain ⟨rA, sA, ts, h1, h2, h3, h4⟩ := La.at_
    obtain ⟨l1, l2⟩ := lot_lt n5 La.lot.1
    have hh3 := st3.hand
    clear st3 nq
    refine ⟨_, rfl, _, rfl, q0, _, _, _, rfl, rfl, .inl (.inl h1), atI_nat (j := 1) rfl, _, rfl, q0, _, _, _, rfl, rfl, .inl (.inl h1), atI_nat (j := 2) rfl, ?_⟩
    intro p dp hp hdp hne
    have e3 : Same H3 (upd (upd H3 dp (.own p)) p (.ins a.C dp [])) := same_new (same_new (Same.refl H3) hdp) (by rw [upd_ne hne.symm]; exact hp)
    refine ⟨p, dp, n, rA, ts, es, sA, lot, rfl, upd_same, n2, n5, SqOf.same (.inr h2) e3, (co_lit h3).same e3, cos_es La.ok n5, La.ok.conn, SqOf.same (.inr h4) e3, l1, pw_nodup l2, La.lot.2.1, La.lot.2.2, fun H4 es' rd' b Lo pe pr => ⟨rfl, ?_⟩⟩
    have e4 : Same H3 H4 := fun z o hz => b z o (ne_of_none hz hp) (e3 _ _ hz)
    rw [srt_map La.ok] at pe
    obtain rfl := es_is Lo.ok pe (La.ok.sorted.imp fun h => h)
    obtain rfl := rd_is Lo.rso pr (l2.imp fun h => Nat.le_of_lt h)
    have hh4 := hh3.same e4
    clear h1 h2 h3 h4 l1 l2 hh3 e3 e4 pe pr La b hp hdp hne
    refine ⟨4, rfl, by decide, by decide, for_range (lo := 0) (n := 4) (fun i σ H' => ∃ y5 y6 y7 y8 y9 y10 y11 y12 y13 y14 y15 y16 y17, σ = [some (.ref s0), some (.ref h), some (.int (n : Nat)), some (.ref q0), some (.ref p), y5, y6, y7, y8, y9, y10, y11, y12, y13, y14, y15, y16, y17] ∧ Stay h c H4 H')
      ⟨none, none, none, none, none, none, none, none, none, none, none, none, none, rfl, Stay.of_same hh4 (Same.refl H4)⟩ (fun i σ H5 hi pv => ?_) (fun σ H5 pv => ?_)⟩
    · obtain ⟨y5, y6, y7, y8, y9, y10, y11, y12, y13, y14, y15, y16, y17, rfl, st5⟩ := pv
      refine ⟨_, rfl, _, rfl, h, c, n, rfl, st5.hand, n2, n5, fun H6 u th tt tn hs rs tab s st6 nu hu L6 => ?_⟩
      refine ⟨u, _, rfl, .inl (.inl hu), rfl, _, _, rfl, _, _, rfl, _, _, rfl, rfl, ?_⟩
      have Sx := L6.st
      have Lo6 := (st5.trans st6).lo Lo
      have hh6 := st6.hand
      have st46 := st5.trans st6
      have hth6 := L6.ht
      have htt6 := L6.tt_
      have rl6 := L6.rl
      have htn6 := L6.nt
      have s1 := L6.s1
      have s2 := L6.s2
      have nm := L6.nm
      clear st5 L6 nu hu st6
      -- the state
      refine ⟨_, rfl, _, rfl, _, rfl, ?_⟩
      intro x dx hx hdx hne
      have ex : Same H6 (upd (upd H6 dx (.own x)) x (.ins S dx [])) := same_new (same_new (Same.refl H6) hdx) (by rw [upd_ne hne.symm]; exact hx)
      obtain ⟨dl, an, ar, ay, ac, tn', ty, tc, m1, _⟩ := Lo6.at_
      refine ⟨x, dx, p, th, tt, n, es', rd', hs, rs, tab, rfl, upd_same, Lo6.same ex, ne_of_none m1 hx, SqOf.same (.inr hth6) ex, SqOf.same (.inr htt6) ex, rl6.rat.same ex, Sx, fun H7 b W7 => ⟨rfl, ?_⟩⟩
      have e7 : Same H6 H7 := fun z o hz => b z o (ne_of_none hz hx) (ex _ _ hz)
      clear b ex hx hdx hne m1
      refine ⟨_, rfl, _, rfl, _, rfl, _, rfl, th, tt, n, hs, rs, tab, rfl, e7 _ _ hth6, e7 _ _ htt6, rl6.mono (fun b row _ hb => e7 _ _ hb), Sx, n5, fun H8 R rs2 tab2 e8 nR hR rl8 Sx2 => ?_⟩
      have e68 := e7.trans e8
      intro x2 dx hx hdx hne
      have ex : Same H8 (upd (upd H8 dx (.own x2)) x2 (.ins S dx [])) := same_new (same_new (Same.refl H8) hdx) (by rw [upd_ne hne.symm]; exact hx)
      have Lo8 := Lo6.same e68
      obtain ⟨dl, an, ar, ay, ac, tn', ty, tc, m1, _⟩ := Lo8.at_
      refine ⟨x2, dx, p, th, R, n, es', rd', hs, rs2, tab2, rfl, upd_same, Lo8.same ex, ne_of_none m1 hx, SqOf.same (.inr (e68 _ _ hth6)) ex, SqOf.same (.inr hR) ex, rl8.rat.same ex, Sx2, fun H9 b V9 => ⟨rfl, ?_⟩⟩
      have e9 : Same H8 H9 := fun z o hz => b z o (ne_of_none hz hx) (ex _ _ hz)
      have e69 := e68.trans e9
      have W9 := (W7.same e8).same e9
      clear b ex hx hdx hne m1 Lo6 Lo8 rl6 rl8 hR nR htt6 e8 e9 e68 e7 W7
      have st9 := st46.same e69
      have hth9 := e69 _ _ hth6
      have htn9 := e69 _ _ htn6
      clear e69 hth6 htn6 hh6 st46
      -- the deed
      refine ⟨_, _, rfl, _, rfl, _, rfl, _, rfl, h, c, th, tn, n, hs, s, rfl, st9.hand, hth9, htn9, s1, s2, Sx.hl, n2, n5, fun H10 t D st10 nt hD => ?_⟩
      have W10 := W9.stay st10
      have V10 := V9.stay st10
      have hth10 := st10.lst hth9 (notHand_ints _)
      have st410 := st9.trans st10
      obtain ⟨z, hz⟩ := deed_rpr (K := K) hD n5
      clear st9 hth9 htn9 W9 V9 nt st10
      refine ⟨_, rfl, _, z, rfl, hz _ (Same.refl _), ?_⟩
      -- each cell
      refine ⟨_, rfl, _, rfl, by omega, by omega, for_range (lo := 0) (n := n) (fun _ σ H' => ∃ y13 y14, σ = [some (.ref s0), some (.ref h), some (.int (n : Nat)), some (.ref q0), some (.ref p), some (.int (0 + (i : Nat))), some (.ref th), some (.ref tt), some (.ref tn), some (.ref x), some (.ref x2), some (.ref t), some (.str z), y13, y14, y15, y16, y17] ∧ Same H10 H')
        ⟨y13, y14, rfl, Same.refl H10⟩ (fun j σ H11 hj pv => ?_) (fun σ H11 pv => ?_)⟩
      · obtain ⟨y13, y14, rfl, e11⟩ := pv
        rw [show ((0 : Int) + ((j : Nat) : Int)) = ((j : Nat) : Int) from Int.zero_add _]
        have kk : KindOk (sfF n hs j D) := kind_sf
        refine ⟨_, rfl, _, rfl, _, rfl, th, t, n, j, hs, D, rfl, e11 _ _ hth10, Sx.hl, n5, hj, hD.same e11, fun H12 d e12 due => ?_⟩
        refine ⟨_, rfl, _, rfl, _, rfl, x, p, n, es', rd', hs, tab, .int (j : Nat), .ref t, rfl, W10.same (e11.trans e12), .inl ⟨j, rfl, hj, .inr ⟨t, D, rfl, hD.same (e11.trans e12), fun H13 v e13 is => ?_⟩⟩⟩
        refine ⟨_, rfl, v, d, _, rfl, is, due.same e13, kk, fun H14 e14 => ?_⟩
        have e114 := (e11.trans e12).trans (e13.trans e14)
        refine ⟨_, rfl, iteFo (by rfl) ?_⟩
        refine ⟨_, rfl, _, rfl, _, rfl, x2, p, n, es', rd', hs, tab2, .int (j : Nat), .ref t, rfl, V10.same e114, .inl ⟨j, rfl, hj, .inr ⟨t, D, rfl, hD.same e114, fun H15 v2 e15 is2 => ?_⟩⟩⟩
        refine ⟨_, rfl, v2, d, _, rfl, is2, ((due.same e13).same e14).same e15, kk, fun H16 e16 => ?_⟩
        have e116 := e114.trans (e15.trans e16)
        refine ⟨_, rfl, iteFo (by rfl) ?_⟩
        refine ⟨_, rfl, _, rfl, _, rfl, x, p, n, es', rd', hs, tab, .int (j : Nat), .ref t, rfl, W10.same e116, .inl ⟨j, rfl, hj, .inr ⟨t, D, rfl, hD.same e116, fun H17 v3 e17 is3 => ?_⟩⟩⟩
        refine ⟨_, rfl, v3, d, _, rfl, is3, ((((due.same e13).same e14).same e15).same e16).same e17, kk, fun H18 e18 => ?_⟩
        have e118 := e116.trans (e17.trans e18)
        refine ⟨_, rfl, iteFo (by rfl) ?_⟩
        refine ⟨_, rfl, _, z, rfl, hz _ e118, _, rfl, rfl, _, rfl, ?_⟩
        rw [decide_eq_true rfl]
        refine iteFo (by rfl) ?_
        exact ⟨_, _, rfl, e118⟩
      · obtain ⟨y13, y14, rfl, e11⟩ := pv
        have W11 := W10.same e11
        have hh11 := st410.hand.same e11
        have st411 := st410.same e11
        have hth11 := e11 _ _ hth10
        clear e11 W10 V10 hD hz hth10 st410
        refine ⟨_, rfl, _, rfl, _, rfl, h, c, th, .ref t, n, hs, rfl, hh11, hth11, Sx.hl, n2, n5, fun y hy => nms_le (nm y hy) s2, fun H12 v st12 wp => ?_⟩
        obtain ⟨u2, wv, wz, rfl, hu2, wd⟩ := wp
        refine ⟨u2, _, rfl, .inl (.inl hu2), rfl, _, _, rfl, _, _, rfl, rfl, ?_⟩
        refine ⟨_, rfl, _, rfl, h, c, (n : Nat), rfl, st12.hand, by omega, by omega, fun H13 r d13 r0 r1 => ?_⟩
        obtain ⟨k, rfl⟩ : ∃ k : Nat, r = (k : Nat) := ⟨r.toNat, by omega⟩
        have st13 := st12.drawn d13
        have W13 := W11.stay st13
        have hth13 := st13.lst hth11 (notHand_ints _)
        have wd13 := wd.stay (Stay.of_drawn st12.hand d13)
        have st413 := st411.trans st13
        obtain ⟨sh1, cl1⟩ := two_sh (a := "deed") (d := .str wz) (by decide +kernel) (by simp [PyData.canLay0, word_ok wd]) (by simp [PyData.depth])
        clear W11 hth11 wd st12 st13 d13 st411 hh11 hu2
        -- the wrong deed is refused
        refine ⟨_, rfl, _, rfl, _, rfl, x, p, n, es', rd', hs, tab, .int (k : Nat), wv, rfl, W13, .inl ⟨k, wz, rfl, by omega, wd13.df, fun H14 t1 e14 ht1 => ?_⟩⟩
        refine ⟨_, rfl, by show 2 ≤ sizeLine; decide, fun t2 nt2 => ?_⟩
        have e15 := al (o := .tup [.str "deed", .str wz]) nt2
        refine ⟨_, _, .tup (.inl (.inl (e15 _ _ ht1))) (.cons (.str _) (.cons (.str _) .nil)), .tup (.inl (.inl upd_same)) (.cons (.str _) (.cons (.str _) .nil)), sh1, sh1, _, rfl, ?_⟩
        rw [PySem.SeqAt.eqv_refl _ cl1]
        refine iteFo (by rfl) ?_
        have e1315 := e14.trans e15
        generalize upd H14 t2 (.tup [.str "deed", .str wz]) = H15 at e1315 ⊢
        -- the hands stay
        have W15 := W13.same e1315
        have hth15 := e1315 _ _ hth13
        have hh15 := st413.hand.same e1315
        have st415 := st413.same e1315
        clear e15 e14 ht1 wd13 W13 hth13 st413 e1315
        obtain ⟨dx, tq, tb, rs', w1, w2, w3, w4⟩ := W15.at_
        refine ⟨_, rfl, x, S, dx, _, _, rfl, w1, clsS, nS _ (by decide), rfl, _, rfl, th, _, rfl, .inl ⟨.inl (.inl hth15), fun l nl => ?_⟩⟩
        have e16 := al (o := .tup (ints_ hs)) nl
        refine ⟨intD hs, intD hs, .tup (.inl (.inl (e16 _ _ w2))) (dp_ints hs), .tup (.inl (.inl upd_same)) (dp_ints hs), shaped_ints hs, shaped_ints hs, _, rfl, ?_⟩
        rw [eqv_intD, decide_eq_true rfl]
        refine iteFo (by rfl) ?_
        generalize upd H15 l (.tup (ints_ hs)) = H16 at e16 ⊢
        have W16 := W15.same e16
        have hh16 := hh15.same e16
        have st416 := st415.same e16
        clear e16 W15 hh15 st415 w1 w2 w3 w4 hth15
        -- a strange cell
        refine ⟨_, rfl, _, rfl, _, rfl, by show 5 ≤ sizeLine; decide, fun l5 nl5 => ?_⟩
        have e17 := al (o := .lst [.int (n : Nat), .int (-1), .bl true, .non, .str "0"]) nl5
        refine ⟨h, c, l5, _, rfl, hh16.same e17, (hh16.ne nl5).1, upd_same, by show 0 < 5; decide, by show 5 ≤ 1000; decide, fun H18 jj v d18 hv => ?_⟩
        have W18 := (W16.same e17).stay (.of_drawn (hh16.same e17) d18)
        have st418 := (st416.same e17).drawn d18
        obtain ⟨dd, wf, dp, thg, cl, d0⟩ : ∃ dd : PyData, wholeV v 0 ((n : Nat) - 1) = false ∧ (∀ H', Dp K H' v dd) ∧ (∀ H', Thing H' v) ∧ PyData.canLay0 dd = true ∧ PyData.depth dd = 0 := by
          have m := List.mem_of_getElem? hv
          simp only [List.mem_cons, List.not_mem_nil, or_false] at m
          rcases m with rfl | rfl | rfl | rfl | rfl
          · exact ⟨_, by rw [wholeV_int, decide_eq_false (p := ((n : Nat) : Int) ≤ (n : Nat) - 1) (by omega), Bool.and_false], fun _ => .int _, fun _ => .flat (.int _), by simp [PyData.canLay0], by simp [PyData.depth]⟩
          · exact ⟨_, rfl, fun _ => .int _, fun _ => .flat (.int _), by simp [PyData.canLay0], by simp [PyData.depth]⟩
          · exact ⟨_, rfl, fun _ => .bl _, fun _ => .flat (.bl _), by simp [PyData.canLay0], by simp [PyData.depth]⟩
          · exact ⟨_, rfl, fun _ => .non, fun _ => .flat .non, by simp [PyData.canLay0], by simp [PyData.depth]⟩
          · exact ⟨_, rfl, fun _ => .str _, fun _ => .flat (.str _), by decide +kernel, by simp [PyData.depth]⟩
        obtain ⟨sh2, cl2⟩ := two_sh (a := "cell") (d := dd) (by decide +kernel) cl d0
        clear hv d18 e17 W16 hh16 st416
        refine ⟨_, rfl, _, rfl, _, rfl, x, p, n, es', rd', hs, tab, v, wv, rfl, W18, .inr ⟨thg _, wf, fun H19 t3 e19 ht3 => ?_⟩⟩
        refine ⟨_, rfl, by show 2 ≤ sizeLine; decide, fun t4 nt4 => ?_⟩
        have e20 := al (o := .tup [.str "cell", v]) nt4
        refine ⟨_, _, .tup (.inl (.inl (e20 _ _ ht3))) (.cons (.str _) (.cons (dp _) .nil)), .tup (.inl (.inl upd_same)) (.cons (.str _) (.cons (dp _) .nil)), sh2, sh2, _, rfl, ?_⟩
        rw [PySem.SeqAt.eqv_refl _ cl2]
        refine iteFo (by rfl) ?_
        have e1820 := e19.trans e20
        generalize upd H19 t4 (.tup [.str "cell", v]) = H20 at e1820 ⊢
        refine ⟨_, rfl, _, rfl, _, rfl, x, p, n, es', rd', hs, tab, v, .ref t, rfl, W18.same e1820, .inr ⟨thg _, wf, fun H21 t5 e21 ht5 => ?_⟩⟩
        refine ⟨_, rfl, by show 2 ≤ sizeLine; decide, fun t6 nt6 => ?_⟩
        have e22 := al (o := .tup [.str "cell", v]) nt6
        refine ⟨_, _, .tup (.inl (.inl (e22 _ _ ht5))) (.cons (.str _) (.cons (dp _) .nil)), .tup (.inl (.inl upd_same)) (.cons (.str _) (.cons (dp _) .nil)), sh2, sh2, _, rfl, ?_⟩
        rw [PySem.SeqAt.eqv_refl _ cl2]
        refine iteFo (by rfl) ?_
        exact ⟨_, _, _, _, _, _, _, _, _, _, _, _, _, rfl, st418.same (e1820.trans (e21.trans e22))⟩
    · obtain ⟨y5, y6, y7, y8, y9, y10, y11, y12, y13, y14, y15, y16, y17, rfl, st5⟩ := pv
      exact q _
end
end K7
end
/-! ## BD -/
section
open PySem PySem.Spec PyProof.Rows L2
namespace K7
/-- a method with a cell and one default, with every argument given -/
theorem ks_binds {K : PySem.W.Frag} {fd : FuncData} {ps : List Str} {T : Addr} {o : Obj} {its : Array Value} {m : Nat} {v : V} (lT : K.lookup T = some o) (oT : o.data = .seq its m) (rv : Vals [v] its.toList)
    (h : ∀ us ws : List Value, us.length = ps.length → ws.length = 1 → ∃ k : Option (Array Value) → Sem (List (Str × Value)), bindArgs fd ⟨us, []⟩ = seqItems? (.ref T) >>= k ∧ k (some ws.toArray) = pure (ps.zip us)) : Binds K fd ps [] := fun s us X hl => by
  rw [List.append_nil] at hl ⊢
  obtain ⟨k, e1, e2⟩ := h us its.toList hl rv.length.symm
  refine BindsTo.of_looks fun M => ?_
  rw [e1]
  exact looks_items X lT oT (.of_pure (by rw [← e2, Array.toArray_toList]))
end K7
end
/-! ## P47 -/
section
open PySem PySem.Spec PyProof.Rows L2
namespace K7
theorem all_mk {P : Program} {w : World} {K : PySem.W.Frag} {h : Heap} {mg : Str → Option Value} {fa : Addr} (X : K.In h) (G : h.Ns mainGlobals mg) (hfa : mg "law" = some (.ref fa))
  {f_sq : Addr}
  (a_sq : PySem.W.nsIn K mainGlobals "is_sequence" = some (some (.ref f_sq)))
  {od_sq an_sq : Option Addr}
  {sl_sq : Array (Option Value)}
  {oc_sq kV_sq dc_sq pm_sq cd_sq ct_sq : Value}
  (l_sq : K.lookup f_sq = some ⟨oc_sq, od_sq, .func (PySem.W.fnOf "is_sequence" "is_sequence" (defArgs s_is_sequence) (defBody s_is_sequence) (defScope s_is_sequence) .none kV_sq dc_sq pm_sq an_sq cd_sq ct_sq), sl_sq⟩)
  (c_sq : PySem.W.codeIn K cd_sq "is_sequence" = true)
  (k_sq : PySem.W.keepIn K (.ref f_sq) = true)
  {f_isw : Addr}
  (a_isw : PySem.W.nsIn K mainGlobals "is_whole" = some (some (.ref f_isw)))
  {od_isw an_isw : Option Addr}
  {sl_isw : Array (Option Value)}
  {oc_isw kV_isw dc_isw pm_isw cd_isw ct_isw : Value}
  (l_isw : K.lookup f_isw = some ⟨oc_isw, od_isw, .func (PySem.W.fnOf "is_whole" "is_whole" (defArgs s_is_whole) (defBody s_is_whole) (defScope s_is_whole) .none kV_isw dc_isw pm_isw an_isw cd_isw ct_isw), sl_isw⟩)
  (c_isw : PySem.W.codeIn K cd_isw "is_whole" = true)
  (k_isw : PySem.W.keepIn K (.ref f_isw) = true)
  {f_ac : Addr}
  (a_ac : PySem.W.nsIn K mainGlobals "are_cells" = some (some (.ref f_ac)))
  {od_ac an_ac : Option Addr}
  {sl_ac : Array (Option Value)}
  {oc_ac kV_ac dc_ac pm_ac cd_ac ct_ac : Value}
  (l_ac : K.lookup f_ac = some ⟨oc_ac, od_ac, .func (PySem.W.fnOf "are_cells" "are_cells" (defArgs s_are_cells) (defBody s_are_cells) (defScope s_are_cells) .none kV_ac dc_ac pm_ac an_ac cd_ac ct_ac), sl_ac⟩)
  (c_ac : PySem.W.codeIn K cd_ac "are_cells" = true)
  (k_ac : PySem.W.keepIn K (.ref f_ac) = true)
  {f_a2 : Addr}
  (a_a2 : PySem.W.nsIn K mainGlobals "are_two_cells" = some (some (.ref f_a2)))
  {od_a2 an_a2 : Option Addr}
  {sl_a2 : Array (Option Value)}
  {oc_a2 kV_a2 dc_a2 pm_a2 cd_a2 ct_a2 : Value}
  (l_a2 : K.lookup f_a2 = some ⟨oc_a2, od_a2, .func (PySem.W.fnOf "are_two_cells" "are_two_cells" (defArgs s_are_two_cells) (defBody s_are_two_cells) (defScope s_are_two_cells) .none kV_a2 dc_a2 pm_a2 an_a2 cd_a2 ct_a2), sl_a2⟩)
  (c_a2 : PySem.W.codeIn K cd_a2 "are_two_cells" = true)
  (k_a2 : PySem.W.keepIn K (.ref f_a2) = true)
  {f_ic : Addr}
  (a_ic : PySem.W.nsIn K mainGlobals "is_cell" = some (some (.ref f_ic)))
  {od_ic an_ic : Option Addr}
  {sl_ic : Array (Option Value)}
  {oc_ic kV_ic dc_ic pm_ic cd_ic ct_ic : Value}
  (l_ic : K.lookup f_ic = some ⟨oc_ic, od_ic, .func (PySem.W.fnOf "is_cell" "is_cell" (defArgs s_is_cell) (defBody s_is_cell) (defScope s_is_cell) .none kV_ic dc_ic pm_ic an_ic cd_ic ct_ic), sl_ic⟩)
  (c_ic : PySem.W.codeIn K cd_ic "is_cell" = true)
  (k_ic : PySem.W.keepIn K (.ref f_ic) = true)
  {f_il : Addr}
  (a_il : PySem.W.nsIn K mainGlobals "is_lot" = some (some (.ref f_il)))
  {od_il an_il : Option Addr}
  {sl_il : Array (Option Value)}
  {oc_il kV_il dc_il pm_il cd_il ct_il : Value}
  (l_il : K.lookup f_il = some ⟨oc_il, od_il, .func (PySem.W.fnOf "is_lot" "is_lot" (defArgs s_is_lot) (defBody s_is_lot) (defScope s_is_lot) .none kV_il dc_il pm_il an_il cd_il ct_il), sl_il⟩)
  (c_il : PySem.W.codeIn K cd_il "is_lot" = true)
  (k_il : PySem.W.keepIn K (.ref f_il) = true)
  {f_ik : Addr}
  (a_ik : PySem.W.nsIn K mainGlobals "is_couple" = some (some (.ref f_ik)))
  {od_ik an_ik : Option Addr}
  {sl_ik : Array (Option Value)}
  {oc_ik kV_ik dc_ik pm_ik cd_ik ct_ik : Value}
  (l_ik : K.lookup f_ik = some ⟨oc_ik, od_ik, .func (PySem.W.fnOf "is_couple" "is_couple" (defArgs s_is_couple) (defBody s_is_couple) (defScope s_is_couple) .none kV_ik dc_ik pm_ik an_ik cd_ik ct_ik), sl_ik⟩)
  (c_ik : PySem.W.codeIn K cd_ik "is_couple" = true)
  (k_ik : PySem.W.keepIn K (.ref f_ik) = true)
  {f_ck : Addr}
  (a_ck : PySem.W.nsIn K mainGlobals "check_cells" = some (some (.ref f_ck)))
  {od_ck an_ck : Option Addr}
  {sl_ck : Array (Option Value)}
  {oc_ck kV_ck dc_ck pm_ck cd_ck ct_ck : Value}
  (l_ck : K.lookup f_ck = some ⟨oc_ck, od_ck, .func (PySem.W.fnOf "check_cells" "check_cells" (defArgs s_check_cells) (defBody s_check_cells) (defScope s_check_cells) .none kV_ck dc_ck pm_ck an_ck cd_ck ct_ck), sl_ck⟩)
  (c_ck : PySem.W.codeIn K cd_ck "check_cells" = true)
  (k_ck : PySem.W.keepIn K (.ref f_ck) = true)
  {f_sp : Addr}
  (a_sp : PySem.W.nsIn K mainGlobals "spread" = some (some (.ref f_sp)))
  {od_sp an_sp : Option Addr}
  {sl_sp : Array (Option Value)}
  {oc_sp kV_sp dc_sp pm_sp cd_sp ct_sp : Value}
  (l_sp : K.lookup f_sp = some ⟨oc_sp, od_sp, .func (PySem.W.fnOf "spread" "spread" (defArgs s_spread) (defBody s_spread) (defScope s_spread) .none kV_sp dc_sp pm_sp an_sp cd_sp ct_sp), sl_sp⟩)
  (c_sp : PySem.W.codeIn K cd_sp "spread" = true)
  (k_sp : PySem.W.keepIn K (.ref f_sp) = true)
  {f_ny : Addr}
  (a_ny : PySem.W.nsIn K mainGlobals "nearby_cells" = some (some (.ref f_ny)))
  {od_ny an_ny : Option Addr}
  {sl_ny : Array (Option Value)}
  {oc_ny kV_ny dc_ny pm_ny cd_ny ct_ny : Value}
  (l_ny : K.lookup f_ny = some ⟨oc_ny, od_ny, .func (PySem.W.fnOf "nearby_cells" "nearby_cells" (defArgs s_nearby_cells) (defBody s_nearby_cells) (defScope s_nearby_cells) .none kV_ny dc_ny pm_ny an_ny cd_ny ct_ny), sl_ny⟩)
  (c_ny : PySem.W.codeIn K cd_ny "nearby_cells" = true)
  (k_ny : PySem.W.keepIn K (.ref f_ny) = true)
  {f_ht : Addr}
  (a_ht : PySem.W.nsIn K mainGlobals "hang_together" = some (some (.ref f_ht)))
  {od_ht an_ht : Option Addr}
  {sl_ht : Array (Option Value)}
  {oc_ht kV_ht dc_ht pm_ht cd_ht ct_ht : Value}
  (l_ht : K.lookup f_ht = some ⟨oc_ht, od_ht, .func (PySem.W.fnOf "hang_together" "hang_together" (defArgs s_hang_together) (defBody s_hang_together) (defScope s_hang_together) .none kV_ht dc_ht pm_ht an_ht cd_ht ct_ht), sl_ht⟩)
  (c_ht : PySem.W.codeIn K cd_ht "hang_together" = true)
  (k_ht : PySem.W.keepIn K (.ref f_ht) = true)
  {f_nb : Addr}
  (a_nb : PySem.W.nsIn K mainGlobals "_are_neighbours" = some (some (.ref f_nb)))
  {od_nb an_nb : Option Addr}
  {sl_nb : Array (Option Value)}
  {oc_nb kV_nb dc_nb pm_nb cd_nb ct_nb : Value}
  (l_nb : K.lookup f_nb = some ⟨oc_nb, od_nb, .func (PySem.W.fnOf "_are_neighbours" "_are_neighbours" (defArgs s__are_neighbours) (defBody s__are_neighbours) (defScope s__are_neighbours) .none kV_nb dc_nb pm_nb an_nb cd_nb ct_nb), sl_nb⟩)
  (c_nb : PySem.W.codeIn K cd_nb "_are_neighbours" = true)
  (k_nb : PySem.W.keepIn K (.ref f_nb) = true)
  {f_ah : Addr}
  (a_ah : PySem.W.nsIn K mainGlobals "_are_hands" = some (some (.ref f_ah)))
  {od_ah an_ah : Option Addr}
  {sl_ah : Array (Option Value)}
  {oc_ah kV_ah dc_ah pm_ah cd_ah ct_ah : Value}
  (l_ah : K.lookup f_ah = some ⟨oc_ah, od_ah, .func (PySem.W.fnOf "_are_hands" "_are_hands" (defArgs s__are_hands) (defBody s__are_hands) (defScope s__are_hands) .none kV_ah dc_ah pm_ah an_ah cd_ah ct_ah), sl_ah⟩)
  (c_ah : PySem.W.codeIn K cd_ah "_are_hands" = true)
  (k_ah : PySem.W.keepIn K (.ref f_ah) = true)
  {f_ir : Addr}
  (a_ir : PySem.W.nsIn K mainGlobals "is_row" = some (some (.ref f_ir)))
  {od_ir an_ir : Option Addr}
  {sl_ir : Array (Option Value)}
  {oc_ir kV_ir dc_ir pm_ir cd_ir ct_ir : Value}
  (l_ir : K.lookup f_ir = some ⟨oc_ir, od_ir, .func (PySem.W.fnOf "is_row" "is_row" (defArgs s_is_row) (defBody s_is_row) (defScope s_is_row) .none kV_ir dc_ir pm_ir an_ir cd_ir ct_ir), sl_ir⟩)
  (c_ir : PySem.W.codeIn K cd_ir "is_row" = true)
  (k_ir : PySem.W.keepIn K (.ref f_ir) = true)
  {f_as_ : Addr}
  (a_as_ : PySem.W.nsIn K mainGlobals "_are_standings" = some (some (.ref f_as_)))
  {od_as_ an_as_ : Option Addr}
  {sl_as_ : Array (Option Value)}
  {oc_as_ kV_as_ dc_as_ pm_as_ cd_as_ ct_as_ : Value}
  (l_as_ : K.lookup f_as_ = some ⟨oc_as_, od_as_, .func (PySem.W.fnOf "_are_standings" "_are_standings" (defArgs s__are_standings) (defBody s__are_standings) (defScope s__are_standings) .none kV_as_ dc_as_ pm_as_ an_as_ cd_as_ ct_as_), sl_as_⟩)
  (c_as_ : PySem.W.codeIn K cd_as_ "_are_standings" = true)
  (k_as_ : PySem.W.keepIn K (.ref f_as_) = true)
  {f_cpl : Addr}
  (a_cpl : PySem.W.nsIn K mainGlobals "_check_places" = some (some (.ref f_cpl)))
  {od_cpl an_cpl : Option Addr}
  {sl_cpl : Array (Option Value)}
  {oc_cpl kV_cpl dc_cpl pm_cpl cd_cpl ct_cpl : Value}
  (l_cpl : K.lookup f_cpl = some ⟨oc_cpl, od_cpl, .func (PySem.W.fnOf "_check_places" "_check_places" (defArgs s__check_places) (defBody s__check_places) (defScope s__check_places) .none kV_cpl dc_cpl pm_cpl an_cpl cd_cpl ct_cpl), sl_cpl⟩)
  (c_cpl : PySem.W.codeIn K cd_cpl "_check_places" = true)
  (k_cpl : PySem.W.keepIn K (.ref f_cpl) = true)
  {f_hf : Addr}
  (a_hf : PySem.W.nsIn K mainGlobals "_has_form" = some (some (.ref f_hf)))
  {od_hf an_hf : Option Addr}
  {sl_hf : Array (Option Value)}
  {oc_hf kV_hf dc_hf pm_hf cd_hf ct_hf : Value}
  (l_hf : K.lookup f_hf = some ⟨oc_hf, od_hf, .func (PySem.W.fnOf "_has_form" "_has_form" (defArgs s__has_form) (defBody s__has_form) (defScope s__has_form) .none kV_hf dc_hf pm_hf an_hf cd_hf ct_hf), sl_hf⟩)
  (c_hf : PySem.W.codeIn K cd_hf "_has_form" = true)
  (k_hf : PySem.W.keepIn K (.ref f_hf) = true)
  {f_atd : Addr}
  (a_atd : PySem.W.nsIn K mainGlobals "are_told" = some (some (.ref f_atd)))
  {od_atd an_atd : Option Addr}
  {sl_atd : Array (Option Value)}
  {oc_atd kV_atd dc_atd pm_atd cd_atd ct_atd : Value}
  (l_atd : K.lookup f_atd = some ⟨oc_atd, od_atd, .func (PySem.W.fnOf "are_told" "are_told" (defArgs s_are_told) (defBody s_are_told) (defScope s_are_told) .none kV_atd dc_atd pm_atd an_atd cd_atd ct_atd), sl_atd⟩)
  (c_atd : PySem.W.codeIn K cd_atd "are_told" = true)
  (k_atd : PySem.W.keepIn K (.ref f_atd) = true)
  {f_sf : Addr}
  (a_sf : PySem.W.nsIn K mainGlobals "shape_fault" = some (some (.ref f_sf)))
  {od_sf an_sf : Option Addr}
  {sl_sf : Array (Option Value)}
  {oc_sf kV_sf dc_sf pm_sf cd_sf ct_sf : Value}
  (l_sf : K.lookup f_sf = some ⟨oc_sf, od_sf, .func (PySem.W.fnOf "shape_fault" "shape_fault" (defArgs s_shape_fault) (defBody s_shape_fault) (defScope s_shape_fault) .none kV_sf dc_sf pm_sf an_sf cd_sf ct_sf), sl_sf⟩)
  (c_sf : PySem.W.codeIn K cd_sf "shape_fault" = true)
  (k_sf : PySem.W.keepIn K (.ref f_sf) = true)
  {f_mv : Addr}
  (a_mv : PySem.W.nsIn K mainGlobals "_moving" = some (some (.ref f_mv)))
  {od_mv an_mv : Option Addr}
  {sl_mv : Array (Option Value)}
  {oc_mv kV_mv dc_mv pm_mv cd_mv ct_mv : Value}
  (l_mv : K.lookup f_mv = some ⟨oc_mv, od_mv, .func (PySem.W.fnOf "_moving" "_moving" (defArgs s__moving) (defBody s__moving) (defScope s__moving) .none kV_mv dc_mv pm_mv an_mv cd_mv ct_mv), sl_mv⟩)
  (c_mv : PySem.W.codeIn K cd_mv "_moving" = true)
  (k_mv : PySem.W.keepIn K (.ref f_mv) = true)
  {f_hb : Addr}
  (a_hb : PySem.W.nsIn K mainGlobals "hands_behind" = some (some (.ref f_hb)))
  {od_hb an_hb : Option Addr}
  {sl_hb : Array (Option Value)}
  {oc_hb kV_hb dc_hb pm_hb cd_hb ct_hb : Value}
  (l_hb : K.lookup f_hb = some ⟨oc_hb, od_hb, .func (PySem.W.fnOf "hands_behind" "hands_behind" (defArgs s_hands_behind) (defBody s_hands_behind) (defScope s_hands_behind) .none kV_hb dc_hb pm_hb an_hb cd_hb ct_hb), sl_hb⟩)
  (c_hb : PySem.W.codeIn K cd_hb "hands_behind" = true)
  (k_hb : PySem.W.keepIn K (.ref f_hb) = true)
  {f_ho : Addr}
  (a_ho : PySem.W.nsIn K mainGlobals "_hands_of" = some (some (.ref f_ho)))
  {od_ho an_ho : Option Addr}
  {sl_ho : Array (Option Value)}
  {oc_ho kV_ho dc_ho pm_ho cd_ho ct_ho : Value}
  (l_ho : K.lookup f_ho = some ⟨oc_ho, od_ho, .func (PySem.W.fnOf "_hands_of" "_hands_of" (defArgs s__hands_of) (defBody s__hands_of) (defScope s__hands_of) .none kV_ho dc_ho pm_ho an_ho cd_ho ct_ho), sl_ho⟩)
  (c_ho : PySem.W.codeIn K cd_ho "_hands_of" = true)
  (k_ho : PySem.W.keepIn K (.ref f_ho) = true)
  {f_df : Addr}
  (a_df : PySem.W.nsIn K mainGlobals "deed_fault" = some (some (.ref f_df)))
  {od_df an_df : Option Addr}
  {sl_df : Array (Option Value)}
  {oc_df kV_df dc_df pm_df cd_df ct_df : Value}
  (l_df : K.lookup f_df = some ⟨oc_df, od_df, .func (PySem.W.fnOf "deed_fault" "deed_fault" (defArgs s_deed_fault) (defBody s_deed_fault) (defScope s_deed_fault) .none kV_df dc_df pm_df an_df cd_df ct_df), sl_df⟩)
  (c_df : PySem.W.codeIn K cd_df "deed_fault" = true)
  (k_df : PySem.W.keepIn K (.ref f_df) = true)
  {f_cd : Addr}
  (a_cd : PySem.W.nsIn K mainGlobals "check_deed" = some (some (.ref f_cd)))
  {od_cd an_cd : Option Addr}
  {sl_cd : Array (Option Value)}
  {oc_cd kV_cd dc_cd pm_cd cd_cd ct_cd : Value}
  (l_cd : K.lookup f_cd = some ⟨oc_cd, od_cd, .func (PySem.W.fnOf "check_deed" "check_deed" (defArgs s_check_deed) (defBody s_check_deed) (defScope s_check_deed) .none kV_cd dc_cd pm_cd an_cd cd_cd ct_cd), sl_cd⟩)
  (c_cd : PySem.W.codeIn K cd_cd "check_deed" = true)
  (k_cd : PySem.W.keepIn K (.ref f_cd) = true)
  {f_cl : Addr}
  (a_cl : PySem.W.nsIn K mainGlobals "_check_lots" = some (some (.ref f_cl)))
  {od_cl an_cl : Option Addr}
  {sl_cl : Array (Option Value)}
  {oc_cl kV_cl dc_cl pm_cl cd_cl ct_cl : Value}
  (l_cl : K.lookup f_cl = some ⟨oc_cl, od_cl, .func (PySem.W.fnOf "_check_lots" "_check_lots" (defArgs s__check_lots) (defBody s__check_lots) (defScope s__check_lots) .none kV_cl dc_cl pm_cl an_cl cd_cl ct_cl), sl_cl⟩)
  (c_cl : PySem.W.codeIn K cd_cl "_check_lots" = true)
  (k_cl : PySem.W.keepIn K (.ref f_cl) = true)
  {f_ms : Addr}
  (a_ms : PySem.W.nsIn K mainGlobals "_moving_step" = some (some (.ref f_ms)))
  {od_ms an_ms : Option Addr}
  {sl_ms : Array (Option Value)}
  {oc_ms kV_ms dc_ms pm_ms cd_ms ct_ms : Value}
  (l_ms : K.lookup f_ms = some ⟨oc_ms, od_ms, .func (PySem.W.fnOf "_moving_step" "_moving_step" (defArgs s__moving_step) (defBody s__moving_step) (defScope s__moving_step) .none kV_ms dc_ms pm_ms an_ms cd_ms ct_ms), sl_ms⟩)
  (c_ms : PySem.W.codeIn K cd_ms "_moving_step" = true)
  (k_ms : PySem.W.keepIn K (.ref f_ms) = true)
  {f_so : Addr}
  (a_so : PySem.W.nsIn K mainGlobals "step_of" = some (some (.ref f_so)))
  {od_so an_so : Option Addr}
  {sl_so : Array (Option Value)}
  {oc_so kV_so dc_so pm_so cd_so ct_so : Value}
  (l_so : K.lookup f_so = some ⟨oc_so, od_so, .func (PySem.W.fnOf "step_of" "step_of" (defArgs s_step_of) (defBody s_step_of) (defScope s_step_of) .none kV_so dc_so pm_so an_so cd_so ct_so), sl_so⟩)
  (c_so : PySem.W.codeIn K cd_so "step_of" = true)
  (k_so : PySem.W.keepIn K (.ref f_so) = true)
  {f_mi : Addr}
  (a_mi : PySem.W.nsIn K mainGlobals "_law_mix" = some (some (.ref f_mi)))
  {od_mi an_mi : Option Addr}
  {sl_mi : Array (Option Value)}
  {oc_mi kV_mi dc_mi pm_mi cd_mi ct_mi : Value}
  (l_mi : K.lookup f_mi = some ⟨oc_mi, od_mi, .func (PySem.W.fnOf "_law_mix" "_law_mix" (defArgs s__law_mix) (defBody s__law_mix) (defScope s__law_mix) .none kV_mi dc_mi pm_mi an_mi cd_mi ct_mi), sl_mi⟩)
  (c_mi : PySem.W.codeIn K cd_mi "_law_mix" = true)
  (k_mi : PySem.W.keepIn K (.ref f_mi) = true)
  {f_ha : Addr}
  (a_ha : PySem.W.nsIn K mainGlobals "_law_hand" = some (some (.ref f_ha)))
  {od_ha an_ha : Option Addr}
  {sl_ha : Array (Option Value)}
  {oc_ha kV_ha dc_ha pm_ha cd_ha ct_ha : Value}
  (l_ha : K.lookup f_ha = some ⟨oc_ha, od_ha, .func (PySem.W.fnOf "_law_hand" "_law_hand" (defArgs s__law_hand) (defBody s__law_hand) (defScope s__law_hand) .none kV_ha dc_ha pm_ha an_ha cd_ha ct_ha), sl_ha⟩)
  (c_ha : PySem.W.codeIn K cd_ha "_law_hand" = true)
  (k_ha : PySem.W.keepIn K (.ref f_ha) = true)
  {f_dr : Addr}
  (a_dr : PySem.W.nsIn K mainGlobals "_law_draw" = some (some (.ref f_dr)))
  {od_dr an_dr : Option Addr}
  {sl_dr : Array (Option Value)}
  {oc_dr kV_dr dc_dr pm_dr cd_dr ct_dr : Value}
  (l_dr : K.lookup f_dr = some ⟨oc_dr, od_dr, .func (PySem.W.fnOf "_law_draw" "_law_draw" (defArgs s__law_draw) (defBody s__law_draw) (defScope s__law_draw) .none kV_dr dc_dr pm_dr an_dr cd_dr ct_dr), sl_dr⟩)
  (c_dr : PySem.W.codeIn K cd_dr "_law_draw" = true)
  (k_dr : PySem.W.keepIn K (.ref f_dr) = true)
  {f_pk : Addr}
  (a_pk : PySem.W.nsIn K mainGlobals "_law_pick" = some (some (.ref f_pk)))
  {od_pk an_pk : Option Addr}
  {sl_pk : Array (Option Value)}
  {oc_pk kV_pk dc_pk pm_pk cd_pk ct_pk : Value}
  (l_pk : K.lookup f_pk = some ⟨oc_pk, od_pk, .func (PySem.W.fnOf "_law_pick" "_law_pick" (defArgs s__law_pick) (defBody s__law_pick) (defScope s__law_pick) .none kV_pk dc_pk pm_pk an_pk cd_pk ct_pk), sl_pk⟩)
  (c_pk : PySem.W.codeIn K cd_pk "_law_pick" = true)
  (k_pk : PySem.W.keepIn K (.ref f_pk) = true)
  {f_lo : Addr}
  (a_lo : PySem.W.nsIn K mainGlobals "_law_lots" = some (some (.ref f_lo)))
  {od_lo an_lo : Option Addr}
  {sl_lo : Array (Option Value)}
  {oc_lo kV_lo dc_lo pm_lo cd_lo ct_lo : Value}
  (l_lo : K.lookup f_lo = some ⟨oc_lo, od_lo, .func (PySem.W.fnOf "_law_lots" "_law_lots" (defArgs s__law_lots) (defBody s__law_lots) (defScope s__law_lots) .none kV_lo dc_lo pm_lo an_lo cd_lo ct_lo), sl_lo⟩)
  (c_lo : PySem.W.codeIn K cd_lo "_law_lots" = true)
  (k_lo : PySem.W.keepIn K (.ref f_lo) = true)
  {f_ld : Addr}
  (a_ld : PySem.W.nsIn K mainGlobals "_law_land" = some (some (.ref f_ld)))
  {od_ld an_ld : Option Addr}
  {sl_ld : Array (Option Value)}
  {oc_ld kV_ld dc_ld pm_ld cd_ld ct_ld : Value}
  (l_ld : K.lookup f_ld = some ⟨oc_ld, od_ld, .func (PySem.W.fnOf "_law_land" "_law_land" (defArgs s__law_land) (defBody s__law_land) (defScope s__law_land) .none kV_ld dc_ld pm_ld an_ld cd_ld ct_ld), sl_ld⟩)
  (c_ld : PySem.W.codeIn K cd_ld "_law_land" = true)
  (k_ld : PySem.W.keepIn K (.ref f_ld) = true)
  {f_tu : Addr}
  (a_tu : PySem.W.nsIn K mainGlobals "_law_turned" = some (some (.ref f_tu)))
  {od_tu an_tu : Option Addr}
  {sl_tu : Array (Option Value)}
  {oc_tu kV_tu dc_tu pm_tu cd_tu ct_tu : Value}
  (l_tu : K.lookup f_tu = some ⟨oc_tu, od_tu, .func (PySem.W.fnOf "_law_turned" "_law_turned" (defArgs s__law_turned) (defBody s__law_turned) (defScope s__law_turned) .none kV_tu dc_tu pm_tu an_tu cd_tu ct_tu), sl_tu⟩)
  (c_tu : PySem.W.codeIn K cd_tu "_law_turned" = true)
  (k_tu : PySem.W.keepIn K (.ref f_tu) = true)
  {f_sm : Addr}
  (a_sm : PySem.W.nsIn K mainGlobals "_law_some" = some (some (.ref f_sm)))
  {od_sm an_sm : Option Addr}
  {sl_sm : Array (Option Value)}
  {oc_sm kV_sm dc_sm pm_sm cd_sm ct_sm : Value}
  (l_sm : K.lookup f_sm = some ⟨oc_sm, od_sm, .func (PySem.W.fnOf "_law_some" "_law_some" (defArgs s__law_some) (defBody s__law_some) (defScope s__law_some) .none kV_sm dc_sm pm_sm an_sm cd_sm ct_sm), sl_sm⟩)
  (c_sm : PySem.W.codeIn K cd_sm "_law_some" = true)
  (k_sm : PySem.W.keepIn K (.ref f_sm) = true)
  {f_pa : Addr}
  (a_pa : PySem.W.nsIn K mainGlobals "_law_parting" = some (some (.ref f_pa)))
  {od_pa an_pa : Option Addr}
  {sl_pa : Array (Option Value)}
  {oc_pa kV_pa dc_pa pm_pa cd_pa ct_pa : Value}
  (l_pa : K.lookup f_pa = some ⟨oc_pa, od_pa, .func (PySem.W.fnOf "_law_parting" "_law_parting" (defArgs s__law_parting) (defBody s__law_parting) (defScope s__law_parting) .none kV_pa dc_pa pm_pa an_pa cd_pa ct_pa), sl_pa⟩)
  (c_pa : PySem.W.codeIn K cd_pa "_law_parting" = true)
  (k_pa : PySem.W.keepIn K (.ref f_pa) = true)
  {f_ls : Addr}
  (a_ls : PySem.W.nsIn K mainGlobals "_law_state" = some (some (.ref f_ls)))
  {od_ls an_ls : Option Addr}
  {sl_ls : Array (Option Value)}
  {oc_ls kV_ls dc_ls pm_ls cd_ls ct_ls : Value}
  (l_ls : K.lookup f_ls = some ⟨oc_ls, od_ls, .func (PySem.W.fnOf "_law_state" "_law_state" (defArgs s__law_state) (defBody s__law_state) (defScope s__law_state) .none kV_ls dc_ls pm_ls an_ls cd_ls ct_ls), sl_ls⟩)
  (c_ls : PySem.W.codeIn K cd_ls "_law_state" = true)
  (k_ls : PySem.W.keepIn K (.ref f_ls) = true)
  {f_sd : Addr}
  (a_sd : PySem.W.nsIn K mainGlobals "_law_said" = some (some (.ref f_sd)))
  {od_sd an_sd : Option Addr}
  {sl_sd : Array (Option Value)}
  {oc_sd kV_sd dc_sd pm_sd cd_sd ct_sd : Value}
  (l_sd : K.lookup f_sd = some ⟨oc_sd, od_sd, .func (PySem.W.fnOf "_law_said" "_law_said" (defArgs s__law_said) (defBody s__law_said) (defScope s__law_said) .none kV_sd dc_sd pm_sd an_sd cd_sd ct_sd), sl_sd⟩)
  (c_sd : PySem.W.codeIn K cd_sd "_law_said" = true)
  (k_sd : PySem.W.keepIn K (.ref f_sd) = true)
  {f_go : Addr}
  (a_go : PySem.W.nsIn K mainGlobals "_law_goes" = some (some (.ref f_go)))
  {od_go an_go : Option Addr}
  {sl_go : Array (Option Value)}
  {oc_go kV_go dc_go pm_go cd_go ct_go : Value}
  (l_go : K.lookup f_go = some ⟨oc_go, od_go, .func (PySem.W.fnOf "_law_goes" "_law_goes" (defArgs s__law_goes) (defBody s__law_goes) (defScope s__law_goes) .none kV_go dc_go pm_go an_go cd_go ct_go), sl_go⟩)
  (c_go : PySem.W.codeIn K cd_go "_law_goes" = true)
  (k_go : PySem.W.keepIn K (.ref f_go) = true)
  {f_de : Addr}
  (a_de : PySem.W.nsIn K mainGlobals "_law_deed" = some (some (.ref f_de)))
  {od_de an_de : Option Addr}
  {sl_de : Array (Option Value)}
  {oc_de kV_de dc_de pm_de cd_de ct_de : Value}
  (l_de : K.lookup f_de = some ⟨oc_de, od_de, .func (PySem.W.fnOf "_law_deed" "_law_deed" (defArgs s__law_deed) (defBody s__law_deed) (defScope s__law_deed) .none kV_de dc_de pm_de an_de cd_de ct_de), sl_de⟩)
  (c_de : PySem.W.codeIn K cd_de "_law_deed" = true)
  (k_de : PySem.W.keepIn K (.ref f_de) = true)
  {f_du : Addr}
  (a_du : PySem.W.nsIn K mainGlobals "_law_due" = some (some (.ref f_du)))
  {od_du an_du : Option Addr}
  {sl_du : Array (Option Value)}
  {oc_du kV_du dc_du pm_du cd_du ct_du : Value}
  (l_du : K.lookup f_du = some ⟨oc_du, od_du, .func (PySem.W.fnOf "_law_due" "_law_due" (defArgs s__law_due) (defBody s__law_due) (defScope s__law_due) .none kV_du dc_du pm_du an_du cd_du ct_du), sl_du⟩)
  (c_du : PySem.W.codeIn K cd_du "_law_due" = true)
  (k_du : PySem.W.keepIn K (.ref f_du) = true)
  {f_li : Addr}
  (a_li : PySem.W.nsIn K mainGlobals "_law_is" = some (some (.ref f_li)))
  {od_li an_li : Option Addr}
  {sl_li : Array (Option Value)}
  {oc_li kV_li dc_li pm_li cd_li ct_li : Value}
  (l_li : K.lookup f_li = some ⟨oc_li, od_li, .func (PySem.W.fnOf "_law_is" "_law_is" (defArgs s__law_is) (defBody s__law_is) (defScope s__law_is) .none kV_li dc_li pm_li an_li cd_li ct_li), sl_li⟩)
  (c_li : PySem.W.codeIn K cd_li "_law_is" = true)
  (k_li : PySem.W.keepIn K (.ref f_li) = true)
  {f_ow : Addr}
  (a_ow : PySem.W.nsIn K mainGlobals "_law_other_rows" = some (some (.ref f_ow)))
  {od_ow an_ow : Option Addr}
  {sl_ow : Array (Option Value)}
  {oc_ow kV_ow dc_ow pm_ow cd_ow ct_ow : Value}
  (l_ow : K.lookup f_ow = some ⟨oc_ow, od_ow, .func (PySem.W.fnOf "_law_other_rows" "_law_other_rows" (defArgs s__law_other_rows) (defBody s__law_other_rows) (defScope s__law_other_rows) .none kV_ow dc_ow pm_ow an_ow cd_ow ct_ow), sl_ow⟩)
  (c_ow : PySem.W.codeIn K cd_ow "_law_other_rows" = true)
  (k_ow : PySem.W.keepIn K (.ref f_ow) = true)
  {f_wr : Addr}
  (a_wr : PySem.W.nsIn K mainGlobals "_law_wrong" = some (some (.ref f_wr)))
  {od_wr an_wr : Option Addr}
  {sl_wr : Array (Option Value)}
  {oc_wr kV_wr dc_wr pm_wr cd_wr ct_wr : Value}
  (l_wr : K.lookup f_wr = some ⟨oc_wr, od_wr, .func (PySem.W.fnOf "_law_wrong" "_law_wrong" (defArgs s__law_wrong) (defBody s__law_wrong) (defScope s__law_wrong) .none kV_wr dc_wr pm_wr an_wr cd_wr ct_wr), sl_wr⟩)
  (c_wr : PySem.W.codeIn K cd_wr "_law_wrong" = true)
  (k_wr : PySem.W.keepIn K (.ref f_wr) = true)
  {f_rf : Addr}
  (a_rf : PySem.W.nsIn K mainGlobals "_law_refused" = some (some (.ref f_rf)))
  {od_rf an_rf : Option Addr}
  {sl_rf : Array (Option Value)}
  {oc_rf kV_rf dc_rf pm_rf cd_rf ct_rf : Value}
  (l_rf : K.lookup f_rf = some ⟨oc_rf, od_rf, .func (PySem.W.fnOf "_law_refused" "_law_refused" (defArgs s__law_refused) (defBody s__law_refused) (defScope s__law_refused) .none kV_rf dc_rf pm_rf an_rf cd_rf ct_rf), sl_rf⟩)
  (c_rf : PySem.W.codeIn K cd_rf "_law_refused" = true)
  (k_rf : PySem.W.keepIn K (.ref f_rf) = true)
  {f_la : Addr}
  (a_la : PySem.W.nsIn K mainGlobals "law" = some (some (.ref f_la)))
  {od_la an_la : Option Addr}
  {sl_la : Array (Option Value)}
  {oc_la kV_la dc_la pm_la cd_la ct_la : Value}
  (l_la : K.lookup f_la = some ⟨oc_la, od_la, .func (PySem.W.fnOf "law" "law" (defArgs s_law) (defBody s_law) (defScope s_law) .none kV_la dc_la pm_la an_la cd_la ct_la), sl_la⟩)
  (c_la : PySem.W.codeIn K cd_la "law" = true)
  (k_la : PySem.W.keepIn K (.ref f_la) = true)
  {L : Addr}
  (aL : PySem.W.nsIn K mainGlobals "LandError" = some (some (.ref L)))
  (eL : PySem.W.subIn K (.ref L) (.type "BaseException") = some true)
  (dL : PySem.W.hasDictIn K L = true)
  (tL : PySem.W.typeIn K (.ref L) = some (.type "type"))
  (icL : PySem.W.isClsIn K L = true)
  (hnO : PySem.W.specialIn K (.builtin "object.__class__") "__get__" = some (some (.builtin "getset_descriptor.__get__")))
  (htO : PySem.W.takesIn K (.builtin "object.__class__") = some true)
  {LC : Addr}
  (aLC : PySem.W.nsIn K mainGlobals "Land" = some (some (.ref LC)))
  (pgLC : PySem.W.plainGet K LC Str.empty = true)
  (hdLC : PySem.W.hasDictIn K LC = true)
  (poLC : PySem.W.plainOver K LC = true)
  (saLC : PySem.W.findIn K (.ref LC) "__setattr__" = some (some (.builtin "object.__setattr__")))
  (mkLC : PySem.W.makesIn K LC = true)
  (kcLC : PySem.W.keepIn K (.ref LC) = true)
  (haLC : PySem.W.findIn K (.ref LC) "__class__" = some (some (.builtin "object.__class__")))
  (hmLC : PySem.W.mroIn K LC (.type "object") = some true)
  (neLC : PySem.W.findIn K (.ref LC) "__ne__" = some (some (.builtin "object.__ne__")))
  (n_LC_cells : PySem.W.findIn K (.ref LC) "cells" = some none)
  (n_LC_neighbours : PySem.W.findIn K (.ref LC) "neighbours" = some none)
  (n_LC_roads : PySem.W.findIn K (.ref LC) "roads" = some none)
  (n_LC_nearby : PySem.W.findIn K (.ref LC) "nearby" = some none)
  (n_LC__couples : PySem.W.findIn K (.ref LC) "_couples" = some none)
  {f_cI : Addr}
  (a_cI : PySem.W.findIn K (.ref LC) "__init__" = some (some (.ref f_cI)))
  (i_cI : PySem.W.isFn K (.ref f_cI) = true)
  {od_cI an_cI : Option Addr}
  {sl_cI : Array (Option Value)}
  {oc_cI kV_cI dc_cI pm_cI cd_cI ct_cI : Value}
  (l_cI : K.lookup f_cI = some ⟨oc_cI, od_cI, .func (PySem.W.fnOf "__init__" "Land.__init__" (defArgs s_Land___init__) (defBody s_Land___init__) (defScope s_Land___init__) .none kV_cI dc_cI pm_cI an_cI cd_cI ct_cI), sl_cI⟩)
  (c_cI : PySem.W.codeIn K cd_cI "Land.__init__" = true)
  (k_cI : PySem.W.keepIn K (.ref f_cI) = true)
  {pr_cp f_cp : Addr}
  (a_cp : PySem.W.findIn K (.ref LC) "couples" = some (some (.ref pr_cp)))
  (gp_cp : PySem.W.specialIn K (.ref pr_cp) "__get__" = some (some (.builtin "property.__get__")))
  (tp_cp : PySem.W.takesIn K (.ref pr_cp) = some true)
  {rest_cp : List Value}
  (rp_cp : PySem.W.recIn K pr_cp "property" = some (.ref f_cp :: rest_cp))
  {od_cp an_cp : Option Addr}
  {sl_cp : Array (Option Value)}
  {oc_cp kV_cp dc_cp pm_cp cd_cp ct_cp : Value}
  (l_cp : K.lookup f_cp = some ⟨oc_cp, od_cp, .func (PySem.W.fnOf "couples" "Land.couples" (defArgs s_Land_couples) (defBody s_Land_couples) (defScope s_Land_couples) .none kV_cp dc_cp pm_cp an_cp cd_cp ct_cp), sl_cp⟩)
  (c_cp : PySem.W.codeIn K cd_cp "Land.couples" = true)
  (k_cp : PySem.W.keepIn K (.ref f_cp) = true)
  {f_eq : Addr}
  (a_eq : PySem.W.findIn K (.ref LC) "__eq__" = some (some (.ref f_eq)))
  (i_eq : PySem.W.isFn K (.ref f_eq) = true)
  {SC : Addr}
  (aSC : PySem.W.nsIn K mainGlobals "State" = some (some (.ref SC)))
  (pgSC : PySem.W.plainGet K SC Str.empty = true)
  (hdSC : PySem.W.hasDictIn K SC = true)
  (poSC : PySem.W.plainOver K SC = true)
  (saSC : PySem.W.findIn K (.ref SC) "__setattr__" = some (some (.builtin "object.__setattr__")))
  (mkSC : PySem.W.makesIn K SC = true)
  (kcSC : PySem.W.keepIn K (.ref SC) = true)
  (haSC : PySem.W.findIn K (.ref SC) "__class__" = some (some (.builtin "object.__class__")))
  (hmSC : PySem.W.mroIn K SC (.type "object") = some true)
  (n_SC_land : PySem.W.findIn K (.ref SC) "land" = some none)
  (n_SC_hands : PySem.W.findIn K (.ref SC) "hands" = some none)
  (n_SC_standings : PySem.W.findIn K (.ref SC) "standings" = some none)
  {f_sI : Addr}
  (a_sI : PySem.W.findIn K (.ref SC) "__init__" = some (some (.ref f_sI)))
  (i_sI : PySem.W.isFn K (.ref f_sI) = true)
  {od_sI an_sI : Option Addr}
  {sl_sI : Array (Option Value)}
  {oc_sI kV_sI dc_sI pm_sI cd_sI ct_sI : Value}
  (l_sI : K.lookup f_sI = some ⟨oc_sI, od_sI, .func (PySem.W.fnOf "__init__" "State.__init__" (defArgs s_State___init__) (defBody s_State___init__) (defScope s_State___init__) .none kV_sI dc_sI pm_sI an_sI cd_sI ct_sI), sl_sI⟩)
  (c_sI : PySem.W.codeIn K cd_sI "State.__init__" = true)
  (k_sI : PySem.W.keepIn K (.ref f_sI) = true)
  {f_oc : Addr}
  (a_oc : PySem.W.findIn K (.ref SC) "own_cells" = some (some (.ref f_oc)))
  (i_oc : PySem.W.isFn K (.ref f_oc) = true)
  {od_oc an_oc : Option Addr}
  {sl_oc : Array (Option Value)}
  {oc_oc kV_oc dc_oc pm_oc cd_oc ct_oc : Value}
  (l_oc : K.lookup f_oc = some ⟨oc_oc, od_oc, .func (PySem.W.fnOf "own_cells" "State.own_cells" (defArgs s_State_own_cells) (defBody s_State_own_cells) (defScope s_State_own_cells) .none kV_oc dc_oc pm_oc an_oc cd_oc ct_oc), sl_oc⟩)
  (c_oc : PySem.W.codeIn K cd_oc "State.own_cells" = true)
  (k_oc : PySem.W.keepIn K (.ref f_oc) = true)
  {B : Addr}
  (aB : PySem.W.nsIn K mainGlobals "BadCell" = some (some (.ref B)))
  {nmB qB : Str}
  {N_B : Addr}
  {bsB bmB subB : List Value}
  {snB : List Str}
  {abB : Bool}
  {colB : Option Bool}
  {ddB : Option Addr}
  {m0B m1B m2B m3B m5B : Option Value}
  (xB : K.lookup B = some (excClassObj nmB qB B N_B bsB bmB true snB subB abB colB ddB m0B m1B m2B m3B m5B "ValueError.__new__"))
  (rB : PySem.HandSPX.refsVE bmB = true)
  (saB : PySem.W.findIn K (.ref B) "__setattr__" = some (some (.builtin "object.__setattr__")))
  (exB : PySem.W.subIn K (.ref B) (.type "BaseException") = some true)
  (tyB : PySem.W.typeIn K (.ref B) = some (.type "type"))
  (kpB : PySem.W.keepIn K (.ref B) = true)
  (hgB : PySem.W.findIn K (.ref B) "__getattribute__" = some (some (.builtin "BaseException.__getattribute__")))
  (hkB : PySem.W.findIn K (.ref B) "__getattr__" = some none)
  (hdB : PySem.W.hasDictIn K B = true)
  (haB : PySem.W.findIn K (.ref B) "__class__" = some (some (.builtin "object.__class__")))
  (hmB : PySem.W.mroIn K B (.type "object") = some true)
  (icB : PySem.W.isClsIn K B = true)
  (ssB : PySem.W.subIn K (.ref B) (.ref B) = some true)
  (suB : PySem.W.subIn K (.ref B) (.ref L) = some true)
  (noB : PySem.W.findIn K (.ref B) "cell" = some none)
  {f_iB : Addr}
  (a_iB : PySem.W.findIn K (.ref B) "__init__" = some (some (.ref f_iB)))
  (t_iB : PySem.W.typeIn K (.ref f_iB) = some (.type "function"))
  {od_iB an_iB : Option Addr}
  {sl_iB : Array (Option Value)}
  {oc_iB kV_iB dc_iB pm_iB cd_iB ct_iB : Value}
  (l_iB : K.lookup f_iB = some ⟨oc_iB, od_iB, .func (PySem.W.fnOf "__init__" "BadCell.__init__" (defArgs s_BadCell___init__) (defBody s_BadCell___init__) (defScope s_BadCell___init__) .none kV_iB dc_iB pm_iB an_iB cd_iB ct_iB), sl_iB⟩)
  (c_iB : PySem.W.codeIn K cd_iB "BadCell.__init__" = true)
  (k_iB : PySem.W.keepIn K (.ref f_iB) = true)
  {BD : Addr}
  (aBD : PySem.W.nsIn K mainGlobals "BadDeed" = some (some (.ref BD)))
  {nmBD qBD : Str}
  {N_BD : Addr}
  {bsBD bmBD subBD : List Value}
  {snBD : List Str}
  {abBD : Bool}
  {colBD : Option Bool}
  {ddBD : Option Addr}
  {m0BD m1BD m2BD m3BD m5BD : Option Value}
  (xBD : K.lookup BD = some (excClassObj nmBD qBD BD N_BD bsBD bmBD true snBD subBD abBD colBD ddBD m0BD m1BD m2BD m3BD m5BD "ValueError.__new__"))
  (rBD : PySem.HandSPX.refsVE bmBD = true)
  (saBD : PySem.W.findIn K (.ref BD) "__setattr__" = some (some (.builtin "object.__setattr__")))
  (exBD : PySem.W.subIn K (.ref BD) (.type "BaseException") = some true)
  (tyBD : PySem.W.typeIn K (.ref BD) = some (.type "type"))
  (kpBD : PySem.W.keepIn K (.ref BD) = true)
  (hgBD : PySem.W.findIn K (.ref BD) "__getattribute__" = some (some (.builtin "BaseException.__getattribute__")))
  (hkBD : PySem.W.findIn K (.ref BD) "__getattr__" = some none)
  (hdBD : PySem.W.hasDictIn K BD = true)
  (haBD : PySem.W.findIn K (.ref BD) "__class__" = some (some (.builtin "object.__class__")))
  (hmBD : PySem.W.mroIn K BD (.type "object") = some true)
  (icBD : PySem.W.isClsIn K BD = true)
  (ssBD : PySem.W.subIn K (.ref BD) (.ref BD) = some true)
  (suBD : PySem.W.subIn K (.ref BD) (.ref L) = some true)
  (noBD : PySem.W.findIn K (.ref BD) "what" = some none)
  {f_iBD : Addr}
  (a_iBD : PySem.W.findIn K (.ref BD) "__init__" = some (some (.ref f_iBD)))
  (t_iBD : PySem.W.typeIn K (.ref f_iBD) = some (.type "function"))
  {od_iBD an_iBD : Option Addr}
  {sl_iBD : Array (Option Value)}
  {oc_iBD kV_iBD dc_iBD pm_iBD cd_iBD ct_iBD : Value}
  (l_iBD : K.lookup f_iBD = some ⟨oc_iBD, od_iBD, .func (PySem.W.fnOf "__init__" "BadDeed.__init__" (defArgs s_BadDeed___init__) (defBody s_BadDeed___init__) (defScope s_BadDeed___init__) .none kV_iBD dc_iBD pm_iBD an_iBD cd_iBD ct_iBD), sl_iBD⟩)
  (c_iBD : PySem.W.codeIn K cd_iBD "BadDeed.__init__" = true)
  (k_iBD : PySem.W.keepIn K (.ref f_iBD) = true)
  (sDB : PySem.W.subIn K (.ref BD) (.ref B) = some false)
  {SP : Addr}
  (aSP : PySem.W.nsIn K mainGlobals "Step" = some (some (.ref SP)))
  {e_st : Addr}
  {f_st : Addr}
  (a_st : PySem.W.findIn K (.ref SP) "__init__" = some (some (.ref f_st)))
  (ty_st : PySem.W.typeIn K (.ref f_st) = some (.type "function"))
  (fi_st : PySem.W.fnIn K f_st = true)
  {od_st an_st : Option Addr}
  {sl_st : Array (Option Value)}
  {oc_st kV_st dc_st pm_st cd_st ct_st : Value}
  {dt_st : Addr}
  (l_st : K.lookup f_st = some ⟨oc_st, od_st, .func (PySem.W.fnOf "__init__" "Step.__init__" (defArgs s_Step___init__) (defBody s_Step___init__) (defScope s_Step___init__) (.ref dt_st) kV_st dc_st pm_st an_st cd_st ct_st), sl_st⟩)
  (c_st : PySem.W.codeIn K cd_st "Step.__init__" = true)
  (k_st : PySem.W.keepIn K (.ref f_st) = true)
  {to_st : Value}
  {td_st : Option Addr}
  {it_st : Array Value}
  {iz_st : Nat}
  {ts_st : Array (Option Value)}
  (ld_st : K.lookup dt_st = some ⟨to_st, td_st, .seq it_st iz_st, ts_st⟩)
  (vd_st : Vals [.ref e_st] it_st.toList)
  {z_e_st : Nat}
  {s_e_st : Array (Option Value)}
  (l_e_st : K.lookup e_st = some ⟨.type "tuple", none, .seq #[] z_e_st, s_e_st⟩)
  (anyS : PySem.W.nsIn K PySem.cStatics "thirdparty.any" = some none)
  (topS_ : (P.main.scope.names.lookup ("super" : Str)).isSome = false)
  (z_isinstance : PySem.W.nsIn K mainGlobals "isinstance" = some none)
  (z_int : PySem.W.nsIn K mainGlobals "int" = some none)
  (z_bool : PySem.W.nsIn K mainGlobals "bool" = some none)
  (z_str : PySem.W.nsIn K mainGlobals "str" = some none)
  (z_tuple : PySem.W.nsIn K mainGlobals "tuple" = some none)
  (z_list : PySem.W.nsIn K mainGlobals "list" = some none)
  (z_enumerate : PySem.W.nsIn K mainGlobals "enumerate" = some none)
  (z_len : PySem.W.nsIn K mainGlobals "len" = some none)
  (z_abs : PySem.W.nsIn K mainGlobals "abs" = some none)
  (z_range : PySem.W.nsIn K mainGlobals "range" = some none)
  (z_min : PySem.W.nsIn K mainGlobals "min" = some none)
  (z_max : PySem.W.nsIn K mainGlobals "max" = some none)
  (z_sorted : PySem.W.nsIn K mainGlobals "sorted" = some none)
  (z_set : PySem.W.nsIn K mainGlobals "set" = some none)
  (z_all : PySem.W.nsIn K mainGlobals "all" = some none)
  (z_repr : PySem.W.nsIn K mainGlobals "repr" = some none)
  (z_super : PySem.W.nsIn K mainGlobals "super" = some none)
  {Lv : Addr}
  (aLv : PySem.W.nsIn K mainGlobals "Leave" = some (some (.ref Lv)))
  (pgLv : PySem.W.plainGet K Lv Str.empty = true)
  (hdLv : PySem.W.hasDictIn K Lv = true)
  (poLv : PySem.W.plainOver K Lv = true)
  (saLv : PySem.W.findIn K (.ref Lv) "__setattr__" = some (some (.builtin "object.__setattr__")))
  (mkLv : PySem.W.makesIn K Lv = true)
  (kcLv : PySem.W.keepIn K (.ref Lv) = true)
  (haLv : PySem.W.findIn K (.ref Lv) "__class__" = some (some (.builtin "object.__class__")))
  (hmLv : PySem.W.mroIn K Lv (.type "object") = some true)
  (icLv : PySem.W.isClsIn K Lv = true)
  (tyLv : PySem.W.typeIn K (.ref Lv) = some (.type "type"))
  (ssLv : PySem.W.subIn K (.ref Lv) (.ref Lv) = some true)
  (mrLv : PySem.W.mroIn K Lv (.ref Lv) = some true)
  (n_Lv_kind : PySem.W.findIn K (.ref Lv) "kind" = some none)
  (n_Lv_cells : PySem.W.findIn K (.ref Lv) "cells" = some none)
  (n_Lv_others : PySem.W.findIn K (.ref Lv) "others" = some none)
  {f_le co_le ce_le : Addr}
  (a_le : PySem.W.findIn K (.ref Lv) "__init__" = some (some (.ref f_le)))
  (i_le : PySem.W.isFn K (.ref f_le) = true)
  {oc_le kV_le dc_le pm_le ct_le cl_le cx_le : Value}
  {od_le an_le dd_le lx_le : Option Addr}
  {sl_le sc_le sx_le : Array (Option Value)}
  {vs_le : Array Value}
  {x_le : Str}
  {t_le : Tok}
  {dt_le e_le : Addr}
  (l_le : K.lookup f_le = some ⟨oc_le, od_le, .func (PySem.W.ksFn "__init__" "Leave.__init__" (defArgs s_Leave___init__) (defBody s_Leave___init__) (defScope s_Leave___init__) (.ref dt_le) kV_le dc_le pm_le an_le (.ref co_le) ct_le ce_le), sl_le⟩)
  (c_le : PySem.W.codeIn K (.ref co_le) "Leave.__init__" = true)
  (lc_le : K.lookup co_le = some ⟨cl_le, dd_le, .fields vs_le, sc_le⟩)
  (v2_le : vs_le[2]? = some (.str x_le t_le))
  (fl_le : ((P.main.file : Str) == x_le) = true)
  (lx_fact_le : K.lookup ce_le = some ⟨cx_le, lx_le, .cell (some (.ref Lv)), sx_le⟩)
  (up_le : PySem.W.ks_superIn K Lv Lv "__init__" = some (some (.ref f_st)))
  {to_le : Value}
  {td_le : Option Addr}
  {it_le : Array Value}
  {iz_le : Nat}
  {ts_le : Array (Option Value)}
  (ld_le : K.lookup dt_le = some ⟨to_le, td_le, .seq it_le iz_le, ts_le⟩)
  (vd_le : Vals [.ref e_le] it_le.toList)
  {Cm : Addr}
  (aCm : PySem.W.nsIn K mainGlobals "Come" = some (some (.ref Cm)))
  (pgCm : PySem.W.plainGet K Cm Str.empty = true)
  (hdCm : PySem.W.hasDictIn K Cm = true)
  (poCm : PySem.W.plainOver K Cm = true)
  (saCm : PySem.W.findIn K (.ref Cm) "__setattr__" = some (some (.builtin "object.__setattr__")))
  (mkCm : PySem.W.makesIn K Cm = true)
  (kcCm : PySem.W.keepIn K (.ref Cm) = true)
  (haCm : PySem.W.findIn K (.ref Cm) "__class__" = some (some (.builtin "object.__class__")))
  (hmCm : PySem.W.mroIn K Cm (.type "object") = some true)
  (icCm : PySem.W.isClsIn K Cm = true)
  (tyCm : PySem.W.typeIn K (.ref Cm) = some (.type "type"))
  (ssCm : PySem.W.subIn K (.ref Cm) (.ref Cm) = some true)
  (mrCm : PySem.W.mroIn K Cm (.ref Cm) = some true)
  (n_Cm_kind : PySem.W.findIn K (.ref Cm) "kind" = some none)
  (n_Cm_cells : PySem.W.findIn K (.ref Cm) "cells" = some none)
  (n_Cm_others : PySem.W.findIn K (.ref Cm) "others" = some none)
  {f_co co_co ce_co : Addr}
  (a_co : PySem.W.findIn K (.ref Cm) "__init__" = some (some (.ref f_co)))
  (i_co : PySem.W.isFn K (.ref f_co) = true)
  {oc_co kV_co dc_co pm_co ct_co cl_co cx_co : Value}
  {od_co an_co dd_co lx_co : Option Addr}
  {sl_co sc_co sx_co : Array (Option Value)}
  {vs_co : Array Value}
  {x_co : Str}
  {t_co : Tok}
  (l_co : K.lookup f_co = some ⟨oc_co, od_co, .func (PySem.W.ksFn "__init__" "Come.__init__" (defArgs s_Come___init__) (defBody s_Come___init__) (defScope s_Come___init__) .none kV_co dc_co pm_co an_co (.ref co_co) ct_co ce_co), sl_co⟩)
  (c_co : PySem.W.codeIn K (.ref co_co) "Come.__init__" = true)
  (lc_co : K.lookup co_co = some ⟨cl_co, dd_co, .fields vs_co, sc_co⟩)
  (v2_co : vs_co[2]? = some (.str x_co t_co))
  (fl_co : ((P.main.file : Str) == x_co) = true)
  (lx_fact_co : K.lookup ce_co = some ⟨cx_co, lx_co, .cell (some (.ref Cm)), sx_co⟩)
  (up_co : PySem.W.ks_superIn K Cm Cm "__init__" = some (some (.ref f_st)))
  {Gn : Addr}
  (aGn : PySem.W.nsIn K mainGlobals "Go" = some (some (.ref Gn)))
  (pgGn : PySem.W.plainGet K Gn Str.empty = true)
  (hdGn : PySem.W.hasDictIn K Gn = true)
  (poGn : PySem.W.plainOver K Gn = true)
  (saGn : PySem.W.findIn K (.ref Gn) "__setattr__" = some (some (.builtin "object.__setattr__")))
  (mkGn : PySem.W.makesIn K Gn = true)
  (kcGn : PySem.W.keepIn K (.ref Gn) = true)
  (haGn : PySem.W.findIn K (.ref Gn) "__class__" = some (some (.builtin "object.__class__")))
  (hmGn : PySem.W.mroIn K Gn (.type "object") = some true)
  (icGn : PySem.W.isClsIn K Gn = true)
  (tyGn : PySem.W.typeIn K (.ref Gn) = some (.type "type"))
  (ssGn : PySem.W.subIn K (.ref Gn) (.ref Gn) = some true)
  (mrGn : PySem.W.mroIn K Gn (.ref Gn) = some true)
  (n_Gn_kind : PySem.W.findIn K (.ref Gn) "kind" = some none)
  (n_Gn_cells : PySem.W.findIn K (.ref Gn) "cells" = some none)
  (n_Gn_others : PySem.W.findIn K (.ref Gn) "others" = some none)
  {f_gn co_gn ce_gn : Addr}
  (a_gn : PySem.W.findIn K (.ref Gn) "__init__" = some (some (.ref f_gn)))
  (i_gn : PySem.W.isFn K (.ref f_gn) = true)
  {oc_gn kV_gn dc_gn pm_gn ct_gn cl_gn cx_gn : Value}
  {od_gn an_gn dd_gn lx_gn : Option Addr}
  {sl_gn sc_gn sx_gn : Array (Option Value)}
  {vs_gn : Array Value}
  {x_gn : Str}
  {t_gn : Tok}
  {dt_gn e_gn : Addr}
  (l_gn : K.lookup f_gn = some ⟨oc_gn, od_gn, .func (PySem.W.ksFn "__init__" "Go.__init__" (defArgs s_Go___init__) (defBody s_Go___init__) (defScope s_Go___init__) (.ref dt_gn) kV_gn dc_gn pm_gn an_gn (.ref co_gn) ct_gn ce_gn), sl_gn⟩)
  (c_gn : PySem.W.codeIn K (.ref co_gn) "Go.__init__" = true)
  (lc_gn : K.lookup co_gn = some ⟨cl_gn, dd_gn, .fields vs_gn, sc_gn⟩)
  (v2_gn : vs_gn[2]? = some (.str x_gn t_gn))
  (fl_gn : ((P.main.file : Str) == x_gn) = true)
  (lx_fact_gn : K.lookup ce_gn = some ⟨cx_gn, lx_gn, .cell (some (.ref Gn)), sx_gn⟩)
  (up_gn : PySem.W.ks_superIn K Gn Gn "__init__" = some (some (.ref f_st)))
  {to_gn : Value}
  {td_gn : Option Addr}
  {it_gn : Array Value}
  {iz_gn : Nat}
  {ts_gn : Array (Option Value)}
  (ld_gn : K.lookup dt_gn = some ⟨to_gn, td_gn, .seq it_gn iz_gn, ts_gn⟩)
  (vd_gn : Vals [.ref e_gn] it_gn.toList)
  {Gt : Addr}
  (aGt : PySem.W.nsIn K mainGlobals "Grant" = some (some (.ref Gt)))
  (pgGt : PySem.W.plainGet K Gt Str.empty = true)
  (hdGt : PySem.W.hasDictIn K Gt = true)
  (poGt : PySem.W.plainOver K Gt = true)
  (saGt : PySem.W.findIn K (.ref Gt) "__setattr__" = some (some (.builtin "object.__setattr__")))
  (mkGt : PySem.W.makesIn K Gt = true)
  (kcGt : PySem.W.keepIn K (.ref Gt) = true)
  (haGt : PySem.W.findIn K (.ref Gt) "__class__" = some (some (.builtin "object.__class__")))
  (hmGt : PySem.W.mroIn K Gt (.type "object") = some true)
  (icGt : PySem.W.isClsIn K Gt = true)
  (tyGt : PySem.W.typeIn K (.ref Gt) = some (.type "type"))
  (ssGt : PySem.W.subIn K (.ref Gt) (.ref Gt) = some true)
  (mrGt : PySem.W.mroIn K Gt (.ref Gt) = some true)
  (n_Gt_kind : PySem.W.findIn K (.ref Gt) "kind" = some none)
  (n_Gt_cells : PySem.W.findIn K (.ref Gt) "cells" = some none)
  (n_Gt_others : PySem.W.findIn K (.ref Gt) "others" = some none)
  {f_gr co_gr ce_gr : Addr}
  (a_gr : PySem.W.findIn K (.ref Gt) "__init__" = some (some (.ref f_gr)))
  (i_gr : PySem.W.isFn K (.ref f_gr) = true)
  {oc_gr kV_gr dc_gr pm_gr ct_gr cl_gr cx_gr : Value}
  {od_gr an_gr dd_gr lx_gr : Option Addr}
  {sl_gr sc_gr sx_gr : Array (Option Value)}
  {vs_gr : Array Value}
  {x_gr : Str}
  {t_gr : Tok}
  (l_gr : K.lookup f_gr = some ⟨oc_gr, od_gr, .func (PySem.W.ksFn "__init__" "Grant.__init__" (defArgs s_Grant___init__) (defBody s_Grant___init__) (defScope s_Grant___init__) .none kV_gr dc_gr pm_gr an_gr (.ref co_gr) ct_gr ce_gr), sl_gr⟩)
  (c_gr : PySem.W.codeIn K (.ref co_gr) "Grant.__init__" = true)
  (lc_gr : K.lookup co_gr = some ⟨cl_gr, dd_gr, .fields vs_gr, sc_gr⟩)
  (v2_gr : vs_gr[2]? = some (.str x_gr t_gr))
  (fl_gr : ((P.main.file : Str) == x_gr) = true)
  (lx_fact_gr : K.lookup ce_gr = some ⟨cx_gr, lx_gr, .cell (some (.ref Gt)), sx_gr⟩)
  (up_gr : PySem.W.ks_superIn K Gt Gt "__init__" = some (some (.ref f_st)))
  {Gv : Addr}
  (aGv : PySem.W.nsIn K mainGlobals "Give" = some (some (.ref Gv)))
  (pgGv : PySem.W.plainGet K Gv Str.empty = true)
  (hdGv : PySem.W.hasDictIn K Gv = true)
  (poGv : PySem.W.plainOver K Gv = true)
  (saGv : PySem.W.findIn K (.ref Gv) "__setattr__" = some (some (.builtin "object.__setattr__")))
  (mkGv : PySem.W.makesIn K Gv = true)
  (kcGv : PySem.W.keepIn K (.ref Gv) = true)
  (haGv : PySem.W.findIn K (.ref Gv) "__class__" = some (some (.builtin "object.__class__")))
  (hmGv : PySem.W.mroIn K Gv (.type "object") = some true)
  (icGv : PySem.W.isClsIn K Gv = true)
  (tyGv : PySem.W.typeIn K (.ref Gv) = some (.type "type"))
  (ssGv : PySem.W.subIn K (.ref Gv) (.ref Gv) = some true)
  (mrGv : PySem.W.mroIn K Gv (.ref Gv) = some true)
  (n_Gv_kind : PySem.W.findIn K (.ref Gv) "kind" = some none)
  (n_Gv_cells : PySem.W.findIn K (.ref Gv) "cells" = some none)
  (n_Gv_others : PySem.W.findIn K (.ref Gv) "others" = some none)
  {f_gi co_gi ce_gi : Addr}
  (a_gi : PySem.W.findIn K (.ref Gv) "__init__" = some (some (.ref f_gi)))
  (i_gi : PySem.W.isFn K (.ref f_gi) = true)
  {oc_gi kV_gi dc_gi pm_gi ct_gi cl_gi cx_gi : Value}
  {od_gi an_gi dd_gi lx_gi : Option Addr}
  {sl_gi sc_gi sx_gi : Array (Option Value)}
  {vs_gi : Array Value}
  {x_gi : Str}
  {t_gi : Tok}
  (l_gi : K.lookup f_gi = some ⟨oc_gi, od_gi, .func (PySem.W.ksFn "__init__" "Give.__init__" (defArgs s_Give___init__) (defBody s_Give___init__) (defScope s_Give___init__) .none kV_gi dc_gi pm_gi an_gi (.ref co_gi) ct_gi ce_gi), sl_gi⟩)
  (c_gi : PySem.W.codeIn K (.ref co_gi) "Give.__init__" = true)
  (lc_gi : K.lookup co_gi = some ⟨cl_gi, dd_gi, .fields vs_gi, sc_gi⟩)
  (v2_gi : vs_gi[2]? = some (.str x_gi t_gi))
  (fl_gi : ((P.main.file : Str) == x_gi) = true)
  (lx_fact_gi : K.lookup ce_gi = some ⟨cx_gi, lx_gi, .cell (some (.ref Gv)), sx_gi⟩)
  (up_gi : PySem.W.ks_superIn K Gv Gv "__init__" = some (some (.ref f_st)))
  (s_Lv_Cm : PySem.W.subIn K (.ref Lv) (.ref Cm) = some false)
  (s_Lv_Gn : PySem.W.subIn K (.ref Lv) (.ref Gn) = some false)
  (s_Lv_Gt : PySem.W.subIn K (.ref Lv) (.ref Gt) = some false)
  (s_Lv_Gv : PySem.W.subIn K (.ref Lv) (.ref Gv) = some false)
  (s_Cm_Lv : PySem.W.subIn K (.ref Cm) (.ref Lv) = some false)
  (s_Cm_Gn : PySem.W.subIn K (.ref Cm) (.ref Gn) = some false)
  (s_Cm_Gt : PySem.W.subIn K (.ref Cm) (.ref Gt) = some false)
  (s_Cm_Gv : PySem.W.subIn K (.ref Cm) (.ref Gv) = some false)
  (s_Gn_Lv : PySem.W.subIn K (.ref Gn) (.ref Lv) = some false)
  (s_Gn_Cm : PySem.W.subIn K (.ref Gn) (.ref Cm) = some false)
  (s_Gn_Gt : PySem.W.subIn K (.ref Gn) (.ref Gt) = some false)
  (s_Gn_Gv : PySem.W.subIn K (.ref Gn) (.ref Gv) = some false)
  (s_Gt_Lv : PySem.W.subIn K (.ref Gt) (.ref Lv) = some false)
  (s_Gt_Cm : PySem.W.subIn K (.ref Gt) (.ref Cm) = some false)
  (s_Gt_Gn : PySem.W.subIn K (.ref Gt) (.ref Gn) = some false)
  (s_Gt_Gv : PySem.W.subIn K (.ref Gt) (.ref Gv) = some false)
  (s_Gv_Lv : PySem.W.subIn K (.ref Gv) (.ref Lv) = some false)
  (s_Gv_Cm : PySem.W.subIn K (.ref Gv) (.ref Cm) = some false)
  (s_Gv_Gn : PySem.W.subIn K (.ref Gv) (.ref Gn) = some false)
  (s_Gv_Gt : PySem.W.subIn K (.ref Gv) (.ref Gt) = some false)
  {t_M : Tok}
  (a_M : PySem.W.nsIn K mainGlobals "MOST_CELLS" = some (some (.int 5 t_M)))
  {t_MH : Tok}
  (a_MH : PySem.W.nsIn K mainGlobals "MOST_HAND" = some (some (.int 1000000000000000000000000000000 t_MH)))
  {ST : Addr}
  (a_ST : PySem.W.nsIn K mainGlobals "STANDINGS" = some (some (.ref ST)))
  {o_ST : Array Value}
  {z_ST : Nat}
  {s_ST : Array (Option Value)}
  (l_ST : K.lookup ST = some ⟨.type "tuple", none, .seq o_ST z_ST, s_ST⟩)
  (v_ST : Vals (stds) o_ST.toList)
  (w_ST : o_ST.size ≤ sizeLine)
  {RI : Addr}
  (a_RI : PySem.W.nsIn K mainGlobals "RIGHTS" = some (some (.ref RI)))
  {o_RI : Array Value}
  {z_RI : Nat}
  {s_RI : Array (Option Value)}
  (l_RI : K.lookup RI = some ⟨.type "tuple", none, .seq o_RI z_RI, s_RI⟩)
  (v_RI : Vals ([.str "awake", .str "needed"]) o_RI.toList)
  (w_RI : o_RI.size ≤ sizeLine)
  {LN : Addr}
  (a_LN : PySem.W.nsIn K mainGlobals "_LENGTHS" = some (some (.ref LN)))
  {es_LN : Array DictEntry}
  {n_LN : Nat}
  (l_LN : K.lookup LN = some ⟨.type "dict", none, .dict es_LN n_LN, #[]⟩)
  (v_LN : PySem.W.KeysLit w.params es_LN.toList)
  {tl0 : Tok}
  (a_l0 : PySem.W.nsIn K LN "goes" = some (some (.int 4 tl0)))
  {tl1 : Tok}
  (a_l1 : PySem.W.nsIn K LN "grant" = some (some (.int 3 tl1)))
  {tl2 : Tok}
  (a_l2 : PySem.W.nsIn K LN "gives" = some (some (.int 3 tl2)))
  (a_l3 : PySem.W.nsIn K LN "moves" = some none)
  (ns_LN : (LN == sysModules) = false) :
    ∃ fd : FuncData, (∀ (s : Shared) (u : Value), BindsTo s fd ⟨[u], []⟩ [("_law_script", u)]) ∧ ∀ base : Heap, K.In base → base.Ns mainGlobals mg → K7E.FnG P w K mg base CX0 11 fa fd ["_law_script"] (spLaw K) := by
  have e := hfa.symm.trans (PySem.W.mg_of X G a_la)
  cases e
  have F_sq := fun_mk (st := s_is_sequence) l_sq c_sq k_sq
  have b_sq := F_sq.binds (ps := ["thing"]) fun _ _ _ _ _ _ us hl => match us, hl with | [_], _ => rfl
  have g_sq := PySem.W.mg_of X G a_sq
  have F_isw := fun_mk (st := s_is_whole) l_isw c_isw k_isw
  have b_isw := F_isw.binds (ps := ["thing", "low", "high"]) fun _ _ _ _ _ _ us hl => match us, hl with | [_, _, _], _ => rfl
  have g_isw := PySem.W.mg_of X G a_isw
  have F_ac := fun_mk (st := s_are_cells) l_ac c_ac k_ac
  have b_ac := F_ac.binds (ps := ["many", "thing", "least"]) fun _ _ _ _ _ _ us hl => match us, hl with | [_, _, _], _ => rfl
  have g_ac := PySem.W.mg_of X G a_ac
  have F_a2 := fun_mk (st := s_are_two_cells) l_a2 c_a2 k_a2
  have b_a2 := F_a2.binds (ps := ["many", "thing"]) fun _ _ _ _ _ _ us hl => match us, hl with | [_, _], _ => rfl
  have g_a2 := PySem.W.mg_of X G a_a2
  have F_ic := fun_mk (st := s_is_cell) l_ic c_ic k_ic
  have b_ic := F_ic.binds (ps := ["land", "thing"]) fun _ _ _ _ _ _ us hl => match us, hl with | [_, _], _ => rfl
  have g_ic := PySem.W.mg_of X G a_ic
  have F_il := fun_mk (st := s_is_lot) l_il c_il k_il
  have b_il := F_il.binds (ps := ["land", "thing", "least"]) fun _ _ _ _ _ _ us hl => match us, hl with | [_, _, _], _ => rfl
  have g_il := PySem.W.mg_of X G a_il
  have F_ik := fun_mk (st := s_is_couple) l_ik c_ik k_ik
  have b_ik := F_ik.binds (ps := ["land", "thing"]) fun _ _ _ _ _ _ us hl => match us, hl with | [_, _], _ => rfl
  have g_ik := PySem.W.mg_of X G a_ik
  have F_ck := fun_mk (st := s_check_cells) l_ck c_ck k_ck
  have g_ck := PySem.W.mg_of X G a_ck
  have F_sp := fun_mk (st := s_spread) l_sp c_sp k_sp
  have b_sp := F_sp.binds (ps := ["nearby", "cell", "passing"]) fun _ _ _ _ _ _ us hl => match us, hl with | [_, _, _], _ => rfl
  have g_sp := PySem.W.mg_of X G a_sp
  have F_ny := fun_mk (st := s_nearby_cells) l_ny c_ny k_ny
  have b_ny := F_ny.binds (ps := ["cells", "couples"]) fun _ _ _ _ _ _ us hl => match us, hl with | [_, _], _ => rfl
  have g_ny := PySem.W.mg_of X G a_ny
  have F_ht := fun_mk (st := s_hang_together) l_ht c_ht k_ht
  have b_ht := F_ht.binds (ps := ["cells", "couples"]) fun _ _ _ _ _ _ us hl => match us, hl with | [_, _], _ => rfl
  have g_ht := PySem.W.mg_of X G a_ht
  have F_nb := fun_mk (st := s__are_neighbours) l_nb c_nb k_nb
  have b_nb := F_nb.binds (ps := ["cells", "thing"]) fun _ _ _ _ _ _ us hl => match us, hl with | [_, _], _ => rfl
  have g_nb := PySem.W.mg_of X G a_nb
  have F_ah := fun_mk (st := s__are_hands) l_ah c_ah k_ah
  have b_ah := F_ah.binds (ps := ["land", "thing"]) fun _ _ _ _ _ _ us hl => match us, hl with | [_, _], _ => rfl
  have g_ah := PySem.W.mg_of X G a_ah
  have F_ir := fun_mk (st := s_is_row) l_ir c_ir k_ir
  have b_ir := F_ir.binds (ps := ["land", "a", "thing"]) fun _ _ _ _ _ _ us hl => match us, hl with | [_, _, _], _ => rfl
  have g_ir := PySem.W.mg_of X G a_ir
  have F_as_ := fun_mk (st := s__are_standings) l_as_ c_as_ k_as_
  have b_as_ := F_as_.binds (ps := ["land", "thing"]) fun _ _ _ _ _ _ us hl => match us, hl with | [_, _], _ => rfl
  have g_as_ := PySem.W.mg_of X G a_as_
  have F_cpl := fun_mk (st := s__check_places) l_cpl c_cpl k_cpl
  have b_cpl := F_cpl.binds (ps := ["land", "hands", "standings"]) fun _ _ _ _ _ _ us hl => match us, hl with | [_, _, _], _ => rfl
  have g_cpl := PySem.W.mg_of X G a_cpl
  have F_hf := fun_mk (st := s__has_form) l_hf c_hf k_hf
  have b_hf := F_hf.binds (ps := ["thing"]) fun _ _ _ _ _ _ us hl => match us, hl with | [_], _ => rfl
  have g_hf := PySem.W.mg_of X G a_hf
  have F_atd := fun_mk (st := s_are_told) l_atd c_atd k_atd
  have b_atd := F_atd.binds (ps := ["land", "thing"]) fun _ _ _ _ _ _ us hl => match us, hl with | [_, _], _ => rfl
  have g_atd := PySem.W.mg_of X G a_atd
  have F_sf := fun_mk (st := s_shape_fault) l_sf c_sf k_sf
  have b_sf := F_sf.binds (ps := ["land", "deed"]) fun _ _ _ _ _ _ us hl => match us, hl with | [_, _], _ => rfl
  have g_sf := PySem.W.mg_of X G a_sf
  have F_mv := fun_mk (st := s__moving) l_mv c_mv k_mv
  have b_mv := F_mv.binds (ps := ["state", "deed"]) fun _ _ _ _ _ _ us hl => match us, hl with | [_, _], _ => rfl
  have g_mv := PySem.W.mg_of X G a_mv
  have F_hb := fun_mk (st := s_hands_behind) l_hb c_hb k_hb
  have b_hb := F_hb.binds (ps := ["state", "deed"]) fun _ _ _ _ _ _ us hl => match us, hl with | [_, _], _ => rfl
  have g_hb := PySem.W.mg_of X G a_hb
  have F_ho := fun_mk (st := s__hands_of) l_ho c_ho k_ho
  have b_ho := F_ho.binds (ps := ["state", "cells"]) fun _ _ _ _ _ _ us hl => match us, hl with | [_, _], _ => rfl
  have g_ho := PySem.W.mg_of X G a_ho
  have F_df := fun_mk (st := s_deed_fault) l_df c_df k_df
  have b_df := F_df.binds (ps := ["state", "deed"]) fun _ _ _ _ _ _ us hl => match us, hl with | [_, _], _ => rfl
  have g_df := PySem.W.mg_of X G a_df
  have F_cd := fun_mk (st := s_check_deed) l_cd c_cd k_cd
  have b_cd := F_cd.binds (ps := ["state", "deed"]) fun _ _ _ _ _ _ us hl => match us, hl with | [_, _], _ => rfl
  have g_cd := PySem.W.mg_of X G a_cd
  have F_cl := fun_mk (st := s__check_lots) l_cl c_cl k_cl
  have b_cl := F_cl.binds (ps := ["kind", "cells", "others"]) fun _ _ _ _ _ _ us hl => match us, hl with | [_, _, _], _ => rfl
  have g_cl := PySem.W.mg_of X G a_cl
  have F_ms := fun_mk (st := s__moving_step) l_ms c_ms k_ms
  have b_ms := F_ms.binds (ps := ["state", "cell", "deed"]) fun _ _ _ _ _ _ us hl => match us, hl with | [_, _, _], _ => rfl
  have g_ms := PySem.W.mg_of X G a_ms
  have F_so := fun_mk (st := s_step_of) l_so c_so k_so
  have b_so := F_so.binds (ps := ["state", "cell", "deed"]) fun _ _ _ _ _ _ us hl => match us, hl with | [_, _, _], _ => rfl
  have g_so := PySem.W.mg_of X G a_so
  have F_mi := fun_mk (st := s__law_mix) l_mi c_mi k_mi
  have b_mi := F_mi.binds (ps := ["_law_number", "_law_turn"]) fun _ _ _ _ _ _ us hl => match us, hl with | [_, _], _ => rfl
  have g_mi := PySem.W.mg_of X G a_mi
  have F_ha := fun_mk (st := s__law_hand) l_ha c_ha k_ha
  have b_ha := F_ha.binds (ps := ["_law_script"]) fun _ _ _ _ _ _ us hl => match us, hl with | [_], _ => rfl
  have g_ha := PySem.W.mg_of X G a_ha
  have F_dr := fun_mk (st := s__law_draw) l_dr c_dr k_dr
  have b_dr := F_dr.binds (ps := ["_law_hand_here", "_law_many"]) fun _ _ _ _ _ _ us hl => match us, hl with | [_, _], _ => rfl
  have g_dr := PySem.W.mg_of X G a_dr
  have F_pk := fun_mk (st := s__law_pick) l_pk c_pk k_pk
  have b_pk := F_pk.binds (ps := ["_law_hand_here", "_law_things"]) fun _ _ _ _ _ _ us hl => match us, hl with | [_, _], _ => rfl
  have g_pk := PySem.W.mg_of X G a_pk
  have F_lo := fun_mk (st := s__law_lots) l_lo c_lo k_lo
  have b_lo := F_lo.binds (ps := ["_law_cells"]) fun _ _ _ _ _ _ us hl => match us, hl with | [_], _ => rfl
  have g_lo := PySem.W.mg_of X G a_lo
  have F_ld := fun_mk (st := s__law_land) l_ld c_ld k_ld
  have b_ld := F_ld.binds (ps := ["_law_hand_here", "_law_n"]) fun _ _ _ _ _ _ us hl => match us, hl with | [_, _], _ => rfl
  have g_ld := PySem.W.mg_of X G a_ld
  have F_tu := fun_mk (st := s__law_turned) l_tu c_tu k_tu
  have b_tu := F_tu.binds (ps := ["_law_hand_here", "_law_things"]) fun _ _ _ _ _ _ us hl => match us, hl with | [_, _], _ => rfl
  have g_tu := PySem.W.mg_of X G a_tu
  have F_sm := fun_mk (st := s__law_some) l_sm c_sm k_sm
  have b_sm := F_sm.binds (ps := ["_law_hand_here", "_law_cells"]) fun _ _ _ _ _ _ us hl => match us, hl with | [_, _], _ => rfl
  have g_sm := PySem.W.mg_of X G a_sm
  have F_pa := fun_mk (st := s__law_parting) l_pa c_pa k_pa
  have b_pa := F_pa.binds (ps := ["_law_hands"]) fun _ _ _ _ _ _ us hl => match us, hl with | [_], _ => rfl
  have g_pa := PySem.W.mg_of X G a_pa
  have F_ls := fun_mk (st := s__law_state) l_ls c_ls k_ls
  have b_ls := F_ls.binds (ps := ["_law_hand_here", "_law_n"]) fun _ _ _ _ _ _ us hl => match us, hl with | [_, _], _ => rfl
  have g_ls := PySem.W.mg_of X G a_ls
  have F_sd := fun_mk (st := s__law_said) l_sd c_sd k_sd
  have b_sd := F_sd.binds (ps := ["_law_hand_here", "_law_hands", "_law_word"]) fun _ _ _ _ _ _ us hl => match us, hl with | [_, _, _], _ => rfl
  have g_sd := PySem.W.mg_of X G a_sd
  have F_go := fun_mk (st := s__law_goes) l_go c_go k_go
  have b_go := F_go.binds (ps := ["_law_hand_here", "_law_hands", "_law_names"]) fun _ _ _ _ _ _ us hl => match us, hl with | [_, _, _], _ => rfl
  have g_go := PySem.W.mg_of X G a_go
  have F_de := fun_mk (st := s__law_deed) l_de c_de k_de
  have b_de := F_de.binds (ps := ["_law_hand_here", "_law_hands", "_law_names"]) fun _ _ _ _ _ _ us hl => match us, hl with | [_, _, _], _ => rfl
  have g_de := PySem.W.mg_of X G a_de
  have F_du := fun_mk (st := s__law_due) l_du c_du k_du
  have b_du := F_du.binds (ps := ["_law_hands", "_law_cell", "_law_deed_here"]) fun _ _ _ _ _ _ us hl => match us, hl with | [_, _, _], _ => rfl
  have g_du := PySem.W.mg_of X G a_du
  have F_li := fun_mk (st := s__law_is) l_li c_li k_li
  have b_li := F_li.binds (ps := ["_law_told", "_law_due_here"]) fun _ _ _ _ _ _ us hl => match us, hl with | [_, _], _ => rfl
  have g_li := PySem.W.mg_of X G a_li
  have F_ow := fun_mk (st := s__law_other_rows) l_ow c_ow k_ow
  have b_ow := F_ow.binds (ps := ["_law_hands", "_law_rows"]) fun _ _ _ _ _ _ us hl => match us, hl with | [_, _], _ => rfl
  have g_ow := PySem.W.mg_of X G a_ow
  have F_wr := fun_mk (st := s__law_wrong) l_wr c_wr k_wr
  have b_wr := F_wr.binds (ps := ["_law_hand_here", "_law_hands", "_law_deed_here"]) fun _ _ _ _ _ _ us hl => match us, hl with | [_, _, _], _ => rfl
  have g_wr := PySem.W.mg_of X G a_wr
  have F_rf := fun_mk (st := s__law_refused) l_rf c_rf k_rf
  have b_rf := F_rf.binds (ps := ["_law_state_here", "_law_cell", "_law_deed_here"]) fun _ _ _ _ _ _ us hl => match us, hl with | [_, _, _], _ => rfl
  have g_rf := PySem.W.mg_of X G a_rf
  have F_la := fun_mk (st := s_law) l_la c_la k_la
  have b_la := F_la.binds (ps := ["_law_script"]) fun _ _ _ _ _ _ us hl => match us, hl with | [_], _ => rfl
  have g_la := PySem.W.mg_of X G a_la
  have gcL := PySem.W.mg_of X G aL
  have F_cI := fun_mk (st := s_Land___init__) l_cI c_cI k_cI
  have b_cI := F_cI.binds (ps := ["self", "cells", "neighbours", "roads"]) fun _ _ _ _ _ _ us hl => match us, hl with | [_, _, _, _], _ => rfl
  have M_LC : Mk K LC f_cI := ⟨mkLC, a_cI, i_cI, kcLC⟩
  have F_cp := fun_mk (st := s_Land_couples) l_cp c_cp k_cp
  have b_cp := F_cp.binds (ps := ["self"]) fun _ _ _ _ _ _ us hl => match us, hl with | [_], _ => rfl
  have p_cp : PropOf K LC "couples" pr_cp f_cp := ⟨a_cp, gp_cp, tp_cp, _, rp_cp⟩
  have clsLC : Cls K LC := ⟨pgLC, hdLC, poLC, saLC⟩
  have gcLC := PySem.W.mg_of X G aLC
  have F_sI := fun_mk (st := s_State___init__) l_sI c_sI k_sI
  have b_sI := F_sI.binds (ps := ["self", "land", "hands", "standings"]) fun _ _ _ _ _ _ us hl => match us, hl with | [_, _, _, _], _ => rfl
  have M_SC : Mk K SC f_sI := ⟨mkSC, a_sI, i_sI, kcSC⟩
  have F_oc := fun_mk (st := s_State_own_cells) l_oc c_oc k_oc
  have b_oc := F_oc.binds (ps := ["self", "a"]) fun _ _ _ _ _ _ us hl => match us, hl with | [_, _], _ => rfl
  have m_oc : Meth K SC "own_cells" f_oc := ⟨a_oc, i_oc, k_oc⟩
  have clsSC : Cls K SC := ⟨pgSC, hdSC, poSC, saSC⟩
  have gcSC := PySem.W.mg_of X G aSC
  have F_iB := fun_mk (st := s_BadCell___init__) l_iB c_iB k_iB
  have b_iB := F_iB.binds (ps := ["self", "cell"]) fun _ _ _ _ _ _ us hl => match us, hl with | [_, _], _ => rfl
  have oxB : OexC K B := ⟨⟨_, _, _, _, _, _, _, _, _, _, _, _, _, _, _, xB, rB⟩, saB, exB, tyB, kpB⟩
  have gcB := PySem.W.mg_of X G aB
  have emB : PySem.W.exmOne K (.ref B) (.ref B) = some true := PySem.W.exm_ref exB hdB tyB ssB
  have F_iBD := fun_mk (st := s_BadDeed___init__) l_iBD c_iBD k_iBD
  have b_iBD := F_iBD.binds (ps := ["self", "what"]) fun _ _ _ _ _ _ us hl => match us, hl with | [_, _], _ => rfl
  have oxBD : OexC K BD := ⟨⟨_, _, _, _, _, _, _, _, _, _, _, _, _, _, _, xBD, rBD⟩, saBD, exBD, tyBD, kpBD⟩
  have gcBD := PySem.W.mg_of X G aBD
  have emBD : PySem.W.exmOne K (.ref BD) (.ref BD) = some true := PySem.W.exm_ref exBD hdBD tyBD ssBD
  have F_st : FunD K "__init__" "Step.__init__" (defArgs s_Step___init__) (defBody s_Step___init__) (defScope s_Step___init__) [.ref e_st] [] f_st _ := ⟨⟨_, _, _, _, _, _, _, _, _, _, rfl, l_st, c_st, .inr ⟨(by intro h; cases h), dt_st, _, it_st.toList, iz_st, rfl, ld_st, by rw [Array.toArray_toList], vd_st⟩, .inl rfl⟩, k_st⟩
  obtain ⟨ds1_st, v1_st, b1_st⟩ := F_st.binds1 (ps := ["self", "kind", "cells", "others"]) 3 0 (by intro h; cases h) rfl fun _ _ _ _ _ _ _ us its hu hi => match us, its, hu, hi with | [_, _, _], [_], _, _ => ⟨_, rfl, rfl⟩
  obtain ⟨ds_st, v_st, b_st⟩ := F_st.binds1 (ps := ["self", "kind", "cells", "others"]) 4 1 (by intro h; cases h) rfl fun _ _ _ _ _ _ _ us its hu hi => match us, its, hu, hi with | [_, _, _, _], [_], _, _ => ⟨_, rfl, rfl⟩
  cases v_st
  have E_st : EmpT K e_st := ⟨_, _, l_e_st, rfl, rfl, rfl⟩
  have m_isinstance := PySem.W.mg_none_of X G z_isinstance
  have m_int := PySem.W.mg_none_of X G z_int
  have m_bool := PySem.W.mg_none_of X G z_bool
  have m_str := PySem.W.mg_none_of X G z_str
  have m_tuple := PySem.W.mg_none_of X G z_tuple
  have m_list := PySem.W.mg_none_of X G z_list
  have m_enumerate := PySem.W.mg_none_of X G z_enumerate
  have m_len := PySem.W.mg_none_of X G z_len
  have m_abs := PySem.W.mg_none_of X G z_abs
  have m_range := PySem.W.mg_none_of X G z_range
  have m_min := PySem.W.mg_none_of X G z_min
  have m_max := PySem.W.mg_none_of X G z_max
  have m_sorted := PySem.W.mg_none_of X G z_sorted
  have m_set := PySem.W.mg_none_of X G z_set
  have m_all := PySem.W.mg_none_of X G z_all
  have m_repr := PySem.W.mg_none_of X G z_repr
  have m_super := PySem.W.mg_none_of X G z_super
  have self : ∀ c : Addr, PySem.W.kitOne K (.ref c) (.ref c) = some true := fun c => by simp [PySem.W.kitOne]
  have kcls : ∀ t : Value, ∀ c : Addr, PySem.W.isClsIn K c = true → PySem.W.typeIn K (.ref c) = some (.type "type") → PySem.W.kitCls K t (.ref c) = PySem.W.subIn K t (.ref c) := fun t c i y => by
    have e1 : ((PySem.W.clsIn K c).isSome && PySem.W.typeIn K (.ref c) == some (.type "type")) = true := by rw [show (PySem.W.clsIn K c).isSome = true from i, y] <;> rfl
    show (if ((PySem.W.clsIn K c).isSome && PySem.W.typeIn K (.ref c) == some (.type "type")) = true then PySem.W.subIn K t (.ref c) else none) = _
    rw [if_pos e1]
  have kT : ∀ t c : Addr, PySem.W.isClsIn K c = true → PySem.W.typeIn K (.ref c) = some (.type "type") → PySem.W.subIn K (.ref t) (.ref c) = some true → PySem.W.kitOne K (.ref t) (.ref c) = some true := fun t c i y s => by
    unfold PySem.W.kitOne
    rw [kcls _ c i y, s]
    split <;> rfl
  have kF : ∀ t c : Addr, PySem.W.isClsIn K c = true → PySem.W.typeIn K (.ref c) = some (.type "type") → PySem.W.subIn K (.ref t) (.ref c) = some false → PySem.W.subIn K (.ref t) (.ref t) = some true → PySem.W.kitOne K (.ref t) (.ref c) = some false := fun t c i y s ss => by
    have hn : ¬ ((Value.ref t == Value.ref c) = true) := fun e => by
      have e' : t = c := by simpa using e
      subst e'
      rw [ss] at s
      cases s
    unfold PySem.W.kitOne
    rw [if_neg hn, kcls _ c i y, s]
  have kTy : ∀ t : String, ∀ c : Addr, PySem.W.isClsIn K c = true → PySem.W.typeIn K (.ref c) = some (.type "type") → PySem.W.subIn K (.type t) (.ref c) = some false → PySem.W.kitOne K (.type t) (.ref c) = some false := fun t c i y s => by
    have e1 : ((PySem.W.clsIn K c).isSome && PySem.W.typeIn K (.ref c) == some (.type "type")) = true := by rw [show (PySem.W.clsIn K c).isSome = true from i, y] <;> rfl
    show (if ((PySem.W.clsIn K c).isSome && PySem.W.typeIn K (.ref c) == some (.type "type")) = true then PySem.W.subIn K (.type t) (.ref c) else none) = some false
    rw [if_pos e1]
    exact s
  have clsLv : Cls K Lv := ⟨pgLv, hdLv, poLv, saLv⟩
  have gcLv := PySem.W.mg_of X G aLv
  have b_le : Binds K (PySem.W.ksFn "__init__" "Leave.__init__" (defArgs s_Leave___init__) (defBody s_Leave___init__) (defScope s_Leave___init__) (.ref dt_le) kV_le dc_le pm_le an_le (.ref co_le) ct_le ce_le) ["self", "cells", "untold"] [] := ks_binds ld_le rfl vd_le fun us ws h1 h2 => match us, ws, h1, h2 with | [_, _, _], [_], _, _ => ⟨_, rfl, rfl⟩
  have D_le : K7Z.SubD P K "__init__" "Leave.__init__" (defArgs s_Leave___init__) (defBody s_Leave___init__) (defScope s_Leave___init__) [.ref e_le] f_le (PySem.W.ksFn "__init__" "Leave.__init__" (defArgs s_Leave___init__) (defBody s_Leave___init__) (defScope s_Leave___init__) (.ref dt_le) kV_le dc_le pm_le an_le (.ref co_le) ct_le ce_le) Lv co_le ce_le := ⟨⟨_, _, _, _, _, _, _, _, _, rfl, l_le, .inr ⟨(by intro h; cases h), dt_le, _, it_le.toList, iz_le, rfl, ld_le, by rw [Array.toArray_toList], vd_le⟩⟩, c_le, ⟨_, _, _, _, _, _, lc_le, v2_le, fl_le⟩, ⟨_, _, _, lx_fact_le⟩⟩
  have C_le : K7Z.SubC P K mg Lv f_st := ⟨Option.isSome_iff_exists.mp (show (PySem.W.clsIn K Lv).isSome = true from icLv), mrLv, up_le, ty_st, fi_st, anyS, m_super, topS_⟩
  have M_Lv : Mk K Lv f_le := ⟨mkLv, a_le, i_le, kcLv⟩
  have nA_Lv : ∀ f ∈ pfields, NoAttr K Lv f := fun f hf => by
        simp only [pfields, List.mem_cons, List.not_mem_nil, or_false] at hf
        rcases hf with rfl | rfl | rfl
        · exact n_Lv_kind
        · exact n_Lv_cells
        · exact n_Lv_others
  have clsCm : Cls K Cm := ⟨pgCm, hdCm, poCm, saCm⟩
  have gcCm := PySem.W.mg_of X G aCm
  have b_co : Binds K (PySem.W.ksFn "__init__" "Come.__init__" (defArgs s_Come___init__) (defBody s_Come___init__) (defScope s_Come___init__) .none kV_co dc_co pm_co an_co (.ref co_co) ct_co ce_co) ["self", "cells"] [] := .all fun us hl => match us, hl with | [_, _], _ => rfl
  have D_co : K7Z.SubD P K "__init__" "Come.__init__" (defArgs s_Come___init__) (defBody s_Come___init__) (defScope s_Come___init__) [] f_co (PySem.W.ksFn "__init__" "Come.__init__" (defArgs s_Come___init__) (defBody s_Come___init__) (defScope s_Come___init__) .none kV_co dc_co pm_co an_co (.ref co_co) ct_co ce_co) Cm co_co ce_co := ⟨⟨_, _, _, _, _, _, _, _, _, rfl, l_co, .inl ⟨rfl, rfl⟩⟩, c_co, ⟨_, _, _, _, _, _, lc_co, v2_co, fl_co⟩, ⟨_, _, _, lx_fact_co⟩⟩
  have C_co : K7Z.SubC P K mg Cm f_st := ⟨Option.isSome_iff_exists.mp (show (PySem.W.clsIn K Cm).isSome = true from icCm), mrCm, up_co, ty_st, fi_st, anyS, m_super, topS_⟩
  have M_Cm : Mk K Cm f_co := ⟨mkCm, a_co, i_co, kcCm⟩
  have nA_Cm : ∀ f ∈ pfields, NoAttr K Cm f := fun f hf => by
        simp only [pfields, List.mem_cons, List.not_mem_nil, or_false] at hf
        rcases hf with rfl | rfl | rfl
        · exact n_Cm_kind
        · exact n_Cm_cells
        · exact n_Cm_others
  have clsGn : Cls K Gn := ⟨pgGn, hdGn, poGn, saGn⟩
  have gcGn := PySem.W.mg_of X G aGn
  have b_gn : Binds K (PySem.W.ksFn "__init__" "Go.__init__" (defArgs s_Go___init__) (defBody s_Go___init__) (defScope s_Go___init__) (.ref dt_gn) kV_gn dc_gn pm_gn an_gn (.ref co_gn) ct_gn ce_gn) ["self", "cells", "held"] [] := ks_binds ld_gn rfl vd_gn fun us ws h1 h2 => match us, ws, h1, h2 with | [_, _, _], [_], _, _ => ⟨_, rfl, rfl⟩
  have D_gn : K7Z.SubD P K "__init__" "Go.__init__" (defArgs s_Go___init__) (defBody s_Go___init__) (defScope s_Go___init__) [.ref e_gn] f_gn (PySem.W.ksFn "__init__" "Go.__init__" (defArgs s_Go___init__) (defBody s_Go___init__) (defScope s_Go___init__) (.ref dt_gn) kV_gn dc_gn pm_gn an_gn (.ref co_gn) ct_gn ce_gn) Gn co_gn ce_gn := ⟨⟨_, _, _, _, _, _, _, _, _, rfl, l_gn, .inr ⟨(by intro h; cases h), dt_gn, _, it_gn.toList, iz_gn, rfl, ld_gn, by rw [Array.toArray_toList], vd_gn⟩⟩, c_gn, ⟨_, _, _, _, _, _, lc_gn, v2_gn, fl_gn⟩, ⟨_, _, _, lx_fact_gn⟩⟩
  have C_gn : K7Z.SubC P K mg Gn f_st := ⟨Option.isSome_iff_exists.mp (show (PySem.W.clsIn K Gn).isSome = true from icGn), mrGn, up_gn, ty_st, fi_st, anyS, m_super, topS_⟩
  have M_Gn : Mk K Gn f_gn := ⟨mkGn, a_gn, i_gn, kcGn⟩
  have nA_Gn : ∀ f ∈ pfields, NoAttr K Gn f := fun f hf => by
        simp only [pfields, List.mem_cons, List.not_mem_nil, or_false] at hf
        rcases hf with rfl | rfl | rfl
        · exact n_Gn_kind
        · exact n_Gn_cells
        · exact n_Gn_others
  have clsGt : Cls K Gt := ⟨pgGt, hdGt, poGt, saGt⟩
  have gcGt := PySem.W.mg_of X G aGt
  have b_gr : Binds K (PySem.W.ksFn "__init__" "Grant.__init__" (defArgs s_Grant___init__) (defBody s_Grant___init__) (defScope s_Grant___init__) .none kV_gr dc_gr pm_gr an_gr (.ref co_gr) ct_gr ce_gr) ["self", "cells"] [] := .all fun us hl => match us, hl with | [_, _], _ => rfl
  have D_gr : K7Z.SubD P K "__init__" "Grant.__init__" (defArgs s_Grant___init__) (defBody s_Grant___init__) (defScope s_Grant___init__) [] f_gr (PySem.W.ksFn "__init__" "Grant.__init__" (defArgs s_Grant___init__) (defBody s_Grant___init__) (defScope s_Grant___init__) .none kV_gr dc_gr pm_gr an_gr (.ref co_gr) ct_gr ce_gr) Gt co_gr ce_gr := ⟨⟨_, _, _, _, _, _, _, _, _, rfl, l_gr, .inl ⟨rfl, rfl⟩⟩, c_gr, ⟨_, _, _, _, _, _, lc_gr, v2_gr, fl_gr⟩, ⟨_, _, _, lx_fact_gr⟩⟩
  have C_gr : K7Z.SubC P K mg Gt f_st := ⟨Option.isSome_iff_exists.mp (show (PySem.W.clsIn K Gt).isSome = true from icGt), mrGt, up_gr, ty_st, fi_st, anyS, m_super, topS_⟩
  have M_Gt : Mk K Gt f_gr := ⟨mkGt, a_gr, i_gr, kcGt⟩
  have nA_Gt : ∀ f ∈ pfields, NoAttr K Gt f := fun f hf => by
        simp only [pfields, List.mem_cons, List.not_mem_nil, or_false] at hf
        rcases hf with rfl | rfl | rfl
        · exact n_Gt_kind
        · exact n_Gt_cells
        · exact n_Gt_others
  have clsGv : Cls K Gv := ⟨pgGv, hdGv, poGv, saGv⟩
  have gcGv := PySem.W.mg_of X G aGv
  have b_gi : Binds K (PySem.W.ksFn "__init__" "Give.__init__" (defArgs s_Give___init__) (defBody s_Give___init__) (defScope s_Give___init__) .none kV_gi dc_gi pm_gi an_gi (.ref co_gi) ct_gi ce_gi) ["self", "cells"] [] := .all fun us hl => match us, hl with | [_, _], _ => rfl
  have D_gi : K7Z.SubD P K "__init__" "Give.__init__" (defArgs s_Give___init__) (defBody s_Give___init__) (defScope s_Give___init__) [] f_gi (PySem.W.ksFn "__init__" "Give.__init__" (defArgs s_Give___init__) (defBody s_Give___init__) (defScope s_Give___init__) .none kV_gi dc_gi pm_gi an_gi (.ref co_gi) ct_gi ce_gi) Gv co_gi ce_gi := ⟨⟨_, _, _, _, _, _, _, _, _, rfl, l_gi, .inl ⟨rfl, rfl⟩⟩, c_gi, ⟨_, _, _, _, _, _, lc_gi, v2_gi, fl_gi⟩, ⟨_, _, _, lx_fact_gi⟩⟩
  have C_gi : K7Z.SubC P K mg Gv f_st := ⟨Option.isSome_iff_exists.mp (show (PySem.W.clsIn K Gv).isSome = true from icGv), mrGv, up_gi, ty_st, fi_st, anyS, m_super, topS_⟩
  have M_Gv : Mk K Gv f_gi := ⟨mkGv, a_gi, i_gi, kcGv⟩
  have nA_Gv : ∀ f ∈ pfields, NoAttr K Gv f := fun f hf => by
        simp only [pfields, List.mem_cons, List.not_mem_nil, or_false] at hf
        rcases hf with rfl | rfl | rfl
        · exact n_Gv_kind
        · exact n_Gv_cells
        · exact n_Gv_others
  have g_M := PySem.W.mg_of X G a_M
  have g_MH := PySem.W.mg_of X G a_MH
  have g_ST := PySem.W.mg_of X G a_ST
  have g_RI := PySem.W.mg_of X G a_RI
  have g_LN := PySem.W.mg_of X G a_LN
  have TL : Tl K mg ⟨LC, B, f_iB⟩ :=
    { gC := gcLC, cl := clsLC, gB := gcB, oxB := oxB, iCB := a_iB, tIB := t_iB, nB := noB, nA := fun f hf => by
        simp only [lfields, List.mem_cons, List.not_mem_nil, or_false] at hf
        rcases hf with rfl | rfl | rfl | rfl | rfl
        · exact n_LC_cells
        · exact n_LC_neighbours
        · exact n_LC_roads
        · exact n_LC_nearby
        · exact n_LC__couples }
  have T2 : Tk K LC f_eq := ⟨haLC, hnO, htO, hmLC, self LC, a_eq, i_eq, neLC⟩
  have nSC : ∀ f ∈ sfields, NoAttr K SC f := fun f hf => by
        simp only [sfields, List.mem_cons, List.not_mem_nil, or_false] at hf
        rcases hf with rfl | rfl | rfl
        · exact n_SC_land
        · exact n_SC_hands
        · exact n_SC_standings
  have T5 : T5s K mg ST RI t_MH :=
    { gST := g_ST, gRI := g_RI, gH := (by rw [show (10 : Int) ^ 30 = 1000000000000000000000000000000 from by decide]; exact g_MH), sST := fun _ => .inr ⟨_, o_ST, z_ST, l_ST, rfl, rfl, w_ST, v_ST⟩, sRI := fun _ => .inr ⟨_, o_RI, z_RI, l_RI, rfl, rfl, w_RI, v_RI⟩ }
  have TD : Td K w mg LN := ⟨g_LN, ns_LN, ⟨_, _, l_LN⟩, ⟨_, _, _, l_LN, v_LN, a_l0, ⟨_, rfl⟩⟩, ⟨_, _, _, l_LN, v_LN, a_l1, ⟨_, rfl⟩⟩, ⟨_, _, _, l_LN, v_LN, a_l2, ⟨_, rfl⟩⟩, ⟨_, _, l_LN, v_LN, ns_LN, a_l3⟩⟩
  have TB : Tb K mg BD f_iBD := ⟨gcBD, oxBD, a_iBD, t_iBD, noBD⟩
  have T3 : Te K mg B BD L := ⟨gcL, ⟨hgB, hkB, exB, hdB, haB, hnO, htO, hmB⟩, ⟨hgBD, hkBD, exBD, hdBD, haBD, hnO, htO, hmBD⟩, ⟨hgB, hkB, exB, hdB⟩, ⟨hgBD, hkBD, exBD, hdBD⟩, emB, emBD, PySem.W.exm_ref exB hdB tyB sDB, kT B L icL tL suB, kT BD L icL tL suBD⟩
  have T6 : T5k K mg (⟨Lv, Cm, Gn, Gt, Gv⟩ : StA) := by
    refine { gLeave := gcLv, gCome := gcCm, gGo := gcGn, gGrant := gcGt, gGive := gcGv, cl := ?_, nA := ?_, ha := ?_, hn := hnO, ht := htO, hm := ?_, ki := ?_ }
    · exact fun z hz => by
        simp only [kinds, List.mem_cons, List.not_mem_nil, or_false] at hz
        rcases hz with rfl | rfl | rfl | rfl | rfl
        · rw [StA.atLe]; exact clsLv
        · rw [StA.atCo]; exact clsCm
        · rw [StA.atGo]; exact clsGn
        · rw [StA.atGr]; exact clsGt
        · rw [StA.atGi]; exact clsGv
    · exact fun z hz => by
        simp only [kinds, List.mem_cons, List.not_mem_nil, or_false] at hz
        rcases hz with rfl | rfl | rfl | rfl | rfl
        · rw [StA.atLe]; exact nA_Lv
        · rw [StA.atCo]; exact nA_Cm
        · rw [StA.atGo]; exact nA_Gn
        · rw [StA.atGr]; exact nA_Gt
        · rw [StA.atGi]; exact nA_Gv
    · exact fun z hz => by
        simp only [kinds, List.mem_cons, List.not_mem_nil, or_false] at hz
        rcases hz with rfl | rfl | rfl | rfl | rfl
        · rw [StA.atLe]; exact haLv
        · rw [StA.atCo]; exact haCm
        · rw [StA.atGo]; exact haGn
        · rw [StA.atGr]; exact haGt
        · rw [StA.atGi]; exact haGv
    · exact fun z hz => by
        simp only [kinds, List.mem_cons, List.not_mem_nil, or_false] at hz
        rcases hz with rfl | rfl | rfl | rfl | rfl
        · rw [StA.atLe]; exact hmLv
        · rw [StA.atCo]; exact hmCm
        · rw [StA.atGo]; exact hmGn
        · rw [StA.atGr]; exact hmGt
        · rw [StA.atGi]; exact hmGv
    · exact fun z hz y hy => by
        simp only [kinds, List.mem_cons, List.not_mem_nil, or_false] at hz hy
        rcases hz with rfl | rfl | rfl | rfl | rfl <;> rcases hy with rfl | rfl | rfl | rfl | rfl
        · rw [StA.atLe, show decide (("leave" : Str) = "leave") = true by decide +kernel]; exact self _
        · rw [StA.atLe, StA.atCo, show decide (("leave" : Str) = "come") = false by decide +kernel]; exact kF Lv Cm icCm tyCm s_Lv_Cm ssLv
        · rw [StA.atLe, StA.atGo, show decide (("leave" : Str) = "go") = false by decide +kernel]; exact kF Lv Gn icGn tyGn s_Lv_Gn ssLv
        · rw [StA.atLe, StA.atGr, show decide (("leave" : Str) = "grant") = false by decide +kernel]; exact kF Lv Gt icGt tyGt s_Lv_Gt ssLv
        · rw [StA.atLe, StA.atGi, show decide (("leave" : Str) = "give") = false by decide +kernel]; exact kF Lv Gv icGv tyGv s_Lv_Gv ssLv
        · rw [StA.atCo, StA.atLe, show decide (("come" : Str) = "leave") = false by decide +kernel]; exact kF Cm Lv icLv tyLv s_Cm_Lv ssCm
        · rw [StA.atCo, show decide (("come" : Str) = "come") = true by decide +kernel]; exact self _
        · rw [StA.atCo, StA.atGo, show decide (("come" : Str) = "go") = false by decide +kernel]; exact kF Cm Gn icGn tyGn s_Cm_Gn ssCm
        · rw [StA.atCo, StA.atGr, show decide (("come" : Str) = "grant") = false by decide +kernel]; exact kF Cm Gt icGt tyGt s_Cm_Gt ssCm
        · rw [StA.atCo, StA.atGi, show decide (("come" : Str) = "give") = false by decide +kernel]; exact kF Cm Gv icGv tyGv s_Cm_Gv ssCm
        · rw [StA.atGo, StA.atLe, show decide (("go" : Str) = "leave") = false by decide +kernel]; exact kF Gn Lv icLv tyLv s_Gn_Lv ssGn
        · rw [StA.atGo, StA.atCo, show decide (("go" : Str) = "come") = false by decide +kernel]; exact kF Gn Cm icCm tyCm s_Gn_Cm ssGn
        · rw [StA.atGo, show decide (("go" : Str) = "go") = true by decide +kernel]; exact self _
        · rw [StA.atGo, StA.atGr, show decide (("go" : Str) = "grant") = false by decide +kernel]; exact kF Gn Gt icGt tyGt s_Gn_Gt ssGn
        · rw [StA.atGo, StA.atGi, show decide (("go" : Str) = "give") = false by decide +kernel]; exact kF Gn Gv icGv tyGv s_Gn_Gv ssGn
        · rw [StA.atGr, StA.atLe, show decide (("grant" : Str) = "leave") = false by decide +kernel]; exact kF Gt Lv icLv tyLv s_Gt_Lv ssGt
        · rw [StA.atGr, StA.atCo, show decide (("grant" : Str) = "come") = false by decide +kernel]; exact kF Gt Cm icCm tyCm s_Gt_Cm ssGt
        · rw [StA.atGr, StA.atGo, show decide (("grant" : Str) = "go") = false by decide +kernel]; exact kF Gt Gn icGn tyGn s_Gt_Gn ssGt
        · rw [StA.atGr, show decide (("grant" : Str) = "grant") = true by decide +kernel]; exact self _
        · rw [StA.atGr, StA.atGi, show decide (("grant" : Str) = "give") = false by decide +kernel]; exact kF Gt Gv icGv tyGv s_Gt_Gv ssGt
        · rw [StA.atGi, StA.atLe, show decide (("give" : Str) = "leave") = false by decide +kernel]; exact kF Gv Lv icLv tyLv s_Gv_Lv ssGv
        · rw [StA.atGi, StA.atCo, show decide (("give" : Str) = "come") = false by decide +kernel]; exact kF Gv Cm icCm tyCm s_Gv_Cm ssGv
        · rw [StA.atGi, StA.atGo, show decide (("give" : Str) = "go") = false by decide +kernel]; exact kF Gv Gn icGn tyGn s_Gv_Gn ssGv
        · rw [StA.atGi, StA.atGr, show decide (("give" : Str) = "grant") = false by decide +kernel]; exact kF Gv Gt icGt tyGt s_Gv_Gt ssGv
        · rw [StA.atGi, show decide (("give" : Str) = "give") = true by decide +kernel]; exact self _
  refine ⟨PySem.W.fnOf "law" "law" (defArgs s_law) (defBody s_law) (defScope s_law) .none kV_la dc_la pm_la an_la cd_la ct_la, fun s u => .of_eq rfl, fun base _ _ => ?_⟩
  have G_mi := ok_mix (P := P) (w := w) (mg := mg) (base := base)  F_mi m_int
  have G_ha := ok_hand (P := P) (w := w) (mg := mg) (base := base)  F_ha m_int m_abs m_enumerate
  have G_dr := ok_draw (P := P) (w := w) (mg := mg) (base := base)  F_dr F_mi g_mi b_mi m_int m_len
  have G_pk := ok_pick (P := P) (w := w) (mg := mg) (base := base)  F_pk k_dr G_dr g_dr b_dr m_len
  have G_lo := ok_lots (P := P) (w := w) (mg := mg) (base := base)  F_lo m_range m_len m_list
  have G_ld := ok_land (P := P) (w := w) (mg := mg) (base := base)  F_ld G_dr g_dr k_dr b_dr G_pk g_pk k_pk b_pk G_lo g_lo k_lo b_lo m_range m_len m_list m_min m_max m_sorted
  have G_isw := ok_whole (P := P) (w := w) (mg := mg) (base := base)  F_isw m_isinstance m_int m_bool
  have G_sq := ok_seq (P := P) (w := w) (mg := mg) (base := base)  F_sq m_isinstance m_list m_tuple
  have G_ac := ok_cells (P := P) (w := w) (mg := mg) (base := base)  F_ac G_sq g_sq k_sq b_sq G_isw g_isw k_isw b_isw m_len m_set m_all
  have G_a2 := ok_two (P := P) (w := w) (mg := mg) (base := base)  F_a2 G_ac g_ac k_ac b_ac m_len
  have G_sp := ok_spread (P := P) (w := w) (mg := mg) (base := base)  F_sp m_len
  have G_ny := ok_near (P := P) (w := w) (mg := mg) (base := base)  F_ny m_range m_tuple
  have G_ht := ok_hang (P := P) (w := w) (mg := mg) (base := base)  F_ht G_ny g_ny k_ny b_ny G_sp g_sp k_sp b_sp m_len m_list m_range
  have G_nb := ok_nbrs (P := P) (w := w) (mg := mg) (base := base)  F_nb G_sq g_sq k_sq b_sq G_a2 g_a2 k_a2 b_a2 m_len m_all m_tuple m_sorted
  have G_ic := ok_iscell (P := P) (w := w) (mg := mg) (base := base)  TL F_ic G_isw g_isw k_isw b_isw
  have G_ck := ok_check (P := P) (w := w) (mg := mg) (base := base)  TL F_ck G_ic g_ic k_ic b_ic F_iB b_iB
  have G_cI := ok_landI (P := P) (w := w) (mg := mg) (base := base)  TL g_M F_cI G_isw g_isw k_isw b_isw G_nb g_nb k_nb b_nb G_ac g_ac k_ac b_ac G_ht g_ht k_ht b_ht G_ny g_ny k_ny b_ny m_len m_sorted m_tuple m_range
  have G_cp := ok_couples (P := P) (w := w) (mg := mg) (base := base)  TL F_cp
  have G_ah := ok_areh (P := P) (w := w) (mg := mg) (base := base)  TL T5 F_ah G_sq g_sq k_sq b_sq G_isw g_isw k_isw b_isw m_len m_all
  have G_ir := ok_isrow (P := P) (w := w) (mg := mg) (base := base)  TL T5 F_ir G_sq g_sq k_sq b_sq m_len m_all
  have G_as_ := ok_ares (P := P) (w := w) (mg := mg) (base := base)  TL F_as_ G_sq g_sq k_sq b_sq G_ir g_ir k_ir b_ir m_len m_all m_enumerate
  have G_cpl := ok_chp (P := P) (w := w) (mg := mg) (base := base)  TL F_cpl p_cp G_cp b_cp
  have G_sI := ok_sti (P := P) (w := w) (mg := mg) (base := base) (a := ⟨LC, B, f_iB⟩) (S := SC) TL T2 clsSC nSC F_sI G_ah g_ah k_ah b_ah G_as_ g_as_ k_as_ b_as_ G_cpl g_cpl k_cpl b_cpl m_isinstance m_tuple
  have G_oc := ok_sownc (P := P) (w := w) (mg := mg) (base := base) (a := ⟨LC, B, f_iB⟩) (S := SC) G_ck g_ck k_ck clsSC nSC F_oc m_tuple m_enumerate
  have G_il := ok_islot (P := P) (w := w) (mg := mg) (base := base)  TL F_il G_ac g_ac k_ac b_ac
  have G_ik := ok_iscouple (P := P) (w := w) (mg := mg) (base := base)  TL F_ik G_a2 g_a2 k_a2 b_a2
  have G_hf := ok_form (P := P) (w := w) (mg := mg) (base := base)  TD F_hf G_sq g_sq k_sq b_sq m_len m_isinstance m_str
  have G_atd := ok_told (P := P) (w := w) (mg := mg) (base := base) (a := ⟨LC, B, f_iB⟩) F_atd G_sq g_sq k_sq b_sq G_ik g_ik k_ik b_ik m_len m_all m_tuple
  have G_sf := ok_shape (P := P) (w := w) (mg := mg) (base := base) (a := ⟨LC, B, f_iB⟩) T5 F_sf G_hf g_hf k_hf b_hf G_il g_il k_il b_il G_isw g_isw k_isw b_isw G_atd g_atd k_atd b_atd
  have G_mv := ok_mov (P := P) (w := w) (mg := mg) (base := base) (a := ⟨LC, B, f_iB⟩) (S := SC) clsSC nSC F_mv m_tuple m_sorted
  have G_hb := ok_hb (P := P) (w := w) (mg := mg) (base := base) (a := ⟨LC, B, f_iB⟩) (S := SC) clsSC nSC F_hb G_mv g_mv k_mv b_mv m_tuple m_enumerate
  have G_ho := ok_ho (P := P) (w := w) (mg := mg) (base := base) (a := ⟨LC, B, f_iB⟩) (S := SC) clsSC nSC F_ho m_set m_sorted
  have G_df := ok_df (P := P) (w := w) (mg := mg) (base := base) (a := ⟨LC, B, f_iB⟩) (S := SC) clsSC nSC F_df G_sf g_sf k_sf b_sf G_mv g_mv k_mv b_mv G_ho g_ho k_ho b_ho m_len
  have G_cd := ok_ckd (P := P) (w := w) (mg := mg) (base := base) (a := ⟨LC, B, f_iB⟩) (S := SC) (B := BD) TB F_cd G_df g_df k_df b_df F_iBD b_iBD
  have G_ac0 := ok_cells0 (P := P) (w := w) (mg := mg) (base := base)  F_ac G_sq g_sq k_sq b_sq G_isw g_isw k_isw b_isw m_len m_set m_all
  have G_aco := FnOk_or G_ac G_ac0
  have G_cl1 := ok_chl (P := P) (w := w) (mg := mg) (base := base)  g_M F_cl G_ac g_ac k_ac b_ac m_len
  have G_cl0 := ok_chl0 (P := P) (w := w) (mg := mg) (base := base)  g_M F_cl G_aco g_ac k_ac b_ac m_len
  have G_clo := FnOk_or G_cl1 G_cl0
  have G_st1 := ok_step (P := P) (w := w) (mg := mg) (base := base) F_st G_cl1 g_cl k_cl b_cl m_tuple m_sorted
  have G_st0 := ok_step0 (P := P) (w := w) (mg := mg) (base := base) F_st G_clo g_cl k_cl b_cl m_tuple m_sorted
  have G_st := FnOk_or G_st1 G_st0
  have G_le := ok_leave (w := w) (mg := mg) (base := base) D_le C_le clsLv nA_Lv G_st b_st
  have G_co := ok_come (w := w) (mg := mg) (base := base) D_co C_co clsCm nA_Cm G_st E_st v1_st b1_st
  have G_gn := ok_go (w := w) (mg := mg) (base := base) D_gn C_gn clsGn nA_Gn G_st b_st
  have G_gr := ok_grant (w := w) (mg := mg) (base := base) D_gr C_gr clsGt nA_Gt G_st E_st v1_st b1_st
  have G_gi := ok_give (w := w) (mg := mg) (base := base) D_gi C_gi clsGv nA_Gv G_st E_st v1_st b1_st
  have G_ms := ok_ms (P := P) (w := w) (mg := mg) (base := base) (a := ⟨LC, B, f_iB⟩) (S := SC) (A5 := (⟨Lv, Cm, Gn, Gt, Gv⟩ : StA)) clsSC nSC TL F_ms m_oc G_oc b_oc G_hb g_hb k_hb b_hb M_Cm G_co gcCm b_co M_Gn G_gn gcGn b_gn M_Lv G_le gcLv b_le m_len m_tuple m_range
  have G_so := ok_so (P := P) (w := w) (mg := mg) (base := base) (a := ⟨LC, B, f_iB⟩) (S := SC) (A5 := (⟨Lv, Cm, Gn, Gt, Gv⟩ : StA)) (B := BD) G_ck g_ck k_ck clsSC nSC F_so G_cd g_cd k_cd b_cd G_ms g_ms k_ms b_ms M_Gt G_gr gcGt b_gr M_Gv G_gi gcGv b_gi
  have G_li := ok_li (P := P) (w := w) (mg := mg) (base := base)  T6 F_li m_isinstance
  have G_du := ok_ld (P := P) (w := w) (mg := mg) (base := base)  F_du m_len m_tuple m_range m_sorted
  have G_loA := ok_lotsA (P := P) (w := w) (mg := mg) (base := base)  F_lo m_range m_len m_list
  have G_tu := ok_turn (P := P) (w := w) (mg := mg) (base := base)  F_tu G_dr g_dr k_dr b_dr m_range m_len m_list m_tuple
  have G_sm := ok_some (P := P) (w := w) (mg := mg) (base := base)  F_sm G_loA g_lo k_lo b_lo G_pk g_pk k_pk b_pk G_tu g_tu k_tu b_tu m_sorted
  have G_pa := ok_part (P := P) (w := w) (mg := mg) (base := base)  F_pa m_len m_range
  have G_ls := ok_ls (P := P) (w := w) (mg := mg) (base := base)  F_ls G_pk g_pk k_pk b_pk G_dr g_dr k_dr b_dr m_range
  have G_sd := ok_said (P := P) (w := w) (mg := mg) (base := base)  F_sd G_pa g_pa k_pa b_pa G_sm g_sm k_sm b_sm G_dr g_dr k_dr b_dr m_len m_int
  have G_go := ok_goes (P := P) (w := w) (mg := mg) (base := base)  F_go G_sm g_sm k_sm b_sm G_pk g_pk k_pk b_pk G_tu g_tu k_tu b_tu G_dr g_dr k_dr b_dr m_len m_list m_range
  have G_de := ok_deed (P := P) (w := w) (mg := mg) (base := base)  F_de G_pa g_pa k_pa b_pa G_sd g_sd k_sd b_sd G_go g_go k_go b_go G_dr g_dr k_dr b_dr m_len
  have G_ow := ok_ow (P := P) (w := w) (mg := mg) (base := base)  F_ow m_len m_range
  have G_wr := ok_wr (P := P) (w := w) (mg := mg) (base := base)  F_wr G_pk g_pk k_pk b_pk m_len m_range
  have G_rf := ok_refu (P := P) (w := w) (mg := mg) (base := base) (a := ⟨LC, B, f_iB⟩) (S := SC) (A5 := (⟨Lv, Cm, Gn, Gt, Gv⟩ : StA)) (B := BD) TL TB T3 F_rf G_so g_so k_so b_so m_isinstance
  exact ok_law (a := ⟨LC, B, f_iB⟩) (S := SC) (A5 := (⟨Lv, Cm, Gn, Gt, Gv⟩ : StA)) (B := BD) TL clsSC nSC gcSC F_la G_ha g_ha k_ha b_ha G_ld g_ld k_ld b_ld G_pk g_pk k_pk b_pk G_dr g_dr k_dr b_dr G_ls g_ls k_ls b_ls G_ow g_ow k_ow b_ow G_de g_de k_de b_de G_du g_du k_du b_du G_li g_li k_li b_li G_wr g_wr k_wr b_wr G_rf g_rf k_rf b_rf G_so g_so k_so b_so M_LC G_cI b_cI M_SC G_sI b_sI m_tuple m_range m_repr
end K7
end
open PySem PySem.W PyProof.Rows
set_option maxHeartbeats 0 in
theorem PySem.Challenge.cw_landways_k22_whole_which_step_a_deed_is_holds : PySem.Challenge.rw_landways_k22_whole_which_step_a_deed_is.Holds := by
  w_on; o_law; k_head; (case hw => w_witness2)
  k_fill
  refine K7E.walk_ofG (l := PySem.Challenge.rw_landways_k22_whole_which_step_a_deed_is) (n := 63) (k := 11) (x := "_law_script") (CX := fun _ => L2.CX0) (sp := fun w => K7.spLaw _) rfl (by decide) rfl ⟨rfl, by decide, by decide⟩ (fun w h Y => PySem.W.kIn_of Y) ?F (fun _ _ a ns hl _ _ hS => ⟨a, ns, rfl, hS, hl, fun _ => rfl⟩) (fun _ _ _ _ _ h => h)
  case F =>
    intro w mg fa h KX G hmg
    refine' K7.all_mk KX G hmg ?a_sq ?l_sq ?c_sq ?k_sq ?a_isw ?l_isw ?c_isw ?k_isw ?a_ac ?l_ac ?c_ac ?k_ac ?a_a2 ?l_a2 ?c_a2 ?k_a2 ?a_ic ?l_ic ?c_ic ?k_ic ?a_il ?l_il ?c_il ?k_il ?a_ik ?l_ik ?c_ik ?k_ik ?a_ck ?l_ck ?c_ck ?k_ck ?a_sp ?l_sp ?c_sp ?k_sp ?a_ny ?l_ny ?c_ny ?k_ny ?a_ht ?l_ht ?c_ht ?k_ht ?a_nb ?l_nb ?c_nb ?k_nb ?a_ah ?l_ah ?c_ah ?k_ah ?a_ir ?l_ir ?c_ir ?k_ir ?a_as_ ?l_as_ ?c_as_ ?k_as_ ?a_cpl ?l_cpl ?c_cpl ?k_cpl ?a_hf ?l_hf ?c_hf ?k_hf ?a_atd ?l_atd ?c_atd ?k_atd ?a_sf ?l_sf ?c_sf ?k_sf ?a_mv ?l_mv ?c_mv ?k_mv ?a_hb ?l_hb ?c_hb ?k_hb ?a_ho ?l_ho ?c_ho ?k_ho ?a_df ?l_df ?c_df ?k_df ?a_cd ?l_cd ?c_cd ?k_cd ?a_cl ?l_cl ?c_cl ?k_cl ?a_ms ?l_ms ?c_ms ?k_ms ?a_so ?l_so ?c_so ?k_so ?a_mi ?l_mi ?c_mi ?k_mi ?a_ha ?l_ha ?c_ha ?k_ha ?a_dr ?l_dr ?c_dr ?k_dr ?a_pk ?l_pk ?c_pk ?k_pk ?a_lo ?l_lo ?c_lo ?k_lo ?a_ld ?l_ld ?c_ld ?k_ld ?a_tu ?l_tu ?c_tu ?k_tu ?a_sm ?l_sm ?c_sm ?k_sm ?a_pa ?l_pa ?c_pa ?k_pa ?a_ls ?l_ls ?c_ls ?k_ls ?a_sd ?l_sd ?c_sd ?k_sd ?a_go ?l_go ?c_go ?k_go ?a_de ?l_de ?c_de ?k_de ?a_du ?l_du ?c_du ?k_du ?a_li ?l_li ?c_li ?k_li ?a_ow ?l_ow ?c_ow ?k_ow ?a_wr ?l_wr ?c_wr ?k_wr ?a_rf ?l_rf ?c_rf ?k_rf ?a_la ?l_la ?c_la ?k_la ?aL ?eL ?dL ?tL ?icL ?hnO ?htO ?aLC ?pgLC ?hdLC ?poLC ?saLC ?mkLC ?kcLC ?haLC ?hmLC ?neLC ?n_LC_cells ?n_LC_neighbours ?n_LC_roads ?n_LC_nearby ?n_LC__couples ?a_cI ?i_cI ?l_cI ?c_cI ?k_cI ?a_cp ?gp_cp ?tp_cp ?rp_cp ?l_cp ?c_cp ?k_cp ?a_eq ?i_eq ?aSC ?pgSC ?hdSC ?poSC ?saSC ?mkSC ?kcSC ?haSC ?hmSC ?n_SC_land ?n_SC_hands ?n_SC_standings ?a_sI ?i_sI ?l_sI ?c_sI ?k_sI ?a_oc ?i_oc ?l_oc ?c_oc ?k_oc ?aB ?xB ?rB ?saB ?exB ?tyB ?kpB ?hgB ?hkB ?hdB ?haB ?hmB ?icB ?ssB ?suB ?noB ?a_iB ?t_iB ?l_iB ?c_iB ?k_iB ?aBD ?xBD ?rBD ?saBD ?exBD ?tyBD ?kpBD ?hgBD ?hkBD ?hdBD ?haBD ?hmBD ?icBD ?ssBD ?suBD ?noBD ?a_iBD ?t_iBD ?l_iBD ?c_iBD ?k_iBD ?sDB ?aSP ?a_st ?ty_st ?fi_st ?l_st ?c_st ?k_st ?ld_st ?vd_st ?l_e_st ?anyS ?topS_ ?z_isinstance ?z_int ?z_bool ?z_str ?z_tuple ?z_list ?z_enumerate ?z_len ?z_abs ?z_range ?z_min ?z_max ?z_sorted ?z_set ?z_all ?z_repr ?z_super ?aLv ?pgLv ?hdLv ?poLv ?saLv ?mkLv ?kcLv ?haLv ?hmLv ?icLv ?tyLv ?ssLv ?mrLv ?n_Lv_kind ?n_Lv_cells ?n_Lv_others ?a_le ?i_le ?l_le ?c_le ?lc_le ?v2_le ?fl_le ?lx_fact_le ?up_le ?ld_le ?vd_le ?aCm ?pgCm ?hdCm ?poCm ?saCm ?mkCm ?kcCm ?haCm ?hmCm ?icCm ?tyCm ?ssCm ?mrCm ?n_Cm_kind ?n_Cm_cells ?n_Cm_others ?a_co ?i_co ?l_co ?c_co ?lc_co ?v2_co ?fl_co ?lx_fact_co ?up_co ?aGn ?pgGn ?hdGn ?poGn ?saGn ?mkGn ?kcGn ?haGn ?hmGn ?icGn ?tyGn ?ssGn ?mrGn ?n_Gn_kind ?n_Gn_cells ?n_Gn_others ?a_gn ?i_gn ?l_gn ?c_gn ?lc_gn ?v2_gn ?fl_gn ?lx_fact_gn ?up_gn ?ld_gn ?vd_gn ?aGt ?pgGt ?hdGt ?poGt ?saGt ?mkGt ?kcGt ?haGt ?hmGt ?icGt ?tyGt ?ssGt ?mrGt ?n_Gt_kind ?n_Gt_cells ?n_Gt_others ?a_gr ?i_gr ?l_gr ?c_gr ?lc_gr ?v2_gr ?fl_gr ?lx_fact_gr ?up_gr ?aGv ?pgGv ?hdGv ?poGv ?saGv ?mkGv ?kcGv ?haGv ?hmGv ?icGv ?tyGv ?ssGv ?mrGv ?n_Gv_kind ?n_Gv_cells ?n_Gv_others ?a_gi ?i_gi ?l_gi ?c_gi ?lc_gi ?v2_gi ?fl_gi ?lx_fact_gi ?up_gi ?s_Lv_Cm ?s_Lv_Gn ?s_Lv_Gt ?s_Lv_Gv ?s_Cm_Lv ?s_Cm_Gn ?s_Cm_Gt ?s_Cm_Gv ?s_Gn_Lv ?s_Gn_Cm ?s_Gn_Gt ?s_Gn_Gv ?s_Gt_Lv ?s_Gt_Cm ?s_Gt_Gn ?s_Gt_Gv ?s_Gv_Lv ?s_Gv_Cm ?s_Gv_Gn ?s_Gv_Gt ?a_M ?a_MH ?a_ST ?l_ST ?v_ST ?w_ST ?a_RI ?l_RI ?v_RI ?w_RI ?a_LN ?l_LN ?v_LN ?a_l0 ?a_l1 ?a_l2 ?a_l3 ?ns_LN
    (case a_sq => k_is)
    (case l_sq => k_is)
    (case c_sq => k_is)
    (case k_sq => k_is)
    (case a_isw => k_is)
    (case l_isw => k_is)
    (case c_isw => k_is)
    (case k_isw => k_is)
    (case a_ac => k_is)
    (case l_ac => k_is)
    (case c_ac => k_is)
    (case k_ac => k_is)
    (case a_a2 => k_is)
    (case l_a2 => k_is)
    (case c_a2 => k_is)
    (case k_a2 => k_is)
    (case a_ic => k_is)
    (case l_ic => k_is)
    (case c_ic => k_is)
    (case k_ic => k_is)
    (case a_il => k_is)
    (case l_il => k_is)
    (case c_il => k_is)
    (case k_il => k_is)
    (case a_ik => k_is)
    (case l_ik => k_is)
    (case c_ik => k_is)
    (case k_ik => k_is)
    (case a_ck => k_is)
    (case l_ck => k_is)
    (case c_ck => k_is)
    (case k_ck => k_is)
    (case a_sp => k_is)
    (case l_sp => k_is)
    (case c_sp => k_is)
    (case k_sp => k_is)
    (case a_ny => k_is)
    (case l_ny => k_is)
    (case c_ny => k_is)
    (case k_ny => k_is)
    (case a_ht => k_is)
    (case l_ht => k_is)
    (case c_ht => k_is)
    (case k_ht => k_is)
    (case a_nb => k_is)
    (case l_nb => k_is)
    (case c_nb => k_is)
    (case k_nb => k_is)
    (case a_ah => k_is)
    (case l_ah => k_is)
    (case c_ah => k_is)
    (case k_ah => k_is)
    (case a_ir => k_is)
    (case l_ir => k_is)
    (case c_ir => k_is)
    (case k_ir => k_is)
    (case a_as_ => k_is)
    (case l_as_ => k_is)
    (case c_as_ => k_is)
    (case k_as_ => k_is)
    (case a_cpl => k_is)
    (case l_cpl => k_is)
    (case c_cpl => k_is)
    (case k_cpl => k_is)
    (case a_hf => k_is)
    (case l_hf => k_is)
    (case c_hf => k_is)
    (case k_hf => k_is)
    (case a_atd => k_is)
    (case l_atd => k_is)
    (case c_atd => k_is)
    (case k_atd => k_is)
    (case a_sf => k_is)
    (case l_sf => k_is)
    (case c_sf => k_is)
    (case k_sf => k_is)
    (case a_mv => k_is)
    (case l_mv => k_is)
    (case c_mv => k_is)
    (case k_mv => k_is)
    (case a_hb => k_is)
    (case l_hb => k_is)
    (case c_hb => k_is)
    (case k_hb => k_is)
    (case a_ho => k_is)
    (case l_ho => k_is)
    (case c_ho => k_is)
    (case k_ho => k_is)
    (case a_df => k_is)
    (case l_df => k_is)
    (case c_df => k_is)
    (case k_df => k_is)
    (case a_cd => k_is)
    (case l_cd => k_is)
    (case c_cd => k_is)
    (case k_cd => k_is)
    (case a_cl => k_is)
    (case l_cl => k_is)
    (case c_cl => k_is)
    (case k_cl => k_is)
    (case a_ms => k_is)
    (case l_ms => k_is)
    (case c_ms => k_is)
    (case k_ms => k_is)
    (case a_so => k_is)
    (case l_so => k_is)
    (case c_so => k_is)
    (case k_so => k_is)
    (case a_mi => k_is)
    (case l_mi => k_is)
    (case c_mi => k_is)
    (case k_mi => k_is)
    (case a_ha => k_is)
    (case l_ha => k_is)
    (case c_ha => k_is)
    (case k_ha => k_is)
    (case a_dr => k_is)
    (case l_dr => k_is)
    (case c_dr => k_is)
    (case k_dr => k_is)
    (case a_pk => k_is)
    (case l_pk => k_is)
    (case c_pk => k_is)
    (case k_pk => k_is)
    (case a_lo => k_is)
    (case l_lo => k_is)
    (case c_lo => k_is)
    (case k_lo => k_is)
    (case a_ld => k_is)
    (case l_ld => k_is)
    (case c_ld => k_is)
    (case k_ld => k_is)
    (case a_tu => k_is)
    (case l_tu => k_is)
    (case c_tu => k_is)
    (case k_tu => k_is)
    (case a_sm => k_is)
    (case l_sm => k_is)
    (case c_sm => k_is)
    (case k_sm => k_is)
    (case a_pa => k_is)
    (case l_pa => k_is)
    (case c_pa => k_is)
    (case k_pa => k_is)
    (case a_ls => k_is)
    (case l_ls => k_is)
    (case c_ls => k_is)
    (case k_ls => k_is)
    (case a_sd => k_is)
    (case l_sd => k_is)
    (case c_sd => k_is)
    (case k_sd => k_is)
    (case a_go => k_is)
    (case l_go => k_is)
    (case c_go => k_is)
    (case k_go => k_is)
    (case a_de => k_is)
    (case l_de => k_is)
    (case c_de => k_is)
    (case k_de => k_is)
    (case a_du => k_is)
    (case l_du => k_is)
    (case c_du => k_is)
    (case k_du => k_is)
    (case a_li => k_is)
    (case l_li => k_is)
    (case c_li => k_is)
    (case k_li => k_is)
    (case a_ow => k_is)
    (case l_ow => k_is)
    (case c_ow => k_is)
    (case k_ow => k_is)
    (case a_wr => k_is)
    (case l_wr => k_is)
    (case c_wr => k_is)
    (case k_wr => k_is)
    (case a_rf => k_is)
    (case l_rf => k_is)
    (case c_rf => k_is)
    (case k_rf => k_is)
    (case a_la => k_is)
    (case l_la => k_is)
    (case c_la => k_is)
    (case k_la => k_is)
    (case aL => k_is)
    (case eL => k_is)
    (case dL => k_is)
    (case tL => k_is)
    (case icL => k_is)
    (case hnO => k_is)
    (case htO => k_is)
    (case aLC => k_is)
    (case pgLC => k_is)
    (case hdLC => k_is)
    (case poLC => k_is)
    (case saLC => k_is)
    (case mkLC => k_is)
    (case kcLC => k_is)
    (case haLC => k_is)
    (case hmLC => k_is)
    (case neLC => k_is)
    (case n_LC_cells => k_is)
    (case n_LC_neighbours => k_is)
    (case n_LC_roads => k_is)
    (case n_LC_nearby => k_is)
    (case n_LC__couples => k_is)
    (case a_cI => k_is)
    (case i_cI => k_is)
    (case l_cI => k_is)
    (case c_cI => k_is)
    (case k_cI => k_is)
    (case a_cp => k_is)
    (case gp_cp => k_is)
    (case tp_cp => k_is)
    (case rp_cp => k_is)
    (case l_cp => k_is)
    (case c_cp => k_is)
    (case k_cp => k_is)
    (case a_eq => k_is)
    (case i_eq => k_is)
    (case aSC => k_is)
    (case pgSC => k_is)
    (case hdSC => k_is)
    (case poSC => k_is)
    (case saSC => k_is)
    (case mkSC => k_is)
    (case kcSC => k_is)
    (case haSC => k_is)
    (case hmSC => k_is)
    (case n_SC_land => k_is)
    (case n_SC_hands => k_is)
    (case n_SC_standings => k_is)
    (case a_sI => k_is)
    (case i_sI => k_is)
    (case l_sI => k_is)
    (case c_sI => k_is)
    (case k_sI => k_is)
    (case a_oc => k_is)
    (case i_oc => k_is)
    (case l_oc => k_is)
    (case c_oc => k_is)
    (case k_oc => k_is)
    (case aB => k_is)
    (case xB => k_is)
    (case rB => decide +kernel)
    (case saB => k_is)
    (case exB => k_is)
    (case tyB => k_is)
    (case kpB => k_is)
    (case hgB => k_is)
    (case hkB => k_is)
    (case hdB => k_is)
    (case haB => k_is)
    (case hmB => k_is)
    (case icB => k_is)
    (case ssB => k_is)
    (case suB => k_is)
    (case noB => k_is)
    (case a_iB => k_is)
    (case t_iB => k_is)
    (case l_iB => k_is)
    (case c_iB => k_is)
    (case k_iB => k_is)
    (case aBD => k_is)
    (case xBD => k_is)
    (case rBD => decide +kernel)
    (case saBD => k_is)
    (case exBD => k_is)
    (case tyBD => k_is)
    (case kpBD => k_is)
    (case hgBD => k_is)
    (case hkBD => k_is)
    (case hdBD => k_is)
    (case haBD => k_is)
    (case hmBD => k_is)
    (case icBD => k_is)
    (case ssBD => k_is)
    (case suBD => k_is)
    (case noBD => k_is)
    (case a_iBD => k_is)
    (case t_iBD => k_is)
    (case l_iBD => k_is)
    (case c_iBD => k_is)
    (case k_iBD => k_is)
    (case sDB => k_is)
    (case aSP => k_is)
    (case a_st => k_is)
    (case ty_st => k_is)
    (case fi_st => k_is)
    (case l_st => k_is)
    (case c_st => k_is)
    (case k_st => k_is)
    (case ld_st => k_is)
    (case vd_st => exact (.cons rfl .nil))
    (case l_e_st => k_is)
    (case anyS => k_is)
    (case topS_ => decide +kernel)
    (case z_isinstance => k_is)
    (case z_int => k_is)
    (case z_bool => k_is)
    (case z_str => k_is)
    (case z_tuple => k_is)
    (case z_list => k_is)
    (case z_enumerate => k_is)
    (case z_len => k_is)
    (case z_abs => k_is)
    (case z_range => k_is)
    (case z_min => k_is)
    (case z_max => k_is)
    (case z_sorted => k_is)
    (case z_set => k_is)
    (case z_all => k_is)
    (case z_repr => k_is)
    (case z_super => k_is)
    (case aLv => k_is)
    (case pgLv => k_is)
    (case hdLv => k_is)
    (case poLv => k_is)
    (case saLv => k_is)
    (case mkLv => k_is)
    (case kcLv => k_is)
    (case haLv => k_is)
    (case hmLv => k_is)
    (case icLv => k_is)
    (case tyLv => k_is)
    (case ssLv => k_is)
    (case mrLv => k_is)
    (case n_Lv_kind => k_is)
    (case n_Lv_cells => k_is)
    (case n_Lv_others => k_is)
    (case a_le => k_is)
    (case i_le => k_is)
    (case l_le => k_is)
    (case c_le => k_is)
    (case lc_le => k_is)
    (case v2_le => rfl)
    (case fl_le => (first | rfl | decide +kernel))
    (case lx_fact_le => k_is)
    (case up_le => ks_is)
    (case ld_le => k_is)
    (case vd_le => exact (.cons rfl .nil))
    (case aCm => k_is)
    (case pgCm => k_is)
    (case hdCm => k_is)
    (case poCm => k_is)
    (case saCm => k_is)
    (case mkCm => k_is)
    (case kcCm => k_is)
    (case haCm => k_is)
    (case hmCm => k_is)
    (case icCm => k_is)
    (case tyCm => k_is)
    (case ssCm => k_is)
    (case mrCm => k_is)
    (case n_Cm_kind => k_is)
    (case n_Cm_cells => k_is)
    (case n_Cm_others => k_is)
    (case a_co => k_is)
    (case i_co => k_is)
    (case l_co => k_is)
    (case c_co => k_is)
    (case lc_co => k_is)
    (case v2_co => rfl)
    (case fl_co => (first | rfl | decide +kernel))
    (case lx_fact_co => k_is)
    (case up_co => ks_is)
    (case aGn => k_is)
    (case pgGn => k_is)
    (case hdGn => k_is)
    (case poGn => k_is)
    (case saGn => k_is)
    (case mkGn => k_is)
    (case kcGn => k_is)
    (case haGn => k_is)
    (case hmGn => k_is)
    (case icGn => k_is)
    (case tyGn => k_is)
    (case ssGn => k_is)
    (case mrGn => k_is)
    (case n_Gn_kind => k_is)
    (case n_Gn_cells => k_is)
    (case n_Gn_others => k_is)
    (case a_gn => k_is)
    (case i_gn => k_is)
    (case l_gn => k_is)
    (case c_gn => k_is)
    (case lc_gn => k_is)
    (case v2_gn => rfl)
    (case fl_gn => (first | rfl | decide +kernel))
    (case lx_fact_gn => k_is)
    (case up_gn => ks_is)
    (case ld_gn => k_is)
    (case vd_gn => exact (.cons rfl .nil))
    (case aGt => k_is)
    (case pgGt => k_is)
    (case hdGt => k_is)
    (case poGt => k_is)
    (case saGt => k_is)
    (case mkGt => k_is)
    (case kcGt => k_is)
    (case haGt => k_is)
    (case hmGt => k_is)
    (case icGt => k_is)
    (case tyGt => k_is)
    (case ssGt => k_is)
    (case mrGt => k_is)
    (case n_Gt_kind => k_is)
    (case n_Gt_cells => k_is)
    (case n_Gt_others => k_is)
    (case a_gr => k_is)
    (case i_gr => k_is)
    (case l_gr => k_is)
    (case c_gr => k_is)
    (case lc_gr => k_is)
    (case v2_gr => rfl)
    (case fl_gr => (first | rfl | decide +kernel))
    (case lx_fact_gr => k_is)
    (case up_gr => ks_is)
    (case aGv => k_is)
    (case pgGv => k_is)
    (case hdGv => k_is)
    (case poGv => k_is)
    (case saGv => k_is)
    (case mkGv => k_is)
    (case kcGv => k_is)
    (case haGv => k_is)
    (case hmGv => k_is)
    (case icGv => k_is)
    (case tyGv => k_is)
    (case ssGv => k_is)
    (case mrGv => k_is)
    (case n_Gv_kind => k_is)
    (case n_Gv_cells => k_is)
    (case n_Gv_others => k_is)
    (case a_gi => k_is)
    (case i_gi => k_is)
    (case l_gi => k_is)
    (case c_gi => k_is)
    (case lc_gi => k_is)
    (case v2_gi => rfl)
    (case fl_gi => (first | rfl | decide +kernel))
    (case lx_fact_gi => k_is)
    (case up_gi => ks_is)
    (case s_Lv_Cm => k_is)
    (case s_Lv_Gn => k_is)
    (case s_Lv_Gt => k_is)
    (case s_Lv_Gv => k_is)
    (case s_Cm_Lv => k_is)
    (case s_Cm_Gn => k_is)
    (case s_Cm_Gt => k_is)
    (case s_Cm_Gv => k_is)
    (case s_Gn_Lv => k_is)
    (case s_Gn_Cm => k_is)
    (case s_Gn_Gt => k_is)
    (case s_Gn_Gv => k_is)
    (case s_Gt_Lv => k_is)
    (case s_Gt_Cm => k_is)
    (case s_Gt_Gn => k_is)
    (case s_Gt_Gv => k_is)
    (case s_Gv_Lv => k_is)
    (case s_Gv_Cm => k_is)
    (case s_Gv_Gn => k_is)
    (case s_Gv_Gt => k_is)
    (case a_M => k_is)
    (case a_MH => k_is)
    (case a_ST => k_is)
    (case l_ST => k_is)
    (case v_ST => exact (.cons ⟨_, rfl⟩ (.cons ⟨_, rfl⟩ (.cons ⟨_, rfl⟩ (.cons ⟨_, rfl⟩ .nil)))))
    (case w_ST => decide)
    (case a_RI => k_is)
    (case l_RI => k_is)
    (case v_RI => exact (.cons ⟨_, rfl⟩ (.cons ⟨_, rfl⟩ .nil)))
    (case w_RI => decide)
    (case a_LN => k_is)
    (case l_LN => k_is)
    (case v_LN => exact ⟨⟨_, _, rfl, rfl⟩, ⟨_, _, rfl, rfl⟩, ⟨_, _, rfl, rfl⟩, trivial⟩)
    (case a_l0 => k_is)
    (case a_l1 => k_is)
    (case a_l2 => k_is)
    (case a_l3 => k_is)
    (case ns_LN => rfl)

