import PyProof.Rows.All
import Wide.All
import OpenK.AllK
import Wide.FinOn
import PySem.Challenge.RW_landways_k10_whole_states_and_what_they
import HandS.ForMost
import HandS.Wide
import HandS.Evl
import HandS.Walk
import HandS.Zip
import HandS.TupAny
import HandS.Sort
import PyProof.ListRange
import HandS.Deep
import HandS.SortRule
import HandS.Star
import HandS.IsInst
import HandS.TupSets
import HandS.SetFor
import HandS.SetBool
import PyProof.TupleOfSeq
import HandS.Property
import HandS.ExcIs
import HandS.ExcField
import HandS.ForExc
import HandS.ExcInit
import KE.DataMinMax
import KE.SortData
import KE.LtData
import HandS.SlotsOwn
import HandS.OwnEq
import PyProof.InstEq
import HandS.MakeKw
import HandS.Iter
import KE.GoesMore
import KE.GoesEnum
import HandS.Flow
import HandS.TupMul
import HandS.SetKeys
import HandS.Dict
import HandS.Style
import HandS.RaiseMore
import KE.KExcIs
import HandS.EndBits
set_option Elab.async false
set_option linter.all false
set_option maxRecDepth 100000
set_option maxHeartbeats 4000000
/-! ## P1 -/
section
open PySem PySem.Spec PyProof.Rows L2
namespace K7

def topS (i : Nat) : Stmt := PySem.Challenge.pw_landways_k10_whole_states_and_what_they.main.body.getD i (.Pass ⟨0, 0, 0, 0⟩)
abbrev N__law_mix : List Str := ["_law_number", "_law_turn", "_law_once", "_law_twice"]
abbrev s__law_mix : Stmt := topS 33
theorem sc__law_mix : FnScope ["_law_number", "_law_turn", "_law_once", "_law_twice"] ["_law_number", "_law_turn"] (defScope s__law_mix) := ⟨rfl, rfl, rfl, by decide +kernel, rfl, by decide +kernel, by decide +kernel⟩

abbrev N__law_draw : List Str := ["_law_hand_here", "_law_many", "_law_cell", "_law_rest"]
abbrev s__law_draw : Stmt := topS 35
theorem sc__law_draw : FnScope ["_law_hand_here", "_law_many", "_law_cell", "_law_rest"] ["_law_hand_here", "_law_many"] (defScope s__law_draw) := ⟨rfl, rfl, rfl, by decide +kernel, rfl, by decide +kernel, by decide +kernel⟩

abbrev N__law_pick : List Str := ["_law_hand_here", "_law_things"]
abbrev s__law_pick : Stmt := topS 36
theorem sc__law_pick : FnScope ["_law_hand_here", "_law_things"] ["_law_hand_here", "_law_things"] (defScope s__law_pick) := ⟨rfl, rfl, rfl, by decide +kernel, rfl, by decide +kernel, by decide +kernel⟩

abbrev N__law_hand : List Str := ["_law_script", "_law_total", "_law_k", "_law_cell"]
abbrev s__law_hand : Stmt := topS 34
theorem sc__law_hand : FnScope ["_law_script", "_law_total", "_law_k", "_law_cell"] ["_law_script"] (defScope s__law_hand) := ⟨rfl, rfl, rfl, by decide +kernel, rfl, by decide +kernel, by decide +kernel⟩

section
variable {P : Program} {w : World} {K : PySem.W.Frag} {mg : Str → Option Value} {base : Heap}
/-! mix: some number from 0 on -/
def spMix : Sp := fun vs H Q _ => ∃ n t : Int, vs = [.int n, .int t] ∧ ∀ r : Int, 0 ≤ r → Q (.int r) H
theorem ok_mix {f : Addr} {fd : FuncData} (F : Fun K "_law_mix" "_law_mix" s__law_mix f fd) (m_int : mg "int" = none) : FnOk P w K mg base CX0 1 f fd ["_law_number", "_law_turn"] spMix := by
  refine F.ok sc__law_mix (fun vs H Q E h => ?_) (fun cdv A outer s H vs Q E hr h => ?_)
  · obtain ⟨n, t, rfl, _⟩ := h
    rfl
  · obtain ⟨n, t, rfl, q⟩ := h
    refine ⟨_, (pss_cons (ps_set (i := 2) sc__law_mix.nd rfl (by first | exact Or.inl rfl | exact Or.inr rfl) (pe_op op_mod (pe_callTy call_int1 (by rfl) m_int boot_int (pa_cons (pe_op op_add (pe_op op_add (pe_op op_mul (pv 0) pe_int) (pe_op op_mul (pv 1) pe_int)) pe_int) pa_nil)) pe_int))
 (pss_cons (ps_set (i := 3) sc__law_mix.nd rfl (by first | exact Or.inl rfl | exact Or.inr rfl) (pe_op op_mod (pe_callTy call_int1 (by rfl) m_int boot_int (pa_cons (pe_op op_add (pe_op op_add (pe_op op_mul (pv 2) (pv 2)) (pe_op op_mul (pe_op op_fdiv (pv 2) pe_int) pe_int)) (pe_op op_mul (pv 1) pe_int)) pa_nil)) pe_int))
 (pss_one (ps_ret (pe_op op_fdiv (pe_op op_mod (pe_callTy call_int1 (by rfl) m_int boot_int (pa_cons (pe_op op_add (pe_op op_fdiv (pe_op op_mul (pv 3) (pv 3)) pe_int) (pv 2)) pa_nil)) pe_int) pe_int))))), ?_⟩
    have e1 : ∀ z : Int, 0 ≤ z % 2147483647 ∧ z % 2147483647 < 2147483647 := fun z => ⟨Int.emod_nonneg _ (by decide), Int.emod_lt_of_pos _ (by decide)⟩
    have e2 : ∀ z : Int, 0 ≤ z % 2147483399 ∧ z % 2147483399 < 2147483399 := fun z => ⟨Int.emod_nonneg _ (by decide), Int.emod_lt_of_pos _ (by decide)⟩
    refine ⟨_, rfl, _, _, rfl, rfl, .inr ⟨by decide, by decide⟩, _, rfl, _, _, rfl, rfl, .inr ⟨by decide, by decide⟩, _, _, rfl, rfl, _, _, rfl, rfl, .inl ⟨_, rfl, ?_⟩⟩
    refine ⟨_, _, rfl, rfl, show (0 : Int) < _ by decide, ?_⟩
    have b1 := e1 (n * 48271 + t * 16807 + 11)
    refine ⟨_, rfl, _, rfl, _, _, rfl, rfl, .inl ⟨by omega, by omega⟩, _, rfl, _, _, rfl, rfl, ⟨by decide, by decide⟩, _, _, rfl, rfl, .inr ⟨by decide, by decide⟩, _, _, rfl, rfl, _, rfl, _, _, rfl, rfl, .inr ⟨by decide, by decide⟩, _, _, rfl, rfl, .inl ⟨_, rfl, ?_⟩⟩
    refine ⟨_, _, rfl, rfl, show (0 : Int) < _ by decide, ?_⟩
    refine ⟨_, rfl, _, rfl, _, _, rfl, rfl, .inl ⟨by omega, by omega⟩, _, _, rfl, rfl, ⟨by decide, by decide⟩, _, rfl, _, _, rfl, rfl, .inl ⟨_, rfl, _, _, rfl, rfl, show (0 : Int) < _ by decide, _, _, rfl, rfl, ⟨by decide, by decide⟩, ?_⟩⟩
    exact q _ (Int.ediv_nonneg (Int.emod_nonneg _ (by decide)) (by decide))
/-! the hand -/
structure HandB (ns : List Int) (i x t : Int) : Prop where
  len : ns.length ≤ 63
  lo : 0 ≤ i
  hi : i ≤ ns.length
  x0 : 0 ≤ x
  t0 : 0 ≤ t
  pos : ∀ n ∈ ns, 0 ≤ n
def HandO (c : Addr) (i x t : Int) : HO := .lst [.ref c, .int i, .int x, .int t]
def Hand (H : Hp) (a c : Addr) : Prop := ∃ ns i x t, H a = some (HandO c i x t) ∧ H c = some (.lst (ns.map V.int)) ∧ HandB ns i x t
/-- H' is H but for the hand at a, which is a hand still -/
structure Drawn (H H' : Hp) (a c : Addr) : Prop where
  but : ∀ b, b ≠ a → H' b = H b
  hand : Hand H' a c
def spDraw : Sp := fun vs H Q _ => ∃ (a c : Addr) (many : Int), vs = [.ref a, .int many] ∧ Hand H a c ∧ 0 < many ∧ many < 2 ^ 200 ∧ ∀ H' r, Drawn H H' a c → 0 ≤ r → r < many → Q (.int r) H'
theorem hand_ne {H : Hp} {a c : Addr} {ns : List Int} {i x t : Int} (h1 : H a = some (HandO c i x t)) (h2 : H c = some (.lst (ns.map V.int))) : c ≠ a := by
  intro e
  subst e
  rw [h1] at h2
  unfold HandO at h2
  injection h2 with h2
  injection h2 with h2
  cases ns with
  | nil => cases h2
  | cons n r => rw [List.map_cons] at h2; injection h2 with h3 h4; cases h3
theorem drawn_of {H H0 : Hp} {a c : Addr} {ns : List Int} {i x t : Int} (hb : ∀ b, b ≠ a → H0 b = H b) (hc : c ≠ a) (h2 : H c = some (.lst (ns.map V.int))) (B : HandB ns i x t) : Drawn H (upd H0 a (HandO c i x t)) a c :=
  ⟨fun b h => by rw [upd_ne h]; exact hb b h, ⟨ns, i, x, t, upd_same, by rw [upd_ne hc, hb c hc]; exact h2, B⟩⟩
theorem wide200 {many : Int} (h0 : 0 < many) (h1 : many < 2 ^ 200) (i : Int) : CDivW i many := wide_div (b := 200) h0 (by omega) (by decide) (by decide)
theorem ok_draw {f fM : Addr} {fd fdM : FuncData} (F : Fun K "_law_draw" "_law_draw" s__law_draw f fd) (FM : Fun K "_law_mix" "_law_mix" s__law_mix fM fdM) (g_law_mix : mg "_law_mix" = some (.ref fM)) (b_law_mix : Binds K fdM ["_law_number", "_law_turn"] [])
    (m_int : mg "int" = none) (m_len : mg "len" = none) : FnOk P w K mg base CX0 2 f fd ["_law_hand_here", "_law_many"] spDraw := by
  have G_law_mix : FnOk P w K mg base CX0 1 fM fdM ["_law_number", "_law_turn"] spMix := ok_mix FM m_int
  have k_law_mix := FM.kp
  refine F.ok sc__law_draw (fun vs H Q E h => ?_) (fun cdv A outer s H vs Q E hr h => ?_)
  · obtain ⟨a, c, n, rfl, _⟩ := h
    rfl
  · obtain ⟨a, c, many, rfl, ⟨ns, i, x, t, h1, h2, B⟩, hm0, hm1, q⟩ := h
    have hr_law_mix := hr
    have hc := hand_ne h1 h2
    refine ⟨_, (Evl.pss_cut (ps_if (pw_and (pt_cmpR op_eq (pe_ix ix_list (pv 0) pe_int (fun _ _ => rfl)) pe_int (nomark _)) (pw_and1 (pt_cmpR op_lt (pe_ix ix_list (pv 0) pe_int (fun _ _ => rfl)) (pe_callB call_len_seq (by rfl) m_len boot_len (pa_cons (pe_ix ix_list (pv 0) pe_int (fun _ _ => rfl)) pa_nil)) (nomark _)))).pt
  (pss_cons (ps_set (i := 2) sc__law_draw.nd rfl (by first | exact Or.inl rfl | exact Or.inr rfl) (pe_ix ix_list (pe_ix ix_list (pv 0) pe_int (fun _ _ => rfl)) (pe_ix ix_list (pv 0) pe_int (fun _ _ => rfl)) (fun _ _ => rfl)))
 (pss_cons (ps_asg (pe_op op_add (pe_ix ix_list (pv 0) pe_int (fun _ _ => rfl)) pe_int) (pg_sub (pv 0) pe_int set_list))
 (pss_cons (ps_if (pt_cmpR op_lt (pv 2) (pe_op op_pow pe_int pe_int) (nomark _))
  (pss_one (ps_ret (pe_op op_mod (pe_callTy call_int1 (by rfl) m_int boot_int (pa_cons (pe_call G_law_mix hr_law_mix (by rfl) g_law_mix k_law_mix b_law_mix .nil pass0 (pa_cons (pe_op op_mod (pe_callTy call_int1 (by rfl) m_int boot_int (pa_cons (pv 2) pa_nil)) pe_int) (pa_cons (pe_ix ix_list (pv 0) pe_int (fun _ _ => rfl)) pa_nil))) pa_nil)) (pv 1))))
  pss_nil)
 (pss_one (ps_asg (pv 2) (pg_sub (pv 0) pe_int set_list))))))
  pss_nil)
 (pss_cons (ps_if (pt_cmpR op_gt (pe_ix ix_list (pv 0) pe_int (fun _ _ => rfl)) pe_int (nomark _))
  (pss_cons (ps_set (i := 3) sc__law_draw.nd rfl (by first | exact Or.inl rfl | exact Or.inr rfl) (pe_ix ix_list (pv 0) pe_int (fun _ _ => rfl)))
 (pss_cons (ps_asg (pe_op op_fdivW (pv 3) (pv 1)) (pg_sub (pv 0) pe_int set_list))
 (pss_one (ps_ret (pe_op op_mod (pe_callTy call_int1 (by rfl) m_int boot_int (pa_cons (pv 3) pa_nil)) (pv 1))))))
  pss_nil)
 (pss_cons (ps_asg (pe_op op_mod (pe_callTy call_int1 (by rfl) m_int boot_int (pa_cons (pe_op op_add (pe_ix ix_list (pv 0) pe_int (fun _ _ => rfl)) pe_int) pa_nil)) pe_int) (pg_sub (pv 0) pe_int set_list))
 (pss_one (ps_ret (pe_op op_mod (pe_callTy call_int1 (by rfl) m_int boot_int (pa_cons (pe_call G_law_mix hr_law_mix (by rfl) g_law_mix k_law_mix b_law_mix .nil pass0 (pa_cons (pe_ix ix_list (pv 0) pe_int (fun _ _ => rfl)) (pa_cons (pe_ix ix_list (pv 0) pe_int (fun _ _ => rfl)) pa_nil))) pa_nil)) (pv 1))))))), ?_⟩
    have hS : SqL K H a [.ref c, .int i, .int x, .int t] := .inl (.inl h1)
    have hC : SqL K H c (ns.map V.int) := .inl (.inl h2)
    have last : ∀ (i' : Int) (σ : L2.St) , 0 ≤ i' → i' ≤ ns.length → True := fun _ _ _ _ => trivial
    refine ⟨fun σ' H' => ∃ i' x' y2, σ' = [some (.ref a), some (.int many), y2, none] ∧ (∀ b, b ≠ a → H' b = H b) ∧ H' a = some (HandO c i' x' t) ∧ HandB ns i' x' t, ?_, fun σ' H' hM => ?_⟩
    refine ⟨.ref a, rfl, a, _, _, _, rfl, rfl, hS, rfl, rfl, _, rfl, ite2 (fun e => ?_) (fun e => ?_)⟩
    · have ex : x = 0 := V.int.inj (of_decide_eq_true e)
      subst ex
      refine ⟨.ref a, rfl, a, _, _, _, rfl, rfl, hS, rfl, .ref a, rfl, a, _, _, _, rfl, rfl, hS, rfl, c, _, rfl, .inl hC, _, _, rfl, rfl, _, rfl, ite2 (fun e => ?_) (fun e => ?_)⟩
      · have hi : i < ((ns.map V.int).length : Int) := of_decide_eq_true e
        rw [List.length_map] at hi
        have hlo := B.lo
        obtain ⟨j, rfl⟩ : ∃ j : Nat, i = (j : Int) := ⟨i.toNat, by omega⟩
        have hj : j < ns.length := by omega
        have gj : (ns.map V.int)[j]? = some (.int ns[j]) := by
          rw [List.getElem?_map, List.getElem?_eq_getElem hj]
          rfl
        have p0 : 0 ≤ ns[j] := B.pos _ (List.getElem_mem hj)
        refine ⟨.ref a, rfl, a, _, _, _, rfl, rfl, hS, rfl, .ref a, rfl, a, _, _, _, rfl, rfl, hS, rfl, c, _, _, _, rfl, rfl, hC, atI_nat gj, ?_⟩
        refine ⟨.ref a, rfl, a, _, _, _, rfl, rfl, hS, rfl, _, _, rfl, rfl, .ref a, rfl, a, _, _, _, rfl, rfl, h1, rfl, ?_⟩
        have hS2 : SqL K (upd H a (HandO c (j + 1) 0 t)) a [.ref c, .int (j + 1), .int 0, .int t] := .inl (.inl upd_same)
        refine ⟨_, rfl, _, _, rfl, rfl, ⟨by decide, by decide, by decide⟩, _, _, rfl, rfl, _, rfl, ite2 (fun e => ?_) (fun e => ?_)⟩
        · refine ⟨_, rfl, .inl ⟨_, rfl, _, _, rfl, rfl, show (0 : Int) < _ by decide, .ref a, rfl, a, _, _, _, rfl, rfl, hS2, rfl, _, _, rfl, fun r r0 => .inl ⟨_, rfl, _, rfl, _, _, rfl, rfl, hm0, ?_⟩⟩⟩
          exact q _ _ (drawn_of (H0 := H) (fun _ _ => rfl) hc h2 ⟨B.len, by omega, by omega, by decide, B.t0, B.pos⟩) (Int.emod_nonneg _ (by omega)) (Int.emod_lt_of_pos _ hm0)
        · refine ⟨_, rfl, .ref a, rfl, a, _, _, _, rfl, rfl, upd_same, rfl, ?_⟩
          refine ⟨_, _, _, rfl, fun b hb => by rw [upd_ne hb, upd_ne hb], upd_same, ⟨B.len, by omega, by omega, p0, B.t0, B.pos⟩⟩
      · exact ⟨i, 0, none, rfl, fun _ _ => rfl, h1, B⟩
    · exact ⟨i, x, none, rfl, fun _ _ => rfl, h1, B⟩
    · obtain ⟨i', x', y2, rfl, hb, h1', B'⟩ := hM
      have h2' : H' c = some (.lst (ns.map V.int)) := by rw [hb c hc]; exact h2
      have hS' : SqL K H' a [.ref c, .int i', .int x', .int t] := .inl (.inl h1')
      refine ⟨.ref a, rfl, a, _, _, _, rfl, rfl, hS', rfl, _, _, rfl, rfl, _, rfl, ite2 (fun e => ?_) (fun e => ?_)⟩
      · refine ⟨.ref a, rfl, a, _, _, _, rfl, rfl, hS', rfl, _, rfl, _, rfl, _, _, rfl, rfl, wide200 hm0 hm1 _, .ref a, rfl, a, _, _, _, rfl, rfl, h1', rfl, ?_⟩
        refine ⟨_, rfl, .inl ⟨_, rfl, _, rfl, _, _, rfl, rfl, hm0, ?_⟩⟩
        exact q _ _ (drawn_of (H0 := H') hb hc h2 ⟨B.len, B'.lo, B'.hi, Int.ediv_nonneg B'.x0 (by omega), B.t0, B.pos⟩) (Int.emod_nonneg _ (by omega)) (Int.emod_lt_of_pos _ hm0)
      · refine ⟨.ref a, rfl, a, _, _, _, rfl, rfl, hS', rfl, _, _, rfl, rfl, .inl ⟨_, rfl, _, _, rfl, rfl, show (0 : Int) < _ by decide, .ref a, rfl, a, _, _, _, rfl, rfl, h1', rfl, ?_⟩⟩
        have hS3 : SqL K (upd H' a (HandO c i' x' ((t + 1) % 2147483629))) a [.ref c, .int i', .int x', .int ((t + 1) % 2147483629)] := .inl (.inl upd_same)
        refine ⟨.ref a, rfl, a, _, _, _, rfl, rfl, hS3, rfl, .ref a, rfl, a, _, _, _, rfl, rfl, hS3, rfl, _, _, rfl, fun r r0 => .inl ⟨_, rfl, _, rfl, _, _, rfl, rfl, hm0, ?_⟩⟩
        exact q _ _ (drawn_of (H0 := H') hb hc h2 ⟨B.len, B'.lo, B'.hi, B'.x0, Int.emod_nonneg _ (by decide), B.pos⟩) (Int.emod_nonneg _ (by omega)) (Int.emod_lt_of_pos _ hm0)
theorem Hand.same {H H' : Hp} {a c : Addr} (h : Hand H a c) (e : Same H H') : Hand H' a c := by
  obtain ⟨ns, i, x, t, h1, h2, B⟩ := h
  exact ⟨ns, i, x, t, e _ _ h1, e _ _ h2, B⟩
theorem Hand.upd {H : Hp} {a c l : Addr} {o : HO} (h : Hand H a c) (h1 : l ≠ a) (h2 : l ≠ c) : Hand (upd H l o) a c := by
  obtain ⟨ns, i, x, t, e1, e2, B⟩ := h
  exact ⟨ns, i, x, t, by rw [upd_ne h1.symm]; exact e1, by rw [upd_ne h2.symm]; exact e2, B⟩
theorem Hand.ne {H : Hp} {a c l : Addr} (h : Hand H a c) (n : H l = none) : l ≠ a ∧ l ≠ c := by
  obtain ⟨ns, i, x, t, e1, e2, B⟩ := h
  exact ⟨(ne_of_none e1 n).symm, (ne_of_none e2 n).symm⟩
/-- an item of a list -/
def spPick : Sp := fun vs H Q _ => ∃ (a c l : Addr) (xs : List V), vs = [.ref a, .ref l] ∧ Hand H a c ∧ l ≠ a ∧ H l = some (.lst xs) ∧ 0 < xs.length ∧ xs.length ≤ 1000 ∧ ∀ H' (j : Nat) v, Drawn H H' a c → xs[j]? = some v → Q v H'
theorem ok_pick {f fD : Addr} {fd fdD : FuncData} (F : Fun K "_law_pick" "_law_pick" s__law_pick f fd) (k_law_draw : PySem.W.keepIn K (.ref fD) = true) (G_law_draw : FnOk P w K mg base CX0 2 fD fdD ["_law_hand_here", "_law_many"] spDraw) (g_law_draw : mg "_law_draw" = some (.ref fD)) (b_law_draw : Binds K fdD ["_law_hand_here", "_law_many"] [])
    (m_len : mg "len" = none) : FnOk P w K mg base CX0 3 f fd ["_law_hand_here", "_law_things"] spPick := by
  refine F.ok sc__law_pick (fun vs H Q E h => ?_) (fun cdv A outer s H vs Q E hr h => ?_)
  · obtain ⟨a, c, l, xs, rfl, _⟩ := h
    rfl
  · obtain ⟨a, c, l, xs, rfl, hh, hla, hl, h0, h1, q⟩ := h
    have hr_law_draw := hr
    refine ⟨_, (pss_one (ps_ret (pe_ix ix_list (pv 1) (pe_call G_law_draw hr_law_draw (by rfl) g_law_draw k_law_draw b_law_draw .nil pass0 (pa_cons (pv 0) (pa_cons (pe_callB call_len_seq (by rfl) m_len boot_len (pa_cons (pv 1) pa_nil)) pa_nil))) (fun _ _ => rfl)))), ?_⟩
    have hm : ((xs.length : Nat) : Int) < 2 ^ 200 := Int.lt_of_le_of_lt (show ((xs.length : Nat) : Int) ≤ 1000 by omega) (by decide)
    refine ⟨.ref l, rfl, .ref a, rfl, .ref l, rfl, l, _, rfl, .inl (.inl (.inl hl)), a, c, _, rfl, hh, by omega, hm, fun H' r d r0 r1 => ?_⟩
    obtain ⟨j, rfl⟩ : ∃ j : Nat, r = (j : Int) := ⟨r.toNat, by omega⟩
    have hj : j < xs.length := by omega
    have e : xs[j]? = some xs[j] := List.getElem?_eq_getElem hj
    have hl' : H' l = some (.lst xs) := by rw [d.but l hla]; exact hl
    exact ⟨l, xs, _, _, rfl, rfl, .inl (.inl hl'), atI_nat e, q H' j _ d e⟩
/-- the hand of a script -/
def spHand (K : PySem.W.Frag) : Sp := fun vs H Q _ => ∃ (s : Addr) (ns : List Int), vs = [.ref s] ∧ SqL K H s (ns.map V.int) ∧ ns.length ≤ 63 ∧ ∀ H' a c, Same H H' → H a = none → H c = none → Hand H' a c → Q (.ref a) H'
theorem ok_hand {f : Addr} {fd : FuncData} (F : Fun K "_law_hand" "_law_hand" s__law_hand f fd) (m_int : mg "int" = none) (m_abs : mg "abs" = none) (m_enumerate : mg "enumerate" = none) : FnOk P w K mg base CX0 1 f fd ["_law_script"] (spHand K) := by
  refine F.ok sc__law_hand (fun vs H Q E h => ?_) (fun cdv A outer s H vs Q E hr h => ?_)
  · obtain ⟨a, ns, rfl, _⟩ := h
    rfl
  · obtain ⟨a, ns, rfl, hS, hlen, q⟩ := h
    refine ⟨_, (pss_cons (ps_set (i := 1) sc__law_hand.nd rfl (by first | exact Or.inl rfl | exact Or.inr rfl) pe_int)
 (pss_cons (ps_for PassesOwn.never rfl (pi_enum (by rfl) m_enumerate (pa_cons (pv 0) pa_nil)) (pg_tup rfl (pgs_cons (pg_name (i := 2) sc__law_hand.nd rfl (by first | exact Or.inl rfl | exact Or.inr rfl)) (pgs_cons (pg_name (i := 3) sc__law_hand.nd rfl (by first | exact Or.inl rfl | exact Or.inr rfl)) pgs_nil)))
  (pss_one (ps_set (i := 1) sc__law_hand.nd rfl (by first | exact Or.inl rfl | exact Or.inr rfl) (pe_op op_mod (pe_callTy call_int1 (by rfl) m_int boot_int (pa_cons (pe_op op_add (pe_op op_mul (pv 1) pe_int) (pe_op op_mul (pe_callTy call_int1 (by rfl) m_int boot_int (pa_cons (pv 3) pa_nil)) (pe_op op_add (pv 2) pe_int))) pa_nil)) pe_int))))
 (pss_one (ps_ret (pe_lst (pa_cons (pe_lc (own := [("_law_cell", 3)]) (g := gName 3) (tt := tYes) rfl sc__law_hand.nd (pi_list (pv 0)) (blkOk_by (own := [("_law_cell", 3)]) (N := N__law_hand) (sc := defScope s__law_hand) (by decide +kernel)) (fun _ _ _ _ _ => (pg_name (i := 3) sc__law_hand.nd rfl (by first | exact Or.inl rfl | exact Or.inr rfl))) (fun _ _ _ _ _ => pts_nil) (fun _ _ _ _ _ => (pe_callB call_abs (by rfl) m_abs boot_abs (pa_cons (pe_callTy call_int1 (by rfl) m_int boot_int (pa_cons (pv 3) pa_nil)) pa_nil)))) (pa_cons pe_int (pa_cons pe_int (pa_cons (pv 1) pa_nil))))))))), ?_⟩
    have hlen' : (ns.map V.int).length = ns.length := List.length_map ..
    refine ⟨.ref a, rfl, a, _, rfl, hS, for_it (walk_enum (xs := ns.map V.int)) (fun i σ H' => ∃ tot y2 y3, σ = [some (.ref a), some (.int tot), y2, y3] ∧ 0 ≤ tot ∧ tot < 2147483629 ∧ Same H H') ⟨0, none, none, rfl, by decide, by decide, Same.refl H⟩ (fun i σ H' _ p => ?_) (fun i v σ H' H'' hi p y => ?_) (fun σ H1 p => ?_)⟩
    · obtain ⟨tot, y2, y3, rfl, _, _, e⟩ := p
      exact e.seq hS
    · obtain ⟨tot, y2, y3, rfl, t0, t1, e⟩ := p
      obtain ⟨T, x, y, rfl, nT, rfl, ex, ey⟩ := y
      rw [hlen'] at hi
      obtain rfl : .int (i : Nat) = x := Option.some.inj ex
      obtain ⟨n, rfl⟩ : ∃ n : Int, y = .int n := by
        have ey : (ns.map V.int)[i]? = some y := ey
        rw [List.getElem?_map, List.getElem?_eq_getElem hi] at ey
        exact ⟨_, (Option.some.inj ey).symm⟩
      refine ⟨T, _, rfl, .inl (.inl upd_same), rfl, _, _, rfl, _, _, rfl, rfl, ?_⟩
      refine ⟨_, rfl, _, _, rfl, rfl, .inr ⟨by decide, by decide⟩, _, rfl, .inl ⟨_, rfl, _, rfl, _, _, rfl, rfl, _, _, rfl, rfl, .inr ⟨by omega, by omega⟩, _, _, rfl, rfl, .inl ⟨_, rfl, _, _, rfl, rfl, show (0 : Int) < _ by decide, ?_⟩⟩⟩
      refine ⟨_, _, _, rfl, Int.emod_nonneg _ (by decide), Int.emod_lt_of_pos _ (by decide), e.trans fun b z hz => ?_⟩
      rw [upd_ne (ne_of_none hz nT)]
      exact hz
    · obtain ⟨tot, y2, y3, rfl, t0, t1, e⟩ := p
      have hS1 : SqL K H1 a (ns.map V.int) := e.seq hS
      refine ⟨.ref a, rfl, a, rfl, ⟨_, hS1⟩, fun D hD => lc_list (xs := ns.map V.int) (fun i H2 => Same H1 H2 ∧ H2 D = some (.lst ((ns.take i).map fun n => .int (if n < 0 then -n else n)))) ⟨fun b z hz => ?_, upd_same⟩ (fun i H2 _ p => p.1.seq hS1) (fun i x H2 hx p => ?_) (fun H2 p => ?_)⟩
      · rw [upd_ne (ne_of_none hz hD)]
        exact hz
      · obtain ⟨e2, hd⟩ := p
        rw [List.getElem?_map] at hx
        obtain ⟨n, hn, rfl⟩ := Option.map_eq_some_iff.mp hx
        refine ⟨rfl, ?_⟩
        refine ⟨_, rfl, .inl ⟨_, rfl, _, rfl, _, hd, ?_, fun b z hz => ?_, ?_⟩⟩
        · rw [List.length_map, List.length_take]
          exact Nat.lt_of_le_of_lt (Nat.min_le_right _ _) (small1000 (by omega))
        · rw [upd_ne (ne_of_none hz hD)]
          exact e2 _ _ hz
        · rw [upd_same, List.take_add_one, hn, List.map_append]
          rfl
      · obtain ⟨e2, hd⟩ := p
        rw [hlen', List.take_length] at hd
        refine ⟨_, rfl, by show 4 ≤ sizeLine; decide, fun p hp => ?_⟩
        have npD : D ≠ p := ne_of_none hd hp
        refine q _ p D ?_ ((e.trans e2).free hp) (e.free hD) ⟨ns.map fun n => if n < 0 then -n else n, 0, 0, tot, upd_same, ?_, ?_⟩
        · exact fun b z hz => by
            rw [upd_ne (ne_of_none ((e.trans e2) _ _ hz) hp)]
            exact (e.trans e2) _ _ hz
        · rw [upd_ne npD, hd, List.map_map]
          rfl
        · refine ⟨by rw [List.length_map]; exact hlen, by decide, by omega, by decide, t0, fun n hn => ?_⟩
          obtain ⟨m, _, rfl⟩ := List.mem_map.mp hn
          split <;> omega
end
end K7
end
/-! ## P2 -/
section
open PySem PySem.Spec PyProof.Rows L2
namespace K7
abbrev N__law_lots : List Str := ["_law_cells", "_law_found", "_law_last", "_law_turn", "_law_grown", "_law_lot", "_law_cell"]
abbrev s__law_lots : Stmt := topS 37
theorem sc__law_lots : FnScope ["_law_cells", "_law_found", "_law_last", "_law_turn", "_law_grown", "_law_lot", "_law_cell"] ["_law_cells"] (defScope s__law_lots) := ⟨rfl, rfl, rfl, by decide +kernel, rfl, by decide +kernel, by decide +kernel⟩

theorem same_new {H H' : Hp} {p : Addr} {o : HO} (e : Same H H') (h : H' p = none) : Same H (upd H' p o) := fun b z hz => by
  have h2 := e _ _ hz
  rw [upd_ne (ne_of_none h2 h)]
  exact h2
def But (x : Addr) (H H' : Hp) : Prop := ∀ b o, b ≠ x → H b = some o → H' b = some o
/-! ### all lots of the cells -/
def grow1 (cells lot : List Nat) : List (List Nat) := (cells.filter fun c => lot.isEmpty || decide (lot.getLastD 0 < c)).map fun c => lot ++ [c]
def level (cells : List Nat) : Nat → List (List Nat)
  | 0 => [[]]
  | k + 1 => (level cells k).flatMap (grow1 cells)
def lotsTo (cells : List Nat) : Nat → List (List Nat)
  | 0 => [[]]
  | k + 1 => lotsTo cells k ++ level cells (k + 1)
theorem level_len : ∀ n : Fin 6, ∀ k : Fin 7, (level (List.range n.val) k.val).length ≤ 10 ∧ (lotsTo (List.range n.val) k.val).length ≤ 32 := by decide +kernel
theorem level_lot : ∀ n : Fin 6, ∀ k : Fin 7, (level (List.range n.val) k.val).all (fun l => decide (l.length ≤ 990)) = true := by decide +kernel
theorem lot_len {n t i : Nat} {lot : List Nat} (hn : n ≤ 5) (ht : t ≤ 6) (h : (level (List.range n) t)[i]? = some lot) : lot.length ≤ 990 := by
  have := List.all_eq_true.mp (level_lot ⟨n, by omega⟩ ⟨t, by omega⟩) lot (List.mem_of_getElem? h)
  exact of_decide_eq_true this
/-- tuples of cells at these places -/
inductive TAt (H : Hp) : List Addr → List (List Nat) → Prop
  | nil : TAt H [] []
  | cons {t : Addr} {l : List Nat} {ts : List Addr} {ls : List (List Nat)} (h : H t = some (.tup (l.map fun c => .int (c : Nat)))) (r : TAt H ts ls) : TAt H (t :: ts) (l :: ls)
theorem TAt.same {H H' : Hp} (e : Same H H') : ∀ {ts ls}, TAt H ts ls → TAt H' ts ls
  | _, _, .nil => .nil
  | _, _, .cons h r => .cons (e _ _ h) (r.same e)
theorem TAt.mono {H H' : Hp} (e : ∀ b xs, H b = some (.tup xs) → H' b = some (.tup xs)) : ∀ {ts ls}, TAt H ts ls → TAt H' ts ls
  | _, _, .nil => .nil
  | _, _, .cons h r => .cons (e _ _ h) (r.mono e)
theorem TAt.append {H : Hp} : ∀ {ts ls us ms}, TAt H ts ls → TAt H us ms → TAt H (ts ++ us) (ls ++ ms)
  | _, _, _, _, .nil, r => r
  | _, _, _, _, .cons h q, r => .cons h (q.append r)
theorem TAt.len {H : Hp} : ∀ {ts ls}, TAt H ts ls → ts.length = ls.length
  | _, _, .nil => rfl
  | _, _, .cons _ r => congrArg Nat.succ r.len
theorem TAt.get {H : Hp} : ∀ {ts ls} {i : Nat} {t : Addr}, TAt H ts ls → ts[i]? = some t → ∃ l, ls[i]? = some l ∧ H t = some (.tup (l.map fun c => .int (c : Nat)))
  | _, _, 0, _, .cons h r, e => by
    cases e
    exact ⟨_, rfl, h⟩
  | _, _, i + 1, _, .cons h r, e => r.get (i := i) e
def ints_ (l : List Nat) : List V := l.map fun c => .int (c : Nat)
def intD (l : List Nat) : PyData := .tuple (l.map fun c => .int (c : Nat))
theorem dp_ints {K : PySem.W.Frag} {H : Hp} : ∀ l : List Nat, DpAll K H (l.map fun c => .int (c : Nat)) (l.map fun c => PyData.int (c : Nat))
  | [] => .nil
  | x :: l => .cons (.int _) (dp_ints l)
theorem shaped_ints (l : List Nat) : SeqAt.shaped (intD l) = true := by
  have h1 : ∀ l : List Nat, PyData.canLayAll0 (l.map fun c => PyData.int (c : Nat)) = true ∧ PyData.depthAll (l.map fun c => PyData.int (c : Nat)) = 0 := fun l => by
    induction l with
    | nil => exact ⟨by simp [PyData.canLayAll0], by simp [PyData.depthAll]⟩
    | cons x r ih => exact ⟨by simp [PyData.canLayAll0, PyData.canLay0, ih.1], by simp [PyData.depthAll, PyData.depth, ih.2]⟩
  show ((PyData.canLay0 (intD l)) && decide (PyData.depth (intD l) ≤ 64)) = true
  simp [intD, PyData.canLay0, PyData.depth, (h1 l).1, (h1 l).2]
theorem eqv_empty (l : List Nat) : PyData.eqv (intD l) (.tuple []) = l.isEmpty := by
  cases l with
  | nil => simp [intD, PyData.eqv, PyData.eqvAll]
  | cons x r => simp [intD, PyData.eqv, PyData.eqvAll]
theorem last_get : ∀ (r : List Nat) (x : Nat), (x :: r)[r.length]? = some (r.getLastD x)
  | [], x => rfl
  | y :: r, x => by
    rw [List.getLastD_cons]
    exact last_get r y
theorem last_at {l : List Nat} (h : l.isEmpty = false) : atI (ints_ l) (-1) = some (.int (l.getLastD 0 : Nat)) := by
  cases l with
  | nil => cases h
  | cons x r =>
    have hl : (ints_ (x :: r)).length = r.length + 1 := by unfold ints_; rw [List.length_map]; rfl
    unfold atI
    rw [hl]
    have e : ixN (r.length + 1) (-1) = some r.length := by
      unfold ixN
      simp
      omega
    rw [e]
    show (ints_ (x :: r))[r.length]? = _
    unfold ints_
    rw [List.getElem?_map]
    have e2 : (x :: r)[r.length]? = some ((x :: r).getLastD 0) := by
      rw [List.getLastD_cons]
      exact last_get r x
    rw [e2]
    rfl
section
variable {P : Program} {w : World} {K : PySem.W.Frag} {mg : Str → Option Value} {base : Heap}
def spLots : Sp := fun vs H Q _ => ∃ (r : Addr) (n : Nat), vs = [.ref r] ∧ n ≤ 5 ∧ H r = some (.lst (ints_ (List.range n))) ∧ ∀ H' q ts, Same H H' → H q = none → H' q = some (.lst (ts.map V.ref)) → TAt H' ts (lotsTo (List.range n) n) → Q (.ref q) H'
theorem ok_lots {f : Addr} {fd : FuncData} (F : Fun K "_law_lots" "_law_lots" s__law_lots f fd) (m_range : mg "range" = none) (m_len : mg "len" = none) (m_list : mg "list" = none) : FnOk P w K mg base CX0 1 f fd ["_law_cells"] spLots := by
  refine F.ok sc__law_lots (fun vs H Q E h => ?_) (fun cdv A outer s H vs Q E hr h => ?_)
  · obtain ⟨r, n, rfl, _⟩ := h
    rfl
  · obtain ⟨r, n, rfl, hn, hr0, q⟩ := h
    refine ⟨_, (pss_cons (ps_par (by rfl) sc__law_lots.nd (i := 1) (j := 2) rfl rfl (by decide) rfl rfl (pa_cons (pe_lst (pa_cons (pe_tup pa_nil) pa_nil)) (pa_cons (pe_lst (pa_cons (pe_tup pa_nil) pa_nil)) pa_nil)) (by rfl))
 (pss_cons (ps_for PassesOwn.never rfl (pi_range1 rfl m_range (pa_cons (pe_callB call_len_seq (by rfl) m_len boot_len (pa_cons (pv 0) pa_nil)) pa_nil)) (pg_name (i := 3) sc__law_lots.nd rfl (by first | exact Or.inl rfl | exact Or.inr rfl))
  (pss_cons (ps_set (i := 4) sc__law_lots.nd rfl (by first | exact Or.inl rfl | exact Or.inr rfl) (pe_lst pa_nil))
 (pss_cons (ps_for PassesOwn.never rfl (pi_list (pv 2)) (pg_name (i := 5) sc__law_lots.nd rfl (by first | exact Or.inl rfl | exact Or.inr rfl))
  (pss_one (ps_for PassesOwn.never rfl (pi_list (pv 0)) (pg_name (i := 6) sc__law_lots.nd rfl (by first | exact Or.inl rfl | exact Or.inr rfl))
  (pss_one (ps_if (pw_or (pt_cmpR (op_eqD hr.units) (pv 5) (pe_tup pa_nil) (nomark _)) (pw_or1 (pt_cmpR op_gt (pv 6) (pe_ix ix_tup (pv 5) (pe_un un_neg pe_int) (fun _ _ => rfl)) (nomark _)))).pt
  (pss_one (ps_expr (pe_bm PySem.F.plainAttrs_list PySem.F.slot_list_append PySem.F.type_list_append mt_append (pv 4) (pa_cons (pe_op op_catA (pv 5) (pe_tup (pa_cons (pv 6) pa_nil))) pa_nil))))
  pss_nil)))))
 (pss_cons (ps_expr (pe_bm PySem.F.plainAttrs_list PySem.F.slot_list_extend PySem.F.type_list_extend mt_extend (pv 1) (pa_cons (pv 4) pa_nil)))
 (pss_one (ps_set (i := 2) sc__law_lots.nd rfl (by first | exact Or.inl rfl | exact Or.inr rfl) (pe_callTy call_list_of (by rfl) m_list boot_list (pa_cons (pv 4) pa_nil))))))))
 (pss_one (ps_ret (pv 1))))), ?_⟩
    have hlen : (ints_ (List.range n)).length = n := by unfold ints_; rw [List.length_map, List.length_range]
    refine ⟨by show 0 ≤ sizeLine; decide, fun e0 ne0 => ⟨by show 1 ≤ sizeLine; decide, fun F0 nF0 => ⟨by show 0 ≤ sizeLine; decide, fun e1 ne1 => ⟨by show 1 ≤ sizeLine; decide, fun L0 nL0 => ?_⟩⟩⟩⟩
    have s1 : Same H (upd H e0 (.tup [])) := same_new (Same.refl H) ne0
    have s2 : Same (upd H e0 (.tup [])) (upd (upd H e0 (.tup [])) F0 (.lst [.ref e0])) := same_new (Same.refl _) nF0
    generalize hA : upd (upd H e0 (.tup [])) F0 (.lst [.ref e0]) = HA at s2 ne1 nL0 ⊢
    have hF : HA F0 = some (.lst [.ref e0]) := by rw [← hA]; exact upd_same
    have he0 : HA e0 = some (.tup []) := s2 _ _ upd_same
    have s3 : Same HA (upd HA e1 (.tup [])) := same_new (Same.refl _) ne1
    have s4 : Same (upd HA e1 (.tup [])) (upd (upd HA e1 (.tup [])) L0 (.lst [.ref e1])) := same_new (Same.refl _) nL0
    have hL : upd (upd HA e1 (.tup [])) L0 (.lst [.ref e1]) L0 = some (.lst [.ref e1]) := upd_same
    have he1 := s4 _ _ (show upd HA e1 (.tup []) e1 = some (.tup []) from upd_same)
    have hFL : F0 ≠ L0 := ne_of_none (s3 _ _ hF) nL0
    have hF2 := s4 _ _ (s3 _ _ hF)
    have he02 := s4 _ _ (s3 _ _ he0)
    have sB := s1.trans (s2.trans (s3.trans s4))
    generalize upd (upd HA e1 (.tup [])) L0 (.lst [.ref e1]) = HB at hL he1 hF2 he02 sB ⊢
    refine ⟨_, _, rfl, ?_⟩
    have hFn : H F0 = none := s1.free nF0
    refine ⟨_, rfl, r, _, rfl, .inl (.inl (.inl (sB _ _ hr0))), _, rfl, by omega, by omega, for_range (fun t σ H' => t ≤ n ∧ ∃ La fs las y3 y4 y5 y6, σ = [some (.ref r), some (.ref F0), some (.ref La), y3, y4, y5, y6] ∧ Same H H' ∧ H' F0 = some (.lst (fs.map V.ref)) ∧ H' La = some (.lst (las.map V.ref)) ∧ La ≠ F0 ∧ TAt H' fs (lotsTo (List.range n) t) ∧ TAt H' las (level (List.range n) t)) ⟨Nat.zero_le _, L0, [e0], [e1], none, none, none, none, rfl, sB, hF2, hL, hFL.symm, .cons he02 .nil, .cons he1 .nil⟩ (fun t σ H' ht pv => ?_) (fun σ H' pv => ?_)⟩
    · obtain ⟨_, La, fs, las, y3, y4, y5, y6, rfl, e, hF', hLa, nLF, tF, tL⟩ := pv
      rw [hlen] at ht
      have ht : t < n := by simpa using ht
      refine ⟨by show 0 ≤ sizeLine; decide, fun G nG => ?_⟩
      have gF : F0 ≠ G := ne_of_none hF' nG
      have gL : La ≠ G := ne_of_none hLa nG
      have eG : Same H' (upd H' G (.lst [])) := same_new (Same.refl H') nG
      obtain ⟨lv, lt5⟩ := level_len ⟨n, by omega⟩ ⟨t, by omega⟩
      obtain ⟨lv2, lt6⟩ := level_len ⟨n, by omega⟩ ⟨t + 1, by omega⟩
      have lv : (level (List.range n) t).length ≤ 10 := lv
      refine ⟨_, rfl, La, rfl, ⟨_, .inl (.inl (eG _ _ hLa))⟩, for_list (xs := las.map V.ref) (fun i σ H2 => ∃ gs y5 y6, σ = [some (.ref r), some (.ref F0), some (.ref La), some (.int (0 + (t : Nat))), some (.ref G), y5, y6] ∧ But G H' H2 ∧ H2 G = some (.lst (gs.map V.ref)) ∧ TAt H2 gs (((level (List.range n) t).take i).flatMap (grow1 (List.range n))) ∧ gs.length ≤ 5 * i)
        ⟨[], y5, y6, rfl, fun b o hb hz => by rw [upd_ne hb]; exact hz, upd_same, .nil, Nat.le_refl _⟩ (fun i σ H2 _ pv => ?_) (fun i x σ H2 hx pv => ?_) (fun σ H2 pv => ?_)⟩
      · obtain ⟨gs, y5, y6, rfl, bt, hG, tG, hg⟩ := pv
        exact .inl (.inl (bt _ _ gL hLa))
      · obtain ⟨gs, y5, y6, rfl, bt, hG, tG, hg⟩ := pv
        rw [List.getElem?_map] at hx
        obtain ⟨ti, hti, rfl⟩ := Option.map_eq_some_iff.mp hx
        obtain ⟨lot, elot, hlot⟩ := tL.get hti
        have hi10 : i < 10 := by
          have := (List.getElem?_eq_some_iff.mp elot).1
          omega
        have tG' : ∀ {b : Addr} {xs : List V}, H' b = some (.tup xs) → H2 b = some (.tup xs) := fun {b xs} hb => bt b _ (ne_of_none hb nG) hb
        have hr2 : H2 r = some (.lst (ints_ (List.range n))) := bt _ _ (ne_of_none (e _ _ hr0) nG) (e _ _ hr0)
        have nrG : r ≠ G := ne_of_none (e _ _ hr0) nG
        refine ⟨_, rfl, r, rfl, ⟨_, .inl (.inl hr2)⟩, for_list (xs := ints_ (List.range n)) (fun j σ H3 => ∃ gs' y6, σ = [some (.ref r), some (.ref F0), some (.ref La), some (.int (0 + (t : Nat))), some (.ref G), some (.ref ti), y6] ∧ But G H' H3 ∧ H3 G = some (.lst (gs'.map V.ref)) ∧ TAt H3 gs' (((level (List.range n) t).take i).flatMap (grow1 (List.range n)) ++ grow1 ((List.range n).take j) lot) ∧ gs'.length ≤ 5 * i + j)
          ⟨gs, y6, rfl, bt, hG, by simpa [grow1] using tG, by omega⟩ (fun j σ H3 _ pv => ?_) (fun j x σ H3 hx pv => ?_) (fun σ H3 pv => ?_)⟩
        · obtain ⟨gs', y6, rfl, bt3, hG3, tG3, hg3⟩ := pv
          exact .inl (.inl (bt3 _ _ nrG (e _ _ hr0)))
        · obtain ⟨gs', y6, rfl, bt3, hG3, tG3, hg3⟩ := pv
          unfold ints_ at hx
          rw [List.getElem?_map] at hx
          obtain ⟨c, hc, rfl⟩ := Option.map_eq_some_iff.mp hx
          have hj5 : j < 5 := by
            have := (List.getElem?_eq_some_iff.mp hc).1
            rw [List.length_range] at this
            omega
          have hlot3 : H3 ti = some (.tup (lot.map fun c => .int (c : Nat))) := bt3 ti _ (ne_of_none hlot nG) hlot
          have hll : lot.length ≤ 990 := lot_len hn (by omega) elot
          have g1 : grow1 ((List.range n).take (j + 1)) lot = grow1 ((List.range n).take j) lot ++ (if (lot.isEmpty || decide (lot.getLastD 0 < c)) = true then [lot ++ [c]] else []) := by
            unfold grow1
            rw [List.take_add_one, hc, List.filter_append, List.map_append]
            congr 1
            by_cases z : (lot.isEmpty || decide (lot.getLastD 0 < c)) = true
            · rw [if_pos z]
              show List.map _ (List.filter _ [c]) = _
              rw [List.filter_cons, if_pos z]
              rfl
            · rw [if_neg z]
              show List.map _ (List.filter _ [c]) = _
              rw [List.filter_cons, if_neg z]
              rfl
          have endOk : ∀ (Hf : Hp) (v : Addr), Same H3 Hf → Hf v = some (.tup ((lot ++ [c]).map fun c => .int (c : Nat))) → (lot.isEmpty || decide (lot.getLastD 0 < c)) = true →
              But G H' (upd Hf G (.lst (gs'.map V.ref ++ [.ref v]))) ∧ upd Hf G (.lst (gs'.map V.ref ++ [.ref v])) G = some (.lst ((gs' ++ [v]).map V.ref)) ∧
                TAt (upd Hf G (.lst (gs'.map V.ref ++ [.ref v]))) (gs' ++ [v]) (((level (List.range n) t).take i).flatMap (grow1 (List.range n)) ++ grow1 ((List.range n).take (j + 1)) lot) ∧ (gs' ++ [v]).length ≤ 5 * i + (j + 1) := by
            intro Hf v sF hv hcond
            have up : ∀ b xs, Hf b = some (.tup xs) → upd Hf G (.lst (gs'.map V.ref ++ [.ref v])) b = some (.tup xs) := fun b xs hb => by
              have n1 : b ≠ G := fun z => by rw [z, sF _ _ hG3] at hb; cases hb
              rw [upd_ne n1]; exact hb
            refine ⟨fun b o nb hb => by rw [upd_ne nb]; exact sF _ _ (bt3 b o nb hb), by rw [upd_same, List.map_append]; rfl, ?_, by rw [List.length_append, List.length_singleton]; omega⟩
            rw [g1, if_pos hcond, ← List.append_assoc]
            exact ((tG3.same sF).mono up).append (.cons (up _ _ hv) .nil)
          refine ⟨_, rfl, by show 0 ≤ sizeLine; decide, fun em nem => ?_⟩
          have sX := same_new (o := .tup []) (Same.refl H3) nem
          refine ⟨_, _, .tup (.inl (.inl (sX _ _ hlot3))) (dp_ints lot), .tup (.inl (.inl upd_same)) .nil, shaped_ints lot, shaped_ints [], ?_⟩
          rw [show PyData.eqv (.tuple (lot.map fun c => PyData.int (c : Nat))) (.tuple []) = lot.isEmpty from eqv_empty lot]
          refine ⟨_, rfl, ite2 (fun q1 => ?_) (fun q1 => ?_)⟩
          · have hcond : (lot.isEmpty || decide (lot.getLastD 0 < c)) = true := by rw [q1]; rfl
            have hG4 := sX _ _ hG3
            refine ⟨_, rfl, .inl ⟨rfl, _, .inl (.inl hG4)⟩, _, rfl, _, rfl, by show 1 ≤ sizeLine; decide, fun u nu => ?_⟩
            have sU := sX.trans (same_new (o := .tup [.int (c : Nat)]) (Same.refl _) nu)
            refine ⟨ti, u, _, _, rfl, rfl, .inl (.inl (sU _ _ hlot3)), .inl (.inl upd_same), ?_, fun z => ?_, (fun _ z2 => nomatch z2), fun z1 _ p np => ?_⟩
            · rw [List.length_map]
              exact Nat.le_trans (show lot.length + 1 ≤ 1000 by omega) (by decide)
            · have lot0 : lot = [] := by simpa using z
              obtain ⟨k1, k2, k3, k4⟩ := endOk _ u sU (by rw [upd_same, lot0]; rfl) hcond
              exact ⟨G, _, _, rfl, rfl, sU _ _ hG3, by rw [List.length_map]; exact small1000 (by omega), gs' ++ [u], _, rfl, k1, k2, k3, k4⟩
            · obtain ⟨k1, k2, k3, k4⟩ := endOk _ p (sU.trans (same_new (Same.refl _) np)) (by rw [upd_same, List.map_append]) hcond
              exact ⟨G, _, _, rfl, rfl, (sU.trans (same_new (Same.refl _) np)) _ _ hG3, by rw [List.length_map]; exact small1000 (by omega), gs' ++ [p], _, rfl, k1, k2, k3, k4⟩
          · have q1' : lot.isEmpty = false := Bool.eq_false_iff.mpr q1
            refine ⟨_, rfl, _, rfl, _, rfl, ti, _, _, .int (lot.getLastD 0 : Nat), rfl, rfl, .inl (.inl (sX _ _ hlot3)), last_at q1', _, _, rfl, rfl, _, rfl, ite2 (fun q2 => ?_) (fun q2 => ?_)⟩
            · have hcond : (lot.isEmpty || decide (lot.getLastD 0 < c)) = true := by
                rw [q1', Bool.false_or]
                have := of_decide_eq_true q2
                exact decide_eq_true (by omega)
              have hG4 := sX _ _ hG3
              refine ⟨_, rfl, .inl ⟨rfl, _, .inl (.inl hG4)⟩, _, rfl, _, rfl, by show 1 ≤ sizeLine; decide, fun u nu => ?_⟩
              have sU := sX.trans (same_new (o := .tup [.int (c : Nat)]) (Same.refl _) nu)
              refine ⟨ti, u, _, _, rfl, rfl, .inl (.inl (sU _ _ hlot3)), .inl (.inl upd_same), ?_, fun z => ?_, (fun _ z2 => nomatch z2), fun z1 _ p np => ?_⟩
              · rw [List.length_map]
                exact Nat.le_trans (show lot.length + 1 ≤ 1000 by omega) (by decide)
              · have lot0 : lot = [] := by simpa using z
                obtain ⟨k1, k2, k3, k4⟩ := endOk _ u sU (by rw [upd_same, lot0]; rfl) hcond
                exact ⟨G, _, _, rfl, rfl, sU _ _ hG3, by rw [List.length_map]; exact small1000 (by omega), gs' ++ [u], _, rfl, k1, k2, k3, k4⟩
              · obtain ⟨k1, k2, k3, k4⟩ := endOk _ p (sU.trans (same_new (Same.refl _) np)) (by rw [upd_same, List.map_append]) hcond
                exact ⟨G, _, _, rfl, rfl, (sU.trans (same_new (Same.refl _) np)) _ _ hG3, by rw [List.length_map]; exact small1000 (by omega), gs' ++ [p], _, rfl, k1, k2, k3, k4⟩
            · have hcond : ¬ (lot.isEmpty || decide (lot.getLastD 0 < c)) = true := by
                rw [q1', Bool.false_or]
                intro z
                have z' := of_decide_eq_true z
                exact q2 (decide_eq_true (by omega))
              refine ⟨gs', _, rfl, fun b o nb hb => sX _ _ (bt3 b o nb hb), sX _ _ hG3, ?_, by omega⟩
              rw [g1, if_neg hcond, List.append_nil]
              exact tG3.same sX
        · obtain ⟨gs', y6, rfl, bt3, hG3, tG3, hg3⟩ := pv
          refine ⟨gs', _, _, rfl, bt3, hG3, ?_, ?_⟩
          · rw [hlen, show (List.range n).take n = List.range n from List.take_of_length_le (by rw [List.length_range]; exact Nat.le_refl n)] at tG3
            rw [List.take_add_one, elot, List.flatMap_append]
            simpa using tG3
          · rw [hlen] at hg3
            omega
      · obtain ⟨gs, y5, y6, rfl, bt, hG, tG, hg⟩ := pv
        rw [List.length_map] at tG hg
        rw [tL.len, List.take_length] at tG
        have hF3 := bt _ _ gF hF'
        have lfs : fs.length ≤ 32 := by rw [tF.len]; exact (level_len ⟨n, by omega⟩ ⟨t, by omega⟩).2
        have lgs : gs.length ≤ 10 := by rw [tG.len]; exact lv2
        refine ⟨_, rfl, .inl ⟨rfl, _, .inl (.inl hF3)⟩, _, rfl, F0, G, _, _, rfl, rfl, hF3, hG, ?_, ?_⟩
        · rw [List.length_map, List.length_map]
          exact Nat.le_trans (show fs.length + gs.length ≤ 42 by omega) (by decide)
        have hG4 : upd H2 F0 (.lst (fs.map V.ref ++ gs.map V.ref)) G = some (.lst (gs.map V.ref)) := by rw [upd_ne gF.symm]; exact hG
        refine ⟨_, rfl, G, _, rfl, .inl (.inl (.inl hG4)), fun L2 nL2 => ?_⟩
        have hF4 : upd H2 F0 (.lst (fs.map V.ref ++ gs.map V.ref)) F0 = some (.lst ((fs ++ gs).map V.ref)) := by rw [upd_same, List.map_append]
        have nL2F : L2 ≠ F0 := fun z => by rw [z, hF4] at nL2; cases nL2
        have up : ∀ b xs, H2 b = some (.tup xs) → upd (upd H2 F0 (.lst (fs.map V.ref ++ gs.map V.ref))) L2 (.lst (gs.map V.ref)) b = some (.tup xs) := fun b xs hb => by
          have n1 : b ≠ F0 := fun z => by rw [z, hF3] at hb; cases hb
          have h1 : upd H2 F0 (.lst (fs.map V.ref ++ gs.map V.ref)) b = some (.tup xs) := by rw [upd_ne n1]; exact hb
          rw [upd_ne (ne_of_none h1 nL2)]
          exact h1
        have tF' : TAt H2 fs (lotsTo (List.range n) t) := tF.mono fun b xs hb => bt b _ (ne_of_none hb nG) hb
        refine ⟨by omega, L2, fs ++ gs, gs, _, _, _, _, rfl, fun b o hb => ?_, by rw [upd_ne nL2F.symm]; exact hF4, upd_same, nL2F, (tF'.mono up).append (tG.mono up), tG.mono up⟩
        have n0 : b ≠ F0 := ne_of_none hb hFn
        have h1 := e _ _ hb
        have h2 := bt _ _ (ne_of_none h1 nG) h1
        have h3 : upd H2 F0 (.lst (fs.map V.ref ++ gs.map V.ref)) b = some o := by rw [upd_ne n0]; exact h2
        rw [upd_ne (ne_of_none h3 nL2)]
        exact h3
    · obtain ⟨_, La, fs, las, y3, y4, y5, y6, rfl, e, hF', hLa, nLF, tF, tL⟩ := pv
      rw [hlen] at tF
      exact ⟨_, rfl, q H' F0 fs e hFn hF' (by simpa using tF)⟩
end
end K7
end
/-! ## KL -/
section
/-! ## pure facts about drawn lands (no program in them) -/
namespace KL
/-- every set that holds cell 0 and is not left over any couple holds all cells -/
def Conn (n : Nat) (es : List (Nat × Nat)) : Prop := ∀ S : Nat → Bool, S 0 = true → (∀ e ∈ es, S e.1 = S e.2) → ∀ c, c < n → S c = true
theorem erase_perm {α : Type} : ∀ (l : List α) (j : Nat) (h : j < l.length), (l[j] :: l.eraseIdx j).Perm l
  | x :: l, 0, _ => List.Perm.refl _
  | x :: l, j + 1, h => (List.Perm.swap x (l[j]'(Nat.lt_of_succ_lt_succ h)) (l.eraseIdx j)).trans (List.Perm.cons x (erase_perm l j (Nat.lt_of_succ_lt_succ h)))
/-- one item drawn out of what is left -/
theorem pop_perm {names left : List Nat} {j : Nat} (h : j < left.length) : ((names ++ [left[j]]) ++ left.eraseIdx j).Perm (names ++ left) := by
  rw [List.append_assoc]
  refine List.Perm.append_left names ?_
  exact erase_perm left j h
def couple (names : List Nat) (a b : Nat) : Nat × Nat := (min (names.getD a 0) (names.getD b 0), max (names.getD a 0) (names.getD b 0))
theorem couple_mem {names : List Nat} {n : Nat} (hp : names.Perm (List.range n)) {a : Nat} (ha : a < n) : names.getD a 0 < n := by
  have hl : names.length = n := by rw [hp.length_eq, List.length_range]
  have e : names.getD a 0 = names[a]'(by omega) := by
    rw [List.getD_eq_getElem?_getD, List.getElem?_eq_getElem (by omega)]
    rfl
  rw [e]
  exact List.mem_range.mp (hp.mem_iff.mp (List.getElem_mem _))
/-- a tree under drawn names hangs together -/
theorem conn_tree {n : Nat} {names : List Nat} (hp : names.Perm (List.range n)) {es : List (Nat × Nat)} (h : ∀ k, 0 < k → k < n → ∃ d, d < k ∧ couple names k d ∈ es) : Conn n es := by
  intro S h0 hS c hc
  have hl : names.length = n := by rw [hp.length_eq, List.length_range]
  have step : ∀ k d, couple names k d ∈ es → S (names.getD k 0) = S (names.getD d 0) := by
    intro k d m
    have e := hS _ m
    unfold couple at e
    simp only at e
    by_cases q : names.getD k 0 ≤ names.getD d 0
    · rw [Nat.min_eq_left q, Nat.max_eq_right q] at e
      exact e
    · rw [Nat.min_eq_right (by omega), Nat.max_eq_left (by omega)] at e
      exact e.symm
  have all : ∀ k, k < n → S (names.getD k 0) = S (names.getD 0 0) := by
    intro k
    induction k using Nat.strongRecOn with
    | _ k ih =>
      intro hk
      by_cases z : k = 0
      · rw [z]
      · obtain ⟨d, hd, m⟩ := h k (by omega) hk
        rw [step k d m]
        exact ih d hd (by omega)
  have at_ : ∀ x, x < n → ∃ k, k < n ∧ names.getD k 0 = x := by
    intro x hx
    have m : x ∈ names := hp.mem_iff.mpr (List.mem_range.mpr hx)
    obtain ⟨k, hk, e⟩ := List.mem_iff_getElem.mp m
    refine ⟨k, by omega, ?_⟩
    rw [List.getD_eq_getElem?_getD, List.getElem?_eq_getElem hk, e]
    rfl
  obtain ⟨k0, hk0, e0⟩ := at_ 0 (by omega)
  obtain ⟨k, hk, e⟩ := at_ c hc
  have r0 := all k0 hk0
  rw [e0, h0] at r0
  rw [← e, all k hk, ← r0]
/-- a list of cells that is closed under the couples and holds cell 0 holds all cells -/
theorem conn_closed {n : Nat} {es : List (Nat × Nat)} (h : Conn n es) {found : List Nat} (h0 : 0 ∈ found) (hc : ∀ a b, ((a, b) ∈ es ∨ (b, a) ∈ es) → a ∈ found → b ∈ found) : ∀ c, c < n → c ∈ found := by
  intro c hc'
  have := h (fun x => decide (x ∈ found)) (by simpa using h0) (fun e he => by
    have e1 : e.1 ∈ found ↔ e.2 ∈ found := ⟨fun q => hc e.1 e.2 (.inl he) q, fun q => hc e.2 e.1 (.inr he) q⟩
    exact decide_eq_decide.mpr e1) c hc'
  simpa using this
/-- as many as there are cells, none twice: all cells -/
theorem all_len {n : Nat} {found : List Nat} (hn : found.Nodup) (hb : ∀ c ∈ found, c < n) (ha : ∀ c, c < n → c ∈ found) : found.length = n := by
  have hp : found.Perm (List.range n) := by
    rw [List.perm_ext_iff_of_nodup hn List.nodup_range]
    intro a
    exact ⟨fun q => List.mem_range.mpr (hb a q), fun q => ha a (List.mem_range.mp q)⟩
  rw [hp.length_eq, List.length_range]
end KL
namespace KL
theorem couple_inj {names : List Nat} {n : Nat} (hp : names.Perm (List.range n)) {a b a' b' : Nat} (h1 : b < a) (h2 : a < n) (h1' : b' < a') (h2' : a' < n) (e : couple names a b = couple names a' b') : (a, b) = (a', b') := by
  have hl : names.length = n := by rw [hp.length_eq, List.length_range]
  have nd : names.Nodup := hp.nodup_iff.mpr List.nodup_range
  have inj : ∀ x y, x < n → y < n → names.getD x 0 = names.getD y 0 → x = y := by
    intro x y hx hy q
    rw [List.getD_eq_getElem?_getD, List.getD_eq_getElem?_getD, List.getElem?_eq_getElem (by omega), List.getElem?_eq_getElem (by omega)] at q
    exact (List.getElem_inj nd).mp q
  have ne : ∀ x y, x < n → y < n → x ≠ y → names.getD x 0 ≠ names.getD y 0 := fun x y hx hy q z => q (inj x y hx hy z)
  unfold couple at e
  injection e with e1 e2
  have q1 := ne a b h2 (by omega) (by omega)
  have q2 := ne a' b' h2' (by omega) (by omega)
  by_cases c1 : names.getD a 0 ≤ names.getD b 0
  · rw [Nat.min_eq_left c1] at e1
    rw [Nat.max_eq_right c1] at e2
    by_cases c2 : names.getD a' 0 ≤ names.getD b' 0
    · rw [Nat.min_eq_left c2] at e1
      rw [Nat.max_eq_right c2] at e2
      rw [inj a a' h2 h2' e1, inj b b' (by omega) (by omega) e2]
    · rw [Nat.min_eq_right (by omega)] at e1
      rw [Nat.max_eq_left (by omega)] at e2
      have r1 := inj a b' h2 (by omega) e1
      have r2 := inj b a' (by omega) h2' e2
      omega
  · rw [Nat.min_eq_right (by omega)] at e1
    rw [Nat.max_eq_left (by omega)] at e2
    by_cases c2 : names.getD a' 0 ≤ names.getD b' 0
    · rw [Nat.min_eq_left c2] at e1
      rw [Nat.max_eq_right c2] at e2
      have r1 := inj b a' (by omega) h2' e1
      have r2 := inj a b' h2 (by omega) e2
      omega
    · rw [Nat.min_eq_right (by omega)] at e1
      rw [Nat.max_eq_left (by omega)] at e2
      rw [inj a a' h2 h2' e2, inj b b' (by omega) (by omega) e1]
end KL
end
/-! ## ER -/
section
namespace K7E
open PySem PySem.Spec PyProof.Rows L2
theorem cr_range1 {X : Cx} : CallR X (.type "range") (fun vs H Q => ∃ j, vs = [V.int j] ∧ ∀ p, H p = none → Q (.ref p) (upd H p (.rng 0 j))) := by
  intro pins s σ H vs us Q I r h
  obtain ⟨j, rfl, q⟩ := h
  obtain ⟨u1, rfl, t, rfl⟩ := r.one
  refine call_range_1 ⟨.ref s.heap.objs.size, upd H s.heap.objs.size (.rng 0 j), I.laid (t' := s.toks + 1 + 1) (fun b o e => Heap.get?_push_of_some _ e) (Nat.le_refl _) ?_, rfl, q _ (I.hok.fresh (Nat.le_refl _))⟩
  exact ⟨s.toks, t, s.toks + 1, Heap.get?_push_size _ rfl⟩
def upTo (n : Nat) : List V := (List.range n).map fun i => .int (i : Nat)
theorem vals_upTo : ∀ (n : Nat) (us : List Value), us.length = n → (∀ (j : Nat) v, us[j]? = some v → ∃ t, v = .int (j : Nat) t) → Vals (upTo n) us := by
  intro n
  induction n with
  | zero => intro us h _; cases us with | nil => exact .nil | cons => cases h
  | succ n ih =>
    intro us h hv
    have e : us = us.take n ++ [us[n]'(by omega)] := by
      have := List.take_append_getElem (l := us) (i := n) (by omega)
      rw [this, List.take_of_length_le (by omega)]
    have e2 : upTo (n + 1) = upTo n ++ [.int (n : Nat)] := by
      unfold upTo
      rw [List.range_succ, List.map_append]
      rfl
    rw [e, e2]
    refine (ih _ (by rw [List.length_take]; omega) fun j v hj => ?_).append (.cons ?_ .nil)
    · rw [List.getElem?_take] at hj
      split at hj
      · exact hv j v hj
      · cases hj
    · exact hv n _ (List.getElem?_eq_getElem (by omega))
theorem small_all : ∀ k : Fin 1001, Builtin.Range.small 0 (k.val : Int) 1 = true := by decide +kernel
theorem cr_list_rng {X : Cx} (hc : X.calm = true) : CallR X (.type "list") (fun vs H Q => ∃ (r : Addr) (n : Nat), vs = [V.ref r] ∧ H r = some (.rng 0 n) ∧ n ≤ 1000 ∧ ∀ l, H l = none → Q (.ref l) (upd H l (.lst (upTo n)))) := by
  intro pins s σ H vs us Q I rv h
  obtain ⟨r, n, rfl, hr, hn, q⟩ := h
  obtain ⟨u, rfl, ru⟩ := rv.one
  cases ru
  obtain ⟨t, u, v, hg⟩ := I.hok r _ hr
  refine call_list_range (n := n) (I.ok.hd hc) (show IsRange s.heap r 0 n 1 t u v from hg) ?_ ?_ ?_ fun h' tk acc' c' hk hl hi => ?_
  · have h1 : (0 : Int) ≤ n := by omega
    have h2 : (n : Int) ≤ 1000 := by omega
    exact small_all ⟨n, by omega⟩
  · show (if (0 : Int) < (n : Int) then ((n : Int) - 0 - 1) / 1 + 1 else 0) = (n : Int)
    split <;> omega
  · exact Nat.le_trans hn (by decide)
  · refine ⟨.ref s.heap.objs.size, upd H s.heap.objs.size (.lst (upTo n)), I.laid (t' := tk) hk (Nat.le_refl _) ⟨?_, acc'.toList, c', vals_upTo n _ ?_ fun j w hj => ?_, ?_⟩, rfl, q _ (I.hok.fresh (Nat.le_refl _))⟩
    · unfold upTo; rw [List.length_map, List.length_range]; exact Nat.le_trans hn (by decide)
    · simpa using hi.1
    · obtain ⟨t', e⟩ := hi.2 j w (by simpa using hj)
      exact ⟨t', by rw [e]; simp⟩
    · simpa using hl
end K7E
end
/-! ## P3 -/
section
open PySem PySem.Spec PyProof.Rows L2
namespace K7L
theorem hu65 {k : Nat} {A : Around} (hr : Room k A) : A.units + 65 < cLine := by have := hr.un; omega
end K7L
namespace K7
abbrev N__law_land : List Str := ["_law_hand_here", "_law_n", "_law_names", "_law_left", "_law_k", "_law_couples", "_law_high", "_law_low", "_law_rows_here", "_law_a", "_law_b", "_law_lots_here", "_law_lot"]
abbrev s__law_land : Stmt := topS 38
theorem sc__law_land : FnScope ["_law_hand_here", "_law_n", "_law_names", "_law_left", "_law_k", "_law_couples", "_law_high", "_law_low", "_law_rows_here", "_law_a", "_law_b", "_law_lots_here", "_law_lot"] ["_law_hand_here", "_law_n"] (defScope s__law_land) := ⟨rfl, rfl, rfl, by decide +kernel, rfl, by decide +kernel, by decide +kernel⟩
/-! ### what stays -/
def notHand : List V → Bool
  | [.ref _, .int _, .int _, .int _] => false
  | _ => true
theorem notHand_strs : ∀ ss : List Str, notHand (ss.map V.str) = true
  | [] => rfl
  | [_] => rfl
  | [_, _] => rfl
  | [_, _, _] => rfl
  | [_, _, _, _] => rfl
  | _ :: _ :: _ :: _ :: _ :: _ => rfl
theorem notHand_len : ∀ xs : List V, xs.length ≠ 4 → notHand xs = true
  | [], _ => rfl
  | [_], _ => by unfold notHand; split <;> first | rfl | (rename_i h; cases h)
  | [_, _], _ => by unfold notHand; split <;> first | rfl | (rename_i h; cases h)
  | [_, _, _], _ => by unfold notHand; split <;> first | rfl | (rename_i h; cases h)
  | [_, _, _, _], h => absurd rfl h
  | _ :: _ :: _ :: _ :: _ :: _, _ => by unfold notHand; split <;> first | rfl | (rename_i h; cases h)
/-- all but the hand at h is as it was, and the hand is a hand -/
structure Stay (h c : Addr) (H H' : Hp) : Prop where
  but : But h H H'
  hand0 : Hand H h c
  hand : Hand H' h c
theorem Stay.of_same {h c : Addr} {H H' : Hp} (hh : Hand H h c) (e : Same H H') : Stay h c H H' := ⟨fun b o _ z => e b o z, hh, hh.same e⟩
theorem Stay.of_drawn {h c : Addr} {H H' : Hp} (hh : Hand H h c) (d : Drawn H H' h c) : Stay h c H H' := ⟨fun b o nb z => by rw [d.but b nb]; exact z, hh, d.hand⟩
theorem Stay.trans {h c : Addr} {H H' H'' : Hp} (x : Stay h c H H') (y : Stay h c H' H'') : Stay h c H H'' := ⟨fun b o nb z => y.but b o nb (x.but b o nb z), x.hand0, y.hand⟩
theorem Stay.same {h c : Addr} {H H' H'' : Hp} (x : Stay h c H H') (e : Same H' H'') : Stay h c H H'' := x.trans (.of_same x.hand e)
theorem Stay.drawn {h c : Addr} {H H' H'' : Hp} (x : Stay h c H H') (e : Drawn H' H'' h c) : Stay h c H H'' := x.trans (.of_drawn x.hand e)
theorem Hand.nel {h c b : Addr} {H : Hp} {xs : List V} (hh : Hand H h c) (hb : H b = some (.lst xs)) (hx : notHand xs = true) : b ≠ h := by
  intro e
  subst e
  obtain ⟨ns, i, x, t, h1, _, _⟩ := hh
  rw [hb] at h1
  injection h1 with h1
  unfold HandO at h1
  injection h1 with h1
  subst h1
  cases hx
theorem Hand.nei {h c b C dx : Addr} {H : Hp} {fs : List (Str × V)} (hh : Hand H h c) (hb : H b = some (.ins C dx fs)) : b ≠ h := by
  intro e
  subst e
  obtain ⟨ns, i, x, t, h1, _, _⟩ := hh
  rw [hb] at h1
  cases h1
theorem Hand.net {h c b : Addr} {H : Hp} {xs : List V} (hh : Hand H h c) (hb : H b = some (.tup xs)) : b ≠ h := by
  intro e
  subst e
  obtain ⟨ns, i, x, t, h1, _, _⟩ := hh
  rw [hb] at h1
  cases h1
theorem Hand.ned {h c b : Addr} {H : Hp} {kvs : List (Key × V)} (hh : Hand H h c) (hb : H b = some (.dK kvs)) : b ≠ h := by
  intro e
  subst e
  obtain ⟨ns, i, x, t, h1, _, _⟩ := hh
  rw [hb] at h1
  cases h1
section
variable {h c : Addr} {H H' : Hp}
theorem Stay.lst {b : Addr} {xs : List V} (x : Stay h c H H') (hb : H b = some (.lst xs)) (hx : notHand xs = true) : H' b = some (.lst xs) := x.but b _ (x.hand0.nel hb hx) hb
theorem Stay.row {b : Addr} {ss : List Str} (x : Stay h c H H') (hb : H b = some (.lst (ss.map V.str))) : H' b = some (.lst (ss.map V.str)) := x.lst hb (notHand_strs ss)
end
theorem map_erase {α β : Type} (f : α → β) : ∀ (l : List α) (j : Nat), (l.map f).eraseIdx j = (l.eraseIdx j).map f
  | [], _ => rfl
  | x :: l, 0 => rfl
  | x :: l, j + 1 => congrArg (f x :: ·) (map_erase f l j)
theorem ixN_nat {n i : Nat} (h : i < n) : ixN n (i : Int) = some i := by
  have e : (List.range n)[i]? = some i := by rw [List.getElem?_range h]
  have := atI_nat e
  unfold atI at this
  rw [List.length_range] at this
  cases q : ixN n (i : Int) with
  | none => rw [q] at this; cases this
  | some j =>
    rw [q] at this
    have h2 : (List.range n)[j]? = some i := this
    rw [List.getElem?_eq_some_iff] at h2
    obtain ⟨h3, h4⟩ := h2
    rw [List.getElem_range] at h4
    rw [h4]
section
variable {P : Program} {w : World} {K : PySem.W.Frag} {mg : Str → Option Value} {base : Heap}
def rLen_ (K : PySem.W.Frag) : List V → Hp → VK → Prop := fun xs H Q => ∃ p ys, xs = [.ref p] ∧ (SqL K H p ys ∨ SqT K H p ys) ∧ Q (.int ys.length) H
def pairs (es : List (Nat × Nat)) : List (List Nat) := es.map fun e => [e.1, e.2]
/-- couples before the cells have their names: each cell below m hangs on a lower one -/
structure Tree (n m : Nat) (cs : List (Nat × Nat)) : Prop where
  lt : ∀ e ∈ cs, e.2 < e.1 ∧ e.1 < m ∧ e.1 < n
  nd : cs.Nodup
  low : ∀ k, 0 < k → k < m → ∃ d, d < k ∧ (k, d) ∈ cs
theorem Tree.nil (n : Nat) : Tree n 1 [] := ⟨fun e h => (nomatch h), List.nodup_nil, fun k h0 h1 => by omega⟩
theorem Tree.add {n k j : Nat} {cs : List (Nat × Nat)} (t : Tree n (k + 1) cs) (hk : k + 1 < n) (hj : j < k + 1) : Tree n (k + 1 + 1) (cs ++ [(k + 1, j)]) := by
  refine ⟨fun e h => ?_, ?_, fun x x0 x1 => ?_⟩
  · rcases List.mem_append.mp h with q | q
    · obtain ⟨a, b, c⟩ := t.lt e q
      exact ⟨a, by omega, c⟩
    · rw [List.mem_singleton.mp q]
      exact ⟨hj, by show k + 1 < k + 1 + 1; omega, hk⟩
  · rw [List.nodup_append]
    refine ⟨t.nd, by simp, fun a ha b hb => ?_⟩
    rw [List.mem_singleton.mp hb]
    intro z
    rw [z] at ha
    have := (t.lt _ ha).2.1
    simp only at this
    omega
  · by_cases z : x = k + 1
    · exact ⟨j, by omega, List.mem_append_right _ (by rw [z]; exact List.mem_singleton.mpr rfl)⟩
    · obtain ⟨d, d1, d2⟩ := t.low x x0 (by omega)
      exact ⟨d, d1, List.mem_append_left _ d2⟩
theorem Tree.more {n a b : Nat} {cs : List (Nat × Nat)} (t : Tree n n cs) (h1 : b < a) (h2 : a < n) (h3 : (a, b) ∉ cs) : Tree n n (cs ++ [(a, b)]) := by
  refine ⟨fun e h => ?_, ?_, fun x x0 x1 => ?_⟩
  · rcases List.mem_append.mp h with q | q
    · exact t.lt e q
    · rw [List.mem_singleton.mp q]
      exact ⟨h1, h2, h2⟩
  · rw [List.nodup_append]
    refine ⟨t.nd, by simp, fun x hx y hy => ?_⟩
    rw [List.mem_singleton.mp hy]
    intro z
    exact h3 (z ▸ hx)
  · obtain ⟨d, d1, d2⟩ := t.low x x0 x1
    exact ⟨d, d1, List.mem_append_left _ d2⟩
/-! ### couples as data -/
theorem dp_pair {K : PySem.W.Frag} {H : Hp} (k j : Nat) : DpAll K H [.int (2 + (k : Nat)), .int (0 + (j : Nat))] [.int ((2 + k : Nat) : Int), .int (j : Nat)] := by
  rw [show (2 : Int) + (k : Nat) = ((2 + k : Nat) : Int) by omega, Int.zero_add]
  exact .cons (.int _) (.cons (.int _) .nil)
theorem dp_rows {K : PySem.W.Frag} {H : Hp} : ∀ {ts : List Addr} {ls : List (List Nat)}, TAt H ts ls → DpAll K H (ts.map V.ref) (ls.map intD)
  | _, _, .nil => .nil
  | _, _, .cons h r => .cons (.tup (.inl (.inl h)) (dp_ints _)) (dp_rows r)
theorem shaped_rows (ls : List (List Nat)) : SeqAt.shaped (.list (ls.map intD)) = true := by
  have h1 : ∀ l : List Nat, PyData.canLay0 (intD l) = true ∧ PyData.depth (intD l) ≤ 1 := fun l => by
    have z := shaped_ints l
    have z : ((PyData.canLay0 (intD l)) && decide (PyData.depth (intD l) ≤ 64)) = true := z
    refine ⟨(Bool.and_eq_true_iff.mp z).1, ?_⟩
    have : ∀ l : List Nat, PyData.depthAll (l.map fun c => PyData.int (c : Nat)) = 0 := fun l => by
      induction l with
      | nil => simp [PyData.depthAll]
      | cons x r ih => simp [PyData.depthAll, PyData.depth, ih]
    simp [intD, PyData.depth, this l]
  have h2 : ∀ ls : List (List Nat), PyData.canLayAll0 (ls.map intD) = true ∧ PyData.depthAll (ls.map intD) ≤ 1 := fun ls => by
    induction ls with
    | nil => exact ⟨by simp [PyData.canLayAll0], by simp [PyData.depthAll]⟩
    | cons x r ih =>
      refine ⟨by simp [PyData.canLayAll0, (h1 x).1, ih.1], ?_⟩
      rw [List.map_cons, PyData.depthAll]
      exact Nat.max_le.mpr ⟨(h1 x).2, ih.2⟩
  show ((PyData.canLay0 (.list (ls.map intD))) && decide (PyData.depth (.list (ls.map intD)) ≤ 64)) = true
  have d : PyData.depth (.list (ls.map intD)) ≤ 64 := by
    rw [PyData.depth]
    have := (h2 ls).2
    omega
  simp [PyData.canLay0, (h2 ls).1, d]
theorem any_rows (cs : List (Nat × Nat)) (a b : Nat) : ((pairs cs).map intD).any (fun z => PyData.eqv z (intD [a, b])) = decide ((a, b) ∈ cs) := by
  induction cs with
  | nil => rfl
  | cons e cs ih =>
    show (PyData.eqv (intD [e.1, e.2]) (intD [a, b]) || ((pairs cs).map intD).any (fun z => PyData.eqv z (intD [a, b]))) = _
    rw [ih]
    have h : PyData.eqv (intD [e.1, e.2]) (intD [a, b]) = decide (e = (a, b)) := by
      obtain ⟨x, y⟩ := e
      simp [intD, PyData.eqv, PyData.eqvAll]
      by_cases z1 : x = a <;> by_cases z2 : y = b <;> simp [z1, z2] <;> omega
    rw [h]
    by_cases z : e = (a, b)
    · simp [z]
    · have z2 : ¬ (a, b) = e := fun q => z q.symm
      simp [z, z2]
structure LandOk (n : Nat) (es : List (Nat × Nat)) : Prop where
  lt : ∀ e ∈ es, e.1 < e.2 ∧ e.2 < n
  nd : es.Nodup
  sorted : es.Pairwise fun a b => a.1 < b.1 ∨ (a.1 = b.1 ∧ a.2 ≤ b.2)
  conn : KL.Conn n es
structure LandOk0 (n : Nat) (es : List (Nat × Nat)) : Prop where
  lt : ∀ e ∈ es, e.1 < e.2 ∧ e.2 < n
  nd : es.Nodup
  conn : KL.Conn n es
theorem tree_land {n : Nat} {nm : List Nat} {cs : List (Nat × Nat)} (hp : nm.Perm (List.range n)) (t : Tree n n cs) : LandOk0 n (cs.map fun e => KL.couple nm e.1 e.2) := by
  have nd : nm.Nodup := hp.nodup_iff.mpr List.nodup_range
  have hl : nm.length = n := by rw [hp.length_eq, List.length_range]
  refine ⟨fun e he => ?_, ?_, ?_⟩
  · obtain ⟨x, hx, rfl⟩ := List.mem_map.mp he
    obtain ⟨t1, t2, t3⟩ := t.lt x hx
    have m1 := KL.couple_mem hp (a := x.1) t3
    have m2 := KL.couple_mem hp (a := x.2) (by omega)
    have ne : nm.getD x.1 0 ≠ nm.getD x.2 0 := by
      intro z
      rw [List.getD_eq_getElem?_getD, List.getD_eq_getElem?_getD, List.getElem?_eq_getElem (by omega), List.getElem?_eq_getElem (by omega)] at z
      have := (List.getElem_inj nd).mp z
      omega
    show min _ _ < max _ _ ∧ max _ _ < n
    omega
  · rw [List.nodup_iff_pairwise_ne, List.pairwise_map]
    refine (List.nodup_iff_pairwise_ne.mp t.nd).imp_of_mem fun {a b} ha hb hab z => ?_
    obtain ⟨a1, a2, a3⟩ := t.lt a ha
    obtain ⟨b1, b2, b3⟩ := t.lt b hb
    exact hab (KL.couple_inj hp a1 a3 b1 b3 z)
  · refine KL.conn_tree hp fun k k0 k1 => ?_
    obtain ⟨d, d1, d2⟩ := t.low k k0 k1
    exact ⟨d, d1, List.mem_map.mpr ⟨(k, d), d2, rfl⟩⟩
/-- the two numbers of a couple's tuple -/
def kfOf (H : Hp) : V → Int × Int
  | .ref a => (match H a with | some (.tup [.int i, .int j]) => (i, j) | _ => (0, 0))
  | _ => (0, 0)
def gOf (H : Hp) (x : V) : Nat × Nat := ((kfOf H x).1.toNat, (kfOf H x).2.toNat)
theorem kf_at {H : Hp} {a : Addr} {x y : Nat} (h : H a = some (.tup [.int (x : Nat), .int (y : Nat)])) : kfOf H (.ref a) = ((x : Int), (y : Int)) := by
  unfold kfOf
  simp only [h]
theorem g_at {H : Hp} {a : Addr} {e : Nat × Nat} (h : H a = some (.tup [.int (e.1 : Nat), .int (e.2 : Nat)])) : gOf H (.ref a) = e := by
  unfold gOf
  rw [kf_at h]
  rfl
theorem g_map {H : Hp} : ∀ {us : List Addr} {es : List (Nat × Nat)}, TAt H us (pairs es) → (us.map V.ref).map (gOf H) = es
  | [], [], _ => rfl
  | _ :: _, [], h => nomatch h
  | [], _ :: _, h => nomatch h
  | u :: us, e :: es, .cons h r => by
    show gOf H (.ref u) :: (us.map V.ref).map (gOf H) = _
    rw [g_at h, g_map r]
theorem g_mem {H : Hp} {us : List Addr} {es : List (Nat × Nat)} (t : TAt H us (pairs es)) : ∀ x ∈ us.map V.ref, ∃ (a : Addr) (e : Nat × Nat), x = V.ref a ∧ H a = some (.tup [.int (e.1 : Nat), .int (e.2 : Nat)]) := by
  intro x hx
  obtain ⟨a, ha, rfl⟩ := List.mem_map.mp hx
  obtain ⟨i, hi, e⟩ := List.mem_iff_getElem.mp ha
  obtain ⟨l, el, hl⟩ := t.get (i := i) (t := a) (by rw [List.getElem?_eq_getElem hi, e])
  unfold pairs at el
  rw [List.getElem?_map] at el
  obtain ⟨ab, eab, rfl⟩ := Option.map_eq_some_iff.mp el
  exact ⟨a, ab, rfl, hl⟩
theorem tat_of {H : Hp} : ∀ ys : List V, (∀ x ∈ ys, ∃ (a : Addr) (e : Nat × Nat), x = V.ref a ∧ H a = some (.tup [.int (e.1 : Nat), .int (e.2 : Nat)])) → ∃ ts, ys = ts.map V.ref ∧ TAt H ts (pairs (ys.map (gOf H)))
  | [], _ => ⟨[], rfl, .nil⟩
  | y :: ys, h => by
    obtain ⟨a, e, rfl, ha⟩ := h y List.mem_cons_self
    obtain ⟨ts, rfl, t⟩ := tat_of ys fun x hx => h x (List.mem_cons_of_mem _ hx)
    refine ⟨a :: ts, rfl, ?_⟩
    show TAt H (a :: ts) ([(gOf H (.ref a)).1, (gOf H (.ref a)).2] :: _)
    rw [g_at ha]
    exact .cons ha t
theorem sorted_of {H : Hp} : ∀ ys : List V, (∀ x ∈ ys, ∃ (a : Addr) (e : Nat × Nat), x = V.ref a ∧ H a = some (.tup [.int (e.1 : Nat), .int (e.2 : Nat)])) → SrtO.Srtd (ltP (kfOf H)) ys → (ys.map (gOf H)).Pairwise fun a b => a.1 < b.1 ∨ (a.1 = b.1 ∧ a.2 ≤ b.2) := by
  intro ys h s
  rw [List.pairwise_map]
  refine List.Pairwise.imp_of_mem (fun {x y} hx hy q => ?_) s
  obtain ⟨a, e, rfl, ha⟩ := h x hx
  obtain ⟨b, e', rfl, hb⟩ := h y hy
  rw [g_at ha, g_at hb]
  have q : SrtO.lexB (kfOf H (.ref b)) (kfOf H (.ref a)) = false := q
  rw [kf_at ha, kf_at hb] at q
  have z : ¬ ((e'.1 : Int) < e.1 ∨ ((e'.1 : Int) = e.1 ∧ (e'.2 : Int) < e.2)) := fun z => by
    rw [SrtO.lexB_iff.mpr z] at q
    cases q
  omega
theorem Stay.free {h c b : Addr} {H H' : Hp} (y : Stay h c H H') (n : H' b = none) : H b = none := by
  cases z : H b with
  | none => rfl
  | some o =>
    by_cases e : b = h
    · subst e
      obtain ⟨ns, i, x, t, h1, _, _⟩ := y.hand
      rw [h1] at n
      cases n
    · rw [y.but b o e z] at n
      cases n
theorem lots_some : ∀ n : Fin 6, 2 ≤ n.val → ((lotsTo (List.range n.val) n.val).filter fun l => decide (0 < l.length) && decide (l.length < n.val)).length ≠ 4 ∧ 0 < ((lotsTo (List.range n.val) n.val).filter fun l => decide (0 < l.length) && decide (l.length < n.val)).length ∧
    ((lotsTo (List.range n.val) n.val).filter fun l => decide (0 < l.length) && decide (l.length < n.val)).length ≤ 32 := by decide +kernel
/-- a drawn land: its number of cells, its couples, its roads -/
structure LandAt (H : Hp) (q : Addr) (n : Nat) (es : List (Nat × Nat)) (lot : List Nat) : Prop where
  at_ : ∃ rA sA ts, H q = some (.tup [.int (n : Nat), .ref rA, .ref sA]) ∧ H rA = some (.lst (ts.map V.ref)) ∧ TAt H ts (pairs es) ∧ H sA = some (.lst (ints_ lot))
  ok : LandOk n es
  lot : lot ∈ lotsTo (List.range n) n ∧ 0 < lot.length ∧ lot.length < n
def spLand : Sp := fun vs H Q _ => ∃ (h c : Addr) (n : Nat), vs = [.ref h, .int (n : Nat)] ∧ Hand H h c ∧ 2 ≤ n ∧ n ≤ 5 ∧ ∀ H' q es lot, Stay h c H H' → H q = none → LandAt H' q n es lot → Q (.ref q) H'
theorem ok_land {f fdr fpk flo : Addr} {fd fddr fdpk fdlo : FuncData} (F : Fun K "_law_land" "_law_land" s__law_land f fd)
    (Gdr : FnOk P w K mg base CX0 2 fdr fddr ["_law_hand_here", "_law_many"] spDraw) (gdr : mg "_law_draw" = some (.ref fdr)) (kdr : PySem.W.keepIn K (.ref fdr) = true) (bdr : Binds K fddr ["_law_hand_here", "_law_many"] [])
    (Gpk : FnOk P w K mg base CX0 3 fpk fdpk ["_law_hand_here", "_law_things"] spPick) (gpk : mg "_law_pick" = some (.ref fpk)) (kpk : PySem.W.keepIn K (.ref fpk) = true) (bpk : Binds K fdpk ["_law_hand_here", "_law_things"] [])
    (Glo : FnOk P w K mg base CX0 1 flo fdlo ["_law_cells"] spLots) (glo : mg "_law_lots" = some (.ref flo)) (klo : PySem.W.keepIn K (.ref flo) = true) (blo : Binds K fdlo ["_law_cells"] [])
    (m_range : mg "range" = none) (m_len : mg "len" = none) (m_list : mg "list" = none) (m_min : mg "min" = none) (m_max : mg "max" = none) (m_sorted : mg "sorted" = none) :
    FnOk P w K mg base CX0 4 f fd ["_law_hand_here", "_law_n"] spLand := by
  refine F.ok sc__law_land (fun vs H Q E h => ?_) (fun cdv A outer s H vs Q E hr h => ?_)
  · obtain ⟨h, c, n, rfl, _⟩ := h
    rfl
  · obtain ⟨h, c, n, rfl, hh, n2, n5, q⟩ := h
    refine ⟨_, (pss_cons (ps_set (i := 2) sc__law_land.nd rfl (by first | exact Or.inl rfl | exact Or.inr rfl) (pe_lst pa_nil))
 (pss_cons (ps_set (i := 3) sc__law_land.nd rfl (by first | exact Or.inl rfl | exact Or.inr rfl) (pe_callTy (K7E.cr_list_rng rfl) (by rfl) m_list boot_list (pa_cons (pe_callTy K7E.cr_range1 (by rfl) m_range boot_range (pa_cons (pv 1) pa_nil)) pa_nil)))
 (Evl.pss_cut (ps_for PassesOwn.never rfl (pi_range1 rfl m_range (pa_cons (pv 1) pa_nil)) (pg_name (i := 4) sc__law_land.nd rfl (by first | exact Or.inl rfl | exact Or.inr rfl))
  (pss_one (ps_expr (pe_bm PySem.F.plainAttrs_list PySem.F.slot_list_append PySem.F.type_list_append mt_append (pv 2) (pa_cons (pe_bm PySem.F.plainAttrs_list PySem.F.slot_list_pop PySem.F.type_list_pop mt_popAt (pv 3) (pa_cons (pe_call Gdr (hr.mono (by decide)) (by rfl) gdr kdr bdr .nil pass0 (pa_cons (pv 0) (pa_cons (pe_callB call_len_seq (by rfl) m_len boot_len (pa_cons (pv 3) pa_nil)) pa_nil))) pa_nil)) pa_nil)))))
 (pss_cons (ps_set (i := 5) sc__law_land.nd rfl (by first | exact Or.inl rfl | exact Or.inr rfl) (pe_lst pa_nil))
 (Evl.pss_cut (ps_for PassesOwn.never rfl (pi_range2 rfl m_range (pa_cons pe_int (pa_cons (pv 1) pa_nil))) (pg_name (i := 4) sc__law_land.nd rfl (by first | exact Or.inl rfl | exact Or.inr rfl))
  (pss_one (ps_expr (pe_bm PySem.F.plainAttrs_list PySem.F.slot_list_append PySem.F.type_list_append mt_append (pv 5) (pa_cons (pe_tup (pa_cons (pv 4) (pa_cons (pe_call Gdr (hr.mono (by decide)) (by rfl) gdr kdr bdr .nil pass0 (pa_cons (pv 0) (pa_cons (pv 4) pa_nil))) pa_nil))) pa_nil)))))
 (Evl.pss_cut (ps_for PassesOwn.never rfl (pi_range2 rfl m_range (pa_cons pe_int (pa_cons (pv 1) pa_nil))) (pg_name (i := 6) sc__law_land.nd rfl (by first | exact Or.inl rfl | exact Or.inr rfl))
  (pss_one (ps_for PassesOwn.never rfl (pi_range1 rfl m_range (pa_cons (pv 6) pa_nil)) (pg_name (i := 7) sc__law_land.nd rfl (by first | exact Or.inl rfl | exact Or.inr rfl))
  (pss_one (ps_if (pw_and (pt_cmpR (op_notInD (K7L.hu65 hr)) (pe_tup (pa_cons (pv 6) (pa_cons (pv 7) pa_nil))) (pv 5) (by with_unfolding_all rfl)) (pw_and1 (pt_cmpR op_eq (pe_call Gdr (hr.mono (by decide)) (by rfl) gdr kdr bdr .nil pass0 (pa_cons (pv 0) (pa_cons pe_int pa_nil))) pe_int (nomark _)))).pt
  (pss_one (ps_expr (pe_bm PySem.F.plainAttrs_list PySem.F.slot_list_append PySem.F.type_list_append mt_append (pv 5) (pa_cons (pe_tup (pa_cons (pv 6) (pa_cons (pv 7) pa_nil))) pa_nil))))
  pss_nil)))))
 (pss_cons (ps_setLc (i := 8) (own := [("_law_a", 9), ("_law_b", 10)]) (g := gTup K 2 (gCons (gName 9) (gCons (gName 10) (gNil)))) (tt := tYes) rfl sc__law_land.nd rfl rfl (sw_true rfl rfl rfl (by decide +kernel)) (pi_list (pv 5)) (blkOk_by (own := [("_law_a", 9), ("_law_b", 10)]) (N := N__law_land) (sc := defScope s__law_land) (by decide +kernel)) (fun _ _ _ _ _ => (pg_tup rfl (pgs_cons (pg_name (i := 9) sc__law_land.nd rfl (by first | exact Or.inl rfl | exact Or.inr rfl)) (pgs_cons (pg_name (i := 10) sc__law_land.nd rfl (by first | exact Or.inl rfl | exact Or.inr rfl)) pgs_nil)))) (fun _ _ _ _ _ => pts_nil) (fun _ _ _ _ _ => (pe_tup (pa_cons (pe_callB (call_min2 rfl) (by rfl) m_min boot_min (pa_cons (pe_ix (show IxR _ (rIxL K) from ix_list) (pv 2) (pv 9) (fun _ _ => rfl)) (pa_cons (pe_ix (show IxR _ (rIxL K) from ix_list) (pv 2) (pv 10) (fun _ _ => rfl)) pa_nil))) (pa_cons (pe_callB (call_max2 rfl) (by rfl) m_max boot_max (pa_cons (pe_ix (show IxR _ (rIxL K) from ix_list) (pv 2) (pv 9) (fun _ _ => rfl)) (pa_cons (pe_ix (show IxR _ (rIxL K) from ix_list) (pv 2) (pv 10) (fun _ _ => rfl)) pa_nil))) pa_nil)))))
 (pss_cons (ps_setLc (i := 11) (own := [("_law_lot", 12)]) (g := gName 12) rfl sc__law_land.nd rfl rfl (sw_true rfl rfl rfl (by decide +kernel)) (pi_list (pe_call Glo (hr.mono (by decide)) (by rfl) glo klo blo .nil pass0 (pa_cons (pe_callTy (K7E.cr_list_rng rfl) (by rfl) m_list boot_list (pa_cons (pe_callTy K7E.cr_range1 (by rfl) m_range boot_range (pa_cons (pv 1) pa_nil)) pa_nil)) pa_nil))) (blkOk_by (own := [("_law_lot", 12)]) (N := N__law_land) (sc := defScope s__law_land) (by decide +kernel)) (fun _ _ _ _ _ => (pg_name (i := 12) sc__law_land.nd rfl (by first | exact Or.inl rfl | exact Or.inr rfl))) (fun _ _ _ _ _ => (pts_one (pt_chain op_lt op_lt pe_int (pe_callB (show CallR _ (.builtin "len") (rLen_ K) from call_len_seq) (by rfl) m_len boot_len (pa_cons (pv 12) pa_nil)) (pv 1)))) (fun _ _ _ _ _ => (pv 12)))
 (pss_one (ps_ret (pe_tup (pa_cons (pv 1) (pa_cons (pe_callB cr_sortedPO (by rfl) m_sorted boot_sorted (pa_cons (pv 8) pa_nil)) (pa_cons (pe_callTy call_list_of (by rfl) m_list boot_list (pa_cons (pe_call Gpk (hr.mono (by decide)) (by rfl) gpk kpk bpk .nil pass0 (pa_cons (pv 0) (pa_cons (pv 11) pa_nil))) pa_nil)) pa_nil)))))))))))))), ?_⟩
    have l10 : ∀ {xs : List Nat} {k : Nat}, xs.length ≤ k → k ≤ 1000 → (ints_ xs).length < sizeLine := fun {xs k} h1 h2 => by
      unfold ints_; rw [List.length_map]; exact small1000 (Nat.le_trans h1 h2)
    refine ⟨by show 0 ≤ sizeLine; decide, fun N0 nN => ?_⟩
    refine ⟨_, rfl, _, rfl, fun rg nrg => ?_⟩
    refine ⟨rg, n, rfl, upd_same, by omega, fun Lf nLf => ?_⟩
    have e1 : Same H (upd H N0 (.lst [])) := same_new (Same.refl H) nN
    have e2 : Same H (upd (upd H N0 (.lst [])) rg (.rng 0 n)) := same_new e1 nrg
    have e3 : Same H (upd (upd (upd H N0 (.lst [])) rg (.rng 0 n)) Lf (.lst (K7E.upTo n))) := same_new e2 nLf
    have hN3 : upd (upd (upd H N0 (.lst [])) rg (.rng 0 n)) Lf (.lst (K7E.upTo n)) N0 = some (.lst []) := same_new (Same.refl _) nLf _ _ (same_new (Same.refl _) nrg _ _ upd_same)
    have hL3 : upd (upd (upd H N0 (.lst [])) rg (.rng 0 n)) Lf (.lst (K7E.upTo n)) Lf = some (.lst (ints_ (List.range n))) := upd_same
    have fN : H N0 = none := nN
    have fL : H Lf = none := e2.free nLf
    have nNL : N0 ≠ Lf := ne_of_none (same_new (o := .rng 0 n) (Same.refl _) nrg _ _ upd_same) nLf
    obtain ⟨hNh, hNc⟩ := hh.ne fN
    obtain ⟨hLh, hLc⟩ := hh.ne fL
    generalize upd (upd (upd H N0 (.lst [])) rg (.rng 0 n)) Lf (.lst (K7E.upTo n)) = H3 at e3 hN3 hL3 ⊢
    refine ⟨fun σ' H' => ∃ nm y4, σ' = [some (.ref h), some (.int (n : Nat)), some (.ref N0), some (.ref Lf), y4, none, none, none, none, none, none, none, none] ∧ Stay h c H H' ∧ H' N0 = some (.lst (ints_ nm)) ∧ nm.Perm (List.range n), ?_, ?_⟩
    · refine ⟨_, rfl, _, rfl, by omega, by omega, for_range (fun k σ' H' => k ≤ n ∧ ∃ nm lf y4, σ' = [some (.ref h), some (.int (n : Nat)), some (.ref N0), some (.ref Lf), y4, none, none, none, none, none, none, none, none] ∧ Stay h c H H' ∧ H' N0 = some (.lst (ints_ nm)) ∧ H' Lf = some (.lst (ints_ lf)) ∧ (nm ++ lf).Perm (List.range n) ∧ nm.length = k)
        ⟨Nat.zero_le _, [], List.range n, none, rfl, .of_same hh e3, hN3, hL3, List.Perm.refl _, rfl⟩ (fun k σ' H' hk pv => ?_) (fun σ' H' pv => ?_)⟩
      · obtain ⟨_, nm, lf, y4, rfl, st, hN, hL, hp, hl⟩ := pv
        have hk : k < n := by simpa using hk
        have hll : lf.length = n - k := by
          have := hp.length_eq
          rw [List.length_append, List.length_range] at this
          omega
        have hil : (ints_ lf).length = lf.length := by unfold ints_; rw [List.length_map]
        refine ⟨_, rfl, .inl ⟨rfl, _, .inl (.inl hN)⟩, _, rfl, .inl ⟨rfl, _, .inl (.inl hL)⟩, _, rfl, _, rfl, Lf, _, rfl, .inl (.inl (.inl hL)), h, c, _, rfl, st.hand, by omega, ?_, fun H4 x d x0 x1 => ?_⟩
        · exact Int.lt_of_le_of_lt (show (((ints_ lf).length : Nat) : Int) ≤ 1000 by omega) (by decide)
        obtain ⟨j, rfl⟩ : ∃ j : Nat, x = (j : Int) := ⟨x.toNat, by omega⟩
        have hj : j < lf.length := by omega
        have hN4 : H4 N0 = some (.lst (ints_ nm)) := by rw [d.but N0 hNh]; exact hN
        have hL4 : H4 Lf = some (.lst (ints_ lf)) := by rw [d.but Lf hLh]; exact hL
        refine ⟨Lf, _, _, j, .int (lf[j] : Nat), rfl, rfl, hL4, by omega, by omega, (ixN_seq (ixN_nat (by omega))).1, ?_, ?_⟩
        · unfold ints_
          rw [List.getElem?_map, List.getElem?_eq_getElem hj]
          rfl
        have hN5 : upd H4 Lf (.lst ((ints_ lf).eraseIdx j)) N0 = some (.lst (ints_ nm)) := by rw [upd_ne nNL]; exact hN4
        refine ⟨N0, _, _, rfl, rfl, hN5, l10 (Nat.le_of_eq hl) (by omega), ?_⟩
        refine ⟨by omega, nm ++ [lf[j]], lf.eraseIdx j, _, rfl, ⟨fun b o nb hb => ?_, hh, ((d.hand.upd hLh hLc).upd hNh hNc)⟩, ?_, ?_, (KL.pop_perm hj).trans hp, by rw [List.length_append, hl]; rfl⟩
        · rw [upd_ne (ne_of_none hb fN), upd_ne (ne_of_none hb fL), d.but b nb]
          exact st.but b o nb hb
        · rw [upd_same]
          unfold ints_
          rw [List.map_append]
          rfl
        · rw [upd_ne nNL.symm, upd_same]
          unfold ints_
          rw [map_erase]
      · obtain ⟨_, nm, lf, y4, rfl, st, hN, hL, hp, hl⟩ := pv
        have hl : nm.length = n := by simpa using hl
        have l0 : lf = [] := by
          have := hp.length_eq
          rw [List.length_append, List.length_range] at this
          exact List.length_eq_zero_iff.mp (by omega)
        subst l0
        rw [List.append_nil] at hp
        exact ⟨nm, y4, rfl, st, hN, hp⟩
    rintro _ H4 ⟨nm, y4, rfl, st4, hN, hp⟩
    -- the tree
    refine ⟨by show 0 ≤ sizeLine; decide, fun C0 nC => ?_⟩
    have hC5 : upd H4 C0 (.lst []) C0 = some (.lst []) := upd_same
    have hN5 : upd H4 C0 (.lst []) N0 = some (.lst (ints_ nm)) := by rw [upd_ne (ne_of_none hN nC)]; exact hN
    obtain ⟨hCh, hCc⟩ := st4.hand.ne nC
    have st5 := st4.same (same_new (o := .lst []) (Same.refl H4) nC)
    have fC : H C0 = none := by
      cases z : H C0 with
      | none => rfl
      | some o =>
        have h1 := st4.but C0 o hCh z
        rw [nC] at h1
        cases h1
    have nNC : N0 ≠ C0 := ne_of_none hN nC
    generalize upd H4 C0 (.lst []) = H5 at hC5 hN5 st5 ⊢
    refine ⟨fun σ' H' => ∃ ts cs y4, σ' = [some (.ref h), some (.int (n : Nat)), some (.ref N0), some (.ref Lf), y4, some (.ref C0), none, none, none, none, none, none, none] ∧ Stay h c H H' ∧ H' N0 = some (.lst (ints_ nm)) ∧ H' C0 = some (.lst (ts.map V.ref)) ∧ TAt H' ts (pairs cs) ∧ Tree n n cs ∧ cs.length ≤ 10, ?_, ?_⟩
    · refine ⟨_, rfl, 1, _, rfl, ⟨by decide, by decide, by omega, by omega⟩, for_range (lo := 1) (fun k σ' H' => k + 1 ≤ n ∧ ∃ ts cs y4, σ' = [some (.ref h), some (.int (n : Nat)), some (.ref N0), some (.ref Lf), y4, some (.ref C0), none, none, none, none, none, none, none] ∧ Stay h c H H' ∧ H' N0 = some (.lst (ints_ nm)) ∧ H' C0 = some (.lst (ts.map V.ref)) ∧ TAt H' ts (pairs cs) ∧ Tree n (k + 1) cs ∧ cs.length = k)
        ⟨by omega, [], [], y4, rfl, st5, hN5, hC5, .nil, Tree.nil n, rfl⟩ (fun k σ' H' hk pv => ?_) (fun σ' H' pv => ?_)⟩
      · obtain ⟨_, ts, cs, y4, rfl, st, hN, hC, tC, tr, hl⟩ := pv
        have hk : k + 1 < n := by omega
        refine ⟨_, rfl, .inl ⟨rfl, _, .inl (.inl hC)⟩, _, rfl, _, rfl, _, rfl, h, c, _, rfl, st.hand, by omega, ?_, fun H6 x d x0 x1 => ?_⟩
        · exact Int.lt_of_le_of_lt (show (1 : Int) + (k : Nat) ≤ 1000 by omega) (by decide)
        obtain ⟨j, rfl⟩ : ∃ j : Nat, x = (j : Int) := ⟨x.toNat, by omega⟩
        have hj : j < k + 1 := by omega
        refine ⟨by show 2 ≤ sizeLine; decide, fun t nt => ?_⟩
        have y6 := (Stay.of_drawn st.hand d).same (same_new (o := .tup [.int (1 + (k : Nat)), .int (j : Nat)]) (Same.refl H6) nt)
        have hC6 := y6.but C0 _ hCh hC
        have hN6 := y6.but N0 _ hNh hN
        have ltx : ts.length = k := by rw [tC.len]; unfold pairs; rw [List.length_map, hl]
        refine ⟨C0, _, _, rfl, rfl, hC6, by rw [List.length_map, ltx]; exact small1000 (by omega), ?_⟩
        have up : ∀ b xs, upd H6 t (.tup [.int (1 + (k : Nat)), .int (j : Nat)]) b = some (.tup xs) → upd (upd H6 t (.tup [.int (1 + (k : Nat)), .int (j : Nat)])) C0 (.lst (ts.map V.ref ++ [.ref t])) b = some (.tup xs) := fun b xs hb => by
          rw [upd_ne (fun z => by rw [z, hC6] at hb; cases hb)]
          exact hb
        have tC6 : TAt (upd H6 t (.tup [.int (1 + (k : Nat)), .int (j : Nat)])) ts (pairs cs) := tC.mono fun b xs hb => y6.but b _ (st.hand.net hb) hb
        refine ⟨by omega, ts ++ [t], cs ++ [(k + 1, j)], _, rfl, ⟨fun b o nb hb => ?_, hh, y6.hand.upd hCh hCc⟩, ?_, ?_, ?_, tr.add hk hj, by rw [List.length_append, hl]; rfl⟩
        · rw [upd_ne (ne_of_none hb fC)]
          exact y6.but b o nb (st.but b o nb hb)
        · rw [upd_ne nNC]; exact hN6
        · rw [upd_same, List.map_append]; rfl
        · unfold pairs
          rw [List.map_append]
          refine (tC6.mono up).append (.cons (up _ _ ?_) .nil)
          rw [upd_same, show (1 : Int) + (k : Nat) = ((k + 1 : Nat) : Int) by omega]
          rfl
      · obtain ⟨hk, ts, cs, y4, rfl, st, hN, hC, tC, tr, hl⟩ := pv
        refine ⟨ts, cs, y4, rfl, st, hN, hC, tC, ?_, by omega⟩
        have e : ((n : Int) - 1).toNat + 1 = n := by omega
        rw [e] at tr
        exact tr
    rintro _ H6 ⟨ts, cs, y4, rfl, st6, hN6, hC6, tC6, tr6, ln6⟩
    -- more couples
    refine ⟨fun σ' H' => ∃ ts cs y6 y7, σ' = [some (.ref h), some (.int (n : Nat)), some (.ref N0), some (.ref Lf), y4, some (.ref C0), y6, y7, none, none, none, none, none] ∧ Stay h c H H' ∧ H' N0 = some (.lst (ints_ nm)) ∧ H' C0 = some (.lst (ts.map V.ref)) ∧ TAt H' ts (pairs cs) ∧ Tree n n cs ∧ cs.length ≤ 60, ?_, ?_⟩
    · refine ⟨_, rfl, 2, _, rfl, ⟨by decide, by decide, by omega, by omega⟩, for_range (lo := 2) (fun k σ' H' => k ≤ 5 ∧ ∃ ts cs y6 y7, σ' = [some (.ref h), some (.int (n : Nat)), some (.ref N0), some (.ref Lf), y4, some (.ref C0), y6, y7, none, none, none, none, none] ∧ Stay h c H H' ∧ H' N0 = some (.lst (ints_ nm)) ∧ H' C0 = some (.lst (ts.map V.ref)) ∧ TAt H' ts (pairs cs) ∧ Tree n n cs ∧ cs.length ≤ 10 + 10 * k)
        ⟨by omega, ts, cs, none, none, rfl, st6, hN6, hC6, tC6, tr6, ln6⟩ (fun k σ' H' hk pv => ?_) (fun σ' H' pv => ?_)⟩
      · obtain ⟨_, ts, cs, y6, y7, rfl, st, hN, hC, tC, tr, ln⟩ := pv
        have hk : 2 + k < n := by omega
        refine ⟨_, rfl, _, rfl, by omega, by omega, for_range (fun j σ' H' => ∃ ts cs y7, σ' = [some (.ref h), some (.int (n : Nat)), some (.ref N0), some (.ref Lf), y4, some (.ref C0), some (.int (2 + (k : Nat))), y7, none, none, none, none, none] ∧ Stay h c H H' ∧ H' N0 = some (.lst (ints_ nm)) ∧ H' C0 = some (.lst (ts.map V.ref)) ∧ TAt H' ts (pairs cs) ∧ Tree n n cs ∧ cs.length ≤ 10 + 10 * k + j)
          ⟨ts, cs, y7, rfl, st, hN, hC, tC, tr, by omega⟩ (fun j σ' H' hj pv => ?_) (fun σ' H' pv => ?_)⟩
        · obtain ⟨ts, cs, y7, rfl, st, hN, hC, tC, tr, ln⟩ := pv
          have hj : j < 2 + k := by omega
          have ltx : ts.length = cs.length := by rw [tC.len]; unfold pairs; rw [List.length_map]
          refine ⟨_, rfl, _, rfl, by show 2 ≤ sizeLine; decide, fun t nt => ?_⟩
          have sT := same_new (o := .tup [.int (2 + (k : Nat)), .int (0 + (j : Nat))]) (Same.refl H') nt
          have stT := st.same sT
          refine ⟨_, rfl, intD [2 + k, j], _, .tup (xs := [.int (2 + (k : Nat)), .int (0 + (j : Nat))]) (.inl (.inl upd_same)) (dp_pair k j), .lst (.inl (.inl (sT _ _ hC))) (dp_rows (tC.same sT)), shaped_ints _, shaped_rows _, ?_⟩
          rw [any_rows]
          refine ⟨_, rfl, ite2 (fun q1 => ?_) (fun q1 => ?_)⟩
          · have hnm : (2 + k, j) ∉ cs := by
              intro z
              rw [decide_eq_true z] at q1
              cases q1
            refine ⟨_, rfl, h, c, _, rfl, stT.hand, by decide, by decide, fun H7 x d x0 x1 => ?_⟩
            have st7 := stT.drawn d
            have hC7 : H7 C0 = some (.lst (ts.map V.ref)) := by rw [d.but C0 hCh]; exact sT _ _ hC
            have hN7 : H7 N0 = some (.lst (ints_ nm)) := by rw [d.but N0 hNh]; exact sT _ _ hN
            have tC7 : TAt H7 ts (pairs cs) := (tC.same sT).mono fun b xs hb => by rw [d.but b (stT.hand.net hb)]; exact hb
            refine ⟨rfl, _, rfl, ite2 (fun q2 => ?_) (fun q2 => ?_)⟩
            · refine ⟨_, rfl, .inl ⟨rfl, _, .inl (.inl hC7)⟩, _, rfl, _, rfl, by show 2 ≤ sizeLine; decide, fun t2 nt2 => ?_⟩
              have sU := same_new (o := .tup [.int (2 + (k : Nat)), .int (0 + (j : Nat))]) (Same.refl H7) nt2
              refine ⟨C0, _, _, rfl, rfl, sU _ _ hC7, by rw [List.length_map, ltx]; exact small1000 (by omega), ?_⟩
              have up : ∀ b xs, upd H7 t2 (.tup [.int (2 + (k : Nat)), .int (0 + (j : Nat))]) b = some (.tup xs) → upd (upd H7 t2 (.tup [.int (2 + (k : Nat)), .int (0 + (j : Nat))])) C0 (.lst (ts.map V.ref ++ [.ref t2])) b = some (.tup xs) := fun b xs hb => by
                rw [upd_ne (fun z => by rw [z, sU _ _ hC7] at hb; cases hb)]
                exact hb
              refine ⟨ts ++ [t2], cs ++ [(2 + k, j)], _, rfl, ⟨fun b o nb hb => ?_, hh, (st7.same sU).hand.upd hCh hCc⟩, ?_, ?_, ?_, tr.more hj hk hnm, by rw [List.length_append, List.length_singleton]; omega⟩
              · rw [upd_ne (ne_of_none hb fC)]
                exact (st7.same sU).but b o nb hb
              · rw [upd_ne nNC]; exact sU _ _ hN7
              · rw [upd_same, List.map_append]; rfl
              · unfold pairs
                rw [List.map_append]
                refine ((tC7.same sU).mono up).append (.cons (up _ _ ?_) .nil)
                rw [upd_same, show (2 : Int) + (k : Nat) = ((2 + k : Nat) : Int) by omega, Int.zero_add]
                rfl
            · exact ⟨ts, cs, _, rfl, st7, hN7, hC7, tC7, tr, by omega⟩
          · exact ⟨ts, cs, _, rfl, stT, sT _ _ hN, sT _ _ hC, tC.same sT, tr, by omega⟩
        · obtain ⟨ts, cs, y7, rfl, st, hN, hC, tC, tr, ln⟩ := pv
          exact ⟨by omega, ts, cs, _, _, rfl, st, hN, hC, tC, tr, by omega⟩
      · obtain ⟨hk, ts, cs, y6, y7, rfl, st, hN, hC, tC, tr, ln⟩ := pv
        exact ⟨ts, cs, y6, y7, rfl, st, hN, hC, tC, tr, by omega⟩
    rintro _ H8 ⟨ts, cs, y6, y7, rfl, st8, hN8, hC8, tC8, tr8, ln8⟩
    -- under their names
    have nml : nm.length = n := by rw [hp.length_eq, List.length_range]
    have ltx : ts.length = cs.length := by rw [tC8.len]; unfold pairs; rw [List.length_map]
    refine ⟨_, rfl, C0, rfl, ⟨_, .inl (.inl hC8)⟩, fun D hD => lc_list (xs := ts.map V.ref) (fun j H2 => Same H8 H2 ∧ ∃ us, H2 D = some (.lst (us.map V.ref)) ∧ TAt H2 us (pairs ((cs.take j).map fun e => KL.couple nm e.1 e.2)) ∧ us.length ≤ j) ⟨same_new (Same.refl H8) hD, [], upd_same, .nil, Nat.le_refl _⟩ (fun j H2 _ pv => .inl (.inl (pv.1 _ _ hC8))) (fun j x H2 hx pv => ?_) (fun H9 pv => ?_)⟩
    · obtain ⟨e, us, hD2, tD, lu⟩ := pv
      rw [List.getElem?_map] at hx
      obtain ⟨t, ht, rfl⟩ := Option.map_eq_some_iff.mp hx
      obtain ⟨l, el, hl⟩ := tC8.get ht
      unfold pairs at el
      rw [List.getElem?_map] at el
      obtain ⟨ab, eab, rfl⟩ := Option.map_eq_some_iff.mp el
      obtain ⟨a, b'⟩ := ab
      obtain ⟨t1, t2, t3⟩ := tr8.lt _ (List.mem_of_getElem? eab)
      have t1 : b' < a := t1
      have t3 : a < n := t3
      have jl : j < 60 := by
        have := (List.getElem?_eq_some_iff.mp eab).1
        omega
      have at_ : ∀ x, x < n → atI (ints_ nm) ((x : Nat) : Int) = some (.int (nm.getD x 0 : Nat)) := fun x hx' => by
        refine atI_nat ?_
        unfold ints_
        rw [List.getElem?_map, List.getElem?_eq_getElem (by omega), List.getD_eq_getElem?_getD, List.getElem?_eq_getElem (by omega)]
        rfl
      have hN9 := e _ _ hN8
      refine ⟨t, [.int (a : Nat), .int (b' : Nat)], rfl, .inl (.inl (e _ _ hl)), rfl, _, _, rfl, _, _, rfl, rfl, rfl, ?_⟩
      refine ⟨_, rfl, _, rfl, N0, _, _, _, rfl, rfl, .inl (.inl hN9), at_ a t3, _, rfl, _, rfl, N0, _, _, _, rfl, rfl, .inl (.inl hN9), at_ b' (by omega), _, _, rfl, ?_⟩
      refine ⟨_, rfl, _, rfl, N0, _, _, _, rfl, rfl, .inl (.inl hN9), at_ a t3, _, rfl, _, rfl, N0, _, _, _, rfl, rfl, .inl (.inl hN9), at_ b' (by omega), _, _, rfl, ?_⟩
      refine ⟨by show 2 ≤ sizeLine; decide, fun u nu => ?_⟩
      have nDu : D ≠ u := ne_of_none hD2 nu
      refine ⟨_, by rw [upd_ne nDu]; exact hD2, by rw [List.length_map]; exact small1000 (by omega), fun b o hb => ?_, us ++ [u], by rw [upd_same, List.map_append]; rfl, ?_, by rw [List.length_append, List.length_singleton]; omega⟩
      · have h1 := e _ _ hb
        rw [upd_ne (ne_of_none hb hD), upd_ne (ne_of_none h1 nu)]
        exact h1
      · rw [List.take_add_one, eab, List.map_append]
        unfold pairs at tD ⊢
        rw [List.map_append]
        refine (tD.mono fun b xs hb => ?_).append (.cons ?_ .nil)
        · rw [upd_ne (fun z => by rw [z, hD2] at hb; cases hb), upd_ne (ne_of_none hb nu)]
          exact hb
        · have m1 : ∀ x y : Nat, (if (y : Int) < (x : Int) then (y : Int) else (x : Int)) = ((min x y : Nat) : Int) := fun x y => by split <;> omega
          have m2 : ∀ x y : Nat, (if (y : Int) > (x : Int) then (y : Int) else (x : Int)) = ((max x y : Nat) : Int) := fun x y => by split <;> omega
          rw [upd_ne nDu.symm, upd_same, m1, m2]
          rfl
    obtain ⟨e9, us, hD9, tD9, lu9⟩ := pv
    rw [List.length_map, ltx, List.take_length] at tD9
    rw [List.length_map, ltx] at lu9
    have st9 := st8.same e9
    -- the lots
    refine ⟨_, rfl, _, rfl, fun rg nrg => ?_⟩
    refine ⟨rg, n, rfl, upd_same, by omega, fun l0 nl0 => ?_⟩
    have s10 : Same H9 (upd (upd H9 rg (.rng 0 n)) l0 (.lst (K7E.upTo n))) := same_new (same_new (Same.refl H9) nrg) nl0
    refine ⟨l0, n, rfl, n5, upd_same, fun H11 lo ls e11 nlo hlo tlo => ?_⟩
    have e11 := s10.trans e11
    refine ⟨lo, rfl, ⟨_, .inl (.inl hlo)⟩, fun D2 hD2 => lc_list (xs := ls.map V.ref) (fun j H2 => Same H11 H2 ∧ ∃ us, H2 D2 = some (.lst (us.map V.ref)) ∧ TAt H2 us (((lotsTo (List.range n) n).take j).filter fun l => decide (0 < l.length) && decide (l.length < n)) ∧ us.length ≤ j) ⟨same_new (Same.refl H11) hD2, [], upd_same, .nil, Nat.le_refl _⟩ (fun j H2 _ pv => .inl (.inl (pv.1 _ _ hlo))) (fun j x H2 hx pv => ?_) (fun H12 pv => ?_)⟩
    · obtain ⟨e, us, hD3, tD, lu⟩ := pv
      rw [List.getElem?_map] at hx
      obtain ⟨t, ht, rfl⟩ := Option.map_eq_some_iff.mp hx
      obtain ⟨l, el, hl⟩ := tlo.get ht
      have jl : j < 32 := by
        have h1 := (List.getElem?_eq_some_iff.mp el).1
        have h2 : (lotsTo (List.range n) n).length ≤ 32 := (level_len ⟨n, by omega⟩ ⟨n, by omega⟩).2
        omega
      have hll : (l.map fun c => V.int (c : Nat)).length = l.length := List.length_map ..
      have hl2 := e _ _ hl
      have f1 : ((lotsTo (List.range n) n).take (j + 1)).filter (fun l => decide (0 < l.length) && decide (l.length < n)) = ((lotsTo (List.range n) n).take j).filter (fun l => decide (0 < l.length) && decide (l.length < n)) ++ (if (decide (0 < l.length) && decide (l.length < n)) = true then [l] else []) := by
        rw [List.take_add_one, el, List.filter_append]
        congr 1
        show List.filter _ [l] = _
        rw [List.filter_cons]
        rfl
      refine ⟨rfl, _, rfl, t, _, rfl, .inr (.inl (.inl hl2)), _, _, rfl, rfl, _, rfl, ite2 (fun q1 => ?_) (fun q1 => ?_)⟩
      · have q1' : 0 < l.length := by
          have z : (0 : Int) < (((l.map fun c => V.int (c : Nat)).length : Nat) : Int) := of_decide_eq_true q1
          omega
        refine ⟨_, rfl, _, _, rfl, rfl, _, rfl, ite2 (fun q2 => ?_) (fun q2 => ?_)⟩
        · have q2' : l.length < n := by
            have z : (((l.map fun c => V.int (c : Nat)).length : Nat) : Int) < (n : Nat) := of_decide_eq_true q2
            omega
          refine ⟨_, rfl, _, hD3, by rw [List.length_map]; exact small1000 (by omega), fun b o hb => ?_, us ++ [t], by rw [upd_same, List.map_append]; rfl, ?_, by rw [List.length_append, List.length_singleton]; omega⟩
          · rw [upd_ne (ne_of_none hb hD2)]
            exact e _ _ hb
          · rw [f1, if_pos (by rw [decide_eq_true q1', decide_eq_true q2']; rfl)]
            have up : ∀ b xs, H2 b = some (.tup xs) → upd H2 D2 (.lst (us.map V.ref ++ [.ref t])) b = some (.tup xs) := fun b xs hb => by
              rw [upd_ne (fun z => by rw [z, hD3] at hb; cases hb)]
              exact hb
            exact (tD.mono up).append (.cons (up _ _ hl2) .nil)
        · have q2' : ¬ l.length < n := fun z => q2 (decide_eq_true (by omega))
          refine ⟨e, us, hD3, ?_, by omega⟩
          rw [f1, if_neg (by rw [decide_eq_false q2', Bool.and_false]; decide), List.append_nil]
          exact tD
      · have q1' : ¬ 0 < l.length := fun z => q1 (decide_eq_true (by omega))
        refine ⟨_, rfl, iteF ?_⟩
        refine ⟨e, us, hD3, ?_, by omega⟩
        rw [f1, if_neg (by rw [decide_eq_false q1', Bool.false_and]; decide), List.append_nil]
        exact tD
    obtain ⟨e12, vs, hD12, tD12, lv12⟩ := pv
    have e12 := e11.trans e12
    have lsl : ls.length = (lotsTo (List.range n) n).length := tlo.len
    rw [List.length_map, lsl, List.take_length] at tD12
    have st12 := st9.same e12
    have hR12 := e12 _ _ hD9
    have tR12 := tD9.same e12
    -- the land
    have okl : LandOk0 n (cs.map fun e => KL.couple nm e.1 e.2) := tree_land hp tr8
    refine ⟨_, rfl, _, rfl, D, _, kfOf H12, rfl, .inl (.inl hR12), fun x hx => ?_, fun ys p srt stb np => ?_⟩
    · obtain ⟨a, e, rfl, ha⟩ := g_mem tR12 x hx
      exact ⟨a, rfl, by rw [kf_at ha]; exact ha⟩
    have hys := fun x (hx : x ∈ ys) => g_mem tR12 x (stb.perm.mem_iff.mp hx)
    obtain ⟨ts', rfl, tY⟩ := tat_of ys hys
    have pe : ((ts'.map V.ref).map (gOf H12)).Perm (cs.map fun e => KL.couple nm e.1 e.2) := by
      rw [← g_map tR12]
      exact stb.perm.map _
    have ok : LandOk n ((ts'.map V.ref).map (gOf H12)) := ⟨fun e he => okl.lt e (pe.mem_iff.mp he), pe.nodup_iff.mpr okl.nd, sorted_of _ hys srt, fun S h0 hS => okl.conn S h0 fun e he => hS e (pe.mem_iff.mpr he)⟩
    have s13 := same_new (o := .lst (ts'.map V.ref)) (Same.refl H12) np
    obtain ⟨hph, _⟩ := st12.hand.ne np
    have st13 := st12.same s13
    have hp13 : upd H12 p (.lst (ts'.map V.ref)) p = some (.lst (ts'.map V.ref)) := upd_same
    have tY13 := tY.same s13
    have hD13 := s13 _ _ hD12
    have tD13 := tD12.same s13
    generalize (ts'.map V.ref).map (gOf H12) = es at ok tY13 pe tY
    generalize upd H12 p (.lst (ts'.map V.ref)) = H13 at s13 st13 hp13 tY13 hD13 tD13 ⊢
    obtain ⟨k4, k0, k32⟩ := lots_some ⟨n, by omega⟩ n2
    have hvl : vs.length = ((lotsTo (List.range n) n).filter fun l => decide (0 < l.length) && decide (l.length < n)).length := tD13.len
    have k4 : vs.length ≠ 4 := by rw [hvl]; exact k4
    have k0 : 0 < vs.length := by rw [hvl]; exact k0
    have k32 : vs.length ≤ 32 := by rw [hvl]; exact k32
    refine ⟨_, rfl, _, rfl, h, c, D2, _, rfl, st13.hand, st13.hand.nel hD13 (notHand_len _ (by rw [List.length_map]; exact k4)), hD13, by rw [List.length_map]; exact k0, by rw [List.length_map]; omega, fun H14 j v d ej => ?_⟩
    rw [List.getElem?_map] at ej
    obtain ⟨t, ht, rfl⟩ := Option.map_eq_some_iff.mp ej
    obtain ⟨lot, elot, hlot⟩ := tD13.get ht
    have st14 := st13.drawn d
    have keep : ∀ {b : Addr} {xs : List V}, H13 b = some (.tup xs) → H14 b = some (.tup xs) := fun {b xs} hb => by rw [d.but b (st13.hand.net hb)]; exact hb
    have hp14 : H14 p = some (.lst (ts'.map V.ref)) := by rw [d.but p hph]; exact hp13
    have tY14 := tY13.mono fun b xs hb => keep hb
    refine ⟨t, _, rfl, .inr (.inl (.inl (keep hlot))), fun sA nsA => ?_⟩
    refine ⟨by show 3 ≤ sizeLine; decide, fun q0 nq0 => ?_⟩
    have s15 := same_new (o := .lst (lot.map fun c => .int (c : Nat))) (Same.refl H14) nsA
    have s16 := same_new (o := .tup [.int (n : Nat), .ref p, .ref sA]) s15 nq0
    have nsq : sA ≠ q0 := ne_of_none (show upd H14 sA (.lst (lot.map fun c => .int (c : Nat))) sA = some (.lst (lot.map fun c => .int (c : Nat))) from upd_same) nq0
    have hmem := List.mem_filter.mp (List.mem_of_getElem? elot)
    obtain ⟨hm1, hm2⟩ := hmem
    have hm2 := Bool.and_eq_true_iff.mp hm2
    exact q _ q0 es lot (st14.same s16) ((st14.same s15).free nq0) ⟨⟨p, sA, ts', upd_same, s16 _ _ hp14, tY14.same s16, by rw [upd_ne nsq, upd_same]; rfl⟩, ok, hm1, of_decide_eq_true hm2.1, of_decide_eq_true hm2.2⟩
end
end K7
end
/-! ## P4 -/
section
open PySem PySem.Spec PyProof.Rows L2
namespace K7
abbrev N_is_whole : List Str := ["thing", "low", "high"]
abbrev s_is_whole : Stmt := topS 10
theorem sc_is_whole : FnScope ["thing", "low", "high"] ["thing", "low", "high"] (defScope s_is_whole) := ⟨rfl, rfl, rfl, by decide +kernel, rfl, by decide +kernel, by decide +kernel⟩
abbrev N_is_sequence : List Str := ["thing"]
abbrev s_is_sequence : Stmt := topS 9
theorem sc_is_sequence : FnScope ["thing"] ["thing"] (defScope s_is_sequence) := ⟨rfl, rfl, rfl, by decide +kernel, rfl, by decide +kernel, by decide +kernel⟩
section
variable {P : Program} {w : World} {K : PySem.W.Frag} {mg : Str → Option Value} {base : Heap}
/-! is_whole -/
def wholeV (x : V) (lo hi : Int) : Bool := match x with
  | .int i => decide (lo ≤ i) && decide (i ≤ hi)
  | _ => false
theorem wholeV_int (i lo hi : Int) : wholeV (.int i) lo hi = (decide (lo ≤ i) && decide (i ≤ hi)) := rfl
inductive Flat4 : V → Prop where
  | non : Flat4 .non
  | bl (b : Bool) : Flat4 (.bl b)
  | int (i : Int) : Flat4 (.int i)
  | str (z : Str) : Flat4 (.str z)
/-- what a row of the law holds -/
inductive Thing (H : Hp) : V → Prop where
  | flat {x : V} (h : Flat4 x) : Thing H x
  | tup {a : Addr} {xs : List V} (h : H a = some (.tup xs)) : Thing H (.ref a)
  | lst {a : Addr} {xs : List V} (h : H a = some (.lst xs)) : Thing H (.ref a)
theorem Thing.same {H H' : Hp} {x : V} (h : Thing H x) (e : Same H H') : Thing H' x := by
  cases h with
  | flat h => exact .flat h
  | tup h => exact .tup (e _ _ h)
  | lst h => exact .lst (e _ _ h)
def spWhole : Sp := fun vs H Q _ => ∃ (x : V) (lo hi : Int), vs = [x, .int lo, .int hi] ∧ Thing H x ∧ Q (.bl (wholeV x lo hi)) H
theorem ok_whole {f : Addr} {fd : FuncData} (F : Fun K "is_whole" "is_whole" s_is_whole f fd) (m_isinstance : mg "isinstance" = none) (m_int : mg "int" = none) (m_bool : mg "bool" = none) : FnOk P w K mg base CX0 1 f fd ["thing", "low", "high"] spWhole := by
  refine F.ok sc_is_whole (fun vs H Q E h => ?_) (fun cdv A outer s H vs Q E hr h => ?_)
  · obtain ⟨x, lo, hi, rfl, _⟩ := h
    rfl
  · obtain ⟨x, lo, hi, rfl, hx, q⟩ := h
    refine ⟨_, (pss_one (ps_ret (pe_and (pe_callB call_isi (by rfl) m_isinstance boot_isinstance (pa_cons (pv 0) (pa_cons (pe_bltn (v := .ty "int") (by rfl) m_int boot_int rfl) pa_nil))) (pe_and (pe_not (pe_callB call_isi (by rfl) m_isinstance boot_isinstance (pa_cons (pv 0) (pa_cons (pe_bltn (v := .ty "bool") (by rfl) m_bool boot_bool rfl) pa_nil)))) (pe_one (pe_chain op_le op_le (pv 1) (pv 0) (pv 2))))))), ?_⟩
    rcases hx with ⟨hx⟩ | hx | hx
    rotate_left
    · exact ⟨_, rfl, _, _, _, _, _, rfl, .ty _, .base (.tup hx), kit_ty (r := false) (by decide +kernel), false, rfl, q⟩
    · exact ⟨_, rfl, _, _, _, _, _, rfl, .ty _, .base (.lst hx), kit_ty (r := false) (by decide +kernel), false, rfl, q⟩
    cases hx with
    | non => exact ⟨_, rfl, _, _, _, _, _, rfl, .ty _, .base .non, kit_ty (r := false) (by decide +kernel), false, rfl, q⟩
    | bl b => 
      refine ⟨_, rfl, _, _, _, _, _, rfl, .ty _, .base (.bl b), kit_ty (r := true) (by decide +kernel), true, rfl, ?_⟩
      exact ⟨_, rfl, _, _, _, _, _, rfl, .ty _, .base (.bl b), kit_ty (r := true) (by decide +kernel), _, rfl, _, rfl, q⟩
    | str z => exact ⟨_, rfl, _, _, _, _, _, rfl, .ty _, .base (.str z), kit_ty (r := false) (by decide +kernel), false, rfl, q⟩
    | int i =>
      refine ⟨_, rfl, _, _, _, _, _, rfl, .ty _, .base (.int i), kit_ty (r := true) (by decide +kernel), true, rfl, ?_⟩
      refine ⟨_, rfl, _, _, _, _, _, rfl, .ty _, .base (.int i), kit_ty (r := false) (by decide +kernel), _, rfl, _, rfl, ?_⟩
      refine ⟨_, rfl, _, rfl, _, _, rfl, rfl, _, rfl, ite2 (fun e => ?_) (fun e => ?_)⟩
      · rw [wholeV_int, e, Bool.true_and] at q
        exact ⟨_, rfl, _, _, rfl, rfl, q⟩
      · rw [wholeV_int, Bool.eq_false_iff.mpr e, Bool.false_and] at q
        exact q

/-! is_sequence -/
/-- a tuple or a list -/
def SqA (K : PySem.W.Frag) (H : Hp) (a : Addr) (xs : List V) : Prop := SqL K H a xs ∨ SqT K H a xs
def spSeq (K : PySem.W.Frag) : Sp := fun vs H Q _ => ∃ (x : V) (t : String) (b : Bool), vs = [x] ∧ (∀ H1, Same H H1 → TyX K H1 x (.type t)) ∧ PySem.W.kitAny K (.type t) [.type "list", .type "tuple"] = some b ∧ ∀ H1, Same H H1 → Q (.bl b) H1
theorem ok_seq {f : Addr} {fd : FuncData} (F : Fun K "is_sequence" "is_sequence" s_is_sequence f fd) (m_isinstance : mg "isinstance" = none) (m_list : mg "list" = none) (m_tuple : mg "tuple" = none) : FnOk P w K mg base CX0 1 f fd ["thing"] (spSeq K) := by
  refine F.ok sc_is_sequence (fun vs H Q E h => ?_) (fun cdv A outer s H vs Q E hr h => ?_)
  · obtain ⟨x, t, b, rfl, _⟩ := h
    rfl
  · obtain ⟨x, t, b, rfl, ty, k, q⟩ := h
    refine ⟨_, (pss_one (ps_ret (pe_callB call_isiT (by rfl) m_isinstance boot_isinstance (pa_cons (pv 0) (pa_cons (pe_tup (pa_cons (pe_bltn (v := .ty "list") (by rfl) m_list boot_list rfl) (pa_cons (pe_bltn (v := .ty "tuple") (by rfl) m_tuple boot_tuple rfl) pa_nil))) pa_nil))))), ?_⟩
    refine ⟨_, rfl, by show 2 ≤ sizeLine; decide, fun tp np => ?_⟩
    have s1 := same_new (o := .tup [.ty "list", .ty "tuple"]) (Same.refl H) np
    exact ⟨x, tp, _, .type t, _, b, rfl, upd_same, .cons (.ty _) (.cons (.ty _) .nil), ty _ s1, k, q _ s1⟩
theorem any_tup : PySem.W.kitAny K (.type "tuple") [.type "list", .type "tuple"] = some true := kitAny_cons (b := false) (kit_ty (by decide +kernel)) (fun _ => kitAny_cons (b := true) (kit_ty (by decide +kernel)) (fun z => nomatch z) (fun _ => rfl)) (fun z => nomatch z)
theorem any_lst : PySem.W.kitAny K (.type "list") [.type "list", .type "tuple"] = some true := kitAny_cons (b := true) (kit_ty (by decide +kernel)) (fun z => nomatch z) (fun _ => rfl)
theorem any_int : PySem.W.kitAny K (.type "int") [.type "list", .type "tuple"] = some false := kitAny_cons (b := false) (kit_ty (by decide +kernel)) (fun _ => kitAny_cons (b := false) (kit_ty (by decide +kernel)) (fun _ => kitAny_nil) (fun z => nomatch z)) (fun z => nomatch z)
theorem any_str : PySem.W.kitAny K (.type "str") [.type "list", .type "tuple"] = some false := kitAny_cons (b := false) (kit_ty (by decide +kernel)) (fun _ => kitAny_cons (b := false) (kit_ty (by decide +kernel)) (fun _ => kitAny_nil) (fun z => nomatch z)) (fun z => nomatch z)
theorem any_non : PySem.W.kitAny K (.type "NoneType") [.type "list", .type "tuple"] = some false := kitAny_cons (b := false) (kit_ty (by decide +kernel)) (fun _ => kitAny_cons (b := false) (kit_ty (by decide +kernel)) (fun _ => kitAny_nil) (fun z => nomatch z)) (fun z => nomatch z)
theorem any_bool : PySem.W.kitAny K (.type "bool") [.type "list", .type "tuple"] = some false := kitAny_cons (b := false) (kit_ty (by decide +kernel)) (fun _ => kitAny_cons (b := false) (kit_ty (by decide +kernel)) (fun _ => kitAny_nil) (fun z => nomatch z)) (fun z => nomatch z)
end
end K7
end
/-! ## EL -/
section
open PySem PySem.Spec PyProof.Rows L2
namespace K7E
theorem nodup_le {α : Type} [DecidableEq α] : ∀ (l D : List α), l.Nodup → (∀ x ∈ l, x ∈ D) → l.length ≤ D.length
  | [], _, _, _ => Nat.zero_le _
  | x :: l, D, h, m => by
    obtain ⟨h1, h2⟩ := List.nodup_cons.mp h
    have hx := m x List.mem_cons_self
    have z := nodup_le l (D.erase x) h2 fun y hy => (List.mem_erase_of_ne (fun (e : y = x) => h1 (by rw [← e]; exact hy))).mpr (m y (List.mem_cons_of_mem _ hy))
    rw [List.length_erase_of_mem hx] at z
    have := List.length_pos_of_mem hx
    rw [List.length_cons]
    omega
theorem nodup_of_le {α : Type} [DecidableEq α] : ∀ (l D : List α), l.Nodup → (∀ x ∈ l, x ∈ D) → D.length ≤ l.length → D.Nodup
  | [], [], _, _, _ => List.nodup_nil
  | [], _ :: _, _, _, z => absurd z (by rw [List.length_cons, List.length_nil]; omega)
  | x :: l, D, h, m, z => by
    obtain ⟨h1, h2⟩ := List.nodup_cons.mp h
    have hx := m x List.mem_cons_self
    have hl := List.length_erase_of_mem hx
    have sub : ∀ y ∈ l, y ∈ D.erase x := fun y hy => (List.mem_erase_of_ne (fun (e : y = x) => h1 (by rw [← e]; exact hy))).mpr (m y (List.mem_cons_of_mem _ hy))
    rw [List.length_cons] at z
    have hp := List.length_pos_of_mem hx
    have hd := nodup_of_le l (D.erase x) h2 sub (by omega)
    rw [(List.perm_cons_erase hx).nodup_iff, List.nodup_cons]
    refine ⟨fun hm => ?_, hd⟩
    have w := nodup_le (x :: l) (D.erase x) h fun y hy => by
      rcases List.mem_cons.mp hy with rfl | hy
      · exact hm
      · exact sub y hy
    rw [List.length_cons] at w
    omega
section
variable {X : Cx}
/-- len(set(x)), x a tuple of ints: how many there are of them, and all of them only if no two are the same -/
def tLenSetT (K : PySem.W.Frag) (ta : TE) : TE := fun σ H Q => ta σ H fun x H1 => ∃ (l : Addr) (ns : List Int), x = V.ref l ∧ SqT K H1 l (ns.map V.int) ∧ ns.length < 64 ∧ ∀ c : Nat, c ≤ ns.length → (c = ns.length ↔ ns.Nodup) → Q (.int c) H1
theorem pe_lenSetT {a : Expr} {ta : TE} {p p2 q pos : Pos} (hc : X.calm = true) (hg : Gl X "len") (hm : X.mg "len" = none) (hg2 : Gl X "set") (hm2 : X.mg "set" = none) (ha : PE X a ta)
    (na : starEach [a] X.env = (false, eval a X.env) :: starEach [] X.env := by rfl) : PE X (.Call (.Name "len" p) [.Call (.Name "set" p2) [a] [] q] [] pos) (tLenSetT X.K ta) := by
  refine ⟨fun pins s σ H Q I h => ?_⟩
  refine Call_ (ld_blt I hg hm PySem.boot_len ?_)
  refine PyProof.Rows.callWith_builtin1 (PyProof.Rows.args_cons ?_ rfl) rfl rfl
  refine Call_ (ld_blt I hg2 hm2 PyProof.Rows.boot_set ?_)
  refine PyProof.Rows.callWith_type1 (PyProof.Rows.args_cons (thn (ha.run pins s σ H _ I h) fun v s1 ⟨x, H1, I1, r1, q1⟩ => PyProof.Rows.args_nil ?_) na) na rfl
  obtain ⟨l, ns, rfl, hq, h1, q1⟩ := q1
  cases r1
  obtain ⟨its, r, pl, hz⟩ := I1.tuple hq
  have hi : IntsAre its.toArray.toList ns := ints_of_vals r
  refine call_set_tupI ns (I1.ok.hd hc) (show s1.heap.IsTuple l its.toArray from pl) hi (by unfold scanBound; omega) fun h' tk c hS hcn hk => ?_
  refine PyProof.Rows.args_nil ?_
  obtain ⟨o, es, ep, t, ho, hex, hd, g, nd, hm2, hb, hf, hn, hr, hl2⟩ := hS
  have I2 : Inv X pins σ H1 { s1 with heap := h', toks := tk } := I1.kept fun b o e => hk b o e
  have hmem : ∀ k, k ∈ es.toList.map keyOf ↔ k ∈ ns := fun k => by rw [← hm2 k, decide_eq_true_eq]
  have hlen : (es.toList.map keyOf).length = c := by rw [List.length_map, Array.length_toList, hn]
  have key : c = ns.length ↔ ns.Nodup := by
    constructor
    · intro e
      exact nodup_of_le _ _ nd (fun k hk => (hmem k).mp hk) (by rw [hlen, e]; exact Nat.le_refl _)
    · intro hn2
      have w := nodup_le _ _ hn2 fun k hk => (hmem k).mpr hk
      rw [hlen] at w
      omega
  refine call_len_set ho hex hd hf (by rw [hn] <;> omega) ⟨.int c, H1, I2.tok _, ⟨_, by rw [hn]⟩, q1 c hcn key⟩
/-- the same over a list -/
theorem firstMet_nd (val : Nat → Int) : ∀ i, (firstMet val i).Nodup
  | 0 => List.nodup_nil
  | i + 1 => by
    rw [firstMet_succ]
    unfold step_dedup
    split
    · exact firstMet_nd val i
    · rename_i h
      refine List.nodup_append.mpr ⟨firstMet_nd val i, List.nodup_cons.mpr ⟨List.not_mem_nil, List.nodup_nil⟩, fun a ha b hb e => h ?_⟩
      rw [List.mem_singleton] at hb
      exact List.any_eq_true.mpr ⟨a, ha, by rw [e, hb]; exact beq_self_eq_true _⟩
theorem firstMet_mem (ns : List Int) (k : Int) : k ∈ firstMet (fun i => ns.getD i 0) ns.length ↔ k ∈ ns := by
  have e := firstMet_any (fun i => ns.getD i 0) ns.length k
  have em : (List.range ns.length).map (fun i => ns.getD i 0) = ns := by
    refine List.ext_getElem (by rw [List.length_map, List.length_range]) fun j h1 h2 => ?_
    rw [List.getElem_map, List.getElem_range, List.getD_eq_getElem?_getD, List.getElem?_eq_getElem h2]
    rfl
  rw [em] at e
  have w : ∀ l : List Int, l.any (· == k) = true ↔ k ∈ l := fun l => by
    rw [List.any_eq_true]
    exact ⟨fun ⟨x, hx, ex⟩ => by rw [← beq_iff_eq.mp ex]; exact hx, fun hx => ⟨k, hx, beq_self_eq_true _⟩⟩
  rw [← w, ← w, e]
def tLenSetL (K : PySem.W.Frag) (ta : TE) : TE := fun σ H Q => ta σ H fun x H1 => ∃ (l : Addr) (ns : List Int), x = V.ref l ∧ SqL K H1 l (ns.map V.int) ∧ ns.length < 64 ∧ ∀ c : Nat, c ≤ ns.length → (c = ns.length ↔ ns.Nodup) → Q (.int c) H1
theorem pe_lenSetL {a : Expr} {ta : TE} {p p2 q pos : Pos} (hc : X.calm = true) (hg : Gl X "len") (hm : X.mg "len" = none) (hg2 : Gl X "set") (hm2 : X.mg "set" = none) (ha : PE X a ta)
    (na : starEach [a] X.env = (false, eval a X.env) :: starEach [] X.env := by rfl) : PE X (.Call (.Name "len" p) [.Call (.Name "set" p2) [a] [] q] [] pos) (tLenSetL X.K ta) := by
  refine ⟨fun pins s σ H Q I h => ?_⟩
  refine Call_ (ld_blt I hg hm PySem.boot_len ?_)
  refine PyProof.Rows.callWith_builtin1 (PyProof.Rows.args_cons ?_ rfl) rfl rfl
  refine Call_ (ld_blt I hg2 hm2 PyProof.Rows.boot_set ?_)
  refine PyProof.Rows.callWith_type1 (PyProof.Rows.args_cons (thn (ha.run pins s σ H _ I h) fun v s1 ⟨x, H1, I1, r1, q1⟩ => PyProof.Rows.args_nil ?_) na) na rfl
  obtain ⟨l, ns, rfl, hq, h1, q1⟩ := q1
  cases r1
  obtain ⟨its, r, pl, hz⟩ := I1.list hq
  have hl : its.toArray.size = ns.length := by rw [List.size_toArray, ← r.length, List.length_map]
  refine call_set_list (I1.ok.hd hc) pl.isList (ns := ns) (by simpa using r.ints) (by unfold scanBound; omega) fun h' tk hS hk => ?_
  rw [hl] at hS
  have nd := firstMet_nd (fun i => ns.getD i 0) ns.length
  have mm := firstMet_mem ns
  have hcn := firstMet_length_le (fun i => ns.getD i 0) ns.length
  generalize firstMet (fun i => ns.getD i 0) ns.length = L at hS nd mm hcn
  refine PyProof.Rows.args_nil ?_
  obtain ⟨o, es, ep, t, ho, hex, hd, _, _, _, hf, hn⟩ := hS
  have I2 : Inv X pins σ H1 { s1 with heap := h', toks := tk } := I1.kept fun b o e => hk b o (Heap.lt_size e) e
  have key : L.length = ns.length ↔ ns.Nodup := by
    constructor
    · intro e
      exact nodup_of_le _ _ nd (fun k hk => (mm k).mp hk) (by rw [e]; exact Nat.le_refl _)
    · intro hn2
      have w := nodup_le _ _ hn2 fun k hk => (mm k).mpr hk
      omega
  refine call_len_set ho hex hd hf (by rw [hn] <;> omega) ⟨.int L.length, H1, I2.tok _, ⟨_, by rw [hn]⟩, q1 _ hcn key⟩
/-- one of two readings -/
theorem pe_either {e : Expr} {t1 t2 : TE} (a : PE X e t1) (b : PE X e t2) : PE X e (fun σ H Q => t1 σ H Q ∨ t2 σ H Q) := ⟨fun pins s σ H Q I h => h.elim (a.run pins s σ H Q I) (b.run pins s σ H Q I)⟩
theorem pi_either {tg e : Expr} {t1 t2 : TI} (a : PI X tg e t1) (b : PI X tg e t2) : PI X tg e (fun σ H R => t1 σ H R ∨ t2 σ H R) := ⟨fun pins s σ H R I h => h.elim (a.run pins s σ H R I) (b.run pins s σ H R I)⟩
end
end K7E
end
/-! ## P5 -/
section
open PySem PySem.Spec PyProof.Rows L2
namespace K7
abbrev N_are_cells : List Str := ["many", "thing", "least", "cell"]
abbrev s_are_cells : Stmt := topS 11
theorem sc_are_cells : FnScope ["many", "thing", "least", "cell"] ["many", "thing", "least"] (defScope s_are_cells) := ⟨rfl, rfl, rfl, by decide +kernel, rfl, by decide +kernel, by decide +kernel⟩
section
variable {P : Program} {w : World} {K : PySem.W.Frag} {mg : Str → Option Value} {base : Heap}
def intOf : V → Int | .int i => i | _ => 0
/-- what are_cells says of a row -/
def cellsV (many : Int) (xs : List V) (least : Int) : Bool := decide (least ≤ (xs.length : Nat)) && xs.all (fun x => wholeV x 0 (many - 1)) && decide (xs.map intOf).Nodup
theorem whole_int {x : V} {lo hi : Int} (h : wholeV x lo hi = true) : x = .int (intOf x) := by
  unfold wholeV at h
  split at h
  · rfl
  · cases h
def spCells (K : PySem.W.Frag) : Sp := fun vs H Q _ => ∃ (many : Int) (x : V) (least : Int), vs = [.int many, x, .int least] ∧
  ((∃ t : String, (∀ H1, Same H H1 → TyX K H1 x (.type t)) ∧ PySem.W.kitAny K (.type t) [.type "list", .type "tuple"] = some false ∧ ∀ H1, Same H H1 → Q (.bl false) H1) ∨
   (∃ (a : Addr) (xs : List V), x = .ref a ∧ (H a = some (.tup xs) ∨ H a = some (.lst xs)) ∧ (∀ y ∈ xs, Thing H y) ∧ xs.length < 64 ∧ ∀ H1, Same H H1 → Q (.bl (cellsV many xs least)) H1))
theorem ok_cells {f fS fW : Addr} {fd fdS fdW : FuncData} (F : Fun K "are_cells" "are_cells" s_are_cells f fd)
    (Gsq : FnOk P w K mg base CX0 1 fS fdS ["thing"] (spSeq K)) (gsq : mg "is_sequence" = some (.ref fS)) (ksq : PySem.W.keepIn K (.ref fS) = true) (bsq : Binds K fdS ["thing"] [])
    (Giw : FnOk P w K mg base CX0 1 fW fdW ["thing", "low", "high"] spWhole) (giw : mg "is_whole" = some (.ref fW)) (kiw : PySem.W.keepIn K (.ref fW) = true) (biw : Binds K fdW ["thing", "low", "high"] [])
    (m_len : mg "len" = none) (m_set : mg "set" = none) (m_all : mg "all" = none) : FnOk P w K mg base CX0 2 f fd ["many", "thing", "least"] (spCells K) := by
  refine F.ok sc_are_cells (fun vs H Q E h => ?_) (fun cdv A outer s H vs Q E hr h => ?_)
  · obtain ⟨m, x, l, rfl, _⟩ := h
    rfl
  · obtain ⟨m, x, l, rfl, h⟩ := h
    refine ⟨_, (pss_cons (ps_if (pw_or (pt_not (pt_val (pe_call Gsq (hr.mono (by decide)) (by rfl) gsq ksq bsq .nil pass0 (pa_cons (pv 1) pa_nil)))) (pw_or1 (pt_cmpR op_lt (pe_callB call_len_seq (by rfl) m_len boot_len (pa_cons (pv 1) pa_nil)) (pv 2) (nomark _)))).pt
  (pss_one (ps_ret pe_bl))
  pss_nil)
 (pss_cons (ps_if (pt_not (pt_val (pe_callB (cr_all rfl) (by rfl) m_all boot_all (pa_cons (pe_lc (own := [("cell", 3)]) (g := gName 3) (tt := tYes) rfl sc_are_cells.nd (K7E.pi_either (pi_tup (pv 1)) (pi_list (pv 1))) (blkOk_by (own := [("cell", 3)]) (N := N_are_cells) (sc := defScope s_are_cells) (by decide +kernel)) (fun _ _ _ _ _ => (pg_name (i := 3) sc_are_cells.nd rfl (by first | exact Or.inl rfl | exact Or.inr rfl))) (fun _ _ _ _ _ => pts_nil) (fun _ _ _ _ _ => (pe_call Giw (hr.mono (by decide)) (by rfl) giw kiw biw .nil pass0 (pa_cons (pv 3) (pa_cons pe_int (pa_cons (pe_op op_sub (pv 0) pe_int) pa_nil)))))) pa_nil))))
  (pss_one (ps_ret pe_bl))
  pss_nil)
 (pss_one (ps_ret (pe_cmpR op_eq (K7E.pe_either (K7E.pe_lenSetT rfl (by rfl) m_len (by rfl) m_set (pv 1)) (K7E.pe_lenSetL rfl (by rfl) m_len (by rfl) m_set (pv 1))) (pe_callB call_len_seq (by rfl) m_len boot_len (pa_cons (pv 1) pa_nil)) (nomark _)))))), ?_⟩
    rcases h with ⟨t, ty, k, q⟩ | ⟨a, xs, rfl, ha, th, h64, q⟩
    · refine ⟨_, rfl, x, t, false, rfl, ty, k, fun H1 e1 => ?_⟩
      exact ⟨_, rfl, q H1 e1⟩
    · have sq : ∀ H1, Same H H1 → (SqL K H1 a xs ∨ SqT K H1 a xs) := fun H1 e1 => ha.elim (fun z => .inr (.inl (.inl (e1 _ _ z)))) (fun z => .inl (.inl (.inl (e1 _ _ z))))
      have ex : ∃ t : String, (∀ H1, Same H H1 → TyX K H1 (.ref a) (.type t)) ∧ PySem.W.kitAny K (.type t) [.type "list", .type "tuple"] = some true := by
        rcases ha with z | z
        · exact ⟨"tuple", fun H1 e1 => .base (.tup (e1 _ _ z)), any_tup⟩
        · exact ⟨"list", fun H1 e1 => .base (.lst (e1 _ _ z)), any_lst⟩
      obtain ⟨t, ty, kk⟩ := ex
      refine ⟨_, rfl, _, t, true, rfl, ty, kk, fun H1 e1 => ⟨_, rfl, ?_⟩⟩
      refine ⟨_, rfl, a, xs, rfl, sq H1 e1, _, rfl, _, _, rfl, rfl, _, rfl, ite2 (fun c1 => ?_) (fun c1 => ?_)⟩
      · have c1' : ((xs.length : Nat) : Int) < l := of_decide_eq_true c1
        have z := q H1 e1
        have e0 : cellsV m xs l = false := by
          unfold cellsV
          rw [decide_eq_false (show ¬ l ≤ ((xs.length : Nat) : Int) by omega), Bool.false_and, Bool.false_and]
        rw [e0] at z
        exact z
      · have c1' : ¬ ((xs.length : Nat) : Int) < l := fun z => c1 (decide_eq_true z)
        have c2 : decide (l ≤ ((xs.length : Nat) : Int)) = true := decide_eq_true (by omega)
        rcases ha with z | z
        · refine .inl ⟨_, rfl, a, rfl, ⟨xs, .inl (.inl (e1 _ _ z))⟩, fun D hD => lc_tup (xs := xs) (fun j H2 => Same H1 H2 ∧ H2 D = some (.lst (((xs.take j).map fun x => wholeV x 0 (m - 1)).map V.bl))) ⟨same_new (Same.refl H1) hD, upd_same⟩ (fun j H2 _ pv => .inl (.inl (pv.1 _ _ (e1 _ _ z)))) (fun j x H2 hx pv => ?_) (fun H2 pv => ?_)⟩
          · obtain ⟨e2, hD2⟩ := pv
            have hm := th x (List.mem_of_getElem? hx)
            have hj : j < xs.length := (List.getElem?_eq_some_iff.mp hx).1
            refine ⟨rfl, _, rfl, _, rfl, _, _, rfl, rfl, x, 0, m - 1, rfl, hm.same (e1.trans e2), _, hD2, by rw [List.length_map, List.length_map, List.length_take]; exact small1000 (by omega), fun b o hb => ?_, ?_⟩
            · rw [upd_ne (ne_of_none hb hD)]
              exact e2 _ _ hb
            · rw [upd_same, List.take_add_one, hx, List.map_append, List.map_append]
              rfl
          · obtain ⟨e2, hD2⟩ := pv
            rw [List.take_length] at hD2
            refine ⟨D, xs.map fun x => wholeV x 0 (m - 1), rfl, .inl (.inl hD2), _, rfl, ?_⟩
            have call_ : (xs.map fun x => wholeV x 0 (m - 1)).all id = xs.all fun x => wholeV x 0 (m - 1) := by rw [List.all_map]; rfl
            refine ite2 (fun c3 => ?_) (fun c3 => ?_)
            rotate_left
            · have w : xs.all (fun x => wholeV x 0 (m - 1)) = true := by
                rw [← call_]
                cases hq : (xs.map fun x => wholeV x 0 (m - 1)).all id with
                | true => rfl
                | false => exact absurd (by rw [hq]; rfl) c3
              have exs : xs = (xs.map intOf).map V.int := by
                rw [List.map_map]
                refine (List.map_id xs).symm.trans (List.map_congr_left fun y hy => ?_)
                exact whole_int (List.all_eq_true.mp w y hy)
              refine Or.inl ⟨_, rfl, a, xs.map intOf, rfl, by rw [← exs]; exact .inl (.inl (e2 _ _ (e1 _ _ z))), by rw [List.length_map]; exact h64, fun c hc1 hc2 => ?_⟩
              refine ⟨_, rfl, a, xs, rfl, sq H2 (e1.trans e2), rfl, ?_⟩
              have zz := q H2 (e1.trans e2)
              unfold cellsV at zz
              rw [c2, w, Bool.true_and, Bool.true_and] at zz
              rw [List.length_map] at hc2
              have ee : decide (V.int (c : Nat) = V.int (xs.length : Nat)) = decide (xs.map intOf).Nodup := by
                refine decide_eq_decide.mpr ⟨fun e => hc2.mp ?_, fun e => by rw [hc2.mpr e]⟩
                injection e with e
                omega
              rw [← ee] at zz
              exact zz
            · have w : xs.all (fun x => wholeV x 0 (m - 1)) = false := by
                rw [← call_]
                cases hq : (xs.map fun x => wholeV x 0 (m - 1)).all id with
                | false => rfl
                | true => rw [hq] at c3; cases c3
              have zz := q H2 (e1.trans e2)
              unfold cellsV at zz
              rw [w, Bool.and_false, Bool.false_and] at zz
              exact zz
        · refine .inr ⟨_, rfl, a, rfl, ⟨xs, .inl (.inl (e1 _ _ z))⟩, fun D hD => lc_list (xs := xs) (fun j H2 => Same H1 H2 ∧ H2 D = some (.lst (((xs.take j).map fun x => wholeV x 0 (m - 1)).map V.bl))) ⟨same_new (Same.refl H1) hD, upd_same⟩ (fun j H2 _ pv => .inl (.inl (pv.1 _ _ (e1 _ _ z)))) (fun j x H2 hx pv => ?_) (fun H2 pv => ?_)⟩
          · obtain ⟨e2, hD2⟩ := pv
            have hm := th x (List.mem_of_getElem? hx)
            have hj : j < xs.length := (List.getElem?_eq_some_iff.mp hx).1
            refine ⟨rfl, _, rfl, _, rfl, _, _, rfl, rfl, x, 0, m - 1, rfl, hm.same (e1.trans e2), _, hD2, by rw [List.length_map, List.length_map, List.length_take]; exact small1000 (by omega), fun b o hb => ?_, ?_⟩
            · rw [upd_ne (ne_of_none hb hD)]
              exact e2 _ _ hb
            · rw [upd_same, List.take_add_one, hx, List.map_append, List.map_append]
              rfl
          · obtain ⟨e2, hD2⟩ := pv
            rw [List.take_length] at hD2
            refine ⟨D, xs.map fun x => wholeV x 0 (m - 1), rfl, .inl (.inl hD2), _, rfl, ?_⟩
            have call_ : (xs.map fun x => wholeV x 0 (m - 1)).all id = xs.all fun x => wholeV x 0 (m - 1) := by rw [List.all_map]; rfl
            refine ite2 (fun c3 => ?_) (fun c3 => ?_)
            rotate_left
            · have w : xs.all (fun x => wholeV x 0 (m - 1)) = true := by
                rw [← call_]
                cases hq : (xs.map fun x => wholeV x 0 (m - 1)).all id with
                | true => rfl
                | false => exact absurd (by rw [hq]; rfl) c3
              have exs : xs = (xs.map intOf).map V.int := by
                rw [List.map_map]
                refine (List.map_id xs).symm.trans (List.map_congr_left fun y hy => ?_)
                exact whole_int (List.all_eq_true.mp w y hy)
              refine Or.inr ⟨_, rfl, a, xs.map intOf, rfl, by rw [← exs]; exact .inl (.inl (e2 _ _ (e1 _ _ z))), by rw [List.length_map]; exact h64, fun c hc1 hc2 => ?_⟩
              refine ⟨_, rfl, a, xs, rfl, sq H2 (e1.trans e2), rfl, ?_⟩
              have zz := q H2 (e1.trans e2)
              unfold cellsV at zz
              rw [c2, w, Bool.true_and, Bool.true_and] at zz
              rw [List.length_map] at hc2
              have ee : decide (V.int (c : Nat) = V.int (xs.length : Nat)) = decide (xs.map intOf).Nodup := by
                refine decide_eq_decide.mpr ⟨fun e => hc2.mp ?_, fun e => by rw [hc2.mpr e]⟩
                injection e with e
                omega
              rw [← ee] at zz
              exact zz
            · have w : xs.all (fun x => wholeV x 0 (m - 1)) = false := by
                rw [← call_]
                cases hq : (xs.map fun x => wholeV x 0 (m - 1)).all id with
                | false => rfl
                | true => rw [hq] at c3; cases c3
              have zz := q H2 (e1.trans e2)
              unfold cellsV at zz
              rw [w, Bool.and_false, Bool.false_and] at zz
              exact zz
end
end K7
end
/-! ## P6 -/
section
open PySem PySem.Spec PyProof.Rows L2
namespace K7
abbrev N_are_two_cells : List Str := ["many", "thing"]
abbrev s_are_two_cells : Stmt := topS 12
theorem sc_are_two_cells : FnScope ["many", "thing"] ["many", "thing"] (defScope s_are_two_cells) := ⟨rfl, rfl, rfl, by decide +kernel, rfl, by decide +kernel, by decide +kernel⟩
section
variable {P : Program} {w : World} {K : PySem.W.Frag} {mg : Str → Option Value} {base : Heap}
/-- what are_two_cells says of a row -/
def twoV (many : Int) (xs : List V) : Bool := cellsV many xs 2 && decide (xs.length = 2)
def spTwo (K : PySem.W.Frag) : Sp := fun vs H Q _ => ∃ (many : Int) (x : V), vs = [.int many, x] ∧
  ((∃ t : String, (∀ H1, Same H H1 → TyX K H1 x (.type t)) ∧ PySem.W.kitAny K (.type t) [.type "list", .type "tuple"] = some false ∧ ∀ H1, Same H H1 → Q (.bl false) H1) ∨
   (∃ (a : Addr) (xs : List V), x = .ref a ∧ (H a = some (.tup xs) ∨ H a = some (.lst xs)) ∧ (∀ y ∈ xs, Thing H y) ∧ xs.length < 64 ∧ ∀ H1, Same H H1 → Q (.bl (twoV many xs)) H1))
theorem ok_two {f fC : Addr} {fd fdC : FuncData} (F : Fun K "are_two_cells" "are_two_cells" s_are_two_cells f fd)
    (Gac : FnOk P w K mg base CX0 2 fC fdC ["many", "thing", "least"] (spCells K)) (gac : mg "are_cells" = some (.ref fC)) (kac : PySem.W.keepIn K (.ref fC) = true) (bac : Binds K fdC ["many", "thing", "least"] [])
    (m_len : mg "len" = none) : FnOk P w K mg base CX0 3 f fd ["many", "thing"] (spTwo K) := by
  refine F.ok sc_are_two_cells (fun vs H Q E h => ?_) (fun cdv A outer s H vs Q E hr h => ?_)
  · obtain ⟨m, x, rfl, _⟩ := h
    rfl
  · obtain ⟨m, x, rfl, h⟩ := h
    refine ⟨_, (pss_one (ps_ret (pe_and (pe_call Gac (hr.mono (by decide)) (by rfl) gac kac bac .nil pass0 (pa_cons (pv 0) (pa_cons (pv 1) (pa_cons pe_int pa_nil)))) (pe_one (pe_cmpR op_eq (pe_callB call_len_seq (by rfl) m_len boot_len (pa_cons (pv 1) pa_nil)) pe_int (nomark _)))))), ?_⟩
    refine ⟨_, rfl, _, rfl, m, x, 2, rfl, ?_⟩
    rcases h with ⟨t, ty, k, q⟩ | ⟨a, xs, rfl, ha, th, h64, q⟩
    · exact .inl ⟨t, ty, k, fun H1 e1 => ⟨false, rfl, q H1 e1⟩⟩
    · refine .inr ⟨a, xs, rfl, ha, th, h64, fun H1 e1 => ⟨_, rfl, ite2 (fun c1 => ?_) (fun c1 => ?_)⟩⟩
      · refine ⟨_, rfl, a, xs, rfl, ha.elim (fun z => .inr (.inl (.inl (e1 _ _ z)))) (fun z => .inl (.inl (.inl (e1 _ _ z)))), rfl, ?_⟩
        have zz := q H1 e1
        unfold twoV at zz
        rw [c1, Bool.true_and] at zz
        have ee : decide (V.int (xs.length : Nat) = V.int 2) = decide (xs.length = 2) := by
          refine decide_eq_decide.mpr ⟨fun e => ?_, fun e => by rw [e]; rfl⟩
          injection e with e
          omega
        rw [← ee] at zz
        exact zz
      · have zz := q H1 e1
        unfold twoV at zz
        rw [Bool.eq_false_iff.mpr c1, Bool.false_and] at zz
        exact zz
end
end K7
end
/-! ## KM -/
section
/-! ## more pure facts: couples put in order -/
namespace KL
def srt (c : Nat × Nat) : Nat × Nat := (min c.1 c.2, max c.1 c.2)
theorem srt_le (c : Nat × Nat) : (srt c).1 ≤ (srt c).2 := by unfold srt; simp only; omega
theorem srt_lt {c : Nat × Nat} (h : c.1 ≠ c.2) : (srt c).1 < (srt c).2 := by unfold srt; simp only; omega
theorem srt_of {c : Nat × Nat} (h : c.1 < c.2) : srt c = c := by
  obtain ⟨a, b⟩ := c
  unfold srt
  simp only at h ⊢
  rw [Nat.min_eq_left (by omega), Nat.max_eq_right (by omega)]
/-- two numbers put in order -/
theorem two_sorted {ms : List Int} {x y : Nat} (p : ms.Perm [(x : Int), (y : Int)]) (s : ms.Pairwise (· ≤ ·)) : ms = [((min x y : Nat) : Int), ((max x y : Nat) : Int)] := by
  have hl := p.length_eq
  match ms, hl with
  | [u, v], _ =>
    have huv : u ≤ v := (List.pairwise_cons.mp s).1 v (List.mem_singleton.mpr rfl)
    have hu : u ∈ [(x : Int), (y : Int)] := p.mem_iff.mp List.mem_cons_self
    rcases List.mem_cons.mp hu with e | e
    · subst e
      have := (List.Perm.cons_inv p).eq_singleton
      injection this with e
      subst e
      have hxy : x ≤ y := by omega
      rw [Nat.min_eq_left hxy, Nat.max_eq_right hxy]
    · rw [List.mem_singleton] at e
      subst e
      have p2 : [(y : Int), v].Perm [(y : Int), (x : Int)] := p.trans (List.Perm.swap ..)
      have := (List.Perm.cons_inv p2).eq_singleton
      injection this with e
      subst e
      have hxy : y ≤ x := by omega
      rw [Nat.min_eq_right hxy, Nat.max_eq_left hxy]
def lexLe (a b : Nat × Nat) : Prop := a.1 < b.1 ∨ (a.1 = b.1 ∧ a.2 ≤ b.2)
/-- a sorted list is told by its items -/
theorem uniq {α : Type} {le : α → α → Prop} (anti : ∀ a b, le a b → le b a → a = b) : ∀ {l m : List α}, l.Perm m → l.Pairwise le → m.Pairwise le → l = m
  | [], m, p, _, _ => p.symm.eq_nil.symm
  | x :: l, [], p, _, _ => absurd p.length_eq (by simp)
  | x :: l, y :: m, p, hl, hm => by
    have e : x = y := by
      rcases List.mem_cons.mp (p.mem_iff.mp (List.mem_cons_self (a := x) (l := l))) with e | hx
      · exact e
      · rcases List.mem_cons.mp (p.mem_iff.mpr (List.mem_cons_self (a := y) (l := m))) with e | hy
        · exact e.symm
        · exact anti _ _ ((List.pairwise_cons.mp hl).1 y hy) ((List.pairwise_cons.mp hm).1 x hx)
    subst e
    rw [uniq anti p.cons_inv (List.pairwise_cons.mp hl).2 (List.pairwise_cons.mp hm).2]
theorem lex_anti (a b : Nat × Nat) (h1 : lexLe a b) (h2 : lexLe b a) : a = b := by
  unfold lexLe at h1 h2
  exact Prod.ext (by omega) (by omega)
theorem int_anti (a b : Int) (h1 : a ≤ b) (h2 : b ≤ a) : a = b := by omega
/-- all couples of n cells -/
def allC (n : Nat) : List (Nat × Nat) := (List.range n).flatMap fun a => ((List.range n).filter fun b => decide (a ≠ b)).map fun b => (a, b)
/-- couples taken either way round hang together as the ordered ones do -/
theorem conn_srt {n : Nat} {cs es : List (Nat × Nat)} (h : Conn n cs) (hp : es.Perm (cs.map srt)) : Conn n es := by
  intro S h0 he
  refine h S h0 fun c hc => ?_
  have z := he (srt c) (hp.mem_iff.mpr (List.mem_map.mpr ⟨c, hc, rfl⟩))
  unfold srt at z
  simp only at z
  rcases Nat.le_total c.1 c.2 with q | q
  · rw [Nat.min_eq_left q, Nat.max_eq_right q] at z
    exact z
  · rw [Nat.min_eq_right q, Nat.max_eq_left q] at z
    exact z.symm
/-- what is reached from c over passing cells -/
inductive Rch (E : Nat → Nat → Prop) (ps : List Nat) (c : Nat) : Nat → Prop
  | base : Rch E ps c c
  | step {a b : Nat} (h : Rch E ps c a) (e : E a b) (p : b ∈ ps) : Rch E ps c b
theorem Rch.mono {E E' : Nat → Nat → Prop} {ps ps' : List Nat} {c x : Nat} (h : Rch E ps c x) (he : ∀ a b, E a b → E' a b) (hp : ∀ b ∈ ps, b ∈ ps') : Rch E' ps' c x := by
  induction h with
  | base => exact .base
  | step _ e p ih => exact .step ih (he _ _ e) (hp _ p)
/-- a closed list that holds c holds what is reached -/
theorem Rch.mem {E : Nat → Nat → Prop} {ps : List Nat} {c x : Nat} {fd : List Nat} (h : Rch E ps c x) (h0 : c ∈ fd) (hc : ∀ a b, a ∈ fd → E a b → b ∈ ps → b ∈ fd) : x ∈ fd := by
  induction h with
  | base => exact h0
  | step _ e p ih => exact hc _ _ ih e p
end KL
end
/-! ## P7 -/
section
open PySem PySem.Spec PyProof.Rows L2
namespace K7
abbrev N_spread : List Str := ["nearby", "cell", "passing", "found", "done", "here", "b"]
abbrev s_spread : Stmt := topS 15
theorem sc_spread : FnScope ["nearby", "cell", "passing", "found", "done", "here", "b"] ["nearby", "cell", "passing"] (defScope s_spread) := ⟨rfl, rfl, rfl, by decide +kernel, rfl, by decide +kernel, by decide +kernel⟩
theorem flat_ints : ∀ l : List Nat, (ints_ l).all flatV = true
  | [] => rfl
  | _ :: l => flat_ints l
theorem inV_ints (c : Nat) : ∀ l : List Nat, inV (.int (c : Nat)) (ints_ l) = decide (c ∈ l)
  | [] => rfl
  | y :: l => by
    show (eqV (.int (y : Nat)) (.int (c : Nat)) || inV (.int (c : Nat)) (ints_ l)) = _
    rw [inV_ints c l]
    have e : eqV (.int (y : Nat)) (.int (c : Nat)) = decide (c = y) := by
      show decide ((y : Int) = (c : Int)) = _
      exact decide_eq_decide.mpr (by omega)
    rw [e, ← Bool.decide_or]
    exact decide_eq_decide.mpr List.mem_cons.symm
section
variable {P : Program} {w : World} {K : PySem.W.Frag} {mg : Str → Option Value} {base : Heap}
def SqOf (H : Hp) (a : Addr) (xs : List V) : Prop := H a = some (.tup xs) ∨ H a = some (.lst xs)
theorem SqOf.same {H H' : Hp} {a : Addr} {xs : List V} (h : SqOf H a xs) (e : Same H H') : SqOf H' a xs := h.imp (e _ _) (e _ _)
theorem SqOf.sq {H : Hp} {a : Addr} {xs : List V} (h : SqOf H a xs) : SqL K H a xs ∨ SqT K H a xs := h.elim (fun z => .inr (.inl (.inl z))) fun z => .inl (.inl (.inl z))
def nbE (Nb : List (List Nat)) (a b : Nat) : Prop := ∃ l, Nb[a]? = some l ∧ b ∈ l
def SpInv (H : Hp) (nb pa F0 : Addr) (Nb : List (List Nat)) (ps : List Nat) (c m : Nat) (σ' : L2.St) (H' : Hp) : Prop := ∃ (fd : List Nat) (d : Nat) (y5 y6 : Option V), σ' = [some (.ref nb), some (.int (c : Nat)), some (.ref pa), some (.ref F0), some (.int (d : Nat)), y5, y6] ∧ But F0 H H' ∧ H' F0 = some (.lst (ints_ fd)) ∧ fd.Nodup ∧ c ∈ fd ∧ (∀ x ∈ fd, x < Nb.length) ∧ d ≤ fd.length ∧
      (∀ i a, i < d → fd[i]? = some a → ∀ l, Nb[a]? = some l → ∀ b ∈ l, b ∈ ps → b ∈ fd) ∧ m + d = Nb.length ∧ ∀ x ∈ fd, KL.Rch (nbE Nb) ps c x
/-- what spread finds: the cell, and all that is near to what is found -/
structure Found (Nb : List (List Nat)) (ps : List Nat) (c : Nat) (fd : List Nat) : Prop where
  nd : fd.Nodup
  me : c ∈ fd
  lt : ∀ x ∈ fd, x < Nb.length
  cl : ∀ a ∈ fd, ∀ l, Nb[a]? = some l → ∀ b ∈ l, b ∈ ps → b ∈ fd
  so : ∀ x ∈ fd, KL.Rch (nbE Nb) ps c x
def spSpread : Sp := fun vs H Q _ => ∃ (nb : Addr) (ts : List Addr) (Nb : List (List Nat)) (c : Nat) (pa : Addr) (ps : List Nat), vs = [.ref nb, .int c, .ref pa] ∧ H nb = some (.tup (ts.map V.ref)) ∧ TAt H ts Nb ∧ SqOf H pa (ints_ ps) ∧
  Nb.length ≤ 5 ∧ c < Nb.length ∧ (∀ l ∈ Nb, ∀ x ∈ l, x < Nb.length) ∧ ∀ H' q fd, Same H H' → H q = none → H' q = some (.lst (ints_ fd)) → Found Nb ps c fd → Q (.ref q) H'
theorem ok_spread {f : Addr} {fd : FuncData} (F : Fun K "spread" "spread" s_spread f fd) (m_len : mg "len" = none) : FnOk P w K mg base CX0 1 f fd ["nearby", "cell", "passing"] spSpread := by
  refine F.ok sc_spread (fun vs H Q E h => ?_) (fun cdv A outer s H vs Q E hr h => ?_)
  · obtain ⟨nb, ts, Nb, c, pa, ps, rfl, _⟩ := h
    rfl
  · obtain ⟨nb, ts, Nb, c, pa, ps, rfl, hnb, tN, hpa, h5, hc, hlt, q⟩ := h
    refine ⟨_, (pss_cons (ps_set (i := 3) sc_spread.nd rfl (by first | exact Or.inl rfl | exact Or.inr rfl) (pe_lst (pa_cons (pv 1) pa_nil)))
 (pss_cons (ps_set (i := 4) sc_spread.nd rfl (by first | exact Or.inl rfl | exact Or.inr rfl) pe_int)
 (pss_cons (ps_while PassesOwn.never (pt_cmpR op_lt (pv 4) (pe_callB call_len_seq (by rfl) m_len boot_len (pa_cons (pv 3) pa_nil)) (nomark _))
  (pss_cons (ps_set (i := 5) sc_spread.nd rfl (by first | exact Or.inl rfl | exact Or.inr rfl) (pe_ix ix_list (pv 3) (pv 4) (fun _ _ => rfl)))
 (pss_cons (ps_for PassesOwn.never rfl (pi_tup (pe_ix ix_tup (pv 0) (pv 5) (fun _ _ => rfl))) (pg_name (i := 6) sc_spread.nd rfl (by first | exact Or.inl rfl | exact Or.inr rfl))
  (pss_one (ps_if (pw_and (pt_cmpR op_in_seq (pv 6) (pv 2) (by with_unfolding_all rfl)) (pw_and1 (pt_cmpR op_notIn_seq (pv 6) (pv 3) (by with_unfolding_all rfl)))).pt
  (pss_one (ps_expr (pe_bm PySem.F.plainAttrs_list PySem.F.slot_list_append PySem.F.type_list_append mt_append (pv 3) (pa_cons (pv 6) pa_nil))))
  pss_nil)))
 (pss_one (ps_aug (i := 4) sc_spread.nd rfl (by first | exact Or.inl rfl | exact Or.inr rfl) pe_int ip_add)))))
 (pss_one (ps_ret (pv 3)))))), ?_⟩
    refine ⟨_, rfl, by show 1 ≤ sizeLine; decide, fun F0 nF => ?_⟩
    refine ⟨SpInv H nb pa F0 Nb ps c, ⟨Nb.length, [c], 0, none, none, rfl, ?_, upd_same, ?_, List.mem_singleton.mpr rfl, ?_, Nat.zero_le _, ?_, rfl, fun x hx => by rw [List.mem_singleton.mp hx]; exact .base⟩, fun m σ' H' wv => ?_⟩
    · exact fun b o hb e => by rw [upd_ne hb]; exact e
    · exact List.nodup_cons.mpr ⟨List.not_mem_nil, List.nodup_nil⟩
    · intro x hx
      rw [List.mem_singleton] at hx
      rw [hx]
      exact hc
    · exact fun i a hi => absurd hi (Nat.not_lt_zero _)
    · obtain ⟨fd, d, y5, y6, rfl, bt, hF, nd, hcm, lt, hd, cl, hm, so⟩ := wv
      have h1 : fd.length ≤ Nb.length := by
        have z := K7E.nodup_le fd (List.range Nb.length) nd fun x hx => List.mem_range.mpr (lt x hx)
        rw [List.length_range] at z
        exact z
      refine ⟨_, rfl, _, rfl, F0, _, rfl, .inl (.inl (.inl hF)), _, _, rfl, rfl, _, rfl, ite2 (fun c1 => ?_) (fun c1 => ?_)⟩
      · have c1' : d < fd.length := by
          have z : ((d : Nat) : Int) < (((ints_ fd).length : Nat) : Int) := of_decide_eq_true c1
          rw [show (ints_ fd).length = fd.length from List.length_map ..] at z
          omega
        refine ⟨SpInv H nb pa F0 Nb ps c (m - 1), fun σ2 H2 z => ⟨m - 1, by omega, z⟩, ?_⟩
        obtain ⟨a, ea⟩ : ∃ a, fd[d]? = some a := ⟨_, List.getElem?_eq_getElem c1'⟩
        have ma := List.mem_of_getElem? ea
        have la := lt a ma
        obtain ⟨l, el⟩ : ∃ l, Nb[a]? = some l := ⟨_, List.getElem?_eq_getElem la⟩
        have ltsl : a < ts.length := by rw [tN.len]; exact la
        obtain ⟨t, et⟩ : ∃ t, ts[a]? = some t := ⟨_, List.getElem?_eq_getElem ltsl⟩
        obtain ⟨l', el', ht⟩ := tN.get et
        have : l' = l := by rw [el] at el'; injection el' with e; exact e.symm
        subst this
        have sm : Same H H' := fun b o hb => bt b o (ne_of_none hb nF) hb
        refine ⟨_, rfl, _, rfl, F0, _, _, .int (a : Nat), rfl, rfl, .inl (.inl hF), atI_nat (by unfold ints_; rw [List.getElem?_map, ea]; rfl), ?_⟩
        refine ⟨_, rfl, _, rfl, nb, _, _, .ref t, rfl, rfl, .inl (.inl (sm _ _ hnb)), atI_nat (by rw [List.getElem?_map, et]; rfl), t, rfl, ⟨_, .inl (.inl (sm _ _ ht))⟩, for_tup (xs := ints_ l') (fun j σ2 H2 => ∃ (fd2 r : List Nat) (y6 : Option V), σ2 = [some (.ref nb), some (.int (c : Nat)), some (.ref pa), some (.ref F0), some (.int (d : Nat)), some (.int (a : Nat)), y6] ∧ But F0 H H2 ∧ H2 F0 = some (.lst (ints_ fd2)) ∧ fd2.Nodup ∧ fd2 = fd ++ r ∧ (∀ x ∈ fd2, x < Nb.length) ∧ (∀ b ∈ l'.take j, b ∈ ps → b ∈ fd2) ∧ ∀ x ∈ fd2, KL.Rch (nbE Nb) ps c x)
          ⟨fd, [], y6, rfl, bt, hF, nd, (List.append_nil _).symm, lt, fun b hb => (by cases hb), so⟩ (fun j σ2 H2 _ pv => ?_) (fun j x σ2 H2 hx pv => ?_) (fun σ2 H2 pv => ?_)⟩
        · obtain ⟨fd2, r, y6, _, bt2, _⟩ := pv
          exact .inl (.inl (bt2 t _ (ne_of_none ht nF) ht))
        · obtain ⟨fd2, r, y6, rfl, bt2, hF2, nd2, rfl, lt2, cl2, so2⟩ := pv
          have sm2 : Same H H2 := fun b o hb => bt2 b o (ne_of_none hb nF) hb
          unfold ints_ at hx
          rw [List.getElem?_map] at hx
          obtain ⟨b, eb, rfl⟩ := Option.map_eq_some_iff.mp hx
          have hbl := hlt l' (List.mem_of_getElem? el) b (List.mem_of_getElem? eb)
          have tk : l'.take (j + 1) = l'.take j ++ [b] := by rw [List.take_add_one, eb]; rfl
          refine ⟨_, rfl, _, rfl, pa, _, rfl, (hpa.same sm2).sq, rfl, flat_ints ps, _, rfl, ite2 (fun q1 => ?_) (fun q1 => ?_)⟩
          · have q1' : b ∈ ps := of_decide_eq_true ((inV_ints b ps).symm.trans q1)
            refine ⟨_, rfl, _, rfl, F0, _, rfl, .inl (.inl (.inl hF2)), rfl, flat_ints _, _, rfl, ite2 (fun q2 => ?_) (fun q2 => ?_)⟩
            · have q2' : b ∉ fd ++ r := by
                intro hb2
                have z : (!inV (.int (b : Nat)) (ints_ (fd ++ r))) = true := q2
                rw [inV_ints, decide_eq_true hb2] at z
                cases z
              have hl2 : (fd ++ r).length ≤ 5 := by
                have z := K7E.nodup_le (fd ++ r) (List.range Nb.length) nd2 fun x hx => List.mem_range.mpr (lt2 x hx)
                rw [List.length_range] at z
                omega
              refine ⟨_, rfl, .inl ⟨rfl, _, .inl (.inl hF2)⟩, _, rfl, F0, _, _, rfl, rfl, hF2, by unfold ints_; rw [List.length_map]; exact small1000 (by omega), ?_⟩
              refine ⟨(fd ++ r) ++ [b], r ++ [b], some (.int (b : Nat)), rfl, fun b' o hb' e => by rw [upd_ne hb']; exact bt2 b' o hb' e, by rw [upd_same]; exact congrArg (fun z => some (HO.lst z)) (List.map_append (f := fun c : Nat => V.int (c : Nat)) (l₁ := fd ++ r) (l₂ := [b])).symm, ?_, List.append_assoc .., fun x hx => ?_, fun x hx hp => ?_, fun x hx => ?_⟩
              · exact List.nodup_append.mpr ⟨nd2, List.nodup_cons.mpr ⟨List.not_mem_nil, List.nodup_nil⟩, fun a' ha' b' hb' e => by rw [List.mem_singleton] at hb'; exact q2' (by rw [← hb', ← e]; exact ha')⟩
              · rcases List.mem_append.mp hx with hx | hx
                · exact lt2 x hx
                · rw [List.mem_singleton] at hx
                  rw [hx]
                  exact hbl
              · rw [tk] at hx
                rcases List.mem_append.mp hx with hx | hx
                · exact List.mem_append_left _ (cl2 x hx hp)
                · exact List.mem_append_right _ hx
              · rcases List.mem_append.mp hx with hx | hx
                · exact so2 x hx
                · rw [List.mem_singleton.mp hx]
                  exact .step (so a ma) ⟨_, el, List.mem_of_getElem? eb⟩ q1'
            · have q2' : b ∈ fd ++ r := by
                refine Classical.byContradiction fun hn => q2 ?_
                show (!inV (.int (b : Nat)) (ints_ (fd ++ r))) = true
                rw [inV_ints, decide_eq_false hn]
                rfl
              refine ⟨fd ++ r, r, some (.int (b : Nat)), rfl, bt2, hF2, nd2, rfl, lt2, fun x hx hp => ?_, so2⟩
              rw [tk] at hx
              rcases List.mem_append.mp hx with hx | hx
              · exact cl2 x hx hp
              · rw [List.mem_singleton] at hx
                rw [hx]
                exact q2'
          · have q1' : b ∉ ps := fun hb => q1 ((inV_ints b ps).trans (decide_eq_true hb))
            refine iteF ?_
            refine ⟨fd ++ r, r, some (.int (b : Nat)), rfl, bt2, hF2, nd2, rfl, lt2, fun x hx hp => ?_, so2⟩
            rw [tk] at hx
            rcases List.mem_append.mp hx with hx | hx
            · exact cl2 x hx hp
            · rw [List.mem_singleton] at hx
              rw [hx] at hp
              exact absurd hp q1'
        · obtain ⟨fd2, r, y6, rfl, bt2, hF2, nd2, rfl, lt2, cl2, so2⟩ := pv
          rw [show (ints_ l').length = l'.length from List.length_map .., List.take_length] at cl2
          refine ⟨_, rfl, _, _, rfl, rfl, ?_⟩
          refine ⟨fd ++ r, d + 1, some (.int (a : Nat)), y6, rfl, bt2, hF2, nd2, List.mem_append_left _ hcm, lt2, by rw [List.length_append]; omega, fun i a' hi ea' l2 el2 b hb hp => ?_, by omega, so2⟩
          rw [List.getElem?_append_left (by omega)] at ea'
          rcases Nat.lt_or_ge i d with hid | hid
          · exact List.mem_append_left _ (cl i a' hid ea' l2 el2 b hb hp)
          · have : i = d := by omega
            subst this
            rw [ea] at ea'
            injection ea' with e3
            subst e3
            rw [el] at el2
            injection el2 with e4
            subst e4
            exact cl2 b hb hp
      · have c1' : ¬ d < fd.length := fun z => c1 (decide_eq_true (by rw [show (ints_ fd).length = fd.length from List.length_map ..]; omega))
        refine ⟨_, rfl, q H' F0 fd (fun b o hb => bt b o (ne_of_none hb nF) hb) nF hF ⟨nd, hcm, lt, fun a ha l hl b hb hp => ?_, so⟩⟩
        obtain ⟨i, hi, e⟩ := List.getElem_of_mem ha
        exact cl i a (by omega) (by rw [List.getElem?_eq_getElem hi, e]) l hl b hb hp
end
end K7
end
/-! ## P8 -/
section
open PySem PySem.Spec PyProof.Rows L2
namespace K7
abbrev N_nearby_cells : List Str := ["cells", "couples", "b", "a"]
abbrev s_nearby_cells : Stmt := topS 16
theorem sc_nearby_cells : FnScope ["cells", "couples", "b", "a"] ["cells", "couples"] (defScope s_nearby_cells) := ⟨rfl, rfl, rfl, by decide +kernel, rfl, by decide +kernel, by decide +kernel⟩
abbrev scA : Scope := { kind := ScopeKind.function, names := [(".0", NameKind.local), ("a", NameKind.cell), ("tuple", NameKind.globalImplicit), ("range", NameKind.globalImplicit), ("cells", NameKind.cell), ("couples", NameKind.cell)], isGenerator := false, isCoroutine := false }
def rTup_ (K : PySem.W.Frag) : List V → Hp → VK → Prop := fun xs H Q => ∃ p ys, xs = [V.ref p] ∧ ((SqL K H p ys ∧ ∀ l, H l = none → Q (.ref l) (upd H l (.tup ys))) ∨ SqT K H p ys ∧ Q (.ref p) H)
section
variable {P : Program} {w : World} {K : PySem.W.Frag} {mg : Str → Option Value} {base : Heap}
/-- the neighbours of each cell -/
def nearV (n : Nat) (es : List (Nat × Nat)) : List (List Nat) := (List.range n).map fun a => (List.range n).filter fun b => decide ((a, b) ∈ es) || decide ((b, a) ∈ es)
theorem ints_snoc (l : List Nat) (j : Nat) : ints_ (l ++ [j]) = ints_ l ++ [.int (j : Nat)] := by
  unfold ints_
  rw [List.map_append]
  rfl
theorem range_filter (p : Nat → Bool) (j : Nat) : (List.range (j + 1)).filter p = (List.range j).filter p ++ (if p j = true then [j] else []) := by
  rw [List.range_succ, List.filter_append, List.filter_cons]
  rfl
theorem dp_two {H : Hp} (k j : Nat) : DpAll K H [.int (0 + (k : Nat)), .int (0 + (j : Nat))] [.int (k : Nat), .int (j : Nat)] := by
  rw [Int.zero_add, Int.zero_add]
  exact .cons (.int _) (.cons (.int _) .nil)
def spNear : Sp := fun vs H Q _ => ∃ (n : Nat) (ca : Addr) (ts : List Addr) (es : List (Nat × Nat)), vs = [.int n, .ref ca] ∧ n ≤ 5 ∧ H ca = some (.lst (ts.map V.ref)) ∧ TAt H ts (pairs es) ∧ es.length ≤ 32 ∧
  ∀ H' q us, Same H H' → H q = none → H' q = some (.tup (us.map V.ref)) → TAt H' us (nearV n es) → Q (.ref q) H'
theorem ok_near {f : Addr} {fd : FuncData} (F : Fun K "nearby_cells" "nearby_cells" s_nearby_cells f fd) (m_range : mg "range" = none) (m_tuple : mg "tuple" = none) : FnOk P w K mg base CX0 1 f fd ["cells", "couples"] spNear := by
  refine F.ok sc_nearby_cells (fun vs H Q E h => ?_) (fun cdv A outer s H vs Q E hr h => ?_)
  · obtain ⟨n, ca, ts, es, rfl, _⟩ := h
    rfl
  · obtain ⟨n, ca, ts, es, rfl, hn, hca, tE, h32, q⟩ := h
    refine ⟨_, (pss_one (ps_ret (pe_callTy call_tuple_of (by rfl) m_tuple boot_tuple (pa_cons (pe_lc (own := [("a", 3)]) (g := gName 3) (tt := tYes) rfl sc_nearby_cells.nd (pi_range1 rfl m_range (pa_cons (pv 0) pa_nil)) (blkOk_by (own := [("a", 3)]) (N := N_nearby_cells) (sc := defScope s_nearby_cells) (by decide +kernel)) (fun _ _ _ _ _ => (pg_name (i := 3) sc_nearby_cells.nd rfl (by first | exact Or.inl rfl | exact Or.inr rfl))) (fun _ _ _ _ _ => pts_nil) (fun _ _ _ _ _ => (pe_callTy (show CallR _ (.type "tuple") (rTup_ K) from call_tuple_of) (by rfl) m_tuple boot_tuple (pa_cons (pe_lc (own := [("b", 2)]) (g := gName 2) rfl sc_nearby_cells.nd (pi_range1 rfl m_range (pa_cons (pv 0) pa_nil)) (blkOk_by (own := [("b", 2)]) (N := N_nearby_cells) (sc := scA) (by decide +kernel)) (fun _ _ _ _ _ => (pg_name (i := 2) sc_nearby_cells.nd rfl (by first | exact Or.inl rfl | exact Or.inr rfl))) (fun _ _ _ _ _ => (pts_one (PW.pt (pw_or (pt_cmpR (show OpR _ _ (rInD K) from op_inD (K7L.hu65 hr)) (pe_tup (pa_cons (pv 3) (pa_cons (pv 2) pa_nil))) (pv 1) (by with_unfolding_all rfl)) (pw_or1 (pt_cmpR (show OpR _ _ (rInD K) from op_inD (K7L.hu65 hr)) (pe_tup (pa_cons (pv 2) (pa_cons (pv 3) pa_nil))) (pv 1) (by with_unfolding_all rfl))))))) (fun _ _ _ _ _ => (pv 2))) pa_nil)))) pa_nil)))), ?_⟩
    refine ⟨_, rfl, _, rfl, by omega, by omega, fun D hD => lc_range (lo := 0) (n := n) (fun i H1 => Same H H1 ∧ ∃ us : List Addr, H1 D = some (.lst (us.map V.ref)) ∧ TAt H1 us ((nearV n es).take i) ∧ us.length ≤ i) ⟨same_new (Same.refl H) hD, [], upd_same, .nil, Nat.le_refl _⟩ (fun i H1 hi pv => ?_) (fun H1 pv => ?_)⟩
    · obtain ⟨e1, us, hD1, tU, lu⟩ := pv
      refine ⟨rfl, _, rfl, _, rfl, by omega, by omega, fun D2 hD2 => lc_range (lo := 0) (n := n) (fun j H2 => Same H1 H2 ∧ H2 D2 = some (.lst (ints_ ((List.range j).filter fun b => decide ((i, b) ∈ es) || decide ((b, i) ∈ es))))) ⟨same_new (Same.refl H1) hD2, upd_same⟩ (fun j H2 hj pv => ?_) (fun H2 pv => ?_)⟩
      · obtain ⟨e2, h2⟩ := pv
        have eA := e1.trans e2
        refine ⟨rfl, _, rfl, _, rfl, by show 2 ≤ sizeLine; decide, fun t nt => ?_⟩
        have s3 := same_new (o := .tup [.int (0 + (i : Nat)), .int (0 + (j : Nat))]) (Same.refl H2) nt
        refine ⟨_, rfl, intD [i, j], _, .tup (xs := [.int (0 + (i : Nat)), .int (0 + (j : Nat))]) (.inl (.inl upd_same)) (dp_two i j), .lst (.inl (.inl (s3 _ _ (eA _ _ hca)))) (dp_rows (tE.same (eA.trans s3))), shaped_ints _, shaped_rows _, ?_⟩
        rw [any_rows]
        have e2b := e2
        refine ⟨_, rfl, ite2 (fun q1 => ?_) (fun q1 => ?_)⟩
        · have g : ∀ {b : Addr} {o : HO}, H2 b = some o → upd H2 t (.tup [.int (0 + (i : Nat)), .int (0 + (j : Nat))]) b = some o := fun hb => s3 _ _ hb
          refine ⟨_, rfl, _, g h2, by unfold ints_; rw [List.length_map]; exact small1000 (Nat.le_trans (List.length_filter_le _ _) (by rw [List.length_range]; omega)), fun b o hb => ?_, ?_⟩
          · rw [upd_ne (ne_of_none hb hD2)]
            exact g (e2 _ _ hb)
          · rw [upd_same, range_filter, if_pos (by rw [q1]; rfl), Int.zero_add]
            rw [ints_snoc]
        · refine ⟨_, rfl, _, rfl, by show 2 ≤ sizeLine; decide, fun t2 nt2 => ?_⟩
          have s4 := same_new (o := .tup [.int (0 + (j : Nat)), .int (0 + (i : Nat))]) s3 nt2
          refine ⟨_, rfl, intD [j, i], _, .tup (xs := [.int (0 + (j : Nat)), .int (0 + (i : Nat))]) (.inl (.inl upd_same)) (dp_two j i), .lst (.inl (.inl (s4 _ _ (eA _ _ hca)))) (dp_rows (tE.same (eA.trans s4))), shaped_ints _, shaped_rows _, ?_⟩
          rw [any_rows]
          refine ⟨_, rfl, ite2 (fun q2 => ?_) (fun q2 => ?_)⟩
          · refine ⟨_, rfl, _, s4 _ _ h2, by unfold ints_; rw [List.length_map]; exact small1000 (Nat.le_trans (List.length_filter_le _ _) (by rw [List.length_range]; omega)), fun b o hb => ?_, ?_⟩
            · rw [upd_ne (ne_of_none hb hD2)]
              exact s4 _ _ (e2 _ _ hb)
            · rw [upd_same, range_filter, if_pos (by rw [q2, Bool.or_true]), Int.zero_add]
              rw [ints_snoc]
          · refine ⟨e2.trans s4, ?_⟩
            rw [range_filter, if_neg (by rw [Bool.eq_false_iff.mpr q1, Bool.eq_false_iff.mpr q2]; decide), List.append_nil]
            exact s4 _ _ h2
      · obtain ⟨e2, h2⟩ := pv
        have eA := e1.trans e2
        refine ⟨D2, _, rfl, .inl ⟨.inl (.inl h2), fun l nl => ?_⟩⟩
        have s4 := same_new (o := .tup (ints_ ((List.range n).filter fun b => decide ((i, b) ∈ es) || decide ((b, i) ∈ es)))) (Same.refl H2) nl
        have hD4 := s4 _ _ (e2 _ _ hD1)
        have tk : (nearV n es).take (i + 1) = (nearV n es).take i ++ [(List.range n).filter fun b => decide ((i, b) ∈ es) || decide ((b, i) ∈ es)] := by
          rw [List.take_add_one]
          congr 1
          unfold nearV
          rw [List.getElem?_map, List.getElem?_range hi]
          rfl
        have up : ∀ b xs, upd H2 l (.tup (ints_ ((List.range n).filter fun b => decide ((i, b) ∈ es) || decide ((b, i) ∈ es)))) b = some (.tup xs) → upd (upd H2 l (.tup (ints_ ((List.range n).filter fun b => decide ((i, b) ∈ es) || decide ((b, i) ∈ es))))) D (.lst (us.map V.ref ++ [.ref l])) b = some (.tup xs) := fun b xs hb => by
          rw [upd_ne (fun z => by rw [z, hD4] at hb; cases hb)]
          exact hb
        refine ⟨_, hD4, by rw [List.length_map]; exact small1000 (by omega), fun b o hb => ?_, us ++ [l], by rw [upd_same, List.map_append]; rfl, ?_, by rw [List.length_append, List.length_singleton]; omega⟩
        · rw [upd_ne (ne_of_none hb hD)]
          exact s4 _ _ (eA _ _ hb)
        · rw [tk]
          exact ((tU.same (e2.trans s4)).mono up).append (.cons (up _ _ upd_same) .nil)
    · obtain ⟨e1, us, hD1, tU, lu⟩ := pv
      rw [List.take_of_length_le (by unfold nearV; rw [List.length_map, List.length_range]; exact Nat.le_refl _)] at tU
      refine ⟨D, _, rfl, .inl ⟨.inl (.inl hD1), fun l nl => ?_⟩⟩
      have s3 := same_new (o := .tup (us.map V.ref)) e1 nl
      refine q _ l us s3 (e1.free nl) upd_same (tU.same (same_new (Same.refl H1) nl))
end
end K7
end
/-! ## P9 -/
section
open PySem PySem.Spec PyProof.Rows L2
namespace K7
abbrev N_hang_together : List Str := ["cells", "couples"]
abbrev s_hang_together : Stmt := topS 17
theorem sc_hang_together : FnScope ["cells", "couples"] ["cells", "couples"] (defScope s_hang_together) := ⟨rfl, rfl, rfl, by decide +kernel, rfl, by decide +kernel, by decide +kernel⟩
section
variable {P : Program} {w : World} {K : PySem.W.Frag} {mg : Str → Option Value} {base : Heap}
def spHang : Sp := fun vs H Q _ => ∃ (n : Nat) (ca : Addr) (ts : List Addr) (es : List (Nat × Nat)), vs = [.int n, .ref ca] ∧ 0 < n ∧ n ≤ 5 ∧ H ca = some (.lst (ts.map V.ref)) ∧ TAt H ts (pairs es) ∧ es.length ≤ 32 ∧
  (∀ e ∈ es, e.1 < n ∧ e.2 < n) ∧ KL.Conn n es ∧ ∀ H', Same H H' → Q (.bl true) H'
theorem ok_hang {f fN fS : Addr} {fd fdN fdS : FuncData} (F : Fun K "hang_together" "hang_together" s_hang_together f fd)
    (Gnc : FnOk P w K mg base CX0 1 fN fdN ["cells", "couples"] spNear) (gnc : mg "nearby_cells" = some (.ref fN)) (knc : PySem.W.keepIn K (.ref fN) = true) (bnc : Binds K fdN ["cells", "couples"] [])
    (Gsp : FnOk P w K mg base CX0 1 fS fdS ["nearby", "cell", "passing"] spSpread) (gsp : mg "spread" = some (.ref fS)) (ksp : PySem.W.keepIn K (.ref fS) = true) (bsp : Binds K fdS ["nearby", "cell", "passing"] [])
    (m_len : mg "len" = none) (m_list : mg "list" = none) (m_range : mg "range" = none) : FnOk P w K mg base CX0 2 f fd ["cells", "couples"] spHang := by
  refine F.ok sc_hang_together (fun vs H Q E h => ?_) (fun cdv A outer s H vs Q E hr h => ?_)
  · obtain ⟨n, ca, ts, es, rfl, _⟩ := h
    rfl
  · obtain ⟨n, ca, ts, es, rfl, n0, hn, hca, tE, h32, elt, cn, q⟩ := h
    refine ⟨_, (pss_one (ps_ret (pe_cmpR op_eq (pe_callB call_len_seq (by rfl) m_len boot_len (pa_cons (pe_call Gsp (hr.mono (by decide)) (by rfl) gsp ksp bsp .nil pass0 (pa_cons (pe_call Gnc (hr.mono (by decide)) (by rfl) gnc knc bnc .nil pass0 (pa_cons (pv 0) (pa_cons (pv 1) pa_nil))) (pa_cons pe_int (pa_cons (pe_callTy (K7E.cr_list_rng rfl) (by rfl) m_list boot_list (pa_cons (pe_callTy K7E.cr_range1 (by rfl) m_range boot_range (pa_cons (pv 0) pa_nil)) pa_nil)) pa_nil)))) pa_nil)) (pv 0) (nomark _)))), ?_⟩
    refine ⟨_, rfl, _, rfl, n, ca, ts, es, rfl, hn, hca, tE, h32, fun H1 nb us e1 nf1 hnb tU => ?_⟩
    refine ⟨_, rfl, n, rfl, fun p1 np1 => ?_⟩
    refine ⟨p1, n, rfl, upd_same, by omega, fun p2 np2 => ?_⟩
    have s1 := same_new (o := .rng 0 n) (Same.refl H1) np1
    have s2 := same_new (o := .lst (K7E.upTo n)) s1 np2
    have hps : upd (upd H1 p1 (.rng 0 n)) p2 (.lst (K7E.upTo n)) p2 = some (.lst (ints_ (List.range n))) := upd_same
    generalize upd (upd H1 p1 (.rng 0 n)) p2 (.lst (K7E.upTo n)) = H2 at s2 hps ⊢
    have ln : (nearV n es).length = n := by unfold nearV; rw [List.length_map, List.length_range]
    have hget : ∀ a, a < n → (nearV n es)[a]? = some ((List.range n).filter fun b => decide ((a, b) ∈ es) || decide ((b, a) ∈ es)) := fun a ha => by
      unfold nearV
      rw [List.getElem?_map, List.getElem?_range ha]
      rfl
    refine ⟨nb, us, nearV n es, 0, p2, List.range n, rfl, s2 _ _ hnb, tU.same s2, .inr hps, by rw [ln]; exact hn, by rw [ln]; exact n0, fun l hl x hx => ?_, fun H3 qa fd e3 nq hq fo => ?_⟩
    · rw [ln]
      unfold nearV at hl
      obtain ⟨a, _, rfl⟩ := List.mem_map.mp hl
      exact List.mem_range.mp (List.mem_filter.mp hx).1
    · have hlt : ∀ x ∈ fd, x < n := fun x hx => by have z := fo.lt x hx; rw [ln] at z; exact z
      have all := KL.conn_closed cn fo.me fun a b hab ha => by
        have hb : b < n := by
          rcases hab with z | z
          · exact (elt _ z).2
          · exact (elt _ z).1
        refine fo.cl a ha _ (hget a (hlt a ha)) b (List.mem_filter.mpr ⟨List.mem_range.mpr hb, ?_⟩) (List.mem_range.mpr hb)
        rcases hab with z | z
        · rw [decide_eq_true z]; rfl
        · rw [decide_eq_true z, Bool.or_true]
      have len := KL.all_len fo.nd hlt all
      refine ⟨qa, _, rfl, .inl (.inl (.inl hq)), _, rfl, rfl, ?_⟩
      have lq : (ints_ fd).length = n := by unfold ints_; rw [List.length_map]; exact len
      rw [lq, decide_eq_true rfl]
      exact q H3 (e1.trans (s2.trans e3))
end
end K7
end
/-! ## ES -/
section
/-! A set comprehension of tuples of ints, and how many there are in such a set. -/
namespace K7S
open PySem PySem.Spec PyProof.Rows L2
abbrev eS (w : World) : Obj := { cls := .type "set", dict := none, data := .set #[] 0 (.fresh 0 0 (!w.params.followText "set-order")) }
abbrev eD : Obj := { cls := .type "dict", data := .dict #[] }
section
variable {X : Cx}
/-- one more tuple -/
theorem addT_ok {pins : List (Addr × Obj)} {τ : L2.St} {H : Hp} {s : Shared} {E : Value → Shared → Prop} {D t : Addr} {L : List (Addr × List Int)} {k : List Int} {Q : Value → Shared → Prop} (I : Inv X pins τ H s) (hD : H D = some (SetTO X.prog X.w D L)) (ht : ∀ p ∈ L, SqT X.K H p.1 (p.2.map V.int)) (hy : SqT X.K H t (k.map V.int)) (hf : L.length + 1 < 64) (hu : X.A.units + 1 < cLine)
    (h : ∀ s' L', (k ∈ L.map (·.2) → L' = L) → (k ∉ L.map (·.2) → L'.Perm ((t, k) :: L)) → Inv X pins τ (upd H D (SetTO X.prog X.w D L')) s' → Q .none s') : wpAny (model X.prog X.w) X.A (call (.builtin "set.add") [.ref D, .ref t]) Q E s := by
  obtain ⟨es, ep, tb, R⟩ := SetT0.full (I.hok D _ hD).1 fun p hp => I.isT (ht p hp)
  obtain ⟨o, ho, hex, hd⟩ := id R.ob
  have hT : s.TypeIs (.ref D) "set" := ⟨o, ho, hex.1⟩
  refine wpAny_call_entry F.slot_set_add hT F.entry_set_add ?_ (F.args_set_add_2 _ _)
  unfold Builtin.«set.add» Builtin.Frozenset.oneOther
  simp only [List.isEmpty_nil, bind_assoc]
  unfold Builtin.Frozenset.addrOf setAdd
  refine wpAny_bind (wpAny_pure ?_)
  try dsimp only
  refine wpAny_bind (wpAny_pure ?_)
  try dsimp only
  refine wpAny_bind (wpAny_holding (wpAny_bind (wpAny_pyHash_tuple (show X.A.units + 1 < cLine from hu) (I.isT hy) ?_)))
  refine add_at (s := { s with toks := s.toks + (k.length + 1) }) R (I.isT hy) (show X.A.units + 1 < cLine from hu) hf fun b h' L' es' ep' tb' sb R' c1 c2 => ?_
  show wpAny _ _ (ret Value.none) _ _ _
  obtain ⟨o', ho', _⟩ := id R'.ob
  exact wpAny_pure ⟨_, rfl, h _ L' c1 c2 (I.write (e := D) (t' := s.toks + (k.length + 1)) (by rw [hD]; trivial) (.inl rfl) (fun b u hb hu => (sb.2 b hb).trans hu) ⟨o', ho'⟩ (setTO_new R'.t0))⟩
/-- how many -/
theorem call_lenT : CallR X (.builtin "len") (fun xs H Q => ∃ a L, xs = [V.ref a] ∧ H a = some (SetTO X.prog X.w a L) ∧ (∀ p ∈ L, SqT X.K H p.1 (p.2.map V.int)) ∧ Q (.int (L.length : Nat)) H) := by
  intro pins s τ H xs us Q I r h
  obtain ⟨a, L, rfl, ha, ht, q⟩ := h
  rw [Vals.ref1 r]
  obtain ⟨es, ep, tb, R⟩ := SetT0.full (I.hok a _ ha).1 fun p hp => I.isT (ht p hp)
  obtain ⟨o, ho, hex, hd⟩ := id R.ob
  have n1 := R.size
  have n2 := R.few
  exact call_len_set ho hex hd R.fits (by omega) ⟨.int (L.length : Nat), H, I.tok _, ⟨_, by rw [n1]⟩, q⟩
/-- {elt for target in iter}, elt a tuple of ints: D the new set -/
def tSt (P : Program) (w : World) (K : PySem.W.Frag) (wi : TI) (g : TG) (te : TE) (vs : List Nat) : TE := fun τ H Q => wi τ H fun J H1 => ∀ D, H1 D = none → ∃ W : Nat → Nat → Hp → Prop, (∃ m, W 0 m (upd H1 D (SetTO P w D []))) ∧ ∀ i m H, W i m H →
  (J.stop i H ∧ Q (.ref D) H) ∨ (J.go i H ∧ ∃ Nx : Hp → Prop, (∀ H', Nx H' → ∃ m', m' < m ∧ W (i + 1) m' H') ∧ ∀ x H', J.yld i H x H' → g x (wipe τ vs) H' fun τ2 H3 => wipe τ2 vs = wipe τ vs ∧
    te τ2 H3 fun y H4 => ∃ (t : Addr) (k : List Int) (L : List (Addr × List Int)), y = .ref t ∧ SqT K H4 t (k.map V.int) ∧ H4 D = some (SetTO P w D L) ∧ (∀ p ∈ L, SqT K H4 p.1 (p.2.map V.int)) ∧ L.length + 1 < 64 ∧
      ∀ L', (k ∈ L.map (·.2) → L' = L) → (k ∉ L.map (·.2) → L'.Perm ((t, k) :: L)) → Nx (upd H4 D (SetTO P w D L')))
theorem fresh0 (P : Program) (w : World) (h : Heap) : SetT0 P w (h.push (eS w)) h.objs.size [] := (setTR_fresh (P := P) (w := w) (h := h.push (eS w)) (a := h.objs.size) (Heap.get?_push_size _ rfl)).t0
/-- as a value -/
theorem pe_st {elt tg iter : Expr} {scope : Scope} {own : List (PySem.Str × Nat)} {pos : Pos} {wi : TI} {g : TG} {te : TE} (hc : X.calm = true) (hu : X.A.units + 1 < cLine) (hN : X.N.Nodup) (hi : PI X tg iter wi) (ok : BlkOk X.N X.env.scope scope own)
    (hg : ∀ (s : Shared) (H : Hp) (C : Addr) (cl : List (PySem.Str × Addr)) (fp : List Addr), PG (X.blk s H scope (compEnvC scope cl C X.env) fp) tg g) (he : ∀ (s : Shared) (H : Hp) (C : Addr) (cl : List (PySem.Str × Addr)) (fp : List Addr), PE (X.blk s H scope (compEnvC scope cl C X.env) fp) elt te)
    (hs : ∀ x, foldedSetIterable iter X.env x = pure x := by intro _; rfl) : PE X (.SetComp elt [⟨tg, iter, [], 0⟩] scope pos) (tSt X.prog X.w X.K wi g te (own.map (·.2))) := by
  refine ⟨fun pins s τ H Q I h => ?_⟩
  rw [PpSet.eval_SetComp]
  have hfree : ∀ z ∈ scope.names, z.2 = .free → ∃ c, X.env.cells.lookup z.1 = some c := fun z hz e => (ok.free z hz e).elim (fun k => I.ok.has _ (.inl k)) fun k => I.ok.has _ (.inr k)
  refine wpAny_comprehension_free (use := none) rfl hs (closure_ok hfree) ok.kind (fun z hz e => by rw [ok.uniq z hz, e]) (thn (hi.run pins s τ H _ I h) fun xv s1 hx => thn hx fun itv s2 z2 => ?_)
  obtain ⟨it, fp, tn, J, H2, rfl, I2, T, st2, f2, q⟩ := z2
  refine PpSet.newSet_ok (newEnv_comp ?_)
  show codeAny _ _ (.compStart (.SetComp elt [⟨tg, iter, [], 0⟩] scope pos) 0 (.ref it) (.ref s2.heap.objs.size) (compEnvC scope (cellsFrom ((s2.heap.push (eS X.w)).objs.size + 1) scope.names (cloFrom X.env.cells scope.names [])) (s2.heap.push (eS X.w)).objs.size X.env)) _ { s2 with heap := pushCells ((s2.heap.push (eS X.w)).push eD) scope.names }
  have nD : H2 s2.heap.objs.size = none := I2.hok.fresh (Nat.le_refl _)
  have IS : Inv X pins τ (upd H2 s2.heap.objs.size (SetTO X.prog X.w s2.heap.objs.size [])) { s2 with heap := s2.heap.push (eS X.w) } := I2.laid (t' := s2.toks) (fun b o e => Heap.get?_push_of_some _ e) (Nat.le_refl _) (setTO_new (fresh0 _ _ _))
  have stS : tn 0 (s2.heap.push (eS X.w)) := T.keep _ _ _ st2 fun b _ o e => Heap.get?_push_of_some _ e
  have fS : ∀ b ∈ fp, FpOk X pins (upd H2 s2.heap.objs.size (SetTO X.prog X.w s2.heap.objs.size [])) b ∧ b < (s2.heap.push (eS X.w)).objs.size := fun b hb => by
    obtain ⟨o, e, _⟩ := T.obj _ _ st2 b hb
    have l1 := Heap.lt_size e
    exact ⟨⟨by rw [upd_ne (Nat.ne_of_lt l1)]; exact (f2 b hb).1, (f2 b hb).2⟩, by rw [Heap.size_push]; exact Nat.lt_succ_of_lt l1⟩
  obtain ⟨W, ⟨m0, w0⟩, turn⟩ := q _ nD
  have IB := block_start IS ok hN fS
  have stB : tn 0 (pushCells ((s2.heap.push (eS X.w)).push eD) scope.names) := T.keep _ _ _ stS fun b _ o e => pushCells_keeps _ _ _ _ (Heap.get?_push_of_some _ e)
  generalize s2.heap.objs.size = D at *
  generalize upd H2 D (SetTO X.prog X.w D []) = HS at IS IB w0 fS
  generalize eS3 : ({ s2 with heap := s2.heap.push (eS X.w) } : Shared) = s3 at IS IB
  have e3 : s2.heap.push (eS X.w) = s3.heap := by rw [← eS3]
  rw [e3] at fS stS stB ⊢
  have e4 : ({ s2 with heap := pushCells (s3.heap.push eD) scope.names } : Shared) = { s3 with heap := pushCells (s3.heap.push eD) scope.names } := by rw [← eS3]
  rw [e4]
  have pg := hg s3 HS s3.heap.objs.size (cellsFrom (s3.heap.objs.size + 1) scope.names (cloFrom X.env.cells scope.names [])) fp
  have pe := he s3 HS s3.heap.objs.size (cellsFrom (s3.heap.objs.size + 1) scope.names (cloFrom X.env.cells scope.names [])) fp
  generalize hce : compEnvC scope (cellsFrom (s3.heap.objs.size + 1) scope.names (cloFrom X.env.cells scope.names [])) s3.heap.objs.size X.env = ce at IB pg pe ⊢
  have cL : ce.locals = s3.heap.objs.size := by rw [← hce]; rfl
  generalize hs4 : ({ s3 with heap := pushCells (s3.heap.push eD) scope.names } : Shared) = s4 at IB ⊢
  have st4 : tn 0 s4.heap := by rw [← hs4]; exact stB
  have nf : ∀ b ∈ fp, HS b = none := fun b hb => (fS b hb).1.1
  have stat : ∀ {τ' : L2.St} {H' : Hp} {s' : Shared}, Inv (X.blk s3 HS scope ce fp) [] τ' H' s' → (∀ b ∈ fp, H' b = none) → ∀ b ∈ fp, FpOk (X.blk s3 HS scope ce fp) [] H' b := fun {τ' H' s'} I' hn b hb =>
    ⟨hn b hb, (I'.ok.exf b hb).1, I'.ok.exfs b hb, .inl hb, fun x c e => (I'.ok.exf b hb).2 x c e, fun p hp => absurd (show p ∈ ([] : List (Addr × Obj)) ++ [] from hp) (by simp)⟩
  suffices loop : codeAny (model X.prog X.w) X.A (.compLoop (.SetComp elt [⟨tg, iter, [], 0⟩] scope pos) 0 (.ref it) (.ref D) ce) (compPost (model X.prog X.w) X.A X.xe none (EP X pins τ Q) (.ref D) s3.heap.objs.size) s4 from PpSet.codeAny_compStart_set loop (T.self X.A 0 _ _ _ st4 loop)
  refine PpSet.compLoopS_any (fun n s' => ∃ i H', Inv (X.blk s3 HS scope ce fp) [] (wipe τ (own.map (·.2))) H' s' ∧ tn i s'.heap ∧ (∀ b ∈ fp, H' b = none) ∧ W i n H') (fun n s5 z5 => ?_) m0 ⟨0, HS, IB, st4, nf, w0⟩
  obtain ⟨i, H5, I5, st5, n5, w5⟩ := z5
  rcases turn i n H5 w5 with ⟨stop, qq⟩ | ⟨go, Nx, hNx, step⟩
  · refine thnF (T.done (X.blk s3 HS scope ce fp) rfl rfl rfl hc i [] s5 _ H5 (fun _ _ => False) I5 (stat I5 n5) st5 stop) fun r s6 ⟨hr, I6⟩ => ?_
    subst hr
    have I7 : Inv X pins τ H5 s6 := IS.call' (ch := fp) I6.os I6.base I6.hok I6.bare fun b hb => ⟨(fS b hb).1.2.2.2.1, (fS b hb).1.2.1, (fS b hb).1.2.2.2.2.1, (fS b hb).1.2.2.2.2.2⟩
    have nC : H5 s3.heap.objs.size = none := by rw [← cL]; exact I6.free
    obtain ⟨m, hn, _⟩ := I6.loc
    have hn : s6.heap.Ns s3.heap.objs.size m := by rw [← cL]; exact hn
    obtain ⟨f0, f1, f2', f3, f4, f5⟩ := IS.fpOk (Nat.le_refl _) nC
    exact ⟨m, hn, fun h'' sb => ⟨.ref D, H5, I7.turned (t' := s6.toks) (fun b o hb e => (sb.2 b hb).trans e) f0 f1 f3 f4 f5, rfl, qq⟩⟩
  · refine thnF (T.item (X.blk s3 HS scope ce fp) rfl rfl rfl hc i [] s5 _ H5 (fun _ _ => False) I5 (stat I5 n5) st5 go) fun r s6 ⟨u, hr, h6⟩ => ?_
    subst hr
    refine thnF h6 fun _ s7 ⟨x, H7, I7, r7, y7, st7, n7⟩ => ?_
    refine thnF (pg.run _ s7 _ H7 x u _ (I7.pinned (stat I7 n7) (T.obj _ _ st7)) r7 (step x H7 y7)) fun _ s8 ⟨τ8, H8, I8, hw8, q8⟩ => ?_
    refine wpAny_tests_nil ?_
    rw [if_pos rfl]
    refine thnF (pe.run _ s8 τ8 H8 _ I8 q8) fun z s10 ⟨yv, H10, I10, r10, t, k, L, ey, hy, hD10, hL, hlt, nx⟩ => ?_
    subst ey
    cases (show z = Value.ref t from r10)
    refine addT_ok (X := X.blk s3 HS scope ce fp) I10 hD10 hL hy hlt hu fun s11 L' c1 c2 I11 => ?_
    obtain ⟨m', hm, w'⟩ := hNx _ (nx L' c1 c2)
    have pin' : ∀ b ∈ fp, ∀ o, s7.heap.get? b = some o → s11.heap.get? b = some o ∧ (upd H10 D (SetTO X.prog X.w D L')) b = none := fun b hb o e =>
      let z := I11.pin (b, o) (List.mem_append_right _ (List.mem_append_right _ (mem_pinsAt hb e)))
      ⟨z.1, z.2.1⟩
    refine ⟨m', hm, i + 1, _, (I11.unpinned (pins := [])).weak (by rw [← hw8, wipe_length]) (fun j v e => (wipe_some (by rw [hw8]; exact e)).1), T.keep _ _ _ st7 fun b hb o e => (pin' b hb o e).1, fun b hb => ?_, w'⟩
    obtain ⟨o, e, _⟩ := T.obj _ _ st7 b hb
    exact (pin' b hb o e).2
/-- over a list that the block leaves as it is -/
theorem st_list {P : Program} {w : World} {K : PySem.W.Frag} {a : Addr} {xs : List V} {g : TG} {te : TE} {vs : List Nat} {τ : L2.St} {H1 : Hp} {D : Addr} {Qd : Hp → Prop} (Pv : Nat → Hp → Prop) (h0 : Pv 0 (upd H1 D (SetTO P w D []))) (hl : ∀ i H, i ≤ xs.length → Pv i H → SqL K H a xs)
    (hs : ∀ i x H, xs[i]? = some x → Pv i H → g x (wipe τ vs) H fun τ2 H3 => wipe τ2 vs = wipe τ vs ∧
      te τ2 H3 fun y H4 => ∃ (t : Addr) (k : List Int) (L : List (Addr × List Int)), y = .ref t ∧ SqT K H4 t (k.map V.int) ∧ H4 D = some (SetTO P w D L) ∧ (∀ p ∈ L, SqT K H4 p.1 (p.2.map V.int)) ∧ L.length + 1 < 64 ∧
      ∀ L', (k ∈ L.map (·.2) → L' = L) → (k ∉ L.map (·.2) → L'.Perm ((t, k) :: L)) → Pv (i + 1) (upd H4 D (SetTO P w D L'))) (hd : ∀ H, Pv xs.length H → Qd H) :
    ∃ W : Nat → Nat → Hp → Prop, (∃ m, W 0 m (upd H1 D (SetTO P w D []))) ∧ ∀ i m H, W i m H →
      ((Itl K a).stop i H ∧ Qd H) ∨ ((Itl K a).go i H ∧ ∃ Nx : Hp → Prop, (∀ H', Nx H' → ∃ m', m' < m ∧ W (i + 1) m' H') ∧ ∀ x H', (Itl K a).yld i H x H' → g x (wipe τ vs) H' fun τ2 H3 => wipe τ2 vs = wipe τ vs ∧
        te τ2 H3 fun y H4 => ∃ (t : Addr) (k : List Int) (L : List (Addr × List Int)), y = .ref t ∧ SqT K H4 t (k.map V.int) ∧ H4 D = some (SetTO P w D L) ∧ (∀ p ∈ L, SqT K H4 p.1 (p.2.map V.int)) ∧ L.length + 1 < 64 ∧
      ∀ L', (k ∈ L.map (·.2) → L' = L) → (k ∉ L.map (·.2) → L'.Perm ((t, k) :: L)) → Nx (upd H4 D (SetTO P w D L'))) := by
  refine ⟨fun i m H => m + i = xs.length ∧ Pv i H, ⟨xs.length, rfl, h0⟩, fun i m H z => ?_⟩
  obtain ⟨hm, p⟩ := z
  have q := hl i H (by omega) p
  rcases Nat.lt_or_ge i xs.length with lt | ge
  · refine .inr ⟨⟨xs, xs[i], q, List.getElem?_eq_getElem lt⟩, Pv (i + 1), fun H' p' => ⟨m - 1, by omega, by omega, p'⟩, fun x H' y => ?_⟩
    obtain ⟨rfl, y⟩ := y
    exact hs i x _ (y xs q) p
  · obtain rfl : i = xs.length := by omega
    exact .inl ⟨⟨xs, q, Nat.le_refl _⟩, hd H p⟩
/-- over a tuple that the block leaves as it is -/
theorem st_tup {P : Program} {w : World} {K : PySem.W.Frag} {a : Addr} {xs : List V} {g : TG} {te : TE} {vs : List Nat} {τ : L2.St} {H1 : Hp} {D : Addr} {Qd : Hp → Prop} (Pv : Nat → Hp → Prop) (h0 : Pv 0 (upd H1 D (SetTO P w D []))) (hl : ∀ i H, i ≤ xs.length → Pv i H → SqT K H a xs)
    (hs : ∀ i x H, xs[i]? = some x → Pv i H → g x (wipe τ vs) H fun τ2 H3 => wipe τ2 vs = wipe τ vs ∧
      te τ2 H3 fun y H4 => ∃ (t : Addr) (k : List Int) (L : List (Addr × List Int)), y = .ref t ∧ SqT K H4 t (k.map V.int) ∧ H4 D = some (SetTO P w D L) ∧ (∀ p ∈ L, SqT K H4 p.1 (p.2.map V.int)) ∧ L.length + 1 < 64 ∧
      ∀ L', (k ∈ L.map (·.2) → L' = L) → (k ∉ L.map (·.2) → L'.Perm ((t, k) :: L)) → Pv (i + 1) (upd H4 D (SetTO P w D L'))) (hd : ∀ H, Pv xs.length H → Qd H) :
    ∃ W : Nat → Nat → Hp → Prop, (∃ m, W 0 m (upd H1 D (SetTO P w D []))) ∧ ∀ i m H, W i m H →
      ((Itt K a).stop i H ∧ Qd H) ∨ ((Itt K a).go i H ∧ ∃ Nx : Hp → Prop, (∀ H', Nx H' → ∃ m', m' < m ∧ W (i + 1) m' H') ∧ ∀ x H', (Itt K a).yld i H x H' → g x (wipe τ vs) H' fun τ2 H3 => wipe τ2 vs = wipe τ vs ∧
        te τ2 H3 fun y H4 => ∃ (t : Addr) (k : List Int) (L : List (Addr × List Int)), y = .ref t ∧ SqT K H4 t (k.map V.int) ∧ H4 D = some (SetTO P w D L) ∧ (∀ p ∈ L, SqT K H4 p.1 (p.2.map V.int)) ∧ L.length + 1 < 64 ∧
      ∀ L', (k ∈ L.map (·.2) → L' = L) → (k ∉ L.map (·.2) → L'.Perm ((t, k) :: L)) → Nx (upd H4 D (SetTO P w D L'))) := by
  refine ⟨fun i m H => m + i = xs.length ∧ Pv i H, ⟨xs.length, rfl, h0⟩, fun i m H z => ?_⟩
  obtain ⟨hm, p⟩ := z
  have q := hl i H (by omega) p
  rcases Nat.lt_or_ge i xs.length with lt | ge
  · refine .inr ⟨⟨xs, xs[i], q, List.getElem?_eq_getElem lt⟩, Pv (i + 1), fun H' p' => ⟨m - 1, by omega, by omega, p'⟩, fun x H' y => ?_⟩
    obtain ⟨rfl, y⟩ := y
    exact hs i x _ (y xs q) p
  · obtain rfl : i = xs.length := by omega
    exact .inl ⟨⟨xs, q, Nat.le_refl _⟩, hd H p⟩
theorem hu1 {k : Nat} {A : Around} (hr : Room k A) : A.units + 1 < cLine := by have := hr.un; omega
end
end K7S
end
/-! ## ET -/
section
/-! sorted of a tuple, or of a list, of ints. -/
namespace K7S
open PySem PySem.Spec PyProof.Rows L2
section
variable {X : Cx}
def rSortA (K : PySem.W.Frag) : List V → Hp → VK → Prop := fun vs H Q => ∃ (a : Addr) (ns : List Int), vs = [V.ref a] ∧ (SqL K H a (ns.map V.int) ∨ SqT K H a (ns.map V.int)) ∧ ns.length < 64 ∧ ∀ (ms : List Int) (p : Addr), ms.Perm ns → ms.Pairwise (· ≤ ·) → H p = none → Q (.ref p) (upd H p (.lst (ms.map V.int)))
theorem cr_sortA : CallR X (.builtin "sorted") (rSortA X.K) := by
  intro pins s τ H vs us Q I r h
  obtain ⟨a, ns, rfl, hs, h64, q⟩ := h
  rw [Vals.ref1 r]
  have got : ∃ (its : List Value) (o : Obj) (n : Nat) (T : String), Vals (ns.map V.int) its ∧ (T = "list" ∨ T = "tuple") ∧ s.heap.get? a = some o ∧ o.cls = .type T ∧ o.data = .seq its.toArray n := by
    rcases hs with z | z
    · obtain ⟨its, rv, pl, _⟩ := I.list z
      obtain ⟨o, ho, hc, n, hd⟩ := pl.isList
      exact ⟨its, o, n, "list", rv, .inl rfl, ho, hc, hd⟩
    · obtain ⟨its, rv, ⟨o, ho, hc, n, hd⟩, _⟩ := I.tuple z
      exact ⟨its, o, n, "tuple", rv, .inr rfl, ho, hc, hd⟩
  obtain ⟨its, o, n, T, rv, hT, ho, hc, hd⟩ := got
  have hi := rv.ints
  have h64' : its.length < 64 := by rw [hi.length]; exact h64
  refine Calls.call_function_entry kind_sorted plain_sorted entry_sorted (args_sorted1 _) ?_
  unfold Builtin.«sorted»
  refine wpAny_bind (m := checkCount "sorted" 1 1 _) (wpAny_pure (wpAny_bind (wpAny_collect_seq a hT ho hc hd (fun h' kp => ?_) (by rw [List.size_toArray, sizeLine_eq]; omega))))
  have hoL : (h'.push (seqObj "list" its.toArray 0)).get? h'.objs.size = some (seqObj "list" its.toArray 0) := Heap.get?_push_size _ rfl
  refine wpAny_bind (wpAny_newList ?_ (by rw [sizeLine_eq]; show its.length ≤ _; omega))
  show wpAny _ _ _ _ _ { s with heap := h'.push (seqObj "list" its.toArray 0) }
  refine wpAny_bind (wpAny_holding (wpAny_call_entry slot_list_sort ⟨_, hoL, rfl⟩ entry_list_sort (list_sort_tree hoL hi h64' fun out ms a1 a2 a3 => ⟨_, rfl, wpAny_pure ⟨_, rfl, ?_⟩⟩) (args_list_sort _)))
  obtain ⟨e, he⟩ := sortedHeap_at (vs := its) (out := out) hoL
  have hlen : (ms.map V.int).length ≤ sizeLine := by rw [List.length_map, a2.length_eq]; exact small64 h64
  have I1 : Inv X pins τ H { s with heap := h' } := I.kept (t' := s.toks) kp
  refine ⟨.ref h'.objs.size, upd H h'.objs.size (.lst (ms.map V.int)), I1.laid (t' := s.toks) (fun b u hb => ?_) (Nat.le_refl _) ⟨hlen, out.toList, e, vals_of_ints a1, he⟩, rfl, q ms _ a2 a3 (I1.hok.fresh (Nat.le_refl _))⟩
  have lt := Heap.lt_size hb
  exact (sortedHeap_old (Nat.ne_of_lt lt) (by rw [size_push']; exact Nat.lt_succ_of_lt lt)).trans (Heap.get?_push_of_some _ hb)
end
end K7S
end
/-! ## P10 -/
section
open PySem PySem.Spec PyProof.Rows L2
namespace K7
abbrev N__are_neighbours : List Str := ["cells", "thing", "couple"]
abbrev s__are_neighbours : Stmt := topS 18
theorem sc__are_neighbours : FnScope ["cells", "thing", "couple"] ["cells", "thing"] (defScope s__are_neighbours) := ⟨rfl, rfl, rfl, by decide +kernel, rfl, by decide +kernel, by decide +kernel⟩
section
variable {P : Program} {w : World} {K : PySem.W.Frag} {mg : Str → Option Value} {base : Heap}
/-! ### couples that are handed in: rows of two cells, either way round, tuples or lists -/
theorem SqOf.ty {H : Hp} {a : Addr} {xs : List V} (h : SqOf H a xs) : ∃ t : String, (∀ H1, Same H H1 → TyX K H1 (.ref a) (.type t)) ∧ PySem.W.kitAny K (.type t) [.type "list", .type "tuple"] = some true := by
  rcases h with z | z
  · exact ⟨"tuple", fun H1 e1 => .base (.tup (e1 _ _ z)), any_tup⟩
  · exact ⟨"list", fun H1 e1 => .base (.lst (e1 _ _ z)), any_lst⟩
def CoAt (H : Hp) (t : Addr) (c : Nat × Nat) : Prop := SqOf H t (ints_ [c.1, c.2])
def CoAll (H : Hp) (ts : List Addr) (cs : List (Nat × Nat)) : Prop := ts.length = cs.length ∧ ∀ (i : Nat) t c, ts[i]? = some t → cs[i]? = some c → CoAt H t c
theorem CoAll.same {H H' : Hp} {ts : List Addr} {cs : List (Nat × Nat)} (h : CoAll H ts cs) (e : Same H H') : CoAll H' ts cs := ⟨h.1, fun i t c h1 h2 => (h.2 i t c h1 h2).same e⟩
structure Cos (n : Nat) (cs : List (Nat × Nat)) : Prop where
  lt : ∀ c ∈ cs, c.1 < n ∧ c.2 < n ∧ c.1 ≠ c.2
  nd : (cs.map KL.srt).Nodup
  len : cs.length ≤ 32
theorem two_co {n : Nat} {c : Nat × Nat} (h : c.1 < n ∧ c.2 < n ∧ c.1 ≠ c.2) : twoV (n : Nat) (ints_ [c.1, c.2]) = true := by
  obtain ⟨h1, h2, h3⟩ := h
  unfold twoV cellsV
  have e1 : wholeV (.int (c.1 : Nat)) 0 (((n : Nat) : Int) - 1) = true := by rw [wholeV_int, decide_eq_true (by omega), decide_eq_true (by omega)]; rfl
  have e2 : wholeV (.int (c.2 : Nat)) 0 (((n : Nat) : Int) - 1) = true := by rw [wholeV_int, decide_eq_true (by omega), decide_eq_true (by omega)]; rfl
  have e3 : (ints_ [c.1, c.2]).all (fun x => wholeV x 0 (((n : Nat) : Int) - 1)) = true := by
    show (wholeV (.int (c.1 : Nat)) 0 (((n : Nat) : Int) - 1) && (wholeV (.int (c.2 : Nat)) 0 (((n : Nat) : Int) - 1) && true)) = true
    rw [e1, e2]; rfl
  have e4 : ((ints_ [c.1, c.2]).map intOf).Nodup := by
    show [((c.1 : Nat) : Int), ((c.2 : Nat) : Int)].Nodup
    refine List.nodup_cons.mpr ⟨fun m => ?_, List.nodup_cons.mpr ⟨List.not_mem_nil, List.nodup_nil⟩⟩
    rw [List.mem_singleton] at m
    omega
  rw [e3, decide_eq_true e4, decide_eq_true (show (2 : Int) ≤ (((ints_ [c.1, c.2]).length : Nat) : Int) from (by decide : (2 : Int) ≤ ((2 : Nat) : Int))), decide_eq_true (show (ints_ [c.1, c.2]).length = 2 from rfl)]
  rfl
def keyOf (c : Nat × Nat) : List Int := [((KL.srt c).1 : Int), ((KL.srt c).2 : Int)]
theorem keyOf_inj {c d : Nat × Nat} (h : keyOf c = keyOf d) : KL.srt c = KL.srt d := by
  unfold keyOf at h
  injection h with h1 h2
  injection h2 with h2
  exact Prod.ext (by omega) (by omega)
theorem keys_nd {cs : List (Nat × Nat)} (h : (cs.map KL.srt).Nodup) : (cs.map keyOf).Nodup := by
  induction cs with
  | nil => exact List.nodup_nil
  | cons c cs ih =>
    rw [List.map_cons, List.nodup_cons] at h
    rw [List.map_cons, List.nodup_cons]
    refine ⟨fun m => ?_, ih h.2⟩
    obtain ⟨d, hd, e⟩ := List.mem_map.mp m
    exact h.1 (List.mem_map.mpr ⟨d, hd, keyOf_inj e⟩)
theorem key_ints (c : Nat × Nat) : (keyOf c).map V.int = ints_ [(KL.srt c).1, (KL.srt c).2] := rfl
def spNbrs : Sp := fun vs H Q _ => ∃ (n : Nat) (a : Addr) (ts : List Addr) (cs : List (Nat × Nat)), vs = [.int (n : Nat), .ref a] ∧ SqOf H a (ts.map V.ref) ∧ CoAll H ts cs ∧ Cos n cs ∧ ∀ H', Same H H' → Q (.bl true) H'
theorem ok_nbrs {f fS fT : Addr} {fd fdS fdT : FuncData} (F : Fun K "_are_neighbours" "_are_neighbours" s__are_neighbours f fd)
    (Gsq : FnOk P w K mg base CX0 1 fS fdS ["thing"] (spSeq K)) (gsq : mg "is_sequence" = some (.ref fS)) (ksq : PySem.W.keepIn K (.ref fS) = true) (bsq : Binds K fdS ["thing"] [])
    (Ga2 : FnOk P w K mg base CX0 3 fT fdT ["many", "thing"] (spTwo K)) (ga2 : mg "are_two_cells" = some (.ref fT)) (ka2 : PySem.W.keepIn K (.ref fT) = true) (ba2 : Binds K fdT ["many", "thing"] [])
    (m_len : mg "len" = none) (m_all : mg "all" = none) (m_tuple : mg "tuple" = none) (m_sorted : mg "sorted" = none) : FnOk P w K mg base CX0 4 f fd ["cells", "thing"] spNbrs := by
  refine F.ok sc__are_neighbours (fun vs H Q E h => ?_) (fun cdv A outer s H vs Q E hr h => ?_)
  · obtain ⟨n, a, ts, cs, rfl, _⟩ := h
    rfl
  · obtain ⟨n, a, ts, cs, rfl, ha, hT, hc, q⟩ := h
    refine ⟨_, (pss_cons (ps_if (pw_or (pt_not (pt_val (pe_call Gsq (hr.mono (by decide)) (by rfl) gsq ksq bsq .nil pass0 (pa_cons (pv 1) pa_nil)))) (pw_or1 (pt_not (pt_val (pe_callB (cr_all rfl) (by rfl) m_all boot_all (pa_cons (pe_lc (own := [("couple", 2)]) (g := gName 2) (tt := tYes) rfl sc__are_neighbours.nd (K7E.pi_either (pi_tup (pv 1)) (pi_list (pv 1))) (blkOk_by (own := [("couple", 2)]) (N := N__are_neighbours) (sc := defScope s__are_neighbours) (by decide +kernel)) (fun _ _ _ _ _ => (pg_name (i := 2) sc__are_neighbours.nd rfl (by first | exact Or.inl rfl | exact Or.inr rfl))) (fun _ _ _ _ _ => pts_nil) (fun _ _ _ _ _ => (pe_call Ga2 (hr.mono (by decide)) (by rfl) ga2 ka2 ba2 .nil pass0 (pa_cons (pv 0) (pa_cons (pv 2) pa_nil))))) pa_nil)))))).pt
  (pss_one (ps_ret pe_bl))
  pss_nil)
 (pss_one (ps_ret (pe_cmpR op_eq (pe_callB K7S.call_lenT (by rfl) m_len boot_len (pa_cons (K7S.pe_st (own := [("couple", 2)]) (g := gName 2) rfl (K7S.hu1 hr) sc__are_neighbours.nd (K7E.pi_either (pi_tup (pv 1)) (pi_list (pv 1))) (blkOk_by (own := [("couple", 2)]) (N := N__are_neighbours) (sc := defScope s__are_neighbours) (by decide +kernel)) (fun _ _ _ _ _ => (pg_name (i := 2) sc__are_neighbours.nd rfl (by first | exact Or.inl rfl | exact Or.inr rfl))) (fun _ _ _ _ _ => (pe_callTy (show CallR _ (.type "tuple") (rTup_ K) from call_tuple_of) (by rfl) m_tuple boot_tuple (pa_cons (pe_callB (show CallR _ (.builtin "sorted") (K7S.rSortA K) from K7S.cr_sortA) (by rfl) m_sorted boot_sorted (pa_cons (pv 2) pa_nil)) pa_nil)))) pa_nil)) (pe_callB call_len_seq (by rfl) m_len boot_len (pa_cons (pv 1) pa_nil)) (nomark _))))), ?_⟩
    obtain ⟨t, ty, kk⟩ := ha.ty (K := K)
    have hl : ts.length = cs.length := hT.1
    have h32 := hc.len
    refine ⟨_, rfl, _, t, true, rfl, ty, kk, fun H1 e1 => ⟨_, rfl, ?_⟩⟩
    have ha1 := ha.same e1
    have hT1 := hT.same e1
    -- the second half: the set, behind any heap
    have half : ∀ H2, Same H1 H2 → ∀ D, H2 D = none → ∀ (j : Nat) (x : V) (H3 : Hp), (ts.map V.ref)[j]? = some x → (Same H2 H3 ∧ ∃ L : List (Addr × List Int), H3 D = some (SetTO P w D L) ∧ (∀ p ∈ L, H3 p.1 = some (.tup (p.2.map V.int))) ∧ (L.map (·.2)).Perm ((cs.take j).map keyOf)) →
        ∃ c t', x = .ref t' ∧ cs[j]? = some c ∧ CoAt H3 t' c ∧ keyOf c ∉ (cs.take j).map keyOf := by
      intro H2 e2 D hD j x H3 hx pv
      rw [List.getElem?_map] at hx
      obtain ⟨t', ht', rfl⟩ := Option.map_eq_some_iff.mp hx
      have hj : j < cs.length := by rw [← hl]; exact (List.getElem?_eq_some_iff.mp ht').1
      refine ⟨cs[j], t', rfl, List.getElem?_eq_getElem hj, (hT1.2 j t' _ ht' (List.getElem?_eq_getElem hj)).same (e2.trans pv.1), fun m => ?_⟩
      have nd := keys_nd hc.nd
      have e3 : cs.map keyOf = (cs.take j).map keyOf ++ (cs.drop j).map keyOf := by rw [← List.map_append, List.take_append_drop]
      rw [e3, List.nodup_append] at nd
      exact nd.2.2 _ m _ (List.mem_map.mpr ⟨cs[j], by rw [List.drop_eq_getElem_cons hj]; exact List.mem_cons_self, rfl⟩) rfl
    have fin : ∀ H2, Same H1 H2 → ∀ L : List (Addr × List Int), (L.map (·.2)).Perm ((cs.take (ts.map V.ref).length).map keyOf) → (Same H H2 → decide (V.int (L.length : Nat) = V.int ((ts.map V.ref).length : Nat)) = true) := by
      intro H2 e2 L p _
      have z := p.length_eq
      rw [List.length_map, List.length_map, List.length_map, hl, List.take_length] at z
      rw [List.length_map, z, hl]
      exact decide_eq_true rfl
    have Q2 : ∀ H2, Same H1 H2 → Q (.bl true) H2 := fun H2 e2 => q H2 (e1.trans e2)
    have sz : (ts.map V.ref).length = cs.length := by rw [List.length_map, hl]
    rcases ha1 with z | z
    · refine .inl ⟨_, rfl, a, rfl, ⟨_, .inl (.inl z)⟩, fun D hD => lc_tup (xs := ts.map V.ref) (fun j H2 => Same H1 H2 ∧ ∃ bs : List Bool, H2 D = some (.lst (bs.map V.bl)) ∧ bs.all id = true ∧ bs.length = j) ⟨same_new (Same.refl H1) hD, [], upd_same, rfl, rfl⟩ (fun j H2 _ pv => .inl (.inl (pv.1 _ _ z))) (fun j x H2 hx pv => ?_) (fun H2 pv => ?_)⟩
      · obtain ⟨e2, bs, hD2, hb, lb⟩ := pv
        have hjx := (List.getElem?_eq_some_iff.mp hx).1
        rw [List.getElem?_map] at hx
        obtain ⟨t', ht', rfl⟩ := Option.map_eq_some_iff.mp hx
        have hj : j < cs.length := by rw [← sz]; exact hjx
        have hco := hc.lt cs[j] (List.getElem_mem hj)
        refine ⟨rfl, _, rfl, _, rfl, n, .ref t', rfl, .inr ⟨t', _, rfl, (hT1.2 j t' cs[j] ht' (List.getElem?_eq_getElem hj)).same e2, fun y hy => ?_, by show 2 < 64; decide, fun H3 e3 => ?_⟩⟩
        · obtain ⟨k, _, rfl⟩ := List.mem_map.mp hy
          exact .flat (.int _)
        · rw [two_co hco]
          refine ⟨_, e3 _ _ hD2, by rw [List.length_map]; exact small1000 (by omega), fun b o hb => ?_, bs ++ [true], ?_, ?_, by rw [List.length_append, lb]; rfl⟩
          · rw [upd_ne (ne_of_none hb hD)]
            exact e3 _ _ (e2 _ _ hb)
          · rw [upd_same, List.map_append]
            rfl
          · rw [List.all_append, hb]
            rfl
      · obtain ⟨e2, bs, hD2, hb, lb⟩ := pv
        refine ⟨D, bs, rfl, .inl (.inl hD2), _, rfl, ?_⟩
        rw [hb]
        refine iteF ?_
        refine .inl ⟨_, rfl, a, rfl, ⟨_, .inl (.inl (e2 _ _ z))⟩, fun D2 hD2 => K7S.st_tup (xs := ts.map V.ref) (fun j H3 => Same H2 H3 ∧ ∃ L : List (Addr × List Int), H3 D2 = some (SetTO P w D2 L) ∧ (∀ p ∈ L, H3 p.1 = some (.tup (p.2.map V.int))) ∧ (L.map (·.2)).Perm ((cs.take j).map keyOf)) ⟨same_new (Same.refl H2) hD2, [], upd_same, fun p hp => (nomatch hp), List.Perm.refl _⟩ (fun j H3 _ pv => .inl (.inl (pv.1 _ _ (e2 _ _ z)))) (fun j x H3 hx pv => ?_) (fun H3 pv => ?_)⟩
        · obtain ⟨c, t', rfl, hcj, hco, hnew⟩ := half H2 e2 D2 hD2 j x H3 hx pv
          obtain ⟨e3, L, hL, hLt, pm⟩ := pv
          have ll : L.length = j := by
            have z := pm.length_eq
            rw [List.length_map, List.length_map, List.length_take, Nat.min_eq_left (Nat.le_of_lt (List.getElem?_eq_some_iff.mp hcj).1)] at z
            exact z
          have hjc := (List.getElem?_eq_some_iff.mp hcj).1
          refine ⟨rfl, _, rfl, t', [(c.1 : Int), (c.2 : Int)], rfl, hco.sq, by show 2 < 64; decide, fun ms p pm2 so np => ?_⟩
          have em := KL.two_sorted pm2 so
          subst em
          refine ⟨p, _, rfl, .inl ⟨.inl (.inl upd_same), fun l nl => ?_⟩⟩
          have s1 := same_new (o := .lst ([((min c.1 c.2 : Nat) : Int), ((max c.1 c.2 : Nat) : Int)].map V.int)) (Same.refl H3) np
          have s2 := same_new (o := .tup ([((min c.1 c.2 : Nat) : Int), ((max c.1 c.2 : Nat) : Int)].map V.int)) s1 nl
          refine ⟨l, keyOf c, L, rfl, .inl (.inl upd_same), s2 _ _ hL, fun p hp => .inl (.inl (s2 _ _ (hLt p hp))), by omega, fun L' _ c2 => ?_⟩
          have pm' := c2 (fun m => hnew (pm.mem_iff.mp m))
          have nlD : l ≠ D2 := fun e => by rw [e, s1 _ _ hL] at nl; cases nl
          refine ⟨fun b o hb => ?_, L', upd_same, fun p hp => ?_, ?_⟩
          · rw [upd_ne (ne_of_none hb hD2)]
            exact s2 _ _ (e3 _ _ hb)
          · have tp : ∀ p ∈ L', (upd (upd H3 _ _) l (.tup ((keyOf c).map V.int))) p.1 = some (.tup (p.2.map V.int)) := fun p hp => by
              rcases List.mem_cons.mp (pm'.mem_iff.mp hp) with rfl | hp
              · exact upd_same
              · exact s2 _ _ (hLt p hp)
            have z := tp p hp
            rw [upd_ne (fun e => by rw [e] at z; exact absurd (z.symm.trans (s2 _ _ hL)) (fun w => by cases w))]
            exact z
          · refine (pm'.map (·.2)).trans ?_
            rw [List.take_add_one, hcj, List.map_append]
            exact ((List.perm_append_singleton _ _).trans (pm.symm.cons _)).symm
        · obtain ⟨e3, L, hL, hLt, pm⟩ := pv
          have eq2 := fin H3 (e2.trans e3) L pm (e1.trans (e2.trans e3))
          refine ⟨D2, L, rfl, hL, fun p hp => .inl (.inl (hLt p hp)), _, rfl, a, ts.map V.ref, rfl, ?_, rfl, ?_⟩
          · exact (SqOf.sq (K := K) (H := H3) (show SqOf H3 a (ts.map V.ref) from (ha.same e1).same (e2.trans e3)))
          · rw [eq2]
            exact Q2 H3 (e2.trans e3)
    · refine .inr ⟨_, rfl, a, rfl, ⟨_, .inl (.inl z)⟩, fun D hD => lc_list (xs := ts.map V.ref) (fun j H2 => Same H1 H2 ∧ ∃ bs : List Bool, H2 D = some (.lst (bs.map V.bl)) ∧ bs.all id = true ∧ bs.length = j) ⟨same_new (Same.refl H1) hD, [], upd_same, rfl, rfl⟩ (fun j H2 _ pv => .inl (.inl (pv.1 _ _ z))) (fun j x H2 hx pv => ?_) (fun H2 pv => ?_)⟩
      · obtain ⟨e2, bs, hD2, hb, lb⟩ := pv
        have hjx := (List.getElem?_eq_some_iff.mp hx).1
        rw [List.getElem?_map] at hx
        obtain ⟨t', ht', rfl⟩ := Option.map_eq_some_iff.mp hx
        have hj : j < cs.length := by rw [← sz]; exact hjx
        have hco := hc.lt cs[j] (List.getElem_mem hj)
        refine ⟨rfl, _, rfl, _, rfl, n, .ref t', rfl, .inr ⟨t', _, rfl, (hT1.2 j t' cs[j] ht' (List.getElem?_eq_getElem hj)).same e2, fun y hy => ?_, by show 2 < 64; decide, fun H3 e3 => ?_⟩⟩
        · obtain ⟨k, _, rfl⟩ := List.mem_map.mp hy
          exact .flat (.int _)
        · rw [two_co hco]
          refine ⟨_, e3 _ _ hD2, by rw [List.length_map]; exact small1000 (by omega), fun b o hb => ?_, bs ++ [true], ?_, ?_, by rw [List.length_append, lb]; rfl⟩
          · rw [upd_ne (ne_of_none hb hD)]
            exact e3 _ _ (e2 _ _ hb)
          · rw [upd_same, List.map_append]
            rfl
          · rw [List.all_append, hb]
            rfl
      · obtain ⟨e2, bs, hD2, hb, lb⟩ := pv
        refine ⟨D, bs, rfl, .inl (.inl hD2), _, rfl, ?_⟩
        rw [hb]
        refine iteF ?_
        refine .inr ⟨_, rfl, a, rfl, ⟨_, .inl (.inl (e2 _ _ z))⟩, fun D2 hD2 => K7S.st_list (xs := ts.map V.ref) (fun j H3 => Same H2 H3 ∧ ∃ L : List (Addr × List Int), H3 D2 = some (SetTO P w D2 L) ∧ (∀ p ∈ L, H3 p.1 = some (.tup (p.2.map V.int))) ∧ (L.map (·.2)).Perm ((cs.take j).map keyOf)) ⟨same_new (Same.refl H2) hD2, [], upd_same, fun p hp => (nomatch hp), List.Perm.refl _⟩ (fun j H3 _ pv => .inl (.inl (pv.1 _ _ (e2 _ _ z)))) (fun j x H3 hx pv => ?_) (fun H3 pv => ?_)⟩
        · obtain ⟨c, t', rfl, hcj, hco, hnew⟩ := half H2 e2 D2 hD2 j x H3 hx pv
          obtain ⟨e3, L, hL, hLt, pm⟩ := pv
          have ll : L.length = j := by
            have z := pm.length_eq
            rw [List.length_map, List.length_map, List.length_take, Nat.min_eq_left (Nat.le_of_lt (List.getElem?_eq_some_iff.mp hcj).1)] at z
            exact z
          have hjc := (List.getElem?_eq_some_iff.mp hcj).1
          refine ⟨rfl, _, rfl, t', [(c.1 : Int), (c.2 : Int)], rfl, hco.sq, by show 2 < 64; decide, fun ms p pm2 so np => ?_⟩
          have em := KL.two_sorted pm2 so
          subst em
          refine ⟨p, _, rfl, .inl ⟨.inl (.inl upd_same), fun l nl => ?_⟩⟩
          have s1 := same_new (o := .lst ([((min c.1 c.2 : Nat) : Int), ((max c.1 c.2 : Nat) : Int)].map V.int)) (Same.refl H3) np
          have s2 := same_new (o := .tup ([((min c.1 c.2 : Nat) : Int), ((max c.1 c.2 : Nat) : Int)].map V.int)) s1 nl
          refine ⟨l, keyOf c, L, rfl, .inl (.inl upd_same), s2 _ _ hL, fun p hp => .inl (.inl (s2 _ _ (hLt p hp))), by omega, fun L' _ c2 => ?_⟩
          have pm' := c2 (fun m => hnew (pm.mem_iff.mp m))
          have nlD : l ≠ D2 := fun e => by rw [e, s1 _ _ hL] at nl; cases nl
          refine ⟨fun b o hb => ?_, L', upd_same, fun p hp => ?_, ?_⟩
          · rw [upd_ne (ne_of_none hb hD2)]
            exact s2 _ _ (e3 _ _ hb)
          · have tp : ∀ p ∈ L', (upd (upd H3 _ _) l (.tup ((keyOf c).map V.int))) p.1 = some (.tup (p.2.map V.int)) := fun p hp => by
              rcases List.mem_cons.mp (pm'.mem_iff.mp hp) with rfl | hp
              · exact upd_same
              · exact s2 _ _ (hLt p hp)
            have z := tp p hp
            rw [upd_ne (fun e => by rw [e] at z; exact absurd (z.symm.trans (s2 _ _ hL)) (fun w => by cases w))]
            exact z
          · refine (pm'.map (·.2)).trans ?_
            rw [List.take_add_one, hcj, List.map_append]
            exact ((List.perm_append_singleton _ _).trans (pm.symm.cons _)).symm
        · obtain ⟨e3, L, hL, hLt, pm⟩ := pv
          have eq2 := fin H3 (e2.trans e3) L pm (e1.trans (e2.trans e3))
          refine ⟨D2, L, rfl, hL, fun p hp => .inl (.inl (hLt p hp)), _, rfl, a, ts.map V.ref, rfl, ?_, rfl, ?_⟩
          · exact (SqOf.sq (K := K) (H := H3) (show SqOf H3 a (ts.map V.ref) from (ha.same e1).same (e2.trans e3)))
          · rw [eq2]
            exact Q2 H3 (e2.trans e3)
end
end K7
end
/-! ## EU -/
section
namespace K7E
open PySem PySem.Spec PyProof.Rows L2
section
variable {X : Cx} {CX : CXT} {k : Nat} {f : Addr} {sp : Sp} {E : XK} {x : Str} {e : Expr} {es : List Expr} {t : TA} {p pos : Pos}
/-- x(e, ..) by a positional promise -/
theorem pe_callR0 (F : FnR X.prog X.w X.K X.mg X.base CX k f sp) (hr : Room k X.A) (hg : Gl X x) (hm : X.mg x = some (.ref f)) (hk : PySem.W.keepIn X.K (.ref f) = true) (hx : Passes CX X E) (ha : PA X (e :: es) t) (hd : (x == ("__debug__" : Str)) = false := by decide)
    (h1 : starEach (e :: es) X.env = (false, eval e X.env) :: starEach es X.env := by rfl) (h2 : (backTo pos (starEach es X.env)).any (·.1) = false := by rfl) : PE X (.Call (.Name x p) (e :: es) [] pos) (fun τ H Q => t τ H fun vs H1 => sp vs H1 Q E) := by
  refine ⟨fun pins s τ H Q I h => wpAny_Call_Name_kw (ld_glob I hg hm (PySem.W.callWith_K (h₀ := X.base) I.ok.mod.kin hk (thn (ha.run pos pins s τ H _ I h) fun us s1 ⟨vs, H1, I1, r, q⟩ => ⟨I1.kIn, ?_⟩) h1 h2) hd)⟩
  exact wpAny_call (run_fnR F hr hx I1 r q)
end
end K7E
end
/-! ## P11 -/
section
open PySem PySem.Spec PyProof.Rows L2
namespace K7
abbrev N_BadCell___init__ : List Str := ["self", "cell"]
abbrev s_BadCell___init__ : Stmt := inClass (topS 4) 0
theorem sc_BadCell___init__ : FnScope ["self", "cell"] ["self", "cell"] (defScope s_BadCell___init__) := ⟨rfl, rfl, rfl, by decide +kernel, rfl, by decide +kernel, by decide +kernel⟩
abbrev N_is_cell : List Str := ["land", "thing"]
abbrev s_is_cell : Stmt := topS 13
theorem sc_is_cell : FnScope ["land", "thing"] ["land", "thing"] (defScope s_is_cell) := ⟨rfl, rfl, rfl, by decide +kernel, rfl, by decide +kernel, by decide +kernel⟩
abbrev N_check_cells : List Str := ["land", "things", "thing"]
abbrev s_check_cells : Stmt := topS 14
theorem sc_check_cells : FnScope ["land", "things", "thing"] ["land", "things"] (defScope s_check_cells) := ⟨rfl, rfl, rfl, by decide +kernel, rfl, by decide +kernel, by decide +kernel⟩
/-! ### a land that stands, and what the top says of it -/
def landFs (n : Int) (an ar ay ac : Addr) : List (Str × V) := putF "_couples" (.ref ac) (putF "nearby" (.ref ay) (putF "roads" (.ref ar) (putF "neighbours" (.ref an) (putF "cells" (.int n) []))))
def lfields : List Str := ["cells", "neighbours", "roads", "nearby", "_couples"]
structure AdL where
  (C B iB : Addr)
structure Tl (K : PySem.W.Frag) (mg : Str → Option Value) (a : AdL) : Prop where
  gC : mg "Land" = some (.ref a.C)
  cl : Cls K a.C
  nA : ∀ f ∈ lfields, NoAttr K a.C f
  gB : mg "BadCell" = some (.ref a.B)
  oxB : OexC K a.B
  iCB : PySem.W.findIn K (.ref a.B) "__init__" = some (some (.ref a.iB))
  tIB : PySem.W.typeIn K (.ref a.iB) = some (.type "function")
  nB : PySem.W.findIn K (.ref a.B) "cell" = some none
/-- an error of the class C with one field is raised -/
def Flies (H : Hp) (C : Addr) (f : Str) (v : V) (E : XK) : Prop := ∀ H' d, Same H H' → H d = none → H' d = some (.xd [(f, v)]) → E (.ref C) (some d) H'
theorem Flies.later {H H1 : Hp} {C : Addr} {f : Str} {v : V} {E : XK} (h : Flies H C f v E) (e : Same H H1) : Flies H1 C f v E := fun H' d e' n q => h H' d (e.trans e') (e.free n) q
/-- an instance with a number of cells -/
def LandC (C : Addr) (H : Hp) (p : Addr) (n : Nat) : Prop := ∃ dx fs, H p = some (.ins C dx fs) ∧ fs.lookup ("cells" : Str) = some (V.int (n : Nat))
theorem LandC.same {C : Addr} {H H' : Hp} {p : Addr} {n : Nat} (h : LandC C H p n) (e : Same H H') : LandC C H' p n := by
  obtain ⟨dx, fs, h1, h2⟩ := h
  exact ⟨dx, fs, e _ _ h1, h2⟩
section
variable {P : Program} {w : World} {K : PySem.W.Frag} {mg : Str → Option Value} {base : Heap} {a : AdL}
def spX (C : Addr) (f : Str) : Sp := fun vs H Q _ => ∃ (e : Addr) (y : V), vs = [.ref e, y] ∧ H e = some (exo e C none) ∧ ∀ d, H d = none → d ≠ e → Q .non (upd (upd H d (exd d [(f, y)])) e (exo e C (some d)))
theorem ok_iB (T : Tl K mg a) {f : Addr} {fd : FuncData} (F : Fun K "__init__" "BadCell.__init__" s_BadCell___init__ f fd) : FnOk P w K mg base (L2.CX P w) 1 f fd ["self", "cell"] (spX a.B "cell") := by
  refine F.okX sc_BadCell___init__ (fun vs H Q E h => ?_) (fun cdv A outer s H vs Q E hr h => ?_)
  · obtain ⟨e, y, rfl, _⟩ := h
    rfl
  · obtain ⟨e, y, rfl, he, q⟩ := h
    refine ⟨_, (pss_one (ps_ost (pv 0) (pv 1))), ?_⟩
    exact ⟨y, rfl, .ref e, rfl, e, a.B, rfl, T.oxB, T.nB, .inl ⟨he, fun d hd hn => q d hd hn⟩⟩
/-- the reading of «raise X(y)» -/
theorem flies_go {H : Hp} {C : Addr} {f : Str} {y : V} {E : XK} (h : Flies H C f y E) :
    ∀ e, H e = none → spX C f (.ref e :: ([y] ++ [])) (upd H e (exo e C none)) (fun v H2 => v = .non ∧ ∃ (d : Addr) (fs : List (Str × V)), H2 e = some (exo e C (some d)) ∧ H2 d = some (exd d fs) ∧ H d = none ∧ E (.ref C) (some d) (upd (del H2 e) d (.xd fs))) (fun _ _ _ => False) := by
  intro e he
  refine ⟨e, y, rfl, upd_same, fun d hd hne => ⟨rfl, d, _, upd_same, by rw [upd_ne hne, upd_same], ?_, ?_⟩⟩
  · rw [upd_ne hne] at hd
    exact hd
  · rw [upd_ne hne] at hd
    refine h _ d (fun b o hb => ?_) hd upd_same
    have h1 : b ≠ d := ne_of_none hb hd
    have h2 : b ≠ e := ne_of_none hb he
    rw [upd_ne h1, del_ne h2, upd_ne h2, upd_ne h1, upd_ne h2]
    exact hb
/-! is_cell -/
def spIsCell (C : Addr) : Sp := fun vs H Q _ => ∃ (p : Addr) (n : Nat) (x : V), vs = [.ref p, x] ∧ LandC C H p n ∧ Thing H x ∧ Q (.bl (wholeV x 0 ((n : Nat) - 1))) H
theorem ok_iscell (T : Tl K mg a) {f fW : Addr} {fd fdW : FuncData} (F : Fun K "is_cell" "is_cell" s_is_cell f fd)
    (Giw : FnOk P w K mg base CX0 1 fW fdW ["thing", "low", "high"] spWhole) (giw : mg "is_whole" = some (.ref fW)) (kiw : PySem.W.keepIn K (.ref fW) = true) (biw : Binds K fdW ["thing", "low", "high"] []) : FnOk P w K mg base CX0 2 f fd ["land", "thing"] (spIsCell a.C) := by
  refine F.ok sc_is_cell (fun vs H Q E h => ?_) (fun cdv A outer s H vs Q E hr h => ?_)
  · obtain ⟨p, n, x, rfl, _⟩ := h
    rfl
  · obtain ⟨p, n, x, rfl, ⟨dx, fs, hp, hl⟩, hx, q⟩ := h
    refine ⟨_, (pss_one (ps_ret (pe_call Giw (hr.mono (by decide)) (by rfl) giw kiw biw .nil pass0 (pa_cons (pv 1) (pa_cons pe_int (pa_cons (pe_op op_sub (pe_fld (pv 0) rfl) pe_int) pa_nil)))))), ?_⟩
    exact ⟨_, rfl, .ref p, rfl, p, a.C, dx, fs, _, rfl, hp, T.cl, T.nA _ (by decide), hl, _, _, rfl, rfl, x, 0, _, rfl, hx, q⟩
/-! check_cells -/
def AllIn (n : Nat) (xs : List V) : Prop := ∀ x ∈ xs, wholeV x 0 ((n : Nat) - 1) = true
def spCheck (a : AdL) : Sp := fun vs H Q E => ∃ (p : Addr) (n : Nat) (xs : List V), vs = .ref p :: xs ∧ LandC a.C H p n ∧ xs.length < 64 ∧
  (((∀ x ∈ xs, Thing H x) ∧ AllIn n xs ∧ ∀ H', Same H H' → Q .non H') ∨ (∃ ys x zs, xs = ys ++ x :: zs ∧ (∀ x ∈ ys, Thing H x) ∧ AllIn n ys ∧ Thing H x ∧ wholeV x 0 ((n : Nat) - 1) = false ∧ Flies H a.B "cell" x E))
theorem ok_check (T : Tl K mg a) {f fI : Addr} {fd fdI fdB : FuncData} (F : Fun K "check_cells" "check_cells" s_check_cells f fd)
    (Gic : FnOk P w K mg base CX0 2 fI fdI ["land", "thing"] (spIsCell a.C)) (gic : mg "is_cell" = some (.ref fI)) (kic : PySem.W.keepIn K (.ref fI) = true) (bic : Binds K fdI ["land", "thing"] [])
    (FB0 : Fun K "__init__" "BadCell.__init__" s_BadCell___init__ a.iB fdB) (bB : Binds K fdB ["self", "cell"] []) : FnR P w K mg base (L2.CX P w) 4 f (spCheck a) := by
  have FB : FnOk P w K mg base (L2.CX P w) 1 a.iB fdB ["self", "cell"] (spX a.B "cell") := ok_iB T FB0
  obtain ⟨oc, od, kV, doc, pm, an, cdv, ct, osl, rfl, lk, hcd⟩ := F.ex
  have G := StX.fn_star (CX := L2.CX P w) (P := P) (w := w) (mg := mg) (base := base) (k := 3) (ps := ["land"]) (pv := "things") (sp := fun vs H Q E => ∃ (p t : Addr) (n : Nat) (xs : List V), vs = [.ref p, .ref t] ∧ H t = some (.tup xs) ∧ LandC a.C H p n ∧ xs.length < 64 ∧
    (((∀ x ∈ xs, Thing H x) ∧ AllIn n xs ∧ ∀ H', Same H H' → Q .non H') ∨ (∃ ys x zs, xs = ys ++ x :: zs ∧ (∀ x ∈ ys, Thing H x) ∧ AllIn n ys ∧ Thing H x ∧ wholeV x 0 ((n : Nat) - 1) = false ∧ Flies H a.B "cell" x E))) lk hcd sc_check_cells StX.cxUp (StX.bind_star1 (B := fun l => bindArgs (PySem.W.fnOf "check_cells" "check_cells" (defArgs s_check_cells) (defBody s_check_cells) (defScope s_check_cells) .none kV doc pm an cdv ct) ⟨l, []⟩) (p1 := "land") (pv := "things") (fun _ => rfl) fun _ _ _ => rfl) ?_
  · refine G.imp fun vs H Q E h => ?_
    obtain ⟨p, n, xs, rfl, hl, h64, hh⟩ := h
    refine ⟨[.ref p], xs, rfl, rfl, by rw [sizeLine_eq]; omega, fun t ht => ⟨p, t, n, xs, rfl, upd_same, hl.same (same_new (Same.refl H) ht), h64, ?_⟩⟩
    have e := same_new (o := .tup xs) (Same.refl H) ht
    rcases hh with ⟨h1, h2, h3⟩ | ⟨ys, x, zs, h1, h2, h3, h4, h5, h6⟩
    · exact .inl ⟨fun x hx => (h1 x hx).same e, h2, fun H' e' => h3 H' (e.trans e')⟩
    · exact .inr ⟨ys, x, zs, h1, fun x hx => (h2 x hx).same e, h3, h4.same e, h5, h6.later e⟩
  · intro A outer s H vs Q E hr h
    obtain ⟨p, t, n, xs, rfl, ht, hl, h64, hh⟩ := h
    have hrx : Room (1 + 1) _ := hr.mono (by decide)
    refine ⟨_, (pss_one (ps_for (passes_of rfl) rfl (pi_tup (pv 1)) (pg_name (i := 2) sc_check_cells.nd rfl (by first | exact Or.inl rfl | exact Or.inr rfl))
  (pss_one (ps_if (pt_not (pt_val (pe_call Gic (hr.mono (by decide)) (by rfl) gic kic bic .nil pass0 (pa_cons (pv 0) (pa_cons (pv 2) pa_nil)))))
  (pss_one (ps_raise rfl (takes_of rfl rfl rfl rfl) (pmk_oex T.oxB T.iCB T.tIB FB hrx bB .nil passL (by rfl) T.gB (pa_cons (pv 2) pa_nil))))
  pss_nil)))), ?_⟩
    refine ⟨_, rfl, t, rfl, ⟨xs, .inl (.inl ht)⟩, for_tup (xs := xs) (fun j τ H1 => H1 = H ∧ AllIn n (xs.take j) ∧ ∃ y, τ = [some (.ref p), some (.ref t), y]) ⟨rfl, fun x hx => (nomatch hx), none, rfl⟩ (fun j τ H1 _ pv => ?_) (fun j x τ H1 hx pv => ?_) (fun τ H1 pv => ?_)⟩
    · obtain ⟨rfl, _⟩ := pv
      exact .inl (.inl ht)
    · obtain ⟨rfl, al, y, rfl⟩ := pv
      have fin : ∀ b, wholeV x 0 ((n : Nat) - 1) = b → Thing H1 x ∧ (b = false → Flies H1 a.B "cell" x E) := by
        intro b hb
        rcases hh with ⟨h1, h2, h3⟩ | ⟨ys, x', zs, rfl, h2, h3, h4, h5, h6⟩
        · refine ⟨h1 x (List.mem_of_getElem? hx), fun e => ?_⟩
          rw [h2 x (List.mem_of_getElem? hx)] at hb
          rw [← hb] at e
          cases e
        · rcases Nat.lt_trichotomy j ys.length with lt | e | gt
          · rw [List.getElem?_append_left lt] at hx
            have m := List.mem_of_getElem? hx
            refine ⟨h2 x m, fun e => ?_⟩
            rw [h3 x m] at hb
            rw [← hb] at e
            cases e
          · rw [List.getElem?_append_right (by omega), e, Nat.sub_self] at hx
            obtain rfl : x' = x := Option.some.inj hx
            exact ⟨h4, fun _ => h6⟩
          · have m : x' ∈ (ys ++ x' :: zs).take j := by
              rw [List.take_append, List.take_of_length_le (by omega)]
              exact List.mem_append_right _ (by
                obtain ⟨k, hk⟩ : ∃ k, j - ys.length = k + 1 := ⟨j - ys.length - 1, by omega⟩
                rw [hk]
                exact List.mem_cons_self)
            rw [al x' m] at h5
            cases h5
      obtain ⟨hth, hfl⟩ := fin _ rfl
      refine ⟨_, rfl, _, rfl, p, n, x, rfl, hl, hth, _, rfl, ?_⟩
      cases hb : wholeV x 0 ((n : Nat) - 1) with
      | true =>
        refine iteF ⟨rfl, fun z hz => ?_, _, rfl⟩
        rw [List.take_add_one, hx] at hz
        rcases List.mem_append.mp hz with hz | hz
        · exact al z hz
        · rw [List.mem_singleton.mp hz]
          exact hb
      | false => exact iteT ⟨_, rfl, by show 1 ≤ 1000; decide, flies_go (hfl hb)⟩
    · obtain ⟨rfl, al, y, rfl⟩ := pv
      rcases hh with ⟨h1, h2, h3⟩ | ⟨ys, x', zs, rfl, h2, h3, h4, h5, h6⟩
      · exact h3 _ (Same.refl _)
      · rw [List.take_length] at al
        rw [al x' (List.mem_append_right _ List.mem_cons_self)] at h5
        cases h5
end
end K7
end
/-! ## EV -/
section
namespace K7E
open PySem PySem.Spec PyProof.Rows L2
/-- the inner range of a comprehension of two -/
theorem in_range {lo : Int} {n : Nat} {g : TG} {tt : TT} {te : TE} {vs : List Nat} {τ : L2.St} {H4 : Hp} {D : Addr} {Nx : Hp → Prop} (Pw : Nat → Hp → Prop) (h0 : Pw 0 H4)
    (hs : ∀ j H, j < n → Pw j H → g (.int (lo + j)) (wipe τ vs) H fun t3 H5 => wipe t3 vs = wipe τ vs ∧ tt t3 H5 fun b H6 => if b = true then te t3 H6 fun y H7 => ∃ acc, H7 D = some (.lst acc) ∧ acc.length < sizeLine ∧ Pw (j + 1) (upd H7 D (.lst (acc ++ [y]))) else Pw (j + 1) H6) (hd : ∀ H, Pw n H → Nx H) :
    ∃ W1 : Nat → Nat → Hp → Prop, (∃ m, W1 0 m H4) ∧ ∀ j k H, W1 j k H → ((Itr lo n).stop j H ∧ Nx H) ∨ ((Itr lo n).go j H ∧ ∃ N1 : Hp → Prop, (∀ H', N1 H' → ∃ k', k' < k ∧ W1 (j + 1) k' H') ∧
      ∀ x H', (Itr lo n).yld j H x H' → g x (wipe τ vs) H' fun t3 H5 => wipe t3 vs = wipe τ vs ∧ tt t3 H5 fun b H6 => if b = true then te t3 H6 fun y H7 => ∃ acc, H7 D = some (.lst acc) ∧ acc.length < sizeLine ∧ N1 (upd H7 D (.lst (acc ++ [y]))) else N1 H6) := by
  refine ⟨fun j k H => k + j = n ∧ Pw j H, ⟨n, rfl, h0⟩, fun j k H z => ?_⟩
  obtain ⟨hk, p⟩ := z
  rcases Nat.lt_or_ge j n with lt | ge
  · refine .inr ⟨lt, Pw (j + 1), fun H' p' => ⟨k - 1, by omega, by omega, p'⟩, fun x H' y => ?_⟩
    obtain ⟨rfl, rfl⟩ := y
    exact hs j _ lt p
  · obtain rfl : j = n := by omega
    exact .inl ⟨Nat.le_refl _, hd H p⟩
/-- the outer one -/
theorem out_range {lo : Int} {n : Nat} {g : TG} {tt : TT} {inner : (Hp → Prop) → L2.St → Hp → Prop} {vs : List Nat} {τ : L2.St} {H1 : Hp} {D : Addr} {Qd : Hp → Prop} (Pv : Nat → Hp → Prop) (h0 : Pv 0 (upd H1 D (.lst [])))
    (hs : ∀ i H, i < n → Pv i H → g (.int (lo + i)) (wipe τ vs) H fun t2 H2 => wipe t2 vs = wipe τ vs ∧ tt t2 H2 fun b H3 => if b = true then inner (Pv (i + 1)) t2 H3 else Pv (i + 1) H3) (hd : ∀ H, Pv n H → Qd H) :
    ∃ W : Nat → Nat → Hp → Prop, (∃ m, W 0 m (upd H1 D (.lst []))) ∧ ∀ i m H, W i m H → ((Itr lo n).stop i H ∧ Qd H) ∨ ((Itr lo n).go i H ∧ ∃ Nx : Hp → Prop, (∀ H', Nx H' → ∃ m', m' < m ∧ W (i + 1) m' H') ∧
      ∀ x H', (Itr lo n).yld i H x H' → g x (wipe τ vs) H' fun t2 H2 => wipe t2 vs = wipe τ vs ∧ tt t2 H2 fun b H3 => if b = true then inner Nx t2 H3 else Nx H3) := by
  refine ⟨fun i m H => m + i = n ∧ Pv i H, ⟨n, rfl, h0⟩, fun i m H z => ?_⟩
  obtain ⟨hm, p⟩ := z
  rcases Nat.lt_or_ge i n with lt | ge
  · refine .inr ⟨lt, Pv (i + 1), fun H' p' => ⟨m - 1, by omega, by omega, p'⟩, fun x H' y => ?_⟩
    obtain ⟨rfl, rfl⟩ := y
    exact hs i _ lt p
  · obtain rfl : i = n := by omega
    exact .inl ⟨Nat.le_refl _, hd H p⟩
end K7E
end
/-! ## P12 -/
section
open PySem PySem.Spec PyProof.Rows L2
namespace K7
abbrev N_Land___init__ : List Str := ["self", "cells", "neighbours", "roads", "couples", "couple", "a", "b"]
abbrev s_Land___init__ : Stmt := inClass (topS 19) 0
theorem sc_Land___init__ : FnScope ["self", "cells", "neighbours", "roads", "couples", "couple", "a", "b"] ["self", "cells", "neighbours", "roads"] (defScope s_Land___init__) := ⟨rfl, rfl, rfl, by decide +kernel, rfl, by decide +kernel, by decide +kernel⟩
/-! ### a land is made -/
structure LandO (C : Addr) (H : Hp) (p : Addr) (n : Nat) (es : List (Nat × Nat)) (rd : List Nat) : Prop where
  at_ : ∃ dx an ar ay ac tn ty tc, H p = some (.ins C dx (landFs (n : Nat) an ar ay ac)) ∧ H an = some (.tup (tn.map V.ref)) ∧ TAt H tn (pairs es) ∧ H ar = some (.tup (ints_ rd)) ∧ H ay = some (.tup (ty.map V.ref)) ∧ TAt H ty (nearV n es) ∧ H ac = some (.tup (tc.map V.ref)) ∧ TAt H tc (pairs (KL.allC n))
  n2 : 2 ≤ n
  n5 : n ≤ 5
  ok : LandOk n es
  rlt : ∀ c ∈ rd, c < n
  rnd : rd.Nodup
  rso : rd.Pairwise (· ≤ ·)
  r0 : 0 < rd.length
  rn : rd.length < n
theorem LandO.same {C : Addr} {H H' : Hp} {p : Addr} {n : Nat} {es : List (Nat × Nat)} {rd : List Nat} (h : LandO C H p n es rd) (e : Same H H') : LandO C H' p n es rd := by
  obtain ⟨dx, an, ar, ay, ac, tn, ty, tc, h1, h2, h3, h4, h5, h6, h7, h8⟩ := h.at_
  exact ⟨⟨dx, an, ar, ay, ac, tn, ty, tc, e _ _ h1, e _ _ h2, h3.same e, e _ _ h4, e _ _ h5, h6.same e, e _ _ h7, h8.same e⟩, h.n2, h.n5, h.ok, h.rlt, h.rnd, h.rso, h.r0, h.rn⟩
theorem LandO.c {C : Addr} {H : Hp} {p : Addr} {n : Nat} {es : List (Nat × Nat)} {rd : List Nat} (h : LandO C H p n es rd) : LandC C H p n := by
  obtain ⟨dx, an, ar, ay, ac, tn, ty, tc, h1, _⟩ := h.at_
  exact ⟨dx, _, h1, rfl⟩
/-- a land is written while an object is made: what is not an instance stays -/
theorem keepNI {C dx x : Addr} {fs : List (Str × V)} {H : Hp} (hx : H x = some (.ins C dx fs)) {b : Addr} {o o' : HO} (hb : H b = some o) (no : ∀ C dx fs, o ≠ .ins C dx fs) : upd H x o' b = some o := by
  rw [upd_ne (fun e => by rw [e, hx] at hb; exact no _ _ _ (Option.some.inj hb).symm)]
  exact hb
theorem cells_lot {n : Nat} {lot : List Nat} (h1 : ∀ c ∈ lot, c < n) (h2 : lot.Nodup) (h3 : 0 < lot.length) : cellsV (n : Nat) (ints_ lot) 1 = true := by
  unfold cellsV
  have e1 : (ints_ lot).all (fun x => wholeV x 0 (((n : Nat) : Int) - 1)) = true := by
    refine List.all_eq_true.mpr fun x hx => ?_
    obtain ⟨c, hc, rfl⟩ := List.mem_map.mp hx
    have := h1 c hc
    rw [wholeV_int, decide_eq_true (by omega), decide_eq_true (by omega)]
    rfl
  have e2 : ((ints_ lot).map intOf).Nodup := by
    unfold ints_
    rw [List.map_map, List.nodup_iff_pairwise_ne, List.pairwise_map]
    refine (List.nodup_iff_pairwise_ne.mp h2).imp fun {a b} ne e => ne ?_
    have e : ((a : Nat) : Int) = ((b : Nat) : Int) := e
    omega
  have e3 : (ints_ lot).length = lot.length := List.length_map ..
  rw [e1, decide_eq_true e2, e3, decide_eq_true (by omega)]
  rfl
theorem ints_back {ms : List Int} {lot : List Nat} (p : ms.Perm (lot.map fun c => ((c : Nat) : Int))) : ms = (ms.map Int.toNat).map fun c => ((c : Nat) : Int) := by
  rw [List.map_map]
  refine (List.map_id ms).symm.trans (List.map_congr_left fun x hx => ?_)
  obtain ⟨c, _, rfl⟩ := List.mem_map.mp (p.mem_iff.mp hx)
  rfl
/-- one more couple of the comprehension of all of them -/
def rowC (n i j : Nat) : List (Nat × Nat) := ((List.range j).filter fun b => decide (i ≠ b)).map fun b => (i, b)
def upC (n i : Nat) : List (Nat × Nat) := (List.range i).flatMap fun a => rowC n a n
theorem upC_succ (n i : Nat) : upC n (i + 1) = upC n i ++ rowC n i n := by
  unfold upC
  rw [List.range_succ, List.flatMap_append, List.flatMap_cons, List.flatMap_nil, List.append_nil]
theorem rowC_succ (n i j : Nat) : rowC n i (j + 1) = rowC n i j ++ (if i ≠ j then [(i, j)] else []) := by
  unfold rowC
  rw [range_filter, List.map_append]
  by_cases h : i = j
  · rw [if_neg (by rw [decide_eq_false (by simpa using h)]; decide), if_neg (by simpa using h)]
    rfl
  · rw [if_pos (decide_eq_true h), if_pos h]
    rfl
theorem rowC_len (n i j : Nat) : (rowC n i j).length ≤ j := by
  unfold rowC
  rw [List.length_map]
  exact Nat.le_trans (List.length_filter_le _ _) (by rw [List.length_range]; exact Nat.le_refl _)
theorem upC_len (n : Nat) : ∀ i, (upC n i).length ≤ i * n
  | 0 => Nat.zero_le _
  | i + 1 => by
    rw [upC_succ, List.length_append, Nat.succ_mul]
    exact Nat.add_le_add (upC_len n i) (rowC_len n i n)
theorem SqOf.ni {C dx x : Addr} {fs : List (Str × V)} {H : Hp} (hx : H x = some (.ins C dx fs)) {b : Addr} {xs : List V} (h : SqOf H b xs) (o' : HO) : SqOf (upd H x o') b xs :=
  h.imp (fun z => keepNI hx z fun _ _ _ e => by cases e) fun z => keepNI hx z fun _ _ _ e => by cases e
theorem TAt.ni {C dx x : Addr} {fs : List (Str × V)} {H : Hp} (hx : H x = some (.ins C dx fs)) {ts : List Addr} {ls : List (List Nat)} (h : TAt H ts ls) (o' : HO) : TAt (upd H x o') ts ls := h.mono fun b xs hb => keepNI hx hb fun _ _ _ e => by cases e
theorem But.put {x : Addr} {H H' : Hp} (h : But x H H') (o : HO) : But x H (upd H' x o) := fun b o' nb hb => by rw [upd_ne nb]; exact h b o' nb hb
theorem But.new {x p : Addr} {H H' : Hp} (h : But x H H') (np : H' p = none) (o : HO) : But x H (upd H' p o) := fun b o' nb hb => by
  have z := h b o' nb hb
  rw [upd_ne (ne_of_none z np)]
  exact z
theorem But.same {x : Addr} {H H' H'' : Hp} (h : But x H H') (e : Same H' H'') : But x H H'' := fun b o nb hb => e _ _ (h b o nb hb)
theorem iteTo {c : Prop} [Decidable c] {p q : Prop} (h : c) (x : p) : if c then p else q := by rw [if_pos h]; exact x
theorem iteFo {b : Bool} {p q : Prop} (h : b = false) (x : q) : if b = true then p else q := by rw [h]; exact x
theorem ints_map (lot : List Nat) : ints_ lot = (lot.map fun c => ((c : Nat) : Int)).map V.int := by
  unfold ints_
  rw [List.map_map]
  rfl
section
variable {P : Program} {w : World} {K : PySem.W.Frag} {mg : Str → Option Value} {base : Heap} {a : AdL}
def spLandI (a : AdL) : Sp := fun vs H Q _ => ∃ (x dx : Addr) (n : Nat) (an : Addr) (ts : List Addr) (cs : List (Nat × Nat)) (ar : Addr) (lot : List Nat), vs = [.ref x, .int (n : Nat), .ref an, .ref ar] ∧ H x = some (.ins a.C dx []) ∧ 2 ≤ n ∧ n ≤ 5 ∧
  SqOf H an (ts.map V.ref) ∧ CoAll H ts cs ∧ Cos n cs ∧ KL.Conn n cs ∧ SqOf H ar (ints_ lot) ∧ (∀ c ∈ lot, c < n) ∧ lot.Nodup ∧ 0 < lot.length ∧ lot.length < n ∧
  ∀ H' es rd, But x H H' → LandO a.C H' x n es rd → es.Perm (cs.map KL.srt) → rd.Perm lot → Q .non H'
theorem ok_landI (T : Tl K mg a) {tM : Tok} (gM : mg "MOST_CELLS" = some (.int 5 tM)) {f fW fB fC fH fN : Addr} {fd fdW fdB fdC fdH fdN : FuncData} (F : Fun K "__init__" "Land.__init__" s_Land___init__ f fd)
    (Giw : FnOk P w K mg base CX0 1 fW fdW ["thing", "low", "high"] spWhole) (giw : mg "is_whole" = some (.ref fW)) (kiw : PySem.W.keepIn K (.ref fW) = true) (biw : Binds K fdW ["thing", "low", "high"] [])
    (Gnb : FnOk P w K mg base CX0 4 fB fdB ["cells", "thing"] spNbrs) (gnb : mg "_are_neighbours" = some (.ref fB)) (knb : PySem.W.keepIn K (.ref fB) = true) (bnb : Binds K fdB ["cells", "thing"] [])
    (Gac : FnOk P w K mg base CX0 2 fC fdC ["many", "thing", "least"] (spCells K)) (gac : mg "are_cells" = some (.ref fC)) (kac : PySem.W.keepIn K (.ref fC) = true) (bac : Binds K fdC ["many", "thing", "least"] [])
    (Ght : FnOk P w K mg base CX0 2 fH fdH ["cells", "couples"] spHang) (ght : mg "hang_together" = some (.ref fH)) (kht : PySem.W.keepIn K (.ref fH) = true) (bht : Binds K fdH ["cells", "couples"] [])
    (Gnc : FnOk P w K mg base CX0 1 fN fdN ["cells", "couples"] spNear) (gnc : mg "nearby_cells" = some (.ref fN)) (knc : PySem.W.keepIn K (.ref fN) = true) (bnc : Binds K fdN ["cells", "couples"] [])
    (m_len : mg "len" = none) (m_sorted : mg "sorted" = none) (m_tuple : mg "tuple" = none) (m_range : mg "range" = none) : FnOk P w K mg base CX0 5 f fd ["self", "cells", "neighbours", "roads"] (spLandI a) := by
  refine F.ok sc_Land___init__ (fun vs H Q E h => ?_) (fun cdv A outer s H vs Q E hr h => ?_)
  · obtain ⟨x, dx, n, an, ts, cs, ar, lot, rfl, _⟩ := h
    rfl
  · obtain ⟨x, dx, n, an, ts, cs, ar, lot, rfl, hx, n2, n5, han, hT, hc, cn, har, llt, lnd, l0, ln, q⟩ := h
    refine ⟨_, (pss_cons (ps_if (pt_not (pt_val (pe_call Giw (hr.mono (by decide)) (by rfl) giw kiw biw .nil pass0 (pa_cons (pv 1) (pa_cons pe_int (pa_cons (pe_glob (v := .int 5) rfl gM ⟨_, rfl⟩) pa_nil))))))
  (pss_one ps_never)
  pss_nil)
 (pss_cons (ps_if (pt_not (pt_val (pe_call Gnb (hr.mono (by decide)) (by rfl) gnb knb bnb .nil pass0 (pa_cons (pv 1) (pa_cons (pv 2) pa_nil)))))
  (pss_one ps_never)
  pss_nil)
 (pss_cons (ps_if (pw_or (pt_not (pt_val (pe_call Gac (hr.mono (by decide)) (by rfl) gac kac bac .nil pass0 (pa_cons (pv 1) (pa_cons (pv 3) (pa_cons pe_int pa_nil)))))) (pw_or1 (pt_cmpR op_eq (pe_callB call_len_seq (by rfl) m_len boot_len (pa_cons (pv 3) pa_nil)) (pv 1) (nomark _)))).pt
  (pss_one ps_never)
  pss_nil)
 (Evl.pss_cut (ps_set (i := 4) sc_Land___init__.nd rfl (by first | exact Or.inl rfl | exact Or.inr rfl) (pe_callB cr_sortedPO (by rfl) m_sorted boot_sorted (pa_cons (pe_lc (own := [("couple", 5)]) (g := gName 5) (tt := tYes) rfl sc_Land___init__.nd (K7E.pi_either (pi_tup (pv 2)) (pi_list (pv 2))) (blkOk_by (own := [("couple", 5)]) (N := N_Land___init__) (sc := defScope s_Land___init__) (by decide +kernel)) (fun _ _ _ _ _ => (pg_name (i := 5) sc_Land___init__.nd rfl (by first | exact Or.inl rfl | exact Or.inr rfl))) (fun _ _ _ _ _ => pts_nil) (fun _ _ _ _ _ => (pe_callTy (show CallR _ (.type "tuple") (rTup_ K) from call_tuple_of) (by rfl) m_tuple boot_tuple (pa_cons (pe_callB (show CallR _ (.builtin "sorted") (K7S.rSortA K) from K7S.cr_sortA) (by rfl) m_sorted boot_sorted (pa_cons (pv 5) pa_nil)) pa_nil)))) pa_nil)))
 (pss_cons (ps_if (pt_not (pt_val (pe_call Ght (hr.mono (by decide)) (by rfl) ght kht bht .nil pass0 (pa_cons (pv 1) (pa_cons (pv 4) pa_nil)))))
  (pss_one ps_never)
  pss_nil)
 (pss_cons (ps_fld (pv 0) (pv 1) rfl)
 (pss_cons (ps_fld (pv 0) (pe_callTy call_tuple_of (by rfl) m_tuple boot_tuple (pa_cons (pv 4) pa_nil)) rfl)
 (pss_cons (ps_fld (pv 0) (pe_callTy call_tuple_of (by rfl) m_tuple boot_tuple (pa_cons (pe_callB K7S.cr_sortA (by rfl) m_sorted boot_sorted (pa_cons (pv 3) pa_nil)) pa_nil)) rfl)
 (pss_cons (ps_fld (pv 0) (pe_call Gnc (hr.mono (by decide)) (by rfl) gnc knc bnc .nil pass0 (pa_cons (pv 1) (pa_cons (pv 4) pa_nil))) rfl)
 (pss_one (ps_fld (pv 0) (pe_callTy call_tuple_of (by rfl) m_tuple boot_tuple (pa_cons (pe_lc2 (own := [("a", 6), ("b", 7)]) (vs1 := [7]) (g := gName 6) (g1 := gName 7) (tt := tYes) rfl sc_Land___init__.nd (pi_range1 rfl m_range (pa_cons (pv 1) pa_nil)) (blkOk_by (own := [("a", 6), ("b", 7)]) (N := N_Land___init__) (sc := defScope s_Land___init__) (by decide +kernel)) (by decide) (fun _ _ _ _ _ => (pg_name (i := 6) sc_Land___init__.nd rfl (by first | exact Or.inl rfl | exact Or.inr rfl))) (fun _ _ _ _ _ => pts_nil) (fun _ _ _ _ _ => (pi_range1 rfl m_range (pa_cons (pv 1) pa_nil))) (fun _ _ _ _ _ => (pg_name (i := 7) sc_Land___init__.nd rfl (by first | exact Or.inl rfl | exact Or.inr rfl))) (fun _ _ _ _ _ => (pts_one (pt_cmpR op_ne (pv 6) (pv 7) (nomark _)))) (fun _ _ _ _ _ => (pe_tup (pa_cons (pv 6) (pa_cons (pv 7) pa_nil))))) pa_nil)) rfl))))))))))), ?_⟩
    have hl : ts.length = cs.length := hT.1
    have h32 := hc.len
    have lilen : (ints_ lot).length = lot.length := List.length_map ..
    refine ⟨_, rfl, .int (n : Nat), 2, 5, rfl, .flat (.int _), _, rfl, ?_⟩
    rw [wholeV_int, decide_eq_true (by omega), decide_eq_true (by omega)]
    refine iteF ?_
    refine ⟨_, rfl, _, rfl, n, an, ts, cs, rfl, han, hT, hc, fun H1 e1 => ⟨_, rfl, iteF ?_⟩⟩
    refine ⟨_, rfl, _, rfl, n, .ref ar, 1, rfl, .inr ⟨ar, ints_ lot, rfl, har.same e1, fun y hy => ?_, by rw [lilen]; omega, fun H2 e2 => ?_⟩⟩
    · obtain ⟨k, _, rfl⟩ := List.mem_map.mp hy
      exact .flat (.int _)
    rw [cells_lot llt lnd l0]
    have e02 := e1.trans e2
    refine ⟨_, rfl, _, rfl, ar, ints_ lot, rfl, (har.same e02).sq, _, rfl, rfl, _, rfl, ?_⟩
    rw [lilen, decide_eq_false (fun e => by injection e with e; omega)]
    refine iteF ?_
    have han2 := han.same e02
    have hT2 := hT.same e02
    -- the couples, in order
    refine ⟨fun σ' H' => ∃ p us es y5 y6 y7, σ' = [some (.ref x), some (.int (n : Nat)), some (.ref an), some (.ref ar), some (.ref p), y5, y6, y7] ∧ Same H H' ∧ H' p = some (.lst (us.map V.ref)) ∧ TAt H' us (pairs es) ∧ LandOk n es ∧ es.Perm (cs.map KL.srt), ?_, fun σ' H' hM => ?_⟩
    · rcases han2 with z | z
      · refine .inl ⟨_, rfl, an, rfl, ⟨_, .inl (.inl z)⟩, fun D hD => lc_tup (xs := ts.map V.ref) (fun j H3 => Same H2 H3 ∧ ∃ us, H3 D = some (.lst (us.map V.ref)) ∧ TAt H3 us (pairs ((cs.take j).map KL.srt)) ∧ us.length ≤ j) ⟨same_new (Same.refl H2) hD, [], upd_same, .nil, Nat.le_refl _⟩ (fun j H3 _ pv => .inl (.inl (pv.1 _ _ z))) (fun j y H3 hy pv => ?_) (fun H3 pv => ?_)⟩
        · obtain ⟨e3, us, hD3, tD, lu⟩ := pv
          rw [List.getElem?_map] at hy
          obtain ⟨t', ht', rfl⟩ := Option.map_eq_some_iff.mp hy
          have hj : j < cs.length := by rw [← hl]; exact (List.getElem?_eq_some_iff.mp ht').1
          have hco := (hT2.2 j t' _ ht' (List.getElem?_eq_getElem hj)).same e3
          refine ⟨rfl, _, rfl, t', [(cs[j].1 : Int), (cs[j].2 : Int)], rfl, hco.sq, by show 2 < 64; decide, fun ms p pm so np => ?_⟩
          have em := KL.two_sorted pm so
          subst em
          refine ⟨p, _, rfl, .inl ⟨.inl (.inl upd_same), fun l nl => ?_⟩⟩
          have s1 := same_new (o := .lst ([((min cs[j].1 cs[j].2 : Nat) : Int), ((max cs[j].1 cs[j].2 : Nat) : Int)].map V.int)) (Same.refl H3) np
          have s2 := same_new (o := .tup ([((min cs[j].1 cs[j].2 : Nat) : Int), ((max cs[j].1 cs[j].2 : Nat) : Int)].map V.int)) s1 nl
          have hD4 := s2 _ _ hD3
          refine ⟨_, hD4, by rw [List.length_map]; exact small1000 (by omega), fun b o hb => ?_, us ++ [l], by rw [upd_same, List.map_append]; rfl, ?_, by rw [List.length_append, List.length_singleton]; omega⟩
          · rw [upd_ne (ne_of_none hb hD)]
            exact s2 _ _ (e3 _ _ hb)
          · rw [List.take_add_one, List.getElem?_eq_getElem hj, List.map_append]
            unfold pairs
            rw [List.map_append]
            have up : ∀ b xs, upd (upd H3 p (.lst ([((min cs[j].1 cs[j].2 : Nat) : Int), ((max cs[j].1 cs[j].2 : Nat) : Int)].map V.int))) l (.tup ([((min cs[j].1 cs[j].2 : Nat) : Int), ((max cs[j].1 cs[j].2 : Nat) : Int)].map V.int)) b = some (.tup xs) → upd (upd (upd H3 p (.lst ([((min cs[j].1 cs[j].2 : Nat) : Int), ((max cs[j].1 cs[j].2 : Nat) : Int)].map V.int))) l (.tup ([((min cs[j].1 cs[j].2 : Nat) : Int), ((max cs[j].1 cs[j].2 : Nat) : Int)].map V.int))) D (.lst (us.map V.ref ++ [.ref l])) b = some (.tup xs) := fun b xs hb => by
              rw [upd_ne (fun e => by rw [e, hD4] at hb; cases hb)]
              exact hb
            exact ((tD.same s2).mono up).append (.cons (up _ _ upd_same) .nil)
        · obtain ⟨e3, us, hD3, tD, lu⟩ := pv
          rw [List.length_map, hl, List.take_length] at tD
          refine ⟨D, us.map V.ref, kfOf H3, rfl, .inl (.inl hD3), fun y hy => ?_, fun ys p srt stb np => ?_⟩
          · obtain ⟨b, e, rfl, hb⟩ := g_mem tD y hy
            exact ⟨b, rfl, by rw [kf_at hb]; exact hb⟩
          · have hys := fun y (hy : y ∈ ys) => g_mem tD y (stb.perm.mem_iff.mp hy)
            obtain ⟨us', rfl, tY⟩ := tat_of ys hys
            have pe : ((us'.map V.ref).map (gOf H3)).Perm (cs.map KL.srt) := by
              have z := stb.perm.map (gOf H3)
              rw [g_map tD] at z
              exact z
            have s4 := same_new (o := .lst (us'.map V.ref)) (Same.refl H3) np
            refine ⟨p, us', _, _, _, _, rfl, e02.trans (e3.trans s4), upd_same, tY.same s4, ⟨fun e he => ?_, pe.nodup_iff.mpr hc.nd, sorted_of _ hys srt, KL.conn_srt cn pe⟩, pe⟩
            obtain ⟨c, hcm, rfl⟩ := List.mem_map.mp (pe.mem_iff.mp he)
            obtain ⟨c1, c2, c3⟩ := hc.lt c hcm
            refine ⟨KL.srt_lt c3, ?_⟩
            unfold KL.srt
            simp only
            omega
      · refine .inr ⟨_, rfl, an, rfl, ⟨_, .inl (.inl z)⟩, fun D hD => lc_list (xs := ts.map V.ref) (fun j H3 => Same H2 H3 ∧ ∃ us, H3 D = some (.lst (us.map V.ref)) ∧ TAt H3 us (pairs ((cs.take j).map KL.srt)) ∧ us.length ≤ j) ⟨same_new (Same.refl H2) hD, [], upd_same, .nil, Nat.le_refl _⟩ (fun j H3 _ pv => .inl (.inl (pv.1 _ _ z))) (fun j y H3 hy pv => ?_) (fun H3 pv => ?_)⟩
        · obtain ⟨e3, us, hD3, tD, lu⟩ := pv
          rw [List.getElem?_map] at hy
          obtain ⟨t', ht', rfl⟩ := Option.map_eq_some_iff.mp hy
          have hj : j < cs.length := by rw [← hl]; exact (List.getElem?_eq_some_iff.mp ht').1
          have hco := (hT2.2 j t' _ ht' (List.getElem?_eq_getElem hj)).same e3
          refine ⟨rfl, _, rfl, t', [(cs[j].1 : Int), (cs[j].2 : Int)], rfl, hco.sq, by show 2 < 64; decide, fun ms p pm so np => ?_⟩
          have em := KL.two_sorted pm so
          subst em
          refine ⟨p, _, rfl, .inl ⟨.inl (.inl upd_same), fun l nl => ?_⟩⟩
          have s1 := same_new (o := .lst ([((min cs[j].1 cs[j].2 : Nat) : Int), ((max cs[j].1 cs[j].2 : Nat) : Int)].map V.int)) (Same.refl H3) np
          have s2 := same_new (o := .tup ([((min cs[j].1 cs[j].2 : Nat) : Int), ((max cs[j].1 cs[j].2 : Nat) : Int)].map V.int)) s1 nl
          have hD4 := s2 _ _ hD3
          refine ⟨_, hD4, by rw [List.length_map]; exact small1000 (by omega), fun b o hb => ?_, us ++ [l], by rw [upd_same, List.map_append]; rfl, ?_, by rw [List.length_append, List.length_singleton]; omega⟩
          · rw [upd_ne (ne_of_none hb hD)]
            exact s2 _ _ (e3 _ _ hb)
          · rw [List.take_add_one, List.getElem?_eq_getElem hj, List.map_append]
            unfold pairs
            rw [List.map_append]
            have up : ∀ b xs, upd (upd H3 p (.lst ([((min cs[j].1 cs[j].2 : Nat) : Int), ((max cs[j].1 cs[j].2 : Nat) : Int)].map V.int))) l (.tup ([((min cs[j].1 cs[j].2 : Nat) : Int), ((max cs[j].1 cs[j].2 : Nat) : Int)].map V.int)) b = some (.tup xs) → upd (upd (upd H3 p (.lst ([((min cs[j].1 cs[j].2 : Nat) : Int), ((max cs[j].1 cs[j].2 : Nat) : Int)].map V.int))) l (.tup ([((min cs[j].1 cs[j].2 : Nat) : Int), ((max cs[j].1 cs[j].2 : Nat) : Int)].map V.int))) D (.lst (us.map V.ref ++ [.ref l])) b = some (.tup xs) := fun b xs hb => by
              rw [upd_ne (fun e => by rw [e, hD4] at hb; cases hb)]
              exact hb
            exact ((tD.same s2).mono up).append (.cons (up _ _ upd_same) .nil)
        · obtain ⟨e3, us, hD3, tD, lu⟩ := pv
          rw [List.length_map, hl, List.take_length] at tD
          refine ⟨D, us.map V.ref, kfOf H3, rfl, .inl (.inl hD3), fun y hy => ?_, fun ys p srt stb np => ?_⟩
          · obtain ⟨b, e, rfl, hb⟩ := g_mem tD y hy
            exact ⟨b, rfl, by rw [kf_at hb]; exact hb⟩
          · have hys := fun y (hy : y ∈ ys) => g_mem tD y (stb.perm.mem_iff.mp hy)
            obtain ⟨us', rfl, tY⟩ := tat_of ys hys
            have pe : ((us'.map V.ref).map (gOf H3)).Perm (cs.map KL.srt) := by
              have z := stb.perm.map (gOf H3)
              rw [g_map tD] at z
              exact z
            have s4 := same_new (o := .lst (us'.map V.ref)) (Same.refl H3) np
            refine ⟨p, us', _, _, _, _, rfl, e02.trans (e3.trans s4), upd_same, tY.same s4, ⟨fun e he => ?_, pe.nodup_iff.mpr hc.nd, sorted_of _ hys srt, KL.conn_srt cn pe⟩, pe⟩
            obtain ⟨c, hcm, rfl⟩ := List.mem_map.mp (pe.mem_iff.mp he)
            obtain ⟨c1, c2, c3⟩ := hc.lt c hcm
            refine ⟨KL.srt_lt c3, ?_⟩
            unfold KL.srt
            simp only
            omega
    · obtain ⟨p, us, es, y5, y6, y7, rfl, eM, hp, tU, ok, pe⟩ := hM
      have esl : es.length = cs.length := by rw [pe.length_eq, List.length_map]
      refine ⟨_, rfl, _, rfl, n, p, us, es, rfl, by omega, n5, hp, tU, by omega, fun e he => ?_, ok.conn, fun H5 e5 => ⟨_, rfl, iteF ?_⟩⟩
      · obtain ⟨l1, l2⟩ := ok.lt e he
        exact ⟨by omega, l2⟩
      have b5 : But x H H5 := fun b o _ hb => e5 _ _ (eM _ _ hb)
      have hx5 := e5 _ _ (eM _ _ hx)
      have hp5 := e5 _ _ hp
      have tU5 := tU.same e5
      have har5 := (har.same eM).same e5
      -- cells
      refine ⟨_, rfl, _, rfl, x, a.C, dx, _, rfl, hx5, T.cl, T.nA _ (by decide), by show 0 < 1000; decide, ?_⟩
      have b6 := b5.put (.ins a.C dx (putF "cells" (.int (n : Nat)) []))
      have hx6 : upd H5 x (.ins a.C dx (putF "cells" (.int (n : Nat)) [])) x = _ := upd_same
      have hp6 := keepNI (o' := .ins a.C dx (putF "cells" (.int (n : Nat)) [])) hx5 hp5 fun _ _ _ e => by cases e
      have tU6 := tU5.ni hx5 (.ins a.C dx (putF "cells" (.int (n : Nat)) []))
      have har6 := har5.ni hx5 (.ins a.C dx (putF "cells" (.int (n : Nat)) []))
      generalize upd H5 x (.ins a.C dx (putF "cells" (.int (n : Nat)) [])) = H6 at b6 hx6 hp6 tU6 har6 ⊢
      -- neighbours
      refine ⟨_, rfl, p, us.map V.ref, rfl, .inl ⟨.inl (.inl hp6), fun tn ntn => ?_⟩⟩
      have s7 := same_new (o := .tup (us.map V.ref)) (Same.refl H6) ntn
      have b7 := b6.same s7
      have hx7 := s7 _ _ hx6
      refine ⟨_, rfl, x, a.C, dx, _, rfl, hx7, T.cl, T.nA _ (by decide), by show 1 < 1000; decide, ?_⟩
      have b8 := b7.put (.ins a.C dx (putF "neighbours" (.ref tn) (putF "cells" (.int (n : Nat)) [])))
      have hx8 : upd (upd H6 tn (.tup (us.map V.ref))) x (.ins a.C dx (putF "neighbours" (.ref tn) (putF "cells" (.int (n : Nat)) []))) x = _ := upd_same
      have hp8 := keepNI (o' := .ins a.C dx (putF "neighbours" (.ref tn) (putF "cells" (.int (n : Nat)) []))) hx7 (s7 _ _ hp6) fun _ _ _ e => by cases e
      have tU8 := (tU6.same s7).ni hx7 (.ins a.C dx (putF "neighbours" (.ref tn) (putF "cells" (.int (n : Nat)) [])))
      have har8 := (har6.same s7).ni hx7 (.ins a.C dx (putF "neighbours" (.ref tn) (putF "cells" (.int (n : Nat)) [])))
      have hn8 := keepNI (o' := .ins a.C dx (putF "neighbours" (.ref tn) (putF "cells" (.int (n : Nat)) []))) hx7 (show upd H6 tn (.tup (us.map V.ref)) tn = _ from upd_same) fun _ _ _ e => by cases e
      generalize upd (upd H6 tn (.tup (us.map V.ref))) x (.ins a.C dx (putF "neighbours" (.ref tn) (putF "cells" (.int (n : Nat)) []))) = H8 at b8 hx8 hp8 tU8 har8 hn8 ⊢
      -- roads
      have harI : SqOf H8 ar ((lot.map fun c => ((c : Nat) : Int)).map V.int) := by rw [← ints_map]; exact har8
      refine ⟨_, rfl, ar, lot.map fun c => ((c : Nat) : Int), rfl, harI.sq, by rw [List.length_map]; omega, fun ms pl pm so npl => ⟨pl, _, rfl, .inl ⟨.inl (.inl upd_same), fun tr ntr => ?_⟩⟩⟩
      have ems := ints_back pm
      have e12 : ms.map V.int = ints_ (ms.map Int.toNat) := by rw [ints_map, ← ems]
      rw [e12] at ntr ⊢
      have prd : (ms.map Int.toNat).Perm lot := by
        have z := pm.map Int.toNat
        rw [List.map_map] at z
        exact z.trans (List.Perm.of_eq ((List.map_congr_left fun c _ => rfl).trans (List.map_id lot)))
      have srd : (ms.map Int.toNat).Pairwise (· ≤ ·) := by
        rw [List.pairwise_map]
        exact so.imp fun {a b} h => by omega
      generalize ms.map Int.toNat = rd at prd srd ntr ⊢
      have s9 := same_new (o := .lst (ints_ rd)) (Same.refl H8) npl
      have s10 := same_new (o := .tup (ints_ rd)) s9 ntr
      have hr10 : upd (upd H8 pl (.lst (ints_ rd))) tr (.tup (ints_ rd)) tr = some (.tup (ints_ rd)) := upd_same
      generalize upd (upd H8 pl (.lst (ints_ rd))) tr (.tup (ints_ rd)) = H10 at s10 hr10 ⊢
      have hx10 := s10 _ _ hx8
      refine ⟨_, rfl, x, a.C, dx, _, rfl, hx10, T.cl, T.nA _ (by decide), by show 2 < 1000; decide, ?_⟩
      have b11 := (b8.same s10).put (.ins a.C dx (putF "roads" (.ref tr) (putF "neighbours" (.ref tn) (putF "cells" (.int (n : Nat)) []))))
      have hx11 : upd H10 x (.ins a.C dx (putF "roads" (.ref tr) (putF "neighbours" (.ref tn) (putF "cells" (.int (n : Nat)) [])))) x = _ := upd_same
      have hp11 := keepNI (o' := .ins a.C dx (putF "roads" (.ref tr) (putF "neighbours" (.ref tn) (putF "cells" (.int (n : Nat)) [])))) hx10 (s10 _ _ hp8) fun _ _ _ e => by cases e
      have tU11 := (tU8.same s10).ni hx10 (.ins a.C dx (putF "roads" (.ref tr) (putF "neighbours" (.ref tn) (putF "cells" (.int (n : Nat)) []))))
      have hn11 := keepNI (o' := .ins a.C dx (putF "roads" (.ref tr) (putF "neighbours" (.ref tn) (putF "cells" (.int (n : Nat)) [])))) hx10 (s10 _ _ hn8) fun _ _ _ e => by cases e
      have hr11 := keepNI (o' := .ins a.C dx (putF "roads" (.ref tr) (putF "neighbours" (.ref tn) (putF "cells" (.int (n : Nat)) [])))) hx10 hr10 fun _ _ _ e => by cases e
      generalize upd H10 x (.ins a.C dx (putF "roads" (.ref tr) (putF "neighbours" (.ref tn) (putF "cells" (.int (n : Nat)) [])))) = H11 at b11 hx11 hp11 tU11 hn11 hr11 ⊢
      -- nearby
      refine ⟨_, rfl, _, rfl, n, p, us, es, rfl, n5, hp11, tU11, by omega, fun H12 ty uy s12 nty hy12 tY12 => ?_⟩
      have hx12 := s12 _ _ hx11
      refine ⟨_, rfl, x, a.C, dx, _, rfl, hx12, T.cl, T.nA _ (by decide), by show 3 < 1000; decide, ?_⟩
      have b13 := (b11.same s12).put (.ins a.C dx (putF "nearby" (.ref ty) (putF "roads" (.ref tr) (putF "neighbours" (.ref tn) (putF "cells" (.int (n : Nat)) [])))))
      have hx13 : upd H12 x (.ins a.C dx (putF "nearby" (.ref ty) (putF "roads" (.ref tr) (putF "neighbours" (.ref tn) (putF "cells" (.int (n : Nat)) []))))) x = _ := upd_same
      have tU13 := (tU11.same s12).ni hx12 (.ins a.C dx (putF "nearby" (.ref ty) (putF "roads" (.ref tr) (putF "neighbours" (.ref tn) (putF "cells" (.int (n : Nat)) [])))))
      have tY13 := tY12.ni hx12 (.ins a.C dx (putF "nearby" (.ref ty) (putF "roads" (.ref tr) (putF "neighbours" (.ref tn) (putF "cells" (.int (n : Nat)) [])))))
      have hn13 := keepNI (o' := .ins a.C dx (putF "nearby" (.ref ty) (putF "roads" (.ref tr) (putF "neighbours" (.ref tn) (putF "cells" (.int (n : Nat)) []))))) hx12 (s12 _ _ hn11) fun _ _ _ e => by cases e
      have hr13 := keepNI (o' := .ins a.C dx (putF "nearby" (.ref ty) (putF "roads" (.ref tr) (putF "neighbours" (.ref tn) (putF "cells" (.int (n : Nat)) []))))) hx12 (s12 _ _ hr11) fun _ _ _ e => by cases e
      have hy13 := keepNI (o' := .ins a.C dx (putF "nearby" (.ref ty) (putF "roads" (.ref tr) (putF "neighbours" (.ref tn) (putF "cells" (.int (n : Nat)) []))))) hx12 hy12 fun _ _ _ e => by cases e
      generalize upd H12 x (.ins a.C dx (putF "nearby" (.ref ty) (putF "roads" (.ref tr) (putF "neighbours" (.ref tn) (putF "cells" (.int (n : Nat)) []))))) = H13 at b13 hx13 tU13 hn13 hr13 hy13 tY13 ⊢
      -- couples
      refine ⟨_, rfl, _, rfl, by omega, by omega, fun D hD => K7E.out_range (lo := 0) (n := n) (fun i H' => Same H13 H' ∧ ∃ vs, H' D = some (.lst (vs.map V.ref)) ∧ TAt H' vs (pairs (upC n i)) ∧ vs.length ≤ i * n) ⟨same_new (Same.refl H13) hD, [], upd_same, .nil, Nat.zero_le _⟩ (fun i H' hi pv => ?_) (fun H' pv => ?_)⟩
      · obtain ⟨e14, vs, hD14, tV, lv⟩ := pv
        refine ⟨rfl, _, rfl, _, rfl, by omega, by omega, K7E.in_range (lo := 0) (n := n) (fun j H'' => Same H13 H'' ∧ ∃ vs, H'' D = some (.lst (vs.map V.ref)) ∧ TAt H'' vs (pairs (upC n i ++ rowC n i j)) ∧ vs.length ≤ i * n + j) ⟨e14, vs, hD14, ?_, lv⟩ (fun j H'' hj pv => ?_) (fun H'' pv => ?_)⟩
        · show TAt H' vs (pairs (upC n i ++ []))
          rw [List.append_nil]
          exact tV
        · obtain ⟨e15, vs, hD15, tV, lv⟩ := pv
          refine ⟨rfl, _, rfl, _, rfl, rfl, _, rfl, ?_⟩
          by_cases hij : i = j
          · subst hij
            have er : rowC n i (i + 1) = rowC n i i := by rw [rowC_succ, if_neg (fun h => h rfl), List.append_nil]
            have e16 : (!decide (V.int (0 + (i : Nat)) = V.int (0 + (i : Nat)))) = false := by rw [decide_eq_true rfl]; rfl
            rw [e16]
            refine iteF ⟨e15, vs, hD15, ?_, by omega⟩
            rw [er]
            exact tV
          · have er : rowC n i (j + 1) = rowC n i j ++ [(i, j)] := by rw [rowC_succ, if_pos hij]
            have e16 : (!decide (V.int (0 + (i : Nat)) = V.int (0 + (j : Nat)))) = true := by
              rw [decide_eq_false (fun h => by injection h with h; exact hij (by omega))]
              rfl
            have hin : i * n ≤ 25 := Nat.le_trans (Nat.mul_le_mul (Nat.le_of_lt (Nat.lt_of_lt_of_le hi n5)) n5) (by decide)
            rw [e16]
            refine iteT ⟨_, rfl, _, rfl, by show 2 ≤ sizeLine; decide, fun t nt => ?_⟩
            rw [er]
            have sT := same_new (o := .tup [.int (0 + (i : Nat)), .int (0 + (j : Nat))]) (Same.refl H'') nt
            have up : ∀ b xs, upd H'' t (.tup [.int (0 + (i : Nat)), .int (0 + (j : Nat))]) b = some (.tup xs) → upd (upd H'' t (.tup [.int (0 + (i : Nat)), .int (0 + (j : Nat))])) D (.lst (vs.map V.ref ++ [.ref t])) b = some (.tup xs) := fun b xs hb => by
              rw [upd_ne (fun z => by rw [z, sT _ _ hD15] at hb; cases hb)]
              exact hb
            refine ⟨_, sT _ _ hD15, by rw [List.length_map]; exact small1000 (by omega), fun b o hb => ?_, vs ++ [t], by rw [upd_same, List.map_append]; rfl, ?_, by rw [List.length_append, List.length_singleton]; omega⟩
            · rw [upd_ne (ne_of_none hb hD)]
              exact sT _ _ (e15 _ _ hb)
            · rw [← List.append_assoc]
              unfold pairs
              rw [List.map_append]
              refine ((tV.same sT).mono up).append (.cons (up _ _ ?_) .nil)
              rw [upd_same, Int.zero_add, Int.zero_add]
              rfl
        · obtain ⟨e15, vs, hD15, tV, lv⟩ := pv
          exact ⟨e15, vs, hD15, by rw [upC_succ]; exact tV, by rw [Nat.succ_mul]; exact lv⟩
      · obtain ⟨e14, vs, hD14, tV, lv⟩ := pv
        refine ⟨D, vs.map V.ref, rfl, .inl ⟨.inl (.inl hD14), fun tc ntc => ?_⟩⟩
        have sC := same_new (o := .tup (vs.map V.ref)) e14 ntc
        have hc14 : upd H' tc (.tup (vs.map V.ref)) tc = some (.tup (vs.map V.ref)) := upd_same
        have tV14 := tV.same (same_new (o := .tup (vs.map V.ref)) (Same.refl H') ntc)
        generalize upd H' tc (.tup (vs.map V.ref)) = H15 at sC hc14 tV14 ⊢
        have hx15 := sC _ _ hx13
        refine ⟨_, rfl, x, a.C, dx, _, rfl, hx15, T.cl, T.nA _ (by decide), by show 4 < 1000; decide, ?_⟩
        have no : ∀ (xs : List V) (C dx : Addr) fs, HO.tup xs ≠ .ins C dx fs := fun _ _ _ _ e => by cases e
        exact q _ es rd ((b13.same sC).put _) ⟨⟨dx, tn, tr, ty, tc, us, uy, vs, upd_same, keepNI hx15 (sC _ _ hn13) (no _), (tU13.same sC).ni hx15 _, keepNI hx15 (sC _ _ hr13) (no _), keepNI hx15 (sC _ _ hy13) (no _), (tY13.same sC).ni hx15 _, keepNI hx15 hc14 (no _), tV14.ni hx15 _⟩,
          n2, n5, ok, fun c hc => llt c (prd.mem_iff.mp hc), prd.nodup_iff.mpr lnd, srd, by rw [prd.length_eq]; exact l0, by rw [prd.length_eq]; exact ln⟩ pe prd
end
end K7
end
/-! ## P13 -/
section
open PySem PySem.Spec PyProof.Rows L2
namespace K7
abbrev N_Land_couples : List Str := ["self"]
abbrev s_Land_couples : Stmt := inClass (topS 19) 2
theorem sc_Land_couples : FnScope ["self"] ["self"] (defScope s_Land_couples) := ⟨rfl, rfl, rfl, by decide +kernel, rfl, by decide +kernel, by decide +kernel⟩
theorem near_get {n : Nat} {es : List (Nat × Nat)} {c : Nat} (h : c < n) : (nearV n es)[c]? = some ((List.range n).filter fun b => decide ((c, b) ∈ es) || decide ((b, c) ∈ es)) := by
  unfold nearV
  rw [List.getElem?_map, List.getElem?_range h]
  rfl
def nearOf (n : Nat) (es : List (Nat × Nat)) (c : Nat) : List Nat := (List.range n).filter fun b => decide ((c, b) ∈ es) || decide ((b, c) ∈ es)
/-- a cell, or what is no cell and is told so -/
def CellOr (B : Addr) (n : Nat) (H : Hp) (x : V) (E : XK) (q : Nat → Prop) : Prop := (∃ c, x = .int (c : Nat) ∧ c < n ∧ q c) ∨ (Thing H x ∧ wholeV x 0 ((n : Nat) - 1) = false ∧ Flies H B "cell" x E)
theorem whole_cell {n c : Nat} (h : c < n) : wholeV (.int (c : Nat)) 0 (((n : Nat) : Int) - 1) = true := by
  rw [wholeV_int, decide_eq_true (by omega), decide_eq_true (by omega)]
  rfl
theorem one_in {n c : Nat} (h : c < n) : AllIn n [.int (c : Nat)] := fun x hx => by
  rw [List.mem_singleton.mp hx]
  exact whole_cell h
section
variable {P : Program} {w : World} {K : PySem.W.Frag} {mg : Str → Option Value} {base : Heap} {a : AdL}
def spCouples (C : Addr) : Sp := fun vs H Q _ => ∃ (p : Addr) (n : Nat) (es : List (Nat × Nat)) (rd : List Nat), vs = [.ref p] ∧ LandO C H p n es rd ∧ ∀ u tc, H u = some (.tup (tc.map V.ref)) → TAt H tc (pairs (KL.allC n)) → Q (.ref u) H
theorem ok_couples (T : Tl K mg a) {f : Addr} {fd : FuncData} (F : Fun K "couples" "Land.couples" s_Land_couples f fd) : FnOk P w K mg base CX0 1 f fd ["self"] (spCouples a.C) := by
  refine F.ok sc_Land_couples (fun vs H Q E h => ?_) (fun cdv A outer s H vs Q E hr h => ?_)
  · obtain ⟨p, n, es, rd, rfl, _⟩ := h
    rfl
  · obtain ⟨p, n, es, rd, rfl, L, q⟩ := h
    refine ⟨_, (pss_one (ps_ret (pe_fld (pv 0) rfl))), ?_⟩
    obtain ⟨dx, an, ar, ay, ac, tn, ty, tc, h1, h2, h3, h4, h5, h6, h7, h8⟩ := L.at_
    exact ⟨_, rfl, p, a.C, dx, _, _, rfl, h1, T.cl, T.nA _ (by decide), rfl, q _ _ h7 h8⟩
end
end K7
end
/-! ## MN -/
section
/-! min of a list of data that can be compared with one another. -/
namespace K7S
open PySem PySem.Spec PyProof.Rows L2
section
variable {X : Cx}
def rMinD (K : PySem.W.Frag) : List V → Hp → VK → Prop := fun vs H Q => ∃ (a : Addr) (xs : List V) (d : PyData) (ds : List PyData), vs = [V.ref a] ∧ SqL K H a xs ∧ DpAll K H xs (d :: ds) ∧
  PySem.W.AlikeAll (d :: ds) ∧ PyData.canLayAll0 (d :: ds) = true ∧ PyData.depthAll (d :: ds) ≤ 64 ∧ ∀ (i : Nat) (v : V), xs[i]? = some v → (d :: ds)[i]? = some (PySem.W.minD d ds) → Q v H
theorem vals_back {vs : List V} {us : List Value} (r : Vals vs us) : ∀ {i : Nat} {u : Value}, us[i]? = some u → ∃ v, vs[i]? = some v ∧ RelV v u := by
  induction r with
  | nil => exact fun {i u} h => nomatch h
  | cons r1 _ ih =>
    intro i u h
    cases i with
    | zero =>
      obtain rfl := Option.some.inj h
      exact ⟨_, rfl, r1⟩
    | succ i => exact ih (i := i) h
theorem minD_mem (d : PyData) : ∀ ds : List PyData, PySem.W.minD d ds ∈ d :: ds := by
  intro ds
  have z : ∀ (ds : List PyData) (a : PyData), ds.foldl (fun a y => if PySem.W.dataLt y a then y else a) a ∈ a :: ds := by
    intro ds
    induction ds with
    | nil => exact fun a => List.mem_cons_self ..
    | cons y ds ih =>
      intro a
      rcases List.mem_cons.mp (ih (if PySem.W.dataLt y a then y else a)) with e | e
      · rw [List.foldl_cons, e]
        split
        · exact List.mem_cons_of_mem _ (List.mem_cons_self ..)
        · exact List.mem_cons_self ..
      · exact List.mem_cons_of_mem _ (List.mem_cons_of_mem _ e)
  exact z ds d
theorem cr_minD (hc : X.calm = true) (hu : X.A.units + 65 < cLine) : CallR X (.builtin "min") (rMinD X.K) := by
  intro pins s τ H vs us Q I r h
  obtain ⟨a, xs, d, ds, rfl, hs, hd, hal, hlay, hdep, q⟩ := h
  obtain ⟨its, rv, hl, _⟩ := I.list hs
  rw [Vals.ref1 r]
  obtain ⟨as, hr⟩ := Dp.readsAll I (d :: ds) _ its hd rv
  have hmap : its.map (SeqAt.readOf s.heap) = d :: ds := SeqAt.readsAll_map (d :: ds) its as hlay hr
  refine PySem.W.min_list_data (I.ok.hd hc) hl.isList hr hal (by omega) fun i v h' tk bs hv hrd hk => ?_
  have hv : its[i]? = some v := by simpa using hv
  obtain ⟨x, hx, rx⟩ := vals_back rv hv
  have hi := congrArg (fun l : List PyData => l[i]?) hmap
  simp only [List.getElem?_map, hv, Option.map_some] at hi
  have all : ∀ (l : List PyData), PyData.canLayAll0 l = true → ∀ z ∈ l, z.canLay0 = true := by
    intro l
    induction l with
    | nil => exact fun _ z hz => nomatch hz
    | cons y l ih =>
      intro h z hz
      rw [PyData.canLayAll0, Bool.and_eq_true] at h
      rcases List.mem_cons.mp hz with rfl | hz
      · exact h.1
      · exact ih h.2 z hz
  obtain ⟨cs, r1, _, m1, _⟩ := PySem.W.readsAll_at hr i v hv
  have e1 := SeqAt.readOf_eq (all _ hlay _ m1) (PySem.W.reads_keeps hk r1)
  have e2 := SeqAt.readOf_eq (all _ hlay _ (minD_mem d ds)) hrd
  have e3 := SeqAt.readOf_eq (all _ hlay _ m1) r1
  refine ⟨x, H, I.kept (t' := tk) hk, rx, q i x hx (hi.symm.trans ?_)⟩
  rw [e3, ← e1, e2]
end
end K7S
end
/-! ## OR -/
section
open PySem PySem.Spec PyProof.Rows L2
namespace K7
/-! ### orders of cells -/
def at_ (o : List Nat) (c : Nat) : Nat := o.getD c 0
structure IsOrd (n : Nat) (o : List Nat) : Prop where
  len : o.length = n
  lt : ∀ c ∈ o, c < n
  nd : o.Nodup
def rowO (n : Nat) (o : List Nat) (j : Nat) : List (List Nat) := ((List.range j).filter fun c => !decide (c ∈ o)).map fun c => o ++ [c]
def stepO (n : Nat) (rows : List (List Nat)) : List (List Nat) := rows.flatMap fun o => rowO n o n
def itO (n : Nat) : Nat → List (List Nat)
  | 0 => [[]]
  | k + 1 => stepO n (itO n k)
def ords (n : Nat) : List (List Nat) := itO n n
theorem rowO_succ (n : Nat) (o : List Nat) (j : Nat) : rowO n o (j + 1) = rowO n o j ++ (if (!decide (j ∈ o)) = true then [o ++ [j]] else []) := by
  unfold rowO
  rw [range_filter, List.map_append]
  congr 1
  by_cases h : (!decide (j ∈ o)) = true
  · rw [if_pos h, if_pos h]; rfl
  · rw [if_neg h, if_neg h]; rfl
theorem rowO_len (n : Nat) (o : List Nat) (j : Nat) : (rowO n o j).length ≤ j := by
  unfold rowO
  rw [List.length_map]
  exact Nat.le_trans (List.length_filter_le _ _) (by rw [List.length_range]; exact Nat.le_refl _)
theorem step_snoc (n : Nat) (rows : List (List Nat)) (o : List Nat) : stepO n (rows ++ [o]) = stepO n rows ++ rowO n o n := by
  unfold stepO
  rw [List.flatMap_append, List.flatMap_cons, List.flatMap_nil, List.append_nil]
theorem step_len (n : Nat) : ∀ rows : List (List Nat), (stepO n rows).length ≤ rows.length * n
  | [] => Nat.zero_le _
  | o :: rows => by
    have h := step_len n rows
    have h2 := rowO_len n o n
    show (rowO n o n ++ stepO n rows).length ≤ _
    rw [List.length_append, List.length_cons, Nat.succ_mul]
    omega
theorem itO_len : ∀ n : Fin 6, ∀ k : Fin 6, k.val ≤ n.val → (itO n.val k.val).length ≤ 120 := by decide +kernel
theorem mem_rowO {n : Nat} {o x : List Nat} {j : Nat} : x ∈ rowO n o j ↔ ∃ c, c < j ∧ c ∉ o ∧ x = o ++ [c] := by
  unfold rowO
  rw [List.mem_map]
  constructor
  · rintro ⟨c, hc, rfl⟩
    rw [List.mem_filter, List.mem_range] at hc
    exact ⟨c, hc.1, by simpa using hc.2, rfl⟩
  · rintro ⟨c, h1, h2, rfl⟩
    exact ⟨c, List.mem_filter.mpr ⟨List.mem_range.mpr h1, by simpa using h2⟩, rfl⟩
theorem mem_itO (n : Nat) : ∀ (k : Nat) (x : List Nat), x ∈ itO n k ↔ x.length = k ∧ (∀ c ∈ x, c < n) ∧ x.Nodup
  | 0, x => by
    show x ∈ [[]] ↔ _
    rw [List.mem_singleton]
    constructor
    · rintro rfl
      exact ⟨rfl, fun c hc => (nomatch hc), List.nodup_nil⟩
    · exact fun h => List.length_eq_zero_iff.mp h.1
  | k + 1, x => by
    show x ∈ stepO n (itO n k) ↔ _
    unfold stepO
    rw [List.mem_flatMap]
    constructor
    · rintro ⟨o, ho, hx⟩
      obtain ⟨c, hc, hno, rfl⟩ := mem_rowO.mp hx
      obtain ⟨h1, h2, h3⟩ := (mem_itO n k o).mp ho
      refine ⟨by rw [List.length_append, h1]; rfl, fun d hd => ?_, ?_⟩
      · rcases List.mem_append.mp hd with hd | hd
        · exact h2 d hd
        · rw [List.mem_singleton.mp hd]; exact hc
      · rw [List.nodup_append]
        exact ⟨h3, List.nodup_cons.mpr ⟨List.not_mem_nil, List.nodup_nil⟩, fun a ha b hb e => hno (by rw [← List.mem_singleton.mp hb, ← e]; exact ha)⟩
    · rintro ⟨h1, h2, h3⟩
      have ne : x ≠ [] := fun e => by rw [e] at h1; cases h1
      have ex := List.dropLast_concat_getLast ne
      refine ⟨x.dropLast, (mem_itO n k _).mpr ⟨by rw [List.length_dropLast, h1]; rfl, fun c hc => h2 c (List.dropLast_subset x hc), h3.sublist (List.dropLast_sublist x)⟩, mem_rowO.mpr ⟨x.getLast ne, h2 _ (List.getLast_mem ne), fun m => ?_, ex.symm⟩⟩
      rw [← ex, List.nodup_append] at h3
      exact h3.2.2 _ m _ (List.mem_singleton.mpr rfl) rfl
theorem mem_ords {n : Nat} {x : List Nat} : x ∈ ords n ↔ IsOrd n x := (mem_itO n n x).trans ⟨fun h => ⟨h.1, h.2.1, h.2.2⟩, fun h => ⟨h.len, h.lt, h.nd⟩⟩
theorem IsOrd.perm {n : Nat} {o : List Nat} (h : IsOrd n o) : o.Perm (List.range n) := by
  refine (List.perm_ext_iff_of_nodup h.nd List.nodup_range).mpr fun d => ⟨fun m => List.mem_range.mpr (h.lt d m), fun m => ?_⟩
  refine Classical.byContradiction fun no => ?_
  have z := List.Nodup.length_le_of_subset (l₁ := d :: o) (l₂ := List.range n) (List.nodup_cons.mpr ⟨no, h.nd⟩) fun c hc => by
    rcases List.mem_cons.mp hc with rfl | hc
    · exact m
    · exact List.mem_range.mpr (h.lt c hc)
  rw [List.length_cons, List.length_range, h.len] at z
  omega
theorem at_get {o : List Nat} {c : Nat} (h : c < o.length) : at_ o c = o[c] := by
  unfold at_
  rw [List.getD_eq_getElem?_getD, List.getElem?_eq_getElem h]
  rfl
theorem IsOrd.at_lt {n : Nat} {o : List Nat} (h : IsOrd n o) {c : Nat} (hc : c < n) : at_ o c < n := by
  have l : c < o.length := by rw [h.len]; exact hc
  rw [at_get l]
  exact h.lt _ (List.getElem_mem l)
theorem IsOrd.inj {n : Nat} {o : List Nat} (h : IsOrd n o) {c d : Nat} (hc : c < n) (hd : d < n) (e : at_ o c = at_ o d) : c = d := by
  have l1 : c < o.length := by rw [h.len]; exact hc
  have l2 : d < o.length := by rw [h.len]; exact hd
  rw [at_get l1, at_get l2] at e
  exact (List.getElem_inj h.nd).mp e
theorem IsOrd.surj {n : Nat} {o : List Nat} (h : IsOrd n o) {d : Nat} (hd : d < n) : ∃ c, c < n ∧ at_ o c = d := by
  have m : d ∈ o := h.perm.mem_iff.mpr (List.mem_range.mpr hd)
  obtain ⟨c, hc, e⟩ := List.getElem_of_mem m
  exact ⟨c, by rw [← h.len]; exact hc, by rw [at_get hc]; exact e⟩
theorem ord_map {n : Nat} (f : Nat → Nat) (h1 : ∀ c, c < n → f c < n) (h2 : ∀ c d, c < n → d < n → f c = f d → c = d) : IsOrd n ((List.range n).map f) ∧ ∀ c, c < n → at_ ((List.range n).map f) c = f c := by
  refine ⟨⟨by rw [List.length_map, List.length_range], fun c hc => ?_, ?_⟩, fun c hc => ?_⟩
  · obtain ⟨d, hd, rfl⟩ := List.mem_map.mp hc
    exact h1 d (List.mem_range.mp hd)
  · rw [List.nodup_iff_pairwise_ne, List.pairwise_map]
    refine (List.nodup_iff_pairwise_ne.mp (List.nodup_range (n := n))).imp_of_mem fun {a b} ha hb ne e => ne (h2 a b (List.mem_range.mp ha) (List.mem_range.mp hb) e)
  · rw [at_get (by rw [List.length_map, List.length_range]; exact hc), List.getElem_map, List.getElem_range]
/-- one order behind another -/
theorem ord_comp {n : Nat} {o p : List Nat} (ho : IsOrd n o) (hp : IsOrd n p) : ∃ q, IsOrd n q ∧ ∀ c, c < n → at_ q c = at_ p (at_ o c) := by
  obtain ⟨h1, h2⟩ := ord_map (n := n) (fun c => at_ p (at_ o c)) (fun c hc => hp.at_lt (ho.at_lt hc)) fun c d hc hd e => ho.inj hc hd (hp.inj (ho.at_lt hc) (ho.at_lt hd) e)
  exact ⟨_, h1, h2⟩
/-- the order that leads back -/
theorem ord_inv {n : Nat} {o : List Nat} (ho : IsOrd n o) : ∃ q, IsOrd n q ∧ ∀ c, c < n → at_ q (at_ o c) = c := by
  have hx : ∀ d, d < n → o.idxOf d < n ∧ at_ o (o.idxOf d) = d := fun d hd => by
    have m : d ∈ o := ho.perm.mem_iff.mpr (List.mem_range.mpr hd)
    have l := List.idxOf_lt_length_of_mem m
    refine ⟨by rw [← ho.len]; exact l, ?_⟩
    rw [at_get l]
    exact List.getElem_idxOf l
  obtain ⟨h1, h2⟩ := ord_map (n := n) (fun d => o.idxOf d) (fun d hd => (hx d hd).1) fun c d hc hd e => by
    rw [← (hx c hc).2, ← (hx d hd).2]
    exact congrArg (at_ o) e
  refine ⟨_, h1, fun c hc => ?_⟩
  rw [h2 _ (ho.at_lt hc)]
  exact ho.inj ((hx _ (ho.at_lt hc)).1) hc (hx _ (ho.at_lt hc)).2
/-! ### lands led -/
abbrev Part := List (Nat × Nat) × List Nat
def leB (a b : Nat × Nat) : Bool := decide (a.1 < b.1 ∨ (a.1 = b.1 ∧ a.2 ≤ b.2))
def ledE (o : List Nat) (es : List (Nat × Nat)) : List (Nat × Nat) := (es.map fun e => KL.srt (at_ o e.1, at_ o e.2)).mergeSort leB
def ledR (o : List Nat) (rd : List Nat) : List Nat := (rd.map (at_ o)).mergeSort fun a b => decide (a ≤ b)
def led (o : List Nat) (x : Part) : Part := (ledE o x.1, ledR o x.2)
theorem ledE_perm (o : List Nat) (es : List (Nat × Nat)) : (ledE o es).Perm (es.map fun e => KL.srt (at_ o e.1, at_ o e.2)) := List.mergeSort_perm _ _
theorem ledR_perm (o rd : List Nat) : (ledR o rd).Perm (rd.map (at_ o)) := List.mergeSort_perm _ _
theorem ledE_sorted (o : List Nat) (es : List (Nat × Nat)) : (ledE o es).Pairwise KL.lexLe := by
  have h := List.pairwise_mergeSort (le := leB) (fun a b c h1 h2 => by unfold leB at *; simp only [decide_eq_true_eq] at *; omega) (fun a b => by unfold leB; simp only [Bool.or_eq_true, decide_eq_true_eq]; omega) (es.map fun e => KL.srt (at_ o e.1, at_ o e.2))
  exact h.imp fun {a b} e => of_decide_eq_true e
theorem ledR_sorted (o rd : List Nat) : (ledR o rd).Pairwise (· ≤ ·) := by
  have h := List.pairwise_mergeSort (le := fun a b : Nat => decide (a ≤ b)) (fun a b c h1 h2 => by simp only [decide_eq_true_eq] at *; omega) (fun a b => by simp only [Bool.or_eq_true, decide_eq_true_eq]; omega) (rd.map (at_ o))
  exact h.imp fun {a b} e => of_decide_eq_true e
theorem ledE_is {o : List Nat} {es ys : List (Nat × Nat)} (p : ys.Perm (es.map fun e => KL.srt (at_ o e.1, at_ o e.2))) (hs : ys.Pairwise KL.lexLe) : ys = ledE o es :=
  KL.uniq KL.lex_anti (p.trans (ledE_perm o es).symm) hs (ledE_sorted o es)
theorem ledR_is {o rd ys : List Nat} (p : ys.Perm (rd.map (at_ o))) (hs : ys.Pairwise (· ≤ ·)) : ys = ledR o rd :=
  KL.uniq (fun a b (h1 : a ≤ b) (h2 : b ≤ a) => Nat.le_antisymm h1 h2) (p.trans (ledR_perm o rd).symm) hs (ledR_sorted o rd)
/-- the parts that a land has -/
structure PartOk (n : Nat) (x : Part) : Prop where
  ok : LandOk n x.1
  rlt : ∀ c ∈ x.2, c < n
  rnd : x.2.Nodup
  rso : x.2.Pairwise (· ≤ ·)
  r0 : 0 < x.2.length
  rn : x.2.length < n
theorem srt_srt (o : List Nat) (a b : Nat) : KL.srt (at_ o (KL.srt (a, b)).1, at_ o (KL.srt (a, b)).2) = KL.srt (at_ o a, at_ o b) := by
  unfold KL.srt
  simp only
  rcases Nat.le_total a b with h | h
  · rw [Nat.min_eq_left h, Nat.max_eq_right h]
  · rw [Nat.min_eq_right h, Nat.max_eq_left h, Nat.min_comm, Nat.max_comm]
theorem led_led {n : Nat} {o p q : List Nat} {x : Part} (hx : PartOk n x) (hq : ∀ c, c < n → at_ q c = at_ p (at_ o c)) : led p (led o x) = led q x := by
  obtain ⟨es, rd⟩ := x
  refine Prod.ext ?_ ?_
  · refine ledE_is ?_ (ledE_sorted _ _)
    refine (ledE_perm p (ledE o es)).trans (((ledE_perm o es).map _).trans ?_)
    rw [List.map_map]
    refine List.Perm.of_eq (List.map_congr_left fun e he => ?_)
    obtain ⟨h1, h2⟩ := hx.ok.lt e he
    show KL.srt (at_ p (KL.srt (at_ o e.1, at_ o e.2)).1, at_ p (KL.srt (at_ o e.1, at_ o e.2)).2) = _
    rw [srt_srt, hq _ (by omega), hq _ h2]
  · refine ledR_is ?_ (ledR_sorted _ _)
    refine (ledR_perm p (ledR o rd)).trans (((ledR_perm o rd).map _).trans ?_)
    rw [List.map_map]
    exact List.Perm.of_eq (List.map_congr_left fun c hc => (hq c (hx.rlt c hc)).symm)
theorem led_back {n : Nat} {o : List Nat} {x : Part} (hx : PartOk n x) (ho : ∀ c, c < n → at_ o c = c) : led o x = x := by
  obtain ⟨es, rd⟩ := x
  refine Prod.ext ?_ ?_
  · refine (ledE_is ?_ (hx.ok.sorted.imp fun h => h)).symm
    refine List.Perm.of_eq ((List.map_id es).symm.trans (List.map_congr_left fun e he => ?_))
    obtain ⟨h1, h2⟩ := hx.ok.lt e he
    rw [ho _ (by omega), ho _ h2, KL.srt_of h1]
    rfl
  · refine (ledR_is ?_ hx.rso).symm
    exact List.Perm.of_eq ((List.map_id rd).symm.trans (List.map_congr_left fun c hc => (ho c (hx.rlt c hc)).symm))
theorem led_conn {n : Nat} {o : List Nat} {es : List (Nat × Nat)} (ho : IsOrd n o) (n2 : 0 < n) (h : KL.Conn n es) (lt : ∀ e ∈ es, e.1 < e.2 ∧ e.2 < n) : KL.Conn n (ledE o es) := by
  intro S h0 he c hc
  have edge : ∀ e ∈ es, S (at_ o e.1) = S (at_ o e.2) := fun e m => by
    have z := he (KL.srt (at_ o e.1, at_ o e.2)) ((ledE_perm o es).mem_iff.mpr (List.mem_map.mpr ⟨e, m, rfl⟩))
    unfold KL.srt at z
    simp only at z
    rcases Nat.le_total (at_ o e.1) (at_ o e.2) with y | y
    · rw [Nat.min_eq_left y, Nat.max_eq_right y] at z; exact z
    · rw [Nat.min_eq_right y, Nat.max_eq_left y] at z; exact z.symm
  have all := h (fun c => S (at_ o c) == S (at_ o 0)) (by simp) fun e m => by
    show (S (at_ o e.1) == S (at_ o 0)) = (S (at_ o e.2) == S (at_ o 0))
    rw [edge e m]
  obtain ⟨c0, k0, e0⟩ := ho.surj n2
  have z0 := all c0 k0
  rw [e0, h0] at z0
  obtain ⟨c1, k1, e1⟩ := ho.surj hc
  have z1 := all c1 k1
  rw [e1] at z1
  have z0 : true = S (at_ o 0) := by simpa using z0
  have z1 : S c = S (at_ o 0) := by simpa using z1
  rw [z1, ← z0]
theorem led_cos {n : Nat} {o : List Nat} {es : List (Nat × Nat)} (ho : IsOrd n o) (n5 : n ≤ 5) (ok : LandOk n es) (h32 : es.length ≤ 32) : Cos n (ledE o es) ∧ (ledE o es).map KL.srt = ledE o es := by
  have mem : ∀ c ∈ ledE o es, ∃ e ∈ es, c = KL.srt (at_ o e.1, at_ o e.2) := fun c hc => by
    obtain ⟨e, he, rfl⟩ := List.mem_map.mp ((ledE_perm o es).mem_iff.mp hc)
    exact ⟨e, he, rfl⟩
  have lt : ∀ c ∈ ledE o es, c.1 < c.2 ∧ c.2 < n := fun c hc => by
    obtain ⟨e, he, rfl⟩ := mem c hc
    obtain ⟨h1, h2⟩ := ok.lt e he
    have a := ho.at_lt (c := e.1) (by omega)
    have b := ho.at_lt h2
    have ne : at_ o e.1 ≠ at_ o e.2 := fun z => by
      have := ho.inj (by omega) h2 z
      omega
    refine ⟨KL.srt_lt ne, ?_⟩
    unfold KL.srt
    simp only
    omega
  have em : (ledE o es).map KL.srt = ledE o es := (List.map_congr_left fun c hc => KL.srt_of (lt c hc).1).trans (List.map_id _)
  refine ⟨⟨fun c hc => ⟨by have := lt c hc; omega, (lt c hc).2, by have := lt c hc; omega⟩, ?_, by rw [(ledE_perm o es).length_eq, List.length_map]; exact h32⟩, em⟩
  rw [em, (ledE_perm o es).nodup_iff, List.nodup_iff_pairwise_ne, List.pairwise_map]
  refine (List.nodup_iff_pairwise_ne.mp ok.nd).imp_of_mem fun {a b} ha hb ne e => ne ?_
  obtain ⟨a1, a2⟩ := ok.lt a ha
  obtain ⟨b1, b2⟩ := ok.lt b hb
  unfold KL.srt at e
  injection e with e1 e2
  simp only at e1 e2
  have i1 := fun z => ho.inj (c := a.1) (d := b.1) (by omega) (by omega) z
  have i2 := fun z => ho.inj (c := a.2) (d := b.2) (by omega) (by omega) z
  have i3 := fun z => ho.inj (c := a.1) (d := b.2) (by omega) (by omega) z
  have i4 := fun z => ho.inj (c := a.2) (d := b.1) (by omega) (by omega) z
  have cs : (at_ o a.1 = at_ o b.1 ∧ at_ o a.2 = at_ o b.2) ∨ (at_ o a.1 = at_ o b.2 ∧ at_ o a.2 = at_ o b.1) := by omega
  rcases cs with ⟨z1, z2⟩ | ⟨z1, z2⟩
  · exact Prod.ext (i1 z1) (i2 z2)
  · have := i3 z1
    have := i4 z2
    omega
theorem led_ok {n : Nat} {o : List Nat} {x : Part} (ho : IsOrd n o) (n2 : 0 < n) (n5 : n ≤ 5) (h32 : x.1.length ≤ 32) (hx : PartOk n x) : PartOk n (led o x) := by
  obtain ⟨es, rd⟩ := x
  obtain ⟨c, em⟩ := led_cos ho n5 hx.ok h32
  have rp := ledR_perm o rd
  refine ⟨⟨fun e he => ?_, ?_, ledE_sorted o es, led_conn ho n2 hx.ok.conn hx.ok.lt⟩, fun c hc => ?_, ?_, ledR_sorted o rd, ?_, ?_⟩
  · have z := c.lt e he
    have := KL.srt_le e
    have e1 : KL.srt e = e := by
      obtain ⟨e', he', rfl⟩ := List.mem_map.mp ((ledE_perm o es).mem_iff.mp he)
      unfold KL.srt
      simp only
      refine Prod.ext ?_ ?_ <;> simp only <;> omega
    rw [e1] at this
    omega
  · have := c.nd
    rw [em] at this
    exact this
  · obtain ⟨d, hd, rfl⟩ := List.mem_map.mp (rp.mem_iff.mp hc)
    exact ho.at_lt (hx.rlt d hd)
  · show (ledR o rd).Nodup
    rw [rp.nodup_iff, List.nodup_iff_pairwise_ne, List.pairwise_map]
    exact (List.nodup_iff_pairwise_ne.mp hx.rnd).imp_of_mem fun {a b} ha hb ne e => ne (ho.inj (hx.rlt a ha) (hx.rlt b hb) e)
  · show 0 < (ledR o rd).length
    rw [rp.length_eq, List.length_map]
    exact hx.r0
  · show (ledR o rd).length < n
    rw [rp.length_eq, List.length_map]
    exact hx.rn
/-- alike: an order leads the one to the other -/
def AlikeP (n : Nat) (x y : Part) : Prop := ∃ o ∈ ords n, led o x = y
theorem alike_symm {n : Nat} {x y : Part} (hx : PartOk n x) (h : AlikeP n x y) : AlikeP n y x := by
  obtain ⟨o, ho, rfl⟩ := h
  have io := mem_ords.mp ho
  obtain ⟨q, iq, e⟩ := ord_inv io
  refine ⟨q, mem_ords.mpr iq, ?_⟩
  obtain ⟨h1, h2⟩ := ord_map (n := n) (fun c => c) (fun c hc => hc) (fun c d _ _ e => e)
  rw [led_led hx (q := (List.range n).map fun c => c) fun c hc => by rw [h2 c hc, e c hc]]
  exact led_back hx h2
theorem alike_trans {n : Nat} {x y z : Part} (hx : PartOk n x) (h : AlikeP n x y) (h' : AlikeP n y z) : AlikeP n x z := by
  obtain ⟨o, ho, rfl⟩ := h
  obtain ⟨p, hp, rfl⟩ := h'
  obtain ⟨q, iq, e⟩ := ord_comp (mem_ords.mp ho) (mem_ords.mp hp)
  exact ⟨q, mem_ords.mpr iq, (led_led hx e).symm⟩
end K7
end
/-! ## ORM -/
section
open PySem PySem.Spec PyProof.Rows L2
namespace K7
/-! ### data of lands -/
theorem eqv_ints : ∀ l m : List Nat, PyData.eqvAll (l.map fun c => PyData.int (c : Nat)) (m.map fun c => PyData.int (c : Nat)) = decide (l = m)
  | [], [] => rfl
  | [], _ :: _ => by simp [PyData.eqvAll]
  | _ :: _, [] => by simp [PyData.eqvAll]
  | x :: l, y :: m => by
    rw [List.map_cons, List.map_cons, PyData.eqvAll, eqv_ints l m]
    by_cases e : x = y
    · subst e
      simp [PyData.eqv]
    · have e2 : ¬ ((x : Nat) : Int) = (y : Nat) := by omega
      simp [PyData.eqv, e, e2]
theorem eqv_intD (l m : List Nat) : PyData.eqv (intD l) (intD m) = decide (l = m) := by
  unfold intD
  rw [PyData.eqv, eqv_ints]
theorem eqvAll_rows : ∀ us vs : List (List Nat), PyData.eqvAll (us.map intD) (vs.map intD) = decide (us = vs)
  | [], [] => rfl
  | [], _ :: _ => by simp [PyData.eqvAll]
  | _ :: _, [] => by simp [PyData.eqvAll]
  | u :: us, v :: vs => by
    rw [List.map_cons, List.map_cons, PyData.eqvAll, eqv_intD, eqvAll_rows us vs]
    by_cases h1 : u = v <;> by_cases h2 : us = vs <;> simp [h1, h2]
theorem pairs_inj : ∀ {es fs : List (Nat × Nat)}, pairs es = pairs fs → es = fs
  | [], [], _ => rfl
  | [], _ :: _, h => by cases h
  | _ :: _, [], h => by cases h
  | (a, b) :: es, (c, d) :: fs, h => by
    have h : [a, b] :: pairs es = [c, d] :: pairs fs := h
    injection h with h1 h2
    injection h1 with h1 h3
    injection h3 with h3
    rw [h1, h3, pairs_inj h2]
theorem eqv_rows (es fs : List (Nat × Nat)) : PyData.eqvAll ((pairs es).map intD) ((pairs fs).map intD) = decide (es = fs) := by
  rw [eqvAll_rows]
  exact decide_eq_decide.mpr ⟨pairs_inj, fun h => by rw [h]⟩
theorem shapedT_rows (ls : List (List Nat)) : SeqAt.shaped (.tuple (ls.map intD)) = true := by
  have z : ((PyData.canLay0 (.list (ls.map intD))) && decide (PyData.depth (.list (ls.map intD)) ≤ 64)) = true := shaped_rows ls
  show ((PyData.canLay0 (.tuple (ls.map intD))) && decide (PyData.depth (.tuple (ls.map intD)) ≤ 64)) = true
  simpa [PyData.canLay0, PyData.depth] using z
def rowsT (us : List (List Nat)) : PyData := .tuple (us.map intD)
def partD (x : Part) : PyData := .tuple [rowsT (pairs x.1), intD x.2]
theorem eqv_part (x y : Part) : PyData.eqv (partD x) (partD y) = decide (x = y) := by
  unfold partD rowsT
  rw [PyData.eqv, PyData.eqvAll, PyData.eqvAll, PyData.eqvAll, PyData.eqv, eqv_rows, eqv_intD]
  obtain ⟨a, b⟩ := x
  obtain ⟨c, d⟩ := y
  by_cases h1 : a = c <;> by_cases h2 : b = d <;> simp [h1, h2]
theorem canLay_rows (us : List (List Nat)) : PyData.canLayAll0 (us.map intD) = true ∧ PyData.depthAll (us.map intD) ≤ 1 := by
  induction us with
  | nil => exact ⟨rfl, Nat.zero_le _⟩
  | cons u us ih =>
    have hu : ∀ l : List Nat, PyData.canLayAll0 (l.map fun c => PyData.int (c : Nat)) = true ∧ PyData.depthAll (l.map fun c => PyData.int (c : Nat)) = 0 := by
      intro l
      induction l with
      | nil => exact ⟨rfl, rfl⟩
      | cons a l ih => exact ⟨by simp [PyData.canLayAll0, PyData.canLay0, ih.1], by simp [PyData.depthAll, PyData.depth, ih.2]⟩
    refine ⟨?_, ?_⟩
    · rw [List.map_cons, PyData.canLayAll0, ih.1, Bool.and_true]
      unfold intD
      simpa [PyData.canLay0] using (hu u).1
    · rw [List.map_cons, PyData.depthAll]
      have : PyData.depth (intD u) = 1 := by unfold intD; simp [PyData.depth, (hu u).2]
      omega
theorem lay_part (x : Part) : PyData.canLay0 (partD x) = true ∧ PyData.depth (partD x) ≤ 3 := by
  obtain ⟨h1, h2⟩ := canLay_rows (pairs x.1)
  obtain ⟨h3, h4⟩ := canLay_rows [x.2]
  have e1 : PyData.canLay0 (intD x.2) = true := by
    rw [List.map_cons, PyData.canLayAll0, Bool.and_eq_true] at h3
    exact h3.1
  have e2 : PyData.depth (intD x.2) ≤ 1 := by
    rw [List.map_cons, PyData.depthAll] at h4
    omega
  unfold partD rowsT
  refine ⟨?_, ?_⟩
  · rw [PyData.canLay0, PyData.canLayAll0, PyData.canLayAll0, PyData.canLayAll0, PyData.canLay0, h1, e1]
    rfl
  · simp only [PyData.depth, PyData.depthAll]
    omega
theorem shaped_part (x : Part) : SeqAt.shaped (partD x) = true := by
  obtain ⟨h1, h2⟩ := lay_part x
  show (PyData.canLay0 (partD x) && decide (PyData.depth (partD x) ≤ 64)) = true
  rw [h1, decide_eq_true (by omega)]
  rfl
theorem lay_parts : ∀ xs : List Part, PyData.canLayAll0 (xs.map partD) = true ∧ PyData.depthAll (xs.map partD) ≤ 64
  | [] => ⟨rfl, Nat.zero_le _⟩
  | x :: xs => by
    obtain ⟨h1, h2⟩ := lay_parts xs
    obtain ⟨h3, h4⟩ := lay_part x
    refine ⟨by rw [List.map_cons, PyData.canLayAll0, h3, h1]; rfl, ?_⟩
    rw [List.map_cons, PyData.depthAll]
    omega
theorem alike_ints : ∀ u v : List Nat, PySem.W.alikeAll (u.map fun c => PyData.int (c : Nat)) (v.map fun c => PyData.int (c : Nat)) = true
  | [], _ => by cases ‹List Nat› <;> rfl
  | _ :: _, [] => rfl
  | a :: u, b :: v => by
    show (PySem.W.alike (.int a) (.int b) && PySem.W.alikeAll _ _) = true
    rw [alike_ints u v]
    rfl
theorem alike_intD (u v : List Nat) : PySem.W.alike (intD u) (intD v) = true := alike_ints u v
theorem alike_rowsT : ∀ us vs : List (List Nat), PySem.W.alikeAll (us.map intD) (vs.map intD) = true
  | [], _ => by cases ‹List (List Nat)› <;> rfl
  | _ :: _, [] => rfl
  | a :: u, b :: v => by
    show (PySem.W.alike (intD a) (intD b) && PySem.W.alikeAll _ _) = true
    rw [alike_rowsT u v, alike_intD]
    rfl
theorem alike_part (x y : Part) : PySem.W.alike (partD x) (partD y) = true := by
  show (PySem.W.alikeAll _ _ && (PySem.W.alike (intD x.2) (intD y.2) && true)) = true
  rw [alike_rowsT, alike_intD]
  rfl
theorem alike_parts (xs : List Part) : PySem.W.AlikeAll (xs.map partD) := by
  refine ⟨fun x hx y hy => ?_, fun x hx => ?_⟩
  · obtain ⟨u, _, rfl⟩ := List.mem_map.mp hx
    obtain ⟨v, _, rfl⟩ := List.mem_map.mp hy
    exact alike_part u v
  · obtain ⟨u, _, rfl⟩ := List.mem_map.mp hx
    intro e
    cases e
/-! ### the least -/
open PySem.W in
theorem minD_low : ∀ (ds : List PyData) (d : PyData), ∀ y ∈ d :: ds, dataLt y (minD d ds) = false
  | [], d, y, hy => by
    rw [List.mem_singleton.mp hy]
    exact lex_irrefl _
  | e :: ds, d, y, hy => by
    have step : minD d (e :: ds) = minD (if dataLt e d then e else d) ds := rfl
    rw [step]
    by_cases h : dataLt e d = true
    · rw [if_pos h]
      have ih := minD_low ds e
      rcases List.mem_cons.mp hy with rfl | hy
      · refine Bool.eq_false_iff.mpr fun z => ?_
        have t : dataLt e (minD e ds) = true := lex_trans _ _ _ h z
        rw [ih e (List.mem_cons_self ..)] at t
        cases t
      · exact ih y hy
    · rw [if_neg h]
      have ih := minD_low ds d
      rcases List.mem_cons.mp hy with rfl | hy
      · exact ih _ (List.mem_cons_self ..)
      · rcases List.mem_cons.mp hy with rfl | hy
        · refine Bool.eq_false_iff.mpr fun z => ?_
          have low := ih d (List.mem_cons_self ..)
          by_cases h2 : dataLt d y = true
          · have t : dataLt d (minD d ds) = true := lex_trans _ _ _ h2 z
            rw [low] at t
            cases t
          · have eq : keyToks d = keyToks y := lex_total _ _ (Bool.eq_false_iff.mpr h2) (Bool.eq_false_iff.mpr h)
            have t : dataLt d (minD d ds) = dataLt y (minD d ds) := by unfold dataLt; rw [eq]
            rw [low, z] at t
            cases t
        · exact ih y (List.mem_cons_of_mem _ hy)
open PySem.W in
theorem minD_same {d e : PyData} {ds es : List PyData} (h1 : ∀ y ∈ d :: ds, y ∈ e :: es) (h2 : ∀ y ∈ e :: es, y ∈ d :: ds) (al : alike (minD d ds) (minD e es) = true) : PyData.eqv (minD d ds) (minD e es) = true := by
  have m1 := K7S.minD_mem d ds
  have m2 := K7S.minD_mem e es
  have eq : keyToks (minD d ds) = keyToks (minD e es) := lex_total _ _ (minD_low es e _ (h1 _ m1)) (minD_low ds d _ (h2 _ m2))
  refine Classical.byContradiction fun no => ?_
  have z := (toks_eqv _ _ al).2 (Bool.eq_false_iff.mpr no) [] [Sum.inl 0]
  rw [eq, lex_pre, lex_irrefl] at z
  cases z
/-- the least of parts -/
def minPart (v : Part) (ws : List Part) : Part := ws.foldl (fun a y => if PySem.W.dataLt (partD y) (partD a) then y else a) v
theorem minD_part : ∀ (ws : List Part) (v : Part), PySem.W.minD (partD v) (ws.map partD) = partD (minPart v ws)
  | [], v => rfl
  | y :: ws, v => by
    show PySem.W.minD (if PySem.W.dataLt (partD y) (partD v) then partD y else partD v) (ws.map partD) = partD (minPart (if PySem.W.dataLt (partD y) (partD v) then y else v) ws)
    rw [← minD_part ws]
    congr 1
    split <;> rfl
theorem partD_inj {x y : Part} (h : partD x = partD y) : x = y := by
  have z := eqv_part x y
  rw [h] at z
  have w := eqv_part y y
  rw [decide_eq_true rfl] at w
  rw [w] at z
  exact of_decide_eq_true z.symm
theorem minPart_mem (v : Part) (ws : List Part) : minPart v ws ∈ v :: ws := by
  have z := K7S.minD_mem (partD v) (ws.map partD)
  rw [minD_part] at z
  obtain ⟨y, hy, e⟩ := List.mem_map.mp (show partD (minPart v ws) ∈ (v :: ws).map partD from z)
  rw [← partD_inj e]
  exact hy
theorem minPart_same {v u : Part} {ws us : List Part} (h1 : ∀ y ∈ v :: ws, y ∈ u :: us) (h2 : ∀ y ∈ u :: us, y ∈ v :: ws) : minPart v ws = minPart u us := by
  have z := minD_same (d := partD v) (ds := ws.map partD) (e := partD u) (es := us.map partD) (fun y hy => ?_) (fun y hy => ?_) (by rw [minD_part, minD_part]; exact alike_part _ _)
  · rw [minD_part, minD_part, eqv_part] at z
    exact of_decide_eq_true z
  · obtain ⟨x, hx, rfl⟩ := List.mem_map.mp (show y ∈ (v :: ws).map partD from hy)
    exact List.mem_map.mpr ⟨x, h1 x hx, rfl⟩
  · obtain ⟨x, hx, rfl⟩ := List.mem_map.mp (show y ∈ (u :: us).map partD from hy)
    exact List.mem_map.mpr ⟨x, h2 x hx, rfl⟩
/-- all that a land can be led to -/
def leds (n : Nat) (x : Part) : List Part := (ords n).map fun o => led o x
def leastP (n : Nat) (x : Part) : Part := match leds n x with
  | [] => x
  | v :: ws => minPart v ws
theorem leds_ne (n : Nat) (x : Part) : leds n x ≠ [] := by
  obtain ⟨h1, _⟩ := ord_map (n := n) (fun c => c) (fun c hc => hc) (fun c d _ _ e => e)
  intro e
  have m : led ((List.range n).map fun c => c) x ∈ leds n x := List.mem_map.mpr ⟨_, mem_ords.mpr h1, rfl⟩
  rw [e] at m
  cases m
theorem mem_leds {n : Nat} {x y : Part} : y ∈ leds n x ↔ AlikeP n x y := by
  unfold leds AlikeP
  rw [List.mem_map]
theorem leastP_mem (n : Nat) (x : Part) : AlikeP n x (leastP n x) := by
  rw [← mem_leds]
  unfold leastP
  cases h : leds n x with
  | nil => exact absurd h (leds_ne n x)
  | cons v ws => exact minPart_mem v ws
theorem leastP_same {n : Nat} {x y : Part} (hx : PartOk n x) (h : AlikeP n x y) (hy : PartOk n y) : leastP n x = leastP n y := by
  have h1 : ∀ z ∈ leds n x, z ∈ leds n y := fun z hz => mem_leds.mpr (alike_trans hy (alike_symm hx h) (mem_leds.mp hz))
  have h2 : ∀ z ∈ leds n y, z ∈ leds n x := fun z hz => mem_leds.mpr (alike_trans hx h (mem_leds.mp hz))
  unfold leastP
  cases e1 : leds n x with
  | nil => exact absurd e1 (leds_ne n x)
  | cons v ws =>
    cases e2 : leds n y with
    | nil => exact absurd e2 (leds_ne n y)
    | cons u us =>
      rw [e1, e2] at h1 h2
      exact minPart_same h1 h2
theorem least_iff {n : Nat} {x y : Part} (n2 : 0 < n) (n5 : n ≤ 5) (x32 : x.1.length ≤ 32) (hx : PartOk n x) (hy : PartOk n y) : leastP n x = leastP n y ↔ AlikeP n x y := by
  refine ⟨fun e => ?_, fun h => leastP_same hx h hy⟩
  have a := leastP_mem n x
  have b := leastP_mem n y
  rw [← e] at b
  exact alike_trans hx a (alike_symm hy b)
end K7
end
/-! ## EN -/
section
/-! x == y, x != y by x's own __eq__, x an instance of an own class without a __ne__. -/
namespace K7E
open PySem PySem.Spec PyProof.Rows L2
theorem slot_obj_ne : Slot "object" "__ne__" "object.__ne__" := .of (owner := "object") (n := "__ne__") (by rw [typeLookup_type, builtinLookup_eq_fast]; kernel_rfl) (by decide +kernel) (by decide +kernel) (by decide +kernel) (.inl (by decide +kernel)) (by rw [isSubtype_type]; kernel_rfl)
section
variable {prog : Program} {w : World} {A : Around} {E : Value → Shared → Prop} {s : Shared} {K : PySem.W.Frag} {x C L f : Addr} {h₀ : Heap} {m : Str → Option Value} {ox : Obj} {od : Option Obj} {b tb : Value}
open PySem.W in
theorem ne_K {Q : Value → Shared → Prop} (hu : A.units + 1 < cLine) (FF : Fr h₀ L s.heap m) (X₀ : K.In h₀) (I : InstAt s.heap x ox C od) (hb : Looks (model prog w) s.heap (typeOf b) tb) (hn : notFirst K C tb = true) (hm : mroIn K C (.type "object") = some true)
    (hs : findIn K (.ref C) "__ne__" = some (some (.builtin "object.__ne__"))) (he : findIn K (.ref C) "__eq__" = some (some (.ref f))) (hf : isFn K (.ref f) = true)
    (h : wpAny (model prog w) A.in1 (call (.ref f) [.ref x, b]) (fun v s' => ∃ c, v = .bool c ∧ Q (.bool (!c)) s') E s) : wpAny (model prog w) A (richCompare .NotEq (.ref x) b) Q E s := by
  have X := X₀.keeps FF.keep
  have inner : wpAny (model prog w) A.in1 (Builtin.«object.__ne__» ⟨[.ref x, b], []⟩) (fun fin s' => ∃ c, fin = .done (.ret (.bool (!c))) ∧ Q (.bool (!c)) s') E s := by
    unfold Builtin.«object.__ne__»
    repeat (first
      | with_reducible refine wpAny_cRoomFor (show A.in1.units < cLine from hu) ?_
      | (refine wpAny_bind (m := callSpecialIfBound? (.ref x) (Str.ofString "__eq__") [b]) (ifBound_K X I he hf (wpAny_mono h (fun r s' hr => by
          obtain ⟨c, rfl, hq⟩ := hr
          repeat (first | exact ⟨c, rfl, hq⟩ | exact wpAny_pure ⟨c, rfl, hq⟩ | exact wpAny_truthy_bool ⟨c, rfl, hq⟩ | (refine wpAny_bind (m := truthy (.bool _)) (wpAny_truthy_bool ?_)) | wp_step)) fun _ _ e => e)))
      | wp_step)
  have mid : wpAny (model prog w) A (callSpecialIfBound? (.ref x) "__ne__" [b]) (fun r s' => ∃ c, r = some (.bool (!c)) ∧ Q (.bool (!c)) s') E s := by
    simp only [callSpecialIfBound?, bindSpecialIfBound?]
    refine wpAny_holding (wpAny_bind (wpAny_bind (wpAny_bind (I.type.here ((looks_findIn X hs).here ?_)))))
    simp only [slot_obj_ne.bind]
    refine wpAny_bind (wpAny_askSetting (wpAny_ite ?_))
    have fin : wpAny (model prog w) A (call (.builtin "object.__ne__") ([.ref x] ++ [b]) >>= fun v => pure (some v)) (fun r s' => ∃ c, r = some (.bool (!c)) ∧ Q (.bool (!c)) s') E s := by
      refine wpAny_bind (wpAny_call (codeAny_call_builtin slot_obj_ne.plain F.cmpEntry_ne (check_slot F.cmpKind_ne F.cmpSplit_ne (I.type.andThen (looks_mroIn X hm)) (F.cmpArgs_ne _ _) (wpAny_mono inner (fun fin s' z => ?_) fun _ _ e => e))))
      obtain ⟨c, rfl, hq⟩ := z
      exact wpAny_pure ⟨c, rfl, hq⟩
    split
    · exact wpAny_bind (wpAny_pure (wpAny_pure fin))
    · exact wpAny_tryCatch (wpAny_bind (wpAny_pure (wpAny_pure fin)))
  have one : wpAny (model prog w) A (tryCompare (.ref x) "__ne__" b) (fun r s' => ∃ c, r = some (.bool (!c)) ∧ Q (.bool (!c)) s') E s := by
    simp only [tryCompare]
    refine wpAny_bind (wpAny_mono mid (fun r s' ⟨c, er, hq⟩ => ?_) fun _ _ e => e)
    rw [er]
    exact wpAny_pure ⟨c, rfl, hq⟩
  unfold richCompare
  simp only [oneThing_ref]
  refine wpAny_holding (wpAny_bind (wpAny_cRoomFor (Nat.lt_of_succ_lt hu) (wpAny_bind (I.type.here (wpAny_bind (hb.here ?_))))))
  rw [cmpInfo_NotEq]
  dsimp only
  have last : wpAny (model prog w) A (tryCompare (.ref x) "__ne__" b) (fun r s' => ∃ c, r = some (.bool (!c)) ∧ Q (.bool (!c)) s') E s := one
  split
  · rename_i q
    have e : subIn K tb (.ref C) = some false := by
      rcases Bool.or_eq_true_iff.mp hn with e | e
      · rw [beq_iff_eq.mp e] at q; simp at q
      · exact beq_iff_eq.mp e
    refine wpAny_bind ((looks_subIn X e).here ?_)
    simp only [Bool.false_eq_true, if_false]
    refine wpAny_bind (wpAny_mono last (fun r s' ⟨c, er, hq⟩ => ?_) fun _ _ e => e)
    rw [er]
    exact wpAny_pure hq
  · refine wpAny_bind (wpAny_pure ?_)
    simp only [Bool.false_eq_true, if_false]
    refine wpAny_bind (wpAny_mono last (fun r s' ⟨c, er, hq⟩ => ?_) fun _ _ e => e)
    rw [er]
    exact wpAny_pure hq
end
/-! ### x == y by x's own __eq__ -/
def rEqO (K : PySem.W.Frag) (C : Addr) (sp : Sp) (E : XK) : R2 := fun x y H Q => ∃ (a dx : Addr) (fs : List (Str × V)) (b : Addr) (t : Value), x = .ref a ∧ y = .ref b ∧ H a = some (.ins C dx fs) ∧ TyX K H y t ∧ PySem.W.notFirst K C t = true ∧ sp [x, y] H Q E
section
variable {X : Cx}
theorem op_eqOwn {CX : CXT} {C g : Addr} {fd : FuncData} {ps : List Str} {sp : Sp} {E : XK} {n : Nat} (F : FnOk X.prog X.w X.K X.mg X.base CX n g fd ps sp) (hs : PySem.W.findIn X.K (.ref C) "__eq__" = some (some (.ref g))) (hf : PySem.W.isFn X.K (.ref g) = true) (hb : Binds X.K fd ps [])
    (hr : Room n X.A) (hx : Passes CX X E) : OpR X (compareOp .Eq) (rEqO X.K C sp E) := by
  intro pins s σ H x y v u Q I rx ry h
  obtain ⟨a, dx, fs, b, t, rfl, rfl, ha, ty, hn, q⟩ := h
  cases (show v = Value.ref a from rx)
  cases (show u = Value.ref b from ry)
  obtain ⟨mA, J, _⟩ := ins_get I.hok ha
  obtain ⟨od, J, _⟩ := J.look
  obtain ⟨P, Z, hp, hne⟩ := kit_of I (show RelV (.ref b) (Value.ref b) from rfl) ty
  obtain ⟨m, hF⟩ := I.fr
  have hl := F.len _ _ _ _ q
  have r2 : Vals [V.ref a, V.ref b] [Value.ref a, Value.ref b] := .cons rfl (.cons rfl .nil)
  refine PySem.W.cmp_K (op := .Eq) (tb := t) hr.units0 hF I.ok.mod.kin J (Z.ty _ _ I.kIn hp) hn hs hf ?_
  refine wpAny_mono (wpAny_call (run_fnR (us := [.ref a, .ref b]) (vs := [.ref a, .ref b]) (F.raw hb .nil) hr hx I r2 q)) (fun w s' z => ?_) fun _ _ x => x
  obtain ⟨z', H', I', rz, qz⟩ := z
  exact SlX.cmpback rz ⟨z', H', I', rz, qz⟩
/-- x != y -/
theorem op_neOwn {CX : CXT} {C g : Addr} {fd : FuncData} {ps : List Str} {sp : Sp} {E : XK} {n : Nat} (F : FnOk X.prog X.w X.K X.mg X.base CX n g fd ps sp) (hs : PySem.W.findIn X.K (.ref C) "__ne__" = some (some (.builtin "object.__ne__"))) (hm : PySem.W.mroIn X.K C (.type "object") = some true)
    (he : PySem.W.findIn X.K (.ref C) "__eq__" = some (some (.ref g))) (hf : PySem.W.isFn X.K (.ref g) = true) (hb : Binds X.K fd ps []) (hr : Room (n + 1) X.A) (hx : Passes CX X E) : OpR X (compareOp .NotEq) (fun x y H Q => ∃ (a dx : Addr) (fs : List (Str × V)) (b : Addr) (t : Value), x = .ref a ∧ y = .ref b ∧ H a = some (.ins C dx fs) ∧ TyX X.K H y t ∧ PySem.W.notFirst X.K C t = true ∧ sp [x, y] H (fun z H' => ∃ c, z = .bl c ∧ Q (.bl (!c)) H') E) := by
  intro pins s τ H x y v u Q I rx ry h
  obtain ⟨a, dx, fs, b, t, rfl, rfl, ha, ty, hn, q⟩ := h
  cases (show v = Value.ref a from rx)
  cases (show u = Value.ref b from ry)
  obtain ⟨mA, J, _⟩ := ins_get I.hok ha
  obtain ⟨od, J, _⟩ := J.look
  obtain ⟨P, Z, hp, hne⟩ := kit_of I (show RelV (.ref b) (Value.ref b) from rfl) ty
  obtain ⟨m, hF⟩ := I.fr
  have hl := F.len _ _ _ _ q
  have r2 : Vals [V.ref a, V.ref b] [Value.ref a, Value.ref b] := .cons rfl (.cons rfl .nil)
  have hu : X.A.units + 1 < cLine := by have := hr.un; omega
  refine ne_K (tb := t) hu hF I.ok.mod.kin J (Z.ty _ _ I.kIn hp) hn hm hs he hf ?_
  refine wpAny_call (codeAny_mono (F.run X.A.in1 X.stack s H ⟨[.ref a, .ref b], []⟩ [.ref a, .ref b] [.ref a, .ref b] _ E hr.in1 I.env0.in1 (hb s [.ref a, .ref b] I.kIn hl) r2 q) fun r s' hq => ?_)
  cases r with
  | error e => exact hx pins τ H s e s' I hq
  | ok fl =>
    cases fl with
    | ret u =>
      obtain ⟨z', H', I', rz, c, ez, qz⟩ := I.after hq
      subst ez
      cases (show u = Value.bool c from rz)
      exact ⟨c, rfl, .bl (!c), H', I', rfl, qz⟩
    | next => exact False.elim hq
    | brk => exact False.elim hq
    | cont => exact False.elim hq
end
end K7E
end
/-! ## P14 -/
section
open PySem PySem.Spec PyProof.Rows L2
namespace K7
abbrev N_Land___eq__ : List Str := ["self", "other"]
abbrev s_Land___eq__ : Stmt := inClass (topS 19) 1
theorem sc_Land___eq__ : FnScope ["self", "other"] ["self", "other"] (defScope s_Land___eq__) := ⟨rfl, rfl, rfl, by decide +kernel, rfl, by decide +kernel, by decide +kernel⟩
/-- what the top says of lands, once more -/
structure Tk (K : PySem.W.Frag) (C fE : Addr) : Prop where
  ha : PySem.W.findIn K (.ref C) "__class__" = some (some (.builtin "object.__class__"))
  hn : PySem.W.specialIn K (.builtin "object.__class__") "__get__" = some (some (.builtin "getset_descriptor.__get__"))
  ht : PySem.W.takesIn K (.builtin "object.__class__") = some true
  hm : PySem.W.mroIn K C (.type "object") = some true
  own : PySem.W.kitOne K (.ref C) (.ref C) = some true
  eq : PySem.W.findIn K (.ref C) "__eq__" = some (some (.ref fE))
  eqF : PySem.W.isFn K (.ref fE) = true
  ne : PySem.W.findIn K (.ref C) "__ne__" = some (some (.builtin "object.__ne__"))
theorem nfC (K : PySem.W.Frag) (C : Addr) : PySem.W.notFirst K C (.ref C) = true := by simp [PySem.W.notFirst]
theorem dec_and3 (a b c : Prop) [Decidable a] [Decidable b] [Decidable c] : decide (a ∧ b ∧ c) = (decide a && (decide b && decide c)) := by
  by_cases a <;> by_cases b <;> by_cases c <;> simp_all
section
variable {P : Program} {w : World} {K : PySem.W.Frag} {mg : Str → Option Value} {base : Heap} {a : AdL} {fE : Addr}
def spEqL (C : Addr) : Sp := fun vs H Q _ => ∃ (p q : Addr) (n : Nat) (es : List (Nat × Nat)) (rd : List Nat) (m : Nat) (fs : List (Nat × Nat)) (sd : List Nat), vs = [.ref p, .ref q] ∧ LandO C H p n es rd ∧ LandO C H q m fs sd ∧ Q (.bl (decide (n = m ∧ es = fs ∧ rd = sd))) H
theorem ok_eqL (T : Tl K mg a) (T2 : Tk K a.C fE) {f : Addr} {fd : FuncData} (F : Fun K "__eq__" "Land.__eq__" s_Land___eq__ f fd) (m_isinstance : mg "isinstance" = none) : FnOk P w K mg base CX0 1 f fd ["self", "other"] (spEqL a.C) := by
  refine F.ok sc_Land___eq__ (fun vs H Q E h => ?_) (fun cdv A outer s H vs Q E hr h => ?_)
  · obtain ⟨p, q, n, es, rd, m, fs, sd, rfl, _⟩ := h
    rfl
  · obtain ⟨p, q, n, es, rd, m, fs, sd, rfl, L, M, k⟩ := h
    refine ⟨_, (pss_one (ps_ret (pe_and (pe_callB call_isi (by rfl) m_isinstance boot_isinstance (pa_cons (pv 1) (pa_cons (pe_glob (v := .ref _) rfl T.gC rfl) pa_nil))) (pe_and (pe_cmpR op_eq (pe_fld (pv 0) rfl) (pe_fld (pv 1) rfl) (nomark _)) (pe_and (pe_cmpR (op_eqD hr.units) (pe_fld (pv 0) rfl) (pe_fld (pv 1) rfl) (nomark _)) (pe_one (pe_cmpR (op_eqD hr.units) (pe_fld (pv 0) rfl) (pe_fld (pv 1) rfl) (nomark _)))))))), ?_⟩
    obtain ⟨dx, an, ar, ay, ac, tn, ty, tc, h1, h2, h3, h4, _⟩ := L.at_
    obtain ⟨dx', an', ar', ay', ac', tn', ty', tc', g1, g2, g3, g4, _⟩ := M.at_
    rw [dec_and3] at k
    refine ⟨_, rfl, _, _, _, _, _, rfl, .own _, .base (.ins g1 T.cl T2.ha T2.hn T2.ht T2.hm), T2.own, true, rfl, ?_⟩
    have en : decide (V.int (n : Nat) = V.int (m : Nat)) = decide (n = m) := decide_eq_decide.mpr ⟨fun e => by injection e with e; omega, fun e => by rw [e]⟩
    have e1 : PyData.eqv (.tuple ((pairs es).map intD)) (.tuple ((pairs fs).map intD)) = decide (es = fs) := by rw [PyData.eqv, eqv_rows]
    refine ⟨.ref p, rfl, p, a.C, dx, _, _, rfl, h1, T.cl, T.nA _ (by decide), rfl, .ref q, rfl, q, a.C, dx', _, _, rfl, g1, T.cl, T.nA _ (by decide), rfl, rfl, _, rfl, ?_⟩
    rw [en]
    cases hn : decide (n = m) with
    | false =>
      rw [hn] at k
      exact k
    | true =>
      rw [hn] at k
      refine ⟨.ref p, rfl, p, a.C, dx, _, _, rfl, h1, T.cl, T.nA _ (by decide), rfl, .ref q, rfl, q, a.C, dx', _, _, rfl, g1, T.cl, T.nA _ (by decide), rfl, _, _, .tup (.inl (.inl h2)) (dp_rows h3), .tup (.inl (.inl g2)) (dp_rows g3), shapedT_rows _, shapedT_rows _, _, rfl, ?_⟩
      rw [e1]
      cases he : decide (es = fs) with
      | false =>
        rw [he] at k
        exact k
      | true =>
        rw [he] at k
        refine ⟨.ref p, rfl, p, a.C, dx, _, _, rfl, h1, T.cl, T.nA _ (by decide), rfl, .ref q, rfl, q, a.C, dx', _, _, rfl, g1, T.cl, T.nA _ (by decide), rfl, _, _, .tup (.inl (.inl h4)) (dp_ints rd), .tup (.inl (.inl g4)) (dp_ints sd), shaped_ints rd, shaped_ints sd, ?_⟩
        show Q (.bl (PyData.eqv (intD rd) (intD sd))) H
        rw [eqv_intD]
        exact k
/-! a new land -/
theorem new_land {H1 : Hp} {Q : VK} {E : XK} {n : Nat} {an : Addr} {ts : List Addr} {cs : List (Nat × Nat)} {ar : Addr} {lot : List Nat} (n2 : 2 ≤ n) (n5 : n ≤ 5) (han : SqOf H1 an (ts.map V.ref)) (hT : CoAll H1 ts cs) (hc : Cos n cs) (cn : KL.Conn n cs) (har : SqOf H1 ar (ints_ lot)) (llt : ∀ c ∈ lot, c < n) (lnd : lot.Nodup) (l0 : 0 < lot.length) (ln : lot.length < n)
    (q : ∀ H' x es rd, Same H1 H' → H1 x = none → LandO a.C H' x n es rd → es.Perm (cs.map KL.srt) → rd.Perm lot → Q (.ref x) H') :
    ∀ x dx, H1 x = none → H1 dx = none → dx ≠ x → spLandI a (.ref x :: ([.int (n : Nat), .ref an, .ref ar] ++ [])) (upd (upd H1 dx (.own x)) x (.ins a.C dx [])) (fun v H2 => v = .non ∧ Q (.ref x) H2) E := by
  intro x dx hx hdx hne
  have e : Same H1 (upd (upd H1 dx (.own x)) x (.ins a.C dx [])) := same_new (same_new (Same.refl H1) hdx) (by rw [upd_ne hne.symm]; exact hx)
  refine ⟨x, dx, n, an, ts, cs, ar, lot, rfl, upd_same, n2, n5, han.same e, hT.same e, hc, cn, har.same e, llt, lnd, l0, ln, fun H' es rd b L pe pr => ⟨rfl, q H' x es rd (fun z o hz => ?_) hx L pe pr⟩⟩
  exact b z o (ne_of_none hz hx) (e _ _ hz)
theorem es_is {n : Nat} {es cs : List (Nat × Nat)} (ok : LandOk n es) (p : es.Perm cs) (hs : cs.Pairwise KL.lexLe) : es = cs := KL.uniq KL.lex_anti p (ok.sorted.imp fun h => h) hs
theorem rd_is {rd lot : List Nat} (hr : rd.Pairwise (· ≤ ·)) (p : rd.Perm lot) (hs : lot.Pairwise (· ≤ ·)) : rd = lot := KL.uniq (fun a b (h1 : a ≤ b) (h2 : b ≤ a) => Nat.le_antisymm h1 h2) p hr hs
end
end K7
end
/-! ## SL -/
section
open PySem PySem.Spec PyProof.Rows L2
namespace K7
theorem al {H : Hp} {o : HO} {b : Addr} (nb : H b = none) : Same H (upd H b o) := same_new (Same.refl H) nb
theorem notHand_refs : ∀ ts : List Addr, notHand (ts.map V.ref) = true
  | [] => rfl
  | [_] => rfl
  | [_, _] => rfl
  | [_, _, _] => rfl
  | [_, _, _, _] => rfl
  | _ :: _ :: _ :: _ :: _ :: _ => by rfl
theorem notHand_ints : ∀ ts : List Nat, notHand (ints_ ts) = true
  | [] => rfl
  | [_] => rfl
  | [_, _] => rfl
  | [_, _, _] => rfl
  | [_, _, _, _] => rfl
  | _ :: _ :: _ :: _ :: _ :: _ => by rfl
section
variable {h c : Addr} {H H' : Hp}
theorem Stay.tup {b : Addr} {xs : List V} (x : Stay h c H H') (hb : H b = some (.tup xs)) : H' b = some (.tup xs) := x.but b _ (x.hand0.net hb) hb
theorem Stay.tat (x : Stay h c H H') {ts : List Addr} {ls : List (List Nat)} (t : TAt H ts ls) : TAt H' ts ls := t.mono fun b xs hb => x.tup hb
theorem Stay.la (x : Stay h c H H') {q : Addr} {n : Nat} {es : List (Nat × Nat)} {lot : List Nat} (L : LandAt H q n es lot) : LandAt H' q n es lot := by
  obtain ⟨rA, sA, ts, h1, h2, h3, h4⟩ := L.at_
  exact ⟨⟨rA, sA, ts, x.tup h1, x.lst h2 (notHand_refs _), x.tat h3, x.lst h4 (notHand_ints _)⟩, L.ok, L.lot⟩
theorem Stay.lo (x : Stay h c H H') {C p : Addr} {n : Nat} {es : List (Nat × Nat)} {rd : List Nat} (L : LandO C H p n es rd) : LandO C H' p n es rd := by
  obtain ⟨dx, an, ar, ay, ac, tn, ty, tc, h1, h2, h3, h4, h5, h6, h7, h8⟩ := L.at_
  exact ⟨⟨dx, an, ar, ay, ac, tn, ty, tc, x.but p _ (x.hand0.nei h1) h1, x.tup h2, x.tat h3, x.tup h4, x.tup h5, x.tat h6, x.tup h7, x.tat h8⟩, L.n2, L.n5, L.ok, L.rlt, L.rnd, L.rso, L.r0, L.rn⟩
end
theorem es_len {n : Nat} {es : List (Nat × Nat)} (ok : LandOk n es) (hn : n ≤ 5) : es.length ≤ 32 := by
  have z := K7E.nodup_le es ((List.range 5).flatMap fun a => (List.range 5).map fun b => (a, b)) ok.nd fun e he => by
    obtain ⟨a, b⟩ := e
    obtain ⟨l1, l2⟩ := ok.lt _ he
    have l1 : a < b := l1
    have l2 : b < n := l2
    exact List.mem_flatMap.mpr ⟨a, List.mem_range.mpr (by omega), List.mem_map.mpr ⟨b, List.mem_range.mpr (by omega), rfl⟩⟩
  have e : ((List.range 5).flatMap fun a => (List.range 5).map fun b => (a, b)).length = 25 := by decide
  rw [e] at z
  omega

theorem co_lit {H : Hp} {ts : List Addr} {cs : List (Nat × Nat)} (h : TAt H ts (pairs cs)) : CoAll H ts cs := by
  refine ⟨by rw [h.len]; unfold pairs; rw [List.length_map], fun i t c ht hc => ?_⟩
  obtain ⟨l, el, hl⟩ := h.get ht
  unfold pairs at el
  rw [List.getElem?_map, hc] at el
  obtain rfl := Option.some.inj el
  exact .inl hl
theorem lot_lt {n : Nat} (hn : n ≤ 5) {lot : List Nat} (h : lot ∈ lotsTo (List.range n) n) : (∀ c ∈ lot, c < n) ∧ lot.Pairwise (· < ·) := by
  have all : ∀ n : Fin 6, (lotsTo (List.range n.val) n.val).all (fun l => l.all (fun c => decide (c < n.val)) && decide (l.Pairwise (· < ·))) = true := by decide +kernel
  have z := List.all_eq_true.mp (all ⟨n, by omega⟩) lot h
  obtain ⟨z1, z2⟩ := Bool.and_eq_true_iff.mp z
  exact ⟨fun c hc => of_decide_eq_true (List.all_eq_true.mp z1 c hc), of_decide_eq_true z2⟩
theorem srt_map {n : Nat} {es : List (Nat × Nat)} (ok : LandOk n es) : es.map KL.srt = es := by
  refine (List.map_congr_left fun e he => ?_).trans (List.map_id es)
  exact KL.srt_of (ok.lt e he).1
theorem cos_es {n : Nat} {es : List (Nat × Nat)} (ok : LandOk n es) (hn : n ≤ 5) : Cos n es := by
  refine ⟨fun c hc => ?_, by rw [srt_map ok]; exact ok.nd, es_len ok hn⟩
  obtain ⟨l1, l2⟩ := ok.lt c hc
  exact ⟨by omega, l2, by omega⟩

end K7
end
/-! ## E3 -/
section
namespace PySem
open PySem PySem.Spec PyProof.Rows
theorem k7_meets_enumerate_newT (l : Addr) (items : Array Value) (n : Nat) (dct : Option Addr) (sl : Array (Option Value)) :
    Meets (Builtin.«enumerate.__new__» ⟨[.type "enumerate", .ref l], []⟩) (fun _ R s => s.heap.get? l = some { cls := .type "tuple", dict := dct, data := .seq items n, slots := sl } ∧
      R (.ok (.ret (.ref (s.heap.push { cls := .type "tuple_iterator", data := .fields #[.ref l, .int 0 0] }).objs.size)))
        { s with heap := (s.heap.push { cls := .type "tuple_iterator", data := .fields #[.ref l, .int 0 0] }).push { cls := .type "enumerate", data := .fields #[.none, .bool false, .ref s.heap.objs.size, rawInt 0, .none, .none] } }) :=
  .of_wp fun prog w A R s h => by
    obtain ⟨hp, g, d, tk, os⟩ := s; obtain ⟨hl, h⟩ := h
    have hsub := sub_enumerate
    have hL : Heap.IsTuple (Shared.heap ⟨hp, g, d, tk, os⟩) l items := ⟨_, hl, rfl, n, rfl⟩
    wp_walk using AutoSeq1.wpAny_loadPart' hl
    refine wpAny_stack_any fun st => wpAny_pure ?_
    split
    · rename_i c _ _ _ _ _
      cases (c == Value.type "enumerate")
      · wp_walk using AutoSeq1.wpAny_loadPart' hl, wpAny_pyIter_tuple hL
        exact ⟨_, rfl, h⟩
      · wp_walk using AutoSeq1.wpAny_loadPart' hl, wpAny_pyIter_tuple hL
        exact ⟨_, rfl, h⟩
    · wp_walk using AutoSeq1.wpAny_loadPart' hl, wpAny_pyIter_tuple hL
      exact ⟨_, rfl, h⟩
theorem k7_call_enumerate_tuple {prog : Program} {w : World} {A : Around} {E : Value → Shared → Prop} {s : Shared} {l : Addr} {items : Array Value} {Q : Value → Shared → Prop} (hL : s.heap.IsTuple l items)
    (h : ∀ h', IsEnum h' (s.heap.objs.size + 1) s.heap.objs.size 0 .none → h'.IsTupleIter s.heap.objs.size l 0 → h'.objs.size = s.heap.objs.size + 2 →
      (∀ b o, s.heap.get? b = some o → h'.get? b = some o) → Q (.ref (s.heap.objs.size + 1)) { s with heap := h' }) :
    wpAny (model prog w) A (call (.type "enumerate") [.ref l]) Q E s := by
  obtain ⟨⟨c, dct, dt, sl⟩, hl, hc, n, hd⟩ := hL
  replace hc : c = .type "tuple" := hc
  replace hd : dt = .seq items n := hd
  subst hc hd
  refine callType_new F.called_enumerate (by decide) (F.typeCall_enumerate_1 _) (F.newCall_enumerate_1 _) (fun obj => F.args_object_init_2 obj _) F.entry_enumerate_new
    (k7_meets_enumerate_newT l items n dct sl) ⟨hl, ?_⟩
  have hz : (s.heap.push { cls := .type "tuple_iterator", data := .fields #[.ref l, .int 0 0] }).objs.size = s.heap.objs.size + 1 := Heap.size_push ..
  show _ ∧ _
  rw [hz]
  have he : IsEnum ((s.heap.push { cls := .type "tuple_iterator", data := .fields #[.ref l, .int 0 0] }).push
      { cls := .type "enumerate", data := .fields #[.none, .bool false, .ref s.heap.objs.size, rawInt 0, .none, .none] }) (s.heap.objs.size + 1) s.heap.objs.size 0 .none := by
    have := Heap.get?_push_size (s.heap.push { cls := .type "tuple_iterator", data := .fields #[.ref l, .int 0 0] })
      (o := { cls := .type "enumerate", data := .fields #[.none, .bool false, .ref s.heap.objs.size, rawInt 0, .none, .none] }) rfl
    rw [hz] at this; exact this
  refine ⟨⟨_, he, rfl⟩, h _ he ⟨_, Heap.get?_push_of_some _ (Heap.get?_push_size _ rfl), rfl, rfl⟩ (by rw [Heap.size_push, hz]) fun b o x => Heap.get?_push_of_some _ (Heap.get?_push_of_some _ x)⟩
end PySem
namespace K7E
open PySem PySem.Spec PyProof.Rows L2
/-- the tuple at a as it stands at each turn, each item in a new pair -/
def IteT (K : PySem.W.Frag) (a : Addr) : It :=
  ⟨fun i H => ∃ (xs : List V) (x : V), SqT K H a xs ∧ xs[i]? = some x, fun i H v H' => ∃ T x, v = .ref T ∧ H T = none ∧ H' = upd H T (.tup [.int (i : Nat), x]) ∧ ∀ xs, SqT K H a xs → xs[i]? = some x, fun i H => ∃ xs : List V, SqT K H a xs ∧ xs.length = i⟩
theorem tup_ne {h : Heap} {a it : Addr} {items : Array Value} {i : Nat} (p : h.IsTuple a items) (q : h.IsTupleIter it a i) : a ≠ it := by
  intro e
  subst e
  obtain ⟨o, ho, hc, _⟩ := p
  obtain ⟨o2, ho2, hc2, _⟩ := q
  rw [ho] at ho2
  cases ho2
  rw [hc] at hc2
  exact absurd (Value.type.inj hc2) (by decide)
theorem turn_enumT {P : Program} {w : World} {K : PySem.W.Frag} {elts : List Expr} {kk : Nat} {tpos : Pos} (a e it : Addr) :
    Turn P w K (.Tuple elts kk tpos) (IteT K a) [e, it] e (fun i h => (∃ old, IsEnum h e it ((i : Nat) : Int) old) ∧ h.IsTupleIter it a i ∧ e ≠ it) where
  mem := by simp
  obj := fun i h st b hb => by
    obtain ⟨⟨old, he⟩, ⟨o, ho, hc, hd⟩, _⟩ := st
    have e' : b = e ∨ b = it := by simpa using hb
    rcases e' with z | z
    · rw [z]; exact ⟨_, he, fun v q => nomatch q⟩
    · rw [z]; exact ⟨o, ho, fun v q => by rw [hd] at q; cases q⟩
  keep := fun i h h' st k => let ⟨⟨old, he⟩, hi, hne⟩ := st; ⟨⟨old, k e (by simp) _ he⟩, hi.at fun o q => k it (by simp) o q, hne⟩
  item := by
    intro X hP hw hK hc i pins s σ H E I hf st hg
    subst hP hw hK
    obtain ⟨⟨old, he⟩, hit, hne⟩ := st
    obtain ⟨xs, x, hq, hx⟩ := hg
    obtain ⟨its, rv, p, hz⟩ := I.tuple hq
    obtain ⟨u, hu, ru⟩ := rv.get hx
    have hel : e < s.heap.objs.size := Heap.lt_size he
    have hil : it < s.heap.objs.size := by obtain ⟨_, q, _⟩ := hit; exact Heap.lt_size q
    have hat : a ≠ it := tup_ne p hit
    have hae : e ≠ a := fun q => by
      subst q
      obtain ⟨o, ho, hc', _⟩ := p
      rw [show s.heap.get? e = _ from he] at ho
      cases ho
      exact absurd (Value.type.inj hc') (by decide)
    have hlt : i < its.toArray.size := by
      have := (List.getElem?_eq_some_iff.mp hu).1
      simpa using this
    refine wpAny_pyNext_enum_itemD (Draws.tuple (A := X.A.in1) (I.ok.hd hc) it a hat its.toArray) he ⟨hit, p⟩ hlt hne (by simp [hne, hae]) fun u' h' tk hP ho hit' hT hsz hk => ?_
    have eu : u' = u := by
      have h1 : its.toArray[i]? = some u := by simpa using hu
      exact Option.some.inj (hP.symm.trans h1)
    subst eu
    refine ⟨_, rfl, wpAny_letOwnedTupleGo_enum (s := { s with heap := h', toks := tk + 1 }) ho fun h'' he' sb => ?_⟩
    have hT2 : h''.get? s.heap.objs.size = some { cls := .type "tuple", data := .seq #[.int i tk, u'] } := (sb.2 _ (Nat.ne_of_gt hel)).trans hT
    have new : ObjOk X.prog X.w (upd H s.heap.objs.size (.tup [.int (i : Nat), x])) h'' s.heap.objs.size (.tup [.int (i : Nat), x]) :=
      ⟨by show 2 ≤ sizeLine; decide, [.int i tk, u'], .cons ⟨_, rfl⟩ (.cons ru .nil), ⟨_, hT2, rfl, _, rfl⟩⟩
    have I1 : Inv X pins σ (upd H s.heap.objs.size (.tup [.int (i : Nat), x])) { s with heap := h'', toks := tk + 1 } :=
      I.turnedNew (ch := [e, it]) (fun b ob hb q => (sb.2 b (fun z => hb (by simp [z]))).trans (hk b ob (fun z => hb (by simp [z])) (fun z => hb (by simp [z])) q)) hf (Nat.le_refl _) new
    refine ⟨.ref s.heap.objs.size, _, I1, rfl, ⟨_, x, rfl, I.hok.fresh (Nat.le_refl _), rfl, fun ys hy => by rw [I.tuple_inj hy hq]; exact hx⟩, ⟨⟨u', ?_⟩, hit'.1.at fun o q => (sb.2 it (Ne.symm hne)).trans q, hne⟩, fun b hb => ?_⟩
    · have e1 : ((i + 1 : Nat) : Int) = (i : Int) + 1 := by omega
      rw [e1]; exact he'
    · have hb' : b < s.heap.objs.size := by
        have e' : b = e ∨ b = it := by simpa using hb
        rcases e' with z | z
        · rw [z]; exact hel
        · rw [z]; exact hil
      rw [upd_ne (Nat.ne_of_lt hb')]
      exact (hf b hb).1
  done := by
    intro X hP hw hK hc i pins s σ H E I hf st hg
    subst hP hw hK
    obtain ⟨⟨old, he⟩, hit, hne⟩ := st
    obtain ⟨xs, hq, hx⟩ := hg
    obtain ⟨its, rv, p, hz⟩ := I.tuple hq
    obtain ⟨f0, f1, f2, f3, f4, f5⟩ := hf it (by simp)
    have hl := rv.length
    have hat : a ≠ it := tup_ne p hit
    have en : its.toArray.size = i := by simp; omega
    exact wpAny_pyNext_enum_endD (Draws.tuple (A := X.A.in1) (I.ok.hd hc) it a hat its.toArray) he ⟨by rw [en]; exact hit, p⟩ fun h' eb => ⟨rfl, I.turned (t' := s.toks) (fun b o hb q => eb b o hb q) f0 f1 f3 f4 f5⟩
  self := fun A i s Q E st h => let ⟨⟨_, he⟩, _⟩ := st; wpAny_pyIter_enum he h
def iEnumT (K : PySem.W.Frag) (ta : TA) : TI := fun σ H R => ta σ H fun vs H1 => ∃ a xs, vs = [.ref a] ∧ SqT K H1 a xs ∧ R (IteT K a) H1
theorem pi_enumT {X : Cx} {e : Expr} {ta : TA} {p pos tpos : Pos} {elts : List Expr} {kk : Nat} (hg : Gl X "enumerate") (hm : X.mg "enumerate" = none) (ha : PA X [e] ta) (hs : starEach [e] X.env = [(false, eval e X.env)] := by rfl) :
    PI X (.Tuple elts kk tpos) (.Call (.Name "enumerate" p) [e] [] pos) (iEnumT X.K ta) := by
  refine ⟨fun pins s σ H R I h => ?_⟩
  refine Call_ (ld_blt I hg hm boot_enumerate (PyProof.Rows.callWith_type1 (thn (ha.run pos pins s σ H _ I h) fun us s1 ⟨vs, H1, I1, r1, q1⟩ => ?_) hs rfl))
  obtain ⟨a, xs, ex, hq, q⟩ := q1
  subst ex
  cases r1 with
  | cons r rr =>
    cases rr
    cases r
    obtain ⟨its, rv, p', hz⟩ := I1.tuple hq
    refine k7_call_enumerate_tuple p' fun h' he hit hsz hk => wpAny_pyIter_enum he ?_
    have I2 : Inv X pins σ H1 { s1 with heap := h' } := I1.kept (t' := s1.toks) hk
    refine ⟨s1.heap.objs.size + 1, [s1.heap.objs.size + 1, s1.heap.objs.size], _, _, H1, rfl, I2, turn_enumT a (s1.heap.objs.size + 1) s1.heap.objs.size, ⟨⟨.none, he⟩, hit, Nat.succ_ne_self _⟩, fun b hb => ?_, q⟩
    have e' : b = s1.heap.objs.size + 1 ∨ b = s1.heap.objs.size := by simpa using hb
    have hle : s1.heap.objs.size ≤ b := by
      rcases e' with z | z
      · rw [z]; exact Nat.le_add_right _ _
      · rw [z]; exact Nat.le_refl _
    exact I1.fpOk hle (I1.hok.fresh hle)
theorem walk_enumT {K : PySem.W.Frag} {a : Addr} {xs : List V} : Walk (IteT K a) xs.length (fun H => SqT K H a xs) (YPair (fun i => some (.int (i : Nat))) (fun i => xs[i]?)) :=
  ⟨fun i H hi hq => ⟨xs, _, hq, List.getElem?_eq_getElem hi⟩, fun H hq => ⟨xs, hq, rfl⟩, fun i H v H' hi hq hy => by
    obtain ⟨T, x, rfl, nT, rfl, f⟩ := hy
    exact ⟨T, _, x, rfl, nT, rfl, rfl, f _ hq⟩⟩
end K7E
end
/-! ## EVL -/
section
open PySem PySem.Spec PyProof.Rows L2
namespace K7E
/-- a comprehension of two «for»: the outer one over a list -/
theorem out_list {K : PySem.W.Frag} {a : Addr} {xs : List V} {g : TG} {tt : TT} {inner : (Hp → Prop) → L2.St → Hp → Prop} {vs : List Nat} {τ : L2.St} {H1 : Hp} {D : Addr} {Qd : Hp → Prop} (Pv : Nat → Hp → Prop) (h0 : Pv 0 (upd H1 D (.lst []))) (hl : ∀ i H, i ≤ xs.length → Pv i H → SqL K H a xs)
    (hs : ∀ i x H, xs[i]? = some x → Pv i H → g x (wipe τ vs) H fun t2 H2 => wipe t2 vs = wipe τ vs ∧ tt t2 H2 fun b H3 => if b = true then inner (Pv (i + 1)) t2 H3 else Pv (i + 1) H3) (hd : ∀ H, Pv xs.length H → Qd H) :
    ∃ W : Nat → Nat → Hp → Prop, (∃ m, W 0 m (upd H1 D (.lst []))) ∧ ∀ i m H, W i m H → ((Itl K a).stop i H ∧ Qd H) ∨ ((Itl K a).go i H ∧ ∃ Nx : Hp → Prop, (∀ H', Nx H' → ∃ m', m' < m ∧ W (i + 1) m' H') ∧
      ∀ x H', (Itl K a).yld i H x H' → g x (wipe τ vs) H' fun t2 H2 => wipe t2 vs = wipe τ vs ∧ tt t2 H2 fun b H3 => if b = true then inner Nx t2 H3 else Nx H3) := by
  refine ⟨fun i m H => m = xs.length - i ∧ i ≤ xs.length ∧ Pv i H, ⟨xs.length, by simp, Nat.zero_le _, h0⟩, ?_⟩
  rintro i m H ⟨rfl, hi, p⟩
  have q := hl i H hi p
  by_cases hlt : i < xs.length
  · refine .inr ⟨⟨xs, xs[i], q, by simp [hlt]⟩, Pv (i + 1), fun H' p' => ⟨xs.length - (i + 1), by omega, rfl, hlt, p'⟩, fun x H' y => ?_⟩
    obtain ⟨e, y⟩ := y
    subst e
    exact hs i x _ (y xs q) p
  · have e : i = xs.length := by omega
    subst e
    exact .inl ⟨⟨xs, q, Nat.le_refl _⟩, hd H p⟩
/-- one of two readings, by a name -/
def tEi (t1 t2 : TE) : TE := fun σ H Q => t1 σ H Q ∨ t2 σ H Q
theorem pe_ei {X : Cx} {e : Expr} {t1 t2 : TE} (a : PE X e t1) (b : PE X e t2) : PE X e (tEi t1 t2) := ⟨fun pins s σ H Q I h => h.elim (a.run pins s σ H Q I) (b.run pins s σ H Q I)⟩
end K7E
end
/-! ## P15 -/
section
open PySem PySem.Spec PyProof.Rows L2
namespace K7
abbrev N__are_hands : List Str := ["land", "thing", "hand"]
abbrev s__are_hands : Stmt := topS 26
theorem sc__are_hands : FnScope ["land", "thing", "hand"] ["land", "thing"] (defScope s__are_hands) := ⟨rfl, rfl, rfl, by decide +kernel, rfl, by decide +kernel, by decide +kernel⟩
abbrev N_is_row : List Str := ["land", "a", "thing", "word"]
abbrev s_is_row : Stmt := topS 27
theorem sc_is_row : FnScope ["land", "a", "thing", "word"] ["land", "a", "thing"] (defScope s_is_row) := ⟨rfl, rfl, rfl, by decide +kernel, rfl, by decide +kernel, by decide +kernel⟩
/-! ### words of standings -/
def wd : Nat → Str
  | 0 => "none"
  | 1 => "awake"
  | 2 => "needed"
  | _ => "asleep"
def wds (row : List Nat) : List V := row.map fun k => .str (wd k)
def stds : List V := [.str "none", .str "awake", .str "needed", .str "asleep"]
theorem wds_snoc (l : List Nat) (k : Nat) : wds (l ++ [k]) = wds l ++ [.str (wd k)] := by
  unfold wds
  rw [List.map_append]
  rfl
theorem wd_in (k : Nat) : inV (.str (wd k)) stds = true := by
  match k with
  | 0 => decide +kernel
  | 1 => decide +kernel
  | 2 => decide +kernel
  | k + 3 =>
    show inV (.str "asleep") stds = true
    decide +kernel
/-- what the top says of states -/
structure T5s (K : PySem.W.Frag) (mg : Str → Option Value) (aST aRI : Addr) (tH : Tok) : Prop where
  gST : mg "STANDINGS" = some (.ref aST)
  gRI : mg "RIGHTS" = some (.ref aRI)
  gH : mg "MOST_HAND" = some (.int (10 ^ 30) tH)
  sST : ∀ H, SqT K H aST stds
  sRI : ∀ H, SqT K H aRI [.str "awake", .str "needed"]
section
variable {P : Program} {w : World} {K : PySem.W.Frag} {mg : Str → Option Value} {base : Heap} {a : AdL} {aST aRI : Addr} {tH : Tok}
def spAreH (C : Addr) : Sp := fun vs H Q _ => ∃ (l t : Addr) (n : Nat) (hs : List Nat), vs = [.ref l, .ref t] ∧ LandC C H l n ∧ n ≤ 5 ∧ SqOf H t (ints_ hs) ∧ hs.length = n ∧ (∀ x ∈ hs, x ≤ 10 ^ 30) ∧ ∀ H', Same H H' → Q (.bl true) H'
theorem ok_areh (T : Tl K mg a) (T5 : T5s K mg aST aRI tH) {f fS fW : Addr} {fd fdS fdW : FuncData} (F : Fun K "_are_hands" "_are_hands" s__are_hands f fd)
    (Gsq : FnOk P w K mg base CX0 1 fS fdS ["thing"] (spSeq K)) (gsq : mg "is_sequence" = some (.ref fS)) (ksq : PySem.W.keepIn K (.ref fS) = true) (bsq : Binds K fdS ["thing"] [])
    (Giw : FnOk P w K mg base CX0 1 fW fdW ["thing", "low", "high"] spWhole) (giw : mg "is_whole" = some (.ref fW)) (kiw : PySem.W.keepIn K (.ref fW) = true) (biw : Binds K fdW ["thing", "low", "high"] [])
    (m_len : mg "len" = none) (m_all : mg "all" = none) : FnOk P w K mg base CX0 2 f fd ["land", "thing"] (spAreH a.C) := by
  refine F.ok sc__are_hands (fun vs H Q E h => ?_) (fun cdv A outer s H vs Q E hr h => ?_)
  · obtain ⟨l, t, n, hs, rfl, _⟩ := h
    rfl
  · obtain ⟨l, t, n, hs, rfl, ⟨dx, fs, hp, hlk⟩, n5, ht, hl, hm, q⟩ := h
    refine ⟨_, (pss_cons (ps_if (pw_or (pt_not (pt_val (pe_call Gsq (hr.mono (by decide)) (by rfl) gsq ksq bsq .nil pass0 (pa_cons (pv 1) pa_nil)))) (pw_or1 (pt_cmpR op_ne (pe_callB call_len_seq (by rfl) m_len boot_len (pa_cons (pv 1) pa_nil)) (pe_fld (pv 0) rfl) (nomark _)))).pt
  (pss_one (ps_ret pe_bl))
  pss_nil)
 (pss_one (ps_ret (pe_callB (cr_all rfl) (by rfl) m_all boot_all (pa_cons (pe_lc (own := [("hand", 2)]) (g := gName 2) (tt := tYes) rfl sc__are_hands.nd (K7E.pi_either (pi_tup (pv 1)) (pi_list (pv 1))) (blkOk_by (own := [("hand", 2)]) (N := N__are_hands) (sc := defScope s__are_hands) (by decide +kernel)) (fun _ _ _ _ _ => (pg_name (i := 2) sc__are_hands.nd rfl (by first | exact Or.inl rfl | exact Or.inr rfl))) (fun _ _ _ _ _ => pts_nil) (fun _ _ _ _ _ => (pe_call Giw (hr.mono (by decide)) (by rfl) giw kiw biw .nil pass0 (pa_cons (pv 2) (pa_cons pe_int (pa_cons (pe_glob (v := .int _) rfl T5.gH ⟨_, rfl⟩) pa_nil)))))) pa_nil))))), ?_⟩
    obtain ⟨ty, tyx, kk⟩ := ht.ty (K := K)
    have il : (ints_ hs).length = n := by unfold ints_; rw [List.length_map, hl]
    refine ⟨_, rfl, _, ty, true, rfl, tyx, kk, fun H1 e1 => ⟨_, rfl, ?_⟩⟩
    refine iteF ⟨_, rfl, t, _, rfl, (ht.same e1).sq, _, rfl, l, a.C, dx, fs, _, rfl, e1 _ _ hp, T.cl, T.nA _ (by decide), hlk, rfl, _, rfl, ?_⟩
    rw [il, decide_eq_true rfl]
    refine iteFo rfl ?_
    have ht1 := ht.same e1
    rcases ht1 with z | z
    · refine .inl ⟨_, rfl, t, rfl, ⟨_, .inl (.inl z)⟩, fun D hD => lc_tup (xs := ints_ hs) (fun j H2 => Same H1 H2 ∧ ∃ bs : List Bool, H2 D = some (.lst (bs.map V.bl)) ∧ bs.all id = true ∧ bs.length = j) ⟨al hD, [], upd_same, rfl, rfl⟩ (fun j H2 _ pv => .inl (.inl (pv.1 _ _ z))) (fun j x H2 hx pv => ?_) (fun H2 pv => ?_)⟩
      · obtain ⟨e2, bs, hD2, hb, lb⟩ := pv
        have hjx := (List.getElem?_eq_some_iff.mp hx).1
        rw [il] at hjx
        unfold ints_ at hx
        rw [List.getElem?_map] at hx
        obtain ⟨y, hy, rfl⟩ := Option.map_eq_some_iff.mp hx
        have hy2 := hm y (List.mem_of_getElem? hy)
        refine ⟨rfl, _, rfl, _, 0, 10 ^ 30, rfl, .flat (.int _), ?_⟩
        rw [wholeV_int, decide_eq_true (by omega), decide_eq_true (by omega)]
        refine ⟨_, hD2, by rw [List.length_map]; exact small1000 (by omega), fun b o hb => ?_, bs ++ [true], ?_, ?_, by rw [List.length_append, lb]; rfl⟩
        · rw [upd_ne (ne_of_none hb hD)]
          exact e2 _ _ hb
        · rw [upd_same, List.map_append]
          rfl
        · rw [List.all_append, hb]
          rfl
      · obtain ⟨e2, bs, hD2, hb, lb⟩ := pv
        refine ⟨D, bs, rfl, .inl (.inl hD2), ?_⟩
        rw [hb]
        exact q _ (e1.trans e2)
    · refine .inr ⟨_, rfl, t, rfl, ⟨_, .inl (.inl z)⟩, fun D hD => lc_list (xs := ints_ hs) (fun j H2 => Same H1 H2 ∧ ∃ bs : List Bool, H2 D = some (.lst (bs.map V.bl)) ∧ bs.all id = true ∧ bs.length = j) ⟨al hD, [], upd_same, rfl, rfl⟩ (fun j H2 _ pv => .inl (.inl (pv.1 _ _ z))) (fun j x H2 hx pv => ?_) (fun H2 pv => ?_)⟩
      · obtain ⟨e2, bs, hD2, hb, lb⟩ := pv
        have hjx := (List.getElem?_eq_some_iff.mp hx).1
        rw [il] at hjx
        unfold ints_ at hx
        rw [List.getElem?_map] at hx
        obtain ⟨y, hy, rfl⟩ := Option.map_eq_some_iff.mp hx
        have hy2 := hm y (List.mem_of_getElem? hy)
        refine ⟨rfl, _, rfl, _, 0, 10 ^ 30, rfl, .flat (.int _), ?_⟩
        rw [wholeV_int, decide_eq_true (by omega), decide_eq_true (by omega)]
        refine ⟨_, hD2, by rw [List.length_map]; exact small1000 (by omega), fun b o hb => ?_, bs ++ [true], ?_, ?_, by rw [List.length_append, lb]; rfl⟩
        · rw [upd_ne (ne_of_none hb hD)]
          exact e2 _ _ hb
        · rw [upd_same, List.map_append]
          rfl
        · rw [List.all_append, hb]
          rfl
      · obtain ⟨e2, bs, hD2, hb, lb⟩ := pv
        refine ⟨D, bs, rfl, .inl (.inl hD2), ?_⟩
        rw [hb]
        exact q _ (e1.trans e2)
theorem wds_flat (row : List Nat) : (wds row).all flatV = true := by
  refine List.all_eq_true.mpr fun x hx => ?_
  obtain ⟨k, _, rfl⟩ := List.mem_map.mp hx
  rfl
theorem str_eqv : PyData.eqv (.str (wd 0)) (.str "none") = true := by decide +kernel
theorem none_shaped : SeqAt.shaped (.str (wd 0)) = true := by decide +kernel
def spIsRow (C : Addr) : Sp := fun vs H Q _ => ∃ (l t : Addr) (n b : Nat) (row : List Nat), vs = [.ref l, .int (b : Nat), .ref t] ∧ LandC C H l n ∧ n ≤ 5 ∧ SqOf H t (wds row) ∧ row.length = n ∧ row[b]? = some 0 ∧ ∀ H', Same H H' → Q (.bl true) H'
theorem ok_isrow (T : Tl K mg a) (T5 : T5s K mg aST aRI tH) {f fS : Addr} {fd fdS : FuncData} (F : Fun K "is_row" "is_row" s_is_row f fd)
    (Gsq : FnOk P w K mg base CX0 1 fS fdS ["thing"] (spSeq K)) (gsq : mg "is_sequence" = some (.ref fS)) (ksq : PySem.W.keepIn K (.ref fS) = true) (bsq : Binds K fdS ["thing"] [])
    (m_len : mg "len" = none) (m_all : mg "all" = none) : FnOk P w K mg base CX0 2 f fd ["land", "a", "thing"] (spIsRow a.C) := by
  refine F.ok sc_is_row (fun vs H Q E h => ?_) (fun cdv A outer s H vs Q E hr h => ?_)
  · obtain ⟨l, t, n, b, row, rfl, _⟩ := h
    rfl
  · obtain ⟨l, t, n, b, row, rfl, ⟨dx, fs, hp, hlk⟩, n5, ht, hl, h0, q⟩ := h
    refine ⟨_, (pss_cons (ps_if (pw_or (pt_not (pt_val (pe_call Gsq (hr.mono (by decide)) (by rfl) gsq ksq bsq .nil pass0 (pa_cons (pv 2) pa_nil)))) (pw_or1 (pt_cmpR op_ne (pe_callB call_len_seq (by rfl) m_len boot_len (pa_cons (pv 2) pa_nil)) (pe_fld (pv 0) rfl) (nomark _)))).pt
  (pss_one (ps_ret pe_bl))
  pss_nil)
 (pss_one (ps_ret (pe_and (pe_callB (cr_all rfl) (by rfl) m_all boot_all (pa_cons (pe_lc (own := [("word", 3)]) (g := gName 3) (tt := tYes) rfl sc_is_row.nd (K7E.pi_either (pi_tup (pv 2)) (pi_list (pv 2))) (blkOk_by (own := [("word", 3)]) (N := N_is_row) (sc := defScope s_is_row) (by decide +kernel)) (fun _ _ _ _ _ => (pg_name (i := 3) sc_is_row.nd rfl (by first | exact Or.inl rfl | exact Or.inr rfl))) (fun _ _ _ _ _ => pts_nil) (fun _ _ _ _ _ => (pe_cmpR (show OpR _ _ (rIn K false) from op_in_seq) (pv 3) (pe_glob (v := .ref _) rfl T5.gST rfl) (by with_unfolding_all rfl)))) pa_nil)) (pe_one (pe_cmpR (op_eqD hr.units) (K7E.pe_ei (pe_ix ix_tup (pv 2) (pv 1) (fun _ _ => rfl)) (pe_ix ix_list (pv 2) (pv 1) (fun _ _ => rfl))) pe_str (nomark _))))))), ?_⟩
    obtain ⟨ty, tyx, kk⟩ := ht.ty (K := K)
    have il : (wds row).length = n := by unfold wds; rw [List.length_map, hl]
    refine ⟨_, rfl, _, ty, true, rfl, tyx, kk, fun H1 e1 => ⟨_, rfl, ?_⟩⟩
    refine iteF ⟨_, rfl, t, _, rfl, (ht.same e1).sq, _, rfl, l, a.C, dx, fs, _, rfl, e1 _ _ hp, T.cl, T.nA _ (by decide), hlk, rfl, _, rfl, ?_⟩
    rw [il, decide_eq_true rfl]
    refine iteFo rfl ?_
    have ht1 := ht.same e1
    have at0 : (wds row)[b]? = some (.str (wd 0)) := by
      unfold wds
      rw [List.getElem?_map, h0]
      rfl
    rcases ht1 with z | z
    · refine .inl ⟨_, rfl, t, rfl, ⟨_, .inl (.inl z)⟩, fun D hD => lc_tup (xs := wds row) (fun j H2 => Same H1 H2 ∧ ∃ bs : List Bool, H2 D = some (.lst (bs.map V.bl)) ∧ bs.all id = true ∧ bs.length = j) ⟨al hD, [], upd_same, rfl, rfl⟩ (fun j H2 _ pv => .inl (.inl (pv.1 _ _ z))) (fun j x H2 hx pv => ?_) (fun H2 pv => ?_)⟩
      · obtain ⟨e2, bs, hD2, hb, lb⟩ := pv
        have hjx := (List.getElem?_eq_some_iff.mp hx).1
        rw [il] at hjx
        unfold wds at hx
        rw [List.getElem?_map] at hx
        obtain ⟨y, hy, rfl⟩ := Option.map_eq_some_iff.mp hx
        refine ⟨rfl, _, rfl, aST, stds, rfl, .inr (T5.sST _), rfl, rfl, ?_⟩
        rw [wd_in]
        refine ⟨_, hD2, by rw [List.length_map]; exact small1000 (by omega), fun b o hb => ?_, bs ++ [true], ?_, ?_, by rw [List.length_append, lb]; rfl⟩
        · rw [upd_ne (ne_of_none hb hD)]
          exact e2 _ _ hb
        · rw [upd_same, List.map_append]
          rfl
        · rw [List.all_append, hb]
          rfl
      · obtain ⟨e2, bs, hD2, hb, lb⟩ := pv
        refine ⟨D, bs, rfl, .inl (.inl hD2), _, rfl, ?_⟩
        rw [hb]
        refine iteT ?_
        refine .inl ⟨_, rfl, _, rfl, t, _, _, _, rfl, rfl, .inl (.inl (e2 _ _ z)), atI_nat at0, ?_⟩
        refine ⟨.str (wd 0), .str "none", .str _, .str _, none_shaped, none_shaped, ?_⟩
        rw [str_eqv]
        exact q _ (e1.trans e2)
    · refine .inr ⟨_, rfl, t, rfl, ⟨_, .inl (.inl z)⟩, fun D hD => lc_list (xs := wds row) (fun j H2 => Same H1 H2 ∧ ∃ bs : List Bool, H2 D = some (.lst (bs.map V.bl)) ∧ bs.all id = true ∧ bs.length = j) ⟨al hD, [], upd_same, rfl, rfl⟩ (fun j H2 _ pv => .inl (.inl (pv.1 _ _ z))) (fun j x H2 hx pv => ?_) (fun H2 pv => ?_)⟩
      · obtain ⟨e2, bs, hD2, hb, lb⟩ := pv
        have hjx := (List.getElem?_eq_some_iff.mp hx).1
        rw [il] at hjx
        unfold wds at hx
        rw [List.getElem?_map] at hx
        obtain ⟨y, hy, rfl⟩ := Option.map_eq_some_iff.mp hx
        refine ⟨rfl, _, rfl, aST, stds, rfl, .inr (T5.sST _), rfl, rfl, ?_⟩
        rw [wd_in]
        refine ⟨_, hD2, by rw [List.length_map]; exact small1000 (by omega), fun b o hb => ?_, bs ++ [true], ?_, ?_, by rw [List.length_append, lb]; rfl⟩
        · rw [upd_ne (ne_of_none hb hD)]
          exact e2 _ _ hb
        · rw [upd_same, List.map_append]
          rfl
        · rw [List.all_append, hb]
          rfl
      · obtain ⟨e2, bs, hD2, hb, lb⟩ := pv
        refine ⟨D, bs, rfl, .inl (.inl hD2), _, rfl, ?_⟩
        rw [hb]
        refine iteT ?_
        refine .inr ⟨_, rfl, _, rfl, t, _, _, _, rfl, rfl, .inl (.inl (e2 _ _ z)), atI_nat at0, ?_⟩
        refine ⟨.str (wd 0), .str "none", .str _, .str _, none_shaped, none_shaped, ?_⟩
        rw [str_eqv]
        exact q _ (e1.trans e2)
end
end K7
end
/-! ## P16 -/
section
open PySem PySem.Spec PyProof.Rows L2
namespace K7
abbrev N__are_standings : List Str := ["land", "thing", "a", "row"]
abbrev s__are_standings : Stmt := topS 28
theorem sc__are_standings : FnScope ["land", "thing", "a", "row"] ["land", "thing"] (defScope s__are_standings) := ⟨rfl, rfl, rfl, by decide +kernel, rfl, by decide +kernel, by decide +kernel⟩
abbrev N__check_places : List Str := ["land", "hands", "standings", "apart", "a", "b", "together"]
abbrev s__check_places : Stmt := topS 29
theorem sc__check_places : FnScope ["land", "hands", "standings", "apart", "a", "b", "together"] ["land", "hands", "standings"] (defScope s__check_places) := ⟨rfl, rfl, rfl, by decide +kernel, rfl, by decide +kernel, by decide +kernel⟩
/-- rows of words, tuples or lists -/
inductive RAt (H : Hp) : List Addr → List (List Nat) → Prop
  | nil : RAt H [] []
  | cons {r : Addr} {row : List Nat} {rs : List Addr} {tab : List (List Nat)} : SqOf H r (wds row) → RAt H rs tab → RAt H (r :: rs) (row :: tab)
theorem RAt.same {H H' : Hp} {rs : List Addr} {tab : List (List Nat)} (h : RAt H rs tab) (e : Same H H') : RAt H' rs tab := by
  induction h with
  | nil => exact .nil
  | cons h _ ih => exact .cons (h.same e) ih
theorem RAt.len {H : Hp} {rs : List Addr} {tab : List (List Nat)} (h : RAt H rs tab) : rs.length = tab.length := by
  induction h with
  | nil => rfl
  | cons _ _ ih => rw [List.length_cons, List.length_cons, ih]
theorem RAt.get {H : Hp} {rs : List Addr} {tab : List (List Nat)} (h : RAt H rs tab) : ∀ {i : Nat} {r : Addr}, rs[i]? = some r → ∃ row, tab[i]? = some row ∧ SqOf H r (wds row) := by
  induction h with
  | nil => exact fun h => nomatch h
  | cons h _ ih =>
    intro i u hu
    cases i with
    | zero =>
      obtain rfl := Option.some.inj hu
      exact ⟨_, rfl, h⟩
    | succ i => exact ih (i := i) hu
def tabAt (tab : List (List Nat)) (a b : Nat) : Nat := (tab.getD a []).getD b 0
def hsAt (hs : List Nat) (a : Nat) : Nat := hs.getD a 0
/-- hands and standings that are lawful -/
structure StTab (n : Nat) (hs : List Nat) (tab : List (List Nat)) : Prop where
  hl : hs.length = n
  hm : ∀ x ∈ hs, x ≤ 10 ^ 30
  tl : tab.length = n
  rl : ∀ r ∈ tab, r.length = n
  diag : ∀ (i : Nat) (r : List Nat), tab[i]? = some r → r[i]? = some 0
  apart : ∀ a b, a < n → b < n → a ≠ b → hsAt hs a ≠ hsAt hs b → tabAt tab a b < 3
  same : ∀ a b, a < n → b < n → a ≠ b → hsAt hs a = hsAt hs b → tabAt tab a b = 0 ∨ 3 ≤ tabAt tab a b
section
variable {P : Program} {w : World} {K : PySem.W.Frag} {mg : Str → Option Value} {base : Heap} {a : AdL} {aST aRI : Addr} {tH : Tok}
def spAreS (C : Addr) : Sp := fun vs H Q _ => ∃ (l t : Addr) (n : Nat) (hs : List Nat) (rs : List Addr) (tab : List (List Nat)), vs = [.ref l, .ref t] ∧ LandC C H l n ∧ n ≤ 5 ∧ SqOf H t (rs.map V.ref) ∧ RAt H rs tab ∧ StTab n hs tab ∧ ∀ H', Same H H' → Q (.bl true) H'
theorem ok_ares (T : Tl K mg a) {f fS fI : Addr} {fd fdS fdI : FuncData} (F : Fun K "_are_standings" "_are_standings" s__are_standings f fd)
    (Gsq : FnOk P w K mg base CX0 1 fS fdS ["thing"] (spSeq K)) (gsq : mg "is_sequence" = some (.ref fS)) (ksq : PySem.W.keepIn K (.ref fS) = true) (bsq : Binds K fdS ["thing"] [])
    (Gir : FnOk P w K mg base CX0 2 fI fdI ["land", "a", "thing"] (spIsRow a.C)) (gir : mg "is_row" = some (.ref fI)) (kir : PySem.W.keepIn K (.ref fI) = true) (bir : Binds K fdI ["land", "a", "thing"] [])
    (m_len : mg "len" = none) (m_all : mg "all" = none) (m_enumerate : mg "enumerate" = none) : FnOk P w K mg base CX0 3 f fd ["land", "thing"] (spAreS a.C) := by
  refine F.ok sc__are_standings (fun vs H Q E h => ?_) (fun cdv A outer s H vs Q E hr h => ?_)
  · obtain ⟨l, t, n, hs, rs, tab, rfl, _⟩ := h
    rfl
  · obtain ⟨l, t, n, hs, rs, tab, rfl, ⟨dx, fs, hp, hlk⟩, n5, ht, hR, S, q⟩ := h
    refine ⟨_, (pss_cons (ps_if (pw_or (pt_not (pt_val (pe_call Gsq (hr.mono (by decide)) (by rfl) gsq ksq bsq .nil pass0 (pa_cons (pv 1) pa_nil)))) (pw_or1 (pt_cmpR op_ne (pe_callB call_len_seq (by rfl) m_len boot_len (pa_cons (pv 1) pa_nil)) (pe_fld (pv 0) rfl) (nomark _)))).pt
  (pss_one (ps_ret pe_bl))
  pss_nil)
 (pss_one (ps_ret (pe_callB (cr_all rfl) (by rfl) m_all boot_all (pa_cons (pe_lc (own := [("a", 2), ("row", 3)]) (g := gTup K 2 (gCons (gName 2) (gCons (gName 3) (gNil)))) (tt := tYes) rfl sc__are_standings.nd (K7E.pi_either (K7E.pi_enumT (by rfl) m_enumerate (pa_cons (pv 1) pa_nil)) (pi_enum (by rfl) m_enumerate (pa_cons (pv 1) pa_nil))) (blkOk_by (own := [("a", 2), ("row", 3)]) (N := N__are_standings) (sc := defScope s__are_standings) (by decide +kernel)) (fun _ _ _ _ _ => (pg_tup rfl (pgs_cons (pg_name (i := 2) sc__are_standings.nd rfl (by first | exact Or.inl rfl | exact Or.inr rfl)) (pgs_cons (pg_name (i := 3) sc__are_standings.nd rfl (by first | exact Or.inl rfl | exact Or.inr rfl)) pgs_nil)))) (fun _ _ _ _ _ => pts_nil) (fun _ _ _ _ _ => (pe_call Gir (hr.mono (by decide)) (by rfl) gir kir bir .nil pass0 (pa_cons (pv 0) (pa_cons (pv 2) (pa_cons (pv 3) pa_nil)))))) pa_nil))))), ?_⟩
    obtain ⟨ty, tyx, kk⟩ := ht.ty (K := K)
    have il : (rs.map V.ref).length = n := by rw [List.length_map, hR.len, S.tl]
    refine ⟨_, rfl, _, ty, true, rfl, tyx, kk, fun H1 e1 => ⟨_, rfl, ?_⟩⟩
    refine iteF ⟨_, rfl, t, _, rfl, (ht.same e1).sq, _, rfl, l, a.C, dx, fs, _, rfl, e1 _ _ hp, T.cl, T.nA _ (by decide), hlk, rfl, _, rfl, ?_⟩
    rw [il, decide_eq_true rfl]
    refine iteFo rfl ?_
    have ht1 := ht.same e1
    rcases ht1 with z | z
    · refine .inl ⟨_, rfl, t, _, rfl, .inl (.inl z), fun D hD => lc_it (K7E.walk_enumT (xs := rs.map V.ref)) (fun j H2 => Same H1 H2 ∧ ∃ bs : List Bool, H2 D = some (.lst (bs.map V.bl)) ∧ bs.all id = true ∧ bs.length = j) ⟨al hD, [], upd_same, rfl, rfl⟩ (fun j H2 _ pv => .inl (.inl (pv.1 _ _ z))) (fun j x H2 H3 hj pv hy => ?_) (fun H2 pv => ?_)⟩
      · obtain ⟨e2, bs, hD2, hb, lb⟩ := pv
        obtain ⟨T', x', y', rfl, nT, rfl, e3, e4⟩ := hy
        obtain rfl := Option.some.inj e3
        have e4 : (rs.map V.ref)[j]? = some y' := e4
        rw [List.getElem?_map] at e4
        obtain ⟨r, hr', rfl⟩ := Option.map_eq_some_iff.mp e4
        have sT := al (o := .tup [.int (j : Nat), .ref r]) nT
        have e13 := (e1.trans e2).trans sT
        obtain ⟨row, hrow, hat⟩ := hR.get hr'
        have jn : j < n := by rw [← il]; exact hj
        refine ⟨T', _, rfl, .inl (.inl upd_same), rfl, _, _, rfl, _, _, rfl, rfl, rfl, _, rfl, _, rfl, _, rfl, l, r, n, j, row, rfl, ⟨dx, fs, e13 _ _ hp, hlk⟩, n5, hat.same e13, S.rl row (List.mem_of_getElem? hrow), S.diag j row hrow, fun H4 e4' => ?_⟩
        have hD4 := e4' _ _ (sT _ _ hD2)
        refine ⟨_, hD4, by rw [List.length_map]; exact small1000 (by omega), fun b o hb => ?_, bs ++ [true], ?_, ?_, by rw [List.length_append, lb]; rfl⟩
        · rw [upd_ne (ne_of_none hb hD)]
          exact e4' _ _ (sT _ _ (e2 _ _ hb))
        · rw [upd_same, List.map_append]
          rfl
        · rw [List.all_append, hb]
          rfl
      · obtain ⟨e2, bs, hD2, hb, lb⟩ := pv
        refine ⟨D, bs, rfl, .inl (.inl hD2), ?_⟩
        rw [hb]
        exact q _ (e1.trans e2)
    · refine .inr ⟨_, rfl, t, _, rfl, .inl (.inl z), fun D hD => lc_it (walk_enum (xs := rs.map V.ref)) (fun j H2 => Same H1 H2 ∧ ∃ bs : List Bool, H2 D = some (.lst (bs.map V.bl)) ∧ bs.all id = true ∧ bs.length = j) ⟨al hD, [], upd_same, rfl, rfl⟩ (fun j H2 _ pv => .inl (.inl (pv.1 _ _ z))) (fun j x H2 H3 hj pv hy => ?_) (fun H2 pv => ?_)⟩
      · obtain ⟨e2, bs, hD2, hb, lb⟩ := pv
        obtain ⟨T', x', y', rfl, nT, rfl, e3, e4⟩ := hy
        obtain rfl := Option.some.inj e3
        have e4 : (rs.map V.ref)[j]? = some y' := e4
        rw [List.getElem?_map] at e4
        obtain ⟨r, hr', rfl⟩ := Option.map_eq_some_iff.mp e4
        have sT := al (o := .tup [.int (j : Nat), .ref r]) nT
        have e13 := (e1.trans e2).trans sT
        obtain ⟨row, hrow, hat⟩ := hR.get hr'
        have jn : j < n := by rw [← il]; exact hj
        refine ⟨T', _, rfl, .inl (.inl upd_same), rfl, _, _, rfl, _, _, rfl, rfl, rfl, _, rfl, _, rfl, _, rfl, l, r, n, j, row, rfl, ⟨dx, fs, e13 _ _ hp, hlk⟩, n5, hat.same e13, S.rl row (List.mem_of_getElem? hrow), S.diag j row hrow, fun H4 e4' => ?_⟩
        have hD4 := e4' _ _ (sT _ _ hD2)
        refine ⟨_, hD4, by rw [List.length_map]; exact small1000 (by omega), fun b o hb => ?_, bs ++ [true], ?_, ?_, by rw [List.length_append, lb]; rfl⟩
        · rw [upd_ne (ne_of_none hb hD)]
          exact e4' _ _ (sT _ _ (e2 _ _ hb))
        · rw [upd_same, List.map_append]
          rfl
        · rw [List.all_append, hb]
          rfl
      · obtain ⟨e2, bs, hD2, hb, lb⟩ := pv
        refine ⟨D, bs, rfl, .inl (.inl hD2), ?_⟩
        rw [hb]
        exact q _ (e1.trans e2)
/-- subscripts of what is a tuple or a list -/
theorem ei_gen {t : TE} {σ : L2.St} {H : Hp} {Q : VK} {r : Addr} {ys : List V} {j k : Nat} {v : V} (inner : ∀ Q' : VK, Q' (.ref r) H → t σ H Q') (h2 : tVar k σ H fun y H' => y = .int (j : Nat) ∧ H' = H) (h : SqOf H r ys) (hx : ys[j]? = some v) (q : Q v H) :
    K7E.tEi (tOp (rIxT K) t (tVar k)) (tOp (rIxL K) t (tVar k)) σ H Q := by
  obtain ⟨w, hw, rfl, _⟩ := h2
  rcases h with z | z
  · exact .inl (inner _ ⟨_, hw, r, ys, _, v, rfl, rfl, .inl (.inl z), atI_nat hx, q⟩)
  · exact .inr (inner _ ⟨_, hw, r, ys, _, v, rfl, rfl, .inl (.inl z), atI_nat hx, q⟩)
theorem wds_asleep {ks : List Nat} (h : ∀ k ∈ ks, k < 3) : inV (.str "asleep") (wds ks) = false := by
  refine Bool.eq_false_iff.mpr fun e => ?_
  obtain ⟨x, hx, he⟩ := List.any_eq_true.mp e
  obtain ⟨k, hk, rfl⟩ := List.mem_map.mp hx
  have := h k hk
  match k, this with
  | 0, _ => exact absurd he (by decide +kernel)
  | 1, _ => exact absurd he (by decide +kernel)
  | 2, _ => exact absurd he (by decide +kernel)
theorem wds_awake {ks : List Nat} (h : ∀ k ∈ ks, k = 0 ∨ 3 ≤ k) : inV (.str "awake") (wds ks) = false ∧ inV (.str "needed") (wds ks) = false := by
  refine ⟨Bool.eq_false_iff.mpr fun e => ?_, Bool.eq_false_iff.mpr fun e => ?_⟩
  all_goals
    obtain ⟨x, hx, he⟩ := List.any_eq_true.mp e
    obtain ⟨k, hk, rfl⟩ := List.mem_map.mp hx
    have z := h k hk
    match k with
    | 0 => exact absurd he (by decide +kernel)
    | 1 => omega
    | 2 => omega
    | k + 3 =>
      have he : eqV (.str "asleep") _ = true := he
      exact absurd he (by decide +kernel)
theorem allC_mem {n a b : Nat} (h : (a, b) ∈ KL.allC n) : a < n ∧ b < n ∧ a ≠ b := by
  obtain ⟨x, hx, h⟩ := List.mem_flatMap.mp h
  obtain ⟨y, hy, e⟩ := List.mem_map.mp h
  obtain ⟨h1, h2⟩ := List.mem_filter.mp hy
  injection e with e1 e2
  subst e1 e2
  exact ⟨List.mem_range.mp hx, List.mem_range.mp h1, of_decide_eq_true h2⟩
def spChP (C : Addr) : Sp := fun vs H Q _ => ∃ (l th tt : Addr) (n : Nat) (es : List (Nat × Nat)) (rd hs : List Nat) (rs : List Addr) (tab : List (List Nat)), vs = [.ref l, .ref th, .ref tt] ∧ LandO C H l n es rd ∧ SqOf H th (ints_ hs) ∧ SqOf H tt (rs.map V.ref) ∧ RAt H rs tab ∧ StTab n hs tab ∧ ∀ H', Same H H' → Q .non H'
theorem ok_chp (T : Tl K mg a) {f pr gp : Addr} {fd fdcp : FuncData} (F : Fun K "_check_places" "_check_places" s__check_places f fd)
    (pc : PropOf K a.C "couples" pr gp) (Gcp : FnOk P w K mg base CX0 1 gp fdcp ["self"] (spCouples a.C)) (bcp : Binds K fdcp ["self"] []) : FnOk P w K mg base CX0 4 f fd ["land", "hands", "standings"] (spChP a.C) := by
  refine F.ok sc__check_places (fun vs H Q E h => ?_) (fun cdv A outer s H vs Q E hr h => ?_)
  · obtain ⟨l, th, tt, n, es, rd, hs, rs, tab, rfl, _⟩ := h
    rfl
  · obtain ⟨l, th, tt, n, es, rd, hs, rs, tab, rfl, L, hth, htt, hR, S, q⟩ := h
    refine ⟨_, (pss_cons (ps_setLc (i := 3) (own := [("a", 4), ("b", 5)]) (g := gTup K 2 (gCons (gName 4) (gCons (gName 5) (gNil)))) rfl sc__check_places.nd rfl rfl (sw_true rfl rfl rfl (by decide +kernel)) (pi_tup (pe_prop (pv 0) T.cl pc Gcp (hr.mono (by decide)) bcp .nil pass0 rfl)) (blkOk_by (own := [("a", 4), ("b", 5)]) (N := N__check_places) (sc := defScope s__check_places) (by decide +kernel)) (fun _ _ _ _ _ => (pg_tup rfl (pgs_cons (pg_name (i := 4) sc__check_places.nd rfl (by first | exact Or.inl rfl | exact Or.inr rfl)) (pgs_cons (pg_name (i := 5) sc__check_places.nd rfl (by first | exact Or.inl rfl | exact Or.inr rfl)) pgs_nil)))) (fun _ _ _ _ _ => (pts_one (pt_cmpR op_ne (K7E.pe_ei (pe_ix (show IxR _ (rIxT K) from ix_tup) (pv 1) (pv 4) (fun _ _ => rfl)) (pe_ix (show IxR _ (rIxL K) from ix_list) (pv 1) (pv 4) (fun _ _ => rfl))) (K7E.pe_ei (pe_ix (show IxR _ (rIxT K) from ix_tup) (pv 1) (pv 5) (fun _ _ => rfl)) (pe_ix (show IxR _ (rIxL K) from ix_list) (pv 1) (pv 5) (fun _ _ => rfl))) (nomark _)))) (fun _ _ _ _ _ => (K7E.pe_ei (pe_ix (show IxR _ (rIxT K) from ix_tup) (K7E.pe_ei (pe_ix (show IxR _ (rIxT K) from ix_tup) (pv 2) (pv 4) (fun _ _ => rfl)) (pe_ix (show IxR _ (rIxL K) from ix_list) (pv 2) (pv 4) (fun _ _ => rfl))) (pv 5) (fun _ _ => rfl)) (pe_ix (show IxR _ (rIxL K) from ix_list) (K7E.pe_ei (pe_ix (show IxR _ (rIxT K) from ix_tup) (pv 2) (pv 4) (fun _ _ => rfl)) (pe_ix (show IxR _ (rIxL K) from ix_list) (pv 2) (pv 4) (fun _ _ => rfl))) (pv 5) (fun _ _ => rfl)))))
 (pss_cons (ps_if (pt_cmpR op_in_seq pe_str (pv 3) (by with_unfolding_all rfl))
  (pss_one ps_never)
  pss_nil)
 (pss_cons (ps_setLc (i := 6) (own := [("a", 4), ("b", 5)]) (g := gTup K 2 (gCons (gName 4) (gCons (gName 5) (gNil)))) rfl sc__check_places.nd rfl rfl (sw_true rfl rfl rfl (by decide +kernel)) (pi_tup (pe_prop (pv 0) T.cl pc Gcp (hr.mono (by decide)) bcp .nil pass0 rfl)) (blkOk_by (own := [("a", 4), ("b", 5)]) (N := N__check_places) (sc := defScope s__check_places) (by decide +kernel)) (fun _ _ _ _ _ => (pg_tup rfl (pgs_cons (pg_name (i := 4) sc__check_places.nd rfl (by first | exact Or.inl rfl | exact Or.inr rfl)) (pgs_cons (pg_name (i := 5) sc__check_places.nd rfl (by first | exact Or.inl rfl | exact Or.inr rfl)) pgs_nil)))) (fun _ _ _ _ _ => (pts_one (pt_cmpR op_eq (K7E.pe_ei (pe_ix (show IxR _ (rIxT K) from ix_tup) (pv 1) (pv 4) (fun _ _ => rfl)) (pe_ix (show IxR _ (rIxL K) from ix_list) (pv 1) (pv 4) (fun _ _ => rfl))) (K7E.pe_ei (pe_ix (show IxR _ (rIxT K) from ix_tup) (pv 1) (pv 5) (fun _ _ => rfl)) (pe_ix (show IxR _ (rIxL K) from ix_list) (pv 1) (pv 5) (fun _ _ => rfl))) (nomark _)))) (fun _ _ _ _ _ => (K7E.pe_ei (pe_ix (show IxR _ (rIxT K) from ix_tup) (K7E.pe_ei (pe_ix (show IxR _ (rIxT K) from ix_tup) (pv 2) (pv 4) (fun _ _ => rfl)) (pe_ix (show IxR _ (rIxL K) from ix_list) (pv 2) (pv 4) (fun _ _ => rfl))) (pv 5) (fun _ _ => rfl)) (pe_ix (show IxR _ (rIxL K) from ix_list) (K7E.pe_ei (pe_ix (show IxR _ (rIxT K) from ix_tup) (pv 2) (pv 4) (fun _ _ => rfl)) (pe_ix (show IxR _ (rIxL K) from ix_list) (pv 2) (pv 4) (fun _ _ => rfl))) (pv 5) (fun _ _ => rfl)))))
 (pss_one (ps_if (pw_or (pt_cmpR op_in_seq pe_str (pv 6) (by with_unfolding_all rfl)) (pw_or1 (pt_cmpR op_in_seq pe_str (pv 6) (by with_unfolding_all rfl)))).pt
  (pss_one ps_never)
  pss_nil))))), ?_⟩
    obtain ⟨dx, an, ar, ay, ac, tn, ty, tc, m1, _⟩ := L.at_
    have n5 := L.n5
    have hat : ∀ c, c < n → (ints_ hs)[c]? = some (.int (hsAt hs c : Nat)) := fun c h => by
      unfold ints_ hsAt
      rw [List.getElem?_map, List.getElem?_eq_getElem (by rw [S.hl]; exact h), List.getD_eq_getElem?_getD, List.getElem?_eq_getElem (by rw [S.hl]; exact h)]
      rfl
    have row : ∀ x, x < n → ∀ y, y < n → ∃ r, (rs.map V.ref)[x]? = some (.ref r) ∧ ∀ H', Same H H' → ∃ ys, SqOf H' r ys ∧ ys[y]? = some (.str (wd (tabAt tab x y))) := fun x hx y hy => by
      have lr : x < rs.length := by rw [hR.len, S.tl]; exact hx
      obtain ⟨r, hr⟩ : ∃ r, rs[x]? = some r := ⟨_, List.getElem?_eq_getElem lr⟩
      obtain ⟨rw', h1, h2⟩ := hR.get hr
      refine ⟨r, by rw [List.getElem?_map, hr]; rfl, fun H' e => ⟨_, h2.same e, ?_⟩⟩
      have hl := S.rl rw' (List.mem_of_getElem? h1)
      have eg : tab.getD x [] = rw' := by rw [List.getD_eq_getElem?_getD, h1]; rfl
      unfold wds tabAt
      rw [eg, List.getElem?_map, List.getD_eq_getElem?_getD, List.getElem?_eq_getElem (by rw [hl]; exact hy)]
      rfl
    refine ⟨_, rfl, l, dx, _, rfl, m1, l, n, es, rd, rfl, L, fun u tc hu tC => ?_⟩
    have tcl : tc.length ≤ 20 := by
      rw [tC.len]
      unfold pairs
      rw [List.length_map]
      exact (show ∀ n : Fin 6, (KL.allC n.val).length ≤ 20 by decide +kernel) ⟨n, by omega⟩
    have cpl : ∀ {i : Nat} {t' : Addr}, tc[i]? = some t' → ∃ e : Nat × Nat, H t' = some (.tup (ints_ [e.1, e.2])) ∧ e.1 < n ∧ e.2 < n ∧ e.1 ≠ e.2 := fun {i t'} ht' => by
      obtain ⟨rw', hrow, hat'⟩ := tC.get ht'
      unfold pairs at hrow
      rw [List.getElem?_map] at hrow
      obtain ⟨e, he, rfl⟩ := Option.map_eq_some_iff.mp hrow
      exact ⟨e, hat', allC_mem (List.mem_of_getElem? he)⟩
    refine ⟨u, rfl, ⟨_, .inl (.inl hu)⟩, fun D hD => lc_tup (xs := tc.map V.ref) (fun j H2 => Same H H2 ∧ ∃ ks : List Nat, H2 D = some (.lst (wds ks)) ∧ (∀ k ∈ ks, k < 3) ∧ ks.length ≤ j) ⟨al hD, [], upd_same, (fun k hk => nomatch hk), Nat.le_refl _⟩ (fun j H2 _ pv => .inl (.inl (pv.1 _ _ hu))) (fun j v H2 hv pv => ?_) (fun H2 pv => ?_)⟩
    · obtain ⟨e2, ks, hD2, hk3, lk⟩ := pv
      have hj := (List.getElem?_eq_some_iff.mp hv).1
      rw [List.length_map] at hj
      rw [List.getElem?_map] at hv
      obtain ⟨t', ht', rfl⟩ := Option.map_eq_some_iff.mp hv
      obtain ⟨e, hat', lt1, lt2, ne⟩ := cpl ht'
      have hat2 := e2 _ _ hat'
      obtain ⟨r, hr', hrow⟩ := row e.1 lt1 e.2 lt2
      refine ⟨t', _, rfl, .inl (.inl hat2), rfl, _, _, rfl, _, _, rfl, rfl, rfl, ?_⟩
      refine ei_gen (fun Q' q => ⟨_, rfl, q⟩) ⟨_, rfl, rfl, rfl⟩ (hth.same e2) (hat _ lt1) ?_
      refine ei_gen (fun Q' q => ⟨_, rfl, q⟩) ⟨_, rfl, rfl, rfl⟩ (hth.same e2) (hat _ lt2) ?_
      refine ⟨rfl, _, rfl, ?_⟩
      have dv : decide (V.int (hsAt hs e.1 : Nat) = V.int (hsAt hs e.2 : Nat)) = decide (hsAt hs e.1 = hsAt hs e.2) := decide_eq_decide.mpr ⟨fun h => by injection h with h; omega, fun h => by rw [h]⟩
      rw [dv]
      by_cases hc : hsAt hs e.1 = hsAt hs e.2
      · rw [decide_eq_true hc]
        exact iteFo rfl ⟨e2, ks, hD2, hk3, by omega⟩
      · rw [decide_eq_false hc]
        refine iteTo rfl ?_
        obtain ⟨ys, hys, hw⟩ := hrow H2 e2
        refine ei_gen (fun Q' q => ei_gen (fun Q' q => ⟨_, rfl, q⟩) ⟨_, rfl, rfl, rfl⟩ (htt.same e2) hr' q) ⟨_, rfl, rfl, rfl⟩ hys hw ?_
        refine ⟨_, hD2, by unfold wds; rw [List.length_map]; exact small1000 (by omega), fun b z hb => ?_, ks ++ [tabAt tab e.1 e.2], ?_, fun k hk => ?_, by rw [List.length_append, List.length_singleton]; omega⟩
        · rw [upd_ne (ne_of_none hb hD)]
          exact e2 _ _ hb
        · rw [upd_same, wds_snoc]
        · rcases List.mem_append.mp hk with hk | hk
          · exact hk3 k hk
          · rw [List.mem_singleton.mp hk]
            exact S.apart _ _ lt1 lt2 ne hc
    · obtain ⟨e2, ks, hD2, hk3, lk⟩ := pv
      refine ⟨_, rfl, D, wds ks, rfl, .inl (.inl (.inl hD2)), rfl, wds_flat ks, _, rfl, ?_⟩
      refine iteFo (wds_asleep hk3) ?_
      obtain ⟨dx2, _, _, _, _, _, _, _, m2, _⟩ := (L.same e2).at_
      refine ⟨_, rfl, l, dx2, _, rfl, m2, l, n, es, rd, rfl, L.same e2, fun u2 tc2 hu2 tC2 => ?_⟩
      have tcl2 : tc2.length ≤ 20 := by
        rw [tC2.len, ← tC.len]
        exact tcl
      have cpl2 : ∀ {i : Nat} {t' : Addr}, tc2[i]? = some t' → ∃ e : Nat × Nat, H2 t' = some (.tup (ints_ [e.1, e.2])) ∧ e.1 < n ∧ e.2 < n ∧ e.1 ≠ e.2 := fun {i t'} ht' => by
        obtain ⟨rw', hrow, hat'⟩ := tC2.get ht'
        unfold pairs at hrow
        rw [List.getElem?_map] at hrow
        obtain ⟨e, he, rfl⟩ := Option.map_eq_some_iff.mp hrow
        exact ⟨e, hat', allC_mem (List.mem_of_getElem? he)⟩
      refine ⟨u2, rfl, ⟨_, .inl (.inl hu2)⟩, fun D2 hDn => lc_tup (xs := tc2.map V.ref) (fun j H3 => Same H2 H3 ∧ ∃ ks : List Nat, H3 D2 = some (.lst (wds ks)) ∧ (∀ k ∈ ks, k = 0 ∨ 3 ≤ k) ∧ ks.length ≤ j) ⟨al hDn, [], upd_same, (fun k hk => nomatch hk), Nat.le_refl _⟩ (fun j H3 _ pv => .inl (.inl (pv.1 _ _ hu2))) (fun j v H3 hv pv => ?_) (fun H3 pv => ?_)⟩
      · obtain ⟨e3, ks2, hD3, hk0, lk2⟩ := pv
        have e23 := e2.trans e3
        have hj := (List.getElem?_eq_some_iff.mp hv).1
        rw [List.length_map] at hj
        rw [List.getElem?_map] at hv
        obtain ⟨t', ht', rfl⟩ := Option.map_eq_some_iff.mp hv
        obtain ⟨e, hat', lt1, lt2, ne⟩ := cpl2 ht'
        have hat2 := e3 _ _ hat'
        obtain ⟨r, hr', hrow⟩ := row e.1 lt1 e.2 lt2
        refine ⟨t', _, rfl, .inl (.inl hat2), rfl, _, _, rfl, _, _, rfl, rfl, rfl, ?_⟩
        refine ei_gen (fun Q' q => ⟨_, rfl, q⟩) ⟨_, rfl, rfl, rfl⟩ (hth.same e23) (hat _ lt1) ?_
        refine ei_gen (fun Q' q => ⟨_, rfl, q⟩) ⟨_, rfl, rfl, rfl⟩ (hth.same e23) (hat _ lt2) ?_
        refine ⟨rfl, _, rfl, ?_⟩
        have dv : decide (V.int (hsAt hs e.1 : Nat) = V.int (hsAt hs e.2 : Nat)) = decide (hsAt hs e.1 = hsAt hs e.2) := decide_eq_decide.mpr ⟨fun h => by injection h with h; omega, fun h => by rw [h]⟩
        rw [dv]
        by_cases hc : hsAt hs e.1 = hsAt hs e.2
        · rw [decide_eq_true hc]
          refine iteT ?_
          obtain ⟨ys, hys, hw⟩ := hrow H3 e23
          refine ei_gen (fun Q' q => ei_gen (fun Q' q => ⟨_, rfl, q⟩) ⟨_, rfl, rfl, rfl⟩ (htt.same e23) hr' q) ⟨_, rfl, rfl, rfl⟩ hys hw ?_
          refine ⟨_, hD3, by unfold wds; rw [List.length_map]; exact small1000 (by omega), fun b z hb => ?_, ks2 ++ [tabAt tab e.1 e.2], ?_, fun k hk => ?_, by rw [List.length_append, List.length_singleton]; omega⟩
          · rw [upd_ne (ne_of_none hb hDn)]
            exact e3 _ _ hb
          · rw [upd_same, wds_snoc]
          · rcases List.mem_append.mp hk with hk | hk
            · exact hk0 k hk
            · rw [List.mem_singleton.mp hk]
              exact S.same _ _ lt1 lt2 ne hc
        · rw [decide_eq_false hc]
          exact iteF ⟨e3, ks2, hD3, hk0, by omega⟩
      · obtain ⟨e3, ks2, hD3, hk0, lk2⟩ := pv
        obtain ⟨w1, w2⟩ := wds_awake hk0
        refine ⟨_, rfl, D2, wds ks2, rfl, .inl (.inl (.inl hD3)), rfl, wds_flat ks2, _, rfl, ?_⟩
        refine iteFo w1 ?_
        refine ⟨_, rfl, D2, wds ks2, rfl, .inl (.inl (.inl hD3)), rfl, wds_flat ks2, _, rfl, ?_⟩
        refine iteFo w2 ?_
        exact q _ (e2.trans e3)
end
end K7
end
/-! ## P17 -/
section
open PySem PySem.Spec PyProof.Rows L2
namespace K7
abbrev N_State___init__ : List Str := ["self", "land", "hands", "standings", "row"]
abbrev s_State___init__ : Stmt := inClass (topS 30) 0
theorem sc_State___init__ : FnScope ["self", "land", "hands", "standings", "row"] ["self", "land", "hands", "standings"] (defScope s_State___init__) := ⟨rfl, rfl, rfl, by decide +kernel, rfl, by decide +kernel, by decide +kernel⟩
/-! ### a state is made -/
def stFs (l th tt : Addr) : List (Str × V) := [("land", .ref l), ("hands", .ref th), ("standings", .ref tt)]
def sfields : List Str := ["land", "hands", "standings"]
/-- rows of words, tuples -/
inductive RTt (H : Hp) : List Addr → List (List Nat) → Prop
  | nil : RTt H [] []
  | cons {r : Addr} {row : List Nat} {rs : List Addr} {tab : List (List Nat)} : H r = some (.tup (wds row)) → RTt H rs tab → RTt H (r :: rs) (row :: tab)
theorem RTt.mono {H H' : Hp} {rs : List Addr} {tab : List (List Nat)} (h : RTt H rs tab) (i : ∀ b xs, H b = some (.tup xs) → H' b = some (.tup xs)) : RTt H' rs tab := by
  induction h with
  | nil => exact .nil
  | cons h _ ih => exact .cons (i _ _ h) ih
theorem RTt.same {H H' : Hp} {rs : List Addr} {tab : List (List Nat)} (h : RTt H rs tab) (e : Same H H') : RTt H' rs tab := h.mono fun b xs hb => e _ _ hb
theorem RTt.append {H : Hp} {us vs : List Addr} {xs ys : List (List Nat)} (h : RTt H us xs) (h' : RTt H vs ys) : RTt H (us ++ vs) (xs ++ ys) := by
  induction h with
  | nil => exact h'
  | cons h _ ih => exact .cons h ih
theorem RTt.len {H : Hp} {rs : List Addr} {tab : List (List Nat)} (h : RTt H rs tab) : rs.length = tab.length := by
  induction h with
  | nil => rfl
  | cons _ _ ih => rw [List.length_cons, List.length_cons, ih]
theorem RTt.get {H : Hp} {rs : List Addr} {tab : List (List Nat)} (h : RTt H rs tab) : ∀ {i : Nat} {r : Addr}, rs[i]? = some r → ∃ row, tab[i]? = some row ∧ H r = some (.tup (wds row)) := by
  induction h with
  | nil => exact fun h => nomatch h
  | cons h _ ih =>
    intro i u hu
    cases i with
    | zero =>
      obtain rfl := Option.some.inj hu
      exact ⟨_, rfl, h⟩
    | succ i => exact ih (i := i) hu
theorem LandO.ni {C S dx x l : Addr} {fs : List (Str × V)} {H : Hp} {n : Nat} {es : List (Nat × Nat)} {rd : List Nat} (h : LandO C H l n es rd) (hx : H x = some (.ins S dx fs)) (ne : l ≠ x) (o' : HO) : LandO C (upd H x o') l n es rd := by
  obtain ⟨dx', an, ar, ay, ac, tn, ty, tc, h1, h2, h3, h4, h5, h6, h7, h8⟩ := h.at_
  have no : ∀ (xs : List V) (C dx : Addr) fs, HO.tup xs ≠ .ins C dx fs := fun _ _ _ _ e => by cases e
  exact ⟨⟨dx', an, ar, ay, ac, tn, ty, tc, by rw [upd_ne ne]; exact h1, keepNI hx h2 (no _), h3.ni hx o', keepNI hx h4 (no _), keepNI hx h5 (no _), h6.ni hx o', keepNI hx h7 (no _), h8.ni hx o'⟩, h.n2, h.n5, h.ok, h.rlt, h.rnd, h.rso, h.r0, h.rn⟩
theorem RAt.ni {S dx x : Addr} {fs : List (Str × V)} {H : Hp} {rs : List Addr} {tab : List (List Nat)} (h : RAt H rs tab) (hx : H x = some (.ins S dx fs)) (o' : HO) : RAt (upd H x o') rs tab := by
  induction h with
  | nil => exact .nil
  | cons h _ ih => exact .cons (h.ni hx o') ih
structure StateO (C S : Addr) (H : Hp) (p l : Addr) (n : Nat) (es : List (Nat × Nat)) (rd hs : List Nat) (tab : List (List Nat)) : Prop where
  at_ : ∃ dx th tt rs, H p = some (.ins S dx (stFs l th tt)) ∧ H th = some (.tup (ints_ hs)) ∧ H tt = some (.tup (rs.map V.ref)) ∧ RTt H rs tab
  ld : LandO C H l n es rd
  st : StTab n hs tab
theorem StateO.same {C S : Addr} {H H' : Hp} {p l : Addr} {n : Nat} {es : List (Nat × Nat)} {rd hs : List Nat} {tab : List (List Nat)} (h : StateO C S H p l n es rd hs tab) (e : Same H H') : StateO C S H' p l n es rd hs tab := by
  obtain ⟨dx, th, tt, rs, h1, h2, h3, h4⟩ := h.at_
  exact ⟨⟨dx, th, tt, rs, e _ _ h1, e _ _ h2, e _ _ h3, h4.same e⟩, h.ld.same e, h.st⟩
section
variable {P : Program} {w : World} {K : PySem.W.Frag} {mg : Str → Option Value} {base : Heap} {a : AdL} {aST aRI S fE : Addr} {tH : Tok}
def spStI (a : AdL) (S : Addr) : Sp := fun vs H Q _ => ∃ (x dx l th tt : Addr) (n : Nat) (es : List (Nat × Nat)) (rd hs : List Nat) (rs : List Addr) (tab : List (List Nat)), vs = [.ref x, .ref l, .ref th, .ref tt] ∧ H x = some (.ins S dx []) ∧ LandO a.C H l n es rd ∧ l ≠ x ∧ SqOf H th (ints_ hs) ∧ SqOf H tt (rs.map V.ref) ∧ RAt H rs tab ∧ StTab n hs tab ∧
  ∀ H', But x H H' → StateO a.C S H' x l n es rd hs tab → Q .non H'
theorem ok_sti (T : Tl K mg a) (T2 : Tk K a.C fE) (clsS : Cls K S) (nS : ∀ f ∈ sfields, NoAttr K S f) {f fA fB fC : Addr} {fd fdA fdB fdC : FuncData} (F : Fun K "__init__" "State.__init__" s_State___init__ f fd)
    (Gah : FnOk P w K mg base CX0 2 fA fdA ["land", "thing"] (spAreH a.C)) (gah : mg "_are_hands" = some (.ref fA)) (kah : PySem.W.keepIn K (.ref fA) = true) (bah : Binds K fdA ["land", "thing"] [])
    (Gas_ : FnOk P w K mg base CX0 3 fB fdB ["land", "thing"] (spAreS a.C)) (gas_ : mg "_are_standings" = some (.ref fB)) (kas_ : PySem.W.keepIn K (.ref fB) = true) (bas_ : Binds K fdB ["land", "thing"] [])
    (Gcp : FnOk P w K mg base CX0 4 fC fdC ["land", "hands", "standings"] (spChP a.C)) (gcp : mg "_check_places" = some (.ref fC)) (kcp : PySem.W.keepIn K (.ref fC) = true) (bcp : Binds K fdC ["land", "hands", "standings"] [])
    (m_isinstance : mg "isinstance" = none) (m_tuple : mg "tuple" = none) : FnOk P w K mg base CX0 5 f fd ["self", "land", "hands", "standings"] (spStI a S) := by
  refine F.ok sc_State___init__ (fun vs H Q E h => ?_) (fun cdv A outer s H vs Q E hr h => ?_)
  · obtain ⟨x, dx, l, th, tt, n, es, rd, hs, rs, tab, rfl, _⟩ := h
    rfl
  · obtain ⟨x, dx, l, th, tt, n, es, rd, hs, rs, tab, rfl, hx, L, nlx, hth, htt, hR, Sx, q⟩ := h
    refine ⟨_, (pss_cons (ps_if (pt_not (pt_val (pe_callB call_isi (by rfl) m_isinstance boot_isinstance (pa_cons (pv 1) (pa_cons (pe_glob (v := .ref _) rfl T.gC rfl) pa_nil)))))
  (pss_one ps_never)
  pss_nil)
 (pss_cons (ps_if (pt_not (pt_val (pe_call Gah (hr.mono (by decide)) (by rfl) gah kah bah .nil pass0 (pa_cons (pv 1) (pa_cons (pv 2) pa_nil)))))
  (pss_one ps_never)
  pss_nil)
 (pss_cons (ps_if (pt_not (pt_val (pe_call Gas_ (hr.mono (by decide)) (by rfl) gas_ kas_ bas_ .nil pass0 (pa_cons (pv 1) (pa_cons (pv 3) pa_nil)))))
  (pss_one ps_never)
  pss_nil)
 (pss_cons (ps_expr (pe_call Gcp (hr.mono (by decide)) (by rfl) gcp kcp bcp .nil pass0 (pa_cons (pv 1) (pa_cons (pv 2) (pa_cons (pv 3) pa_nil)))))
 (pss_cons (ps_fld (pv 0) (pv 1) rfl)
 (Evl.pss_cut (ps_fld (pv 0) (pe_callTy call_tuple_of (by rfl) m_tuple boot_tuple (pa_cons (pv 2) pa_nil)) rfl)
 (pss_one (ps_fld (pv 0) (pe_callTy call_tuple_of (by rfl) m_tuple boot_tuple (pa_cons (pe_lc (own := [("row", 4)]) (g := gName 4) (tt := tYes) rfl sc_State___init__.nd (K7E.pi_either (pi_tup (pv 3)) (pi_list (pv 3))) (blkOk_by (own := [("row", 4)]) (N := N_State___init__) (sc := defScope s_State___init__) (by decide +kernel)) (fun _ _ _ _ _ => (pg_name (i := 4) sc_State___init__.nd rfl (by first | exact Or.inl rfl | exact Or.inr rfl))) (fun _ _ _ _ _ => pts_nil) (fun _ _ _ _ _ => (pe_callTy (show CallR _ (.type "tuple") (rTup_ K) from call_tuple_of) (by rfl) m_tuple boot_tuple (pa_cons (pv 4) pa_nil)))) pa_nil)) rfl)))))))), ?_⟩
    obtain ⟨dl, an, ar, ay, ac, tn, ty, tc, m1, _⟩ := L.at_
    have n5 := L.n5
    refine ⟨_, rfl, _, _, _, _, _, rfl, .own _, .base (.ins m1 T.cl T2.ha T2.hn T2.ht T2.hm), T2.own, true, rfl, ?_⟩
    refine iteF ⟨_, rfl, _, rfl, l, th, n, hs, rfl, L.c, n5, hth, Sx.hl, Sx.hm, fun H1 e1 => ⟨_, rfl, ?_⟩⟩
    refine iteF ⟨_, rfl, _, rfl, l, tt, n, hs, rs, tab, rfl, (L.same e1).c, n5, htt.same e1, hR.same e1, Sx, fun H2 e2 => ⟨_, rfl, ?_⟩⟩
    have e12 := e1.trans e2
    refine iteF ⟨_, rfl, _, rfl, _, rfl, l, th, tt, n, es, rd, hs, rs, tab, rfl, L.same e12, hth.same e12, htt.same e12, hR.same e12, Sx, fun H3 e3 => ?_⟩
    have e13 := e12.trans e3
    have hx3 := e13 _ _ hx
    -- the land
    refine ⟨_, rfl, _, rfl, x, S, dx, _, rfl, hx3, clsS, nS _ (by decide), by show 0 < 1000; decide, ?_⟩
    have b4 : But x H (upd H3 x (.ins S dx (putF "land" (.ref l) []))) := fun b o nb hb => by
      rw [upd_ne nb]
      exact e13 _ _ hb
    have hx4 : upd H3 x (.ins S dx (putF "land" (.ref l) [])) x = some (.ins S dx [("land", .ref l)]) := upd_same
    have L4 := (L.same e13).ni hx3 nlx (.ins S dx (putF "land" (.ref l) []))
    have hth4 := (hth.same e13).ni hx3 (.ins S dx (putF "land" (.ref l) []))
    have htt4 := (htt.same e13).ni hx3 (.ins S dx (putF "land" (.ref l) []))
    have hR4 := (hR.same e13).ni hx3 (.ins S dx (putF "land" (.ref l) []))
    generalize upd H3 x (.ins S dx (putF "land" (.ref l) [])) = H4 at b4 hx4 L4 hth4 htt4 hR4 ⊢
    -- the hands
    refine ⟨fun σ' H' => ∃ th', σ' = [some (.ref x), some (.ref l), some (.ref th), some (.ref tt), none] ∧ But x H H' ∧ H' x = some (.ins S dx [("land", .ref l), ("hands", .ref th')]) ∧ LandO a.C H' l n es rd ∧ H' th' = some (.tup (ints_ hs)) ∧ SqOf H' tt (rs.map V.ref) ∧ RAt H' rs tab, ?_, fun σ' H' hM => ?_⟩
    · have fin : ∀ H5 th', Same H4 H5 → H5 th' = some (.tup (ints_ hs)) → ∃ th'_1, [some (V.ref x), some (V.ref l), some (V.ref th), some (V.ref tt), none] = [some (V.ref x), some (V.ref l), some (V.ref th), some (V.ref tt), none] ∧ But x H (upd H5 x (.ins S dx (putF "hands" (.ref th') [("land", .ref l)]))) ∧ upd H5 x (.ins S dx (putF "hands" (.ref th') [("land", .ref l)])) x = some (.ins S dx [("land", .ref l), ("hands", .ref th'_1)]) ∧ LandO a.C (upd H5 x (.ins S dx (putF "hands" (.ref th') [("land", .ref l)]))) l n es rd ∧ upd H5 x (.ins S dx (putF "hands" (.ref th') [("land", .ref l)])) th'_1 = some (.tup (ints_ hs)) ∧ SqOf (upd H5 x (.ins S dx (putF "hands" (.ref th') [("land", .ref l)]))) tt (rs.map V.ref) ∧ RAt (upd H5 x (.ins S dx (putF "hands" (.ref th') [("land", .ref l)]))) rs tab := fun H5 th' e5 h5 => by
        have hx5 := e5 _ _ hx4
        exact ⟨th', rfl, (b4.same e5).put _, upd_same, (L4.same e5).ni hx5 nlx _, keepNI hx5 h5 (fun _ _ _ e => by cases e), (htt4.same e5).ni hx5 _, (hR4.same e5).ni hx5 _⟩
      refine ⟨_, rfl, th, ints_ hs, rfl, ?_⟩
      rcases hth4 with z | z
      · refine .inr ⟨.inl (.inl z), ?_⟩
        refine ⟨_, rfl, x, S, dx, _, rfl, hx4, clsS, nS _ (by decide), by show 1 < 1000; decide, ?_⟩
        exact fin H4 th (Same.refl H4) z
      · refine .inl ⟨.inl (.inl z), fun u nu => ?_⟩
        have e5 := al (o := .tup (ints_ hs)) nu
        refine ⟨_, rfl, x, S, dx, _, rfl, e5 _ _ hx4, clsS, nS _ (by decide), by show 1 < 1000; decide, ?_⟩
        exact fin _ u e5 upd_same
    · obtain ⟨th', rfl, b5, hx5, L5, h5, htt5, hR5⟩ := hM
      have rl : rs.length = tab.length := hR5.len
      have t5 : tab.length ≤ 5 := by rw [Sx.tl]; exact n5
      rcases htt5 with z | z
      · refine .inl ⟨_, rfl, tt, rfl, ⟨_, .inl (.inl z)⟩, fun D hD => lc_tup (xs := rs.map V.ref) (fun j H6 => Same H' H6 ∧ ∃ us, H6 D = some (.lst (us.map V.ref)) ∧ RTt H6 us (tab.take j) ∧ us.length ≤ j) ⟨al hD, [], upd_same, .nil, Nat.le_refl _⟩ (fun j H6 _ pv => .inl (.inl (pv.1 _ _ z))) (fun j v H6 hv pv => ?_) (fun H6 pv => ?_)⟩
        · obtain ⟨e6, us, hD6, tU, lu⟩ := pv
          have hj := (List.getElem?_eq_some_iff.mp hv).1
          rw [List.length_map] at hj
          rw [List.getElem?_map] at hv
          obtain ⟨r, hr', rfl⟩ := Option.map_eq_some_iff.mp hv
          obtain ⟨row, hrow, hat⟩ := hR5.get hr'
          have tk : tab.take (j + 1) = tab.take j ++ [row] := by rw [List.take_add_one, hrow]; rfl
          have fin : ∀ H7 u, Same H6 H7 → H7 u = some (.tup (wds row)) → ∃ acc, H7 D = some (.lst acc) ∧ acc.length < sizeLine ∧ (Same H' (upd H7 D (.lst (acc ++ [.ref u]))) ∧ ∃ us, upd H7 D (.lst (acc ++ [.ref u])) D = some (.lst (us.map V.ref)) ∧ RTt (upd H7 D (.lst (acc ++ [.ref u]))) us (tab.take (j + 1)) ∧ us.length ≤ j + 1) := fun H7 u e7 hu => by
            have hD7 := e7 _ _ hD6
            have up : ∀ b xs, H7 b = some (.tup xs) → upd H7 D (.lst (us.map V.ref ++ [.ref u])) b = some (.tup xs) := fun b xs hb => by
              rw [upd_ne (fun z => by rw [z, hD7] at hb; cases hb)]
              exact hb
            refine ⟨_, hD7, by rw [List.length_map]; exact small1000 (by omega), fun b y hb => ?_, us ++ [u], by rw [upd_same, List.map_append]; rfl, ?_, by rw [List.length_append, List.length_singleton]; omega⟩
            · rw [upd_ne (ne_of_none hb hD)]
              exact e7 _ _ (e6 _ _ hb)
            · rw [tk]
              exact ((tU.same e7).mono up).append (.cons (up _ _ hu) .nil)
          refine ⟨rfl, _, rfl, r, wds row, rfl, ?_⟩
          rcases hat.same e6 with y | y
          · exact .inr ⟨.inl (.inl y), fin H6 r (Same.refl H6) y⟩
          · exact .inl ⟨.inl (.inl y), fun u nu => fin _ u (al nu) upd_same⟩
        · obtain ⟨e6, us, hD6, tU, lu⟩ := pv
          rw [List.length_map, rl, List.take_length] at tU
          refine ⟨D, us.map V.ref, rfl, .inl ⟨.inl (.inl hD6), fun tn' ntn => ?_⟩⟩
          have e7 := e6.trans (al (o := .tup (us.map V.ref)) ntn)
          have hx7 := e7 _ _ hx5
          refine ⟨_, rfl, x, S, dx, _, rfl, hx7, clsS, nS _ (by decide), by show 2 < 1000; decide, ?_⟩
          have no : ∀ (xs : List V) (C dx : Addr) fs, HO.tup xs ≠ .ins C dx fs := fun _ _ _ _ e => by cases e
          refine q _ ((b5.same e7).put _) ⟨⟨dx, th', tn', us, upd_same, keepNI hx7 (e7 _ _ h5) (no _), keepNI hx7 upd_same (no _), ?_⟩, (L5.same e7).ni hx7 nlx _, Sx⟩
          exact (tU.same (al ntn)).mono fun b xs hb => keepNI hx7 hb (no _)
      · refine .inr ⟨_, rfl, tt, rfl, ⟨_, .inl (.inl z)⟩, fun D hD => lc_list (xs := rs.map V.ref) (fun j H6 => Same H' H6 ∧ ∃ us, H6 D = some (.lst (us.map V.ref)) ∧ RTt H6 us (tab.take j) ∧ us.length ≤ j) ⟨al hD, [], upd_same, .nil, Nat.le_refl _⟩ (fun j H6 _ pv => .inl (.inl (pv.1 _ _ z))) (fun j v H6 hv pv => ?_) (fun H6 pv => ?_)⟩
        · obtain ⟨e6, us, hD6, tU, lu⟩ := pv
          have hj := (List.getElem?_eq_some_iff.mp hv).1
          rw [List.length_map] at hj
          rw [List.getElem?_map] at hv
          obtain ⟨r, hr', rfl⟩ := Option.map_eq_some_iff.mp hv
          obtain ⟨row, hrow, hat⟩ := hR5.get hr'
          have tk : tab.take (j + 1) = tab.take j ++ [row] := by rw [List.take_add_one, hrow]; rfl
          have fin : ∀ H7 u, Same H6 H7 → H7 u = some (.tup (wds row)) → ∃ acc, H7 D = some (.lst acc) ∧ acc.length < sizeLine ∧ (Same H' (upd H7 D (.lst (acc ++ [.ref u]))) ∧ ∃ us, upd H7 D (.lst (acc ++ [.ref u])) D = some (.lst (us.map V.ref)) ∧ RTt (upd H7 D (.lst (acc ++ [.ref u]))) us (tab.take (j + 1)) ∧ us.length ≤ j + 1) := fun H7 u e7 hu => by
            have hD7 := e7 _ _ hD6
            have up : ∀ b xs, H7 b = some (.tup xs) → upd H7 D (.lst (us.map V.ref ++ [.ref u])) b = some (.tup xs) := fun b xs hb => by
              rw [upd_ne (fun z => by rw [z, hD7] at hb; cases hb)]
              exact hb
            refine ⟨_, hD7, by rw [List.length_map]; exact small1000 (by omega), fun b y hb => ?_, us ++ [u], by rw [upd_same, List.map_append]; rfl, ?_, by rw [List.length_append, List.length_singleton]; omega⟩
            · rw [upd_ne (ne_of_none hb hD)]
              exact e7 _ _ (e6 _ _ hb)
            · rw [tk]
              exact ((tU.same e7).mono up).append (.cons (up _ _ hu) .nil)
          refine ⟨rfl, _, rfl, r, wds row, rfl, ?_⟩
          rcases hat.same e6 with y | y
          · exact .inr ⟨.inl (.inl y), fin H6 r (Same.refl H6) y⟩
          · exact .inl ⟨.inl (.inl y), fun u nu => fin _ u (al nu) upd_same⟩
        · obtain ⟨e6, us, hD6, tU, lu⟩ := pv
          rw [List.length_map, rl, List.take_length] at tU
          refine ⟨D, us.map V.ref, rfl, .inl ⟨.inl (.inl hD6), fun tn' ntn => ?_⟩⟩
          have e7 := e6.trans (al (o := .tup (us.map V.ref)) ntn)
          have hx7 := e7 _ _ hx5
          refine ⟨_, rfl, x, S, dx, _, rfl, hx7, clsS, nS _ (by decide), by show 2 < 1000; decide, ?_⟩
          have no : ∀ (xs : List V) (C dx : Addr) fs, HO.tup xs ≠ .ins C dx fs := fun _ _ _ _ e => by cases e
          refine q _ ((b5.same e7).put _) ⟨⟨dx, th', tn', us, upd_same, keepNI hx7 (e7 _ _ h5) (no _), keepNI hx7 upd_same (no _), ?_⟩, (L5.same e7).ni hx7 nlx _, Sx⟩
          exact (tU.same (al ntn)).mono fun b xs hb => keepNI hx7 hb (no _)
end
end K7
end
/-! ## P18 -/
section
open PySem PySem.Spec PyProof.Rows L2
namespace K7
abbrev N_State_hand : List Str := ["self", "a"]
abbrev s_State_hand : Stmt := inClass (topS 30) 4
theorem sc_State_hand : FnScope ["self", "a"] ["self", "a"] (defScope s_State_hand) := ⟨rfl, rfl, rfl, by decide +kernel, rfl, by decide +kernel, by decide +kernel⟩
abbrev N_State_standing : List Str := ["self", "a", "b"]
abbrev s_State_standing : Stmt := inClass (topS 30) 5
theorem sc_State_standing : FnScope ["self", "a", "b"] ["self", "a", "b"] (defScope s_State_standing) := ⟨rfl, rfl, rfl, by decide +kernel, rfl, by decide +kernel, by decide +kernel⟩
abbrev N_State_is_own : List Str := ["self", "a", "b"]
abbrev s_State_is_own : Stmt := inClass (topS 30) 6
theorem sc_State_is_own : FnScope ["self", "a", "b"] ["self", "a", "b"] (defScope s_State_is_own) := ⟨rfl, rfl, rfl, by decide +kernel, rfl, by decide +kernel, by decide +kernel⟩
abbrev N_State_passes : List Str := ["self", "a", "b"]
abbrev s_State_passes : Stmt := inClass (topS 30) 7
theorem sc_State_passes : FnScope ["self", "a", "b"] ["self", "a", "b"] (defScope s_State_passes) := ⟨rfl, rfl, rfl, by decide +kernel, rfl, by decide +kernel, by decide +kernel⟩
abbrev N_passed_cells : List Str := ["hands", "row", "a", "b", "hand"]
abbrev s_passed_cells : Stmt := topS 25
theorem sc_passed_cells : FnScope ["hands", "row", "a", "b", "hand"] ["hands", "row", "a"] (defScope s_passed_cells) := ⟨rfl, rfl, rfl, by decide +kernel, rfl, by decide +kernel, by decide +kernel⟩
abbrev N_State_passing : List Str := ["self", "a"]
abbrev s_State_passing : Stmt := inClass (topS 30) 9
theorem sc_State_passing : FnScope ["self", "a"] ["self", "a"] (defScope s_State_passing) := ⟨rfl, rfl, rfl, by decide +kernel, rfl, by decide +kernel, by decide +kernel⟩
section
variable {P : Program} {w : World} {K : PySem.W.Frag} {mg : Str → Option Value} {base : Heap} {a : AdL} {aST aRI S fE : Addr} {tH : Tok}
variable {fk : Addr} (Gck : FnR P w K mg base (L2.CX P w) 4 fk (spCheck a)) (gck : mg "check_cells" = some (.ref fk)) (kck : PySem.W.keepIn K (.ref fk) = true)
theorem StTab.hat {n : Nat} {hs : List Nat} {tab : List (List Nat)} (S : StTab n hs tab) {c : Nat} (h : c < n) : (ints_ hs)[c]? = some (.int (hsAt hs c : Nat)) := by
  unfold ints_ hsAt
  rw [List.getElem?_map, List.getElem?_eq_getElem (by rw [S.hl]; exact h), List.getD_eq_getElem?_getD, List.getElem?_eq_getElem (by rw [S.hl]; exact h)]
  rfl
theorem RTt.row {n : Nat} {hs : List Nat} {tab : List (List Nat)} {rs : List Addr} {H : Hp} (S : StTab n hs tab) (hR : RTt H rs tab) {x : Nat} (hx : x < n) : ∃ r row, (rs.map V.ref)[x]? = some (.ref r) ∧ H r = some (.tup (wds row)) ∧ row.length = n ∧ tab.getD x [] = row ∧ ∀ y, y < n → (wds row)[y]? = some (.str (wd (tabAt tab x y))) ∧ row.getD y 0 = tabAt tab x y := by
  have lr : x < rs.length := by rw [hR.len, S.tl]; exact hx
  obtain ⟨r, hr⟩ : ∃ r, rs[x]? = some r := ⟨_, List.getElem?_eq_getElem lr⟩
  obtain ⟨row, h1, h2⟩ := hR.get hr
  have hl := S.rl row (List.mem_of_getElem? h1)
  have eg : tab.getD x [] = row := by rw [List.getD_eq_getElem?_getD, h1]; rfl
  refine ⟨r, row, by rw [List.getElem?_map, hr]; rfl, h2, hl, eg, fun y hy => ⟨?_, by unfold tabAt; rw [eg]⟩⟩
  unfold wds tabAt
  rw [eg, List.getElem?_map, List.getD_eq_getElem?_getD, List.getElem?_eq_getElem (by rw [hl]; exact hy)]
  rfl
def spSHand (a : AdL) (S : Addr) : Sp := fun vs H Q E => ∃ (p l : Addr) (n : Nat) (es : List (Nat × Nat)) (rd hs : List Nat) (tab : List (List Nat)) (y : V), vs = [.ref p, y] ∧ StateO a.C S H p l n es rd hs tab ∧ CellOr a.B n H y E fun c => ∀ H', Same H H' → Q (.int (hsAt hs c : Nat)) H'
include Gck gck kck in
theorem ok_shand (clsS : Cls K S) (nS : ∀ f ∈ sfields, NoAttr K S f) {f : Addr} {fd : FuncData} (F : Fun K "hand" "State.hand" s_State_hand f fd) : FnOk P w K mg base (L2.CX P w) 5 f fd ["self", "a"] (spSHand a S) := by
  refine F.okX sc_State_hand (fun vs H Q E h => ?_) (fun cdv A outer s H vs Q E hr h => ?_)
  · obtain ⟨p, l, n, es, rd, hs, tab, y, rfl, _⟩ := h
    rfl
  · obtain ⟨p, l, n, es, rd, hs, tab, y, rfl, W, h⟩ := h
    refine ⟨_, (pss_cons (ps_expr (K7E.pe_callR0 Gck (hr.mono (by decide)) (by rfl) gck kck (passes_call (E := E) (takes_of rfl rfl rfl rfl) (fun _ _ _ _ h => h)) (pa_cons (pe_fld (pv 0) rfl) (pa_cons (pv 1) pa_nil))))
 (pss_one (ps_ret (pe_ix ix_tup (pe_fld (pv 0) rfl) (pv 1) (fun _ _ => rfl))))), ?_⟩
    obtain ⟨dx, th, tt, rs, h1, h2, h3, h4⟩ := W.at_
    rcases h with ⟨c, rfl, hc, q⟩ | ⟨thg, wf, fl⟩
    · refine ⟨_, rfl, p, S, dx, _, _, rfl, h1, clsS, nS _ (by decide), rfl, _, rfl, l, n, [.int (c : Nat)], rfl, W.ld.c, by show 1 < 64; decide, .inl ⟨fun y hy => by rw [List.mem_singleton.mp hy]; exact .flat (.int _), one_in hc, fun H1 e1 => ?_⟩⟩
      exact ⟨_, rfl, p, S, dx, _, _, rfl, e1 _ _ h1, clsS, nS _ (by decide), rfl, _, rfl, th, _, _, _, rfl, rfl, .inl (.inl (e1 _ _ h2)), atI_nat (W.st.hat hc), q _ e1⟩
    · exact ⟨_, rfl, p, S, dx, _, _, rfl, h1, clsS, nS _ (by decide), rfl, _, rfl, l, n, [y], rfl, W.ld.c, by show 1 < 64; decide, .inr ⟨[], y, [], rfl, fun y hy => (nomatch hy), fun y hy => (nomatch hy), thg, wf, fl⟩⟩
def spSStand (a : AdL) (S : Addr) : Sp := fun vs H Q E => ∃ (p l : Addr) (n : Nat) (es : List (Nat × Nat)) (rd hs : List Nat) (tab : List (List Nat)) (y z : V), vs = [.ref p, y, z] ∧ StateO a.C S H p l n es rd hs tab ∧ CellOr a.B n H y E fun c => CellOr a.B n H z E fun d => ∀ H', Same H H' → Q (.str (wd (tabAt tab c d))) H'
include Gck gck kck in
theorem ok_sstand (clsS : Cls K S) (nS : ∀ f ∈ sfields, NoAttr K S f) {f : Addr} {fd : FuncData} (F : Fun K "standing" "State.standing" s_State_standing f fd) : FnOk P w K mg base (L2.CX P w) 5 f fd ["self", "a", "b"] (spSStand a S) := by
  refine F.okX sc_State_standing (fun vs H Q E h => ?_) (fun cdv A outer s H vs Q E hr h => ?_)
  · obtain ⟨p, l, n, es, rd, hs, tab, y, z, rfl, _⟩ := h
    rfl
  · obtain ⟨p, l, n, es, rd, hs, tab, y0, z0, rfl, W, h⟩ := h
    refine ⟨_, (pss_cons (ps_expr (K7E.pe_callR0 Gck (hr.mono (by decide)) (by rfl) gck kck (passes_call (E := E) (takes_of rfl rfl rfl rfl) (fun _ _ _ _ h => h)) (pa_cons (pe_fld (pv 0) rfl) (pa_cons (pv 1) (pa_cons (pv 2) pa_nil)))))
 (pss_one (ps_ret (pe_ix ix_tup (pe_ix ix_tup (pe_fld (pv 0) rfl) (pv 1) (fun _ _ => rfl)) (pv 2) (fun _ _ => rfl))))), ?_⟩
    obtain ⟨dx, th, tt, rs, h1, h2, h3, h4⟩ := W.at_
    rcases h with ⟨c, rfl, hc, ⟨d, rfl, hd, q⟩ | ⟨thg, wf, fl⟩⟩ | ⟨thg, wf, fl⟩
    · refine ⟨_, rfl, p, S, dx, _, _, rfl, h1, clsS, nS _ (by decide), rfl, _, rfl, _, rfl, l, n, [.int (c : Nat), .int (d : Nat)], rfl, W.ld.c, by show 2 < 64; decide, .inl ⟨fun z hz => ?_, fun z hz => ?_, fun H1 e1 => ?_⟩⟩
      · rcases List.mem_cons.mp hz with rfl | hz
        · exact .flat (.int _)
        · rw [List.mem_singleton.mp hz]
          exact .flat (.int _)
      · rcases List.mem_cons.mp hz with rfl | hz
        · exact whole_cell hc
        · rw [List.mem_singleton.mp hz]
          exact whole_cell hd
      · obtain ⟨r, row, hr, hrow, hl, _, hw⟩ := RTt.row W.st h4 hc
        refine ⟨_, rfl, p, S, dx, _, _, rfl, e1 _ _ h1, clsS, nS _ (by decide), rfl, _, rfl, tt, _, _, _, rfl, rfl, .inl (.inl (e1 _ _ h3)), atI_nat hr, ?_⟩
        exact ⟨_, rfl, r, _, _, _, rfl, rfl, .inl (.inl (e1 _ _ hrow)), atI_nat (hw d hd).1, q _ e1⟩
    · exact ⟨_, rfl, p, S, dx, _, _, rfl, h1, clsS, nS _ (by decide), rfl, _, rfl, _, rfl, l, n, [.int (c : Nat), z0], rfl, W.ld.c, by show 2 < 64; decide, .inr ⟨[.int (c : Nat)], z0, [], rfl, fun z hz => by rw [List.mem_singleton.mp hz]; exact .flat (.int _), one_in hc, thg, wf, fl⟩⟩
    · exact ⟨_, rfl, p, S, dx, _, _, rfl, h1, clsS, nS _ (by decide), rfl, _, rfl, _, rfl, l, n, [y0, z0], rfl, W.ld.c, by show 2 < 64; decide, .inr ⟨[], y0, [z0], rfl, fun z hz => (nomatch hz), fun z hz => (nomatch hz), thg, wf, fl⟩⟩
def spSOwn (a : AdL) (S : Addr) : Sp := fun vs H Q E => ∃ (p l : Addr) (n : Nat) (es : List (Nat × Nat)) (rd hs : List Nat) (tab : List (List Nat)) (y z : V), vs = [.ref p, y, z] ∧ StateO a.C S H p l n es rd hs tab ∧ CellOr a.B n H y E fun c => CellOr a.B n H z E fun d => ∀ H', Same H H' → Q (.bl (decide (hsAt hs c = hsAt hs d))) H'
include Gck gck kck in
theorem ok_sown (clsS : Cls K S) (nS : ∀ f ∈ sfields, NoAttr K S f) {f : Addr} {fd : FuncData} (F : Fun K "is_own" "State.is_own" s_State_is_own f fd) : FnOk P w K mg base (L2.CX P w) 5 f fd ["self", "a", "b"] (spSOwn a S) := by
  refine F.okX sc_State_is_own (fun vs H Q E h => ?_) (fun cdv A outer s H vs Q E hr h => ?_)
  · obtain ⟨p, l, n, es, rd, hs, tab, y, z, rfl, _⟩ := h
    rfl
  · obtain ⟨p, l, n, es, rd, hs, tab, y0, z0, rfl, W, h⟩ := h
    refine ⟨_, (pss_cons (ps_expr (K7E.pe_callR0 Gck (hr.mono (by decide)) (by rfl) gck kck (passes_call (E := E) (takes_of rfl rfl rfl rfl) (fun _ _ _ _ h => h)) (pa_cons (pe_fld (pv 0) rfl) (pa_cons (pv 1) (pa_cons (pv 2) pa_nil)))))
 (pss_one (ps_ret (pe_cmpR op_eq (pe_ix ix_tup (pe_fld (pv 0) rfl) (pv 1) (fun _ _ => rfl)) (pe_ix ix_tup (pe_fld (pv 0) rfl) (pv 2) (fun _ _ => rfl)) (nomark _))))), ?_⟩
    obtain ⟨dx, th, tt, rs, h1, h2, h3, h4⟩ := W.at_
    rcases h with ⟨c, rfl, hc, ⟨d, rfl, hd, q⟩ | ⟨thg, wf, fl⟩⟩ | ⟨thg, wf, fl⟩
    · refine ⟨_, rfl, p, S, dx, _, _, rfl, h1, clsS, nS _ (by decide), rfl, _, rfl, _, rfl, l, n, [.int (c : Nat), .int (d : Nat)], rfl, W.ld.c, by show 2 < 64; decide, .inl ⟨fun z hz => ?_, fun z hz => ?_, fun H1 e1 => ?_⟩⟩
      · rcases List.mem_cons.mp hz with rfl | hz
        · exact .flat (.int _)
        · rw [List.mem_singleton.mp hz]
          exact .flat (.int _)
      · rcases List.mem_cons.mp hz with rfl | hz
        · exact whole_cell hc
        · rw [List.mem_singleton.mp hz]
          exact whole_cell hd
      · refine ⟨_, rfl, p, S, dx, _, _, rfl, e1 _ _ h1, clsS, nS _ (by decide), rfl, _, rfl, th, _, _, _, rfl, rfl, .inl (.inl (e1 _ _ h2)), atI_nat (W.st.hat hc), ?_⟩
        refine ⟨_, rfl, p, S, dx, _, _, rfl, e1 _ _ h1, clsS, nS _ (by decide), rfl, _, rfl, th, _, _, _, rfl, rfl, .inl (.inl (e1 _ _ h2)), atI_nat (W.st.hat hd), ?_⟩
        have dv : decide (V.int (hsAt hs c : Nat) = V.int (hsAt hs d : Nat)) = decide (hsAt hs c = hsAt hs d) := decide_eq_decide.mpr ⟨fun h => by injection h with h; omega, fun h => by rw [h]⟩
        refine ⟨rfl, ?_⟩
        rw [dv]
        exact q _ e1
    · exact ⟨_, rfl, p, S, dx, _, _, rfl, h1, clsS, nS _ (by decide), rfl, _, rfl, _, rfl, l, n, [.int (c : Nat), z0], rfl, W.ld.c, by show 2 < 64; decide, .inr ⟨[.int (c : Nat)], z0, [], rfl, fun z hz => by rw [List.mem_singleton.mp hz]; exact .flat (.int _), one_in hc, thg, wf, fl⟩⟩
    · exact ⟨_, rfl, p, S, dx, _, _, rfl, h1, clsS, nS _ (by decide), rfl, _, rfl, _, rfl, l, n, [y0, z0], rfl, W.ld.c, by show 2 < 64; decide, .inr ⟨[], y0, [z0], rfl, fun z hz => (nomatch hz), fun z hz => (nomatch hz), thg, wf, fl⟩⟩
theorem iteB {b : Bool} {p q : Prop} (h1 : b = true → p) (h2 : b = false → q) : if b = true then p else q := by
  cases b with
  | true => exact h1 rfl
  | false => exact h2 rfl
theorem CellOr.mono {B : Addr} {n : Nat} {H : Hp} {x : V} {E : XK} {q q' : Nat → Prop} (h : CellOr B n H x E q) (i : ∀ c, x = .int (c : Nat) → c < n → q c → q' c) : CellOr B n H x E q' := by
  rcases h with ⟨c, rfl, h1, h2⟩ | h
  · exact .inl ⟨c, rfl, h1, i c rfl h1 h2⟩
  · exact .inr h
/-- a right that is awake or needed -/
def rightV (k : Nat) : Bool := decide (k = 1 ∨ k = 2)
theorem wd_right (k : Nat) : inV (.str (wd k)) [.str "awake", .str "needed"] = rightV k := by
  match k with
  | 0 => decide +kernel
  | 1 => decide +kernel
  | 2 => decide +kernel
  | k + 3 =>
    have e : rightV (k + 3) = false := decide_eq_false (by omega)
    rw [e]
    show inV (.str "asleep") [.str "awake", .str "needed"] = false
    decide +kernel
def passV (hs : List Nat) (row : List Nat) (c b : Nat) : Bool := decide (hsAt hs b = hsAt hs c) || rightV (row.getD b 0)
def spSPass (a : AdL) (S : Addr) : Sp := fun vs H Q E => ∃ (p l : Addr) (n : Nat) (es : List (Nat × Nat)) (rd hs : List Nat) (tab : List (List Nat)) (y z : V), vs = [.ref p, y, z] ∧ StateO a.C S H p l n es rd hs tab ∧ CellOr a.B n H y E fun c => CellOr a.B n H z E fun d => ∀ H', Same H H' → Q (.bl (decide (hsAt hs c = hsAt hs d) || rightV (tabAt tab c d))) H'
theorem ok_spass (T5 : T5s K mg aST aRI tH) (clsS : Cls K S) (nS : ∀ f ∈ sfields, NoAttr K S f) {f fo : Addr} {fd fdo : FuncData} (F : Fun K "passes" "State.passes" s_State_passes f fd)
    (mOwn : Meth K S "is_own" fo) (Gow : FnOk P w K mg base (L2.CX P w) 5 fo fdo ["self", "a", "b"] (spSOwn a S)) (bow : Binds K fdo ["self", "a", "b"] []) : FnOk P w K mg base (L2.CX P w) 6 f fd ["self", "a", "b"] (spSPass a S) := by
  refine F.okX sc_State_passes (fun vs H Q E h => ?_) (fun cdv A outer s H vs Q E hr h => ?_)
  · obtain ⟨p, l, n, es, rd, hs, tab, y, z, rfl, _⟩ := h
    rfl
  · obtain ⟨p, l, n, es, rd, hs, tab, y0, z0, rfl, W, h⟩ := h
    refine ⟨_, (pss_one (ps_ret (pe_or (pe_meth (pv 0) clsS mOwn Gow (hr.mono (by decide)) bow .nil (passes_call (E := E) (takes_of rfl rfl rfl rfl) (fun _ _ _ _ h => h)) (pa_cons (pv 1) (pa_cons (pv 2) pa_nil))) (pe_one (pe_cmpR op_in_seq (pe_ix ix_tup (pe_ix ix_tup (pe_fld (pv 0) rfl) (pv 1) (fun _ _ => rfl)) (pv 2) (fun _ _ => rfl)) (pe_glob (v := .ref _) rfl T5.gRI rfl) (by with_unfolding_all rfl)))))), ?_⟩
    obtain ⟨dx, th, tt, rs, h1, h2, h3, h4⟩ := W.at_
    refine ⟨_, rfl, p, dx, _, rfl, h1, rfl, _, rfl, _, rfl, p, l, n, es, rd, hs, tab, y0, z0, rfl, W, h.mono fun c ec hc h => h.mono fun d ed hd q H1 e1 => ⟨_, rfl, iteB (fun t => ?_) (fun t => ?_)⟩⟩
    · have z := q H1 e1
      rw [t] at z
      exact z
    · subst ec ed
      obtain ⟨r, row, hr', hrow, hl, _, hw⟩ := RTt.row W.st h4 hc
      refine ⟨_, rfl, p, S, dx, _, _, rfl, e1 _ _ h1, clsS, nS _ (by decide), rfl, _, rfl, tt, _, _, _, rfl, rfl, .inl (.inl (e1 _ _ h3)), atI_nat hr', ?_⟩
      refine ⟨_, rfl, r, _, _, _, rfl, rfl, .inl (.inl (e1 _ _ hrow)), atI_nat (hw d hd).1, aRI, _, rfl, .inr (T5.sRI _), rfl, rfl, ?_⟩
      have z := q H1 e1
      rw [t] at z
      show Q (.bl (inV (.str (wd (tabAt tab c d))) [.str "awake", .str "needed"])) H1
      rw [wd_right]
      exact z
/-- the cells that are passed -/
def passC (hs : List Nat) (row : List Nat) (n c : Nat) : List Nat := (List.range n).filter (passV hs row c)
def spPassd : Sp := fun vs H Q _ => ∃ (th tr : Addr) (n c : Nat) (hs row : List Nat), vs = [.ref th, .ref tr, .int (c : Nat)] ∧ H th = some (.tup (ints_ hs)) ∧ H tr = some (.tup (wds row)) ∧ hs.length = n ∧ row.length = n ∧ n ≤ 5 ∧ c < n ∧
  ∀ H' u, Same H H' → H u = none → H' u = some (.tup (ints_ (passC hs row n c))) → Q (.ref u) H'
theorem ok_passd (T5 : T5s K mg aST aRI tH) {f : Addr} {fd : FuncData} (F : Fun K "passed_cells" "passed_cells" s_passed_cells f fd) (m_tuple : mg "tuple" = none) (m_enumerate : mg "enumerate" = none) : FnOk P w K mg base CX0 1 f fd ["hands", "row", "a"] spPassd := by
  refine F.ok sc_passed_cells (fun vs H Q E h => ?_) (fun cdv A outer s H vs Q E hr h => ?_)
  · obtain ⟨th, tr, n, c, hs, row, rfl, _⟩ := h
    rfl
  · obtain ⟨th, tr, n, c, hs, row, rfl, hth, htr, hl, rl, n5, hc, q⟩ := h
    refine ⟨_, (pss_one (ps_ret (pe_callTy call_tuple_of (by rfl) m_tuple boot_tuple (pa_cons (pe_lc (own := [("b", 3), ("hand", 4)]) (g := gTup K 2 (gCons (gName 3) (gCons (gName 4) (gNil)))) rfl sc_passed_cells.nd (K7E.pi_enumT (by rfl) m_enumerate (pa_cons (pv 0) pa_nil)) (blkOk_by (own := [("b", 3), ("hand", 4)]) (N := N_passed_cells) (sc := defScope s_passed_cells) (by decide +kernel)) (fun _ _ _ _ _ => (pg_tup rfl (pgs_cons (pg_name (i := 3) sc_passed_cells.nd rfl (by first | exact Or.inl rfl | exact Or.inr rfl)) (pgs_cons (pg_name (i := 4) sc_passed_cells.nd rfl (by first | exact Or.inl rfl | exact Or.inr rfl)) pgs_nil)))) (fun _ _ _ _ _ => (pts_one (PW.pt (pw_or (pt_cmpR op_eq (pv 4) (pe_ix (show IxR _ (rIxT K) from ix_tup) (pv 0) (pv 2) (fun _ _ => rfl)) (nomark _)) (pw_or1 (pt_cmpR (show OpR _ _ (rIn K false) from op_in_seq) (pe_ix (show IxR _ (rIxT K) from ix_tup) (pv 1) (pv 3) (fun _ _ => rfl)) (pe_glob (v := .ref _) rfl T5.gRI rfl) (by with_unfolding_all rfl))))))) (fun _ _ _ _ _ => (pv 3))) pa_nil)))), ?_⟩
    have il : (ints_ hs).length = n := by unfold ints_; rw [List.length_map, hl]
    have hat : ∀ c, c < n → (ints_ hs)[c]? = some (.int (hsAt hs c : Nat)) := fun c h => by
      unfold ints_ hsAt
      rw [List.getElem?_map, List.getElem?_eq_getElem (by rw [hl]; exact h), List.getD_eq_getElem?_getD, List.getElem?_eq_getElem (by rw [hl]; exact h)]
      rfl
    have wat : ∀ c, c < n → (wds row)[c]? = some (.str (wd (row.getD c 0))) := fun c h => by
      unfold wds
      rw [List.getElem?_map, List.getElem?_eq_getElem (by rw [rl]; exact h), List.getD_eq_getElem?_getD, List.getElem?_eq_getElem (by rw [rl]; exact h)]
      rfl
    refine ⟨_, rfl, th, _, rfl, .inl (.inl hth), fun D hD => lc_it (K7E.walk_enumT (xs := ints_ hs)) (fun j H2 => Same H H2 ∧ H2 D = some (.lst (ints_ ((List.range j).filter (passV hs row c))))) ⟨al hD, upd_same⟩ (fun j H2 _ pv => .inl (.inl (pv.1 _ _ hth))) (fun j x H2 H3 hj pv hy => ?_) (fun H2 pv => ?_)⟩
    · obtain ⟨e2, hD2⟩ := pv
      obtain ⟨T', x', y', rfl, nT, rfl, e3, e4⟩ := hy
      obtain rfl := Option.some.inj e3
      have jn : j < n := by rw [← il]; exact hj
      obtain rfl := Option.some.inj ((hat j jn).symm.trans e4)
      have sT := al (o := .tup [.int (j : Nat), .int (hsAt hs j : Nat)]) nT
      have e23 := e2.trans sT
      have hD3 := sT _ _ hD2
      refine ⟨T', _, rfl, .inl (.inl upd_same), rfl, _, _, rfl, _, _, rfl, rfl, rfl, ?_⟩
      have pass : ∀ H4, Same (upd H2 T' (.tup [.int (j : Nat), .int (hsAt hs j : Nat)])) H4 → passV hs row c j = true → ∃ acc, H4 D = some (.lst acc) ∧ acc.length < sizeLine ∧ (Same H (upd H4 D (.lst (acc ++ [.int (j : Nat)]))) ∧ upd H4 D (.lst (acc ++ [.int (j : Nat)])) D = some (.lst (ints_ ((List.range (j + 1)).filter (passV hs row c))))) := fun H4 e4 t => by
        refine ⟨_, e4 _ _ hD3, by unfold ints_; rw [List.length_map]; exact small1000 (Nat.le_trans (List.length_filter_le _ _) (by rw [List.length_range]; omega)), fun b z hb => ?_, ?_⟩
        · rw [upd_ne (ne_of_none hb hD)]
          exact e4 _ _ (e23 _ _ hb)
        · rw [upd_same, range_filter, if_pos t, ints_snoc]
      have dv : decide (V.int (hsAt hs j : Nat) = V.int (hsAt hs c : Nat)) = decide (hsAt hs j = hsAt hs c) := decide_eq_decide.mpr ⟨fun h => by injection h with h; omega, fun h => by rw [h]⟩
      refine ⟨_, rfl, _, rfl, _, rfl, th, _, _, _, rfl, rfl, .inl (.inl (e23 _ _ hth)), atI_nat (hat c hc), rfl, _, rfl, ?_⟩
      rw [dv]
      refine iteB (fun t => iteT ⟨_, rfl, pass _ (Same.refl _) (by unfold passV; rw [t]; rfl)⟩) (fun t => ?_)
      refine ⟨_, rfl, _, rfl, tr, _, _, _, rfl, rfl, .inl (.inl (e23 _ _ htr)), atI_nat (wat j jn), aRI, _, rfl, .inr (T5.sRI _), rfl, rfl, _, rfl, ?_⟩
      show if inV (.str (wd (row.getD j 0))) [.str "awake", .str "needed"] = true then _ else _
      rw [wd_right]
      refine iteB (fun t2 => ⟨_, rfl, pass _ (Same.refl _) (by unfold passV; rw [t2, Bool.or_true])⟩) (fun t2 => ⟨e23, ?_⟩)
      rw [range_filter, if_neg (by unfold passV; rw [t, t2]; decide), List.append_nil]
      exact hD3
    · obtain ⟨e2, hD2⟩ := pv
      rw [il] at hD2
      exact ⟨D, _, rfl, .inl ⟨.inl (.inl hD2), fun u nu => q _ u (e2.trans (al nu)) (e2.free nu) upd_same⟩⟩
end
end K7
end
/-! ## P19 -/
section
open PySem PySem.Spec PyProof.Rows L2
namespace K7
abbrev N_opens : List Str := ["land", "cell", "passing", "b"]
abbrev s_opens : Stmt := topS 21
theorem sc_opens : FnScope ["land", "cell", "passing", "b"] ["land", "cell", "passing"] (defScope s_opens) := ⟨rfl, rfl, rfl, by decide +kernel, rfl, by decide +kernel, by decide +kernel⟩
abbrev N_State_own_cells : List Str := ["self", "a", "b", "hand"]
abbrev s_State_own_cells : Stmt := inClass (topS 30) 8
theorem sc_State_own_cells : FnScope ["self", "a", "b", "hand"] ["self", "a"] (defScope s_State_own_cells) := ⟨rfl, rfl, rfl, by decide +kernel, rfl, by decide +kernel, by decide +kernel⟩
abbrev N_State_is_open : List Str := ["self", "a"]
abbrev s_State_is_open : Stmt := inClass (topS 30) 10
theorem sc_State_is_open : FnScope ["self", "a"] ["self", "a"] (defScope s_State_is_open) := ⟨rfl, rfl, rfl, by decide +kernel, rfl, by decide +kernel, by decide +kernel⟩
/-! ### what a cell reaches -/
def edge (es : List (Nat × Nat)) (a b : Nat) : Prop := (a, b) ∈ es ∨ (b, a) ∈ es
theorem nb_edge {n : Nat} {es : List (Nat × Nat)} (ok : LandOk n es) {a b : Nat} : nbE (nearV n es) a b ↔ edge es a b := by
  constructor
  · rintro ⟨l, el, hb⟩
    have ha : a < n := by
      have z := (List.getElem?_eq_some_iff.mp el).1
      unfold nearV at z
      rw [List.length_map, List.length_range] at z
      exact z
    rw [near_get ha] at el
    obtain rfl := Option.some.inj el
    have z := (List.mem_filter.mp hb).2
    rcases Bool.or_eq_true_iff.mp z with q | q
    · exact .inl (of_decide_eq_true q)
    · exact .inr (of_decide_eq_true q)
  · intro h
    have lts : a < n ∧ b < n := by
      rcases h with z | z
      · obtain ⟨z1, z2⟩ := ok.lt _ z
        exact ⟨by have z1 : a < b := z1; have z2 : b < n := z2; omega, z2⟩
      · obtain ⟨z1, z2⟩ := ok.lt _ z
        exact ⟨z2, by have z1 : b < a := z1; have z2 : a < n := z2; omega⟩
    refine ⟨_, near_get lts.1, List.mem_filter.mpr ⟨List.mem_range.mpr lts.2, ?_⟩⟩
    rcases h with z | z
    · rw [decide_eq_true z]; rfl
    · rw [decide_eq_true z, Bool.or_true]
theorem found_iff {n : Nat} {es : List (Nat × Nat)} {ps fd : List Nat} {c : Nat} (ok : LandOk n es) (f : Found (nearV n es) ps c fd) (x : Nat) : x ∈ fd ↔ KL.Rch (edge es) ps c x := by
  constructor
  · exact fun h => (f.so x h).mono (fun a b => (nb_edge ok).mp) fun b hb => hb
  · intro h
    refine KL.Rch.mem h f.me fun a b ha e hp => ?_
    obtain ⟨l, el, hb⟩ := (nb_edge ok).mpr e
    exact f.cl a ha l el b hb hp
/-- the cells that are reached hold one of the road cells -/
def OpenV (es : List (Nat × Nat)) (rd ps : List Nat) (c : Nat) : Prop := ∃ x ∈ rd, KL.Rch (edge es) ps c x
section
variable {P : Program} {w : World} {K : PySem.W.Frag} {mg : Str → Option Value} {base : Heap} {a : AdL}
def spOpens (C : Addr) : Sp := fun vs H Q _ => ∃ (p : Addr) (n : Nat) (es : List (Nat × Nat)) (rd : List Nat) (c : Nat) (pa : Addr) (ps : List Nat), vs = [.ref p, .int (c : Nat), .ref pa] ∧ LandO C H p n es rd ∧ c < n ∧ SqOf H pa (ints_ ps) ∧
  ∀ H' b, Same H H' → (b = true ↔ OpenV es rd ps c) → Q (.bl b) H'
theorem ok_opens (T : Tl K mg a) {f fS : Addr} {fd fdS : FuncData} (F : Fun K "opens" "opens" s_opens f fd)
    (Gsp : FnOk P w K mg base CX0 1 fS fdS ["nearby", "cell", "passing"] spSpread) (gsp : mg "spread" = some (.ref fS)) (ksp : PySem.W.keepIn K (.ref fS) = true) (bsp : Binds K fdS ["nearby", "cell", "passing"] []) (m_any : mg "any" = none) : FnOk P w K mg base CX0 2 f fd ["land", "cell", "passing"] (spOpens a.C) := by
  refine F.ok sc_opens (fun vs H Q E h => ?_) (fun cdv A outer s H vs Q E hr h => ?_)
  · obtain ⟨p, n, es, rd, c, pa, ps, rfl, _⟩ := h
    rfl
  · obtain ⟨p, n, es, rd, c, pa, ps, rfl, L, hc, hpa, q⟩ := h
    refine ⟨_, (pss_one (ps_ret (pe_callB (cr_any rfl) (by rfl) m_any boot_any (pa_cons (pe_lc (own := [("b", 3)]) (g := gName 3) (tt := tYes) rfl sc_opens.nd (pi_list (pe_call Gsp (hr.mono (by decide)) (by rfl) gsp ksp bsp .nil pass0 (pa_cons (pe_fld (pv 0) rfl) (pa_cons (pv 1) (pa_cons (pv 2) pa_nil))))) (blkOk_by (own := [("b", 3)]) (N := N_opens) (sc := defScope s_opens) (by decide +kernel)) (fun _ _ _ _ _ => (pg_name (i := 3) sc_opens.nd rfl (by first | exact Or.inl rfl | exact Or.inr rfl))) (fun _ _ _ _ _ => pts_nil) (fun _ _ _ _ _ => (pe_cmpR (show OpR _ _ (rIn K false) from op_in_seq) (pv 3) (show PE _ _ (tFld K (tVar 0) "roads") from pe_fld (pv 0) rfl) (by with_unfolding_all rfl)))) pa_nil)))), ?_⟩
    have n5 := L.n5
    have L0 := L
    obtain ⟨dx, an, ar, ay, ac, tn, ty, tc, h1, h2, h3, h4, h5, h6, h7, h8⟩ := L.at_
    have ln : (nearV n es).length = n := by unfold nearV; rw [List.length_map, List.length_range]
    refine ⟨_, rfl, p, a.C, dx, _, _, rfl, h1, T.cl, T.nA _ (by decide), rfl, _, rfl, _, rfl, ay, ty, nearV n es, c, pa, ps, rfl, h5, h6, hpa, by omega, by omega, fun l hl x hx => ?_, fun H1 F0 fd e1 nF hF fo => ?_⟩
    · rw [ln]
      unfold nearV at hl
      obtain ⟨k, _, rfl⟩ := List.mem_map.mp hl
      exact List.mem_range.mp (List.mem_filter.mp hx).1
    · have fl : fd.length ≤ 5 := by
        have z := K7E.nodup_le fd (List.range n) fo.nd fun x hx => List.mem_range.mpr (by have z := fo.lt x hx; rw [ln] at z; exact z)
        rw [List.length_range] at z
        omega
      refine ⟨F0, rfl, ⟨_, .inl (.inl hF)⟩, fun D hD => lc_list (xs := ints_ fd) (fun j H2 => Same H1 H2 ∧ H2 D = some (.lst (((fd.take j).map fun x => decide (x ∈ rd)).map V.bl))) ⟨same_new (Same.refl H1) hD, upd_same⟩ (fun j H2 _ pv => .inl (.inl (pv.1 _ _ hF))) (fun j x H2 hx pv => ?_) (fun H2 pv => ?_)⟩
      · obtain ⟨e2, hD2⟩ := pv
        unfold ints_ at hx
        rw [List.getElem?_map] at hx
        obtain ⟨b, hb, rfl⟩ := Option.map_eq_some_iff.mp hx
        refine ⟨rfl, _, rfl, _, rfl, p, a.C, dx, _, _, rfl, e2 _ _ (e1 _ _ h1), T.cl, T.nA _ (by decide), rfl, ar, _, rfl, .inr (.inl (.inl (e2 _ _ (e1 _ _ h4)))), rfl, flat_ints rd, _, hD2, by rw [List.length_map, List.length_map, List.length_take]; exact small1000 (by omega), fun b o hb => ?_, ?_⟩
        · rw [upd_ne (ne_of_none hb hD)]
          exact e2 _ _ hb
        · rw [upd_same, List.take_add_one, hb, List.map_append, List.map_append]
          show some (HO.lst (_ ++ [V.bl (inV (.int (b : Nat)) (ints_ rd))])) = _
          rw [inV_ints]
          rfl
      · obtain ⟨e2, hD2⟩ := pv
        rw [show (ints_ fd).length = fd.length from List.length_map .., List.take_length] at hD2
        refine ⟨D, _, rfl, .inl (.inl hD2), q _ _ (e1.trans e2) ?_⟩
        rw [List.any_map, List.any_eq_true]
        constructor
        · rintro ⟨x, hx, hq⟩
          exact ⟨x, of_decide_eq_true hq, (found_iff L0.ok fo x).mp hx⟩
        · rintro ⟨x, hx, hq⟩
          exact ⟨x, (found_iff L0.ok fo x).mpr hq, decide_eq_true hx⟩
end
section
variable {P : Program} {w : World} {K : PySem.W.Frag} {mg : Str → Option Value} {base : Heap} {a : AdL} {aST aRI S fE : Addr} {tH : Tok}
variable {fk : Addr} (Gck : FnR P w K mg base (L2.CX P w) 4 fk (spCheck a)) (gck : mg "check_cells" = some (.ref fk)) (kck : PySem.W.keepIn K (.ref fk) = true)
def spSPassing (a : AdL) (S : Addr) : Sp := fun vs H Q E => ∃ (p l : Addr) (n : Nat) (es : List (Nat × Nat)) (rd hs : List Nat) (tab : List (List Nat)) (y : V), vs = [.ref p, y] ∧ StateO a.C S H p l n es rd hs tab ∧ CellOr a.B n H y E fun c => ∀ H' u, Same H H' → H u = none → H' u = some (.tup (ints_ (passC hs (tab.getD c []) n c))) → Q (.ref u) H'
include Gck gck kck in
theorem ok_spassing (clsS : Cls K S) (nS : ∀ f ∈ sfields, NoAttr K S f) {f fp : Addr} {fd fdp : FuncData} (F : Fun K "passing" "State.passing" s_State_passing f fd)
    (Gpcl : FnOk P w K mg base CX0 1 fp fdp ["hands", "row", "a"] spPassd) (gpcl : mg "passed_cells" = some (.ref fp)) (kpcl : PySem.W.keepIn K (.ref fp) = true) (bpcl : Binds K fdp ["hands", "row", "a"] []) : FnOk P w K mg base (L2.CX P w) 5 f fd ["self", "a"] (spSPassing a S) := by
  refine F.okX sc_State_passing (fun vs H Q E h => ?_) (fun cdv A outer s H vs Q E hr h => ?_)
  · obtain ⟨p, l, n, es, rd, hs, tab, y, rfl, _⟩ := h
    rfl
  · obtain ⟨p, l, n, es, rd, hs, tab, y, rfl, W, h⟩ := h
    refine ⟨_, (pss_cons (ps_expr (K7E.pe_callR0 Gck (hr.mono (by decide)) (by rfl) gck kck (passes_call (E := E) (takes_of rfl rfl rfl rfl) (fun _ _ _ _ h => h)) (pa_cons (pe_fld (pv 0) rfl) (pa_cons (pv 1) pa_nil))))
 (pss_one (ps_ret (pe_call Gpcl (hr.mono (by decide)) (by rfl) gpcl kpcl bpcl .nil pass0 (pa_cons (pe_fld (pv 0) rfl) (pa_cons (pe_ix ix_tup (pe_fld (pv 0) rfl) (pv 1) (fun _ _ => rfl)) (pa_cons (pv 1) pa_nil))))))), ?_⟩
    obtain ⟨dx, th, tt, rs, h1, h2, h3, h4⟩ := W.at_
    rcases h with ⟨c, rfl, hc, q⟩ | ⟨thg, wf, fl⟩
    · refine ⟨_, rfl, p, S, dx, _, _, rfl, h1, clsS, nS _ (by decide), rfl, _, rfl, l, n, [.int (c : Nat)], rfl, W.ld.c, by show 1 < 64; decide, .inl ⟨fun y hy => by rw [List.mem_singleton.mp hy]; exact .flat (.int _), one_in hc, fun H1 e1 => ?_⟩⟩
      obtain ⟨r, row, hr', hrow, hl, er, hw⟩ := RTt.row W.st h4 hc
      rw [er] at q
      refine ⟨_, rfl, p, S, dx, _, _, rfl, e1 _ _ h1, clsS, nS _ (by decide), rfl, ?_⟩
      refine ⟨_, rfl, p, S, dx, _, _, rfl, e1 _ _ h1, clsS, nS _ (by decide), rfl, _, rfl, tt, _, _, _, rfl, rfl, .inl (.inl (e1 _ _ h3)), atI_nat hr', ?_⟩
      exact ⟨_, rfl, th, r, n, c, hs, row, rfl, e1 _ _ h2, e1 _ _ hrow, W.st.hl, hl, W.ld.n5, hc, fun H' u e nu hu => q _ u (e1.trans e) (e1.free nu) hu⟩
    · exact ⟨_, rfl, p, S, dx, _, _, rfl, h1, clsS, nS _ (by decide), rfl, _, rfl, l, n, [y], rfl, W.ld.c, by show 1 < 64; decide, .inr ⟨[], y, [], rfl, fun y hy => (nomatch hy), fun y hy => (nomatch hy), thg, wf, fl⟩⟩
def spSOwnC (a : AdL) (S : Addr) : Sp := fun vs H Q E => ∃ (p l : Addr) (n : Nat) (es : List (Nat × Nat)) (rd hs : List Nat) (tab : List (List Nat)) (y : V), vs = [.ref p, y] ∧ StateO a.C S H p l n es rd hs tab ∧ CellOr a.B n H y E fun c => ∀ H' u, Same H H' → H u = none → H' u = some (.tup (ints_ ((List.range n).filter fun b => decide (hsAt hs b = hsAt hs c)))) → Q (.ref u) H'
include Gck gck kck in
theorem ok_sownc (clsS : Cls K S) (nS : ∀ f ∈ sfields, NoAttr K S f) {f : Addr} {fd : FuncData} (F : Fun K "own_cells" "State.own_cells" s_State_own_cells f fd) (m_tuple : mg "tuple" = none) (m_enumerate : mg "enumerate" = none) : FnOk P w K mg base (L2.CX P w) 5 f fd ["self", "a"] (spSOwnC a S) := by
  refine F.okX sc_State_own_cells (fun vs H Q E h => ?_) (fun cdv A outer s H vs Q E hr h => ?_)
  · obtain ⟨p, l, n, es, rd, hs, tab, y, rfl, _⟩ := h
    rfl
  · obtain ⟨p, l, n, es, rd, hs, tab, y, rfl, W, h⟩ := h
    refine ⟨_, (pss_cons (ps_expr (K7E.pe_callR0 Gck (hr.mono (by decide)) (by rfl) gck kck (passes_call (E := E) (takes_of rfl rfl rfl rfl) (fun _ _ _ _ h => h)) (pa_cons (pe_fld (pv 0) rfl) (pa_cons (pv 1) pa_nil))))
 (pss_one (ps_ret (pe_callTy call_tuple_of (by rfl) m_tuple boot_tuple (pa_cons (pe_lc (own := [("b", 2), ("hand", 3)]) (g := gTup K 2 (gCons (gName 2) (gCons (gName 3) (gNil)))) rfl sc_State_own_cells.nd (K7E.pi_enumT (by rfl) m_enumerate (pa_cons (pe_fld (pv 0) rfl) pa_nil)) (blkOk_by (own := [("b", 2), ("hand", 3)]) (N := N_State_own_cells) (sc := defScope s_State_own_cells) (by decide +kernel)) (fun _ _ _ _ _ => (pg_tup rfl (pgs_cons (pg_name (i := 2) sc_State_own_cells.nd rfl (by first | exact Or.inl rfl | exact Or.inr rfl)) (pgs_cons (pg_name (i := 3) sc_State_own_cells.nd rfl (by first | exact Or.inl rfl | exact Or.inr rfl)) pgs_nil)))) (fun _ _ _ _ _ => (pts_one (pt_cmpR op_eq (pv 3) (pe_ix (show IxR _ (rIxT K) from ix_tup) (show PE _ _ (tFld K (tVar 0) "hands") from pe_fld (pv 0) rfl) (pv 1) (fun _ _ => rfl)) (nomark _)))) (fun _ _ _ _ _ => (pv 2))) pa_nil))))), ?_⟩
    obtain ⟨dx, th, tt, rs, h1, h2, h3, h4⟩ := W.at_
    rcases h with ⟨c, rfl, hc, q⟩ | ⟨thg, wf, fl⟩
    · refine ⟨_, rfl, p, S, dx, _, _, rfl, h1, clsS, nS _ (by decide), rfl, _, rfl, l, n, [.int (c : Nat)], rfl, W.ld.c, by show 1 < 64; decide, .inl ⟨fun y hy => by rw [List.mem_singleton.mp hy]; exact .flat (.int _), one_in hc, fun H1 e1 => ?_⟩⟩
      have il : (ints_ hs).length = n := by unfold ints_; rw [List.length_map, W.st.hl]
      have n5 := W.ld.n5
      refine ⟨_, rfl, p, S, dx, _, _, rfl, e1 _ _ h1, clsS, nS _ (by decide), rfl, th, _, rfl, .inl (.inl (e1 _ _ h2)), fun D hD => lc_it (K7E.walk_enumT (xs := ints_ hs)) (fun j H2 => Same H1 H2 ∧ H2 D = some (.lst (ints_ ((List.range j).filter fun b => decide (hsAt hs b = hsAt hs c))))) ⟨al hD, upd_same⟩ (fun j H2 _ pv => .inl (.inl (pv.1 _ _ (e1 _ _ h2)))) (fun j x H2 H3 hj pv hy => ?_) (fun H2 pv => ?_)⟩
      · obtain ⟨e2, hD2⟩ := pv
        obtain ⟨T', x', y', rfl, nT, rfl, e3, e4⟩ := hy
        obtain rfl := Option.some.inj e3
        have jn : j < n := by rw [← il]; exact hj
        obtain rfl := Option.some.inj ((W.st.hat jn).symm.trans e4)
        have sT := al (o := .tup [.int (j : Nat), .int (hsAt hs j : Nat)]) nT
        have e23 := e2.trans sT
        have e13 := e1.trans e23
        have hD3 := sT _ _ hD2
        have dv : decide (V.int (hsAt hs j : Nat) = V.int (hsAt hs c : Nat)) = decide (hsAt hs j = hsAt hs c) := decide_eq_decide.mpr ⟨fun h => by injection h with h; omega, fun h => by rw [h]⟩
        refine ⟨T', _, rfl, .inl (.inl upd_same), rfl, _, _, rfl, _, _, rfl, rfl, rfl, ?_⟩
        refine ⟨_, rfl, _, rfl, p, S, dx, _, _, rfl, e13 _ _ h1, clsS, nS _ (by decide), rfl, _, rfl, th, _, _, _, rfl, rfl, .inl (.inl (e13 _ _ h2)), atI_nat (W.st.hat hc), rfl, _, rfl, ?_⟩
        rw [dv]
        refine iteB (fun t => ?_) (fun t => ?_)
        · refine ⟨_, rfl, _, hD3, by unfold ints_; rw [List.length_map]; exact small1000 (Nat.le_trans (List.length_filter_le _ _) (by rw [List.length_range]; omega)), fun b z hb => ?_, ?_⟩
          · rw [upd_ne (ne_of_none hb hD)]
            exact e23 _ _ hb
          · rw [upd_same, range_filter, if_pos t, ints_snoc]
        · refine ⟨e23, ?_⟩
          rw [range_filter, if_neg (by rw [t]; decide), List.append_nil]
          exact hD3
      · obtain ⟨e2, hD2⟩ := pv
        rw [il] at hD2
        exact ⟨D, _, rfl, .inl ⟨.inl (.inl hD2), fun u nu => q _ u ((e1.trans e2).trans (al nu)) ((e1.trans e2).free nu) upd_same⟩⟩
    · exact ⟨_, rfl, p, S, dx, _, _, rfl, h1, clsS, nS _ (by decide), rfl, _, rfl, l, n, [y], rfl, W.ld.c, by show 1 < 64; decide, .inr ⟨[], y, [], rfl, fun y hy => (nomatch hy), fun y hy => (nomatch hy), thg, wf, fl⟩⟩
def spSOpen (a : AdL) (S : Addr) : Sp := fun vs H Q E => ∃ (p l : Addr) (n : Nat) (es : List (Nat × Nat)) (rd hs : List Nat) (tab : List (List Nat)) (y : V), vs = [.ref p, y] ∧ StateO a.C S H p l n es rd hs tab ∧ CellOr a.B n H y E fun c => ∀ H' b, Same H H' → (b = true ↔ OpenV es rd (passC hs (tab.getD c []) n c) c) → Q (.bl b) H'
theorem ok_sopen (clsS : Cls K S) (nS : ∀ f ∈ sfields, NoAttr K S f) {f fp fo : Addr} {fd fdp fdo : FuncData} (F : Fun K "is_open" "State.is_open" s_State_is_open f fd)
    (mPg : Meth K S "passing" fp) (Gpg : FnOk P w K mg base (L2.CX P w) 5 fp fdp ["self", "a"] (spSPassing a S)) (bpg : Binds K fdp ["self", "a"] [])
    (Gop : FnOk P w K mg base CX0 2 fo fdo ["land", "cell", "passing"] (spOpens a.C)) (gop : mg "opens" = some (.ref fo)) (kop : PySem.W.keepIn K (.ref fo) = true) (bop : Binds K fdo ["land", "cell", "passing"] []) : FnOk P w K mg base (L2.CX P w) 6 f fd ["self", "a"] (spSOpen a S) := by
  refine F.okX sc_State_is_open (fun vs H Q E h => ?_) (fun cdv A outer s H vs Q E hr h => ?_)
  · obtain ⟨p, l, n, es, rd, hs, tab, y, rfl, _⟩ := h
    rfl
  · obtain ⟨p, l, n, es, rd, hs, tab, y, rfl, W, h⟩ := h
    refine ⟨_, (pss_one (ps_ret (pe_call Gop (hr.mono (by decide)) (by rfl) gop kop bop .nil pass0 (pa_cons (pe_fld (pv 0) rfl) (pa_cons (pv 1) (pa_cons (pe_meth (pv 0) clsS mPg Gpg (hr.mono (by decide)) bpg .nil (passes_call (E := E) (takes_of rfl rfl rfl rfl) (fun _ _ _ _ h => h)) (pa_cons (pv 1) pa_nil)) pa_nil)))))), ?_⟩
    obtain ⟨dx, th, tt, rs, h1, h2, h3, h4⟩ := W.at_
    refine ⟨_, rfl, p, S, dx, _, _, rfl, h1, clsS, nS _ (by decide), rfl, _, rfl, _, rfl, p, dx, _, rfl, h1, rfl, _, rfl, p, l, n, es, rd, hs, tab, y, rfl, W, h.mono fun c ec hc q H1 u e1 nu hu => ?_⟩
    subst ec
    exact ⟨l, n, es, rd, c, u, _, rfl, W.ld.same e1, hc, .inl hu, fun H' b e iff => q H' b (e1.trans e) iff⟩
end
end K7
end
/-! ## P20 -/
section
open PySem PySem.Spec PyProof.Rows L2
namespace K7
abbrev N_State_shut : List Str := ["self", "a"]
abbrev s_State_shut : Stmt := inClass (topS 30) 2
theorem sc_State_shut : FnScope ["self", "a"] ["self"] (defScope s_State_shut) := ⟨rfl, rfl, rfl, by decide +kernel, rfl, by decide +kernel, by decide +kernel⟩
abbrev N_start_state : List Str := ["land"]
abbrev s_start_state : Stmt := topS 31
theorem sc_start_state : FnScope ["land"] ["land"] (defScope s_start_state) := ⟨rfl, rfl, rfl, by decide +kernel, rfl, by decide +kernel, by decide +kernel⟩
/-- whether a cell is open over these cells -/
noncomputable def openB (es : List (Nat × Nat)) (rd ps : List Nat) (c : Nat) : Bool := @decide (OpenV es rd ps c) (Classical.propDecidable _)
theorem openB_is {es : List (Nat × Nat)} {rd ps : List Nat} {c : Nat} {b : Bool} (h : b = true ↔ OpenV es rd ps c) : b = openB es rd ps c := by
  unfold openB
  by_cases z : OpenV es rd ps c
  · rw [h.mpr z]
    exact (@decide_eq_true _ (Classical.propDecidable _) z).symm
  · rw [Bool.eq_false_iff.mpr fun e => z (h.mp e)]
    exact (@decide_eq_false _ (Classical.propDecidable _) z).symm
section
variable {P : Program} {w : World} {K : PySem.W.Frag} {mg : Str → Option Value} {base : Heap} {a : AdL} {aST aRI S fE : Addr} {tH : Tok}
def spSShut (a : AdL) (S : Addr) : Sp := fun vs H Q _ => ∃ (p l : Addr) (n : Nat) (es : List (Nat × Nat)) (rd hs : List Nat) (tab : List (List Nat)), vs = [.ref p] ∧ StateO a.C S H p l n es rd hs tab ∧ ∀ H' u, Same H H' → H u = none → H' u = some (.tup (ints_ ((List.range n).filter fun c => !openB es rd (passC hs (tab.getD c []) n c) c))) → Q (.ref u) H'
theorem ok_sshut (T : Tl K mg a) (clsS : Cls K S) (nS : ∀ f ∈ sfields, NoAttr K S f) {f fo : Addr} {fd fdo : FuncData} (F : Fun K "shut" "State.shut" s_State_shut f fd)
    (mOp : Meth K S "is_open" fo) (Gsop : FnOk P w K mg base (L2.CX P w) 6 fo fdo ["self", "a"] (spSOpen a S)) (bsop : Binds K fdo ["self", "a"] []) (m_tuple : mg "tuple" = none) (m_range : mg "range" = none) : FnOk P w K mg base CX0 7 f fd ["self"] (spSShut a S) := by
  refine F.ok sc_State_shut (fun vs H Q E h => ?_) (fun cdv A outer s H vs Q E hr h => ?_)
  · obtain ⟨p, l, n, es, rd, hs, tab, rfl, _⟩ := h
    rfl
  · obtain ⟨p, l, n, es, rd, hs, tab, rfl, W, q⟩ := h
    refine ⟨_, (pss_one (ps_ret (pe_callTy call_tuple_of (by rfl) m_tuple boot_tuple (pa_cons (pe_lc (own := [("a", 1)]) (g := gName 1) rfl sc_State_shut.nd (pi_range1 rfl m_range (pa_cons (pe_fld (pe_fld (pv 0) rfl) rfl) pa_nil)) (blkOk_by (own := [("a", 1)]) (N := N_State_shut) (sc := defScope s_State_shut) (by decide +kernel)) (fun _ _ _ _ _ => (pg_name (i := 1) sc_State_shut.nd rfl (by first | exact Or.inl rfl | exact Or.inr rfl))) (fun _ _ _ _ _ => (pts_one (pt_not (pt_val (pe_meth (pv 0) clsS mOp Gsop (hr.mono (by decide)) bsop .nil passL (pa_cons (pv 1) pa_nil)))))) (fun _ _ _ _ _ => (pv 1))) pa_nil)))), ?_⟩
    obtain ⟨dx, th, tt, rs, h1, h2, h3, h4⟩ := W.at_
    obtain ⟨dl, an, ar, ay, ac, tn, ty, tc, m1, _⟩ := W.ld.at_
    have n5 := W.ld.n5
    refine ⟨_, rfl, p, S, dx, _, _, rfl, h1, clsS, nS _ (by decide), rfl, l, a.C, dl, _, _, rfl, m1, T.cl, T.nA _ (by decide), rfl, _, rfl, by omega, by omega, fun D hD => lc_range (lo := 0) (n := n) (fun i H2 => Same H H2 ∧ H2 D = some (.lst (ints_ ((List.range i).filter fun c => !openB es rd (passC hs (tab.getD c []) n c) c)))) ⟨al hD, upd_same⟩ (fun i H2 hi pv => ?_) (fun H2 pv => ?_)⟩
    · obtain ⟨e2, hD2⟩ := pv
      refine ⟨rfl, _, rfl, p, dx, _, rfl, e2 _ _ h1, rfl, _, rfl, p, l, n, es, rd, hs, tab, _, rfl, W.same e2, .inl ⟨i, by rw [Int.zero_add], hi, fun H3 b e3 iff => ?_⟩⟩
      have e23 := e2.trans e3
      have hD3 := e3 _ _ hD2
      rw [openB_is iff]
      refine ⟨_, rfl, ?_⟩
      refine iteB (fun t => ?_) (fun t => ?_)
      · refine ⟨_, rfl, _, hD3, by unfold ints_; rw [List.length_map]; exact small1000 (Nat.le_trans (List.length_filter_le _ _) (by rw [List.length_range]; omega)), fun b z hb => ?_, ?_⟩
        · rw [upd_ne (ne_of_none hb hD)]
          exact e23 _ _ hb
        · rw [upd_same, range_filter, if_pos t, Int.zero_add, ints_snoc]
      · refine ⟨e23, ?_⟩
        rw [range_filter, if_neg (by rw [t]; decide), List.append_nil]
        exact hD3
    · obtain ⟨e2, hD2⟩ := pv
      exact ⟨D, _, rfl, .inl ⟨.inl (.inl hD2), fun u nu => q _ u (e2.trans (al nu)) (e2.free nu) upd_same⟩⟩
/-! a new state -/
theorem new_state {H1 : Hp} {Q : VK} {E : XK} {l th tt : Addr} {n : Nat} {es : List (Nat × Nat)} {rd hs : List Nat} {rs : List Addr} {tab : List (List Nat)} (L : LandO a.C H1 l n es rd) (hth : SqOf H1 th (ints_ hs)) (htt : SqOf H1 tt (rs.map V.ref)) (hR : RAt H1 rs tab) (Sx : StTab n hs tab)
    (q : ∀ H' x, Same H1 H' → H1 x = none → StateO a.C S H' x l n es rd hs tab → Q (.ref x) H') :
    ∀ x dx, H1 x = none → H1 dx = none → dx ≠ x → spStI a S (.ref x :: ([.ref l, .ref th, .ref tt] ++ [])) (upd (upd H1 dx (.own x)) x (.ins S dx [])) (fun v H2 => v = .non ∧ Q (.ref x) H2) E := by
  intro x dx hx hdx hne
  have e : Same H1 (upd (upd H1 dx (.own x)) x (.ins S dx [])) := same_new (same_new (Same.refl H1) hdx) (by rw [upd_ne hne.symm]; exact hx)
  obtain ⟨dl, an, ar, ay, ac, tn, ty, tc, m1, _⟩ := L.at_
  refine ⟨x, dx, l, th, tt, n, es, rd, hs, rs, tab, rfl, upd_same, L.same e, ne_of_none m1 hx, hth.same e, htt.same e, hR.same e, Sx, fun H' b W => ⟨rfl, q H' x (fun z o hz => ?_) hx W⟩⟩
  exact b z o (ne_of_none hz hx) (e _ _ hz)
theorem start_tab {n : Nat} : StTab n (List.replicate n 0) (List.replicate n (List.replicate n 0)) := by
  have h0 : ∀ c, hsAt (List.replicate n 0) c = 0 := fun c => by
    unfold hsAt
    rw [List.getD_eq_getElem?_getD, List.getElem?_replicate]
    split <;> rfl
  have t0 : ∀ x y, tabAt (List.replicate n (List.replicate n 0)) x y = 0 := fun x y => by
    unfold tabAt
    have e : (List.replicate n (List.replicate n 0)).getD x [] = List.replicate n 0 ∨ (List.replicate n (List.replicate n 0)).getD x [] = [] := by
      rw [List.getD_eq_getElem?_getD, List.getElem?_replicate]
      split
      · exact .inl rfl
      · exact .inr rfl
    rcases e with e | e
    · rw [e, List.getD_eq_getElem?_getD, List.getElem?_replicate]
      split <;> rfl
    · rw [e]
      rfl
  refine ⟨List.length_replicate, fun x hx => ?_, List.length_replicate, fun r hr => ?_, fun i r hr => ?_, fun x y _ _ _ h => absurd (by rw [h0, h0]) h, fun x y _ _ _ _ => .inl (t0 x y)⟩
  · rw [(List.mem_replicate.mp hx).2]
    exact Nat.zero_le _
  · rw [(List.mem_replicate.mp hr).2]
    exact List.length_replicate
  · rw [List.getElem?_replicate] at hr
    split at hr
    · rename_i hi
      rw [← Option.some.inj hr, List.getElem?_replicate, if_pos hi]
    · cases hr
theorem flat_one {α : Type} (x : α) : ∀ k : Nat, (List.replicate k [x]).flatten = List.replicate k x
  | 0 => rfl
  | k + 1 => by rw [List.replicate_succ, List.flatten_cons, flat_one x k]; rfl
theorem rat_rep {H : Hp} {r : Addr} {row : List Nat} (h : SqOf H r (wds row)) : ∀ k : Nat, RAt H (List.replicate k r) (List.replicate k row)
  | 0 => .nil
  | k + 1 => .cons h (rat_rep h k)
def spStart (a : AdL) (S : Addr) : Sp := fun vs H Q _ => ∃ (l : Addr) (n : Nat) (es : List (Nat × Nat)) (rd : List Nat), vs = [.ref l] ∧ LandO a.C H l n es rd ∧ ∀ H' x, Same H H' → H x = none → StateO a.C S H' x l n es rd (List.replicate n 0) (List.replicate n (List.replicate n 0)) → Q (.ref x) H'
theorem ok_start (T : Tl K mg a) (T2 : Tk K a.C fE) {f fI : Addr} {fd fdI : FuncData} (F : Fun K "start_state" "start_state" s_start_state f fd) (gSt : mg "State" = some (.ref S))
    (MS : Mk K S fI) (GS_ : FnOk P w K mg base CX0 5 fI fdI ["self", "land", "hands", "standings"] (spStI a S)) (bS : Binds K fdI ["self", "land", "hands", "standings"] []) (m_isinstance : mg "isinstance" = none) : FnOk P w K mg base CX0 7 f fd ["land"] (spStart a S) := by
  refine F.ok sc_start_state (fun vs H Q E h => ?_) (fun cdv A outer s H vs Q E hr h => ?_)
  · obtain ⟨l, n, es, rd, rfl, _⟩ := h
    rfl
  · obtain ⟨l, n, es, rd, rfl, L, q⟩ := h
    refine ⟨_, (pss_cons (ps_if (pt_not (pt_val (pe_callB call_isi (by rfl) m_isinstance boot_isinstance (pa_cons (pv 0) (pa_cons (pe_glob (v := .ref _) rfl T.gC rfl) pa_nil)))))
  (pss_one ps_never)
  pss_nil)
 (pss_one (ps_ret (pe_make MS GS_ (hr.mono (by decide)) (by rfl) gSt bS .nil pass0 (pa_cons (pv 0) (pa_cons (pe_op op_repT (pe_tup (pa_cons pe_int pa_nil)) (pe_fld (pv 0) rfl)) (pa_cons (pe_op op_repT (pe_tup (pa_cons (pe_op op_repT (pe_tup (pa_cons pe_str pa_nil)) (pe_fld (pv 0) rfl)) pa_nil)) (pe_fld (pv 0) rfl)) pa_nil))))))), ?_⟩
    obtain ⟨dl, an, ar, ay, ac, tn, ty, tc, m1, _⟩ := L.at_
    have n5 := L.n5
    have n2 := L.n2
    refine ⟨_, rfl, _, _, _, _, _, rfl, .own _, .base (.ins m1 T.cl T2.ha T2.hn T2.ht T2.hm), T2.own, true, rfl, ?_⟩
    refine iteF ⟨_, rfl, ?_⟩
    have tn_ : ((n : Nat) : Int).toNat = n := Int.toNat_natCast n
    refine ⟨by show 1 ≤ sizeLine; decide, fun t nt => ?_⟩
    have e1 := al (o := .tup [.int 0]) nt
    refine ⟨_, rfl, l, a.C, dl, _, _, rfl, e1 _ _ m1, T.cl, T.nA _ (by decide), rfl, t, (n : Nat), [.int 0], rfl, rfl, .inl (.inl upd_same), (by simp), by omega, by omega, by show 1 ≤ 1000; decide, fun th nth => ?_⟩
    rw [tn_, flat_one]
    have hrep : List.replicate n (V.int 0) = ints_ (List.replicate n 0) := by unfold ints_; rw [List.map_replicate]; rfl
    rw [hrep]
    have e2 := e1.trans (al (o := .tup (ints_ (List.replicate n 0))) nth)
    have hth : upd (upd H t (.tup [.int 0])) th (.tup (ints_ (List.replicate n 0))) th = some (.tup (ints_ (List.replicate n 0))) := upd_same
    generalize upd (upd H t (.tup [.int 0])) th (.tup (ints_ (List.replicate n 0))) = H2 at e2 hth ⊢
    refine ⟨by show 1 ≤ sizeLine; decide, fun t2 nt2 => ?_⟩
    have e3 := e2.trans (al (o := .tup [.str "none"]) nt2)
    refine ⟨_, rfl, l, a.C, dl, _, _, rfl, e3 _ _ m1, T.cl, T.nA _ (by decide), rfl, t2, (n : Nat), [.str "none"], rfl, rfl, .inl (.inl upd_same), (by simp), by omega, by omega, by show 1 ≤ 1000; decide, fun r nr => ?_⟩
    rw [tn_, flat_one]
    have wrep : List.replicate n (V.str "none") = wds (List.replicate n 0) := by unfold wds; rw [List.map_replicate]; rfl
    rw [wrep]
    have f3 := al (o := .tup [.str "none"]) nt2
    have f4 := f3.trans (al (o := .tup (wds (List.replicate n 0))) nr)
    have e4 := e2.trans f4
    have hr4 : upd (upd H2 t2 (.tup [.str "none"])) r (.tup (wds (List.replicate n 0))) r = some (.tup (wds (List.replicate n 0))) := upd_same
    have hth4 := f4 _ _ hth
    generalize upd (upd H2 t2 (.tup [.str "none"])) r (.tup (wds (List.replicate n 0))) = H4 at e4 hr4 hth4 ⊢
    refine ⟨by show 1 ≤ sizeLine; decide, fun t5 nt5 => ?_⟩
    have f5 := al (o := .tup [.ref r]) nt5
    have e5 := e4.trans f5
    refine ⟨_, rfl, l, a.C, dl, _, _, rfl, e5 _ _ m1, T.cl, T.nA _ (by decide), rfl, t5, (n : Nat), [.ref r], rfl, rfl, .inl (.inl upd_same), (by simp), by omega, by omega, by show 1 ≤ 1000; decide, fun tt ntt => ?_⟩
    rw [tn_, flat_one]
    have rrep : List.replicate n (V.ref r) = (List.replicate n r).map V.ref := by rw [List.map_replicate]
    rw [rrep]
    have f6 := f5.trans (al (o := .tup ((List.replicate n r).map V.ref)) ntt)
    have e6 := e4.trans f6
    refine new_state (a := a) (S := S) (Q := Q) (L.same e6) (.inl (f6 _ _ hth4)) (.inl upd_same) (rat_rep (.inl (f6 _ _ hr4)) n) start_tab fun H' x e nx W => ?_
    exact q H' x (e6.trans e) (e6.free nx) W
end
end K7
end
/-! ## P21 -/
section
open PySem PySem.Spec PyProof.Rows L2
namespace K7
abbrev N__law_far : List Str := ["_law_hand_here", "_law_step"]
abbrev s__law_far : Stmt := topS 46
theorem sc__law_far : FnScope ["_law_hand_here", "_law_step"] ["_law_hand_here"] (defScope s__law_far) := ⟨rfl, rfl, rfl, by decide +kernel, rfl, by decide +kernel, by decide +kernel⟩
abbrev N__law_table : List Str := ["_law_hand_here", "_law_hands", "_law_rows_here", "_law_a", "_law_row", "_law_b", "_law_words"]
abbrev s__law_table : Stmt := topS 47
theorem sc__law_table : FnScope ["_law_hand_here", "_law_hands", "_law_rows_here", "_law_a", "_law_row", "_law_b", "_law_words"] ["_law_hand_here", "_law_hands"] (defScope s__law_table) := ⟨rfl, rfl, rfl, by decide +kernel, rfl, by decide +kernel, by decide +kernel⟩
theorem Stay.put {h c W : Addr} {H H' : Hp} {o : HO} (x : Stay h c H H') (n : H W = none) : Stay h c H (upd H' W o) := by
  obtain ⟨n1, n2⟩ := x.hand0.ne n
  refine ⟨fun b z nb hb => ?_, x.hand0, x.hand.upd n1 n2⟩
  rw [upd_ne (ne_of_none hb n)]
  exact x.but b z nb hb
section
variable {P : Program} {w : World} {K : PySem.W.Frag} {mg : Str → Option Value} {base : Heap} {a : AdL}
def spFar : Sp := fun vs H Q _ => ∃ (h c : Addr), vs = [.ref h] ∧ Hand H h c ∧ ∀ H' r (far : List Nat), Stay h c H H' → H r = none → H' r = some (.lst (ints_ far)) → far.length = 5 → (∀ x ∈ far, x ≤ 10 ^ 30) → Q (.ref r) H'
theorem ok_far {f fdr : Addr} {fd fddr : FuncData} (F : Fun K "_law_far" "_law_far" s__law_far f fd)
    (Gdr : FnOk P w K mg base CX0 2 fdr fddr ["_law_hand_here", "_law_many"] spDraw) (gdr : mg "_law_draw" = some (.ref fdr)) (kdr : PySem.W.keepIn K (.ref fdr) = true) (bdr : Binds K fddr ["_law_hand_here", "_law_many"] []) : FnOk P w K mg base CX0 3 f fd ["_law_hand_here"] spFar := by
  refine F.ok sc__law_far (fun vs H Q E h => ?_) (fun cdv A outer s H vs Q E hr h => ?_)
  · obtain ⟨h, c, rfl, _⟩ := h
    rfl
  · obtain ⟨h, c, rfl, hh, q⟩ := h
    refine ⟨_, (pss_cons (ps_set (i := 1) sc__law_far.nd rfl (by first | exact Or.inl rfl | exact Or.inr rfl) (pe_ifExp (pt_cmpR op_eq (pe_call Gdr (hr.mono (by decide)) (by rfl) gdr kdr bdr .nil pass0 (pa_cons (pv 0) (pa_cons pe_int pa_nil))) pe_int (nomark _)) (pe_op op_add pe_int (pe_call Gdr (hr.mono (by decide)) (by rfl) gdr kdr bdr .nil pass0 (pa_cons (pv 0) (pa_cons (pe_op op_pow pe_int pe_int) pa_nil)))) pe_int))
 (pss_one (ps_ret (pe_lst (pa_cons pe_int (pa_cons pe_int (pa_cons (pv 1) (pa_cons (pe_op op_add (pe_op op_mul pe_int (pv 1)) pe_int) (pa_cons (pe_op op_pow pe_int pe_int) pa_nil))))))))), ?_⟩
    have big : (10 : Int) ^ (29 : Int).toNat = 10 ^ 29 := by decide
    have big2 : (10 : Int) ^ (30 : Int).toNat = 10 ^ 30 := by decide
    have fin : ∀ (H' : Hp) (k : Nat) (v : Int), v = (k : Nat) → Stay h c H H' → 2 ≤ k → k ≤ 10 ^ 29 + 2 → ∀ r, H' r = none → Q (.ref r) (upd H' r (.lst [.int 0, .int 1, .int v, .int (2 * v + 1), .int (10 ^ (30 : Int).toNat)])) := fun H' k v hv st k2 kb r nr => by
      have nr0 : H r = none := st.free nr
      subst hv
      refine q _ r [0, 1, k, 2 * k + 1, 10 ^ 30] (st.put nr0) nr0 ?_ rfl fun x hx => ?_
      · rw [upd_same, big2]
        rfl
      · simp only [List.mem_cons, List.not_mem_nil, or_false] at hx
        rcases hx with rfl | rfl | rfl | rfl | rfl <;> omega
    refine ⟨_, rfl, h, c, 2, rfl, hh, by decide, by decide, fun H1 r d1 r0 r1 => ⟨rfl, _, rfl, ite2 (fun c1 => ?_) (fun c1 => ?_)⟩⟩
    · refine ⟨_, rfl, _, _, rfl, rfl, ⟨by decide, by decide, by decide⟩, h, c, _, rfl, d1.hand, by decide, by decide, fun H2 r2 d2 z0 z1 => ⟨_, _, rfl, rfl, ?_⟩⟩
      rw [big] at z1
      obtain ⟨m, rfl⟩ : ∃ m : Nat, r2 = (m : Nat) := ⟨r2.toNat, by omega⟩
      refine ⟨_, rfl, _, rfl, _, _, rfl, rfl, .inl ⟨by decide, by decide⟩, _, _, rfl, rfl, _, _, rfl, rfl, ⟨by decide, by decide, by decide⟩, by show 5 ≤ sizeLine; decide, ?_⟩
      exact fin H2 (m + 2) _ (by omega) ((Stay.of_drawn hh d1).drawn d2) (by omega) (by omega)
    · refine ⟨_, rfl, _, rfl, _, _, rfl, rfl, .inl ⟨by decide, by decide⟩, _, _, rfl, rfl, _, _, rfl, rfl, ⟨by decide, by decide, by decide⟩, by show 5 ≤ sizeLine; decide, ?_⟩
      exact fin H1 2 _ rfl (Stay.of_drawn hh d1) (by decide) (by decide)
/-- a row of the table so far -/
structure RowOk (n : Nat) (hs : List Nat) (x : Nat) (row : List Nat) (j : Nat) : Prop where
  len : row.length = j
  at_ : ∀ y, y < j → (y = x → row.getD y 0 = 0) ∧ (y ≠ x → hsAt hs x = hsAt hs y → row.getD y 0 = 0 ∨ 3 ≤ row.getD y 0) ∧ (y ≠ x → hsAt hs x ≠ hsAt hs y → row.getD y 0 < 3)
theorem RowOk.snoc {n x j k : Nat} {hs row : List Nat} (r : RowOk n hs x row j) (h : (j = x → k = 0) ∧ (j ≠ x → hsAt hs x = hsAt hs j → k = 0 ∨ 3 ≤ k) ∧ (j ≠ x → hsAt hs x ≠ hsAt hs j → k < 3)) : RowOk n hs x (row ++ [k]) (j + 1) := by
  refine ⟨by rw [List.length_append, r.len]; rfl, fun y hy => ?_⟩
  by_cases e : y = j
  · subst e
    have g : (row ++ [k]).getD y 0 = k := by
      rw [List.getD_eq_getElem?_getD, List.getElem?_append_right (by rw [r.len]; exact Nat.le_refl _), r.len, Nat.sub_self]
      rfl
    rw [g]
    exact h
  · have g : (row ++ [k]).getD y 0 = row.getD y 0 := by
      rw [List.getD_eq_getElem?_getD, List.getD_eq_getElem?_getD, List.getElem?_append_left (by rw [r.len]; omega)]
    rw [g]
    exact r.at_ y (by omega)
theorem rows_tab {n : Nat} {hs : List Nat} {tab : List (List Nat)} (hl : hs.length = n) (hm : ∀ x ∈ hs, x ≤ 10 ^ 30) (tl : tab.length = n) (h : ∀ (x : Nat) (row : List Nat), tab[x]? = some row → RowOk n hs x row n) : StTab n hs tab := by
  have tat : ∀ x, x < n → ∃ row, tab[x]? = some row ∧ tab.getD x [] = row ∧ RowOk n hs x row n := fun x hx => by
    obtain ⟨row, hr⟩ : ∃ row, tab[x]? = some row := ⟨_, List.getElem?_eq_getElem (by rw [tl]; exact hx)⟩
    exact ⟨row, hr, by rw [List.getD_eq_getElem?_getD, hr]; rfl, h x row hr⟩
  refine ⟨hl, hm, tl, fun r hr => ?_, fun i r hr => ?_, fun x y hx hy ne d => ?_, fun x y hx hy ne e => ?_⟩
  · obtain ⟨i, hi, e⟩ := List.getElem_of_mem hr
    exact (h i r (by rw [List.getElem?_eq_getElem hi, e])).len
  · have hi : i < n := by rw [← tl]; exact (List.getElem?_eq_some_iff.mp hr).1
    have z := ((h i r hr).at_ i hi).1 rfl
    rw [List.getD_eq_getElem?_getD, List.getElem?_eq_getElem (by rw [(h i r hr).len]; exact hi)] at z
    rw [List.getElem?_eq_getElem (by rw [(h i r hr).len]; exact hi)]
    exact congrArg some z
  · obtain ⟨row, h1, h2, h3⟩ := tat x hx
    unfold tabAt
    rw [h2]
    exact ((h3.at_ y hy).2.2 (Ne.symm ne)) d
  · obtain ⟨row, h1, h2, h3⟩ := tat x hx
    unfold tabAt
    rw [h2]
    exact ((h3.at_ y hy).2.1 (Ne.symm ne)) e
/-- rows of words, lists, none of them at R -/
inductive RLt (R : Addr) (H : Hp) : List Addr → List (List Nat) → Prop
  | nil : RLt R H [] []
  | cons {r : Addr} {row : List Nat} {rs : List Addr} {tab : List (List Nat)} : H r = some (.lst (wds row)) → r ≠ R → RLt R H rs tab → RLt R H (r :: rs) (row :: tab)
theorem RLt.mono {R : Addr} {H H' : Hp} {rs : List Addr} {tab : List (List Nat)} (h : RLt R H rs tab) (i : ∀ b (row : List Nat), b ≠ R → H b = some (.lst (wds row)) → H' b = some (.lst (wds row))) : RLt R H' rs tab := by
  induction h with
  | nil => exact .nil
  | cons h n _ ih => exact .cons (i _ _ n h) n ih
theorem RLt.append {R : Addr} {H : Hp} {us vs : List Addr} {xs ys : List (List Nat)} (h : RLt R H us xs) (h' : RLt R H vs ys) : RLt R H (us ++ vs) (xs ++ ys) := by
  induction h with
  | nil => exact h'
  | cons h n _ ih => exact .cons h n ih
theorem RLt.rat {R : Addr} {H : Hp} {rs : List Addr} {tab : List (List Nat)} (h : RLt R H rs tab) : RAt H rs tab := by
  induction h with
  | nil => exact .nil
  | cons h _ _ ih => exact .cons (.inr h) ih
theorem RLt.len {R : Addr} {H : Hp} {rs : List Addr} {tab : List (List Nat)} (h : RLt R H rs tab) : rs.length = tab.length := by
  induction h with
  | nil => rfl
  | cons _ _ _ ih => rw [List.length_cons, List.length_cons, ih]
theorem wds_strs (row : List Nat) : wds row = (row.map wd).map V.str := by unfold wds; rw [List.map_map]; rfl
theorem Stay.wds {h c b : Addr} {H H' : Hp} {row : List Nat} (x : Stay h c H H') (hb : H b = some (.lst (wds row))) : H' b = some (.lst (K7.wds row)) := by
  rw [wds_strs] at hb ⊢
  exact x.row hb
def spTable : Sp := fun vs H Q _ => ∃ (h c t : Addr) (n : Nat) (hs : List Nat), vs = [.ref h, .ref t] ∧ Hand H h c ∧ H t = some (.lst (ints_ hs)) ∧ hs.length = n ∧ n ≤ 5 ∧ (∀ x ∈ hs, x ≤ 10 ^ 30) ∧ ∀ H' R rs tab, Stay h c H H' → H R = none → H' R = some (.lst (rs.map V.ref)) → RLt R H' rs tab → StTab n hs tab → Q (.ref R) H'
theorem ok_table {f fpk : Addr} {fd fdpk : FuncData} (F : Fun K "_law_table" "_law_table" s__law_table f fd)
    (Gpk : FnOk P w K mg base CX0 3 fpk fdpk ["_law_hand_here", "_law_things"] spPick) (gpk : mg "_law_pick" = some (.ref fpk)) (kpk : PySem.W.keepIn K (.ref fpk) = true) (bpk : Binds K fdpk ["_law_hand_here", "_law_things"] [])
    (m_range : mg "range" = none) (m_len : mg "len" = none) : FnOk P w K mg base CX0 4 f fd ["_law_hand_here", "_law_hands"] spTable := by
  refine F.ok sc__law_table (fun vs H Q E h => ?_) (fun cdv A outer s H vs Q E hr h => ?_)
  · obtain ⟨h, c, t, n, hs, rfl, _⟩ := h
    rfl
  · obtain ⟨h, c, t, n, hs, rfl, hh, ht, hl, n5, hm, q⟩ := h
    refine ⟨_, (pss_cons (ps_set (i := 2) sc__law_table.nd rfl (by first | exact Or.inl rfl | exact Or.inr rfl) (pe_lst pa_nil))
 (pss_cons (ps_for PassesOwn.never rfl (pi_range1 rfl m_range (pa_cons (pe_callB call_len_seq (by rfl) m_len boot_len (pa_cons (pv 1) pa_nil)) pa_nil)) (pg_name (i := 3) sc__law_table.nd rfl (by first | exact Or.inl rfl | exact Or.inr rfl))
  (pss_cons (ps_set (i := 4) sc__law_table.nd rfl (by first | exact Or.inl rfl | exact Or.inr rfl) (pe_lst pa_nil))
 (pss_cons (ps_for PassesOwn.never rfl (pi_range1 rfl m_range (pa_cons (pe_callB call_len_seq (by rfl) m_len boot_len (pa_cons (pv 1) pa_nil)) pa_nil)) (pg_name (i := 5) sc__law_table.nd rfl (by first | exact Or.inl rfl | exact Or.inr rfl))
  (pss_cons (ps_set (i := 6) sc__law_table.nd rfl (by first | exact Or.inl rfl | exact Or.inr rfl) (pe_ifExp (pt_cmpR op_eq (pe_ix ix_list (pv 1) (pv 3) (fun _ _ => rfl)) (pe_ix ix_list (pv 1) (pv 5) (fun _ _ => rfl)) (nomark _)) (pe_lst (pa_cons pe_str (pa_cons pe_str pa_nil))) (pe_lst (pa_cons pe_str (pa_cons pe_str (pa_cons pe_str pa_nil))))))
 (pss_one (ps_expr (pe_bm PySem.F.plainAttrs_list PySem.F.slot_list_append PySem.F.type_list_append mt_append (pv 4) (pa_cons (pe_ifExp (pt_cmpR op_eq (pv 3) (pv 5) (nomark _)) pe_str (pe_call Gpk (hr.mono (by decide)) (by rfl) gpk kpk bpk .nil pass0 (pa_cons (pv 0) (pa_cons (pv 6) pa_nil)))) pa_nil))))))
 (pss_one (ps_expr (pe_bm PySem.F.plainAttrs_list PySem.F.slot_list_append PySem.F.type_list_append mt_append (pv 2) (pa_cons (pv 4) pa_nil)))))))
 (pss_one (ps_ret (pv 2))))), ?_⟩
    have il : (ints_ hs).length = n := by unfold ints_; rw [List.length_map, hl]
    have hat : ∀ c, c < n → atI (ints_ hs) (0 + ((c : Nat) : Int)) = some (.int (hsAt hs c : Nat)) := fun c h => by
      rw [Int.zero_add]
      refine atI_nat ?_
      unfold ints_ hsAt
      rw [List.getElem?_map, List.getElem?_eq_getElem (by rw [hl]; exact h), List.getD_eq_getElem?_getD, List.getElem?_eq_getElem (by rw [hl]; exact h)]
      rfl
    refine ⟨by show 0 ≤ sizeLine; decide, fun R nR => ?_⟩
    have e1 := al (o := .lst []) nR
    have hR1 : upd H R (.lst []) R = some (.lst []) := upd_same
    have st1 := Stay.of_same hh e1
    generalize upd H R (.lst []) = H1 at e1 hR1 st1 ⊢
    have nth := hh.nel ht (notHand_ints _)
    refine ⟨_, rfl, t, _, rfl, .inl (.inl (.inl (e1 _ _ ht))), _, rfl, by rw [il]; omega, by rw [il]; omega, for_range (lo := 0) (n := (ints_ hs).length) (fun i σ H' => i ≤ n ∧ ∃ rs tab y3 y4 y5 y6, σ = [some (.ref h), some (.ref t), some (.ref R), y3, y4, y5, y6] ∧ Stay h c H H' ∧ H' R = some (.lst (rs.map V.ref)) ∧ RLt R H' rs tab ∧ tab.length = i ∧ ∀ (x : Nat) (row : List Nat), tab[x]? = some row → RowOk n hs x row n)
      ⟨Nat.zero_le _, [], [], none, none, none, none, rfl, st1, hR1, .nil, rfl, fun x row h => nomatch h⟩ (fun i σ H' hi pv => ?_) (fun σ H' pv => ?_)⟩
    · obtain ⟨_, rs, tab, y3, y4, y5, y6, rfl, st, hR, tR, tl, ok⟩ := pv
      rw [il] at hi
      refine ⟨by show 0 ≤ sizeLine; decide, fun W nW => ?_⟩
      have nW0 := st.free nW
      have nWR : W ≠ R := fun e => by rw [e, hR] at nW; cases nW
      have st2 := st.same (al (o := .lst []) nW)
      have hW2 : upd H' W (.lst []) W = some (.lst (wds [])) := upd_same
      have hR2 := al (o := .lst []) nW _ _ hR
      have tR2 := tR.mono (H' := upd H' W (.lst [])) fun b row nb hb => al (o := .lst []) nW _ _ hb
      have nrW : ∀ r ∈ rs, r ≠ W := by
        have : ∀ {rs : List Addr} {tab : List (List Nat)}, RLt R H' rs tab → ∀ r ∈ rs, r ≠ W := fun {rs tab} t => by
          induction t with
          | nil => exact fun r hr => nomatch hr
          | cons h _ _ ih =>
            intro r hr
            rcases List.mem_cons.mp hr with rfl | hr
            · exact ne_of_none h nW
            · exact ih r hr
        exact this tR
      generalize upd H' W (.lst []) = H2 at st2 hW2 hR2 tR2 ⊢
      refine ⟨_, rfl, t, _, rfl, .inl (.inl (.inl (st2.lst ht (notHand_ints _)))), _, rfl, by rw [il]; omega, by rw [il]; omega, for_range (lo := 0) (n := (ints_ hs).length) (fun j σ H3 => j ≤ n ∧ ∃ row y5 y6, σ = [some (.ref h), some (.ref t), some (.ref R), some (.int (0 + (i : Nat))), some (.ref W), y5, y6] ∧ Stay h c H H3 ∧ H3 R = some (.lst (rs.map V.ref)) ∧ RLt R H3 rs tab ∧ H3 W = some (.lst (wds row)) ∧ RowOk n hs i row j)
        ⟨Nat.zero_le _, [], y5, y6, rfl, st2, hR2, tR2, hW2, ⟨rfl, fun y hy => absurd hy (Nat.not_lt_zero _)⟩⟩ (fun j σ H3 hj pv => ?_) (fun σ H3 pv => ?_)⟩
      · obtain ⟨_, row, y5, y6, rfl, st3, hR3, tR3, hW3, ro⟩ := pv
        rw [il] at hj
        have ht3 := st3.lst ht (notHand_ints _)
        have wl : (wds row).length ≤ 1000 := by unfold wds; rw [List.length_map, ro.len]; omega
        have fin : ∀ (H5 : Hp) (u6 : Option V) (k : Nat), Stay h c H H5 → H5 R = some (.lst (rs.map V.ref)) → RLt R H5 rs tab → H5 W = some (.lst (wds row)) → ((j = i → k = 0) ∧ (j ≠ i → hsAt hs i = hsAt hs j → k = 0 ∨ 3 ≤ k) ∧ (j ≠ i → hsAt hs i ≠ hsAt hs j → k < 3)) →
            (j + 1 ≤ n ∧ ∃ row' y5 y6, [some (V.ref h), some (.ref t), some (.ref R), some (.int (0 + (i : Nat))), some (.ref W), some (.int (0 + (j : Nat))), u6] = [some (.ref h), some (.ref t), some (.ref R), some (.int (0 + (i : Nat))), some (.ref W), y5, y6] ∧ Stay h c H (upd H5 W (.lst (wds row ++ [.str (wd k)]))) ∧ upd H5 W (.lst (wds row ++ [.str (wd k)])) R = some (.lst (rs.map V.ref)) ∧ RLt R (upd H5 W (.lst (wds row ++ [.str (wd k)]))) rs tab ∧ upd H5 W (.lst (wds row ++ [.str (wd k)])) W = some (.lst (wds row')) ∧ RowOk n hs i row' (j + 1)) := fun H5 u6 k st5 hR5 tR5 hW5 hk => by
          refine ⟨hj, row ++ [k], _, _, rfl, st5.put nW0, by rw [upd_ne nWR.symm]; exact hR5, ?_, by rw [upd_same, wds_snoc], ro.snoc hk⟩
          have : ∀ {rs : List Addr} {tab : List (List Nat)}, (∀ r ∈ rs, r ≠ W) → RLt R H5 rs tab → RLt R (upd H5 W (.lst (wds row ++ [.str (wd k)]))) rs tab := fun {rs tab} hn t => by
            induction t with
            | nil => exact .nil
            | cons h n _ ih => exact .cons (by rw [upd_ne (hn _ (List.mem_cons_self ..))]; exact h) n (ih fun r hr => hn r (List.mem_cons_of_mem _ hr))
          exact this nrW tR5
        have dv : decide (V.int (hsAt hs i : Nat) = V.int (hsAt hs j : Nat)) = decide (hsAt hs i = hsAt hs j) := decide_eq_decide.mpr ⟨fun h => by injection h with h; omega, fun h => by rw [h]⟩
        have dij : decide (V.int (0 + (i : Nat)) = V.int (0 + (j : Nat))) = decide (i = j) := decide_eq_decide.mpr ⟨fun h => by injection h with h; omega, fun h => by rw [h]⟩
        refine ⟨_, rfl, _, rfl, t, _, _, _, rfl, rfl, .inl (.inl ht3), hat i hi, _, rfl, _, rfl, t, _, _, _, rfl, rfl, .inl (.inl ht3), hat j hj, rfl, _, rfl, ?_⟩
        rw [dv]
        by_cases he : hsAt hs i = hsAt hs j
        · rw [decide_eq_true he]
          refine iteT ⟨by show 2 ≤ sizeLine; decide, fun u nu => ?_⟩
          have e4 := al (o := .lst [.str "none", .str "asleep"]) nu
          have st4 := st3.same e4
          refine ⟨_, rfl, .inl ⟨rfl, _, .inl (.inl (e4 _ _ hW3))⟩, _, rfl, _, rfl, rfl, _, rfl, ?_⟩
          rw [dij]
          by_cases eij : i = j
          · rw [decide_eq_true eij]
            refine iteT ⟨W, _, _, rfl, rfl, e4 _ _ hW3, small1000 wl, ?_⟩
            exact fin _ _ 0 st4 (e4 _ _ hR3) (tR3.mono fun b row nb hb => e4 _ _ hb) (e4 _ _ hW3) ⟨fun _ => rfl, fun _ _ => .inl rfl, fun _ _ => by decide⟩
          · rw [decide_eq_false eij]
            refine iteF ⟨_, rfl, _, rfl, h, c, u, _, rfl, st4.hand, (st3.hand.ne nu).1, upd_same, by decide, by decide, fun H5 jj v d5 hv => ?_⟩
            have st5 := Stay.of_drawn st4.hand d5
            have hW5 := st5.wds (e4 _ _ hW3)
            obtain ⟨k, rfl, hk⟩ : ∃ k, v = .str (wd k) ∧ (k = 0 ∨ 3 ≤ k) := by
              have mm := List.mem_of_getElem? hv
              simp only [List.mem_cons, List.not_mem_nil, or_false] at mm
              rcases mm with rfl | rfl
              · exact ⟨0, rfl, .inl rfl⟩
              · exact ⟨3, rfl, .inr (by decide)⟩
            refine ⟨W, _, _, rfl, rfl, hW5, small1000 wl, ?_⟩
            exact fin _ _ k (st4.trans st5) (st5.lst (e4 _ _ hR3) (notHand_refs _)) ((tR3.mono fun b row nb hb => e4 _ _ hb).mono fun b row nb hb => st5.wds hb) hW5 ⟨fun e => absurd e.symm eij, fun _ _ => hk, fun _ d => absurd he d⟩
        · rw [decide_eq_false he]
          refine iteF ⟨by show 3 ≤ sizeLine; decide, fun u nu => ?_⟩
          have e4 := al (o := .lst [.str "awake", .str "none", .str "needed"]) nu
          have st4 := st3.same e4
          refine ⟨_, rfl, .inl ⟨rfl, _, .inl (.inl (e4 _ _ hW3))⟩, _, rfl, _, rfl, rfl, _, rfl, ?_⟩
          rw [dij]
          by_cases eij : i = j
          · rw [decide_eq_true eij]
            refine iteT ⟨W, _, _, rfl, rfl, e4 _ _ hW3, small1000 wl, ?_⟩
            exact fin _ _ 0 st4 (e4 _ _ hR3) (tR3.mono fun b row nb hb => e4 _ _ hb) (e4 _ _ hW3) ⟨fun _ => rfl, fun _ _ => .inl rfl, fun _ _ => by decide⟩
          · rw [decide_eq_false eij]
            refine iteF ⟨_, rfl, _, rfl, h, c, u, _, rfl, st4.hand, (st3.hand.ne nu).1, upd_same, by decide, by decide, fun H5 jj v d5 hv => ?_⟩
            have st5 := Stay.of_drawn st4.hand d5
            have hW5 := st5.wds (e4 _ _ hW3)
            obtain ⟨k, rfl, hk⟩ : ∃ k, v = .str (wd k) ∧ k < 3 := by
              have mm := List.mem_of_getElem? hv
              simp only [List.mem_cons, List.not_mem_nil, or_false] at mm
              rcases mm with rfl | rfl | rfl
              · exact ⟨1, rfl, by decide⟩
              · exact ⟨0, rfl, by decide⟩
              · exact ⟨2, rfl, by decide⟩
            refine ⟨W, _, _, rfl, rfl, hW5, small1000 wl, ?_⟩
            exact fin _ _ k (st4.trans st5) (st5.lst (e4 _ _ hR3) (notHand_refs _)) ((tR3.mono fun b row nb hb => e4 _ _ hb).mono fun b row nb hb => st5.wds hb) hW5 ⟨fun e => absurd e.symm eij, fun _ e => absurd e he, fun _ _ => hk⟩
      · obtain ⟨_, row, y5, y6, rfl, st3, hR3, tR3, hW3, ro⟩ := pv
        rw [il] at ro
        refine ⟨_, rfl, .inl ⟨rfl, _, .inl (.inl hR3)⟩, _, rfl, R, _, _, rfl, rfl, hR3, by rw [List.length_map, tR3.len, tl]; exact small1000 (by omega), ?_⟩
        refine ⟨hi, rs ++ [W], tab ++ [row], _, _, _, _, rfl, st3.put nR, by rw [upd_same, List.map_append]; rfl, ?_, by rw [List.length_append, tl]; rfl, fun x row' hx => ?_⟩
        · exact (tR3.mono fun b row nb hb => by rw [upd_ne nb]; exact hb).append (.cons (by rw [upd_ne nWR]; exact hW3) nWR .nil)
        · by_cases e : x < tab.length
          · rw [List.getElem?_append_left e] at hx
            exact ok x row' hx
          · rw [List.getElem?_append_right (by omega)] at hx
            have xe : x = i := by
              have := (List.getElem?_eq_some_iff.mp hx).1
              rw [List.length_singleton] at this
              omega
            subst xe
            rw [tl, Nat.sub_self] at hx
            obtain rfl := Option.some.inj hx
            exact ro
    · obtain ⟨_, rs, tab, y3, y4, y5, y6, rfl, st, hR, tR, tl, ok⟩ := pv
      rw [il] at tl
      exact ⟨_, rfl, q H' R rs tab st nR hR tR (rows_tab hl hm tl ok)⟩
end
end K7
end
/-! ## P22 -/
section
open PySem PySem.Spec PyProof.Rows L2
namespace K7
abbrev N__law_any_state : List Str := ["_law_hand_here", "_law_n", "_law_names", "_law_hands", "_law_k"]
abbrev s__law_any_state : Stmt := topS 48
theorem sc__law_any_state : FnScope ["_law_hand_here", "_law_n", "_law_names", "_law_hands", "_law_k"] ["_law_hand_here", "_law_n"] (defScope s__law_any_state) := ⟨rfl, rfl, rfl, by decide +kernel, rfl, by decide +kernel, by decide +kernel⟩
theorem cut_pre {xs : List V} {k : Nat} (h : 2 ≤ k) (h2 : 2 ≤ xs.length) : 0 < (cutV xs none (some ((k : Nat) : Int))).length ∧ (cutV xs none (some ((k : Nat) : Int))).length ≤ xs.length ∧ ∀ z ∈ cutV xs none (some ((k : Nat) : Int)), z ∈ xs := by
  unfold cutV
  rw [HT.sIx_nat, HT.sIx_none]
  refine ⟨?_, ?_, fun z hz => List.mem_of_mem_drop (List.mem_of_mem_take hz)⟩
  · rw [List.length_take, List.length_drop]
    omega
  · rw [List.length_take, List.length_drop]
    omega
section
variable {P : Program} {w : World} {K : PySem.W.Frag} {mg : Str → Option Value} {base : Heap} {a : AdL}
def spAnyS : Sp := fun vs H Q _ => ∃ (h c : Addr) (n : Nat), vs = [.ref h, .int (n : Nat)] ∧ Hand H h c ∧ 2 ≤ n ∧ n ≤ 5 ∧ ∀ H' u th tt (hs : List Nat) rs tab, Stay h c H H' → H u = none → H' u = some (.tup [.ref th, .ref tt]) → H' th = some (.lst (ints_ hs)) → H' tt = some (.lst (rs.map V.ref)) → RLt tt H' rs tab → StTab n hs tab → Q (.ref u) H'
theorem ok_anys {f ffa fpk ftb fdr : Addr} {fd fdfa fdpk fdtb fddr : FuncData} (F : Fun K "_law_any_state" "_law_any_state" s__law_any_state f fd)
    (Gfa : FnOk P w K mg base CX0 3 ffa fdfa ["_law_hand_here"] spFar) (gfa : mg "_law_far" = some (.ref ffa)) (kfa : PySem.W.keepIn K (.ref ffa) = true) (bfa : Binds K fdfa ["_law_hand_here"] [])
    (Gpk : FnOk P w K mg base CX0 3 fpk fdpk ["_law_hand_here", "_law_things"] spPick) (gpk : mg "_law_pick" = some (.ref fpk)) (kpk : PySem.W.keepIn K (.ref fpk) = true) (bpk : Binds K fdpk ["_law_hand_here", "_law_things"] [])
    (Gtb : FnOk P w K mg base CX0 4 ftb fdtb ["_law_hand_here", "_law_hands"] spTable) (gtb : mg "_law_table" = some (.ref ftb)) (ktb : PySem.W.keepIn K (.ref ftb) = true) (btb : Binds K fdtb ["_law_hand_here", "_law_hands"] [])
    (Gdr : FnOk P w K mg base CX0 2 fdr fddr ["_law_hand_here", "_law_many"] spDraw) (gdr : mg "_law_draw" = some (.ref fdr)) (kdr : PySem.W.keepIn K (.ref fdr) = true) (bdr : Binds K fddr ["_law_hand_here", "_law_many"] [])
    (m_range : mg "range" = none) : FnOk P w K mg base CX0 5 f fd ["_law_hand_here", "_law_n"] spAnyS := by
  refine F.ok sc__law_any_state (fun vs H Q E h => ?_) (fun cdv A outer s H vs Q E hr h => ?_)
  · obtain ⟨h, c, n, rfl, _⟩ := h
    rfl
  · obtain ⟨h, c, n, rfl, hh, n2, n5, q⟩ := h
    refine ⟨_, (pss_cons (ps_set (i := 2) sc__law_any_state.nd rfl (by first | exact Or.inl rfl | exact Or.inr rfl) (pe_slice sl_list (pe_call Gfa (hr.mono (by decide)) (by rfl) gfa kfa bfa .nil pass0 (pa_cons (pv 0) pa_nil)) po_none (po_some (pe_op op_add pe_int (pe_call Gdr (hr.mono (by decide)) (by rfl) gdr kdr bdr .nil pass0 (pa_cons (pv 0) (pa_cons pe_int pa_nil)))))))
 (pss_cons (ps_setLc (i := 3) (own := [("_law_k", 4)]) (g := gName 4) (tt := tYes) rfl sc__law_any_state.nd rfl rfl (sw_true rfl rfl rfl (by decide +kernel)) (pi_range1 rfl m_range (pa_cons (pv 1) pa_nil)) (blkOk_by (own := [("_law_k", 4)]) (N := N__law_any_state) (sc := defScope s__law_any_state) (by decide +kernel)) (fun _ _ _ _ _ => (pg_name (i := 4) sc__law_any_state.nd rfl (by first | exact Or.inl rfl | exact Or.inr rfl))) (fun _ _ _ _ _ => pts_nil) (fun _ _ _ _ _ => (pe_call Gpk (hr.mono (by decide)) (by rfl) gpk kpk bpk .nil pass0 (pa_cons (pv 0) (pa_cons (pv 2) pa_nil)))))
 (pss_one (ps_ret (pe_tup (pa_cons (pv 3) (pa_cons (pe_call Gtb (hr.mono (by decide)) (by rfl) gtb ktb btb .nil pass0 (pa_cons (pv 0) (pa_cons (pv 3) pa_nil))) pa_nil))))))), ?_⟩
    refine ⟨_, rfl, h, c, rfl, hh, fun H1 r far st1 nr hr1 fl fm => ?_⟩
    refine ⟨_, rfl, h, c, 4, rfl, st1.hand, by decide, by decide, fun H2 d d2 d0 d1 => ⟨_, _, rfl, rfl, ?_⟩⟩
    obtain ⟨m, rfl⟩ : ∃ m : Nat, d = (m : Nat) := ⟨d.toNat, by omega⟩
    have st2 := st1.drawn d2
    have hr2 := (Stay.of_drawn st1.hand d2).lst hr1 (notHand_ints _)
    refine ⟨_, rfl, r, _, rfl, .inl (.inl hr2), fun N nN => ?_⟩
    have il : (ints_ far).length = 5 := by unfold ints_; rw [List.length_map, fl]
    obtain ⟨c1, c2, c3⟩ := cut_pre (xs := ints_ far) (k := m + 2) (by omega) (by omega)
    have ek : (some ((fun i j : Int => i + j) 2 (m : Nat)) : Option Int) = some (((m + 2 : Nat)) : Int) := by
      show some ((2 : Int) + (m : Nat)) = _
      congr 1
      omega
    have nm : ∀ z ∈ cutV (ints_ far) none (some ((m + 2 : Nat) : Int)), ∃ x : Nat, z = .int (x : Nat) ∧ x ≤ 10 ^ 30 := fun z hz => by
      obtain ⟨x, hx, rfl⟩ := List.mem_map.mp (c3 z hz)
      exact ⟨x, rfl, fm x hx⟩
    have e2 : (2 : Int) + ((m : Nat) : Int) = ((m + 2 : Nat) : Int) := by omega
    show _
    rw [show cutV (ints_ far) none (some (2 + ((m : Nat) : Int))) = cutV (ints_ far) none (some ((m + 2 : Nat) : Int)) from by rw [e2]]
    have nNh := (st2.hand.ne nN).1
    have st3 := st2.same (al (o := .lst (cutV (ints_ far) none (some ((m + 2 : Nat) : Int)))) nN)
    have hN3 : upd H2 N (.lst (cutV (ints_ far) none (some ((m + 2 : Nat) : Int)))) N = some (.lst (cutV (ints_ far) none (some ((m + 2 : Nat) : Int)))) := upd_same
    generalize cutV (ints_ far) none (some ((m + 2 : Nat) : Int)) = nms at c1 c2 nm hN3 st3 ⊢
    generalize upd H2 N (.lst nms) = H3 at st3 hN3 ⊢
    -- the hands
    refine ⟨_, rfl, _, rfl, by omega, by omega, fun D hD => lc_range (lo := 0) (n := n) (fun i H4 => ∃ hs : List Nat, Stay h c H H4 ∧ H4 N = some (.lst nms) ∧ H4 D = some (.lst (ints_ hs)) ∧ hs.length = i ∧ (∀ x ∈ hs, x ≤ 10 ^ 30) ∧ H D = none ∧ D ≠ N) ⟨[], st3.same (al hD), al hD _ _ hN3, upd_same, rfl, (fun x h => nomatch h), st3.free hD, fun e => by rw [e, hN3] at hD; cases hD⟩ (fun i H4 hi pv => ?_) (fun H4 pv => ?_)⟩
    · obtain ⟨hs, st4, hN4, hD4, hl, hm, nD0, nDN⟩ := pv
      refine ⟨rfl, _, rfl, _, rfl, h, c, N, nms, rfl, st4.hand, nNh, hN4, c1, by omega, fun H5 j v d5 hv => ?_⟩
      have st5 := Stay.of_drawn st4.hand d5
      obtain ⟨x, rfl, hx⟩ := nm v (List.mem_of_getElem? hv)
      have hD5 := st5.lst hD4 (notHand_ints _)
      refine ⟨_, hD5, by unfold ints_; rw [List.length_map]; exact small1000 (by omega), hs ++ [x], (st4.trans st5).put nD0, by rw [upd_ne nDN.symm]; exact st5.but N _ nNh hN4, by rw [upd_same, ints_snoc], by rw [List.length_append, hl]; rfl, fun y hy => ?_, nD0, nDN⟩
      rcases List.mem_append.mp hy with hy | hy
      · exact hm y hy
      · rw [List.mem_singleton.mp hy]
        exact hx
    · obtain ⟨hs, st4, hN4, hD4, hl, hm, nD0, nDN⟩ := pv
      refine ⟨_, rfl, _, rfl, _, rfl, h, c, D, n, hs, rfl, st4.hand, hD4, hl, n5, hm, fun H5 R rs tab st5 nR hR tR Sx => ?_⟩
      refine ⟨by show 2 ≤ sizeLine; decide, fun u nu => ?_⟩
      have st6 := st4.trans st5
      have hD5 := st5.lst hD4 (notHand_ints _)
      have e7 := al (o := .tup [.ref D, .ref R]) nu
      exact q _ u D R hs rs tab (st6.same e7) (st6.free nu) upd_same (e7 _ _ hD5) (e7 _ _ hR) (tR.mono fun b row nb hb => e7 _ _ hb) Sx
end
end K7
end
/-! ## P23 -/
section
open PySem PySem.Spec PyProof.Rows L2
namespace K7
abbrev N_State_lots : List Str := ["self", "found", "a", "hand"]
abbrev s_State_lots : Stmt := inClass (topS 30) 3
theorem sc_State_lots : FnScope ["self", "found", "a", "hand"] ["self"] (defScope s_State_lots) := ⟨rfl, rfl, rfl, by decide +kernel, rfl, by decide +kernel, by decide +kernel⟩
/-! ### lots -/
def lotF (hs : List Nat) (j h : Nat) : List Nat := (List.range j).filter fun b => decide (hsAt hs b = h)
def fsts (hs : List Nat) : Nat → List Nat
  | 0 => []
  | j + 1 => if hsAt hs j ∈ fsts hs j then fsts hs j else fsts hs j ++ [hsAt hs j]
theorem fsts_nd (hs : List Nat) : ∀ j, (fsts hs j).Nodup
  | 0 => .nil
  | j + 1 => by
    have ih := fsts_nd hs j
    show (if hsAt hs j ∈ fsts hs j then fsts hs j else fsts hs j ++ [hsAt hs j]).Nodup
    by_cases h : hsAt hs j ∈ fsts hs j
    · rw [if_pos h]
      exact ih
    · rw [if_neg h, List.nodup_append]
      refine ⟨ih, by simp, fun a ha b hb e => ?_⟩
      rw [List.mem_singleton.mp hb] at e
      exact h (e ▸ ha)
theorem fsts_mem (hs : List Nat) : ∀ j b, b < j → hsAt hs b ∈ fsts hs j
  | 0, b, h => absurd h (Nat.not_lt_zero _)
  | j + 1, b, h => by
    have ih := fsts_mem hs j
    show hsAt hs b ∈ (if hsAt hs j ∈ fsts hs j then fsts hs j else fsts hs j ++ [hsAt hs j])
    by_cases e : b = j
    · subst e
      by_cases z : hsAt hs b ∈ fsts hs b
      · rw [if_pos z]
        exact z
      · rw [if_neg z]
        exact List.mem_append.mpr (.inr (List.mem_singleton.mpr rfl))
    · have m := ih b (by omega)
      by_cases z : hsAt hs j ∈ fsts hs j
      · rw [if_pos z]
        exact m
      · rw [if_neg z]
        exact List.mem_append.mpr (.inl m)
theorem fsts_len (hs : List Nat) : ∀ j, (fsts hs j).length ≤ j
  | 0 => Nat.le_refl _
  | j + 1 => by
    have ih := fsts_len hs j
    show (if hsAt hs j ∈ fsts hs j then fsts hs j else fsts hs j ++ [hsAt hs j]).length ≤ _
    split
    · omega
    · rw [List.length_append]
      show _ + 1 ≤ _
      omega
theorem lotF_none {hs : List Nat} {j h : Nat} (hn : h ∉ fsts hs j) : lotF hs j h = [] := by
  refine List.filter_eq_nil_iff.mpr fun b hb e => hn ?_
  rw [← of_decide_eq_true e]
  exact fsts_mem hs j b (List.mem_range.mp hb)
theorem lotF_succ (hs : List Nat) (j h : Nat) : lotF hs (j + 1) h = lotF hs j h ++ (if decide (hsAt hs j = h) = true then [j] else []) := range_filter _ _
def kvG (ps : List (Nat × Addr)) : List (Key × V) := ps.map fun p => (Sum.inl (p.1 : Int), V.ref p.2)
theorem valG (ps : List (Nat × Addr)) (h : Nat) : valV (kvG ps) (.inl (h : Int)) = (ps.find? fun p => decide (p.1 = h)).map fun p => V.ref p.2 := by
  induction ps with
  | nil => rfl
  | cons p r ih =>
    by_cases e : p.1 = h
    · rw [List.find?_cons_of_pos (by exact decide_eq_true e)]
      exact valV_pos (r := kvG r) (congrArg (fun z : Nat => (Sum.inl (z : Int) : Key)) e)
    · rw [List.find?_cons_of_neg (by simpa using e)]
      refine (valV_neg (r := kvG r) ?_).trans ih
      intro z
      injection z with z
      exact e (by omega)
theorem valG_none {ps : List (Nat × Addr)} {h : Nat} (hn : h ∉ ps.map Prod.fst) : valV (kvG ps) (.inl (h : Int)) = none := by
  rw [valG, List.find?_eq_none.mpr fun p hp e => hn (List.mem_map.mpr ⟨p, hp, of_decide_eq_true e⟩)]
  rfl
theorem valG_some {ps : List (Nat × Addr)} {h : Nat} (hm : h ∈ ps.map Prod.fst) : ∃ r, (h, r) ∈ ps ∧ valV (kvG ps) (.inl (h : Int)) = some (.ref r) := by
  rw [valG]
  cases e : ps.find? fun p => decide (p.1 = h) with
  | none =>
    obtain ⟨p, hp, rfl⟩ := List.mem_map.mp hm
    exact absurd (decide_eq_true rfl) (List.find?_eq_none.mp e p hp)
  | some p =>
    have hp := List.mem_of_find?_eq_some e
    have z := List.find?_some e
    have z : p.1 = h := of_decide_eq_true z
    refine ⟨p.2, ?_, rfl⟩
    rw [← z]
    exact hp
theorem kvG_len (ps : List (Nat × Addr)) : (kvG ps).length = ps.length := List.length_map ..
/-- the lists of cells by hand while they grow -/
structure GrpI (H0 H : Hp) (d : Addr) (hs : List Nat) (j : Nat) (ps : List (Nat × Addr)) : Prop where
  hd : H d = some (.dK (kvG ps))
  fs : ps.map Prod.fst = fsts hs j
  nd : (ps.map Prod.snd).Nodup
  ls : ∀ p ∈ ps, H p.2 = some (.lst (ints_ (lotF hs j p.1))) ∧ H0 p.2 = none
theorem snd_ne {ps : List (Nat × Addr)} (hf : (ps.map Prod.fst).Nodup) (hs : (ps.map Prod.snd).Nodup) {p q : Nat × Addr} (hp : p ∈ ps) (hq : q ∈ ps) (e : p.2 = q.2) : p = q := by
  induction ps with
  | nil => exact nomatch hp
  | cons x r ih =>
    rw [List.map_cons, List.nodup_cons] at hf hs
    rcases List.mem_cons.mp hp with rfl | hp'
    · rcases List.mem_cons.mp hq with rfl | hq'
      · rfl
      · exact absurd (List.mem_map.mpr ⟨q, hq', e.symm⟩) hs.1
    · rcases List.mem_cons.mp hq with rfl | hq'
      · exact absurd (List.mem_map.mpr ⟨p, hp', e⟩) hs.1
      · exact ih hf.2 hs.2 hp' hq'
theorem fst_ne {ps : List (Nat × Addr)} (hf : (ps.map Prod.fst).Nodup) {p q : Nat × Addr} (hp : p ∈ ps) (hq : q ∈ ps) (e : p.1 = q.1) : p = q := by
  induction ps with
  | nil => exact nomatch hp
  | cons x r ih =>
    rw [List.map_cons, List.nodup_cons] at hf
    rcases List.mem_cons.mp hp with rfl | hp'
    · rcases List.mem_cons.mp hq with rfl | hq'
      · rfl
      · exact absurd (List.mem_map.mpr ⟨q, hq', e.symm⟩) hf.1
    · rcases List.mem_cons.mp hq with rfl | hq'
      · exact absurd (List.mem_map.mpr ⟨p, hp', e⟩) hf.1
      · exact ih hf.2 hp' hq'
section
variable {P : Program} {w : World} {K : PySem.W.Frag} {mg : Str → Option Value} {base : Heap} {a : AdL} {aST aRI S fE : Addr} {tH : Tok}
def lotsF (hs : List Nat) (n : Nat) : List (List Nat) := (fsts hs n).map (lotF hs n)
def spSLots (a : AdL) (S : Addr) : Sp := fun vs H Q _ => ∃ (p l : Addr) (n : Nat) (es : List (Nat × Nat)) (rd hs : List Nat) (tab : List (List Nat)), vs = [.ref p] ∧ StateO a.C S H p l n es rd hs tab ∧ ∀ H' u us, Same H H' → H u = none → H' u = some (.tup (us.map V.ref)) → TAt H' us (lotsF hs n) → Q (.ref u) H'
theorem ok_slots (clsS : Cls K S) (nS : ∀ f ∈ sfields, NoAttr K S f) {f : Addr} {fd : FuncData} (F : Fun K "lots" "State.lots" s_State_lots f fd) (m_tuple : mg "tuple" = none) (m_enumerate : mg "enumerate" = none) : FnOk P w K mg base CX0 1 f fd ["self"] (spSLots a S) := by
  refine F.ok sc_State_lots (fun vs H Q E h => ?_) (fun cdv A outer s H vs Q E hr h => ?_)
  · obtain ⟨p, l, n, es, rd, hs, tab, rfl, _⟩ := h
    rfl
  · obtain ⟨p, l, n, es, rd, hs, tab, rfl, W, q⟩ := h
    refine ⟨_, (pss_cons (ps_set (i := 1) sc_State_lots.nd rfl (by first | exact Or.inl rfl | exact Or.inr rfl) pe_dnewK)
 (pss_cons (ps_for PassesOwn.never rfl (K7E.pi_enumT (by rfl) m_enumerate (pa_cons (pe_fld (pv 0) rfl) pa_nil)) (pg_tup rfl (pgs_cons (pg_name (i := 2) sc_State_lots.nd rfl (by first | exact Or.inl rfl | exact Or.inr rfl)) (pgs_cons (pg_name (i := 3) sc_State_lots.nd rfl (by first | exact Or.inl rfl | exact Or.inr rfl)) pgs_nil)))
  (pss_one (ps_expr (pe_bm PySem.F.plainAttrs_list PySem.F.slot_list_append PySem.F.type_list_append mt_append (pe_dsetd (pv 1) (pv 3) (pe_lst pa_nil) ⟨by rfl, by rfl, by rfl, by rfl⟩) (pa_cons (pv 2) pa_nil)))))
 (pss_one (ps_ret (pe_callTy call_tuple_of (by rfl) m_tuple boot_tuple (pa_cons (pe_lock (pe_lc (own := [("hand", 3)]) (g := gName 3) (tt := tYes) rfl sc_State_lots.nd (pi_keys (pv 1)) (blkOk_by (own := [("hand", 3)]) (N := N_State_lots) (sc := defScope s_State_lots) (by decide +kernel)) (fun _ _ _ _ _ => (pg_name (i := 3) sc_State_lots.nd rfl (by first | exact Or.inl rfl | exact Or.inr rfl))) (fun _ _ _ _ _ => pts_nil) (fun _ _ _ _ _ => (pe_callTy (show CallR _ (.type "tuple") (rTup_ K) from call_tuple_of) (by rfl) m_tuple boot_tuple (pa_cons (pe_dget (K7S.hu1 hr) (pv 1) (pv 3) (fun _ _ => rfl)) pa_nil))))) pa_nil)))))), ?_⟩
    obtain ⟨dx, th, tt, rs, h1, h2, h3, h4⟩ := W.at_
    have n5 := W.ld.n5
    have il : (ints_ hs).length = n := by unfold ints_; rw [List.length_map, W.st.hl]
    intro d nd
    have e0 := al (o := .dK []) nd
    have hd0 : upd H d (.dK []) d = some (.dK (kvG [])) := upd_same
    generalize upd H d (.dK []) = H1 at e0 hd0 ⊢
    refine ⟨_, rfl, p, S, dx, _, _, rfl, e0 _ _ h1, clsS, nS _ (by decide), rfl, th, _, rfl, .inl (.inl (e0 _ _ h2)), for_it (K7E.walk_enumT (xs := ints_ hs)) (fun j σ H2 => ∃ ps y2 y3, σ = [some (.ref p), some (.ref d), y2, y3] ∧ Same H H2 ∧ GrpI H H2 d hs j ps)
      ⟨[], none, none, rfl, e0, ⟨hd0, rfl, .nil, fun p hp => nomatch hp⟩⟩ (fun j σ H2 _ pv => ?_) (fun j x σ H2 H3 hj pv hy => ?_) (fun σ H2 pv => ?_)⟩
    · obtain ⟨ps, y2, y3, rfl, e2, g⟩ := pv
      exact .inl (.inl (e2 _ _ h2))
    · obtain ⟨ps, y2, y3, rfl, e2, g⟩ := pv
      obtain ⟨T', x', y', rfl, nT, rfl, e3, e4⟩ := hy
      obtain rfl := Option.some.inj e3
      have jn : j < n := by rw [← il]; exact hj
      obtain rfl := Option.some.inj ((W.st.hat jn).symm.trans e4)
      have sT := al (o := .tup [.int (j : Nat), .int (hsAt hs j : Nat)]) nT
      have e23 := e2.trans sT
      have hd3 := sT _ _ g.hd
      refine ⟨T', _, rfl, .inl (.inl upd_same), rfl, _, _, rfl, _, _, rfl, rfl, ?_⟩
      generalize upd H2 T' (.tup [.int (j : Nat), .int (hsAt hs j : Nat)]) = H3 at sT e23 hd3 ⊢
      refine ⟨_, rfl, d, rfl, .inl ⟨_, .inl hd3⟩, _, rfl, by show 0 ≤ sizeLine; decide, fun u nu => ?_⟩
      have sU := al (o := .lst []) nu
      have e24 := e23.trans sU
      have hd4 := sU _ _ hd3
      have hu4 : upd H3 u (.lst []) u = some (.lst []) := upd_same
      have n0u : H u = none := e23.free nu
      have n2u : H2 u = none := sT.free nu
      have s24 := sT.trans sU
      generalize upd H3 u (.lst []) = H4 at sU e24 hd4 hu4 s24 ⊢
      have pl : ps.length ≤ j := by
        have z := congrArg List.length g.fs
        rw [List.length_map] at z
        rw [z]
        exact fsts_len hs j
      refine ⟨kvG ps, .inl (hsAt hs j : Int), hd4, rfl, by rw [kvG_len]; exact small1000 (by omega), fun v hv => ?_, fun hv => ?_⟩
      · by_cases hm : hsAt hs j ∈ ps.map Prod.fst
        · obtain ⟨r, hr', hv'⟩ := valG_some hm
          obtain rfl := Option.some.inj (hv'.symm.trans hv)
          obtain ⟨hl2, nl⟩ := g.ls _ hr'
          have hl4 : H4 r = some (.lst (ints_ (lotF hs j (hsAt hs j)))) := s24 _ _ hl2
          have ndr : d ≠ r := fun e => by rw [← e, hd4] at hl4; cases hl4
          refine ⟨.inl ⟨rfl, _, .inl (.inl hl4)⟩, _, rfl, r, _, _, rfl, rfl, hl4, ?_, ?_⟩
          · unfold ints_
            rw [List.length_map]
            exact small1000 (Nat.le_trans (List.length_filter_le _ _) (by rw [List.length_range]; omega))
          · refine ⟨ps, _, _, rfl, fun b o hb => ?_, by rw [upd_ne ndr]; exact hd4, ?_, g.nd, fun p' hp' => ⟨?_, (g.ls p' hp').2⟩⟩
            · rw [upd_ne (ne_of_none hb nl)]
              exact e24 _ _ hb
            · rw [g.fs]
              show _ = if hsAt hs j ∈ fsts hs j then fsts hs j else _
              rw [if_pos (g.fs ▸ hm)]
            · by_cases ep : p'.2 = r
              · have z : p' = (hsAt hs j, r) := snd_ne (by rw [g.fs]; exact fsts_nd hs j) g.nd hp' hr' ep
                subst z
                rw [upd_same, lotF_succ, if_pos (decide_eq_true rfl), ints_snoc]
              · have np : hsAt hs j ≠ p'.1 := fun e => ep (by rw [fst_ne (by rw [g.fs]; exact fsts_nd hs j) hp' hr' e.symm])
                rw [upd_ne ep, lotF_succ, if_neg (by rw [decide_eq_false np]; decide), List.append_nil]
                exact s24 _ _ (g.ls p' hp').1
        · rw [valG_none hm] at hv
          cases hv
      · have hm : hsAt hs j ∉ ps.map Prod.fst := fun hm => by
          obtain ⟨r, _, hv'⟩ := valG_some hm
          rw [hv'] at hv
          cases hv
        have ndu : d ≠ u := fun e => by rw [← e, hd4] at hu4; cases hu4
        have hl5 : upd H4 d (.dK (putK (kvG ps) (.inl (hsAt hs j : Int)) (.ref u))) u = some (.lst []) := by rw [upd_ne ndu.symm]; exact hu4
        refine ⟨.inl ⟨rfl, _, .inl (.inl hl5)⟩, _, rfl, u, _, _, rfl, rfl, hl5, by show 0 < sizeLine; decide, ?_⟩
        refine ⟨ps ++ [(hsAt hs j, u)], _, _, rfl, fun b o hb => ?_, ?_, ?_, ?_, fun p' hp' => ?_⟩
        · rw [upd_ne (ne_of_none hb n0u), upd_ne (ne_of_none hb nd)]
          exact e24 _ _ hb
        · rw [upd_ne ndu, upd_same, putK_new _ hv]
          unfold kvG
          rw [List.map_append]
          rfl
        · rw [List.map_append, g.fs]
          show _ = if hsAt hs j ∈ fsts hs j then fsts hs j else _
          rw [if_neg (g.fs ▸ hm)]
          rfl
        · rw [List.map_append, List.nodup_append]
          refine ⟨g.nd, by simp, fun x hx y hy e => ?_⟩
          obtain ⟨p', hp', rfl⟩ := List.mem_map.mp hx
          rw [List.mem_singleton.mp hy] at e
          have z := (g.ls p' hp').1
          rw [e] at z
          have z : H2 u = _ := z
          rw [n2u] at z
          cases z
        · rcases List.mem_append.mp hp' with hp' | hp'
          · obtain ⟨z1, z2⟩ := g.ls p' hp'
            have np : hsAt hs j ≠ p'.1 := fun e => hm (by rw [e]; exact List.mem_map.mpr ⟨p', hp', rfl⟩)
            have z4 := s24 _ _ z1
            refine ⟨?_, z2⟩
            rw [upd_ne (ne_of_none z1 n2u), upd_ne (fun e => by rw [e, hd4] at z4; cases z4), lotF_succ, if_neg (by rw [decide_eq_false np]; decide), List.append_nil]
            exact z4
          · rw [List.mem_singleton.mp hp']
            refine ⟨?_, n0u⟩
            show upd (upd H4 d _) u (.lst ([] ++ [.int (j : Nat)])) u = some (.lst (ints_ (lotF hs (j + 1) (hsAt hs j))))
            rw [upd_same, lotF_succ, if_pos (decide_eq_true rfl), lotF_none (g.fs ▸ hm)]
            rfl
    · obtain ⟨ps, y2, y3, rfl, e2, g⟩ := pv
      rw [il] at g
      refine ⟨d, .dK (kvG ps), g.hd, trivial, fun od => ?_⟩
      have hdL : upd H2 d (.frz od (.dK (kvG ps))) d = some (.frz od (.dK (kvG ps))) := upd_same
      have oth : ∀ b o, b ≠ d → H2 b = some o → upd H2 d (.frz od (.dK (kvG ps))) b = some o := fun b o nb hb => by rw [upd_ne nb]; exact hb
      have eL : Same H (upd H2 d (.frz od (.dK (kvG ps)))) := fun b o hb => by
        rw [upd_ne (ne_of_none hb nd)]
        exact e2 _ _ hb
      generalize upd H2 d (.frz od (.dK (kvG ps))) = HL at hdL oth eL ⊢
      have pln : ps.length ≤ 5 := by
        have z := congrArg List.length g.fs
        rw [List.length_map] at z
        rw [z]
        exact Nat.le_trans (fsts_len hs n) n5
      refine ⟨_, rfl, d, od, rfl, .inl ⟨kvG ps, hdL, fun D hD => lc_it (walk_keys (kvs := kvG ps)) (fun i H3 => Same HL H3 ∧ ∃ us, H3 D = some (.lst (us.map V.ref)) ∧ TAt H3 us (((ps.map Prod.fst).take i).map (lotF hs n))) ⟨al hD, [], upd_same, .nil⟩ (fun i H3 _ pv => pv.1 _ _ hdL) (fun i x H3 H4 hi pv hy => ?_) (fun H3 pv => ?_)⟩⟩
      · obtain ⟨e3, us, hD3, t3⟩ := pv
        obtain ⟨rfl, k, v, hk, rfl⟩ := hy
        unfold kvG at hk
        rw [List.getElem?_map] at hk
        obtain ⟨p', hp', ekv⟩ := Option.map_eq_some_iff.mp hk
        injection ekv with ek ev
        subst ek
        have mp' : p'.1 ∈ ps.map Prod.fst := List.mem_map.mpr ⟨p', List.mem_of_getElem? hp', rfl⟩
        obtain ⟨r, hr', hv'⟩ := valG_some mp'
        have hl2 := (g.ls _ hr').1
        have ndr : r ≠ d := fun e => by
          have z := g.hd
          rw [← e] at z
          have z2 : H2 r = _ := hl2
          rw [z] at z2
          cases z2
        have hl4 : H4 r = some (.lst (ints_ (lotF hs n p'.1))) := e3 _ _ (oth _ _ ndr hl2)
        refine ⟨rfl, _, rfl, _, rfl, d, _, rfl, .inl ⟨kvG ps, .inl (p'.1 : Int), .inr ⟨od, e3 _ _ hdL⟩, rfl, hv'.symm⟩, r, _, rfl, .inl ⟨.inl (.inl hl4), fun u nu => ?_⟩⟩
        have sU := al (o := .tup (ints_ (lotF hs n p'.1))) nu
        have il5 : i < 5 := by
          have z := (List.getElem?_eq_some_iff.mp hp').1
          omega
        have ul : us.length ≤ 5 := by
          rw [t3.len, List.length_map, List.length_take]
          omega
        refine ⟨_, sU _ _ hD3, by rw [List.length_map]; exact small1000 (by omega), fun b o hb => ?_, us ++ [u], ?_, ?_⟩
        · rw [upd_ne (ne_of_none hb hD)]
          exact sU _ _ (e3 _ _ hb)
        · rw [upd_same, List.map_append]
          rfl
        · rw [List.take_add_one, List.getElem?_map, hp', List.map_append]
          have hu : upd H4 u (.tup (ints_ (lotF hs n p'.1))) u = some (.tup (ints_ (lotF hs n p'.1))) := upd_same
          have dD : ∀ b xs, upd H4 u (.tup (ints_ (lotF hs n p'.1))) b = some (.tup xs) → upd (upd H4 u (.tup (ints_ (lotF hs n p'.1)))) D (.lst (us.map V.ref ++ [.ref u])) b = some (.tup xs) := fun b xs hb => by
            rw [upd_ne (fun e => by rw [e, sU _ _ hD3] at hb; cases hb)]
            exact hb
          exact ((t3.same sU).mono dD).append (.cons (dD _ _ hu) .nil)
      · obtain ⟨e3, us, hD3, t3⟩ := pv
        have hd3 := e3 _ _ hdL
        refine ⟨hd3, D, _, rfl, .inl ⟨.inl (.inl (by rw [upd_ne (fun e => by rw [e, hd3] at hD3; cases hD3)]; exact hD3)), fun u nu => ?_⟩⟩
        have nud : u ≠ d := fun e => by rw [e, upd_same] at nu; cases nu
        have nu3 : H3 u = none := by rw [upd_ne nud] at nu; exact nu
        have e5 : Same H (upd H3 d (.dK (kvG ps))) := fun b o hb => by
          rw [upd_ne (ne_of_none hb nd)]
          exact e3 _ _ (eL _ _ hb)
        have t5 := (t3.mono (H' := upd H3 d (.dK (kvG ps))) fun b xs hb => by
          rw [upd_ne (fun e => by rw [e, hd3] at hb; cases hb)]
          exact hb)
        rw [kvG_len, show ps.length = (ps.map Prod.fst).length from (List.length_map ..).symm, List.take_length, g.fs] at t5
        have e6 := al (o := .tup (us.map V.ref)) nu
        exact q _ u us (e5.trans e6) (e5.free nu) upd_same (t5.same e6)
end
end K7
end
/-! ## EQV -/
section
/-! x == y by x's own __eq__, y any thing (a number, None, a text too) -/
namespace K7E
open PySem PySem.Spec PyProof.Rows L2
def rEqV (K : PySem.W.Frag) (C : Addr) (sp : Sp) (E : XK) : R2 := fun x y H Q => ∃ (a dx : Addr) (fs : List (Str × V)) (t : Value), x = .ref a ∧ H a = some (.ins C dx fs) ∧ TyX K H y t ∧ PySem.W.notFirst K C t = true ∧ sp [x, y] H Q E
section
variable {X : Cx}
theorem op_eqOwnV {CX : CXT} {C g : Addr} {fd : FuncData} {ps : List Str} {sp : Sp} {E : XK} {n : Nat} (F : FnOk X.prog X.w X.K X.mg X.base CX n g fd ps sp) (hs : PySem.W.findIn X.K (.ref C) "__eq__" = some (some (.ref g))) (hf : PySem.W.isFn X.K (.ref g) = true) (hb : Binds X.K fd ps [])
    (hr : Room n X.A) (hx : Passes CX X E) : OpR X (compareOp .Eq) (rEqV X.K C sp E) := by
  intro pins s σ H x y v u Q I rx ry h
  obtain ⟨a, dx, fs, t, rfl, ha, ty, hn, q⟩ := h
  cases (show v = Value.ref a from rx)
  obtain ⟨mA, J, _⟩ := ins_get I.hok ha
  obtain ⟨od, J, _⟩ := J.look
  obtain ⟨P, Z, hp, hne⟩ := kit_of I ry ty
  obtain ⟨m, hF⟩ := I.fr
  have hl := F.len _ _ _ _ q
  have r2 : Vals [V.ref a, y] [Value.ref a, u] := .cons rfl (.cons ry .nil)
  refine PySem.W.cmp_K (op := .Eq) (tb := t) hr.units0 hF I.ok.mod.kin J (Z.ty _ _ I.kIn hp) hn hs hf ?_
  refine wpAny_mono (wpAny_call (run_fnR (us := [.ref a, u]) (vs := [.ref a, y]) (F.raw hb .nil) hr hx I r2 q)) (fun w s' z => ?_) fun _ _ x => x
  obtain ⟨z', H', I', rz, qz⟩ := z
  exact SlX.cmpback rz ⟨z', H', I', rz, qz⟩
end
end K7E
end
/-! ## P24 -/
section
open PySem PySem.Spec PyProof.Rows L2
namespace K7
abbrev N_State___eq__ : List Str := ["self", "other"]
abbrev s_State___eq__ : Stmt := inClass (topS 30) 1
theorem sc_State___eq__ : FnScope ["self", "other"] ["self", "other"] (defScope s_State___eq__) := ⟨rfl, rfl, rfl, by decide +kernel, rfl, by decide +kernel, by decide +kernel⟩
/-! ### states compared -/
theorem dp_strs {K : PySem.W.Frag} {H : Hp} : ∀ ss : List Str, DpAll K H (ss.map V.str) (ss.map PyData.str)
  | [] => .nil
  | z :: ss => .cons (.str z) (dp_strs ss)
theorem eqv_strs : ∀ ss tt : List Str, PyData.eqvAll (ss.map PyData.str) (tt.map PyData.str) = decide (ss = tt)
  | [], [] => rfl
  | [], _ :: _ => by simp [PyData.eqvAll]
  | _ :: _, [] => by simp [PyData.eqvAll]
  | x :: ss, y :: tt => by
    rw [List.map_cons, List.map_cons, PyData.eqvAll, eqv_strs ss tt]
    by_cases e : x = y
    · subst e
      simp [PyData.eqv]
    · simp [PyData.eqv, e]
theorem wd_ok (k : Nat) : PyData.strOk (wd k) = true := by
  match k with
  | 0 => decide +kernel
  | 1 => decide +kernel
  | 2 => decide +kernel
  | k + 3 =>
    show PyData.strOk "asleep" = true
    decide +kernel
def rowW (r : List Nat) : PyData := .tuple ((r.map wd).map PyData.str)
def tabW (tab : List (List Nat)) : List (List Str) := tab.map fun r => r.map wd
theorem dp_wds {K : PySem.W.Frag} {H : Hp} (row : List Nat) : DpAll K H (wds row) ((row.map wd).map PyData.str) := by
  rw [wds_strs]
  exact dp_strs _
theorem dp_rtt {K : PySem.W.Frag} {H : Hp} {rs : List Addr} {tab : List (List Nat)} (h : RTt H rs tab) : DpAll K H (rs.map V.ref) (tab.map rowW) := by
  induction h with
  | nil => exact .nil
  | cons h _ ih => exact .cons (.tup (.inl (.inl h)) (dp_wds _)) ih
theorem eqv_rowsW : ∀ us vs : List (List Nat), PyData.eqvAll (us.map rowW) (vs.map rowW) = decide (tabW us = tabW vs)
  | [], [] => rfl
  | [], _ :: _ => by simp [PyData.eqvAll, tabW]
  | _ :: _, [] => by simp [PyData.eqvAll, tabW]
  | u :: us, v :: vs => by
    rw [List.map_cons, List.map_cons, PyData.eqvAll, eqv_rowsW us vs]
    unfold rowW
    rw [PyData.eqv, eqv_strs]
    unfold tabW
    by_cases h1 : u.map wd = v.map wd <;> by_cases h2 : (us.map fun r => r.map wd) = (vs.map fun r => r.map wd) <;> simp [h1, h2]
theorem lay_wds (l : List Nat) : PyData.canLayAll0 ((l.map wd).map PyData.str) = true ∧ PyData.depthAll ((l.map wd).map PyData.str) = 0 := by
  induction l with
  | nil => exact ⟨rfl, rfl⟩
  | cons a l ih => exact ⟨by simp only [List.map_cons, PyData.canLayAll0, PyData.canLay0, ih.1, wd_ok]; rfl, by simp only [List.map_cons, PyData.depthAll, PyData.depth, ih.2]; rfl⟩
theorem lay_rowsW (us : List (List Nat)) : PyData.canLayAll0 (us.map rowW) = true ∧ PyData.depthAll (us.map rowW) ≤ 1 := by
  induction us with
  | nil => exact ⟨rfl, Nat.zero_le _⟩
  | cons u us ih =>
    refine ⟨?_, ?_⟩
    · rw [List.map_cons, PyData.canLayAll0, ih.1, Bool.and_true]
      unfold rowW
      rw [PyData.canLay0]
      exact (lay_wds u).1
    · rw [List.map_cons, PyData.depthAll]
      have : PyData.depth (rowW u) = 1 := by unfold rowW; rw [PyData.depth, (lay_wds u).2]
      omega
theorem shaped_rowsW (us : List (List Nat)) : SeqAt.shaped (.tuple (us.map rowW)) = true := by
  obtain ⟨h1, h2⟩ := lay_rowsW us
  show ((PyData.canLay0 (.tuple (us.map rowW))) && decide (PyData.depth (.tuple (us.map rowW)) ≤ 64)) = true
  rw [PyData.canLay0, h1, PyData.depth, decide_eq_true (by omega)]
  rfl
/-- what the top says of states, once more -/
structure Ts (K : PySem.W.Frag) (mg : Str → Option Value) (S fQ : Addr) : Prop where
  g : mg "State" = some (.ref S)
  cl : Cls K S
  nS : ∀ f ∈ sfields, NoAttr K S f
  ha : PySem.W.findIn K (.ref S) "__class__" = some (some (.builtin "object.__class__"))
  hn : PySem.W.specialIn K (.builtin "object.__class__") "__get__" = some (some (.builtin "getset_descriptor.__get__"))
  ht : PySem.W.takesIn K (.builtin "object.__class__") = some true
  hm : PySem.W.mroIn K S (.type "object") = some true
  own : PySem.W.kitOne K (.ref S) (.ref S) = some true
  eq : PySem.W.findIn K (.ref S) "__eq__" = some (some (.ref fQ))
  eqF : PySem.W.isFn K (.ref fQ) = true
  ne : PySem.W.findIn K (.ref S) "__ne__" = some (some (.builtin "object.__ne__"))
  kT : PySem.W.kitOne K (.type "tuple") (.ref S) = some false
  kI : PySem.W.kitOne K (.type "int") (.ref S) = some false
  nfT : PySem.W.notFirst K S (.type "tuple") = true
  nfI : PySem.W.notFirst K S (.type "int") = true
section
variable {P : Program} {w : World} {K : PySem.W.Frag} {mg : Str → Option Value} {base : Heap} {a : AdL} {aST aRI S fE fQ : Addr} {tH : Tok}
/-- two states are equal -/
def eqSt (n : Nat) (es : List (Nat × Nat)) (rd hs : List Nat) (tab : List (List Nat)) (n' : Nat) (es' : List (Nat × Nat)) (rd' hs' : List Nat) (tab' : List (List Nat)) : Bool :=
  decide (n = n' ∧ es = es' ∧ rd = rd') && (decide (lotsF hs n = lotsF hs' n') && decide (tabW tab = tabW tab'))
theorem StateO.ty (TS : Ts K mg S fQ) {C : Addr} {H : Hp} {p l : Addr} {n : Nat} {es : List (Nat × Nat)} {rd hs : List Nat} {tab : List (List Nat)} (W : StateO C S H p l n es rd hs tab) : TyX K H (.ref p) (.ref S) := by
  obtain ⟨dx, th, tt, rs, h1, _⟩ := W.at_
  exact .base (.ins h1 TS.cl TS.ha TS.hn TS.ht TS.hm)
def spEqS (a : AdL) (S : Addr) : Sp := fun vs H Q _ => ∃ (p l : Addr) (n : Nat) (es : List (Nat × Nat)) (rd hs : List Nat) (tab : List (List Nat)) (y : V), vs = [.ref p, y] ∧ StateO a.C S H p l n es rd hs tab ∧
  ((∃ (q l' : Addr) (n' : Nat) (es' : List (Nat × Nat)) (rd' hs' : List Nat) (tab' : List (List Nat)), y = .ref q ∧ StateO a.C S H q l' n' es' rd' hs' tab' ∧ ∀ H', Same H H' → Q (.bl (eqSt n es rd hs tab n' es' rd' hs' tab')) H') ∨
   ((∃ (q : Addr) (xs : List V), y = .ref q ∧ H q = some (.tup xs)) ∨ ∃ i : Int, y = .int i) ∧ Q (.bl false) H)
theorem ok_eqS (T : Tl K mg a) (TS : Ts K mg S fQ) (T2 : Tk K a.C fE) {f fl fLe pr : Addr} {fd fdl fdLe : FuncData} (F : Fun K "__eq__" "State.__eq__" s_State___eq__ f fd) (m_isinstance : mg "isinstance" = none)
    (Gle : FnOk P w K mg base CX0 1 fE fdLe ["self", "other"] (spEqL a.C)) (ble : Binds K fdLe ["self", "other"] [])
    (pl : PropOf K S "lots" pr fl) (Glo : FnOk P w K mg base CX0 1 fl fdl ["self"] (spSLots a S)) (blo : Binds K fdl ["self"] []) : FnOk P w K mg base CX0 3 f fd ["self", "other"] (spEqS a S) := by
  refine F.ok sc_State___eq__ (fun vs H Q E h => ?_) (fun cdv A outer s H vs Q E hr h => ?_)
  · obtain ⟨p, l, n, es, rd, hs, tab, y, rfl, _⟩ := h
    rfl
  · obtain ⟨p, l, n, es, rd, hs, tab, y, rfl, W, h⟩ := h
    refine ⟨_, (pss_one (ps_ret (pe_and (pe_callB call_isi (by rfl) m_isinstance boot_isinstance (pa_cons (pv 1) (pa_cons (pe_glob (v := .ref _) rfl TS.g rfl) pa_nil))) (pe_and (pe_cmpR (K7E.op_eqOwn Gle T2.eq T2.eqF ble (hr.mono (by decide)) pass0) (pe_fld (pv 0) rfl) (pe_fld (pv 1) rfl) (nomark _)) (pe_and (pe_cmpR (op_eqD hr.units) (pe_prop (pv 0) TS.cl pl Glo (hr.mono (by decide)) blo .nil pass0 rfl) (pe_prop (pv 1) TS.cl pl Glo (hr.mono (by decide)) blo .nil pass0 rfl) (nomark _)) (pe_one (pe_cmpR (op_eqD hr.units) (pe_fld (pv 0) rfl) (pe_fld (pv 1) rfl) (nomark _)))))))), ?_⟩
    rcases h with ⟨q, l', n', es', rd', hs', tab', rfl, W', k⟩ | ⟨⟨q, xs, rfl, hq⟩ | ⟨i, rfl⟩, k⟩
    · obtain ⟨dx, th, tt, rs, h1, h2, h3, h4⟩ := W.at_
      obtain ⟨dx', th', tt', rs', g1, g2, g3, g4⟩ := W'.at_
      obtain ⟨dl, an, ar, ay, ac, tn, ty, tc, m1, _⟩ := W.ld.at_
      obtain ⟨dl', an', ar', ay', ac', tn', ty', tc', m1', _⟩ := W'.ld.at_
      refine ⟨_, rfl, _, _, _, _, _, rfl, .own _, W'.ty TS, TS.own, true, rfl, ?_⟩
      refine ⟨.ref p, rfl, p, S, dx, _, _, rfl, h1, TS.cl, TS.nS _ (by decide), rfl, .ref q, rfl, q, S, dx', _, _, rfl, g1, TS.cl, TS.nS _ (by decide), rfl, l, dl, _, l', .ref a.C, rfl, rfl, m1, .base (.ins m1' T.cl T2.ha T2.hn T2.ht T2.hm), nfC K a.C, l, l', n, es, rd, n', es', rd', rfl, W.ld, W'.ld, _, rfl, ?_⟩
      cases c1 : decide (n = n' ∧ es = es' ∧ rd = rd') with
      | false =>
        have z := k _ (Same.refl H)
        unfold eqSt at z
        rw [c1] at z
        exact z
      | true =>
        refine iteT ?_
        refine ⟨.ref p, rfl, p, dx, _, rfl, h1, p, l, n, es, rd, hs, tab, rfl, W, fun H1 u us e1 nu hu tu => ?_⟩
        refine ⟨.ref q, rfl, q, dx', _, rfl, e1 _ _ g1, q, l', n', es', rd', hs', tab', rfl, W'.same e1, fun H2 u' us' e2 nu' hu' tu' => ?_⟩
        refine ⟨_, _, .tup (.inl (.inl (e2 _ _ hu))) (dp_rows (tu.same e2)), .tup (.inl (.inl hu')) (dp_rows tu'), shapedT_rows _, shapedT_rows _, _, rfl, ?_⟩
        have e0 : PyData.eqv (.tuple ((lotsF hs n).map intD)) (.tuple ((lotsF hs' n').map intD)) = decide (lotsF hs n = lotsF hs' n') := by rw [PyData.eqv, eqvAll_rows]
        rw [e0]
        cases c2 : decide (lotsF hs n = lotsF hs' n') with
        | false =>
          have z := k _ (e1.trans e2)
          unfold eqSt at z
          rw [c1, c2] at z
          exact z
        | true =>
          refine iteT ?_
          have e12 := e1.trans e2
          refine ⟨.ref p, rfl, p, S, dx, _, _, rfl, e12 _ _ h1, TS.cl, TS.nS _ (by decide), rfl, .ref q, rfl, q, S, dx', _, _, rfl, e12 _ _ g1, TS.cl, TS.nS _ (by decide), rfl, _, _, .tup (.inl (.inl (e12 _ _ h3))) (dp_rtt (h4.same e12)), .tup (.inl (.inl (e12 _ _ g3))) (dp_rtt (g4.same e12)), shaped_rowsW _, shaped_rowsW _, ?_⟩
          have z := k _ e12
          unfold eqSt at z
          rw [c1, c2] at z
          rw [PyData.eqv, eqv_rowsW]
          exact z
    · exact ⟨_, rfl, _, _, _, _, _, rfl, .own _, .base (.tup hq), TS.kT, false, rfl, k⟩
    · exact ⟨_, rfl, _, _, _, _, _, rfl, .own _, .base (.int i), TS.kI, false, rfl, k⟩
end
end K7
end
/-! ## P25 -/
section
open PySem PySem.Spec PyProof.Rows L2
namespace K7
abbrev N__law_comes : List Str := ["_law_land_here", "_law_cell", "_law_passing_here", "_law_seen", "_law_place", "_law_low", "_law_high"]
abbrev s__law_comes : Stmt := topS 40
theorem sc__law_comes : FnScope ["_law_land_here", "_law_cell", "_law_passing_here", "_law_seen", "_law_place", "_law_low", "_law_high"] ["_law_land_here", "_law_cell", "_law_passing_here"] (defScope s__law_comes) := ⟨rfl, rfl, rfl, by decide +kernel, rfl, by decide +kernel, by decide +kernel⟩
abbrev N__law_open : List Str := ["_law_land_here", "_law_cell", "_law_passing_here", "_law_here"]
abbrev s__law_open : Stmt := topS 41
theorem sc__law_open : FnScope ["_law_land_here", "_law_cell", "_law_passing_here", "_law_here"] ["_law_land_here", "_law_cell", "_law_passing_here"] (defScope s__law_open) := ⟨rfl, rfl, rfl, by decide +kernel, rfl, by decide +kernel, by decide +kernel⟩
/-! ### what the law reaches -/
structure SnOk (n : Nat) (es : List (Nat × Nat)) (ps : List Nat) (c : Nat) (sn : List Nat) : Prop where
  nd : sn.Nodup
  me : c ∈ sn
  lt : ∀ x ∈ sn, x < n
  so : ∀ x ∈ sn, KL.Rch (edge es) ps c x
theorem SnOk.add {n : Nat} {es : List (Nat × Nat)} {ps : List Nat} {c : Nat} {sn : List Nat} (h : SnOk n es ps c sn) {a b : Nat} (ha : a ∈ sn) (e : edge es a b) (hp : b ∈ ps) (hb : b < n) (hn : b ∉ sn) : SnOk n es ps c (sn ++ [b]) := by
  refine ⟨List.nodup_append.mpr ⟨h.nd, List.nodup_cons.mpr ⟨List.not_mem_nil, List.nodup_nil⟩, fun a' ha' b' hb' e => ?_⟩, List.mem_append_left _ h.me, fun x hx => ?_, fun x hx => ?_⟩
  · rw [List.mem_singleton] at hb'
    exact hn (by rw [← hb', ← e]; exact ha')
  · rcases List.mem_append.mp hx with hx | hx
    · exact h.lt x hx
    · rw [List.mem_singleton.mp hx]
      exact hb
  · rcases List.mem_append.mp hx with hx | hx
    · exact h.so x hx
    · rw [List.mem_singleton.mp hx]
      exact .step (h.so a ha) e hp
theorem SnOk.len {n : Nat} {es : List (Nat × Nat)} {ps : List Nat} {c : Nat} {sn : List Nat} (h : SnOk n es ps c sn) : sn.length ≤ n := by
  have z := K7E.nodup_le sn (List.range n) h.nd fun x hx => List.mem_range.mpr (h.lt x hx)
  rw [List.length_range] at z
  exact z
theorem snoc_ints (sn : List Nat) (b : Nat) : ints_ sn ++ [.int (b : Nat)] = ints_ (sn ++ [b]) := by
  unfold ints_
  rw [List.map_append]
  rfl
section
variable {P : Program} {w : World} {K : PySem.W.Frag} {mg : Str → Option Value} {base : Heap}
def spComes : Sp := fun vs H Q _ => ∃ (q : Addr) (n : Nat) (es : List (Nat × Nat)) (lot : List Nat) (c : Nat) (pa : Addr) (ps : List Nat), vs = [.ref q, .int (c : Nat), .ref pa] ∧ LandAt H q n es lot ∧ n ≤ 5 ∧ es.length ≤ 32 ∧ c < n ∧ SqOf H pa (ints_ ps) ∧
  ∀ H' r sn, Same H H' → H r = none → H' r = some (.lst (ints_ sn)) → sn.Nodup → sn.length ≤ 5 → (∀ x, x ∈ sn ↔ KL.Rch (edge es) ps c x) → Q (.ref r) H'
theorem ok_comes {f : Addr} {fd : FuncData} (F : Fun K "_law_comes" "_law_comes" s__law_comes f fd) (m_range : mg "range" = none) (m_len : mg "len" = none) : FnOk P w K mg base CX0 1 f fd ["_law_land_here", "_law_cell", "_law_passing_here"] spComes := by
  refine F.ok sc__law_comes (fun vs H Q E h => ?_) (fun cdv A outer s H vs Q E hr h => ?_)
  · obtain ⟨q, n, es, lot, c, pa, ps, rfl, _⟩ := h
    rfl
  · obtain ⟨q, n, es, lot, c, pa, ps, rfl, L, n5, e32, hc, hpa, k⟩ := h
    refine ⟨_, (pss_cons (ps_set (i := 3) sc__law_comes.nd rfl (by first | exact Or.inl rfl | exact Or.inr rfl) (pe_lst (pa_cons (pv 1) pa_nil)))
 (pss_cons (ps_for PassesOwn.never rfl (pi_range1 rfl m_range (pa_cons (pe_ix ix_tup (pv 0) pe_int (fun _ _ => rfl)) pa_nil)) (pg_name (i := 4) sc__law_comes.nd rfl (by first | exact Or.inl rfl | exact Or.inr rfl))
  (pss_one (ps_if (pt_cmpR op_lt (pv 4) (pe_callB call_len_seq (by rfl) m_len boot_len (pa_cons (pv 3) pa_nil)) (nomark _))
  (pss_one (ps_for PassesOwn.never rfl (pi_list (pe_ix ix_tup (pv 0) pe_int (fun _ _ => rfl))) (pg_tup rfl (pgs_cons (pg_name (i := 5) sc__law_comes.nd rfl (by first | exact Or.inl rfl | exact Or.inr rfl)) (pgs_cons (pg_name (i := 6) sc__law_comes.nd rfl (by first | exact Or.inl rfl | exact Or.inr rfl)) pgs_nil)))
  (Evl.pss_cut (ps_if (pw_and (pt_cmpR op_eq (pv 5) (pe_ix ix_list (pv 3) (pv 4) (fun _ _ => rfl)) (nomark _)) (pw_and (pt_cmpR op_in_seq (pv 6) (pv 2) (by with_unfolding_all rfl)) (pw_and1 (pt_cmpR op_notIn_seq (pv 6) (pv 3) (by with_unfolding_all rfl))))).pt
  (pss_one (ps_expr (pe_bm PySem.F.plainAttrs_list PySem.F.slot_list_append PySem.F.type_list_append mt_append (pv 3) (pa_cons (pv 6) pa_nil))))
  pss_nil)
 (pss_one (ps_if (pw_and (pt_cmpR op_eq (pv 6) (pe_ix ix_list (pv 3) (pv 4) (fun _ _ => rfl)) (nomark _)) (pw_and (pt_cmpR op_in_seq (pv 5) (pv 2) (by with_unfolding_all rfl)) (pw_and1 (pt_cmpR op_notIn_seq (pv 5) (pv 3) (by with_unfolding_all rfl))))).pt
  (pss_one (ps_expr (pe_bm PySem.F.plainAttrs_list PySem.F.slot_list_append PySem.F.type_list_append mt_append (pv 3) (pa_cons (pv 5) pa_nil))))
  pss_nil)))))
  pss_nil)))
 (pss_one (ps_ret (pv 3))))), ?_⟩
    obtain ⟨rA, sA, ts, h1, h2, h3, h4⟩ := L.at_
    have tl : ts.length = es.length := by rw [h3.len]; unfold pairs; rw [List.length_map]
    refine ⟨_, rfl, by show 1 ≤ sizeLine; decide, fun F0 nF => ?_⟩
    have sm : ∀ {H' : Hp}, But F0 H H' → Same H H' := fun b z o hz => b z o (ne_of_none hz nF) hz
    refine ⟨_, rfl, q, _, _, _, rfl, rfl, .inl (.inl (by rw [upd_ne (ne_of_none h1 nF)]; exact h1)), atI_nat (j := 0) rfl, ?_⟩
    refine ⟨_, rfl, by omega, by omega, for_range (lo := 0) (n := n) (fun i τ H' => ∃ (sn : List Nat) (y4 y5 y6 : Option V), τ = [some (.ref q), some (.int (c : Nat)), some (.ref pa), some (.ref F0), y4, y5, y6] ∧ But F0 H H' ∧ H' F0 = some (.lst (ints_ sn)) ∧ SnOk n es ps c sn ∧ ∀ j, j < i → ∀ a, sn[j]? = some a → ∀ b, edge es a b → b ∈ ps → b ∈ sn) ⟨[c], none, none, none, rfl, fun b o nb hb => by rw [upd_ne nb]; exact hb, upd_same, ⟨List.nodup_cons.mpr ⟨List.not_mem_nil, List.nodup_nil⟩, List.mem_singleton.mpr rfl, fun x hx => by rw [List.mem_singleton.mp hx]; exact hc, fun x hx => by rw [List.mem_singleton.mp hx]; exact .base⟩, fun j hj => absurd hj (Nat.not_lt_zero _)⟩ (fun i τ H' hi pv => ?_) (fun τ H' pv => ?_)⟩
    · obtain ⟨sn, y4, y5, y6, rfl, bt, hF, ok, cl⟩ := pv
      refine ⟨_, rfl, _, rfl, F0, _, rfl, .inl (.inl (.inl hF)), _, _, rfl, rfl, _, rfl, ite2 (fun c1 => ?_) (fun c1 => ?_)⟩
      · have c1' : i < sn.length := by
          have z : ((0 : Int) + (i : Nat)) < (((ints_ sn).length : Nat) : Int) := of_decide_eq_true c1
          rw [show (ints_ sn).length = sn.length from List.length_map ..] at z
          omega
        obtain ⟨a, ea⟩ : ∃ a, sn[i]? = some a := ⟨_, List.getElem?_eq_getElem c1'⟩
        have ma := List.mem_of_getElem? ea
        refine ⟨_, rfl, q, _, _, _, rfl, rfl, .inl (.inl (sm bt _ _ h1)), atI_nat (j := 1) rfl, rA, rfl, ⟨_, .inl (.inl (sm bt _ _ h2))⟩, for_list (xs := ts.map V.ref) (fun j τ H2 => ∃ (r : List Nat) (y5 y6 : Option V), τ = [some (.ref q), some (.int (c : Nat)), some (.ref pa), some (.ref F0), some (.int (0 + (i : Nat))), y5, y6] ∧ But F0 H H2 ∧ H2 F0 = some (.lst (ints_ (sn ++ r))) ∧ SnOk n es ps c (sn ++ r) ∧ ∀ e ∈ es.take j, (e.1 = a → e.2 ∈ ps → e.2 ∈ sn ++ r) ∧ (e.2 = a → e.1 ∈ ps → e.1 ∈ sn ++ r)) ⟨[], y5, y6, rfl, bt, by rw [List.append_nil]; exact hF, by rw [List.append_nil]; exact ok, fun e he => by cases he⟩ (fun j τ H2 _ pv => ?_) (fun j x τ H2 hx pv => ?_) (fun τ H2 pv => ?_)⟩
        · obtain ⟨r, y5, y6, _, bt2, _⟩ := pv
          exact .inl (.inl (sm bt2 _ _ h2))
        · obtain ⟨r, y5, y6, rfl, bt2, hF2, ok2, cl2⟩ := pv
          rw [List.getElem?_map] at hx
          obtain ⟨t, ht, rfl⟩ := Option.map_eq_some_iff.mp hx
          obtain ⟨l, el, hl⟩ := h3.get ht
          unfold pairs at el
          rw [List.getElem?_map] at el
          obtain ⟨ab, eab, rfl⟩ := Option.map_eq_some_iff.mp el
          obtain ⟨lo, hi'⟩ := ab
          have mem := List.mem_of_getElem? eab
          obtain ⟨l1, l2⟩ := L.ok.lt _ mem
          have l1 : lo < hi' := l1
          have l2 : hi' < n := l2
          have tk : es.take (j + 1) = es.take j ++ [(lo, hi')] := by rw [List.take_add_one, eab]; rfl
          have ixa : ∀ r : List Nat, atI (ints_ (sn ++ r)) (0 + (i : Nat)) = some (.int (a : Nat)) := fun r => by
            rw [Int.zero_add]
            refine atI_nat ?_
            unfold ints_
            rw [List.getElem?_map, List.getElem?_append_left c1', ea]
            rfl
          refine ⟨t, [.int (lo : Nat), .int (hi' : Nat)], rfl, .inl (.inl (sm bt2 _ _ hl)), rfl, _, _, rfl, _, _, rfl, rfl, ?_⟩
          refine ⟨fun τ' H3 => ∃ r, τ' = [some (.ref q), some (.int (c : Nat)), some (.ref pa), some (.ref F0), some (.int (0 + (i : Nat))), some (.int (lo : Nat)), some (.int (hi' : Nat))] ∧ But F0 H H3 ∧ H3 F0 = some (.lst (ints_ (sn ++ r))) ∧ SnOk n es ps c (sn ++ r) ∧ (∀ e ∈ es.take j, (e.1 = a → e.2 ∈ ps → e.2 ∈ sn ++ r) ∧ (e.2 = a → e.1 ∈ ps → e.1 ∈ sn ++ r)) ∧ (lo = a → hi' ∈ ps → hi' ∈ sn ++ r), ?_, fun τ' H3 hM => ?_⟩
          · refine ⟨_, rfl, _, rfl, _, rfl, F0, _, _, _, rfl, rfl, .inl (.inl hF2), ixa r, rfl, _, rfl, ite2 (fun d1 => ?_) (fun d1 => ?_)⟩
            · have hla : lo = a := by
                have z := of_decide_eq_true d1
                injection z with z
                omega
              refine ⟨_, rfl, _, rfl, pa, _, rfl, (hpa.same (sm bt2)).sq, rfl, flat_ints ps, _, rfl, ite2 (fun d2 => ?_) (fun d2 => ?_)⟩
              · have d2' : hi' ∈ ps := of_decide_eq_true ((inV_ints hi' ps).symm.trans d2)
                refine ⟨_, rfl, _, rfl, F0, _, rfl, .inl (.inl (.inl hF2)), rfl, flat_ints _, _, rfl, ite2 (fun d3 => ?_) (fun d3 => ?_)⟩
                · have d3' : hi' ∉ sn ++ r := fun hb => by
                    have z : (!inV (.int (hi' : Nat)) (ints_ (sn ++ r))) = true := d3
                    rw [inV_ints, decide_eq_true hb] at z
                    cases z
                  have ok3 := ok2.add (a := a) (List.mem_append_left _ ma) (.inl (by rw [← hla]; exact mem)) d2' l2 d3'
                  have len3 := ok2.len
                  refine ⟨_, rfl, .inl ⟨rfl, _, .inl (.inl hF2)⟩, _, rfl, F0, _, _, rfl, rfl, hF2, by unfold ints_; rw [List.length_map]; exact small1000 (by omega), r ++ [hi'], rfl, fun b' o hb' e => by rw [upd_ne hb']; exact bt2 b' o hb' e, by rw [upd_same, snoc_ints, List.append_assoc], by rw [← List.append_assoc]; exact ok3, fun e he => ?_, fun _ _ => ?_⟩
                  · rw [← List.append_assoc]
                    exact ⟨fun x1 x2 => List.mem_append_left _ ((cl2 e he).1 x1 x2), fun x1 x2 => List.mem_append_left _ ((cl2 e he).2 x1 x2)⟩
                  · rw [← List.append_assoc]
                    exact List.mem_append_right _ (List.mem_singleton.mpr rfl)
                · have d3' : hi' ∈ sn ++ r := Classical.byContradiction fun hn => d3 (by
                    show (!inV (.int (hi' : Nat)) (ints_ (sn ++ r))) = true
                    rw [inV_ints, decide_eq_false hn]
                    rfl)
                  exact ⟨r, rfl, bt2, hF2, ok2, cl2, fun _ _ => d3'⟩
              · have d2' : hi' ∉ ps := fun hb => d2 ((inV_ints hi' ps).trans (decide_eq_true hb))
                exact iteF ⟨r, rfl, bt2, hF2, ok2, cl2, fun _ x => absurd x d2'⟩
            · have hla : lo ≠ a := fun e => d1 (decide_eq_true (by rw [e]))
              exact iteF ⟨r, rfl, bt2, hF2, ok2, cl2, fun x _ => absurd x hla⟩
          · obtain ⟨r, rfl, bt2, hF2, ok2, cl2, fst⟩ := hM
            have fin : ∀ r', (∀ e ∈ es.take j, (e.1 = a → e.2 ∈ ps → e.2 ∈ sn ++ r') ∧ (e.2 = a → e.1 ∈ ps → e.1 ∈ sn ++ r')) → (lo = a → hi' ∈ ps → hi' ∈ sn ++ r') → (hi' = a → lo ∈ ps → lo ∈ sn ++ r') → ∀ e ∈ es.take (j + 1), (e.1 = a → e.2 ∈ ps → e.2 ∈ sn ++ r') ∧ (e.2 = a → e.1 ∈ ps → e.1 ∈ sn ++ r') := fun r' z1 z2 z3 e he => by
              rw [tk] at he
              rcases List.mem_append.mp he with he | he
              · exact z1 e he
              · rw [List.mem_singleton.mp he]
                exact ⟨z2, z3⟩
            refine ⟨_, rfl, _, rfl, _, rfl, F0, _, _, _, rfl, rfl, .inl (.inl hF2), ixa r, rfl, _, rfl, ite2 (fun d1 => ?_) (fun d1 => ?_)⟩
            · have hla : hi' = a := by
                have z := of_decide_eq_true d1
                injection z with z
                omega
              refine ⟨_, rfl, _, rfl, pa, _, rfl, (hpa.same (sm bt2)).sq, rfl, flat_ints ps, _, rfl, ite2 (fun d2 => ?_) (fun d2 => ?_)⟩
              · have d2' : lo ∈ ps := of_decide_eq_true ((inV_ints lo ps).symm.trans d2)
                refine ⟨_, rfl, _, rfl, F0, _, rfl, .inl (.inl (.inl hF2)), rfl, flat_ints _, _, rfl, ite2 (fun d3 => ?_) (fun d3 => ?_)⟩
                · have d3' : lo ∉ sn ++ r := fun hb => by
                    have z : (!inV (.int (lo : Nat)) (ints_ (sn ++ r))) = true := d3
                    rw [inV_ints, decide_eq_true hb] at z
                    cases z
                  have ok3 := ok2.add (a := a) (List.mem_append_left _ ma) (.inr (by rw [← hla]; exact mem)) d2' (by omega) d3'
                  have len3 := ok2.len
                  refine ⟨_, rfl, .inl ⟨rfl, _, .inl (.inl hF2)⟩, _, rfl, F0, _, _, rfl, rfl, hF2, by unfold ints_; rw [List.length_map]; exact small1000 (by omega), r ++ [lo], _, _, rfl, fun b' o hb' e => by rw [upd_ne hb']; exact bt2 b' o hb' e, by rw [upd_same, snoc_ints, List.append_assoc], by rw [← List.append_assoc]; exact ok3, fin _ (fun e he => ?_) (fun x1 x2 => ?_) (fun _ _ => ?_)⟩
                  · rw [← List.append_assoc]
                    exact ⟨fun x1 x2 => List.mem_append_left _ ((cl2 e he).1 x1 x2), fun x1 x2 => List.mem_append_left _ ((cl2 e he).2 x1 x2)⟩
                  · rw [← List.append_assoc]
                    exact List.mem_append_left _ (fst x1 x2)
                  · rw [← List.append_assoc]
                    exact List.mem_append_right _ (List.mem_singleton.mpr rfl)
                · have d3' : lo ∈ sn ++ r := Classical.byContradiction fun hn => d3 (by
                    show (!inV (.int (lo : Nat)) (ints_ (sn ++ r))) = true
                    rw [inV_ints, decide_eq_false hn]
                    rfl)
                  exact ⟨r, _, _, rfl, bt2, hF2, ok2, fin r cl2 fst fun _ _ => d3'⟩
              · have d2' : lo ∉ ps := fun hb => d2 ((inV_ints lo ps).trans (decide_eq_true hb))
                exact iteF ⟨r, _, _, rfl, bt2, hF2, ok2, fin r cl2 fst fun _ x => absurd x d2'⟩
            · have hla : hi' ≠ a := fun e => d1 (decide_eq_true (by rw [e]))
              exact iteF ⟨r, _, _, rfl, bt2, hF2, ok2, fin r cl2 fst fun x _ => absurd x hla⟩
        · obtain ⟨r, y5, y6, rfl, bt2, hF2, ok2, cl2⟩ := pv
          rw [List.length_map, tl, List.take_length] at cl2
          refine ⟨sn ++ r, _, y5, y6, rfl, bt2, hF2, ok2, fun j hj a' ea' b he hp => ?_⟩
          rw [List.getElem?_append_left (by omega)] at ea'
          rcases Nat.lt_or_ge j i with lt | ge
          · exact List.mem_append_left _ (cl j lt a' ea' b he hp)
          · obtain rfl : j = i := by omega
            rw [ea] at ea'
            obtain rfl := Option.some.inj ea'
            rcases he with he | he
            · exact (cl2 _ he).1 rfl hp
            · exact (cl2 _ he).2 rfl hp
      · have c1' : sn.length ≤ i := by
          refine Nat.not_lt.mp fun z => c1 (decide_eq_true ?_)
          rw [show (ints_ sn).length = sn.length from List.length_map ..]
          omega
        refine ⟨sn, _, y5, y6, rfl, bt, hF, ok, fun j hj a ea => ?_⟩
        have z := (List.getElem?_eq_some_iff.mp ea).1
        exact cl j (by omega) a ea
    · obtain ⟨sn, y4, y5, y6, rfl, bt, hF, ok, cl⟩ := pv
      have len := ok.len
      refine ⟨_, rfl, k H' F0 sn (sm bt) nF hF ok.nd (by omega) fun x => ⟨ok.so x, fun h => KL.Rch.mem h ok.me fun a b ha e hp => ?_⟩⟩
      obtain ⟨j, hj, e2⟩ := List.getElem_of_mem ha
      exact cl j (by omega) a (by rw [List.getElem?_eq_getElem hj, e2]) b e hp
end
theorem filter_take {p : Nat → Bool} {l : List Nat} {j b : Nat} (h : l[j]? = some b) : (l.take (j + 1)).filter p = (l.take j).filter p ++ (if p b = true then [b] else []) := by
  rw [List.take_add_one, h, List.filter_append]
  show _ ++ ([b].filter p) = _
  rw [List.filter_cons]
  rfl
section
variable {P : Program} {w : World} {K : PySem.W.Frag} {mg : Str → Option Value} {base : Heap}
/-! _law_open -/
def spLOpen : Sp := fun vs H Q _ => ∃ (q : Addr) (n : Nat) (es : List (Nat × Nat)) (lot : List Nat) (c : Nat) (pa : Addr) (ps : List Nat), vs = [.ref q, .int (c : Nat), .ref pa] ∧ LandAt H q n es lot ∧ n ≤ 5 ∧ es.length ≤ 32 ∧ c < n ∧ SqOf H pa (ints_ ps) ∧
  ∀ H' b, Same H H' → (b = true ↔ OpenV es lot ps c) → Q (.bl b) H'
theorem LandAt.same {H H' : Hp} {q : Addr} {n : Nat} {es : List (Nat × Nat)} {lot : List Nat} (h : LandAt H q n es lot) (e : Same H H') : LandAt H' q n es lot := by
  obtain ⟨rA, sA, ts, h1, h2, h3, h4⟩ := h.at_
  exact ⟨⟨rA, sA, ts, e _ _ h1, e _ _ h2, h3.same e, e _ _ h4⟩, h.ok, h.lot⟩
theorem ok_lopen {f fC : Addr} {fd fdC : FuncData} (F : Fun K "_law_open" "_law_open" s__law_open f fd)
    (Glc : FnOk P w K mg base CX0 1 fC fdC ["_law_land_here", "_law_cell", "_law_passing_here"] spComes) (glc : mg "_law_comes" = some (.ref fC)) (klc : PySem.W.keepIn K (.ref fC) = true) (blc : Binds K fdC ["_law_land_here", "_law_cell", "_law_passing_here"] [])
    (m_len : mg "len" = none) : FnOk P w K mg base CX0 2 f fd ["_law_land_here", "_law_cell", "_law_passing_here"] spLOpen := by
  refine F.ok sc__law_open (fun vs H Q E h => ?_) (fun cdv A outer s H vs Q E hr h => ?_)
  · obtain ⟨q, n, es, lot, c, pa, ps, rfl, _⟩ := h
    rfl
  · obtain ⟨q, n, es, lot, c, pa, ps, rfl, L, n5, e32, hc, hpa, k⟩ := h
    refine ⟨_, (pss_one (ps_ret (pe_cmpR op_gt (pe_callB call_len_seq (by rfl) m_len boot_len (pa_cons (pe_lc (own := [("_law_here", 3)]) (g := gName 3) rfl sc__law_open.nd (pi_list (pe_call Glc (hr.mono (by decide)) (by rfl) glc klc blc .nil pass0 (pa_cons (pv 0) (pa_cons (pv 1) (pa_cons (pv 2) pa_nil))))) (blkOk_by (own := [("_law_here", 3)]) (N := N__law_open) (sc := defScope s__law_open) (by decide +kernel)) (fun _ _ _ _ _ => (pg_name (i := 3) sc__law_open.nd rfl (by first | exact Or.inl rfl | exact Or.inr rfl))) (fun _ _ _ _ _ => (pts_one (pt_cmpR (show OpR _ _ (rIn K false) from op_in_seq) (pv 3) (pe_ix (show IxR _ (rIxT K) from ix_tup) (pv 0) pe_int (fun _ _ => rfl)) (by with_unfolding_all rfl)))) (fun _ _ _ _ _ => (pv 3))) pa_nil)) pe_int (nomark _)))), ?_⟩
    refine ⟨_, rfl, _, rfl, _, rfl, q, n, es, lot, c, pa, ps, rfl, L, n5, e32, hc, hpa, fun H1 r sn e1 nr hr1 nd l5 iff => ?_⟩
    obtain ⟨rA, sA, ts, h1, h2, h3, h4⟩ := (L.same e1).at_
    refine ⟨r, rfl, ⟨_, .inl (.inl hr1)⟩, fun D hD => lc_list (xs := ints_ sn) (fun j H2 => Same H1 H2 ∧ H2 D = some (.lst (ints_ ((sn.take j).filter fun b => decide (b ∈ lot))))) ⟨same_new (Same.refl H1) hD, upd_same⟩ (fun j H2 _ pv => .inl (.inl (pv.1 _ _ hr1))) (fun j x H2 hx pv => ?_) (fun H2 pv => ?_)⟩
    · obtain ⟨e2, hD2⟩ := pv
      unfold ints_ at hx
      rw [List.getElem?_map] at hx
      obtain ⟨b, hb, rfl⟩ := Option.map_eq_some_iff.mp hx
      refine ⟨rfl, _, rfl, _, rfl, q, _, _, _, rfl, rfl, .inl (.inl (e2 _ _ h1)), atI_nat (j := 2) rfl, ?_⟩
      refine ⟨sA, _, rfl, .inl (.inl (.inl (e2 _ _ h4))), rfl, flat_ints lot, _, rfl, ?_⟩
      rw [show inV (.int (b : Nat)) (ints_ lot) = decide (b ∈ lot) from inV_ints b lot]
      have ft := filter_take (p := fun b => decide (b ∈ lot)) hb
      by_cases hm : b ∈ lot
      · rw [decide_eq_true hm] at ft ⊢
        rw [if_pos rfl] at ft
        refine iteT ⟨_, rfl, _, hD2, by unfold ints_; rw [List.length_map]; exact small1000 (Nat.le_trans (List.length_filter_le _ _) (by rw [List.length_take]; omega)), fun b o hb => ?_, ?_⟩
        · rw [upd_ne (ne_of_none hb hD)]
          exact e2 _ _ hb
        · rw [upd_same, ft, ints_snoc]
      · rw [decide_eq_false hm] at ft ⊢
        rw [if_neg (by decide), List.append_nil] at ft
        refine iteF ⟨e2, ?_⟩
        rw [ft]
        exact hD2
    · obtain ⟨e2, hD2⟩ := pv
      rw [show (ints_ sn).length = sn.length from List.length_map .., List.take_length] at hD2
      refine ⟨D, _, rfl, .inl (.inl (.inl hD2)), _, _, rfl, rfl, k _ _ (e1.trans e2) ?_⟩
      rw [decide_eq_true_eq]
      constructor
      · intro h
        have h : (0 : Int) < (((ints_ (sn.filter fun b => decide (b ∈ lot))).length : Nat) : Int) := h
        rw [show (ints_ (sn.filter fun b => decide (b ∈ lot))).length = (sn.filter fun b => decide (b ∈ lot)).length from List.length_map ..] at h
        have hp : 0 < (sn.filter fun b => decide (b ∈ lot)).length := by omega
        obtain ⟨x, hx⟩ := List.exists_mem_of_length_pos hp
        obtain ⟨x1, x2⟩ := List.mem_filter.mp hx
        exact ⟨x, of_decide_eq_true x2, (iff x).mp x1⟩
      · rintro ⟨x, x1, x2⟩
        have hp : 0 < (sn.filter fun b => decide (b ∈ lot)).length := List.length_pos_of_mem (List.mem_filter.mpr ⟨(iff x).mpr x2, decide_eq_true x1⟩)
        show (0 : Int) < (((ints_ (sn.filter fun b => decide (b ∈ lot))).length : Nat) : Int)
        rw [show (ints_ (sn.filter fun b => decide (b ∈ lot))).length = (sn.filter fun b => decide (b ∈ lot)).length from List.length_map ..]
        omega
end
end K7
end
/-! ## P26 -/
section
open PySem PySem.Spec PyProof.Rows L2
namespace K7
abbrev N__law_is : List Str := ["_law_one", "_law_other", "_law_k"]
abbrev s__law_is : Stmt := topS 52
theorem sc__law_is : FnScope ["_law_one", "_law_other", "_law_k"] ["_law_one", "_law_other"] (defScope s__law_is) := ⟨rfl, rfl, rfl, by decide +kernel, rfl, by decide +kernel, by decide +kernel⟩
/-! ### what the law compares -/
/-- one thing twice: flat, or tuples of such things -/
def IsV (H : Hp) : Nat → V → V → Prop
  | 0, _, _ => False
  | d + 1, x, y => (flatV x = true ∧ y = x) ∨ ∃ p q xs ys, x = .ref p ∧ y = .ref q ∧ H p = some (.tup xs) ∧ H q = some (.tup ys) ∧ xs.length = ys.length ∧ xs.length ≤ 1000 ∧ ∀ (i : Nat) x' y', xs[i]? = some x' → ys[i]? = some y' → IsV H d x' y'
theorem IsV.same {H H' : Hp} (e : Same H H') : ∀ {d : Nat} {x y : V}, IsV H d x y → IsV H' d x y
  | 0, _, _, h => h
  | d + 1, x, y, h => by
    rcases h with h | ⟨p, q, xs, ys, rfl, rfl, hp, hq, hl, h1, h2⟩
    · exact .inl h
    · exact .inr ⟨p, q, xs, ys, rfl, rfl, e _ _ hp, e _ _ hq, hl, h1, fun i x' y' hx hy => (h2 i x' y' hx hy).same e⟩
section
variable {P : Program} {w : World} {K : PySem.W.Frag} {mg : Str → Option Value} {base : Heap}
def spIs (d : Nat) : Sp := fun vs H Q _ => ∃ x y, vs = [x, y] ∧ IsV H d x y ∧ ∀ H', Same H H' → Q (.bl true) H'
theorem ok_is {f : Addr} {fd : FuncData} (F : Fun K "_law_is" "_law_is" s__law_is f fd) (gis : mg "_law_is" = some (.ref f)) (kis : PySem.W.keepIn K (.ref f) = true) (bis : Binds K fd ["_law_one", "_law_other"] [])
    (m_isinstance : mg "isinstance" = none) (m_tuple : mg "tuple" = none) (m_len : mg "len" = none) (m_str : mg "str" = none) (m_bool : mg "bool" = none) (m_int : mg "int" = none) (m_range : mg "range" = none) : ∀ d, FnOk P w K mg base CX0 d f fd ["_law_one", "_law_other"] (spIs d)
  | 0 => ⟨fun vs H Q E h => by obtain ⟨x, y, rfl, _⟩ := h; rfl, fun A outer s H args us vs Q E hr he hb hv h => by obtain ⟨x, y, _, h, _⟩ := h; exact h.elim⟩
  | d + 1 => by
    have Gis := ok_is F gis kis bis m_isinstance m_tuple m_len m_str m_bool m_int m_range d
    refine F.ok sc__law_is (fun vs H Q E h => ?_) (fun cdv A outer s H vs Q E hr h => ?_)
    · obtain ⟨x, y, rfl, _⟩ := h
      rfl
    · obtain ⟨x, y, rfl, h, q⟩ := h
      refine ⟨_, (pss_cons (ps_if (pt_val (pe_callB call_isi (by rfl) m_isinstance boot_isinstance (pa_cons (pv 1) (pa_cons (pe_bltn (v := .ty "tuple") (by rfl) m_tuple boot_tuple rfl) pa_nil))))
  (pss_cons (ps_if (pw_or (pt_not (pt_val (pe_callB call_isi (by rfl) m_isinstance boot_isinstance (pa_cons (pv 0) (pa_cons (pe_bltn (v := .ty "tuple") (by rfl) m_tuple boot_tuple rfl) pa_nil))))) (pw_or1 (pt_cmpR op_ne (pe_callB call_len_seq (by rfl) m_len boot_len (pa_cons (pv 0) pa_nil)) (pe_callB call_len_seq (by rfl) m_len boot_len (pa_cons (pv 1) pa_nil)) (nomark _)))).pt
  (pss_one (ps_ret pe_bl))
  pss_nil)
 (pss_one (ps_ret (pe_cmpR (op_eqD hr.units) (pe_lc (own := [("_law_k", 2)]) (g := gName 2) rfl sc__law_is.nd (pi_range1 rfl m_range (pa_cons (pe_callB call_len_seq (by rfl) m_len boot_len (pa_cons (pv 1) pa_nil)) pa_nil)) (blkOk_by (own := [("_law_k", 2)]) (N := N__law_is) (sc := defScope s__law_is) (by decide +kernel)) (fun _ _ _ _ _ => (pg_name (i := 2) sc__law_is.nd rfl (by first | exact Or.inl rfl | exact Or.inr rfl))) (fun _ _ _ _ _ => (pts_one (pt_not (pt_val (pe_call Gis hr (by rfl) gis kis bis .nil pass0 (pa_cons (pe_ix (show IxR _ (rIxT K) from ix_tup) (pv 0) (pv 2) (fun _ _ => rfl)) (pa_cons (pe_ix (show IxR _ (rIxT K) from ix_tup) (pv 1) (pv 2) (fun _ _ => rfl)) pa_nil))))))) (fun _ _ _ _ _ => (pv 2))) (pe_lst pa_nil) (nomark _)))))
  pss_nil)
 (pss_cons (ps_if (pt_val (pe_callB call_isi (by rfl) m_isinstance boot_isinstance (pa_cons (pv 1) (pa_cons (pe_bltn (v := .ty "str") (by rfl) m_str boot_str rfl) pa_nil))))
  (pss_one (ps_ret (pe_and (pe_callB call_isi (by rfl) m_isinstance boot_isinstance (pa_cons (pv 0) (pa_cons (pe_bltn (v := .ty "str") (by rfl) m_str boot_str rfl) pa_nil))) (pe_one (pe_cmpR op_eq (pv 0) (pv 1) (nomark _))))))
  pss_nil)
 (pss_cons (ps_if (pt_val (pe_callB call_isi (by rfl) m_isinstance boot_isinstance (pa_cons (pv 1) (pa_cons (pe_bltn (v := .ty "bool") (by rfl) m_bool boot_bool rfl) pa_nil))))
  (pss_one (ps_ret (pe_and (pe_callB call_isi (by rfl) m_isinstance boot_isinstance (pa_cons (pv 0) (pa_cons (pe_bltn (v := .ty "bool") (by rfl) m_bool boot_bool rfl) pa_nil))) (pe_one (pe_cmpR op_eq (pv 0) (pv 1) (nomark _))))))
  pss_nil)
 (pss_cons (ps_if (pt_cmpR op_isN (pv 1) pe_non (nomark _))
  (pss_one (ps_ret (pe_cmpR op_isN (pv 0) pe_non (nomark _))))
  pss_nil)
 (pss_one (ps_ret (pe_and (pe_callB call_isi (by rfl) m_isinstance boot_isinstance (pa_cons (pv 0) (pa_cons (pe_bltn (v := .ty "int") (by rfl) m_int boot_int rfl) pa_nil))) (pe_and (pe_not (pe_callB call_isi (by rfl) m_isinstance boot_isinstance (pa_cons (pv 0) (pa_cons (pe_bltn (v := .ty "bool") (by rfl) m_bool boot_bool rfl) pa_nil)))) (pe_one (pe_cmpR op_eq (pv 0) (pv 1) (nomark _))))))))))), ?_⟩
      rcases h with ⟨fx, rfl⟩ | ⟨p, r, xs, ys, rfl, rfl, hp, hr', hl, h1, h2⟩
      · have q0 := q _ (Same.refl H)
        have dd : ∀ v : V, decide (v = v) = true := fun v => decide_eq_true rfl
        cases y with
        | non =>
          refine ⟨_, rfl, _, _, _, _, _, rfl, .ty _, .base .non, kit_ty (r := false) (by decide +kernel), _, rfl, iteF ?_⟩
          refine ⟨_, rfl, _, _, _, _, _, rfl, .ty _, .base .non, kit_ty (r := false) (by decide +kernel), _, rfl, iteF ?_⟩
          refine ⟨_, rfl, _, _, _, _, _, rfl, .ty _, .base .non, kit_ty (r := false) (by decide +kernel), _, rfl, iteF ?_⟩
          exact ⟨_, rfl, rfl, _, rfl, iteT ⟨_, rfl, rfl, q0⟩⟩
        | bl b =>
          refine ⟨_, rfl, _, _, _, _, _, rfl, .ty _, .base (.bl b), kit_ty (r := false) (by decide +kernel), _, rfl, iteF ?_⟩
          refine ⟨_, rfl, _, _, _, _, _, rfl, .ty _, .base (.bl b), kit_ty (r := false) (by decide +kernel), _, rfl, iteF ?_⟩
          refine ⟨_, rfl, _, _, _, _, _, rfl, .ty _, .base (.bl b), kit_ty (r := true) (by decide +kernel), _, rfl, iteT ?_⟩
          refine ⟨_, rfl, _, _, _, _, _, rfl, .ty _, .base (.bl b), kit_ty (r := true) (by decide +kernel), _, rfl, iteT ⟨_, rfl, _, rfl, rfl, ?_⟩⟩
          rw [dd]
          exact q0
        | int i =>
          refine ⟨_, rfl, _, _, _, _, _, rfl, .ty _, .base (.int i), kit_ty (r := false) (by decide +kernel), _, rfl, iteF ?_⟩
          refine ⟨_, rfl, _, _, _, _, _, rfl, .ty _, .base (.int i), kit_ty (r := false) (by decide +kernel), _, rfl, iteF ?_⟩
          refine ⟨_, rfl, _, _, _, _, _, rfl, .ty _, .base (.int i), kit_ty (r := false) (by decide +kernel), _, rfl, iteF ?_⟩
          refine ⟨_, rfl, rfl, _, rfl, iteF ?_⟩
          refine ⟨_, rfl, _, _, _, _, _, rfl, .ty _, .base (.int i), kit_ty (r := true) (by decide +kernel), _, rfl, iteT ?_⟩
          refine ⟨_, rfl, _, _, _, _, _, rfl, .ty _, .base (.int i), kit_ty (r := false) (by decide +kernel), _, rfl, _, rfl, iteT ⟨_, rfl, _, rfl, rfl, ?_⟩⟩
          rw [dd]
          exact q0
        | str z =>
          refine ⟨_, rfl, _, _, _, _, _, rfl, .ty _, .base (.str z), kit_ty (r := false) (by decide +kernel), _, rfl, iteF ?_⟩
          refine ⟨_, rfl, _, _, _, _, _, rfl, .ty _, .base (.str z), kit_ty (r := true) (by decide +kernel), _, rfl, iteT ?_⟩
          refine ⟨_, rfl, _, _, _, _, _, rfl, .ty _, .base (.str z), kit_ty (r := true) (by decide +kernel), _, rfl, iteT ⟨_, rfl, _, rfl, rfl, ?_⟩⟩
          rw [dd]
          exact q0
        | _ => exact Bool.noConfusion (show false = true from fx)
      · refine ⟨_, rfl, _, _, _, _, _, rfl, .ty _, .base (.tup hr'), kit_ty (r := true) (by decide +kernel), _, rfl, iteT ?_⟩
        refine ⟨_, rfl, _, _, _, _, _, rfl, .ty _, .base (.tup hp), kit_ty (r := true) (by decide +kernel), _, rfl, iteF ?_⟩
        refine ⟨_, rfl, p, _, rfl, .inr (.inl (.inl hp)), _, rfl, r, _, rfl, .inr (.inl (.inl hr')), rfl, _, rfl, ?_⟩
        rw [hl, decide_eq_true rfl]
        refine iteF ?_
        refine ⟨_, rfl, r, _, rfl, .inr (.inl (.inl hr')), _, rfl, by omega, by omega, fun D hD => lc_range (lo := 0) (n := ys.length) (fun i H2 => Same H H2 ∧ H2 D = some (.lst [])) ⟨al hD, upd_same⟩ (fun i H2 hi pv => ?_) (fun H2 pv => ?_)⟩
        · obtain ⟨e2, hD2⟩ := pv
          have hx := List.getElem?_eq_getElem (l := xs) (i := i) (by omega)
          have hy := List.getElem?_eq_getElem (l := ys) (i := i) hi
          rw [show (0 : Int) + ((i : Nat) : Int) = (i : Nat) from Int.zero_add _]
          exact ⟨rfl, _, rfl, _, rfl, p, _, _, _, rfl, rfl, .inl (.inl (e2 _ _ hp)), atI_nat hx, _, rfl, _, rfl, r, _, _, _, rfl, rfl, .inl (.inl (e2 _ _ hr')), atI_nat hy, _, _, rfl, (h2 i _ _ hx hy).same e2, fun H3 e3 => ⟨_, rfl, iteF ⟨e2.trans e3, e3 _ _ hD2⟩⟩⟩
        · obtain ⟨e2, hD2⟩ := pv
          refine ⟨by show 0 ≤ sizeLine; decide, fun u nu => ?_⟩
          have e3 := al (o := .lst []) nu
          refine ⟨.list [], .list [], .lst (.inl (.inl (e3 _ _ hD2))) .nil, .lst (.inl (.inl upd_same)) .nil, by decide +kernel, by decide +kernel, ?_⟩
          rw [show PyData.eqv (.list []) (.list []) = true by decide +kernel]
          exact q _ (e2.trans e3)
end
end K7
end
/-! ## P27 -/
section
open PySem PySem.Spec PyProof.Rows L2
namespace K7
abbrev N__law_own : List Str := ["_law_state", "_law_a", "_law_b"]
abbrev s__law_own : Stmt := topS 43
theorem sc__law_own : FnScope ["_law_state", "_law_a", "_law_b"] ["_law_state", "_law_a"] (defScope s__law_own) := ⟨rfl, rfl, rfl, by decide +kernel, rfl, by decide +kernel, by decide +kernel⟩
abbrev N__law_passing : List Str := ["_law_state", "_law_a", "_law_n", "_law_b"]
abbrev s__law_passing : Stmt := topS 44
theorem sc__law_passing : FnScope ["_law_state", "_law_a", "_law_n", "_law_b"] ["_law_state", "_law_a"] (defScope s__law_passing) := ⟨rfl, rfl, rfl, by decide +kernel, rfl, by decide +kernel, by decide +kernel⟩
abbrev N__law_shut : List Str := ["_law_land_here", "_law_state", "_law_a"]
abbrev s__law_shut : Stmt := topS 45
theorem sc__law_shut : FnScope ["_law_land_here", "_law_state", "_law_a"] ["_law_land_here", "_law_state"] (defScope s__law_shut) := ⟨rfl, rfl, rfl, by decide +kernel, rfl, by decide +kernel, by decide +kernel⟩
abbrev N__law_rows : List Str := ["_law_table_here", "_law_row"]
abbrev s__law_rows : Stmt := topS 51
theorem sc__law_rows : FnScope ["_law_table_here", "_law_row"] ["_law_table_here"] (defScope s__law_rows) := ⟨rfl, rfl, rfl, by decide +kernel, rfl, by decide +kernel, by decide +kernel⟩
abbrev N__law_parts : List Str := ["_law_hands", "_law_lots_here", "_law_a", "_law_b"]
abbrev s__law_parts : Stmt := topS 53
theorem sc__law_parts : FnScope ["_law_hands", "_law_lots_here", "_law_a", "_law_b"] ["_law_hands"] (defScope s__law_parts) := ⟨rfl, rfl, rfl, by decide +kernel, rfl, by decide +kernel, by decide +kernel⟩
/-! ### the law's own states -/
/-- rows of words, lists -/
inductive RLs (H : Hp) : List Addr → List (List Nat) → Prop
  | nil : RLs H [] []
  | cons {r : Addr} {row : List Nat} {rs : List Addr} {tab : List (List Nat)} : H r = some (.lst (wds row)) → RLs H rs tab → RLs H (r :: rs) (row :: tab)
theorem RLs.mono {H H' : Hp} {rs : List Addr} {tab : List (List Nat)} (h : RLs H rs tab) (i : ∀ b (row : List Nat), H b = some (.lst (wds row)) → H' b = some (.lst (wds row))) : RLs H' rs tab := by
  induction h with
  | nil => exact .nil
  | cons h _ ih => exact .cons (i _ _ h) ih
theorem RLs.same {H H' : Hp} {rs : List Addr} {tab : List (List Nat)} (h : RLs H rs tab) (e : Same H H') : RLs H' rs tab := h.mono fun b row hb => e _ _ hb
theorem RLs.append {H : Hp} {us vs : List Addr} {xs ys : List (List Nat)} (h : RLs H us xs) (h' : RLs H vs ys) : RLs H (us ++ vs) (xs ++ ys) := by
  induction h with
  | nil => exact h'
  | cons h _ ih => exact .cons h ih
theorem RLs.len {H : Hp} {rs : List Addr} {tab : List (List Nat)} (h : RLs H rs tab) : rs.length = tab.length := by
  induction h with
  | nil => rfl
  | cons _ _ ih => rw [List.length_cons, List.length_cons, ih]
theorem RLs.rat {H : Hp} {rs : List Addr} {tab : List (List Nat)} (h : RLs H rs tab) : RAt H rs tab := by
  induction h with
  | nil => exact .nil
  | cons h _ ih => exact .cons (.inr h) ih
theorem RLt.rls {R : Addr} {H : Hp} {rs : List Addr} {tab : List (List Nat)} (h : RLt R H rs tab) : RLs H rs tab := by
  induction h with
  | nil => exact .nil
  | cons h _ _ ih => exact .cons h ih
theorem RLs.get {H : Hp} {rs : List Addr} {tab : List (List Nat)} (h : RLs H rs tab) : ∀ {i : Nat} {r : Addr}, rs[i]? = some r → ∃ row, tab[i]? = some row ∧ H r = some (.lst (wds row)) := by
  induction h with
  | nil => exact fun h => nomatch h
  | cons h _ ih =>
    intro i u hu
    cases i with
    | zero =>
      obtain rfl := Option.some.inj hu
      exact ⟨_, rfl, h⟩
    | succ i => exact ih (i := i) hu
/-- a drawn state: a tuple of hands and of rows -/
structure ASt (H : Hp) (s : Addr) (n : Nat) (hs : List Nat) (tab : List (List Nat)) : Prop where
  at_ : ∃ th tt rs, H s = some (.tup [.ref th, .ref tt]) ∧ H th = some (.lst (ints_ hs)) ∧ H tt = some (.lst (rs.map V.ref)) ∧ RLs H rs tab
  st : StTab n hs tab
theorem ASt.same {H H' : Hp} {s : Addr} {n : Nat} {hs : List Nat} {tab : List (List Nat)} (h : ASt H s n hs tab) (e : Same H H') : ASt H' s n hs tab := by
  obtain ⟨th, tt, rs, h1, h2, h3, h4⟩ := h.at_
  exact ⟨⟨th, tt, rs, e _ _ h1, e _ _ h2, e _ _ h3, h4.same e⟩, h.st⟩
theorem ASt.stay {h0 c0 : Addr} {H H' : Hp} {s : Addr} {n : Nat} {hs : List Nat} {tab : List (List Nat)} (h : ASt H s n hs tab) (x : Stay h0 c0 H H') : ASt H' s n hs tab := by
  obtain ⟨th, tt, rs, h1, h2, h3, h4⟩ := h.at_
  exact ⟨⟨th, tt, rs, x.tup h1, x.lst h2 (notHand_ints _), x.lst h3 (notHand_refs _), h4.mono fun b row hb => x.wds hb⟩, h.st⟩
theorem RLs.row {n : Nat} {hs : List Nat} {tab : List (List Nat)} {rs : List Addr} {H : Hp} (S : StTab n hs tab) (hR : RLs H rs tab) {x : Nat} (hx : x < n) : ∃ r row, (rs.map V.ref)[x]? = some (.ref r) ∧ H r = some (.lst (wds row)) ∧ row.length = n ∧ tab.getD x [] = row ∧ ∀ y, y < n → (wds row)[y]? = some (.str (wd (tabAt tab x y))) ∧ row.getD y 0 = tabAt tab x y := by
  have lr : x < rs.length := by rw [hR.len, S.tl]; exact hx
  obtain ⟨r, hr⟩ : ∃ r, rs[x]? = some r := ⟨_, List.getElem?_eq_getElem lr⟩
  obtain ⟨row, h1, h2⟩ := hR.get hr
  have hl := S.rl row (List.mem_of_getElem? h1)
  have eg : tab.getD x [] = row := by rw [List.getD_eq_getElem?_getD, h1]; rfl
  refine ⟨r, row, by rw [List.getElem?_map, hr]; rfl, h2, hl, eg, fun y hy => ⟨?_, by unfold tabAt; rw [eg]⟩⟩
  unfold wds tabAt
  rw [eg, List.getElem?_map, List.getD_eq_getElem?_getD, List.getElem?_eq_getElem (by rw [hl]; exact hy)]
  rfl
theorem dec_int (x y : Nat) : decide (V.int (x : Nat) = V.int (y : Nat)) = decide (x = y) := decide_eq_decide.mpr ⟨fun h => by injection h with h; omega, fun h => by rw [h]⟩
section
variable {P : Program} {w : World} {K : PySem.W.Frag} {mg : Str → Option Value} {base : Heap} {a : AdL} {S : Addr}
def spLOwn : Sp := fun vs H Q _ => ∃ (s : Addr) (n c : Nat) (hs : List Nat) (tab : List (List Nat)), vs = [.ref s, .int (c : Nat)] ∧ ASt H s n hs tab ∧ n ≤ 5 ∧ c < n ∧ ∀ H' r, Same H H' → H r = none → H' r = some (.lst (ints_ (lotF hs n (hsAt hs c)))) → Q (.ref r) H'
theorem ok_lown {f : Addr} {fd : FuncData} (F : Fun K "_law_own" "_law_own" s__law_own f fd) (m_range : mg "range" = none) (m_len : mg "len" = none) : FnOk P w K mg base CX0 1 f fd ["_law_state", "_law_a"] spLOwn := by
  refine F.ok sc__law_own (fun vs H Q E h => ?_) (fun cdv A outer s H vs Q E hr h => ?_)
  · obtain ⟨s, n, c, hs, tab, rfl, _⟩ := h
    rfl
  · obtain ⟨s, n, c, hs, tab, rfl, A0, n5, hc, q⟩ := h
    refine ⟨_, (pss_one (ps_ret (pe_lc (own := [("_law_b", 2)]) (g := gName 2) rfl sc__law_own.nd (pi_range1 rfl m_range (pa_cons (pe_callB call_len_seq (by rfl) m_len boot_len (pa_cons (pe_ix ix_tup (pv 0) pe_int (fun _ _ => rfl)) pa_nil)) pa_nil)) (blkOk_by (own := [("_law_b", 2)]) (N := N__law_own) (sc := defScope s__law_own) (by decide +kernel)) (fun _ _ _ _ _ => (pg_name (i := 2) sc__law_own.nd rfl (by first | exact Or.inl rfl | exact Or.inr rfl))) (fun _ _ _ _ _ => (pts_one (pt_cmpR op_eq (pe_ix (show IxR _ (rIxL K) from ix_list) (pe_ix (show IxR _ (rIxT K) from ix_tup) (pv 0) pe_int (fun _ _ => rfl)) (pv 2) (fun _ _ => rfl)) (pe_ix (show IxR _ (rIxL K) from ix_list) (pe_ix (show IxR _ (rIxT K) from ix_tup) (pv 0) pe_int (fun _ _ => rfl)) (pv 1) (fun _ _ => rfl)) (nomark _)))) (fun _ _ _ _ _ => (pv 2))))), ?_⟩
    obtain ⟨th, tt, rs, h1, h2, h3, h4⟩ := A0.at_
    have il : (ints_ hs).length = n := by unfold ints_; rw [List.length_map, A0.st.hl]
    refine ⟨_, rfl, s, _, _, _, rfl, rfl, .inl (.inl h1), atI_nat (j := 0) rfl, th, _, rfl, .inl (.inl (.inl h2)), _, rfl, by rw [il]; omega, by rw [il]; omega, fun D hD => lc_range (lo := 0) (n := (ints_ hs).length) (fun i H2 => Same H H2 ∧ H2 D = some (.lst (ints_ (lotF hs i (hsAt hs c))))) ⟨al hD, upd_same⟩ (fun i H2 hi pv => ?_) (fun H2 pv => ?_)⟩
    · obtain ⟨e2, hD2⟩ := pv
      rw [il] at hi
      rw [show (0 : Int) + ((i : Nat) : Int) = (i : Nat) from Int.zero_add _]
      refine ⟨rfl, _, rfl, s, _, _, _, rfl, rfl, .inl (.inl (e2 _ _ h1)), atI_nat (j := 0) rfl, _, rfl, th, _, _, _, rfl, rfl, .inl (.inl (e2 _ _ h2)), atI_nat (A0.st.hat hi), ?_⟩
      refine ⟨_, rfl, s, _, _, _, rfl, rfl, .inl (.inl (e2 _ _ h1)), atI_nat (j := 0) rfl, _, rfl, th, _, _, _, rfl, rfl, .inl (.inl (e2 _ _ h2)), atI_nat (A0.st.hat hc), rfl, _, rfl, ?_⟩
      rw [dec_int]
      refine iteB (fun t => ?_) (fun t => ?_)
      · refine ⟨_, rfl, _, hD2, by unfold ints_; rw [List.length_map]; exact small1000 (Nat.le_trans (List.length_filter_le _ _) (by rw [List.length_range]; omega)), fun b z hb => ?_, ?_⟩
        · rw [upd_ne (ne_of_none hb hD)]
          exact e2 _ _ hb
        · rw [upd_same, lotF_succ, if_pos t, ints_snoc]
      · refine ⟨e2, ?_⟩
        rw [lotF_succ, if_neg (by rw [t]; decide), List.append_nil]
        exact hD2
    · obtain ⟨e2, hD2⟩ := pv
      rw [il] at hD2
      exact q _ D e2 hD hD2
def spLPass : Sp := fun vs H Q _ => ∃ (s : Addr) (n c : Nat) (hs : List Nat) (tab : List (List Nat)), vs = [.ref s, .int (c : Nat)] ∧ ASt H s n hs tab ∧ n ≤ 5 ∧ c < n ∧ ∀ H' r, Same H H' → H r = none → H' r = some (.lst (ints_ (passC hs (tab.getD c []) n c))) → Q (.ref r) H'
theorem ok_lpass {f : Addr} {fd : FuncData} (F : Fun K "_law_passing" "_law_passing" s__law_passing f fd) (m_range : mg "range" = none) (m_len : mg "len" = none) : FnOk P w K mg base CX0 1 f fd ["_law_state", "_law_a"] spLPass := by
  refine F.ok sc__law_passing (fun vs H Q E h => ?_) (fun cdv A outer s H vs Q E hr h => ?_)
  · obtain ⟨s, n, c, hs, tab, rfl, _⟩ := h
    rfl
  · obtain ⟨s, n, c, hs, tab, rfl, A0, n5, hc, q⟩ := h
    refine ⟨_, (pss_cons (ps_set (i := 2) sc__law_passing.nd rfl (by first | exact Or.inl rfl | exact Or.inr rfl) (pe_callB call_len_seq (by rfl) m_len boot_len (pa_cons (pe_ix ix_tup (pv 0) pe_int (fun _ _ => rfl)) pa_nil)))
 (pss_one (ps_ret (pe_lc (own := [("_law_b", 3)]) (g := gName 3) rfl sc__law_passing.nd (pi_range1 rfl m_range (pa_cons (pv 2) pa_nil)) (blkOk_by (own := [("_law_b", 3)]) (N := N__law_passing) (sc := defScope s__law_passing) (by decide +kernel)) (fun _ _ _ _ _ => (pg_name (i := 3) sc__law_passing.nd rfl (by first | exact Or.inl rfl | exact Or.inr rfl))) (fun _ _ _ _ _ => (pts_one (PW.pt (pw_or (pt_cmpR op_eq (pe_ix (show IxR _ (rIxL K) from ix_list) (pe_ix (show IxR _ (rIxT K) from ix_tup) (pv 0) pe_int (fun _ _ => rfl)) (pv 3) (fun _ _ => rfl)) (pe_ix (show IxR _ (rIxL K) from ix_list) (pe_ix (show IxR _ (rIxT K) from ix_tup) (pv 0) pe_int (fun _ _ => rfl)) (pv 1) (fun _ _ => rfl)) (nomark _)) (pw_or1 (pt_cmpR (show OpR _ _ (rIn K false) from op_in_seq) (pe_ix (show IxR _ (rIxL K) from ix_list) (pe_ix (show IxR _ (rIxL K) from ix_list) (pe_ix (show IxR _ (rIxT K) from ix_tup) (pv 0) pe_int (fun _ _ => rfl)) (pv 1) (fun _ _ => rfl)) (pv 3) (fun _ _ => rfl)) (pe_tup (pa_cons pe_str (pa_cons pe_str pa_nil))) (by with_unfolding_all rfl))))))) (fun _ _ _ _ _ => (pv 3)))))), ?_⟩
    obtain ⟨th, tt, rs, h1, h2, h3, h4⟩ := A0.at_
    have il : (ints_ hs).length = n := by unfold ints_; rw [List.length_map, A0.st.hl]
    obtain ⟨r, row, hr', hrow, rl, er, hw⟩ := RLs.row A0.st h4 hc
    rw [er] at q
    refine ⟨_, rfl, s, _, _, _, rfl, rfl, .inl (.inl h1), atI_nat (j := 0) rfl, th, _, rfl, .inl (.inl (.inl h2)), ?_⟩
    rw [il]
    refine ⟨_, rfl, _, rfl, by omega, by omega, fun D hD => lc_range (lo := 0) (n := n) (fun i H2 => Same H H2 ∧ H2 D = some (.lst (ints_ ((List.range i).filter (passV hs row c))))) ⟨al hD, upd_same⟩ (fun i H2 hi pv => ?_) (fun H2 pv => ?_)⟩
    · obtain ⟨e2, hD2⟩ := pv
      rw [show (0 : Int) + ((i : Nat) : Int) = (i : Nat) from Int.zero_add _]
      have pass : ∀ H4, Same H2 H4 → passV hs row c i = true → ∃ acc, H4 D = some (.lst acc) ∧ acc.length < sizeLine ∧ (Same H (upd H4 D (.lst (acc ++ [.int (i : Nat)]))) ∧ upd H4 D (.lst (acc ++ [.int (i : Nat)])) D = some (.lst (ints_ ((List.range (i + 1)).filter (passV hs row c))))) := fun H4 e4 t => by
        refine ⟨_, e4 _ _ hD2, by unfold ints_; rw [List.length_map]; exact small1000 (Nat.le_trans (List.length_filter_le _ _) (by rw [List.length_range]; omega)), fun b z hb => ?_, ?_⟩
        · rw [upd_ne (ne_of_none hb hD)]
          exact e4 _ _ (e2 _ _ hb)
        · rw [upd_same, range_filter, if_pos t, ints_snoc]
      refine ⟨rfl, _, rfl, s, _, _, _, rfl, rfl, .inl (.inl (e2 _ _ h1)), atI_nat (j := 0) rfl, _, rfl, th, _, _, _, rfl, rfl, .inl (.inl (e2 _ _ h2)), atI_nat (A0.st.hat hi), ?_⟩
      refine ⟨_, rfl, s, _, _, _, rfl, rfl, .inl (.inl (e2 _ _ h1)), atI_nat (j := 0) rfl, _, rfl, th, _, _, _, rfl, rfl, .inl (.inl (e2 _ _ h2)), atI_nat (A0.st.hat hc), rfl, _, rfl, ?_⟩
      rw [dec_int]
      refine iteB (fun t => iteT ⟨_, rfl, pass _ (Same.refl _) (by unfold passV; rw [t]; rfl)⟩) (fun t => ?_)
      refine ⟨_, rfl, s, _, _, _, rfl, rfl, .inl (.inl (e2 _ _ h1)), atI_nat (j := 1) rfl, _, rfl, tt, _, _, _, rfl, rfl, .inl (.inl (e2 _ _ h3)), atI_nat hr', _, rfl, r, _, _, _, rfl, rfl, .inl (.inl (e2 _ _ hrow)), atI_nat (hw i hi).1, ?_⟩
      refine ⟨by show 2 ≤ sizeLine; decide, fun u nu => ?_⟩
      have e3 := al (o := .tup [.str "awake", .str "needed"]) nu
      refine ⟨u, _, rfl, .inr (.inl (.inl upd_same)), rfl, rfl, _, rfl, ?_⟩
      rw [← (hw i hi).2]
      show if inV (.str (wd (row.getD i 0))) [.str "awake", .str "needed"] = true then _ else _
      rw [wd_right]
      refine iteB (fun t2 => ⟨_, rfl, pass _ e3 (by unfold passV; rw [t2, Bool.or_true])⟩) (fun t2 => ⟨e2.trans e3, ?_⟩)
      rw [range_filter, if_neg (by unfold passV; rw [t, t2]; decide), List.append_nil]
      exact e3 _ _ hD2
    · obtain ⟨e2, hD2⟩ := pv
      exact q _ D e2 hD hD2
/-- the cells that are shut off -/
noncomputable def shutF (es : List (Nat × Nat)) (rd : List Nat) (n : Nat) (hs : List Nat) (tab : List (List Nat)) : List Nat := (List.range n).filter fun c => !openB es rd (passC hs (tab.getD c []) n c) c
def spLShut : Sp := fun vs H Q _ => ∃ (l s : Addr) (n : Nat) (es : List (Nat × Nat)) (lot hs : List Nat) (tab : List (List Nat)), vs = [.ref l, .ref s] ∧ LandAt H l n es lot ∧ ASt H s n hs tab ∧ n ≤ 5 ∧ ∀ H' r, Same H H' → H r = none → H' r = some (.lst (ints_ (shutF es lot n hs tab))) → Q (.ref r) H'
theorem ok_lshut {f fo fp : Addr} {fd fdo fdp : FuncData} (F : Fun K "_law_shut" "_law_shut" s__law_shut f fd) (m_range : mg "range" = none)
    (Glo : FnOk P w K mg base CX0 2 fo fdo ["_law_land_here", "_law_cell", "_law_passing_here"] spLOpen) (glo : mg "_law_open" = some (.ref fo)) (klo : PySem.W.keepIn K (.ref fo) = true) (blo : Binds K fdo ["_law_land_here", "_law_cell", "_law_passing_here"] [])
    (Glp : FnOk P w K mg base CX0 1 fp fdp ["_law_state", "_law_a"] spLPass) (glp : mg "_law_passing" = some (.ref fp)) (klp : PySem.W.keepIn K (.ref fp) = true) (blp : Binds K fdp ["_law_state", "_law_a"] []) : FnOk P w K mg base CX0 3 f fd ["_law_land_here", "_law_state"] spLShut := by
  refine F.ok sc__law_shut (fun vs H Q E h => ?_) (fun cdv A outer s H vs Q E hr h => ?_)
  · obtain ⟨l, s, n, es, lot, hs, tab, rfl, _⟩ := h
    rfl
  · obtain ⟨l, s, n, es, lot, hs, tab, rfl, L, A0, n5, q⟩ := h
    refine ⟨_, (pss_one (ps_ret (pe_lc (own := [("_law_a", 2)]) (g := gName 2) rfl sc__law_shut.nd (pi_range1 rfl m_range (pa_cons (pe_ix ix_tup (pv 0) pe_int (fun _ _ => rfl)) pa_nil)) (blkOk_by (own := [("_law_a", 2)]) (N := N__law_shut) (sc := defScope s__law_shut) (by decide +kernel)) (fun _ _ _ _ _ => (pg_name (i := 2) sc__law_shut.nd rfl (by first | exact Or.inl rfl | exact Or.inr rfl))) (fun _ _ _ _ _ => (pts_one (pt_not (pt_val (pe_call Glo (hr.mono (by decide)) (by rfl) glo klo blo .nil pass0 (pa_cons (pv 0) (pa_cons (pv 2) (pa_cons (pe_call Glp (hr.mono (by decide)) (by rfl) glp klp blp .nil pass0 (pa_cons (pv 1) (pa_cons (pv 2) pa_nil))) pa_nil)))))))) (fun _ _ _ _ _ => (pv 2))))), ?_⟩
    obtain ⟨rA, sA, ts, m1, _⟩ := L.at_
    refine ⟨_, rfl, l, _, _, _, rfl, rfl, .inl (.inl m1), atI_nat (j := 0) rfl, _, rfl, by omega, by omega, fun D hD => lc_range (lo := 0) (n := n) (fun i H2 => Same H H2 ∧ H2 D = some (.lst (ints_ ((List.range i).filter fun c => !openB es lot (passC hs (tab.getD c []) n c) c)))) ⟨al hD, upd_same⟩ (fun i H2 hi pv => ?_) (fun H2 pv => ?_)⟩
    · obtain ⟨e2, hD2⟩ := pv
      rw [show (0 : Int) + ((i : Nat) : Int) = (i : Nat) from Int.zero_add _]
      refine ⟨rfl, _, rfl, _, rfl, _, rfl, _, rfl, s, n, i, hs, tab, rfl, A0.same e2, n5, hi, fun H3 r e3 nr hr3 => ?_⟩
      refine ⟨l, n, es, lot, i, r, _, rfl, L.same (e2.trans e3), n5, es_len L.ok n5, hi, .inr hr3, fun H4 b e4 hb => ?_⟩
      rw [openB_is hb]
      have e24 := e3.trans e4
      refine ⟨_, rfl, ?_⟩
      cases t : openB es lot (passC hs (tab.getD i []) n i) i with
      | true =>
        refine iteF ⟨e2.trans e24, ?_⟩
        rw [range_filter, if_neg (by rw [t]; decide), List.append_nil]
        exact e24 _ _ hD2
      | false =>
        refine iteT ⟨_, rfl, _, e24 _ _ hD2, by unfold ints_; rw [List.length_map]; exact small1000 (Nat.le_trans (List.length_filter_le _ _) (by rw [List.length_range]; omega)), fun b z hb => ?_, ?_⟩
        · rw [upd_ne (ne_of_none hb hD)]
          exact e24 _ _ (e2 _ _ hb)
        · rw [upd_same, range_filter, if_pos (by rw [t]; rfl), ints_snoc]
    · obtain ⟨e2, hD2⟩ := pv
      exact q _ D e2 hD hD2
/-! rows as tuples -/
def spLRows : Sp := fun vs H Q _ => ∃ (t : Addr) (rs : List Addr) (tab : List (List Nat)), vs = [.ref t] ∧ H t = some (.lst (rs.map V.ref)) ∧ RLs H rs tab ∧ tab.length ≤ 5 ∧ ∀ H' u us, Same H H' → H u = none → H' u = some (.tup (us.map V.ref)) → RTt H' us tab → Q (.ref u) H'
theorem ok_lrows {f : Addr} {fd : FuncData} (F : Fun K "_law_rows" "_law_rows" s__law_rows f fd) (m_tuple : mg "tuple" = none) : FnOk P w K mg base CX0 1 f fd ["_law_table_here"] spLRows := by
  refine F.ok sc__law_rows (fun vs H Q E h => ?_) (fun cdv A outer s H vs Q E hr h => ?_)
  · obtain ⟨t, rs, tab, rfl, _⟩ := h
    rfl
  · obtain ⟨t, rs, tab, rfl, ht, hR, tl, q⟩ := h
    refine ⟨_, (pss_one (ps_ret (pe_callTy call_tuple_of (by rfl) m_tuple boot_tuple (pa_cons (pe_lc (own := [("_law_row", 1)]) (g := gName 1) (tt := tYes) rfl sc__law_rows.nd (pi_list (pv 0)) (blkOk_by (own := [("_law_row", 1)]) (N := N__law_rows) (sc := defScope s__law_rows) (by decide +kernel)) (fun _ _ _ _ _ => (pg_name (i := 1) sc__law_rows.nd rfl (by first | exact Or.inl rfl | exact Or.inr rfl))) (fun _ _ _ _ _ => pts_nil) (fun _ _ _ _ _ => (pe_callTy (show CallR _ (.type "tuple") (rTup_ K) from call_tuple_of) (by rfl) m_tuple boot_tuple (pa_cons (pv 1) pa_nil)))) pa_nil)))), ?_⟩
    refine ⟨_, rfl, t, rfl, ⟨_, .inl (.inl ht)⟩, fun D hD => lc_list (xs := rs.map V.ref) (fun j H2 => Same H H2 ∧ ∃ us, H2 D = some (.lst (us.map V.ref)) ∧ RTt H2 us (tab.take j)) ⟨al hD, [], upd_same, .nil⟩ (fun j H2 _ pv => .inl (.inl (pv.1 _ _ ht))) (fun j x H2 hx pv => ?_) (fun H2 pv => ?_)⟩
    · obtain ⟨e2, us, hD2, t2⟩ := pv
      rw [List.getElem?_map] at hx
      obtain ⟨r, hr', rfl⟩ := Option.map_eq_some_iff.mp hx
      obtain ⟨row, hrow, hat⟩ := hR.get hr'
      refine ⟨rfl, _, rfl, r, _, rfl, .inl ⟨.inl (.inl (e2 _ _ hat)), fun u nu => ?_⟩⟩
      have sU := al (o := .tup (wds row)) nu
      have ul : us.length ≤ 5 := by
        rw [t2.len, List.length_take]
        omega
      refine ⟨_, sU _ _ hD2, by rw [List.length_map]; exact small1000 (by omega), fun b o hb => ?_, us ++ [u], ?_, ?_⟩
      · rw [upd_ne (ne_of_none hb hD)]
        exact sU _ _ (e2 _ _ hb)
      · rw [upd_same, List.map_append]
        rfl
      · rw [List.take_add_one, hrow]
        have hu : upd H2 u (.tup (wds row)) u = some (.tup (wds row)) := upd_same
        have dD : ∀ b xs, upd H2 u (.tup (wds row)) b = some (.tup xs) → upd (upd H2 u (.tup (wds row))) D (.lst (us.map V.ref ++ [.ref u])) b = some (.tup xs) := fun b xs hb => by
          rw [upd_ne (fun e => by rw [e, sU _ _ hD2] at hb; cases hb)]
          exact hb
        exact ((t2.same sU).mono dD).append (.cons (dD _ _ hu) .nil)
    · obtain ⟨e2, us, hD2, t2⟩ := pv
      rw [List.length_map, hR.len, List.take_length] at t2
      exact ⟨D, _, rfl, .inl ⟨.inl (.inl hD2), fun u nu => q _ u us (e2.trans (al nu)) (e2.free nu) upd_same (t2.same (al nu))⟩⟩
/-! the parts -/
def spLParts : Sp := fun vs H Q _ => ∃ (t : Addr) (n : Nat) (hs : List Nat), vs = [.ref t] ∧ H t = some (.lst (ints_ hs)) ∧ hs.length = n ∧ n ≤ 5 ∧ ∀ H' u us, Same H H' → H u = none → H' u = some (.tup (us.map V.ref)) → TAt H' us (lotsF hs n) → Q (.ref u) H'
theorem fsts_take {hs : List Nat} {n : Nat} (hl : hs.length = n) : ∀ j, j ≤ n → ∀ x, x ∈ fsts hs j ↔ x ∈ hs.take j
  | 0, _, x => by rw [List.take_zero]; exact Iff.rfl
  | j + 1, hj, x => by
    have ih := fsts_take hl j (by omega)
    have e : hs[j]? = some (hsAt hs j) := by
      unfold hsAt
      rw [List.getD_eq_getElem?_getD, List.getElem?_eq_getElem (by omega)]
      rfl
    show x ∈ (if hsAt hs j ∈ fsts hs j then fsts hs j else fsts hs j ++ [hsAt hs j]) ↔ _
    rw [List.take_add_one, e]
    show _ ↔ x ∈ List.take j hs ++ [hsAt hs j]
    by_cases z : hsAt hs j ∈ fsts hs j
    · rw [if_pos z, List.mem_append, List.mem_singleton, ih]
      exact ⟨.inl, fun h => h.elim id fun h => by rw [h]; exact (ih _).mp z⟩
    · rw [if_neg z, List.mem_append, List.mem_append, List.mem_singleton, ih]
theorem ok_lparts {f : Addr} {fd : FuncData} (F : Fun K "_law_parts" "_law_parts" s__law_parts f fd) (m_range : mg "range" = none) (m_len : mg "len" = none) (m_tuple : mg "tuple" = none) : FnOk P w K mg base CX0 1 f fd ["_law_hands"] spLParts := by
  refine F.ok sc__law_parts (fun vs H Q E h => ?_) (fun cdv A outer s H vs Q E hr h => ?_)
  · obtain ⟨t, n, hs, rfl, _⟩ := h
    rfl
  · obtain ⟨t, n, hs, rfl, ht, hl, n5, q⟩ := h
    refine ⟨_, (pss_cons (ps_set (i := 1) sc__law_parts.nd rfl (by first | exact Or.inl rfl | exact Or.inr rfl) (pe_lst pa_nil))
 (pss_cons (ps_for PassesOwn.never rfl (pi_range1 rfl m_range (pa_cons (pe_callB call_len_seq (by rfl) m_len boot_len (pa_cons (pv 0) pa_nil)) pa_nil)) (pg_name (i := 2) sc__law_parts.nd rfl (by first | exact Or.inl rfl | exact Or.inr rfl))
  (pss_one (ps_if (pt_cmpR op_notIn_seq (pe_ix ix_list (pv 0) (pv 2) (fun _ _ => rfl)) (pe_slice sl_list (pv 0) po_none (po_some (pv 2))) (by with_unfolding_all rfl))
  (pss_one (ps_expr (pe_bm PySem.F.plainAttrs_list PySem.F.slot_list_append PySem.F.type_list_append mt_append (pv 1) (pa_cons (pe_callTy call_tuple_of (by rfl) m_tuple boot_tuple (pa_cons (pe_lc (own := [("_law_b", 3)]) (g := gName 3) rfl sc__law_parts.nd (pi_range1 rfl m_range (pa_cons (pe_callB call_len_seq (by rfl) m_len boot_len (pa_cons (pv 0) pa_nil)) pa_nil)) (blkOk_by (own := [("_law_b", 3)]) (N := N__law_parts) (sc := defScope s__law_parts) (by decide +kernel)) (fun _ _ _ _ _ => (pg_name (i := 3) sc__law_parts.nd rfl (by first | exact Or.inl rfl | exact Or.inr rfl))) (fun _ _ _ _ _ => (pts_one (pt_cmpR op_eq (pe_ix (show IxR _ (rIxL K) from ix_list) (pv 0) (pv 3) (fun _ _ => rfl)) (pe_ix (show IxR _ (rIxL K) from ix_list) (pv 0) (pv 2) (fun _ _ => rfl)) (nomark _)))) (fun _ _ _ _ _ => (pv 3))) pa_nil)) pa_nil))))
  pss_nil)))
 (pss_one (ps_ret (pe_callTy call_tuple_of (by rfl) m_tuple boot_tuple (pa_cons (pv 1) pa_nil)))))), ?_⟩
    have il : (ints_ hs).length = n := by unfold ints_; rw [List.length_map, hl]
    have hat : ∀ c, c < n → (ints_ hs)[c]? = some (.int (hsAt hs c : Nat)) := fun c h => by
      unfold ints_ hsAt
      rw [List.getElem?_map, List.getElem?_eq_getElem (by rw [hl]; exact h), List.getD_eq_getElem?_getD, List.getElem?_eq_getElem (by rw [hl]; exact h)]
      rfl
    refine ⟨by show 0 ≤ sizeLine; decide, fun R nR => ?_⟩
    have e1 := al (o := .lst []) nR
    have hR1 : upd H R (.lst []) R = some (.lst []) := upd_same
    generalize upd H R (.lst []) = H1 at e1 hR1 ⊢
    refine ⟨_, rfl, t, _, rfl, .inl (.inl (.inl (e1 _ _ ht))), _, rfl, by rw [il]; omega, by rw [il]; omega, for_range (lo := 0) (n := (ints_ hs).length) (fun i σ H' => ∃ us y2 y3, σ = [some (.ref t), some (.ref R), y2, y3] ∧ Same H H' ∧ H' R = some (.lst (us.map V.ref)) ∧ TAt H' us ((fsts hs i).map (lotF hs n)))
      ⟨[], none, none, rfl, e1, hR1, .nil⟩ (fun i σ H' hi pv => ?_) (fun σ H' pv => ?_)⟩
    · obtain ⟨us, y2, y3, rfl, e2, hR2, t2⟩ := pv
      rw [il] at hi
      rw [show (0 : Int) + ((i : Nat) : Int) = (i : Nat) from Int.zero_add _]
      have ht2 := e2 _ _ ht
      refine ⟨_, rfl, _, rfl, t, _, _, _, rfl, rfl, .inl (.inl ht2), atI_nat (hat i hi), ?_⟩
      refine ⟨_, rfl, _, rfl, _, rfl, t, _, rfl, .inl (.inl ht2), fun c nc => ?_⟩
      have cv : cutV (ints_ hs) none (some ((i : Nat) : Int)) = ints_ (hs.take i) := by
        unfold cutV
        rw [HT.sIx_nat, HT.sIx_none]
        unfold ints_
        rw [List.map_take, List.drop_zero]
        refine congrArg (fun k => List.take k _) ?_
        rw [List.length_map]
        omega
      rw [cv]
      have e3 := al (o := .lst (ints_ (hs.take i))) nc
      have hc3 : upd H' c (.lst (ints_ (hs.take i))) c = some (.lst (ints_ (hs.take i))) := upd_same
      have hR3 := e3 _ _ hR2
      have e13 := e2.trans e3
      have t3 := t2.same e3
      generalize upd H' c (.lst (ints_ (hs.take i))) = H3 at e3 hc3 hR3 e13 t3 ⊢
      refine ⟨c, _, rfl, .inl (.inl (.inl hc3)), rfl, flat_ints _, _, rfl, ?_⟩
      show if (!inV (.int (hsAt hs i : Nat)) (ints_ (hs.take i))) = true then _ else _
      rw [inV_ints, show decide (hsAt hs i ∈ hs.take i) = decide (hsAt hs i ∈ fsts hs i) from decide_eq_decide.mpr (fsts_take hl i (by omega) _).symm]
      have ft : fsts hs (i + 1) = if hsAt hs i ∈ fsts hs i then fsts hs i else fsts hs i ++ [hsAt hs i] := rfl
      by_cases z : hsAt hs i ∈ fsts hs i
      · rw [decide_eq_true z]
        rw [if_pos z] at ft
        exact iteF ⟨us, _, _, rfl, e13, hR3, by rw [ft]; exact t3⟩
      · rw [decide_eq_false z]
        rw [if_neg z] at ft
        refine iteT ⟨_, rfl, .inl ⟨rfl, _, .inl (.inl hR3)⟩, ?_⟩
        refine ⟨_, rfl, t, _, rfl, .inl (.inl (.inl (e13 _ _ ht))), _, rfl, by rw [il]; omega, by rw [il]; omega, fun D hD => lc_range (lo := 0) (n := (ints_ hs).length) (fun j H4 => Same H3 H4 ∧ H4 D = some (.lst (ints_ (lotF hs j (hsAt hs i))))) ⟨al hD, upd_same⟩ (fun j H4 hj pv => ?_) (fun H4 pv => ?_)⟩
        · obtain ⟨e4, hD4⟩ := pv
          rw [il] at hj
          have ht4 := e4 _ _ (e13 _ _ ht)
          rw [show (0 : Int) + ((j : Nat) : Int) = (j : Nat) from Int.zero_add _]
          refine ⟨rfl, _, rfl, _, rfl, t, _, _, _, rfl, rfl, .inl (.inl ht4), atI_nat (hat j hj), _, rfl, _, rfl, t, _, _, _, rfl, rfl, .inl (.inl ht4), atI_nat (hat i hi), rfl, _, rfl, ?_⟩
          rw [dec_int]
          refine iteB (fun t => ?_) (fun t => ?_)
          · refine ⟨_, rfl, _, hD4, by unfold ints_; rw [List.length_map]; exact small1000 (Nat.le_trans (List.length_filter_le _ _) (by rw [List.length_range]; omega)), fun b z hb => ?_, ?_⟩
            · rw [upd_ne (ne_of_none hb hD)]
              exact e4 _ _ hb
            · rw [upd_same, lotF_succ, if_pos t, ints_snoc]
          · refine ⟨e4, ?_⟩
            rw [lotF_succ, if_neg (by rw [t]; decide), List.append_nil]
            exact hD4
        · obtain ⟨e4, hD4⟩ := pv
          rw [il] at hD4
          refine ⟨D, _, rfl, .inl ⟨.inl (.inl hD4), fun u nu => ?_⟩⟩
          have sU := al (o := .tup (ints_ (lotF hs n (hsAt hs i)))) nu
          have e5 := e4.trans sU
          have hR5 := e5 _ _ hR3
          have nRH : H R = none := nR
          refine ⟨R, _, _, rfl, rfl, hR5, ?_, ?_⟩
          · rw [List.length_map, t3.len, List.length_map]
            exact small1000 (Nat.le_trans (fsts_len hs i) (by omega))
          · refine ⟨us ++ [u], _, _, rfl, fun b o hb => ?_, by rw [upd_same, List.map_append]; rfl, ?_⟩
            · rw [upd_ne (ne_of_none hb nRH)]
              exact e5 _ _ (e13 _ _ hb)
            · rw [ft, List.map_append]
              have hu : upd H4 u (.tup (ints_ (lotF hs n (hsAt hs i)))) u = some (.tup (ints_ (lotF hs n (hsAt hs i)))) := upd_same
              have dD : ∀ b xs, upd H4 u (.tup (ints_ (lotF hs n (hsAt hs i)))) b = some (.tup xs) → upd (upd H4 u (.tup (ints_ (lotF hs n (hsAt hs i))))) R (.lst (us.map V.ref ++ [.ref u])) b = some (.tup xs) := fun b xs hb => by
                rw [upd_ne (fun e => by rw [e, hR5] at hb; cases hb)]
                exact hb
              exact ((t3.same e5).mono dD).append (.cons (dD _ _ hu) .nil)
    · obtain ⟨us, y2, y3, rfl, e2, hR2, t2⟩ := pv
      rw [il] at t2
      exact ⟨_, rfl, R, _, rfl, .inl ⟨.inl (.inl hR2), fun u nu => q _ u us (e2.trans (al nu)) (e2.free nu) upd_same (t2.same (al nu))⟩⟩
end
end K7
end
/-! ## P28 -/
section
open PySem PySem.Spec PyProof.Rows L2
namespace K7
abbrev N__law_start : List Str := ["_law_n", "_law_a"]
abbrev s__law_start : Stmt := topS 42
theorem sc__law_start : FnScope ["_law_n", "_law_a"] ["_law_n"] (defScope s__law_start) := ⟨rfl, rfl, rfl, by decide +kernel, rfl, by decide +kernel, by decide +kernel⟩
abbrev N__law_land_of : List Str := ["_law_land_here"]
abbrev s__law_land_of : Stmt := topS 49
theorem sc__law_land_of : FnScope ["_law_land_here"] ["_law_land_here"] (defScope s__law_land_of) := ⟨rfl, rfl, rfl, by decide +kernel, rfl, by decide +kernel, by decide +kernel⟩
abbrev N__law_state_of : List Str := ["_law_land_here", "_law_state", "_law_row"]
abbrev s__law_state_of : Stmt := topS 50
theorem sc__law_state_of : FnScope ["_law_land_here", "_law_state", "_law_row"] ["_law_land_here", "_law_state"] (defScope s__law_state_of) := ⟨rfl, rfl, rfl, by decide +kernel, rfl, by decide +kernel, by decide +kernel⟩
abbrev N__law_same : List Str := ["_law_land_here", "_law_state", "_law_told"]
abbrev s__law_same : Stmt := topS 54
theorem sc__law_same : FnScope ["_law_land_here", "_law_state", "_law_told"] ["_law_land_here", "_law_state", "_law_told"] (defScope s__law_same) := ⟨rfl, rfl, rfl, by decide +kernel, rfl, by decide +kernel, by decide +kernel⟩
def rLst (K : PySem.W.Frag) : List V → Hp → VK → Prop := fun xs H Q => ∃ p ys, xs = [.ref p] ∧ (SqL K H p ys ∨ SqT K H p ys) ∧ ∀ l, H l = none → Q (.ref l) (upd H l (.lst ys))
/-! ### lands and states of the law's own -/
/-- a plain land: its roads a list or a tuple -/
structure LandT (H : Hp) (q : Addr) (n : Nat) (es : List (Nat × Nat)) (lot : List Nat) : Prop where
  at_ : ∃ rA sA ts, H q = some (.tup [.int (n : Nat), .ref rA, .ref sA]) ∧ H rA = some (.lst (ts.map V.ref)) ∧ TAt H ts (pairs es) ∧ SqOf H sA (ints_ lot)
  ok : LandOk n es
  lot : lot ∈ lotsTo (List.range n) n ∧ 0 < lot.length ∧ lot.length < n
theorem LandAt.t {H : Hp} {q : Addr} {n : Nat} {es : List (Nat × Nat)} {lot : List Nat} (h : LandAt H q n es lot) : LandT H q n es lot := by
  obtain ⟨rA, sA, ts, h1, h2, h3, h4⟩ := h.at_
  exact ⟨⟨rA, sA, ts, h1, h2, h3, .inr h4⟩, h.ok, h.lot⟩
theorem LandT.same {H H' : Hp} {q : Addr} {n : Nat} {es : List (Nat × Nat)} {lot : List Nat} (h : LandT H q n es lot) (e : Same H H') : LandT H' q n es lot := by
  obtain ⟨rA, sA, ts, h1, h2, h3, h4⟩ := h.at_
  exact ⟨⟨rA, sA, ts, e _ _ h1, e _ _ h2, h3.same e, h4.same e⟩, h.ok, h.lot⟩
theorem pw_nodup {l : List Nat} (h : l.Pairwise (· < ·)) : l.Nodup := h.imp fun h => Nat.ne_of_lt h
theorem isv_tup {H : Hp} {p q : Addr} {xs : List V} {d : Nat} (hp : H p = some (.tup xs)) (hq : H q = some (.tup xs)) (hl : xs.length ≤ 1000) (hf : xs.all flatV = true) : IsV H (d + 1 + 1) (.ref p) (.ref q) :=
  .inr ⟨p, q, xs, xs, rfl, rfl, hp, hq, rfl, hl, fun i x' y' hx hy => by
    obtain rfl := Option.some.inj (hx.symm.trans hy)
    exact .inl ⟨List.all_eq_true.mp hf _ (List.mem_of_getElem? hx), rfl⟩⟩
theorem wds_len (row : List Nat) : (wds row).length = row.length := List.length_map ..
theorem ints_len (l : List Nat) : (ints_ l).length = l.length := List.length_map ..
theorem isv_rows {H : Hp} {p q : Addr} {rs us : List Addr} {tab : List (List Nat)} {d : Nat} (hp : H p = some (.tup (rs.map V.ref))) (hq : H q = some (.tup (us.map V.ref))) (hr : RTt H rs tab) (hu : RTt H us tab) (hl : tab.length ≤ 1000) (rl : ∀ r ∈ tab, r.length ≤ 1000) : IsV H (d + 1 + 1 + 1) (.ref p) (.ref q) := by
  refine .inr ⟨p, q, _, _, rfl, rfl, hp, hq, ?_, ?_, fun i x' y' hx hy => ?_⟩
  · rw [List.length_map, List.length_map, hr.len, hu.len]
  · rw [List.length_map, hr.len]
    exact hl
  · rw [List.getElem?_map] at hx hy
    obtain ⟨r, hr', rfl⟩ := Option.map_eq_some_iff.mp hx
    obtain ⟨u, hu', rfl⟩ := Option.map_eq_some_iff.mp hy
    obtain ⟨row, h1, h2⟩ := hr.get hr'
    obtain ⟨row', h3, h4⟩ := hu.get hu'
    obtain rfl := Option.some.inj (h1.symm.trans h3)
    exact isv_tup h2 h4 (by rw [wds_len]; exact rl _ (List.mem_of_getElem? h1)) (wds_flat _)
theorem isv_tat {H : Hp} {p q : Addr} {rs us : List Addr} {ls : List (List Nat)} {d : Nat} (hp : H p = some (.tup (rs.map V.ref))) (hq : H q = some (.tup (us.map V.ref))) (hr : TAt H rs ls) (hu : TAt H us ls) (hl : ls.length ≤ 1000) (rl : ∀ r ∈ ls, r.length ≤ 1000) : IsV H (d + 1 + 1 + 1) (.ref p) (.ref q) := by
  refine .inr ⟨p, q, _, _, rfl, rfl, hp, hq, ?_, ?_, fun i x' y' hx hy => ?_⟩
  · rw [List.length_map, List.length_map, hr.len, hu.len]
  · rw [List.length_map, hr.len]
    exact hl
  · rw [List.getElem?_map] at hx hy
    obtain ⟨r, hr', rfl⟩ := Option.map_eq_some_iff.mp hx
    obtain ⟨u, hu', rfl⟩ := Option.map_eq_some_iff.mp hy
    obtain ⟨row, h1, h2⟩ := hr.get hr'
    obtain ⟨row', h3, h4⟩ := hu.get hu'
    obtain rfl := Option.some.inj (h1.symm.trans h3)
    exact isv_tup (xs := ints_ row) h2 h4 (by rw [ints_len]; exact rl _ (List.mem_of_getElem? h1)) (flat_ints _)
section
variable {P : Program} {w : World} {K : PySem.W.Frag} {mg : Str → Option Value} {base : Heap} {a : AdL} {S fE fQ : Addr}
def spLStart : Sp := fun vs H Q _ => ∃ n : Nat, vs = [.int (n : Nat)] ∧ n ≤ 5 ∧ ∀ H' u, Same H H' → H u = none → ASt H' u n (List.replicate n 0) (List.replicate n (List.replicate n 0)) → Q (.ref u) H'
theorem rls_rep {H : Hp} {r : Addr} {row : List Nat} (h : H r = some (.lst (wds row))) : ∀ k : Nat, RLs H (List.replicate k r) (List.replicate k row)
  | 0 => .nil
  | k + 1 => .cons h (rls_rep h k)
theorem ok_lstart {f : Addr} {fd : FuncData} (F : Fun K "_law_start" "_law_start" s__law_start f fd) (m_range : mg "range" = none) : FnOk P w K mg base CX0 1 f fd ["_law_n"] spLStart := by
  refine F.ok sc__law_start (fun vs H Q E h => ?_) (fun cdv A outer s H vs Q E hr h => ?_)
  · obtain ⟨n, rfl, _⟩ := h
    rfl
  · obtain ⟨n, rfl, n5, q⟩ := h
    refine ⟨_, (pss_one (ps_ret (pe_tup (pa_cons (pe_op op_rep (pe_lst (pa_cons pe_int pa_nil)) (pv 0)) (pa_cons (pe_lc (own := [("_law_a", 1)]) (g := gName 1) (tt := tYes) rfl sc__law_start.nd (pi_range1 rfl m_range (pa_cons (pv 0) pa_nil)) (blkOk_by (own := [("_law_a", 1)]) (N := N__law_start) (sc := defScope s__law_start) (by decide +kernel)) (fun _ _ _ _ _ => (pg_name (i := 1) sc__law_start.nd rfl (by first | exact Or.inl rfl | exact Or.inr rfl))) (fun _ _ _ _ _ => pts_nil) (fun _ _ _ _ _ => (pe_op op_rep (pe_lst (pa_cons pe_str pa_nil)) (pv 0)))) pa_nil))))), ?_⟩
    have tn_ : ((n : Nat) : Int).toNat = n := Int.toNat_natCast n
    refine ⟨by show 1 ≤ sizeLine; decide, fun t nt => ?_⟩
    have e1 := al (o := .lst [.int 0]) nt
    refine ⟨_, rfl, t, (n : Nat), [.int 0], rfl, rfl, upd_same, by omega, by omega, ?_, fun th nth => ?_⟩
    · rw [tn_]
      exact Nat.le_of_lt (small1000 (by show 1 * n ≤ 1000; omega))
    rw [tn_, flat_one]
    have hrep : List.replicate n (V.int 0) = ints_ (List.replicate n 0) := by unfold ints_; rw [List.map_replicate]; rfl
    rw [hrep]
    have e2 := e1.trans (al (o := .lst (ints_ (List.replicate n 0))) nth)
    have hth : upd (upd H t (.lst [.int 0])) th (.lst (ints_ (List.replicate n 0))) th = some (.lst (ints_ (List.replicate n 0))) := upd_same
    generalize upd (upd H t (.lst [.int 0])) th (.lst (ints_ (List.replicate n 0))) = H2 at e2 hth ⊢
    refine ⟨_, rfl, _, rfl, by omega, by omega, fun D hD => lc_range (lo := 0) (n := n) (fun i H3 => Same H2 H3 ∧ ∃ us, H3 D = some (.lst (us.map V.ref)) ∧ RLs H3 us (List.replicate i (List.replicate n 0))) ⟨al hD, [], upd_same, .nil⟩ (fun i H3 hi pv => ?_) (fun H3 pv => ?_)⟩
    · obtain ⟨e3, us, hD3, t3⟩ := pv
      refine ⟨rfl, by show 1 ≤ sizeLine; decide, fun t4 nt4 => ?_⟩
      refine ⟨_, rfl, t4, (n : Nat), [.str "none"], rfl, rfl, upd_same, by omega, by omega, ?_, fun u nu => ?_⟩
      · rw [tn_]
        exact Nat.le_of_lt (small1000 (by show 1 * n ≤ 1000; omega))
      rw [tn_, flat_one]
      have wrep : List.replicate n (V.str "none") = wds (List.replicate n 0) := by unfold wds; rw [List.map_replicate]; rfl
      rw [wrep]
      have e5 := (al (o := .lst [.str "none"]) nt4).trans (al (o := .lst (wds (List.replicate n 0))) nu)
      have hu5 : upd (upd H3 t4 (.lst [.str "none"])) u (.lst (wds (List.replicate n 0))) u = some (.lst (wds (List.replicate n 0))) := upd_same
      have nu3 : H3 u = none := (al (o := .lst [.str "none"]) nt4).free nu
      have uD : u ≠ D := fun e => by rw [e, hD3] at nu3; cases nu3
      have nD : ∀ b ∈ us, b ≠ D := by
        have : ∀ {us : List Addr} {tab : List (List Nat)}, RLs H3 us tab → (∀ r ∈ tab, r = List.replicate n 0) → ∀ b ∈ us, H3 b = some (.lst (wds (List.replicate n 0))) := fun {us tab} t => by
          induction t with
          | nil => exact fun _ b hb => nomatch hb
          | cons h _ ih =>
            intro hr b hb
            rcases List.mem_cons.mp hb with rfl | hb
            · rw [hr _ (List.mem_cons_self ..)] at h
              exact h
            · exact ih (fun r h => hr r (List.mem_cons_of_mem _ h)) b hb
        intro b hb e
        have z := this t3 (fun r hr => (List.mem_replicate.mp hr).2) b hb
        rw [e, hD3] at z
        injection z with z
        injection z with z
        cases us with
        | nil => exact nomatch hb
        | cons x r =>
          obtain ⟨m, rfl⟩ : ∃ m, n = m + 1 := ⟨n - 1, by omega⟩
          cases z
      generalize upd (upd H3 t4 (.lst [.str "none"])) u (.lst (wds (List.replicate n 0))) = H5 at e5 hu5 ⊢
      have ul : us.length ≤ 5 := by
        rw [t3.len, List.length_replicate]
        omega
      refine ⟨_, e5 _ _ hD3, by rw [List.length_map]; exact small1000 (by omega), fun b o hb => ?_, us ++ [u], ?_, ?_⟩
      · rw [upd_ne (ne_of_none hb hD)]
        exact e5 _ _ (e3 _ _ hb)
      · rw [upd_same, List.map_append]
        rfl
      · have : ∀ {vs : List Addr} {tab : List (List Nat)}, (∀ b ∈ vs, b ≠ D) → RLs H5 vs tab → RLs (upd H5 D (.lst (us.map V.ref ++ [.ref u]))) vs tab := fun {vs tab} hn t => by
          induction t with
          | nil => exact .nil
          | cons h _ ih => exact .cons (by rw [upd_ne (hn _ (List.mem_cons_self ..))]; exact h) (ih fun b hb => hn b (List.mem_cons_of_mem _ hb))
        rw [List.replicate_succ']
        exact (this nD (t3.same e5)).append (.cons (by rw [upd_ne uD]; exact hu5) .nil)
    · obtain ⟨e3, us, hD3, t3⟩ := pv
      refine ⟨by show 2 ≤ sizeLine; decide, fun u nu => ?_⟩
      have e4 := al (o := .tup [.ref th, .ref D]) nu
      have e24 := e2.trans (e3.trans e4)
      exact q _ u e24 ((e2.trans e3).free nu) ⟨⟨th, D, us, upd_same, e4 _ _ (e3 _ _ hth), e4 _ _ hD3, t3.same e4⟩, start_tab⟩
def spLandOf (a : AdL) : Sp := fun vs H Q _ => ∃ (q : Addr) (n : Nat) (es : List (Nat × Nat)) (lot : List Nat), vs = [.ref q] ∧ LandT H q n es lot ∧ 2 ≤ n ∧ n ≤ 5 ∧ ∀ H' p, Same H H' → H p = none → LandO a.C H' p n es lot → Q (.ref p) H'
theorem ok_lof (T : Tl K mg a) {f fI : Addr} {fd fdI : FuncData} (F : Fun K "_law_land_of" "_law_land_of" s__law_land_of f fd)
    (MC : Mk K a.C fI) (GI : FnOk P w K mg base CX0 5 fI fdI ["self", "cells", "neighbours", "roads"] (spLandI a)) (bI : Binds K fdI ["self", "cells", "neighbours", "roads"] []) : FnOk P w K mg base CX0 7 f fd ["_law_land_here"] (spLandOf a) := by
  refine F.ok sc__law_land_of (fun vs H Q E h => ?_) (fun cdv A outer s H vs Q E hr h => ?_)
  · obtain ⟨q, n, es, lot, rfl, _⟩ := h
    rfl
  · obtain ⟨q, n, es, lot, rfl, L, n2, n5, k⟩ := h
    refine ⟨_, (pss_one (ps_ret (pe_make MC GI (hr.mono (by decide)) (by rfl) T.gC bI .nil pass0 (pa_cons (pe_ix ix_tup (pv 0) pe_int (fun _ _ => rfl)) (pa_cons (pe_ix ix_tup (pv 0) pe_int (fun _ _ => rfl)) (pa_cons (pe_ix ix_tup (pv 0) pe_int (fun _ _ => rfl)) pa_nil)))))), ?_⟩
    obtain ⟨rA, sA, ts, h1, h2, h3, h4⟩ := L.at_
    obtain ⟨l1, l2⟩ := lot_lt n5 L.lot.1
    refine ⟨_, rfl, q, _, _, _, rfl, rfl, .inl (.inl h1), atI_nat (j := 0) rfl, _, rfl, q, _, _, _, rfl, rfl, .inl (.inl h1), atI_nat (j := 1) rfl, _, rfl, q, _, _, _, rfl, rfl, .inl (.inl h1), atI_nat (j := 2) rfl, ?_⟩
    refine new_land (a := a) (Q := Q) n2 n5 (.inr h2) (co_lit h3) (cos_es L.ok n5) L.ok.conn h4 l1 (pw_nodup l2) L.lot.2.1 L.lot.2.2 fun H' p es' rd' e nx Lo pe pr => ?_
    rw [srt_map L.ok] at pe
    obtain rfl := es_is Lo.ok pe (L.ok.sorted.imp fun h => h)
    obtain rfl := rd_is Lo.rso pr (l2.imp fun h => Nat.le_of_lt h)
    exact k H' p e nx Lo
def spStOf (a : AdL) (S : Addr) : Sp := fun vs H Q _ => ∃ (q s : Addr) (n : Nat) (es : List (Nat × Nat)) (lot hs : List Nat) (tab : List (List Nat)), vs = [.ref q, .ref s] ∧ LandT H q n es lot ∧ ASt H s n hs tab ∧ 2 ≤ n ∧ n ≤ 5 ∧ ∀ H' p l, Same H H' → H p = none → StateO a.C S H' p l n es lot hs tab → Q (.ref p) H'
theorem ok_sof (T : Tl K mg a) {f flo fI : Addr} {fd fdlo fdI : FuncData} (F : Fun K "_law_state_of" "_law_state_of" s__law_state_of f fd) (gSt : mg "State" = some (.ref S))
    (Glof : FnOk P w K mg base CX0 7 flo fdlo ["_law_land_here"] (spLandOf a)) (glof : mg "_law_land_of" = some (.ref flo)) (klof : PySem.W.keepIn K (.ref flo) = true) (blof : Binds K fdlo ["_law_land_here"] [])
    (MS : Mk K S fI) (GS_ : FnOk P w K mg base CX0 5 fI fdI ["self", "land", "hands", "standings"] (spStI a S)) (bS : Binds K fdI ["self", "land", "hands", "standings"] []) (m_list : mg "list" = none) : FnOk P w K mg base CX0 8 f fd ["_law_land_here", "_law_state"] (spStOf a S) := by
  refine F.ok sc__law_state_of (fun vs H Q E h => ?_) (fun cdv A outer s H vs Q E hr h => ?_)
  · obtain ⟨q, s, n, es, lot, hs, tab, rfl, _⟩ := h
    rfl
  · obtain ⟨q, s, n, es, lot, hs, tab, rfl, L, A0, n2, n5, k⟩ := h
    refine ⟨_, (pss_one (ps_ret (pe_make MS GS_ (hr.mono (by decide)) (by rfl) gSt bS .nil pass0 (pa_cons (pe_call Glof (hr.mono (by decide)) (by rfl) glof klof blof .nil pass0 (pa_cons (pv 0) pa_nil)) (pa_cons (pe_callTy call_list_of (by rfl) m_list boot_list (pa_cons (pe_ix ix_tup (pv 1) pe_int (fun _ _ => rfl)) pa_nil)) (pa_cons (pe_lc (own := [("_law_row", 2)]) (g := gName 2) (tt := tYes) rfl sc__law_state_of.nd (pi_list (pe_ix ix_tup (pv 1) pe_int (fun _ _ => rfl))) (blkOk_by (own := [("_law_row", 2)]) (N := N__law_state_of) (sc := defScope s__law_state_of) (by decide +kernel)) (fun _ _ _ _ _ => (pg_name (i := 2) sc__law_state_of.nd rfl (by first | exact Or.inl rfl | exact Or.inr rfl))) (fun _ _ _ _ _ => pts_nil) (fun _ _ _ _ _ => (pe_callTy (show CallR _ (.type "list") (K7.rLst K) from call_list_of) (by rfl) m_list boot_list (pa_cons (pv 2) pa_nil)))) pa_nil)))))), ?_⟩
    refine ⟨_, rfl, q, n, es, lot, rfl, L, n2, n5, fun H1 l e1 nl Lo => ?_⟩
    obtain ⟨th, tt, rs, h1, h2, h3, h4⟩ := (A0.same e1).at_
    refine ⟨_, rfl, s, _, _, _, rfl, rfl, .inl (.inl h1), atI_nat (j := 0) rfl, th, _, rfl, .inl (.inl (.inl h2)), fun c nc => ?_⟩
    have e2 := al (o := .lst (ints_ hs)) nc
    have hc2 : upd H1 c (.lst (ints_ hs)) c = some (.lst (ints_ hs)) := upd_same
    generalize upd H1 c (.lst (ints_ hs)) = H2 at e2 hc2 ⊢
    refine ⟨_, rfl, s, _, _, _, rfl, rfl, .inl (.inl (e2 _ _ h1)), atI_nat (j := 1) rfl, tt, rfl, ⟨_, .inl (.inl (e2 _ _ h3))⟩, fun D hD => lc_list (xs := rs.map V.ref) (fun j H3 => Same H2 H3 ∧ ∃ us, H3 D = some (.lst (us.map V.ref)) ∧ RLt D H3 us (tab.take j)) ⟨al hD, [], upd_same, .nil⟩ (fun j H3 _ pv => .inl (.inl (pv.1 _ _ (e2 _ _ h3)))) (fun j x H3 hx pv => ?_) (fun H3 pv => ?_)⟩
    · obtain ⟨e3, us, hD3, t3⟩ := pv
      rw [List.getElem?_map] at hx
      obtain ⟨r, hr', rfl⟩ := Option.map_eq_some_iff.mp hx
      obtain ⟨row, hrow, hat⟩ := h4.get hr'
      refine ⟨rfl, _, rfl, r, _, rfl, .inl (.inl (.inl (e3 _ _ (e2 _ _ hat)))), fun u nu => ?_⟩
      have sU := al (o := .lst (wds row)) nu
      have uD : u ≠ D := fun e => by rw [e, hD3] at nu; cases nu
      have ul : us.length ≤ 5 := by
        rw [t3.len, List.length_take, A0.st.tl]
        omega
      refine ⟨_, sU _ _ hD3, by rw [List.length_map]; exact small1000 (by omega), fun b o hb => ?_, us ++ [u], ?_, ?_⟩
      · rw [upd_ne (ne_of_none hb hD)]
        exact sU _ _ (e3 _ _ hb)
      · rw [upd_same, List.map_append]
        rfl
      · rw [List.take_add_one, hrow]
        have hu : upd H3 u (.lst (wds row)) u = some (.lst (wds row)) := upd_same
        exact ((t3.mono fun b row' nb hb => sU _ _ hb).mono fun b row' nb hb => by rw [upd_ne nb]; exact hb).append (.cons (by rw [upd_ne uD]; exact hu) uD .nil)
    · obtain ⟨e3, us, hD3, t3⟩ := pv
      rw [List.length_map, h4.len, List.take_length] at t3
      have e23 := e2.trans e3
      refine new_state (a := a) (S := S) (Q := Q) (Lo.same e23) (.inr (e3 _ _ hc2)) (.inr hD3) t3.rat A0.st fun H' x e nx W => ?_
      have e4 := e1.trans e23
      exact k H' x l (e4.trans e) (e4.free nx) W
def spLSame (a : AdL) (S : Addr) : Sp := fun vs H Q _ => ∃ (q s t l : Addr) (n : Nat) (es : List (Nat × Nat)) (lot hs : List Nat) (tab : List (List Nat)), vs = [.ref q, .ref s, .ref t] ∧ LandT H q n es lot ∧ ASt H s n hs tab ∧ StateO a.C S H t l n es lot hs tab ∧ 2 ≤ n ∧ n ≤ 5 ∧ ∀ H', Same H H' → Q (.bl true) H'
theorem ok_lsame (T : Tl K mg a) (T2 : Tk K a.C fE) (TS : Ts K mg S fQ) {f flo fis flr : Addr} {fd fdlo fdE fdis fdlr : FuncData} (F : Fun K "_law_same" "_law_same" s__law_same f fd)
    (Glof : FnOk P w K mg base CX0 7 flo fdlo ["_law_land_here"] (spLandOf a)) (glof : mg "_law_land_of" = some (.ref flo)) (klof : PySem.W.keepIn K (.ref flo) = true) (blof : Binds K fdlo ["_law_land_here"] [])
    (GE : FnOk P w K mg base CX0 1 fE fdE ["self", "other"] (spEqL a.C)) (bE : Binds K fdE ["self", "other"] [])
    (Gis : FnOk P w K mg base CX0 3 fis fdis ["_law_one", "_law_other"] (spIs 3)) (gis : mg "_law_is" = some (.ref fis)) (kis : PySem.W.keepIn K (.ref fis) = true) (bis : Binds K fdis ["_law_one", "_law_other"] [])
    (Glr : FnOk P w K mg base CX0 1 flr fdlr ["_law_table_here"] spLRows) (glr : mg "_law_rows" = some (.ref flr)) (klr : PySem.W.keepIn K (.ref flr) = true) (blr : Binds K fdlr ["_law_table_here"] [])
    (m_isinstance : mg "isinstance" = none) (m_tuple : mg "tuple" = none) : FnOk P w K mg base CX0 8 f fd ["_law_land_here", "_law_state", "_law_told"] (spLSame a S) := by
  refine F.ok sc__law_same (fun vs H Q E h => ?_) (fun cdv A outer s H vs Q E hr h => ?_)
  · obtain ⟨q, s, t, l, n, es, lot, hs, tab, rfl, _⟩ := h
    rfl
  · obtain ⟨q, s, t, l, n, es, lot, hs, tab, rfl, L, A0, W, n2, n5, k⟩ := h
    refine ⟨_, (pss_cons (ps_if (pw_or (pt_not (pt_val (pe_callB call_isi (by rfl) m_isinstance boot_isinstance (pa_cons (pv 2) (pa_cons (pe_glob (v := .ref _) (by rfl) TS.g rfl) pa_nil))))) (pw_or1 (pt_cmpR (K7E.op_neOwn GE T2.ne T2.hm T2.eq T2.eqF bE (hr.mono (by decide)) pass0) (pe_fld (pv 2) rfl) (pe_call Glof (hr.mono (by decide)) (by rfl) glof klof blof .nil pass0 (pa_cons (pv 0) pa_nil)) (nomark _)))).pt
  (pss_one (ps_ret pe_bl))
  pss_nil)
 (pss_one (ps_ret (pe_and (pe_call Gis (hr.mono (by decide)) (by rfl) gis kis bis .nil pass0 (pa_cons (pe_fld (pv 2) rfl) (pa_cons (pe_callTy call_tuple_of (by rfl) m_tuple boot_tuple (pa_cons (pe_ix ix_tup (pv 1) pe_int (fun _ _ => rfl)) pa_nil)) pa_nil))) (pe_one (pe_call Gis (hr.mono (by decide)) (by rfl) gis kis bis .nil pass0 (pa_cons (pe_fld (pv 2) rfl) (pa_cons (pe_call Glr (hr.mono (by decide)) (by rfl) glr klr blr .nil pass0 (pa_cons (pe_ix ix_tup (pv 1) pe_int (fun _ _ => rfl)) pa_nil)) pa_nil)))))))), ?_⟩
    obtain ⟨dx, th, tt, rs, h1, h2, h3, h4⟩ := W.at_
    obtain ⟨dl, an, ar, ay, ac, tn, ty, tc, m1, _⟩ := W.ld.at_
    refine ⟨_, rfl, _, _, _, _, _, rfl, .own _, W.ty TS, TS.own, true, rfl, iteF ?_⟩
    refine ⟨_, rfl, t, S, dx, _, _, rfl, h1, TS.cl, TS.nS _ (by decide), rfl, _, rfl, q, n, es, lot, rfl, L, n2, n5, fun H1 p e1 np Lo => ?_⟩
    obtain ⟨dl', an', ar', ay', ac', tn', ty', tc', m1', _⟩ := Lo.at_
    refine ⟨l, dl, _, p, .ref a.C, rfl, rfl, e1 _ _ m1, .base (.ins m1' T.cl T2.ha T2.hn T2.ht T2.hm), nfC K a.C, l, p, n, es, lot, n, es, lot, rfl, W.ld.same e1, Lo, _, rfl, ?_⟩
    rw [decide_eq_true ⟨rfl, rfl, rfl⟩]
    refine ⟨_, rfl, iteF ?_⟩
    obtain ⟨sh, st, rw_, g1, g2, g3, g4⟩ := (A0.same e1).at_
    refine ⟨_, rfl, t, S, dx, _, _, rfl, e1 _ _ h1, TS.cl, TS.nS _ (by decide), rfl, _, rfl, s, _, _, _, rfl, rfl, .inl (.inl g1), atI_nat (j := 0) rfl, sh, _, rfl, .inl ⟨.inl (.inl g2), fun u nu => ?_⟩⟩
    have e2 := al (o := .tup (ints_ hs)) nu
    have hu2 : upd H1 u (.tup (ints_ hs)) u = some (.tup (ints_ hs)) := upd_same
    generalize upd H1 u (.tup (ints_ hs)) = H2 at e2 hu2 ⊢
    have e12 := e1.trans e2
    refine ⟨_, _, rfl, isv_tup (e12 _ _ h2) hu2 (by rw [ints_len, W.st.hl]; omega) (flat_ints hs), fun H3 e3 => ⟨_, rfl, iteT ?_⟩⟩
    have e13 := e12.trans e3
    have e23 := e2.trans e3
    refine ⟨_, rfl, t, S, dx, _, _, rfl, e13 _ _ h1, TS.cl, TS.nS _ (by decide), rfl, _, rfl, s, _, _, _, rfl, rfl, .inl (.inl (e23 _ _ g1)), atI_nat (j := 1) rfl, st, rw_, tab, rfl, e23 _ _ g3, g4.same e23, by rw [W.st.tl]; omega, fun H4 u' us e4 nu' hu' tu => ?_⟩
    have e14 := e13.trans e4
    exact ⟨_, _, rfl, isv_rows (e14 _ _ h3) hu' (h4.same e14) tu (by rw [W.st.tl]; omega) (fun r hr => by rw [W.st.rl r hr]; omega), fun H5 e5 => k _ (e14.trans e5)⟩
end
end K7
end
/-! ## P29 -/
section
open PySem PySem.Spec PyProof.Rows L2
namespace K7
abbrev N__law_cell_right : List Str := ["_law_land_here", "_law_state", "_law_told", "_law_a", "_law_n", "_law_hands", "_law_passing_here", "_law_b"]
abbrev s__law_cell_right : Stmt := topS 56
theorem sc__law_cell_right : FnScope ["_law_land_here", "_law_state", "_law_told", "_law_a", "_law_n", "_law_hands", "_law_passing_here", "_law_b"] ["_law_land_here", "_law_state", "_law_told", "_law_a"] (defScope s__law_cell_right) := ⟨rfl, rfl, rfl, by decide +kernel, rfl, by decide +kernel, by decide +kernel⟩
abbrev N__law_state_right : List Str := ["_law_land_here", "_law_state", "_law_told", "_law_a"]
abbrev s__law_state_right : Stmt := topS 57
theorem sc__law_state_right : FnScope ["_law_land_here", "_law_state", "_law_told", "_law_a"] ["_law_land_here", "_law_state", "_law_told"] (defScope s__law_state_right) := ⟨rfl, rfl, rfl, by decide +kernel, rfl, by decide +kernel, by decide +kernel⟩
/-! ### a told state is right -/
section
variable {P : Program} {w : World} {K : PySem.W.Frag} {mg : Str → Option Value} {base : Heap} {a : AdL} {S fE fQ : Addr}
variable {fsh fss fso fsp fsg foc fio : Addr} {dsh dss dso dsp dsg doc dio : FuncData}
variable (msh : Meth K S "hand" fsh) (Gsh : FnOk P w K mg base (L2.CX P w) 5 fsh dsh ["self", "a"] (spSHand a S)) (bsh : Binds K dsh ["self", "a"] [])
variable (mss : Meth K S "standing" fss) (Gss : FnOk P w K mg base (L2.CX P w) 5 fss dss ["self", "a", "b"] (spSStand a S)) (bss : Binds K dss ["self", "a", "b"] [])
variable (mso : Meth K S "is_own" fso) (Gso : FnOk P w K mg base (L2.CX P w) 5 fso dso ["self", "a", "b"] (spSOwn a S)) (bso : Binds K dso ["self", "a", "b"] [])
variable (msp : Meth K S "passes" fsp) (Gsp : FnOk P w K mg base (L2.CX P w) 6 fsp dsp ["self", "a", "b"] (spSPass a S)) (bsp : Binds K dsp ["self", "a", "b"] [])
variable (msg : Meth K S "passing" fsg) (Gsg : FnOk P w K mg base (L2.CX P w) 5 fsg dsg ["self", "a"] (spSPassing a S)) (bsg : Binds K dsg ["self", "a"] [])
variable (moc : Meth K S "own_cells" foc) (Goc : FnOk P w K mg base (L2.CX P w) 5 foc doc ["self", "a"] (spSOwnC a S)) (boc : Binds K doc ["self", "a"] [])
variable (mio : Meth K S "is_open" fio) (Gio : FnOk P w K mg base (L2.CX P w) 6 fio dio ["self", "a"] (spSOpen a S)) (bio : Binds K dio ["self", "a"] [])
def spCellR (a : AdL) (S : Addr) : Sp := fun vs H Q _ => ∃ (q s t l : Addr) (n : Nat) (es : List (Nat × Nat)) (lot hs : List Nat) (tab : List (List Nat)) (c : Nat), vs = [.ref q, .ref s, .ref t, .int (c : Nat)] ∧ LandAt H q n es lot ∧ ASt H s n hs tab ∧ StateO a.C S H t l n es lot hs tab ∧ c < n ∧ n ≤ 5 ∧ ∀ H', Same H H' → Q (.bl true) H'
theorem passC_mem (hs row : List Nat) (n c b : Nat) (hb : b < n) : decide (b ∈ passC hs row n c) = (decide (hsAt hs c = hsAt hs b) || rightV (row.getD b 0)) := by
  have e : decide (b ∈ passC hs row n c) = passV hs row c b := by
    cases t : passV hs row c b with
    | true => exact decide_eq_true (List.mem_filter.mpr ⟨List.mem_range.mpr hb, t⟩)
    | false => exact decide_eq_false fun m => by rw [(List.mem_filter.mp m).2] at t; cases t
  rw [e]
  unfold passV
  rw [show decide (hsAt hs b = hsAt hs c) = decide (hsAt hs c = hsAt hs b) from decide_eq_decide.mpr ⟨Eq.symm, Eq.symm⟩]
theorem isv_flat {H : Hp} {x : V} {d : Nat} (h : flatV x = true) : IsV H (d + 1) x x := .inl ⟨h, rfl⟩
include msh Gsh bsh mss Gss bss mso Gso bso msp Gsp bsp msg Gsg bsg moc Goc boc mio Gio bio in
theorem ok_cellr (TS : Ts K mg S fQ) {f flp fow flo fis : Addr} {fd fdlp fdow fdlo fdis : FuncData} (F : Fun K "_law_cell_right" "_law_cell_right" s__law_cell_right f fd)
    (Glp : FnOk P w K mg base CX0 1 flp fdlp ["_law_state", "_law_a"] spLPass) (glp : mg "_law_passing" = some (.ref flp)) (klp : PySem.W.keepIn K (.ref flp) = true) (blp : Binds K fdlp ["_law_state", "_law_a"] [])
    (Glw : FnOk P w K mg base CX0 1 fow fdow ["_law_state", "_law_a"] spLOwn) (glw : mg "_law_own" = some (.ref fow)) (klw : PySem.W.keepIn K (.ref fow) = true) (blw : Binds K fdow ["_law_state", "_law_a"] [])
    (Glo : FnOk P w K mg base CX0 2 flo fdlo ["_law_land_here", "_law_cell", "_law_passing_here"] spLOpen) (glo : mg "_law_open" = some (.ref flo)) (klo : PySem.W.keepIn K (.ref flo) = true) (blo : Binds K fdlo ["_law_land_here", "_law_cell", "_law_passing_here"] [])
    (Gis : FnOk P w K mg base CX0 3 fis fdis ["_law_one", "_law_other"] (spIs 3)) (gis : mg "_law_is" = some (.ref fis)) (kis : PySem.W.keepIn K (.ref fis) = true) (bis : Binds K fdis ["_law_one", "_law_other"] [])
    (m_tuple : mg "tuple" = none) (m_range : mg "range" = none) : FnOk P w K mg base CX0 7 f fd ["_law_land_here", "_law_state", "_law_told", "_law_a"] (spCellR a S) := by
  refine F.ok sc__law_cell_right (fun vs H Q E h => ?_) (fun cdv A outer s H vs Q E hr h => ?_)
  · obtain ⟨q, s, t, l, n, es, lot, hs, tab, c, rfl, _⟩ := h
    rfl
  · obtain ⟨q, s, t, l, n, es, lot, hs, tab, c, rfl, L, A0, W, hc, n5, k⟩ := h
    refine ⟨_, (pss_cons (ps_set (i := 4) sc__law_cell_right.nd rfl (by first | exact Or.inl rfl | exact Or.inr rfl) (pe_ix ix_tup (pv 0) pe_int (fun _ _ => rfl)))
 (pss_cons (ps_set (i := 5) sc__law_cell_right.nd rfl (by first | exact Or.inl rfl | exact Or.inr rfl) (pe_ix ix_tup (pv 1) pe_int (fun _ _ => rfl)))
 (pss_cons (ps_set (i := 6) sc__law_cell_right.nd rfl (by first | exact Or.inl rfl | exact Or.inr rfl) (pe_call Glp (hr.mono (by decide)) (by rfl) glp klp blp .nil pass0 (pa_cons (pv 1) (pa_cons (pv 3) pa_nil))))
 (Evl.pss_cut (ps_if (pw_or (pt_not (pt_val (pe_call Gis (hr.mono (by decide)) (by rfl) gis kis bis .nil pass0 (pa_cons (pe_meth (pv 2) TS.cl msh Gsh (hr.mono (by decide)) bsh .nil passL (pa_cons (pv 3) pa_nil)) (pa_cons (pe_ix ix_list (pv 5) (pv 3) (fun _ _ => rfl)) pa_nil))))) (pw_or1 (pt_not (pt_val (pe_call Gis (hr.mono (by decide)) (by rfl) gis kis bis .nil pass0 (pa_cons (pe_meth (pv 2) TS.cl moc Goc (hr.mono (by decide)) boc .nil passL (pa_cons (pv 3) pa_nil)) (pa_cons (pe_callTy call_tuple_of (by rfl) m_tuple boot_tuple (pa_cons (pe_call Glw (hr.mono (by decide)) (by rfl) glw klw blw .nil pass0 (pa_cons (pv 1) (pa_cons (pv 3) pa_nil))) pa_nil)) pa_nil))))))).pt
  (pss_one (ps_ret pe_bl))
  pss_nil)
 (Evl.pss_cut (ps_if (pw_or (pt_not (pt_val (pe_call Gis (hr.mono (by decide)) (by rfl) gis kis bis .nil pass0 (pa_cons (pe_meth (pv 2) TS.cl msg Gsg (hr.mono (by decide)) bsg .nil passL (pa_cons (pv 3) pa_nil)) (pa_cons (pe_callTy call_tuple_of (by rfl) m_tuple boot_tuple (pa_cons (pv 6) pa_nil)) pa_nil))))) (pw_or1 (pt_not (pt_val (pe_call Gis (hr.mono (by decide)) (by rfl) gis kis bis .nil pass0 (pa_cons (pe_meth (pv 2) TS.cl mio Gio (hr.mono (by decide)) bio .nil passL (pa_cons (pv 3) pa_nil)) (pa_cons (pe_call Glo (hr.mono (by decide)) (by rfl) glo klo blo .nil pass0 (pa_cons (pv 0) (pa_cons (pv 3) (pa_cons (pv 6) pa_nil)))) pa_nil))))))).pt
  (pss_one (ps_ret pe_bl))
  pss_nil)
 (pss_cons (ps_for PassesOwn.never rfl (pi_range1 rfl m_range (pa_cons (pv 4) pa_nil)) (pg_name (i := 7) sc__law_cell_right.nd rfl (by first | exact Or.inl rfl | exact Or.inr rfl))
  (Evl.pss_cut (ps_if (pw_or (pt_not (pt_val (pe_call Gis (hr.mono (by decide)) (by rfl) gis kis bis .nil pass0 (pa_cons (pe_meth (pv 2) TS.cl mss Gss (hr.mono (by decide)) bss .nil passL (pa_cons (pv 3) (pa_cons (pv 7) pa_nil))) (pa_cons (pe_ix ix_list (pe_ix ix_list (pe_ix ix_tup (pv 1) pe_int (fun _ _ => rfl)) (pv 3) (fun _ _ => rfl)) (pv 7) (fun _ _ => rfl)) pa_nil))))) (pw_or1 (pt_not (pt_val (pe_call Gis (hr.mono (by decide)) (by rfl) gis kis bis .nil pass0 (pa_cons (pe_meth (pv 2) TS.cl mso Gso (hr.mono (by decide)) bso .nil passL (pa_cons (pv 3) (pa_cons (pv 7) pa_nil))) (pa_cons (pe_cmpR op_eq (pe_ix ix_list (pv 5) (pv 3) (fun _ _ => rfl)) (pe_ix ix_list (pv 5) (pv 7) (fun _ _ => rfl)) (nomark _)) pa_nil))))))).pt
  (pss_one (ps_ret pe_bl))
  pss_nil)
 (pss_one (ps_if (pt_not (pt_val (pe_call Gis (hr.mono (by decide)) (by rfl) gis kis bis .nil pass0 (pa_cons (pe_meth (pv 2) TS.cl msp Gsp (hr.mono (by decide)) bsp .nil passL (pa_cons (pv 3) (pa_cons (pv 7) pa_nil))) (pa_cons (pe_cmpR op_in_seq (pv 7) (pv 6) (by with_unfolding_all rfl)) pa_nil)))))
  (pss_one (ps_ret pe_bl))
  pss_nil))))
 (pss_one (ps_ret pe_bl)))))))), ?_⟩
    obtain ⟨rA, sA, ts, m1, _⟩ := L.at_
    obtain ⟨th, tt, rs, h1, h2, h3, h4⟩ := A0.at_
    obtain ⟨dx, th', tt', rs', w1, _⟩ := W.at_
    obtain ⟨r, row, hr', hrow, rl, er, hw⟩ := RLs.row A0.st h4 hc
    refine ⟨_, rfl, q, _, _, _, rfl, rfl, .inl (.inl m1), atI_nat (j := 0) rfl, ?_⟩
    refine ⟨_, rfl, s, _, _, _, rfl, rfl, .inl (.inl h1), atI_nat (j := 0) rfl, ?_⟩
    refine ⟨_, rfl, _, rfl, s, n, c, hs, tab, rfl, A0, n5, hc, fun H1 pp e1 npp hpp => ?_⟩
    refine ⟨fun τ H' => τ = [some (.ref q), some (.ref s), some (.ref t), some (.int (c : Nat)), some (.int (n : Nat)), some (.ref th), some (.ref pp), none] ∧ Same H1 H', ?_, fun τ H2 hM => ?_⟩
    · refine ⟨_, rfl, t, dx, _, rfl, e1 _ _ w1, rfl, _, rfl, t, l, n, es, lot, hs, tab, _, rfl, W.same e1, .inl ⟨c, rfl, hc, fun H2 e2 => ?_⟩⟩
      refine ⟨_, rfl, _, rfl, th, _, _, _, rfl, rfl, .inl (.inl ((e1.trans e2) _ _ h2)), atI_nat (A0.st.hat hc), _, _, rfl, isv_flat rfl, fun H3 e3 => ⟨_, rfl, iteF ?_⟩⟩
      have e13 := (e1.trans e2).trans e3
      refine ⟨_, rfl, t, dx, _, rfl, e13 _ _ w1, rfl, _, rfl, t, l, n, es, lot, hs, tab, _, rfl, W.same e13, .inl ⟨c, rfl, hc, fun H4 u e4 nu hu => ?_⟩⟩
      have e14 := e13.trans e4
      refine ⟨_, rfl, _, rfl, s, n, c, hs, tab, rfl, A0.same e14, n5, hc, fun H5 v e5 nv hv => ?_⟩
      refine ⟨v, _, rfl, .inl ⟨.inl (.inl hv), fun z nz => ?_⟩⟩
      have e6 := al (o := .tup (ints_ (lotF hs n (hsAt hs c)))) nz
      refine ⟨_, _, rfl, isv_tup (e6 _ _ (e5 _ _ hu)) upd_same ?_ (flat_ints _), fun H7 e7 => ⟨_, rfl, iteF ⟨rfl, ?_⟩⟩⟩
      · rw [ints_len]
        exact Nat.le_trans (List.length_filter_le _ _) (by rw [List.length_range]; omega)
      · exact ((e2.trans e3).trans e4).trans ((e5.trans e6).trans e7)
    · obtain ⟨rfl, e2⟩ := hM
      have e12 := e1.trans e2
      refine ⟨fun τ H' => τ = [some (.ref q), some (.ref s), some (.ref t), some (.int (c : Nat)), some (.int (n : Nat)), some (.ref th), some (.ref pp), none] ∧ Same H1 H', ?_, fun τ H3 hM => ?_⟩
      · refine ⟨_, rfl, t, dx, _, rfl, e12 _ _ w1, rfl, _, rfl, t, l, n, es, lot, hs, tab, _, rfl, W.same e12, .inl ⟨c, rfl, hc, fun H4 u e4 nu hu => ?_⟩⟩
        have e24 := e2.trans e4
        refine ⟨_, rfl, pp, _, rfl, .inl ⟨.inl (.inl (e24 _ _ hpp)), fun z nz => ?_⟩⟩
        have e5 := al (o := .tup (ints_ (passC hs (tab.getD c []) n c))) nz
        refine ⟨_, _, rfl, isv_tup (e5 _ _ hu) upd_same ?_ (flat_ints _), fun H6 e6 => ⟨_, rfl, iteF ?_⟩⟩
        · rw [ints_len]
          exact Nat.le_trans (List.length_filter_le _ _) (by rw [List.length_range]; omega)
        have e26 := e24.trans (e5.trans e6)
        have e16 := e1.trans e26
        refine ⟨_, rfl, t, dx, _, rfl, e16 _ _ w1, rfl, _, rfl, t, l, n, es, lot, hs, tab, _, rfl, W.same e16, .inl ⟨c, rfl, hc, fun H7 b e7 hb => ?_⟩⟩
        refine ⟨_, rfl, _, rfl, _, rfl, q, n, es, lot, c, pp, _, rfl, L.same (e16.trans e7), n5, es_len L.ok n5, hc, .inr ((e26.trans e7) _ _ hpp), fun H8 b' e8 hb' => ?_⟩
        obtain rfl : b = b' := (openB_is hb).trans (openB_is hb').symm
        exact ⟨_, _, rfl, isv_flat rfl, fun H9 e9 => ⟨_, rfl, iteF ⟨rfl, (e26.trans e7).trans (e8.trans e9)⟩⟩⟩
      · obtain ⟨rfl, e3⟩ := hM
        refine ⟨_, rfl, _, rfl, by omega, by omega, for_range (lo := 0) (n := n) (fun i σ H' => ∃ y, σ = [some (.ref q), some (.ref s), some (.ref t), some (.int (c : Nat)), some (.int (n : Nat)), some (.ref th), some (.ref pp), y] ∧ Same H1 H') ⟨none, rfl, e3⟩ (fun i σ H4 hi pv => ?_) (fun σ H4 pv => ?_)⟩
        · obtain ⟨y, rfl, e4⟩ := pv
          rw [show (0 : Int) + ((i : Nat) : Int) = (i : Nat) from Int.zero_add _]
          have e14 := e1.trans e4
          refine ⟨fun τ H' => τ = [some (.ref q), some (.ref s), some (.ref t), some (.int (c : Nat)), some (.int (n : Nat)), some (.ref th), some (.ref pp), some (.int (i : Nat))] ∧ Same H1 H', ?_, fun τ H5 hM => ?_⟩
          · refine ⟨_, rfl, t, dx, _, rfl, e14 _ _ w1, rfl, _, rfl, _, rfl, t, l, n, es, lot, hs, tab, _, _, rfl, W.same e14, .inl ⟨c, rfl, hc, .inl ⟨i, rfl, hi, fun H5 e5 => ?_⟩⟩⟩
            have e15 := e14.trans e5
            refine ⟨_, rfl, s, _, _, _, rfl, rfl, .inl (.inl (e15 _ _ h1)), atI_nat (j := 1) rfl, _, rfl, tt, _, _, _, rfl, rfl, .inl (.inl (e15 _ _ h3)), atI_nat hr', _, rfl, r, _, _, _, rfl, rfl, .inl (.inl (e15 _ _ hrow)), atI_nat (hw i hi).1, _, _, rfl, isv_flat rfl, fun H6 e6 => ⟨_, rfl, iteF ?_⟩⟩
            have e16 := e15.trans e6
            refine ⟨_, rfl, t, dx, _, rfl, e16 _ _ w1, rfl, _, rfl, _, rfl, t, l, n, es, lot, hs, tab, _, _, rfl, W.same e16, .inl ⟨c, rfl, hc, .inl ⟨i, rfl, hi, fun H7 e7 => ?_⟩⟩⟩
            have e17 := e16.trans e7
            refine ⟨_, rfl, _, rfl, th, _, _, _, rfl, rfl, .inl (.inl (e17 _ _ h2)), atI_nat (A0.st.hat hc), _, rfl, _, rfl, th, _, _, _, rfl, rfl, .inl (.inl (e17 _ _ h2)), atI_nat (A0.st.hat hi), rfl, _, _, rfl, ?_, fun H8 e8 => ⟨_, rfl, iteF ⟨rfl, (((e4.trans e5).trans e6).trans e7).trans e8⟩⟩⟩
            rw [dec_int]
            exact isv_flat rfl
          · obtain ⟨rfl, e5⟩ := hM
            have e15 := e1.trans e5
            refine ⟨_, rfl, t, dx, _, rfl, e15 _ _ w1, rfl, _, rfl, _, rfl, t, l, n, es, lot, hs, tab, _, _, rfl, W.same e15, .inl ⟨c, rfl, hc, .inl ⟨i, rfl, hi, fun H6 e6 => ?_⟩⟩⟩
            refine ⟨_, rfl, _, rfl, pp, _, rfl, .inl (.inl (.inl ((e5.trans e6) _ _ hpp))), rfl, flat_ints _, _, _, rfl, ?_, fun H7 e7 => ⟨_, rfl, iteF ⟨_, rfl, (e5.trans e6).trans e7⟩⟩⟩
            show IsV H6 3 (.bl (decide (hsAt hs c = hsAt hs i) || rightV (tabAt tab c i))) (.bl (inV (.int (i : Nat)) (ints_ (passC hs (tab.getD c []) n c))))
            rw [inV_ints, passC_mem _ _ _ _ _ hi, er, (hw i hi).2]
            exact isv_flat rfl
        · obtain ⟨y, rfl, e4⟩ := pv
          exact k _ (e1.trans e4)
def spStateR (a : AdL) (S : Addr) : Sp := fun vs H Q _ => ∃ (q s t l : Addr) (n : Nat) (es : List (Nat × Nat)) (lot hs : List Nat) (tab : List (List Nat)), vs = [.ref q, .ref s, .ref t] ∧ LandAt H q n es lot ∧ ASt H s n hs tab ∧ StateO a.C S H t l n es lot hs tab ∧ 2 ≤ n ∧ n ≤ 5 ∧ ∀ H', Same H H' → Q (.bl true) H'
theorem lotsF_len (hs : List Nat) (n : Nat) : (lotsF hs n).length ≤ n := by
  unfold lotsF
  rw [List.length_map]
  exact fsts_len hs n
theorem lotsF_rl (hs : List Nat) (n : Nat) : ∀ r ∈ lotsF hs n, r.length ≤ n := fun r hr => by
  obtain ⟨x, _, rfl⟩ := List.mem_map.mp hr
  exact Nat.le_trans (List.length_filter_le _ _) (by rw [List.length_range]; omega)
theorem ok_stater (TS : Ts K mg S fQ) {f fsm fcr fls fla fis fsu flt psu plt : Addr} {fd fdsm fdcr fdls fdla fdis fdsu fdlt : FuncData} (F : Fun K "_law_state_right" "_law_state_right" s__law_state_right f fd)
    (Gsm : FnOk P w K mg base CX0 8 fsm fdsm ["_law_land_here", "_law_state", "_law_told"] (spLSame a S)) (gsm : mg "_law_same" = some (.ref fsm)) (ksm : PySem.W.keepIn K (.ref fsm) = true) (bsm : Binds K fdsm ["_law_land_here", "_law_state", "_law_told"] [])
    (Gcr : FnOk P w K mg base CX0 7 fcr fdcr ["_law_land_here", "_law_state", "_law_told", "_law_a"] (spCellR a S)) (gcr : mg "_law_cell_right" = some (.ref fcr)) (kcr : PySem.W.keepIn K (.ref fcr) = true) (bcr : Binds K fdcr ["_law_land_here", "_law_state", "_law_told", "_law_a"] [])
    (Gls : FnOk P w K mg base CX0 3 fls fdls ["_law_land_here", "_law_state"] spLShut) (gls : mg "_law_shut" = some (.ref fls)) (kls : PySem.W.keepIn K (.ref fls) = true) (bls : Binds K fdls ["_law_land_here", "_law_state"] [])
    (Gla : FnOk P w K mg base CX0 1 fla fdla ["_law_hands"] spLParts) (gla : mg "_law_parts" = some (.ref fla)) (kla : PySem.W.keepIn K (.ref fla) = true) (bla : Binds K fdla ["_law_hands"] [])
    (Gis : FnOk P w K mg base CX0 3 fis fdis ["_law_one", "_law_other"] (spIs 3)) (gis : mg "_law_is" = some (.ref fis)) (kis : PySem.W.keepIn K (.ref fis) = true) (bis : Binds K fdis ["_law_one", "_law_other"] [])
    (ps : PropOf K S "shut" psu fsu) (Gsu : FnOk P w K mg base CX0 7 fsu fdsu ["self"] (spSShut a S)) (bsu : Binds K fdsu ["self"] [])
    (pl : PropOf K S "lots" plt flt) (Glt : FnOk P w K mg base CX0 1 flt fdlt ["self"] (spSLots a S)) (blt : Binds K fdlt ["self"] [])
    (m_tuple : mg "tuple" = none) (m_range : mg "range" = none) : FnOk P w K mg base CX0 9 f fd ["_law_land_here", "_law_state", "_law_told"] (spStateR a S) := by
  refine F.ok sc__law_state_right (fun vs H Q E h => ?_) (fun cdv A outer s H vs Q E hr h => ?_)
  · obtain ⟨q, s, t, l, n, es, lot, hs, tab, rfl, _⟩ := h
    rfl
  · obtain ⟨q, s, t, l, n, es, lot, hs, tab, rfl, L, A0, W, n2, n5, k⟩ := h
    refine ⟨_, (pss_cons (ps_if (pt_not (pt_val (pe_call Gsm (hr.mono (by decide)) (by rfl) gsm ksm bsm .nil pass0 (pa_cons (pv 0) (pa_cons (pv 1) (pa_cons (pv 2) pa_nil))))))
  (pss_one (ps_ret pe_bl))
  pss_nil)
 (pss_cons (ps_for PassesOwn.never rfl (pi_range1 rfl m_range (pa_cons (pe_ix ix_tup (pv 0) pe_int (fun _ _ => rfl)) pa_nil)) (pg_name (i := 3) sc__law_state_right.nd rfl (by first | exact Or.inl rfl | exact Or.inr rfl))
  (pss_one (ps_if (pt_not (pt_val (pe_call Gcr (hr.mono (by decide)) (by rfl) gcr kcr bcr .nil pass0 (pa_cons (pv 0) (pa_cons (pv 1) (pa_cons (pv 2) (pa_cons (pv 3) pa_nil)))))))
  (pss_one (ps_ret pe_bl))
  pss_nil)))
 (pss_one (ps_ret (pe_and (pe_call Gis (hr.mono (by decide)) (by rfl) gis kis bis .nil pass0 (pa_cons (pe_prop (pv 2) TS.cl ps Gsu (hr.mono (by decide)) bsu .nil pass0 rfl) (pa_cons (pe_callTy call_tuple_of (by rfl) m_tuple boot_tuple (pa_cons (pe_call Gls (hr.mono (by decide)) (by rfl) gls kls bls .nil pass0 (pa_cons (pv 0) (pa_cons (pv 1) pa_nil))) pa_nil)) pa_nil))) (pe_one (pe_call Gis (hr.mono (by decide)) (by rfl) gis kis bis .nil pass0 (pa_cons (pe_prop (pv 2) TS.cl pl Glt (hr.mono (by decide)) blt .nil pass0 rfl) (pa_cons (pe_call Gla (hr.mono (by decide)) (by rfl) gla kla bla .nil pass0 (pa_cons (pe_ix ix_tup (pv 1) pe_int (fun _ _ => rfl)) pa_nil)) pa_nil))))))))), ?_⟩
    obtain ⟨rA, sA, ts, m1, _⟩ := L.at_
    obtain ⟨th, tt, rs, h1, h2, h3, h4⟩ := A0.at_
    obtain ⟨dx, th', tt', rs', w1, _⟩ := W.at_
    refine ⟨_, rfl, _, rfl, _, rfl, q, s, t, l, n, es, lot, hs, tab, rfl, L.t, A0, W, n2, n5, fun H1 e1 => ⟨_, rfl, iteF ?_⟩⟩
    refine ⟨_, rfl, q, _, _, _, rfl, rfl, .inl (.inl (e1 _ _ m1)), atI_nat (j := 0) rfl, _, rfl, by omega, by omega, for_range (lo := 0) (n := n) (fun i σ H' => ∃ y, σ = [some (.ref q), some (.ref s), some (.ref t), y] ∧ Same H H') ⟨none, rfl, e1⟩ (fun i σ H4 hi pv => ?_) (fun σ H4 pv => ?_)⟩
    · obtain ⟨y, rfl, e4⟩ := pv
      rw [show (0 : Int) + ((i : Nat) : Int) = (i : Nat) from Int.zero_add _]
      exact ⟨_, rfl, _, rfl, _, rfl, _, rfl, q, s, t, l, n, es, lot, hs, tab, i, rfl, L.same e4, A0.same e4, W.same e4, hi, n5, fun H5 e5 => ⟨_, rfl, iteF ⟨_, rfl, e4.trans e5⟩⟩⟩
    · obtain ⟨y, rfl, e4⟩ := pv
      refine ⟨_, rfl, t, dx, _, rfl, e4 _ _ w1, t, l, n, es, lot, hs, tab, rfl, W.same e4, fun H5 u e5 nu hu => ?_⟩
      have e05 := e4.trans e5
      refine ⟨_, rfl, _, rfl, q, s, n, es, lot, hs, tab, rfl, L.same e05, A0.same e05, n5, fun H6 v e6 nv hv => ?_⟩
      refine ⟨v, _, rfl, .inl ⟨.inl (.inl hv), fun z nz => ?_⟩⟩
      have e7 := al (o := .tup (ints_ (shutF es lot n hs tab))) nz
      refine ⟨_, _, rfl, isv_tup (e7 _ _ (e6 _ _ hu)) upd_same ?_ (flat_ints _), fun H8 e8 => ⟨_, rfl, iteT ?_⟩⟩
      · rw [ints_len]
        exact Nat.le_trans (List.length_filter_le _ _) (by rw [List.length_range]; omega)
      have e08 := e05.trans ((e6.trans e7).trans e8)
      refine ⟨_, rfl, t, dx, _, rfl, e08 _ _ w1, t, l, n, es, lot, hs, tab, rfl, W.same e08, fun H9 u2 us e9 nu2 hu2 tu => ?_⟩
      have e09 := e08.trans e9
      refine ⟨_, rfl, s, _, _, _, rfl, rfl, .inl (.inl (e09 _ _ h1)), atI_nat (j := 0) rfl, th, n, hs, rfl, e09 _ _ h2, A0.st.hl, n5, fun HA v2 vs eA nv2 hv2 tv => ?_⟩
      exact ⟨_, _, rfl, isv_tat (eA _ _ hu2) hv2 (tu.same eA) tv (Nat.le_trans (lotsF_len hs n) (by omega)) (fun r hr => Nat.le_trans (lotsF_rl hs n r hr) (by omega)), fun HB eB => k _ ((e09.trans eA).trans eB)⟩
end
end K7
end
/-! ## EX -/
section
namespace K7E
open PySem PySem.Spec PyProof.Rows L2
/-! a call under try: what it lets out is asked for where it stands -/
section
variable {X : Cx} {W : WX} {k : Nat} {f C : Addr} {fd : FuncData} {ps : List Str} {sp : Sp} {dvs : List V} {ds : List Value} {x m : Str} {p pos apos : Pos} {e o : Expr} {es : List Expr} {ta : TE} {t : TA}
theorem run_fnW {pins : List (Addr × Obj)} {σ : L2.St} {H : Hp} {s : Shared} {Q : VK} {us : List Value} {vs : List V} (F : FnOk X.prog X.w X.K X.mg X.base (L2.CX X.prog X.w) k f fd ps sp) (hr : Room k X.A) (hb : Binds X.K fd ps ds) (hd : Vals dvs ds) (tk : Takes X W)
    (I : Inv X pins σ H s) (r : Vals vs us) (h : sp (vs ++ dvs) H Q (fun cls d H' => W cls d σ H')) : wpAny (model X.prog X.w) X.A (call (.ref f) us) (EP X pins σ Q) X.xe s := by
  have r2 : Vals (vs ++ dvs) (us ++ ds) := r.append hd
  have hl : (us ++ ds).length = ps.length := by rw [← r2.length]; exact F.len _ _ _ _ h
  refine wpAny_call (codeAny_mono (F.run X.A X.stack s H ⟨us, []⟩ (us ++ ds) (vs ++ dvs) Q _ hr I.env0 (hb s us I.kIn hl) r2 h) fun r s' hq => ?_)
  cases r with
  | error e => exact tk e s' (XE.of_call (E := fun cls d H' => W cls d σ H') I (fun cls d H' h => h) hq)
  | ok fl =>
    cases fl with
    | ret u => exact I.after hq
    | next => exact False.elim hq
    | brk => exact False.elim hq
    | cont => exact False.elim hq
theorem pe_callW (F : FnOk X.prog X.w X.K X.mg X.base (L2.CX X.prog X.w) k f fd ps sp) (hr : Room k X.A) (hg : Gl X x) (hm : X.mg x = some (.ref f)) (hk : PySem.W.keepIn X.K (.ref f) = true) (hb : Binds X.K fd ps ds) (hd : Vals dvs ds) (tk : Takes X W)
    (ha : PA X (e :: es) t) (hdb : (x == ("__debug__" : Str)) = false := by decide) (he : starEach (e :: es) X.env = (false, eval e X.env) :: starEach es X.env := by rfl) (hpl : (backTo pos (starEach es X.env)).any (·.1) = false := by rfl) :
    PE X (.Call (.Name x p) (e :: es) [] pos) (fun σ H Q => t σ H fun vs H1 => sp (vs ++ dvs) H1 Q (fun cls d H' => W cls d σ H')) := by
  refine ⟨fun pins s σ H Q I h => ?_⟩
  refine wpAny_Call_Name_kw (ld_glob I hg hm ?_ hdb)
  refine PySem.W.callWith_K (h₀ := X.base) I.ok.mod.kin hk (thn (ha.run pos pins s σ H _ I h) fun us s1 ⟨vs, H1, I1, r, q⟩ => ⟨I1.kIn, ?_⟩) he hpl
  exact run_fnW F hr hb hd tk I1 r q
theorem pe_methW {pl : Sem Bool} (he : PE X o ta) (c : Cls X.K C) (hm : Meth X.K C m f) (F : FnOk X.prog X.w X.K X.mg X.base (L2.CX X.prog X.w) k f fd ps sp) (hr : Room k X.A) (hb : Binds X.K fd ps ds) (hd : Vals dvs ds) (tk : Takes X W) (ha : PA X (e :: es) t)
    (hst : starEach (e :: es) X.env = (false, eval e X.env) :: starEach es X.env := by rfl) (hpl : (backTo pos (starEach es X.env)).any (·.1) = false := by rfl)
    (ht : eval (.Call (.Attribute o m apos) (e :: es) [] pos) X.env = (do
      let ov ← eval o X.env
      standAt apos.atName
      let (f, first) ← holding [ov] (getMethod ov m pl)
      callWith pos f first (backTo pos (starEach (e :: es) X.env)) (backToKw pos (keywordEach [] X.env))) := by rfl) :
    PE X (.Call (.Attribute o m apos) (e :: es) [] pos) (fun σ H Q => ta σ H fun x H1 => ∃ a dx fs, x = .ref a ∧ H1 a = some (.ins C dx fs) ∧ fs.lookup m = none ∧
      t σ H1 fun vs H2 => sp (x :: (vs ++ dvs)) H2 Q (fun cls d H' => W cls d σ H')) := by
  refine ⟨fun pins s σ H Q I h => ?_⟩
  refine PySem.W.methodCall_KW (pl := pl) (thn (he.run pins s σ H _ I h) fun u s1 ⟨x, H1, I1, rx, a, dx, fs, ex, ea, l, q⟩ => ?_) ht
  subst ex
  obtain rfl : u = Value.ref a := rx
  refine getmeth_ok I1 ea c hm l ?_
  refine PySem.W.callWith_K (first := [.ref a]) (h₀ := X.base) I.ok.mod.kin hm.kp (thn (ha.run pos pins s1 σ H1 _ I1 q) fun us s2 ⟨vs, H2, I2, r, q2⟩ => ⟨I2.kIn, ?_⟩) hst hpl
  exact run_fnW (us := .ref a :: us) (vs := .ref a :: vs) F hr hb hd tk I2 (.cons rfl r) q2
end
/-! ### isinstance(e, c), e the exception that the suite holds, with fields of its own -/
section
variable {X : Cx}
theorem call_isEd {a D d : Addr} {oe : Obj} {pn : List (Addr × Obj)} (C : ExcC X.K D) (hz : Zc (.ref D) (some d) oe) (hf : ∃ vs, oe.data = .fields vs) : CallR (X.suite a ((a, oe) :: pn)) (.builtin "isinstance") (fun xs H Q => ∃ (c : V) (cv : Value) (b : Bool) (fs : List (Str × V)), xs = [.ref a, c] ∧ (∀ u, RelV c u → u = cv) ∧ PySem.W.kitOne X.K (.ref D) cv = some b ∧ H d = some (.xd fs) ∧ Q (.bl b) H) := by
  intro pins s σ H xs us Q I r h
  obtain ⟨c, cv, b, fs, rfl, hcv, e, hd, q⟩ := h
  cases r with
  | cons rx rr =>
    cases rr with
    | cons rt rr =>
      cases rr
      cases rx
      have ec := hcv _ rt
      subst ec
      obtain ⟨hget, _⟩ := I.pin (a, oe) (List.mem_append.mpr (.inl List.mem_cons_self))
      obtain ⟨vs, hv⟩ := hf
      have hx : ObjOk X.prog X.w H s.heap d (.xd fs) := I.hok d _ hd
      obtain ⟨mA, hns, hrr⟩ := hx
      obtain ⟨od, ho, hl⟩ := lookIn_ns hns
      have J : PySem.W.InstAt s.heap a oe D (some od) := ⟨hget, hz.1, by unfold PySem.W.notCls; rw [hv] <;> rfl, by rw [hz.2]; exact ho⟩
      obtain ⟨cd, hcc, _⟩ := PySem.W.any_some C.hd
      exact PySem.W.kia_one (PySem.W.kitx_exc (gt := none) (by rw [hcc]; rfl) C.hg C.hk C.hs C.ha C.hn C.ht C.hm) I.kIn J e (fun z => nomatch z) fun tk => ⟨.bl b, H, I.kept (t' := tk) fun _ _ z => z, rfl, q⟩
end
theorem call_isEdX {X : Cx} {a D : Addr} {cls : Value} {d : Option Addr} {oe : Obj} {pn : List (Addr × Obj)} (C : ExcC X.K D) (hz : Zc cls d oe) (hf : ∃ vs, oe.data = .fields vs) : CallR (X.suite a ((a, oe) :: pn)) (.builtin "isinstance") (fun xs H Q => cls = .ref D ∧ ∃ dd, d = some dd ∧ ∃ (c : V) (cv : Value) (b : Bool) (fs : List (Str × V)), xs = [.ref a, c] ∧ (∀ u, RelV c u → u = cv) ∧ PySem.W.kitOne X.K (.ref D) cv = some b ∧ H dd = some (.xd fs) ∧ Q (.bl b) H) := by
  intro pins s σ H xs us Q I r h
  obtain ⟨rfl, dd, rfl, h⟩ := h
  exact call_isEd C hz hf pins s σ H xs us Q I r h
/-! repr of a plain thing -/
def reprV : V → Str
  | .non => "None"
  | .bl b => if b then "True" else "False"
  | .int i => toString i
  | .str z => reprText z
  | _ => ""
def reprOk : V → Prop
  | .non => True
  | .bl b => True
  | .int i => i.natAbs.log2 < 1920
  | .str z => (reprText z).length ≤ sizeLine
  | _ => False
theorem call_reprF {X : Cx} : CallR X (.builtin "repr") (fun xs H Q => ∃ v, xs = [v] ∧ reprOk v ∧ Q (.str (reprV v)) H) := by
  intro pins s σ H xs us Q I r h
  obtain ⟨v, rfl, hz, q⟩ := h
  obtain ⟨u, rfl, ru⟩ := r.one
  cases v with
  | non => cases ru; exact PySem.P.repr_of_none ⟨.str _, H, I.tok _, ⟨_, rfl⟩, q⟩
  | bl b => cases ru; exact PySem.P.repr_of_bool ⟨.str _, H, I.tok _, ⟨_, rfl⟩, q⟩
  | int i => obtain ⟨t, rfl⟩ := ru; exact PySem.P.repr_of_int hz ⟨.str _, H, I.tok _, ⟨_, rfl⟩, q⟩
  | str z => obtain ⟨t, rfl⟩ := ru; exact PySem.P.repr_of_str ⟨.str _, H, I.tok _, ⟨_, rfl⟩, q⟩ hz
  | _ => exact hz.elim
end K7E
end
/-! ## P30 -/
section
open PySem PySem.Spec PyProof.Rows L2
namespace K7
abbrev N__law_words_of : List Str := ["_law_state", "_law_cell", "_law_other", "_law_found", "_law_turn", "_law_word", "e"]
abbrev s__law_words_of : Stmt := topS 55
theorem sc__law_words_of : FnScope ["_law_state", "_law_cell", "_law_other", "_law_found", "_law_turn", "_law_word", "e"] ["_law_state", "_law_cell", "_law_other"] (defScope s__law_words_of) := ⟨rfl, rfl, rfl, by decide +kernel, rfl, by decide +kernel, by decide +kernel⟩
/-! ### what is refused -/
structure Te (K : PySem.W.Frag) (mg : Str → Option Value) (B L : Addr) : Prop where
  gL : mg "LandError" = some (.ref L)
  exB : ExcC K B
  xfB : XfC K B
  mB : PySem.W.exmOne K (.ref B) (.ref B) = some true
  kBL : PySem.W.kitOne K (.ref B) (.ref L) = some true
/-- a cell, or what is none -/
def CellS (n : Nat) (H : Hp) (x : V) (bx : Bool) : Prop := (bx = false ∧ ∃ c, x = .int (c : Nat) ∧ c < n) ∨ (bx = true ∧ Thing H x ∧ wholeV x 0 ((n : Nat) - 1) = false)
theorem CellS.same {n : Nat} {H H' : Hp} {x : V} {bx : Bool} (h : CellS n H x bx) (e : Same H H') : CellS n H' x bx := by
  rcases h with h | ⟨h1, h2, h3⟩
  · exact .inl h
  · exact .inr ⟨h1, h2.same e, h3⟩
theorem CellS.or {B : Addr} {n : Nat} {H : Hp} {x : V} {bx : Bool} {E : XK} {q : Nat → Prop} (h : CellS n H x bx) (hq : ∀ c, bx = false → x = .int (c : Nat) → c < n → q c) (hf : bx = true → Flies H B "cell" x E) : CellOr B n H x E q := by
  rcases h with ⟨h1, c, rfl, h2⟩ | ⟨h1, h2, h3⟩
  · exact .inl ⟨c, rfl, h2, hq c h1 rfl h2⟩
  · exact .inr ⟨h2, h3, hf h1⟩
def wO (bx by_ : Bool) (x y : V) (k : Nat) : Option V := if bx = true then some x else if (decide (4 ≤ k) && by_) = true then some y else none
theorem wO_x {bx by_ : Bool} {x y : V} {k : Nat} (h : bx = true) : wO bx by_ x y k = some x := if_pos h
theorem wO_1 {bx by_ : Bool} {x y : V} {k : Nat} (h : bx = false) (hk : k < 4) : wO bx by_ x y k = none := by
  unfold wO
  rw [h, if_neg (by decide), if_neg (by rw [decide_eq_false (by omega), Bool.false_and]; decide)]
theorem wO_2 {bx by_ : Bool} {x y : V} {k : Nat} (h : bx = false) (h2 : by_ = false) : wO bx by_ x y k = none := by
  unfold wO
  rw [h, h2, if_neg (by decide), if_neg (by rw [Bool.and_false]; decide)]
theorem wO_y {bx by_ : Bool} {x y : V} {k : Nat} (h : bx = false) (h2 : by_ = true) (hk : 4 ≤ k) : wO bx by_ x y k = some y := by
  unfold wO
  rw [h, h2, if_neg (by decide), if_pos (by rw [decide_eq_true hk]; rfl)]
def WAt (H : Hp) (v : V) : Option V → Prop
  | none => v = .str "let"
  | some z => ∃ t, v = .ref t ∧ H t = some (.tup [.str "none", z])
theorem WAt.mono {H H' : Hp} {v : V} {o : Option V} (h : WAt H v o) (i : ∀ b xs, H b = some (.tup xs) → H' b = some (.tup xs)) : WAt H' v o := by
  cases o with
  | none => exact h
  | some z =>
    obtain ⟨t, h1, h2⟩ := h
    exact ⟨t, h1, i _ _ h2⟩
theorem int_yes {i : Nat} {k : Int} (h : decide (V.int (i : Nat) = V.int k) = true) : ((i : Nat) : Int) = k := by
  have z := of_decide_eq_true h
  injection z
theorem int_no {i : Nat} {k : Int} (h : decide (V.int (i : Nat) = V.int k) = false) : ((i : Nat) : Int) ≠ k := fun e => of_decide_eq_false h (by rw [e])
section
variable {P : Program} {w : World} {K : PySem.W.Frag} {mg : Str → Option Value} {base : Heap} {a : AdL} {S fE fQ L : Addr}
variable {fsh fss fso fsp fsg foc fio : Addr} {dsh dss dso dsp dsg doc dio : FuncData}
variable (msh : Meth K S "hand" fsh) (Gsh : FnOk P w K mg base (L2.CX P w) 5 fsh dsh ["self", "a"] (spSHand a S)) (bsh : Binds K dsh ["self", "a"] [])
variable (mss : Meth K S "standing" fss) (Gss : FnOk P w K mg base (L2.CX P w) 5 fss dss ["self", "a", "b"] (spSStand a S)) (bss : Binds K dss ["self", "a", "b"] [])
variable (mso : Meth K S "is_own" fso) (Gso : FnOk P w K mg base (L2.CX P w) 5 fso dso ["self", "a", "b"] (spSOwn a S)) (bso : Binds K dso ["self", "a", "b"] [])
variable (msp : Meth K S "passes" fsp) (Gsp : FnOk P w K mg base (L2.CX P w) 6 fsp dsp ["self", "a", "b"] (spSPass a S)) (bsp : Binds K dsp ["self", "a", "b"] [])
variable (msg : Meth K S "passing" fsg) (Gsg : FnOk P w K mg base (L2.CX P w) 5 fsg dsg ["self", "a"] (spSPassing a S)) (bsg : Binds K dsg ["self", "a"] [])
variable (moc : Meth K S "own_cells" foc) (Goc : FnOk P w K mg base (L2.CX P w) 5 foc doc ["self", "a"] (spSOwnC a S)) (boc : Binds K doc ["self", "a"] [])
variable (mio : Meth K S "is_open" fio) (Gio : FnOk P w K mg base (L2.CX P w) 6 fio dio ["self", "a"] (spSOpen a S)) (bio : Binds K dio ["self", "a"] [])
def spWords (a : AdL) (S : Addr) : Sp := fun vs H Q _ => ∃ (p l : Addr) (n : Nat) (es : List (Nat × Nat)) (rd hs : List Nat) (tab : List (List Nat)) (x y : V) (bx by_ : Bool), vs = [.ref p, x, y] ∧ StateO a.C S H p l n es rd hs tab ∧ CellS n H x bx ∧ CellS n H y by_ ∧
  ∀ H' r ws, Same H H' → H r = none → H' r = some (.lst ws) → ws.length = 7 → (∀ (k : Nat) v, ws[k]? = some v → WAt H' v (wO bx by_ x y k)) → Q (.ref r) H'
include msh Gsh bsh mss Gss bss mso Gso bso msp Gsp bsp msg Gsg bsg moc Goc boc mio Gio bio in
theorem ok_words (T : Tl K mg a) (TS : Ts K mg S fQ) (T3 : Te K mg a.B L) {f : Addr} {fd : FuncData} (F : Fun K "_law_words_of" "_law_words_of" s__law_words_of f fd) (m_range : mg "range" = none) (m_isinstance : mg "isinstance" = none) : FnOk P w K mg base CX0 7 f fd ["_law_state", "_law_cell", "_law_other"] (spWords a S) := by
  refine F.ok sc__law_words_of (fun vs H Q E h => ?_) (fun cdv A outer s H vs Q E hr h => ?_)
  · obtain ⟨p, l, n, es, rd, hs, tab, x, y, bx, by_, rfl, _⟩ := h
    rfl
  · obtain ⟨p, l, n, es, rd, hs, tab, x, y, bx, by_, rfl, W, cx, cy, k⟩ := h
    refine ⟨_, (pss_cons (ps_set (i := 3) sc__law_words_of.nd rfl (by first | exact Or.inl rfl | exact Or.inr rfl) (pe_lst pa_nil))
 (pss_cons (ps_for PassesOwn.never rfl (pi_range1 rfl m_range (pa_cons pe_int pa_nil)) (pg_name (i := 4) sc__law_words_of.nd rfl (by first | exact Or.inl rfl | exact Or.inr rfl))
  (pss_cons (ps_set (i := 5) sc__law_words_of.nd rfl (by first | exact Or.inl rfl | exact Or.inr rfl) pe_str)
 (Evl.pss_cut (ps_try_as (i := 6) rfl rfl sc__law_words_of.nd rfl rfl ⟨rfl, by decide, .inl T.gB⟩ takes0 (fun W pn xe tk _ => (pss_one (ps_if (pt_cmpR op_eq (pv 4) pe_int (nomark _))
  (pss_one (ps_expr (K7E.pe_methW (pv 0) TS.cl msh Gsh (hr.mono (by decide)) bsh .nil tk (pa_cons (pv 1) pa_nil))))
  (pss_one (ps_if (pt_cmpR op_eq (pv 4) pe_int (nomark _))
  (pss_one (ps_expr (K7E.pe_methW (pv 0) TS.cl moc Goc (hr.mono (by decide)) boc .nil tk (pa_cons (pv 1) pa_nil))))
  (pss_one (ps_if (pt_cmpR op_eq (pv 4) pe_int (nomark _))
  (pss_one (ps_expr (K7E.pe_methW (pv 0) TS.cl msg Gsg (hr.mono (by decide)) bsg .nil tk (pa_cons (pv 1) pa_nil))))
  (pss_one (ps_if (pt_cmpR op_eq (pv 4) pe_int (nomark _))
  (pss_one (ps_expr (K7E.pe_methW (pv 0) TS.cl mio Gio (hr.mono (by decide)) bio .nil tk (pa_cons (pv 1) pa_nil))))
  (pss_one (ps_if (pt_cmpR op_eq (pv 4) pe_int (nomark _))
  (pss_one (ps_expr (K7E.pe_methW (pv 0) TS.cl mss Gss (hr.mono (by decide)) bss .nil tk (pa_cons (pv 1) (pa_cons (pv 2) pa_nil)))))
  (pss_one (ps_if (pt_cmpR op_eq (pv 4) pe_int (nomark _))
  (pss_one (ps_expr (K7E.pe_methW (pv 0) TS.cl mso Gso (hr.mono (by decide)) bso .nil tk (pa_cons (pv 1) (pa_cons (pv 2) pa_nil)))))
  (pss_one (ps_expr (K7E.pe_methW (pv 0) TS.cl msp Gsp (hr.mono (by decide)) bsp .nil tk (pa_cons (pv 1) (pa_cons (pv 2) pa_nil)))))))))))))))))) (fun b oe cls d pn hz hf => (pss_one (ps_set (i := 5) sc__law_words_of.nd rfl (by first | exact Or.inl rfl | exact Or.inr rfl) (pe_ifExp (pt_val (pe_callB (K7E.call_isEdX T3.exB hz hf) (by rfl) m_isinstance boot_isinstance (pa_cons (pv 6) (pa_cons (pe_glob (v := .ref _) (by rfl) T3.gL rfl) pa_nil)))) (pe_tup (pa_cons pe_str (pa_cons (pe_xf T3.xfB T.nB hz hf (pv 6)) pa_nil))) pe_str)))))
 (pss_one (ps_expr (pe_bm PySem.F.plainAttrs_list PySem.F.slot_list_append PySem.F.type_list_append mt_append (pv 3) (pa_cons (pv 5) pa_nil)))))))
 (pss_one (ps_ret (pv 3))))), ?_⟩
    obtain ⟨dx, th, tt, rs, w1, _⟩ := W.at_
    refine ⟨by show 0 ≤ sizeLine; decide, fun F0 nF => ?_⟩
    refine ⟨7, rfl, by decide, by decide, for_range (lo := 0) (n := 7) (fun i σ H' => ∃ ws y4 y5, σ = [some (.ref p), some x, some y, some (.ref F0), y4, y5, none] ∧ Same H H' ∧ H' F0 = some (.lst ws) ∧ ws.length = i ∧ ∀ (k : Nat) v, ws[k]? = some v → WAt H' v (wO bx by_ x y k)) ⟨[], none, none, rfl, al nF, upd_same, rfl, fun k v h => nomatch h⟩ (fun i σ H4 hi pv => ?_) (fun σ H4 pv => ?_)⟩
    · obtain ⟨ws, y4, y5, rfl, e4, hF4, wl, hw⟩ := pv
      rw [show (0 : Int) + ((i : Nat) : Int) = (i : Nat) from Int.zero_add _]
      have W4 := W.same e4
      have h4 := e4 _ _ w1
      have cx4 := cx.same e4
      have cy4 := cy.same e4
      refine ⟨fun τ H' => ∃ v, τ = [some (.ref p), some x, some y, some (.ref F0), some (.int (i : Nat)), some v, none] ∧ Same H4 H' ∧ WAt H' v (wO bx by_ x y i), ?_, fun τ H5 hM => ?_⟩
      · refine ⟨_, rfl, rfl, _, rfl, iteB (fun t0 => ?_) (fun t0 => ?_)⟩
        · have ei := int_yes t0
          exact ⟨_, rfl, p, dx, _, rfl, h4, rfl, _, rfl, p, l, n, es, rd, hs, tab, _, rfl, W4, cx4.or (fun c b0 ec hc => fun H' e => ⟨_, rfl, e, by rw [wO_1 b0 (by omega)]; rfl⟩) (fun b0 H' d e nd hd => ⟨true, T3.mB, fun _ b hb' => ⟨_, rfl, rfl, d, rfl, .ref L, .ref L, true, _, rfl, fun u h => h, T3.kBL, hd, true, rfl, iteT ⟨_, rfl, rfl, rfl, d, _, _, rfl, hd, rfl, by show 2 ≤ sizeLine; decide, fun u nu => ⟨.ref u, rfl, e.trans (al nu), by rw [wO_x b0]; exact ⟨u, rfl, upd_same⟩⟩⟩⟩, fun z => nomatch z⟩)⟩
        refine ⟨_, rfl, rfl, _, rfl, iteB (fun t1 => ?_) (fun t1 => ?_)⟩
        · have ei := int_yes t1
          exact ⟨_, rfl, p, dx, _, rfl, h4, rfl, _, rfl, p, l, n, es, rd, hs, tab, _, rfl, W4, cx4.or (fun c b0 ec hc => fun H' u e nu hu => ⟨_, rfl, e, by rw [wO_1 b0 (by omega)]; rfl⟩) (fun b0 H' d e nd hd => ⟨true, T3.mB, fun _ b hb' => ⟨_, rfl, rfl, d, rfl, .ref L, .ref L, true, _, rfl, fun u h => h, T3.kBL, hd, true, rfl, iteT ⟨_, rfl, rfl, rfl, d, _, _, rfl, hd, rfl, by show 2 ≤ sizeLine; decide, fun u nu => ⟨.ref u, rfl, e.trans (al nu), by rw [wO_x b0]; exact ⟨u, rfl, upd_same⟩⟩⟩⟩, fun z => nomatch z⟩)⟩
        refine ⟨_, rfl, rfl, _, rfl, iteB (fun t2 => ?_) (fun t2 => ?_)⟩
        · have ei := int_yes t2
          exact ⟨_, rfl, p, dx, _, rfl, h4, rfl, _, rfl, p, l, n, es, rd, hs, tab, _, rfl, W4, cx4.or (fun c b0 ec hc => fun H' u e nu hu => ⟨_, rfl, e, by rw [wO_1 b0 (by omega)]; rfl⟩) (fun b0 H' d e nd hd => ⟨true, T3.mB, fun _ b hb' => ⟨_, rfl, rfl, d, rfl, .ref L, .ref L, true, _, rfl, fun u h => h, T3.kBL, hd, true, rfl, iteT ⟨_, rfl, rfl, rfl, d, _, _, rfl, hd, rfl, by show 2 ≤ sizeLine; decide, fun u nu => ⟨.ref u, rfl, e.trans (al nu), by rw [wO_x b0]; exact ⟨u, rfl, upd_same⟩⟩⟩⟩, fun z => nomatch z⟩)⟩
        refine ⟨_, rfl, rfl, _, rfl, iteB (fun t3 => ?_) (fun t3 => ?_)⟩
        · have ei := int_yes t3
          exact ⟨_, rfl, p, dx, _, rfl, h4, rfl, _, rfl, p, l, n, es, rd, hs, tab, _, rfl, W4, cx4.or (fun c b0 ec hc => fun H' b e hb => ⟨_, rfl, e, by rw [wO_1 b0 (by omega)]; rfl⟩) (fun b0 H' d e nd hd => ⟨true, T3.mB, fun _ b hb' => ⟨_, rfl, rfl, d, rfl, .ref L, .ref L, true, _, rfl, fun u h => h, T3.kBL, hd, true, rfl, iteT ⟨_, rfl, rfl, rfl, d, _, _, rfl, hd, rfl, by show 2 ≤ sizeLine; decide, fun u nu => ⟨.ref u, rfl, e.trans (al nu), by rw [wO_x b0]; exact ⟨u, rfl, upd_same⟩⟩⟩⟩, fun z => nomatch z⟩)⟩
        refine ⟨_, rfl, rfl, _, rfl, iteB (fun t4 => ?_) (fun t4 => ?_)⟩
        · have ei := int_yes t4
          exact ⟨_, rfl, p, dx, _, rfl, h4, rfl, _, rfl, _, rfl, p, l, n, es, rd, hs, tab, _, _, rfl, W4, cx4.or (fun c b0 ec hc => cy4.or (fun d b1 ed hd2 => fun H' e => ⟨_, rfl, e, by rw [wO_2 b0 b1]; rfl⟩) (fun b1 H' d e nd hd => ⟨true, T3.mB, fun _ b hb' => ⟨_, rfl, rfl, d, rfl, .ref L, .ref L, true, _, rfl, fun u h => h, T3.kBL, hd, true, rfl, iteT ⟨_, rfl, rfl, rfl, d, _, _, rfl, hd, rfl, by show 2 ≤ sizeLine; decide, fun u nu => ⟨.ref u, rfl, e.trans (al nu), by rw [wO_y b0 b1 (by omega)]; exact ⟨u, rfl, upd_same⟩⟩⟩⟩, fun z => nomatch z⟩)) (fun b0 H' d e nd hd => ⟨true, T3.mB, fun _ b hb' => ⟨_, rfl, rfl, d, rfl, .ref L, .ref L, true, _, rfl, fun u h => h, T3.kBL, hd, true, rfl, iteT ⟨_, rfl, rfl, rfl, d, _, _, rfl, hd, rfl, by show 2 ≤ sizeLine; decide, fun u nu => ⟨.ref u, rfl, e.trans (al nu), by rw [wO_x b0]; exact ⟨u, rfl, upd_same⟩⟩⟩⟩, fun z => nomatch z⟩)⟩
        refine ⟨_, rfl, rfl, _, rfl, iteB (fun t5 => ?_) (fun t5 => ?_)⟩
        · have ei := int_yes t5
          exact ⟨_, rfl, p, dx, _, rfl, h4, rfl, _, rfl, _, rfl, p, l, n, es, rd, hs, tab, _, _, rfl, W4, cx4.or (fun c b0 ec hc => cy4.or (fun d b1 ed hd2 => fun H' e => ⟨_, rfl, e, by rw [wO_2 b0 b1]; rfl⟩) (fun b1 H' d e nd hd => ⟨true, T3.mB, fun _ b hb' => ⟨_, rfl, rfl, d, rfl, .ref L, .ref L, true, _, rfl, fun u h => h, T3.kBL, hd, true, rfl, iteT ⟨_, rfl, rfl, rfl, d, _, _, rfl, hd, rfl, by show 2 ≤ sizeLine; decide, fun u nu => ⟨.ref u, rfl, e.trans (al nu), by rw [wO_y b0 b1 (by omega)]; exact ⟨u, rfl, upd_same⟩⟩⟩⟩, fun z => nomatch z⟩)) (fun b0 H' d e nd hd => ⟨true, T3.mB, fun _ b hb' => ⟨_, rfl, rfl, d, rfl, .ref L, .ref L, true, _, rfl, fun u h => h, T3.kBL, hd, true, rfl, iteT ⟨_, rfl, rfl, rfl, d, _, _, rfl, hd, rfl, by show 2 ≤ sizeLine; decide, fun u nu => ⟨.ref u, rfl, e.trans (al nu), by rw [wO_x b0]; exact ⟨u, rfl, upd_same⟩⟩⟩⟩, fun z => nomatch z⟩)⟩
        have n0 := int_no t0; have n1 := int_no t1; have n2 := int_no t2; have n3 := int_no t3; have n4 := int_no t4; have n5 := int_no t5
        exact ⟨_, rfl, p, dx, _, rfl, h4, rfl, _, rfl, _, rfl, p, l, n, es, rd, hs, tab, _, _, rfl, W4, cx4.or (fun c b0 ec hc => cy4.or (fun d b1 ed hd2 => fun H' e => ⟨_, rfl, e, by rw [wO_2 b0 b1]; rfl⟩) (fun b1 H' d e nd hd => ⟨true, T3.mB, fun _ b hb' => ⟨_, rfl, rfl, d, rfl, .ref L, .ref L, true, _, rfl, fun u h => h, T3.kBL, hd, true, rfl, iteT ⟨_, rfl, rfl, rfl, d, _, _, rfl, hd, rfl, by show 2 ≤ sizeLine; decide, fun u nu => ⟨.ref u, rfl, e.trans (al nu), by rw [wO_y b0 b1 (by omega)]; exact ⟨u, rfl, upd_same⟩⟩⟩⟩, fun z => nomatch z⟩)) (fun b0 H' d e nd hd => ⟨true, T3.mB, fun _ b hb' => ⟨_, rfl, rfl, d, rfl, .ref L, .ref L, true, _, rfl, fun u h => h, T3.kBL, hd, true, rfl, iteT ⟨_, rfl, rfl, rfl, d, _, _, rfl, hd, rfl, by show 2 ≤ sizeLine; decide, fun u nu => ⟨.ref u, rfl, e.trans (al nu), by rw [wO_x b0]; exact ⟨u, rfl, upd_same⟩⟩⟩⟩, fun z => nomatch z⟩)⟩
      · obtain ⟨v, rfl, e5, hv⟩ := hM
        have hF5 := e5 _ _ hF4
        refine ⟨_, rfl, .inl ⟨rfl, _, .inl (.inl hF5)⟩, _, rfl, F0, _, _, rfl, rfl, hF5, small1000 (by omega), ?_⟩
        have nFt : ∀ b xs, H5 b = some (.tup xs) → upd H5 F0 (.lst (ws ++ [v])) b = some (.tup xs) := fun b xs hb => by
          rw [upd_ne (fun e => by rw [e, hF5] at hb; cases hb)]
          exact hb
        refine ⟨ws ++ [v], _, _, rfl, fun b o hb => ?_, upd_same, by rw [List.length_append, wl]; rfl, fun k v' hk => ?_⟩
        · rw [upd_ne (ne_of_none hb nF)]
          exact e5 _ _ (e4 _ _ hb)
        · by_cases hlt : k < ws.length
          · rw [List.getElem?_append_left hlt] at hk
            exact (hw k v' hk).mono fun b xs hb => nFt _ _ (e5 _ _ hb)
          · rw [List.getElem?_append_right (by omega)] at hk
            have kz : k - ws.length = 0 := by
              have z := (List.getElem?_eq_some_iff.mp hk).1
              have z : k - ws.length < 1 := z
              omega
            rw [kz] at hk
            obtain rfl : v = v' := Option.some.inj hk
            obtain rfl : k = i := by omega
            exact hv.mono nFt
    · obtain ⟨ws, y4, y5, rfl, e4, hF4, wl, hw⟩ := pv
      exact ⟨_, rfl, k _ F0 ws e4 nF hF4 wl hw⟩
end
end K7
end
/-! ## P31 -/
section
open PySem PySem.Spec PyProof.Rows L2
namespace K7
abbrev N__law_twin : List Str := ["_law_hand_here", "_law_state", "_law_far_here", "_law_name"]
abbrev s__law_twin : Stmt := topS 58
theorem sc__law_twin : FnScope ["_law_hand_here", "_law_state", "_law_far_here", "_law_name"] ["_law_hand_here", "_law_state"] (defScope s__law_twin) := ⟨rfl, rfl, rfl, by decide +kernel, rfl, by decide +kernel, by decide +kernel⟩
abbrev N__law_turned : List Str := ["_law_hand_here", "_law_state", "_law_n", "_law_a", "_law_b", "_law_words", "_law_table_here", "_law_row", "_law_word"]
abbrev s__law_turned : Stmt := topS 59
theorem sc__law_turned : FnScope ["_law_hand_here", "_law_state", "_law_n", "_law_a", "_law_b", "_law_words", "_law_table_here", "_law_row", "_law_word"] ["_law_hand_here", "_law_state"] (defScope s__law_turned) := ⟨rfl, rfl, rfl, by decide +kernel, rfl, by decide +kernel, by decide +kernel⟩
/-! ### the same state under other hands, and with another right -/
section
variable {P : Program} {w : World} {K : PySem.W.Frag} {mg : Str → Option Value} {base : Heap} {a : AdL} {S fE fQ : Addr}
def spTwin : Sp := fun vs H Q _ => ∃ (h c s : Addr) (n : Nat) (hs : List Nat) (tab : List (List Nat)), vs = [.ref h, .ref s] ∧ Hand H h c ∧ ASt H s n hs tab ∧ n ≤ 5 ∧
  ∀ H' u th tt rs (m : Nat), Stay h c H H' → H u = none → 10 ^ 30 ≤ m + 4 → m ≤ 10 ^ 30 → H' u = some (.tup [.ref th, .ref tt]) → H' th = some (.lst (hs.map fun x => .int ((m : Int) - (x : Nat)))) → H' tt = some (.lst (rs.map V.ref)) → RLs H' rs tab → Q (.ref u) H'
theorem ok_twin {f fdr : Addr} {fd fddr : FuncData} (F : Fun K "_law_twin" "_law_twin" s__law_twin f fd)
    (Gdr : FnOk P w K mg base CX0 2 fdr fddr ["_law_hand_here", "_law_many"] spDraw) (gdr : mg "_law_draw" = some (.ref fdr)) (kdr : PySem.W.keepIn K (.ref fdr) = true) (bdr : Binds K fddr ["_law_hand_here", "_law_many"] []) : FnOk P w K mg base CX0 3 f fd ["_law_hand_here", "_law_state"] spTwin := by
  refine F.ok sc__law_twin (fun vs H Q E h => ?_) (fun cdv A outer s H vs Q E hr h => ?_)
  · obtain ⟨h, c, s, n, hs, tab, rfl, _⟩ := h
    rfl
  · obtain ⟨h, c, s, n, hs, tab, rfl, hh, A0, n5, q⟩ := h
    refine ⟨_, (pss_cons (ps_set (i := 2) sc__law_twin.nd rfl (by first | exact Or.inl rfl | exact Or.inr rfl) (pe_op op_sub (pe_op op_pow pe_int pe_int) (pe_call Gdr (hr.mono (by decide)) (by rfl) gdr kdr bdr .nil pass0 (pa_cons (pv 0) (pa_cons pe_int pa_nil)))))
 (pss_one (ps_ret (pe_tup (pa_cons (pe_lc (own := [("_law_name", 3)]) (g := gName 3) (tt := tYes) rfl sc__law_twin.nd (pi_list (pe_ix ix_tup (pv 1) pe_int (fun _ _ => rfl))) (blkOk_by (own := [("_law_name", 3)]) (N := N__law_twin) (sc := defScope s__law_twin) (by decide +kernel)) (fun _ _ _ _ _ => (pg_name (i := 3) sc__law_twin.nd rfl (by first | exact Or.inl rfl | exact Or.inr rfl))) (fun _ _ _ _ _ => pts_nil) (fun _ _ _ _ _ => (pe_op op_sub (pv 2) (pv 3)))) (pa_cons (pe_ix ix_tup (pv 1) pe_int (fun _ _ => rfl)) pa_nil)))))), ?_⟩
    have big2 : (10 : Int) ^ (30 : Int).toNat = 10 ^ 30 := by decide
    refine ⟨_, _, rfl, rfl, ⟨by decide, by decide, by decide⟩, _, rfl, h, c, 5, rfl, hh, by decide, by decide, fun H1 r d1 r0 r1 => ⟨_, _, rfl, rfl, ?_⟩⟩
    rw [big2]
    obtain ⟨m, em⟩ : ∃ m : Nat, (10 : Int) ^ 30 - r = (m : Nat) := ⟨((10 : Int) ^ 30 - r).toNat, by omega⟩
    show gName 2 (V.int ((10 : Int) ^ 30 - r)) _ _ _
    rw [em]
    have st1 := Stay.of_drawn hh d1
    have A1 := A0.stay st1
    obtain ⟨th, tt, rs, h1, h2, h3, h4⟩ := A1.at_
    refine ⟨_, rfl, s, _, _, _, rfl, rfl, .inl (.inl h1), atI_nat (j := 0) rfl, th, rfl, ⟨_, .inl (.inl h2)⟩, fun D hD => lc_list (xs := ints_ hs) (fun j H2 => Same H1 H2 ∧ H2 D = some (.lst ((hs.take j).map fun x => .int ((m : Int) - (x : Nat))))) ⟨al hD, upd_same⟩ (fun j H2 _ pv => .inl (.inl (pv.1 _ _ h2))) (fun j x H2 hx pv => ?_) (fun H2 pv => ?_)⟩
    · obtain ⟨e2, hD2⟩ := pv
      have hj := (List.getElem?_eq_some_iff.mp hx).1
      rw [ints_len, A0.st.hl] at hj
      unfold ints_ at hx
      rw [List.getElem?_map] at hx
      obtain ⟨y, hy, rfl⟩ := Option.map_eq_some_iff.mp hx
      refine ⟨rfl, _, rfl, _, rfl, _, _, rfl, rfl, _, hD2, ?_, fun b o hb => ?_, ?_⟩
      · rw [List.length_map, List.length_take]
        exact small1000 (by omega)
      · rw [upd_ne (ne_of_none hb hD)]
        exact e2 _ _ hb
      · rw [upd_same, List.take_add_one, hy, List.map_append]
        rfl
    · obtain ⟨e2, hD2⟩ := pv
      rw [ints_len, List.take_length] at hD2
      refine ⟨_, rfl, s, _, _, _, rfl, rfl, .inl (.inl (e2 _ _ h1)), atI_nat (j := 1) rfl, by show 2 ≤ sizeLine; decide, fun u nu => ?_⟩
      have e3 := al (o := .tup [.ref D, .ref tt]) nu
      have st3 := st1.same (e2.trans e3)
      exact q _ u D tt rs m st3 (st1.free (e2.free nu)) (by omega) (by omega) upd_same (e3 _ _ hD2) ((e2.trans e3) _ _ h3) (h4.same (e2.trans e3))
/-! the standing at a place -/
def setT (tab : List (List Nat)) (x y k : Nat) : List (List Nat) := tab.set x ((tab.getD x []).set y k)
theorem tabAt_set {tab : List (List Nat)} {n x y k : Nat} (tl : tab.length = n) (rl : ∀ r ∈ tab, r.length = n) (hx : x < n) (hy : y < n) (i j : Nat) : tabAt (setT tab x y k) i j = if i = x ∧ j = y then k else tabAt tab i j := by
  unfold tabAt setT
  have lx : (tab.getD x []).length = n := by
    rw [List.getD_eq_getElem?_getD, List.getElem?_eq_getElem (by omega)]
    exact rl _ (List.getElem_mem _)
  by_cases e : i = x
  · subst e
    rw [List.getD_eq_getElem?_getD (l := tab.set i _), List.getElem?_set_self (by omega)]
    show ((tab.getD i []).set y k).getD j 0 = _
    rw [List.getD_eq_getElem?_getD]
    by_cases e2 : j = y
    · subst e2
      rw [List.getElem?_set_self (by omega), if_pos ⟨rfl, rfl⟩]
      rfl
    · rw [List.getElem?_set_ne (Ne.symm e2), if_neg (fun z => e2 z.2), ← List.getD_eq_getElem?_getD]
  · rw [List.getD_eq_getElem?_getD (l := tab.set x _), List.getElem?_set_ne (Ne.symm e), if_neg (fun z => e z.1), ← List.getD_eq_getElem?_getD]
theorem setT_ok {n x y k : Nat} {hs : List Nat} {tab : List (List Nat)} (S : StTab n hs tab) (hx : x < n) (hy : y < n) (ne : x ≠ y) (h1 : hsAt hs x = hsAt hs y → k = 0 ∨ 3 ≤ k) (h2 : hsAt hs x ≠ hsAt hs y → k < 3) : StTab n hs (setT tab x y k) := by
  have lx : (tab.getD x []).length = n := by
    rw [List.getD_eq_getElem?_getD, List.getElem?_eq_getElem (by rw [S.tl]; omega)]
    exact S.rl _ (List.getElem_mem _)
  refine ⟨S.hl, S.hm, by unfold setT; rw [List.length_set]; exact S.tl, fun r hr => ?_, fun i r hi => ?_, fun i j hi hj ne' d => ?_, fun i j hi hj ne' d => ?_⟩
  · rcases List.mem_or_eq_of_mem_set hr with h | h
    · exact S.rl r h
    · rw [h, List.length_set, lx]
  · unfold setT at hi
    by_cases e : i = x
    · subst e
      rw [List.getElem?_set_self (by rw [S.tl]; omega)] at hi
      obtain rfl := Option.some.inj hi
      rw [List.getElem?_set_ne (Ne.symm ne)]
      have g : tab[i]? = some (tab.getD i []) := by
        rw [List.getD_eq_getElem?_getD, List.getElem?_eq_getElem (by rw [S.tl]; omega)]
        rfl
      exact S.diag i _ g
    · rw [List.getElem?_set_ne (Ne.symm e)] at hi
      exact S.diag i r hi
  · rw [tabAt_set S.tl S.rl hx hy]
    by_cases z : i = x ∧ j = y
    · rw [if_pos z]
      obtain ⟨rfl, rfl⟩ := z
      exact h2 d
    · rw [if_neg z]
      exact S.apart i j hi hj ne' d
  · rw [tabAt_set S.tl S.rl hx hy]
    by_cases z : i = x ∧ j = y
    · rw [if_pos z]
      obtain ⟨rfl, rfl⟩ := z
      exact h1 d
    · rw [if_neg z]
      exact S.same i j hi hj ne' d
theorem getD_at (l : List Nat) (y : Nat) (h : y < l.length) : l[y] = l.getD y 0 := by
  rw [List.getD_eq_getElem?_getD, List.getElem?_eq_getElem h]
  rfl
theorem setT_ne {n x y k : Nat} {tab : List (List Nat)} (tl : tab.length = n) (rl : ∀ r ∈ tab, r.length = n) (hx : x < n) (hy : y < n) (h : wd k ≠ wd (tabAt tab x y)) : tabW (setT tab x y k) ≠ tabW tab := by
  intro e
  have lx : (tab.getD x []).length = n := by
    rw [List.getD_eq_getElem?_getD, List.getElem?_eq_getElem (by omega)]
    exact rl _ (List.getElem_mem _)
  have e1 := congrArg (fun l : List (List Str) => l[x]?) e
  unfold tabW setT at e1
  have e1 : ((tab.set x ((tab.getD x []).set y k)).map fun r => r.map wd)[x]? = (tab.map fun r => r.map wd)[x]? := e1
  rw [List.getElem?_map, List.getElem?_map, List.getElem?_set_self (by omega), List.getElem?_eq_getElem (by omega)] at e1
  have e2 := Option.some.inj e1
  have e3 := congrArg (fun l : List Str => l[y]?) e2
  have e3 : (((tab.getD x []).set y k).map wd)[y]? = (tab[x].map wd)[y]? := e3
  have g : tab.getD x [] = tab[x] := by
    rw [List.getD_eq_getElem?_getD, List.getElem?_eq_getElem (by omega)]
    rfl
  rw [List.getElem?_map, List.getElem?_map, List.getElem?_set_self (by omega), List.getElem?_eq_getElem (l := tab[x]) (i := y) (by rw [← g]; omega)] at e3
  have e4 : wd k = wd (tab[x][y]'(by rw [← g]; omega)) := Option.some.inj e3
  refine h (e4.trans (congrArg wd ?_))
  unfold tabAt
  have z : (tab.getD x []).getD y 0 = tab[x].getD y 0 := by rw [g]
  exact (getD_at _ _ _).trans z.symm
def spTurn : Sp := fun vs H Q _ => ∃ (h c s : Addr) (n : Nat) (hs : List Nat) (tab : List (List Nat)), vs = [.ref h, .ref s] ∧ Hand H h c ∧ ASt H s n hs tab ∧ 2 ≤ n ∧ n ≤ 5 ∧
  ∀ H' u tab', Stay h c H H' → H u = none → ASt H' u n hs tab' → tabW tab' ≠ tabW tab → Q (.ref u) H'
theorem ok_turn {f fdr fpk : Addr} {fd fddr fdpk : FuncData} (F : Fun K "_law_turned" "_law_turned" s__law_turned f fd)
    (Gdr : FnOk P w K mg base CX0 2 fdr fddr ["_law_hand_here", "_law_many"] spDraw) (gdr : mg "_law_draw" = some (.ref fdr)) (kdr : PySem.W.keepIn K (.ref fdr) = true) (bdr : Binds K fddr ["_law_hand_here", "_law_many"] [])
    (Gpk : FnOk P w K mg base CX0 3 fpk fdpk ["_law_hand_here", "_law_things"] spPick) (gpk : mg "_law_pick" = some (.ref fpk)) (kpk : PySem.W.keepIn K (.ref fpk) = true) (bpk : Binds K fdpk ["_law_hand_here", "_law_things"] [])
    (m_len : mg "len" = none) (m_int : mg "int" = none) (m_list : mg "list" = none) : FnOk P w K mg base CX0 4 f fd ["_law_hand_here", "_law_state"] spTurn := by
  refine F.ok sc__law_turned (fun vs H Q E h => ?_) (fun cdv A outer s H vs Q E hr h => ?_)
  · obtain ⟨h, c, s, n, hs, tab, rfl, _⟩ := h
    rfl
  · obtain ⟨h, c, s, n, hs, tab, rfl, hh, A0, n2, n5, q⟩ := h
    refine ⟨_, (pss_cons (ps_set (i := 2) sc__law_turned.nd rfl (by first | exact Or.inl rfl | exact Or.inr rfl) (pe_callB call_len_seq (by rfl) m_len boot_len (pa_cons (pe_ix ix_tup (pv 1) pe_int (fun _ _ => rfl)) pa_nil)))
 (pss_cons (ps_set (i := 3) sc__law_turned.nd rfl (by first | exact Or.inl rfl | exact Or.inr rfl) (pe_call Gdr (hr.mono (by decide)) (by rfl) gdr kdr bdr .nil pass0 (pa_cons (pv 0) (pa_cons (pv 2) pa_nil))))
 (pss_cons (ps_set (i := 4) sc__law_turned.nd rfl (by first | exact Or.inl rfl | exact Or.inr rfl) (pe_op op_mod (pe_callTy call_int1 (by rfl) m_int boot_int (pa_cons (pe_op op_add (pe_op op_add (pv 3) pe_int) (pe_call Gdr (hr.mono (by decide)) (by rfl) gdr kdr bdr .nil pass0 (pa_cons (pv 0) (pa_cons (pe_op op_sub (pv 2) pe_int) pa_nil)))) pa_nil)) (pv 2)))
 (Evl.pss_cut (ps_set (i := 5) sc__law_turned.nd rfl (by first | exact Or.inl rfl | exact Or.inr rfl) (pe_ifExp (pt_cmpR op_eq (pe_ix ix_list (pe_ix ix_tup (pv 1) pe_int (fun _ _ => rfl)) (pv 3) (fun _ _ => rfl)) (pe_ix ix_list (pe_ix ix_tup (pv 1) pe_int (fun _ _ => rfl)) (pv 4) (fun _ _ => rfl)) (nomark _)) (pe_lst (pa_cons pe_str (pa_cons pe_str pa_nil))) (pe_lst (pa_cons pe_str (pa_cons pe_str (pa_cons pe_str pa_nil))))))
 (Evl.pss_cut (ps_setLc (i := 6) (own := [("_law_row", 7)]) (g := gName 7) (tt := tYes) rfl sc__law_turned.nd rfl rfl (sw_true rfl rfl rfl (by decide +kernel)) (pi_list (pe_ix ix_tup (pv 1) pe_int (fun _ _ => rfl))) (blkOk_by (own := [("_law_row", 7)]) (N := N__law_turned) (sc := defScope s__law_turned) (by decide +kernel)) (fun _ _ _ _ _ => (pg_name (i := 7) sc__law_turned.nd rfl (by first | exact Or.inl rfl | exact Or.inr rfl))) (fun _ _ _ _ _ => pts_nil) (fun _ _ _ _ _ => (pe_callTy (show CallR _ (.type "list") (K7.rLst K) from call_list_of) (by rfl) m_list boot_list (pa_cons (pv 7) pa_nil))))
 (pss_cons (ps_asg (pe_call Gpk (hr.mono (by decide)) (by rfl) gpk kpk bpk .nil pass0 (pa_cons (pv 0) (pa_cons (pe_lc (own := [("_law_word", 8)]) (g := gName 8) rfl sc__law_turned.nd (pi_list (pv 5)) (blkOk_by (own := [("_law_word", 8)]) (N := N__law_turned) (sc := defScope s__law_turned) (by decide +kernel)) (fun _ _ _ _ _ => (pg_name (i := 8) sc__law_turned.nd rfl (by first | exact Or.inl rfl | exact Or.inr rfl))) (fun _ _ _ _ _ => (pts_one (pt_cmpR op_ne (pv 8) (pe_ix (show IxR _ (rIxL K) from ix_list) (pe_ix (show IxR _ (rIxL K) from ix_list) (pe_ix (show IxR _ (rIxT K) from ix_tup) (pv 1) pe_int (fun _ _ => rfl)) (pv 3) (fun _ _ => rfl)) (pv 4) (fun _ _ => rfl)) (nomark _)))) (fun _ _ _ _ _ => (pv 8))) pa_nil))) (pg_sub (pe_ix ix_list (pv 6) (pv 3) (fun _ _ => rfl)) (pv 4) set_list))
 (pss_one (ps_ret (pe_tup (pa_cons (pe_ix ix_tup (pv 1) pe_int (fun _ _ => rfl)) (pa_cons (pv 6) pa_nil))))))))))), ?_⟩
    obtain ⟨th, tt, rs, h1, h2, h3, h4⟩ := A0.at_
    have il : (ints_ hs).length = n := by rw [ints_len, A0.st.hl]
    refine ⟨_, rfl, s, _, _, _, rfl, rfl, .inl (.inl h1), atI_nat (j := 0) rfl, th, _, rfl, .inl (.inl (.inl h2)), ?_⟩
    rw [il]
    refine ⟨_, rfl, _, rfl, h, c, (n : Nat), rfl, hh, by omega, by omega, fun H1 r d1 r0 r1 => ?_⟩
    obtain ⟨x, rfl⟩ : ∃ x : Nat, r = (x : Nat) := ⟨r.toNat, by omega⟩
    have hx : x < n := by omega
    have st1 := Stay.of_drawn hh d1
    refine ⟨_, rfl, _, _, rfl, rfl, _, rfl, _, rfl, _, _, rfl, rfl, h, c, ((n : Nat) : Int) - 1, rfl, d1.hand, by omega, by omega, fun H2 r' d2 r0' r1' => ?_⟩
    refine ⟨_, _, rfl, rfl, .inl ⟨_, rfl, _, rfl, _, _, rfl, rfl, by omega, ?_⟩⟩
    obtain ⟨y, ey, hy, nxy⟩ : ∃ y : Nat, (((x : Nat) : Int) + 1 + r') % ((n : Nat) : Int) = (y : Nat) ∧ y < n ∧ x ≠ y := by
      obtain ⟨z, rfl⟩ : ∃ z : Nat, r' = (z : Nat) := ⟨r'.toNat, by omega⟩
      refine ⟨(x + 1 + z) % n, by rw [Int.natCast_emod]; rfl, Nat.mod_lt _ (by omega), fun e => ?_⟩
      have hz : z < n - 1 := by omega
      by_cases hlt : x + 1 + z < n
      · rw [Nat.mod_eq_of_lt hlt] at e
        omega
      · rw [Nat.mod_eq_sub_mod (by omega), Nat.mod_eq_of_lt (by omega)] at e
        omega
    show gName 4 (V.int ((((x : Nat) : Int) + 1 + r') % ((n : Nat) : Int))) _ _ _
    rw [ey]
    have st2 := st1.drawn d2
    have A2 := A0.stay st2
    clear h1 h2 h3 h4 th tt rs
    obtain ⟨th, tt, rs, h1, h2, h3, h4⟩ := A2.at_
    obtain ⟨rr, row, hrr, hrow, rl, er, hw⟩ := RLs.row A0.st h4 hx
    -- the words
    refine ⟨fun τ H' => ∃ W ks, τ = [some (.ref h), some (.ref s), some (.int (n : Nat)), some (.int (x : Nat)), some (.int (y : Nat)), some (.ref W), none, none, none] ∧ Same H2 H' ∧ H' W = some (.lst (wds ks)) ∧ H2 W = none ∧ ks.length ≤ 3 ∧ (∀ k ∈ ks, k ≤ 3 ∧ (hsAt hs x = hsAt hs y → k = 0 ∨ 3 ≤ k) ∧ (hsAt hs x ≠ hsAt hs y → k < 3)) ∧ (∃ k ∈ ks, wd k ≠ wd (tabAt tab x y)), ?_, fun τ H3 hM => ?_⟩
    · refine ⟨_, rfl, s, _, _, _, rfl, rfl, .inl (.inl h1), atI_nat (j := 0) rfl, _, rfl, th, _, _, _, rfl, rfl, .inl (.inl h2), atI_nat (A0.st.hat hx), ?_⟩
      refine ⟨_, rfl, s, _, _, _, rfl, rfl, .inl (.inl h1), atI_nat (j := 0) rfl, _, rfl, th, _, _, _, rfl, rfl, .inl (.inl h2), atI_nat (A0.st.hat hy), rfl, _, rfl, ?_⟩
      rw [dec_int]
      refine iteB (fun t => ?_) (fun t => ?_)
      · have t := of_decide_eq_true t
        refine ⟨by show 2 ≤ sizeLine; decide, fun u nu => ⟨u, [0, 3], rfl, al nu, upd_same, nu, by decide, fun k hk => ?_, ?_⟩⟩
        · simp only [List.mem_cons, List.not_mem_nil, or_false] at hk
          rcases hk with rfl | rfl
          · exact ⟨by decide, fun _ => .inl rfl, fun d => absurd t d⟩
          · exact ⟨by decide, fun _ => .inr (by decide), fun d => absurd t d⟩
        · by_cases z : wd 0 = wd (tabAt tab x y)
          · exact ⟨3, by decide, fun e => absurd (z.trans e.symm) (by decide +kernel)⟩
          · exact ⟨0, by decide, z⟩
      · have t := of_decide_eq_false t
        refine ⟨by show 3 ≤ sizeLine; decide, fun u nu => ⟨u, [1, 0, 2], rfl, al nu, upd_same, nu, by decide, fun k hk => ?_, ?_⟩⟩
        · simp only [List.mem_cons, List.not_mem_nil, or_false] at hk
          rcases hk with rfl | rfl | rfl
          · exact ⟨by decide, fun e => absurd e t, fun _ => by decide⟩
          · exact ⟨by decide, fun e => absurd e t, fun _ => by decide⟩
          · exact ⟨by decide, fun e => absurd e t, fun _ => by decide⟩
        · by_cases z : wd 0 = wd (tabAt tab x y)
          · exact ⟨1, by decide, fun e => absurd (z.trans e.symm) (by decide +kernel)⟩
          · exact ⟨0, by decide, z⟩
    · obtain ⟨W, ks, rfl, e3, hW, nW2, kl, hks, hne⟩ := hM
      -- the rows
      refine ⟨fun τ H' => ∃ D us, τ = [some (.ref h), some (.ref s), some (.int (n : Nat)), some (.int (x : Nat)), some (.int (y : Nat)), some (.ref W), some (.ref D), none, none] ∧ Same H3 H' ∧ H' D = some (.lst (us.map V.ref)) ∧ RLt D H' us tab ∧ (∀ u ∈ us, H3 u = none) ∧ us.Nodup ∧ H3 D = none, ?_, fun τ H4 hM => ?_⟩
      · refine ⟨_, rfl, s, _, _, _, rfl, rfl, .inl (.inl (e3 _ _ h1)), atI_nat (j := 1) rfl, tt, rfl, ⟨_, .inl (.inl (e3 _ _ h3))⟩, fun D hD => lc_list (xs := rs.map V.ref) (fun j H4 => Same H3 H4 ∧ ∃ us, H4 D = some (.lst (us.map V.ref)) ∧ RLt D H4 us (tab.take j) ∧ (∀ u ∈ us, H3 u = none ∧ ∃ o, H4 u = some o) ∧ us.Nodup) ⟨al hD, [], upd_same, .nil, (fun u hu => nomatch hu), .nil⟩ (fun j H4 _ pv => .inl (.inl (pv.1 _ _ (e3 _ _ h3)))) (fun j z H4 hz pv => ?_) (fun H4 pv => ?_)⟩
        · obtain ⟨e4, us, hD4, t4, nu4, nd4⟩ := pv
          rw [List.getElem?_map] at hz
          obtain ⟨r, hr', rfl⟩ := Option.map_eq_some_iff.mp hz
          obtain ⟨row', hrow', hat⟩ := h4.get hr'
          refine ⟨rfl, _, rfl, r, _, rfl, .inl (.inl (.inl (e4 _ _ (e3 _ _ hat)))), fun u nu => ?_⟩
          have sU := al (o := .lst (wds row')) nu
          have uD : u ≠ D := fun e => by rw [e, hD4] at nu; cases nu
          have ul : us.length ≤ 5 := by
            rw [t4.len, List.length_take, A0.st.tl]
            omega
          have hu : upd H4 u (.lst (wds row')) u = some (.lst (wds row')) := upd_same
          refine ⟨_, sU _ _ hD4, by rw [List.length_map]; exact small1000 (by omega), fun b o hb => ?_, us ++ [u], ?_, ?_, fun b hb => ?_, ?_⟩
          · rw [upd_ne (ne_of_none hb hD)]
            exact sU _ _ (e4 _ _ hb)
          · rw [upd_same, List.map_append]
            rfl
          · rw [List.take_add_one, hrow']
            exact ((t4.mono fun b row' nb hb => sU _ _ hb).mono fun b row' nb hb => by rw [upd_ne nb]; exact hb).append (.cons (by rw [upd_ne uD]; exact hu) uD .nil)
          · rcases List.mem_append.mp hb with hb | hb
            · obtain ⟨z1, o, z2⟩ := nu4 b hb
              by_cases bD : b = D
              · subst bD
                exact ⟨z1, _, upd_same⟩
              · exact ⟨z1, o, by rw [upd_ne bD]; exact sU _ _ z2⟩
            · rw [List.mem_singleton.mp hb]
              exact ⟨e4.free nu, _, by rw [upd_ne uD]; exact hu⟩
          · refine List.nodup_append.mpr ⟨nd4, by simp, fun b hb b' hb' e => ?_⟩
            rw [List.mem_singleton.mp hb'] at e
            obtain ⟨_, o, z2⟩ := nu4 b hb
            rw [e, nu] at z2
            cases z2
        · obtain ⟨e4, us, hD4, t4, nu4, nd4⟩ := pv
          rw [List.length_map, h4.len, List.take_length] at t4
          exact ⟨D, us, rfl, e4, hD4, t4, fun u hu => (nu4 u hu).1, nd4, hD⟩
      · obtain ⟨D, us, rfl, e4, hD4, t4, nu4, nd4, nD3⟩ := hM
        have e24 := e3.trans e4
        have A4 := A2.same e24
        have st4 := st2.same e24
        -- the pick
        refine ⟨_, rfl, _, rfl, W, rfl, ⟨_, .inl (.inl (e4 _ _ hW))⟩, fun D2 hD2 => lc_list (xs := wds ks) (fun j H5 => Same H4 H5 ∧ H5 D2 = some (.lst (wds ((ks.take j).filter fun k => decide (wd k ≠ wd (tabAt tab x y)))))) ⟨al hD2, upd_same⟩ (fun j H5 _ pv => .inl (.inl (pv.1 _ _ (e4 _ _ hW)))) (fun j z H5 hz pv => ?_) (fun H5 pv => ?_)⟩
        · obtain ⟨e5, hD5⟩ := pv
          unfold wds at hz
          rw [List.getElem?_map] at hz
          obtain ⟨k, hk, rfl⟩ := Option.map_eq_some_iff.mp hz
          have e25 := e24.trans e5
          refine ⟨rfl, _, rfl, _, rfl, s, _, _, _, rfl, rfl, .inl (.inl (e25 _ _ h1)), atI_nat (j := 1) rfl, _, rfl, tt, _, _, _, rfl, rfl, .inl (.inl (e25 _ _ h3)), atI_nat hrr, _, rfl, rr, _, _, _, rfl, rfl, .inl (.inl (e25 _ _ hrow)), atI_nat (hw y hy).1, rfl, _, rfl, ?_⟩
          have dv : (!decide (V.str (wd k) = V.str (wd (tabAt tab x y)))) = decide (wd k ≠ wd (tabAt tab x y)) := by
            rw [← decide_not]
            exact decide_eq_decide.mpr ⟨fun h e => h (by rw [e]), fun h e => h (by injection e)⟩
          rw [dv]
          have step : (ks.take (j + 1)).filter (fun k => decide (wd k ≠ wd (tabAt tab x y))) = (ks.take j).filter (fun k => decide (wd k ≠ wd (tabAt tab x y))) ++ (if decide (wd k ≠ wd (tabAt tab x y)) = true then [k] else []) := by
            rw [List.take_add_one, hk, List.filter_append]
            show _ ++ List.filter _ [k] = _
            rw [List.filter_cons, List.filter_nil]
          refine iteB (fun t => ?_) (fun t => ?_)
          · refine ⟨_, rfl, _, hD5, ?_, fun b o hb => ?_, ?_⟩
            · rw [wds_len]
              exact small1000 (Nat.le_trans (List.length_filter_le _ _) (by rw [List.length_take]; omega))
            · rw [upd_ne (ne_of_none hb hD2)]
              exact e5 _ _ hb
            · rw [upd_same, step, if_pos t, wds_snoc]
          · refine ⟨e5, ?_⟩
            rw [step, if_neg (by rw [t]; decide), List.append_nil]
            exact hD5
        · obtain ⟨e5, hD5⟩ := pv
          rw [wds_len, List.take_length] at hD5
          have st5 := st4.same e5
          have hl5 : 0 < (wds (ks.filter fun k => decide (wd k ≠ wd (tabAt tab x y)))).length := by
            rw [wds_len]
            obtain ⟨k, mk, nk⟩ := hne
            exact List.length_pos_of_mem (List.mem_filter.mpr ⟨mk, decide_eq_true nk⟩)
          refine ⟨h, c, D2, _, rfl, st5.hand, (st4.hand.ne hD2).1, hD5, hl5, ?_, fun H6 jj v d6 hv => ?_⟩
          · rw [wds_len]
            exact Nat.le_trans (List.length_filter_le _ _) (by omega)
          unfold wds at hv
          rw [List.getElem?_map] at hv
          obtain ⟨k, hk, rfl⟩ := Option.map_eq_some_iff.mp hv
          obtain ⟨mk, nk⟩ := List.mem_filter.mp (List.mem_of_getElem? hk)
          obtain ⟨k3, k1, k2⟩ := hks k mk
          have nk := of_decide_eq_true nk
          have st6 := st5.drawn d6
          have d46 := Stay.trans (Stay.of_same st4.hand e5) (Stay.of_drawn st5.hand d6)
          have hD6 : H6 D = some (.lst (us.map V.ref)) := d46.lst hD4 (notHand_refs _)
          have t6 : RLt D H6 us tab := t4.mono fun b row nb hb => d46.wds hb
          -- the row that is written
          have lus : us.length = n := by rw [t4.len, A0.st.tl]
          obtain ⟨ux, hux⟩ : ∃ ux, us[x]? = some ux := ⟨_, List.getElem?_eq_getElem (by omega)⟩
          obtain ⟨row', hrow', hat⟩ := t6.rls.get hux
          have erow : tab.getD x [] = row' := by rw [List.getD_eq_getElem?_getD, hrow']; rfl
          have rl' := A0.st.rl row' (List.mem_of_getElem? hrow')
          refine ⟨_, rfl, _, rfl, D, _, _, _, rfl, rfl, .inl (.inl hD6), atI_nat (by rw [List.getElem?_map, hux]; rfl), _, rfl, ux, _, _, y, rfl, rfl, hat, ?_, ?_⟩
          · exact ixN_nat (by rw [wds_len, rl']; exact hy)
          have nux : H3 ux = none := nu4 _ (List.mem_of_getElem? hux)
          have nuxH : H ux = none := st2.free (e3.free nux)
          have uxD : ux ≠ D := fun e => by
            rw [e, hD6] at hat
            injection hat with z
            injection z with z
            obtain ⟨m, rfl⟩ : ∃ m, n = m + 1 := ⟨n - 1, by omega⟩
            cases us with
            | nil => cases hux
            | cons b r =>
              cases row' with
              | nil => cases rl'
              | cons c r' => cases z
          have st7 := st6.put (o := .lst ((wds row').set y (.str (wd k)))) nuxH
          have ws7 : (wds row').set y (.str (wd k)) = wds (row'.set y k) := by unfold wds; rw [List.map_set]
          rw [ws7] at st7 ⊢
          have hD7 : upd H6 ux (.lst (wds (row'.set y k))) D = some (.lst (us.map V.ref)) := by rw [upd_ne uxD.symm]; exact hD6
          have t7 : RLs (upd H6 ux (.lst (wds (row'.set y k)))) us (setT tab x y k) := by
            unfold setT
            rw [erow]
            have : ∀ {vs : List Addr} {tb : List (List Nat)} {i : Nat}, RLs H6 vs tb → vs.Nodup → vs[i]? = some ux → RLs (upd H6 ux (.lst (wds (row'.set y k)))) vs (tb.set i (row'.set y k)) := fun {vs tb i} t nd hi => by
              induction t generalizing i with
              | nil => cases hi
              | @cons r0 row0 rs0 tab0 h0 t0 ih =>
                rw [List.nodup_cons] at nd
                cases i with
                | zero =>
                  obtain rfl := Option.some.inj hi
                  refine .cons upd_same ?_
                  have keep : ∀ {vs : List Addr} {tb : List (List Nat)}, r0 ∉ vs → RLs H6 vs tb → RLs (upd H6 r0 (.lst (wds (row'.set y k)))) vs tb := fun {vs tb} hn t => by
                    induction t with
                    | nil => exact .nil
                    | cons h _ ih => exact .cons (by rw [upd_ne (fun e => hn (by rw [e]; exact List.mem_cons_self ..))]; exact h) (ih fun hm => hn (List.mem_cons_of_mem _ hm))
                  exact keep nd.1 t0
                | succ i =>
                  have hi : rs0[i]? = some ux := hi
                  refine .cons ?_ (ih nd.2 hi)
                  rw [upd_ne (fun e => nd.1 (by rw [e]; exact List.mem_of_getElem? hi))]
                  exact h0
            exact this t6.rls nd4 hux
          -- behind
          have d26 := Stay.trans (Stay.of_same st2.hand e24) d46
          have d27 := d26.put (o := .lst (wds (row'.set y k))) (e3.free nux)
          refine ⟨_, rfl, s, _, _, _, rfl, rfl, .inl (.inl (d27.tup h1)), atI_nat (j := 0) rfl, _, rfl, by show 2 ≤ sizeLine; decide, fun u nu => ?_⟩
          have e8 := al (o := .tup [.ref th, .ref D]) nu
          refine q _ u (setT tab x y k) (st7.same e8) (st7.free nu) ⟨⟨th, D, us, upd_same, e8 _ _ (d27.lst h2 (notHand_ints _)), e8 _ _ hD7, t7.same e8⟩, setT_ok A0.st hx hy nxy k1 k2⟩ (setT_ne A0.st.tl A0.st.rl hx hy nk)
end
end K7
end
/-! ## P32 -/
section
open PySem PySem.Spec PyProof.Rows L2
namespace K7
abbrev N__law_equal_right : List Str := ["_law_hand_here", "_law_land_here", "_law_state", "_law_told", "_law_small", "_law_name", "_law_twin_here", "_law_roads", "_law_lot", "_law_hands", "_law_bare", "_law_a", "_law_alike"]
abbrev s__law_equal_right : Stmt := topS 60
theorem sc__law_equal_right : FnScope ["_law_hand_here", "_law_land_here", "_law_state", "_law_told", "_law_small", "_law_name", "_law_twin_here", "_law_roads", "_law_lot", "_law_hands", "_law_bare", "_law_a", "_law_alike"] ["_law_hand_here", "_law_land_here", "_law_state", "_law_told"] (defScope s__law_equal_right) := ⟨rfl, rfl, rfl, by decide +kernel, rfl, by decide +kernel, by decide +kernel⟩
/-! ### states compared by the law -/
theorem shapedL_ints (l : List Nat) : SeqAt.shaped (.list (l.map fun c => PyData.int (c : Nat))) = true := by
  have z : ((PyData.canLay0 (intD l)) && decide (PyData.depth (intD l) ≤ 64)) = true := shaped_ints l
  show ((PyData.canLay0 (.list (l.map fun c => PyData.int (c : Nat)))) && decide (PyData.depth (.list (l.map fun c => PyData.int (c : Nat))) ≤ 64)) = true
  unfold intD at z
  simpa [PyData.canLay0, PyData.depth] using z
theorem eqvL_ints (l m : List Nat) : PyData.eqv (.list (l.map fun c => PyData.int (c : Nat))) (.list (m.map fun c => PyData.int (c : Nat))) = decide (l = m) := by rw [PyData.eqv, eqv_ints]
theorem StateO.stay {C S : Addr} {h c : Addr} {H H' : Hp} {p l : Addr} {n : Nat} {es : List (Nat × Nat)} {rd hs : List Nat} {tab : List (List Nat)} (W : StateO C S H p l n es rd hs tab) (x : Stay h c H H') : StateO C S H' p l n es rd hs tab := by
  obtain ⟨dx, th, tt, rs, h1, h2, h3, h4⟩ := W.at_
  exact ⟨⟨dx, th, tt, rs, x.but p _ (x.hand0.nei h1) h1, x.tup h2, x.tup h3, h4.mono fun b xs hb => x.tup hb⟩, x.lo W.ld, W.st⟩
/-- hands that are alike where others are -/
def Pat (n : Nat) (hs hs2 : List Nat) : Prop := ∀ b, b < n → ∀ c, c < n → (hsAt hs b = hsAt hs c ↔ hsAt hs2 b = hsAt hs2 c)
theorem fsts_pat {n : Nat} {hs hs2 : List Nat} (e : Pat n hs hs2) : ∀ j, j ≤ n → ∃ l : List Nat, (∀ b ∈ l, b < j) ∧ fsts hs j = l.map (hsAt hs) ∧ fsts hs2 j = l.map (hsAt hs2)
  | 0, _ => ⟨[], (fun b hb => nomatch hb), rfl, rfl⟩
  | j + 1, hj => by
    obtain ⟨l, h1, h2, h3⟩ := fsts_pat e j (by omega)
    have iff : hsAt hs j ∈ l.map (hsAt hs) ↔ hsAt hs2 j ∈ l.map (hsAt hs2) := by
      rw [List.mem_map, List.mem_map]
      constructor
      · rintro ⟨b, hb, q⟩
        exact ⟨b, hb, (e b (by have := h1 b hb; omega) j (by omega)).mp q⟩
      · rintro ⟨b, hb, q⟩
        exact ⟨b, hb, (e b (by have := h1 b hb; omega) j (by omega)).mpr q⟩
    show ∃ l : List Nat, _ ∧ (if hsAt hs j ∈ fsts hs j then fsts hs j else fsts hs j ++ [hsAt hs j]) = _ ∧ (if hsAt hs2 j ∈ fsts hs2 j then fsts hs2 j else fsts hs2 j ++ [hsAt hs2 j]) = _
    rw [h2, h3]
    by_cases z : hsAt hs j ∈ l.map (hsAt hs)
    · rw [if_pos z, if_pos (iff.mp z)]
      exact ⟨l, fun b hb => Nat.lt_succ_of_lt (h1 b hb), rfl, rfl⟩
    · rw [if_neg z, if_neg (fun q => z (iff.mpr q))]
      refine ⟨l ++ [j], fun b hb => ?_, by rw [List.map_append]; rfl, by rw [List.map_append]; rfl⟩
      rcases List.mem_append.mp hb with hb | hb
      · exact Nat.lt_succ_of_lt (h1 b hb)
      · rw [List.mem_singleton.mp hb]
        exact Nat.lt_succ_self j
theorem lots_pat {n : Nat} {hs hs2 : List Nat} (e : Pat n hs hs2) : lotsF hs n = lotsF hs2 n := by
  obtain ⟨l, h1, h2, h3⟩ := fsts_pat e n (Nat.le_refl n)
  unfold lotsF
  rw [h2, h3, List.map_map, List.map_map]
  refine List.map_congr_left fun b hb => ?_
  show lotF hs n (hsAt hs b) = lotF hs2 n (hsAt hs2 b)
  unfold lotF
  refine List.filter_congr fun c hc => ?_
  exact decide_eq_decide.mpr (e c (List.mem_range.mp hc) b (h1 b hb))
theorem tab_pat {n : Nat} {hs hs2 : List Nat} {tab : List (List Nat)} (S : StTab n hs tab) (e : Pat n hs hs2) (hl : hs2.length = n) (hm : ∀ x ∈ hs2, x ≤ 10 ^ 30) : StTab n hs2 tab :=
  ⟨hl, hm, S.tl, S.rl, S.diag, fun a b ha hb ne d => S.apart a b ha hb ne fun z => d ((e a ha b hb).mp z), fun a b ha hb ne d => S.same a b ha hb ne ((e a ha b hb).mpr d)⟩
theorem bare_tab {n : Nat} {hs : List Nat} (hl : hs.length = n) (hm : ∀ x ∈ hs, x ≤ 10 ^ 30) : StTab n hs (List.replicate n (List.replicate n 0)) := by
  have s := start_tab (n := n)
  have t0 : ∀ x y, tabAt (List.replicate n (List.replicate n 0)) x y = 0 := fun x y => by
    unfold tabAt
    have e : (List.replicate n (List.replicate n 0)).getD x [] = List.replicate n 0 ∨ (List.replicate n (List.replicate n 0)).getD x [] = [] := by
      rw [List.getD_eq_getElem?_getD, List.getElem?_replicate]
      split
      · exact .inl rfl
      · exact .inr rfl
    rcases e with e | e
    · rw [e, List.getD_eq_getElem?_getD, List.getElem?_replicate]
      split <;> rfl
    · rw [e]
      rfl
  exact ⟨hl, hm, s.tl, s.rl, s.diag, fun a b _ _ _ _ => by rw [t0]; decide, fun a b _ _ _ _ => .inl (t0 a b)⟩
def twinH (hs : List Nat) (m : Nat) : List Nat := hs.map fun x => m - x
theorem twin_at {hs : List Nat} {n m b : Nat} (hl : hs.length = n) (hb : b < n) : hsAt (twinH hs m) b = m - hsAt hs b := by
  unfold hsAt twinH
  rw [List.getD_eq_getElem?_getD, List.getElem?_map, List.getElem?_eq_getElem (by omega), List.getD_eq_getElem?_getD, List.getElem?_eq_getElem (by omega)]
  rfl
theorem hsAt_mem {hs : List Nat} {n b : Nat} (hl : hs.length = n) (hb : b < n) : hsAt hs b ∈ hs := by
  unfold hsAt
  rw [List.getD_eq_getElem?_getD, List.getElem?_eq_getElem (by omega)]
  exact List.getElem_mem _
theorem twin_pat {hs : List Nat} {n m : Nat} (hl : hs.length = n) (h : ∀ x ∈ hs, x ≤ m) : Pat n hs (twinH hs m) := fun b hb c hc => by
  rw [twin_at hl hb, twin_at hl hc]
  have h1 := h _ (hsAt_mem hl hb)
  have h2 := h _ (hsAt_mem hl hc)
  omega
theorem twin_ints {hs : List Nat} {m : Nat} (h : ∀ x ∈ hs, x ≤ m) : hs.map (fun x => V.int ((m : Int) - (x : Nat))) = ints_ (twinH hs m) := by
  unfold ints_ twinH
  rw [List.map_map]
  refine List.map_congr_left fun x hx => ?_
  have := h x hx
  show V.int ((m : Int) - (x : Nat)) = V.int (((m - x : Nat)) : Int)
  congr 1
  omega
/-- the road cells of another land -/
def rdsF (n : Nat) (lot : List Nat) : List (List Nat) := (lotsTo (List.range n) n).filter fun l => (decide (0 < l.length) && decide (l.length < n)) && decide (l ≠ lot)
theorem rds_some0 : ∀ n : Fin 6, 2 ≤ n.val → (lotsTo (List.range n.val) n.val).all (fun lot => decide (0 < (rdsF n.val lot).length)) = true := by decide +kernel
theorem rds_some {n : Nat} {lot : List Nat} (n2 : 2 ≤ n) (n5 : n ≤ 5) (h : lot ∈ lotsTo (List.range n) n) : 0 < (rdsF n lot).length ∧ (rdsF n lot).length ≤ 32 := by
  refine ⟨of_decide_eq_true (List.all_eq_true.mp (rds_some0 ⟨n, by omega⟩ n2) lot h), ?_⟩
  have z : (lotsTo (List.range n) n).length ≤ 32 := (level_len ⟨n, by omega⟩ ⟨n, by omega⟩).2
  exact Nat.le_trans (List.length_filter_le _ _) z
section
variable {P : Program} {w : World} {K : PySem.W.Frag} {mg : Str → Option Value} {base : Heap} {a : AdL} {S fE fQ : Addr}
/-- what the law holds while it compares -/
structure Ec (C S h c q s t l : Addr) (n : Nat) (es : List (Nat × Nat)) (lot hs : List Nat) (tab : List (List Nat)) (H : Hp) : Prop where
  hand : Hand H h c
  la : LandAt H q n es lot
  as_ : ASt H s n hs tab
  st : StateO C S H t l n es lot hs tab
theorem Ec.stay {C S h c q s t l : Addr} {n : Nat} {es : List (Nat × Nat)} {lot hs : List Nat} {tab : List (List Nat)} {H H' : Hp} (e : Ec C S h c q s t l n es lot hs tab H) (x : Stay h c H H') : Ec C S h c q s t l n es lot hs tab H' := ⟨x.hand, x.la e.la, e.as_.stay x, e.st.stay x⟩
theorem eq_true_ {n : Nat} {es : List (Nat × Nat)} {lot hs hs2 : List Nat} {tab tab2 : List (List Nat)} (h : lotsF hs n = lotsF hs2 n) (h2 : tabW tab = tabW tab2) : eqSt n es lot hs tab n es lot hs2 tab2 = true := by
  unfold eqSt
  rw [decide_eq_true ⟨rfl, rfl, rfl⟩, decide_eq_true h, decide_eq_true h2]
  rfl
theorem eq_tab_ {n : Nat} {es : List (Nat × Nat)} {lot hs : List Nat} {tab tab2 : List (List Nat)} (h2 : tabW tab ≠ tabW tab2) : eqSt n es lot hs tab n es lot hs tab2 = false := by
  unfold eqSt
  rw [decide_eq_false h2, Bool.and_false, Bool.and_false]
theorem eq_rd_ {n : Nat} {es : List (Nat × Nat)} {lot lot2 hs : List Nat} {tab : List (List Nat)} (h : lot ≠ lot2) : eqSt n es lot hs tab n es lot2 hs tab = false := by
  unfold eqSt
  rw [decide_eq_false fun z => h z.2.2, Bool.false_and]
def spEqR (a : AdL) (S : Addr) : Sp := fun vs H Q _ => ∃ (h c q s t l : Addr) (n : Nat) (es : List (Nat × Nat)) (lot hs : List Nat) (tab : List (List Nat)), vs = [.ref h, .ref q, .ref s, .ref t] ∧ Ec a.C S h c q s t l n es lot hs tab H ∧ 2 ≤ n ∧ n ≤ 5 ∧ ∀ H', Stay h c H H' → Q (.bl true) H'
theorem ok_eqr (TS : Ts K mg S fQ) {f ftw ftu fsof fpk flts fan fla : Addr} {fd fdtw fdtu fdsof fdpk fdlts fdan fdla fdQ : FuncData} (F : Fun K "_law_equal_right" "_law_equal_right" s__law_equal_right f fd)
    (Gtw : FnOk P w K mg base CX0 3 ftw fdtw ["_law_hand_here", "_law_state"] spTwin) (gtw : mg "_law_twin" = some (.ref ftw)) (ktw : PySem.W.keepIn K (.ref ftw) = true) (btw : Binds K fdtw ["_law_hand_here", "_law_state"] [])
    (Gtu : FnOk P w K mg base CX0 4 ftu fdtu ["_law_hand_here", "_law_state"] spTurn) (gtu : mg "_law_turned" = some (.ref ftu)) (ktu : PySem.W.keepIn K (.ref ftu) = true) (btu : Binds K fdtu ["_law_hand_here", "_law_state"] [])
    (Gsof : FnOk P w K mg base CX0 8 fsof fdsof ["_law_land_here", "_law_state"] (spStOf a S)) (gsof : mg "_law_state_of" = some (.ref fsof)) (ksof : PySem.W.keepIn K (.ref fsof) = true) (bsof : Binds K fdsof ["_law_land_here", "_law_state"] [])
    (Gpk : FnOk P w K mg base CX0 3 fpk fdpk ["_law_hand_here", "_law_things"] spPick) (gpk : mg "_law_pick" = some (.ref fpk)) (kpk : PySem.W.keepIn K (.ref fpk) = true) (bpk : Binds K fdpk ["_law_hand_here", "_law_things"] [])
    (Glts : FnOk P w K mg base CX0 1 flts fdlts ["_law_cells"] spLots) (glts : mg "_law_lots" = some (.ref flts)) (klts : PySem.W.keepIn K (.ref flts) = true) (blts : Binds K fdlts ["_law_cells"] [])
    (Gan : FnOk P w K mg base CX0 5 fan fdan ["_law_hand_here", "_law_n"] spAnyS) (gan : mg "_law_any_state" = some (.ref fan)) (kan : PySem.W.keepIn K (.ref fan) = true) (ban : Binds K fdan ["_law_hand_here", "_law_n"] [])
    (Gla : FnOk P w K mg base CX0 1 fla fdla ["_law_hands"] spLParts) (gla : mg "_law_parts" = some (.ref fla)) (kla : PySem.W.keepIn K (.ref fla) = true) (bla : Binds K fdla ["_law_hands"] [])
    (GQ : FnOk P w K mg base CX0 3 fQ fdQ ["self", "other"] (spEqS a S)) (bQ : Binds K fdQ ["self", "other"] [])
    (m_list : mg "list" = none) (m_range : mg "range" = none) (m_len : mg "len" = none) : FnOk P w K mg base CX0 9 f fd ["_law_hand_here", "_law_land_here", "_law_state", "_law_told"] (spEqR a S) := by
  refine F.ok sc__law_equal_right (fun vs H Q E h => ?_) (fun cdv A outer s H vs Q E hr h => ?_)
  · obtain ⟨h, c, q, s, t, l, n, es, lot, hs, tab, rfl, _⟩ := h
    rfl
  · obtain ⟨h, c, q, s, t, l, n, es, lot, hs, tab, rfl, E0, n2, n5, k⟩ := h
    refine ⟨_, (Evl.pss_cut (ps_set (i := 4) sc__law_equal_right.nd rfl (by first | exact Or.inl rfl | exact Or.inr rfl) (pe_cmpR (op_eqD hr.units) (pe_lc (own := [("_law_name", 5)]) (g := gName 5) rfl sc__law_equal_right.nd (pi_list (pe_ix ix_tup (pv 2) pe_int (fun _ _ => rfl))) (blkOk_by (own := [("_law_name", 5)]) (N := N__law_equal_right) (sc := defScope s__law_equal_right) (by decide +kernel)) (fun _ _ _ _ _ => (pg_name (i := 5) sc__law_equal_right.nd rfl (by first | exact Or.inl rfl | exact Or.inr rfl))) (fun _ _ _ _ _ => (pts_one (pt_cmpR op_gt (pv 5) (pe_op op_sub (pe_op op_pow pe_int pe_int) pe_int) (nomark _)))) (fun _ _ _ _ _ => (pv 5))) (pe_lst pa_nil) (nomark _)))
 (Evl.pss_cut (ps_set (i := 6) sc__law_equal_right.nd rfl (by first | exact Or.inl rfl | exact Or.inr rfl) (pe_call Gtw (hr.mono (by decide)) (by rfl) gtw ktw btw .nil pass0 (pa_cons (pv 0) (pa_cons (pv 2) pa_nil))))
 (Evl.pss_cut (ps_if (pw_and (pt_val (pv 4)) (pw_and1 (pt_cmpR (K7E.op_neOwn GQ TS.ne TS.hm TS.eq TS.eqF bQ (hr.mono (by decide)) pass0) (pv 3) (pe_call Gsof (hr.mono (by decide)) (by rfl) gsof ksof bsof .nil pass0 (pa_cons (pv 1) (pa_cons (pv 6) pa_nil))) (nomark _)))).pt
  (pss_one (ps_ret pe_bl))
  pss_nil)
 (Evl.pss_cut (ps_if (pw_or (pt_cmpR (K7E.op_eqOwnV GQ TS.eq TS.eqF bQ (hr.mono (by decide)) pass0) (pv 3) (pe_call Gsof (hr.mono (by decide)) (by rfl) gsof ksof bsof .nil pass0 (pa_cons (pv 1) (pa_cons (pe_call Gtu (hr.mono (by decide)) (by rfl) gtu ktu btu .nil pass0 (pa_cons (pv 0) (pa_cons (pv 2) pa_nil))) pa_nil))) (nomark _)) (pw_or (pt_cmpR (K7E.op_eqOwnV GQ TS.eq TS.eqF bQ (hr.mono (by decide)) pass0) (pv 3) (pv 2) (nomark _)) (pw_or1 (pt_cmpR (K7E.op_eqOwnV GQ TS.eq TS.eqF bQ (hr.mono (by decide)) pass0) (pv 3) pe_int (nomark _))))).pt
  (pss_one (ps_ret pe_bl))
  pss_nil)
 (Evl.pss_cut (ps_setLc (i := 7) (own := [("_law_lot", 8)]) (g := gName 8) rfl sc__law_equal_right.nd rfl rfl (sw_true rfl rfl rfl (by decide +kernel)) (pi_list (pe_call Glts (hr.mono (by decide)) (by rfl) glts klts blts .nil pass0 (pa_cons (pe_callTy (K7E.cr_list_rng rfl) (by rfl) m_list boot_list (pa_cons (pe_callTy K7E.cr_range1 (by rfl) m_range boot_range (pa_cons (pe_ix ix_tup (pv 1) pe_int (fun _ _ => rfl)) pa_nil)) pa_nil)) pa_nil))) (blkOk_by (own := [("_law_lot", 8)]) (N := N__law_equal_right) (sc := defScope s__law_equal_right) (by decide +kernel)) (fun _ _ _ _ _ => (pg_name (i := 8) sc__law_equal_right.nd rfl (by first | exact Or.inl rfl | exact Or.inr rfl))) (fun _ _ _ _ _ => (pts_one (PW.pt (pw_and (pt_chain op_lt op_lt pe_int (pe_callB (show CallR _ (.builtin "len") (rLen_ K) from call_len_seq) (by rfl) m_len boot_len (pa_cons (pv 8) pa_nil)) (pe_ix (show IxR _ (rIxT K) from ix_tup) (pv 1) pe_int (fun _ _ => rfl))) (pw_and1 (pt_cmpR (show OpR _ _ (rNeD K) from op_neD hr.units) (pe_callTy (show CallR _ (.type "list") (K7.rLst K) from call_list_of) (by rfl) m_list boot_list (pa_cons (pv 8) pa_nil)) (pe_ix (show IxR _ (rIxT K) from ix_tup) (pv 1) pe_int (fun _ _ => rfl)) (nomark _))))))) (fun _ _ _ _ _ => (pv 8)))
 (Evl.pss_cut (ps_if (pt_cmpR (K7E.op_eqOwnV GQ TS.eq TS.eqF bQ (hr.mono (by decide)) pass0) (pv 3) (pe_call Gsof (hr.mono (by decide)) (by rfl) gsof ksof bsof .nil pass0 (pa_cons (pe_tup (pa_cons (pe_ix ix_tup (pv 1) pe_int (fun _ _ => rfl)) (pa_cons (pe_ix ix_tup (pv 1) pe_int (fun _ _ => rfl)) (pa_cons (pe_call Gpk (hr.mono (by decide)) (by rfl) gpk kpk bpk .nil pass0 (pa_cons (pv 0) (pa_cons (pv 7) pa_nil))) pa_nil)))) (pa_cons (pv 2) pa_nil))) (nomark _))
  (pss_one (ps_ret pe_bl))
  pss_nil)
 (Evl.pss_cut (ps_set (i := 9) sc__law_equal_right.nd rfl (by first | exact Or.inl rfl | exact Or.inr rfl) (pe_ix ix_tup (pe_call Gan (hr.mono (by decide)) (by rfl) gan kan ban .nil pass0 (pa_cons (pv 0) (pa_cons (pe_ix ix_tup (pv 1) pe_int (fun _ _ => rfl)) pa_nil))) pe_int (fun _ _ => rfl)))
 (Evl.pss_cut (ps_setLc (i := 10) (own := [("_law_a", 11)]) (g := gName 11) (tt := tYes) rfl sc__law_equal_right.nd rfl rfl (sw_true rfl rfl rfl (by decide +kernel)) (pi_range1 rfl m_range (pa_cons (pe_ix ix_tup (pv 1) pe_int (fun _ _ => rfl)) pa_nil)) (blkOk_by (own := [("_law_a", 11)]) (N := N__law_equal_right) (sc := defScope s__law_equal_right) (by decide +kernel)) (fun _ _ _ _ _ => (pg_name (i := 11) sc__law_equal_right.nd rfl (by first | exact Or.inl rfl | exact Or.inr rfl))) (fun _ _ _ _ _ => pts_nil) (fun _ _ _ _ _ => (pe_op op_rep (pe_lst (pa_cons pe_str pa_nil)) (pe_ix (show IxR _ (rIxT K) from ix_tup) (pv 1) pe_int (fun _ _ => rfl)))))
 (Evl.pss_cut (ps_set (i := 12) sc__law_equal_right.nd rfl (by first | exact Or.inl rfl | exact Or.inr rfl) (pe_cmpR (K7E.op_eqOwnV GQ TS.eq TS.eqF bQ (hr.mono (by decide)) pass0) (pe_call Gsof (hr.mono (by decide)) (by rfl) gsof ksof bsof .nil pass0 (pa_cons (pv 1) (pa_cons (pe_tup (pa_cons (pv 9) (pa_cons (pv 10) pa_nil))) pa_nil))) (pe_call Gsof (hr.mono (by decide)) (by rfl) gsof ksof bsof .nil pass0 (pa_cons (pv 1) (pa_cons (pe_tup (pa_cons (pe_ix ix_tup (pv 2) pe_int (fun _ _ => rfl)) (pa_cons (pv 10) pa_nil))) pa_nil))) (nomark _)))
 (pss_one (ps_ret (pe_cmpR op_eq (pv 12) (pe_cmpR (op_eqD hr.units) (pe_call Gla (hr.mono (by decide)) (by rfl) gla kla bla .nil pass0 (pa_cons (pv 9) pa_nil)) (pe_call Gla (hr.mono (by decide)) (by rfl) gla kla bla .nil pass0 (pa_cons (pe_ix ix_tup (pv 2) pe_int (fun _ _ => rfl)) pa_nil)) (nomark _)) (nomark _))))))))))))), ?_⟩
    have big2 : (10 : Int) ^ (30 : Int).toNat = 10 ^ 30 := by decide
    have hl := E0.as_.st.hl
    -- small hands
    refine ⟨fun τ H' => ∃ sm : Bool, τ = [some (.ref h), some (.ref q), some (.ref s), some (.ref t), some (.bl sm), none, none, none, none, none, none, none, none] ∧ Stay h c H H' ∧ (sm = true → ∀ x ∈ hs, x + 5 ≤ 10 ^ 30), ?_, fun τ H1 hM => ?_⟩
    · obtain ⟨th, tt, rs, h1, h2, h3, h4⟩ := E0.as_.at_
      refine ⟨_, rfl, s, _, _, _, rfl, rfl, .inl (.inl h1), atI_nat (j := 0) rfl, th, rfl, ⟨_, .inl (.inl h2)⟩, fun D hD => lc_list (xs := ints_ hs) (fun j H2 => Same H H2 ∧ H2 D = some (.lst (ints_ ((hs.take j).filter fun x => decide (10 ^ 30 < x + 5))))) ⟨al hD, upd_same⟩ (fun j H2 _ pv => .inl (.inl (pv.1 _ _ h2))) (fun j x H2 hx pv => ?_) (fun H2 pv => ?_)⟩
      · obtain ⟨e2, hD2⟩ := pv
        have hj := (List.getElem?_eq_some_iff.mp hx).1
        rw [ints_len, hl] at hj
        unfold ints_ at hx
        rw [List.getElem?_map] at hx
        obtain ⟨y, hy, rfl⟩ := Option.map_eq_some_iff.mp hx
        have step : (hs.take (j + 1)).filter (fun x => decide (10 ^ 30 < x + 5)) = (hs.take j).filter (fun x => decide (10 ^ 30 < x + 5)) ++ (if decide (10 ^ 30 < y + 5) = true then [y] else []) := by
          rw [List.take_add_one, hy, List.filter_append]
          show _ ++ List.filter _ [y] = _
          rw [List.filter_cons, List.filter_nil]
        refine ⟨rfl, _, rfl, _, _, rfl, rfl, ⟨by decide, by decide, by decide⟩, _, _, rfl, rfl, _, _, rfl, rfl, _, rfl, ?_⟩
        have dv : decide (((y : Nat) : Int) > (10 : Int) ^ (30 : Int).toNat - 5) = decide (10 ^ 30 < y + 5) := by
          rw [big2]
          exact decide_eq_decide.mpr ⟨fun z => by omega, fun z => by omega⟩
        show if decide (((y : Nat) : Int) > (10 : Int) ^ (30 : Int).toNat - 5) = true then _ else _
        rw [dv]
        refine iteB (fun t => ?_) (fun t => ?_)
        · refine ⟨_, rfl, _, hD2, ?_, fun b o hb => ?_, ?_⟩
          · rw [ints_len]
            exact small1000 (Nat.le_trans (List.length_filter_le _ _) (by rw [List.length_take]; omega))
          · rw [upd_ne (ne_of_none hb hD)]
            exact e2 _ _ hb
          · rw [upd_same, step, if_pos t, ints_snoc]
        · refine ⟨e2, ?_⟩
          rw [step, if_neg (by rw [t]; decide), List.append_nil]
          exact hD2
      · obtain ⟨e2, hD2⟩ := pv
        rw [ints_len, List.take_length] at hD2
        refine ⟨by show 0 ≤ sizeLine; decide, fun u nu => ?_⟩
        have e3 := al (o := .lst []) nu
        refine ⟨.list ((hs.filter fun x => decide (10 ^ 30 < x + 5)).map fun c => PyData.int (c : Nat)), .list (([] : List Nat).map fun c => PyData.int (c : Nat)), .lst (.inl (.inl (e3 _ _ hD2))) (dp_ints _), .lst (.inl (.inl upd_same)) .nil, shapedL_ints _, shapedL_ints [], ?_⟩
        rw [eqvL_ints]
        refine ⟨_, rfl, Stay.of_same E0.hand (e2.trans e3), fun z x hx => ?_⟩
        have z := of_decide_eq_true z
        have z2 := List.filter_eq_nil_iff.mp z x hx
        have z3 : ¬ 10 ^ 30 < x + 5 := fun y => z2 (decide_eq_true y)
        omega
    · obtain ⟨sm, rfl, st1, hsm⟩ := hM
      have E1 := E0.stay st1
      -- the twin
      refine ⟨fun τ H' => ∃ (tw th tt : Addr) (rs : List Addr) (m : Nat), τ = [some (.ref h), some (.ref q), some (.ref s), some (.ref t), some (.bl sm), none, some (.ref tw), none, none, none, none, none, none] ∧ Stay h c H H' ∧ 10 ^ 30 ≤ m + 4 ∧ m ≤ 10 ^ 30 ∧ H' tw = some (.tup [.ref th, .ref tt]) ∧ H' th = some (.lst (hs.map fun x => .int ((m : Int) - (x : Nat)))) ∧ H' tt = some (.lst (rs.map V.ref)) ∧ RLs H' rs tab, ?_, fun τ H2 hM => ?_⟩
      · exact ⟨_, rfl, _, rfl, h, c, s, n, hs, tab, rfl, E1.hand, E1.as_, n5, fun H2 u th tt rs m st2 nu m1 m2 hu h2 h3 h4 => ⟨u, th, tt, rs, m, rfl, st1.trans st2, m1, m2, hu, h2, h3, h4⟩⟩
      · obtain ⟨tw, th, tt, rs, m, rfl, st2, m1, m2, hu, h2, h3, h4⟩ := hM
        have E2 := E0.stay st2
        refine ⟨fun τ H' => τ = [some (.ref h), some (.ref q), some (.ref s), some (.ref t), some (.bl sm), none, some (.ref tw), none, none, none, none, none, none] ∧ Stay h c H H', ?_, fun τ H3 hM => ?_⟩
        · refine ⟨_, rfl, sm, rfl, iteB (fun t0 => ?_) (fun t0 => iteFo rfl ⟨rfl, st2⟩)⟩
          have le : ∀ x ∈ hs, x ≤ m := fun x hx => by have := hsm t0 x hx; omega
          have pat := twin_pat hl le
          rw [twin_ints le] at h2
          have A2 : ASt H2 tw n (twinH hs m) tab := ⟨⟨th, tt, rs, hu, h2, h3, h4⟩, tab_pat E0.as_.st pat (by unfold twinH; rw [List.length_map, hl]) fun x hx => by
            obtain ⟨y, _, rfl⟩ := List.mem_map.mp hx
            omega⟩
          refine ⟨_, rfl, _, rfl, _, rfl, q, tw, n, es, lot, twinH hs m, tab, rfl, E2.la.t, A2, n2, n5, fun H3 p' l' e3 np W' => ?_⟩
          obtain ⟨dx, _, _, _, w1, _⟩ := (E2.st.same e3).at_
          refine ⟨t, dx, _, p', .ref S, rfl, rfl, w1, W'.ty TS, nfC K S, t, l, n, es, lot, hs, tab, _, rfl, E2.st.same e3, .inl ⟨p', l', n, es, lot, twinH hs m, tab, rfl, W', fun H4 e4 => ⟨_, rfl, ?_⟩⟩⟩
          rw [eq_true_ (lots_pat pat) rfl]
          exact ⟨_, rfl, iteF ⟨rfl, st2.same (e3.trans e4)⟩⟩
        · obtain ⟨rfl, st3⟩ := hM
          have E3 := E0.stay st3
          -- unlike ones
          refine ⟨fun τ H' => τ = [some (.ref h), some (.ref q), some (.ref s), some (.ref t), some (.bl sm), none, some (.ref tw), none, none, none, none, none, none] ∧ Stay h c H H', ?_, fun τ H4 hM => ?_⟩
          · refine ⟨_, rfl, _, rfl, _, rfl, _, rfl, h, c, s, n, hs, tab, rfl, E3.hand, E3.as_, n2, n5, fun H4 u tab' st4 nu A4 ne => ?_⟩
            have st04 := st3.trans st4
            have E4 := E0.stay st04
            refine ⟨q, u, n, es, lot, hs, tab', rfl, E4.la.t, A4, n2, n5, fun H5 p' l' e5 np W' => ?_⟩
            obtain ⟨dx, _, _, _, w1, _⟩ := (E4.st.same e5).at_
            refine ⟨t, dx, _, .ref S, rfl, w1, W'.ty TS, nfC K S, t, l, n, es, lot, hs, tab, _, rfl, E4.st.same e5, .inl ⟨p', l', n, es, lot, hs, tab', rfl, W', fun H6 e6 => ?_⟩⟩
            rw [eq_tab_ (Ne.symm ne)]
            refine ⟨_, rfl, iteF ?_⟩
            have st06 := st04.same (e5.trans e6)
            have E6 := E0.stay st06
            obtain ⟨dx, _, _, _, w1, _⟩ := E6.st.at_
            obtain ⟨th', tt', rs', g1, _⟩ := E6.as_.at_
            refine ⟨_, rfl, _, rfl, t, dx, _, .type "tuple", rfl, w1, .base (.tup g1), TS.nfT, t, l, n, es, lot, hs, tab, _, rfl, E6.st, .inr ⟨.inl ⟨s, _, rfl, g1⟩, ?_⟩⟩
            refine ⟨_, rfl, iteF ?_⟩
            exact ⟨_, rfl, t, dx, _, .type "int", rfl, w1, .base (.int 0), TS.nfI, t, l, n, es, lot, hs, tab, _, rfl, E6.st, .inr ⟨.inr ⟨0, rfl⟩, _, rfl, iteF ⟨rfl, st06⟩⟩⟩
          · obtain ⟨rfl, st4⟩ := hM
            have E4 := E0.stay st4
            -- other road cells
            refine ⟨fun τ H' => ∃ R ts, τ = [some (.ref h), some (.ref q), some (.ref s), some (.ref t), some (.bl sm), none, some (.ref tw), some (.ref R), none, none, none, none, none] ∧ Stay h c H H' ∧ H' R = some (.lst (ts.map V.ref)) ∧ TAt H' ts (rdsF n lot) ∧ R ≠ h, ?_, fun τ H5 hM => ?_⟩
            · obtain ⟨rA, sA, tsA, g1, g2, g3, g4⟩ := E4.la.at_
              refine ⟨_, rfl, q, _, _, _, rfl, rfl, .inl (.inl g1), atI_nat (j := 0) rfl, n, rfl, fun rg nrg => ?_⟩
              refine ⟨rg, n, rfl, upd_same, by omega, fun l0 nl0 => ?_⟩
              have s10 : Same H4 (upd (upd H4 rg (.rng 0 n)) l0 (.lst (K7E.upTo n))) := same_new (same_new (Same.refl H4) nrg) nl0
              refine ⟨l0, n, rfl, n5, upd_same, fun H5 lo ls e5 nlo hlo tlo => ?_⟩
              have e45 := s10.trans e5
              refine ⟨lo, rfl, ⟨_, .inl (.inl hlo)⟩, fun D hD => lc_list (xs := ls.map V.ref) (fun j H6 => Same H5 H6 ∧ ∃ us, H6 D = some (.lst (us.map V.ref)) ∧ TAt H6 us (((lotsTo (List.range n) n).take j).filter fun l => (decide (0 < l.length) && decide (l.length < n)) && decide (l ≠ lot)) ∧ us.length ≤ j) ⟨al hD, [], upd_same, .nil, Nat.le_refl _⟩ (fun j H6 _ pv => .inl (.inl (pv.1 _ _ hlo))) (fun j x H6 hx pv => ?_) (fun H6 pv => ?_)⟩
              · obtain ⟨e6, us, hD6, tD, lu⟩ := pv
                rw [List.getElem?_map] at hx
                obtain ⟨t', ht, rfl⟩ := Option.map_eq_some_iff.mp hx
                obtain ⟨l1, el, hl1⟩ := tlo.get ht
                have jl : j < 32 := by
                  have h1 := (List.getElem?_eq_some_iff.mp el).1
                  have h2 : (lotsTo (List.range n) n).length ≤ 32 := (level_len ⟨n, by omega⟩ ⟨n, by omega⟩).2
                  omega
                have hll : (l1.map fun c => V.int (c : Nat)).length = l1.length := List.length_map ..
                have hl2 := e6 _ _ hl1
                have f1 : ((lotsTo (List.range n) n).take (j + 1)).filter (fun l => (decide (0 < l.length) && decide (l.length < n)) && decide (l ≠ lot)) = ((lotsTo (List.range n) n).take j).filter (fun l => (decide (0 < l.length) && decide (l.length < n)) && decide (l ≠ lot)) ++ (if ((decide (0 < l1.length) && decide (l1.length < n)) && decide (l1 ≠ lot)) = true then [l1] else []) := by
                  rw [List.take_add_one, el, List.filter_append]
                  show _ ++ List.filter _ [l1] = _
                  rw [List.filter_cons, List.filter_nil]
                have e46 := e45.trans e6
                have no : ((decide (0 < l1.length) && decide (l1.length < n)) && decide (l1 ≠ lot)) = false → ∀ H7, Same H6 H7 → (Same H5 H7 ∧ ∃ us, H7 D = some (.lst (us.map V.ref)) ∧ TAt H7 us (((lotsTo (List.range n) n).take (j + 1)).filter fun l => (decide (0 < l.length) && decide (l.length < n)) && decide (l ≠ lot)) ∧ us.length ≤ j + 1) := fun z H7 e7 => by
                  refine ⟨e6.trans e7, us, e7 _ _ hD6, ?_, by omega⟩
                  rw [f1, if_neg (by rw [z]; decide), List.append_nil]
                  exact tD.same e7
                refine ⟨rfl, _, rfl, t', _, rfl, .inr (.inl (.inl hl2)), _, _, rfl, rfl, _, rfl, ite2 (fun q1 => ?_) (fun q1 => ?_)⟩
                · have q1' : 0 < l1.length := by
                    have z : (0 : Int) < (((l1.map fun c => V.int (c : Nat)).length : Nat) : Int) := of_decide_eq_true q1
                    omega
                  refine ⟨_, rfl, q, _, _, _, rfl, rfl, .inl (.inl (e46 _ _ g1)), atI_nat (j := 0) rfl, _, _, rfl, rfl, _, rfl, ite2 (fun q2 => ?_) (fun q2 => ?_)⟩
                  · have q2' : l1.length < n := by
                      have z : (((l1.map fun c => V.int (c : Nat)).length : Nat) : Int) < (n : Nat) := of_decide_eq_true q2
                      omega
                    refine ⟨_, rfl, t', _, rfl, .inr (.inl (.inl hl2)), fun u nu => ?_⟩
                    have e7 := al (o := .lst (ints_ l1)) nu
                    refine ⟨_, rfl, q, _, _, _, rfl, rfl, .inl (.inl ((e46.trans e7) _ _ g1)), atI_nat (j := 2) rfl, ?_⟩
                    refine ⟨.list (l1.map fun c => PyData.int (c : Nat)), .list (lot.map fun c => PyData.int (c : Nat)), .lst (.inl (.inl upd_same)) (dp_ints l1), .lst (.inl (.inl ((e46.trans e7) _ _ g4))) (dp_ints lot), shapedL_ints _, shapedL_ints _, ?_⟩
                    rw [eqvL_ints]
                    refine ⟨_, rfl, ?_⟩
                    by_cases q3 : l1 = lot
                    · rw [decide_eq_true q3]
                      exact iteF (no (by rw [show decide (l1 ≠ lot) = false from decide_eq_false fun z => z q3, Bool.and_false]) _ e7)
                    · rw [decide_eq_false q3]
                      refine iteT ⟨_, rfl, _, e7 _ _ hD6, by rw [List.length_map]; exact small1000 (by omega), fun b o hb => ?_, us ++ [t'], by rw [upd_same, List.map_append]; rfl, ?_, by rw [List.length_append, List.length_singleton]; omega⟩
                      · rw [upd_ne (ne_of_none hb hD)]
                        exact e7 _ _ (e6 _ _ hb)
                      · rw [f1, if_pos (by rw [decide_eq_true q1', decide_eq_true q2', decide_eq_true q3]; rfl)]
                        have up : ∀ b xs, upd H6 u (.lst (ints_ l1)) b = some (.tup xs) → upd (upd H6 u (.lst (ints_ l1))) D (.lst (us.map V.ref ++ [.ref t'])) b = some (.tup xs) := fun b xs hb => by
                          rw [upd_ne (fun z => by rw [z, e7 _ _ hD6] at hb; cases hb)]
                          exact hb
                        exact ((tD.same e7).mono up).append (.cons (up _ _ (e7 _ _ hl2)) .nil)
                  · have q2' : ¬ l1.length < n := fun z => q2 (decide_eq_true (by omega))
                    exact no (by rw [decide_eq_false q2', Bool.and_false, Bool.false_and]) _ (Same.refl _)
                · have q1' : ¬ 0 < l1.length := fun z => q1 (decide_eq_true (by omega))
                  exact ⟨_, rfl, iteF (no (by rw [decide_eq_false q1', Bool.false_and, Bool.false_and]) _ (Same.refl _))⟩
              · obtain ⟨e6, us, hD6, tD, lu⟩ := pv
                rw [List.length_map, tlo.len, List.take_length] at tD
                have st6 := st4.same (e45.trans e6)
                exact ⟨D, us, rfl, st6, hD6, tD, ((st4.same e45).hand.ne hD).1⟩
            · obtain ⟨R, ts, rfl, st5, hR, tR, nRh⟩ := hM
              have E5 := E0.stay st5
              refine ⟨fun τ H' => τ = [some (.ref h), some (.ref q), some (.ref s), some (.ref t), some (.bl sm), none, some (.ref tw), some (.ref R), none, none, none, none, none] ∧ Stay h c H H', ?_, fun τ H6 hM => ?_⟩
              · obtain ⟨rA, sA, tsA, g1, g2, g3, g4⟩ := E5.la.at_
                obtain ⟨r0, r32⟩ := rds_some n2 n5 E0.la.lot.1
                refine ⟨_, rfl, _, rfl, q, _, _, _, rfl, rfl, .inl (.inl g1), atI_nat (j := 0) rfl, _, rfl, q, _, _, _, rfl, rfl, .inl (.inl g1), atI_nat (j := 1) rfl, _, rfl, _, rfl, h, c, R, _, rfl, E5.hand, nRh, hR, by rw [List.length_map, tR.len]; exact r0, by rw [List.length_map, tR.len]; omega, fun H6 j v d6 hv => ?_⟩
                have x56 := Stay.of_drawn E5.hand d6
                have st06 := st5.trans x56
                have E6 := E0.stay st06
                rw [List.getElem?_map] at hv
                obtain ⟨t', ht, rfl⟩ := Option.map_eq_some_iff.mp hv
                obtain ⟨l2, el, hl2⟩ := tR.get ht
                obtain ⟨ml, pl⟩ := List.mem_filter.mp (List.mem_of_getElem? el)
                obtain ⟨pl1, pl2⟩ := Bool.and_eq_true_iff.mp pl
                obtain ⟨pl3, pl4⟩ := Bool.and_eq_true_iff.mp pl1
                refine ⟨by show 3 ≤ sizeLine; decide, fun u nu => ?_⟩
                have e7 := al (o := .tup [.int (n : Nat), .ref rA, .ref t']) nu
                have E7 := E6.stay (Stay.of_same E6.hand e7)
                have L7 : LandT (upd H6 u (.tup [.int (n : Nat), .ref rA, .ref t'])) u n es l2 := ⟨⟨rA, t', tsA, upd_same, e7 _ _ (x56.lst g2 (notHand_refs _)), (x56.tat g3).same e7, .inl (e7 _ _ (x56.tup hl2))⟩, E0.la.ok, ml, of_decide_eq_true pl3, of_decide_eq_true pl4⟩
                refine ⟨_, rfl, u, s, n, es, l2, hs, tab, rfl, L7, E7.as_, n2, n5, fun H8 p' l' e8 np W' => ?_⟩
                obtain ⟨dx, _, _, _, w1, _⟩ := (E7.st.same e8).at_
                refine ⟨t, dx, _, .ref S, rfl, w1, W'.ty TS, nfC K S, t, l, n, es, lot, hs, tab, _, rfl, E7.st.same e8, .inl ⟨p', l', n, es, l2, hs, tab, rfl, W', fun H9 e9 => ?_⟩⟩
                rw [eq_rd_ (Ne.symm (of_decide_eq_true pl2))]
                exact ⟨_, rfl, iteF ⟨rfl, st06.same (e7.trans (e8.trans e9))⟩⟩
              · obtain ⟨rfl, st6⟩ := hM
                have E6 := E0.stay st6
                clear hR tR nRh ts
                -- other hands
                refine ⟨fun τ H' => ∃ (X : Addr) (hx : List Nat), τ = [some (.ref h), some (.ref q), some (.ref s), some (.ref t), some (.bl sm), none, some (.ref tw), some (.ref R), none, some (.ref X), none, none, none] ∧ Stay h c H H' ∧ H' X = some (.lst (ints_ hx)) ∧ hx.length = n ∧ ∀ x ∈ hx, x ≤ 10 ^ 30, ?_, fun τ H7 hM => ?_⟩
                · obtain ⟨rA, sA, tsA, g1, g2, g3, g4⟩ := E6.la.at_
                  refine ⟨_, rfl, _, rfl, q, _, _, _, rfl, rfl, .inl (.inl g1), atI_nat (j := 0) rfl, h, c, n, rfl, E6.hand, n2, n5, fun H7 u th' tt' hx rs' tab' x67 nu hu7 h27 h37 h47 S7 => ?_⟩
                  exact ⟨u, _, _, _, rfl, rfl, .inl (.inl hu7), atI_nat (j := 0) rfl, th', hx, rfl, st6.trans x67, h27, S7.hl, S7.hm⟩
                · obtain ⟨X, hx, rfl, st7, hX, xl, xm⟩ := hM
                  have E7 := E0.stay st7
                  -- a bare table
                  refine ⟨fun τ H' => ∃ (D : Addr) (us : List Addr), τ = [some (.ref h), some (.ref q), some (.ref s), some (.ref t), some (.bl sm), none, some (.ref tw), some (.ref R), none, some (.ref X), some (.ref D), none, none] ∧ Same H7 H' ∧ H' D = some (.lst (us.map V.ref)) ∧ RLs H' us (List.replicate n (List.replicate n 0)), ?_, fun τ H8 hM => ?_⟩
                  · obtain ⟨rA, sA, tsA, g1, g2, g3, g4⟩ := E7.la.at_
                    have tn_ : ((n : Nat) : Int).toNat = n := Int.toNat_natCast n
                    refine ⟨_, rfl, q, _, _, _, rfl, rfl, .inl (.inl g1), atI_nat (j := 0) rfl, _, rfl, by omega, by omega, fun D hD => lc_range (lo := 0) (n := n) (fun i H3 => Same H7 H3 ∧ ∃ us, H3 D = some (.lst (us.map V.ref)) ∧ RLs H3 us (List.replicate i (List.replicate n 0))) ⟨al hD, [], upd_same, .nil⟩ (fun i H3 hi pv => ?_) (fun H3 pv => ?_)⟩
                    · obtain ⟨e3, us, hD3, t3⟩ := pv
                      refine ⟨rfl, by show 1 ≤ sizeLine; decide, fun t4 nt4 => ?_⟩
                      have e4' := e3.trans (al (o := .lst [.str "none"]) nt4)
                      refine ⟨_, rfl, q, _, _, _, rfl, rfl, .inl (.inl (e4' _ _ g1)), atI_nat (j := 0) rfl, t4, (n : Nat), [.str "none"], rfl, rfl, upd_same, by omega, by omega, ?_, fun u nu => ?_⟩
                      · rw [tn_]
                        exact Nat.le_of_lt (small1000 (by show 1 * n ≤ 1000; omega))
                      rw [tn_, flat_one]
                      have wrep : List.replicate n (V.str "none") = wds (List.replicate n 0) := by unfold wds; rw [List.map_replicate]; rfl
                      rw [wrep]
                      have e5 := (al (o := .lst [.str "none"]) nt4).trans (al (o := .lst (wds (List.replicate n 0))) nu)
                      have hu5 : upd (upd H3 t4 (.lst [.str "none"])) u (.lst (wds (List.replicate n 0))) u = some (.lst (wds (List.replicate n 0))) := upd_same
                      have nu3 : H3 u = none := (al (o := .lst [.str "none"]) nt4).free nu
                      have uD : u ≠ D := fun e => by rw [e, hD3] at nu3; cases nu3
                      have nD : ∀ b ∈ us, b ≠ D := by
                        have : ∀ {us : List Addr} {tab : List (List Nat)}, RLs H3 us tab → (∀ r ∈ tab, r = List.replicate n 0) → ∀ b ∈ us, H3 b = some (.lst (wds (List.replicate n 0))) := fun {us tab} t => by
                          induction t with
                          | nil => exact fun _ b hb => nomatch hb
                          | cons h _ ih =>
                            intro hr b hb
                            rcases List.mem_cons.mp hb with rfl | hb
                            · rw [hr _ (List.mem_cons_self ..)] at h
                              exact h
                            · exact ih (fun r h => hr r (List.mem_cons_of_mem _ h)) b hb
                        intro b hb e
                        have z := this t3 (fun r hr => (List.mem_replicate.mp hr).2) b hb
                        rw [e, hD3] at z
                        injection z with z
                        injection z with z
                        cases us with
                        | nil => exact nomatch hb
                        | cons x r =>
                          obtain ⟨m, rfl⟩ : ∃ m, n = m + 1 := ⟨n - 1, by omega⟩
                          cases z
                      generalize upd (upd H3 t4 (.lst [.str "none"])) u (.lst (wds (List.replicate n 0))) = H5 at e5 hu5 ⊢
                      have ul : us.length ≤ 5 := by
                        rw [t3.len, List.length_replicate]
                        omega
                      refine ⟨_, e5 _ _ hD3, by rw [List.length_map]; exact small1000 (by omega), fun b o hb => ?_, us ++ [u], ?_, ?_⟩
                      · rw [upd_ne (ne_of_none hb hD)]
                        exact e5 _ _ (e3 _ _ hb)
                      · rw [upd_same, List.map_append]
                        rfl
                      · have : ∀ {vs : List Addr} {tab : List (List Nat)}, (∀ b ∈ vs, b ≠ D) → RLs H5 vs tab → RLs (upd H5 D (.lst (us.map V.ref ++ [.ref u]))) vs tab := fun {vs tab} hn t => by
                          induction t with
                          | nil => exact .nil
                          | cons h _ ih => exact .cons (by rw [upd_ne (hn _ (List.mem_cons_self ..))]; exact h) (ih fun b hb => hn b (List.mem_cons_of_mem _ hb))
                        rw [List.replicate_succ']
                        exact (this nD (t3.same e5)).append (.cons (by rw [upd_ne uD]; exact hu5) .nil)
                    · obtain ⟨e3, us, hD3, t3⟩ := pv
                      exact ⟨D, us, rfl, e3, hD3, t3⟩
                  · obtain ⟨D, us, rfl, e8, hD8, t8⟩ := hM
                    have st8 := st7.same e8
                    have E8 := E0.stay st8
                    -- alike
                    refine ⟨fun τ H' => τ = [some (.ref h), some (.ref q), some (.ref s), some (.ref t), some (.bl sm), none, some (.ref tw), some (.ref R), none, some (.ref X), some (.ref D), none, some (.bl (decide (lotsF hx n = lotsF hs n)))] ∧ Same H7 H', ?_, fun τ H9 hM => ?_⟩
                    · refine ⟨_, rfl, _, rfl, _, rfl, by show 2 ≤ sizeLine; decide, fun u nu => ?_⟩
                      have e9 := al (o := .tup [.ref X, .ref D]) nu
                      have e79 := e8.trans e9
                      have E9 := E8.stay (Stay.of_same E8.hand e9)
                      refine ⟨q, u, n, es, lot, hx, _, rfl, E9.la.t, ⟨⟨X, D, us, upd_same, e79 _ _ hX, e9 _ _ hD8, t8.same e9⟩, bare_tab xl xm⟩, n2, n5, fun HA p1 l1 eA np1 W1 => ?_⟩
                      have EA := E9.stay (Stay.of_same E9.hand eA)
                      obtain ⟨th', tt', rs', a1, a2, _⟩ := EA.as_.at_
                      refine ⟨_, rfl, _, rfl, s, _, _, _, rfl, rfl, .inl (.inl a1), atI_nat (j := 0) rfl, _, rfl, by show 2 ≤ sizeLine; decide, fun u2 nu2 => ?_⟩
                      have eB := al (o := .tup [.ref th', .ref D]) nu2
                      have e8B := (e9.trans eA).trans eB
                      refine ⟨q, u2, n, es, lot, hs, _, rfl, (EA.la.same eB).t, ⟨⟨th', D, us, upd_same, eB _ _ a2, e8B _ _ hD8, t8.same e8B⟩, bare_tab hl E0.as_.st.hm⟩, n2, n5, fun HC p2 l2 eC np2 W2 => ?_⟩
                      have W1C := W1.same (eB.trans eC)
                      obtain ⟨dx, _, _, _, w1, _⟩ := W1C.at_
                      refine ⟨p1, dx, _, .ref S, rfl, w1, W2.ty TS, nfC K S, p1, l1, n, es, lot, hx, _, _, rfl, W1C, .inl ⟨p2, l2, n, es, lot, hs, _, rfl, W2, fun HD eD => ⟨?_, e8.trans (e8B.trans (eC.trans eD))⟩⟩⟩
                      have ev : eqSt n es lot hx (List.replicate n (List.replicate n 0)) n es lot hs (List.replicate n (List.replicate n 0)) = decide (lotsF hx n = lotsF hs n) := by
                        unfold eqSt
                        rw [decide_eq_true ⟨rfl, rfl, rfl⟩, decide_eq_true rfl, Bool.and_true, Bool.true_and]
                      rw [ev]
                      rfl
                    · obtain ⟨rfl, e9⟩ := hM
                      have E9 := E0.stay (st7.same e9)
                      obtain ⟨th', tt', rs', a1, a2, _⟩ := E9.as_.at_
                      refine ⟨_, rfl, _, rfl, X, n, hx, rfl, e9 _ _ hX, xl, n5, fun HA u us eA nu hu tu => ?_⟩
                      refine ⟨_, rfl, s, _, _, _, rfl, rfl, .inl (.inl (eA _ _ a1)), atI_nat (j := 0) rfl, th', n, hs, rfl, eA _ _ a2, hl, n5, fun HB v vs eB nv hv tv => ?_⟩
                      refine ⟨_, _, .tup (.inl (.inl (eB _ _ hu))) (dp_rows (tu.same eB)), .tup (.inl (.inl hv)) (dp_rows tv), shapedT_rows _, shapedT_rows _, rfl, ?_⟩
                      have e0 : PyData.eqv (.tuple ((lotsF hx n).map intD)) (.tuple ((lotsF hs n).map intD)) = decide (lotsF hx n = lotsF hs n) := by rw [PyData.eqv, eqvAll_rows]
                      rw [e0, decide_eq_true rfl]
                      exact k _ (st7.same ((e9.trans eA).trans eB))
end
end K7
end
/-! ## P33 -/
section
open PySem PySem.Spec PyProof.Rows L2
namespace K7
abbrev N__law_size : List Str := ["_law_hand_here"]
abbrev s__law_size : Stmt := topS 39
theorem sc__law_size : FnScope ["_law_hand_here"] ["_law_hand_here"] (defScope s__law_size) := ⟨rfl, rfl, rfl, by decide +kernel, rfl, by decide +kernel, by decide +kernel⟩
abbrev N__law_refused_right : List Str := ["_law_hand_here", "_law_n", "_law_told", "_law_odd", "_law_cell"]
abbrev s__law_refused_right : Stmt := topS 61
theorem sc__law_refused_right : FnScope ["_law_hand_here", "_law_n", "_law_told", "_law_odd", "_law_cell"] ["_law_hand_here", "_law_n", "_law_told"] (defScope s__law_refused_right) := ⟨rfl, rfl, rfl, by decide +kernel, rfl, by decide +kernel, by decide +kernel⟩
/-! ### refusals of a state -/
def datO : Option PyData → PyData
  | none => .str "let"
  | some d => .tuple [.str "none", d]
theorem lay_datO {o : Option PyData} (h : ∀ d, o = some d → d.canLay0 = true ∧ d.depth = 0) : (datO o).canLay0 = true ∧ (datO o).depth ≤ 1 := by
  cases o with
  | none => exact ⟨by decide +kernel, by show PyData.depth (.str "let") ≤ 1; decide +kernel⟩
  | some d =>
    obtain ⟨h1, h2⟩ := h d rfl
    have s : PyData.canLay0 (.str "none") = true := by decide +kernel
    refine ⟨?_, ?_⟩
    · show PyData.canLay0 (.tuple [.str "none", d]) = true
      rw [PyData.canLay0, PyData.canLayAll0, PyData.canLayAll0, PyData.canLayAll0, s, h1]
      rfl
    · show PyData.depth (.tuple [.str "none", d]) ≤ 1
      simp only [PyData.depth, PyData.depthAll]
      omega
theorem lay_dats : ∀ l : List (Option PyData), (∀ o ∈ l, ∀ d, o = some d → d.canLay0 = true ∧ d.depth = 0) → PyData.canLayAll0 (l.map datO) = true ∧ PyData.depthAll (l.map datO) ≤ 1
  | [], _ => ⟨rfl, Nat.zero_le _⟩
  | o :: l, h => by
    obtain ⟨h1, h2⟩ := lay_dats l fun o ho => h o (List.mem_cons_of_mem _ ho)
    obtain ⟨h3, h4⟩ := lay_datO (h o (List.mem_cons_self ..))
    refine ⟨by rw [List.map_cons, PyData.canLayAll0, h3, h1]; rfl, ?_⟩
    rw [List.map_cons, PyData.depthAll]
    omega
theorem shaped_dats (l : List (Option PyData)) (h : ∀ o ∈ l, ∀ d, o = some d → d.canLay0 = true ∧ d.depth = 0) : (PyData.list (l.map datO)).canLay0 = true ∧ SeqAt.shaped (.list (l.map datO)) = true := by
  obtain ⟨h1, h2⟩ := lay_dats l h
  have z : (PyData.list (l.map datO)).canLay0 = true := by rw [PyData.canLay0]; exact h1
  refine ⟨z, ?_⟩
  show ((PyData.canLay0 (.list (l.map datO))) && decide (PyData.depth (.list (l.map datO)) ≤ 64)) = true
  rw [z, PyData.depth, decide_eq_true (by omega)]
  rfl
/-- words of a state, as data -/
theorem dp_words {K : PySem.W.Frag} {H : Hp} {x : V} {d : PyData} (hd : Dp K H x d) : ∀ (ws : List V) (os : List (Option V)), ws.length = os.length → (∀ o ∈ os, o = none ∨ o = some x) → (∀ (k : Nat) v o, ws[k]? = some v → os[k]? = some o → WAt H v o) → DpAll K H ws (os.map fun o => datO (o.map fun _ => d))
  | [], [], _, _, _ => .nil
  | [], _ :: _, h, _, _ => nomatch h
  | _ :: _, [], h, _, _ => nomatch h
  | v :: ws, o :: os, h, ho, hw => by
    have ih := dp_words hd ws os (by simpa using h) (fun o h => ho o (List.mem_cons_of_mem _ h)) fun k v o h1 h2 => hw (k + 1) v o h1 h2
    have h0 := hw 0 v o rfl rfl
    rw [List.map_cons]
    refine .cons ?_ ih
    rcases ho o (List.mem_cons_self ..) with rfl | rfl
    · obtain rfl : v = .str "let" := h0
      exact .str _
    · obtain ⟨t, rfl, ht⟩ := h0
      exact .tup (.inl (.inl ht)) (.cons (.str _) (.cons hd .nil))
/-- an odd thing -/
structure OddV (K : PySem.W.Frag) (n : Nat) (v : V) (d : PyData) : Prop where
  fl : Flat4 v
  wf : wholeV v 0 ((n : Nat) - 1) = false
  dp : ∀ H, Dp K H v d
  lay : d.canLay0 = true ∧ d.depth = 0
theorem odd_int {K : PySem.W.Frag} {n : Nat} {i : Int} (h : i < 0 ∨ (n : Int) ≤ i) : OddV K n (.int i) (.int i) := by
  refine ⟨.int i, ?_, fun H => .int i, by simp [PyData.canLay0], by simp [PyData.depth]⟩
  rw [wholeV_int]
  rcases h with h | h
  · rw [decide_eq_false (by omega)]
    rfl
  · rw [decide_eq_false (p := i ≤ (n : Int) - 1) (by omega), Bool.and_false]
def wOs (bx by_ : Bool) (x y : V) : List (Option V) := (List.range 7).map (wO bx by_ x y)
theorem wOs_at {bx by_ : Bool} {x y : V} {k : Nat} {o : Option V} (h : (wOs bx by_ x y)[k]? = some o) : o = wO bx by_ x y k := by
  unfold wOs at h
  rw [List.getElem?_map] at h
  obtain ⟨j, hj, rfl⟩ := Option.map_eq_some_iff.mp h
  have e := List.getElem?_eq_some_iff.mp hj
  obtain ⟨e1, e2⟩ := e
  rw [List.getElem_range] at e2
  rw [e2]
section
variable {P : Program} {w : World} {K : PySem.W.Frag} {mg : Str → Option Value} {base : Heap} {a : AdL} {S fE fQ : Addr}
def spSize : Sp := fun vs H Q _ => ∃ (h c : Addr), vs = [.ref h] ∧ Hand H h c ∧ ∀ H' (n : Nat), Stay h c H H' → 2 ≤ n → n ≤ 4 → Q (.int (n : Nat)) H'
theorem ok_size {f fpk : Addr} {fd fdpk : FuncData} (F : Fun K "_law_size" "_law_size" s__law_size f fd)
    (Gpk : FnOk P w K mg base CX0 3 fpk fdpk ["_law_hand_here", "_law_things"] spPick) (gpk : mg "_law_pick" = some (.ref fpk)) (kpk : PySem.W.keepIn K (.ref fpk) = true) (bpk : Binds K fdpk ["_law_hand_here", "_law_things"] []) : FnOk P w K mg base CX0 4 f fd ["_law_hand_here"] spSize := by
  refine F.ok sc__law_size (fun vs H Q E h => ?_) (fun cdv A outer s H vs Q E hr h => ?_)
  · obtain ⟨h, c, rfl, _⟩ := h
    rfl
  · obtain ⟨h, c, rfl, hh, q⟩ := h
    refine ⟨_, (pss_one (ps_ret (pe_call Gpk (hr.mono (by decide)) (by rfl) gpk kpk bpk .nil pass0 (pa_cons (pv 0) (pa_cons (pe_lst (pa_cons pe_int (pa_cons pe_int (pa_cons pe_int (pa_cons pe_int (pa_cons pe_int (pa_cons pe_int (pa_cons pe_int (pa_cons pe_int (pa_cons pe_int (pa_cons pe_int pa_nil))))))))))) pa_nil))))), ?_⟩
    refine ⟨_, rfl, by show 10 ≤ sizeLine; decide, fun lp nlp => ?_⟩
    have s1 := al (o := .lst [.int 2, .int 3, .int 2, .int 3, .int 3, .int 2, .int 3, .int 3, .int 3, .int 4]) nlp
    refine ⟨h, c, lp, _, rfl, hh.same s1, (hh.ne nlp).1, upd_same, by decide, by decide, fun H2 j v d2 hv => ?_⟩
    obtain ⟨n, rfl, n2, n4⟩ : ∃ n : Nat, v = .int (n : Nat) ∧ 2 ≤ n ∧ n ≤ 4 := by
      have m := List.mem_of_getElem? hv
      simp only [List.mem_cons, List.not_mem_nil, or_false] at m
      rcases m with rfl | rfl | rfl | rfl | rfl | rfl | rfl | rfl | rfl | rfl <;> first | exact ⟨2, rfl, by decide, by decide⟩ | exact ⟨3, rfl, by decide, by decide⟩ | exact ⟨4, rfl, by decide, by decide⟩
    exact q H2 n ((Stay.of_same hh s1).trans (.of_drawn (hh.same s1) d2)) n2 n4
def spRefR (a : AdL) (S : Addr) : Sp := fun vs H Q _ => ∃ (h c t l : Addr) (n : Nat) (es : List (Nat × Nat)) (lot hs : List Nat) (tab : List (List Nat)), vs = [.ref h, .int (n : Nat), .ref t] ∧ Hand H h c ∧ StateO a.C S H t l n es lot hs tab ∧ 2 ≤ n ∧ n ≤ 5 ∧ ∀ H', Q (.bl true) H'
theorem ok_refr {f fpk fdr fwo : Addr} {fd fdpk fddr fdwo : FuncData} (F : Fun K "_law_refused_right" "_law_refused_right" s__law_refused_right f fd)
    (Gpk : FnOk P w K mg base CX0 3 fpk fdpk ["_law_hand_here", "_law_things"] spPick) (gpk : mg "_law_pick" = some (.ref fpk)) (kpk : PySem.W.keepIn K (.ref fpk) = true) (bpk : Binds K fdpk ["_law_hand_here", "_law_things"] [])
    (Gdr : FnOk P w K mg base CX0 2 fdr fddr ["_law_hand_here", "_law_many"] spDraw) (gdr : mg "_law_draw" = some (.ref fdr)) (kdr : PySem.W.keepIn K (.ref fdr) = true) (bdr : Binds K fddr ["_law_hand_here", "_law_many"] [])
    (Gwo : FnOk P w K mg base CX0 7 fwo fdwo ["_law_state", "_law_cell", "_law_other"] (spWords a S)) (gwo : mg "_law_words_of" = some (.ref fwo)) (kwo : PySem.W.keepIn K (.ref fwo) = true) (bwo : Binds K fdwo ["_law_state", "_law_cell", "_law_other"] []) : FnOk P w K mg base CX0 8 f fd ["_law_hand_here", "_law_n", "_law_told"] (spRefR a S) := by
  refine F.ok sc__law_refused_right (fun vs H Q E h => ?_) (fun cdv A outer s H vs Q E hr h => ?_)
  · obtain ⟨h, c, t, l, n, es, lot, hs, tab, rfl, _⟩ := h
    rfl
  · obtain ⟨h, c, t, l, n, es, lot, hs, tab, rfl, hh, W, n2, n5, k⟩ := h
    refine ⟨_, (pss_cons (ps_set (i := 3) sc__law_refused_right.nd rfl (by first | exact Or.inl rfl | exact Or.inr rfl) (pe_call Gpk (hr.mono (by decide)) (by rfl) gpk kpk bpk .nil pass0 (pa_cons (pv 0) (pa_cons (pe_lst (pa_cons (pv 1) (pa_cons (pe_un un_neg pe_int) (pa_cons pe_bl (pa_cons pe_non (pa_cons pe_str (pa_cons (pe_op op_pow pe_int pe_int) (pa_cons pe_bl pa_nil)))))))) pa_nil))))
 (Evl.pss_cut (ps_set (i := 4) sc__law_refused_right.nd rfl (by first | exact Or.inl rfl | exact Or.inr rfl) (pe_call Gdr (hr.mono (by decide)) (by rfl) gdr kdr bdr .nil pass0 (pa_cons (pv 0) (pa_cons (pv 1) pa_nil))))
 (Evl.pss_cut (ps_if (pt_cmpR (op_neD hr.units) (pe_call Gwo (hr.mono (by decide)) (by rfl) gwo kwo bwo .nil pass0 (pa_cons (pv 2) (pa_cons (pv 4) (pa_cons (pv 4) pa_nil)))) (pe_op op_rep (pe_lst (pa_cons pe_str pa_nil)) pe_int) (nomark _))
  (pss_one (ps_ret pe_bl))
  pss_nil)
 (Evl.pss_cut (ps_if (pt_cmpR (op_neD hr.units) (pe_call Gwo (hr.mono (by decide)) (by rfl) gwo kwo bwo .nil pass0 (pa_cons (pv 2) (pa_cons (pv 3) (pa_cons (pe_un un_neg pe_int) pa_nil)))) (pe_op op_rep (pe_lst (pa_cons (pe_tup (pa_cons pe_str (pa_cons (pv 3) pa_nil))) pa_nil)) pe_int) (nomark _))
  (pss_one (ps_ret pe_bl))
  pss_nil)
 (pss_one (ps_ret (pe_cmpR (op_eqD hr.units) (pe_call Gwo (hr.mono (by decide)) (by rfl) gwo kwo bwo .nil pass0 (pa_cons (pv 2) (pa_cons (pv 4) (pa_cons (pv 3) pa_nil)))) (pe_op op_cat (pe_op op_rep (pe_lst (pa_cons pe_str pa_nil)) pe_int) (pe_op op_rep (pe_lst (pa_cons (pe_tup (pa_cons pe_str (pa_cons (pv 3) pa_nil))) pa_nil)) pe_int)) (nomark _)))))))), ?_⟩
    have big2 : (10 : Int) ^ (30 : Int).toNat = 10 ^ 30 := by decide
    -- an odd thing and a cell
    refine ⟨_, rfl, _, rfl, _, rfl, _, _, rfl, rfl, ⟨by decide, by decide, by decide⟩, by show 7 ≤ sizeLine; decide, fun lp nlp => ?_⟩
    have s1 := al (o := .lst [.int (n : Nat), .int (-1), .bl true, .non, .str "0", .int ((10 : Int) ^ (30 : Int).toNat), .bl false]) nlp
    refine ⟨h, c, lp, _, rfl, hh.same s1, (hh.ne nlp).1, upd_same, by show 0 < 7; decide, by show 7 ≤ 1000; decide, fun H2 j v d2 hv => ?_⟩
    have st2 := (Stay.of_same hh s1).trans (.of_drawn (hh.same s1) d2)
    obtain ⟨d, od⟩ : ∃ d, OddV K n v d := by
      have m := List.mem_of_getElem? hv
      simp only [List.mem_cons, List.not_mem_nil, or_false] at m
      have fT : ∀ b : Bool, wholeV (.bl b) 0 ((n : Nat) - 1) = false := fun b => rfl
      rcases m with rfl | rfl | rfl | rfl | rfl | rfl | rfl
      · exact ⟨_, odd_int (.inr (by omega))⟩
      · exact ⟨_, odd_int (.inl (by decide))⟩
      · exact ⟨.bool true, .bl true, rfl, fun H => .bl true, by decide +kernel, by decide +kernel⟩
      · exact ⟨.none, .non, rfl, fun H => .non, by decide +kernel, by decide +kernel⟩
      · exact ⟨.str "0", .str "0", rfl, fun H => .str "0", by decide +kernel, by decide +kernel⟩
      · exact ⟨_, odd_int (.inr (by rw [big2]; omega))⟩
      · exact ⟨.bool false, .bl false, rfl, fun H => .bl false, by decide +kernel, by decide +kernel⟩
    refine ⟨fun τ H' => ∃ (o : V) (d : PyData) (x : Nat), τ = [some (.ref h), some (.int (n : Nat)), some (.ref t), some o, some (.int (x : Nat))] ∧ OddV K n o d ∧ x < n ∧ StateO a.C S H' t l n es lot hs tab, ?_, fun τ H1 hM => ?_⟩
    · refine ⟨_, rfl, _, rfl, h, c, (n : Nat), rfl, d2.hand, by omega, by omega, fun H3 r d3 r0 r1 => ?_⟩
      obtain ⟨x, rfl⟩ : ∃ x : Nat, r = (x : Nat) := ⟨r.toNat, by omega⟩
      exact ⟨v, d, x, rfl, od, by omega, (W.stay st2).stay (.of_drawn d2.hand d3)⟩
    · obtain ⟨o, d, x, rfl, od, hx, W1⟩ := hM
      have okC : ∀ H', CellS n H' (.int (x : Nat)) false := fun H' => .inl ⟨rfl, x, rfl, hx⟩
      have okO : ∀ H', CellS n H' o true := fun H' => .inr ⟨rfl, .flat od.fl, od.wf⟩
      -- the words as data
      have dat : ∀ (bx by_ : Bool) (x' y' : V), (∀ k < 7, wO bx by_ x' y' k = none ∨ wO bx by_ x' y' k = some o) → ∀ (H' : Hp) (ws : List V), ws.length = 7 → (∀ (k : Nat) v, ws[k]? = some v → WAt H' v (wO bx by_ x' y' k)) → DpAll K H' ws (((wOs bx by_ x' y').map fun z => z.map fun _ => d).map datO) := fun bx by_ x' y' hw H' ws wl hws => by
        rw [List.map_map]
        refine dp_words (od.dp H') ws _ (by unfold wOs; rw [List.length_map, List.length_range, wl]) (fun z hz => ?_) fun k v z h1 h2 => by rw [wOs_at h2]; exact hws k v h1
        obtain ⟨j, hj, rfl⟩ := List.mem_map.mp hz
        exact hw j (List.mem_range.mp hj)
      have shp : ∀ (bx by_ : Bool) (x' y' : V), (PyData.list (((wOs bx by_ x' y').map fun z => z.map fun _ => d).map datO)).canLay0 = true ∧ SeqAt.shaped (.list (((wOs bx by_ x' y').map fun z => z.map fun _ => d).map datO)) = true := fun bx by_ x' y' => shaped_dats _ fun z hz d' ed => by
        obtain ⟨z', _, rfl⟩ := List.mem_map.mp hz
        cases z' with
        | none => cases ed
        | some _ =>
          obtain rfl := Option.some.inj ed
          exact od.lay
      -- cells alone
      refine ⟨fun τ H' => τ = [some (.ref h), some (.int (n : Nat)), some (.ref t), some o, some (.int (x : Nat))] ∧ StateO a.C S H' t l n es lot hs tab, ?_, fun τ H2 hM => ?_⟩
      · refine ⟨_, rfl, _, rfl, _, rfl, t, l, n, es, lot, hs, tab, .int (x : Nat), .int (x : Nat), false, false, rfl, W1, okC _, okC _, fun H2 r ws e2 nr hr2 wl hw => ?_⟩
        refine ⟨by show 1 ≤ sizeLine; decide, fun u nu => ?_⟩
        have e3 := al (o := .lst [.str "let"]) nu
        refine ⟨u, 7, [.str "let"], rfl, rfl, upd_same, by decide, by decide, by decide, fun v nv => ?_⟩
        have e4 := e3.trans (al (o := .lst (List.replicate (7 : Int).toNat [V.str "let"]).flatten) nv)
        have wN : ∀ k, wO false false (V.int (x : Nat)) (V.int (x : Nat)) k = none := fun k => wO_2 rfl rfl
        refine ⟨_, _, .lst (.inl (.inl (e4 _ _ hr2))) (dat false false (.int (x : Nat)) (.int (x : Nat)) (fun k _ => .inl (wN k)) _ ws wl fun k v hk => (hw k v hk).mono fun b xs hb => e4 _ _ hb), .lst (.inl (.inl upd_same)) (dat false false (.int (x : Nat)) (.int (x : Nat)) (fun k _ => .inl (wN k)) _ (List.replicate (7 : Int).toNat [V.str "let"]).flatten rfl fun k v hk => ?_), (shp _ _ _ _).2, (shp _ _ _ _).2, ?_⟩
        · rw [wN]
          have m := List.mem_of_getElem? hk
          rw [flat_one] at m
          exact (List.mem_replicate.mp m).2
        rw [SeqAt.eqv_refl _ (shp _ _ _ _).1]
        exact ⟨_, rfl, iteF ⟨rfl, (W1.same e2).same e4⟩⟩
      · obtain ⟨rfl, W2⟩ := hM
        -- an odd one first
        refine ⟨fun τ H' => τ = [some (.ref h), some (.int (n : Nat)), some (.ref t), some o, some (.int (x : Nat))] ∧ StateO a.C S H' t l n es lot hs tab, ?_, fun τ H3 hM => ?_⟩
        · refine ⟨_, rfl, _, rfl, _, rfl, t, l, n, es, lot, hs, tab, o, .int (-2), true, true, rfl, W2, okO _, .inr ⟨rfl, .flat (.int _), ?_⟩, fun H3 r ws e3 nr hr3 wl hw => ?_⟩
          · rw [wholeV_int, decide_eq_false (by decide)]
            rfl
          refine ⟨_, rfl, by show 2 ≤ sizeLine; decide, fun u nu => ⟨by show 1 ≤ sizeLine; decide, fun v nv => ?_⟩⟩
          have e4 := (al (o := .tup [.str "none", o]) nu).trans (al (o := .lst [.ref u]) nv)
          have hu4 : upd (upd H3 u (.tup [.str "none", o])) v (.lst [.ref u]) u = some (.tup [.str "none", o]) := al (o := .lst [.ref u]) nv _ _ upd_same
          have hv4 : upd (upd H3 u (.tup [.str "none", o])) v (.lst [.ref u]) v = some (.lst [.ref u]) := upd_same
          generalize upd (upd H3 u (.tup [.str "none", o])) v (.lst [.ref u]) = H4 at e4 hu4 hv4 ⊢
          refine ⟨v, 7, [.ref u], rfl, rfl, hv4, by decide, by decide, by show 1 * 7 ≤ sizeLine; decide, fun z nz => ?_⟩
          have e5 := al (o := .lst (List.replicate (7 : Int).toNat [V.ref u]).flatten) nz
          have e35 := e4.trans e5
          have wS : ∀ k, wO true true o (V.int (-2)) k = some o := fun k => wO_x rfl
          refine ⟨_, _, .lst (.inl (.inl (e35 _ _ hr3))) (dat true true o (.int (-2)) (fun k _ => .inr (wS k)) _ ws wl fun k v hk => (hw k v hk).mono fun b xs hb => e35 _ _ hb), .lst (.inl (.inl upd_same)) (dat true true o (.int (-2)) (fun k _ => .inr (wS k)) _ (List.replicate (7 : Int).toNat [V.ref u]).flatten rfl fun k v hk => ?_), (shp _ _ _ _).2, (shp _ _ _ _).2, ?_⟩
          · rw [wS]
            have m := List.mem_of_getElem? hk
            rw [flat_one] at m
            exact ⟨u, (List.mem_replicate.mp m).2, e5 _ _ hu4⟩
          rw [SeqAt.eqv_refl _ (shp _ _ _ _).1]
          exact ⟨_, rfl, iteF ⟨rfl, (W2.same e3).same e35⟩⟩
        · obtain ⟨rfl, W3⟩ := hM
          refine ⟨_, rfl, _, rfl, _, rfl, t, l, n, es, lot, hs, tab, .int (x : Nat), o, false, true, rfl, W3, okC _, okO _, fun H4 r ws e4 nr hr4 wl hw => ?_⟩
          refine ⟨by show 1 ≤ sizeLine; decide, fun u nu => ?_⟩
          have e5 := al (o := .lst [.str "let"]) nu
          refine ⟨u, 4, [.str "let"], rfl, rfl, upd_same, by decide, by decide, by decide, fun v nv => ?_⟩
          have e6 := e5.trans (al (o := .lst (List.replicate (4 : Int).toNat [V.str "let"]).flatten) nv)
          have hv6 : upd (upd H4 u (.lst [.str "let"])) v (.lst (List.replicate (4 : Int).toNat [V.str "let"]).flatten) v = some (.lst (List.replicate (4 : Int).toNat [V.str "let"]).flatten) := upd_same
          generalize upd (upd H4 u (.lst [.str "let"])) v (.lst (List.replicate (4 : Int).toNat [V.str "let"]).flatten) = H6 at e6 hv6 ⊢
          refine ⟨_, rfl, by show 2 ≤ sizeLine; decide, fun u2 nu2 => ⟨by show 1 ≤ sizeLine; decide, fun v2 nv2 => ?_⟩⟩
          have e7 := (al (o := .tup [.str "none", o]) nu2).trans (al (o := .lst [.ref u2]) nv2)
          have hu7 : upd (upd H6 u2 (.tup [.str "none", o])) v2 (.lst [.ref u2]) u2 = some (.tup [.str "none", o]) := al (o := .lst [.ref u2]) nv2 _ _ upd_same
          have hv7 : upd (upd H6 u2 (.tup [.str "none", o])) v2 (.lst [.ref u2]) v2 = some (.lst [.ref u2]) := upd_same
          generalize upd (upd H6 u2 (.tup [.str "none", o])) v2 (.lst [.ref u2]) = H7 at e7 hu7 hv7 ⊢
          refine ⟨v2, 3, [.ref u2], rfl, rfl, hv7, by decide, by decide, by show 1 * 3 ≤ sizeLine; decide, fun z nz => ?_⟩
          have e8 := al (o := .lst (List.replicate (3 : Int).toNat [V.ref u2]).flatten) nz
          have hz8 : upd H7 z (.lst (List.replicate (3 : Int).toNat [V.ref u2]).flatten) z = some (.lst (List.replicate (3 : Int).toNat [V.ref u2]).flatten) := upd_same
          have hv8 := (e7.trans e8) _ _ hv6
          have hu8 := e8 _ _ hu7
          have e48 := e6.trans (e7.trans e8)
          generalize upd H7 z (.lst (List.replicate (3 : Int).toNat [V.ref u2]).flatten) = H8 at e8 hz8 hv8 hu8 e48 ⊢
          refine ⟨v, z, _, _, rfl, rfl, hv8, hz8, by show 4 + 3 ≤ sizeLine; decide, fun p np => ?_⟩
          have e9 := al (o := .lst ((List.replicate (4 : Int).toNat [V.str "let"]).flatten ++ (List.replicate (3 : Int).toNat [V.ref u2]).flatten)) np
          have e49 := e48.trans e9
          have wS : ∀ k < 7, wO false true (V.int (x : Nat)) o k = none ∨ wO false true (V.int (x : Nat)) o k = some o := fun k _ => by
            by_cases h4 : k < 4
            · exact .inl (wO_1 rfl h4)
            · exact .inr (wO_y rfl rfl (by omega))
          refine ⟨_, _, .lst (.inl (.inl (e49 _ _ hr4))) (dat false true (.int (x : Nat)) o wS _ ws wl fun k v hk => (hw k v hk).mono fun b xs hb => e49 _ _ hb), .lst (.inl (.inl upd_same)) (dat false true (.int (x : Nat)) o wS _ ((List.replicate (4 : Int).toNat [V.str "let"]).flatten ++ (List.replicate (3 : Int).toNat [V.ref u2]).flatten) rfl fun k v hk => ?_), (shp _ _ _ _).2, (shp _ _ _ _).2, ?_⟩
          · match k, hk with
            | 0, hk => rw [wO_1 rfl (by decide)]; exact (Option.some.inj hk).symm
            | 1, hk => rw [wO_1 rfl (by decide)]; exact (Option.some.inj hk).symm
            | 2, hk => rw [wO_1 rfl (by decide)]; exact (Option.some.inj hk).symm
            | 3, hk => rw [wO_1 rfl (by decide)]; exact (Option.some.inj hk).symm
            | 4, hk => rw [wO_y rfl rfl (by decide)]; exact ⟨u2, (Option.some.inj hk).symm, e9 _ _ hu8⟩
            | 5, hk => rw [wO_y rfl rfl (by decide)]; exact ⟨u2, (Option.some.inj hk).symm, e9 _ _ hu8⟩
            | 6, hk => rw [wO_y rfl rfl (by decide)]; exact ⟨u2, (Option.some.inj hk).symm, e9 _ _ hu8⟩
            | (k + 7), hk => exact nomatch hk
          rw [SeqAt.eqv_refl _ (shp _ _ _ _).1]
          exact k _
end
end K7
end
/-! ## P34 -/
section
open PySem PySem.Spec PyProof.Rows L2
namespace K7
abbrev N_law : List Str := ["_law_script", "_law_hand_here", "_law_land_here", "_law_n", "_law_state", "_law_hands", "_law_table_here", "_law_row", "_law_plain", "_law_told", "_law_spoilt"]
abbrev s_law : Stmt := topS 62
theorem sc_law : FnScope ["_law_script", "_law_hand_here", "_law_land_here", "_law_n", "_law_state", "_law_hands", "_law_table_here", "_law_row", "_law_plain", "_law_told", "_law_spoilt"] ["_law_script"] (defScope s_law) := ⟨rfl, rfl, rfl, by decide +kernel, rfl, by decide +kernel, by decide +kernel⟩
/-! ### the law -/
theorem keepNL {H : Hp} {x : Addr} {xs : List V} (hx : H x = some (.lst xs)) (o' : HO) {b : Addr} {o : HO} (hb : H b = some o) (no : ∀ ys, o ≠ .lst ys) : upd H x o' b = some o := by
  rw [upd_ne (fun e => by rw [e, hx] at hb; exact no _ (Option.some.inj hb).symm)]
  exact hb
theorem LandO.nl {C l x : Addr} {xs : List V} {H : Hp} {n : Nat} {es : List (Nat × Nat)} {rd : List Nat} (h : LandO C H l n es rd) (hx : H x = some (.lst xs)) (o' : HO) : LandO C (upd H x o') l n es rd := by
  obtain ⟨dx', an, ar, ay, ac, tn, ty, tc, h1, h2, h3, h4, h5, h6, h7, h8⟩ := h.at_
  have kt : ∀ b ys, H b = some (.tup ys) → upd H x o' b = some (.tup ys) := fun b ys hb => keepNL hx o' hb fun _ e => by cases e
  exact ⟨⟨dx', an, ar, ay, ac, tn, ty, tc, keepNL hx o' h1 (fun _ e => by cases e), kt _ _ h2, h3.mono kt, kt _ _ h4, kt _ _ h5, h6.mono kt, kt _ _ h7, h8.mono kt⟩, h.n2, h.n5, h.ok, h.rlt, h.rnd, h.rso, h.r0, h.rn⟩
theorem StateO.nl {C S p l x : Addr} {xs : List V} {H : Hp} {n : Nat} {es : List (Nat × Nat)} {rd hs : List Nat} {tab : List (List Nat)} (W : StateO C S H p l n es rd hs tab) (hx : H x = some (.lst xs)) (o' : HO) : StateO C S (upd H x o') p l n es rd hs tab := by
  obtain ⟨dx, th, tt, rs, h1, h2, h3, h4⟩ := W.at_
  have kt : ∀ b ys, H b = some (.tup ys) → upd H x o' b = some (.tup ys) := fun b ys hb => keepNL hx o' hb fun _ e => by cases e
  exact ⟨⟨dx, th, tt, rs, keepNL hx o' h1 (fun _ e => by cases e), kt _ _ h2, kt _ _ h3, h4.mono kt⟩, W.ld.nl hx o', W.st⟩
section
variable {P : Program} {w : World} {K : PySem.W.Frag} {mg : Str → Option Value} {base : Heap} {a : AdL} {S fE fQ : Addr}
theorem rat_of {H : Hp} {rs : List Addr} {tab : List (List Nat)} (h : RTt H rs tab) : RAt H rs tab := by
  induction h with
  | nil => exact .nil
  | cons h _ ih => exact .cons (.inl h) ih
def spLaw (K : PySem.W.Frag) : Sp := fun vs H Q _ => ∃ (s : Addr) (ns : List Int), vs = [.ref s] ∧ SqL K H s (ns.map V.int) ∧ ns.length ≤ 63 ∧ ∀ H', Q (.bl true) H'
theorem ok_law (TS : Ts K mg S fQ) {f fha fld fsz fan fdr flof flr fsr fer fsm fst fss frr fI : Addr} {fd fdha fdld fdsz fdan fddr fdlof fdlr fdsr fder fdsm fdst fdss fdrr fdI : FuncData} (F : Fun K "law" "law" s_law f fd)
    (Gha : FnOk P w K mg base CX0 1 fha fdha ["_law_script"] (spHand K)) (gha : mg "_law_hand" = some (.ref fha)) (kha : PySem.W.keepIn K (.ref fha) = true) (bha : Binds K fdha ["_law_script"] [])
    (Gld : FnOk P w K mg base CX0 4 fld fdld ["_law_hand_here", "_law_n"] spLand) (gld : mg "_law_land" = some (.ref fld)) (kld : PySem.W.keepIn K (.ref fld) = true) (bld : Binds K fdld ["_law_hand_here", "_law_n"] [])
    (Gsz : FnOk P w K mg base CX0 4 fsz fdsz ["_law_hand_here"] spSize) (gsz : mg "_law_size" = some (.ref fsz)) (ksz : PySem.W.keepIn K (.ref fsz) = true) (bsz : Binds K fdsz ["_law_hand_here"] [])
    (Gan : FnOk P w K mg base CX0 5 fan fdan ["_law_hand_here", "_law_n"] spAnyS) (gan : mg "_law_any_state" = some (.ref fan)) (kan : PySem.W.keepIn K (.ref fan) = true) (ban : Binds K fdan ["_law_hand_here", "_law_n"] [])
    (Gdr : FnOk P w K mg base CX0 2 fdr fddr ["_law_hand_here", "_law_many"] spDraw) (gdr : mg "_law_draw" = some (.ref fdr)) (kdr : PySem.W.keepIn K (.ref fdr) = true) (bdr : Binds K fddr ["_law_hand_here", "_law_many"] [])
    (Glof : FnOk P w K mg base CX0 7 flof fdlof ["_law_land_here"] (spLandOf a)) (glof : mg "_law_land_of" = some (.ref flof)) (klof : PySem.W.keepIn K (.ref flof) = true) (blof : Binds K fdlof ["_law_land_here"] [])
    (Glr : FnOk P w K mg base CX0 1 flr fdlr ["_law_table_here"] spLRows) (glr : mg "_law_rows" = some (.ref flr)) (klr : PySem.W.keepIn K (.ref flr) = true) (blr : Binds K fdlr ["_law_table_here"] [])
    (Gsr : FnOk P w K mg base CX0 9 fsr fdsr ["_law_land_here", "_law_state", "_law_told"] (spStateR a S)) (gsr : mg "_law_state_right" = some (.ref fsr)) (ksr : PySem.W.keepIn K (.ref fsr) = true) (bsr : Binds K fdsr ["_law_land_here", "_law_state", "_law_told"] [])
    (Ger : FnOk P w K mg base CX0 9 fer fder ["_law_hand_here", "_law_land_here", "_law_state", "_law_told"] (spEqR a S)) (ger : mg "_law_equal_right" = some (.ref fer)) (ker : PySem.W.keepIn K (.ref fer) = true) (ber : Binds K fder ["_law_hand_here", "_law_land_here", "_law_state", "_law_told"] [])
    (Gsm : FnOk P w K mg base CX0 8 fsm fdsm ["_law_land_here", "_law_state", "_law_told"] (spLSame a S)) (gsm : mg "_law_same" = some (.ref fsm)) (ksm : PySem.W.keepIn K (.ref fsm) = true) (bsm : Binds K fdsm ["_law_land_here", "_law_state", "_law_told"] [])
    (Glst : FnOk P w K mg base CX0 1 fst fdst ["_law_n"] spLStart) (glst : mg "_law_start" = some (.ref fst)) (klst : PySem.W.keepIn K (.ref fst) = true) (blst : Binds K fdst ["_law_n"] [])
    (Gss : FnOk P w K mg base CX0 7 fss fdss ["land"] (spStart a S)) (gss : mg "start_state" = some (.ref fss)) (kss : PySem.W.keepIn K (.ref fss) = true) (bss : Binds K fdss ["land"] [])
    (Grr : FnOk P w K mg base CX0 8 frr fdrr ["_law_hand_here", "_law_n", "_law_told"] (spRefR a S)) (grr : mg "_law_refused_right" = some (.ref frr)) (krr : PySem.W.keepIn K (.ref frr) = true) (brr : Binds K fdrr ["_law_hand_here", "_law_n", "_law_told"] [])
    (MS : Mk K S fI) (GS_ : FnOk P w K mg base CX0 5 fI fdI ["self", "land", "hands", "standings"] (spStI a S)) (bS : Binds K fdI ["self", "land", "hands", "standings"] [])
    (m_list : mg "list" = none) (m_tuple : mg "tuple" = none) : FnOk P w K mg base CX0 10 f fd ["_law_script"] (spLaw K) := by
  refine F.ok sc_law (fun vs H Q E h => ?_) (fun cdv A outer s H vs Q E hr h => ?_)
  · obtain ⟨s, ns, rfl, _⟩ := h
    rfl
  · obtain ⟨s0, ns, rfl, hS, hl, q⟩ := h
    have gSt := TS.g
    refine ⟨_, (pss_cons (ps_set (i := 1) sc_law.nd rfl (by first | exact Or.inl rfl | exact Or.inr rfl) (pe_call Gha (hr.mono (by decide)) (by rfl) gha kha bha .nil pass0 (pa_cons (pv 0) pa_nil)))
 (pss_cons (ps_set (i := 2) sc_law.nd rfl (by first | exact Or.inl rfl | exact Or.inr rfl) (pe_call Gld (hr.mono (by decide)) (by rfl) gld kld bld .nil pass0 (pa_cons (pv 1) (pa_cons (pe_call Gsz (hr.mono (by decide)) (by rfl) gsz ksz bsz .nil pass0 (pa_cons (pv 1) pa_nil)) pa_nil))))
 (pss_cons (ps_set (i := 3) sc_law.nd rfl (by first | exact Or.inl rfl | exact Or.inr rfl) (pe_ix ix_tup (pv 2) pe_int (fun _ _ => rfl)))
 (pss_cons (ps_set (i := 4) sc_law.nd rfl (by first | exact Or.inl rfl | exact Or.inr rfl) (pe_call Gan (hr.mono (by decide)) (by rfl) gan kan ban .nil pass0 (pa_cons (pv 1) (pa_cons (pv 3) pa_nil))))
 (Evl.pss_cut (ps_par (by rfl) sc_law.nd (i := 5) (j := 6) rfl rfl (by decide) rfl rfl (pa_cons (pe_callTy call_list_of (by rfl) m_list boot_list (pa_cons (pe_ix ix_tup (pv 4) pe_int (fun _ _ => rfl)) pa_nil)) (pa_cons (pe_lc (own := [("_law_row", 7)]) (g := gName 7) (tt := tYes) rfl sc_law.nd (pi_list (pe_ix ix_tup (pv 4) pe_int (fun _ _ => rfl))) (blkOk_by (own := [("_law_row", 7)]) (N := N_law) (sc := defScope s_law) (by decide +kernel)) (fun _ _ _ _ _ => (pg_name (i := 7) sc_law.nd rfl (by first | exact Or.inl rfl | exact Or.inr rfl))) (fun _ _ _ _ _ => pts_nil) (fun _ _ _ _ _ => (pe_callTy (show CallR _ (.type "list") (K7.rLst K) from call_list_of) (by rfl) m_list boot_list (pa_cons (pv 7) pa_nil)))) pa_nil)) (by rfl))
 (Evl.pss_cut (ps_set (i := 8) sc_law.nd rfl (by first | exact Or.inl rfl | exact Or.inr rfl) (pe_cmpR op_eq (pe_call Gdr (hr.mono (by decide)) (by rfl) gdr kdr bdr .nil pass0 (pa_cons (pv 1) (pa_cons pe_int pa_nil))) pe_int (nomark _)))
 (Evl.pss_cut (ps_set (i := 9) sc_law.nd rfl (by first | exact Or.inl rfl | exact Or.inr rfl) (pe_make MS GS_ (hr.mono (by decide)) (by rfl) gSt bS .nil pass0 (pa_cons (pe_call Glof (hr.mono (by decide)) (by rfl) glof klof blof .nil pass0 (pa_cons (pv 2) pa_nil)) (pa_cons (pe_ifExp (pt_val (pv 8)) (pv 5) (pe_callTy call_tuple_of (by rfl) m_tuple boot_tuple (pa_cons (pv 5) pa_nil))) (pa_cons (pe_ifExp (pt_val (pv 8)) (pv 6) (pe_call Glr (hr.mono (by decide)) (by rfl) glr klr blr .nil pass0 (pa_cons (pv 6) pa_nil))) pa_nil)))))
 (Evl.pss_cut (ps_if (pt_not (pt_val (pe_call Gsr (hr.mono (by decide)) (by rfl) gsr ksr bsr .nil pass0 (pa_cons (pv 2) (pa_cons (pv 4) (pa_cons (pv 9) pa_nil))))))
  (pss_one (ps_ret pe_bl))
  pss_nil)
 (Evl.pss_cut (ps_asg (pe_op op_add (pe_ix ix_list (pv 5) pe_int (fun _ _ => rfl)) pe_int) (pg_sub (pv 5) pe_int set_list))
 (Evl.pss_cut (ps_set (i := 10) sc_law.nd rfl (by first | exact Or.inl rfl | exact Or.inr rfl) (pe_ix ix_list (pv 6) pe_int (fun _ _ => rfl)))
 (Evl.pss_cut (ps_expr (pe_bm PySem.F.plainAttrs_list PySem.F.slot_list_append PySem.F.type_list_append mt_append (pv 10) (pa_cons pe_str pa_nil)))
 (Evl.pss_cut (ps_if (pw_or (pt_not (pt_val (pe_call Gsr (hr.mono (by decide)) (by rfl) gsr ksr bsr .nil pass0 (pa_cons (pv 2) (pa_cons (pv 4) (pa_cons (pv 9) pa_nil)))))) (pw_or1 (pt_not (pt_val (pe_call Ger (hr.mono (by decide)) (by rfl) ger ker ber .nil pass0 (pa_cons (pv 1) (pa_cons (pv 2) (pa_cons (pv 4) (pa_cons (pv 9) pa_nil))))))))).pt
  (pss_one (ps_ret pe_bl))
  pss_nil)
 (Evl.pss_cut (ps_if (pt_not (pt_val (pe_call Gsm (hr.mono (by decide)) (by rfl) gsm ksm bsm .nil pass0 (pa_cons (pv 2) (pa_cons (pe_call Glst (hr.mono (by decide)) (by rfl) glst klst blst .nil pass0 (pa_cons (pv 3) pa_nil)) (pa_cons (pe_call Gss (hr.mono (by decide)) (by rfl) gss kss bss .nil pass0 (pa_cons (pe_call Glof (hr.mono (by decide)) (by rfl) glof klof blof .nil pass0 (pa_cons (pv 2) pa_nil)) pa_nil)) pa_nil))))))
  (pss_one (ps_ret pe_bl))
  pss_nil)
 (pss_one (ps_ret (pe_call Grr (hr.mono (by decide)) (by rfl) grr krr brr .nil pass0 (pa_cons (pv 1) (pa_cons (pv 3) (pa_cons (pv 9) pa_nil))))))))))))))))))), ?_⟩
    refine ⟨_, rfl, s0, ns, rfl, hS, hl, fun H1 h c e1 nh nc hh1 => ?_⟩
    refine ⟨_, rfl, _, rfl, h, c, rfl, hh1, fun H2 n st2 n2 n4 => ?_⟩
    have n5 : n ≤ 5 := by omega
    refine ⟨h, c, n, rfl, st2.hand, n2, n5, fun H3 q0 es lot st3 nq La3 => ?_⟩
    obtain ⟨rA, sA, tsA, g1, _⟩ := La3.at_
    refine ⟨_, rfl, q0, _, _, _, rfl, rfl, .inl (.inl g1), atI_nat (j := 0) rfl, ?_⟩
    refine ⟨_, rfl, _, rfl, h, c, n, rfl, st3.hand, n2, n5, fun H4 s1 th tt hs rs tab st4 ns1 hs1 hth htt tR Sx => ?_⟩
    have La4 := st4.la La3
    have A4 : ASt H4 s1 n hs tab := ⟨⟨th, tt, rs, hs1, hth, htt, tR.rls⟩, Sx⟩
    have hh4 := st4.hand
    clear g1 st2 st3 st4 La3
    -- the copies
    refine ⟨fun τ H' => ∃ (X D : Addr) (us : List Addr), τ = [some (.ref s0), some (.ref h), some (.ref q0), some (.int (n : Nat)), some (.ref s1), some (.ref X), some (.ref D), none, none, none, none] ∧ Stay h c H4 H' ∧ H' X = some (.lst (ints_ hs)) ∧ H4 X = none ∧ H' D = some (.lst (us.map V.ref)) ∧ H4 D = none ∧ X ≠ D ∧ RLs H' us tab ∧ (∀ u ∈ us, H4 u = none ∧ u ≠ X), ?_, fun τ H5 hM => ?_⟩
    · refine ⟨_, rfl, s1, _, _, _, rfl, rfl, .inl (.inl hs1), atI_nat (j := 0) rfl, th, _, rfl, .inl (.inl (.inl hth)), fun X nX => ?_⟩
      have e1 := al (o := .lst (ints_ hs)) nX
      have hX1 : upd H4 X (.lst (ints_ hs)) X = some (.lst (ints_ hs)) := upd_same
      generalize upd H4 X (.lst (ints_ hs)) = H1' at e1 hX1 ⊢
      refine ⟨_, rfl, s1, _, _, _, rfl, rfl, .inl (.inl (e1 _ _ hs1)), atI_nat (j := 1) rfl, tt, rfl, ⟨_, .inl (.inl (e1 _ _ htt))⟩, fun D hD => lc_list (xs := rs.map V.ref) (fun j H3 => Same H1' H3 ∧ ∃ us, H3 D = some (.lst (us.map V.ref)) ∧ RLt D H3 us (tab.take j) ∧ ∀ u ∈ us, H4 u = none ∧ u ≠ X) ⟨al hD, [], upd_same, .nil, fun u hu => nomatch hu⟩ (fun j H3 _ pv => .inl (.inl (pv.1 _ _ (e1 _ _ htt)))) (fun j x H3 hx pv => ?_) (fun H3 pv => ?_)⟩
      · obtain ⟨e3, us, hD3, t3, nu3⟩ := pv
        rw [List.getElem?_map] at hx
        obtain ⟨r, hr', rfl⟩ := Option.map_eq_some_iff.mp hx
        obtain ⟨row, hrow, hat⟩ := tR.rls.get hr'
        refine ⟨rfl, _, rfl, r, _, rfl, .inl (.inl (.inl (e3 _ _ (e1 _ _ hat)))), fun u nu => ?_⟩
        have sU := al (o := .lst (wds row)) nu
        have uD : u ≠ D := fun e => by rw [e, hD3] at nu; cases nu
        have ul : us.length ≤ 5 := by
          rw [t3.len, List.length_take, Sx.tl]
          omega
        refine ⟨_, sU _ _ hD3, by rw [List.length_map]; exact small1000 (by omega), fun b o hb => ?_, us ++ [u], ?_, ?_, fun b hb => ?_⟩
        · rw [upd_ne (ne_of_none hb hD)]
          exact sU _ _ (e3 _ _ hb)
        · rw [upd_same, List.map_append]
          rfl
        · rw [List.take_add_one, hrow]
          have hu : upd H3 u (.lst (wds row)) u = some (.lst (wds row)) := upd_same
          exact ((t3.mono fun b row' nb hb => sU _ _ hb).mono fun b row' nb hb => by rw [upd_ne nb]; exact hb).append (.cons (by rw [upd_ne uD]; exact hu) uD .nil)
        · rcases List.mem_append.mp hb with hb | hb
          · exact nu3 b hb
          · rw [List.mem_singleton.mp hb]
            exact ⟨e1.free (e3.free nu), fun e => by rw [e, e3 _ _ hX1] at nu; cases nu⟩
      · obtain ⟨e3, us, hD3, t3, nu3⟩ := pv
        rw [List.length_map, tR.rls.len, List.take_length] at t3
        exact ⟨_, _, rfl, X, D, us, rfl, Stay.of_same hh4 (e1.trans e3), e3 _ _ hX1, nX, hD3, e1.free hD, (fun e => by rw [← e, hX1] at hD; cases hD), t3.rls, nu3⟩
    · obtain ⟨X, D, us, rfl, st5, hX, nX, hD, nD, nXD, tU, nU⟩ := hM
      -- plain or not
      refine ⟨fun τ H' => ∃ pb : Bool, τ = [some (.ref s0), some (.ref h), some (.ref q0), some (.int (n : Nat)), some (.ref s1), some (.ref X), some (.ref D), none, some (.bl pb), none, none] ∧ Stay h c H4 H' ∧ H' X = some (.lst (ints_ hs)) ∧ H' D = some (.lst (us.map V.ref)) ∧ RLs H' us tab, ?_, fun τ H6 hM => ?_⟩
      · refine ⟨_, rfl, h, c, 2, rfl, st5.hand, by decide, by decide, fun H6 r d6 r0 r1 => ⟨rfl, _, rfl, ?_⟩⟩
        have x := Stay.of_drawn st5.hand d6
        exact ⟨st5.trans x, x.lst hX (notHand_ints _), x.lst hD (notHand_refs _), tU.mono fun b row hb => x.wds hb⟩
      · obtain ⟨pb, rfl, st6, hX6, hD6, tU6⟩ := hM
        clear hX hD tU st5
        -- the state that is told
        refine ⟨fun τ H' => ∃ t l, τ = [some (.ref s0), some (.ref h), some (.ref q0), some (.int (n : Nat)), some (.ref s1), some (.ref X), some (.ref D), none, some (.bl pb), some (.ref t), none] ∧ Same H6 H' ∧ StateO a.C S H' t l n es lot hs tab, ?_, fun τ H7 hM => ?_⟩
        · refine ⟨_, rfl, q0, n, es, lot, rfl, (st6.la La4).t, n2, n5, fun H7 l e7 nl Lo => ?_⟩
          refine ⟨_, rfl, pb, rfl, iteB (fun t0 => ?_) (fun t0 => ?_)⟩
          · refine ⟨_, rfl, _, rfl, pb, rfl, iteTo t0 ?_⟩
            refine ⟨_, rfl, ?_⟩
            refine new_state (a := a) (S := S) (Q := fun v H' => ∃ t l, [some (.ref s0), some (.ref h), some (.ref q0), some (.int (n : Nat)), some (.ref s1), some (.ref X), some (.ref D), none, some (.bl pb), some v, none] = [some (V.ref s0), some (.ref h), some (.ref q0), some (.int (n : Nat)), some (.ref s1), some (.ref X), some (.ref D), none, some (.bl pb), some (.ref t), none] ∧ Same H6 H' ∧ StateO a.C S H' t l n es lot hs tab) Lo (.inr (e7 _ _ hX6)) (.inr (e7 _ _ hD6)) (tU6.same e7).rat Sx fun H' x e nx W => ⟨x, l, rfl, e7.trans e, W⟩
          · refine ⟨_, rfl, X, _, rfl, .inl ⟨.inl (.inl (e7 _ _ hX6)), fun u nu => ?_⟩⟩
            have e8 := al (o := .tup (ints_ hs)) nu
            have e78 := e7.trans e8
            refine ⟨_, rfl, pb, rfl, iteFo t0 ?_⟩
            refine ⟨_, rfl, D, us, tab, rfl, e78 _ _ hD6, tU6.same e78, by rw [Sx.tl]; omega, fun H9 v vs e9 nv hv tv => ?_⟩
            have e89 := e8.trans e9
            refine new_state (a := a) (S := S) (Q := fun v H' => ∃ t l, [some (.ref s0), some (.ref h), some (.ref q0), some (.int (n : Nat)), some (.ref s1), some (.ref X), some (.ref D), none, some (.bl pb), some v, none] = [some (V.ref s0), some (.ref h), some (.ref q0), some (.int (n : Nat)), some (.ref s1), some (.ref X), some (.ref D), none, some (.bl pb), some (.ref t), none] ∧ Same H6 H' ∧ StateO a.C S H' t l n es lot hs tab) (Lo.same e89) (.inl (e9 _ _ upd_same)) (.inl hv) (rat_of tv) Sx fun H' x e nx W => ⟨x, l, rfl, (e7.trans e89).trans e, W⟩
        · obtain ⟨t, l, rfl, e7, W7⟩ := hM
          have st7 := st6.same e7
          -- it is right
          refine ⟨fun τ H' => τ = [some (.ref s0), some (.ref h), some (.ref q0), some (.int (n : Nat)), some (.ref s1), some (.ref X), some (.ref D), none, some (.bl pb), some (.ref t), none] ∧ Same H7 H', ?_, fun τ H8 hM => ?_⟩
          · exact ⟨_, rfl, _, rfl, _, rfl, q0, s1, t, l, n, es, lot, hs, tab, rfl, st7.la La4, A4.stay st7, W7, n2, n5, fun H8 e8 => ⟨_, rfl, iteF ⟨rfl, e8⟩⟩⟩
          · obtain ⟨rfl, e8⟩ := hM
            have e68 := e7.trans e8
            have st8 := st7.same e8
            have W8 := W7.same e8
            have hX8 := e68 _ _ hX6
            have hD8 := e68 _ _ hD6
            have tU8 := tU6.same e68
            -- the hands are spoilt
            have hx0 : (ints_ hs)[0]? = some (.int (hsAt hs 0 : Nat)) := Sx.hat (by omega)
            refine ⟨fun τ H' => τ = [some (.ref s0), some (.ref h), some (.ref q0), some (.int (n : Nat)), some (.ref s1), some (.ref X), some (.ref D), none, some (.bl pb), some (.ref t), none] ∧ Stay h c H4 H' ∧ StateO a.C S H' t l n es lot hs tab ∧ H' D = some (.lst (us.map V.ref)) ∧ RLs H' us tab, ?_, fun τ H9 hM => ?_⟩
            · refine ⟨_, rfl, X, _, _, _, rfl, rfl, .inl (.inl hX8), atI_nat (j := 0) hx0, _, _, rfl, rfl, ?_⟩
              refine ⟨_, rfl, X, _, _, 0, rfl, rfl, hX8, ixN_nat (i := 0) (by rw [ints_len, Sx.hl]; omega), ?_⟩
              refine ⟨rfl, st8.put nX, W8.nl hX8 _, by rw [upd_ne nXD.symm]; exact hD8, ?_⟩
              have : ∀ {vs : List Addr} {tb : List (List Nat)} (o : HO), (∀ u ∈ vs, u ≠ X) → RLs H8 vs tb → RLs (upd H8 X o) vs tb := fun {vs tb} o hn t => by
                induction t with
                | nil => exact .nil
                | cons h _ ih => exact .cons (by rw [upd_ne (hn _ (List.mem_cons_self ..))]; exact h) (ih fun u hu => hn u (List.mem_cons_of_mem _ hu))
              exact this _ (fun u hu => (nU u hu).2) tU8
            · obtain ⟨rfl, st9, W9, hD9, tU9⟩ := hM
              -- a row is spoilt
              obtain ⟨u0, hu0⟩ : ∃ u0, us[0]? = some u0 := ⟨_, List.getElem?_eq_getElem (by rw [tU9.len, Sx.tl]; omega)⟩
              obtain ⟨row0, hr0, hat0⟩ := tU9.get hu0
              refine ⟨fun τ H' => τ = [some (.ref s0), some (.ref h), some (.ref q0), some (.int (n : Nat)), some (.ref s1), some (.ref X), some (.ref D), none, some (.bl pb), some (.ref t), some (.ref u0)] ∧ H' = H9, ?_, fun τ HA hM => ?_⟩
              · exact ⟨_, rfl, D, _, _, _, rfl, rfl, .inl (.inl hD9), atI_nat (j := 0) (by rw [List.getElem?_map, hu0]; rfl), rfl, rfl⟩
              · obtain ⟨rfl, rfl⟩ := hM
                refine ⟨fun τ H' => τ = [some (.ref s0), some (.ref h), some (.ref q0), some (.int (n : Nat)), some (.ref s1), some (.ref X), some (.ref D), none, some (.bl pb), some (.ref t), some (.ref u0)] ∧ Stay h c H4 H' ∧ StateO a.C S H' t l n es lot hs tab, ?_, fun τ HB hM => ?_⟩
                · refine ⟨_, rfl, .inl ⟨rfl, _, .inl (.inl hat0)⟩, u0, _, _, rfl, rfl, hat0, ?_, ?_⟩
                  · rw [wds_len, Sx.rl row0 (List.mem_of_getElem? hr0)]
                    exact small1000 (by omega)
                  · exact ⟨rfl, st9.put (nU u0 (List.mem_of_getElem? hu0)).1, W9.nl hat0 _⟩
                · obtain ⟨rfl, stB, WB⟩ := hM
                  clear hD9 tU9 hat0 W9 st9
                  -- right still, and compared
                  refine ⟨fun τ H' => τ = [some (.ref s0), some (.ref h), some (.ref q0), some (.int (n : Nat)), some (.ref s1), some (.ref X), some (.ref D), none, some (.bl pb), some (.ref t), some (.ref u0)] ∧ Stay h c HB H', ?_, fun τ HC hM => ?_⟩
                  · refine ⟨_, rfl, _, rfl, _, rfl, q0, s1, t, l, n, es, lot, hs, tab, rfl, stB.la La4, A4.stay stB, WB, n2, n5, fun HC eC => ⟨_, rfl, iteF ?_⟩⟩
                    have xC := Stay.of_same stB.hand eC
                    have stC := stB.trans xC
                    exact ⟨_, rfl, _, rfl, _, rfl, _, rfl, h, c, q0, s1, t, l, n, es, lot, hs, tab, rfl, ⟨stC.hand, stC.la La4, A4.stay stC, WB.same eC⟩, n2, n5, fun HD xD => ⟨_, rfl, iteF ⟨rfl, xC.trans xD⟩⟩⟩
                  · obtain ⟨rfl, xC⟩ := hM
                    have stC := stB.trans xC
                    have WC := WB.stay xC
                    -- the start
                    refine ⟨fun τ H' => τ = [some (.ref s0), some (.ref h), some (.ref q0), some (.int (n : Nat)), some (.ref s1), some (.ref X), some (.ref D), none, some (.bl pb), some (.ref t), some (.ref u0)] ∧ Same HC H', ?_, fun τ HD hM => ?_⟩
                    · refine ⟨_, rfl, _, rfl, n, rfl, n5, fun HD u eD nu A1 => ?_⟩
                      have LD := (stC.la La4).same eD
                      refine ⟨_, rfl, q0, n, es, lot, rfl, LD.t, n2, n5, fun HE p eE np Lo => ?_⟩
                      refine ⟨p, n, es, lot, rfl, Lo, fun HF x eF nx W3 => ?_⟩
                      have eDF := eE.trans eF
                      exact ⟨q0, u, x, p, n, es, lot, _, _, rfl, (LD.same eDF).t, A1.same eDF, W3, n2, n5, fun HG eG => ⟨_, rfl, iteF ⟨rfl, (eD.trans eDF).trans eG⟩⟩⟩
                    · obtain ⟨rfl, eD⟩ := hM
                      exact ⟨_, rfl, _, rfl, _, rfl, h, c, t, l, n, es, lot, hs, tab, rfl, stC.hand.same eD, WC.same eD, n2, n5, q⟩
end
end K7
end
/-! ## P35 -/
section
open PySem PySem.Spec PyProof.Rows L2
namespace K7
theorem all_mk {P : Program} {w : World} {K : PySem.W.Frag} {h : Heap} {mg : Str → Option Value} {fa : Addr} (X : K.In h) (G : h.Ns mainGlobals mg) (hfa : mg "law" = some (.ref fa))
  {f_sq : Addr}
  (a_sq : PySem.W.nsIn K mainGlobals "is_sequence" = some (some (.ref f_sq)))
  {od_sq an_sq : Option Addr}
  {sl_sq : Array (Option Value)}
  {oc_sq kV_sq dc_sq pm_sq cd_sq ct_sq : Value}
  (l_sq : K.lookup f_sq = some ⟨oc_sq, od_sq, .func (PySem.W.fnOf "is_sequence" "is_sequence" (defArgs s_is_sequence) (defBody s_is_sequence) (defScope s_is_sequence) .none kV_sq dc_sq pm_sq an_sq cd_sq ct_sq), sl_sq⟩)
  (c_sq : PySem.W.codeIn K cd_sq "is_sequence" = true)
  (k_sq : PySem.W.keepIn K (.ref f_sq) = true)
  {f_isw : Addr}
  (a_isw : PySem.W.nsIn K mainGlobals "is_whole" = some (some (.ref f_isw)))
  {od_isw an_isw : Option Addr}
  {sl_isw : Array (Option Value)}
  {oc_isw kV_isw dc_isw pm_isw cd_isw ct_isw : Value}
  (l_isw : K.lookup f_isw = some ⟨oc_isw, od_isw, .func (PySem.W.fnOf "is_whole" "is_whole" (defArgs s_is_whole) (defBody s_is_whole) (defScope s_is_whole) .none kV_isw dc_isw pm_isw an_isw cd_isw ct_isw), sl_isw⟩)
  (c_isw : PySem.W.codeIn K cd_isw "is_whole" = true)
  (k_isw : PySem.W.keepIn K (.ref f_isw) = true)
  {f_ac : Addr}
  (a_ac : PySem.W.nsIn K mainGlobals "are_cells" = some (some (.ref f_ac)))
  {od_ac an_ac : Option Addr}
  {sl_ac : Array (Option Value)}
  {oc_ac kV_ac dc_ac pm_ac cd_ac ct_ac : Value}
  (l_ac : K.lookup f_ac = some ⟨oc_ac, od_ac, .func (PySem.W.fnOf "are_cells" "are_cells" (defArgs s_are_cells) (defBody s_are_cells) (defScope s_are_cells) .none kV_ac dc_ac pm_ac an_ac cd_ac ct_ac), sl_ac⟩)
  (c_ac : PySem.W.codeIn K cd_ac "are_cells" = true)
  (k_ac : PySem.W.keepIn K (.ref f_ac) = true)
  {f_a2 : Addr}
  (a_a2 : PySem.W.nsIn K mainGlobals "are_two_cells" = some (some (.ref f_a2)))
  {od_a2 an_a2 : Option Addr}
  {sl_a2 : Array (Option Value)}
  {oc_a2 kV_a2 dc_a2 pm_a2 cd_a2 ct_a2 : Value}
  (l_a2 : K.lookup f_a2 = some ⟨oc_a2, od_a2, .func (PySem.W.fnOf "are_two_cells" "are_two_cells" (defArgs s_are_two_cells) (defBody s_are_two_cells) (defScope s_are_two_cells) .none kV_a2 dc_a2 pm_a2 an_a2 cd_a2 ct_a2), sl_a2⟩)
  (c_a2 : PySem.W.codeIn K cd_a2 "are_two_cells" = true)
  (k_a2 : PySem.W.keepIn K (.ref f_a2) = true)
  {f_ic : Addr}
  (a_ic : PySem.W.nsIn K mainGlobals "is_cell" = some (some (.ref f_ic)))
  {od_ic an_ic : Option Addr}
  {sl_ic : Array (Option Value)}
  {oc_ic kV_ic dc_ic pm_ic cd_ic ct_ic : Value}
  (l_ic : K.lookup f_ic = some ⟨oc_ic, od_ic, .func (PySem.W.fnOf "is_cell" "is_cell" (defArgs s_is_cell) (defBody s_is_cell) (defScope s_is_cell) .none kV_ic dc_ic pm_ic an_ic cd_ic ct_ic), sl_ic⟩)
  (c_ic : PySem.W.codeIn K cd_ic "is_cell" = true)
  (k_ic : PySem.W.keepIn K (.ref f_ic) = true)
  {f_ck : Addr}
  (a_ck : PySem.W.nsIn K mainGlobals "check_cells" = some (some (.ref f_ck)))
  {od_ck an_ck : Option Addr}
  {sl_ck : Array (Option Value)}
  {oc_ck kV_ck dc_ck pm_ck cd_ck ct_ck : Value}
  (l_ck : K.lookup f_ck = some ⟨oc_ck, od_ck, .func (PySem.W.fnOf "check_cells" "check_cells" (defArgs s_check_cells) (defBody s_check_cells) (defScope s_check_cells) .none kV_ck dc_ck pm_ck an_ck cd_ck ct_ck), sl_ck⟩)
  (c_ck : PySem.W.codeIn K cd_ck "check_cells" = true)
  (k_ck : PySem.W.keepIn K (.ref f_ck) = true)
  {f_sp : Addr}
  (a_sp : PySem.W.nsIn K mainGlobals "spread" = some (some (.ref f_sp)))
  {od_sp an_sp : Option Addr}
  {sl_sp : Array (Option Value)}
  {oc_sp kV_sp dc_sp pm_sp cd_sp ct_sp : Value}
  (l_sp : K.lookup f_sp = some ⟨oc_sp, od_sp, .func (PySem.W.fnOf "spread" "spread" (defArgs s_spread) (defBody s_spread) (defScope s_spread) .none kV_sp dc_sp pm_sp an_sp cd_sp ct_sp), sl_sp⟩)
  (c_sp : PySem.W.codeIn K cd_sp "spread" = true)
  (k_sp : PySem.W.keepIn K (.ref f_sp) = true)
  {f_ny : Addr}
  (a_ny : PySem.W.nsIn K mainGlobals "nearby_cells" = some (some (.ref f_ny)))
  {od_ny an_ny : Option Addr}
  {sl_ny : Array (Option Value)}
  {oc_ny kV_ny dc_ny pm_ny cd_ny ct_ny : Value}
  (l_ny : K.lookup f_ny = some ⟨oc_ny, od_ny, .func (PySem.W.fnOf "nearby_cells" "nearby_cells" (defArgs s_nearby_cells) (defBody s_nearby_cells) (defScope s_nearby_cells) .none kV_ny dc_ny pm_ny an_ny cd_ny ct_ny), sl_ny⟩)
  (c_ny : PySem.W.codeIn K cd_ny "nearby_cells" = true)
  (k_ny : PySem.W.keepIn K (.ref f_ny) = true)
  {f_ht : Addr}
  (a_ht : PySem.W.nsIn K mainGlobals "hang_together" = some (some (.ref f_ht)))
  {od_ht an_ht : Option Addr}
  {sl_ht : Array (Option Value)}
  {oc_ht kV_ht dc_ht pm_ht cd_ht ct_ht : Value}
  (l_ht : K.lookup f_ht = some ⟨oc_ht, od_ht, .func (PySem.W.fnOf "hang_together" "hang_together" (defArgs s_hang_together) (defBody s_hang_together) (defScope s_hang_together) .none kV_ht dc_ht pm_ht an_ht cd_ht ct_ht), sl_ht⟩)
  (c_ht : PySem.W.codeIn K cd_ht "hang_together" = true)
  (k_ht : PySem.W.keepIn K (.ref f_ht) = true)
  {f_nb : Addr}
  (a_nb : PySem.W.nsIn K mainGlobals "_are_neighbours" = some (some (.ref f_nb)))
  {od_nb an_nb : Option Addr}
  {sl_nb : Array (Option Value)}
  {oc_nb kV_nb dc_nb pm_nb cd_nb ct_nb : Value}
  (l_nb : K.lookup f_nb = some ⟨oc_nb, od_nb, .func (PySem.W.fnOf "_are_neighbours" "_are_neighbours" (defArgs s__are_neighbours) (defBody s__are_neighbours) (defScope s__are_neighbours) .none kV_nb dc_nb pm_nb an_nb cd_nb ct_nb), sl_nb⟩)
  (c_nb : PySem.W.codeIn K cd_nb "_are_neighbours" = true)
  (k_nb : PySem.W.keepIn K (.ref f_nb) = true)
  {f_op : Addr}
  (a_op : PySem.W.nsIn K mainGlobals "opens" = some (some (.ref f_op)))
  {od_op an_op : Option Addr}
  {sl_op : Array (Option Value)}
  {oc_op kV_op dc_op pm_op cd_op ct_op : Value}
  (l_op : K.lookup f_op = some ⟨oc_op, od_op, .func (PySem.W.fnOf "opens" "opens" (defArgs s_opens) (defBody s_opens) (defScope s_opens) .none kV_op dc_op pm_op an_op cd_op ct_op), sl_op⟩)
  (c_op : PySem.W.codeIn K cd_op "opens" = true)
  (k_op : PySem.W.keepIn K (.ref f_op) = true)
  {f_pcl : Addr}
  (a_pcl : PySem.W.nsIn K mainGlobals "passed_cells" = some (some (.ref f_pcl)))
  {od_pcl an_pcl : Option Addr}
  {sl_pcl : Array (Option Value)}
  {oc_pcl kV_pcl dc_pcl pm_pcl cd_pcl ct_pcl : Value}
  (l_pcl : K.lookup f_pcl = some ⟨oc_pcl, od_pcl, .func (PySem.W.fnOf "passed_cells" "passed_cells" (defArgs s_passed_cells) (defBody s_passed_cells) (defScope s_passed_cells) .none kV_pcl dc_pcl pm_pcl an_pcl cd_pcl ct_pcl), sl_pcl⟩)
  (c_pcl : PySem.W.codeIn K cd_pcl "passed_cells" = true)
  (k_pcl : PySem.W.keepIn K (.ref f_pcl) = true)
  {f_ah : Addr}
  (a_ah : PySem.W.nsIn K mainGlobals "_are_hands" = some (some (.ref f_ah)))
  {od_ah an_ah : Option Addr}
  {sl_ah : Array (Option Value)}
  {oc_ah kV_ah dc_ah pm_ah cd_ah ct_ah : Value}
  (l_ah : K.lookup f_ah = some ⟨oc_ah, od_ah, .func (PySem.W.fnOf "_are_hands" "_are_hands" (defArgs s__are_hands) (defBody s__are_hands) (defScope s__are_hands) .none kV_ah dc_ah pm_ah an_ah cd_ah ct_ah), sl_ah⟩)
  (c_ah : PySem.W.codeIn K cd_ah "_are_hands" = true)
  (k_ah : PySem.W.keepIn K (.ref f_ah) = true)
  {f_ir : Addr}
  (a_ir : PySem.W.nsIn K mainGlobals "is_row" = some (some (.ref f_ir)))
  {od_ir an_ir : Option Addr}
  {sl_ir : Array (Option Value)}
  {oc_ir kV_ir dc_ir pm_ir cd_ir ct_ir : Value}
  (l_ir : K.lookup f_ir = some ⟨oc_ir, od_ir, .func (PySem.W.fnOf "is_row" "is_row" (defArgs s_is_row) (defBody s_is_row) (defScope s_is_row) .none kV_ir dc_ir pm_ir an_ir cd_ir ct_ir), sl_ir⟩)
  (c_ir : PySem.W.codeIn K cd_ir "is_row" = true)
  (k_ir : PySem.W.keepIn K (.ref f_ir) = true)
  {f_as_ : Addr}
  (a_as_ : PySem.W.nsIn K mainGlobals "_are_standings" = some (some (.ref f_as_)))
  {od_as_ an_as_ : Option Addr}
  {sl_as_ : Array (Option Value)}
  {oc_as_ kV_as_ dc_as_ pm_as_ cd_as_ ct_as_ : Value}
  (l_as_ : K.lookup f_as_ = some ⟨oc_as_, od_as_, .func (PySem.W.fnOf "_are_standings" "_are_standings" (defArgs s__are_standings) (defBody s__are_standings) (defScope s__are_standings) .none kV_as_ dc_as_ pm_as_ an_as_ cd_as_ ct_as_), sl_as_⟩)
  (c_as_ : PySem.W.codeIn K cd_as_ "_are_standings" = true)
  (k_as_ : PySem.W.keepIn K (.ref f_as_) = true)
  {f_cpl : Addr}
  (a_cpl : PySem.W.nsIn K mainGlobals "_check_places" = some (some (.ref f_cpl)))
  {od_cpl an_cpl : Option Addr}
  {sl_cpl : Array (Option Value)}
  {oc_cpl kV_cpl dc_cpl pm_cpl cd_cpl ct_cpl : Value}
  (l_cpl : K.lookup f_cpl = some ⟨oc_cpl, od_cpl, .func (PySem.W.fnOf "_check_places" "_check_places" (defArgs s__check_places) (defBody s__check_places) (defScope s__check_places) .none kV_cpl dc_cpl pm_cpl an_cpl cd_cpl ct_cpl), sl_cpl⟩)
  (c_cpl : PySem.W.codeIn K cd_cpl "_check_places" = true)
  (k_cpl : PySem.W.keepIn K (.ref f_cpl) = true)
  {f_sst : Addr}
  (a_sst : PySem.W.nsIn K mainGlobals "start_state" = some (some (.ref f_sst)))
  {od_sst an_sst : Option Addr}
  {sl_sst : Array (Option Value)}
  {oc_sst kV_sst dc_sst pm_sst cd_sst ct_sst : Value}
  (l_sst : K.lookup f_sst = some ⟨oc_sst, od_sst, .func (PySem.W.fnOf "start_state" "start_state" (defArgs s_start_state) (defBody s_start_state) (defScope s_start_state) .none kV_sst dc_sst pm_sst an_sst cd_sst ct_sst), sl_sst⟩)
  (c_sst : PySem.W.codeIn K cd_sst "start_state" = true)
  (k_sst : PySem.W.keepIn K (.ref f_sst) = true)
  {f_mi : Addr}
  (a_mi : PySem.W.nsIn K mainGlobals "_law_mix" = some (some (.ref f_mi)))
  {od_mi an_mi : Option Addr}
  {sl_mi : Array (Option Value)}
  {oc_mi kV_mi dc_mi pm_mi cd_mi ct_mi : Value}
  (l_mi : K.lookup f_mi = some ⟨oc_mi, od_mi, .func (PySem.W.fnOf "_law_mix" "_law_mix" (defArgs s__law_mix) (defBody s__law_mix) (defScope s__law_mix) .none kV_mi dc_mi pm_mi an_mi cd_mi ct_mi), sl_mi⟩)
  (c_mi : PySem.W.codeIn K cd_mi "_law_mix" = true)
  (k_mi : PySem.W.keepIn K (.ref f_mi) = true)
  {f_ha : Addr}
  (a_ha : PySem.W.nsIn K mainGlobals "_law_hand" = some (some (.ref f_ha)))
  {od_ha an_ha : Option Addr}
  {sl_ha : Array (Option Value)}
  {oc_ha kV_ha dc_ha pm_ha cd_ha ct_ha : Value}
  (l_ha : K.lookup f_ha = some ⟨oc_ha, od_ha, .func (PySem.W.fnOf "_law_hand" "_law_hand" (defArgs s__law_hand) (defBody s__law_hand) (defScope s__law_hand) .none kV_ha dc_ha pm_ha an_ha cd_ha ct_ha), sl_ha⟩)
  (c_ha : PySem.W.codeIn K cd_ha "_law_hand" = true)
  (k_ha : PySem.W.keepIn K (.ref f_ha) = true)
  {f_dr : Addr}
  (a_dr : PySem.W.nsIn K mainGlobals "_law_draw" = some (some (.ref f_dr)))
  {od_dr an_dr : Option Addr}
  {sl_dr : Array (Option Value)}
  {oc_dr kV_dr dc_dr pm_dr cd_dr ct_dr : Value}
  (l_dr : K.lookup f_dr = some ⟨oc_dr, od_dr, .func (PySem.W.fnOf "_law_draw" "_law_draw" (defArgs s__law_draw) (defBody s__law_draw) (defScope s__law_draw) .none kV_dr dc_dr pm_dr an_dr cd_dr ct_dr), sl_dr⟩)
  (c_dr : PySem.W.codeIn K cd_dr "_law_draw" = true)
  (k_dr : PySem.W.keepIn K (.ref f_dr) = true)
  {f_pk : Addr}
  (a_pk : PySem.W.nsIn K mainGlobals "_law_pick" = some (some (.ref f_pk)))
  {od_pk an_pk : Option Addr}
  {sl_pk : Array (Option Value)}
  {oc_pk kV_pk dc_pk pm_pk cd_pk ct_pk : Value}
  (l_pk : K.lookup f_pk = some ⟨oc_pk, od_pk, .func (PySem.W.fnOf "_law_pick" "_law_pick" (defArgs s__law_pick) (defBody s__law_pick) (defScope s__law_pick) .none kV_pk dc_pk pm_pk an_pk cd_pk ct_pk), sl_pk⟩)
  (c_pk : PySem.W.codeIn K cd_pk "_law_pick" = true)
  (k_pk : PySem.W.keepIn K (.ref f_pk) = true)
  {f_lo : Addr}
  (a_lo : PySem.W.nsIn K mainGlobals "_law_lots" = some (some (.ref f_lo)))
  {od_lo an_lo : Option Addr}
  {sl_lo : Array (Option Value)}
  {oc_lo kV_lo dc_lo pm_lo cd_lo ct_lo : Value}
  (l_lo : K.lookup f_lo = some ⟨oc_lo, od_lo, .func (PySem.W.fnOf "_law_lots" "_law_lots" (defArgs s__law_lots) (defBody s__law_lots) (defScope s__law_lots) .none kV_lo dc_lo pm_lo an_lo cd_lo ct_lo), sl_lo⟩)
  (c_lo : PySem.W.codeIn K cd_lo "_law_lots" = true)
  (k_lo : PySem.W.keepIn K (.ref f_lo) = true)
  {f_ld : Addr}
  (a_ld : PySem.W.nsIn K mainGlobals "_law_land" = some (some (.ref f_ld)))
  {od_ld an_ld : Option Addr}
  {sl_ld : Array (Option Value)}
  {oc_ld kV_ld dc_ld pm_ld cd_ld ct_ld : Value}
  (l_ld : K.lookup f_ld = some ⟨oc_ld, od_ld, .func (PySem.W.fnOf "_law_land" "_law_land" (defArgs s__law_land) (defBody s__law_land) (defScope s__law_land) .none kV_ld dc_ld pm_ld an_ld cd_ld ct_ld), sl_ld⟩)
  (c_ld : PySem.W.codeIn K cd_ld "_law_land" = true)
  (k_ld : PySem.W.keepIn K (.ref f_ld) = true)
  {f_sz : Addr}
  (a_sz : PySem.W.nsIn K mainGlobals "_law_size" = some (some (.ref f_sz)))
  {od_sz an_sz : Option Addr}
  {sl_sz : Array (Option Value)}
  {oc_sz kV_sz dc_sz pm_sz cd_sz ct_sz : Value}
  (l_sz : K.lookup f_sz = some ⟨oc_sz, od_sz, .func (PySem.W.fnOf "_law_size" "_law_size" (defArgs s__law_size) (defBody s__law_size) (defScope s__law_size) .none kV_sz dc_sz pm_sz an_sz cd_sz ct_sz), sl_sz⟩)
  (c_sz : PySem.W.codeIn K cd_sz "_law_size" = true)
  (k_sz : PySem.W.keepIn K (.ref f_sz) = true)
  {f_lc : Addr}
  (a_lc : PySem.W.nsIn K mainGlobals "_law_comes" = some (some (.ref f_lc)))
  {od_lc an_lc : Option Addr}
  {sl_lc : Array (Option Value)}
  {oc_lc kV_lc dc_lc pm_lc cd_lc ct_lc : Value}
  (l_lc : K.lookup f_lc = some ⟨oc_lc, od_lc, .func (PySem.W.fnOf "_law_comes" "_law_comes" (defArgs s__law_comes) (defBody s__law_comes) (defScope s__law_comes) .none kV_lc dc_lc pm_lc an_lc cd_lc ct_lc), sl_lc⟩)
  (c_lc : PySem.W.codeIn K cd_lc "_law_comes" = true)
  (k_lc : PySem.W.keepIn K (.ref f_lc) = true)
  {f_lop : Addr}
  (a_lop : PySem.W.nsIn K mainGlobals "_law_open" = some (some (.ref f_lop)))
  {od_lop an_lop : Option Addr}
  {sl_lop : Array (Option Value)}
  {oc_lop kV_lop dc_lop pm_lop cd_lop ct_lop : Value}
  (l_lop : K.lookup f_lop = some ⟨oc_lop, od_lop, .func (PySem.W.fnOf "_law_open" "_law_open" (defArgs s__law_open) (defBody s__law_open) (defScope s__law_open) .none kV_lop dc_lop pm_lop an_lop cd_lop ct_lop), sl_lop⟩)
  (c_lop : PySem.W.codeIn K cd_lop "_law_open" = true)
  (k_lop : PySem.W.keepIn K (.ref f_lop) = true)
  {f_lst : Addr}
  (a_lst : PySem.W.nsIn K mainGlobals "_law_start" = some (some (.ref f_lst)))
  {od_lst an_lst : Option Addr}
  {sl_lst : Array (Option Value)}
  {oc_lst kV_lst dc_lst pm_lst cd_lst ct_lst : Value}
  (l_lst : K.lookup f_lst = some ⟨oc_lst, od_lst, .func (PySem.W.fnOf "_law_start" "_law_start" (defArgs s__law_start) (defBody s__law_start) (defScope s__law_start) .none kV_lst dc_lst pm_lst an_lst cd_lst ct_lst), sl_lst⟩)
  (c_lst : PySem.W.codeIn K cd_lst "_law_start" = true)
  (k_lst : PySem.W.keepIn K (.ref f_lst) = true)
  {f_low : Addr}
  (a_low : PySem.W.nsIn K mainGlobals "_law_own" = some (some (.ref f_low)))
  {od_low an_low : Option Addr}
  {sl_low : Array (Option Value)}
  {oc_low kV_low dc_low pm_low cd_low ct_low : Value}
  (l_low : K.lookup f_low = some ⟨oc_low, od_low, .func (PySem.W.fnOf "_law_own" "_law_own" (defArgs s__law_own) (defBody s__law_own) (defScope s__law_own) .none kV_low dc_low pm_low an_low cd_low ct_low), sl_low⟩)
  (c_low : PySem.W.codeIn K cd_low "_law_own" = true)
  (k_low : PySem.W.keepIn K (.ref f_low) = true)
  {f_lps : Addr}
  (a_lps : PySem.W.nsIn K mainGlobals "_law_passing" = some (some (.ref f_lps)))
  {od_lps an_lps : Option Addr}
  {sl_lps : Array (Option Value)}
  {oc_lps kV_lps dc_lps pm_lps cd_lps ct_lps : Value}
  (l_lps : K.lookup f_lps = some ⟨oc_lps, od_lps, .func (PySem.W.fnOf "_law_passing" "_law_passing" (defArgs s__law_passing) (defBody s__law_passing) (defScope s__law_passing) .none kV_lps dc_lps pm_lps an_lps cd_lps ct_lps), sl_lps⟩)
  (c_lps : PySem.W.codeIn K cd_lps "_law_passing" = true)
  (k_lps : PySem.W.keepIn K (.ref f_lps) = true)
  {f_lsh : Addr}
  (a_lsh : PySem.W.nsIn K mainGlobals "_law_shut" = some (some (.ref f_lsh)))
  {od_lsh an_lsh : Option Addr}
  {sl_lsh : Array (Option Value)}
  {oc_lsh kV_lsh dc_lsh pm_lsh cd_lsh ct_lsh : Value}
  (l_lsh : K.lookup f_lsh = some ⟨oc_lsh, od_lsh, .func (PySem.W.fnOf "_law_shut" "_law_shut" (defArgs s__law_shut) (defBody s__law_shut) (defScope s__law_shut) .none kV_lsh dc_lsh pm_lsh an_lsh cd_lsh ct_lsh), sl_lsh⟩)
  (c_lsh : PySem.W.codeIn K cd_lsh "_law_shut" = true)
  (k_lsh : PySem.W.keepIn K (.ref f_lsh) = true)
  {f_fa : Addr}
  (a_fa : PySem.W.nsIn K mainGlobals "_law_far" = some (some (.ref f_fa)))
  {od_fa an_fa : Option Addr}
  {sl_fa : Array (Option Value)}
  {oc_fa kV_fa dc_fa pm_fa cd_fa ct_fa : Value}
  (l_fa : K.lookup f_fa = some ⟨oc_fa, od_fa, .func (PySem.W.fnOf "_law_far" "_law_far" (defArgs s__law_far) (defBody s__law_far) (defScope s__law_far) .none kV_fa dc_fa pm_fa an_fa cd_fa ct_fa), sl_fa⟩)
  (c_fa : PySem.W.codeIn K cd_fa "_law_far" = true)
  (k_fa : PySem.W.keepIn K (.ref f_fa) = true)
  {f_tb : Addr}
  (a_tb : PySem.W.nsIn K mainGlobals "_law_table" = some (some (.ref f_tb)))
  {od_tb an_tb : Option Addr}
  {sl_tb : Array (Option Value)}
  {oc_tb kV_tb dc_tb pm_tb cd_tb ct_tb : Value}
  (l_tb : K.lookup f_tb = some ⟨oc_tb, od_tb, .func (PySem.W.fnOf "_law_table" "_law_table" (defArgs s__law_table) (defBody s__law_table) (defScope s__law_table) .none kV_tb dc_tb pm_tb an_tb cd_tb ct_tb), sl_tb⟩)
  (c_tb : PySem.W.codeIn K cd_tb "_law_table" = true)
  (k_tb : PySem.W.keepIn K (.ref f_tb) = true)
  {f_an : Addr}
  (a_an : PySem.W.nsIn K mainGlobals "_law_any_state" = some (some (.ref f_an)))
  {od_an an_an : Option Addr}
  {sl_an : Array (Option Value)}
  {oc_an kV_an dc_an pm_an cd_an ct_an : Value}
  (l_an : K.lookup f_an = some ⟨oc_an, od_an, .func (PySem.W.fnOf "_law_any_state" "_law_any_state" (defArgs s__law_any_state) (defBody s__law_any_state) (defScope s__law_any_state) .none kV_an dc_an pm_an an_an cd_an ct_an), sl_an⟩)
  (c_an : PySem.W.codeIn K cd_an "_law_any_state" = true)
  (k_an : PySem.W.keepIn K (.ref f_an) = true)
  {f_lof : Addr}
  (a_lof : PySem.W.nsIn K mainGlobals "_law_land_of" = some (some (.ref f_lof)))
  {od_lof an_lof : Option Addr}
  {sl_lof : Array (Option Value)}
  {oc_lof kV_lof dc_lof pm_lof cd_lof ct_lof : Value}
  (l_lof : K.lookup f_lof = some ⟨oc_lof, od_lof, .func (PySem.W.fnOf "_law_land_of" "_law_land_of" (defArgs s__law_land_of) (defBody s__law_land_of) (defScope s__law_land_of) .none kV_lof dc_lof pm_lof an_lof cd_lof ct_lof), sl_lof⟩)
  (c_lof : PySem.W.codeIn K cd_lof "_law_land_of" = true)
  (k_lof : PySem.W.keepIn K (.ref f_lof) = true)
  {f_sof : Addr}
  (a_sof : PySem.W.nsIn K mainGlobals "_law_state_of" = some (some (.ref f_sof)))
  {od_sof an_sof : Option Addr}
  {sl_sof : Array (Option Value)}
  {oc_sof kV_sof dc_sof pm_sof cd_sof ct_sof : Value}
  (l_sof : K.lookup f_sof = some ⟨oc_sof, od_sof, .func (PySem.W.fnOf "_law_state_of" "_law_state_of" (defArgs s__law_state_of) (defBody s__law_state_of) (defScope s__law_state_of) .none kV_sof dc_sof pm_sof an_sof cd_sof ct_sof), sl_sof⟩)
  (c_sof : PySem.W.codeIn K cd_sof "_law_state_of" = true)
  (k_sof : PySem.W.keepIn K (.ref f_sof) = true)
  {f_lrw : Addr}
  (a_lrw : PySem.W.nsIn K mainGlobals "_law_rows" = some (some (.ref f_lrw)))
  {od_lrw an_lrw : Option Addr}
  {sl_lrw : Array (Option Value)}
  {oc_lrw kV_lrw dc_lrw pm_lrw cd_lrw ct_lrw : Value}
  (l_lrw : K.lookup f_lrw = some ⟨oc_lrw, od_lrw, .func (PySem.W.fnOf "_law_rows" "_law_rows" (defArgs s__law_rows) (defBody s__law_rows) (defScope s__law_rows) .none kV_lrw dc_lrw pm_lrw an_lrw cd_lrw ct_lrw), sl_lrw⟩)
  (c_lrw : PySem.W.codeIn K cd_lrw "_law_rows" = true)
  (k_lrw : PySem.W.keepIn K (.ref f_lrw) = true)
  {f_lis : Addr}
  (a_lis : PySem.W.nsIn K mainGlobals "_law_is" = some (some (.ref f_lis)))
  {od_lis an_lis : Option Addr}
  {sl_lis : Array (Option Value)}
  {oc_lis kV_lis dc_lis pm_lis cd_lis ct_lis : Value}
  (l_lis : K.lookup f_lis = some ⟨oc_lis, od_lis, .func (PySem.W.fnOf "_law_is" "_law_is" (defArgs s__law_is) (defBody s__law_is) (defScope s__law_is) .none kV_lis dc_lis pm_lis an_lis cd_lis ct_lis), sl_lis⟩)
  (c_lis : PySem.W.codeIn K cd_lis "_law_is" = true)
  (k_lis : PySem.W.keepIn K (.ref f_lis) = true)
  {f_lpt : Addr}
  (a_lpt : PySem.W.nsIn K mainGlobals "_law_parts" = some (some (.ref f_lpt)))
  {od_lpt an_lpt : Option Addr}
  {sl_lpt : Array (Option Value)}
  {oc_lpt kV_lpt dc_lpt pm_lpt cd_lpt ct_lpt : Value}
  (l_lpt : K.lookup f_lpt = some ⟨oc_lpt, od_lpt, .func (PySem.W.fnOf "_law_parts" "_law_parts" (defArgs s__law_parts) (defBody s__law_parts) (defScope s__law_parts) .none kV_lpt dc_lpt pm_lpt an_lpt cd_lpt ct_lpt), sl_lpt⟩)
  (c_lpt : PySem.W.codeIn K cd_lpt "_law_parts" = true)
  (k_lpt : PySem.W.keepIn K (.ref f_lpt) = true)
  {f_sm : Addr}
  (a_sm : PySem.W.nsIn K mainGlobals "_law_same" = some (some (.ref f_sm)))
  {od_sm an_sm : Option Addr}
  {sl_sm : Array (Option Value)}
  {oc_sm kV_sm dc_sm pm_sm cd_sm ct_sm : Value}
  (l_sm : K.lookup f_sm = some ⟨oc_sm, od_sm, .func (PySem.W.fnOf "_law_same" "_law_same" (defArgs s__law_same) (defBody s__law_same) (defScope s__law_same) .none kV_sm dc_sm pm_sm an_sm cd_sm ct_sm), sl_sm⟩)
  (c_sm : PySem.W.codeIn K cd_sm "_law_same" = true)
  (k_sm : PySem.W.keepIn K (.ref f_sm) = true)
  {f_wo : Addr}
  (a_wo : PySem.W.nsIn K mainGlobals "_law_words_of" = some (some (.ref f_wo)))
  {od_wo an_wo : Option Addr}
  {sl_wo : Array (Option Value)}
  {oc_wo kV_wo dc_wo pm_wo cd_wo ct_wo : Value}
  (l_wo : K.lookup f_wo = some ⟨oc_wo, od_wo, .func (PySem.W.fnOf "_law_words_of" "_law_words_of" (defArgs s__law_words_of) (defBody s__law_words_of) (defScope s__law_words_of) .none kV_wo dc_wo pm_wo an_wo cd_wo ct_wo), sl_wo⟩)
  (c_wo : PySem.W.codeIn K cd_wo "_law_words_of" = true)
  (k_wo : PySem.W.keepIn K (.ref f_wo) = true)
  {f_cr : Addr}
  (a_cr : PySem.W.nsIn K mainGlobals "_law_cell_right" = some (some (.ref f_cr)))
  {od_cr an_cr : Option Addr}
  {sl_cr : Array (Option Value)}
  {oc_cr kV_cr dc_cr pm_cr cd_cr ct_cr : Value}
  (l_cr : K.lookup f_cr = some ⟨oc_cr, od_cr, .func (PySem.W.fnOf "_law_cell_right" "_law_cell_right" (defArgs s__law_cell_right) (defBody s__law_cell_right) (defScope s__law_cell_right) .none kV_cr dc_cr pm_cr an_cr cd_cr ct_cr), sl_cr⟩)
  (c_cr : PySem.W.codeIn K cd_cr "_law_cell_right" = true)
  (k_cr : PySem.W.keepIn K (.ref f_cr) = true)
  {f_sr : Addr}
  (a_sr : PySem.W.nsIn K mainGlobals "_law_state_right" = some (some (.ref f_sr)))
  {od_sr an_sr : Option Addr}
  {sl_sr : Array (Option Value)}
  {oc_sr kV_sr dc_sr pm_sr cd_sr ct_sr : Value}
  (l_sr : K.lookup f_sr = some ⟨oc_sr, od_sr, .func (PySem.W.fnOf "_law_state_right" "_law_state_right" (defArgs s__law_state_right) (defBody s__law_state_right) (defScope s__law_state_right) .none kV_sr dc_sr pm_sr an_sr cd_sr ct_sr), sl_sr⟩)
  (c_sr : PySem.W.codeIn K cd_sr "_law_state_right" = true)
  (k_sr : PySem.W.keepIn K (.ref f_sr) = true)
  {f_tw : Addr}
  (a_tw : PySem.W.nsIn K mainGlobals "_law_twin" = some (some (.ref f_tw)))
  {od_tw an_tw : Option Addr}
  {sl_tw : Array (Option Value)}
  {oc_tw kV_tw dc_tw pm_tw cd_tw ct_tw : Value}
  (l_tw : K.lookup f_tw = some ⟨oc_tw, od_tw, .func (PySem.W.fnOf "_law_twin" "_law_twin" (defArgs s__law_twin) (defBody s__law_twin) (defScope s__law_twin) .none kV_tw dc_tw pm_tw an_tw cd_tw ct_tw), sl_tw⟩)
  (c_tw : PySem.W.codeIn K cd_tw "_law_twin" = true)
  (k_tw : PySem.W.keepIn K (.ref f_tw) = true)
  {f_tu : Addr}
  (a_tu : PySem.W.nsIn K mainGlobals "_law_turned" = some (some (.ref f_tu)))
  {od_tu an_tu : Option Addr}
  {sl_tu : Array (Option Value)}
  {oc_tu kV_tu dc_tu pm_tu cd_tu ct_tu : Value}
  (l_tu : K.lookup f_tu = some ⟨oc_tu, od_tu, .func (PySem.W.fnOf "_law_turned" "_law_turned" (defArgs s__law_turned) (defBody s__law_turned) (defScope s__law_turned) .none kV_tu dc_tu pm_tu an_tu cd_tu ct_tu), sl_tu⟩)
  (c_tu : PySem.W.codeIn K cd_tu "_law_turned" = true)
  (k_tu : PySem.W.keepIn K (.ref f_tu) = true)
  {f_er : Addr}
  (a_er : PySem.W.nsIn K mainGlobals "_law_equal_right" = some (some (.ref f_er)))
  {od_er an_er : Option Addr}
  {sl_er : Array (Option Value)}
  {oc_er kV_er dc_er pm_er cd_er ct_er : Value}
  (l_er : K.lookup f_er = some ⟨oc_er, od_er, .func (PySem.W.fnOf "_law_equal_right" "_law_equal_right" (defArgs s__law_equal_right) (defBody s__law_equal_right) (defScope s__law_equal_right) .none kV_er dc_er pm_er an_er cd_er ct_er), sl_er⟩)
  (c_er : PySem.W.codeIn K cd_er "_law_equal_right" = true)
  (k_er : PySem.W.keepIn K (.ref f_er) = true)
  {f_rr : Addr}
  (a_rr : PySem.W.nsIn K mainGlobals "_law_refused_right" = some (some (.ref f_rr)))
  {od_rr an_rr : Option Addr}
  {sl_rr : Array (Option Value)}
  {oc_rr kV_rr dc_rr pm_rr cd_rr ct_rr : Value}
  (l_rr : K.lookup f_rr = some ⟨oc_rr, od_rr, .func (PySem.W.fnOf "_law_refused_right" "_law_refused_right" (defArgs s__law_refused_right) (defBody s__law_refused_right) (defScope s__law_refused_right) .none kV_rr dc_rr pm_rr an_rr cd_rr ct_rr), sl_rr⟩)
  (c_rr : PySem.W.codeIn K cd_rr "_law_refused_right" = true)
  (k_rr : PySem.W.keepIn K (.ref f_rr) = true)
  {f_la : Addr}
  (a_la : PySem.W.nsIn K mainGlobals "law" = some (some (.ref f_la)))
  {od_la an_la : Option Addr}
  {sl_la : Array (Option Value)}
  {oc_la kV_la dc_la pm_la cd_la ct_la : Value}
  (l_la : K.lookup f_la = some ⟨oc_la, od_la, .func (PySem.W.fnOf "law" "law" (defArgs s_law) (defBody s_law) (defScope s_law) .none kV_la dc_la pm_la an_la cd_la ct_la), sl_la⟩)
  (c_la : PySem.W.codeIn K cd_la "law" = true)
  (k_la : PySem.W.keepIn K (.ref f_la) = true)
  {L : Addr}
  (aL : PySem.W.nsIn K mainGlobals "LandError" = some (some (.ref L)))
  (eL : PySem.W.subIn K (.ref L) (.type "BaseException") = some true)
  (dL : PySem.W.hasDictIn K L = true)
  (tL : PySem.W.typeIn K (.ref L) = some (.type "type"))
  (icL : PySem.W.isClsIn K L = true)
  (hnO : PySem.W.specialIn K (.builtin "object.__class__") "__get__" = some (some (.builtin "getset_descriptor.__get__")))
  (htO : PySem.W.takesIn K (.builtin "object.__class__") = some true)
  {LC : Addr}
  (aLC : PySem.W.nsIn K mainGlobals "Land" = some (some (.ref LC)))
  (pgLC : PySem.W.plainGet K LC Str.empty = true)
  (hdLC : PySem.W.hasDictIn K LC = true)
  (poLC : PySem.W.plainOver K LC = true)
  (saLC : PySem.W.findIn K (.ref LC) "__setattr__" = some (some (.builtin "object.__setattr__")))
  (mkLC : PySem.W.makesIn K LC = true)
  (kcLC : PySem.W.keepIn K (.ref LC) = true)
  (haLC : PySem.W.findIn K (.ref LC) "__class__" = some (some (.builtin "object.__class__")))
  (hmLC : PySem.W.mroIn K LC (.type "object") = some true)
  (neLC : PySem.W.findIn K (.ref LC) "__ne__" = some (some (.builtin "object.__ne__")))
  (n_LC_cells : PySem.W.findIn K (.ref LC) "cells" = some none)
  (n_LC_neighbours : PySem.W.findIn K (.ref LC) "neighbours" = some none)
  (n_LC_roads : PySem.W.findIn K (.ref LC) "roads" = some none)
  (n_LC_nearby : PySem.W.findIn K (.ref LC) "nearby" = some none)
  (n_LC__couples : PySem.W.findIn K (.ref LC) "_couples" = some none)
  {f_cI : Addr}
  (a_cI : PySem.W.findIn K (.ref LC) "__init__" = some (some (.ref f_cI)))
  (i_cI : PySem.W.isFn K (.ref f_cI) = true)
  {od_cI an_cI : Option Addr}
  {sl_cI : Array (Option Value)}
  {oc_cI kV_cI dc_cI pm_cI cd_cI ct_cI : Value}
  (l_cI : K.lookup f_cI = some ⟨oc_cI, od_cI, .func (PySem.W.fnOf "__init__" "Land.__init__" (defArgs s_Land___init__) (defBody s_Land___init__) (defScope s_Land___init__) .none kV_cI dc_cI pm_cI an_cI cd_cI ct_cI), sl_cI⟩)
  (c_cI : PySem.W.codeIn K cd_cI "Land.__init__" = true)
  (k_cI : PySem.W.keepIn K (.ref f_cI) = true)
  {f_eq : Addr}
  (a_eq : PySem.W.findIn K (.ref LC) "__eq__" = some (some (.ref f_eq)))
  (i_eq : PySem.W.isFn K (.ref f_eq) = true)
  {od_eq an_eq : Option Addr}
  {sl_eq : Array (Option Value)}
  {oc_eq kV_eq dc_eq pm_eq cd_eq ct_eq : Value}
  (l_eq : K.lookup f_eq = some ⟨oc_eq, od_eq, .func (PySem.W.fnOf "__eq__" "Land.__eq__" (defArgs s_Land___eq__) (defBody s_Land___eq__) (defScope s_Land___eq__) .none kV_eq dc_eq pm_eq an_eq cd_eq ct_eq), sl_eq⟩)
  (c_eq : PySem.W.codeIn K cd_eq "Land.__eq__" = true)
  (k_eq : PySem.W.keepIn K (.ref f_eq) = true)
  {pr_cp f_cp : Addr}
  (a_cp : PySem.W.findIn K (.ref LC) "couples" = some (some (.ref pr_cp)))
  (gp_cp : PySem.W.specialIn K (.ref pr_cp) "__get__" = some (some (.builtin "property.__get__")))
  (tp_cp : PySem.W.takesIn K (.ref pr_cp) = some true)
  {rest_cp : List Value}
  (rp_cp : PySem.W.recIn K pr_cp "property" = some (.ref f_cp :: rest_cp))
  {od_cp an_cp : Option Addr}
  {sl_cp : Array (Option Value)}
  {oc_cp kV_cp dc_cp pm_cp cd_cp ct_cp : Value}
  (l_cp : K.lookup f_cp = some ⟨oc_cp, od_cp, .func (PySem.W.fnOf "couples" "Land.couples" (defArgs s_Land_couples) (defBody s_Land_couples) (defScope s_Land_couples) .none kV_cp dc_cp pm_cp an_cp cd_cp ct_cp), sl_cp⟩)
  (c_cp : PySem.W.codeIn K cd_cp "Land.couples" = true)
  (k_cp : PySem.W.keepIn K (.ref f_cp) = true)
  {SC : Addr}
  (aSC : PySem.W.nsIn K mainGlobals "State" = some (some (.ref SC)))
  (pgSC : PySem.W.plainGet K SC Str.empty = true)
  (hdSC : PySem.W.hasDictIn K SC = true)
  (poSC : PySem.W.plainOver K SC = true)
  (saSC : PySem.W.findIn K (.ref SC) "__setattr__" = some (some (.builtin "object.__setattr__")))
  (mkSC : PySem.W.makesIn K SC = true)
  (kcSC : PySem.W.keepIn K (.ref SC) = true)
  (haSC : PySem.W.findIn K (.ref SC) "__class__" = some (some (.builtin "object.__class__")))
  (hmSC : PySem.W.mroIn K SC (.type "object") = some true)
  (neSC : PySem.W.findIn K (.ref SC) "__ne__" = some (some (.builtin "object.__ne__")))
  (icSC : PySem.W.isClsIn K SC = true)
  (tySC : PySem.W.typeIn K (.ref SC) = some (.type "type"))
  (sTSC : PySem.W.subIn K (.type "tuple") (.ref SC) = some false)
  (sISC : PySem.W.subIn K (.type "int") (.ref SC) = some false)
  (nTSC : PySem.W.notFirst K SC (.type "tuple") = true)
  (nISC : PySem.W.notFirst K SC (.type "int") = true)
  (n_SC_land : PySem.W.findIn K (.ref SC) "land" = some none)
  (n_SC_hands : PySem.W.findIn K (.ref SC) "hands" = some none)
  (n_SC_standings : PySem.W.findIn K (.ref SC) "standings" = some none)
  {f_sI : Addr}
  (a_sI : PySem.W.findIn K (.ref SC) "__init__" = some (some (.ref f_sI)))
  (i_sI : PySem.W.isFn K (.ref f_sI) = true)
  {od_sI an_sI : Option Addr}
  {sl_sI : Array (Option Value)}
  {oc_sI kV_sI dc_sI pm_sI cd_sI ct_sI : Value}
  (l_sI : K.lookup f_sI = some ⟨oc_sI, od_sI, .func (PySem.W.fnOf "__init__" "State.__init__" (defArgs s_State___init__) (defBody s_State___init__) (defScope s_State___init__) .none kV_sI dc_sI pm_sI an_sI cd_sI ct_sI), sl_sI⟩)
  (c_sI : PySem.W.codeIn K cd_sI "State.__init__" = true)
  (k_sI : PySem.W.keepIn K (.ref f_sI) = true)
  {f_sQ : Addr}
  (a_sQ : PySem.W.findIn K (.ref SC) "__eq__" = some (some (.ref f_sQ)))
  (i_sQ : PySem.W.isFn K (.ref f_sQ) = true)
  {od_sQ an_sQ : Option Addr}
  {sl_sQ : Array (Option Value)}
  {oc_sQ kV_sQ dc_sQ pm_sQ cd_sQ ct_sQ : Value}
  (l_sQ : K.lookup f_sQ = some ⟨oc_sQ, od_sQ, .func (PySem.W.fnOf "__eq__" "State.__eq__" (defArgs s_State___eq__) (defBody s_State___eq__) (defScope s_State___eq__) .none kV_sQ dc_sQ pm_sQ an_sQ cd_sQ ct_sQ), sl_sQ⟩)
  (c_sQ : PySem.W.codeIn K cd_sQ "State.__eq__" = true)
  (k_sQ : PySem.W.keepIn K (.ref f_sQ) = true)
  {f_shd : Addr}
  (a_shd : PySem.W.findIn K (.ref SC) "hand" = some (some (.ref f_shd)))
  (i_shd : PySem.W.isFn K (.ref f_shd) = true)
  {od_shd an_shd : Option Addr}
  {sl_shd : Array (Option Value)}
  {oc_shd kV_shd dc_shd pm_shd cd_shd ct_shd : Value}
  (l_shd : K.lookup f_shd = some ⟨oc_shd, od_shd, .func (PySem.W.fnOf "hand" "State.hand" (defArgs s_State_hand) (defBody s_State_hand) (defScope s_State_hand) .none kV_shd dc_shd pm_shd an_shd cd_shd ct_shd), sl_shd⟩)
  (c_shd : PySem.W.codeIn K cd_shd "State.hand" = true)
  (k_shd : PySem.W.keepIn K (.ref f_shd) = true)
  {f_std : Addr}
  (a_std : PySem.W.findIn K (.ref SC) "standing" = some (some (.ref f_std)))
  (i_std : PySem.W.isFn K (.ref f_std) = true)
  {od_std an_std : Option Addr}
  {sl_std : Array (Option Value)}
  {oc_std kV_std dc_std pm_std cd_std ct_std : Value}
  (l_std : K.lookup f_std = some ⟨oc_std, od_std, .func (PySem.W.fnOf "standing" "State.standing" (defArgs s_State_standing) (defBody s_State_standing) (defScope s_State_standing) .none kV_std dc_std pm_std an_std cd_std ct_std), sl_std⟩)
  (c_std : PySem.W.codeIn K cd_std "State.standing" = true)
  (k_std : PySem.W.keepIn K (.ref f_std) = true)
  {f_son : Addr}
  (a_son : PySem.W.findIn K (.ref SC) "is_own" = some (some (.ref f_son)))
  (i_son : PySem.W.isFn K (.ref f_son) = true)
  {od_son an_son : Option Addr}
  {sl_son : Array (Option Value)}
  {oc_son kV_son dc_son pm_son cd_son ct_son : Value}
  (l_son : K.lookup f_son = some ⟨oc_son, od_son, .func (PySem.W.fnOf "is_own" "State.is_own" (defArgs s_State_is_own) (defBody s_State_is_own) (defScope s_State_is_own) .none kV_son dc_son pm_son an_son cd_son ct_son), sl_son⟩)
  (c_son : PySem.W.codeIn K cd_son "State.is_own" = true)
  (k_son : PySem.W.keepIn K (.ref f_son) = true)
  {f_spa : Addr}
  (a_spa : PySem.W.findIn K (.ref SC) "passes" = some (some (.ref f_spa)))
  (i_spa : PySem.W.isFn K (.ref f_spa) = true)
  {od_spa an_spa : Option Addr}
  {sl_spa : Array (Option Value)}
  {oc_spa kV_spa dc_spa pm_spa cd_spa ct_spa : Value}
  (l_spa : K.lookup f_spa = some ⟨oc_spa, od_spa, .func (PySem.W.fnOf "passes" "State.passes" (defArgs s_State_passes) (defBody s_State_passes) (defScope s_State_passes) .none kV_spa dc_spa pm_spa an_spa cd_spa ct_spa), sl_spa⟩)
  (c_spa : PySem.W.codeIn K cd_spa "State.passes" = true)
  (k_spa : PySem.W.keepIn K (.ref f_spa) = true)
  {f_soc : Addr}
  (a_soc : PySem.W.findIn K (.ref SC) "own_cells" = some (some (.ref f_soc)))
  (i_soc : PySem.W.isFn K (.ref f_soc) = true)
  {od_soc an_soc : Option Addr}
  {sl_soc : Array (Option Value)}
  {oc_soc kV_soc dc_soc pm_soc cd_soc ct_soc : Value}
  (l_soc : K.lookup f_soc = some ⟨oc_soc, od_soc, .func (PySem.W.fnOf "own_cells" "State.own_cells" (defArgs s_State_own_cells) (defBody s_State_own_cells) (defScope s_State_own_cells) .none kV_soc dc_soc pm_soc an_soc cd_soc ct_soc), sl_soc⟩)
  (c_soc : PySem.W.codeIn K cd_soc "State.own_cells" = true)
  (k_soc : PySem.W.keepIn K (.ref f_soc) = true)
  {f_spg : Addr}
  (a_spg : PySem.W.findIn K (.ref SC) "passing" = some (some (.ref f_spg)))
  (i_spg : PySem.W.isFn K (.ref f_spg) = true)
  {od_spg an_spg : Option Addr}
  {sl_spg : Array (Option Value)}
  {oc_spg kV_spg dc_spg pm_spg cd_spg ct_spg : Value}
  (l_spg : K.lookup f_spg = some ⟨oc_spg, od_spg, .func (PySem.W.fnOf "passing" "State.passing" (defArgs s_State_passing) (defBody s_State_passing) (defScope s_State_passing) .none kV_spg dc_spg pm_spg an_spg cd_spg ct_spg), sl_spg⟩)
  (c_spg : PySem.W.codeIn K cd_spg "State.passing" = true)
  (k_spg : PySem.W.keepIn K (.ref f_spg) = true)
  {f_sio : Addr}
  (a_sio : PySem.W.findIn K (.ref SC) "is_open" = some (some (.ref f_sio)))
  (i_sio : PySem.W.isFn K (.ref f_sio) = true)
  {od_sio an_sio : Option Addr}
  {sl_sio : Array (Option Value)}
  {oc_sio kV_sio dc_sio pm_sio cd_sio ct_sio : Value}
  (l_sio : K.lookup f_sio = some ⟨oc_sio, od_sio, .func (PySem.W.fnOf "is_open" "State.is_open" (defArgs s_State_is_open) (defBody s_State_is_open) (defScope s_State_is_open) .none kV_sio dc_sio pm_sio an_sio cd_sio ct_sio), sl_sio⟩)
  (c_sio : PySem.W.codeIn K cd_sio "State.is_open" = true)
  (k_sio : PySem.W.keepIn K (.ref f_sio) = true)
  {pr_ssu f_ssu : Addr}
  (a_ssu : PySem.W.findIn K (.ref SC) "shut" = some (some (.ref pr_ssu)))
  (gp_ssu : PySem.W.specialIn K (.ref pr_ssu) "__get__" = some (some (.builtin "property.__get__")))
  (tp_ssu : PySem.W.takesIn K (.ref pr_ssu) = some true)
  {rest_ssu : List Value}
  (rp_ssu : PySem.W.recIn K pr_ssu "property" = some (.ref f_ssu :: rest_ssu))
  {od_ssu an_ssu : Option Addr}
  {sl_ssu : Array (Option Value)}
  {oc_ssu kV_ssu dc_ssu pm_ssu cd_ssu ct_ssu : Value}
  (l_ssu : K.lookup f_ssu = some ⟨oc_ssu, od_ssu, .func (PySem.W.fnOf "shut" "State.shut" (defArgs s_State_shut) (defBody s_State_shut) (defScope s_State_shut) .none kV_ssu dc_ssu pm_ssu an_ssu cd_ssu ct_ssu), sl_ssu⟩)
  (c_ssu : PySem.W.codeIn K cd_ssu "State.shut" = true)
  (k_ssu : PySem.W.keepIn K (.ref f_ssu) = true)
  {pr_slt f_slt : Addr}
  (a_slt : PySem.W.findIn K (.ref SC) "lots" = some (some (.ref pr_slt)))
  (gp_slt : PySem.W.specialIn K (.ref pr_slt) "__get__" = some (some (.builtin "property.__get__")))
  (tp_slt : PySem.W.takesIn K (.ref pr_slt) = some true)
  {rest_slt : List Value}
  (rp_slt : PySem.W.recIn K pr_slt "property" = some (.ref f_slt :: rest_slt))
  {od_slt an_slt : Option Addr}
  {sl_slt : Array (Option Value)}
  {oc_slt kV_slt dc_slt pm_slt cd_slt ct_slt : Value}
  (l_slt : K.lookup f_slt = some ⟨oc_slt, od_slt, .func (PySem.W.fnOf "lots" "State.lots" (defArgs s_State_lots) (defBody s_State_lots) (defScope s_State_lots) .none kV_slt dc_slt pm_slt an_slt cd_slt ct_slt), sl_slt⟩)
  (c_slt : PySem.W.codeIn K cd_slt "State.lots" = true)
  (k_slt : PySem.W.keepIn K (.ref f_slt) = true)
  {B : Addr}
  (aB : PySem.W.nsIn K mainGlobals "BadCell" = some (some (.ref B)))
  {nmB qB : Str}
  {N_B : Addr}
  {bsB bmB subB : List Value}
  {snB : List Str}
  {abB : Bool}
  {colB : Option Bool}
  {ddB : Option Addr}
  {m0B m1B m2B m3B m5B : Option Value}
  (xB : K.lookup B = some (excClassObj nmB qB B N_B bsB bmB true snB subB abB colB ddB m0B m1B m2B m3B m5B "ValueError.__new__"))
  (rB : PySem.HandSPX.refsVE bmB = true)
  (saB : PySem.W.findIn K (.ref B) "__setattr__" = some (some (.builtin "object.__setattr__")))
  (exB : PySem.W.subIn K (.ref B) (.type "BaseException") = some true)
  (tyB : PySem.W.typeIn K (.ref B) = some (.type "type"))
  (kpB : PySem.W.keepIn K (.ref B) = true)
  (hgB : PySem.W.findIn K (.ref B) "__getattribute__" = some (some (.builtin "BaseException.__getattribute__")))
  (hkB : PySem.W.findIn K (.ref B) "__getattr__" = some none)
  (hdB : PySem.W.hasDictIn K B = true)
  (haB : PySem.W.findIn K (.ref B) "__class__" = some (some (.builtin "object.__class__")))
  (hmB : PySem.W.mroIn K B (.type "object") = some true)
  (icB : PySem.W.isClsIn K B = true)
  (ssB : PySem.W.subIn K (.ref B) (.ref B) = some true)
  (suB : PySem.W.subIn K (.ref B) (.ref L) = some true)
  (noB : PySem.W.findIn K (.ref B) "cell" = some none)
  {f_iB : Addr}
  (a_iB : PySem.W.findIn K (.ref B) "__init__" = some (some (.ref f_iB)))
  (t_iB : PySem.W.typeIn K (.ref f_iB) = some (.type "function"))
  {od_iB an_iB : Option Addr}
  {sl_iB : Array (Option Value)}
  {oc_iB kV_iB dc_iB pm_iB cd_iB ct_iB : Value}
  (l_iB : K.lookup f_iB = some ⟨oc_iB, od_iB, .func (PySem.W.fnOf "__init__" "BadCell.__init__" (defArgs s_BadCell___init__) (defBody s_BadCell___init__) (defScope s_BadCell___init__) .none kV_iB dc_iB pm_iB an_iB cd_iB ct_iB), sl_iB⟩)
  (c_iB : PySem.W.codeIn K cd_iB "BadCell.__init__" = true)
  (k_iB : PySem.W.keepIn K (.ref f_iB) = true)
  {t_M : Tok}
  (a_M : PySem.W.nsIn K mainGlobals "MOST_CELLS" = some (some (.int 5 t_M)))
  {t_MH : Tok}
  (a_MH : PySem.W.nsIn K mainGlobals "MOST_HAND" = some (some (.int 1000000000000000000000000000000 t_MH)))
  {ST : Addr}
  (a_ST : PySem.W.nsIn K mainGlobals "STANDINGS" = some (some (.ref ST)))
  {o_ST : Array Value}
  {z_ST : Nat}
  {s_ST : Array (Option Value)}
  (l_ST : K.lookup ST = some ⟨.type "tuple", none, .seq o_ST z_ST, s_ST⟩)
  (v_ST : Vals (stds) o_ST.toList)
  (w_ST : o_ST.size ≤ sizeLine)
  {RI : Addr}
  (a_RI : PySem.W.nsIn K mainGlobals "RIGHTS" = some (some (.ref RI)))
  {o_RI : Array Value}
  {z_RI : Nat}
  {s_RI : Array (Option Value)}
  (l_RI : K.lookup RI = some ⟨.type "tuple", none, .seq o_RI z_RI, s_RI⟩)
  (v_RI : Vals ([.str "awake", .str "needed"]) o_RI.toList)
  (w_RI : o_RI.size ≤ sizeLine)
  (z_isinstance : PySem.W.nsIn K mainGlobals "isinstance" = some none)
  (z_int : PySem.W.nsIn K mainGlobals "int" = some none)
  (z_bool : PySem.W.nsIn K mainGlobals "bool" = some none)
  (z_str : PySem.W.nsIn K mainGlobals "str" = some none)
  (z_tuple : PySem.W.nsIn K mainGlobals "tuple" = some none)
  (z_list : PySem.W.nsIn K mainGlobals "list" = some none)
  (z_enumerate : PySem.W.nsIn K mainGlobals "enumerate" = some none)
  (z_len : PySem.W.nsIn K mainGlobals "len" = some none)
  (z_abs : PySem.W.nsIn K mainGlobals "abs" = some none)
  (z_range : PySem.W.nsIn K mainGlobals "range" = some none)
  (z_min : PySem.W.nsIn K mainGlobals "min" = some none)
  (z_max : PySem.W.nsIn K mainGlobals "max" = some none)
  (z_sorted : PySem.W.nsIn K mainGlobals "sorted" = some none)
  (z_set : PySem.W.nsIn K mainGlobals "set" = some none)
  (z_all : PySem.W.nsIn K mainGlobals "all" = some none)
  (z_any : PySem.W.nsIn K mainGlobals "any" = some none) :
    ∃ fd : FuncData, (∀ (s : Shared) (u : Value), BindsTo s fd ⟨[u], []⟩ [("_law_script", u)]) ∧ ∀ base : Heap, K.In base → base.Ns mainGlobals mg → FnOk P w K mg base CX0 10 fa fd ["_law_script"] (spLaw K) := by
  have e := hfa.symm.trans (PySem.W.mg_of X G a_la)
  cases e
  have F_sq := fun_mk (st := s_is_sequence) l_sq c_sq k_sq
  have b_sq := F_sq.binds (ps := ["thing"]) fun _ _ _ _ _ _ us hl => match us, hl with | [_], _ => rfl
  have g_sq := PySem.W.mg_of X G a_sq
  have F_isw := fun_mk (st := s_is_whole) l_isw c_isw k_isw
  have b_isw := F_isw.binds (ps := ["thing", "low", "high"]) fun _ _ _ _ _ _ us hl => match us, hl with | [_, _, _], _ => rfl
  have g_isw := PySem.W.mg_of X G a_isw
  have F_ac := fun_mk (st := s_are_cells) l_ac c_ac k_ac
  have b_ac := F_ac.binds (ps := ["many", "thing", "least"]) fun _ _ _ _ _ _ us hl => match us, hl with | [_, _, _], _ => rfl
  have g_ac := PySem.W.mg_of X G a_ac
  have F_a2 := fun_mk (st := s_are_two_cells) l_a2 c_a2 k_a2
  have b_a2 := F_a2.binds (ps := ["many", "thing"]) fun _ _ _ _ _ _ us hl => match us, hl with | [_, _], _ => rfl
  have g_a2 := PySem.W.mg_of X G a_a2
  have F_ic := fun_mk (st := s_is_cell) l_ic c_ic k_ic
  have b_ic := F_ic.binds (ps := ["land", "thing"]) fun _ _ _ _ _ _ us hl => match us, hl with | [_, _], _ => rfl
  have g_ic := PySem.W.mg_of X G a_ic
  have F_ck := fun_mk (st := s_check_cells) l_ck c_ck k_ck
  have g_ck := PySem.W.mg_of X G a_ck
  have F_sp := fun_mk (st := s_spread) l_sp c_sp k_sp
  have b_sp := F_sp.binds (ps := ["nearby", "cell", "passing"]) fun _ _ _ _ _ _ us hl => match us, hl with | [_, _, _], _ => rfl
  have g_sp := PySem.W.mg_of X G a_sp
  have F_ny := fun_mk (st := s_nearby_cells) l_ny c_ny k_ny
  have b_ny := F_ny.binds (ps := ["cells", "couples"]) fun _ _ _ _ _ _ us hl => match us, hl with | [_, _], _ => rfl
  have g_ny := PySem.W.mg_of X G a_ny
  have F_ht := fun_mk (st := s_hang_together) l_ht c_ht k_ht
  have b_ht := F_ht.binds (ps := ["cells", "couples"]) fun _ _ _ _ _ _ us hl => match us, hl with | [_, _], _ => rfl
  have g_ht := PySem.W.mg_of X G a_ht
  have F_nb := fun_mk (st := s__are_neighbours) l_nb c_nb k_nb
  have b_nb := F_nb.binds (ps := ["cells", "thing"]) fun _ _ _ _ _ _ us hl => match us, hl with | [_, _], _ => rfl
  have g_nb := PySem.W.mg_of X G a_nb
  have F_op := fun_mk (st := s_opens) l_op c_op k_op
  have b_op := F_op.binds (ps := ["land", "cell", "passing"]) fun _ _ _ _ _ _ us hl => match us, hl with | [_, _, _], _ => rfl
  have g_op := PySem.W.mg_of X G a_op
  have F_pcl := fun_mk (st := s_passed_cells) l_pcl c_pcl k_pcl
  have b_pcl := F_pcl.binds (ps := ["hands", "row", "a"]) fun _ _ _ _ _ _ us hl => match us, hl with | [_, _, _], _ => rfl
  have g_pcl := PySem.W.mg_of X G a_pcl
  have F_ah := fun_mk (st := s__are_hands) l_ah c_ah k_ah
  have b_ah := F_ah.binds (ps := ["land", "thing"]) fun _ _ _ _ _ _ us hl => match us, hl with | [_, _], _ => rfl
  have g_ah := PySem.W.mg_of X G a_ah
  have F_ir := fun_mk (st := s_is_row) l_ir c_ir k_ir
  have b_ir := F_ir.binds (ps := ["land", "a", "thing"]) fun _ _ _ _ _ _ us hl => match us, hl with | [_, _, _], _ => rfl
  have g_ir := PySem.W.mg_of X G a_ir
  have F_as_ := fun_mk (st := s__are_standings) l_as_ c_as_ k_as_
  have b_as_ := F_as_.binds (ps := ["land", "thing"]) fun _ _ _ _ _ _ us hl => match us, hl with | [_, _], _ => rfl
  have g_as_ := PySem.W.mg_of X G a_as_
  have F_cpl := fun_mk (st := s__check_places) l_cpl c_cpl k_cpl
  have b_cpl := F_cpl.binds (ps := ["land", "hands", "standings"]) fun _ _ _ _ _ _ us hl => match us, hl with | [_, _, _], _ => rfl
  have g_cpl := PySem.W.mg_of X G a_cpl
  have F_sst := fun_mk (st := s_start_state) l_sst c_sst k_sst
  have b_sst := F_sst.binds (ps := ["land"]) fun _ _ _ _ _ _ us hl => match us, hl with | [_], _ => rfl
  have g_sst := PySem.W.mg_of X G a_sst
  have F_mi := fun_mk (st := s__law_mix) l_mi c_mi k_mi
  have b_mi := F_mi.binds (ps := ["_law_number", "_law_turn"]) fun _ _ _ _ _ _ us hl => match us, hl with | [_, _], _ => rfl
  have g_mi := PySem.W.mg_of X G a_mi
  have F_ha := fun_mk (st := s__law_hand) l_ha c_ha k_ha
  have b_ha := F_ha.binds (ps := ["_law_script"]) fun _ _ _ _ _ _ us hl => match us, hl with | [_], _ => rfl
  have g_ha := PySem.W.mg_of X G a_ha
  have F_dr := fun_mk (st := s__law_draw) l_dr c_dr k_dr
  have b_dr := F_dr.binds (ps := ["_law_hand_here", "_law_many"]) fun _ _ _ _ _ _ us hl => match us, hl with | [_, _], _ => rfl
  have g_dr := PySem.W.mg_of X G a_dr
  have F_pk := fun_mk (st := s__law_pick) l_pk c_pk k_pk
  have b_pk := F_pk.binds (ps := ["_law_hand_here", "_law_things"]) fun _ _ _ _ _ _ us hl => match us, hl with | [_, _], _ => rfl
  have g_pk := PySem.W.mg_of X G a_pk
  have F_lo := fun_mk (st := s__law_lots) l_lo c_lo k_lo
  have b_lo := F_lo.binds (ps := ["_law_cells"]) fun _ _ _ _ _ _ us hl => match us, hl with | [_], _ => rfl
  have g_lo := PySem.W.mg_of X G a_lo
  have F_ld := fun_mk (st := s__law_land) l_ld c_ld k_ld
  have b_ld := F_ld.binds (ps := ["_law_hand_here", "_law_n"]) fun _ _ _ _ _ _ us hl => match us, hl with | [_, _], _ => rfl
  have g_ld := PySem.W.mg_of X G a_ld
  have F_sz := fun_mk (st := s__law_size) l_sz c_sz k_sz
  have b_sz := F_sz.binds (ps := ["_law_hand_here"]) fun _ _ _ _ _ _ us hl => match us, hl with | [_], _ => rfl
  have g_sz := PySem.W.mg_of X G a_sz
  have F_lc := fun_mk (st := s__law_comes) l_lc c_lc k_lc
  have b_lc := F_lc.binds (ps := ["_law_land_here", "_law_cell", "_law_passing_here"]) fun _ _ _ _ _ _ us hl => match us, hl with | [_, _, _], _ => rfl
  have g_lc := PySem.W.mg_of X G a_lc
  have F_lop := fun_mk (st := s__law_open) l_lop c_lop k_lop
  have b_lop := F_lop.binds (ps := ["_law_land_here", "_law_cell", "_law_passing_here"]) fun _ _ _ _ _ _ us hl => match us, hl with | [_, _, _], _ => rfl
  have g_lop := PySem.W.mg_of X G a_lop
  have F_lst := fun_mk (st := s__law_start) l_lst c_lst k_lst
  have b_lst := F_lst.binds (ps := ["_law_n"]) fun _ _ _ _ _ _ us hl => match us, hl with | [_], _ => rfl
  have g_lst := PySem.W.mg_of X G a_lst
  have F_low := fun_mk (st := s__law_own) l_low c_low k_low
  have b_low := F_low.binds (ps := ["_law_state", "_law_a"]) fun _ _ _ _ _ _ us hl => match us, hl with | [_, _], _ => rfl
  have g_low := PySem.W.mg_of X G a_low
  have F_lps := fun_mk (st := s__law_passing) l_lps c_lps k_lps
  have b_lps := F_lps.binds (ps := ["_law_state", "_law_a"]) fun _ _ _ _ _ _ us hl => match us, hl with | [_, _], _ => rfl
  have g_lps := PySem.W.mg_of X G a_lps
  have F_lsh := fun_mk (st := s__law_shut) l_lsh c_lsh k_lsh
  have b_lsh := F_lsh.binds (ps := ["_law_land_here", "_law_state"]) fun _ _ _ _ _ _ us hl => match us, hl with | [_, _], _ => rfl
  have g_lsh := PySem.W.mg_of X G a_lsh
  have F_fa := fun_mk (st := s__law_far) l_fa c_fa k_fa
  have b_fa := F_fa.binds (ps := ["_law_hand_here"]) fun _ _ _ _ _ _ us hl => match us, hl with | [_], _ => rfl
  have g_fa := PySem.W.mg_of X G a_fa
  have F_tb := fun_mk (st := s__law_table) l_tb c_tb k_tb
  have b_tb := F_tb.binds (ps := ["_law_hand_here", "_law_hands"]) fun _ _ _ _ _ _ us hl => match us, hl with | [_, _], _ => rfl
  have g_tb := PySem.W.mg_of X G a_tb
  have F_an := fun_mk (st := s__law_any_state) l_an c_an k_an
  have b_an := F_an.binds (ps := ["_law_hand_here", "_law_n"]) fun _ _ _ _ _ _ us hl => match us, hl with | [_, _], _ => rfl
  have g_an := PySem.W.mg_of X G a_an
  have F_lof := fun_mk (st := s__law_land_of) l_lof c_lof k_lof
  have b_lof := F_lof.binds (ps := ["_law_land_here"]) fun _ _ _ _ _ _ us hl => match us, hl with | [_], _ => rfl
  have g_lof := PySem.W.mg_of X G a_lof
  have F_sof := fun_mk (st := s__law_state_of) l_sof c_sof k_sof
  have b_sof := F_sof.binds (ps := ["_law_land_here", "_law_state"]) fun _ _ _ _ _ _ us hl => match us, hl with | [_, _], _ => rfl
  have g_sof := PySem.W.mg_of X G a_sof
  have F_lrw := fun_mk (st := s__law_rows) l_lrw c_lrw k_lrw
  have b_lrw := F_lrw.binds (ps := ["_law_table_here"]) fun _ _ _ _ _ _ us hl => match us, hl with | [_], _ => rfl
  have g_lrw := PySem.W.mg_of X G a_lrw
  have F_lis := fun_mk (st := s__law_is) l_lis c_lis k_lis
  have b_lis := F_lis.binds (ps := ["_law_one", "_law_other"]) fun _ _ _ _ _ _ us hl => match us, hl with | [_, _], _ => rfl
  have g_lis := PySem.W.mg_of X G a_lis
  have F_lpt := fun_mk (st := s__law_parts) l_lpt c_lpt k_lpt
  have b_lpt := F_lpt.binds (ps := ["_law_hands"]) fun _ _ _ _ _ _ us hl => match us, hl with | [_], _ => rfl
  have g_lpt := PySem.W.mg_of X G a_lpt
  have F_sm := fun_mk (st := s__law_same) l_sm c_sm k_sm
  have b_sm := F_sm.binds (ps := ["_law_land_here", "_law_state", "_law_told"]) fun _ _ _ _ _ _ us hl => match us, hl with | [_, _, _], _ => rfl
  have g_sm := PySem.W.mg_of X G a_sm
  have F_wo := fun_mk (st := s__law_words_of) l_wo c_wo k_wo
  have b_wo := F_wo.binds (ps := ["_law_state", "_law_cell", "_law_other"]) fun _ _ _ _ _ _ us hl => match us, hl with | [_, _, _], _ => rfl
  have g_wo := PySem.W.mg_of X G a_wo
  have F_cr := fun_mk (st := s__law_cell_right) l_cr c_cr k_cr
  have b_cr := F_cr.binds (ps := ["_law_land_here", "_law_state", "_law_told", "_law_a"]) fun _ _ _ _ _ _ us hl => match us, hl with | [_, _, _, _], _ => rfl
  have g_cr := PySem.W.mg_of X G a_cr
  have F_sr := fun_mk (st := s__law_state_right) l_sr c_sr k_sr
  have b_sr := F_sr.binds (ps := ["_law_land_here", "_law_state", "_law_told"]) fun _ _ _ _ _ _ us hl => match us, hl with | [_, _, _], _ => rfl
  have g_sr := PySem.W.mg_of X G a_sr
  have F_tw := fun_mk (st := s__law_twin) l_tw c_tw k_tw
  have b_tw := F_tw.binds (ps := ["_law_hand_here", "_law_state"]) fun _ _ _ _ _ _ us hl => match us, hl with | [_, _], _ => rfl
  have g_tw := PySem.W.mg_of X G a_tw
  have F_tu := fun_mk (st := s__law_turned) l_tu c_tu k_tu
  have b_tu := F_tu.binds (ps := ["_law_hand_here", "_law_state"]) fun _ _ _ _ _ _ us hl => match us, hl with | [_, _], _ => rfl
  have g_tu := PySem.W.mg_of X G a_tu
  have F_er := fun_mk (st := s__law_equal_right) l_er c_er k_er
  have b_er := F_er.binds (ps := ["_law_hand_here", "_law_land_here", "_law_state", "_law_told"]) fun _ _ _ _ _ _ us hl => match us, hl with | [_, _, _, _], _ => rfl
  have g_er := PySem.W.mg_of X G a_er
  have F_rr := fun_mk (st := s__law_refused_right) l_rr c_rr k_rr
  have b_rr := F_rr.binds (ps := ["_law_hand_here", "_law_n", "_law_told"]) fun _ _ _ _ _ _ us hl => match us, hl with | [_, _, _], _ => rfl
  have g_rr := PySem.W.mg_of X G a_rr
  have F_la := fun_mk (st := s_law) l_la c_la k_la
  have b_la := F_la.binds (ps := ["_law_script"]) fun _ _ _ _ _ _ us hl => match us, hl with | [_], _ => rfl
  have g_la := PySem.W.mg_of X G a_la
  have gcL := PySem.W.mg_of X G aL
  have F_cI := fun_mk (st := s_Land___init__) l_cI c_cI k_cI
  have b_cI := F_cI.binds (ps := ["self", "cells", "neighbours", "roads"]) fun _ _ _ _ _ _ us hl => match us, hl with | [_, _, _, _], _ => rfl
  have M_LC : Mk K LC f_cI := ⟨mkLC, a_cI, i_cI, kcLC⟩
  have F_eq := fun_mk (st := s_Land___eq__) l_eq c_eq k_eq
  have b_eq := F_eq.binds (ps := ["self", "other"]) fun _ _ _ _ _ _ us hl => match us, hl with | [_, _], _ => rfl
  have F_cp := fun_mk (st := s_Land_couples) l_cp c_cp k_cp
  have b_cp := F_cp.binds (ps := ["self"]) fun _ _ _ _ _ _ us hl => match us, hl with | [_], _ => rfl
  have p_cp : PropOf K LC "couples" pr_cp f_cp := ⟨a_cp, gp_cp, tp_cp, _, rp_cp⟩
  have clsLC : Cls K LC := ⟨pgLC, hdLC, poLC, saLC⟩
  have gcLC := PySem.W.mg_of X G aLC
  have F_sI := fun_mk (st := s_State___init__) l_sI c_sI k_sI
  have b_sI := F_sI.binds (ps := ["self", "land", "hands", "standings"]) fun _ _ _ _ _ _ us hl => match us, hl with | [_, _, _, _], _ => rfl
  have M_SC : Mk K SC f_sI := ⟨mkSC, a_sI, i_sI, kcSC⟩
  have F_sQ := fun_mk (st := s_State___eq__) l_sQ c_sQ k_sQ
  have b_sQ := F_sQ.binds (ps := ["self", "other"]) fun _ _ _ _ _ _ us hl => match us, hl with | [_, _], _ => rfl
  have F_shd := fun_mk (st := s_State_hand) l_shd c_shd k_shd
  have b_shd := F_shd.binds (ps := ["self", "a"]) fun _ _ _ _ _ _ us hl => match us, hl with | [_, _], _ => rfl
  have m_shd : Meth K SC "hand" f_shd := ⟨a_shd, i_shd, k_shd⟩
  have F_std := fun_mk (st := s_State_standing) l_std c_std k_std
  have b_std := F_std.binds (ps := ["self", "a", "b"]) fun _ _ _ _ _ _ us hl => match us, hl with | [_, _, _], _ => rfl
  have m_std : Meth K SC "standing" f_std := ⟨a_std, i_std, k_std⟩
  have F_son := fun_mk (st := s_State_is_own) l_son c_son k_son
  have b_son := F_son.binds (ps := ["self", "a", "b"]) fun _ _ _ _ _ _ us hl => match us, hl with | [_, _, _], _ => rfl
  have m_son : Meth K SC "is_own" f_son := ⟨a_son, i_son, k_son⟩
  have F_spa := fun_mk (st := s_State_passes) l_spa c_spa k_spa
  have b_spa := F_spa.binds (ps := ["self", "a", "b"]) fun _ _ _ _ _ _ us hl => match us, hl with | [_, _, _], _ => rfl
  have m_spa : Meth K SC "passes" f_spa := ⟨a_spa, i_spa, k_spa⟩
  have F_soc := fun_mk (st := s_State_own_cells) l_soc c_soc k_soc
  have b_soc := F_soc.binds (ps := ["self", "a"]) fun _ _ _ _ _ _ us hl => match us, hl with | [_, _], _ => rfl
  have m_soc : Meth K SC "own_cells" f_soc := ⟨a_soc, i_soc, k_soc⟩
  have F_spg := fun_mk (st := s_State_passing) l_spg c_spg k_spg
  have b_spg := F_spg.binds (ps := ["self", "a"]) fun _ _ _ _ _ _ us hl => match us, hl with | [_, _], _ => rfl
  have m_spg : Meth K SC "passing" f_spg := ⟨a_spg, i_spg, k_spg⟩
  have F_sio := fun_mk (st := s_State_is_open) l_sio c_sio k_sio
  have b_sio := F_sio.binds (ps := ["self", "a"]) fun _ _ _ _ _ _ us hl => match us, hl with | [_, _], _ => rfl
  have m_sio : Meth K SC "is_open" f_sio := ⟨a_sio, i_sio, k_sio⟩
  have F_ssu := fun_mk (st := s_State_shut) l_ssu c_ssu k_ssu
  have b_ssu := F_ssu.binds (ps := ["self"]) fun _ _ _ _ _ _ us hl => match us, hl with | [_], _ => rfl
  have p_ssu : PropOf K SC "shut" pr_ssu f_ssu := ⟨a_ssu, gp_ssu, tp_ssu, _, rp_ssu⟩
  have F_slt := fun_mk (st := s_State_lots) l_slt c_slt k_slt
  have b_slt := F_slt.binds (ps := ["self"]) fun _ _ _ _ _ _ us hl => match us, hl with | [_], _ => rfl
  have p_slt : PropOf K SC "lots" pr_slt f_slt := ⟨a_slt, gp_slt, tp_slt, _, rp_slt⟩
  have clsSC : Cls K SC := ⟨pgSC, hdSC, poSC, saSC⟩
  have gcSC := PySem.W.mg_of X G aSC
  have F_iB := fun_mk (st := s_BadCell___init__) l_iB c_iB k_iB
  have b_iB := F_iB.binds (ps := ["self", "cell"]) fun _ _ _ _ _ _ us hl => match us, hl with | [_, _], _ => rfl
  have oxB : OexC K B := ⟨⟨_, _, _, _, _, _, _, _, _, _, _, _, _, _, _, xB, rB⟩, saB, exB, tyB, kpB⟩
  have gcB := PySem.W.mg_of X G aB
  have emB : PySem.W.exmOne K (.ref B) (.ref B) = some true := PySem.W.exm_ref exB hdB tyB ssB
  have g_M := PySem.W.mg_of X G a_M
  have g_MH := PySem.W.mg_of X G a_MH
  have g_ST := PySem.W.mg_of X G a_ST
  have g_RI := PySem.W.mg_of X G a_RI
  have m_isinstance := PySem.W.mg_none_of X G z_isinstance
  have m_int := PySem.W.mg_none_of X G z_int
  have m_bool := PySem.W.mg_none_of X G z_bool
  have m_str := PySem.W.mg_none_of X G z_str
  have m_tuple := PySem.W.mg_none_of X G z_tuple
  have m_list := PySem.W.mg_none_of X G z_list
  have m_enumerate := PySem.W.mg_none_of X G z_enumerate
  have m_len := PySem.W.mg_none_of X G z_len
  have m_abs := PySem.W.mg_none_of X G z_abs
  have m_range := PySem.W.mg_none_of X G z_range
  have m_min := PySem.W.mg_none_of X G z_min
  have m_max := PySem.W.mg_none_of X G z_max
  have m_sorted := PySem.W.mg_none_of X G z_sorted
  have m_set := PySem.W.mg_none_of X G z_set
  have m_all := PySem.W.mg_none_of X G z_all
  have m_any := PySem.W.mg_none_of X G z_any
  have self : ∀ c : Addr, PySem.W.kitOne K (.ref c) (.ref c) = some true := fun c => by simp [PySem.W.kitOne]
  have kcls : ∀ t : Value, ∀ c : Addr, PySem.W.isClsIn K c = true → PySem.W.typeIn K (.ref c) = some (.type "type") → PySem.W.kitCls K t (.ref c) = PySem.W.subIn K t (.ref c) := fun t c i y => by
    have e1 : ((PySem.W.clsIn K c).isSome && PySem.W.typeIn K (.ref c) == some (.type "type")) = true := by rw [show (PySem.W.clsIn K c).isSome = true from i, y] <;> rfl
    show (if ((PySem.W.clsIn K c).isSome && PySem.W.typeIn K (.ref c) == some (.type "type")) = true then PySem.W.subIn K t (.ref c) else none) = _
    rw [if_pos e1]
  have kT : ∀ t c : Addr, PySem.W.isClsIn K c = true → PySem.W.typeIn K (.ref c) = some (.type "type") → PySem.W.subIn K (.ref t) (.ref c) = some true → PySem.W.kitOne K (.ref t) (.ref c) = some true := fun t c i y s => by
    unfold PySem.W.kitOne
    rw [kcls _ c i y, s]
    split <;> rfl
  have kF : ∀ t c : Addr, PySem.W.isClsIn K c = true → PySem.W.typeIn K (.ref c) = some (.type "type") → PySem.W.subIn K (.ref t) (.ref c) = some false → PySem.W.subIn K (.ref t) (.ref t) = some true → PySem.W.kitOne K (.ref t) (.ref c) = some false := fun t c i y s ss => by
    have hn : ¬ ((Value.ref t == Value.ref c) = true) := fun e => by
      have e' : t = c := by simpa using e
      subst e'
      rw [ss] at s
      cases s
    unfold PySem.W.kitOne
    rw [if_neg hn, kcls _ c i y, s]
  have kTy : ∀ t : String, ∀ c : Addr, PySem.W.isClsIn K c = true → PySem.W.typeIn K (.ref c) = some (.type "type") → PySem.W.subIn K (.type t) (.ref c) = some false → PySem.W.kitOne K (.type t) (.ref c) = some false := fun t c i y s => by
    have e1 : ((PySem.W.clsIn K c).isSome && PySem.W.typeIn K (.ref c) == some (.type "type")) = true := by rw [show (PySem.W.clsIn K c).isSome = true from i, y] <;> rfl
    show (if ((PySem.W.clsIn K c).isSome && PySem.W.typeIn K (.ref c) == some (.type "type")) = true then PySem.W.subIn K (.type t) (.ref c) else none) = some false
    rw [if_pos e1]
    exact s
  have TL : Tl K mg ⟨LC, B, f_iB⟩ :=
    { gC := gcLC, cl := clsLC, gB := gcB, oxB := oxB, iCB := a_iB, tIB := t_iB, nB := noB, nA := fun f hf => by
        simp only [lfields, List.mem_cons, List.not_mem_nil, or_false] at hf
        rcases hf with rfl | rfl | rfl | rfl | rfl
        · exact n_LC_cells
        · exact n_LC_neighbours
        · exact n_LC_roads
        · exact n_LC_nearby
        · exact n_LC__couples }
  have T2 : Tk K LC f_eq := ⟨haLC, hnO, htO, hmLC, self LC, a_eq, i_eq, neLC⟩
  have nSC : ∀ f ∈ sfields, NoAttr K SC f := fun f hf => by
        simp only [sfields, List.mem_cons, List.not_mem_nil, or_false] at hf
        rcases hf with rfl | rfl | rfl
        · exact n_SC_land
        · exact n_SC_hands
        · exact n_SC_standings
  have T5 : T5s K mg ST RI t_MH :=
    { gST := g_ST, gRI := g_RI, gH := (by rw [show (10 : Int) ^ 30 = 1000000000000000000000000000000 from by decide]; exact g_MH), sST := fun _ => .inr ⟨_, o_ST, z_ST, l_ST, rfl, rfl, w_ST, v_ST⟩, sRI := fun _ => .inr ⟨_, o_RI, z_RI, l_RI, rfl, rfl, w_RI, v_RI⟩ }
  have TS : Ts K mg SC f_sQ :=
    { g := gcSC, cl := clsSC, nS := nSC, ha := haSC, hn := hnO, ht := htO, hm := hmSC, own := self SC, eq := a_sQ, eqF := i_sQ, ne := neSC, kT := kTy "tuple" SC icSC tySC sTSC, kI := kTy "int" SC icSC tySC sISC, nfT := nTSC, nfI := nISC }
  have T3 : Te K mg B L := ⟨gcL, ⟨hgB, hkB, exB, hdB, haB, hnO, htO, hmB⟩, ⟨hgB, hkB, exB, hdB⟩, emB, kT B L icL tL suB⟩
  refine ⟨PySem.W.fnOf "law" "law" (defArgs s_law) (defBody s_law) (defScope s_law) .none kV_la dc_la pm_la an_la cd_la ct_la, fun s u => .of_eq rfl, fun base _ _ => ?_⟩
  have G_mi := ok_mix (P := P) (w := w) (mg := mg) (base := base)  F_mi m_int
  have G_ha := ok_hand (P := P) (w := w) (mg := mg) (base := base)  F_ha m_int m_abs m_enumerate
  have G_dr := ok_draw (P := P) (w := w) (mg := mg) (base := base)  F_dr F_mi g_mi b_mi m_int m_len
  have G_pk := ok_pick (P := P) (w := w) (mg := mg) (base := base)  F_pk k_dr G_dr g_dr b_dr m_len
  have G_lo := ok_lots (P := P) (w := w) (mg := mg) (base := base)  F_lo m_range m_len m_list
  have G_ld := ok_land (P := P) (w := w) (mg := mg) (base := base)  F_ld G_dr g_dr k_dr b_dr G_pk g_pk k_pk b_pk G_lo g_lo k_lo b_lo m_range m_len m_list m_min m_max m_sorted
  have G_isw := ok_whole (P := P) (w := w) (mg := mg) (base := base)  F_isw m_isinstance m_int m_bool
  have G_sq := ok_seq (P := P) (w := w) (mg := mg) (base := base)  F_sq m_isinstance m_list m_tuple
  have G_ac := ok_cells (P := P) (w := w) (mg := mg) (base := base)  F_ac G_sq g_sq k_sq b_sq G_isw g_isw k_isw b_isw m_len m_set m_all
  have G_a2 := ok_two (P := P) (w := w) (mg := mg) (base := base)  F_a2 G_ac g_ac k_ac b_ac m_len
  have G_sp := ok_spread (P := P) (w := w) (mg := mg) (base := base)  F_sp m_len
  have G_ny := ok_near (P := P) (w := w) (mg := mg) (base := base)  F_ny m_range m_tuple
  have G_ht := ok_hang (P := P) (w := w) (mg := mg) (base := base)  F_ht G_ny g_ny k_ny b_ny G_sp g_sp k_sp b_sp m_len m_list m_range
  have G_nb := ok_nbrs (P := P) (w := w) (mg := mg) (base := base)  F_nb G_sq g_sq k_sq b_sq G_a2 g_a2 k_a2 b_a2 m_len m_all m_tuple m_sorted
  have G_ic := ok_iscell (P := P) (w := w) (mg := mg) (base := base)  TL F_ic G_isw g_isw k_isw b_isw
  have G_ck := ok_check (P := P) (w := w) (mg := mg) (base := base)  TL F_ck G_ic g_ic k_ic b_ic F_iB b_iB
  have G_cI := ok_landI (P := P) (w := w) (mg := mg) (base := base)  TL g_M F_cI G_isw g_isw k_isw b_isw G_nb g_nb k_nb b_nb G_ac g_ac k_ac b_ac G_ht g_ht k_ht b_ht G_ny g_ny k_ny b_ny m_len m_sorted m_tuple m_range
  have G_cp := ok_couples (P := P) (w := w) (mg := mg) (base := base)  TL F_cp
  have G_eq := ok_eqL (P := P) (w := w) (mg := mg) (base := base)  TL T2 F_eq m_isinstance
  have G_ah := ok_areh (P := P) (w := w) (mg := mg) (base := base)  TL T5 F_ah G_sq g_sq k_sq b_sq G_isw g_isw k_isw b_isw m_len m_all
  have G_ir := ok_isrow (P := P) (w := w) (mg := mg) (base := base)  TL T5 F_ir G_sq g_sq k_sq b_sq m_len m_all
  have G_as_ := ok_ares (P := P) (w := w) (mg := mg) (base := base)  TL F_as_ G_sq g_sq k_sq b_sq G_ir g_ir k_ir b_ir m_len m_all m_enumerate
  have G_cpl := ok_chp (P := P) (w := w) (mg := mg) (base := base)  TL F_cpl p_cp G_cp b_cp
  have G_sI := ok_sti (P := P) (w := w) (mg := mg) (base := base) (S := SC) TL T2 clsSC nSC F_sI G_ah g_ah k_ah b_ah G_as_ g_as_ k_as_ b_as_ G_cpl g_cpl k_cpl b_cpl m_isinstance m_tuple
  have G_shd := ok_shand (P := P) (w := w) (mg := mg) (base := base) (S := SC) G_ck g_ck k_ck clsSC nSC F_shd
  have G_std := ok_sstand (P := P) (w := w) (mg := mg) (base := base) (S := SC) G_ck g_ck k_ck clsSC nSC F_std
  have G_son := ok_sown (P := P) (w := w) (mg := mg) (base := base) (S := SC) G_ck g_ck k_ck clsSC nSC F_son
  have G_spa := ok_spass (P := P) (w := w) (mg := mg) (base := base) (a := ⟨LC, B, f_iB⟩) (S := SC) T5 clsSC nSC F_spa m_son G_son b_son
  have G_pcl := ok_passd (P := P) (w := w) (mg := mg) (base := base)  T5 F_pcl m_tuple m_enumerate
  have G_op := ok_opens (P := P) (w := w) (mg := mg) (base := base)  TL F_op G_sp g_sp k_sp b_sp m_any
  have G_spg := ok_spassing (P := P) (w := w) (mg := mg) (base := base) (S := SC) G_ck g_ck k_ck clsSC nSC F_spg G_pcl g_pcl k_pcl b_pcl
  have G_soc := ok_sownc (P := P) (w := w) (mg := mg) (base := base) (S := SC) G_ck g_ck k_ck clsSC nSC F_soc m_tuple m_enumerate
  have G_sio := ok_sopen (P := P) (w := w) (mg := mg) (base := base) (a := ⟨LC, B, f_iB⟩) (S := SC) clsSC nSC F_sio m_spg G_spg b_spg G_op g_op k_op b_op
  have G_ssu := ok_sshut (P := P) (w := w) (mg := mg) (base := base) (S := SC) TL clsSC nSC F_ssu m_sio G_sio b_sio m_tuple m_range
  have G_sst := ok_start (P := P) (w := w) (mg := mg) (base := base) (S := SC) TL T2 F_sst (by assumption) M_SC G_sI b_sI m_isinstance
  have G_slt := ok_slots (P := P) (w := w) (mg := mg) (base := base) (a := ⟨LC, B, f_iB⟩) (S := SC) clsSC nSC F_slt m_tuple m_enumerate
  have G_sQ := ok_eqS (P := P) (w := w) (mg := mg) (base := base) (S := SC) (fLe := LC) TL TS T2 F_sQ m_isinstance G_eq b_eq p_slt G_slt b_slt
  have G_fa := ok_far (P := P) (w := w) (mg := mg) (base := base)  F_fa G_dr g_dr k_dr b_dr
  have G_tb := ok_table (P := P) (w := w) (mg := mg) (base := base)  F_tb G_pk g_pk k_pk b_pk m_range m_len
  have G_an := ok_anys (P := P) (w := w) (mg := mg) (base := base)  F_an G_fa g_fa k_fa b_fa G_pk g_pk k_pk b_pk G_tb g_tb k_tb b_tb G_dr g_dr k_dr b_dr m_range
  have G_lc := ok_comes (P := P) (w := w) (mg := mg) (base := base)  F_lc m_range m_len
  have G_lop := ok_lopen (P := P) (w := w) (mg := mg) (base := base)  F_lop G_lc g_lc k_lc b_lc m_len
  have G_lis := ok_is (P := P) (w := w) (mg := mg) (base := base) F_lis g_lis k_lis b_lis m_isinstance m_tuple m_len m_str m_bool m_int m_range 3
  have G_low := ok_lown (P := P) (w := w) (mg := mg) (base := base)  F_low m_range m_len
  have G_lps := ok_lpass (P := P) (w := w) (mg := mg) (base := base)  F_lps m_range m_len
  have G_lsh := ok_lshut (P := P) (w := w) (mg := mg) (base := base)  F_lsh m_range G_lop g_lop k_lop b_lop G_lps g_lps k_lps b_lps
  have G_lrw := ok_lrows (P := P) (w := w) (mg := mg) (base := base)  F_lrw m_tuple
  have G_lpt := ok_lparts (P := P) (w := w) (mg := mg) (base := base)  F_lpt m_range m_len m_tuple
  have G_lst := ok_lstart (P := P) (w := w) (mg := mg) (base := base)  F_lst m_range
  have G_lof := ok_lof (P := P) (w := w) (mg := mg) (base := base)  TL F_lof M_LC G_cI b_cI
  have G_sof := ok_sof (P := P) (w := w) (mg := mg) (base := base) (S := SC) TL F_sof (by assumption) G_lof g_lof k_lof b_lof M_SC G_sI b_sI m_list
  have G_sm := ok_lsame (P := P) (w := w) (mg := mg) (base := base)  TL T2 TS F_sm G_lof g_lof k_lof b_lof G_eq b_eq G_lis g_lis k_lis b_lis G_lrw g_lrw k_lrw b_lrw m_isinstance m_tuple
  have G_cr := ok_cellr (P := P) (w := w) (mg := mg) (base := base) (a := ⟨LC, B, f_iB⟩) (S := SC) m_shd G_shd b_shd m_std G_std b_std m_son G_son b_son m_spa G_spa b_spa m_spg G_spg b_spg m_soc G_soc b_soc m_sio G_sio b_sio TS F_cr G_lps g_lps k_lps b_lps G_low g_low k_low b_low G_lop g_lop k_lop b_lop G_lis g_lis k_lis b_lis m_tuple m_range
  have G_sr := ok_stater (P := P) (w := w) (mg := mg) (base := base) (a := ⟨LC, B, f_iB⟩) (S := SC) TS F_sr G_sm g_sm k_sm b_sm G_cr g_cr k_cr b_cr G_lsh g_lsh k_lsh b_lsh G_lpt g_lpt k_lpt b_lpt G_lis g_lis k_lis b_lis p_ssu G_ssu b_ssu p_slt G_slt b_slt m_tuple m_range
  have G_wo := ok_words (P := P) (w := w) (mg := mg) (base := base) (a := ⟨LC, B, f_iB⟩) (S := SC) m_shd G_shd b_shd m_std G_std b_std m_son G_son b_son m_spa G_spa b_spa m_spg G_spg b_spg m_soc G_soc b_soc m_sio G_sio b_sio TL TS T3 F_wo m_range m_isinstance
  have G_tw := ok_twin (P := P) (w := w) (mg := mg) (base := base)  F_tw G_dr g_dr k_dr b_dr
  have G_tu := ok_turn (P := P) (w := w) (mg := mg) (base := base)  F_tu G_dr g_dr k_dr b_dr G_pk g_pk k_pk b_pk m_len m_int m_list
  have G_er := ok_eqr (P := P) (w := w) (mg := mg) (base := base) (a := ⟨LC, B, f_iB⟩) (S := SC) TS F_er G_tw g_tw k_tw b_tw G_tu g_tu k_tu b_tu G_sof g_sof k_sof b_sof G_pk g_pk k_pk b_pk G_lo g_lo k_lo b_lo G_an g_an k_an b_an G_lpt g_lpt k_lpt b_lpt G_sQ b_sQ m_list m_range m_len
  have G_sz := ok_size (P := P) (w := w) (mg := mg) (base := base)  F_sz G_pk g_pk k_pk b_pk
  have G_rr := ok_refr (P := P) (w := w) (mg := mg) (base := base) (a := ⟨LC, B, f_iB⟩) (S := SC) F_rr G_pk g_pk k_pk b_pk G_dr g_dr k_dr b_dr G_wo g_wo k_wo b_wo
  exact ok_law TS F_la G_ha g_ha k_ha b_ha G_ld g_ld k_ld b_ld G_sz g_sz k_sz b_sz G_an g_an k_an b_an G_dr g_dr k_dr b_dr G_lof g_lof k_lof b_lof G_lrw g_lrw k_lrw b_lrw G_sr g_sr k_sr b_sr G_er g_er k_er b_er G_sm g_sm k_sm b_sm G_lst g_lst k_lst b_lst G_sst g_sst k_sst b_sst G_rr g_rr k_rr b_rr M_SC G_sI b_sI m_list m_tuple
end K7
end
open PySem PySem.W PyProof.Rows
set_option maxHeartbeats 0 in
theorem PySem.Challenge.cw_landways_k10_whole_states_and_what_they_holds : PySem.Challenge.rw_landways_k10_whole_states_and_what_they.Holds := by
  w_on; o_law; k_head; (case hw => w_witness2)
  k_fill
  refine L2.walk_ofB (l := PySem.Challenge.rw_landways_k10_whole_states_and_what_they) (n := 63) (k := 10) (x := "_law_script") (CX := fun _ => L2.CX0) (sp := fun w => K7.spLaw _) rfl (by decide) rfl ⟨rfl, by decide, by decide⟩ (fun w h Y => PySem.W.kIn_of Y) ?F (fun _ _ a ns hl _ _ hS => ⟨a, ns, rfl, hS, hl, fun _ => rfl⟩) (fun _ _ _ _ _ h => h)
  case F =>
    intro w mg fa h KX G hmg
    refine' K7.all_mk KX G hmg ?a_sq ?l_sq ?c_sq ?k_sq ?a_isw ?l_isw ?c_isw ?k_isw ?a_ac ?l_ac ?c_ac ?k_ac ?a_a2 ?l_a2 ?c_a2 ?k_a2 ?a_ic ?l_ic ?c_ic ?k_ic ?a_ck ?l_ck ?c_ck ?k_ck ?a_sp ?l_sp ?c_sp ?k_sp ?a_ny ?l_ny ?c_ny ?k_ny ?a_ht ?l_ht ?c_ht ?k_ht ?a_nb ?l_nb ?c_nb ?k_nb ?a_op ?l_op ?c_op ?k_op ?a_pcl ?l_pcl ?c_pcl ?k_pcl ?a_ah ?l_ah ?c_ah ?k_ah ?a_ir ?l_ir ?c_ir ?k_ir ?a_as_ ?l_as_ ?c_as_ ?k_as_ ?a_cpl ?l_cpl ?c_cpl ?k_cpl ?a_sst ?l_sst ?c_sst ?k_sst ?a_mi ?l_mi ?c_mi ?k_mi ?a_ha ?l_ha ?c_ha ?k_ha ?a_dr ?l_dr ?c_dr ?k_dr ?a_pk ?l_pk ?c_pk ?k_pk ?a_lo ?l_lo ?c_lo ?k_lo ?a_ld ?l_ld ?c_ld ?k_ld ?a_sz ?l_sz ?c_sz ?k_sz ?a_lc ?l_lc ?c_lc ?k_lc ?a_lop ?l_lop ?c_lop ?k_lop ?a_lst ?l_lst ?c_lst ?k_lst ?a_low ?l_low ?c_low ?k_low ?a_lps ?l_lps ?c_lps ?k_lps ?a_lsh ?l_lsh ?c_lsh ?k_lsh ?a_fa ?l_fa ?c_fa ?k_fa ?a_tb ?l_tb ?c_tb ?k_tb ?a_an ?l_an ?c_an ?k_an ?a_lof ?l_lof ?c_lof ?k_lof ?a_sof ?l_sof ?c_sof ?k_sof ?a_lrw ?l_lrw ?c_lrw ?k_lrw ?a_lis ?l_lis ?c_lis ?k_lis ?a_lpt ?l_lpt ?c_lpt ?k_lpt ?a_sm ?l_sm ?c_sm ?k_sm ?a_wo ?l_wo ?c_wo ?k_wo ?a_cr ?l_cr ?c_cr ?k_cr ?a_sr ?l_sr ?c_sr ?k_sr ?a_tw ?l_tw ?c_tw ?k_tw ?a_tu ?l_tu ?c_tu ?k_tu ?a_er ?l_er ?c_er ?k_er ?a_rr ?l_rr ?c_rr ?k_rr ?a_la ?l_la ?c_la ?k_la ?aL ?eL ?dL ?tL ?icL ?hnO ?htO ?aLC ?pgLC ?hdLC ?poLC ?saLC ?mkLC ?kcLC ?haLC ?hmLC ?neLC ?n_LC_cells ?n_LC_neighbours ?n_LC_roads ?n_LC_nearby ?n_LC__couples ?a_cI ?i_cI ?l_cI ?c_cI ?k_cI ?a_eq ?i_eq ?l_eq ?c_eq ?k_eq ?a_cp ?gp_cp ?tp_cp ?rp_cp ?l_cp ?c_cp ?k_cp ?aSC ?pgSC ?hdSC ?poSC ?saSC ?mkSC ?kcSC ?haSC ?hmSC ?neSC ?icSC ?tySC ?sTSC ?sISC ?nTSC ?nISC ?n_SC_land ?n_SC_hands ?n_SC_standings ?a_sI ?i_sI ?l_sI ?c_sI ?k_sI ?a_sQ ?i_sQ ?l_sQ ?c_sQ ?k_sQ ?a_shd ?i_shd ?l_shd ?c_shd ?k_shd ?a_std ?i_std ?l_std ?c_std ?k_std ?a_son ?i_son ?l_son ?c_son ?k_son ?a_spa ?i_spa ?l_spa ?c_spa ?k_spa ?a_soc ?i_soc ?l_soc ?c_soc ?k_soc ?a_spg ?i_spg ?l_spg ?c_spg ?k_spg ?a_sio ?i_sio ?l_sio ?c_sio ?k_sio ?a_ssu ?gp_ssu ?tp_ssu ?rp_ssu ?l_ssu ?c_ssu ?k_ssu ?a_slt ?gp_slt ?tp_slt ?rp_slt ?l_slt ?c_slt ?k_slt ?aB ?xB ?rB ?saB ?exB ?tyB ?kpB ?hgB ?hkB ?hdB ?haB ?hmB ?icB ?ssB ?suB ?noB ?a_iB ?t_iB ?l_iB ?c_iB ?k_iB ?a_M ?a_MH ?a_ST ?l_ST ?v_ST ?w_ST ?a_RI ?l_RI ?v_RI ?w_RI ?z_isinstance ?z_int ?z_bool ?z_str ?z_tuple ?z_list ?z_enumerate ?z_len ?z_abs ?z_range ?z_min ?z_max ?z_sorted ?z_set ?z_all ?z_any
    (case a_sq => k_is)
    (case l_sq => k_is)
    (case c_sq => k_is)
    (case k_sq => k_is)
    (case a_isw => k_is)
    (case l_isw => k_is)
    (case c_isw => k_is)
    (case k_isw => k_is)
    (case a_ac => k_is)
    (case l_ac => k_is)
    (case c_ac => k_is)
    (case k_ac => k_is)
    (case a_a2 => k_is)
    (case l_a2 => k_is)
    (case c_a2 => k_is)
    (case k_a2 => k_is)
    (case a_ic => k_is)
    (case l_ic => k_is)
    (case c_ic => k_is)
    (case k_ic => k_is)
    (case a_ck => k_is)
    (case l_ck => k_is)
    (case c_ck => k_is)
    (case k_ck => k_is)
    (case a_sp => k_is)
    (case l_sp => k_is)
    (case c_sp => k_is)
    (case k_sp => k_is)
    (case a_ny => k_is)
    (case l_ny => k_is)
    (case c_ny => k_is)
    (case k_ny => k_is)
    (case a_ht => k_is)
    (case l_ht => k_is)
    (case c_ht => k_is)
    (case k_ht => k_is)
    (case a_nb => k_is)
    (case l_nb => k_is)
    (case c_nb => k_is)
    (case k_nb => k_is)
    (case a_op => k_is)
    (case l_op => k_is)
    (case c_op => k_is)
    (case k_op => k_is)
    (case a_pcl => k_is)
    (case l_pcl => k_is)
    (case c_pcl => k_is)
    (case k_pcl => k_is)
    (case a_ah => k_is)
    (case l_ah => k_is)
    (case c_ah => k_is)
    (case k_ah => k_is)
    (case a_ir => k_is)
    (case l_ir => k_is)
    (case c_ir => k_is)
    (case k_ir => k_is)
    (case a_as_ => k_is)
    (case l_as_ => k_is)
    (case c_as_ => k_is)
    (case k_as_ => k_is)
    (case a_cpl => k_is)
    (case l_cpl => k_is)
    (case c_cpl => k_is)
    (case k_cpl => k_is)
    (case a_sst => k_is)
    (case l_sst => k_is)
    (case c_sst => k_is)
    (case k_sst => k_is)
    (case a_mi => k_is)
    (case l_mi => k_is)
    (case c_mi => k_is)
    (case k_mi => k_is)
    (case a_ha => k_is)
    (case l_ha => k_is)
    (case c_ha => k_is)
    (case k_ha => k_is)
    (case a_dr => k_is)
    (case l_dr => k_is)
    (case c_dr => k_is)
    (case k_dr => k_is)
    (case a_pk => k_is)
    (case l_pk => k_is)
    (case c_pk => k_is)
    (case k_pk => k_is)
    (case a_lo => k_is)
    (case l_lo => k_is)
    (case c_lo => k_is)
    (case k_lo => k_is)
    (case a_ld => k_is)
    (case l_ld => k_is)
    (case c_ld => k_is)
    (case k_ld => k_is)
    (case a_sz => k_is)
    (case l_sz => k_is)
    (case c_sz => k_is)
    (case k_sz => k_is)
    (case a_lc => k_is)
    (case l_lc => k_is)
    (case c_lc => k_is)
    (case k_lc => k_is)
    (case a_lop => k_is)
    (case l_lop => k_is)
    (case c_lop => k_is)
    (case k_lop => k_is)
    (case a_lst => k_is)
    (case l_lst => k_is)
    (case c_lst => k_is)
    (case k_lst => k_is)
    (case a_low => k_is)
    (case l_low => k_is)
    (case c_low => k_is)
    (case k_low => k_is)
    (case a_lps => k_is)
    (case l_lps => k_is)
    (case c_lps => k_is)
    (case k_lps => k_is)
    (case a_lsh => k_is)
    (case l_lsh => k_is)
    (case c_lsh => k_is)
    (case k_lsh => k_is)
    (case a_fa => k_is)
    (case l_fa => k_is)
    (case c_fa => k_is)
    (case k_fa => k_is)
    (case a_tb => k_is)
    (case l_tb => k_is)
    (case c_tb => k_is)
    (case k_tb => k_is)
    (case a_an => k_is)
    (case l_an => k_is)
    (case c_an => k_is)
    (case k_an => k_is)
    (case a_lof => k_is)
    (case l_lof => k_is)
    (case c_lof => k_is)
    (case k_lof => k_is)
    (case a_sof => k_is)
    (case l_sof => k_is)
    (case c_sof => k_is)
    (case k_sof => k_is)
    (case a_lrw => k_is)
    (case l_lrw => k_is)
    (case c_lrw => k_is)
    (case k_lrw => k_is)
    (case a_lis => k_is)
    (case l_lis => k_is)
    (case c_lis => k_is)
    (case k_lis => k_is)
    (case a_lpt => k_is)
    (case l_lpt => k_is)
    (case c_lpt => k_is)
    (case k_lpt => k_is)
    (case a_sm => k_is)
    (case l_sm => k_is)
    (case c_sm => k_is)
    (case k_sm => k_is)
    (case a_wo => k_is)
    (case l_wo => k_is)
    (case c_wo => k_is)
    (case k_wo => k_is)
    (case a_cr => k_is)
    (case l_cr => k_is)
    (case c_cr => k_is)
    (case k_cr => k_is)
    (case a_sr => k_is)
    (case l_sr => k_is)
    (case c_sr => k_is)
    (case k_sr => k_is)
    (case a_tw => k_is)
    (case l_tw => k_is)
    (case c_tw => k_is)
    (case k_tw => k_is)
    (case a_tu => k_is)
    (case l_tu => k_is)
    (case c_tu => k_is)
    (case k_tu => k_is)
    (case a_er => k_is)
    (case l_er => k_is)
    (case c_er => k_is)
    (case k_er => k_is)
    (case a_rr => k_is)
    (case l_rr => k_is)
    (case c_rr => k_is)
    (case k_rr => k_is)
    (case a_la => k_is)
    (case l_la => k_is)
    (case c_la => k_is)
    (case k_la => k_is)
    (case aL => k_is)
    (case eL => k_is)
    (case dL => k_is)
    (case tL => k_is)
    (case icL => k_is)
    (case hnO => k_is)
    (case htO => k_is)
    (case aLC => k_is)
    (case pgLC => k_is)
    (case hdLC => k_is)
    (case poLC => k_is)
    (case saLC => k_is)
    (case mkLC => k_is)
    (case kcLC => k_is)
    (case haLC => k_is)
    (case hmLC => k_is)
    (case neLC => k_is)
    (case n_LC_cells => k_is)
    (case n_LC_neighbours => k_is)
    (case n_LC_roads => k_is)
    (case n_LC_nearby => k_is)
    (case n_LC__couples => k_is)
    (case a_cI => k_is)
    (case i_cI => k_is)
    (case l_cI => k_is)
    (case c_cI => k_is)
    (case k_cI => k_is)
    (case a_eq => k_is)
    (case i_eq => k_is)
    (case l_eq => k_is)
    (case c_eq => k_is)
    (case k_eq => k_is)
    (case a_cp => k_is)
    (case gp_cp => k_is)
    (case tp_cp => k_is)
    (case rp_cp => k_is)
    (case l_cp => k_is)
    (case c_cp => k_is)
    (case k_cp => k_is)
    (case aSC => k_is)
    (case pgSC => k_is)
    (case hdSC => k_is)
    (case poSC => k_is)
    (case saSC => k_is)
    (case mkSC => k_is)
    (case kcSC => k_is)
    (case haSC => k_is)
    (case hmSC => k_is)
    (case neSC => k_is)
    (case icSC => k_is)
    (case tySC => k_is)
    (case sTSC => k_is)
    (case sISC => k_is)
    (case nTSC => k_is)
    (case nISC => k_is)
    (case n_SC_land => k_is)
    (case n_SC_hands => k_is)
    (case n_SC_standings => k_is)
    (case a_sI => k_is)
    (case i_sI => k_is)
    (case l_sI => k_is)
    (case c_sI => k_is)
    (case k_sI => k_is)
    (case a_sQ => k_is)
    (case i_sQ => k_is)
    (case l_sQ => k_is)
    (case c_sQ => k_is)
    (case k_sQ => k_is)
    (case a_shd => k_is)
    (case i_shd => k_is)
    (case l_shd => k_is)
    (case c_shd => k_is)
    (case k_shd => k_is)
    (case a_std => k_is)
    (case i_std => k_is)
    (case l_std => k_is)
    (case c_std => k_is)
    (case k_std => k_is)
    (case a_son => k_is)
    (case i_son => k_is)
    (case l_son => k_is)
    (case c_son => k_is)
    (case k_son => k_is)
    (case a_spa => k_is)
    (case i_spa => k_is)
    (case l_spa => k_is)
    (case c_spa => k_is)
    (case k_spa => k_is)
    (case a_soc => k_is)
    (case i_soc => k_is)
    (case l_soc => k_is)
    (case c_soc => k_is)
    (case k_soc => k_is)
    (case a_spg => k_is)
    (case i_spg => k_is)
    (case l_spg => k_is)
    (case c_spg => k_is)
    (case k_spg => k_is)
    (case a_sio => k_is)
    (case i_sio => k_is)
    (case l_sio => k_is)
    (case c_sio => k_is)
    (case k_sio => k_is)
    (case a_ssu => k_is)
    (case gp_ssu => k_is)
    (case tp_ssu => k_is)
    (case rp_ssu => k_is)
    (case l_ssu => k_is)
    (case c_ssu => k_is)
    (case k_ssu => k_is)
    (case a_slt => k_is)
    (case gp_slt => k_is)
    (case tp_slt => k_is)
    (case rp_slt => k_is)
    (case l_slt => k_is)
    (case c_slt => k_is)
    (case k_slt => k_is)
    (case aB => k_is)
    (case xB => k_is)
    (case rB => decide +kernel)
    (case saB => k_is)
    (case exB => k_is)
    (case tyB => k_is)
    (case kpB => k_is)
    (case hgB => k_is)
    (case hkB => k_is)
    (case hdB => k_is)
    (case haB => k_is)
    (case hmB => k_is)
    (case icB => k_is)
    (case ssB => k_is)
    (case suB => k_is)
    (case noB => k_is)
    (case a_iB => k_is)
    (case t_iB => k_is)
    (case l_iB => k_is)
    (case c_iB => k_is)
    (case k_iB => k_is)
    (case a_M => k_is)
    (case a_MH => k_is)
    (case a_ST => k_is)
    (case l_ST => k_is)
    (case v_ST => exact (.cons ⟨_, rfl⟩ (.cons ⟨_, rfl⟩ (.cons ⟨_, rfl⟩ (.cons ⟨_, rfl⟩ .nil)))))
    (case w_ST => decide)
    (case a_RI => k_is)
    (case l_RI => k_is)
    (case v_RI => exact (.cons ⟨_, rfl⟩ (.cons ⟨_, rfl⟩ .nil)))
    (case w_RI => decide)
    (case z_isinstance => k_is)
    (case z_int => k_is)
    (case z_bool => k_is)
    (case z_str => k_is)
    (case z_tuple => k_is)
    (case z_list => k_is)
    (case z_enumerate => k_is)
    (case z_len => k_is)
    (case z_abs => k_is)
    (case z_range => k_is)
    (case z_min => k_is)
    (case z_max => k_is)
    (case z_sorted => k_is)
    (case z_set => k_is)
    (case z_all => k_is)
    (case z_any => k_is)

